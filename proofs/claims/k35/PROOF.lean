import PyProof.Rows.All
import Wide.All
import OpenK.AllK
import Wide.FinOn
import Lean
import PyProof.EqAt
import PyProof.EqKinds
import PyProof.TupleCall
import PyProof.EnumMake
import PyProof.Draws
import PyProof.InstStoreFacts
import PyProof.ExcArgs
import PyProof.ExcBaseAll.ValueError
import KE.KDictLaws
import OpenK.KOwn
import PyProof.ListRange
import PyProof.AttrMissHeap
import PyProof.MinMaxWalk
import PyProof.WalksMore
import PyProof.NeKinds
import KE.KDictList
import KE.KDictSum
import KE.KEqDict
import PySem.Challenge.RW_spoolhall_k35_run_refuses
set_option Elab.async false
set_option linter.all false
set_option compiler.extract_closed false
set_option maxRecDepth 100000
local macro_rules | `(tactic| exists $es,*) => `(tactic| refine ⟨$es,*, ?_⟩)
namespace L2
open PySem PySem.Spec PyProof.Rows
abbrev Key:=Sum Int Str
def jGA:Key->Value->Bool
 | .inl k,v=>Value.isInt k v
 | .inr x,v=>Value.isStrOf x v
def keyH(w:World):Key->Int
 | .inl k=>hashInt k
 | .inr x=>hashStr w x
theorem jBq:∀ {k:Key} {v:Value},jGA k v=true->(∃ i t,k=Sum.inl i/\v=Value.int i t)\/(∃ x t,k=Sum.inr x/\v=Value.str x t)
 | .inl i,v,h=>by
   obtain⟨t,e⟩:=Value.isInt_shape (k:=i) (v:=v) h
   exact .inl ⟨i,t,rfl,e⟩
 | .inr x,v,h=>by
   obtain⟨t,e⟩:=Value.isStrOf_shape (x:=x) (v:=v) h
   exact .inr ⟨x,t,rfl,e⟩
theorem jM6(i:Int)(t:Tok):jGA (.inl i) (.int i t)=true:=by simp [jGA,Value.isInt]
theorem jM7(x:Str)(t:Tok):jGA (.inr x) (.str x t)=true:=by simp [jGA,Value.isStrOf]
theorem key_ll(a b:Int):decide ((Sum.inl a:Key)=Sum.inl b)=(a==b):=by
 by_cases e:a=b
 ·subst e;simp
 ·have h:¬ (Sum.inl a:Key)=Sum.inl b:=fun q=>e (Sum.inl.inj q)
  rw [decide_eq_false h]
  exact (beq_eq_false_iff_ne.mpr e).symm
theorem key_rr(a b:Str):decide ((Sum.inr a:Key)=Sum.inr b)=decide (a=b):=by
 by_cases e:a=b
 ·subst e;simp
 ·have h:¬ (Sum.inr a:Key)=Sum.inr b:=fun q=>e (Sum.inr.inj q)
  rw [decide_eq_false h,decide_eq_false e]
theorem key_lr(a:Int)(b:Str):decide ((Sum.inl a:Key)=Sum.inr b)=false:=decide_eq_false (fun q=>nomatch q)
theorem key_rl(a:Str)(b:Int):decide ((Sum.inr a:Key)=Sum.inl b)=false:=decide_eq_false (fun q=>nomatch q)
def jA4(prog:Program)(w:World):PySem.KeyKind prog w Key where
 is:=jGA
 hash:=keyH w
 inj:=fun v a b ha hb=>by
  rcases jBq ha with⟨i,t,rfl,rfl⟩|⟨x,t,rfl,rfl⟩
  ·rcases jBq hb with⟨j,u,rfl,e⟩|⟨y,u,rfl,e⟩
   ·injection e with e1 _;rw [e1]
   ·exact nomatch e
  ·rcases jBq hb with⟨j,u,rfl,e⟩|⟨y,u,rfl,e⟩
   ·exact nomatch e
   ·injection e with e1 _;rw [e1]
 byValue:=fun k v h=>by
  rcases jBq h with⟨i,t,rfl,rfl⟩|⟨x,t,rfl,rfl⟩<;>rfl
 pyHash:=fun hv h=>by
  rcases jBq hv with⟨i,t,rfl,rfl⟩|⟨x,t,rfl,rfl⟩
  ·exact wpAny_pyHash_int h
  ·exact wpAny_pyHash_str h
 eqBool:=fun hu hv h=>by
  rcases jBq hu with⟨i,t,rfl,rfl⟩|⟨x,t,rfl,rfl⟩
  ·rcases jBq hv with⟨j,u,rfl,rfl⟩|⟨y,u,rfl,rfl⟩
   ·rw [key_ll] at h;exact wpAny_eqBool_int h
   ·rw [key_lr] at h;exact SeqAt.EqAt.int_str i t y u _ _ _ _ h
  ·rcases jBq hv with⟨j,u,rfl,rfl⟩|⟨y,u,rfl,rfl⟩
   ·rw [key_rl] at h;exact SeqAt.EqAt.str_int x t j u _ _ _ _ h
   ·rw [key_rr] at h;exact wpAny_eqBool_str h
 «strs»:=fun k x t v h=>by
  rcases jBq h with⟨i,u,rfl,e⟩|⟨y,u,rfl,e⟩
  ·exact nomatch e
  ·injection e with e1 _
   subst e1
   cases v<;>rfl
theorem jLY(prog:Program)(w:World)(i:Int)(t:Tok):(jA4 prog w).is (.inl i) (.int i t)=true:=jM6 i t
theorem jLZ(prog:Program)(w:World)(x:Str)(t:Tok):(jA4 prog w).is (.inr x) (.str x t)=true:=jM7 x t
inductive V where
 | non|bl (b:Bool)|int (i:Int)|str (x:Str)|byt (b:Array UInt8)|flt (b:UInt64)|ref (a:Addr)|ty (n:String)
 deriving DecidableEq
def jAA:V->Value->Prop
 | .non,u=>u=Value.none
 | .bl b,u=>u=Value.bool b
 | .int i,u=>∃ t,u=Value.int i t
 | .str x,u=>∃ t,u=Value.str x t
 | .byt b,u=>∃ t,u=Value.bytes b t
 | .flt b,u=>∃ t,u=Value.float b t
 | .ref a,u=>u=Value.ref a
 | .ty n,u=>u=Value.type n
abbrev jAH:List V->List Value->Prop:=Paired jAA
theorem jAH.length{xs:List V}{us:List Value}(r:jAH xs us):xs.length=us.length:=Paired.length r
theorem jAH.get:∀ {xs:List V} {us:List Value} {i:Nat} {x:V},jAH xs us->xs[i]?=some x->∃ u,us[i]?=some u/\jAA x u
 | _,_,_,_,.nil,e=>by simp at e
 | _,_,0,_,.cons r _,e=>by simp at e;subst e;exact⟨_,rfl,r⟩
 | _,_,i+1,x,.cons _ t,e=>by
   obtain⟨u,h1,h2⟩:=jAH.get (i:=i) (x:=x) t (by simpa using e)
   exact⟨u,by simpa using h1,h2⟩
theorem jAH.append:∀ {xs ys:List V} {us ws:List Value},jAH xs us->jAH ys ws->jAH (xs++ys) (us++ws)
 | _,_,_,_,.nil,s=>s
 | _,_,_,_,.cons r t,s=>.cons r (jAH.append t s)
theorem jAH.take:∀ {xs:List V} {us:List Value} (n:Nat),jAH xs us->jAH (xs.take n) (us.take n)
 | _,_,0,_=>.nil
 | _,_,_+1,.nil=>.nil
 | _,_,n+1,.cons r t=>.cons r (jAH.take n t)
theorem jAH.drop:∀ {xs:List V} {us:List Value} (n:Nat),jAH xs us->jAH (xs.drop n) (us.drop n)
 | _,_,0,r=>r
 | _,_,_+1,.nil=>.nil
 | _,_,n+1,.cons _ t=>jAH.drop n t
def jBY:Option V->Option Value->Prop
 | some v,some u=>jAA v u
 | none,none=>True
 | _,_=>False
def KV{κ:Type}:List (κ×V)->List (κ×Value)->Prop:=Paired fun (p:κ×V) (q:κ×Value)=>p.1=q.1/\jAA p.2 q.2
def kV:Key->V
 | .inl i=>.int i
 | .inr x=>.str x
inductive HO where
 | lst (xs:List V)
 | tup (xs:List V)
 | dK (kvs:List (Key×V))|dT (kvs:List (List Key×V))
 | set (S:Int->Bool) (n:Nat)
 | ins (C dx:Addr) (fs:List (Str×V))
 | own (x:Addr)
 | xd (fs:List (Str×V))
 | met (f x:Addr)
 | rng (lo hi:Int)
 | frz (o:Obj) (u:HO)
 | tbl (ps:Array Value)
 | ext (φ:Heap->Prop)
abbrev Hp:=Addr->Option HO
def upd(H:Hp)(a:Addr)(o:HO):Hp:=fun b=>if b=a then some o else H b
theorem jAb{H:Hp}{a:Addr}{o:HO}:upd H a o a=some o:=by unfold upd;rw [if_pos rfl]
theorem jAi{H:Hp}{a b:Addr}{o:HO}(h:b≠a):upd H a o b=H b:=by unfold upd;rw [if_neg h]
theorem jBP{H:Hp}{a:Addr}{o u:HO}:upd (upd H a o) a u=upd H a u:=by
 funext b;unfold upd;split<;>rfl
theorem jAu{H:Hp}{a b:Addr}{o u:HO}(h:H a=some o)(h':H b=some u)(d:o≠u):a≠b:=by
 intro e;subst e;rw [h] at h';exact d (Option.some.inj h')
theorem jAg{H:Hp}{a b:Addr}{o:HO}(h:H a=some o)(h':H b=none):a≠b:=by
 intro e;subst e;rw [h] at h';cases h'
section
variable (P:Program)(w:World)
def jA6(H:Hp)(h:Heap)(a:Addr):HO->Prop
 | .lst xs=>xs.length<=sizeLine/\∃ (its:List Value) (n:Nat),jAH xs its/\h.get? a=some { cls:=.type "list",data:=.seq its.toArray n }
 | .tup xs=>xs.length<=sizeLine/\∃ its:List Value,jAH xs its/\IsTup h a its.toArray
 | .dK kvs=>kvs.length<=sizeLine/\(a==sysModules)=false/\∃ vs,KV kvs vs/\h.DictOf (jA4 P w) a vs
 | .dT kvs=>kvs.length<=sizeLine/\(a==sysModules)=false/\∃ xs:List (List Key×Addr×Value),
  Paired (fun (p:List Key×V) (q:List Key×Addr×Value)=>p.1=q.1/\H q.2.1=some (.tup (p.1.map kV))/\jAA p.2 q.2.2) kvs xs /\
  ∃ o es ep,h.get? a=some o/\o.ExactDict/\o.data=.dict es ep/\es.toList=xs.map (entryOfKey (tupleKind (jA4 P w)))/\(xs.map (·.1)).Nodup
 | .set S n=>h.SetOf (intKind P w) a S n
 | .ins C dx fs=>H dx=some (.own a)/\fs.length<=1000/\dx≠a/\h.get? a=some (PySem.W.instObj C dx) /\
  ∃ mA,h.Ns1 dx mA/\(∀ f,jBY (fs.lookup f) (mA f))/\PySem.Within mA (fs.map (·.1))
 | .own _=>∃ o,h.get? a=some o
 | .xd fs=>∃ mA,h.Ns1 a mA/\∀ f,jBY (fs.lookup f) (mA f)
 | .rng lo hi=>∃ t u v,h.get? a=some { cls:=.type "range",data:=.fields #[.int lo t,.int hi u,.int 1 v] }
 | .frz o u=>h.get? a=some o/\jA6 H h a u
 | .tbl ps=>h.get? a=some { cls:=.none,data:=.fields ps }
 | .met f x=>h.get? a=some (PySem.W.methodObj (.ref f) (.ref x))
 | .ext φ=>φ h/\(∃ o,h.get? a=some o)/\∀ h1 h2:Heap,φ h1->(∀ o,h1.get? a=some o->h2.get? a=some o)->φ h2
def HOk(H:Hp)(h:Heap):Prop:=∀ a o,H a=some o->jA6 P w H h a o
end
section
variable {P:Program}{w:World}{H H':Hp}{h h':Heap}{a:Addr}{o:HO}
theorem jA6.lt(x:jA6 P w H h a o):a<h.objs.size:=by
 cases o with
 | lst xs=>obtain⟨_,_,_,_,e⟩:=x;exact Heap.lt_size e
 | tup xs=>obtain⟨_,_,_,p⟩:=x;exact p.lt
 | dK kvs=>obtain⟨_,_,_,_,o,_,_,e,_⟩:=x;exact Heap.lt_size e
 | dT kvs=>obtain⟨_,_,_,_,o,_,_,e,_⟩:=x;exact Heap.lt_size e
 | set S n=>obtain⟨o,_,_,_,e,_⟩:=x;exact Heap.lt_size e
 | ins C dx fs=>obtain⟨_,_,_,e,_⟩:=x;exact Heap.lt_size e
 | own y=>obtain⟨_,e⟩:=x;exact Heap.lt_size e
 | xd fs=>obtain⟨_,⟨_,_,_,e,_⟩,_⟩:=x;exact Heap.lt_size e
 | rng lo hi=>obtain⟨_,_,_,e⟩:=x;exact Heap.lt_size e
 | frz ob u=>obtain⟨e,_⟩:=x;exact Heap.lt_size e
 | tbl ps=>exact Heap.lt_size (show h.get? a=some _ from x)
 | met f y=>exact Heap.lt_size (show h.get? a=some _ from x)
 | ext φ=>obtain⟨_,⟨_,e⟩,_⟩:=x;exact Heap.lt_size e
theorem Paired.mapP{α β:Type}{F G:α->β->Prop}:∀ {l₁:List α} {l₂:List β},Paired F l₁ l₂->(∀ a b,F a b->G a b)->Paired G l₁ l₂
 | _,_,.nil,_=>.nil
 | _,_,.cons r t,f=>.cons (f _ _ r) (Paired.mapP t f)
theorem jA6.stay(x:jA6 P w H h a o)(k:∀ b u,(b=a\/H b=some (.own a))->h.get? b=some u->h'.get? b=some u)
 (ho:∀ b,H b=some (.own a)->H' b=some (.own a)) (ht:∀ b xs,H b=some (.tup xs)->H' b=some (.tup xs)):jA6 P w H' h' a o:=by
 induction o with
 | lst xs=>obtain⟨z,its,n,r,e⟩:=x;exact⟨z,its,n,r,k _ _ (.inl rfl) e⟩
 | tup xs=>obtain⟨z,its,r,ob,e,c⟩:=x;exact⟨z,its,r,ob,k _ _ (.inl rfl) e,c⟩
 | dK kvs=>obtain⟨z,y,vs,r,ob,es,ep,e,c⟩:=x;exact⟨z,y,vs,r,ob,es,ep,k _ _ (.inl rfl) e,c⟩
 | dT kvs =>
   obtain⟨z,y,xs,r,ob,es,ep,e,c⟩:=x
   exact⟨z,y,xs,Paired.mapP r fun p q z=>⟨z.1,ht _ _ z.2.1,z.2.2⟩,ob,es,ep,k _ _ (.inl rfl) e,c⟩
 | set S n=>obtain⟨ob,es,ep,t,e,c⟩:=x;exact⟨ob,es,ep,t,k _ _ (.inl rfl) e,c⟩
 | ins C dx fs =>
   obtain⟨d,z,ne,e,mA,⟨od,es,ep,e2,c⟩,r⟩:=x
   exact⟨ho _ d,z,ne,k _ _ (.inl rfl) e,mA,⟨od,es,ep,k _ _ (.inr d) e2,c⟩,r⟩
 | own y=>obtain⟨ob,e⟩:=x;exact⟨ob,k _ _ (.inl rfl) e⟩
 | xd fs=>obtain⟨mA,⟨od,es,ep,e,c⟩,r⟩:=x;exact⟨mA,⟨od,es,ep,k _ _ (.inl rfl) e,c⟩,r⟩
 | rng lo hi=>obtain⟨t,u,v,e⟩:=x;exact⟨t,u,v,k _ _ (.inl rfl) e⟩
 | frz ob u ih=>obtain⟨e,q⟩:=x;exact⟨k _ _ (.inl rfl) e,ih q⟩
 | tbl ps =>
   have e:h.get? a=some { cls:=.none,data:=.fields ps }:=x
   show h'.get? a=some { cls:=.none,data:=.fields ps }
   exact k a _ (.inl rfl) e
 | met f y =>
   have e:h.get? a=some (PySem.W.methodObj (.ref f) (.ref y)):=x
   show h'.get? a=some (PySem.W.methodObj (.ref f) (.ref y))
   exact k a _ (.inl rfl) e
 | ext φ=>obtain⟨p,⟨o,e⟩,st⟩:=x;exact⟨st _ _ p fun o q=>k _ _ (.inl rfl) q,⟨o,k _ _ (.inl rfl) e⟩,st⟩
theorem HOk.lt(x:HOk P w H h)(e:H a=some o):a<h.objs.size:=(x a o e).lt
theorem HOk.fresh(x:HOk P w H h)(e:h.objs.size<=a):H a=none:=by
 cases q:H a with
 | none=>rfl
 | some u=>exact absurd (Nat.lt_of_lt_of_le (x.lt q) e) (Nat.lt_irrefl _)
theorem HOk.kept(x:HOk P w H h)(k:∀ b u,h.get? b=some u->h'.get? b=some u):HOk P w H h':=fun a o e =>
 (x a o e).stay (fun b u _ q=>k b u q) (fun _ q=>q) fun _ _ q=>q
theorem HOk.laid(x:HOk P w H h)(k:∀ b u,h.get? b=some u->h'.get? b=some u)(hp:h.objs.size<=a)(new:jA6 P w (upd H a o) h' a o):HOk P w (upd H a o) h':=fun b u e=>by
 have hn:=x.fresh hp
 by_cases hb:b=a
 ·subst hb;rw [jAb] at e;cases e;exact new
 ·rw [jAi hb] at e
  exact (x b u e).stay (fun c v _ q=>k c v q) (fun c q=>by rw [jAi (jAg q hn)];exact q) fun c xs q=>by rw [jAi (jAg q hn)];exact q
end
def Rd(H:Hp)(a:Addr)(u:HO):Prop:=H a=some u\/∃ o,H a=some (.frz o u)
theorem Rd.ok{P:Program}{w:World}{H:Hp}{h:Heap}{a:Addr}{u:HO}(r:Rd H a u)(x:HOk P w H h):jA6 P w H h a u:=by
 rcases r with r|⟨o,r⟩
 ·exact x a u r
 ·obtain⟨_,q⟩:=x a _ r
  exact q
def Mut:Option HO->Prop
 | some (.lst _)=>True
 | some (.dK _)=>True
 | some (.dT _)=>True
 | some (.set _ _)=>True
 | some (.ins _ _ _)=>True
 | some (.ext _)=>True
 | _=>False
section
variable {P:Program}{w:World}{H:Hp}{h h':Heap}{x e:Addr}{o':HO}
theorem HOk.write(ok:HOk P w H h)(mu:Mut (H x))(he:e=x\/H e=some (.own x))(k:∀ b u,b≠e->h.get? b=some u->h'.get? b=some u)(heo:∃ u,h'.get? e=some u)
 (new:jA6 P w (upd H x o') h' x o'):HOk P w (upd H x o') h':=fun b u q=>by
 have nown:∀ c y,H c=some (.own y)->c≠x:=fun c y r z=>by subst z;rw [r] at mu;exact mu
 have ntup:∀ c xs,H c=some (.tup xs)->c≠x:=fun c xs r z=>by subst z;rw [r] at mu;exact mu
 by_cases hb:b=x
 ·subst hb;rw [jAb] at q;cases q;exact new
 ·rw [jAi hb] at q
  by_cases hbe:b=e
  ·have q':H b=some (.own x):=by
    rcases he with z|z
    ·exact absurd (hbe.trans z) hb
    ·rw [hbe];exact z
   rw [q] at q';cases q'
   obtain⟨v,hv⟩:=heo
   exact⟨v,by rw [hbe];exact hv⟩
  ·refine (ok b u q).stay (fun c v hc r=>k c v ?_ r) (fun c r=>by rw [jAi (nown c b r)];exact r) fun c xs r=>by rw [jAi (ntup c xs r)];exact r
   rcases hc with rfl|hc
   ·exact hbe
   ·rintro rfl
    rcases he with z|z
    ·exact nown c b hc z
    ·rw [hc] at z;cases z;exact hb rfl
end
structure Un(fs ex:List Addr)(H H':Hp)(h h':Heap):Prop where
 keep:∀ b o,h.get? b=some o->H b=none->b ∉ fs->b ∉ ex->h'.get? b=some o
 slot:∀ b o,h.get? b=some o->H b=none->b∈fs->b ∉ ex->∃ sl,h'.get? b=some { o with slots:=sl }
 free:∀ b o,h.get? b=some o->H b=none->b ∉ ex->H' b=none
 there:∀ b o,h.get? b=some o->b ∉ ex->∃ o',h'.get? b=some o'
 tups:∀ b xs,H b=some (.tup xs)->H' b=some (.tup xs)
 frzs:∀ b o u,H b=some (.frz o u)->H' b=some (.frz o u)
 tbls:∀ b ps,H b=some (.tbl ps)->∃ more,H' b=some (.tbl (ps++more))
section
variable {fs fs' ex ex':List Addr}{H H1 H2:Hp}{h h1 h2 h':Heap}{a x e:Addr}{o:HO}
theorem Un.any(u:Un fs ex H H1 h h1){b:Addr}{ob:Obj}(q:h.get? b=some ob)(n:H b=none)(hx:b ∉ ex):∃ sl,h1.get? b=some { ob with slots:=sl }:=by
 by_cases hb:b∈fs
 ·exact u.slot b ob q n hb hx
 ·exact⟨ob.slots,u.keep b ob q n hb hx⟩
theorem Un.kept(k:∀ b u,h.get? b=some u->h'.get? b=some u):Un fs ex H H h h' :=
 ⟨fun b ob q _ _ _=>k b ob q,fun b ob q _ _ _=>⟨ob.slots,k b ob q⟩,fun _ _ _ n _=>n,fun b ob q _=>⟨ob,k b ob q⟩,fun _ _ q=>q,fun _ _ _ q=>q,fun _ ps q=>⟨#[],by rw [q];simp⟩⟩
theorem Un.refl:Un fs ex H H h h:=Un.kept fun _ _ q=>q
theorem Un.laid(k:∀ b u,h.get? b=some u->h'.get? b=some u)(hp:h.objs.size<=a)(hn:H a=none):Un fs ex H (upd H a o) h h' where
 keep:=fun b u q _ _ _=>k b u q
 slot:=fun b u q _ _ _=>⟨u.slots,k b u q⟩
 free:=fun b u q n _=>by rw [jAi (Nat.ne_of_lt (Nat.lt_of_lt_of_le (Heap.lt_size q) hp))];exact n
 there:=fun b u q _=>⟨u,k b u q⟩
 tups:=fun b xs q=>by rw [jAi (jAg q hn)];exact q
 frzs:=fun b u xs q=>by rw [jAi (jAg q hn)];exact q
 tbls:=fun b ps q=>⟨#[],by rw [jAi (jAg q hn),q];simp⟩
theorem Un.write(mu:Mut (H x))(he:e=x\/H e=some (.own x))(k:∀ b u,b≠e->h.get? b=some u->h'.get? b=some u)(heo:∃ u,h'.get? e=some u):Un fs ex H (upd H x o) h h':=by
 have hx:∀ b,H b=none->b≠x:=fun b n z=>by subst z;rw [n] at mu;exact mu
 have hb:∀ b,H b=none->b≠e:=fun b n z=>by
  subst z
  rcases he with r|r
  ·exact hx b n r
  ·rw [n] at r;cases r
 have hm:∀ b u,H b=some u->¬ Mut (some u)->b≠x:=fun b u q nm z=>by subst z;rw [q] at mu;exact nm mu
 refine⟨fun b u q n _ _=>k b u (hb b n) q,fun b u q n _ _=>⟨u.slots,k b u (hb b n) q⟩,fun b u q n _=>by rw [jAi (hx b n)];exact n,fun b u q _=>?_,
  fun b xs q=>by rw [jAi (hm b _ q fun z=>z)];exact q,fun b u xs q=>by rw [jAi (hm b _ q fun z=>z)];exact q,fun b ps q=>⟨#[],by rw [jAi (hm b _ q fun z=>z),q];simp⟩⟩
 by_cases hbe:b=e
 ·subst hbe;exact heo
 ·exact⟨u,k b u hbe q⟩
end
def trk(h:Heap)(H:Hp):List Addr:=(List.range h.objs.size).filter fun a=>(H a).isSome
def jGB(h:Heap)(H:Hp):Heap:=PySem.W.hideAll h (trk h H)
theorem jM8(h:Heap)(H:Hp):(jGB h H).objs.size=h.objs.size:=PySem.W.hideAll_size _ _
theorem jN1{h:Heap}{H:Hp}{b:Addr}{o:Obj}(e:h.get? b=some o)(n:H b=none):(jGB h H).get? b=some o :=
 PySem.W.hideAll_get _ e fun hm=>by
  have q:(H b).isSome=true:=(List.mem_filter.mp hm).2
  rw [n] at q;simp at q
theorem of_hidT{h:Heap}{H:Hp}{b:Addr}{o:Obj}(e:(jGB h H).get? b=some o):h.get? b=some o/\H b=none:=by
 have e':h.get? b=some o:=PySem.W.of_hideAll (trk h H) e
 exists e'
 cases q:H b with
 | none=>rfl
 | some x =>
   have hm:b∈trk h H:=List.mem_filter.mpr ⟨List.mem_range.mpr (Heap.lt_size e'),by simp [q]⟩
   have z:(jGB h H).get? b=none:=PySem.W.hideAll_none (trk h H) hm
   rw [z] at e;cases e
def allNews(g h:Heap)(L:Addr):List (Addr×Obj):=(List.range h.objs.size).filterMap fun a=>if a=L\/(g.get? a).isSome=true then none else (h.get? a).map fun o=>(a,o)
def rest(g h:Heap)(L d:Addr):List (Addr×Obj):=(allNews g h L).filter fun p=>decide (p.1≠d)
structure Mod(K:PySem.W.Frag)(mg:Str->Option Value)(base:Heap):Prop where
 kin:K.In base
 glob:base.Ns mainGlobals mg
 blt:∃ mb,base.Ns builtinsNs mb/\∀ x:Str,x≠"__name__"->mb x=bootBuiltins x
 nolimit:base.NoLimit
/-- the context: a def's body (or a comprehension's block) running. base: fixed through the whole law; s₀, H₀: the entry; outer: the frames whose slots others may change (a def's callers); stack: all frames that run;
 ex: iterators that were made ahead of the entry and are walked here (a comprehension's);fn: the names whose cells were made at the entry (a def: all;a comprehension's block: its own);calm: not within an except suite;pn: pins that every state bears;xe: what is wanted of an exception that leaves the code -/
structure Cx where
 prog:Program
 w:World
 K:PySem.W.Frag
 mg:Str->Option Value
 base:Heap
 A:Around
 N:List Str
 s₀:Shared
 H₀:Hp
 env:Env
 outer:List Env
 stack:List Env
 ex:List Addr
 fn:Str->Bool
 calm:Bool
 pn:List (Addr×Obj)
 xe:Value->Shared->Prop
def frs(l:List Env):List Addr:=l.filterMap (·.frame)
abbrev Cx.fs(X:Cx):List Addr:=frs X.outer
def Vis(sc:Scope)(x:Str):Prop:=sc.names.lookup x=some .local\/sc.names.lookup x=some .cell\/sc.names.lookup x=some .free
def Loc(sc:Scope)(x:Str):Prop:=sc.names.lookup x=some .local\/sc.names.lookup x=some .cell
def Look(env:Env)(h:Heap)(m:Str->Option Value)(x:Str)(u:Value):Prop :=
 (env.kindOf x=some .local/\m x=some u)\/((env.kindOf x=some .cell\/env.kindOf x=some .free)/\∃ c,env.cells.lookup x=some c/\h.IsCell c (some u))
structure Cx.Ok(X:Cx):Prop where
 mod:Mod X.K X.mg X.base
 kind:X.env.scope.kind=.function
 glob:X.env.globals=mainGlobals
 blt:X.env.builtins=builtinsNs
 above:X.s₀.heap.objs.size<=X.env.locals
 inj:∀ x y c,X.env.cells.lookup x=some c->X.env.cells.lookup y=some c->x=y
 has:∀ x,(X.env.kindOf x=some .cell\/X.env.kindOf x=some .free)->∃ c,X.env.cells.lookup x=some c
 cab:∀ x c,X.fn x=true->X.env.cells.lookup x=some c->X.s₀.heap.objs.size<=c
 hd:X.calm=true->X.A.handled=none
 frames:X.A.frames=some X.stack
 stk:X.stack=X.outer\/(X.stack=X.env::X.outer/\X.env.frame=some X.env.locals)
 exf:∀ b∈X.ex,b≠X.env.locals/\∀ x c,X.env.cells.lookup x=some c->c≠b
 bs:∀ b o,X.base.get? b=some o->X.s₀.heap.get? b=some o/\X.H₀ b=none
 bsz:X.base.objs.size<=X.s₀.heap.objs.size
 noex:∀ b o,X.base.get? b=some o->b ∉ X.ex
 exfs:∀ b∈X.ex,b ∉ X.fs
 funs:X.s₀.heap.FunFrames X.base X.outer
 frf:∀ b∈X.fs,X.H₀ b=none
structure Inv(X:Cx)(pins:List (Addr×Obj))(σ:List (Option V))(H:Hp)(s:Shared):Prop where
 ok:X.Ok
 os:s.os=X.s₀.os
 bare:AllBare s.gens
 base:Un X.fs X.ex X.H₀ H X.s₀.heap s.heap
 loc:∃ m,s.heap.Ns X.env.locals m/\∀ (i:Nat) (x:Str) (v:V),X.N[i]?=some x->σ[i]?=some (some v)->Vis X.env.scope x->∃ u,jAA v u/\Look X.env s.heap m x u
 cell:∀ x c,X.env.cells.lookup x=some c->∃ v,s.heap.IsCell c v
 free:H X.env.locals=none
 freeC:∀ x c,X.env.cells.lookup x=some c->H c=none
 pin:∀ p∈X.pn++pins,s.heap.get? p.1=some p.2/\H p.1=none/\p.1≠X.env.locals/\p.1 ∉ X.fs/\∀ v,p.2.data≠.cell v
 hok:HOk X.prog X.w H s.heap
 len:σ.length=X.N.length
section
variable {X:Cx}{pins:List (Addr×Obj)}{σ:List (Option V)}{H H':Hp}{s:Shared}{h':Heap}
theorem Cx.Ok.nofr(ok:X.Ok){b:Addr}{o:Obj}(e:X.base.get? b=some o):b ∉ X.fs:=fun hb=>by
 have:=(ok.funs.mem hb).1
 rw [e] at this;cases this
theorem Inv.bs(I:Inv X pins σ H s):∀ b o,X.base.get? b=some o->s.heap.get? b=some o/\H b=none:=fun b o e =>
 ⟨I.base.keep b o (I.ok.bs b o e).1 (I.ok.bs b o e).2 (I.ok.nofr e) (I.ok.noex b o e),I.base.free b o (I.ok.bs b o e).1 (I.ok.bs b o e).2 (I.ok.noex b o e)⟩
theorem Inv.bk(I:Inv X pins σ H s):∀ b o,X.base.get? b=some o->s.heap.get? b=some o:=fun b o e=>(I.bs b o e).1
theorem Inv.mod(I:Inv X pins σ H s):Mod X.K X.mg X.base:=I.ok.mod
theorem Inv.kIn(I:Inv X pins σ H s):X.K.In s.heap:=I.ok.mod.kin.keeps I.bk
theorem Inv.lt(I:Inv X pins σ H s):X.env.locals<s.heap.objs.size:=let ⟨_,hn,_⟩:=I.loc;hn.lt
theorem Inv.sz(I:Inv X pins σ H s):X.s₀.heap.objs.size<=s.heap.objs.size:=Nat.le_trans I.ok.above (Nat.le_of_lt I.lt)
theorem Inv.nofs(I:Inv X pins σ H s){a:Addr}(h:s.heap.objs.size<=a):a ∉ X.fs:=fun hb=>by
 obtain⟨_,o,ho,_⟩:=I.ok.funs.mem hb
 exact absurd (Nat.lt_of_lt_of_le (Heap.lt_size ho) (Nat.le_trans I.sz h)) (Nat.lt_irrefl _)
theorem Inv.cne(I:Inv X pins σ H s):∀ x c,X.env.cells.lookup x=some c->c≠X.env.locals:=fun x c e z=>by
 obtain⟨v,o,ho,hd⟩:=I.cell x c e
 obtain⟨m,⟨o',es,ep,ho',hd',_⟩,_⟩:=I.loc
 rw [z,ho'] at ho;cases ho;rw [hd'] at hd;cases hd
theorem Inv.funs(I:Inv X pins σ H s):s.heap.FunFrames X.base X.outer:=by
 have all:∀ (l:List Env),(∀ b∈frs l,b∈X.fs)->X.s₀.heap.FunFrames X.base l->s.heap.FunFrames X.base l:=by
  intro l
  induction l with
  | nil=>intro _ _;trivial
  | cons env r ih =>
    intro hs hl
    obtain⟨hk,⟨L,o,hf,hn,ho,hd⟩,hr⟩:=hl
    have hL:L∈X.fs:=hs L (by unfold frs;rw [List.filterMap_cons,hf];exact List.mem_cons_self)
    obtain⟨sl,e⟩:=I.base.slot L o ho (I.ok.frf L hL) hL fun z=>I.ok.exfs L z hL
    exact⟨hk,⟨L,_,hf,hn,e,hd⟩,ih (fun b hb=>hs b (by unfold frs;rw [List.filterMap_cons,hf];exact List.mem_cons_of_mem _ hb)) hr⟩
 exact all X.outer (fun _ hb=>hb) I.ok.funs
theorem Inv.stack(I:Inv X pins σ H s):s.heap.FunFrames X.base X.stack:=by
 rcases I.ok.stk with e|⟨e,hf⟩
 ·rw [e];exact I.funs
 ·rw [e]
  obtain⟨m,hn,_⟩:=I.loc
  refine .cons (by rw [I.ok.kind];decide) hf hn ?_ I.funs
  exact Heap.get?_none_of_le (Nat.le_trans I.ok.bsz I.ok.above)
theorem Inv.stkSub(I:Inv X pins σ H s):∀ b∈frs X.stack,b∈X.env.locals::X.fs:=fun b hb=>by
 rcases I.ok.stk with e|⟨e,hf⟩
 ·rw [e] at hb;exact List.mem_cons_of_mem _ hb
 ·rw [e] at hb
  unfold frs at hb
  rw [List.filterMap_cons,hf] at hb
  exact hb
theorem Inv.stkFree(I:Inv X pins σ H s):∀ b∈frs X.stack,H b=none:=fun b hb=>by
 rcases List.mem_cons.mp (I.stkSub b hb) with e|hb
 ·rw [e];exact I.free
 ·obtain⟨_,o,ho,_⟩:=I.ok.funs.mem hb
  exact I.base.free b o ho (I.ok.frf b hb) fun z=>I.ok.exfs b z hb
theorem Inv.step{g':Array GenState}{t':Nat}{d':Drawn}{ch:List Addr}(I:Inv X pins σ H s)
 (hch:∀ b∈ch,(b∈X.ex\/X.s₀.heap.objs.size<=b)/\b≠X.env.locals/\(∀ x c,X.env.cells.lookup x=some c->c≠b)/\∀ p∈X.pn++pins,p.1≠b)
 (keep:∀ b o,b≠X.env.locals->b ∉ X.fs->b ∉ ch->s.heap.get? b=some o->H b=none->h'.get? b=some o)
 (slot:∀ b o,b≠X.env.locals->b∈X.fs->b ∉ ch->s.heap.get? b=some o->H b=none->∃ sl,h'.get? b=some { o with slots:=sl }) (free:∀ b o,b ∉ ch->s.heap.get? b=some o->H b=none->H' b=none)
 (there:∀ b o,b ∉ ch->s.heap.get? b=some o->∃ o',h'.get? b=some o')
 (tups:∀ b xs,H b=some (.tup xs)->H' b=some (.tup xs)) (frzs:∀ b o u,H b=some (.frz o u)->H' b=some (.frz o u)) (tbls:∀ b ps,H b=some (.tbl ps)->∃ more,H' b=some (.tbl (ps++more)))
 (ns:∀ m,s.heap.Ns X.env.locals m->h'.Ns X.env.locals m) (hok:HOk X.prog X.w H' h') (hg:AllBare g') :
 Inv X pins σ H' { s with heap:=h',gens:=g',drawn:=d',toks:=t' }:=by
 have neL:∀ b o,X.s₀.heap.get? b=some o->b≠X.env.locals:=fun b o e=>Nat.ne_of_lt (Nat.lt_of_lt_of_le (Heap.lt_size e) I.ok.above)
 have neC:∀ b o,X.s₀.heap.get? b=some o->b ∉ X.ex->b ∉ ch:=fun b o e hx hb=>by
  rcases (hch b hb).1 with z|z
  ·exact hx z
  ·exact absurd (Nat.lt_of_lt_of_le (Heap.lt_size e) z) (Nat.lt_irrefl _)
 have cellK:∀ x c,X.env.cells.lookup x=some c->∀ v,s.heap.IsCell c v->h'.IsCell c v:=fun x c e v ⟨o,ho,hd⟩=>by
  have nch:c ∉ ch:=fun z=>(hch c z).2.2.1 x c e rfl
  by_cases hc:c∈X.fs
  ·obtain⟨sl,q⟩:=slot c o (I.cne x c e) hc nch ho (I.freeC x c e)
   exact⟨_,q,hd⟩
  ·exact⟨o,keep c o (I.cne x c e) hc nch ho (I.freeC x c e),hd⟩
 refine⟨I.ok,I.os,hg,⟨fun b o e n hb hx=>?_,fun b o e n hb hx=>?_,fun b o e n hx=>?_,fun b o e hx=>?_,fun b xs e=>tups b xs (I.base.tups b xs e),fun b o xs e=>frzs b o xs (I.base.frzs b o xs e),fun b ps e=>?_⟩,?_,fun x c e=>?_,?_,fun x c e=>?_,fun p hp=>?_,hok,I.len⟩
 ·exact keep b o (neL b o e) hb (neC b o e hx) (I.base.keep b o e n hb hx) (I.base.free b o e n hx)
 ·obtain⟨sl,e1⟩:=I.base.slot b o e n hb hx
  obtain⟨sl',e2⟩:=slot b _ (neL b o e) hb (neC b o e hx) e1 (I.base.free b o e n hx)
  exact⟨sl',e2⟩
 ·obtain⟨o',e1⟩:=I.base.there b o e hx
  exact free b o' (neC b o e hx) e1 (I.base.free b o e n hx)
 ·obtain⟨o',e1⟩:=I.base.there b o e hx
  exact there b o' (neC b o e hx) e1
 ·obtain⟨m1,e1⟩:=I.base.tbls b ps e
  obtain⟨m2,e2⟩:=tbls b _ e1
  exact⟨m1++m2,by rw [e2,Array.append_assoc]⟩
 ·obtain⟨m,hn,hl⟩:=I.loc
  refine⟨m,ns m hn,fun i x v e1 e2 e3=>?_⟩
  obtain⟨u,r,l⟩:=hl i x v e1 e2 e3
  exists u,r
  rcases l with l|⟨k,c,e,z⟩
  ·exact .inl l
  ·exact .inr ⟨k,c,e,cellK x c e _ z⟩
 ·obtain⟨v,z⟩:=I.cell x c e
  exact⟨v,cellK x c e v z⟩
 ·obtain⟨m,⟨o,_,_,ho,_⟩,_⟩:=I.loc
  exact free _ o (fun z=>(hch _ z).2.1 rfl) ho I.free
 ·obtain⟨v,o,ho,hd⟩:=I.cell x c e
  exact free c o (fun z=>(hch c z).2.2.1 x c e rfl) ho (I.freeC x c e)
 ·obtain⟨e,n,ne,nf,d⟩:=I.pin p hp
  have nch:p.1 ∉ ch:=fun z=>(hch p.1 z).2.2.2 p hp rfl
  exact⟨keep p.1 p.2 ne nf nch e n,free p.1 p.2 nch e n,ne,nf,d⟩
theorem Inv.un{t':Nat}(I:Inv X pins σ H s)(u:Un X.fs [] H H' s.heap h')(hok:HOk X.prog X.w H' h'):Inv X pins σ H' { s with heap:=h',toks:=t' }:=by
 obtain⟨m,⟨o,es,ep,ho,r⟩,_⟩:=id I.loc
 obtain⟨sl,hL⟩:=u.any ho I.free (by simp)
 exact I.step (g':=s.gens) (d':=s.drawn) (ch:=[]) (fun _ z=>nomatch z) (fun b o _ hb _ e n=>u.keep b o e n hb (by simp)) (fun b o _ hb _ e n=>u.slot b o e n hb (by simp)) (fun b o _ e n=>u.free b o e n (by simp)) (fun b o _ e=>u.there b o e (by simp)) u.tups u.frzs u.tbls (fun m' hm=>by
  obtain⟨o',es',ep',ho',r'⟩:=hm
  rw [ho] at ho';cases ho'
  exact⟨_,es',ep',hL,r'⟩) hok I.bare
theorem Inv.call{g':Array GenState}{t':Nat}{d':Drawn}{ch:List Addr}(I:Inv X pins σ H s)(u:Un (frs X.stack) ch H H' s.heap h')(hok:HOk X.prog X.w H' h')(hg:AllBare g')
 (hch:∀ b∈ch,(b∈X.ex\/X.s₀.heap.objs.size<=b)/\b≠X.env.locals/\(∀ x c,X.env.cells.lookup x=some c->c≠b)/\∀ p∈X.pn++pins,p.1≠b) :
 Inv X pins σ H' { s with heap:=h',gens:=g',drawn:=d',toks:=t' }:=by
 obtain⟨m,⟨o,es,ep,ho,r⟩,_⟩:=id I.loc
 obtain⟨sl,hL⟩:=u.any ho I.free fun z=>(hch _ z).2.1 rfl
 exact I.step (ch:=ch) hch (fun b o hL hb hc e n=>u.keep b o e n (fun z=>(List.mem_cons.mp (I.stkSub b z)).elim hL hb) hc) (fun b o _ _ hc e n=>u.any e n hc) (fun b o hc e n=>u.free b o e n hc) (fun b o hc e=>u.there b o e hc) u.tups u.frzs u.tbls (fun m' hm=>by
  obtain⟨o',es',ep',ho',r'⟩:=hm
  rw [ho] at ho';cases ho'
  exact⟨_,es',ep',hL,r'⟩) hok hg
theorem Inv.turned{t':Nat}{it:Addr}(I:Inv X pins σ H s)(k:∀ b o,b≠it->s.heap.get? b=some o->h'.get? b=some o)(hn:H it=none)(hL:it≠X.env.locals)
 (h1:it∈X.ex\/X.s₀.heap.objs.size<=it) (h2:∀ x c,X.env.cells.lookup x=some c->c≠it) (h3:∀ p∈X.pn++pins,p.1≠it):Inv X pins σ H { s with heap:=h',toks:=t' }:=by
 have nit:∀ b u,H b=some u->b≠it:=fun b u e z=>by rw [z,hn] at e;cases e
 refine I.step (g':=s.gens) (d':=s.drawn) (ch:=[it]) (fun b hb=>?_) (fun b o _ _ hc e _=>k b o (fun z=>hc (by simp [z])) e) (fun b o _ _ hc e _=>⟨o.slots,k b o (fun z=>hc (by simp [z])) e⟩) (fun _ _ _ _ n=>n)
  (fun b o hc e=>⟨o,k b o (fun z=>hc (by simp [z])) e⟩) (fun _ _ e=>e) (fun _ _ _ e=>e) (fun b ps e=>⟨#[],by rw [e];simp⟩) (fun m hm=>?_) (fun b u e=>?_) I.bare
 ·have e:b=it:=by simpa using hb
  subst e
  exact⟨h1,hL,h2,h3⟩
 ·obtain⟨o,es,ep,ho,r⟩:=hm
  exact⟨o,es,ep,k _ o (Ne.symm hL) ho,r⟩
 ·refine (I.hok b u e).stay (fun c v hc q=>k c v ?_ q) (fun _ q=>q) fun _ _ q=>q
  rcases hc with z|z
  ·rw [z];exact nit b u e
  ·exact nit c _ z
theorem Inv.tok(I:Inv X pins σ H s)(t:Nat):Inv X pins σ H { s with toks:=t }:=I.un (h':=s.heap) (t':=t) Un.refl I.hok
theorem Inv.kept{t':Nat}(I:Inv X pins σ H s)(k:∀ b u,s.heap.get? b=some u->h'.get? b=some u):Inv X pins σ H { s with heap:=h',toks:=t' }:=I.un (Un.kept k) (I.hok.kept k)
theorem Inv.laid{a:Addr}{o:HO}{t':Nat}(I:Inv X pins σ H s)(k:∀ b u,s.heap.get? b=some u->h'.get? b=some u)(hp:s.heap.objs.size<=a)(new:jA6 X.prog X.w (upd H a o) h' a o) :
 Inv X pins σ (upd H a o) { s with heap:=h',toks:=t' }:=I.un (Un.laid k hp (I.hok.fresh hp)) (I.hok.laid k hp new)
theorem Inv.write{x e:Addr}{o:HO}{t':Nat}(I:Inv X pins σ H s)(mu:Mut (H x))(he:e=x\/H e=some (.own x))(k:∀ b u,b≠e->s.heap.get? b=some u->h'.get? b=some u)(heo:∃ u,h'.get? e=some u)
 (new:jA6 X.prog X.w (upd H x o) h' x o):Inv X pins σ (upd H x o) { s with heap:=h',toks:=t' }:=I.un (Un.write mu he k heo) (I.hok.write mu he k heo new)
theorem Inv.pins_of{pins':List (Addr×Obj)}(I:Inv X pins σ H s)(h:∀ p∈pins',s.heap.get? p.1=some p.2/\H p.1=none/\p.1≠X.env.locals/\p.1 ∉ X.fs/\∀ v,p.2.data≠.cell v):Inv X pins' σ H s :=
 ⟨I.ok,I.os,I.bare,I.base,I.loc,I.cell,I.free,I.freeC,fun p hp=>(List.mem_append.mp hp).elim (fun z=>I.pin p (List.mem_append_left _ z)) (h p),I.hok,I.len⟩
theorem jIg{N:List Str}(hN:N.Nodup){i j:Nat}{x:Str}(a:N[i]?=some x)(b:N[j]?=some x):i=j:=by
 obtain⟨h1,e1⟩:=List.getElem?_eq_some_iff.mp a
 obtain⟨h2,e2⟩:=List.getElem?_eq_some_iff.mp b
 exact (List.getElem_inj hN).mp (e1.trans e2.symm)
theorem jM9{M:Model}{A:Around}{E:Value->Shared->Prop}{i:Nat}{x:Str}{v:V}{u:Value}{Q:Unit->Shared->Prop}(I:Inv X pins σ H s)(hN:X.N.Nodup)(hi:X.N[i]?=some x)(hx:Loc X.env.scope x)(r:jAA v u)
 (h:∀ s',Inv X pins (σ.set i (some v)) H s'->(∃ a,Heap.SameBut a s.heap s'.heap/\(a=X.env.locals\/X.env.cells.lookup x=some a))->Q () s') (hf:X.fn x=true\/X.env.scope.names.lookup x=some .local:=by first|exact .inl rfl|exact .inr rfl|assumption):wpAny M A (storeName X.env x u) Q E s:=by
 obtain⟨m,hn,hl⟩:=id I.loc
 have hcls:(X.env.scope.kind==.class||(X.env.scope.kind==.module&&X.env.locals != X.env.globals))=false:=by rw [I.ok.kind];rfl
 have hiσ:i<σ.length:=by rw [I.len];exact (List.getElem?_eq_some_iff.mp hi).1
 have cne:=I.cne
 have tracked:∀ {a:Addr} {h':Heap},(∃ o,s.heap.get? a=some o/\H a=none)->Heap.SameBut a s.heap h'->HOk X.prog X.w H h':=fun {a h'} ha hs b ob e=>by
  obtain⟨_,_,hfree⟩:=ha
  refine (I.hok b ob e).stay (fun c w' hc q=>(hs.2 c ?_).trans q) (fun _ q=>q) fun _ _ q=>q
  rintro rfl
  rcases hc with rfl|hc
  ·rw [hfree] at e;cases e
  ·rw [hfree] at hc;cases hc
 rcases hx with hk|hk
 ·refine wpAny_storeName_local hk hn (fun h' hn' hs=>?_) hcls
  obtain⟨oL,_,_,hoL,_⟩:=id hn
  refine h _ ⟨I.ok,I.os,I.bare,⟨fun b o e n hb hx=>?_,fun b o e n hb hx=>?_,I.base.free,fun b o e hx=>?_,I.base.tups,I.base.frzs,I.base.tbls⟩,⟨_,hn',fun j y v' e1 e2 e3=>?_⟩,fun y c e=>?_,I.free,I.freeC,fun p hp=>?_,tracked ⟨oL,hoL,I.free⟩ hs,by simpa using I.len⟩ ⟨_,hs,.inl rfl⟩
  ·exact (hs.2 b (Nat.ne_of_lt (Nat.lt_of_lt_of_le (Heap.lt_size e) I.ok.above))).trans (I.base.keep b o e n hb hx)
  ·obtain⟨sl,e1⟩:=I.base.slot b o e n hb hx
   exact⟨sl,(hs.2 b (Nat.ne_of_lt (Nat.lt_of_lt_of_le (Heap.lt_size e) I.ok.above))).trans e1⟩
  ·obtain⟨o',e1⟩:=I.base.there b o e hx
   exact⟨o',(hs.2 b (Nat.ne_of_lt (Nat.lt_of_lt_of_le (Heap.lt_size e) I.ok.above))).trans e1⟩
  ·by_cases hj:j=i
   ·subst hj
    rw [hi] at e1;cases e1
    rw [List.getElem?_set_self hiσ] at e2
    cases e2
    exact⟨u,r,.inl ⟨hk,by simp⟩⟩
   ·rw [List.getElem?_set_ne (Ne.symm hj)] at e2
    obtain⟨u',r',q⟩:=hl j y v' e1 e2 e3
    exists u',r'
    rcases q with⟨k,e⟩|⟨k,c,e,z⟩
    ·refine .inl ⟨k,?_⟩
     have:y≠x:=fun e=>hj (jIg hN e1 (e ▸ hi))
     simp [this,e]
    ·exact .inr ⟨k,c,e,z.sameBut hs (cne y c e)⟩
  ·obtain⟨w',z⟩:=I.cell y c e
   exact⟨w',z.sameBut hs (cne y c e)⟩
  ·obtain⟨e,n,ne,nf,d⟩:=I.pin p hp
   exact⟨(hs.2 p.1 ne).trans e,n,ne,nf,d⟩
 ·have hfn:X.fn x=true:=by
   rcases hf with z|z
   ·exact z
   ·rw [z] at hk;cases hk
  obtain⟨c,hc⟩:=I.ok.has x (.inl hk)
  obtain⟨w',z⟩:=I.cell x c hc
  refine wpAny_storeName_cell I.ok.kind hk hc z (fun h' hc' hs=>?_)
  obtain⟨oc,hoc,hocd⟩:=id z
  refine h { s with heap:=h' } ⟨I.ok,I.os,I.bare,⟨fun b o e n hb hx=>?_,fun b o e n hb hx=>?_,I.base.free,fun b o e hx=>?_,I.base.tups,I.base.frzs,I.base.tbls⟩,⟨m,hn.sameBut hs (Ne.symm (cne x c hc)),fun j y v' e1 e2 e3=>?_⟩,fun y c' e=>?_,I.free,I.freeC,fun p hp=>?_,tracked ⟨oc,hoc,I.freeC x c hc⟩ hs,by simpa using I.len⟩ ⟨c,hs,.inr hc⟩
  ·exact (hs.2 b (Nat.ne_of_lt (Nat.lt_of_lt_of_le (Heap.lt_size e) (I.ok.cab x c hfn hc)))).trans (I.base.keep b o e n hb hx)
  ·obtain⟨sl,e1⟩:=I.base.slot b o e n hb hx
   exact⟨sl,(hs.2 b (Nat.ne_of_lt (Nat.lt_of_lt_of_le (Heap.lt_size e) (I.ok.cab x c hfn hc)))).trans e1⟩
  ·obtain⟨o',e1⟩:=I.base.there b o e hx
   exact⟨o',(hs.2 b (Nat.ne_of_lt (Nat.lt_of_lt_of_le (Heap.lt_size e) (I.ok.cab x c hfn hc)))).trans e1⟩
  ·by_cases hj:j=i
   ·subst hj
    rw [hi] at e1;cases e1
    rw [List.getElem?_set_self hiσ] at e2
    cases e2
    exact⟨u,r,.inr ⟨.inl hk,c,hc,hc'⟩⟩
   ·rw [List.getElem?_set_ne (Ne.symm hj)] at e2
    obtain⟨u',r',q⟩:=hl j y v' e1 e2 e3
    exists u',r'
    rcases q with q|⟨k,c',e,z'⟩
    ·exact .inl q
    ·refine .inr ⟨k,c',e,z'.sameBut hs ?_⟩
     rintro rfl
     exact hj (jIg hN e1 (I.ok.inj _ _ _ e hc ▸ hi))
  ·by_cases hcc:c'=c
   ·subst hcc;exact⟨_,hc'⟩
   ·obtain⟨w2,z2⟩:=I.cell y c' e
    exact⟨w2,z2.sameBut hs hcc⟩
  ·obtain⟨e,n,ne,nf,d⟩:=I.pin p hp
   refine⟨(hs.2 p.1 ?_).trans e,n,ne,nf,d⟩
   intro q
   rw [q,hoc] at e
   have q':oc=p.2:=Option.some.inj e
   exact d w' (by rw [<- q'];exact hocd)
theorem jFh{M:Model}{A:Around}{E:Value->Shared->Prop}{i:Nat}{x:Str}{v:V}{u:Value}{Q:Unit->Shared->Prop}(I:Inv X pins σ H s)(hN:X.N.Nodup)(hi:X.N[i]?=some x)(hx:Loc X.env.scope x)(r:jAA v u)
 (h:∀ s',Inv X pins (σ.set i (some v)) H s'->Q () s') (hf:X.fn x=true\/X.env.scope.names.lookup x=some .local:=by first|exact .inl rfl|exact .inr rfl|assumption):wpAny M A (storeName X.env x u) Q E s :=
 jM9 I hN hi hx r (fun s' I' _=>h s' I') hf
theorem Inv.call'{s':Shared}{ch:List Addr}(I:Inv X pins σ H s)(ho:s'.os=s.os)(u:Un (frs X.stack) ch H H' s.heap s'.heap)(hok:HOk X.prog X.w H' s'.heap)(hg:AllBare s'.gens)
 (hch:∀ b∈ch,(b∈X.ex\/X.s₀.heap.objs.size<=b)/\b≠X.env.locals/\(∀ x c,X.env.cells.lookup x=some c->c≠b)/\∀ p∈X.pn++pins,p.1≠b):Inv X pins σ H' s':=by
 obtain⟨h',g',d',t',o'⟩:=s'
 have e:o'=s.os:=ho
 subst e
 exact I.call (g':=g') (t':=t') (d':=d') u hok hg hch
end
abbrev XK:=Value->Option Addr->Hp->Prop
abbrev St:=List (Option V)
abbrev VK:=V->Hp->Prop
abbrev TE:=St->Hp->VK->Prop
abbrev TT:=St->Hp->(Bool->Hp->Prop)->Prop
abbrev TA:=St->Hp->(List V->Hp->Prop)->Prop
structure jBR where
 nx:St->Hp->Prop
 rt:VK
 bk:St->Hp->Prop:=fun _ _=>False
 ct:St->Hp->Prop:=fun _ _=>False
abbrev TS:=jBR->St->Hp->Prop
def EP(X:Cx)(pins:List (Addr×Obj))(σ:St)(Q:VK)(u:Value)(s':Shared):Prop:=∃ v H',Inv X pins σ H' s'/\jAA v u/\Q v H'
def TP(X:Cx)(pins:List (Addr×Obj))(σ:St)(Q:Bool->Hp->Prop)(b:Bool)(s':Shared):Prop:=∃ H',Inv X pins σ H' s'/\Q b H'
def AP(X:Cx)(pins:List (Addr×Obj))(σ:St)(Q:List V->Hp->Prop)(us:List Value)(s':Shared):Prop:=∃ vs H',Inv X pins σ H' s'/\jAH vs us/\Q vs H'
def SP(X:Cx)(pins:List (Addr×Obj))(D:jBR)(f:Flow)(s':Shared):Prop :=
 match f with
 | .next=>∃ σ' H',Inv X pins σ' H' s'/\D.nx σ' H'
 | .brk=>∃ σ' H',Inv X pins σ' H' s'/\D.bk σ' H'
 | .cont=>∃ σ' H',Inv X pins σ' H' s'/\D.ct σ' H'
 | .ret u=>∃ v σ' H',Inv X pins σ' H' s'/\jAA v u/\D.rt v H'
def PE(X:Cx)(e:Expr)(t:TE):Prop :=
 ∀ (pins:List (Addr×Obj)) (s:Shared) (σ:St) (H:Hp) (Q:VK),Inv X pins σ H s->t σ H Q->wpAny (model X.prog X.w) X.A (eval e X.env) (EP X pins σ Q) X.xe s
def PT(X:Cx)(e:Expr)(t:TT):Prop :=
 ∀ (pins:List (Addr×Obj)) (s:Shared) (σ:St) (H:Hp) (Q:Bool->Hp->Prop),Inv X pins σ H s->t σ H Q->wpAny (model X.prog X.w) X.A (isTrue e X.env (eval e X.env)) (TP X pins σ Q) X.xe s
def PW(X:Cx)(e:Expr)(t:TT):Prop :=
 ∀ (whole:Sem Value) (pins:List (Addr×Obj)) (s:Shared) (σ:St) (H:Hp) (Q:Bool->Hp->Prop),Inv X pins σ H s->t σ H Q->wpAny (model X.prog X.w) X.A (isTrue e X.env whole) (TP X pins σ Q) X.xe s
theorem PW.pt{X:Cx}{e:Expr}{t:TT}(h:PW X e t):PT X e t:=h _
def PA(X:Cx)(es:List Expr)(t:TA):Prop :=
 ∀ (pos:Pos) (pins:List (Addr×Obj)) (s:Shared) (σ:St) (H:Hp) (Q:List V->Hp->Prop),Inv X pins σ H s->t σ H Q->wpAny (model X.prog X.w) X.A (spliced (backTo pos (starEach es X.env))) (AP X pins σ Q) X.xe s
def PS(X:Cx)(st:Stmt)(t:TS):Prop :=
 ∀ (pins:List (Addr×Obj)) (s:Shared) (σ:St) (H:Hp) (D:jBR),Inv X pins σ H s->t D σ H->wpAny (model X.prog X.w) X.A (exec st X.env) (SP X pins D) X.xe s
def PSs(X:Cx)(st:List Stmt)(t:TS):Prop :=
 ∀ (pins:List (Addr×Obj)) (s:Shared) (σ:St) (H:Hp) (D:jBR),Inv X pins σ H s->t D σ H->wpAny (model X.prog X.w) X.A (execs st X.env) (SP X pins D) X.xe s
theorem thn{α:Type}{t:Sem α}{Q Q':α->Shared->Prop}{M:Model}{A:Around}{E:Value->Shared->Prop}{s:Shared}(h:wpAny M A t Q E s)(hQ:∀ a s,Q a s->Q' a s):wpAny M A t Q' E s:=wpAny_mono h hQ fun _ _ x=>x
section
variable {X:Cx}
inductive tVar(i:Nat)(σ:St)(H:Hp)(Q:VK):Prop|mk v:σ[i]?=some (some v)->Q v H->tVar i σ H Q
def tC(v:V):TE:=fun _ H Q=>Q v H
theorem pe_var{i:Nat}{x:Str}{pos:Pos}(hN:X.N[i]?=some x)(hv:Vis X.env.scope x)(hd:(x==("__debug__":Str))=false:=by decide)(hcd:(x==("__classdict__":Str))=false:=by decide):PE X (.Name x pos) (tVar i):=by
 intro pins s σ H Q I h
 obtain⟨v,e,h⟩:=h
 obtain⟨m,hn,hl⟩:=I.loc
 obtain⟨u,r,l⟩:=hl i x v hN e hv
 have fin:EP X pins σ Q u s:=⟨v,H,I,r,h⟩
 rcases l with⟨hk,hm⟩|⟨hk,c,hc,hcell⟩
 ·exact wpAny_Name (wpAny_loadName_local I.ok.kind hk hn hm fin) hd
 ·rcases hk with hk|hk
  ·exact wpAny_Name (wpAny_loadName_cell I.ok.kind hk hc hcell fin) hd
  ·exact wpAny_Name (wpAny_loadName_free I.ok.kind hk hc hcell fin hcd) hd
theorem jAe{i j pos}:PE X (.Constant (.int i) j pos) (tC (.int i)):=fun _ _ _ H _ I h=>wpAny_Constant_int ⟨.int i,H,I.tok _,⟨_,rfl⟩,h⟩
theorem jBc{b j pos}:PE X (.Constant (.bool b) j pos) (tC (.bl b)):=fun _ _ _ H _ I h=>Constant_bool ⟨.bl b,H,I,rfl,h⟩
theorem jBk{j pos}:PE X (.Constant .none j pos) (tC .non):=fun _ _ _ H _ I h=>Constant_none ⟨.non,H,I,rfl,h⟩
theorem jAm{x j pos}:PE X (.Constant (.str x) j pos) (tC (.str x)):=fun _ _ _ H _ I h=>Calls.Constant_str ⟨.str x,H,I.tok _,⟨_,rfl⟩,h⟩
def Gl(X:Cx)(x:Str):Prop:=X.env.kindOf x=some .globalImplicit
theorem jCF{E:Value->Shared->Prop}{pins:List (Addr×Obj)}{s:Shared}{σ:St}{H:Hp}{x:Str}{u:Value}{pos:Pos}{Q:Value->Shared->Prop}(I:Inv X pins σ H s)(hg:Gl X x)(hm:X.mg x=some u)(h:Q u s)
 (hd:(x==("__debug__":Str))=false:=by decide):wpAny (model X.prog X.w) X.A (eval (.Name x pos) X.env) Q E s :=
 Calls.Name_function_global I.ok.kind hg (Calls.loadGlobal_global (by rw [I.ok.glob];exact I.mod.glob.keeps I.bk) hm h) hd
theorem jGn{E:Value->Shared->Prop}{pins:List (Addr×Obj)}{s:Shared}{σ:St}{H:Hp}{x:Str}{u:Value}{pos:Pos}{Q:Value->Shared->Prop}(I:Inv X pins σ H s)(hg:Gl X x)(hm:X.mg x=none)(hv:bootBuiltins x=some u)(h:Q u s)
 (hn:x≠"__name__":=by decide) (hd:(x==("__debug__":Str))=false:=by decide):wpAny (model X.prog X.w) X.A (eval (.Name x pos) X.env) Q E s:=by
 obtain⟨mb,h1,h2⟩:=I.mod.blt
 exact Calls.Name_function_global I.ok.kind hg (Calls.loadGlobal_builtin (by rw [I.ok.glob];exact I.mod.glob.keeps I.bk) hm (by rw [I.ok.blt];exact h1.keeps I.bk) ((h2 x hn).trans hv) h) hd
theorem jBy{x:Str}{v:V}{u:Value}{pos:Pos}(hg:Gl X x)(hm:X.mg x=some u)(r:jAA v u)(hd:(x==("__debug__":Str))=false:=by decide):PE X (.Name x pos) (tC v) :=
 fun _ _ _ H _ I h=>jCF I hg hm ⟨v,H,I,r,h⟩ hd
theorem pe_bltn{x:Str}{v:V}{u:Value}{pos:Pos}(hg:Gl X x)(hm:X.mg x=none)(hv:bootBuiltins x=some u)(r:jAA v u)(hn:x≠"__name__":=by decide)(hd:(x==("__debug__":Str))=false:=by decide):PE X (.Name x pos) (tC v) :=
 fun _ _ _ H _ I h=>jGn I hg hm hv ⟨v,H,I,r,h⟩ hn hd
variable {a b:Expr}{ta tb:TE}{pos:Pos}
def PC(X:Cx)(op:CmpOp)(a b:Expr)(t:TE):Prop :=
 ∀ (pins:List (Addr×Obj)) (s:Shared) (σ:St) (H:Hp) (Q:VK),Inv X pins σ H s->t σ H Q ->
  wpAny (model X.prog X.w) X.A (eval a X.env) (fun v s₁=>wpAny (model X.prog X.w) X.A (eval b X.env) (fun u s₂=>wpAny (model X.prog X.w) X.A (compareOp op v u) (EP X pins σ Q) X.xe s₂) X.xe s₁) X.xe s
theorem jN2(b:Expr){op:CmpOp}(h:op≠.In)(h2:op≠.NotIn):behindInMarks op b=false:=by
 have e1:(op==CmpOp.In)=false:=by cases op<;>first|rfl|exact absurd rfl h
 have e2:(op==CmpOp.NotIn)=false:=by cases op<;>first|rfl|exact absurd rfl h2
 cases b<;>simp [behindInMarks,e1,e2]
inductive ItB(Q:Bool->Hp->Prop)(x:V)(H1:Hp):Prop|mk c:x=.bl c->Q c H1->ItB Q x H1
def tB(t:TE):TT:=fun σ H Q=>t σ H fun x H1=>ItB Q x H1
theorem jM_{op:CmpOp}{t:TE}(h:PC X op a b t)(h1:behindInMarks op b=false:=by first|exact jN2 _ (by decide) (by decide)|rfl):PT X (.Compare a [op] [b] pos) (tB t):=by
 intro pins s σ H Q I hw
 refine wpAny_isTrue_Compare1 (thn (h pins s σ H _ I hw) fun v s1 h1=>thn h1 fun u s2 h2=>thn h2 fun c s3 ⟨x,H1,I1,r1,q1⟩=>?_) h1
 obtain⟨d,rfl,q⟩:=q1
 cases r1
 exact wpAny_truthy_bool ⟨H1,I1,q⟩
variable {tA tB':TT}{rest:List Expr}
def tAnd(t u:TT):TT:=fun σ H Q=>t σ H fun c H1=>if c=true then u σ H1 Q else Q false H1
def tOr(t u:TT):TT:=fun σ H Q=>t σ H fun c H1=>if c=true then Q true H1 else u σ H1 Q
def tNot(t:TT):TT:=fun σ H Q=>t σ H fun c H1=>Q (!c) H1
theorem jDI(ha:PT X a tA):PW X (.BoolOp .And [a] pos) tA:=by
 intro wh pins s σ H Q I h
 refine isTrue_and (thn (ha pins s σ H Q I h) fun c s1 e=>?_)
 cases c with
 | true=>exact isTrue_and_nil e
 | false=>exact e
theorem jK1(ha:PT X a tA):PW X (.BoolOp .Or [a] pos) tA:=by
 intro wh pins s σ H Q I h
 refine isTrue_or (thn (ha pins s σ H Q I h) fun c s1 e=>?_)
 cases c with
 | false=>exact isTrue_or_nil e
 | true=>exact e
theorem jEq(ha:PT X a tA)(hb:PW X (.BoolOp .And (b::rest) pos) tB'):PW X (.BoolOp .And (a::b::rest) pos) (tAnd tA tB'):=by
 intro wh pins s σ H Q I h
 refine isTrue_and (thn (ha pins s σ H _ I h) fun c s1 ⟨H1,I1,q1⟩=>?_)
 cases c with
 | true=>exact hb wh pins s1 σ H1 Q I1 q1
 | false=>exact⟨H1,I1,q1⟩
theorem pw_or(ha:PT X a tA)(hb:PW X (.BoolOp .Or (b::rest) pos) tB'):PW X (.BoolOp .Or (a::b::rest) pos) (tOr tA tB'):=by
 intro wh pins s σ H Q I h
 refine isTrue_or (thn (ha pins s σ H _ I h) fun c s1 ⟨H1,I1,q1⟩=>?_)
 cases c with
 | true=>exact⟨H1,I1,q1⟩
 | false=>exact hb wh pins s1 σ H1 Q I1 q1
theorem jB9(ha:PT X a tA):PT X (.UnaryOp .Not a pos) (tNot tA):=by
 intro pins s σ H Q I h
 exact isTrue_not (ha pins s σ H (fun c H1=>Q (!c) H1) I h)
def tAndV(ta tb:TE):TE:=fun σ H Q=>ta σ H fun x H1=>∃ c,x=.bl c/\if c=true then tb σ H1 Q else Q (.bl false) H1
def tNotV(ta:TE):TE:=fun σ H Q=>ta σ H fun x H1=>∃ c,x=.bl c/\Q (.bl (!c)) H1
theorem jIs{op}{t:TE}(h:PE X a t):PE X (.BoolOp op [a] pos) t:=fun pins s σ H Q I hw=>BoolOp_one (h pins s σ H Q I hw)
theorem jIt(ha:PE X a ta)(hb:PE X (.BoolOp .And (b::rest) pos) tb):PE X (.BoolOp .And (a::b::rest) pos) (tAndV ta tb):=by
 intro pins s σ H Q I h
 refine BoolOp_and (thn (ha pins s σ H _ I h) fun v s1 ⟨x,H1,I1,r1,q1⟩=>?_)
 obtain⟨c,rfl,q1⟩:=q1
 cases r1
 refine wpAny_truthy_bool ?_
 cases c with
 | true=>exact hb pins s1 σ H1 Q I1 q1
 | false=>exact⟨.bl false,H1,I1,rfl,q1⟩
theorem pe_not(ha:PE X a ta):PE X (.UnaryOp .Not a pos) (tNotV ta):=by
 intro pins s σ H Q I h
 refine UnaryOp_ (thn (ha pins s σ H _ I h) fun v s1 ⟨x,H1,I1,r1,q1⟩=>?_)
 obtain⟨c,rfl,q1⟩:=q1
 cases r1
 exact not_of (wpAny_truthy_bool ⟨.bl (!c),H1,I1,rfl,q1⟩)
def tIf(t:TT)(ta tb:TE):TE:=fun σ H Q=>t σ H fun c H1=>if c=true then ta σ H1 Q else tb σ H1 Q
theorem jCv{c:Expr}(hc:PT X c tA)(ha:PE X a ta)(hb:PE X b tb):PE X (.IfExp c a b pos) (tIf tA ta tb):=by
 intro pins s σ H Q I h
 refine wpAny_IfExp (thn (hc pins s σ H _ I h) fun d s1 ⟨H1,I1,q1⟩=>?_)
 cases d with
 | true=>exact ha pins s1 σ H1 Q I1 q1
 | false=>exact hb pins s1 σ H1 Q I1 q1
end
def SqL(K:PySem.W.Frag)(H:Hp)(a:Addr)(xs:List V):Prop :=
 Rd H a (.lst xs) \/
  ∃ (o:Obj) (its:Array Value) (n:Nat),K.lookup a=some o/\o.cls=.type "list"/\o.dict=none/\o.data=.seq its n/\its.size<=sizeLine/\jAH xs its.toList
def SqT(K:PySem.W.Frag)(H:Hp)(a:Addr)(xs:List V):Prop :=
 Rd H a (.tup xs) \/
  ∃ (o:Obj) (its:Array Value) (n:Nat),K.lookup a=some o/\o.cls=.type "tuple"/\o.data=.seq its n/\its.size<=sizeLine/\jAH xs its.toList
def absV:Value->Option V
 | .none=>some .non
 | .bool b=>some (.bl b)
 | .int i _=>some (.int i)
 | .str x _=>some (.str x)
 | .bytes b _=>some (.byt b)
 | .float b _=>some (.flt b)
 | .ref a=>some (.ref a)
 | .type n=>some (.ty n)
 | _=>none
theorem jAA.abs{x:V}{u:Value}(r:jAA x u):absV u=some x:=by
 cases x with
 | non=>cases r;rfl
 | bl _=>cases r;rfl
 | int _=>obtain⟨t,rfl⟩:=r;rfl
 | str _=>obtain⟨t,rfl⟩:=r;rfl
 | byt _=>obtain⟨t,rfl⟩:=r;rfl
 | flt _=>obtain⟨t,rfl⟩:=r;rfl
 | ref _=>cases r;rfl
 | ty _=>cases r;rfl
theorem jAA.inj{x y:V}{u:Value}(r:jAA x u)(q:jAA y u):x=y:=Option.some.inj (r.abs.symm.trans q.abs)
theorem jAH.inj:∀ {xs ys:List V} {us:List Value},jAH xs us->jAH ys us->xs=ys
 | _,_,_,.nil,.nil=>rfl
 | _,_,_,.cons r t,.cons r' t'=>by rw [r.inj r',jAH.inj t t']
section
variable {X:Cx}{pins:List (Addr×Obj)}{σ:St}{H:Hp}{s:Shared}{a:Addr}{xs ys:List V}
theorem SqL.of{K:PySem.W.Frag}(h:H a=some (.lst xs)):SqL K H a xs:=.inl (.inl h)
theorem SqT.of{K:PySem.W.Frag}(h:H a=some (.tup xs)):SqT K H a xs:=.inl (.inl h)
theorem Inv.list(I:Inv X pins σ H s)(h:SqL X.K H a xs):∃ its:List Value,jAH xs its/\PlainL s.heap a its.toArray/\xs.length<=sizeLine:=by
 rcases h with h|⟨o,its,n,hk,hc,hd,hs,hz,r⟩
 ·obtain⟨z,its,n,r,e⟩:=h.ok I.hok
  exact⟨its,r,⟨_,n,e,rfl,rfl,rfl⟩,z⟩
 ·exists its.toList,r,⟨o,n,I.kIn a o hk,hc,hd,by simpa using hs⟩
  have e:=r.length
  simp only [Array.length_toList] at e
  omega
theorem Inv.tuple(I:Inv X pins σ H s)(h:SqT X.K H a xs):∃ its:List Value,jAH xs its/\IsTup s.heap a its.toArray/\xs.length<=sizeLine:=by
 rcases h with h|⟨o,its,n,hk,hc,hs,hz,r⟩
 ·obtain⟨z,its,r,p⟩:=h.ok I.hok
  exact⟨its,r,p,z⟩
 ·exists its.toList,r,⟨o,I.kIn a o hk,hc,n,by simpa using hs⟩
  have e:=r.length
  simp only [Array.length_toList] at e
  omega
theorem Inv.list_inj(I:Inv X pins σ H s)(h:SqL X.K H a xs)(h':SqL X.K H a ys):xs=ys:=by
 obtain⟨its,r,⟨o,n,e,_,_,d⟩,_⟩:=I.list h
 obtain⟨its',r',⟨o',n',e',_,_,d'⟩,_⟩:=I.list h'
 rw [e] at e';cases e'
 rw [d] at d'
 injection d' with d1 _
 have:its=its':=by simpa using congrArg Array.toList d1
 subst this
 exact r.inj r'
end
abbrev Cx.wish(X:Cx)(E:Value->Shared->Prop):Cx:={ X with xe:=E }
abbrev Cx.nox(X:Cx):Cx:=X.wish fun _ _=>False
theorem Cx.Ok.wish{X:Cx}(ok:X.Ok)(E:Value->Shared->Prop):(X.wish E).Ok :=
 ⟨ok.mod,ok.kind,ok.glob,ok.blt,ok.above,ok.inj,ok.has,ok.cab,ok.hd,ok.frames,ok.stk,ok.exf,ok.bs,ok.bsz,ok.noex,ok.exfs,ok.funs,ok.frf⟩
theorem Cx.Ok.unwish{X:Cx}{E:Value->Shared->Prop}(ok:(X.wish E).Ok):X.Ok :=
 ⟨ok.mod,ok.kind,ok.glob,ok.blt,ok.above,ok.inj,ok.has,ok.cab,ok.hd,ok.frames,ok.stk,ok.exf,ok.bs,ok.bsz,ok.noex,ok.exfs,ok.funs,ok.frf⟩
section
variable {X:Cx}{pins:List (Addr×Obj)}{σ:St}{H:Hp}{s:Shared}{E:Value->Shared->Prop}
theorem Inv.wish(I:Inv X pins σ H s)(E:Value->Shared->Prop):Inv (X.wish E) pins σ H s:=⟨I.ok.wish E,I.os,I.bare,I.base,I.loc,I.cell,I.free,I.freeC,I.pin,I.hok,I.len⟩
theorem Inv.unwish(I:Inv (X.wish E) pins σ H s):Inv X pins σ H s:=⟨I.ok.unwish,I.os,I.bare,I.base,I.loc,I.cell,I.free,I.freeC,I.pin,I.hok,I.len⟩
theorem SP.unwish{D:jBR}{f:Flow}{s':Shared}(h:SP (X.wish E) pins D f s'):SP X pins D f s':=by
 cases f with
 | next=>obtain⟨σ',H',I,q⟩:=h;exact⟨σ',H',I.unwish,q⟩
 | brk=>obtain⟨σ',H',I,q⟩:=h;exact⟨σ',H',I.unwish,q⟩
 | cont=>obtain⟨σ',H',I,q⟩:=h;exact⟨σ',H',I.unwish,q⟩
 | ret u=>obtain⟨v,σ',H',I,r,q⟩:=h;exact⟨v,σ',H',I.unwish,r,q⟩
theorem PSs.nox{st:List Stmt}{t:TS}(h:PSs X.nox st t):PSs X st t:=fun pins s σ H D I hw =>
 wpAny_mono (h pins s σ H D (I.wish _) hw) (fun _ _ q=>q.unwish) fun _ _ z=>False.elim z
end
section
variable {X:Cx}{st:Stmt}{rest:List Stmt}{t u:TS}{e:Expr}{te:TE}{pos:Pos}
def tNext:TS:=fun D σ H=>D.nx σ H
def jFX(t u:TS):TS:=fun D σ H=>t { D with nx:=u D } σ H
theorem jAw:PSs X [] tNext:=fun _ _ σ H _ I h=>wpAny_execs_nil ⟨σ,H,I,h⟩
theorem jAd(h1:PS X st t)(h2:PSs X rest u):PSs X (st::rest) (jFX t u):=by
 intro pins s σ H D I h
 refine wpAny_execs_cons (thn (h1 pins s σ H { D with nx:=u D } I h) fun f s1 q=>?_)
 cases f with
 | next =>
   obtain⟨σ',H',I',q⟩:=q
   exact h2 pins s1 σ' H' D I' q
 | ret v=>exact q
 | brk=>exact q
 | cont=>exact q
theorem jAf(h1:PS X st t):PSs X [st] t:=by
 intro pins s σ H D I h
 refine wpAny_execs_cons (thn (h1 pins s σ H D I h) fun f s1 q=>?_)
 cases f with
 | next=>exact wpAny_execs_nil q
 | ret v=>exact q
 | brk=>exact q
 | cont=>exact q
theorem Inv.quiet{pins:List (Addr×Obj)}{σ:St}{H:Hp}{s:Shared}(I:Inv X pins σ H s):interactive X.env=false:=by simp [interactive,I.ok.kind]
def tDrop(te:TE):TS:=fun D σ H=>te σ H fun _ H1=>D.nx σ H1
theorem jAy(he:PE X e te)(hs:swapsWith e none pos.line X.env=pure false:=by rfl):PS X (.Expr e pos) (tDrop te):=by
 intro pins s σ H D I h
 exact wpAny_Expr_any (thn (he pins s σ H _ I h) fun v s1 ⟨x,H1,I1,r1,q1⟩=>⟨σ,H1,I1,q1⟩) I.quiet hs
def tRet(te:TE):TS:=fun D σ H=>te σ H D.rt
theorem jAo(he:PE X e te):PS X (.Return (some e) pos) (tRet te):=by
 intro pins s σ H D I h
 exact wpAny_Return_some (thn (he pins s σ H _ I h) fun v s1 ⟨x,H1,I1,r1,q1⟩=>⟨x,σ,H1,I1,r1,q1⟩)
def tIfS(c:TT)(t u:TS):TS:=fun D σ H=>c σ H fun b H1=>if b=true then t D σ H1 else u D σ H1
theorem jAE{c:Expr}{a b:List Stmt}{tc:TT}(hc:PT X c tc)(ha:PSs X a t)(hb:PSs X b u):PS X (.If c a b pos) (tIfS tc t u):=by
 intro pins s σ H D I h
 refine wpAny_If (thn (hc pins s σ H _ I h) fun d s1 ⟨H1,I1,q1⟩=>?_)
 cases d with
 | true=>exact ha pins s1 σ H1 D I1 q1
 | false=>exact hb pins s1 σ H1 D I1 q1
end
abbrev TG:=V->St->Hp->(St->Hp->Prop)->Prop
abbrev TGs:=List V->St->Hp->(St->Hp->Prop)->Prop
def PG(X:Cx)(target:Expr)(t:TG):Prop :=
 ∀ (pins:List (Addr×Obj)) (s:Shared) (σ:St) (H:Hp) (v:V) (u:Value) (Q:St->Hp->Prop),Inv X pins σ H s->jAA v u->t v σ H Q ->
  wpAny (model X.prog X.w) X.A (assign target X.env u) (fun _ s'=>∃ σ' H',Inv X pins σ' H' s'/\Q σ' H') X.xe s
def PGs(X:Cx)(ts:List Expr)(t:TGs):Prop :=
 ∀ (pins:List (Addr×Obj)) (s:Shared) (σ:St) (H:Hp) (vs:List V) (us:List Value) (Q:St->Hp->Prop),Inv X pins σ H s->jAH vs us->t vs σ H Q ->
  wpAny (model X.prog X.w) X.A (assignInOrder ((assignEach ts X.env).map (·.2)) us) (fun _ s'=>∃ σ' H',Inv X pins σ' H' s'/\Q σ' H') X.xe s
abbrev TSet:=V->V->V->Hp->(Hp->Prop)->Prop
def PSet(X:Cx)(t:TSet):Prop :=
 ∀ (pins:List (Addr×Obj)) (s:Shared) (σ:St) (H:Hp) (o i v:V) (ov iv u:Value) (Q:Hp->Prop),Inv X pins σ H s->jAA o ov->jAA i iv->jAA v u->t o i v H Q ->
  wpAny (model X.prog X.w) X.A (setItem ov iv u) (fun _ s'=>∃ H',Inv X pins σ H' s'/\Q H') X.xe s
abbrev TIp:=V->V->Hp->VK->Prop
def PIp(X:Cx)(op:Operator)(t:TIp):Prop :=
 ∀ (pins:List (Addr×Obj)) (s:Shared) (σ:St) (H:Hp) (x y:V) (v u:Value) (Q:VK),Inv X pins σ H s->jAA x v->jAA y u->t x y H Q ->
  wpAny (model X.prog X.w) X.A (inplaceOp op v u) (EP X pins σ Q) X.xe s
section
variable {X:Cx}{pos:Pos}
def jBJ(i:Nat):TG:=fun v σ H Q=>Q (σ.set i (some v)) H
theorem jMq{i:Nat}{x:Str}(hN:X.N.Nodup)(hi:X.N[i]?=some x)(hx:Loc X.env.scope x)(hf:X.fn x=true\/X.env.scope.names.lookup x=some .local:=by first|exact .inl rfl|exact .inr rfl|assumption):PG X (.Name x pos) (jBJ i):=by
 intro pins s σ H v u Q I r h
 exact wpAny_assign_Name (jFh I hN hi hx r (fun s' I'=>⟨_,H,I',h⟩) hf)
def gNil:TGs:=fun vs σ H Q=>vs=[]/\Q σ H
inductive gCons(t:TG)(u:TGs)(vs:List V)(σ:St)(H:Hp)(Q:St->Hp->Prop):Prop|mk v r:vs=v::r->(t v σ H fun σ' H'=>u r σ' H' Q)->gCons t u vs σ H Q
theorem jHF:PGs X [] gNil:=by
 intro pins s σ H vs us Q I r h
 obtain⟨e,h⟩:=h
 subst e
 cases r
 exact assignInOrder_nil ⟨σ,H,I,h⟩
theorem jCw{e:Expr}{es:List Expr}{t:TG}{u:TGs}(h1:PG X e t)(h2:PGs X es u)
 (hs:(assignEach (e::es) X.env).map (·.2)=assign e X.env::(assignEach es X.env).map (·.2):=by rfl):PGs X (e::es) (gCons t u):=by
 intro pins s σ H vs us Q I r h
 obtain⟨v,vr,e1,h⟩:=h
 subst e1
 cases r with
 | cons r rr =>
   rw [hs]
   refine assignInOrder_cons (thn (h1 pins s σ H _ _ _ I r h) fun _ s1 ⟨σ1,H1,I1,q1⟩=>?_)
   exact h2 pins s1 σ1 H1 _ _ Q I1 rr q1
inductive gTup(K:PySem.W.Frag)(n:Nat)(t:TGs)(v:V)(σ:St)(H:Hp)(Q:St->Hp->Prop):Prop|mk a xs:v=.ref a->SqT K H a xs->xs.length=n->t xs σ H Q->gTup K n t v σ H Q
theorem jIu{es:List Expr}{k:Nat}{t:TGs}{n:Nat}(hc:X.calm=true)(h:PGs X es t)
 (hn:(assignEach es X.env).length=n:=by rfl) (hst:(assignEach es X.env).findIdx? (·.1)=none:=by rfl):PG X (.Tuple es k pos) (gTup X.K n t):=by
 intro pins s σ H v u Q I r hw
 obtain⟨a,xs,e1,hq,hl,hw⟩:=hw
 subst e1
 cases r
 obtain⟨its,rv,ht,hz⟩:=I.tuple hq
 refine assign_Tuple_tuple (I.ok.hd hc) ht (by simp [hn,<- hl,rv.length]) hst fun h' hx=>?_
 have I1:Inv X pins σ H { s with heap:=h' }:=I.kept (t':=s.toks) fun b o e=>hx b o (Nat.ne_of_lt (Heap.lt_size e)) e
 exact h pins _ σ H xs _ Q I1 (by simpa using rv) hw
def tAsg(te:TE)(g:TG):TS:=fun D σ H=>te σ H fun x H1=>g x σ H1 D.nx
theorem ps_set{i:Nat}{x:Str}{e:Expr}{te:TE}{pos':Pos}(hN:X.N.Nodup)(hi:X.N[i]?=some x)(hx:Loc X.env.scope x)(he:PE X e te)(hs:swapsWith e (some (.Name x pos')) pos.line X.env=pure false:=by rfl)(hf:X.fn x=true\/X.env.scope.names.lookup x=some .local:=by first|exact .inl rfl|exact .inr rfl|assumption) :
 PS X (.Assign [.Name x pos'] e pos) (tAsg te (jBJ i)):=by
 intro pins s σ H D I h
 refine wpAny_Assign_Name (thn (he pins s σ H _ I h) fun v s1 ⟨y,H1,I1,r1,q1⟩=>?_) hs
 exact jFh I1 hN hi hx r1 (fun s2 I2=>⟨_,H1,I2,q1⟩) hf
def ipI(f:Int->Int->Int):TIp:=fun x y H Q=>∃ i j,x=.int i/\y=.int j/\Q (.int (f i j)) H
theorem ip_add:PIp X .Add (ipI fun i j=>i+j):=by
 intro pins s σ H x y v u Q I r1 r2 h
 obtain⟨i,j,e1,e2,q⟩:=h
 subst e1;subst e2
 obtain⟨t,rfl⟩:=r1
 obtain⟨t',rfl⟩:=r2
 exact iadd_int ⟨.int _,H,I.tok _,⟨_,rfl⟩,q⟩
def tWhile(c:TT)(tb:TS):TS:=fun D σ H=>∃ W:Nat->St->Hp->Prop,(∃ m,W m σ H)/\∀ m σ H,W m σ H ->
 c σ H fun b H1=>if b=true then ∃ N:St->Hp->Prop,(∀ σ' H',N σ' H'->∃ m',m'<m/\W m' σ' H')/\tb { D with nx:=N,ct:=N,bk:=D.nx } σ H1 else D.nx σ H1
theorem jN3{c:Expr}{body:List Stmt}{tc:TT}{tb:TS}(hp:PassesOwn (model X.prog X.w) X.A X.env X.xe)(hc:PT X c tc)(hb:PSs X body tb):PS X (.While c body [] pos) (tWhile tc tb):=by
 intro pins s σ H D I h
 obtain⟨W,⟨m0,w0⟩,turn⟩:=h
 refine wpAny_While (codeAny_whileLoop (fun n s'=>∃ σ' H',Inv X pins σ' H' s'/\W n σ' H') ?_ m0 ⟨σ,H,I,w0⟩)
 rintro n s1 ⟨σ1,H1,I1,w1⟩
 refine wpAny_passesOwn hp (thn (hc pins s1 σ1 H1 _ I1 (turn n σ1 H1 w1)) fun b s2 ⟨H2,I2,q2⟩=>?_)
 cases b with
 | true =>
   obtain⟨N,hN,q2⟩:=q2
   rw [if_pos rfl]
   refine wpAny_passesOwn hp (thn (hb pins s2 σ1 H2 _ I2 q2) fun f s3 q3=>?_)
   cases f with
   | next =>
     obtain⟨σ3,H3,I3,n3⟩:=q3
     obtain⟨m',hm,w3⟩:=hN σ3 H3 n3
     exact⟨m',hm,σ3,H3,I3,w3⟩
   | cont =>
     obtain⟨σ3,H3,I3,n3⟩:=q3
     obtain⟨m',hm,w3⟩:=hN σ3 H3 n3
     exact⟨m',hm,σ3,H3,I3,w3⟩
   | brk=>exact q3
   | ret v=>exact q3
 | false =>
   rw [if_neg Bool.false_ne_true]
   exact wpAny_execs_nil ⟨σ1,H2,I2,q2⟩
end
structure It where
 go:Nat->Hp->Prop
 yld:Nat->Hp->V->Hp->Prop
 stop:Nat->Hp->Prop
def jGC(X:Cx)(pins:List (Addr×Obj))(H:Hp)(b:Addr):Prop :=
 H b=none/\b≠X.env.locals/\b ∉ X.fs/\(b∈X.ex\/X.s₀.heap.objs.size<=b)/\(∀ x c,X.env.cells.lookup x=some c->c≠b)/\∀ p∈X.pn++pins,p.1≠b
theorem Inv.fpOk{X:Cx}{pins:List (Addr×Obj)}{σ:St}{H H':Hp}{s:Shared}{b:Addr}(I:Inv X pins σ H s)(hb:s.heap.objs.size<=b)(hn:H' b=none):jGC X pins H' b:=by
 refine⟨hn,Nat.ne_of_gt (Nat.lt_of_lt_of_le I.lt hb),I.nofs hb,.inr (Nat.le_trans I.sz hb),fun x c e z=>?_,fun p hp z=>?_⟩
 ·obtain⟨v,q⟩:=I.cell x c e
  exact absurd (Nat.lt_of_lt_of_le q.lt (by rw [z];exact hb)) (Nat.lt_irrefl _)
 ·exact absurd (Nat.lt_of_lt_of_le (Heap.lt_size (I.pin p hp).1) (by rw [z];exact hb)) (Nat.lt_irrefl _)
structure Turn(P:Program)(w:World)(K:PySem.W.Frag)(tg:Expr)(J:It)(fp:List Addr)(it:Addr)(tn:Nat->Heap->Prop):Prop where
 mem:it∈fp
 obj:∀ i h,tn i h->∀ b∈fp,∃ o,h.get? b=some o/\∀ v,o.data≠.cell v
 keep:∀ i h h',tn i h->(∀ b∈fp,∀ o,h.get? b=some o->h'.get? b=some o)->tn i h'
 item:∀ (X:Cx),X.prog=P->X.w=w->X.K=K->X.calm=true->∀ (i:Nat) (pins:List (Addr×Obj)) (s:Shared) (σ:St) (H:Hp) (E:Value->Shared->Prop),Inv X pins σ H s->(∀ b∈fp,jGC X pins H b)->tn i s.heap->J.go i H ->
  wpAny (model P w) X.A (pyNext (.ref it)) (fun r s1=>∃ u,r=some u /\
   wpAny (model P w) X.A (letOwnedTupleGo tg (.ref it) u) (fun _ s2=>∃ x H',Inv X pins σ H' s2/\jAA x u/\J.yld i H x H'/\tn (i+1) s2.heap/\∀ b∈fp,H' b=none) E s1) E s
 done:∀ (X:Cx),X.prog=P->X.w=w->X.K=K->X.calm=true->∀ (i:Nat) (pins:List (Addr×Obj)) (s:Shared) (σ:St) (H:Hp) (E:Value->Shared->Prop),Inv X pins σ H s->(∀ b∈fp,jGC X pins H b)->tn i s.heap->J.stop i H ->
  wpAny (model P w) X.A (pyNext (.ref it)) (fun r s1=>r=none/\Inv X pins σ H s1) E s
 self:∀ (A:Around) (i:Nat) (s:Shared) (Q:Value->Shared->Prop) (E:Value->Shared->Prop),tn i s.heap->Q (.ref it) s->wpAny (model P w) A (pyIter (.ref it)) Q E s
abbrev TI:=St->Hp->(It->Hp->Prop)->Prop
def PIE(X:Cx)(pins:List (Addr×Obj))(σ:St)(tg:Expr)(R:It->Hp->Prop)(itv:Value)(s2:Shared):Prop :=
 ∃ (it:Addr) (fp:List Addr) (tn:Nat->Heap->Prop) (J:It) (H':Hp),itv=.ref it/\Inv X pins σ H' s2/\Turn X.prog X.w X.K tg J fp it tn/\tn 0 s2.heap/\(∀ b∈fp,jGC X pins H' b)/\R J H'
def PI(X:Cx)(tg iter:Expr)(wi:TI):Prop :=
 ∀ (pins:List (Addr×Obj)) (s:Shared) (σ:St) (H:Hp) (R:It->Hp->Prop),Inv X pins σ H s->wi σ H R ->
  wpAny (model X.prog X.w) X.A (eval iter X.env) (fun v s1=>wpAny (model X.prog X.w) X.A (pyIter v) (PIE X pins σ tg R) X.xe s1) X.xe s
theorem jKT{M:Model}{A:Around}{E:Value->Shared->Prop}{s:Shared}{tg:Expr}{it:Addr}{u:Value}{o:Obj}{n:String}{vs:Array Value}{Q:Unit->Shared->Prop}(ho:s.heap.get? it=some o)(hc:o.cls=.type n)(hd:o.data=.fields vs)
 (hn:["enumerate","zip","dict_itemiterator","dict_reverseitemiterator","odict_iterator","itertools.zip_longest","itertools.pairwise"].contains n=false) (hQ:Q () s):wpAny M A (letOwnedTupleGo tg (.ref it) u) Q E s:=by
 unfold letOwnedTupleGo
 cases tg<;>first
  | exact wpAny_pure hQ
  | (cases u<;>first
   | exact wpAny_pure hQ
   | (refine wpAny_bind (wpAny_load ho ?_)
      rw [hc,hd]
      show wpAny M A (if (["enumerate","zip","dict_itemiterator","dict_reverseitemiterator","odict_iterator","itertools.zip_longest","itertools.pairwise"].contains n&&vs[0]?==some (rawInt _))=true then _ else _) Q E s
      rw [if_neg (by intro h;rw [hn,Bool.false_and] at h;cases h)]
      exact wpAny_pure hQ))
def Itl(K:PySem.W.Frag)(a:Addr):It :=
 ⟨fun i H=>∃ xs x,SqL K H a xs/\xs[i]?=some x,fun i H x H'=>H'=H/\∀ xs,SqL K H a xs->xs[i]?=some x,fun i H=>∃ xs,SqL K H a xs/\xs.length<=i⟩
def Itr(lo:Int)(n:Nat):It:=⟨fun i _=>i<n,fun i H x H'=>H'=H/\x=.int (lo+i),fun i _=>n<=i⟩
theorem jNa{P:Program}{w:World}{K:PySem.W.Frag}{tg:Expr}(a it:Addr):Turn P w K tg (Itl K a) [it] it (fun i h=>h.IsListIter it a i) where
 mem:=by simp
 obj:=fun i h st b hb=>by
  have e:b=it:=by simpa using hb
  subst e
  obtain⟨o,e,c,d⟩:=st
  exact⟨o,e,fun v z=>by rw [d] at z;cases z⟩
 keep:=fun i h h' st k=>st.at fun o e=>k it (by simp) o e
 item:=by
  intro X hP hw hK hc i pins s σ H E I hf st hg
  subst hP hw hK
  obtain⟨xs,x,hq,hx⟩:=hg
  obtain⟨its,rv,p,hz⟩:=I.list hq
  obtain⟨u,hu,ru⟩:=rv.get hx
  obtain⟨f0,f1,f2,f3,f4,f5⟩:=hf it (by simp)
  refine wpAny_pyNext_list_item st p.isList (x:=u) (by simpa using hu) fun h' st' sb=>?_
  have I1:Inv X pins σ H { s with heap:=h' }:=I.turned (t':=s.toks) (fun b o hb e=>(sb.2 b hb).trans e) f0 f1 f3 f4 f5
  obtain⟨o,e,c,d⟩:=id st'
  exact⟨u,rfl,jKT (s:={ s with heap:=h' }) e c d (by decide) ⟨x,H,I1,ru,⟨rfl,fun ys hy=>by rw [I.list_inj hy hq];exact hx⟩,st',fun b hb=>(hf b hb).1⟩⟩
 done:=by
  intro X hP hw hK hc i pins s σ H E I hf st hg
  subst hP hw hK
  obtain⟨xs,hq,hx⟩:=hg
  obtain⟨its,rv,p,hz⟩:=I.list hq
  obtain⟨f0,f1,f2,f3,f4,f5⟩:=hf it (by simp)
  have hl:=rv.length
  exact wpAny_pyNext_list_end (I.ok.hd hc) st p.isList (by simp;omega) fun h' eb=>⟨rfl,I.turned (t':=s.toks) (fun b o hb e=>eb b o hb e) f0 f1 f3 f4 f5⟩
 self:=fun _ _ _ _ _ st h=>wpAny_pyIter_listiter st h
theorem jMM{P:Program}{w:World}{K:PySem.W.Frag}{tg:Expr}(it:Addr)(lo:Int)(n:Nat):Turn P w K tg (Itr lo n) [it] it (fun i h=>IsRangeIter h it (lo+(i:Nat)*1) ((n:Int)-(i:Nat)) 1) where
 mem:=by simp
 obj:=fun i h st b hb=>by
  have e:b=it:=by simpa using hb
  subst e
  exact⟨_,st,fun v z=>by
   have z':Data.fields _=Data.cell v:=z
   cases z'⟩
 keep:=fun i h h' st k=>k it (by simp) _ st
 item:=by
  intro X hP hw hK hc i pins s σ H E I hf st hg
  subst hP hw hK
  obtain⟨f0,f1,f2,f3,f4,f5⟩:=hf it (by simp)
  have W:=Walks.range (prog:=X.prog) (w:=X.w) (I.ok.hd hc) it lo 1 n
  refine W.item i s _ _ hg st fun v h' tk hv st' kk=>?_
  obtain⟨t,rfl⟩:=hv
  have I1:Inv X pins σ H { s with heap:=h',toks:=tk }:=I.turned (fun b o hb e=>kk b o (by simpa using hb) e) f0 f1 f3 f4 f5
  refine⟨_,rfl,jKT (s:={ s with heap:=h',toks:=tk }) (n:="range_iterator") st' rfl rfl (by decide) ⟨.int (lo+i),H,I1,⟨t,?_⟩,⟨rfl,rfl⟩,st',fun b hb=>(hf b hb).1⟩⟩
  rw [Int.mul_one]
 done:=by
  intro X hP hw hK hc i pins s σ H E I hf st hg
  subst hP hw hK
  obtain⟨f0,f1,f2,f3,f4,f5⟩:=hf it (by simp)
  exact wpAny_pyNext_range_end (I.ok.hd hc) st (by have:n<=i:=hg;omega) fun h' eb=>⟨rfl,I.turned (t':=s.toks) (fun b o hb e=>eb b o hb e) f0 f1 f3 f4 f5⟩
 self:=fun _ _ _ _ _ st h=>wpAny_pyIter_rangeiter st h
section
variable {X:Cx}{tg:Expr}
inductive jNb(K:PySem.W.Frag)(R:It->Hp->Prop)(x:V)(H1:Hp):Prop|mk a:x=.ref a->(∃ xs,SqL K H1 a xs)->R (Itl K a) H1->jNb K R x H1
def iList(K:PySem.W.Frag)(tl:TE):TI:=fun σ H R=>tl σ H fun x H1=>jNb K R x H1
theorem jBt{l:Expr}{tl:TE}(hl:PE X l tl):PI X tg l (iList X.K tl):=by
 intro pins s σ H R I h
 refine thn (hl pins s σ H _ I h) fun v s1 ⟨x,H1,I1,r1,q1⟩=>?_
 obtain⟨a,e,⟨xs,hq⟩,q⟩:=q1
 subst e
 cases r1
 obtain⟨its,rv,p,hz⟩:=I1.list hq
 refine wpAny_pyIter_list p.isList ?_
 refine⟨s1.heap.objs.size,[s1.heap.objs.size],_,_,H1,rfl,I1.kept (t':=s1.toks) fun b o e=>Heap.get?_push_of_some _ e,jNa a _,⟨_,Heap.get?_push_size _ rfl,rfl,rfl⟩,fun b hb=>?_,q⟩
 have e:b=s1.heap.objs.size:=by simpa using hb
 subst e
 exact I1.fpOk (Nat.le_refl _) (I1.hok.fresh (Nat.le_refl _))
theorem jK2{pins:List (Addr×Obj)}{σ:St}{H:Hp}{s:Shared}{R:It->Hp->Prop}{E:Value->Shared->Prop}{lo hi:Int}{t u v:Tok}{tk:Nat}(I:Inv X pins σ H s)(h1:-(2^62)<=lo)(h2:lo<2^62)(h3:-(2^62)<=hi)(h4:hi<2^62)
 (q:R (Itr lo (hi-lo).toNat) H):wpAny (model X.prog X.w) X.A (pyIter (.ref s.heap.objs.size)) (PIE X pins σ tg R) E { s with heap:=s.heap.push { cls:=.type "range",data:=.fields #[.int lo t,.int hi u,.int 1 v] },toks:=tk }:=by
 refine wpAny_pyIter_range (IsRange.new ..) (small_one h1 h2 h3 h4) ?_
 have I1:Inv X pins σ H { s with heap:=s.heap.push { cls:=.type "range",data:=.fields #[.int lo t,.int hi u,.int 1 v] },toks:=tk }:=I.kept fun b o e=>Heap.get?_push_of_some _ e
 refine⟨(s.heap.push { cls:=.type "range",data:=.fields #[.int lo t,.int hi u,.int 1 v] }).objs.size,[(s.heap.push { cls:=.type "range",data:=.fields #[.int lo t,.int hi u,.int 1 v] }).objs.size],_,_,H,rfl,
  I1.kept (t':=tk) fun b o e=>Heap.get?_push_of_some _ e,jMM _ lo (hi-lo).toNat,?_,fun b hb=>?_,q⟩
 ·have e1:lo+((0:Nat):Int)*1=lo:=by simp
  have e2:(((hi-lo).toNat:Nat):Int)-((0:Nat):Int)=Builtin.Range.rangeSize lo hi 1:=by rw [rangeSize_one];split<;>omega
  show IsRangeIter _ _ (lo+((0:Nat):Int)*1) ((((hi-lo).toNat:Nat):Int)-((0:Nat):Int)) 1
  rw [e1,e2]
  exact Heap.get?_push_size _ rfl
 ·have e:b=(s.heap.push { cls:=.type "range",data:=.fields #[.int lo t,.int hi u,.int 1 v] }).objs.size:=by simpa using hb
  subst e
  exact I1.fpOk (Nat.le_refl _) (I1.hok.fresh (Nat.le_refl _))
def iRng1(ta:TA):TI:=fun σ H R=>ta σ H fun vs H1=>∃ j:Int,vs=[.int j]/\-(2^62)<=j/\j<2^62/\R (Itr 0 j.toNat) H1
def iRng2(ta:TA):TI:=fun σ H R=>ta σ H fun vs H1=>∃ i j:Int,vs=[.int i,.int j]/\(-(2^62)<=i/\i<2^62/\-(2^62)<=j/\j<2^62)/\R (Itr i (j-i).toNat) H1
theorem jFK{a:Expr}{ta:TA}{p pos:Pos}(hg:Gl X "range")(hm:X.mg "range"=none)(ha:PA X [a] ta)(hs:starEach [a] X.env=[(false,eval a X.env)]:=by rfl):PI X tg (.Call (.Name "range" p) [a] [] pos) (iRng1 ta):=by
 intro pins s σ H R I h
 refine Call_ (jGn I hg hm boot_range (PyProof.Rows.callWith_type1 (thn (ha pos pins s σ H _ I h) fun us s1 ⟨vs,H1,I1,r1,q1⟩=>?_) hs rfl))
 obtain⟨j,e,q1,q2,q⟩:=q1
 subst e
 cases r1 with
 | cons r rr =>
   cases rr
   obtain⟨t,rfl⟩:=r
   exact call_range_1 (jK2 I1 (by omega) (by omega) q1 q2 (by simpa using q))
theorem jNc{a b:Expr}{ta:TA}{p pos:Pos}(hg:Gl X "range")(hm:X.mg "range"=none)(ha:PA X [a,b] ta)(hs:starEach [a,b] X.env=[(false,eval a X.env),(false,eval b X.env)]:=by rfl)(hs2:starEach [b] X.env=[(false,eval b X.env)]:=by rfl) :
 PI X tg (.Call (.Name "range" p) [a,b] [] pos) (iRng2 ta):=by
 intro pins s σ H R I h
 refine Call_ (jGn I hg hm boot_range (PyProof.Rows.callWith_type1 (thn (ha pos pins s σ H _ I h) fun us s1 ⟨vs,H1,I1,r1,q1⟩=>?_) (by rw [hs,hs2]) (by rw [hs2];rfl)))
 obtain⟨i,j,e,⟨q1,q2,q3,q4⟩,q⟩:=q1
 subst e
 cases r1 with
 | cons r rr =>
   cases rr with
   | cons r' rr =>
     cases rr
     obtain⟨t,rfl⟩:=r
     obtain⟨t',rfl⟩:=r'
     exact call_range_2 (jK2 I1 q1 q2 q3 q4 q)
def tFor(wi:TI)(g:TG)(tb:TS):TS:=fun D σ H=>wi σ H fun J H1=>∃ W:Nat->Nat->St->Hp->Prop,(∃ m,W 0 m σ H1)/\∀ i m σ H,W i m σ H ->
 (J.stop i H/\D.nx σ H)\/(J.go i H/\∃ N:St->Hp->Prop,(∀ σ' H',N σ' H'->∃ m',m'<m/\W (i+1) m' σ' H')/\∀ x H',J.yld i H x H'->g x σ H' fun σ2 H2=>tb { D with nx:=N,ct:=N,bk:=D.nx } σ2 H2)
def jHj(fp:List Addr)(h:Heap):List (Addr×Obj):=fp.filterMap fun b=>(h.get? b).map fun o=>(b,o)
theorem jEY{fp:List Addr}{h:Heap}{b:Addr}{o:Obj}(hb:b∈fp)(e:h.get? b=some o):(b,o)∈jHj fp h:=List.mem_filterMap.mpr ⟨b,hb,by rw [e];rfl⟩
theorem jNd{fp:List Addr}{h:Heap}{p:Addr×Obj}(hp:p∈jHj fp h):p.1∈fp/\h.get? p.1=some p.2:=by
 obtain⟨b,hb,e⟩:=List.mem_filterMap.mp hp
 cases q:h.get? b with
 | none=>rw [q] at e;cases e
 | some o =>
   rw [q] at e
   have e':(b,o)=p:=Option.some.inj e
   subst e'
   exact⟨hb,q⟩
theorem Inv.pinned{pins:List (Addr×Obj)}{σ:St}{H:Hp}{s:Shared}{fp:List Addr}(I:Inv X pins σ H s)(hf:∀ b∈fp,jGC X pins H b)(ho:∀ b∈fp,∃ o,s.heap.get? b=some o/\∀ v,o.data≠.cell v):Inv X (pins++jHj fp s.heap) σ H s :=
 I.pins_of fun p hp=>(List.mem_append.mp hp).elim (fun z=>I.pin p (List.mem_append_right _ z)) fun z=>by
  obtain⟨hb,e⟩:=jNd z
  obtain⟨f0,f1,f2,_⟩:=hf p.1 hb
  obtain⟨o,e',d⟩:=ho p.1 hb
  rw [e] at e';cases e'
  exact⟨e,f0,f1,f2,d⟩
theorem Inv.unpinned{pins pl:List (Addr×Obj)}{σ:St}{H:Hp}{s:Shared}(I:Inv X (pins++pl) σ H s):Inv X pins σ H s:=I.pins_of fun p hp=>I.pin p (List.mem_append_right _ (List.mem_append_left _ hp))
theorem jBS{iter:Expr}{body:List Stmt}{wi:TI}{g:TG}{tb:TS}{pos:Pos}(hp:PassesOwn (model X.prog X.w) X.A X.env X.xe)(hc:X.calm=true)(hi:PI X tg iter wi)(hg:PG X tg g)(hb:PSs X body tb)
 (hs:∀ x,foldedSetIterable iter X.env x=pure x:=by intro _;rfl):PS X (.For tg iter body [] pos) (tFor wi g tb):=by
 intro pins s σ H D I h
 refine wpAny_For (thn (hi pins s σ H _ I h) fun v s1 h1=>thn h1 fun itv s2 h2=>?_) hs
 obtain⟨it,fp,tn,J,H2,e,I2,T,st2,f2,W,⟨m0,w0⟩,turn⟩:=h2
 subst e
 -- what stays true of the iterator's objects through the loop
 have stat:∀ {H':Hp},(∀ b∈fp,H' b=none)->∀ b∈fp,jGC X pins H' b:=fun hn b hb=>⟨hn b hb,(f2 b hb).2⟩
 refine codeAny_forLoop_any (fun n s'=>∃ i σ' H',Inv X pins σ' H' s'/\tn i s'.heap/\(∀ b∈fp,H' b=none)/\W i n σ' H') ?_ m0 ⟨0,σ,H2,I2,st2,fun b hb=>(f2 b hb).1,w0⟩
 rintro n s3 ⟨i,σ3,H3,I3,st3,fr3,w3⟩
 rcases turn i n σ3 H3 w3 with⟨stop,qn⟩|⟨go,N,hN,step⟩
 ·refine wpAny_passesOwn hp (thn (T.done X rfl rfl rfl hc i pins s3 σ3 H3 X.xe I3 (stat fr3) st3 stop) fun r s4 ⟨hr,I4⟩=>?_)
  subst hr
  exact wpAny_execs_nil ⟨σ3,H3,I4,qn⟩
 ·refine wpAny_passesOwn hp (thn (T.item X rfl rfl rfl hc i pins s3 σ3 H3 X.xe I3 (stat fr3) st3 go) fun r s4 ⟨u,hr,h4⟩=>?_)
  subst hr
  refine wpAny_passesOwn hp (thn h4 fun _ s5 ⟨x,H5,I5,r5,y5,st5,fr5⟩=>?_)
  have I5':=I5.pinned (stat fr5) (T.obj _ _ st5)
  refine wpAny_passesOwn hp (thn (hg _ s5 σ3 H5 x u _ I5' r5 (step x H5 y5)) fun _ s6 ⟨σ6,H6,I6,q6⟩=>?_)
  refine wpAny_passesOwn hp (thn (hb _ s6 σ6 H6 _ I6 q6) fun f s7 q7=>?_)
  have again:∀ {σ7:St} {H7:Hp},Inv X (pins++jHj fp s5.heap) σ7 H7 s7->N σ7 H7->∃ m,m<n/\∃ i σ' H',Inv X pins σ' H' s7/\tn i s7.heap/\(∀ b∈fp,H' b=none)/\W i m σ' H':=fun {σ7 H7} I7 n7=>by
   obtain⟨m',hm,w7⟩:=hN σ7 H7 n7
   refine⟨m',hm,i+1,σ7,H7,I7.unpinned,T.keep _ _ _ st5 fun b hb o e=>(I7.pin (b,o) (List.mem_append_right _ (List.mem_append_right _ (jEY hb e)))).1,fun b hb=>?_,w7⟩
   obtain⟨o,e,d⟩:=T.obj _ _ st5 b hb
   exact (I7.pin (b,o) (List.mem_append_right _ (List.mem_append_right _ (jEY hb e)))).2.1
  cases f with
  | next=>obtain⟨σ7,H7,I7,n7⟩:=q7;exact again I7 n7
  | cont=>obtain⟨σ7,H7,I7,n7⟩:=q7;exact again I7 n7
  | brk=>obtain⟨σ7,H7,I7,q7⟩:=q7;exact⟨σ7,H7,I7.unpinned,q7⟩
  | ret v=>obtain⟨x7,σ7,H7,I7,r7,q7⟩:=q7;exact⟨x7,σ7,H7,I7.unpinned,r7,q7⟩
end
theorem jBK{K:PySem.W.Frag}{a:Addr}{xs:List V}{g:TG}{tb:TS}{D:jBR}{σ:St}{H:Hp}(Pv:Nat->St->Hp->Prop)(h0:Pv 0 σ H)(hl:∀ i σ H,i<=xs.length->Pv i σ H->SqL K H a xs)
 (hs:∀ i x σ H,xs[i]?=some x->Pv i σ H->g x σ H fun σ2 H2=>tb { D with nx:=Pv (i+1),ct:=Pv (i+1),bk:=D.nx } σ2 H2) (hd:∀ σ H,Pv xs.length σ H->D.nx σ H) :
 ∃ W:Nat->Nat->St->Hp->Prop,(∃ m,W 0 m σ H)/\∀ i m σ H,W i m σ H ->
  ((Itl K a).stop i H/\D.nx σ H)\/((Itl K a).go i H/\∃ N:St->Hp->Prop,(∀ σ' H',N σ' H'->∃ m',m'<m/\W (i+1) m' σ' H')/\∀ x H',(Itl K a).yld i H x H'->g x σ H' fun σ2 H2=>tb { D with nx:=N,ct:=N,bk:=D.nx } σ2 H2):=by
 exists fun i m σ H=>m=xs.length-i/\i<=xs.length/\Pv i σ H,⟨xs.length,by simp,Nat.zero_le _,h0⟩
 rintro i m σ H ⟨rfl,hi,p⟩
 have q:=hl i σ H hi p
 by_cases hlt:i<xs.length
 ·refine .inr ⟨⟨xs,xs[i],q,by simp [hlt]⟩,Pv (i+1),fun σ' H' p'=>⟨xs.length-(i+1),by omega,rfl,hlt,p'⟩,fun x H' y=>?_⟩
  obtain⟨e,y⟩:=y
  subst e
  exact hs i x σ _ (y xs q) p
 ·have e:i=xs.length:=by omega
  subst e
  exact .inl ⟨⟨xs,q,Nat.le_refl _⟩,hd σ H p⟩
theorem jJ2{lo:Int}{n:Nat}{g:TG}{tb:TS}{D:jBR}{σ:St}{H:Hp}(Pv:Nat->St->Hp->Prop)(h0:Pv 0 σ H)
 (hs:∀ i σ H,i<n->Pv i σ H->g (.int (lo+i)) σ H fun σ2 H2=>tb { D with nx:=Pv (i+1),ct:=Pv (i+1),bk:=D.nx } σ2 H2) (hd:∀ σ H,Pv n σ H->D.nx σ H) :
 ∃ W:Nat->Nat->St->Hp->Prop,(∃ m,W 0 m σ H)/\∀ i m σ H,W i m σ H ->
  ((Itr lo n).stop i H/\D.nx σ H)\/((Itr lo n).go i H/\∃ N:St->Hp->Prop,(∀ σ' H',N σ' H'->∃ m',m'<m/\W (i+1) m' σ' H')/\∀ x H',(Itr lo n).yld i H x H'->g x σ H' fun σ2 H2=>tb { D with nx:=N,ct:=N,bk:=D.nx } σ2 H2):=by
 exists fun i m σ H=>m=n-i/\i<=n/\Pv i σ H,⟨n,by simp,Nat.zero_le _,h0⟩
 rintro i m σ H ⟨rfl,hi,p⟩
 by_cases hlt:i<n
 ·refine .inr ⟨hlt,Pv (i+1),fun σ' H' p'=>⟨n-(i+1),by omega,rfl,hlt,p'⟩,fun x H' y=>?_⟩
  obtain⟨e,y⟩:=y
  subst e y
  exact hs i σ _ hlt p
 ·have e:i=n:=by omega
  subst e
  exact .inl ⟨Nat.le_refl _,hd σ H p⟩
abbrev R2:=V->V->Hp->VK->Prop
def OpR(X:Cx)(f:Value->Value->Sem Value)(r:R2):Prop :=
 ∀ (pins:List (Addr×Obj)) (s:Shared) (σ:St) (H:Hp) (x y:V) (v u:Value) (Q:VK),Inv X pins σ H s->jAA x v->jAA y u->r x y H Q ->
  wpAny (model X.prog X.w) X.A (f v u) (EP X pins σ Q) X.xe s
def UnR(X:Cx)(f:Value->Sem Value)(r:V->Hp->VK->Prop):Prop :=
 ∀ (pins:List (Addr×Obj)) (s:Shared) (σ:St) (H:Hp) (x:V) (v:Value) (Q:VK),Inv X pins σ H s->jAA x v->r x H Q ->
  wpAny (model X.prog X.w) X.A (f v) (EP X pins σ Q) X.xe s
def CallR(X:Cx)(f:Value)(r:List V->Hp->VK->Prop):Prop :=
 ∀ (pins:List (Addr×Obj)) (s:Shared) (σ:St) (H:Hp) (xs:List V) (us:List Value) (Q:VK),Inv X pins σ H s->jAH xs us->r xs H Q ->
  wpAny (model X.prog X.w) X.A (call f us) (EP X pins σ Q) X.xe s
def TruR(X:Cx)(r:V->Hp->(Bool->Hp->Prop)->Prop):Prop :=
 ∀ (pins:List (Addr×Obj)) (s:Shared) (σ:St) (H:Hp) (x:V) (v:Value) (Q:Bool->Hp->Prop),Inv X pins σ H s->jAA x v->r x H Q ->
  wpAny (model X.prog X.w) X.A (truthy v) (TP X pins σ Q) X.xe s
def tOp(r:R2)(ta tb:TE):TE:=fun σ H Q=>ta σ H fun x H1=>tb σ H1 fun y H2=>r x y H2 Q
def tUn(r:V->Hp->VK->Prop)(ta:TE):TE:=fun σ H Q=>ta σ H fun x H1=>r x H1 Q
inductive rI(C:Int->Int->Prop)(g:Int->Int->V)(x:V)(y:V)(H:Hp)(Q:VK):Prop|mk i j:x=.int i->y=.int j->C i j->Q (g i j) H->rI C g x y H Q
inductive rI0(g:Int->Int->V)(x:V)(y:V)(H:Hp)(Q:VK):Prop|mk i j:x=.int i->y=.int j->Q (g i j) H->rI0 g x y H Q
inductive rU(g:Int->V)(x:V)(H:Hp)(Q:VK):Prop|mk i:x=.int i->Q (g i) H->rU g x H Q
section
variable {X:Cx}{a b c:Expr}{ta tb tc:TE}{pos:Pos}
theorem binT(ha:PE X a ta)(hb:PE X b tb){pins:List (Addr×Obj)}{s:Shared}{σ:St}{H:Hp}{R:V->V->Hp->Prop}(I:Inv X pins σ H s)
 (h:ta σ H fun x H1=>tb σ H1 fun y H2=>R x y H2) {Q:Value->Shared->Prop} {f:Value->Value->Sem Value}
 (hf:∀ v u s2 x y H2,Inv X pins σ H2 s2->jAA x v->jAA y u->R x y H2->wpAny (model X.prog X.w) X.A (f v u) Q X.xe s2) :
 wpAny (model X.prog X.w) X.A (eval a X.env) (fun v s₁=>wpAny (model X.prog X.w) X.A (eval b X.env) (fun u s₂=>wpAny (model X.prog X.w) X.A (f v u) Q X.xe s₂) X.xe s₁) X.xe s:=by
 refine thn (ha pins s σ H _ I h) fun v s1 ⟨x,H1,I1,r1,q1⟩=>?_
 refine thn (hb pins s1 σ H1 _ I1 q1) fun u s2 ⟨y,H2,I2,r2,q2⟩=>?_
 exact hf v u s2 x y H2 I2 r1 r2 q2
theorem jAp{op:Operator}{r:R2}(ho:OpR X (binaryOp op) r)(ha:PE X a ta)(hb:PE X b tb):PE X (.BinOp a op b pos) (tOp r ta tb):=by
 intro pins s σ H Q I h
 exact wpAny_BinOp (binT ha hb I h fun v u s2 x y H2 I2 rx ry q=>ho pins s2 σ H2 x y v u Q I2 rx ry q)
theorem pe_un{op:UnaryOp}{r:V->Hp->VK->Prop}(ho:UnR X (unaryOp op) r)(ha:PE X a ta):PE X (.UnaryOp op a pos) (tUn r ta):=by
 intro pins s σ H Q I h
 exact UnaryOp_ (thn (ha pins s σ H _ I h) fun v s1 ⟨x,H1,I1,r1,q1⟩=>ho pins s1 σ H1 x v Q I1 r1 q1)
theorem opI{f:Value->Value->Sem Value}{C:Int->Int->Prop}{g:Int->Int->Int}
 (rule:∀ (i j:Int) (t u:Tok) (s:Shared) (Q:Value->Shared->Prop) (E:Value->Shared->Prop),C i j->Q (.int (g i j) s.toks) { s with toks:=s.toks+1 }->wpAny (model X.prog X.w) X.A (f (.int i t) (.int j u)) Q E s) :
 OpR X f (rI C fun i j=>.int (g i j)):=by
 intro pins s σ H x y v u Q I rx ry h
 obtain⟨i,j,rfl,rfl,hc,q⟩:=h
 obtain⟨t,rfl⟩:=rx
 obtain⟨t',rfl⟩:=ry
 exact rule i j t t' s _ _ hc ⟨.int (g i j),H,I.tok _,⟨_,rfl⟩,q⟩
theorem opI0{f:Value->Value->Sem Value}{g:Int->Int->Int}
 (rule:∀ (i j:Int) (t u:Tok) (s:Shared) (Q:Value->Shared->Prop) (E:Value->Shared->Prop),Q (.int (g i j) s.toks) { s with toks:=s.toks+1 }->wpAny (model X.prog X.w) X.A (f (.int i t) (.int j u)) Q E s) :
 OpR X f (rI0 fun i j=>.int (g i j)):=by
 intro pins s σ H x y v u Q I rx ry h
 obtain⟨i,j,rfl,rfl,q⟩:=h
 obtain⟨t,rfl⟩:=rx
 obtain⟨t',rfl⟩:=ry
 exact rule i j t t' s _ _ ⟨.int (g i j),H,I.tok _,⟨_,rfl⟩,q⟩
theorem opB0{f:Value->Value->Sem Value}{g:Int->Int->Bool}
 (rule:∀ (i j:Int) (t u:Tok) (s:Shared) (Q:Value->Shared->Prop) (E:Value->Shared->Prop),Q (.bool (g i j)) s->wpAny (model X.prog X.w) X.A (f (.int i t) (.int j u)) Q E s) :
 OpR X f (rI0 fun i j=>.bl (g i j)):=by
 intro pins s σ H x y v u Q I rx ry h
 obtain⟨i,j,rfl,rfl,q⟩:=h
 obtain⟨t,rfl⟩:=rx
 obtain⟨t',rfl⟩:=ry
 exact rule i j t t' s _ _ ⟨.bl (g i j),H,I,rfl,q⟩
def CDiv(i j:Int):Prop:=0<j/\j<1073741824
def CPow(i j:Int):Prop:=0<=j/\j<=1000000/\i.natAbs<2^64
def CMul(i j:Int):Prop:=(-(2^64)<i/\i<2^64)\/(-(2^64)<j/\j<2^64)
theorem CMul.ok{i j:Int}(h:CMul i j):IntMulOk i j:=by
 rcases h with⟨h1,h2⟩|⟨h1,h2⟩
 ·exact .of_left (intBits_le_64 h1 h2)
 ·exact .of_right (intBits_le_64 h1 h2)
theorem jAO:OpR X (binaryOp .Add) (rI0 fun i j=>.int (i+j)):=opI0 fun _ _ _ _ _ _ _ q=>add_int q
theorem jB_:OpR X (binaryOp .Sub) (rI0 fun i j=>.int (i-j)):=opI0 fun _ _ _ _ _ _ _ q=>sub_int q
theorem jCR:OpR X (binaryOp .Mult) (rI CMul fun i j=>.int (i*j)):=opI fun _ _ _ _ _ _ _ hc q=>mul_int q hc.ok
theorem jCp:OpR X (binaryOp .FloorDiv) (rI CDiv fun i j=>.int (i/j)):=opI fun i j _ _ _ _ _ hc q=>by
 have h1:(0:Int)<j:=hc.1
 have h2:j<1073741824:=hc.2
 exact floordiv_int (by omega) (by rw [Int.fdiv_eq_ediv_of_nonneg i (by omega)];exact q) (.inl (PyProof.noPylong_small (by omega)))
theorem jA7:OpR X (binaryOp .Mod) (rI (fun _ j=>0<j) fun i j=>.int (i%j)):=opI fun i j _ _ _ _ _ hc q=>by
 have h1:(0:Int)<j:=hc
 exact mod_int' (by omega) (by rw [Int.fmod_eq_emod_of_nonneg i (by omega)];exact q)
theorem jNe:OpR X (binaryOp .Pow) (rI CPow fun i j=>.int (i^j.toNat)):=opI fun _ _ _ _ _ _ _ hc q=>pow_int_small hc.1 hc.2.1 hc.2.2 q
theorem unI{f:Value->Sem Value}{g:Int->Int}
 (rule:∀ (i:Int) (t:Tok) (s:Shared) (Q:Value->Shared->Prop) (E:Value->Shared->Prop),Q (.int (g i) s.toks) { s with toks:=s.toks+1 }->wpAny (model X.prog X.w) X.A (f (.int i t)) Q E s) :
 UnR X f (rU fun i=>.int (g i)):=by
 intro pins s σ H x v Q I rx h
 obtain⟨i,rfl,q⟩:=h
 obtain⟨t,rfl⟩:=rx
 exact rule i t s _ _ ⟨.int (g i),H,I.tok _,⟨_,rfl⟩,q⟩
theorem jNf:UnR X (unaryOp .USub) (rU fun i=>.int (-i)):=unI fun _ _ _ _ _ q=>neg_int q
end
def scal:V->V->Bool
 | .non,.non=>true|.non,.int _=>true|.int _,.non=>true|.non,.bl _=>true|.bl _,.non=>true|.non,.str _=>true|.str _,.non=>true
 | .int _,.int _=>true|.bl _,.bl _=>true|.str _,.str _=>true|.byt _,.byt _=>true
 | .int _,.str _=>true|.str _,.int _=>true|.bl _,.str _=>true|.str _,.bl _=>true
 | _,_=>false
def rEq:R2:=fun x y H Q=>scal x y=true/\Q (.bl (decide (x=y))) H
def rNe:R2:=fun x y H Q=>scal x y=true/\Q (.bl (!decide (x=y))) H
theorem jMr{i j:Int}:decide (V.int i=V.int j)=(i==j):=by
 rw [Bool.eq_iff_iff]
 simp
theorem jNg{i j:Bool}:decide (V.bl i=V.bl j)=(i==j):=by
 rw [Bool.eq_iff_iff]
 simp
theorem jMs{i j:Str}:decide (V.str i=V.str j)=(i==j):=by
 rw [Bool.eq_iff_iff]
 simp
theorem jMt{i j:Array UInt8}:decide (V.byt i=V.byt j)=(i.toList==j.toList):=by
 rw [Bool.eq_iff_iff]
 cases i
 cases j
 simp
section
variable {X:Cx}{a b c:Expr}{ta tb tc:TE}{pos:Pos}
theorem jAS{pins:List (Addr×Obj)}{σ:St}{H:Hp}{s:Shared}{Q:VK}{k k':Bool}(I:Inv X pins σ H s)(q:Q (.bl k) H)(e:k=k'):EP X pins σ Q (.bool k') s:=by
 subst e
 exact⟨.bl k,H,I,rfl,q⟩
theorem jA9:OpR X (compareOp .Eq) rEq:=by
 intro pins s σ H x y v u Q I rx ry h
 obtain⟨hs,q⟩:=h
 cases x with
 | non =>
   cases rx
   cases y with
   | non=>cases ry;exact PySem.EqNone.eq_none_none (jAS I q (by simp))
   | bl j=>cases ry;exact PySem.EqNone.eq_none_bool (jAS I q (by simp))
   | int j=>obtain⟨t',rfl⟩:=ry;exact PySem.EqNone.eq_none_int (jAS I q (by simp))
   | str j=>obtain⟨t',rfl⟩:=ry;exact PySem.EqNone.eq_none_str (jAS I q (by simp))
   | _=>exact absurd (show false=true from hs) Bool.false_ne_true
 | bl i =>
   cases rx
   cases y with
   | non=>cases ry;exact PySem.EqNone.eq_bool_none (jAS I q (by simp))
   | bl j=>cases ry;exact eq_bool (jAS I q jNg)
   | str j=>obtain⟨t',rfl⟩:=ry;exact PySem.EqMixed.eq_bool_str (jAS I q (by simp))
   | _=>exact absurd (show false=true from hs) Bool.false_ne_true
 | int i =>
   obtain⟨t,rfl⟩:=rx
   cases y with
   | non=>cases ry;exact PySem.EqNone.eq_int_none (jAS I q (by simp))
   | int j=>obtain⟨t',rfl⟩:=ry;exact eq_int (jAS I q jMr)
   | str j=>obtain⟨t',rfl⟩:=ry;exact PySem.EqMixed.eq_int_str (jAS I q (by simp))
   | _=>exact absurd (show false=true from hs) Bool.false_ne_true
 | str i =>
   obtain⟨t,rfl⟩:=rx
   cases y with
   | non=>cases ry;exact PySem.EqNone.eq_str_none (jAS I q (by simp))
   | bl j=>cases ry;exact PySem.EqMixed.eq_str_bool (jAS I q (by simp))
   | int j=>obtain⟨t',rfl⟩:=ry;exact PySem.EqMixed.eq_str_int (jAS I q (by simp))
   | str j=>obtain⟨t',rfl⟩:=ry;exact eq_str (jAS I q jMs)
   | _=>exact absurd (show false=true from hs) Bool.false_ne_true
 | byt i =>
   obtain⟨t,rfl⟩:=rx
   cases y with
   | byt j=>obtain⟨t',rfl⟩:=ry;exact PySem.W.eq_bytes (jAS I q jMt)
   | _=>exact absurd (show false=true from hs) Bool.false_ne_true
 | _=>cases y<;>exact absurd (show false=true from hs) Bool.false_ne_true
theorem jHG:OpR X (compareOp .NotEq) rNe:=by
 intro pins s σ H x y v u Q I rx ry h
 obtain⟨hs,q⟩:=h
 cases x with
 | non =>
   cases rx
   cases y with
   | non=>cases ry;exact PySem.EqNone.ne_none_none (jAS I q (by simp))
   | bl j=>cases ry;exact PySem.EqNone.ne_none_bool (jAS I q (by simp))
   | int j=>obtain⟨t',rfl⟩:=ry;exact PySem.EqNone.ne_none_int (jAS I q (by simp))
   | str j=>obtain⟨t',rfl⟩:=ry;exact PySem.EqNone.ne_none_str (jAS I q (by simp))
   | _=>exact absurd (show false=true from hs) Bool.false_ne_true
 | bl i =>
   cases rx
   cases y with
   | non=>cases ry;exact PySem.EqNone.ne_bool_none (jAS I q (by simp))
   | bl j=>cases ry;exact ne_bool (jAS I q (congrArg not jNg))
   | str j=>obtain⟨t',rfl⟩:=ry;exact PySem.EqMixed.ne_bool_str (jAS I q (by simp))
   | _=>exact absurd (show false=true from hs) Bool.false_ne_true
 | int i =>
   obtain⟨t,rfl⟩:=rx
   cases y with
   | non=>cases ry;exact PySem.EqNone.ne_int_none (jAS I q (by simp))
   | int j=>obtain⟨t',rfl⟩:=ry;exact ne_int (jAS I q (congrArg not jMr))
   | str j=>obtain⟨t',rfl⟩:=ry;exact PySem.EqMixed.ne_int_str (jAS I q (by simp))
   | _=>exact absurd (show false=true from hs) Bool.false_ne_true
 | str i =>
   obtain⟨t,rfl⟩:=rx
   cases y with
   | non=>cases ry;exact PySem.EqNone.ne_str_none (jAS I q (by simp))
   | bl j=>cases ry;exact PySem.EqMixed.ne_str_bool (jAS I q (by simp))
   | int j=>obtain⟨t',rfl⟩:=ry;exact PySem.EqMixed.ne_str_int (jAS I q (by simp))
   | str j=>obtain⟨t',rfl⟩:=ry;exact ne_str (jAS I q (congrArg not jMs))
   | _=>exact absurd (show false=true from hs) Bool.false_ne_true
 | byt i =>
   obtain⟨t,rfl⟩:=rx
   cases y with
   | byt j=>obtain⟨t',rfl⟩:=ry;exact PySem.W.ne_bytes (jAS I q (congrArg not jMt))
   | _=>exact absurd (show false=true from hs) Bool.false_ne_true
 | _=>cases y<;>exact absurd (show false=true from hs) Bool.false_ne_true
theorem jEZ:OpR X (compareOp .Lt) (rI0 fun i j=>.bl (decide (i<j))):=opB0 fun _ _ _ _ _ _ _ q=>lt_int q
theorem jGD:OpR X (compareOp .LtE) (rI0 fun i j=>.bl (decide (i<=j))):=opB0 fun _ _ _ _ _ _ _ q=>le_int q
theorem jGE:OpR X (compareOp .Gt) (rI0 fun i j=>.bl (decide (j<i))):=opB0 fun _ _ _ _ _ _ _ q=>gt_int q
theorem jIv:OpR X (compareOp .Is) (fun x y H Q=>y=.non/\Q (.bl (decide (x=.non))) H):=by
 intro pins s σ H x y v u Q I rx ry h
 obtain⟨rfl,q⟩:=h
 cases ry
 refine is_none_gen (jAS I q ?_)
 cases x<;>first
  | (cases rx;rfl)
  | (obtain⟨t,rfl⟩:=rx;rfl)
theorem jE_:OpR X (compareOp .IsNot) (fun x y H Q=>y=.non/\Q (.bl (!decide (x=.non))) H):=by
 intro pins s σ H x y v u Q I rx ry h
 obtain⟨rfl,q⟩:=h
 cases ry
 refine isnot_none_gen (jAS I q ?_)
 cases x<;>first
  | (cases rx;rfl)
  | (obtain⟨t,rfl⟩:=rx;rfl)
theorem jNh(b:Expr){op:CmpOp}(h:op≠.In:=by decide)(h2:op≠.NotIn:=by decide):behindInMarks op b=false:=by
 have e1:(op==CmpOp.In)=false:=by cases op<;>first|rfl|exact absurd rfl h
 have e2:(op==CmpOp.NotIn)=false:=by cases op<;>first|rfl|exact absurd rfl h2
 cases b<;>simp [behindInMarks,e1,e2]
theorem pe_cmpR{op:CmpOp}{r:R2}(ho:OpR X (compareOp op) r)(ha:PE X a ta)(hb:PE X b tb)(hm:behindInMarks op b=false):PE X (.Compare a [op] [b] pos) (tOp r ta tb):=by
 intro pins s σ H Q I h
 exact wpAny_Compare1 (binT ha hb I h fun v u s2 x y H2 I2 rx ry q=>ho pins s2 σ H2 x y v u Q I2 rx ry q) hm
def tTest(t:TE):TT:=fun σ H Q=>t σ H fun x H'=>∃ k,x=.bl k/\Q k H'
theorem pt_cmpR{op:CmpOp}{r:R2}(ho:OpR X (compareOp op) r)(ha:PE X a ta)(hb:PE X b tb)(hm:behindInMarks op b=false):PT X (.Compare a [op] [b] pos) (tTest (tOp r ta tb)):=by
 intro pins s σ H Q I h
 refine wpAny_isTrue_Compare1 (thn (ha pins s σ H _ I h) fun v s1 ⟨x,H1,I1,r1,q1⟩=>thn (hb pins s1 σ H1 _ I1 q1) fun u s2 ⟨y,H2,I2,r2,q2⟩ =>
  thn (ho pins s2 σ H2 x y v u _ I2 r1 r2 q2) fun c s3 ⟨z,H3,I3,r3,k,e,q3⟩=>?_) hm
 subst e
 cases r3
 exact wpAny_truthy_bool ⟨H3,I3,q3⟩
def tChain(r r':R2)(ta tb tc:TE):TE:=fun σ H Q=>ta σ H fun x H1=>tb σ H1 fun y H2=>r x y H2 fun z H3=>∃ k,z=.bl k /\
 (if k=true then tc σ H3 fun w' H4=>r' y w' H4 Q else Q (.bl false) H3)
theorem jN4{op op':CmpOp}{r r':R2}(ho:OpR X (compareOp op) r)(ho':OpR X (compareOp op') r')(ha:PE X a ta)(hb:PE X b tb)(hc:PE X c tc)
 (hm:lastMarks [op,op'] [b,c]=false:=by with_unfolding_all rfl):PE X (.Compare a [op,op'] [b,c] pos) (tChain r r' ta tb tc):=by
 intro pins s σ H Q I h
 refine Compare_chain (thn (ha pins s σ H _ I h) fun v s1 ⟨x,H1,I1,r1,q1⟩=>chain_link (thn (hb pins s1 σ H1 _ I1 q1) fun u s2 ⟨y,H2,I2,r2,q2⟩ =>
  thn (ho pins s2 σ H2 x y v u _ I2 r1 r2 q2) fun d s3 ⟨z,H3,I3,r3,k,e,q3⟩=>?_)) hm
 subst e
 cases r3
 refine wpAny_truthy_bool ?_
 cases k with
 | false=>exact ite_ff ⟨.bl false,H3,I3,rfl,q3⟩
 | true=>exact ite_tt (chain_last (thn (hc pins s3 σ H3 _ I3 q3) fun w' s4 ⟨z',H4,I4,r4,q4⟩=>ho' pins s4 σ H4 y z' u w' Q I4 r2 r4 q4))
def TruV(K:PySem.W.Frag)(x:V)(H:Hp)(k:Bool):Prop :=
 match x with
 | .non=>k=false
 | .bl b=>k=b
 | .int i=>k=(i != 0)
 | .str y=>y.length<=sizeLine/\k=((y.length:Int) != 0)
 | .byt y=>y.size<=sizeLine/\k=((y.size:Int) != 0)
 | .ref p=>(∃ xs,SqL K H p xs/\k=!xs.isEmpty)\/(∃ xs,SqT K H p xs/\k=!xs.isEmpty)\/∃ kvs,H p=some (.dK kvs)/\k=!kvs.isEmpty
 | _=>False
theorem jMN{κ:Type}{kvs:List (κ×V)}{vs:List (κ×Value)}(r:KV kvs vs):(!vs.isEmpty)=!kvs.isEmpty:=by
 cases r<;>rfl
theorem jIw{xs:List V}{its:List Value}(r:jAH xs its):(!its.toArray.isEmpty)=!xs.isEmpty:=by
 cases r<;>simp
theorem jGo:(sizeLine:Nat)<2^63:=by rw [sizeLine_eq];decide
theorem tru_ok:TruR X (fun x H Q=>∃ k,TruV X.K x H k/\Q k H):=by
 intro pins s σ H x v Q I rx h
 obtain⟨k,e,q⟩:=h
 have hl:=jGo
 have hs:sizeLine=16777216:=sizeLine_eq
 cases x with
 | non =>
   cases rx
   have e':k=false:=e
   subst e'
   exact truthy_none ⟨H,I,q⟩
 | bl b =>
   cases rx
   have e':k=b:=e
   subst e'
   exact wpAny_truthy_bool ⟨H,I,q⟩
 | int i =>
   obtain⟨t,rfl⟩:=rx
   have e':k=(i != 0):=e
   subst e'
   exact PySem.P.truthy_int ⟨H,I,q⟩
 | str y =>
   obtain⟨t,rfl⟩:=rx
   obtain⟨hy,e'⟩:y.length<=sizeLine/\k=((y.length:Int) != 0):=e
   subst e'
   exact PySem.P.truthy_str (by omega) ⟨H,I.tok _,q⟩
 | byt y =>
   obtain⟨t,rfl⟩:=rx
   obtain⟨hy,e'⟩:y.size<=sizeLine/\k=((y.size:Int) != 0):=e
   subst e'
   exact PySem.W.truthy_bytes (by omega) ⟨H,I.tok _,q⟩
 | ref p =>
   cases rx
   have e':(∃ xs,SqL X.K H p xs/\k=!xs.isEmpty)\/(∃ xs,SqT X.K H p xs/\k=!xs.isEmpty)\/∃ kvs,H p=some (.dK kvs)/\k=!kvs.isEmpty:=e
   rcases e' with⟨xs,hx,e'⟩|⟨xs,hx,e'⟩|⟨kvs,hx,e'⟩
   ·subst e'
    obtain⟨its,r,pl,hz⟩:=I.list hx
    have hlen:=r.length
    exact wpAny_truthy_list pl.isList (by simp only [List.size_toArray];omega) ⟨H,I.tok _,by rw [jIw r];exact q⟩
   ·subst e'
    obtain⟨its,r,pl,hz⟩:=I.tuple hx
    have hlen:=r.length
    exact truthy_tuple pl (by simp only [List.size_toArray];omega) ⟨H,I.tok _,by rw [jIw r];exact q⟩
   ·subst e'
    obtain⟨hz,hS,vs,r,m⟩:kvs.length<=sizeLine/\(p==sysModules)=false/\∃ vs,KV kvs vs/\s.heap.DictOf (jA4 X.prog X.w) p vs:=I.hok p _ hx
    have hlen:kvs.length=vs.length:=Paired.length r
    exact wpAny_truthy_dict hS m (by omega) ⟨H,I.tok _,by rw [jMN r];exact q⟩
 | _=>exact (show False from e).elim
theorem jAX(ha:PE X a ta)(he:∀ whole,isTrue a X.env whole=(do let v <- whole;standAt a.pos;holding [v] (truthy v))) :
 PT X a (fun σ H Q=>ta σ H fun x H'=>∃ k,TruV X.K x H' k/\Q k H'):=by
 intro pins s σ H Q I h
 exact isTrue_plain (thn (ha pins s σ H _ I h) fun v s1 ⟨x,H1,I1,r1,q1⟩=>tru_ok pins s1 σ H1 x v Q I1 r1 q1) (he _)
theorem jIx:OpR X (binaryOp .Add) (fun x y H Q=>∃ i j,x=.str i/\y=.str j/\i.length+j.length<=sizeLine/\Q (.str (i++j)) H):=by
 intro pins s σ H x y v u Q I rx ry h
 obtain⟨i,j,rfl,rfl,hz,q⟩:=h
 obtain⟨t,rfl⟩:=rx
 obtain⟨t',rfl⟩:=ry
 exact add_str (fun t' tk=>⟨.str (i++j),H,I.tok _,⟨_,rfl⟩,q⟩) hz
theorem jCV{x:V}{us:List Value}(r:jAH [x] us):∃ u,us=[u]/\jAA x u:=by
 cases r with
 | cons r1 r2=>cases r2;exact⟨_,rfl,r1⟩
theorem vals2{x y:V}{us:List Value}(r:jAH [x,y] us):∃ u w',us=[u,w']/\jAA x u/\jAA y w':=by
 cases r with
 | cons r1 r2 =>
   cases r2 with
   | cons r3 r4=>cases r4;exact⟨_,_,rfl,r1,r3⟩
theorem jJ3(hc:X.calm=true):CallR X (.builtin "max") (fun xs H Q=>∃ i j,xs=[.int i,.int j]/\Q (.int (if j > i then j else i)) H):=by
 intro pins s σ H xs us Q I r h
 obtain⟨i,j,rfl,q⟩:=h
 obtain⟨u,w',rfl,⟨t,rfl⟩,⟨t',rfl⟩⟩:=vals2 r
 refine max_two_ints (I.ok.hd hc) fun h' tk k=>⟨_,H,I.kept k,?_,q⟩
 by_cases hj:j > i
 ·rw [if_pos hj,if_pos hj];exact⟨_,rfl⟩
 ·rw [if_neg hj,if_neg hj];exact⟨_,rfl⟩
theorem jJ4(hc:X.calm=true):CallR X (.builtin "min") (fun xs H Q=>∃ i j,xs=[.int i,.int j]/\Q (.int (if j<i then j else i)) H):=by
 intro pins s σ H xs us Q I r h
 obtain⟨i,j,rfl,q⟩:=h
 obtain⟨u,w',rfl,⟨t,rfl⟩,⟨t',rfl⟩⟩:=vals2 r
 refine min_two_ints (I.ok.hd hc) fun h' tk k=>⟨_,H,I.kept k,?_,q⟩
 by_cases hj:j<i
 ·rw [if_pos hj,if_pos hj];exact⟨_,rfl⟩
 ·rw [if_neg hj,if_neg hj];exact⟨_,rfl⟩
theorem jK3:CallR X (.type "str") (fun xs H Q=>∃ i,xs=[.int i]/\i.natAbs.log2<1920/\Q (.str (toString i)) H):=by
 intro pins s σ H xs us Q I r h
 obtain⟨i,rfl,hz,q⟩:=h
 obtain⟨u,rfl,t,rfl⟩:=jCV r
 exact PySem.P.str_of_int hz ⟨.str _,H,I.tok _,⟨_,rfl⟩,q⟩
end
structure ObjM(h:Heap)(x dx C:Addr)(mA:Str->Option Value):Prop where
 obj:h.get? x=some (PySem.W.instObj C dx)
 ns:h.Ns1 dx mA
 ne:dx≠x
theorem lookIn_ns{h:Heap}{dx:Addr}{mA:Str->Option Value}(n:h.Ns1 dx mA):∃ od,h.get? dx=some od/\∀ name,PySem.W.lookIn name od=some (mA name):=by
 obtain⟨o,es,ep,ho,hd,hk,_,hm⟩:=n
 refine⟨o,ho,fun name=>?_⟩
 have e:=hm name
 unfold nsFind findBy at e
 rw [<- Array.find?_toList] at e
 unfold PySem.W.lookIn
 rw [hd]
 dsimp only
 split
 ·rename_i y q
  rw [q] at e
  exact congrArg some e
 ·rename_i q
  rw [q] at e
  have a:es.toList.any (·.refKey)=false:=by
   rw [List.any_eq_false]
   intro y hy
   obtain⟨z,t,hkey⟩:=hk y (Array.mem_toList_iff.mp hy)
   simp [DictEntry.refKey,hkey]
  have a':¬ es.toList.any (·.refKey)=true:=by rw [a];exact Bool.false_ne_true
  rw [if_neg a']
  exact congrArg some e
theorem ObjM.look{h:Heap}{x dx C:Addr}{mA:Str->Option Value}(I:ObjM h x dx C mA):∃ od,PySem.W.InstAt h x (PySem.W.instObj C dx) C (some od)/\∀ name,PySem.W.lookIn name od=some (mA name) :=
 let ⟨od,ho,hl⟩:=lookIn_ns I.ns
 ⟨od,⟨I.obj,rfl,rfl,ho⟩,hl⟩
section
variable {prog:Program}{w:World}{A:Around}{E:Value->Shared->Prop}{s:Shared}{K:PySem.W.Frag}{x dx C f:Addr}{mA:Str->Option Value}{name:Str}{v:Value}
theorem get_map{expr:Bool}{Q:Value->Shared->Prop}(X:K.In s.heap)(I:ObjM s.heap x dx C mA)(hg:PySem.W.plainGet K C name=true)(hh:PySem.W.hasDictIn K C=true)
 (ha:PySem.W.findIn K (.ref C) name=some none) (hv:mA name=some v) (hv':PySem.W.handedIn v=true) (h:Q v { s with toks:=s.toks+1 }) :
 wpAny (model prog w) A (getAttr (.ref x) name expr) Q E s:=by
 obtain⟨od,J,hl⟩:=I.look
 exact PySem.W.get_value X J (PySem.W.plainGet_of hg).1 (PySem.W.findObj_own hh ha rfl (by rw [hl,hv])) hv' h
theorem jN5{pl:Sem Bool}{Q:Value×List Value->Shared->Prop}(X:K.In s.heap)(I:ObjM s.heap x dx C mA)(hg:PySem.W.plainGet K C name=true)
 (hf:PySem.W.findIn K (.ref C) name=some (some (.ref f))) (ht:PySem.W.isFn K (.ref f)=true) (hv:mA name=none) (h:Q (.ref f,[.ref x]) s) :
 wpAny (model prog w) A (getMethod (.ref x) name pl) Q E s:=by
 obtain⟨od,J,hl⟩:=I.look
 exact PySem.W.method_fn X J (PySem.W.plainGet_of hg).1 (PySem.W.plainGet_of hg).2 hf (beq_iff_eq.mp ht) (by show (PySem.W.lookIn name od).map (·.isSome)=some false;rw [hl,hv];rfl) h
theorem set_map{ns:List Str}{Q:Unit->Shared->Prop}(X:K.In s.heap)(I:ObjM s.heap x dx C mA)
 (hs:PySem.W.findIn K (.ref C) "__setattr__"=some (some (.builtin "object.__setattr__"))) (hp:PySem.W.plainOver K C=true) (ht:PySem.W.takerIn K C name=some none) (hh:PySem.W.hasDictIn K C=true)
 (hw:PySem.Within mA ns) (hsz:ns.length<=sizeLine)
 (h:∀ h',ObjM h' x dx C (fun y=>if y=name then some v else mA y)->Heap.SameBut dx s.heap h'->Q () { s with heap:=h',toks:=s.toks+2 }) :
 wpAny (model prog w) A (setAttr (.ref x) name v) Q E s:=by
 obtain⟨od,J,hl⟩:=I.look
 refine PySem.W.set_plain X J hs (PySem.W.osa_open (s:={ s with toks:=s.toks+1 }) (r:=none) X J hp ht fun b=>?_)
 obtain⟨cd,hc,hd'⟩:=PySem.W.any_some hh
 have hx:s.heap.get? x=some ⟨.ref C,some dx,.plain,#[]⟩:=I.obj
 refine wpAny_bind (wpAny_pure (wpAny_bind (wpAny_bind (wpAny_loadPart hx (wpAny_bind (PySem.W.Looks.here (s:={ s with toks:=s.toks+1 }) (PySem.W.looks_clsIn X hc) ?_))))))
 rw [hd']
 refine wpAny_pure (a:=some dx) (wpAny_bind (wpAny_pure (wpAny_bind ?_)))
 refine wpAny_nsSet1 (s:={ s with toks:=s.toks+1 }) I.ns fun h' hn2 hs2=>?_
 obtain⟨oD,esD,epD,hoD,hdD,hcD⟩:=hn2.count (PySem.Within.cons name v hw)
 refine wpAny_bind (wpAny_lookBehind hoD (by rw [hdD];exact pastItsLine_dict (Nat.le_trans hcD (by rw [List.length_cons];omega))) ?_)
 exact wpAny_pure (h _ ⟨(hs2.2 _ (Ne.symm I.ne)).trans I.obj,hn2,I.ne⟩ hs2)
theorem jN6{R:Result->Shared->Prop}{vs:List Value}{kw:List (Str×Value)}(X:K.In s.heap)(hm:PySem.W.makesIn K C=true)
 (hi:PySem.W.findIn K (.ref C) "__init__"=some (some (.ref f))) (hf:PySem.W.typeIn K (.ref f)=some (.type "function"))
 (h:codeAny (model prog w) (A.under (.builtin "type.__call__" ⟨.ref C::vs,kw⟩)) (.call (.ref f) ⟨.ref (s.heap.objs.size+1)::vs,kw⟩) (PySem.W.InitBack (s.heap.objs.size+1) R)
  { s with heap:=(s.heap.push PySem.W.emptyDict).push (PySem.W.instObj C s.heap.objs.size) }) :
 codeAny (model prog w) A (.call (.ref C) ⟨vs,kw⟩) R s:=by
 obtain⟨hh,g,d,t,os⟩:=s
 exact PySem.W.make_core (PySem.W.makes_of X hm) (PySem.W.looks_findIn X hi) (fun self=>PySem.W.bind_fn X self hf) (.inl rfl) h
end
def jBd(f:Str)(v:V):List (Str×V)->List (Str×V)
 | []=>[(f,v)]
 | (g,x)::r=>if g=f then (g,v)::r else (g,x)::jBd f v r
theorem jFY(f g:Str)(v:V):∀ fs:List (Str×V),(jBd f v fs).lookup g=if g=f then some v else fs.lookup g
 | []=>by
   show List.lookup g [(f,v)]=_
   by_cases h:g=f
   ·have hb:(g==f)=true:=beq_iff_eq.mpr h
    simp only [List.lookup,hb,if_pos h]
   ·have hb:(g==f)=false:=beq_eq_false_iff_ne.mpr h
    simp only [List.lookup,hb,if_neg h]
 | (k,x)::r=>by
   have ih:=jFY f g v r
   rw [show jBd f v ((k,x)::r)=(if k=f then (k,v)::r else (k,x)::jBd f v r) from rfl]
   by_cases hk:k=f
   ·rw [if_pos hk]
    by_cases h:g=k
    ·have hb:(g==k)=true:=beq_iff_eq.mpr h
     simp only [List.lookup,hb,if_pos (h.trans hk)]
    ·have hb:(g==k)=false:=beq_eq_false_iff_ne.mpr h
     simp only [List.lookup,hb,if_neg (fun e:g=f=>h (e.trans hk.symm))]
   ·rw [if_neg hk]
    by_cases h:g=k
    ·have hb:(g==k)=true:=beq_iff_eq.mpr h
     simp only [List.lookup,hb,if_neg (fun e:g=f=>hk (h.symm.trans e))]
    ·have hb:(g==k)=false:=beq_eq_false_iff_ne.mpr h
     simp only [List.lookup,hb]
     exact ih
theorem jEr(f:Str)(v:V):∀ fs:List (Str×V),f∈(jBd f v fs).map (·.1)/\∀ g,g∈fs.map (·.1)->g∈(jBd f v fs).map (·.1)
 | []=>⟨by simp [jBd],fun g h=>by simp at h⟩
 | (k,x)::r=>by
   obtain⟨i1,i2⟩:=jEr f v r
   rw [show jBd f v ((k,x)::r)=(if k=f then (k,v)::r else (k,x)::jBd f v r) from rfl]
   by_cases hk:k=f
   ·rw [if_pos hk]
    subst hk
    exact⟨by simp,fun g h=>by simpa using h⟩
   ·rw [if_neg hk]
    refine⟨?_,fun g h=>?_⟩
    ·rw [List.map_cons]
     exact List.mem_cons_of_mem _ i1
    ·rw [List.map_cons] at h ⊢
     rcases List.mem_cons.mp h with e|e
     ·exact List.mem_cons.mpr (.inl e)
     ·exact List.mem_cons_of_mem _ (i2 g e)
theorem jFZ(f:Str)(v:V):∀ fs:List (Str×V),(jBd f v fs).length<=fs.length+1
 | []=>by simp [jBd]
 | (k,x)::r=>by
   have ih:=jFZ f v r
   rw [show jBd f v ((k,x)::r)=(if k=f then (k,v)::r else (k,x)::jBd f v r) from rfl]
   by_cases hk:k=f
   ·rw [if_pos hk,List.length_cons,List.length_cons];omega
   ·rw [if_neg hk,List.length_cons,List.length_cons];omega
theorem jBY.some_of{v:V}{o:Option Value}(r:jBY (some v) o):∃ u,o=some u/\jAA v u:=by
 cases o with
 | none=>exact (show False from r).elim
 | some u=>exact⟨u,rfl,r⟩
theorem jBY.none_of{o:Option Value}(r:jBY none o):o=none:=by
 cases o with
 | none=>rfl
 | some u=>exact (show False from r).elim
theorem jJ5{v:V}{u:Value}(r:jAA v u):PySem.W.handedIn u=true:=by
 cases v with
 | non=>cases (show u=Value.none from r);rfl
 | bl b=>cases (show u=Value.bool b from r);rfl
 | int i=>obtain⟨t,e⟩:=(show ∃ t,u=Value.int i t from r);cases e;rfl
 | str x=>obtain⟨t,e⟩:=(show ∃ t,u=Value.str x t from r);cases e;rfl
 | byt b=>obtain⟨t,e⟩:=(show ∃ t,u=Value.bytes b t from r);cases e;rfl
 | flt b=>obtain⟨t,e⟩:=(show ∃ t,u=Value.float b t from r);cases e;rfl
 | ref a=>cases (show u=Value.ref a from r);rfl
 | ty n=>cases (show u=Value.type n from r);rfl
section
variable {P:Program}{w:World}{H H':Hp}{h h':Heap}{a C dx:Addr}{fs fs':List (Str×V)}
theorem jJq(hok:HOk P w H h)(e:H a=some (.ins C dx fs)):∃ mA,ObjM h a dx C mA/\(∀ f,jBY (fs.lookup f) (mA f))/\PySem.Within mA (fs.map (·.1))/\fs.length<=1000/\H dx=some (.own a):=by
 obtain⟨d,z,ne,ob,mA,n,r,q⟩:=(show jA6 P w H h a (.ins C dx fs) from hok a _ e)
 exact⟨mA,⟨ob,n,ne⟩,r,q,z,d⟩
end
structure Cls(K:PySem.W.Frag)(C:Addr):Prop where
 pg:PySem.W.plainGet K C Str.empty=true
 hd:PySem.W.hasDictIn K C=true
 po:PySem.W.plainOver K C=true
 sa:PySem.W.findIn K (.ref C) "__setattr__"=some (some (.builtin "object.__setattr__"))
theorem Cls.get{K:PySem.W.Frag}{C:Addr}(c:Cls K C)(f:Str):PySem.W.plainGet K C f=true:=c.pg
def jAz(K:PySem.W.Frag)(C:Addr)(f:Str):Prop:=PySem.W.findIn K (.ref C) f=some none
theorem jAz.taker{K:PySem.W.Frag}{C:Addr}{f:Str}(n:jAz K C f):PySem.W.takerIn K C f=some none:=by
 unfold PySem.W.takerIn
 rw [show PySem.W.findIn K (.ref C) f=some none from n]
 rfl
structure Meth(K:PySem.W.Frag)(C:Addr)(m:Str)(f:Addr):Prop where
 at_:PySem.W.findIn K (.ref C) m=some (some (.ref f))
 fn:PySem.W.isFn K (.ref f)=true
 kp:PySem.W.keepIn K (.ref f)=true
section
variable {X:Cx}{pins:List (Addr×Obj)}{σ:St}{H:Hp}{s:Shared}{a C dx:Addr}{fs:List (Str×V)}{f:Str}{v:V}{A:Around}{E:Value->Shared->Prop}
theorem jIy{b:Bool}{Q:Value->Shared->Prop}(I:Inv X pins σ H s)(e:H a=some (.ins C dx fs))(c:Cls X.K C)(n:jAz X.K C f)(l:fs.lookup f=some v)
 (h:∀ u s',Inv X pins σ H s'->jAA v u->Q u s'):wpAny (model X.prog X.w) A (getAttr (.ref a) f b) Q E s:=by
 obtain⟨mA,O,r,_,_,_⟩:=jJq I.hok e
 obtain⟨u,hu,ru⟩:=jBY.some_of (v:=v) (o:=mA f) (by rw [<- l];exact r f)
 exact get_map I.kIn O (c.get f) c.hd n hu (jJ5 ru) (h u _ (I.tok _) ru)
theorem jIz{m:Str}{g:Addr}{pl:Sem Bool}{Q:Value×List Value->Shared->Prop}(I:Inv X pins σ H s)(e:H a=some (.ins C dx fs))(c:Cls X.K C)(k:Meth X.K C m g)(l:fs.lookup m=none)
 (h:Q (.ref g,[.ref a]) s):wpAny (model X.prog X.w) A (getMethod (.ref a) m pl) Q E s:=by
 obtain⟨mA,O,r,_,_,_⟩:=jJq I.hok e
 have hn:mA m=none:=jBY.none_of (by rw [<- l];exact r m)
 exact jN5 I.kIn O (c.get m) k.at_ k.fn hn h
theorem jIA{y:V}{u:Value}{Q:Unit->Shared->Prop}(I:Inv X pins σ H s)(e:H a=some (.ins C dx fs))(c:Cls X.K C)(n:jAz X.K C f)(hl:fs.length<1000)(ry:jAA y u)
 (h:∀ s',Inv X pins σ (upd H a (.ins C dx (jBd f y fs))) s'->Q () s'):wpAny (model X.prog X.w) A (setAttr (.ref a) f u) Q E s:=by
 obtain⟨mA,O,r,wi,_,ho⟩:=jJq I.hok e
 have hz:(fs.map (·.1)).length<=sizeLine:=by rw [List.length_map,sizeLine_eq];omega
 refine set_map I.kIn O c.sa c.po n.taker c.hd wi hz fun h' O' sb=>h _ ?_
 have hd:∃ o,h'.get? dx=some o:=let ⟨o,_,_,e',_⟩:=O'.ns;⟨o,e'⟩
 refine I.write (x:=a) (e:=dx) (by rw [e];exact True.intro) (.inr ho) (fun b q hb z=>(sb.2 b hb).trans z) hd ?_
 refine⟨by rw [jAi O.ne];exact ho,?_,O.ne,O'.obj,_,O'.ns,fun g=>?_,fun g hg=>?_⟩
 ·have:=jFZ f y fs;omega
 ·show jBY ((jBd f y fs).lookup g) (if g=f then some u else mA g)
  rw [jFY]
  by_cases q:g=f
  ·rw [if_pos q,if_pos q];exact ry
  ·rw [if_neg q,if_neg q];exact r g
 ·by_cases q:g=f
  ·rw [q];exact (jEr f y fs).1
  ·refine (jEr f y fs).2 g (wi g fun z=>hg ?_)
   show (if g=f then some u else mA g)=none
   rw [if_neg q];exact z
theorem Inv.made(I:Inv X pins σ H s):Inv X pins σ (upd (upd H s.heap.objs.size (.own (s.heap.objs.size+1))) (s.heap.objs.size+1) (.ins C s.heap.objs.size []))
 { s with heap:=(s.heap.push PySem.W.emptyDict).push (PySem.W.instObj C s.heap.objs.size) }:=by
 have e1:(s.heap.push PySem.W.emptyDict).get? s.heap.objs.size=some PySem.W.emptyDict:=Heap.get?_push_size s.heap rfl
 have e2:((s.heap.push PySem.W.emptyDict).push (PySem.W.instObj C s.heap.objs.size)).get? (s.heap.objs.size+1)=some (PySem.W.instObj C s.heap.objs.size):=by
  have:=Heap.get?_push_size (s.heap.push PySem.W.emptyDict) (o:=PySem.W.instObj C s.heap.objs.size) rfl
  rwa [Heap.size_push] at this
 have e3:(s.heap.push PySem.W.emptyDict).Ns s.heap.objs.size (fun _=>none):=⟨PySem.W.emptyDict,#[],_,e1,rfl,(fun e he=>absurd he (by simp)),fun _=>rfl⟩
 have I1:=I.laid (a:=s.heap.objs.size) (o:=.own (s.heap.objs.size+1)) (h':=s.heap.push PySem.W.emptyDict) (t':=s.toks) (fun b u q=>Heap.get?_push_of_some _ q) (Nat.le_refl _) ⟨_,e1⟩
 refine I1.laid (a:=s.heap.objs.size+1) (o:=.ins C s.heap.objs.size []) (t':=s.toks) (fun b u q=>Heap.get?_push_of_some _ q) (Nat.le_of_eq (Heap.size_push _ _)) ?_
 have ne:s.heap.objs.size≠s.heap.objs.size+1:=Nat.ne_of_lt (Nat.lt_succ_self _)
 refine⟨by rw [jAi ne,jAb],Nat.zero_le _,ne,e2,fun _=>none,(Heap.Ns1.of_empty e3).at fun o q=>Heap.get?_push_of_some _ q,fun _=>True.intro,fun y hy=>absurd rfl hy⟩
theorem jMu{prog:Program}{w:World}{env:Env}{e:Expr}{f:Str}{pos:Pos}{s:Shared}{Q:Value->Shared->Prop}(hb:attributeBase e f env (eval e env)=eval e env)
 (h:wpAny (model prog w) A (eval e env) (fun o s₁=>wpAny (model prog w) A (getAttr o f true) Q E s₁) E s):wpAny (model prog w) A (eval (.Attribute e f pos) env) Q E s :=
 Attribute_any_ h (by rw [arm_eval_Attribute,hb])
end
inductive ItFld(K:PySem.W.Frag)(f:Str)(Q:VK)(x:V)(H1:Hp):Prop|mk a C dx fs v:x=.ref a->H1 a=some (.ins C dx fs)->Cls K C->jAz K C f->fs.lookup f=some v->Q v H1->ItFld K f Q x H1
def tFld(K:PySem.W.Frag)(ta:TE)(f:Str):TE:=fun σ H Q=>ta σ H fun x H1=>ItFld K f Q x H1
inductive IsFld(K:PySem.W.Frag)(f:Str)(D:jBR)(σ:St)(y:V)(x:V)(H2:Hp):Prop|mk a C dx fs:x=.ref a->H2 a=some (.ins C dx fs)->Cls K C->jAz K C f->fs.length<1000->D.nx σ (upd H2 a (.ins C dx (jBd f y fs)))->IsFld K f D σ y x H2
def sFld(K:PySem.W.Frag)(ta tv:TE)(f:Str):TS:=fun D σ H=>tv σ H fun y H1=>ta σ H1 fun x H2=>IsFld K f D σ y x H2
def InOp(X:Cx)(op:Operator)(rd:V->V->Hp->VK->Prop):Prop :=
 ∀ (pins:List (Addr×Obj)) (s:Shared) (σ:St) (H:Hp) (x y:V) (u v:Value) (Q:VK),Inv X pins σ H s->jAA x u->jAA y v->rd x y H Q->wpAny (model X.prog X.w) X.A (inplaceOp op u v) (EP X pins σ Q) X.xe s
inductive jK4(K:PySem.W.Frag)(tv:TE)(rd:V->V->Hp->VK->Prop)(f:Str)(D:jBR)(σ:St)(x:V)(H1:Hp):Prop|mk a C dx fs v:x=.ref a->H1 a=some (.ins C dx fs)->Cls K C->jAz K C f->fs.lookup f=some v->(tv σ H1 fun y H2=>rd v y H2 fun z H3=>∃ dx' fs',H3 a=some (.ins C dx' fs')/\fs'.length<1000/\D.nx σ (upd H3 a (.ins C dx' (jBd f z fs'))))->jK4 K tv rd f D σ x H1
def sFldAug(K:PySem.W.Frag)(ta tv:TE)(rd:V->V->Hp->VK->Prop)(f:Str):TS:=fun D σ H=>ta σ H fun x H1=>jK4 K tv rd f D σ x H1
section
variable {X:Cx}{o e value:Expr}{f:Str}{pos pos' tpos:Pos}{ta tv:TE}
theorem jAq(he:PE X e ta)(hb:attributeBase e f X.env (eval e X.env)=eval e X.env):PE X (.Attribute e f pos) (tFld X.K ta f):=by
 intro pins s σ H Q I h
 refine jMu hb (thn (he pins s σ H _ I h) fun u s1 ⟨x,H1,I1,rx,a,C,dx,fs,v,ex,ea,c,n,l,q⟩=>?_)
 subst ex
 obtain rfl:u=Value.ref a:=rx
 exact jIy I1 ea c n l fun u' s2 I2 ru=>⟨v,H1,I2,ru,q⟩
theorem jAM(ha:PE X o ta)(hv:PE X value tv)(hs:swapsWith value (some (.Attribute o f pos')) pos.line X.env=pure false):PS X (.Assign [.Attribute o f pos'] value pos) (sFld X.K ta tv f):=by
 intro pins s σ H D I h
 refine plainObj_wpAny_Assign_Attribute (thn (hv pins s σ H _ I h) fun u s1 ⟨y,H1,I1,ry,q⟩=>thn (ha pins s1 σ H1 _ I1 q) fun ov s2 ⟨x,H2,I2,rx,a,C,dx,fs,ex,ea,c,n,l,q2⟩=>?_) hs
 subst ex
 obtain rfl:ov=Value.ref a:=rx
 exact jIA I2 ea c n l ry fun s3 I3=>⟨σ,_,I3,q2⟩
theorem jNi{op:Operator}{rd:V->V->Hp->VK->Prop}(ha:PE X o ta)(hv:PE X value tv)(hop:InOp X op rd):PS X (.AugAssign (.Attribute o f tpos) op value pos) (sFldAug X.K ta tv rd f):=by
 intro pins s σ H D I h
 refine wpAny_AugAssign_AttributeAny (thn (ha pins s σ H _ I h) fun ov s1 ⟨x,H1,I1,rx,a,C,dx,fs,v,ex,ea,c,n,l,q⟩=>?_)
 subst ex
 obtain rfl:ov=Value.ref a:=rx
 refine jIy I1 ea c n l fun u s2 I2 ru=>thn (hv pins s2 σ H1 _ I2 q) fun w3 s3 ⟨y,H2,I3,ry,q3⟩=>thn (hop pins s3 σ H2 v y u w3 _ I3 ru ry q3) fun w4 s4 ⟨z,H3,I4,rz,dx',fs',ea',l',q4⟩=>?_
 exact jIA I4 ea' c n l' rz fun s5 I5=>⟨σ,_,I5,q4⟩
def rAdd:V->V->Hp->VK->Prop:=fun x y H Q=>∃ i j,x=.int i/\y=.int j/\Q (.int (i+j)) H
def rSub:V->V->Hp->VK->Prop:=fun x y H Q=>∃ i j,x=.int i/\y=.int j/\Q (.int (i-j)) H
theorem in_add:InOp X .Add rAdd:=by
 rintro pins s σ H x y u v Q I rx ry ⟨i,j,rfl,rfl,q⟩
 obtain⟨t,rfl⟩:=(show ∃ t,u=Value.int i t from rx)
 obtain⟨t',rfl⟩:=(show ∃ t',v=Value.int j t' from ry)
 exact PyProof.Rows.iadd_int ⟨.int (i+j),H,I.tok _,⟨_,rfl⟩,q⟩
theorem in_sub:InOp X .Sub rSub:=by
 rintro pins s σ H x y u v Q I rx ry ⟨i,j,rfl,rfl,q⟩
 obtain⟨t,rfl⟩:=(show ∃ t,u=Value.int i t from rx)
 obtain⟨t',rfl⟩:=(show ∃ t',v=Value.int j t' from ry)
 exact PyProof.Rows.isub_int ⟨.int (i-j),H,I.tok _,⟨_,rfl⟩,q⟩
end
section
variable {X:Cx}{pins:List (Addr×Obj)}{σ:St}{H:Hp}{s:Shared}{A:Around}{E:Value->Shared->Prop}{Q:Value->Shared->Prop}{c:Value}{b:Bool}
end
structure jAZ(k:Nat)(A:Around):Prop where
 hd:A.handled=none
 dp:A.depth+3*k+5<recursionLimit
 un:A.units+16*k+200<cLine
theorem jAZ.mono{j k:Nat}{A:Around}(r:jAZ k A)(h:j<=k):jAZ j A:=⟨r.hd,by have:=r.dp;omega,by have:=r.un;omega⟩
theorem jAZ.deeper{k:Nat}{A:Around}(r:jAZ (k+1) A)(env:Env):jAZ k (A.deeper env) :=
 ⟨r.hd,by have:=r.dp;show A.depth+1+3*k+5<_;omega,by have:=r.un;show A.units+3+16*k+200<_;omega⟩
theorem jMO{A:Around}{C:Addr}{us:List Value}{kw:List (Str×Value)}:(A.under (.builtin "type.__call__" ⟨.ref C::us,kw⟩)).depth=A.depth+1:=by
 first|rfl|simp [Around.under,Code.weight,Code.isCreation,Code.isGuard,Code.isCaller,Code.frames,Code.isFrame,guardIds]
theorem jMP{A:Around}{C:Addr}{us:List Value}{kw:List (Str×Value)}:(A.under (.builtin "type.__call__" ⟨.ref C::us,kw⟩)).units=A.units+1:=by
 first|rfl|simp [Around.under,Code.cUnits,Code.frames,Code.isFrame]
theorem jAZ.make{k:Nat}{A:Around}(r:jAZ (k+1) A)(C:Addr)(us:List Value)(kw:List (Str×Value)):jAZ k (A.under (.builtin "type.__call__" ⟨.ref C::us,kw⟩)) :=
 ⟨r.hd,by have:=r.dp;rw [jMO];omega,by have:=r.un;rw [jMP];omega⟩
theorem jAZ.depth{k:Nat}{A:Around}(r:jAZ k A):A.depth<recursionLimit:=by have:=r.dp;omega
theorem jAZ.units{k:Nat}{A:Around}(r:jAZ k A):A.units+64<cLine:=by have:=r.un;omega
theorem jAZ.units0{k:Nat}{A:Around}(r:jAZ k A):A.units<cLine:=by have:=r.un;omega
def jCx:TA:=fun _ H Q=>Q [] H
def tCons(ta:TE)(tr:TA):TA:=fun σ H Q=>ta σ H fun x H1=>tr σ H1 fun xs H2=>Q (x::xs) H2
section
variable {X:Cx}{e:Expr}{es:List Expr}{te:TE}{t:TA}{pos:Pos}
theorem jAc:PA X [] jCx:=fun _ _ _ _ H Q I h=>Calls.spliced_nil ⟨[],H,I,.nil,h⟩
theorem jAa(ha:PE X e te)(hr:PA X es t)(hs:starEach (e::es) X.env=(false,eval e X.env)::starEach es X.env:=by rfl):PA X (e::es) (tCons te t):=by
 intro pos pins s σ H Q I h
 rw [hs]
 show wpAny _ _ (spliced ((false,eval e X.env)::backTo pos (starEach es X.env))) _ _ s
 refine Calls.spliced_cons (thn (ha pins s σ H _ I h) fun u s1 ⟨x,H1,I1,r1,q1⟩=>?_)
 exact thn (hr pos pins s1 σ H1 _ I1 q1) fun us s2 ⟨xs,H2,I2,r2,q2⟩=>⟨x::xs,H2,I2,.cons r1 r2,q2⟩
def tTup(t:TA):TE:=fun σ H Q=>t σ H fun xs H1=>xs.length<=sizeLine/\∀ p,H1 p=none->Q (.ref p) (upd H1 p (.tup xs))
def tLst(t:TA):TE:=fun σ H Q=>t σ H fun xs H1=>xs.length<=sizeLine/\∀ p,H1 p=none->Q (.ref p) (upd H1 p (.lst xs))
theorem jAN{x1}(h:PA X es t):PE X (.Tuple es x1 pos) (tTup t):=by
 intro pins s σ H Q I hq
 refine wpAny_Tuple_spliced (thn (h pos pins s σ H _ I hq) fun us s1 ⟨xs,H1,I1,r,z,q⟩=>⟨by rw [<- r.length];exact z,?_⟩)
 have hf:H1 s1.heap.objs.size=none:=I1.hok.fresh (Nat.le_refl _)
 refine⟨.ref s1.heap.objs.size,upd H1 s1.heap.objs.size (.tup xs),I1.laid (t':=s1.toks) (fun b u e=>Heap.get?_push_of_some _ e) (Nat.le_refl _) ?_,rfl,q _ hf⟩
 exact⟨z,us,r,⟨_,Heap.get?_push_size _ rfl,rfl,_,rfl⟩⟩
theorem jAV(h:PA X es t):PE X (.List es pos) (tLst t):=by
 intro pins s σ H Q I hq
 refine wpAny_List_spliced (thn (h pos pins s σ H _ I hq) fun us s1 ⟨xs,H1,I1,r,z,q⟩=>⟨by rw [<- r.length];exact z,?_⟩)
 have hf:H1 s1.heap.objs.size=none:=I1.hok.fresh (Nat.le_refl _)
 refine⟨.ref s1.heap.objs.size,upd H1 s1.heap.objs.size (.lst xs),I1.laid (t':=s1.toks) (fun b u e=>Heap.get?_push_of_some _ e) (Nat.le_refl _) ?_,rfl,q _ hf⟩
 exact⟨z,us,0,r,Heap.get?_push_size _ rfl⟩
end
abbrev Sp:=List V->Hp->VK->XK->Prop
abbrev CXT:=List Env->Hp->Shared->XK->Value->Shared->Prop
structure Env0(P:Program)(w:World)(K:PySem.W.Frag)(mg:Str->Option Value)(base:Heap)(A:Around)(outer:List Env)(s:Shared)(H:Hp):Prop where
 frames:A.frames=some outer
 mod:Mod K mg base
 bs:∀ b o,base.get? b=some o->s.heap.get? b=some o/\H b=none
 bsz:base.objs.size<=s.heap.objs.size
 funs:s.heap.FunFrames base outer
 frf:∀ b∈frs outer,H b=none
 hok:HOk P w H s.heap
 bare:AllBare s.gens
def CE(outer:List Env)(P:Program)(w:World)(H:Hp)(s:Shared)(Q:VK)(u:Value)(s':Shared):Prop :=
 ∃ v H',s'.os=s.os/\AllBare s'.gens/\Un (frs outer) [] H H' s.heap s'.heap/\HOk P w H' s'.heap/\jAA v u/\Q v H'
def CR(CX:CXT)(outer:List Env)(P:Program)(w:World)(H:Hp)(s:Shared)(Q:VK)(E:XK)(r:Result)(s':Shared):Prop :=
 match r with
 | .ok (.ret u)=>CE outer P w H s Q u s'
 | .ok _=>False
 | .error e=>CX outer H s E e s'
structure jAr(P:Program)(w:World)(K:PySem.W.Frag)(mg:Str->Option Value)(base:Heap)(CX:CXT)(k:Nat)(f:Addr)(fd:FuncData)(ps:List Str)(sp:Sp):Prop where
 len:∀ vs H Q E,sp vs H Q E->vs.length=ps.length
 run:∀ (A:Around) (outer:List Env) (s:Shared) (H:Hp) (args:Args) (us:List Value) (vs:List V) (Q:VK) (E:XK),jAZ k A->Env0 P w K mg base A outer s H->BindsTo s fd args (ps.zip us)->jAH vs us->sp vs H Q E ->
  codeAny (model P w) A (.call (.ref f) args) (CR CX outer P w H s Q E) s
theorem jAr.mono{P:Program}{w:World}{K:PySem.W.Frag}{mg:Str->Option Value}{base:Heap}{CX:CXT}{j k:Nat}{f:Addr}{fd:FuncData}{ps:List Str}{sp:Sp}(F:jAr P w K mg base CX j f fd ps sp)(h:j<=k) :
 jAr P w K mg base CX k f fd ps sp:=⟨F.len,fun A outer s H args us vs Q E hr=>F.run A outer s H args us vs Q E (hr.mono h)⟩
theorem Env0.make{P:Program}{w:World}{K:PySem.W.Frag}{mg:Str->Option Value}{base:Heap}{A:Around}{outer:List Env}{s:Shared}{H:Hp}(e:Env0 P w K mg base A outer s H)(C:Addr)(us:List Value)(kw:List (Str×Value)) :
 Env0 P w K mg base (A.under (.builtin "type.__call__" ⟨.ref C::us,kw⟩)) outer s H:=⟨by first|exact e.frames|(simpa [Around.under,Code.envs,Code.isFrame,pushEnvs] using e.frames),e.mod,e.bs,e.bsz,e.funs,e.frf,e.hok,e.bare⟩
section
variable {X:Cx}{pins:List (Addr×Obj)}{σ:St}{H:Hp}{s s':Shared}
theorem Inv.env0(I:Inv X pins σ H s):Env0 X.prog X.w X.K X.mg X.base X.A X.stack s H :=
 ⟨I.ok.frames,I.ok.mod,I.bs,Nat.le_trans I.ok.bsz I.sz,I.stack,I.stkFree,I.hok,I.bare⟩
theorem Inv.after{Q:VK}{u:Value}(I:Inv X pins σ H s)(h:CE X.stack X.prog X.w H s Q u s'):EP X pins σ Q u s':=by
 obtain⟨v,H',os,bare,un,hok,r,q⟩:=h
 obtain⟨hh,g,d,t,os'⟩:=s'
 obtain rfl:os'=s.os:=os
 exact⟨v,H',I.call (h':=hh) (g':=g) (d':=d) (t':=t) (ch:=[]) un hok bare (fun b z=>absurd z (by simp)),r,q⟩
end
def tCall(sp:Sp)(dvs:List V)(E:XK)(t:TA):TE:=fun σ H Q=>t σ H fun vs H1=>sp (vs++dvs) H1 Q E
def jKU(C:Addr)(sp:Sp)(dvs:List V)(E:XK)(t:TA):TE:=fun σ H Q=>t σ H fun vs H1=>∀ x dx,H1 x=none->H1 dx=none->dx≠x ->
 sp (.ref x::(vs++dvs)) (upd (upd H1 dx (.own x)) x (.ins C dx [])) (fun v H2=>v=.non/\Q (.ref x) H2) E
def jBw(K:PySem.W.Frag)(fd:FuncData)(ps:List Str)(ds:List Value):Prop :=
 ∀ (s:Shared) (us:List Value),K.In s.heap->(us++ds).length=ps.length->BindsTo s fd ⟨us,[]⟩ (ps.zip (us++ds))
theorem jBw.all{K:PySem.W.Frag}{fd:FuncData}{ps:List Str}(h:∀ us:List Value,us.length=ps.length->bindArgs fd ⟨us,[]⟩=pure (ps.zip us)):jBw K fd ps []:=fun s us _ hl=>by
 rw [List.append_nil] at hl ⊢
 exact .of_eq (h us hl)
def jEs(CX:CXT)(X:Cx)(E:XK):Prop:=∀ (pins:List (Addr×Obj)) (σ:St) (H:Hp) (s:Shared) (e:Value) (s':Shared),Inv X pins σ H s->CX X.stack H s E e s'->X.xe e s'
section
variable {X:Cx}{CX:CXT}{k:Nat}{f C:Addr}{fd:FuncData}{ps:List Str}{sp:Sp}{dvs:List V}{ds:List Value}{E:XK}{x m:Str}{p pos apos:Pos}{e o:Expr}{es:List Expr}{ta:TE}{t:TA}
theorem jNj{pins:List (Addr×Obj)}{σ:St}{H:Hp}{s:Shared}{Q:VK}{us:List Value}{vs:List V}(F:jAr X.prog X.w X.K X.mg X.base CX k f fd ps sp)(hr:jAZ k X.A)(hb:jBw X.K fd ps ds)(hd:jAH dvs ds)(hx:jEs CX X E)
 (I:Inv X pins σ H s) (r:jAH vs us) (h:sp (vs++dvs) H Q E):wpAny (model X.prog X.w) X.A (call (.ref f) us) (EP X pins σ Q) X.xe s:=by
 have r2:jAH (vs++dvs) (us++ds):=r.append hd
 have hl:(us++ds).length=ps.length:=by rw [<- r2.length];exact F.len _ _ _ _ h
 refine wpAny_call (codeAny_mono (F.run X.A X.stack s H ⟨us,[]⟩ (us++ds) (vs++dvs) Q E hr I.env0 (hb s us I.kIn hl) r2 h) fun r s' hq=>?_)
 cases r with
 | error e=>exact hx pins σ H s e s' I hq
 | ok fl =>
   cases fl with
   | ret u=>exact I.after hq
   | next=>exact False.elim hq
   | brk=>exact False.elim hq
   | cont=>exact False.elim hq
theorem pe_call(F:jAr X.prog X.w X.K X.mg X.base CX k f fd ps sp)(hr:jAZ k X.A)(hg:Gl X x)(hm:X.mg x=some (.ref f))(hk:PySem.W.keepIn X.K (.ref f)=true)(hb:jBw X.K fd ps ds)(hd:jAH dvs ds)(hx:jEs CX X E)
 (ha:PA X (e::es) t) (hdb:(x==("__debug__":Str))=false:=by decide) (he:starEach (e::es) X.env=(false,eval e X.env)::starEach es X.env:=by rfl) (hpl:(backTo pos (starEach es X.env)).any (·.1)=false:=by rfl) :
 PE X (.Call (.Name x p) (e::es) [] pos) (tCall sp dvs E t):=by
 intro pins s σ H Q I h
 refine wpAny_Call_Name_kw (jCF I hg hm ?_ hdb)
 refine PySem.W.callWith_K (h₀:=X.base) I.ok.mod.kin hk (thn (ha pos pins s σ H _ I h) fun us s1 ⟨vs,H1,I1,r,q⟩=>⟨I1.kIn,?_⟩) he hpl
 exact jNj F hr hb hd hx I1 r q
structure Mk(K:PySem.W.Frag)(C f:Addr):Prop where
 makes:PySem.W.makesIn K C=true
 init:PySem.W.findIn K (.ref C) "__init__"=some (some (.ref f))
 fn:PySem.W.isFn K (.ref f)=true
 kp:PySem.W.keepIn K (.ref C)=true
theorem jK5{pins:List (Addr×Obj)}{σ:St}{H:Hp}{s:Shared}{Q:VK}{us:List Value}{vs:List V}(M:Mk X.K C f)(F:jAr X.prog X.w X.K X.mg X.base CX k f fd ps sp)(hr:jAZ (k+1) X.A)(hb:jBw X.K fd ps ds)(hd:jAH dvs ds)
 (hx:jEs CX X E) (I:Inv X pins σ H s) (r:jAH vs us)
 (h:∀ x dx,H x=none->H dx=none->dx≠x->sp (.ref x::(vs++dvs)) (upd (upd H dx (.own x)) x (.ins C dx [])) (fun v H2=>v=.non/\Q (.ref x) H2) E) :
 wpAny (model X.prog X.w) X.A (call (.ref C) us) (EP X pins σ Q) X.xe s:=by
 have hq:=h (s.heap.objs.size+1) s.heap.objs.size (I.hok.fresh (Nat.le_succ _)) (I.hok.fresh (Nat.le_refl _)) (Nat.ne_of_lt (Nat.lt_succ_self _))
 have I2:=Inv.made (C:=C) I
 have r2:jAH (V.ref (s.heap.objs.size+1)::(vs++dvs)) (Value.ref (s.heap.objs.size+1)::(us++ds)):=.cons rfl (r.append hd)
 have hl:(Value.ref (s.heap.objs.size+1)::us++ds).length=ps.length:=by
  have e:=r2.length
  rw [F.len _ _ _ _ hq] at e
  exact e.symm
 refine wpAny_call (jN6 (f:=f) I.kIn M.makes M.init (beq_iff_eq.mp M.fn) (codeAny_mono (F.run _ X.stack _ _ ⟨Value.ref (s.heap.objs.size+1)::us,[]⟩ (Value.ref (s.heap.objs.size+1)::(us++ds)) _ _ E (hr.make C us [])
  (I2.env0.make C us []) (hb _ (Value.ref (s.heap.objs.size+1)::us) I2.kIn hl) r2 hq) fun r s' hq'=>?_))
 cases r with
 | error e=>exact hx pins σ _ _ e s' I2 hq'
 | ok fl =>
   cases fl with
   | ret u =>
     obtain⟨v,H',I3,rv,ev,q3⟩:=I2.after hq'
     subst ev
     exact⟨rv,⟨V.ref (s.heap.objs.size+1),H',I3,rfl,q3⟩⟩
   | next=>exact False.elim hq'
   | brk=>exact False.elim hq'
   | cont=>exact False.elim hq'
theorem pe_make(M:Mk X.K C f)(F:jAr X.prog X.w X.K X.mg X.base CX k f fd ps sp)(hr:jAZ (k+1) X.A)(hg:Gl X x)(hm:X.mg x=some (.ref C))(hb:jBw X.K fd ps ds)(hd:jAH dvs ds)(hx:jEs CX X E)
 (ha:PA X (e::es) t) (hdb:(x==("__debug__":Str))=false:=by decide) (he:starEach (e::es) X.env=(false,eval e X.env)::starEach es X.env:=by rfl) (hpl:(backTo pos (starEach es X.env)).any (·.1)=false:=by rfl) :
 PE X (.Call (.Name x p) (e::es) [] pos) (jKU C sp dvs E t):=by
 intro pins s σ H Q I h
 refine wpAny_Call_Name_kw (jCF I hg hm ?_ hdb)
 refine PySem.W.callWith_K (h₀:=X.base) I.ok.mod.kin M.kp (thn (ha pos pins s σ H _ I h) fun us s1 ⟨vs,H1,I1,r,q⟩=>⟨I1.kIn,?_⟩) he hpl
 exact jK5 M F hr hb hd hx I1 r q
theorem jN7(M:Mk X.K C f)(F:jAr X.prog X.w X.K X.mg X.base CX k f fd ps sp)(hr:jAZ (k+1) X.A)(hg:Gl X x)(hm:X.mg x=some (.ref C))(hb:jBw X.K fd ps ds)(hd:jAH dvs ds)(hx:jEs CX X E)
 (hdb:(x==("__debug__":Str))=false:=by decide):PE X (.Call (.Name x p) [] [] pos) (jKU C sp dvs E jCx):=by
 intro pins s σ H Q I h
 refine wpAny_Call_Name_kw (jCF I hg hm ?_ hdb)
 exact PySem.W.callWith_K0 I.kIn M.kp (jK5 (us:=[]) M F hr hb hd hx I .nil h)
end
def PK(X:Cx)(kws:List Keyword)(t:TA):Prop :=
 ∀ (pos:Pos) (pins:List (Addr×Obj)) (s:Shared) (σ:St) (H:Hp) (Q:List V->Hp->Prop),Inv X pins σ H s->t σ H Q->wpAny (model X.prog X.w) X.A (evalAll ((backToKw pos (keywordEach kws X.env)).map (·.2))) (AP X pins σ Q) X.xe s
section
variable {X:Cx}{CX:CXT}{k:Nat}{f C:Addr}{fd:FuncData}{ps ks:List Str}{sp:Sp}{E:XK}{x m:Str}{p pos apos kpos:Pos}{e o:Expr}{es:List Expr}{kws:List Keyword}{te ta:TE}{t tk:TA}{nm:Option Str}
variable {g:List Value->List Value->List Value}{gV:List V->List V->List V}
end
structure jAk(N P:List Str)(sc:Scope):Prop where
 kind:sc.kind=.function
 co:sc.isCoroutine=false
 gen:sc.isGenerator=false
 nd:N.Nodup
 pre:N.take P.length=P
 par:∀ x∈P,sc.names.lookup x=some .local\/sc.names.lookup x=some .cell
 nofree:∀ y∈sc.names,y.2≠.free
theorem jJ6{kindOf:Str->Option NameKind}{x:Str}:∀ {binds:List (Str×Value)} {m:Str->Option Value},(∀ v,(x,v) ∉ binds)->bindL kindOf binds m x=m x
 | [],_,_=>rfl
 | (n,v)::r,m,h=>by
   unfold bindL
   rw [jJ6 fun w hw=>h w (List.mem_cons_of_mem _ hw)]
   split
   ·have:x≠n:=by rintro rfl;exact h v List.mem_cons_self
    simp [this]
   ·rfl
theorem jJ7{kindOf:Str->Option NameKind}{x:Str}:∀ {binds:List (Str×Value)} {m:Str->Option Value},(∀ v,(x,v) ∉ binds)->bindC kindOf binds m x=m x
 | [],_,_=>rfl
 | (n,v)::r,m,h=>by
   unfold bindC
   rw [jJ7 fun w hw=>h w (List.mem_cons_of_mem _ hw)]
   split
   ·rfl
   ·have:x≠n:=by rintro rfl;exact h v List.mem_cons_self
    simp [this]
theorem jJ8{kindOf:Str->Option NameKind}{x:Str}{v:Value}:∀ {P:List Str} {vs:List Value} {i:Nat} {m:Str->Option Value},P.Nodup->P[i]?=some x->vs[i]?=some v->kindOf x=some .local ->
 bindL kindOf (P.zip vs) m x=some v
 | [],_,_,_,_,h,_,_=>by simp at h
 | _::_,[],_,_,_,_,h,_=>by simp at h
 | p::P,w::vs,0,m,nd,h1,h2,hk=>by
   simp at h1 h2;subst h1;subst h2
   show bindL kindOf ((p,w)::P.zip vs) m p=_
   unfold bindL
   rw [jJ6 fun v hv=>(List.nodup_cons.mp nd).1 (List.of_mem_zip hv).1,if_pos hk]
   simp
 | p::P,w::vs,i+1,m,nd,h1,h2,hk=>by
   show bindL kindOf ((p,w)::P.zip vs) m x=_
   unfold bindL
   exact jJ8 (i:=i) (List.nodup_cons.mp nd).2 (by simpa using h1) (by simpa using h2) hk
theorem jJ9{kindOf:Str->Option NameKind}{x:Str}{v:Value}:∀ {P:List Str} {vs:List Value} {i:Nat} {m:Str->Option Value},P.Nodup->P[i]?=some x->vs[i]?=some v->kindOf x≠some .local ->
 bindC kindOf (P.zip vs) m x=some v
 | [],_,_,_,_,h,_,_=>by simp at h
 | _::_,[],_,_,_,_,h,_=>by simp at h
 | p::P,w::vs,0,m,nd,h1,h2,hk=>by
   simp at h1 h2;subst h1;subst h2
   show bindC kindOf ((p,w)::P.zip vs) m p=_
   unfold bindC
   rw [jJ7 fun v hv=>(List.nodup_cons.mp nd).1 (List.of_mem_zip hv).1,if_neg hk]
   simp
 | p::P,w::vs,i+1,m,nd,h1,h2,hk=>by
   show bindC kindOf ((p,w)::P.zip vs) m x=_
   unfold bindC
   exact jJ9 (i:=i) (List.nodup_cons.mp nd).2 (by simpa using h1) (by simpa using h2) hk
def jEi(N:List Str)(vs:List V):St:=vs.map some++List.replicate (N.length-vs.length) none
def jHk(CX:CXT)(P:Program)(w:World)(K:PySem.W.Frag)(mg:Str->Option Value)(base:Heap)(N:List Str)(qual:Str)(scope:Scope)(f:Addr)(cd:Value)(A:Around)(outer:List Env)(s:Shared)(H:Hp)(E:XK):Cx where
 prog:=P
 w:=w
 K:=K
 mg:=mg
 base:=base
 A:=A.deeper (envOfC qual scope s.heap.objs.size f cd)
 N:=N
 s₀:=s
 H₀:=H
 env:=envOfC qual scope s.heap.objs.size f cd
 outer:=outer
 stack:=envOfC qual scope s.heap.objs.size f cd::outer
 ex:=[]
 calm:=true
 fn:=fun _=>true
 pn:=[]
 xe:=fun e s'=>wpAny (model P w) (A.deeper (envOfC qual scope s.heap.objs.size f cd)) (leaving (envOfC qual scope s.heap.objs.size f cd) e) (fun _ s''=>CX outer H s E e s'') (fun e' s''=>CX outer H s E e' s'') s'
theorem jK6{sc:Scope}{n:Nat}{x:Str}(h:sc.names.lookup x=some .cell):∃ c,(cellsFrom n sc.names []).lookup x=some c:=by
 have q:=PySem.W.cellsFrom_some sc.names n [] (.inl h)
 exact Option.isSome_iff_exists.mp q
theorem jNk{CX:CXT}{P:Program}{w:World}{K:PySem.W.Frag}{mg:Str->Option Value}{base:Heap}{N ps:List Str}{qual:Str}{scope:Scope}{f:Addr}{cd:Value}{A:Around}{outer:List Env}{s s1:Shared}{H:Hp}{E:XK}{us:List Value}{vs:List V}
 (S:jAk N ps scope) (hd:A.handled=none) (e0:Env0 P w K mg base A outer s H) (hl:vs.length=ps.length) (r:jAH vs us)
 (x:InCallC s s.heap.objs.size (bindL (envOfC qual scope s.heap.objs.size f cd).kindOf (ps.zip us) fun _=>none) (cellsFrom (s.heap.objs.size+1) scope.names []) (bindC (envOfC qual scope s.heap.objs.size f cd).kindOf (ps.zip us) fun _=>none) s1) :
 Inv (jHk CX P w K mg base N qual scope f cd A outer s H E) [] (jEi N vs) H s1:=by
 have hpl:ps.length<=N.length:=by have:=congrArg List.length S.pre;rw [List.length_take] at this;omega
 obtain⟨h1,tk,rfl,hk⟩:=x.done
 have noA:∀ b:Addr,b ∉ (jHk CX P w K mg base N qual scope f cd A outer s H E).ex:=fun b z=>absurd (show b∈([]:List Addr) from z) (by simp)
 refine⟨⟨e0.mod,S.kind,rfl,rfl,Nat.le_refl _,fun y z c h1 h2=>?_,fun y hy=>?_,fun y c _ h=>?_,fun _=>hd,Around.frames_deeper e0.frames,.inr ⟨rfl,rfl⟩,fun b z=>absurd z (noA b),e0.bs,e0.bsz,fun b _ _=>noA b,fun b z=>absurd z (noA b),e0.funs,e0.frf⟩,
  rfl,e0.bare,Un.kept hk,⟨_,x.toInCall.ns,fun i y v h1 h2 h3=>?_⟩,fun y c h=>⟨_,x.cell y c h⟩,e0.hok.fresh (Nat.le_refl _),fun y c h=>?_,fun p hp=>absurd (show p∈([]:List (Addr×Obj)) from hp) (by simp),e0.hok.kept hk,?_⟩
 ·exact name_of_addr x.apart (PySem.mem_of_lookup h1) (PySem.mem_of_lookup h2)
 ·have hy:scope.names.lookup y=some .cell\/scope.names.lookup y=some .free:=hy
  rcases hy with hy|hy
  ·exact jK6 hy
  ·exact absurd rfl (S.nofree _ (PySem.mem_of_lookup hy))
 ·exact Nat.le_of_lt (x.above y c (PySem.mem_of_lookup h))
 ·have hi:i<vs.length:=by
   unfold jEi at h2
   by_cases hi:i<vs.length
   ·exact hi
   ·rw [List.getElem?_append_right (by simpa using hi)] at h2
    rw [List.getElem?_replicate] at h2
    split at h2<;>cases h2
  have ha:vs[i]?=some v:=by
   unfold jEi at h2
   rw [List.getElem?_append_left (by simpa using hi),List.getElem?_map] at h2
   cases e:vs[i]? with
   | none=>rw [e] at h2;cases h2
   | some a=>rw [e] at h2;cases h2;rfl
  obtain⟨u,hu,rv⟩:=r.get ha
  have hp:ps[i]?=some y:=by
   rw [<- S.pre,List.getElem?_take_of_lt (by omega)];exact h1
  have ndP:ps.Nodup:=by rw [<- S.pre];exact S.nd.sublist (List.take_sublist _ _)
  exists u,rv
  rcases S.par y (List.mem_of_getElem? hp) with k|k
  ·exact .inl ⟨k,jJ8 ndP hp hu k⟩
  ·obtain⟨c,e⟩:=jK6 (n:=s.heap.objs.size+1) k
   refine .inr ⟨.inl k,c,e,?_⟩
   have q:=x.cell y c e
   rw [jJ9 ndP hp hu (by show scope.names.lookup y≠_;rw [k];decide)] at q
   exact q
 ·exact e0.hok.fresh (Nat.le_of_lt (x.above y c (PySem.mem_of_lookup h)))
 ·unfold jEi
  show _=N.length
  rw [List.length_append,List.length_map,List.length_replicate]
  omega
theorem fn_of{CX:CXT}{P:Program}{w:World}{K:PySem.W.Frag}{mg:Str->Option Value}{base:Heap}{k:Nat}{f:Addr}{name qual:Str}{params:Arguments}{body:List Stmt}{scope:Scope}{dV kV doc pm cdv ct oc:Value}{an od:Option Addr}
 {osl:Array (Option Value)} {N ps:List Str} {sp:Sp} (lk:K.lookup f=some ⟨oc,od,.func (PySem.W.fnOf name qual params body scope dV kV doc pm an cdv ct),osl⟩) (hcd:PySem.W.codeIn K cdv qual=true) (S:jAk N ps scope)
 (len:∀ vs H Q E,sp vs H Q E->vs.length=ps.length)
 (hbody:∀ (A:Around) (outer:List Env) (s:Shared) (H:Hp) (vs:List V) (Q:VK) (E:XK),jAZ k (A.deeper (envOfC qual scope s.heap.objs.size f cdv))->sp vs H Q E ->
  ∃ t,PSs (jHk CX P w K mg base N qual scope f cdv A outer s H E) body t/\t { nx:=fun _ H'=>Q .non H',rt:=Q } (jEi N vs) H) :
 jAr P w K mg base CX (k+1) f (PySem.W.fnOf name qual params body scope dV kV doc pm an cdv ct) ps sp:=by
 refine⟨len,fun A outer s H args us vs Q E hr e0 hb r hsp=>?_⟩
 have hl:=len _ _ _ _ hsp
 have KX:K.In s.heap:=e0.mod.kin.keeps fun b o e=>(e0.bs b o e).1
 have lim:s.heap.NoLimit:=e0.mod.nolimit.keeps fun b o e=>(e0.bs b o e).1
 have hkind:∀ y∈ps.zip us,scope.names.lookup y.1=some .local\/(scope.names.lookup y.1=some .cell/\((cellsFrom (s.heap.objs.size+1) scope.names []).lookup y.1).isSome=true):=fun⟨n,v⟩ hy=>by
  rcases S.par n (List.of_mem_zip hy).1 with q|q
  ·exact .inl q
  ·exact .inr ⟨q,PySem.W.cellsFrom_some _ _ _ (.inl q)⟩
 refine codeAny_call_function hr.depth (KX _ _ lk) rfl S.co S.gen rfl (PySem.W.codeRec_of KX hcd) (hb _ _ _ _ ?_)
 refine wpAny_newFunctionEnv_cells S.kind hkind fun env he s1 x=>?_
 subst he
 refine⟨lim.keeps x.toInCall.keep,codeAny_func ?_⟩
 obtain⟨t,ht,hq⟩:=hbody A outer s H vs Q E (hr.deeper _) hsp
 have I:Inv (jHk CX P w K mg base N qual scope f cdv A outer s H E) [] (jEi N vs) H s1:=jNk S hr.hd e0 hl r x
 refine wpAny_mono (ht [] s1 (jEi N vs) H _ I hq) (fun fl s' hs=>?_) fun e s' hs=>hs
 have fin:∀ {σ':St} {H':Hp} {v:V} {u:Value},Inv (jHk CX P w K mg base N qual scope f cdv A outer s H E) [] σ' H' s'->jAA v u->Q v H'->CE outer P w H s Q u s' :=
  fun {σ' H' v u} J rv q=>⟨v,H',J.os,J.bare,J.base,J.hok,rv,q⟩
 cases fl with
 | ret u =>
   obtain⟨v,σ',H',J,rv,q⟩:=hs
   exact fin J rv q
 | next =>
   obtain⟨σ',H',J,q⟩:=hs
   exact fin (v:=V.non) (u:=Value.none) J rfl q
 | brk =>
   obtain⟨_,_,_,q⟩:=hs
   exact False.elim q
 | cont =>
   obtain⟨_,_,_,q⟩:=hs
   exact False.elim q
section
variable {X:Cx}{x:Str}{p pos:Pos}{e:Expr}{es:List Expr}{t:TA}{id T:String}{r:List V->Hp->VK->Prop}
def tCB(r:List V->Hp->VK->Prop)(t:TA):TE:=fun σ H Q=>t σ H fun vs H1=>r vs H1 Q
theorem jAQ(hc:CallR X (.builtin id) r)(hg:Gl X x)(hm:X.mg x=none)(hv:bootBuiltins x=some (.builtin id))(ha:PA X (e::es) t)(hn:x≠"__name__":=by decide)(hdb:(x==("__debug__":Str))=false:=by decide)
 (he:starEach (e::es) X.env=(false,eval e X.env)::starEach es X.env:=by rfl) (hpl:(backTo pos (starEach es X.env)).any (·.1)=false:=by rfl):PE X (.Call (.Name x p) (e::es) [] pos) (tCB r t):=by
 intro pins s σ H Q I h
 refine wpAny_Call_Name_kw (jGn I hg hm hv ?_ hn hdb)
 exact PyProof.Rows.callWith_builtin1 (thn (ha pos pins s σ H _ I h) fun us s1 ⟨vs,H1,I1,r1,q1⟩=>hc pins s1 σ H1 vs us Q I1 r1 q1) he hpl
theorem jB4(hc:CallR X (.type T) r)(hg:Gl X x)(hm:X.mg x=none)(hv:bootBuiltins x=some (.type T))(ha:PA X (e::es) t)(hn:x≠"__name__":=by decide)(hdb:(x==("__debug__":Str))=false:=by decide)
 (he:starEach (e::es) X.env=(false,eval e X.env)::starEach es X.env:=by rfl) (hpl:(backTo pos (starEach es X.env)).any (·.1)=false:=by rfl):PE X (.Call (.Name x p) (e::es) [] pos) (tCB r t):=by
 intro pins s σ H Q I h
 refine wpAny_Call_Name_kw (jGn I hg hm hv ?_ hn hdb)
 exact PyProof.Rows.callWith_type1 (thn (ha pos pins s σ H _ I h) fun us s1 ⟨vs,H1,I1,r1,q1⟩=>hc pins s1 σ H1 vs us Q I1 r1 q1) he hpl
end
end L2
namespace HT
open PySem PyProof.Rows
section
open PySem.SeqAt
open PySem.AutoSeq1 (wpAny_loadPart')
open PySem.MeetsSeq PySem.MeetsSeq2 PySem.MeetsSeq3
end
section
variable {prog:Program}{w:World}{A:Around}{E:Value->Shared->Prop}{s:Shared}
def sIx(n d:Nat):Option Int->Nat
 | none=>d
 | some v=>if v<0 then (v+(n:Int)).toNat else min v.toNat n
theorem sIx_none(n d:Nat):sIx n d none=d:=rfl
theorem sIx_nat(n d k:Nat):sIx n d (some (k:Int))=min k n:=by
 show (if (k:Int)<0 then ((k:Int)+(n:Int)).toNat else min (k:Int).toNat n)=min k n
 rw [if_neg (by omega),Int.toNat_natCast]
end
end HT
namespace L2
open PySem PySem.Spec PyProof.Rows
abbrev TO:=St->Hp->(Option Int->Hp->Prop)->Prop
def PO(X:Cx)(e:Option Expr)(t:TO):Prop :=
 ∀ (pins:List (Addr×Obj)) (s:Shared) (σ:St) (H:Hp) (Q:Option Int->Hp->Prop),Inv X pins σ H s->t σ H Q ->
  wpAny (model X.prog X.w) X.A (evalPart e X.env) (fun u s'=>∃ o H',Inv X pins σ H' s'/\IsPart u o/\Q o H') X.xe s
def tNoPart:TO:=fun _ H Q=>Q none H
def tPart(t:TE):TO:=fun σ H Q=>t σ H fun x H1=>∃ i,x=.int i/\Q (some i) H1
section
variable {X:Cx}{e:Expr}{te:TE}{lo hi:Option Expr}{tl th:TO}{pos p2:Pos}
theorem jHH:PO X none tNoPart:=by
 intro pins s σ H Q I h
 rw [evalPart_none]
 exact wpAny_pure ⟨none,H,I,.none,h⟩
theorem jHI(h:PE X e te):PO X (some e) (tPart te):=by
 intro pins s σ H Q I hw
 rw [evalPart_some]
 refine thn (h pins s σ H _ I hw) fun u s1 ⟨x,H1,I1,r1,q1⟩=>?_
 obtain⟨i,rfl,q⟩:=q1
 obtain⟨t,rfl⟩:=r1
 exact⟨some i,H1,I1,.int i t,q⟩
def SlR(X:Cx)(r:V->Option Int->Option Int->Hp->VK->Prop):Prop :=
 ∀ (pins:List (Addr×Obj)) (s:Shared) (σ:St) (H:Hp) (x:V) (v vl vu:Value) (lo hi:Option Int) (sl:Addr) (Q:VK),Inv X pins σ H s->jAA x v->s.heap.IsSliceOf sl vl vu .none->IsPart vl lo->IsPart vu hi->r x lo hi H Q ->
  ∃ T id,typeLookup (.type T) "__getitem__"=pure (some (.builtin id))/\s.TypeIs v T/\wpAny (model X.prog X.w) X.A (getItem v (.ref sl)) (EP X pins σ Q) X.xe s
def tSl(r:V->Option Int->Option Int->Hp->VK->Prop)(te:TE)(tl th:TO):TE:=fun σ H Q=>te σ H fun x H1=>tl σ H1 fun l H2=>th σ H2 fun u H3=>r x l u H3 Q
theorem jGF{r:V->Option Int->Option Int->Hp->VK->Prop}(hr:SlR X r)(he:PE X e te)(hl:PO X lo tl)(hu:PO X hi th):PE X (.Subscript e (.Slice lo hi none p2) pos) (tSl r te tl th):=by
 intro pins s σ H Q I h
 refine Subscript_ (thn (he pins s σ H _ I h) fun v s1 ⟨x,H1,I1,r1,q1⟩=>?_)
 refine wpAny_Slice (thn (hl pins s1 σ H1 _ I1 q1) fun vl s2 ⟨l,H2,I2,pl,q2⟩=>thn (hu pins s2 σ H2 _ I2 q2) fun vu s3 ⟨u,H3,I3,pu,q3⟩=>?_)
 rw [evalPart_none]
 refine wpAny_pure ?_
 have I4:Inv X pins σ H3 { s3 with heap:=s3.heap.push { cls:=.type "slice",data:=.fields #[vl,vu,.none] } }:=I3.kept (t':=s3.toks) fun b ob q=>Heap.get?_push_of_some _ q
 obtain⟨T,id,hT,ht,hg⟩:=hr pins { s3 with heap:=s3.heap.push { cls:=.type "slice",data:=.fields #[vl,vu,.none] } } σ H3 x v vl vu l u s3.heap.objs.size Q I4 r1 (Heap.IsSliceOf.new ..) pl pu q3
 show wpAny (model X.prog X.w) X.A (subscriptTail e (.Slice lo hi none p2) v (.ref s3.heap.objs.size)) (EP X pins σ Q) X.xe { s3 with heap:=s3.heap.push { cls:=.type "slice",data:=.fields #[vl,vu,.none] } }
 exact tail_any (ops:=[.ref s3.heap.objs.size,v]) ht hT hg (by with_unfolding_all rfl)
def jHl(xs:List V)(lo hi:Option Int):List V:=(xs.drop (HT.sIx xs.length 0 lo)).take (HT.sIx xs.length xs.length hi-HT.sIx xs.length 0 lo)
theorem jL0(xs:List V)(lo hi:Option Int):(jHl xs lo hi).length<=xs.length:=by
 unfold jHl
 rw [List.length_take,List.length_drop]
 omega
end
def ixN(n:Nat)(i:Int):Option Nat:=if 0<=i then (if i<n then some i.toNat else none) else if -(n:Int)<=i then some (i+n).toNat else none
def atI{α:Type}(xs:List α)(i:Int):Option α:=(ixN xs.length i).bind fun j=>xs[j]?
theorem ixN_seq{n:Nat}{i:Int}{j:Nat}(h:ixN n i=some j):seqIndex? i n=some j/\j<n/\-(n:Int)<=i/\i<n:=by
 unfold ixN at h
 by_cases h0:0<=i
 ·rw [if_pos h0] at h
  by_cases h1:i<n
  ·rw [if_pos h1] at h
   have e:i.toNat=j:=Option.some.inj h
   exact⟨by rw [seqIndex_of h0 h1,e],by omega,by omega,h1⟩
  ·rw [if_neg h1] at h;cases h
 ·rw [if_neg h0] at h
  by_cases h1:-(n:Int)<=i
  ·rw [if_pos h1] at h
   have e:(i+n).toNat=j:=Option.some.inj h
   exact⟨by rw [seqIndex_neg (by omega) h1,e],by omega,h1,by omega⟩
  ·rw [if_neg h1] at h;cases h
theorem jJr{α:Type}{xs:List α}{i:Int}{v:α}(h:atI xs i=some v):∃ j,seqIndex? i xs.length=some j/\xs[j]?=some v/\j<xs.length/\-(xs.length:Int)<=i/\i<xs.length:=by
 unfold atI at h
 cases e:ixN xs.length i with
 | none=>rw [e] at h;cases h
 | some j =>
   rw [e] at h
   obtain⟨h1,h2,h3,h4⟩:=ixN_seq e
   exact⟨j,h1,h,h2,h3,h4⟩
theorem jAl{α:Type}{xs:List α}{j:Nat}{v:α}(h:xs[j]?=some v):atI xs (j:Int)=some v:=by
 have hj:j<xs.length:=(List.getElem?_eq_some_iff.mp h).1
 have e:ixN xs.length (j:Int)=some j:=by
  unfold ixN
  rw [if_pos (by omega),if_pos (by omega)];simp
 unfold atI;rw [e];exact h
def jJs(b:Expr):Prop:=∀ o i,subscripted b false o i=operate [o,i] (getItem o i)
def IxR(X:Cx)(r:R2):Prop :=
 ∀ (value slice:Expr) (pins:List (Addr×Obj)) (s:Shared) (σ:St) (H:Hp) (x y:V) (v u:Value) (Q:VK),Inv X pins σ H s->jAA x v->jAA y u->r x y H Q ->
  subscripted slice false v u=operate [v,u] (getItem v u)->wpAny (model X.prog X.w) X.A (subscriptTail value slice v u) (EP X pins σ Q) X.xe s
def MtR(X:Cx)(id:String)(r:V->List V->Hp->VK->Prop):Prop :=
 ∀ (pins:List (Addr×Obj)) (s:Shared) (σ:St) (H:Hp) (x:V) (xs:List V) (v:Value) (us:List Value) (Q:VK),Inv X pins σ H s->jAA x v->jAH xs us->r x xs H Q ->
  wpAny (model X.prog X.w) X.A (call (.builtin id) (v::us)) (EP X pins σ Q) X.xe s
section
variable {X:Cx}{a b:Expr}{ta tb:TE}{pos:Pos}
theorem pe_ix{r:R2}(hr:IxR X r)(ha:PE X a ta)(hb:PE X b tb)(hs:jJs b):PE X (.Subscript a b pos) (tOp r ta tb):=by
 intro pins s σ H Q I h
 exact Subscript_ (binT ha hb I h fun v u s2 x y H2 I2 rx ry q=>hr a b pins s2 σ H2 x y v u Q I2 rx ry q (hs _ _))
inductive rIxL(K:PySem.W.Frag)(x:V)(y:V)(H:Hp)(Q:VK):Prop|mk p xs i v:x=.ref p->y=.int i->SqL K H p xs->atI xs i=some v->Q v H->rIxL K x y H Q
inductive rIxT(K:PySem.W.Frag)(x:V)(y:V)(H:Hp)(Q:VK):Prop|mk p xs i v:x=.ref p->y=.int i->SqT K H p xs->atI xs i=some v->Q v H->rIxT K x y H Q
inductive rIxS(x:V)(y:V)(H:Hp)(Q:VK):Prop|mk z i c:x=.str z->y=.int i->z.length<=sizeLine->atI z.cps.toList i=some c->Q (.str ⟨#[c]⟩) H->rIxS x y H Q
theorem jAD:IxR X (rIxL X.K):=by
 intro value slice pins s σ H x y v u Q I rx ry h hs
 obtain⟨p,xs,i,z,rfl,rfl,hq,he,q⟩:=h
 cases rx
 obtain⟨t,rfl⟩:=ry
 obtain⟨its,r,pl,hz⟩:=I.list hq
 obtain⟨j,h1,h2,h3,h4,h5⟩:=jJr he
 obtain⟨w,ew,rw'⟩:=r.get h2
 have hl:=r.length
 have hn:=jGo
 have fin:EP X pins σ Q w s:=⟨z,H,I,rw',q⟩
 by_cases h0:0<=i
 ·have hj:i.toNat=j:=by
   rw [seqIndex_of h0 h5] at h1
   exact Option.some.inj h1
  exact item_listR pl.isList h0 (by omega) (by rw [hj];simpa using ew) fin hs
 ·have hj:(i+(its.toArray.size:Int)).toNat=j:=by
   rw [seqIndex_neg (by omega) h4] at h1
   rw [List.size_toArray,<- hl]
   exact Option.some.inj h1
  exact subscriptTail_builtinR (x:=w) pl.isList.typeIs slot_list_getitem.lookup
   (wpAny_getItem_list_neg (Q:=fun r s'=>r=w/\EP X pins σ Q r s') pl.isList (by omega) (by rw [List.size_toArray]<;>omega) (by omega) (by rw [hj];simpa using ew) ⟨rfl,fin⟩) hs
theorem jAI:IxR X (rIxT X.K):=by
 intro value slice pins s σ H x y v u Q I rx ry h hs
 obtain⟨p,xs,i,z,rfl,rfl,hq,he,q⟩:=h
 cases rx
 obtain⟨t,rfl⟩:=ry
 obtain⟨its,r,pl,hz⟩:=I.tuple hq
 obtain⟨j,h1,h2,h3,h4,h5⟩:=jJr he
 obtain⟨w,ew,rw'⟩:=r.get h2
 have hl:=r.length
 have hn:=jGo
 have fin:EP X pins σ Q w s:=⟨z,H,I,rw',q⟩
 exact subscriptTail_builtinR (x:=w) pl.typeIs slot_tuple_getitem.lookup
  (getItem_tuple (j:=j) (Q:=fun r s'=>r=w/\EP X pins σ Q r s') pl (by omega) (by omega) (by rw [List.size_toArray,<- hl];exact h1) (by simpa using ew) ⟨rfl,fin⟩) hs
theorem ix_str:IxR X rIxS:=by
 intro value slice pins s σ H x y v u Q I rx ry h hs
 obtain⟨z,i,c,rfl,rfl,hz,he,q⟩:=h
 obtain⟨t,rfl⟩:=rx
 obtain⟨t',rfl⟩:=ry
 obtain⟨j,h1,h2,h3,h4,h5⟩:=jJr he
 have hl:z.cps.toList.length=z.length:=by simp [Str.length]
 rw [hl] at h1 h4 h5
 have hn:=jGo
 exact tail_any (typeIs_str s z t) slot_str_getitem.lookup (getItem_str (c:=c) (by
  have e1:decide (i < -(2^63:Int))=false:=decide_eq_false (by omega)
  have e2:decide (i >= 2^63)=false:=decide_eq_false (by omega)
  rw [e1,e2,Bool.or_false]) (by rw [h1];simpa using h2) ⟨.str ⟨#[c]⟩,H,I.tok _,⟨_,rfl⟩,q⟩) hs
theorem jK7(lo hi:Option Int)(n:Nat):(sliceBounds lo hi none n).1=((HT.sIx n 0 lo:Nat):Int)/\(sliceBounds lo hi none n).2.1=((HT.sIx n n hi:Nat):Int)/\(sliceBounds lo hi none n).2.2=1:=by
 refine⟨?_,?_,rfl⟩
 ·cases lo with
  | none=>simp [sliceBounds,HT.sIx]
  | some i =>
    simp only [sliceBounds,HT.sIx,Option.getD_none,show (1:Int) > 0 by decide,if_true]
    by_cases h:i<0
    ·simp only [h,if_true]<;>omega
    ·simp only [h,if_false]<;>omega
 ·cases hi with
  | none=>simp [sliceBounds,HT.sIx]
  | some i =>
    simp only [sliceBounds,HT.sIx,Option.getD_none,show (1:Int) > 0 by decide,if_true]
    by_cases h:i<0
    ·simp only [h,if_true]<;>omega
    ·simp only [h,if_false]<;>omega
theorem jKv(its:List Value)(lo hi:Option Int):slicePick its.toArray lo hi none=((its.drop (HT.sIx its.length 0 lo)).take (HT.sIx its.length its.length hi-HT.sIx its.length 0 lo)).toArray:=by
 obtain⟨h1,h2,h3⟩:=jK7 lo hi its.toArray.size
 unfold slicePick
 rw [h1,h2,h3]
 simp only [sliceRange_one,pick_run,List.size_toArray]<;>rfl
inductive rSlL(K:PySem.W.Frag)(x:V)(lo:Option Int)(hi:Option Int)(H:Hp)(Q:VK):Prop|mk a xs:x=.ref a->SqL K H a xs->(∀ p,H p=none->Q (.ref p) (upd H p (.lst (jHl xs lo hi))))->rSlL K x lo hi H Q
theorem jMv:SlR X (rSlL X.K):=by
 intro pins s σ H x v vl vu lo hi sl Q I rx hs pl pu h
 obtain⟨a,xs,rfl,hx,q⟩:=h
 cases rx
 obtain⟨its,r,ht,hz⟩:=I.list hx
 have hlen:=r.length
 exists "list",_,slot_list_getitem.lookup,ht.isList.typeIs
 refine wpAny_getItem_list_slice ht.isList hs pl pu .none (by simp) ?_ (by rw [List.size_toArray]<;>omega)
 rw [jKv,<- hlen]
 refine⟨.ref s.heap.objs.size,_,I.laid (t':=s.toks) (o:=.lst (jHl xs lo hi)) (fun b ob q=>Heap.get?_push_of_some _ q) (Nat.le_refl _) ?_,rfl,q _ (I.hok.fresh (Nat.le_refl _))⟩
 exact⟨Nat.le_trans (jL0 xs lo hi) hz,_,0,(r.drop (HT.sIx xs.length 0 lo)).take (HT.sIx xs.length xs.length hi-HT.sIx xs.length 0 lo),Heap.get?_push_size _ rfl⟩
def jCf:V->Bool
 | .non=>true
 | .bl _=>true
 | .int _=>true
 | .str _=>true
 | _=>false
def eqV:V->V->Bool
 | .non,.non=>true
 | .bl a,.bl b=>a==b
 | .bl a,.int b=>(if a then 1 else 0)==b
 | .int a,.bl b=>a==(if b then 1 else 0)
 | .int a,.int b=>a==b
 | .str a,.str b=>a==b
 | _,_=>false
theorem jHm{A:Around}{s:Shared}{y x:V}{u v:Value}(ry:jAA y u)(rx:jAA x v)(fy:jCf y=true)(fx:jCf x=true):SeqAt.EqAt A s u v (eqV y x):=by
 cases y with
 | non =>
   cases ry
   cases x with
   | non=>cases rx;exact SeqAt.EqAt.same _
   | bl b=>cases rx;exact SeqAt.EqAt.none_bool b
   | int b=>obtain⟨t,rfl⟩:=rx;exact SeqAt.EqAt.none_int b t
   | str b=>obtain⟨t,rfl⟩:=rx;exact SeqAt.EqAt.none_str b t
   | _=>exact absurd (show false=true from fx) Bool.false_ne_true
 | bl a =>
   cases ry
   cases x with
   | non=>cases rx;exact SeqAt.EqAt.bool_none a
   | bl b=>cases rx;exact SeqAt.EqAt.bool_bool a b
   | int b=>obtain⟨t,rfl⟩:=rx;exact SeqAt.EqAt.bool_int a b t
   | str b=>obtain⟨t,rfl⟩:=rx;exact SeqAt.EqAt.bool_str a b t
   | _=>exact absurd (show false=true from fx) Bool.false_ne_true
 | int a =>
   obtain⟨t',rfl⟩:=ry
   cases x with
   | non=>cases rx;exact SeqAt.EqAt.int_none a t'
   | bl b=>cases rx;exact SeqAt.EqAt.int_bool a t' b
   | int b=>obtain⟨t,rfl⟩:=rx;exact SeqAt.EqAt.int_int a t' b t
   | str b=>obtain⟨t,rfl⟩:=rx;exact SeqAt.EqAt.int_str a t' b t
   | _=>exact absurd (show false=true from fx) Bool.false_ne_true
 | str a =>
   obtain⟨t',rfl⟩:=ry
   cases x with
   | non=>cases rx;exact SeqAt.EqAt.str_none a t'
   | bl b=>cases rx;exact SeqAt.EqAt.str_bool a t' b
   | int b=>obtain⟨t,rfl⟩:=rx;exact SeqAt.EqAt.str_int a t' b t
   | str b=>obtain⟨t,rfl⟩:=rx;exact SeqAt.EqAt.str_str a t' b t
   | _=>exact absurd (show false=true from fx) Bool.false_ne_true
 | _=>exact absurd (show false=true from fy) Bool.false_ne_true
theorem jBT:CallR X (.builtin "len") (fun xs H Q=>∃ p ys,xs=[.ref p]/\(SqL X.K H p ys\/SqT X.K H p ys)/\Q (.int ys.length) H):=by
 intro pins s σ H xs us Q I r h
 obtain⟨p,ys,rfl,hq,q⟩:=h
 obtain⟨u,rfl,rx⟩:=jCV r
 cases rx
 have hn:=jGo
 rcases hq with hq|hq
 ·obtain⟨its,r',pl,hz⟩:=I.list hq
  have hlen:=r'.length
  exact Calls.call_len_list pl.isList (by simp only [List.size_toArray]<;>omega) ⟨.int ys.length,H,I.tok _,⟨s.toks+1,by rw [List.size_toArray,hlen]⟩,q⟩
 ·obtain⟨its,r',pl,hz⟩:=I.tuple hq
  have hlen:=r'.length
  exact len_tuple pl (by simp only [List.size_toArray]<;>omega) ⟨.int ys.length,H,I.tok _,⟨s.toks+1,by rw [List.size_toArray,hlen]⟩,q⟩
theorem jK8:CallR X (.builtin "len") (fun xs H Q=>∃ z,xs=[.str z]/\z.length<=sizeLine/\Q (.int z.length) H):=by
 intro pins s σ H xs us Q I r h
 obtain⟨z,rfl,hz,q⟩:=h
 obtain⟨u,rfl,t,rfl⟩:=jCV r
 have hn:=jGo
 exact len_str (by omega) ⟨.int z.length,H,I.tok _,⟨_,rfl⟩,q⟩
theorem jK9:CallR X (.type "list") (fun xs H Q=>∃ p ys,xs=[.ref p]/\(SqL X.K H p ys\/SqT X.K H p ys)/\∀ l,H l=none->Q (.ref l) (upd H l (.lst ys))):=by
 intro pins s σ H xs us Q I r h
 obtain⟨p,ys,rfl,hq,q⟩:=h
 obtain⟨u,rfl,rx⟩:=jCV r
 cases rx
 have fin:∀ (its:List Value),jAH ys its->ys.length<=sizeLine->∀ (h':Heap) (c':Nat),(∀ b o',s.heap.get? b=some o'->h'.get? b=some o') ->
  h'.get? s.heap.objs.size=some { cls:=.type "list",dict:=none,data:=.seq its.toArray c',slots:=#[] }->EP X pins σ Q (.ref s.heap.objs.size) { s with heap:=h' }:=fun its r' hz h' c' kp e =>
  ⟨.ref s.heap.objs.size,_,I.laid (t':=s.toks) kp (Nat.le_refl _) (show jA6 X.prog X.w _ h' _ (.lst ys) from ⟨hz,its,c',r',e⟩),rfl,q _ (I.hok.fresh (Nat.le_refl _))⟩
 rcases hq with hq|hq
 ·obtain⟨its,r',pl,hz⟩:=I.list hq
  have hlen:=r'.length
  obtain⟨o,ho,hc,n,hd⟩:=pl.isList
  exact call_list_seq p (.inl rfl) ho hc hd (fun h' c' kp e=>fin its r' hz h' c' kp e) (by simp only [List.size_toArray]<;>omega)
 ·obtain⟨its,r',pl,hz⟩:=I.tuple hq
  have hlen:=r'.length
  obtain⟨o,ho,hc,n,hd⟩:=pl
  exact call_list_seq p (.inr rfl) ho hc hd (fun h' c' kp e=>fin its r' hz h' c' kp e) (by simp only [List.size_toArray]<;>omega)
theorem jKw:CallR X (.type "tuple") (fun xs H Q=>∃ p ys,xs=[.ref p]/\((SqL X.K H p ys/\∀ l,H l=none->Q (.ref l) (upd H l (.tup ys)))\/(SqT X.K H p ys/\Q (.ref p) H))):=by
 intro pins s σ H xs us Q I r h
 obtain⟨p,ys,rfl,h⟩:=h
 obtain⟨u,rfl,rx⟩:=jCV r
 cases rx
 rcases h with⟨hq,q⟩|⟨hq,q⟩
 ·obtain⟨its,r',pl,hz⟩:=I.list hq
  have hlen:=r'.length
  refine call_tuple_list pl.isList (fun h' kp=>?_) (by simp only [List.size_toArray]<;>omega)
  have I1:Inv X pins σ H { s with heap:=h' }:=I.kept (t':=s.toks) kp
  have I2:Inv X pins σ (upd H h'.objs.size (.tup ys)) { s with heap:=h'.push { cls:=.type "tuple",data:=.seq its.toArray } } :=
   I1.laid (t':=s.toks) (fun b o e=>Heap.get?_push_of_some _ e) (Nat.le_refl _) (show jA6 X.prog X.w _ _ _ (.tup ys) from ⟨hz,its,r',IsTup.new _ _⟩)
  exact⟨.ref h'.objs.size,_,I2,rfl,q _ (I1.hok.fresh (Nat.le_refl _))⟩
 ·obtain⟨its,r',pl,hz⟩:=I.tuple hq
  exact call_tuple_same pl ⟨.ref p,H,I,rfl,q⟩
def tyV(K:PySem.W.Frag)(T:String)(x:V)(H:Hp):Prop:=match x with
 | .str _=>T="str"
 | .int _=>T="int"
 | .ref p=>(T="list"/\∃ xs,SqL K H p xs)\/(T="tuple"/\∃ o,K.lookup p=some o/\o.cls=.type "tuple"/\o.dict=none) \/
  (T="dict"/\((∃ kvs,H p=some (.dK kvs))\/∃ kvs,H p=some (.dT kvs)))\/(T="set"/\∃ S n,H p=some (.set S n))
 | _=>False
theorem tyV_is{pins:List (Addr×Obj)}{σ:St}{H:Hp}{s:Shared}{T:String}{x:V}{v:Value}(I:Inv X pins σ H s)(r:jAA x v)(ty:tyV X.K T x H) :
 s.TypeIs v T/\∀ a,v=.ref a->∃ ob,s.heap.get? a=some ob/\ob.dict=none:=by
 cases x with
 | str z =>
   obtain⟨t,rfl⟩:=r
   cases (show T="str" from ty)
   exact⟨typeIs_str s z t,fun _ e=>nomatch e⟩
 | int i =>
   obtain⟨t,rfl⟩:=r
   cases (show T="int" from ty)
   exact⟨typeIs_int s i t,fun _ e=>nomatch e⟩
 | ref p =>
   cases r
   rcases ty with⟨rfl,xs,hq⟩|⟨rfl,o,hk,hc,hd⟩|⟨rfl,hk⟩|⟨rfl,S,n,hk⟩
   ·obtain⟨its,_,pl,_⟩:=I.list hq
    refine⟨pl.isList.typeIs,fun a e=>?_⟩
    cases e
    obtain⟨o,n,e,c,hd,_⟩:=pl
    exact⟨o,e,hd⟩
   ·refine⟨⟨o,I.kIn p o hk,hc⟩,fun a e=>?_⟩
    cases e
    exact⟨o,I.kIn _ o hk,hd⟩
   ·have z:∃ o,s.heap.get? p=some o/\o.ExactDict:=by
     rcases hk with⟨kvs,hk⟩|⟨kvs,hk⟩
     ·obtain⟨_,_,_,_,o,_,_,e,ex,_⟩:=I.hok p _ hk
      exact⟨o,e,ex⟩
     ·obtain⟨_,_,_,_,o,_,_,e,ex,_⟩:=I.hok p _ hk
      exact⟨o,e,ex⟩
    obtain⟨o,e,ex⟩:=z
    refine⟨⟨o,e,ex.1⟩,fun a e2=>?_⟩
    cases e2
    exact⟨o,e,ex.2.1⟩
   ·obtain⟨o,_,_,_,e,ex,_⟩:=I.hok p _ hk
    refine⟨⟨o,e,ex.1⟩,fun a e2=>?_⟩
    cases e2
    exact⟨o,e,ex.2.1⟩
 | _=>exact False.elim ty
def tBM(K:PySem.W.Frag)(T:String)(r:V->List V->Hp->VK->Prop)(to:TE)(t:TA):TE:=fun σ H Q=>to σ H fun x H1=>tyV K T x H1/\t σ H1 fun xs H2=>r x xs H2 Q
variable {o e:Expr}{es:List Expr}{to:TE}{t:TA}{name:Str}{apos cpos:Pos}{T id:String}{r:V->List V->Hp->VK->Prop}
theorem jE0(pa:PlainAttrs T)(slot:Slot T name id)(hty:typeOf (.builtin id)=pure (.type "method_descriptor"))(hm:MtR X id r)(ho:PE X o to)(ha:PA X (e::es) t)
 (hbase:attributeBase o name X.env (eval o X.env)=eval o X.env:=by rfl)
 (hfew:((backTo cpos (starEach (e::es) X.env)).all (fun x=>!x.1)&&(backToKw cpos (keywordEach [] X.env)).all (fun x=>x.1.isSome)
  && decide ((e::es).length+([]:List Keyword).length+(if ([]:List Keyword).isEmpty then 0 else 1)<30))=true:=by rfl)
 (hline:(apos.endLine==cpos.line)=true:=by rfl) (hs:starEach (e::es) X.env=(false,eval e X.env)::starEach es X.env:=by rfl) (hplain:(backTo cpos (starEach es X.env)).any (·.1)=false:=by rfl) :
 PE X (.Call (.Attribute o name apos) (e::es) [] cpos) (tBM X.K T r to t):=by
 intro pins s σ H Q I h
 refine wpAny_Call_method_late hbase hfew hline rfl (thn (ho pins s σ H _ I h) fun v s1 ⟨x,H1,I1,r1,ty,q1⟩=>?_)
 obtain⟨h1,h2⟩:=tyV_is I1 r1 ty
 exists T,id,pa,slot,hty,h1,h2
 have hA:=ha cpos pins s1 σ H1 _ I1 q1
 rw [hs] at hA ⊢
 refine Calls.callWith_builtin (by show (false||(backTo cpos (starEach es X.env)).any (·.1))=false;rw [hplain]<;>rfl) (Calls.evalArgs_plain ?_)
 exact thn hA fun us s2 ⟨vs,H2,I2,r2,q2⟩=>hm pins s2 σ H2 x vs v us Q I2 r1 r2 q2
/- xs.append(e), list.index on a module's tuple .. are MtR facts of 06m -/
end
def MtM(X:Cx)(id:String)(r:V->List V->Hp->VK->Prop):Prop :=
 ∀ (pins:List (Addr×Obj)) (s:Shared) (σ:St) (H:Hp) (x:V) (xs:List V) (v:Value) (us:List Value) (Q:VK),Inv X pins σ H s->jAA x v->jAH xs us->r x xs H Q ->
  wpAny (model X.prog X.w) X.A (call (.builtin id) (v::us)) (EP X pins σ Q) X.xe s
theorem jAH.one:∀ {x:V} {us:List Value},jAH [x] us->∃ u,us=[u]/\jAA x u
 | _,_,.cons r .nil=>⟨_,rfl,r⟩
theorem jAH.eraseIdx:∀ {xs:List V} {us:List Value} (i:Nat),jAH xs us->jAH (xs.eraseIdx i) (us.eraseIdx i)
 | _,_,_,.nil=>.nil
 | _,_,0,.cons _ t=>t
 | _,_,i+1,.cons r t=>.cons r (jAH.eraseIdx i t)
theorem jAH.rep{xs:List V}{us:List Value}(h:jAH xs us):∀ k:Nat,jAH (List.replicate k xs).flatten (List.replicate k us).flatten
 | 0=>.nil
 | k+1=>by
   rw [List.replicate_succ,List.replicate_succ,List.flatten_cons,List.flatten_cons]
   exact jAH.append h (jAH.rep h k)
theorem jJ_{α:Type}:∀ (l:List α) (i:Nat),(l.eraseIdx i).length<=l.length
 | [],_=>Nat.le_refl _
 | _::_,0=>Nat.le_succ _
 | _::r,i+1=>Nat.succ_le_succ (jJ_ r i)
theorem jKa(its:List Value):∀ (k:Nat) (acc:List Value),
 List.foldl (fun x1 x2=>x1++x2) acc.toArray (List.replicate k its.toArray)=(acc++(List.replicate k its).flatten).toArray
 | 0,acc=>by simp
 | k+1,acc=>by
   have e:acc.toArray++its.toArray=(acc++its).toArray:=by simp
   have e2:(acc++its)++(List.replicate k its).flatten=acc++(List.replicate (k+1) its).flatten:=by
    rw [List.replicate_succ,List.flatten_cons,List.append_assoc]
   rw [<- e2,<- jKa its k (acc++its),<- e,List.replicate_succ,List.foldl_cons]
section
variable {X:Cx}{pins:List (Addr×Obj)}{σ:St}{H:Hp}{s:Shared}{l b:Addr}{xs ys zs:List V}
theorem Inv.lset{its its':List Value}{n:Nat}{f:Array Value->Array Value}{t':Nat}(I:Inv X pins σ H s)(hH:H l=some (.lst xs))
 (e:s.heap.get? l=some { cls:=.type "list",data:=.seq its.toArray n }) (hf:f its.toArray=its'.toArray) (hv:jAH ys its') (hz:ys.length<=sizeLine) :
 Inv X pins σ (upd H l (.lst ys)) { s with heap:=s.heap.update l (Obj.mapSeq f),toks:=t' }:=by
 have q:=PySem.IsL.update e f
 rw [hf] at q
 refine I.write (x:=l) (e:=l) (by rw [hH];exact trivial) (.inl rfl) (fun b' u hb hu=>(Heap.get?_update_other s.heap (Obj.mapSeq f) (Ne.symm hb)).trans hu) ⟨_,q⟩ ?_
 exact⟨hz,its',_,hv,q⟩
theorem Inv.lnew{its:List Value}{t':Nat}(I:Inv X pins σ H s)(hv:jAH ys its)(hz:ys.length<=sizeLine) :
 Inv X pins σ (upd H s.heap.objs.size (.lst ys)) { s with heap:=s.heap.push { cls:=.type "list",data:=.seq its.toArray },toks:=t' } :=
 I.laid (fun _ _ q=>Heap.get?_push_of_some _ q) (Nat.le_refl _) ⟨hz,its,0,hv,Heap.get?_push_size _ rfl⟩
theorem Inv.fresh(I:Inv X pins σ H s):H s.heap.objs.size=none:=I.hok.fresh (Nat.le_refl _)
theorem Inv.lstM(I:Inv X pins σ H s)(hH:H l=some (.lst xs)):xs.length<=sizeLine/\∃ (its:List Value) (n:Nat),jAH xs its/\xs.length=its.length/\s.heap.get? l=some { cls:=.type "list",data:=.seq its.toArray n }:=by
 obtain⟨z,its,n,r,e⟩:=I.hok l _ hH
 exact⟨z,its,n,r,r.length,e⟩
theorem jK_{n:Nat}(h:n<=sizeLine):Builtin.List.listTooLong n=false:=by
 unfold Builtin.List.listTooLong
 exact decide_eq_false (by omega)
end
section
variable {X:Cx}
inductive jMw(x:V)(vs:List V)(H:Hp)(Q:VK):Prop|mk l xs y:x=.ref l->vs=[y]->H l=some (.lst xs)->xs.length<sizeLine->Q .non (upd H l (.lst (xs++[y])))->jMw x vs H Q
theorem jFL:MtM X "list.append" jMw:=by
 intro pins s σ H x vs v us Q I rx rv h
 obtain⟨l,xs,y,rfl,rfl,hH,hz,q⟩:=h
 cases rx
 obtain⟨u,rfl,ru⟩:=rv.one
 obtain⟨z,its,n,r,hl,e⟩:=I.lstM hH
 refine call_meets F.slot_list_append ⟨_,e,rfl⟩ F.entry_list_append (F.args_list_append_2 _ _) (PySem.list_append l its.toArray n u (by rw [List.size_toArray];omega)) ⟨e,?_⟩
 refine⟨.non,_,I.lset (its':=its++[u]) hH e (by simp) (r.append (.cons ru .nil)) ?_,rfl,q⟩
 rw [List.length_append,List.length_singleton]
 omega
inductive jMx(x:V)(vs:List V)(H:Hp)(Q:VK):Prop|mk l b xs zs:x=.ref l->vs=[.ref b]->H l=some (.lst xs)->H b=some (.lst zs)->xs.length+zs.length<=sizeLine->Q .non (upd H l (.lst (xs++zs)))->jMx x vs H Q
theorem jNl:MtM X "list.extend" jMx:=by
 intro pins s σ H x vs v us Q I rx rv h
 obtain⟨l,b,xs,zs,rfl,rfl,hH,hB,hz,q⟩:=h
 cases rx
 obtain⟨u,rfl,ru⟩:=rv.one
 cases ru
 obtain⟨z,its,n,r,hl,e⟩:=I.lstM hH
 obtain⟨z2,its2,n2,r2,hl2,e2⟩:=I.lstM hB
 have hsz:its.toArray.size+its2.toArray.size<=sizeLine:=by rw [List.size_toArray,List.size_toArray];omega
 have hlong:¬ (!its.toArray.isEmpty&&Builtin.List.listTooLong (its.toArray.size+its2.toArray.size))=true:=by
  rw [jK_ hsz,Bool.and_false]
  exact Bool.false_ne_true
 refine call_meets F.slot_list_extend ⟨_,e,rfl⟩ F.entry_list_extend (F.args_list_extend_2 _ _)
  (AutoSeq1.list_extend_list_list_0 l its.toArray n b its2.toArray n2 hlong (by rw [List.size_toArray];omega) (by omega)) ⟨e,e2,?_⟩
 refine⟨.non,_,I.lset (its':=its++its2) hH e (by simp) (r.append r2) ?_,rfl,q⟩
 rw [List.length_append]
 omega
inductive jNm(x:V)(vs:List V)(H:Hp)(Q:VK):Prop|mk l xs i k y:x=.ref l->vs=[.int i]->H l=some (.lst xs)->-(2^63)<=i->i<2^63->seqIndex? i xs.length=some k->xs[k]?=some y->Q y (upd H l (.lst (xs.eraseIdx k)))->jNm x vs H Q
theorem jN8:MtM X "list.pop" jNm:=by
 intro pins s σ H x vs v us Q I rx rv h
 obtain⟨l,xs,i,k,y,rfl,rfl,hH,h1,h2,hk,hy,q⟩:=h
 cases rx
 obtain⟨u,rfl,ru⟩:=rv.one
 obtain⟨t,rfl⟩:=ru
 obtain⟨z,its,n,r,hl,e⟩:=I.lstM hH
 obtain⟨w,hw,rw'⟩:=r.get hy
 refine call_meets F.slot_list_pop ⟨_,e,rfl⟩ F.entry_list_pop (F.args_list_pop_2 _ _)
  (MeetsSeq.list_pop_at l its.toArray n i t k w (fitsIndex_both h1 h2) (by rw [List.size_toArray,<- hl];exact hk) (by rw [<- Array.getElem?_toList];exact hw) (by rw [List.size_toArray];omega)) ⟨e,?_⟩
 refine⟨y,_,I.lset (its':=its.eraseIdx k) hH e ?_ (r.eraseIdx k) ?_,rw',q⟩
 ·show its.toArray.eraseIdxIfInBounds k=(its.eraseIdx k).toArray
  rw [List.eraseIdxIfInBounds_toArray]
 ·have:=jJ_ xs k
  omega
inductive rCat(x:V)(y:V)(H:Hp)(Q:VK):Prop|mk l b xs zs:x=.ref l->y=.ref b->H l=some (.lst xs)->H b=some (.lst zs)->xs.length+zs.length<=sizeLine->(∀ p,H p=none->Q (.ref p) (upd H p (.lst (xs++zs))))->rCat x y H Q
theorem jHn:OpR X (binaryOp .Add) rCat:=by
 intro pins s σ H x y v u Q I rx ry h
 obtain⟨l,b,xs,zs,rfl,rfl,hH,hB,hz,q⟩:=h
 cases rx
 cases ry
 obtain⟨z,its,n,r,hl,e⟩:=I.lstM hH
 obtain⟨z2,its2,n2,r2,hl2,e2⟩:=I.lstM hB
 refine PySem.P.add_list e e2 ?_ (by rw [List.size_toArray,List.size_toArray];omega)
 have ea:its.toArray++its2.toArray=(its++its2).toArray:=by simp
 rw [ea]
 exact⟨.ref _,_,I.lnew (t':=s.toks) (r.append r2) (by rw [List.length_append];omega),rfl,q _ I.fresh⟩
inductive rRep(x:V)(y:V)(H:Hp)(Q:VK):Prop|mk l k xs:x=.ref l->y=.int k->H l=some (.lst xs)->-(2^63)<=k->k<2^63->xs.length*k.toNat<=sizeLine->(∀ p,H p=none->Q (.ref p) (upd H p (.lst (List.replicate k.toNat xs).flatten)))->rRep x y H Q
theorem len_rep{α:Type}(xs:List α)(k:Nat):(List.replicate k xs).flatten.length=k*xs.length:=by
 induction k with
 | zero=>simp
 | succ k ih=>rw [List.replicate_succ,List.flatten_cons,List.length_append,ih,Nat.succ_mul,Nat.add_comm]
theorem op_rep:OpR X (binaryOp .Mult) rRep:=by
 intro pins s σ H x y v u Q I rx ry h
 obtain⟨l,k,xs,rfl,rfl,hH,h1,h2,hz,q⟩:=h
 cases rx
 obtain⟨t,rfl⟩:=ry
 obtain⟨z,its,n,r,hl,e⟩:=I.lstM hH
 have hlen:its.toArray.size*k.toNat<=sizeLine:=by rw [List.size_toArray,<- hl];exact hz
 have hcap:¬ its.toArray.size*k.toNat > (2^63-1)/8:=by
  have:(sizeLine:Nat)<=(2^63-1)/8:=by decide
  omega
 have hfit:¬ (!Builtin.List.listFitsIndex k)=true:=by
  rw [fitsIndex_both h1 h2]
  exact Bool.false_ne_true
 have hlong:¬ Builtin.List.listTooLong (its.toArray.size*k.toNat)=true:=by
  rw [jK_ hlen]
  exact Bool.false_ne_true
 have hnew:List.foldl (fun x1 x2=>x1++x2) #[] (List.replicate (if its.toArray.isEmpty=true then 0 else k.toNat) its.toArray)=(List.replicate k.toNat its).flatten.toArray:=by
  have f0:∀ m:Nat,List.foldl (fun x1 x2=>x1++x2) #[] (List.replicate m its.toArray)=(List.replicate m its).flatten.toArray:=fun m=>by
   have:=jKa its m []
   rw [List.nil_append] at this
   exact this
  rw [f0]
  cases its with
  | nil=>simp
  | cons a r'=>rw [if_neg (by simp)]
 refine wpAny_binaryOp_repeat_ref (T:="list") (U:="int") (by decide) ⟨_,e,rfl⟩ (fun s'=>typeIs_int s' k t) noFill_list_mul F.fills_int_mul F.slot_int_rmul repeat_list F.slot_int_index.lookup
  (call_meets F.slot_int_rmul (typeIs_int s k t) F.entry_int_rmul (F.args_int_rmul_2 _ _) (int___rmul___int_list k t l its.toArray n)
   ⟨e,rfl,⟨_,e,rfl⟩,call_meets F.slot_list_mul ⟨_,e,rfl⟩ F.entry_list_mul (F.args_list_mul_2 _ _) (AutoListH.list___mul___list_int_3 l its.toArray n k t hfit hcap hlong) ⟨e,?_⟩⟩)
 rw [hnew]
 exact⟨.ref _,_,I.lnew (t':=s.toks) (r.rep k.toNat) (by rw [len_rep,Nat.mul_comm];exact hz),rfl,q _ I.fresh⟩
end
section
variable {prog:Program}{w:World}{A:Around}{E:Value->Shared->Prop}{s:Shared}
set_option maxRecDepth 100000 in
end
section
variable {X:Cx}
end
end L2
namespace Att
open PySem PySem.W PySem.Calls PyProof.Rows
theorem jIB{P:Params}{h:Heap}:∀ (ns:List Int) (vs:List Value),WellAll P h vs (ns.map WData.int)->IntsAre vs ns:=by
 intro ns
 induction ns with
 | nil =>
   intro vs w
   rw [List.map_nil] at w
   cases w
   exact .nil
 | cons n ns ih =>
   intro vs w
   rw [List.map_cons] at w
   cases w with
   | cons a b =>
     cases a
     exact .cons _ _ (ih _ b)
theorem jNn{l:OpenLaw}{n:Nat}(hn:l.most=some n){P:Params}{h:Heap}{args:List WData}{vals:List Value}
 (hpre:l.row.toRowW.claim.pre args=true) (hwl:WellAll P h vals args) :
 ∃ a vs ns,vals=[Value.ref a]/\args=[WData.list (ns.map WData.int)]/\h.get? a=some { cls:=.type "list",data:=.seq vs.toArray }/\IntsAre vs ns/\ns.length<=n:=by
 have hsh:WShape.hasAll [] args [.list .int]=true:=(pre_splitW hpre).1
 have hc:l.pre.holds [] { args:=args }=true:=(pre_splitW hpre).2
 obtain⟨d,r,rfl,h1,h2⟩:=hasAllW_cons hsh
 obtain rfl:=hasAllW_nil h2
 obtain⟨xs,rfl,h3⟩:=hasW_list h1
 obtain⟨ns,rfl⟩:=items_int h3
 have hlen:ns.length<=n:=by
  unfold OpenLaw.pre at hc
  have h4:(WTm.not (.lt (.lit (.int (n:Int))) (.len (.arg 0)))).holds [] { args:=[.list (ns.map .int)] }=true:=by
   have h4:=(holds_andW hc).1
   rw [hn] at h4
   exact h4
  have h5:=condW_of h4 (w_not (w_lt w_lit (w_len_list (w_arg rfl))))
  rw [List.length_map] at h5
  refine Nat.le_of_not_lt fun q=>?_
  have q':(n:Int)<((ns.length:Nat):Int):=by omega
  first
   | (rw [decide_eq_true q'] at h5;exact absurd h5 (by decide))
   | (simp at h5;omega)
 cases hwl with
 | cons w1 w2 =>
   cases w2
   cases w1 with
   | list ho hall=>exact⟨_,_,ns,rfl,rfl,ho,jIB ns _ hall,hlen⟩
theorem jNo(l:OpenLaw)(args:List WData):l.row.toRowW.claim.post args (.bool true) args=true :=
 postW_of (r:=l.row.toRowW) (X:=(true==true))
  (show WShape.has [] (.bool true) .bool=true by first|rfl|decide|simp [WShape.has,WShape.arms,WShape.armsAll])
  (show (WTm.eq .res (.lit (.bool true))).value [] { args:=args,res:=some (.bool true),after:=args }=some (.bool (true==true)) from w_eq_bool (w_res rfl) w_lit) rfl
theorem attach_call{l:OpenLaw}{n:Nat}{q:Program}{loose:List Str}{XP:(Str->Option Value)->Heap->Prop}{YP:World->Heap->Prop}{d:DefRec}
 (hn:l.most=some n) (hdf:d.params.defaults=[])
 (call:∀ (w:World) (s₀ s₁:Shared) (mg mb:Str->Option Value) (fa:Addr) (o:Obj) (pm cd doc:Value) (a:Addr) (vs:List Value) (ns:List Int),
  Ground q loose [] XP w s₀ mg mb s₁.heap->YP w s₁.heap ->
  s₁.heap.get? fa=some o->o.data=.func (docDef d.name d.params d.body d.scope pm cd doc)->s₁.heap.CodeRec cd d.name->mg d.name=some (.ref fa) ->
  s₁.heap.get? a=some { cls:=.type "list",data:=.seq vs.toArray }->IntsAre vs ns->ns.length<=n->s₁.gens=#[] ->
  codeAny (model l.prog w) callerA (.call (.ref fa) ⟨[.ref a],[]⟩) (fun r s'=>r=.ok (.ret (.bool true))/\OldK s₁.heap s'.heap/\s'.os=s₁.os/\AllBare s'.gens) s₁) :
 WalkO q loose XP YP l.row.toRowW d [] (fun f vs=>PySem.call f vs):=by
 intro w s₀ s₁ mg mb G Y fa o pm cd doc dV kV ho hd hcd hD hmg hg args vals as hpre hlay hrd hwl hlo
 obtain rfl:dV=.none:=Dflts.none hD hdf
 obtain rfl:kV=.none:=Dflts.noKw hD
 obtain⟨a,vs,ns,rfl,rfl,hobj,hints,hlen⟩:=jNn hn hpre hwl
 refine enter_call (codeAny_mono (call w s₀ s₁ mg mb fa o pm cd doc a vs ns G Y ho (fd_plain hd) hcd hmg hobj hints hlen hg) fun r s' hq=>?_)
 obtain⟨rfl,h2,h3,h4⟩:=hq
 exact⟨.inl ⟨.bool true,.bool true,[],rfl,fun _=>rfl,.bool true,jNo l _,fun _=>⟨List.Pairwise.nil,fun _ hm=>(nomatch hm)⟩⟩,h2,h3,h4⟩
section
variable {prog:Program}{w:World}{A:Around}{E:Value->Shared->Prop}{s:Shared}{K:Frag}
end
end Att
namespace L2
open PySem PySem.Spec PyProof.Rows
theorem jKb:∀ {vs:List Value} {ns:List Int},IntsAre vs ns->jAH (ns.map V.int) vs
 | _,_,.nil=>.nil
 | _,_,.cons n t h=>.cons ⟨t,rfl⟩ (jKb h)
def Only(H:Hp):Prop:=∀ b,H b=none\/∃ o xs,H b=some (.frz o (.lst xs))
theorem jN9{P:Program}{w:World}{K:PySem.W.Frag}{mg mb:Str->Option Value}{CX:CXT}{k:Nat}{fa a:Addr}{fd:FuncData}{x:Str}{sp:Sp}{s₁:Shared}{vs:List Value}{ns:List Int}
 (KX:K.In s₁.heap) (hns:s₁.heap.Ns mainGlobals mg) (hb:s₁.heap.Ns builtinsNs mb) (hbb:∀ x:Str,x≠"__name__"->mb x=bootBuiltins x) (hlim:s₁.heap.NoLimit) (hg:s₁.gens=#[])
 (ha:s₁.heap.get? a=some { cls:=.type "list",data:=.seq vs.toArray }) (hi:IntsAre vs ns) (hl:ns.length<=sizeLine) (hr:jAZ k callerA)
 (F:∀ base:Heap,K.In base->base.Ns mainGlobals mg->jAr P w K mg base CX k fa fd [x] sp) (hbind:∀ (s:Shared) (u:Value),BindsTo s fd ⟨[u],[]⟩ [(x,u)])
 (hsp:∀ H:Hp,Only H->SqL K H a (ns.map V.int)->sp [.ref a] H (fun v _=>v=.bl true) fun _ _ _=>False)
 (hCX:∀ H e s',CX [] H s₁ (fun _ _ _=>False) e s'->False) :
 codeAny (model P w) callerA (.call (.ref fa) ⟨[.ref a],[]⟩) (fun r s'=>r=.ok (.ret (.bool true))/\OldK s₁.heap s'.heap/\s'.os=s₁.os/\AllBare s'.gens) s₁:=by
 have rv:=jKb hi
 have lenV:=hi.length
 -- from an abstract heap in which nothing but the script may be tracked
 have core:∀ H:Hp,Only H->SqL K H a (ns.map V.int)->HOk P w H s₁.heap->(∀ b,H b≠none->b=a)->(H a≠none->K.lookup a=none) ->
  codeAny (model P w) callerA (.call (.ref fa) ⟨[.ref a],[]⟩) (fun r s'=>r=.ok (.ret (.bool true))/\OldK s₁.heap s'.heap/\s'.os=s₁.os/\AllBare s'.gens) s₁:=by
  intro H hO hS hok hA hK
  have base_of:∀ {b:Addr} {o:Obj},s₁.heap.get? b=some o->H b=none->(jGB s₁.heap H).get? b=some o:=fun e n=>jN1 e n
  have noA:∀ {b:Addr} {o:Obj} {es:Array DictEntry} {ep:Nat},s₁.heap.get? b=some o->o.data=.dict es ep->H b=none:=fun {b o es ep} e d=>by
   cases q:H b with
   | none=>rfl
   | some u =>
     have e':b=a:=hA b (by rw [q];simp)
     subst e'
     rw [ha] at e;cases e
     have d':Data.seq vs.toArray _=Data.dict es ep:=d
     cases d'
  have nsK:∀ {b:Addr} {m:Str->Option Value},s₁.heap.Ns b m->(jGB s₁.heap H).Ns b m:=fun {b m} ⟨o,es,ep,e,d,r⟩=>⟨o,es,ep,base_of e (noA e d),d,r⟩
  have hKb:K.In (jGB s₁.heap H):=fun b o e=>base_of (KX b o e) (by
   cases q:H b with
   | none=>rfl
   | some u =>
     have e':b=a:=hA b (by rw [q];simp)
     subst e'
     rw [hK (by rw [q];simp)] at e;cases e)
  have hM:Mod K mg (jGB s₁.heap H):=⟨hKb,nsK hns,⟨mb,nsK hb,hbb⟩,let ⟨mc,h1,h2⟩:=hlim;⟨mc,nsK h1,h2⟩⟩
  have e0:Env0 P w K mg (jGB s₁.heap H) callerA [] s₁ H:=⟨rfl,hM,fun b o e=>of_hidT e,Nat.le_of_eq (jM8 _ _),trivial,fun b hb=>absurd (show b∈([]:List Addr) from hb) (by simp),hok,.of_eq hg⟩
  refine codeAny_mono ((F _ hKb (nsK hns)).run callerA [] s₁ H ⟨[.ref a],[]⟩ [.ref a] [.ref a] _ _ hr e0 (hbind s₁ (.ref a)) (.cons rfl .nil) (hsp H hO hS)) fun r s' h=>?_
  cases r with
  | error e=>exact (hCX H e s' h).elim
  | ok fl =>
    cases fl with
    | next=>exact False.elim h
    | brk=>exact False.elim h
    | cont=>exact False.elim h
    | ret u =>
      obtain⟨v,H',os,bare,un,hok',r',q⟩:=h
      have q':v=.bl true:=q
      subst q'
      obtain rfl:u=Value.bool true:=r'
      refine⟨rfl,OldK.of_keep fun b o e=>?_,os,bare⟩
      cases q:H b with
      | none=>exact un.keep b o e q (by intro z;exact absurd (show b∈([]:List Addr) from z) (by simp)) (by simp)
      | some u =>
        rcases hO b with z|⟨ob,xs,z⟩
        ·rw [q] at z;cases z
        ·have z2:=un.frzs b ob _ z
         obtain⟨e1,_⟩:=hok b _ z
         obtain⟨e2,_⟩:=hok' b _ z2
         rw [e] at e1;cases e1
         exact e2
 cases hk:K.lookup a with
 | some o =>
   -- the script is one of the module's own objects
   have e:=KX a o hk
   rw [ha] at e
   cases e
   refine core (fun _=>none) (fun _=>.inl rfl) (.inr ⟨_,vs.toArray,_,hk,rfl,rfl,rfl,by rw [List.size_toArray,lenV];exact hl,by simpa using rv⟩) (fun b u z=>by have z':(none:Option HO)=some u:=z;cases z') (fun b z=>absurd rfl z) fun z=>absurd rfl z
 | none =>
   refine core (fun b=>if b=a then some (.frz { cls:=.type "list",data:=.seq vs.toArray } (.lst (ns.map V.int))) else none) (fun b=>?_) (.inl (.inr ⟨{ cls:=.type "list",data:=.seq vs.toArray },if_pos rfl⟩)) (fun b u z=>?_) (fun b z=>?_) fun _=>hk
   ·by_cases hb:b=a
    ·exact .inr ⟨_,_,if_pos hb⟩
    ·exact .inl (if_neg hb)
   ·by_cases hb:b=a
    ·have z':=(if_pos hb).symm.trans z
     cases z'
     subst hb
     exact⟨ha,by rw [List.length_map];exact hl,vs,_,rv,ha⟩
    ·have z':=(if_neg hb).symm.trans z
     cases z'
   ·by_cases hb:b=a
    ·exact hb
    ·exact absurd (if_neg hb) z
abbrev KOf{K:PySem.W.Frag}{h:Heap}(_:K.In h):PySem.W.Frag:=K
theorem walk_of{l:PySem.W.OpenLaw}{n k:Nat}{q:Program}{loose:List Str}{XP:(Str->Option Value)->Heap->Prop}{YP:World->Heap->Prop}{d:DefRec}{K:Params->PySem.W.Frag}{CX:World->CXT}{sp:World->Sp}{x:Str}
 (hn:l.most=some n) (hn2:n<=sizeLine) (hdf:d.params.defaults=[]) (hr:jAZ k callerA)
 (hY:∀ (w:World) (h:Heap),YP w h->(K w.params).In h)
 (F:∀ (w:World) (mg:Str->Option Value) (fa:Addr) (h:Heap),(K w.params).In h->h.Ns mainGlobals mg->mg d.name=some (.ref fa) ->
  ∃ fd:FuncData,(∀ (s:Shared) (u:Value),BindsTo s fd ⟨[u],[]⟩ [(x,u)]) /\
   ∀ base:Heap,(K w.params).In base->base.Ns mainGlobals mg->jAr l.prog w (K w.params) mg base (CX w) k fa fd [x] (sp w))
 (hsp:∀ (w:World) (H:Hp) (a:Addr) (ns:List Int),ns.length<=n->Only H->SqL (K w.params) H a (ns.map V.int)->sp w [.ref a] H (fun v _=>v=.bl true) fun _ _ _=>False)
 (hCX:∀ (w:World) (H:Hp) (s:Shared) (e:Value) (s':Shared),CX w [] H s (fun _ _ _=>False) e s'->False) :
 PySem.W.WalkO q loose XP YP l.row.toRowW d [] (fun f vs=>PySem.call f vs):=by
 refine Att.attach_call hn hdf fun w s₀ s₁ mg mb fa o pm cd doc a vs ns G Y ho hd hcd hmg hobj hints hlen hg=>?_
 have KX:=hY w _ Y
 obtain⟨fd,hb,hF⟩:=F w mg fa _ KX G.T.g hmg
 exact jN9 KX G.T.g G.T.b G.T.builtins G.T.nolimit hg hobj hints (Nat.le_trans hlen hn2) hr hF hb (fun H hO hS=>hsp w H a ns hlen hO hS) fun H e s'=>hCX w H s₁ e s'
end L2
/- THE LAST THEOREM (shape; LID, My.* are yours):
 My.Adr: a structure of the addresses that your layer names (classes,functions);My.Txt K t: a structure (Prop) of the equations over K;
 My.txt_mk:{K} {implicit addresses ..} (e1:nsIn K mainGlobals "law"=some (some (.ref f))) (e2:K.lookup f=some ⟨oc,od,.func (fnOf "law" "law" params body scope dV kV doc pm an cdv ct),sl⟩) (e3:codeIn K cdv "law"=true) ..:∃ t,My.Txt K t
set_option maxRecDepth 100000 in
set_option maxHeartbeats 0 in
theorem PySem.Challenge.cw_LID_holds : PySem.Challenge.rw_LID.Holds := by
 w_on;o_law;k_head;(case hw=>w_witness2)
 k_fill
 refine L2.walk_of (l:=PySem.Challenge.rw_LID) (n:=63) (k:=40) (x:="script") (CX:=fun w=>..) (sp:=fun _=>My.sp_law) rfl (by decide) rfl ⟨rfl,by decide,by decide⟩ (fun w h Y=>PySem.W.kIn_of Y) ?F ?S ?C
 case F =>
  intro w mg fa h KX G hmg
  have T:∃ t,My.Txt (L2.KOf KX) t:=by
   dsimp only [L2.KOf]                          -- K must stand as «<heap const> w.params» for k_is
   refine' My.txt_mk ?e1 ?e2 ?e3 ..
   (case e1 => PySem.W.k_is)                    -- in the order: a name -> its address -> its object -> its parts
   (case e2=>PySem.W.k_is)
   ..
  obtain⟨t,T⟩:=T
  have e0:=hmg.symm.trans (PySem.W.mg_of KX G T.law)
  cases e0                                       -- fa is the law's own address
  exact⟨_, fun s u => .of_eq rfl, fun base kb nb => My.law_fn T kb nb⟩     -- if «.of_eq rfl» comes too early: refine' ⟨_, ?b, fun base kb nb => My.law_fn T kb nb⟩; exact fun s u => .of_eq rfl
 case S=>exact fun w H a ns hl hO hS=>..
 case C=>exact ..
(the tactic k_is has no namespace: write k_is) -/
namespace L2
open PySem PySem.Spec PyProof.Rows
def jAt(s:Stmt)(j:Nat):Stmt:=match s with
 | .ClassDef _ _ _ body _ _ _ _ _ _ _=>body.getD j (.Pass ⟨0,0,0,0⟩)
 | _=>.Pass ⟨0,0,0,0⟩
def jDJ(s:Stmt):Arguments:=match s with
 | .FunctionDef _ a _ _ _ _ _ _ _ _=>a
 | _=>{ posonlyargs:=[],args:=[],vararg:=none,kwonlyargs:=[],kw_defaults:=[],kwarg:=none,defaults:=[] }
def jCG(s:Stmt):List Stmt:=match s with
 | .FunctionDef _ _ b _ _ _ _ _ _ _=>b
 | _=>[]
def jAh(s:Stmt):Scope:=match s with
 | .FunctionDef _ _ _ _ _ _ sc _ _ _=>sc
 | _=>{ kind:=.function,names:=[],isGenerator:=false,isCoroutine:=false }
abbrev CX0:CXT:=fun _ _ _ _ _ _=>False
abbrev E0:XK:=fun _ _ _=>False
theorem jIC{X:Cx}:jEs CX0 X E0:=fun _ _ _ _ _ _ _ h=>h.elim
structure Fun(K:PySem.W.Frag)(x qual:Str)(st:Stmt)(f:Addr)(fd:FuncData):Prop where
 ex:∃ (oc:Value) (od:Option Addr) (kV doc pm:Value) (an:Option Addr) (cdv ct:Value) (osl:Array (Option Value)),
  fd=PySem.W.fnOf x qual (jDJ st) (jCG st) (jAh st) .none kV doc pm an cdv ct/\K.lookup f=some ⟨oc,od,.func fd,osl⟩/\PySem.W.codeIn K cdv qual=true
 kp:PySem.W.keepIn K (.ref f)=true
section
variable {P:Program}{w:World}{K:PySem.W.Frag}{mg:Str->Option Value}{base:Heap}
theorem Fun.ok{x qual:Str}{st:Stmt}{f:Addr}{fd:FuncData}{N ps:List Str}{k:Nat}{sp:Sp}(F:Fun K x qual st f fd)(S:jAk N ps (jAh st))(len:∀ vs H Q E,sp vs H Q E->vs.length=ps.length)
 (hbody:∀ (cdv:Value) (A:Around) (outer:List Env) (s:Shared) (H:Hp) (vs:List V) (Q:VK) (E:XK),jAZ k (A.deeper (envOfC qual (jAh st) s.heap.objs.size f cdv))->sp vs H Q E ->
  ∃ t,PSs (jHk CX0 P w K mg base N qual (jAh st) f cdv A outer s H E).nox (jCG st) t/\t { nx:=fun _ H'=>Q .non H',rt:=Q } (jEi N vs) H):jAr P w K mg base CX0 (k+1) f fd ps sp:=by
 obtain⟨oc,od,kV,doc,pm,an,cdv,ct,osl,rfl,lk,hcd⟩:=F.ex
 refine fn_of lk hcd S len fun A outer s H vs Q E hr hsp=>?_
 obtain⟨t,h,q⟩:=hbody cdv A outer s H vs Q E hr hsp
 exact⟨t,h.nox,q⟩
theorem Fun.binds{x qual:Str}{st:Stmt}{f:Addr}{fd:FuncData}{ps:List Str}(F:Fun K x qual st f fd)
 (h:∀ (kV doc pm:Value) (an:Option Addr) (cdv ct:Value) (us:List Value),us.length=ps.length->bindArgs (PySem.W.fnOf x qual (jDJ st) (jCG st) (jAh st) .none kV doc pm an cdv ct) ⟨us,[]⟩=pure (ps.zip us)):jBw K fd ps []:=by
 obtain⟨oc,od,kV,doc,pm,an,cdv,ct,osl,rfl,lk,hcd⟩:=F.ex
 exact .all (h kV doc pm an cdv ct)
theorem jNp{x qual:Str}{st:Stmt}{f:Addr}{oc:Value}{od an:Option Addr}{osl:Array (Option Value)}{kV doc pm cdv ct:Value}(l:K.lookup f=some ⟨oc,od,.func (PySem.W.fnOf x qual (jDJ st) (jCG st) (jAh st) .none kV doc pm an cdv ct),osl⟩)
 (c:PySem.W.codeIn K cdv qual=true) (k:PySem.W.keepIn K (.ref f)=true):Fun K x qual st f (PySem.W.fnOf x qual (jDJ st) (jCG st) (jAh st) .none kV doc pm an cdv ct):=⟨⟨oc,od,kV,doc,pm,an,cdv,ct,osl,rfl,l,c⟩,k⟩
end
theorem jAW{n:Nat}(h:n<=1000):n<sizeLine:=Nat.lt_of_le_of_lt h (by decide)
section
variable {X:Cx}
theorem pv(i:Nat){x:Str}{pos:Pos}(hN:X.N[i]?=some x:=by rfl)(hv:Vis X.env.scope x:=by first|exact Or.inl rfl|exact Or.inr (Or.inl rfl)|exact Or.inr (Or.inr rfl))(hd:(x==("__debug__":Str))=false:=by decide)
 (hcd:(x==("__classdict__":Str))=false:=by decide):PE X (.Name x pos) (tVar i):=pe_var hN hv hd hcd
end
theorem jAJ{A B:Prop}(h:B):if false=true then A else B:=by
 rw [if_neg Bool.false_ne_true]
 exact h
theorem jAU{A B:Prop}(h:A):if true=true then A else B:=by
 rw [if_pos rfl]
 exact h
theorem jDK{c A B:Prop}[Decidable c](h1:c->A)(h2:¬ c->B):if c then A else B:=by
 by_cases h:c
 ·rw [if_pos h]
  exact h1 h
 ·rw [if_neg h]
  exact h2 h
theorem iteNS{c A B:Prop}[Decidable c](hc:c)(h:B):if (!decide c)=true then A else B:=by
 rw [decide_eq_true hc]
 exact jAJ h
def jAn(H H':Hp):Prop:=∀ b o,H b=some o->H' b=some o
theorem jAn.refl(H:Hp):jAn H H:=fun _ _ h=>h
theorem jAn.trans{H H1 H2:Hp}(a:jAn H H1)(b:jAn H1 H2):jAn H H2:=fun c o h=>b c o (a c o h)
theorem jAn.free{H H':Hp}(e:jAn H H'){l:Addr}(h:H' l=Option.none):H l=Option.none:=by
 cases q:H l with
 | none=>rfl
 | some o =>
   rw [e l o q] at h
   cases h
theorem jAn.seq{K:PySem.W.Frag}{H H':Hp}{a:Addr}{xs:List V}(e:jAn H H')(h:SqL K H a xs):SqL K H' a xs:=by
 rcases h with (h|⟨o,h⟩)|h
 ·exact .inl (.inl (e _ _ h))
 ·exact .inl (.inr ⟨o,e _ _ h⟩)
 ·exact .inr h
end L2
set_option maxHeartbeats 4000000
namespace L2
open PySem PySem.Spec PyProof.Rows
section
variable {κ:Type}[DecidableEq κ]
def jCO(kvs:List (κ×V))(k:κ):Option V:=(kvs.find? fun kv=>decide (kv.1=k)).map (·.2)
def jB7(kvs:List (κ×V))(k:κ)(v:V):List (κ×V) :=
 if (kvs.any fun kv=>decide (kv.1=k))=true then kvs.map (fun kv=>if kv.1=k then (kv.1,v) else kv) else kvs++[(k,v)]
theorem jIh{p:κ×V}{r:List (κ×V)}{k:κ}(e:p.1=k):jCO (p::r) k=some p.2:=by simp [jCO,List.find?_cons,e]
theorem jIi{p:κ×V}{r:List (κ×V)}{k:κ}(e:¬ p.1=k):jCO (p::r) k=jCO r k:=by simp [jCO,List.find?_cons,e]
theorem jLa(k:κ):∀ kvs:List (κ×V),(kvs.any fun kv=>decide (kv.1=k))=(jCO kvs k).isSome
 | []=>rfl
 | p::r=>by
   rw [List.any_cons]
   by_cases e:p.1=k
   ·simp only [jIh e,decide_eq_true e,Bool.true_or,Option.isSome_some]
   ·rw [jIi e,decide_eq_false e,Bool.false_or];exact jLa k r
theorem jF1(kvs:List (κ×V))(k:κ)(v:V):(jB7 kvs k v).length<=kvs.length+1:=by
 unfold jB7
 split
 ·rw [List.length_map];omega
 ·rw [List.length_append,List.length_cons,List.length_nil];omega
theorem jBY.isSome_eq{o:Option V}{u:Option Value}(r:jBY o u):o.isSome=u.isSome:=by
 cases o with
 | none=>cases u with
   | none=>rfl
   | some _=>exact (show False from r).elim
 | some _=>cases u with
   | none=>exact (show False from r).elim
   | some _=>rfl
theorem KV.val{kvs:List (κ×V)}{vs:List (κ×Value)}(r:KV kvs vs)(k:κ):jBY (jCO kvs k) (valueAt vs k):=by
 unfold KV at r
 induction r with
 | nil=>exact True.intro
 | @cons p q ps qs h t ih =>
   obtain⟨h1,h2⟩:=h
   by_cases e:p.1=k
   ·have e':q.1=k:=h1.symm.trans e
    have b:valueAt (q::qs) k=some q.2:=by simp [valueAt,List.find?_cons,e']
    rw [jIh e,b];exact h2
   ·have e':¬ q.1=k:=fun z=>e (h1.trans z)
    have b:valueAt (q::qs) k=valueAt qs k:=by simp [valueAt,List.find?_cons,e']
    rw [jIi e,b];exact ih
theorem KV.any{kvs:List (κ×V)}{vs:List (κ×Value)}(r:KV kvs vs)(k:κ):(kvs.any fun kv=>decide (kv.1=k))=vs.any fun kv=>decide (kv.1=k):=by
 unfold KV at r
 induction r with
 | nil=>rfl
 | cons h t ih=>rw [List.any_cons,List.any_cons,ih,h.1]
theorem KV.repl{kvs:List (κ×V)}{vs:List (κ×Value)}(r:KV kvs vs)(k:κ){y:V}{u:Value}(ry:jAA y u) :
 KV (kvs.map fun kv=>if kv.1=k then (kv.1,y) else kv) (vs.map fun kv=>if kv.1=k then (kv.1,u) else kv):=by
 unfold KV at r ⊢
 induction r with
 | nil=>exact .nil
 | @cons p q ps qs h t ih =>
   rw [List.map_cons,List.map_cons]
   refine .cons ?_ ih
   obtain⟨h1,h2⟩:=h
   by_cases e:p.1=k
   ·rw [if_pos e,if_pos (h1.symm.trans e)];exact⟨h1,ry⟩
   ·rw [if_neg e,if_neg (fun z=>e (h1.trans z))];exact⟨h1,h2⟩
theorem KV.put{kvs:List (κ×V)}{vs:List (κ×Value)}(r:KV kvs vs)(k:κ){y:V}{u:Value}(ry:jAA y u):KV (jB7 kvs k y) (stored vs k u):=by
 unfold jB7 stored
 rw [r.any k]
 by_cases e:(vs.any fun kv=>decide (kv.1=k))=true
 ·rw [if_pos e,if_pos e];exact r.repl k ry
 ·rw [if_neg e,if_neg e];exact Paired.snoc r ⟨rfl,ry⟩
theorem KV.keys{kvs:List (κ×V)}{vs:List (κ×Value)}(r:KV kvs vs):kvs.map (·.1)=vs.map (·.1):=by
 unfold KV at r
 induction r with
 | nil=>rfl
 | cons h t ih=>rw [List.map_cons,List.map_cons,ih,h.1]
theorem KV.length{kvs:List (κ×V)}{vs:List (κ×Value)}(r:KV kvs vs):kvs.length=vs.length:=Paired.length r
end
theorem jHJ{P:Program}{w:World}{k:Key}{u:Value}(r:jAA (kV k) u):(jA4 P w).is k u=true:=by
 cases k with
 | inl i=>obtain⟨t,e⟩:=(show ∃ t,u=Value.int i t from r);subst e;exact jLY P w i t
 | inr x=>obtain⟨t,e⟩:=(show ∃ t,u=Value.str x t from r);subst e;exact jLZ P w x t
theorem jKc{P:Program}{w:World}:∀ {ks:List Key} {us:List Value},jAH (ks.map kV) us->ItemsAre (jA4 P w) ks us
 | [],_,r=>by rw [List.map_nil] at r;cases r;exact .nil
 | k::ks,_,r=>by
   rw [List.map_cons] at r
   cases r with
   | cons h t=>exact .cons (jHJ h) (jKc t)
abbrev KT(H:Hp):List (List Key×V)->List (List Key×Addr×Value)->Prop:=Paired fun p q=>p.1=q.1/\H q.2.1=some (.tup (p.1.map kV))/\jAA p.2 q.2.2
theorem KT.val{H:Hp}{kvs:List (List Key×V)}{xs:List (List Key×Addr×Value)}(r:KT H kvs xs)(k:List Key):jBY (jCO kvs k) ((atKey xs k).map (·.2)):=by
 induction r with
 | nil=>exact True.intro
 | @cons p q ps qs h t ih =>
   obtain⟨h1,_,h2⟩:=h
   by_cases e:p.1=k
   ·have e':q.1=k:=h1.symm.trans e
    have b:atKey (q::qs) k=some q.2:=by simp [atKey,List.find?_cons,e']
    rw [jIh e,b];exact h2
   ·have e':¬ q.1=k:=fun z=>e (h1.trans z)
    have b:atKey (q::qs) k=atKey qs k:=by simp [atKey,List.find?_cons,e']
    rw [jIi e,b];exact ih
theorem KT.repl{H:Hp}{kvs:List (List Key×V)}{xs:List (List Key×Addr×Value)}(r:KT H kvs xs)(k:List Key){y:V}{u:Value}(ry:jAA y u) :
 KT H (kvs.map fun kv=>if kv.1=k then (kv.1,y) else kv) (xs.map (putAt k u)):=by
 induction r with
 | nil=>exact .nil
 | @cons p q ps qs h t ih =>
   rw [List.map_cons,List.map_cons]
   refine .cons ?_ ih
   obtain⟨h1,h2,h3⟩:=h
   unfold putAt
   by_cases e:p.1=k
   ·rw [if_pos e,if_pos (h1.symm.trans e)];exact⟨h1,h2,ry⟩
   ·rw [if_neg e,if_neg (fun z=>e (h1.trans z))];exact⟨h1,h2,h3⟩
theorem KT.put{H:Hp}{kvs:List (List Key×V)}{xs:List (List Key×Addr×Value)}(r:KT H kvs xs)(k:List Key){b:Addr}{y:V}{u:Value}(hb:H b=some (.tup (k.map kV)))(ry:jAA y u) :
 KT H (jB7 kvs k y) (storedH xs k b u):=by
 have e:(kvs.any fun kv=>decide (kv.1=k))=(atKey xs k).isSome:=by
  rw [jLa,(r.val k).isSome_eq,Option.isSome_map]
 unfold jB7 storedH
 rw [e]
 by_cases q:(atKey xs k).isSome=true
 ·rw [if_pos q,if_pos q];exact r.repl k ry
 ·rw [if_neg q,if_neg q];exact Paired.snoc r ⟨rfl,hb,ry⟩
theorem KT.keeps{H H':Hp}{kvs:List (List Key×V)}{xs:List (List Key×Addr×Value)}(r:KT H kvs xs)(ht:∀ b ys,H b=some (.tup ys)->H' b=some (.tup ys)):KT H' kvs xs :=
 Paired.mapP r fun _ _ z=>⟨z.1,ht _ _ z.2.1,z.2.2⟩
section
variable {P:Program}{w:World}{H:Hp}{h:Heap}{a:Addr}
theorem rd_of{u:HO}(ok:HOk P w H h)(e:Rd H a u):jA6 P w H h a u:=e.ok ok
theorem jID{kvs:List (Key×V)}(ok:HOk P w H h)(e:Rd H a (.dK kvs)):kvs.length<=sizeLine/\(a==sysModules)=false/\∃ vs,KV kvs vs/\h.DictOf (jA4 P w) a vs :=
 show jA6 P w H h a (.dK kvs) from rd_of ok e
theorem jKV{kvs:List (Key×V)}(ok:HOk P w H h)(e:H a=some (.dK kvs)):kvs.length<=sizeLine/\(a==sysModules)=false/\∃ vs,KV kvs vs/\h.DictOf (jA4 P w) a vs:=jID ok (.inl e)
theorem jIE{ks:List Key}(ok:HOk P w H h)(e:H a=some (.tup (ks.map kV))):(tupleKind (jA4 P w)).is h ks a:=by
 obtain⟨_,its,r,o,h1,h2,n,h3⟩:=(show jA6 P w H h a (.tup (ks.map kV)) from ok a _ e)
 exact⟨o,its.toArray,n,h1,h2,h3,by simpa using jKc r⟩
theorem jKW{kvs:List (List Key×V)}(ok:HOk P w H h)(e:Rd H a (.dT kvs)):kvs.length<=sizeLine/\(a==sysModules)=false /\
 ∃ xs,KT H kvs xs/\h.DictOfH (tupleKind (jA4 P w)) a xs:=by
 obtain⟨z,y,xs,r,o,es,ep,h1,h2,h3,h4,h5⟩:=(show jA6 P w H h a (.dT kvs) from rd_of ok e)
 refine⟨z,y,xs,r,o,es,ep,h1,h2,h3,h4,fun x hx=>?_,h5⟩
 have all:∀ {l:List (List Key×V)} {m:List (List Key×Addr×Value)},KT H l m->∀ x∈m,(tupleKind (jA4 P w)).is h x.1 x.2.1:=by
  intro l m q
  induction q with
  | nil=>intro x hx;exact nomatch hx
  | @cons p q ps qs hq t ih =>
    intro x hx
    rcases List.mem_cons.mp hx with e|hx
    ·subst e
     exact jIE ok (by rw [<- hq.1];exact hq.2.1)
    ·exact ih x hx
 exact all r x hx
theorem dt_of{kvs:List (List Key×V)}(ok:HOk P w H h)(e:H a=some (.dT kvs)):kvs.length<=sizeLine/\(a==sysModules)=false /\
 ∃ xs,KT H kvs xs/\h.DictOfH (tupleKind (jA4 P w)) a xs:=jKW ok (.inl e)
end
def jBU(H:Hp)(a:Addr)(y:V)(r:Option V):Prop :=
 (∃ kvs k,Rd H a (.dK kvs)/\y=kV k/\r=jCO kvs k)\/∃ kvs k b,Rd H a (.dT kvs)/\y=.ref b/\H b=some (.tup (k.map kV))/\r=jCO kvs k
def jCP(H:Hp)(a:Addr)(y v:V)(H':Hp):Prop :=
 (∃ kvs k,H a=some (.dK kvs)/\y=kV k/\kvs.length<sizeLine/\H'=upd H a (.dK (jB7 kvs k v))) \/
 ∃ kvs k b,H a=some (.dT kvs)/\y=.ref b/\H b=some (.tup (k.map kV))/\kvs.length<sizeLine/\H'=upd H a (.dT (jB7 kvs k v))
theorem jBU.k{H:Hp}{a:Addr}{kvs:List (Key×V)}{k:Key}(e:H a=some (.dK kvs)):jBU H a (kV k) (jCO kvs k):=.inl ⟨kvs,k,.inl e,rfl,rfl⟩
theorem jCP.k{H:Hp}{a:Addr}{kvs:List (Key×V)}{k:Key}{v:V}(e:H a=some (.dK kvs))(hl:kvs.length<sizeLine):jCP H a (kV k) v (upd H a (.dK (jB7 kvs k v))):=.inl ⟨kvs,k,e,rfl,hl,rfl⟩
section
variable {X:Cx}{pins:List (Addr×Obj)}{σ:St}{H:Hp}{s:Shared}{a:Addr}{y v:V}{u r:Value}{o:Option V}{A:Around}{E:Value->Shared->Prop}
theorem Inv.big(I:Inv X pins σ H s):sysModules<s.heap.objs.size:=by
 have h:mainGlobals<s.heap.objs.size:=(I.mod.glob.keeps I.bk).lt
 exact Nat.lt_trans (by decide) h
theorem jKd{Q:Value->Shared->Prop}(hu:A.units+1<cLine)(I:Inv X pins σ H s)(g:jBU H a y (some v))(ry:jAA y u)(h:∀ w' s',Inv X pins σ H s'->jAA v w'->Q w' s') :
 wpAny (model X.prog X.w) A (getItem (.ref a) u) Q E s:=by
 rcases g with⟨kvs,k,e,ey,l⟩|⟨kvs,k,b,e,ey,eb,l⟩
 ·subst ey
  obtain⟨z,hd,vs,rel,dd⟩:=jID I.hok e
  obtain⟨w',hw,rw'⟩:=jBY.some_of (v:=v) (o:=valueAt vs k) (by rw [l];exact rel.val k)
  exact wpAny_getItem_of (jHJ ry) dd.mapOf hw (h w' _ (I.tok _) rw')
 ·subst ey
  cases (show u=Value.ref b from ry)
  obtain⟨z,hd,xs,rel,dd⟩:=jKW I.hok e
  obtain⟨w',hw,rw'⟩:=jBY.some_of (v:=v) (o:=(atKey xs k).map (·.2)) (by rw [l];exact rel.val k)
  obtain⟨p,hp,hp2⟩:=Option.map_eq_some_iff.mp hw
  refine wpAny_getItem_heap (tupleKind_room_in1 hu) (jIE I.hok eb) dd hp ?_
  rw [hp2]
  exact h w' _ (I.tok _) rw'
theorem d_notIn{Q:Value->Shared->Prop}(hu:A.units+1<cLine)(I:Inv X pins σ H s)(g:jBU H a y o)(ry:jAA y u)(h:∀ s',Inv X pins σ H s'->Q (.bool (!o.isSome)) s') :
 wpAny (model X.prog X.w) A (compareOp .NotIn u (.ref a)) Q E s:=by
 rcases g with⟨kvs,k,e,ey,l⟩|⟨kvs,k,b,e,ey,eb,l⟩
 ·subst ey
  obtain⟨z,hd,vs,rel,dd⟩:=jID I.hok e
  refine wpAny_notIn_of (jHJ ry) hd dd.mapOf ?_
  rw [<- (rel.val k).isSome_eq,<- l]
  exact h _ (I.tok _)
 ·subst ey
  cases (show u=Value.ref b from ry)
  obtain⟨z,hd,xs,rel,dd⟩:=jKW I.hok e
  refine wpAny_notIn_heap (tupleKind_room_in1 hu) (jIE I.hok eb) hd dd ?_
  have q:=(rel.val k).isSome_eq
  rw [Option.isSome_map] at q
  rw [<- q,<- l]
  exact h _ (I.tok _)
theorem jHK{h':Heap}{t':Nat}{ob:HO}(I:Inv X pins σ H s)(mu:Mut (H a))(hs:Heap.SameBut a s.heap h')(he:∃ q,h'.get? a=some q)(new:jA6 X.prog X.w (upd H a ob) h' a ob) :
 Inv X pins σ (upd H a ob) { s with heap:=h',toks:=t' } :=
 I.write (x:=a) (e:=a) mu (.inl rfl) (fun b q hb z=>(hs.2 b hb).trans z) he new
theorem jHo{P:Program}{w:World}{H':Hp}{h':Heap}{kvs:List (Key×V)}{vs:List (Key×Value)}(z:kvs.length<=sizeLine)(hd:(a==sysModules)=false)(rel:KV kvs vs)(dd:h'.DictOf (jA4 P w) a vs) :
 jA6 P w H' h' a (.dK kvs):=⟨z,hd,vs,rel,dd⟩
theorem jKe{H':Hp}{Q:Unit->Shared->Prop}(hu:A.units+1<cLine)(I:Inv X pins σ H s)(g:jCP H a y v H')(ry:jAA y u)(rv:jAA v r)(h:∀ s',Inv X pins σ H' s'->Q () s') :
 wpAny (model X.prog X.w) A (setItem (.ref a) u r) Q E s:=by
 rcases g with⟨kvs,k,e,ey,l,eH⟩|⟨kvs,k,b,e,ey,eb,l,eH⟩
 ·subst ey eH
  obtain⟨z,hd,vs,rel,dd⟩:=jKV I.hok e
  have hz:vs.length<=sizeLine:=by rw [<- rel.length];exact z
  have hl:(jB7 kvs k v).length<=sizeLine:=by have:=jF1 kvs k v;omega
  refine wpAny_setItem_pairs (hsz:=hz) (jHJ ry) dd fun h' dd' hs=>h _ ?_
  have he:∃ q,h'.get? a=some q:=let ⟨q,_,_,hq,_⟩:=dd';⟨q,hq⟩
  exact jHK I (by rw [e];exact True.intro) hs he (jHo hl hd (rel.put k rv) dd')
 ·subst ey eH
  cases (show u=Value.ref b from ry)
  obtain⟨z,hd,xs,rel,dd⟩:=dt_of I.hok e
  have hz:xs.length<=sizeLine:=by rw [<- Paired.length rel];exact z
  have hl:(jB7 kvs k v).length<=sizeLine:=by have:=jF1 kvs k v;omega
  refine wpAny_setItem_heap (hsz:=hz) (tupleKind_room_in1 hu) (jIE I.hok eb) dd fun h' dd' hs=>h _ ?_
  obtain⟨q,es,ep,hq,h2,h3,h4,_,h5⟩:=dd'
  refine jHK I (by rw [e];exact True.intro) hs ⟨q,hq⟩ ⟨hl,hd,_,(rel.put k eb rv).keeps fun c ys ec=>?_,q,es,ep,hq,h2,h3,h4,h5⟩
  rw [jAi (jAu ec e (fun z=>nomatch z))]
  exact ec
end
section
variable {X:Cx}{pins:List (Addr×Obj)}{σ:St}{H:Hp}{s:Shared}{a:Addr}{kvs:List (Key×V)}{k:Key}{u:Value}{A:Around}{E:Value->Shared->Prop}
end
def NoSl(i:Expr):Prop:=∀ ov iv,subscripted i false ov iv=operate [ov,iv] (getItem ov iv)
theorem subD_of{prog:Program}{w:World}{A:Around}{E:Value->Shared->Prop}{s:Shared}{env:Env}{value slice:Expr}{pos:Pos}{T id:String}{Q:Value->Shared->Prop}
 (hl:typeLookup (.type T) "__getitem__"=pure (some (.builtin id))) (hs:NoSl slice)
 (h:wpAny (model prog w) A (eval value env) (fun o s₁=>wpAny (model prog w) A (eval slice env) (fun i s₂=>s₂.TypeIs o T/\wpAny (model prog w) A (getItem o i) Q E s₂) E s₁) E s) :
 wpAny (model prog w) A (eval (.Subscript value slice pos) env) Q E s:=by
 refine Subscript_ (wpAny_mono h (fun o s₁ h₁=>wpAny_mono h₁ (fun i s₂ h₂=>?_) fun _ _ x=>x) fun _ _ x=>x)
 obtain⟨hT,h₂⟩:=h₂
 unfold subscriptTail
 refine wpAny_bind ?_
 rw [getitemInPython_of_ne hT.not_modules]
 refine wpAny_bind (wpAny_specialOf hT hl ?_)
 have fin:wpAny (model prog w) A (subscripted slice false o i) (fun r s₃=>wpAny (model prog w) A (letTemporaryGo value o r >>= fun _=>pure r) Q E s₃) E s₂:=by
  rw [hs o i]
  exact wpAny_operating (wpAny_mono h₂ (fun r s₃ h₃=>wpAny_bind (wpAny_letTemporaryGo (wpAny_pure h₃))) fun _ _ x=>x)
 first
  | exact wpAny_pure (wpAny_bind fin)
  | exact wpAny_bind (wpAny_pure (wpAny_bind fin))
  | exact wpAny_bind fin
theorem jL1{X:Cx}{pins:List (Addr×Obj)}{σ:St}{H:Hp}{s:Shared}{a:Addr}{y:V}{o:Option V}(I:Inv X pins σ H s)(g:jBU H a y o):s.TypeIs (.ref a) "dict":=by
 rcases g with⟨kvs,k,e,_,_⟩|⟨kvs,k,b,e,_,_,_⟩
 ·obtain⟨_,_,vs,_,dd⟩:=jID I.hok e
  exact dd.typeIs
 ·obtain⟨_,_,xs,_,dd⟩:=jKW I.hok e
  exact dd.typeIs
inductive jNq(Q:VK)(x:V)(y:V)(H2:Hp):Prop|mk a v:x=.ref a->jBU H2 a y (some v)->Q v H2->jNq Q x y H2
def tDGet(td ty:TE):TE:=fun σ H Q=>td σ H fun x H1=>ty σ H1 fun y H2=>jNq Q x y H2
inductive jLb(Q:VK)(y:V)(x:V)(H2:Hp):Prop|mk a o:x=.ref a->jBU H2 a y o->Q (.bl (!o.isSome)) H2->jLb Q y x H2
def tDNotIn(ty td:TE):TE:=fun σ H Q=>ty σ H fun y H1=>td σ H1 fun x H2=>jLb Q y x H2
inductive jNr(D:jBR)(σ:St)(v:V)(x:V)(y:V)(H3:Hp):Prop|mk a H4:x=.ref a->jCP H3 a y v H4->D.nx σ H4->jNr D σ v x y H3
def sDPut(td ty tv:TE):TS:=fun D σ H=>tv σ H fun v H1=>td σ H1 fun x H2=>ty σ H2 fun y H3=>jNr D σ v x y H3
inductive jNs(tv:TE)(rd:V->V->Hp->VK->Prop)(D:jBR)(σ:St)(x:V)(y:V)(H2:Hp):Prop|mk a v:x=.ref a->jBU H2 a y (some v)->(tv σ H2 fun y2 H3=>rd v y2 H3 fun z H4=>∃ H5,jCP H4 a y z H5/\D.nx σ H5)->jNs tv rd D σ x y H2
def sDAug(td ty tv:TE)(rd:V->V->Hp->VK->Prop):TS:=fun D σ H=>td σ H fun x H1=>ty σ H1 fun y H2=>jNs tv rd D σ x y H2
section
variable {X:Cx}{o i e value:Expr}{pos pos' tpos:Pos}{td ty tv:TE}
theorem pe_dget(hu:X.A.units+1<cLine)(ho:PE X o td)(hi:PE X i ty)(hs:NoSl i):PE X (.Subscript o i pos) (tDGet td ty):=by
 intro pins s σ H Q I h
 refine subD_of PySem.F.slot_dict_getitem.lookup hs (thn (ho pins s σ H _ I h) fun u s1 ⟨x,H1,I1,rx,q1⟩=>thn (hi pins s1 σ H1 _ I1 q1) fun iv s2 ⟨y,H2,I2,ry,a,v,ex,g,q2⟩=>?_)
 subst ex
 obtain rfl:u=Value.ref a:=rx
 exact⟨jL1 I2 g,jKd hu I2 g ry fun w' s3 I3 rw'=>⟨v,H2,I3,rw',q2⟩⟩
theorem jKf(hu:X.A.units+1<cLine)(hi:PE X i ty)(ho:PE X o td):PC X .NotIn i o (tDNotIn ty td):=by
 intro pins s σ H Q I h
 refine thn (hi pins s σ H _ I h) fun iv s1 ⟨y,H1,I1,ry,q1⟩=>thn (ho pins s1 σ H1 _ I1 q1) fun u s2 ⟨x,H2,I2,rx,a,ov,ex,g,q2⟩=>?_
 subst ex
 obtain rfl:u=Value.ref a:=rx
 exact d_notIn hu I2 g ry fun s3 I3=>⟨.bl (!ov.isSome),H2,I3,rfl,q2⟩
theorem jB0(hu:X.A.units+1<cLine)(ho:PE X o td)(hi:PE X i ty)(hv:PE X value tv)(hs:swapsWith value (some (.Subscript o i pos')) pos.line X.env=pure false) :
 PS X (.Assign [.Subscript o i pos'] value pos) (sDPut td ty tv):=by
 intro pins s σ H D I h
 refine wpAny_Assign_Subscript (thn (hv pins s σ H _ I h) fun r s1 ⟨v,H1,I1,rv,q1⟩=>thn (ho pins s1 σ H1 _ I1 q1) fun u s2 ⟨x,H2,I2,rx,q2⟩=>thn (hi pins s2 σ H2 _ I2 q2) fun iv s3 ⟨y,H3,I3,ry,a,H4,ex,g,q3⟩=>?_) hs
 subst ex
 obtain rfl:u=Value.ref a:=rx
 exact jKe hu I3 g ry rv fun s4 I4=>⟨σ,H4,I4,q3⟩
theorem jMy{op:Operator}{rd:V->V->Hp->VK->Prop}(hu:X.A.units+1<cLine)(ho:PE X o td)(hi:PE X i ty)(hv:PE X value tv)(hop:InOp X op rd)
 (ha:∀ ov iv new,augStore i ov iv new=(do holding [new,ov,iv] (setItem ov iv new);release [new,ov,iv] [];pure .next)):PS X (.AugAssign (.Subscript o i tpos) op value pos) (sDAug td ty tv rd):=by
 intro pins s σ H D I h
 refine wpAny_AugAssign_SubscriptAny (thn (ho pins s σ H _ I h) fun u s1 ⟨x,H1,I1,rx,q1⟩=>thn (hi pins s1 σ H1 _ I1 q1) fun iv s2 ⟨y,H2,I2,ry,a,v,ex,g,q2⟩=>?_) ha
 subst ex
 obtain rfl:u=Value.ref a:=rx
 refine jKd hu I2 g ry fun w' s3 I3 rw'=>thn (hv pins s3 σ H2 _ I3 q2) fun w2 s4 ⟨y2,H3,I4,ry2,q3⟩=>thn (hop pins s4 σ H3 v y2 w' w2 _ I4 rw' ry2 q3) fun w3 s5 ⟨z,H4,I5,rz,H5,g5,q4⟩=>?_
 exact jKe hu I5 g5 ry rz fun s6 I6=>⟨σ,H5,I6,q4⟩
end
theorem jN_{P:Program}{w:World}{H:Hp}(h:Heap)(hb:sysModules<h.objs.size):jA6 P w H (h.push { cls:=.type "dict",data:=.dict #[] }) h.objs.size (.dK []) :=
 ⟨Nat.zero_le _,beq_eq_false_iff_ne.mpr (Ne.symm (Nat.ne_of_lt hb)),[],.nil,Heap.DictOf.new h⟩
section
variable {X:Cx}{pos:Pos}
end
def jLc:List (TE×TE)->St->Hp->(List (V×V)->Hp->Prop)->Prop
 | [],_,H,Q=>Q [] H
 | (tk,tv)::r,σ,H,Q=>tk σ H fun x H1=>tv σ H1 fun y H2=>jLc r σ H2 fun ps H3=>Q ((x,y)::ps) H3
abbrev VV:List (V×V)->List (Value×Value)->Prop:=Paired fun p q=>jAA p.1 q.1/\jAA p.2 q.2
def PPs(X:Cx)(pos:Pos)(keys:List (Option Expr))(values:List Expr)(trs:List (TE×TE)):Prop :=
 ∀ (pins:List (Addr×Obj)) (s:Shared) (σ:St) (H:Hp) (Q:List (V×V)->Hp->Prop),Inv X pins σ H s->jLc trs σ H Q ->
  wpAny (model X.prog X.w) X.A (evalPairs (pairTrees keys values X.env pos)) (fun vs s'=>∃ ps H',Inv X pins σ H' s'/\VV ps vs/\Q ps H') X.xe s
theorem jDc{X:Cx}{pos:Pos}:PPs X pos [] [] []:=fun pins s σ H Q I h=>pairTrees_nil_walk ⟨[],H,I,.nil,h⟩
theorem jBf{X:Cx}{pos:Pos}{k v:Expr}{ks:List (Option Expr)}{vs:List Expr}{tk tv:TE}{trs:List (TE×TE)}(hk:PE X k tk)(hv:PE X v tv)(hr:PPs X pos ks vs trs) :
 PPs X pos (some k::ks) (v::vs) ((tk,tv)::trs):=fun pins s σ H Q I h =>
 pairTrees_cons_walk (thn (hk pins s σ H _ I h) fun u s1 ⟨x,H1,I1,rx,q1⟩=>thn (hv pins s1 σ H1 _ I1 q1) fun w2 s2 ⟨y,H2,I2,ry,q2⟩ =>
  thn (hr pins s2 σ H2 _ I2 q2) fun ws s3 ⟨ps,H3,I3,rel,q3⟩=>⟨(x,y)::ps,H3,I3,.cons ⟨rx,ry⟩ rel,q3⟩)
def jB5(kvs more:List (Key×V)):List (Key×V):=more.foldl (fun acc kv=>jB7 acc kv.1 kv.2) kvs
theorem KV.merge:∀ {more:List (Key×V)} {rs:List (Key×Value)} {kvs:List (Key×V)} {vs:List (Key×Value)},KV more rs->KV kvs vs->KV (jB5 kvs more) (merged vs rs):=by
 intro more rs kvs vs r
 unfold KV at r
 induction r generalizing kvs vs with
 | nil=>intro q;exact q
 | @cons p q ps qs h t ih =>
   intro r0
   have e:KV (jB7 kvs p.1 p.2) (stored vs q.1 q.2):=by
    have:=r0.put p.1 h.2
    rw [<- h.1];exact this
   exact ih e
theorem jEC:∀ (more kvs:List (Key×V)),(jB5 kvs more).length<=kvs.length+more.length
 | [],kvs=>by show kvs.length<=kvs.length+0;omega
 | p::r,kvs=>by
   have h1:=jEC r (jB7 kvs p.1 p.2)
   have h2:=jF1 kvs p.1 p.2
   show (jB5 (jB7 kvs p.1 p.2) r).length<=_
   rw [List.length_cons];omega
theorem jIF{P:Program}{w:World}:∀ {kvs:List (Key×V)} {ws:List (Value×Value)},VV (kvs.map fun kv=>(kV kv.1,kv.2)) ws->∃ rs,Carries (jA4 P w) ws rs/\KV kvs rs
 | [],_,r=>by rw [List.map_nil] at r;cases r;exact⟨[],True.intro,.nil⟩
 | p::kvs,_,r=>by
   rw [List.map_cons] at r
   cases r with
   | @cons a b as bs h t =>
     obtain⟨rs,c,q⟩:=jIF (P:=P) (w:=w) t
     obtain⟨b1,b2⟩:=b
     exact⟨(p.1,b2)::rs,⟨jHJ h.1,rfl,c⟩,.cons ⟨rfl,h.2⟩ q⟩
def tDisp(trs:List (TE×TE)):TE:=fun σ H Q=>∀ p,H p=none->jLc trs σ (upd H p (.dK [])) fun ps H2=>H2 p=some (.dK [])/\∃ kvs:List (Key×V),ps=kvs.map (fun kv=>(kV kv.1,kv.2))/\kvs.length<=15/\Q (.ref p) (upd H2 p (.dK (jB5 [] kvs)))
theorem jDd{X:Cx}{pos:Pos}{keys:List (Option Expr)}{values:List Expr}{trs:List (TE×TE)}(h:PPs X pos keys values trs)(hall:keys.all (·.isSome)=true)(hl:keys.length=values.length)(h0:keys≠[])
 (h15:keys.length<=15):PE X (.Dict keys values pos) (tDisp trs):=by
 intro pins s σ H Q I q
 have hn:=I.hok.fresh (Nat.le_refl s.heap.objs.size)
 have I1:=I.laid (a:=s.heap.objs.size) (o:=.dK []) (h':=s.heap.push { cls:=.type "dict",data:=.dict #[] }) (t':=s.toks) (fun _ _ q=>Heap.get?_push_of_some _ q) (Nat.le_refl _) (jN_ s.heap I.big)
 refine wpAny_Dict_walk (knd:=jA4 X.prog X.w) hall hl h0 h15 (thn (h pins _ σ _ _ I1 (q _ hn)) fun ws s2 ⟨ps,H2,I2,rel,e,kvs,ep,lk,q2⟩=>?_)
 subst ep
 obtain⟨rs,c,rk⟩:=jIF (P:=X.prog) (w:=X.w) rel
 obtain⟨z,hd,vs0,r0,dd⟩:=jKV I2.hok e
 cases r0
 refine⟨rs,c,dd,fun h' dd' hs=>⟨.ref s.heap.objs.size,_,?_,rfl,q2⟩⟩
 have hz:(jB5 [] kvs).length<=sizeLine:=by
  have h1:=jEC kvs []
  rw [List.length_nil] at h1
  rw [sizeLine_eq];omega
 have he:∃ q,h'.get? s.heap.objs.size=some q:=let ⟨q,_,_,hq,_⟩:=dd';⟨q,hq⟩
 exact jHK I2 (by rw [e];exact True.intro) hs he (jHo hz hd (rk.merge .nil) dd')
section
variable {X:Cx}{pins:List (Addr×Obj)}{σ:St}{H:Hp}{s:Shared}{a:Addr}{y d:V}{u r:Value}{o:Option V}{A:Around}{E:Value->Shared->Prop}
end
section
variable {X:Cx}{o e f:Expr}{apos cpos:Pos}{td ty tx:TE}
end
section
variable {X:Cx}{pins:List (Addr×Obj)}{σ:St}{H:Hp}{s:Shared}{a:Addr}{kvs:List (Key×V)}{A:Around}{E:Value->Shared->Prop}
theorem jOa{Q:Value->Shared->Prop}(I:Inv X pins σ H s)(e:Rd H a (.dK kvs))(h:∀ p s',H p=none->Inv X pins σ (upd H p (.dK kvs)) s'->Q (.ref p) s'):wpAny (model X.prog X.w) A (call (.type "dict") [.ref a]) Q E s:=by
 obtain⟨z,hd,vs,rel,dd⟩:=jID I.hok e
 refine kt_call_dict hd dd (by rw [<- rel.length];exact z) fun h' dd' hs=>?_
 refine h _ _ (I.hok.fresh (Nat.le_refl _)) (I.laid (a:=s.heap.objs.size) (o:=.dK kvs) (t':=s.toks) (fun b q hq=>?_) (Nat.le_refl _) (jHo z (beq_eq_false_iff_ne.mpr (Ne.symm (Nat.ne_of_lt I.big))) rel dd'))
 exact (hs.2 b (Nat.ne_of_lt (Heap.lt_size hq))).trans (Heap.get?_push_of_some _ hq)
end
section
variable {X:Cx}{pins:List (Addr×Obj)}{σ:St}{H:Hp}{s:Shared}{a:Addr}{y:V}{u:Value}{A:Around}{E:Value->Shared->Prop}
end
section
variable {X:Cx}
end
section
variable {κ:Type}[DecidableEq κ]
end
end L2
namespace Blk
open PySem
def J:List (List Nat)->List Nat
 | []=>[]
 | [x]=>x
 | x::y::r=>x++32::J (y::r)
def C:List Nat->List (List Nat)
 | []=>[[]]
 | c::r=>if c=32 then []::C r else match C r with
   | []=>[[c]]
   | p::ps=>(c::p)::ps
def sg(x:Str):List Nat:=x.cps.toList
theorem sg_inj{x y:Str}(h:sg x=sg y):x=y:=by
 obtain⟨a⟩:=x
 obtain⟨b⟩:=y
 have e:a.toList=b.toList:=h
 rw [Array.toList_inj.mp e]
theorem sg_app(x y:Str):sg (x++y)=sg x++sg y:=Array.toList_append ..
end Blk
namespace L2
open PySem PySem.Spec PyProof.Rows
theorem small{n:Nat}(h:n<=1000):n<=sizeLine:=Nat.le_of_lt (jAW h)
theorem jMQ(z:Str):z.cps.toList.length=z.length:=by simp [Str.length]
theorem at_in{α:Type}{xs:List α}{i:Int}(h0:0<=i)(h1:i<(xs.length:Int)):∃ v,xs[i.toNat]?=some v/\atI xs i=some v:=by
 have hk:i.toNat<xs.length:=by omega
 have q:atI xs ((i.toNat:Nat):Int)=some xs[i.toNat]:=jAl (List.getElem?_eq_getElem hk)
 have e:((i.toNat:Nat):Int)=i:=by omega
 rw [e] at q
 exact⟨_,List.getElem?_eq_getElem hk,q⟩
theorem bt_list:bootBuiltins "list"=some (.type "list"):=by decide +kernel
theorem bt_str:bootBuiltins "str"=some (.type "str"):=by decide +kernel
theorem jNt:bootBuiltins "int"=some (.type "int"):=by decide +kernel
theorem jB6:bootBuiltins "isinstance"=some (.builtin "isinstance"):=by decide +kernel
theorem jNu:bootBuiltins "min"=some (.builtin "min"):=by decide +kernel
theorem jNv:bootBuiltins "max"=some (.builtin "max"):=by decide +kernel
theorem jOb:bootBuiltins "tuple"=some (.type "tuple"):=by decide +kernel
theorem rel_ty(n:String):jAA (.ty n) (.type n):=rfl
theorem rel_str(x:Str)(t:Tok):jAA (.str x) (.str x t):=⟨t,rfl⟩
theorem rel_int(x:Int)(t:Tok):jAA (.int x) (.int x t):=⟨t,rfl⟩
section
variable {X:Cx}{tg:Expr}
end
section
variable {X:Cx}
inductive rIxSA(x:V)(y:V)(H:Hp)(Q:VK):Prop|mk z i:x=.str z->y=.int i->z.length<=sizeLine->0<=i->i<((z.length:Nat):Int)->(∀ c,z.cps.toList[i.toNat]?=some c->Q (.str ⟨#[c]⟩) H)->rIxSA x y H Q
theorem ix_strA:IxR X rIxSA:=by
 intro value slice pins s σ H x y v u Q I rx ry h hs
 obtain⟨z,i,rfl,rfl,hz,h0,h1,q⟩:=h
 obtain⟨c,e1,e2⟩:=at_in (xs:=z.cps.toList) h0 (by rw [jMQ];exact h1)
 exact ix_str value slice pins s σ H _ _ v u Q I rx ry ⟨z,i,c,rfl,rfl,hz,e2,q c e1⟩ hs
def eqVs(xs ys:List V):Bool:=xs.length==ys.length&&(List.range xs.length).all fun j=>eqV (xs.getD j .non) (ys.getD j .non)
theorem jHL{xs:List V}(f:xs.all jCf=true)(j:Nat):jCf (xs.getD j .non)=true:=by
 by_cases h:j<xs.length
 ·rw [List.getD_eq_getElem?_getD,List.getElem?_eq_getElem h]
  exact (List.all_eq_true.mp f) _ (List.getElem_mem h)
 ·rw [List.getD_eq_getElem?_getD,List.getElem?_eq_none (by omega)]
  rfl
theorem jBl{xs:List V}{us:List Value}(r:jAH xs us)(j:Nat)(h:j<us.toArray.size):jAA (xs.getD j .non) (us.toArray[j]):=by
 have hl:=r.length
 have h':j<us.length:=by simpa using h
 have h2:j<xs.length:=by omega
 obtain⟨u,e1,e2⟩:=r.get (List.getElem?_eq_getElem h2)
 rw [List.getD_eq_getElem?_getD,List.getElem?_eq_getElem h2]
 have e3:us.toArray[j]=u:=by
  rw [List.getElem?_eq_getElem h'] at e1
  simpa using Option.some.inj e1
 rw [e3]
 exact e2
inductive rEqL(K:PySem.W.Frag)(neg:Bool)(x:V)(y:V)(H:Hp)(Q:VK):Prop|mk p q xs ys:x=.ref p->y=.ref q->SqL K H p xs->SqL K H q ys->xs.all jCf=true->ys.all jCf=true->Q (.bl (if neg then !eqVs xs ys else eqVs xs ys)) H->rEqL K neg x y H Q
theorem jMR(hu:X.A.units<cLine):OpR X (compareOp .Eq) (rEqL X.K false):=by
 intro pins s σ H x y v u Q I rx ry h
 obtain⟨p,q,xs,ys,rfl,rfl,hp,hq,fx,fy,k⟩:=h
 cases rx
 cases ry
 obtain⟨its,r1,l1,z1⟩:=I.list hp
 obtain⟨jts,r2,l2,z2⟩:=I.list hq
 have e1:=r1.length
 have e2:=r2.length
 have fin:∀ b,b=eqVs xs ys->EP X pins σ Q (.bool b) s:=fun b e=>⟨.bl b,H,I,rfl,by rw [e];exact k⟩
 by_cases hs:xs.length=ys.length
 ·refine SeqAt.RcAt.lists (e:=fun j=>eqV (xs.getD j .non) (ys.getD j .non)) l1.isList l2.isList (by simp;omega) hu (fun j h1 h2=>?_) X.prog X.w _ _ (fin _ ?_)
  ·exact jHm (jBl r1 j h1) (jBl r2 j h2) (jHL fx j) (jHL fy j)
  ·unfold eqVs
   rw [List.size_toArray,<- e1,hs,beq_self_eq_true,Bool.true_and]
 ·refine SeqAt.RcAt.lists_lengths l1.isList l2.isList (by simp [bne_iff_ne];omega) hu X.prog X.w _ _ (fin false ?_)
  unfold eqVs
  rw [beq_eq_false_iff_ne.mpr hs,Bool.false_and]
theorem jLd{x:V}(f:jCf x=true):eqV x x=true:=by
 cases x with
 | non=>rfl
 | bl b=>exact beq_self_eq_true b
 | int i=>exact beq_self_eq_true i
 | str z=>exact beq_self_eq_true z
 | _=>exact absurd (show false=true from f) Bool.false_ne_true
end
theorem jAj{H:Hp}{p:Addr}(h:H p=none)(o:HO):jAn H (upd H p o):=fun b u q=>by rw [jAi (jAg q h)];exact q
theorem jCa{H H':Hp}{p:Addr}(h:H p=none)(e:jAn H H')(o:HO):jAn H (upd H' p o):=fun b u q=>by rw [jAi (jAg q h)];exact e b u q
def jEt(cells:List (Str×Addr)):List (Str×NameKind)->List (Str×Addr)->List (Str×Addr)
 | [],acc=>acc
 | (n,k)::r,acc=>jEt cells r (if (k==.free)=true then (n,(cells.lookup n).getD 0)::acc else acc)
theorem jHb{scope:Scope}{env:Env}(h:∀ p∈scope.names,p.2=.free->(env.cells.lookup p.1).isSome=true):closureFor scope env=pure (jEt env.cells scope.names []):=by
 obtain⟨kd,names,g1,g2,more⟩:=scope
 simp only [closureFor]
 dsimp only at h ⊢
 generalize ([]:List (Str×Addr))=acc
 induction names generalizing acc with
 | nil=>rfl
 | cons p r ih =>
   obtain⟨n,k⟩:=p
   have hr:∀ p∈r,p.2=.free->(env.cells.lookup p.1).isSome=true:=fun p hp=>h p (List.mem_cons_of_mem _ hp)
   have ih':=ih hr
   simp only [jEt]
   by_cases hk:k=.free
   ·subst hk
    obtain⟨c,hc⟩:=Option.isSome_iff_exists.mp (h (n,.free) List.mem_cons_self rfl)
    have hc':List.lookup n env.cells=some c:=hc
    rw [show (NameKind.free==NameKind.free)=true from rfl,if_pos rfl,hc']
    have e:cellOf env n=pure c:=by unfold cellOf;rw [hc']
    have q:=ih' ((n,c)::acc)
    simp only [List.forIn_cons,beq_self_eq_true,if_true,e,pure_bind,Option.getD_some]
    exact q
   ·have hb:(k==NameKind.free)=false:=by simpa using hk
    have q:=ih' acc
    simp only [List.forIn_cons,hb,Bool.false_eq_true,if_false,pure_bind]
    exact q
theorem jKg{cells:List (Str×Addr)}{y:Str}{c:Addr}:∀ (names:List (Str×NameKind)) (acc:List (Str×Addr)),(∀ p∈names,p.2=.free->(cells.lookup p.1).isSome=true) ->
 (∀ y c,acc.lookup y=some c->cells.lookup y=some c)->(jEt cells names acc).lookup y=some c->cells.lookup y=some c
 | [],_,_,ha,h=>ha _ _ h
 | (n,k)::r,acc,hn,ha,h=>by
   refine jKg r _ (fun p hp=>hn p (List.mem_cons_of_mem _ hp)) (fun y c hy=>?_) h
   by_cases hk:(k==NameKind.free)=true
   ·rw [if_pos hk] at hy
    rw [List.lookup_cons] at hy
    by_cases e:(y==n)=true
    ·rw [e] at hy
     obtain⟨d,hd⟩:=Option.isSome_iff_exists.mp (hn (n,k) List.mem_cons_self (by simpa using hk))
     have hd':cells.lookup n=some d:=hd
     have hy':(cells.lookup n).getD 0=c:=Option.some.inj hy
     rw [hd'] at hy'
     rw [eq_of_beq e,hd']
     exact congrArg some hy'
    ·rw [Bool.eq_false_iff.mpr e] at hy
     exact ha y c hy
   ·rw [if_neg hk] at hy
    exact ha y c hy
theorem jGG{cells:List (Str×Addr)}{y:Str}:∀ (names:List (Str×NameKind)) (acc:List (Str×Addr)),((acc.lookup y).isSome=true\/(y,NameKind.free)∈names)->((jEt cells names acc).lookup y).isSome=true
 | [],acc,h=>h.elim id (fun z=>by cases z)
 | (n,k)::r,acc,h=>by
   refine jGG r _ ?_
   rcases h with h|h
   ·refine .inl ?_
    by_cases hk:(k==NameKind.free)=true
    ·rw [if_pos hk,List.lookup_cons]
     by_cases e:(y==n)=true
     ·rw [e];rfl
     ·rw [Bool.eq_false_iff.mpr e];exact h
    ·rw [if_neg hk];exact h
   ·rcases List.mem_cons.mp h with e|h
    ·cases e
     refine .inl ?_
     rw [if_pos (show (NameKind.free==NameKind.free)=true from rfl),List.lookup_cons,beq_self_eq_true]
     rfl
    ·exact .inr h
def jFi(X:Cx)(scope:Scope)(N':List Str)(C:Addr)(ex:List Addr)(s₂:Shared)(H₂:Hp):Cx where
 prog:=X.prog
 w:=X.w
 K:=X.K
 mg:=X.mg
 base:=X.base
 A:=X.A
 N:=N'
 s₀:=s₂
 H₀:=H₂
 env:=compEnvC scope (jEt X.env.cells scope.names []) C X.env
 outer:=X.stack
 stack:=X.stack
 ex:=ex
 fn:=fun _=>false
 calm:=X.calm
 pn:=[]
 xe:=fun _ _=>False
def jGp(X:Cx)(scope:Scope):List (Str×Nat)->Prop
 | []=>True
 | p::r=>(X.N[p.2]?=some p.1/\X.env.kindOf p.1=some .cell/\(relabel scope X.env).names.lookup p.1=some .cell/\(p.1,NameKind.free)∈scope.names)/\jGp X scope r
theorem jGp.at{X:Cx}{scope:Scope}:∀ {fr:List (Str×Nat)},jGp X scope fr->∀ p∈fr,X.N[p.2]?=some p.1/\X.env.kindOf p.1=some .cell/\(relabel scope X.env).names.lookup p.1=some .cell/\(p.1,NameKind.free)∈scope.names
 | [],_,p,hp=>by cases hp
 | _::_,h,p,hp=>by
   rcases List.mem_cons.mp hp with e|hp
   ·rw [e];exact h.1
   ·exact jGp.at h.2 p hp
def inSt(frees:List (Str×Nat))(σ:St)(x:Option V):St:=x::frees.map fun p=>(σ[p.2]?).join
def PIfs(X:Cx)(ifs:List Expr)(t:TT):Prop :=
 ∀ (pins:List (Addr×Obj)) (s:Shared) (σ:St) (H:Hp) (Q:Bool->Hp->Prop),Inv X pins σ H s->t σ H Q ->
  wpAny (model X.prog X.w) X.A (forIn ifs true fun c r=>if r=true then do let ok <- isTrue c X.env (eval c X.env);pure (ForInStep.yield ok) else pure (ForInStep.yield r)) (TP X pins σ Q) X.xe s
theorem jDL{X:Cx}:PIfs X [] (fun _ H Q=>Q true H):=fun _ _ _ H _ I h=>wpAny_tests_nil ⟨H,I,h⟩
theorem jIj{X:Cx}{c:Expr}{t:TT}(h:PT X c t):PIfs X [c] t:=fun pins s σ H Q I hw=>wpAny_tests_one (h pins s σ H Q I hw)
def jKX(J:It)(tc:TT)(te:TE)(σf:Option V->St)(H1:Hp)(Q:VK):Prop:=∀ D,H1 D=none ->
 ∃ W:Nat->Nat->List V->Hp->Prop,(∃ m,W 0 m [] (upd H1 D (.lst [])))/\∀ i m ys H2,W i m ys H2->H2 D=some (.lst ys) /\
  ((J.stop i H2/\Q (.ref D) H2)\/(J.go i H2/\ys.length<sizeLine/\∀ x H3,J.yld i H2 x H3->tc (σf (some x)) H3 fun b H4 =>
    if b=true then te (σf (some x)) H4 fun y H5=>H5 D=some (.lst ys)/\∃ m',m'<m/\W (i+1) m' (ys++[y]) (upd H5 D (.lst (ys++[y]))) else ∃ m',m'<m/\W (i+1) m' ys H4))
section
variable {prog:Program}{w:World}{A:Around}{R:Result->Shared->Prop}{s:Shared}
theorem jNw{elt target iter:Expr}{ifs:List Expr}{scope:Scope}{pos:Pos}{it acc:Value}{env:Env}(I:Nat->Shared->Prop)
 (turn:∀ n s,I n s->wpAny (model prog w) A (pyNext it) (fun r s₁=>match r with
  | none=>R (.ok .next) s₁
  | some v=>wpAny (model prog w) A (letOwnedTupleGo target it v) (fun _ s₁'=>wpAny (model prog w) A (assign target env v) (fun _ s₂ =>
   wpAny (model prog w) A (forIn ifs true fun c r=>if r=true then do let ok <- isTrue c env (eval c env);pure (ForInStep.yield ok) else pure (ForInStep.yield r)) (fun ok s₃ =>
    if ok=true then wpAny (model prog w) A (eval elt env) (fun x s₄ =>
     wpAny (model prog w) A (call (.builtin "list.append") [acc,x]) (fun _ s₅=>∃ m,m<n/\I m s₅) (fun _ _=>False) s₄) (fun _ _=>False) s₃
    else ∃ m,m<n/\I m s₃) (fun _ _=>False) s₂) (fun _ _=>False) s₁') (fun _ _=>False) s₁) (fun _ _=>False) s)
 (n:Nat) (h:I n s) :
 codeAny (model prog w) A (.compLoop (.ListComp elt [⟨target,iter,ifs,0⟩] scope pos) 0 it acc env) R s:=by
 have no:∀ {α:Type} {t:Sem α} {Q:α->Shared->Prop} {E:Value->Shared->Prop} {s:Shared},wpAny (model prog w) A t Q (fun _ _=>False) s->wpAny (model prog w) A t Q E s:=fun h=>wpAny_mono h (fun _ _ q=>q) fun _ _ f=>f.elim
 refine codeAny_loop rfl I (fun n s hI=>?_) n h
 show wpAny _ A ((compTurn (.ListComp elt [⟨target,iter,ifs,0⟩] scope pos) 0 it acc env).onRaise (fun x=>do noteFrame x env;theTreesLotGoes x)) _ _ s
 refine wpAny_noted ?_
 rw [compTurn_list]
 refine wpAny_bind (wpAny_standAt (wpAny_bind (wpAny_mono (turn n s hI) (fun r s₁ h₁=>?_) fun _ _ h'=>h'.elim)))
 cases r with
 | none=>exact wpAny_pure h₁
 | some v =>
   refine wpAny_bind (wpAny_mono h₁ (fun _ s₁' h₁'=>?_) fun _ _ h'=>h'.elim)
   refine wpAny_bind (wpAny_mono h₁' (fun _ s₂ h₂=>wpAny_bind (wpAny_mono h₂ (fun ok s₃ h₃=>?_) fun _ _ h'=>h'.elim)) fun _ _ h'=>h'.elim)
   cases ok with
   | false=>exact wpAny_pure ⟨rfl,h₃⟩
   | true =>
     exact wpAny_bind (wpAny_bind (wpAny_mono h₃ (fun x s₄ h₄=>wpAny_bind (wpAny_mono h₄ (fun _ s₅ h₅=>wpAny_pure (wpAny_pure ⟨rfl,h₅⟩)) fun _ _ h'=>h'.elim)) fun _ _ h'=>h'.elim))
end
section
variable {X:Cx}{elt iter:Expr}{x:Str}{px pos:Pos}{ifs:List Expr}{scope:Scope}{frees:List (Str×Nat)}{tc:TT}{te:TE}
structure jLe(X:Cx)(scope:Scope)(x:Str)(frees:List (Str×Nat)):Prop where
 cell:∀ y∈scope.names,y.2≠.cell
 kind:scope.kind=.function
 own:scope.names.lookup x=some .local
 names:∀ y∈scope.names,y.2=.local->scope.names.lookup y.1=some .local
 fr:jGp X scope frees
 nd:(x::frees.map (·.1)).Nodup
 cl:∀ p∈scope.names,p.2=.free->(X.env.cells.lookup p.1).isSome=true
 calm:X.calm=true
theorem jLf{scope:Scope}{env:Env}{y:Str}(hc:∀ y∈scope.names,y.2≠.cell)(h:(relabel scope env).names.lookup y=some .cell\/(relabel scope env).names.lookup y=some .free):(y,NameKind.free)∈scope.names:=by
 have key:∀ k,(relabel scope env).names.lookup y=some k->k≠.local->k=.cell\/k=.free->(y,NameKind.free)∈scope.names:=fun k hk _ hkk=>by
  have hm:=PySem.mem_of_lookup hk
  obtain⟨⟨n,k0⟩,hm0,e⟩:=List.mem_map.mp hm
  by_cases hcond:(k0==NameKind.free&&env.scope.kind==.function&&env.kindOf n==some .cell)=true
  ·have e':(n,NameKind.cell)=(y,k):=by rw [<- e];exact (if_pos hcond).symm
   have hk0:k0=.free:=by
    rw [Bool.and_eq_true,Bool.and_eq_true] at hcond
    exact eq_of_beq hcond.1.1
   have en:n=y:=congrArg Prod.fst e'
   rw [<- en,<- hk0]
   exact hm0
  ·have e':(n,k0)=(y,k):=by rw [<- e];exact (if_neg hcond).symm
   have en:n=y:=congrArg Prod.fst e'
   have ek:k0=k:=congrArg Prod.snd e'
   rcases hkk with hkk|hkk
   ·exact absurd (ek.trans hkk) (hc _ hm0)
   ·rw [<- en,<- hkk,<- ek]
    exact hm0
 rcases h with h|h
 ·exact key _ h (by decide) (.inl rfl)
 ·exact key _ h (by decide) (.inr rfl)
theorem jKh{pins:List (Addr×Obj)}{σ:St}{H1:Hp}{s₂:Shared}{it:Addr}{fp:List Addr}{tn:Nat->Heap->Prop}{J:It}{Q:VK}{RR:Value->Addr->Result->Shared->Prop}{E:Value->Shared->Prop}
 (O:jLe X scope x frees) (hc:∀ C ex s₂ H₂,PIfs (jFi X scope (x::frees.map (·.1)) C ex s₂ H₂) ifs tc) (he:∀ C ex s₂ H₂,PE (jFi X scope (x::frees.map (·.1)) C ex s₂ H₂) elt te)
 (I:Inv X pins σ H1 s₂) (T:Turn X.prog X.w X.K (.Name x px) J fp it tn) (st:tn 0 s₂.heap) (hf:∀ b∈fp,jGC X pins H1 b) (hB:jKX J tc te (inSt frees σ) H1 Q)
 (hRR:∀ D C H' s',Inv X pins σ H' s'->(∃ m,s'.heap.Ns C m)->jGC X pins H' C->Q (.ref D) H'->RR (.ref D) C (.ok .next) s') :
 wpAny (model X.prog X.w) X.A (newList []) (fun acc s₃=>wpAny (model X.prog X.w) X.A (newFunctionEnv scope X.env.globals (jEt X.env.cells scope.names []) [] X.env.qual none .none (some X.env)) (fun cenv s₄ =>
  codeAny (model X.prog X.w) X.A (.compStart (.ListComp elt [⟨.Name x px,iter,ifs,0⟩] scope pos) 0 (.ref it) acc { cenv with scope:=relabel scope X.env }) (RR acc cenv.locals) s₄) E s₃) E s₂:=by
 refine wpAny_newObj_type (wpAny_newFunctionEnv O.cell (by intro y hy;simp at hy) (fun h₁ hns₁ hsb₁=>?_) O.kind)
 dsimp only at hns₁ hsb₁ ⊢
 generalize hH2:s₂.heap.push { cls:=.type "list",dict:=none,data:=.seq ([]:List Value).toArray }=H2 at hns₁ hsb₁ ⊢
 have hC:H2.objs.size=s₂.heap.objs.size+1:=by rw [<- hH2,Heap.size_push]
 have hDC:s₂.heap.objs.size≠H2.objs.size:=by rw [hC];exact Nat.ne_of_lt (Nat.lt_succ_self _)
 have hCle:s₂.heap.objs.size<=H2.objs.size:=by rw [hC];exact Nat.le_succ _
 have below:∀ b,b<s₂.heap.objs.size->b≠H2.objs.size/\b≠s₂.heap.objs.size:=fun b hb=>⟨by rw [hC];exact Nat.ne_of_lt (Nat.lt_succ_of_lt hb),Nat.ne_of_lt hb⟩
 have old:∀ b o,s₂.heap.get? b=some o->h₁.get? b=some o:=fun b o e=>hsb₁.extBut b o (below b (Heap.lt_size e)).1 (Heap.get?_push_of_some _ (hH2 ▸ Heap.get?_push_of_some _ e))
 have hacc:h₁.get? s₂.heap.objs.size=some { cls:=.type "list",data:=.seq ([]:List Value).toArray }:=hsb₁.extBut _ _ hDC (Heap.get?_push_of_some _ (hH2 ▸ Heap.get?_push_size _ rfl))
 have nD:H1 s₂.heap.objs.size=none:=I.hok.fresh (Nat.le_refl _)
 obtain⟨W,⟨m0,w0⟩,hW⟩:=hB s₂.heap.objs.size nD
 -- the block's context and its first state
 let X':Cx:=jFi X scope (x::frees.map (·.1)) H2.objs.size fp s₂ H1
 have inC:∀ y c,(jEt X.env.cells scope.names []).lookup y=some c->X.env.cells.lookup y=some c:=fun y c h=>jKg scope.names [] O.cl (fun y c h=>by cases h) h
 have fpl:∀ b∈fp,b<s₂.heap.objs.size:=fun b hb=>by
  obtain⟨o,e,_⟩:=T.obj _ _ st b hb
  exact Heap.lt_size e
 have ok':X'.Ok:=by
  refine⟨I.ok.mod,O.kind,I.ok.glob,I.ok.blt,hCle,fun y z c h1 h2=>I.ok.inj y z c (inC y c h1) (inC z c h2),fun y hy=>?_,fun y c h _=>(by cases h),I.ok.hd,I.ok.frames,.inl rfl,fun b hb=>?_,I.bs,Nat.le_trans I.ok.bsz I.sz,fun b o e hb=>?_,fun b hb z=>?_,I.stack,I.stkFree⟩
  ·exact Option.isSome_iff_exists.mp (jGG scope.names [] (.inr (jLf O.cell hy)))
  ·exact⟨(below b (fpl b hb)).1,fun y c h=>(hf b hb).2.2.2.2.1 y c (inC y c h)⟩
  ·rcases (hf b hb).2.2.2.1 with z|z
   ·exact I.ok.noex b o e z
   ·exact absurd (Nat.lt_of_lt_of_le (Nat.lt_of_lt_of_le (Heap.lt_size e) I.ok.bsz) z) (Nat.lt_irrefl _)
  ·exact (List.mem_cons.mp (I.stkSub b z)).elim (hf b hb).2.1 (hf b hb).2.2.1
 have hok1:HOk X.prog X.w (upd H1 s₂.heap.objs.size (.lst [])) h₁:=I.hok.laid old (Nat.le_refl _) ⟨Nat.zero_le _,[],0,.nil,hacc⟩
 have I0:∀ tk,Inv X' [] (inSt frees σ none) (upd H1 s₂.heap.objs.size (.lst [])) { s₂ with heap:=h₁,toks:=tk }:=fun tk=>by
  exists ok',rfl,I.bare,Un.laid old (Nat.le_refl _) nD,⟨_,hns₁,fun i y v h1 h2 h3=>?_⟩,fun y c h=>?_,?_,fun y c h=>?_,fun p hp=>absurd (show p∈([]:List (Addr×Obj)) from hp) (by simp),hok1
  ·cases i with
   | zero =>
     have h2':(none:Option V)=some v:=Option.some.inj h2
     cases h2'
   | succ j =>
     have h1':(frees.map (·.1))[j]?=some y:=h1
     have h2':(frees.map fun p=>(σ[p.2]?).join)[j]?=some (some v):=h2
     rw [List.getElem?_map] at h1' h2'
     cases e:frees[j]? with
     | none=>rw [e] at h1';cases h1'
     | some p =>
       rw [e] at h1' h2'
       have e1:p.1=y:=Option.some.inj h1'
       have e2:(σ[p.2]?).join=some v:=Option.some.inj h2'
       obtain⟨g1,g2,g3,g4⟩:=O.fr.at p (List.mem_of_getElem? e)
       have e3:σ[p.2]?=some (some v):=by
        cases q:σ[p.2]? with
        | none=>rw [q] at e2;cases e2
        | some o=>rw [q] at e2;exact congrArg some e2
       obtain⟨m,hn,hl⟩:=I.loc
       obtain⟨u,r,l⟩:=hl p.2 p.1 v g1 e3 (.inr (.inl g2))
       exists u,r
       rcases l with⟨k,_⟩|⟨_,c,hc1,hc2⟩
       ·rw [g2] at k;cases k
       ·obtain⟨c2,hc3⟩:=Option.isSome_iff_exists.mp (jGG (cells:=X.env.cells) scope.names [] (.inr g4))
        have hc4:=inC _ _ hc3
        rw [hc1] at hc4
        cases hc4
        rw [<- e1]
        refine .inr ⟨.inl g3,c,hc3,?_⟩
        obtain⟨o,ho,hd⟩:=hc2
        exact⟨o,old c o ho,hd⟩
  ·obtain⟨v,o,ho,hd⟩:=I.cell y c (inC y c h)
   exact⟨v,o,old c o ho,hd⟩
  ·show upd H1 s₂.heap.objs.size (.lst []) H2.objs.size=none
   rw [jAi (Ne.symm hDC)]
   exact I.hok.fresh hCle
  ·obtain⟨v,o,ho,hd⟩:=I.cell y c (inC y c h)
   rw [jAi (below c (Heap.lt_size ho)).2]
   exact I.freeC y c (inC y c h)
  ·show (inSt frees σ none).length=(x::frees.map (·.1)).length
   simp [inSt]
 have stat:∀ {H':Hp},(∀ b∈fp,H' b=none)->∀ b∈fp,jGC X' [] H' b:=fun hn b hb =>
  ⟨hn b hb,(below b (fpl b hb)).1,fun z=>(List.mem_cons.mp (I.stkSub b z)).elim (hf b hb).2.1 (hf b hb).2.2.1,.inl hb,fun y c h=>(hf b hb).2.2.2.2.1 y c (inC y c h),fun p hp=>absurd (show p∈([]:List (Addr×Obj)) from hp) (by simp)⟩
 have hst₁:tn 0 h₁:=T.keep _ _ _ st fun b _ o e=>old b o e
 have fr0:∀ b∈fp,(upd H1 s₂.heap.objs.size (.lst [])) b=none:=fun b hb=>by
  rw [jAi (below b (fpl b hb)).2]
  exact (hf b hb).1
 have loop:∀ tk,codeAny (model X.prog X.w) X.A (.compLoop (.ListComp elt [⟨.Name x px,iter,ifs,0⟩] scope pos) 0 (.ref it) (.ref s₂.heap.objs.size) X'.env) (RR (.ref s₂.heap.objs.size) H2.objs.size) { s₂ with heap:=h₁,toks:=tk }:=fun tk=>by
  refine jNw (fun n s'=>∃ i ys o H',Inv X' [] (inSt frees σ o) H' s'/\tn i s'.heap/\(∀ b∈fp,H' b=none)/\W i n ys H') ?_ m0 ⟨0,[],none,_,I0 tk,hst₁,fr0,w0⟩
  rintro n s3 ⟨i,ys,o3,H3,I3,st3,fr3,w3⟩
  obtain⟨hD3,alt⟩:=hW i n ys H3 w3
  rcases alt with⟨stop,q⟩|⟨go,hlt,step⟩
  ·refine thn (T.done X' rfl rfl rfl O.calm i [] s3 _ H3 _ I3 (stat fr3) st3 stop) fun r s4 ⟨hr,I4⟩=>?_
   subst hr
   have J4:Inv X pins σ H3 s4:=I.call' (ch:=fp) I4.os I4.base I4.hok I4.bare fun b hb=>⟨(hf b hb).2.2.2.1,(hf b hb).2.1,(hf b hb).2.2.2.2.1,(hf b hb).2.2.2.2.2⟩
   obtain⟨m4,hn4,_⟩:=I4.loc
   exact hRR _ _ H3 s4 J4 ⟨m4,hn4⟩ (I.fpOk hCle I4.free) q
  ·refine thn (T.item X' rfl rfl rfl O.calm i [] s3 _ H3 _ I3 (stat fr3) st3 go) fun r s4 ⟨u,hr,h4⟩=>?_
   subst hr
   refine thn h4 fun _ s5 ⟨v,H5,I5,r5,y5,st5,fr5⟩=>?_
   have I5':=I5.pinned (stat fr5) (T.obj _ _ st5)
   have tail:∀ {σ7:St} {H7:Hp} {s7:Shared},Inv X' ([]++jHj fp s5.heap) σ7 H7 s7->Inv X' [] σ7 H7 s7/\tn (i+1) s7.heap/\∀ b∈fp,H7 b=none:=fun {σ7 H7 s7} I7=>by
    refine⟨I7.unpinned,T.keep _ _ _ st5 fun b hb o e=>(I7.pin (b,o) (List.mem_append_right _ (List.mem_append_right _ (jEY hb e)))).1,fun b hb=>?_⟩
    obtain⟨o,e,d⟩:=T.obj _ _ st5 b hb
    exact (I7.pin (b,o) (List.mem_append_right _ (List.mem_append_right _ (jEY hb e)))).2.1
   have hg:PG X' (.Name x px) (jBJ 0):=jMq O.nd rfl (Or.inl (lookup_relabel_local O.own)) (.inr (lookup_relabel_local O.own))
   refine thn (hg _ s5 _ H5 v u (fun σ6 H6=>σ6=inSt frees σ (some v)/\H6=H5) I5' r5 ⟨rfl,rfl⟩) fun _ s6 ⟨σ6,H6,I6,e6,e6'⟩=>?_
   subst e6 e6'
   refine thn (hc _ _ _ _ _ s6 _ _ _ I6 (step v _ y5)) fun b s7 ⟨H7,I7,q7⟩=>?_
   cases b with
   | false =>
     obtain⟨m',hm,w7⟩:=(show ∃ m',m'<n/\W (i+1) m' ys H7 from q7)
     obtain⟨t1,t2,t3⟩:=tail I7
     exact⟨m',hm,i+1,ys,some v,H7,t1,t2,t3,w7⟩
   | true =>
     refine thn (he _ _ _ _ _ s7 _ _ _ I7 q7) fun y s8 ⟨y',H8,I8,r8,hD8,m',hm,w8⟩=>?_
     refine thn (jFL (X:=X') _ s8 _ H8 (.ref s₂.heap.objs.size) [y'] _ [y] (fun _ H9=>H9=upd H8 s₂.heap.objs.size (.lst (ys++[y']))) I8 rfl (.cons r8 .nil) ⟨_,_,_,rfl,rfl,hD8,hlt,rfl⟩) fun _ s9 ⟨_,H9,I9,_,e9⟩=>?_
     subst e9
     obtain⟨t1,t2,t3⟩:=tail I9
     exact⟨m',hm,i+1,ys++[y'],some v,_,t1,t2,t3,w8⟩
 exact codeAny_compStart_list (loop _) (T.self _ 0 _ _ _ hst₁ (loop _))
def tComp(frees:List (Str×Nat))(tc:TT)(te:TE)(wi:TI):TE:=fun σ H Q=>wi σ H fun J H1=>jKX J tc te (inSt frees σ) H1 Q
theorem jFa{wi:TI}(O:jLe X scope x frees)(hxe:X.xe=fun _ _=>False)(hi:PI X (.Name x px) iter wi)
 (hc:∀ C ex s₂ H₂,PIfs (jFi X scope (x::frees.map (·.1)) C ex s₂ H₂) ifs tc) (he:∀ C ex s₂ H₂,PE (jFi X scope (x::frees.map (·.1)) C ex s₂ H₂) elt te)
 (hs:∀ x,foldedSetIterable iter X.env x=pure x:=by intro _;rfl):PE X (.ListComp elt [⟨.Name x px,iter,ifs,0⟩] scope pos) (tComp frees tc te wi):=by
 intro pins s σ H Q I h
 rw [eval_ListComp]
 refine wpAny_comprehension_free (use:=none) rfl hs (jHb O.cl) O.kind O.names (thn (hi pins s σ H _ I h) fun xv s₁ h₁=>thn h₁ fun itv s₂ h₂=>?_)
 obtain⟨it,fp,tn,J,H2,e,I2,T,st2,f2,hB⟩:=h₂
 subst e
 refine jKh (RR:=fun acc C=>compPost (model X.prog X.w) X.A X.xe none (EP X pins σ Q) acc C) O hc he I2 T st2 f2 hB ?_
 intro D C H' s' I' hn hC q
 obtain⟨m,hn⟩:=hn
 refine⟨m,hn,fun h' hs'=>?_⟩
 exact⟨.ref D,H',I'.turned (t':=s'.toks) (fun b o hb e=>hs'.extBut b o hb e) hC.1 hC.2.1 hC.2.2.2.1 hC.2.2.2.2.1 hC.2.2.2.2.2,rfl,q⟩
theorem jJt{wi:TI}{i:Nat}{y:Str}{py spos:Pos}(O:jLe X scope x frees)(hN:X.N.Nodup)(hiy:X.N[i]?=some y)(hy:X.env.kindOf y=some .local)(hsw:swapsWith (.ListComp elt [⟨.Name x px,iter,ifs,0⟩] scope pos) (some (.Name y py)) spos.line X.env=pure true)
 (hi:PI X (.Name x px) iter wi) (hc:∀ C ex s₂ H₂,PIfs (jFi X scope (x::frees.map (·.1)) C ex s₂ H₂) ifs tc) (he:∀ C ex s₂ H₂,PE (jFi X scope (x::frees.map (·.1)) C ex s₂ H₂) elt te)
 (hs:∀ x,foldedSetIterable iter X.env x=pure x:=by intro _;rfl):PS X (.Assign [.Name y py] (.ListComp elt [⟨.Name x px,iter,ifs,0⟩] scope pos) spos) (tAsg (tComp frees tc te wi) (jBJ i)):=by
 intro pins s σ H D I h
 rw [exec_Assign_Name_used _ _ _ _ hsw]
 refine wpAny_bind (wpAny_standAt (wpAny_bind ?_))
 show wpAny _ X.A (do let _ <- comprehension (.ListComp elt [⟨.Name x px,iter,ifs,0⟩] scope pos) scope X.env _ (newList []) false (eval iter X.env) (some (assign (.Name y py) X.env))) _ _ s
 refine wpAny_bind (wpAny_mono (wpAny_comprehension_free (use:=some (assign (.Name y py) X.env)) (Q:=fun _ s'=>SP X pins D .next s') rfl hs (jHb O.cl) O.kind O.names
  (thn (hi pins s σ H _ I h) fun xv s₁ h₁=>thn h₁ fun itv s₂ h₂=>?_)) (fun _ s' hq=>wpAny_pure (wpAny_pure hq)) fun _ _ e=>e)
 obtain⟨it,fp,tn,J,H2,e,I2,T,st2,f2,hB⟩:=h₂
 subst e
 refine jKh (RR:=fun acc C=>compPost (model X.prog X.w) X.A X.xe (some (assign (.Name y py) X.env)) (fun _ s'=>SP X pins D .next s') acc C) O hc he I2 T st2 f2 hB ?_
 intro A C H' s' I' hn hC q
 obtain⟨m,hn⟩:=hn
 obtain⟨oC,es,ep,hoC,hdC,hr⟩:=id hn
 have I'':Inv X (pins++[(C,oC)]) σ H' s':=I'.pins_of fun p hp=>(List.mem_append.mp hp).elim (fun z=>I'.pin p (List.mem_append_right _ z)) fun z=>by
  rw [List.mem_singleton.mp z]
  exact⟨hoC,hC.1,hC.2.1,hC.2.2.1,fun v e=>by rw [hdC] at e;cases e⟩
 show wpAny _ X.A (assign (.Name y py) X.env (.ref A)) _ _ _
 refine wpAny_assign_Name (jFh I'' hN hiy (.inl hy) (v:=.ref A) rfl (fun s3 I3=>?_) (.inr hy))
 have hC3:=(I3.pin (C,oC) (List.mem_append_right _ (List.mem_append_right _ (List.mem_singleton.mpr rfl)))).1
 have J3:Inv X pins (σ.set i (some (.ref A))) H' s3:=I3.unpinned
 refine⟨m,⟨oC,es,ep,hC3,hdC,hr⟩,fun h' hs'=>?_⟩
 exact⟨_,H',J3.turned (t':=s3.toks) (fun b o hb e=>hs'.extBut b o hb e) hC.1 hC.2.1 hC.2.2.2.1 hC.2.2.2.2.1 hC.2.2.2.2.2,q⟩
end
section
variable {X:Cx}
inductive rSlS(x:V)(lo:Option Int)(hi:Option Int)(H:Hp)(Q:VK):Prop|mk z:x=.str z->z.length<=sizeLine->Q (.str (Txt.slice z lo hi)) H->rSlS x lo hi H Q
theorem jMz{v:Value}{o:Option Int}(p:IsPart v o):∃ l:Option (Int×Tok),v=partValue l/\l.map (·.1)=o:=by
 cases p with
 | none=>exact⟨none,rfl,rfl⟩
 | int i t=>exact⟨some (i,t),rfl,rfl⟩
theorem jNx:SlR X rSlS:=by
 intro pins s σ H x v vl vu lo hi sl Q I rx hs pl pu h
 obtain⟨z,rfl,hz,q⟩:=h
 obtain⟨t,rfl⟩:=rx
 obtain⟨l,rfl,rfl⟩:=jMz pl
 obtain⟨u,rfl,rfl⟩:=jMz pu
 exact⟨"str",_,F.slot_str_getitem.lookup,typeIs_str _ _ _,wpAny_getItem_str_slice (l:=l) (u:=u) (st:=none) hs rfl
  (post_val_or_str ⟨Nat.le_trans (Txt.slice_le z _ _) hz,fun t' k=>⟨.str _,H,I.tok _,⟨t',rfl⟩,q⟩⟩)⟩
end
structure Seq(J:It)(H1:Hp)(xs:List V):Prop where
 go:∀ i H,jAn H1 H->i<xs.length->J.go i H
 yld:∀ i H x H',jAn H1 H->i<xs.length->J.yld i H x H'->H'=H/\xs[i]?=some x
 stop:∀ H,jAn H1 H->J.stop xs.length H
theorem jHp(lo:Int)(n:Nat)(H1:Hp):Seq (Itr lo n) H1 ((List.range n).map fun i=>V.int (lo+(i:Nat))) where
 go:=fun i H _ h=>by
  rw [List.length_map,List.length_range] at h
  exact h
 yld:=fun i H x H' _ hi h=>by
  obtain⟨e,hx⟩:=h
  exists e
  rw [List.length_map,List.length_range] at hi
  rw [List.getElem?_map,List.getElem?_range hi,hx]
  rfl
 stop:=fun H _=>by
  show n<=_
  rw [List.length_map,List.length_range]
  exact Nat.le_refl _
theorem jGH{K:PySem.W.Frag}{a:Addr}{xs:List V}{H1:Hp}(h:SqL K H1 a xs):Seq (Itl K a) H1 xs where
 go:=fun i H e hi=>⟨xs,xs[i],e.seq h,List.getElem?_eq_getElem hi⟩
 yld:=fun i H x H' e _ y=>⟨y.1,y.2 xs (e.seq h)⟩
 stop:=fun H e=>⟨xs,e.seq h,Nat.le_refl _⟩
theorem jKi{α:Type}{xs:List α}{i:Nat}{x:α}(h:xs[i]?=some x):xs.take (i+1)=xs.take i++[x]:=by
 rw [List.take_succ,h]
 rfl
theorem jEu{J:It}{tc:TT}{te:TE}{σf:Option V->St}{H1:Hp}{Q:VK}{xs:List V}(S:Seq J H1 xs)(p:V->Bool)(g:V->V)(hz:xs.length<sizeLine)
 (hc:∀ x∈xs,∀ (H':Hp) (R:Bool->Hp->Prop),jAn H1 H'->R (p x) H'->tc (σf (some x)) H' R)
 (he:∀ x∈xs,∀ (H':Hp) (R:VK),jAn H1 H'->p x=true->R (g x) H'->te (σf (some x)) H' R)
 (q:∀ D H',jAn H1 H'->H1 D=none->H' D=some (.lst ((xs.filter p).map g))->Q (.ref D) H'):jKX J tc te σf H1 Q:=by
 intro D hD
 exists fun i m ys H2=>m=xs.length-i/\i<=xs.length/\jAn H1 H2/\H2 D=some (.lst ys)/\ys=((xs.take i).filter p).map g,⟨xs.length,rfl,Nat.zero_le _,jAj hD _,jAb,rfl⟩
 rintro i m ys H2 ⟨rfl,hi,sm,hD2,rfl⟩
 exists hD2
 by_cases hlt:i<xs.length
 ·refine .inr ⟨S.go i H2 sm hlt,?_,fun x H3 y=>?_⟩
  ·rw [List.length_map]
   refine Nat.lt_of_le_of_lt (List.length_filter_le _ _) ?_
   rw [List.length_take]
   omega
  ·obtain⟨e,hx⟩:=S.yld i H2 x H3 sm hlt y
   subst e
   have mem:x∈xs:=List.mem_of_getElem? hx
   refine hc x mem _ _ sm ?_
   cases hp:p x with
   | false =>
     refine jAJ ⟨xs.length-(i+1),by omega,rfl,hlt,sm,hD2,?_⟩
     rw [jKi hx,List.filter_append,List.filter_cons_of_neg (by rw [hp];decide),List.filter_nil,List.append_nil]
   | true =>
     refine jAU (he x mem _ _ sm hp ⟨hD2,xs.length-(i+1),by omega,rfl,hlt,jCa hD sm _,jAb,?_⟩)
     rw [jKi hx,List.filter_append,List.filter_cons_of_pos hp,List.filter_nil,List.map_append]
     rfl
 ·have e:i=xs.length:=by omega
  subst e
  refine .inl ⟨S.stop H2 sm,q D H2 sm hD ?_⟩
  rw [hD2,List.take_of_length_le (Nat.le_refl _)]
def jOc(cells:List (Str×Addr))(names:List (Str×NameKind)):Bool:=names.all fun p=>if (p.2==NameKind.free)=true then (cells.lookup p.1).isSome else true
theorem jBD{cells:List (Str×Addr)}{names:List (Str×NameKind)}(h:jOc cells names=true):∀ p∈names,p.2=.free->(cells.lookup p.1).isSome=true:=fun p hp hk=>by
 have q:=(List.all_eq_true.mp h) p hp
 rw [hk,show (NameKind.free==NameKind.free)=true from rfl,if_pos rfl] at q
 exact q
section
variable {X:Cx}
theorem jHc:CallR X (.type "int") (fun xs H Q=>∃ z n,xs=[.str z]/\PySem.intText? z=some n/\z.length<=640/\Q (.int n) H):=by
 intro pins s σ H xs us Q I r h
 obtain⟨z,n,rfl,hn,hl,q⟩:=h
 obtain⟨u,rfl,t,rfl⟩:=jCV r
 exact PySem.W.KIN.call_text hn hl ⟨.int n,H,I.tok _,⟨_,rfl⟩,q⟩
inductive rIxLA(K:PySem.W.Frag)(x:V)(y:V)(H:Hp)(Q:VK):Prop|mk p xs i:x=.ref p->y=.int i->SqL K H p xs->0<=i->i<((xs.length:Nat):Int)->(∀ v,xs[i.toNat]?=some v->Q v H)->rIxLA K x y H Q
theorem jCX:IxR X (rIxLA X.K):=by
 intro value slice pins s σ H x y v u Q I rx ry h hs
 obtain⟨p,xs,i,rfl,rfl,hq,h0,h1,q⟩:=h
 obtain⟨c,e1,e2⟩:=at_in (xs:=xs) h0 h1
 exact jAD value slice pins s σ H _ _ v u Q I rx ry ⟨p,xs,i,c,rfl,rfl,hq,e2,q c e1⟩ hs
end
section
variable {prog:Program}{w:World}{A:Around}{E:Value->Shared->Prop}{s:Shared}
set_option maxHeartbeats 2000000 in
end
section
variable {X:Cx}{elts:List Expr}{x1:Nat}{tpos:Pos}
end
section
variable {X:Cx}{pins:List (Addr×Obj)}{σ:St}{H:Hp}{s:Shared}{d:Addr}{kvs:List (Key×V)}
theorem Inv.freeze(I:Inv X pins σ H s)(h:H d=some (.dK kvs)):∃ o,s.heap.get? d=some o/\Inv X pins σ (upd H d (.frz o (.dK kvs))) s:=by
 obtain⟨z,hd,vs,r,o,es,ep,e,c⟩:=I.hok d _ h
 have mu:Mut (H d):=by rw [h];trivial
 refine⟨o,e,I.un (h':=s.heap) (t':=s.toks) (Un.write mu (.inl rfl) (fun _ _ _ q=>q) ⟨o,e⟩) (I.hok.write mu (.inl rfl) (fun _ _ _ q=>q) ⟨o,e⟩ ⟨e,z,hd,vs,r,o,es,ep,e,c⟩)⟩
theorem Inv.thaw{o:Obj}(I:Inv X pins σ H s)(h:H d=some (.frz o (.dK kvs)))(h0:∀ o u,X.H₀ d≠some (.frz o u)):Inv X pins σ (upd H d (.dK kvs)) s:=by
 have nn:∀ b,H b=none->b≠d:=fun b q z=>by rw [z,h] at q;cases q
 refine⟨I.ok,I.os,I.bare,⟨I.base.keep,I.base.slot,fun b o' e n hx=>?_,I.base.there,fun b xs e=>?_,fun b o' u e=>?_,fun b ps e=>?_⟩,I.loc,I.cell,?_,fun x c e=>?_,fun p hp=>?_,fun b u e=>?_,I.len⟩
 ·have q:=I.base.free b o' e n hx
  rw [jAi (nn b q)]
  exact q
 ·have q:=I.base.tups b xs e
  rw [jAi (jAu q h (by intro z;cases z))]
  exact q
 ·have q:=I.base.frzs b o' u e
  rw [jAi (fun z=>h0 o' u (by rw [<- z];exact e))]
  exact q
 ·obtain⟨more,q⟩:=I.base.tbls b ps e
  exists more
  rw [jAi (jAu q h (by intro z;cases z))]
  exact q
 ·rw [jAi (nn _ I.free)]
  exact I.free
 ·rw [jAi (nn _ (I.freeC x c e))]
  exact I.freeC x c e
 ·obtain⟨a,b,c⟩:=I.pin p hp
  exact⟨a,by rw [jAi (nn _ b)];exact b,c⟩
 ·by_cases hb:b=d
  ·subst hb
   rw [jAb] at e
   cases e
   obtain⟨q,ok⟩:=I.hok b _ h
   exact ok
  ·rw [jAi hb] at e
   exact (I.hok b u e).stay (fun _ _ _ q=>q) (fun c q=>by rw [jAi (jAu q h (by intro z;cases z))];exact q) (fun c xs q=>by rw [jAi (jAu q h (by intro z;cases z))];exact q)
theorem Inv.unfrozen(I:Inv X pins σ H s)(h:H d=some (.dK kvs)):∀ o u,X.H₀ d≠some (.frz o u):=fun o u e=>by
 have q:=I.base.frzs d o u e
 rw [h] at q
 cases q
def tFrz(t:TE):TE:=fun σ H Q=>∃ (d:Addr) (kvs:List (Key×V)),H d=some (.dK kvs)/\∀ o,t σ (upd H d (.frz o (.dK kvs))) fun v H'=>H' d=some (.frz o (.dK kvs))/\Q v (upd H' d (.dK kvs))
theorem pe_frz{e:Expr}{t:TE}(h:PE X e t):PE X e (tFrz t):=by
 intro pins s σ H Q I hw
 obtain⟨d,kvs,hd,q⟩:=hw
 obtain⟨o,eo,I1⟩:=I.freeze hd
 refine thn (h pins s σ _ _ I1 (q o)) fun v s1 ⟨x,H1,I2,r,hz,q2⟩=>?_
 exact⟨x,_,I2.thaw hz (I.unfrozen hd),r,q2⟩
end
def Itd(d:Addr)(o:Obj)(kvs:List (Key×V)):It :=
 ⟨fun i H=>H d=some (.frz o (.dK kvs))/\i<kvs.length,fun i H x H'=>H'=H/\∃ k v,kvs[i]?=some (k,v)/\x=kV k,fun i H=>H d=some (.frz o (.dK kvs))/\kvs.length=i⟩
theorem jMA{k:Key}{v:Value}(h:jGA k v=true):jAA (kV k) v:=by
 rcases jBq h with⟨i,t,rfl,rfl⟩|⟨x,t,rfl,rfl⟩
 ·exact⟨t,rfl⟩
 ·exact⟨t,rfl⟩
theorem jKj{P:Program}{w:World}{K:PySem.W.Frag}{tg:Expr}(d it:Addr)(o:Obj)(kvs:List (Key×V)){vs:List (Key×Value)}{es:Array DictEntry}{ep:Nat}(rk:KV kvs vs)(hd:o.ExactDict)(he:o.data=.dict es ep)(hk:KeysOf (jA4 P w) es)(hp:Pairs (jA4 P w) es.toList vs)(nd:(vs.map (·.1)).Nodup) :
 Turn P w K tg (Itd d o kvs) [it] it (fun i h=>h.IsKeyIter it d i vs.length ep) where
 mem:=by simp
 obj:=fun i h st b hb=>by
  have e:b=it:=by simpa using hb
  subst e
  obtain⟨o,e,c,d⟩:=st
  exact⟨o,e,fun v z=>by rw [d] at z;cases z⟩
 keep:=fun i h h' st k=>st.at fun o e=>k it (by simp) o e
 item:=by
  intro X hP hw hK hc i pins s σ H E I hf st hg
  subst hP hw hK
  obtain⟨hz,hi⟩:=hg
  obtain⟨eo,_⟩:=I.hok d _ hz
  obtain⟨f0,f1,f2,f3,f4,f5⟩:=hf it (by simp)
  have hl:=KV.length rk
  have hi2:i<vs.length:=by omega
  have ev:vs[i]?=some (vs[i].1,vs[i].2):=List.getElem?_eq_getElem hi2
  have ks:kvs[i]?=some (kvs[i].1,kvs[i].2):=List.getElem?_eq_getElem hi
  have keq:kvs[i].1=vs[i].1:=by
   have q:=KV.keys rk
   have q1:(kvs.map (·.1))[i]?=(vs.map (·.1))[i]?:=by rw [q]
   rw [List.getElem?_map,List.getElem?_map,ks,ev] at q1
   exact Option.some.inj q1
  refine wpAny_pyNext_dict_item st ⟨o,es,eo,hd,he,hk,hp,nd⟩ ev fun key h' hkey st' sb=>?_
  have I1:Inv X pins σ H { s with heap:=h' }:=I.turned (t':=s.toks) (fun b o hb e=>(sb.2 b hb).trans e) f0 f1 f3 f4 f5
  obtain⟨o2,e2,c2,d2⟩:=id st'
  refine⟨key,rfl,jKT (s:={ s with heap:=h' }) e2 c2 d2 (by decide) ⟨kV kvs[i].1,H,I1,?_,⟨rfl,_,_,ks,rfl⟩,st',fun b hb=>(hf b hb).1⟩⟩
  rw [keq]
  exact jMA hkey
 done:=by
  intro X hP hw hK hc i pins s σ H E I hf st hg
  subst hP hw hK
  obtain⟨hz,hi⟩:=hg
  obtain⟨eo,_⟩:=I.hok d _ hz
  obtain⟨f0,f1,f2,f3,f4,f5⟩:=hf it (by simp)
  have hl:=KV.length rk
  have hin:vs[i]?=none:=List.getElem?_eq_none (by omega)
  exact wpAny_pyNext_dict_end (I.ok.hd hc) st ⟨o,es,eo,hd,he,hk,hp,nd⟩ hin fun h' eb=>⟨rfl,I.turned (t':=s.toks) (fun b o hb e=>eb b o hb e) f0 f1 f3 f4 f5⟩
 self:=fun _ _ _ _ _ st h=>wpAny_pyIter_keyiter st h
section
variable {X:Cx}{tg:Expr}
def iDict(tl:TE):TI:=fun σ H R=>tl σ H fun x H1=>∃ d o kvs,x=.ref d/\H1 d=some (.frz o (.dK kvs))/\R (Itd d o kvs) H1
theorem pi_dict{l:Expr}{tl:TE}(hl:PE X l tl):PI X tg l (iDict tl):=by
 intro pins s σ H R I h
 refine thn (hl pins s σ H _ I h) fun v s1 ⟨x,H1,I1,r1,q1⟩=>?_
 obtain⟨d,o,kvs,rfl,hz,q⟩:=q1
 cases r1
 obtain⟨eo,z,hd,vs,rk,o',es,ep,e',xd,dt,ko,pr,nd⟩:=I1.hok d _ hz
 rw [eo] at e'
 cases e'
 refine wpAny_pyIter_dict hd ⟨o,es,eo,xd,dt,ko,pr,nd⟩ ?_
 refine⟨s1.heap.objs.size,[s1.heap.objs.size],_,_,H1,rfl,I1.kept (t':=s1.toks) fun b o e=>Heap.get?_push_of_some _ e,jKj d _ o kvs rk xd dt ko pr nd,⟨_,Heap.get?_push_size _ rfl,rfl,rfl⟩,fun b hb=>?_,q⟩
 have e:b=s1.heap.objs.size:=by simpa using hb
 subst e
 exact I1.fpOk (Nat.le_refl _) (I1.hok.fresh (Nat.le_refl _))
theorem jOd{d:Addr}{o:Obj}{kvs:List (Key×V)}{H1:Hp}(h:H1 d=some (.frz o (.dK kvs))):Seq (Itd d o kvs) H1 (kvs.map fun p=>kV p.1) where
 go:=fun i H e hi=>⟨e _ _ h,by rw [List.length_map] at hi;exact hi⟩
 yld:=fun i H x H' e _ y=>by
  obtain⟨a,k,v,b,c⟩:=y
  exists a
  rw [List.getElem?_map,b,c]
  rfl
 stop:=fun H e=>⟨e _ _ h,by rw [List.length_map]⟩
structure Dfn(P:Program)(w:World)(K:PySem.W.Frag)(mg:Str->Option Value)(base:Heap)(k:Nat)(x:Str)(ps:List Str)(sp:Sp):Prop where
 ex:∃ f fd,jAr P w K mg base CX0 k f fd ps sp/\jBw K fd ps []/\PySem.W.keepIn K (.ref f)=true/\mg x=some (.ref f)
theorem jAv{k:Nat}{x:Str}{ps:List Str}{sp:Sp}{e:Expr}{es:List Expr}{t:TA}{p pos:Pos}(D:Dfn X.prog X.w X.K X.mg X.base k x ps sp)(hr:jAZ k X.A)(hg:Gl X x)(ha:PA X (e::es) t)(hdb:(x==("__debug__":Str))=false:=by decide)
 (he:starEach (e::es) X.env=(false,eval e X.env)::starEach es X.env:=by rfl) (hpl:(backTo pos (starEach es X.env)).any (·.1)=false:=by rfl):PE X (.Call (.Name x p) (e::es) [] pos) (tCall sp [] E0 t):=by
 obtain⟨f,fd,F,b,kp,m⟩:=D.ex
 exact pe_call F hr hg m kp b .nil jIC ha hdb he hpl
structure GS(mg:Str->Option Value)(x:Str)(z:Str):Prop where
 ex:∃ t,mg x=some (.str z t)
structure GI(mg:Str->Option Value)(x:Str)(z:Int):Prop where
 ex:∃ t,mg x=some (.int z t)
theorem jCg{x z:Str}{pos:Pos}(G:GS X.mg x z)(hg:Gl X x)(hd:(x==("__debug__":Str))=false:=by decide):PE X (.Name x pos) (tC (.str z)):=by
 obtain⟨t,e⟩:=G.ex
 exact jBy hg e (rel_str _ _) hd
theorem jE1{x:Str}{z:Int}{pos:Pos}(G:GI X.mg x z)(hg:Gl X x)(hd:(x==("__debug__":Str))=false:=by decide):PE X (.Name x pos) (tC (.int z)):=by
 obtain⟨t,e⟩:=G.ex
 exact jBy hg e (rel_int _ _) hd
end
section
variable {X:Cx}
structure MkD(P:Program)(w:World)(K:PySem.W.Frag)(mg:Str->Option Value)(base:Heap)(k:Nat)(x:Str)(C:Addr)(ps:List Str)(sp:Sp):Prop where
 ex:∃ f fd,Mk K C f/\jAr P w K mg base CX0 k f fd ps sp/\jBw K fd ps []/\mg x=some (.ref C)
theorem jCh{k:Nat}{x:Str}{C:Addr}{ps:List Str}{sp:Sp}{e:Expr}{es:List Expr}{t:TA}{p pos:Pos}(D:MkD X.prog X.w X.K X.mg X.base k x C ps sp)(hr:jAZ (k+1) X.A)(hg:Gl X x)(ha:PA X (e::es) t)(hdb:(x==("__debug__":Str))=false:=by decide)
 (he:starEach (e::es) X.env=(false,eval e X.env)::starEach es X.env:=by rfl) (hpl:(backTo pos (starEach es X.env)).any (·.1)=false:=by rfl):PE X (.Call (.Name x p) (e::es) [] pos) (jKU C sp [] E0 t):=by
 obtain⟨f,fd,M,F,b,m⟩:=D.ex
 exact pe_make M F hr hg m b .nil jIC ha hdb he hpl
theorem jNy{K:PySem.W.Frag}{a:Expr}{ta:TE}(hK:X.K=K)(ha:PE X a ta)(he:∀ whole,isTrue a X.env whole=(do let v <- whole;standAt a.pos;holding [v] (truthy v))):PT X a (fun σ H Q=>ta σ H fun x H'=>∃ k,TruV K x H' k/\Q k H'):=by
 subst hK
 exact jAX ha he
theorem jNz{K:PySem.W.Frag}{a b:Expr}{ta tb:TE}{pos:Pos}{r:PySem.W.Frag->R2}(hK:X.K=K)(hr:IxR X (r X.K))(ha:PE X a ta)(hb:PE X b tb)(hs:jJs b):PE X (.Subscript a b pos) (tOp (r K) ta tb):=by
 subst hK
 exact pe_ix hr ha hb hs
theorem pe_fldK{K:PySem.W.Frag}{e:Expr}{ta:TE}{f:Str}{pos:Pos}(hK:X.K=K)(he:PE X e ta)(hb:attributeBase e f X.env (eval e X.env)=eval e X.env):PE X (.Attribute e f pos) (tFld K ta f):=by
 subst hK
 exact jAq he hb
end
end L2
namespace PySem.W
open PySem PySem.Spec PySem.Calls PyProof.Rows Builtin Builtin.ObjectAttr Builtin.Getset_descriptor
abbrev jEj:List Value:=[.type "ValueError",.type "Exception",.type "BaseException",.type "object"]
def excMk(K:Frag)(C:Addr):Bool:=match K.lookup C with
 | some ⟨.type "type",_,.cls cd,sls⟩=>(match cd.mro,sls.toList with
   | .ref C'::tlm,[_,_,_,_,some (.builtin n),_]=>C'==C&&n == "ValueError.__new__" && !cd.hasDel&&tailIn K jEj tlm
   | _,_=>false)
 | _=>false
def ExcAt(h:Heap)(C:Addr)(tlm:List Value):Prop:=∃ N nm q bs hdct sn sub ab col dd q0 q1 q2 q3 q5,h.get? C=some (excClassObj nm q C N bs tlm hdct sn sub ab col dd q0 q1 q2 q3 q5 "ValueError.__new__")
theorem jHq{K:Frag}{h:Heap}{C:Addr}(X:K.In h)(q:excMk K C=true):∃ tlm,ExcAt h C tlm/\OwnTail h jEj tlm:=by
 unfold excMk at q
 split at q
 ·rename_i dd cd sls ho
  split at q
  ·rename_i C' tlm q0 q1 q2 q3 n q5 hmm hss
   simp only [beq_iff_eq,Bool.and_eq_true,Bool.not_eq_true'] at q
   obtain⟨⟨⟨rfl,rfl⟩,hdel⟩,ht⟩:=q
   obtain⟨nm,bs,mro,ns,qun,hd,sn,sub,ab,col,del⟩:=cd
   dsimp only at hmm hdel
   subst hmm hdel
   have hsl:sls=#[q0,q1,q2,q3,some (.builtin "ValueError.__new__"),q5]:=by
    obtain⟨l⟩:=sls
    simp only at hss
    rw [hss]
   subst hsl
   exact⟨tlm,⟨ns,nm,qun,bs,hd,sn,sub,ab,col,dd,q0,q1,q2,q3,q5,X _ _ ho⟩,tail_of_in X ht⟩
  ·cases q
 ·cases q
abbrev excTup(us:List Value):Obj:={ cls:=.type "tuple",data:=.seq us.toArray }
abbrev excNew(C t0:Addr):Obj:={ cls:=.ref C,data:=.fields #[.ref t0,.none,.none,.none,.bool false,.none] }
section
variable {prog:Program}{w:World}{A:Around}{K:Frag}{C f:Addr}{R:Result->Shared->Prop}{h:Heap}{g:Array GenState}{d:Drawn}{t:Nat}{os:OsState}
theorem make_X{us:List Value}(X:K.In h)(e:excMk K C=true)(hi:findIn K (.ref C) "__init__"=some (some (.ref f)))(hf:typeIn K (.ref f)=some (.type "function"))(hrest:us.length<=sizeLine)
 (hq:codeAny (model prog w) (A.under (.builtin "type.__call__" ⟨.ref C::us,[]⟩)) (.call (.ref f) ⟨.ref (h.objs.size+1)::us,[]⟩) (InitBack (h.objs.size+1) R) ⟨(h.push (excTup us)).push (excNew C h.objs.size),g,d,t,os⟩) :
 codeAny (model prog w) A (.call (.ref C) ⟨us,[]⟩) R ⟨h,g,d,t,os⟩:=by
 obtain⟨tlm,⟨N,nm,q,bs,hdct,sn,sub,ab,col,dd,q0,q1,q2,q3,q5,hCl⟩,T⟩:=jHq X e
 have FB:=PySem.F.excBase_ValueError
 have f1:=tc_lookup
 have f2:=tc_bind (.ref C)
 have hTy:(⟨h,g,d,t,os⟩:Shared).TypeIs (.ref C) "type":=⟨_,hCl,rfl⟩
 refine codeAny_of_tree ?_
 show wpAny (model prog w) A.in1 (callAny (.ref C) _) _ _ _
 repeat (any_goals (first|assumption|with_reducible refine wpAny_loadPart_at hCl ?_|wp_step))
 exists rfl
 refine codeAny_call_builtin_at (Code.quiet_builtin _ (by decide +kernel)) entry_typeCall (wpAny_check_type_call_sub hCl ?_)
 repeat (first|with_reducible refine wpAny_loadPart_at hCl ?_|with_reducible refine wpAny_madeBy_exc hCl ?_|wp_step)
 refine codeAny_call_builtin_code (Code.quiet_builtin _ FB.quiet) (wpAny_check_new_subT FB T hCl ?_)
 refine codeAny_exc_new_subT FB T hCl ?_ hrest
 show wpAny _ _ _ _ _ _
 have k:∀ b o,h.get? b=some o->((h.push (excTup us)).push (excNew C h.objs.size)).get? b=some o:=fun b o e=>Heap.get?_push_of_some _ (Heap.get?_push_of_some _ e)
 have hx:((h.push (excTup us)).push (excNew C h.objs.size)).get? (h.objs.size+1)=some (excNew C h.objs.size):=by heap_get
 have t1:Looks (model prog w) ((h.push (excTup us)).push (excNew C h.objs.size)) (typeOf (.ref (h.objs.size+1))) (.ref C):=(Looks.ld hx).andThen .now
 have hcc:(Value.ref C::tlm).contains (.ref C)=true:=by simp
 have s0:Looks (model prog w) h (isSubtype (.ref C) (.ref C)) true:=by
  intro A Q E s kk qq
  obtain⟨h1,g1,d1,tk1,os1⟩:=s
  exact wpAny_isSubtype_exc (kk _ _ hCl) (by rw [hcc];exact qq)
 have s1:=s0.keeps k
 have i1:=(looks_findIn (M:=model prog w) X hi).keeps k
 have b1:=(bind_fn (M:=model prog w) X (.ref (h.objs.size+1)) hf).keeps k
 have hC₁:=k _ _ hCl
 unfold isInstance
 refine wpAny_bind (wpAny_bind (t1.here (s1.here ?_)))
 simp only [Bool.false_eq_true,Bool.not_true,if_false]
 refine wpAny_bind (wpAny_holding ?_);unfold callSpecial? specialOf
 refine wpAny_bind (wpAny_bind (t1.here ?_))
 refine i1.here ?_
 refine wpAny_holding (wpAny_bind (b1.here ?_))
 refine wpAny_bind (wpAny_call ?_)
 refine codeAny_mono hq fun r s' zz=>?_
 rcases r with e|(v|_|_|_)<;>first|exact zz|exact zz.elim|skip
 obtain⟨rfl,zz⟩:=zz
 exact wpAny_pure (wpAny_pure zz)
end
end PySem.W
namespace PySem.W
open PySem PySem.Spec PySem.Calls PyProof.Rows Builtin Builtin.ObjectAttr Builtin.Getset_descriptor
def jHr:List Value->Bool
 | .ref _::r=>jHr r
 | .type n::r=>(.type n::r)==jEj
 | _=>false
theorem jKk(self:Value):∀ {l:List Value},jHr l=true->refuseLoop self "__setattr__" l=pure ()
 | .ref c::r,e=>by rw [refuseLoop_ref];exact jKk self (show jHr r=true from e)
 | .type n::r,e=>by rw [show Value.type n::r=jEj from beq_iff_eq.mp e];exact PySem.F.store_ValueError.passes self
theorem jIG{b:String}(hbb:jEj.contains (.type b)=true):∀ {l:List Value},jHr l=true->l.contains (.type b)=true
 | .ref c::r,e=>by rw [List.contains_cons,jIG hbb (l:=r) e,Bool.or_true]
 | .type n::r,e=>by rw [show Value.type n::r=jEj from beq_iff_eq.mp e];exact hbb
def excOver(K:Frag)(C:Addr):Bool:=(clsIn K C).any fun cdt=>jHr cdt.mro
section
variable {prog:Program}{w:World}{A:Around}{K:Frag}{C x:Addr}{s:Shared}{R:Result->Shared->Prop}
theorem osa_X{ox:Obj}{od:Option Obj}{nm:Str}{tk:Tok}{v:Value}{r:Option Value}(X:K.In s.heap)(I:InstAt s.heap x ox C od)(hp:excOver K C=true)(ht:takerIn K C nm=some r)
 (go:∀ b,wpAny (model prog w) A.in1 (match r with|some a=>setByDescriptor a (.ref x) v|none=>storeInOwnDict (.ref x) (.ref C) (.str nm tk) nm v b)
  (fun fi s'=>match fi with|.done f=>R (.ok f) s'|.again c'=>c'.quiet=true/\codeAny (model prog w) A c' R s') (fun e s'=>R (.error e) s') s) :
 codeAny (model prog w) A (.call (.builtin "object.__setattr__") ⟨[.ref x,.str nm tk,v],[]⟩) R s:=by
 have SFo:=PySem.F.store_object
 obtain⟨cdt,hcd,hov⟩:=any_some hp
 have nem:cdt.mro.isEmpty=false:=by cases q:cdt.mro with|nil=>rw [q] at hov;cases hov|cons _ _=>rfl
 have sub:Looks (model prog w) s.heap (isInstance (.ref x) (.type "object")) true:=I.type.andThen (looks_mroIn X (by unfold mroIn;rw [hcd,Option.bind_some,if_neg (by rw [nem];decide),jIG (by decide +kernel) hov]))
 refine codeAny_call_builtin SFo.slot.plain SFo.entry (@check_slot (model prog w) _ _ s "object.__setattr__" "object" "__setattr__" (.ref x) [.str nm tk,v] [] _ SFo.kind SFo.split sub (SFo.args (.ref x) (.str nm tk) v) ?_)
 obtain⟨atr,ha,hrr⟩:=Option.bind_eq_some_iff.mp ht
 have hmr:Looks (model prog w) s.heap (mroOf (.ref C)) cdt.mro:=(looks_clsIn X hcd).andThen .now
 have l3:Looks (model prog w) s.heap (storeTaker? atr) r:=by
  cases atr with
  | none=>cases hrr;exact .now
  | some a =>
    obtain⟨b,hbb,rfl⟩:=Option.map_eq_some_iff.mp hrr
    refine (looks_takesIn X hbb).andThen ?_
    cases b<;>exact .now
 rw [osa_eq,refuse_eq]
 refine wpAny_bind (wpAny_bind (I.type.here (wpAny_bind (hmr.here ?_))))
 rw [jKk _ hov]
 refine wpAny_pure (wpAny_bind (I.type.here (wpAny_bind ((looks_findIn X ha).here (wpAny_bind (l3.here ?_))))))
 exact go _
variable {E:Value->Shared->Prop}{vs:Array Value}{sl:Array (Option Value)}{nm:Str}{v:Value}
theorem setX_new{Q:Unit->Shared->Prop}(X:K.In s.heap)(hx:s.heap.get? x=some ⟨.ref C,none,.fields vs,sl⟩)(hs:findIn K (.ref C) "__setattr__"=some (some (.builtin "object.__setattr__")))
 (hp:excOver K C=true) (ht:takerIn K C nm=some none) (hh:hasDictIn K C=true)
 (h:∀ h',h'.get? x=some ⟨.ref C,some s.heap.objs.size,.fields vs,sl⟩->h'.Ns1 s.heap.objs.size (fun y=>if y=nm then some v else none)->(∀ b o,b≠x->s.heap.get? b=some o->h'.get? b=some o) ->
  Q () { s with heap:=h',toks:=s.toks+2 }):wpAny (model prog w) A (setAttr (.ref x) nm v) Q E s:=by
 have J:InstAt s.heap x ⟨.ref C,none,.fields vs,sl⟩ C none:=⟨hx,rfl,rfl,True.intro⟩
 refine set_plain X J hs (osa_X (s:={ s with toks:=s.toks+1 }) (r:=none) X J hp ht fun b=>?_)
 obtain⟨cdt,hcd,hdc⟩:=any_some hh
 refine wpAny_bind (wpAny_pure (wpAny_bind (wpAny_bind (wpAny_loadPart hx (wpAny_bind (Looks.here (s:={ s with toks:=s.toks+1 }) (looks_clsIn X hcd) ?_))))))
 rw [hdc]
 have hxz:x≠s.heap.objs.size:=Nat.ne_of_lt (Heap.lt_size hx)
 have hx1:(s.heap.push { cls:=.type "dict",data:=.dict #[] }).get? x=some ⟨.ref C,none,.fields vs,sl⟩:=Heap.get?_push_of_some _ hx
 refine wpAny_bind (wpAny_alloc (wpAny_bind (wpAny_update hx1 ?_)))
 refine wpAny_pure (a:=some s.heap.objs.size) ?_
 have hx2:((s.heap.push { cls:=.type "dict",data:=.dict #[] }).update x fun o=>{ cls:=o.cls,dict:=some s.heap.objs.size,data:=o.data,slots:=o.slots }).get? x=some ⟨.ref C,some s.heap.objs.size,.fields vs,sl⟩:=by
  rw [Heap.get?_update_self _ hx1 rfl]
 have hgx:((s.heap.push { cls:=.type "dict",data:=.dict #[] }).update x fun o=>{ cls:=o.cls,dict:=some s.heap.objs.size,data:=o.data,slots:=o.slots }).get? s.heap.objs.size=some { cls:=.type "dict",data:=.dict #[] } :=
  (Heap.get?_update_ne _ _ _ _ hxz.symm).trans (Heap.get?_push_at rfl rfl)
 have hnd:((s.heap.push { cls:=.type "dict",data:=.dict #[] }).update x fun o=>{ cls:=o.cls,dict:=some s.heap.objs.size,data:=o.data,slots:=o.slots }).Ns s.heap.objs.size (fun _=>none) :=
  ⟨_,#[],_,hgx,rfl,fun e he=>absurd he (by simp),fun _=>rfl⟩
 refine wpAny_bind (wpAny_pure (wpAny_bind (wpAny_nsSet1 (Heap.Ns1.of_empty hnd) fun h' hn' hs'=>?_)))
 obtain⟨oD,esD,epD,hoE,hdE,hcE⟩:=hn'.count (Within.cons nm v Within.nil)
 refine wpAny_bind (wpAny_lookBehind hoE (by rw [hdE];exact pastItsLine_dict (Nat.le_trans hcE (by rw [List.length_cons,List.length_nil,sizeLine_eq];omega))) ?_)
 refine wpAny_pure (h h' ((hs'.2 x hxz).trans hx2) hn' fun b o hbb q=>?_)
 exact (hs'.2 b (Nat.ne_of_lt (Heap.lt_size q))).trans ((Heap.get?_update_ne _ _ _ _ hbb).trans (Heap.get?_push_of_some _ q))
theorem setX_old{Q:Unit->Shared->Prop}{dxa:Addr}{mA:Str->Option Value}{ns:List Str}(X:K.In s.heap)(hx:s.heap.get? x=some ⟨.ref C,some dxa,.fields vs,sl⟩)(hn:s.heap.Ns1 dxa mA)(hne:dxa≠x)
 (hs:findIn K (.ref C) "__setattr__"=some (some (.builtin "object.__setattr__"))) (hp:excOver K C=true) (ht:takerIn K C nm=some none) (hh:hasDictIn K C=true) (hw:Within mA ns) (hsz:ns.length<sizeLine)
 (h:∀ h',h'.Ns1 dxa (fun y=>if y=nm then some v else mA y)->(∀ b o,b≠dxa->s.heap.get? b=some o->h'.get? b=some o) ->
  Q () { s with heap:=h',toks:=s.toks+2 }):wpAny (model prog w) A (setAttr (.ref x) nm v) Q E s:=by
 obtain⟨od,hov,hl⟩:=L2.lookIn_ns hn
 have J:InstAt s.heap x ⟨.ref C,some dxa,.fields vs,sl⟩ C (some od):=⟨hx,rfl,rfl,hov⟩
 refine set_plain X J hs (osa_X (s:={ s with toks:=s.toks+1 }) (r:=none) X J hp ht fun b=>?_)
 obtain⟨cdt,hcd,hdc⟩:=any_some hh
 refine wpAny_bind (wpAny_pure (wpAny_bind (wpAny_bind (wpAny_loadPart hx (wpAny_bind (Looks.here (s:={ s with toks:=s.toks+1 }) (looks_clsIn X hcd) ?_))))))
 rw [hdc]
 refine wpAny_pure (a:=some dxa) (wpAny_bind (wpAny_pure (wpAny_bind ?_)))
 refine wpAny_nsSet1 (s:={ s with toks:=s.toks+1 }) hn fun h' hn' hs'=>?_
 obtain⟨oD,esD,epD,hoE,hdE,hcE⟩:=hn'.count (Within.cons nm v hw)
 refine wpAny_bind (wpAny_lookBehind hoE (by rw [hdE];exact pastItsLine_dict (Nat.le_trans hcE (by rw [List.length_cons];omega))) ?_)
 exact wpAny_pure (h h' hn' fun b o hbb q=>(hs'.2 b hbb).trans q)
end
end PySem.W
namespace PySem.W
open PySem PySem.Spec PySem.Calls PyProof.Rows Builtin Builtin.ObjectAttr Builtin.Getset_descriptor
section
variable {prog:Program}{w:World}{A:Around}{K:Frag}{C x:Addr}{s:Shared}{E:Value->Shared->Prop}{ox:Obj}{od:Option Obj}{nm:Str}{v:Value}{Q:Value->Shared->Prop}{expr:Bool}
theorem jOe{h:Heap}{g:Array GenState}{d:Drawn}{t:Nat}{os:OsState}{tk:Tok}{R:Result->Shared->Prop}(X:K.In h)(I:InstAt h x ox C od)(hp:excOver K C=true)(hf:findObj K C od nm=some (.value v))(hq:R (.ok (.ret v)) ⟨h,g,d,t,os⟩) :
 codeAny (model prog w) A (.call (.builtin "BaseException.__getattribute__") ⟨[.ref x,.str nm tk],[]⟩) R ⟨h,g,d,t,os⟩:=by
 obtain⟨cdt,hcd,hov⟩:=any_some hp
 have nem:cdt.mro.isEmpty=false:=by cases q:cdt.mro with|nil=>rw [q] at hov;cases hov|cons _ _=>rfl
 have sub:Looks (model prog w) h (isInstance (.ref x) (.type "BaseException")) true:=I.type.andThen (looks_mroIn X (by unfold mroIn;rw [hcd,Option.bind_some,if_neg (by rw [nem];decide),jIG (by decide +kernel) hov]))
 have l0:=I.type (M:=model prog w)
 have l1:=looks_find (M:=model prog w) X I hf
 refine codeAny_call_builtin (by decide +kernel) PySem.F.entry_bexc_ga (@check_slot (model prog w) _ _ _ "BaseException.__getattribute__" "BaseException" "__getattribute__" (.ref x) [.str nm tk] [] _ (by decide +kernel) (by decide +kernel) sub (PySem.F.args_bexc_ga (.ref x) (.str nm tk)) ?_)
 refine wpAny_bind (wpAny_pure (wpAny_bind (wpAny_pure (wpAny_bind (l0.at (wpAny_bind (l1.at ?_)))))))
 exact wpAny_pure hq
theorem getX(X:K.In s.heap)(I:InstAt s.heap x ox C od)(hga:findIn K (.ref C) "__getattribute__"=some (some (.builtin "BaseException.__getattribute__")))(hgn:findIn K (.ref C) "__getattr__"=some none)(hp:excOver K C=true)
 (hf:findObj K C od nm=some (.value v)) (hhd:handedIn v=true) (h:Q v { s with toks:=s.toks+1 }):wpAny (model prog w) A (getAttr (.ref x) nm expr) Q E s:=by
 obtain⟨hp',g,d,t,os⟩:=s
 have l0:=I.type (M:=model prog w)
 have l1:=looks_findIn (M:=model prog w) X hga
 have l2:=looks_findIn (M:=model prog w) X hgn
 have f3:bindSpecial (.builtin "BaseException.__getattribute__") (.ref x)=pure (.builtin "BaseException.__getattribute__",[.ref x]) :=
  (Slot.of (T:="ValueError") (name:="__getattribute__") (owner:="BaseException") (n:="__getattribute__") (by rw [typeLookup_type,builtinLookup_eq_fast];kernel_rfl) (by decide +kernel) (by decide +kernel) (by decide +kernel)
   (.inl (by decide +kernel)) (by rw [isSubtype_type];kernel_rfl)).bind (.ref x)
 have hxo:(expr&&onTheHeap (Value.builtin "BaseException.__getattribute__"))=false:=by cases expr<;>rfl
 unfold getAttr getAttrBy
 refine wpAny_bind (wpAny_mkText (wpAny_holding (wpAny_bind (l0.at (wpAny_bind (l1.at ?_))))))
 have hx2:(onTheHeap (Value.ref C)&&Value.builtin "BaseException.__getattribute__" == Value.builtin "object.__getattribute__")=false:=by
  rw [show (Value.builtin "BaseException.__getattribute__" == Value.builtin "object.__getattribute__")=false by decide +kernel,Bool.and_false]
 dsimp only at l0 l1 l2 X I h ⊢
 rw [hx2,if_neg Bool.false_ne_true]
 unfold getAttrByItsOwn
 refine wpAny_bind (l2.at ?_)
 repeat (any_goals first|assumption|wp_step)
 refine jOe X I hp hf ?_
 show wpAny (model prog w) A (handedOut v) _ _ _
 rw [handedOut_of hhd];exact wpAny_pure h
end
end PySem.W
namespace L2
open PySem PyProof.Rows PySem.Spec PySem.Calls
def XO(e C:Addr)(d:Option Addr):HO:=.ext fun h=>∃ t0,h.get? e=some ⟨.ref C,d,.fields #[.ref t0,.none,.none,.none,.bool false,.none],#[]⟩
def XC(e C:Addr)(d:Option Addr):HO:=.ext fun h=>∃ vs sl,h.get? e=some ⟨.ref C,d,.fields vs,sl⟩/\vs[2]?=some .none
def XD(a:Addr)(fs:List (Str×V)):HO:=.ext fun h=>fs.length<=1000/\∃ mA,h.Ns1 a mA/\(∀ f,jBY (fs.lookup f) (mA f))/\PySem.Within mA (fs.map (·.1))
def IsX(H:Hp)(e C:Addr)(d:Option Addr):Prop:=H e=some (XO e C d)\/H e=some (XC e C d)
section
variable {P:Program}{w:World}{H:Hp}{h:Heap}{e C a:Addr}{d:Option Addr}{fs:List (Str×V)}
theorem xo_ok{t0:Addr}(q:h.get? e=some ⟨.ref C,d,.fields #[.ref t0,.none,.none,.none,.bool false,.none],#[]⟩):jA6 P w H h e (XO e C d) :=
 ⟨⟨t0,q⟩,⟨_,q⟩,fun _ _ ⟨t,z⟩ k=>⟨t,k _ z⟩⟩
theorem xc_ok{vs:Array Value}{sl:Array (Option Value)}(q:h.get? e=some ⟨.ref C,d,.fields vs,sl⟩)(c:vs[2]?=some .none):jA6 P w H h e (XC e C d) :=
 ⟨⟨vs,sl,q,c⟩,⟨_,q⟩,fun _ _ ⟨v,s,z,c⟩ k=>⟨v,s,k _ z,c⟩⟩
theorem xd_ok{mA:Str->Option Value}(l:fs.length<=1000)(n:h.Ns1 a mA)(r:∀ f,jBY (fs.lookup f) (mA f))(wi:PySem.Within mA (fs.map (·.1))):jA6 P w H h a (XD a fs) :=
 ⟨⟨l,mA,n,r,wi⟩,let ⟨o,_,_,q,_⟩:=n;⟨o,q⟩,fun _ _ ⟨l,m,n,r,z⟩ k=>⟨l,m,n.at k,r,z⟩⟩
theorem jHs(hok:HOk P w H h)(q:H e=some (XO e C d)):∃ t0,h.get? e=some ⟨.ref C,d,.fields #[.ref t0,.none,.none,.none,.bool false,.none],#[]⟩ :=
 (show jA6 P w H h e (XO e C d) from hok e _ q).1
theorem jNA(hok:HOk P w H h)(q:IsX H e C d):∃ vs sl,h.get? e=some ⟨.ref C,d,.fields vs,sl⟩/\vs[2]?=some .none:=by
 rcases q with q|q
 ·obtain⟨t,z⟩:=jHs hok q;exact⟨_,_,z,rfl⟩
 ·exact (show jA6 P w H h e (XC e C d) from hok e _ q).1
theorem jIH(hok:HOk P w H h)(q:IsX H e C d):∃ vs sl,h.get? e=some ⟨.ref C,d,.fields vs,sl⟩:=let ⟨vs,sl,z,_⟩:=jNA hok q;⟨vs,sl,z⟩
theorem jLg(hok:HOk P w H h)(q:H a=some (XD a fs)):fs.length<=1000/\∃ mA,h.Ns1 a mA/\(∀ f,jBY (fs.lookup f) (mA f))/\PySem.Within mA (fs.map (·.1)) :=
 (show jA6 P w H h a (XD a fs) from hok a _ q).1
end
structure jGI(K:PySem.W.Frag)(C:Addr):Prop where
 hd:PySem.W.hasDictIn K C=true
 po:PySem.W.excOver K C=true
 sa:PySem.W.findIn K (.ref C) "__setattr__"=some (some (.builtin "object.__setattr__"))
 ga:PySem.W.findIn K (.ref C) "__getattribute__"=some (some (.builtin "BaseException.__getattribute__"))
 gn:PySem.W.findIn K (.ref C) "__getattr__"=some none
section
variable {X:Cx}{pins:List (Addr×Obj)}{σ:St}{H:Hp}{s:Shared}{a C dx:Addr}{d:Option Addr}{fs:List (Str×V)}{f:Str}{v y:V}{u:Value}{A:Around}{E:Value->Shared->Prop}
theorem getX_ok{b:Bool}{Q:Value->Shared->Prop}(I:Inv X pins σ H s)(e:IsX H a C (some dx))(ed:H dx=some (XD dx fs))(c:jGI X.K C)(n:jAz X.K C f)(l:fs.lookup f=some v)
 (h:∀ u s',Inv X pins σ H s'->jAA v u->Q u s'):wpAny (model X.prog X.w) A (getAttr (.ref a) f b) Q E s:=by
 obtain⟨vs,sl,hx⟩:=jIH I.hok e
 obtain⟨_,mA,hn,r,_⟩:=jLg I.hok ed
 obtain⟨u,hu,ru⟩:=jBY.some_of (v:=v) (o:=mA f) (by rw [<- l];exact r f)
 obtain⟨od,ho,hl⟩:=lookIn_ns hn
 exact PySem.W.getX I.kIn (ox:=⟨.ref C,some dx,.fields vs,sl⟩) (od:=some od) ⟨hx,rfl,rfl,ho⟩ c.ga c.gn c.po (PySem.W.findObj_own c.hd n rfl (by rw [hl,hu])) (jJ5 ru) (h u _ (I.tok _) ru)
theorem jOf{Q:Unit->Shared->Prop}(I:Inv X pins σ H s)(e:H a=some (XO a C none))(c:jGI X.K C)(n:jAz X.K C f)(ry:jAA y u)
 (h:∀ dx s',H dx=none->dx≠a->Inv X pins σ (upd (upd H dx (XD dx [(f,y)])) a (XO a C (some dx))) s'->Q () s'):wpAny (model X.prog X.w) A (setAttr (.ref a) f u) Q E s:=by
 obtain⟨t0,hx⟩:=jHs I.hok e
 refine PySem.W.setX_new I.kIn hx c.sa c.po n.taker c.hd fun h' h1 h2 h3=>?_
 have hf:=I.hok.fresh (Nat.le_refl s.heap.objs.size)
 have hne:s.heap.objs.size≠a:=fun z=>by rw [z,e] at hf;cases hf
 obtain⟨od,es,ep,q1,q2,q3⟩:=id h2
 have hfr:od.isFreed=false:=(Heap.get?_some_iff.mp q1).2
 have g1:(s.heap.push od).get? s.heap.objs.size=some od:=Heap.get?_push_size s.heap hfr
 have I1:Inv X pins σ (upd H s.heap.objs.size (XD s.heap.objs.size [(f,y)])) { s with heap:=s.heap.push od,toks:=s.toks }:=by
  refine I.laid (fun b o q=>Heap.get?_push_of_some _ q) (Nat.le_refl _) (xd_ok (by simp) (h2.at fun o q=>?_) (fun g=>?_) (fun g hg=>?_))
  ·rw [q1] at q;cases q;exact g1
  ·show jBY ([(f,y)].lookup g) (if g=f then some u else none)
   by_cases z:g=f
   ·have hb:(g==f)=true:=beq_iff_eq.mpr z
    simp only [List.lookup,hb,if_pos z];exact ry
   ·have hb:(g==f)=false:=beq_eq_false_iff_ne.mpr z
    simp only [List.lookup,hb,if_neg z];exact True.intro
  ·by_cases z:g=f
   ·rw [z];exact .head _
   ·exact absurd (if_neg z) hg
 refine h s.heap.objs.size _ hf hne (I1.write (x:=a) (e:=a) (t':=s.toks+2) (h':=h') (by rw [jAi (Ne.symm hne),e];exact True.intro) (.inl rfl) (fun b o hb q=>?_) ⟨_,h1⟩ (xo_ok h1))
 by_cases z:b=s.heap.objs.size
 ·subst z;rw [g1] at q;cases q;exact q1
 ·have hb':s.heap.get? b=some o:=by rw [<- q];exact (Heap.get?_push_ne _ _ _ z).symm
  exact h3 b o hb hb'
theorem jOg{Q:Unit->Shared->Prop}(I:Inv X pins σ H s)(e:IsX H a C (some dx))(ed:H dx=some (XD dx fs))(hne:dx≠a)(c:jGI X.K C)(n:jAz X.K C f)(hl:fs.length<1000)(ry:jAA y u)
 (h:∀ s',Inv X pins σ (upd H dx (XD dx (jBd f y fs))) s'->Q () s'):wpAny (model X.prog X.w) A (setAttr (.ref a) f u) Q E s:=by
 obtain⟨vs,sl,hx⟩:=jIH I.hok e
 obtain⟨_,mA,hn,r,wi⟩:=jLg I.hok ed
 refine PySem.W.setX_old I.kIn hx hn hne c.sa c.po n.taker c.hd wi (by rw [List.length_map,sizeLine_eq];omega) fun h' h1 h2=>h _ ?_
 refine I.write (x:=dx) (e:=dx) (by rw [ed];exact True.intro) (.inl rfl) h2 (let ⟨o,_,_,q,_⟩:=h1;⟨o,q⟩) (xd_ok ?_ h1 (fun g=>?_) (fun g hg=>?_))
 ·have:=jFZ f y fs;omega
 ·show jBY ((jBd f y fs).lookup g) (if g=f then some u else mA g)
  rw [jFY]
  by_cases q:g=f
  ·rw [if_pos q,if_pos q];exact ry
  ·rw [if_neg q,if_neg q];exact r g
 ·by_cases q:g=f
  ·rw [q];exact (jEr f y fs).1
  ·refine (jEr f y fs).2 g (wi g fun z=>hg ?_)
   show (if g=f then some u else mA g)=none
   rw [if_neg q];exact z
end
end L2
namespace PySem.W
open PySem PySem.Spec PySem.Calls PyProof.Rows Builtin Builtin.ObjectAttr Builtin.Getset_descriptor
section
variable {prog:Program}{w:World}{A:Around}{K:Frag}{C x t0:Addr}{s:Shared}{E:Value->Shared->Prop}{od:Option Addr}{Q:Value->Shared->Prop}
theorem initX{us:List Value}(X:K.In s.heap)(hx:s.heap.get? x=some ⟨.ref C,od,.fields #[.ref t0,.none,.none,.none,.bool false,.none],#[]⟩)(e:excMk K C=true)(hz:us.length<=sizeLine)
 (h:∀ h',h'.get? x=some ⟨.ref C,od,.fields #[.ref s.heap.objs.size,.none,.none,.none,.bool false,.none],#[]⟩->(∀ b o,b≠x->s.heap.get? b=some o->h'.get? b=some o)->Q .none { s with heap:=h' }) :
 wpAny (model prog w) A (call (.builtin "ValueError.__init__") (.ref x::us)) Q E s:=by
 obtain⟨bm,⟨N,nm,q,bs,hdct,sn,sub,ab,col,dd,k0,k1,k2,k3,k5,hC⟩,T⟩:=jHq X e
 have FB:=PySem.F.excBase_ValueError
 obtain⟨hp,g,d,t,os⟩:=s
 refine wpAny_call (codeAny_call_builtin FB.init.plain FB.initEntry (wpAny_check_init_subT FB T hC hx rfl ?_))
 delta Builtin.«BaseException.__init__»
 dsimp only
 rw [if_neg (by simp)]
 unfold Builtin.BaseException.bexcPut newTuple
 have hx1:=Heap.get?_push_of_some (h:=hp) { cls:=.type "tuple",data:=.seq us.toArray } hx
 refine wpAny_bind (wpAny_newObj_type (wpAny_bind (wpAny_bind (wpAny_field hx1 rfl rfl (wpAny_bind (wpAny_setField hx1 rfl (by show 0<6;decide) ?_))))) (by show us.toArray.size<=sizeLine;rw [List.size_toArray];exact hz))
 refine wpAny_letGo (wpAny_pure (h _ ?_ fun b o hb hq=>?_))
 ·rw [Heap.get?_update_self _ hx1 rfl]
  rfl
 ·exact (Heap.get?_update_ne _ _ _ _ hb).trans (Heap.get?_push_of_some _ hq)
end
end PySem.W
namespace PySem.W
open PySem PySem.Spec PySem.Calls PyProof.Rows Builtin Builtin.ObjectAttr Builtin.Getset_descriptor
section
variable {prog:Program}{w:World}{A:Around}{K:Frag}{C x:Addr}{s:Shared}{E:Value->Shared->Prop}{ox:Obj}{od:Obj}
structure ClsAt(K:Frag)(C:Addr):Prop where
 hd:hasDictIn K C=true
 po:excOver K C=true
 ga:findIn K (.ref C) "__getattribute__"=some (some (.builtin "BaseException.__getattribute__"))
 gn:findIn K (.ref C) "__getattr__"=some none
 ca:findIn K (.ref C) "__class__"=some (some (.builtin "object.__class__"))
 cn:specialIn K (.builtin "object.__class__") "__get__"=some (some (.builtin "getset_descriptor.__get__"))
 ct:takesIn K (.builtin "object.__class__")=some true
theorem jIa{b:String}(hp:excOver K C=true)(hb:jEj.contains (.type b)=true):mroIn K C (.type b)=some true:=by
 obtain⟨cdt,hcd,hov⟩:=any_some hp
 have nem:cdt.mro.isEmpty=false:=by cases q:cdt.mro with|nil=>rw [q] at hov;cases hov|cons _ _=>rfl
 unfold mroIn;rw [hcd,Option.bind_some,if_neg (by rw [nem];decide),jIG hb hov]
theorem jNB{h:Heap}{g:Array GenState}{d:Drawn}{t:Nat}{os:OsState}{tk:Tok}{R:Result->Shared->Prop}(X:K.In h)(I:InstAt h x ox C (some od))(c:ClsAt K C)(hq:R (.ok (.ret (.ref C))) ⟨h,g,d,t,os⟩) :
 codeAny (model prog w) A (.call (.builtin "BaseException.__getattribute__") ⟨[.ref x,.str "__class__" tk],[]⟩) R ⟨h,g,d,t,os⟩:=by
 have hf:findObj K C (some od) "__class__"=some (.bind (.builtin "getset_descriptor.__get__") (.builtin "object.__class__")):=by
  have:=findObj_data (K:=K) (C:=C) (od:=od) (name:="__class__") (by obtain⟨cdt,hcd,_⟩:=any_some c.hd;rw [hcd];rfl) c.ca c.cn c.ct
  exact this
 have sub:Looks (model prog w) h (isInstance (.ref x) (.type "BaseException")) true:=I.type.andThen (looks_mroIn X (jIa c.po (by decide +kernel)))
 have l0:=I.type (M:=model prog w)
 have l1:=looks_find (M:=model prog w) X I hf
 refine codeAny_call_builtin (by decide +kernel) PySem.F.entry_bexc_ga (@check_slot (model prog w) _ _ _ "BaseException.__getattribute__" "BaseException" "__getattribute__" (.ref x) [.str "__class__" tk] [] _ (by decide +kernel) (by decide +kernel) sub (PySem.F.args_bexc_ga (.ref x) (.str "__class__" tk)) ?_)
 refine wpAny_bind (wpAny_pure (wpAny_bind (wpAny_pure (wpAny_bind (l0.at (wpAny_bind (l1.at ?_)))))))
 show wpAny _ _ (holding [Value.builtin "object.__class__"] (call (.builtin "getset_descriptor.__get__") [.builtin "object.__class__",.ref x,.ref C]) >>= ret) _ _ _
 refine wpAny_bind (wpAny_holding (wpAny_call ?_))
 refine class_get (s:=⟨h,g,d,t,os⟩) (ox:=ox) (od:=some od) X I (jIa c.po (by decide +kernel)) ?_
 exact wpAny_pure hq
theorem jMS{Q:Option Value->Shared->Prop}(X:K.In s.heap)(I:InstAt s.heap x ox C (some od))(c:ClsAt K C)(h:Q (some (.ref C)) { s with toks:=s.toks+1 }):wpAny (model prog w) A (getAttr? (.ref x) "__class__") Q E s:=by
 obtain⟨hp',g,d,t,os⟩:=s
 have l0:=I.type (M:=model prog w)
 have l1:=looks_findIn (M:=model prog w) X c.ga
 have l2:=looks_findIn (M:=model prog w) X c.gn
 have f3:bindSpecial (.builtin "BaseException.__getattribute__") (.ref x)=pure (.builtin "BaseException.__getattribute__",[.ref x]) :=
  (Slot.of (T:="ValueError") (name:="__getattribute__") (owner:="BaseException") (n:="__getattribute__") (by rw [typeLookup_type,builtinLookup_eq_fast];kernel_rfl) (by decide +kernel) (by decide +kernel) (by decide +kernel)
   (.inl (by decide +kernel)) (by rw [isSubtype_type];kernel_rfl)).bind (.ref x)
 have hx0:(false&&onTheHeap (Value.builtin "BaseException.__getattribute__"))=false:=rfl
 have hx2:(onTheHeap (Value.ref C)&&Value.builtin "BaseException.__getattribute__" == Value.builtin "object.__getattribute__")=false:=by
  rw [show (Value.builtin "BaseException.__getattribute__" == Value.builtin "object.__getattribute__")=false by decide +kernel,Bool.and_false]
 unfold getAttr? getAttrBy?
 unfold getAttrBy
 refine wpAny_bind (wpAny_mkText (wpAny_bind (wpAny_attempt (wpAny_holding (wpAny_bind (l0.at (wpAny_bind (l1.at ?_))))))))
 dsimp only at l0 l1 l2 X I h ⊢
 rw [hx2,if_neg Bool.false_ne_true]
 unfold getAttrByItsOwn
 refine wpAny_bind (l2.at ?_)
 repeat (any_goals first|assumption|wp_step)
 refine jNB X I c ?_
 show wpAny _ _ (handedOut (Value.ref C)) _ _ _
 rw [handedOut_of rfl]
 exact (wpAny_pure (wpAny_pure h))
theorem kitx_X(c:ClsAt K C):KitX K (.ref x) (.ref C) (fun h=>InstAt h x ox C (some od)) where
 ty:=fun _ _ _ I=>I.type
 it:=fun _ _ X _=>by
  obtain⟨cdD,hcE,_⟩:=any_some c.hd
  unfold clsIn at hcE
  split at hcE
  ·rename_i c' d' cd' sl' hov
   intro A' Q' E' s' k q
   unfold isType loadHead
   exact wpAny_bind (wpAny_loadPart (k _ _ (X _ _ hov)) (wpAny_pure q))
  ·cases hcE
 ne:=fun h tp dd its n sl X htq=>by
  obtain⟨cdD,hcE,_⟩:=any_some c.hd
  refine Bool.eq_false_iff.mpr fun qq=>?_
  have e:C=tp:=Value.ref.inj (beq_iff_eq.mp qq)
  subst e
  unfold clsIn at hcE
  split at hcE
  ·rename_i c' d' cd' sl' hov
   have z:=(X _ _ hov).symm.trans htq
   cases z
  ·cases hcE
 ca:=fun X I k=>jMS X I c k
end
end PySem.W
namespace L2
open PySem PyProof.Rows PySem.Spec PySem.Calls
theorem jGI.at{K:PySem.W.Frag}{C:Addr}(c:jGI K C)(ca:PySem.W.findIn K (.ref C) "__class__"=some (some (.builtin "object.__class__")))
 (cn:PySem.W.specialIn K (.builtin "object.__class__") "__get__"=some (some (.builtin "getset_descriptor.__get__"))) (ct:PySem.W.takesIn K (.builtin "object.__class__")=some true):PySem.W.ClsAt K C :=
 ⟨c.hd,c.po,c.ga,c.gn,ca,cn,ct⟩
theorem jOh{H:Hp}{a:Addr}{o:HO}(e:H a=some o):upd H a o=H:=by
 funext b
 unfold upd
 by_cases q:b=a
 ·rw [if_pos q,q,e]
 ·rw [if_neg q]
structure MkX(K:PySem.W.Frag)(C f:Addr):Prop where
 makes:PySem.W.excMk K C=true
 init:PySem.W.findIn K (.ref C) "__init__"=some (some (.ref f))
 fn:PySem.W.isFn K (.ref f)=true
 kp:PySem.W.keepIn K (.ref C)=true
def jNC(C:Addr)(sp:Sp)(E:XK)(t:TA):TE:=fun σ H Q=>t σ H fun vs H1=>∀ x,H1 x=none->sp (.ref x::vs) (upd H1 x (XO x C none)) (fun v H2=>v=.non/\Q (.ref x) H2) E
section
variable {X:Cx}{CX:CXT}{k:Nat}{f C:Addr}{fd:FuncData}{ps:List Str}{sp:Sp}{E:XK}{x m:Str}{p pos apos:Pos}{e o:Expr}{es:List Expr}{ta:TE}{t:TA}
theorem Inv.madeX{pins:List (Addr×Obj)}{σ:St}{H:Hp}{s:Shared}{us:List Value}(I:Inv X pins σ H s) :
 Inv X pins σ (upd H (s.heap.objs.size+1) (XO (s.heap.objs.size+1) C none)) { s with heap:=(s.heap.push (PySem.W.excTup us)).push (PySem.W.excNew C s.heap.objs.size) }:=by
 have e2:((s.heap.push (PySem.W.excTup us)).push (PySem.W.excNew C s.heap.objs.size)).get? (s.heap.objs.size+1)=some (PySem.W.excNew C s.heap.objs.size):=by
  have:=Heap.get?_push_size (s.heap.push (PySem.W.excTup us)) (o:=PySem.W.excNew C s.heap.objs.size) rfl
  rwa [Heap.size_push] at this
 have I1:=I.kept (h':=s.heap.push (PySem.W.excTup us)) (t':=s.toks) (fun b u q=>Heap.get?_push_of_some _ q)
 exact I1.laid (a:=s.heap.objs.size+1) (t':=s.toks) (fun b u q=>Heap.get?_push_of_some _ q) (Nat.le_of_eq (Heap.size_push _ _)) (xo_ok e2)
theorem jND{pins:List (Addr×Obj)}{σ:St}{H:Hp}{s:Shared}{Q:VK}{us:List Value}{vs:List V}(M:MkX X.K C f)(F:jAr X.prog X.w X.K X.mg X.base CX k f fd ps sp)(hr:jAZ (k+1) X.A)(hb:jBw X.K fd ps [])
 (hx:jEs CX X E) (hz:ps.length<=1000) (I:Inv X pins σ H s) (r:jAH vs us)
 (h:∀ x,H x=none->sp (.ref x::vs) (upd H x (XO x C none)) (fun v H2=>v=.non/\Q (.ref x) H2) E) :
 wpAny (model X.prog X.w) X.A (call (.ref C) us) (EP X pins σ Q) X.xe s:=by
 have hq:=h (s.heap.objs.size+1) (I.hok.fresh (Nat.le_succ _))
 have I2:=Inv.madeX (C:=C) (us:=us) I
 have r2:jAH (V.ref (s.heap.objs.size+1)::vs) (Value.ref (s.heap.objs.size+1)::us):=.cons rfl r
 have hl:(Value.ref (s.heap.objs.size+1)::us).length=ps.length:=by
  have e:=r2.length
  rw [F.len _ _ _ _ hq] at e
  exact e.symm
 have hb2:=hb { s with heap:=(s.heap.push (PySem.W.excTup us)).push (PySem.W.excNew C s.heap.objs.size) } (Value.ref (s.heap.objs.size+1)::us) I2.kIn (by rw [List.append_nil];exact hl)
 rw [List.append_nil] at hb2
 refine wpAny_call (PySem.W.make_X (f:=f) I.kIn M.makes M.init (beq_iff_eq.mp M.fn) (by rw [List.length_cons] at hl;rw [sizeLine_eq];omega) (codeAny_mono (F.run _ X.stack _ _ ⟨Value.ref (s.heap.objs.size+1)::us,[]⟩ (Value.ref (s.heap.objs.size+1)::us) _ _ E (hr.make C us [])
  (I2.env0.make C us []) hb2 r2 hq) fun r s' hq'=>?_))
 cases r with
 | error e=>exact hx pins σ _ _ e s' I2 hq'
 | ok fl =>
   cases fl with
   | ret u =>
     obtain⟨v,H',I3,rv,ev,q3⟩:=I2.after hq'
     subst ev
     exact⟨rv,⟨V.ref (s.heap.objs.size+1),H',I3,rfl,q3⟩⟩
   | next=>exact False.elim hq'
   | brk=>exact False.elim hq'
   | cont=>exact False.elim hq'
theorem jOi(M:MkX X.K C f)(F:jAr X.prog X.w X.K X.mg X.base CX k f fd ps sp)(hr:jAZ (k+1) X.A)(hg:Gl X x)(hm:X.mg x=some (.ref C))(hb:jBw X.K fd ps [])(hx:jEs CX X E)(hz:ps.length<=1000)
 (ha:PA X (e::es) t) (hdb:(x==("__debug__":Str))=false:=by decide) (he:starEach (e::es) X.env=(false,eval e X.env)::starEach es X.env:=by rfl) (hpl:(backTo pos (starEach es X.env)).any (·.1)=false:=by rfl) :
 PE X (.Call (.Name x p) (e::es) [] pos) (jNC C sp E t):=by
 intro pins s σ H Q I h
 refine wpAny_Call_Name_kw (jCF I hg hm ?_ hdb)
 refine PySem.W.callWith_K (h₀:=X.base) I.ok.mod.kin M.kp (thn (ha pos pins s σ H _ I h) fun us s1 ⟨vs,H1,I1,r,q⟩=>⟨I1.kIn,?_⟩) he hpl
 exact jND M F hr hb hx hz I1 r q
structure InX(K:PySem.W.Frag)(B:Addr):Prop where
 sp:PySem.W.specialIn K (.ref B) "__getattribute__"=some (some (.builtin "type.__getattribute__"))
 rd:PySem.W.readsIn K B (.type "type")=true
 fc:PySem.W.findCls K (.ref B) (.type "type") "__init__"=some (.val (.builtin "ValueError.__init__"))
inductive ItInX(K:PySem.W.Frag)(Q:VK)(vs:List V)(H1:Hp):Prop|mk a C d xs:vs=.ref a::xs->xs.length<=1000->H1 a=some (XO a C d)->PySem.W.excMk K C=true->Q .non H1->ItInX K Q vs H1
def tInX(K:PySem.W.Frag)(t:TA):TE:=fun σ H Q=>t σ H fun vs H1=>ItInX K Q vs H1
theorem jDM{B:Addr}{pl:Sem Bool}(J:InX X.K B)(hg:Gl X x)(hm:X.mg x=some (.ref B))(ha:PA X (e::es) t)(hdb:(x==("__debug__":Str))=false:=by decide)
 (hst:starEach (e::es) X.env=(false,eval e X.env)::starEach es X.env:=by rfl) (hpl:(backTo pos (starEach es X.env)).any (·.1)=false:=by rfl)
 (ht:eval (.Call (.Attribute (.Name x p) "__init__" apos) (e::es) [] pos) X.env=(do
  let ov <- eval (.Name x p) X.env
  standAt apos.atName
  let (f,first) <- holding [ov] (getMethod ov "__init__" pl)
  callWith pos f first (backTo pos (starEach (e::es) X.env)) (backToKw pos (keywordEach [] X.env))):=by rfl) :
 PE X (.Call (.Attribute (.Name x p) "__init__" apos) (e::es) [] pos) (tInX X.K t):=by
 intro pins s σ H Q I h
 refine PySem.W.methodCall_KW (pl:=pl) (jCF I hg hm ?_ hdb) ht
 refine PySem.W.method_cls I.kIn J.sp (PySem.W.cls_value I.kIn J.rd J.fc rfl ?_)
 have hA:=ha pos pins _ σ H _ (I.tok (s.toks+1)) h
 show wpAny _ _ (callWith pos (.builtin "ValueError.__init__") [] (backTo pos (starEach (e::es) X.env)) []) _ _ _
 rw [hst] at hA ⊢
 refine Calls.callWith_builtin (by show (false||(backTo pos (starEach es X.env)).any (·.1))=false;rw [hpl]<;>rfl) (Calls.evalArgs_plain ?_)
 refine thn hA fun us s2 ⟨vs,H2,I2,r2,a,C,d,xs,ev,hl,ea,mk,q⟩=>?_
 subst ev
 cases r2 with
 | cons ru rr =>
   cases ru
   obtain⟨t0,hx⟩:=jHs I2.hok ea
   refine PySem.W.initX I2.kIn hx mk (by rw [<- rr.length,sizeLine_eq];omega) fun h' h1 h2=>⟨.non,H2,?_,rfl,q⟩
   have:=I2.write (x:=a) (e:=a) (o:=XO a C d) (t':=s2.toks) (h':=h') (by rw [ea];exact True.intro) (.inl rfl) h2 ⟨_,h1⟩ (xo_ok h1)
   rwa [jOh ea] at this
end
def XF(H:Hp)(e C:Addr)(fs:List (Str×V)):Prop:=∃ dx,H e=some (XO e C (some dx))/\H dx=some (XD dx fs)/\dx≠e
def sFldX(K:PySem.W.Frag)(ta tv:TE)(f:Str):TS:=fun D σ H=>tv σ H fun y H1=>ta σ H1 fun x H2 =>
 (∃ a C,x=.ref a/\H2 a=some (XO a C none)/\jGI K C/\jAz K C f/\∀ dx,H2 dx=none->dx≠a->D.nx σ (upd (upd H2 dx (XD dx [(f,y)])) a (XO a C (some dx)))) \/
 (∃ a C dx fs,x=.ref a/\IsX H2 a C (some dx)/\H2 dx=some (XD dx fs)/\dx≠a/\jGI K C/\jAz K C f/\fs.length<1000/\D.nx σ (upd H2 dx (XD dx (jBd f y fs))))
structure ClsI(K:PySem.W.Frag)(C:Addr):Prop where
 c:jGI K C
 ca:PySem.W.findIn K (.ref C) "__class__"=some (some (.builtin "object.__class__"))
 cn:PySem.W.specialIn K (.builtin "object.__class__") "__get__"=some (some (.builtin "getset_descriptor.__get__"))
 ct:PySem.W.takesIn K (.builtin "object.__class__")=some true
def clV:V->Value
 | .ref a=>.ref a
 | .ty n=>.type n
 | _=>.none
def rUpd:V->List V->Hp->VK->Prop:=fun x vs H Q=>∃ d e kvs more,x=.ref d/\vs=[.ref e]/\H d=some (.dK kvs)/\H e=some (.dK more)/\d≠e/\kvs.length+more.length<=1000/\Q .non (upd H d (.dK (jB5 kvs more)))
section
variable {X:Cx}{o e value:Expr}{f:Str}{pos pos' tpos:Pos}{ta tv:TE}
theorem jFb(ha:PE X o ta)(hv:PE X value tv)(hs:swapsWith value (some (.Attribute o f pos')) pos.line X.env=pure false):PS X (.Assign [.Attribute o f pos'] value pos) (sFldX X.K ta tv f):=by
 intro pins s σ H D I h
 refine plainObj_wpAny_Assign_Attribute (thn (hv pins s σ H _ I h) fun u s1 ⟨y,H1,I1,ry,q⟩=>thn (ha pins s1 σ H1 _ I1 q) fun ov s2 ⟨x,H2,I2,rx,q2⟩=>?_) hs
 rcases q2 with⟨a,C,ex,ea,c,n,q3⟩|⟨a,C,dx,fs,ex,ea,ed,ne,c,n,l,q3⟩
 ·subst ex
  obtain rfl:ov=Value.ref a:=rx
  exact jOf I2 ea c n ry fun dx s3 h1 h2 I3=>⟨σ,_,I3,q3 dx h1 h2⟩
 ·subst ex
  obtain rfl:ov=Value.ref a:=rx
  exact jOg I2 ea ed ne c n l ry fun s3 I3=>⟨σ,_,I3,q3⟩
theorem jKl:MtR X "dict.update" rUpd:=by
 intro pins s σ H x vs v us Q I rx rv h
 obtain⟨d,e,kvs,more,rfl,rfl,hd,he,ne,hz,q⟩:=h
 cases rx
 obtain⟨u,rfl,r1⟩:=jCV rv
 cases (show u=Value.ref e from r1)
 obtain⟨z1,m1,vs1,k1,d1⟩:=jKV I.hok hd
 obtain⟨z2,m2,vs2,k2,d2⟩:=jKV I.hok he
 have l1:=k1.length
 have l2:=k2.length
 refine call_meetsIn PySem.F.slot_dict_update d1.typeIs PySem.F.entry_dict_update (PySem.F.args_dict_update_2 _ _) (meets_dict_update (jA4 X.prog X.w) d e ne m2)
  ⟨vs1,vs2,d1,d2,(by rw [<- l1,<- l2,sizeLine_eq];omega),fun h' hm _ hs=>⟨.non,_,?_,rfl,q⟩⟩
 have hl:(jB5 kvs more).length<=sizeLine:=by
  have:=jEC more kvs
  rw [sizeLine_eq];omega
 exact jHK I (by rw [hd];exact True.intro) hs (let ⟨o,_,_,hq,_⟩:=hm;⟨o,hq⟩) (jHo hl m1 (k2.merge k1) hm)
end
def Deq(K:PySem.W.Frag)(H:Hp):Nat->V->V->Prop
 | 0,x,y=>x=y/\jCf x=true
 | n+1,x,y=>(x=y/\jCf x=true)\/∃ a b xs ys,x=.ref a/\y=.ref b/\((SqL K H a xs/\SqL K H b ys)\/(SqT K H a xs/\SqT K H b ys))/\xs.length=ys.length/\∀ j,j<xs.length->Deq K H n (xs.getD j .non) (ys.getD j .non)
theorem jDN{X:Cx}{pins:List (Addr×Obj)}{σ:St}{H:Hp}{s:Shared}(I:Inv X pins σ H s):∀ (n:Nat) (A:Around) (x y:V) (u v:Value),A.units+n<cLine->Deq X.K H n x y->jAA x u->jAA y v->SeqAt.EqAt A s u v true
 | 0,A,x,y,u,v,_,⟨e,f⟩,rx,ry=>by
   subst e
   have:=jHm (A:=A) (s:=s) rx ry f f
   rwa [jLd f] at this
 | n+1,A,x,y,u,v,hu,h,rx,ry=>by
   rcases h with⟨e,f⟩|⟨a,b,xs,ys,rfl,rfl,hs,hl,he⟩
   ·subst e
    have:=jHm (A:=A) (s:=s) rx ry f f
    rwa [jLd f] at this
   ·cases rx
    cases ry
    by_cases hab:a=b
    ·subst hab;exact SeqAt.EqAt.same _
    have hu1:A.in1.units+n<cLine:=by
     have:A.in1.units=A.units+1:=by first|rfl|exact Around.units_in1 A
     omega
    refine SeqAt.EqAt.of_refs hab ?_
    rcases hs with⟨h1,h2⟩|⟨h1,h2⟩
    ·obtain⟨its,r1,l1,_⟩:=I.list h1
     obtain⟨jts,r2,l2,_⟩:=I.list h2
     have e1:=r1.length
     have e2:=r2.length
     have:=SeqAt.RcAt.lists (A:=A) (e:=fun _=>true) l1.isList l2.isList (by simp;omega) (by omega) (fun j q1 q2=>jDN I n A.in1 _ _ _ _ hu1 (he j (by simp at q1;omega)) (jBl r1 j q1) (jBl r2 j q2))
     rwa [show (List.range its.toArray.size).all (fun _=>true)=true from List.all_eq_true.mpr fun _ _=>rfl] at this
    ·obtain⟨its,r1,l1,_⟩:=I.tuple h1
     obtain⟨jts,r2,l2,_⟩:=I.tuple h2
     have e1:=r1.length
     have e2:=r2.length
     have:=SeqAt.RcAt.tuples (A:=A) (e:=fun _=>true) l1 l2 (by omega) (fun j q1 q2=>jDN I n A.in1 _ _ _ _ hu1 (he j (by simp at q1;omega)) (jBl r1 j q1) (jBl r2 j q2))
     rw [show (List.range (min its.toArray.size jts.toArray.size)).all (fun _=>true)=true from List.all_eq_true.mpr fun _ _=>rfl,Bool.true_and,beq_iff_eq.mpr (by simp;omega)] at this
     exact this
structure jCY(P:Program)(w:World)(K:PySem.W.Frag)(mg:Str->Option Value)(base:Heap)(k:Nat)(x:Str)(C:Addr)(ps:List Str)(sp:Sp):Prop where
 ex:∃ f fd,MkX K C f/\jAr P w K mg base CX0 k f fd ps sp/\jBw K fd ps []/\mg x=some (.ref C)
 few:ps.length<=1000
theorem jBm{X:Cx}{k:Nat}{x:Str}{C:Addr}{ps:List Str}{sp:Sp}{e:Expr}{es:List Expr}{t:TA}{p pos:Pos}(D:jCY X.prog X.w X.K X.mg X.base k x C ps sp)(hr:jAZ (k+1) X.A)(hg:Gl X x)(ha:PA X (e::es) t)(hdb:(x==("__debug__":Str))=false:=by decide)
 (he:starEach (e::es) X.env=(false,eval e X.env)::starEach es X.env:=by rfl) (hpl:(backTo pos (starEach es X.env)).any (·.1)=false:=by rfl):PE X (.Call (.Name x p) (e::es) [] pos) (jNC C sp E0 t):=by
 obtain⟨f,fd,M,F,b,m⟩:=D.ex
 exact jOi M F hr hg m b jIC D.few ha hdb he hpl
def xcls(K:PySem.W.Frag)(C:Addr)(fs:List Str):Bool :=
 PySem.W.hasDictIn K C&&PySem.W.excOver K C&&PySem.W.findIn K (.ref C) "__setattr__" == some (some (.builtin "object.__setattr__"))&&PySem.W.findIn K (.ref C) "__getattribute__" == some (some (.builtin "BaseException.__getattribute__")) &&
 PySem.W.findIn K (.ref C) "__getattr__" == some none&&PySem.W.findIn K (.ref C) "__class__" == some (some (.builtin "object.__class__"))&&fs.all fun f=>PySem.W.findIn K (.ref C) f==some none
structure XCl(K:PySem.W.Frag)(C:Addr)(fs:List Str):Prop where
 i:ClsI K C
 n:∀ f∈fs,jAz K C f
 m:PySem.W.excMk K C=true
theorem XCl.of{K:PySem.W.Frag}{C:Addr}{fs:List Str}(h:xcls K C fs=true)(m:PySem.W.excMk K C=true)(cn:PySem.W.specialIn K (.builtin "object.__class__") "__get__"=some (some (.builtin "getset_descriptor.__get__")))(ct:PySem.W.takesIn K (.builtin "object.__class__")=some true):XCl K C fs:=by
 unfold xcls at h
 simp only [Bool.and_eq_true,beq_iff_eq,List.all_eq_true] at h
 obtain⟨⟨⟨⟨⟨⟨h1,h2⟩,h3⟩,h4⟩,h5⟩,h6⟩,h7⟩:=h
 exact⟨⟨⟨h1,h2,h3,h4,h5⟩,h6,cn,ct⟩,fun f hf=>h7 f hf,m⟩
theorem jKx:bootBuiltins "ValueError"=some (.type "ValueError"):=by decide +kernel
def jII(K:PySem.W.Frag)(cs:List Addr)(b:Addr):Bool :=
 (List.range cs.length).all fun i=>PySem.W.kitOne K (.ref (cs.getD i 0)) (.ref b)==some true&&PySem.W.kitOne K (.ref (cs.getD i 0)) (.type "ValueError")==some true&&(List.range cs.length).all fun j=>PySem.W.kitOne K (.ref (cs.getD i 0)) (.ref (cs.getD j 0))==some (i==j)
theorem jCH{K:PySem.W.Frag}{cs:List Addr}{b:Addr}{i:Nat}(h:jII K cs b=true)(hi:i<cs.length):PySem.W.kitOne K (.ref (cs.getD i 0)) (.type "ValueError")=some true:=by
 have q:=List.all_eq_true.mp h i (List.mem_range.mpr hi)
 simp only [beq_iff_eq,Bool.and_eq_true] at q
 exact q.1.2
theorem jCI{K:PySem.W.Frag}{cs:List Addr}{b:Addr}{i j:Nat}(h:jII K cs b=true)(hi:i<cs.length)(hj:j<cs.length):PySem.W.kitOne K (.ref (cs.getD i 0)) (.ref (cs.getD j 0))=some (i==j):=by
 have q:=List.all_eq_true.mp h i (List.mem_range.mpr hi)
 simp only [beq_iff_eq,Bool.and_eq_true] at q
 exact beq_iff_eq.mp (List.all_eq_true.mp q.2 j (List.mem_range.mpr hj))
theorem jMT{kvs:List (Key×V)}{k:Key}{v:V}(h:k ∉ kvs.map (·.1)):jB7 kvs k v=kvs++[(k,v)]:=by
 unfold jB7
 rw [if_neg]
 intro e
 obtain⟨p,hp,he⟩:=List.any_eq_true.mp e
 exact h (List.mem_map.mpr ⟨p,hp,of_decide_eq_true he⟩)
theorem jCJ:∀ {more kvs:List (Key×V)} {ks:List Key},kvs.map (·.1)++more.map (·.1)=ks->ks.Nodup->jB5 kvs more=kvs++more
 | [],kvs,ks,_,_=>(List.append_nil _).symm
 | p::r,kvs,ks,e,n=>by
   subst e
   have hn:p.1 ∉ kvs.map (·.1):=fun z=>by
    rw [List.map_cons,List.nodup_append] at n
    exact n.2.2 _ z _ (.head _) rfl
   show jB5 (jB7 kvs p.1 p.2) r=_
   rw [jMT hn,jCJ (more:=r) (kvs:=kvs++[(p.1,p.2)]) rfl (by rw [List.map_append,List.append_assoc];exact n),List.append_assoc]
   rfl
end L2
namespace PySem.W
open PySem
structure Noted(e:Addr)(cl:Value)(d:Option Addr)(fr:List Addr)(off:Addr->Prop)(h h':Heap):Prop where
 exc:∃ vs sl T oT ts,h'.get? e=some ⟨cl,d,.fields vs,sl⟩/\vs[1]?=some (.ref T)/\T≠e/\h.objs.size<=T/\h'.get? T=some oT/\oT.data=.fields ts/\ts[3]?=some .none
 keep:∀ b o,b≠e->¬ off b->b ∉ fr->h.get? b=some o->h'.get? b=some o
 slot:∀ b o,b≠e->¬ off b->h.get? b=some o->∃ sl,h'.get? b=some { o with slots:=sl }
 ctx:∀ o o' vs vs',h.get? e=some o->h'.get? e=some o'->o.data=.fields vs->o'.data=.fields vs'->vs'[2]?=vs[2]?
abbrev jKY(ws:Array Value):Obj:={ cls:=.type "traceback",dict:=none,data:=.fields ws }
section
variable {M:Model}{E:Value->Shared->Prop}{A:Around}{s:Shared}
theorem jKm{bh:Heap}{env:Env}{outer:List Env}{L e:Addr}{cl head:Value}{d:Option Addr}{vs:Array Value}{sl:Array (Option Value)}{hadNext:Bool}{Q:Unit->Shared->Prop}
 (hA:A.frames=some (env::outer)) (hl:s.heap.FunFrames bh (env::outer)) (hf:env.frame=some L) (he:s.heap.get? e=some ⟨cl,d,.fields vs,sl⟩) (hz:1<vs.size)
 (k:∀ h',Noted e cl d ((env::outer).filterMap (·.frame)) (fun _=>False) s.heap h'->Q () { s with heap:=h' }) :
 wpAny M A (do let fo <- frameOf env;let pl <- entryPlaceOf L hadNext;let tb <- EntryCells.newEntry head fo .none (rawInt L) .none pl;setField (.ref e) 1 tb) (fun _ s1=>wpAny M A (setFlight (.ref e) none) Q E s1) E s:=by
 have eno:e ∉ (env::outer).filterMap (·.frame):=fun z=>by
  obtain⟨_,ob,q1,q2⟩:=hl.mem z
  rw [he] at q1
  cases q1
  exact q2 vs rfl
 refine wpAny_bind (wpAny_frameOf_fun hA hl hf fun g so=>?_)
 refine wpAny_bind (wpAny_entryPlaceOf fun pla hpl=>?_)
 unfold EntryCells.newEntry;unfold newFields
 refine (wpAny_bind (wpAny_newObj_type ?_ (hpl.sizeOk5 _ _ _ _ _)))
 generalize hws:([head,.ref L,.none,rawInt L,.none]++(if pla.isEmpty then List.replicate 6 Value.none else pla)).toArray=ws
 have wz:3<ws.size:=by
  rw [<- hws]
  simp only [List.size_toArray,List.length_append,List.length_cons,List.length_nil]
  omega
 have e1:g.get? e=some ⟨cl,d,.fields vs,sl⟩:=(so.2.1 e eno).trans he
 have nT:g.objs.size≠e:=Nat.ne_of_gt (Heap.lt_size e1)
 have e2:(g.push (jKY ws)).get? e=_:=Heap.get?_push_of_some (h:=g) (jKY ws) e1
 refine wpAny_setField e2 rfl hz ?_
 generalize hu:(g.push (jKY ws)).update e (Obj.mapFields (·.setIfInBounds 1 (Value.ref g.objs.size)))=g2
 have e3:g2.get? e=some ⟨cl,d,.fields (vs.setIfInBounds 1 (.ref g.objs.size)),sl⟩:=by
  rw [<- hu]
  exact Heap.get?_update_self _ e2 rfl
 have t3:g2.get? g.objs.size=some (jKY ws):=by
  rw [<- hu,Heap.get?_update_other _ _ (Ne.symm nT)]
  exact Heap.get?_push_size g rfl
 have o3:∀ b ob,b≠e->g.get? b=some ob->g2.get? b=some ob:=fun b ob hb q=>by
  rw [<- hu,Heap.get?_update_other _ _ (Ne.symm hb)]
  exact Heap.get?_push_of_some _ q
 unfold setFlight
 refine wpAny_bind (wpAny_field e3 rfl (x:=.ref g.objs.size) (by simp [hz]) ?_)
 rw [if_pos (by simp)]
 refine wpAny_setField t3 rfl wz (k _ ⟨?_,fun b ob hb _ hx q=>?_,fun b ob hb _ q=>?_,fun o o' ws' vs' q1 q2 q3 q4=>?_⟩)
 ·refine⟨vs.setIfInBounds 1 (.ref g.objs.size),sl,g.objs.size,_,_,?_,by simp [hz],nT,?_,Heap.get?_update_self _ t3 rfl,rfl,by simp [wz]⟩
  ·rw [Heap.get?_update_other _ _ nT]
   exact e3
  ·exact Nat.le_of_eq so.1.symm
 ·have q1:g.get? b=some ob:=(so.2.1 b hx).trans q
  rw [Heap.get?_update_other _ _ (Nat.ne_of_gt (Heap.lt_size q1))]
  exact o3 b ob hb q1
 ·obtain⟨s1,q1⟩:=so.2.2 b ob q
  exists s1
  rw [Heap.get?_update_other _ _ (Nat.ne_of_gt (Heap.lt_size q1))]
  exact o3 b _ hb q1
 ·rw [Heap.get?_update_other _ _ nT,e3] at q2
  rw [he] at q1
  cases q1
  cases q2
  cases q3
  cases q4
  simp
def HeadAt(h:Heap)(e T:Addr):Prop:=T≠e/\∃ oT ts,h.get? T=some oT/\oT.data=.fields ts/\ts[3]?=some .none
theorem note_fly{bh:Heap}{env:Env}{outer:List Env}{L e:Addr}{cl:Value}{d:Option Addr}{vs:Array Value}{sl:Array (Option Value)}{off:Addr->Prop}{Q:Unit->Shared->Prop}
 (hA:A.frames=some (env::outer)) (hl:s.heap.FunFrames bh (env::outer)) (hf:env.frame=some L) (he:s.heap.get? e=some ⟨cl,d,.fields vs,sl⟩)
 (hv:vs[1]?=some .none\/∃ T,vs[1]?=some (.ref T)/\HeadAt s.heap e T/\off T)
 (k:∀ h',Noted e cl d ((env::outer).filterMap (·.frame)) off s.heap h'->Q () { s with heap:=h' }) :
 wpAny M A (noteFrame (.ref e) env) (fun _ s1=>wpAny M A (setFlight (.ref e) none) Q E s1) E s:=by
 unfold noteFrame
 simp only [hf]
 rcases hv with hv|⟨T,hv,⟨nT,oT,ts,hT,dT,h3⟩,ho⟩
 ·refine wpAny_bind (wpAny_field he rfl hv ?_)
  rw [if_neg (by decide)]
  exact jKm hA hl hf he (Array.getElem?_eq_some_iff.mp hv).1 fun h' n=>k h' ⟨n.exc,fun b o h1 _=>n.keep b o h1 (fun z=>z),fun b o h1 _=>n.slot b o h1 (fun z=>z),n.ctx⟩
 ·refine wpAny_bind (wpAny_field he rfl hv ?_)
  rw [if_pos (by simp)]
  refine wpAny_bind (wpAny_field hT dT h3 ?_)
  rw [if_neg (by simp [rawInt])]
  refine wpAny_bind (wpAny_setField hT dT (Array.getElem?_eq_some_iff.mp h3).1 ?_)
  generalize hu:s.heap.update T (Obj.mapFields (·.setIfInBounds 3 Value.none))=g
  have oth:∀ b,b≠T->g.get? b=s.heap.get? b:=fun b hb=>by rw [<- hu];exact Heap.get?_update_other _ _ (Ne.symm hb)
  have hz:g.objs.size=s.heap.objs.size:=by rw [<- hu];exact Heap.size_after_update ..
  refine jKm (s:={ s with heap:=g }) hA (hl.of_keeps fun b o q nf=>⟨o,(oth b fun z=>?_).trans q,rfl⟩) hf ((oth e (Ne.symm nT)).trans he) (Array.getElem?_eq_some_iff.mp hv).1 fun h' n=>k h' ⟨?_,fun b o h1 h2 h3 q=>?_,fun b o h1 h2 q=>?_,fun o o' ws vs' q1=>n.ctx o o' ws vs' ((oth e (Ne.symm nT)).trans q1)⟩
  ·rw [z,hT] at q
   cases q
   exact nf ts dT
  ·obtain⟨vs',sl',T',o',ts',x1,x2,x3,x4,x5⟩:=n.exc
   exact⟨vs',sl',T',o',ts',x1,x2,x3,by rw [<- hz];exact x4,x5⟩
  ·exact n.keep b o h1 (fun z=>z) h3 ((oth b fun z=>h2 (z ▸ ho)).trans q)
  ·exact n.slot b o h1 (fun z=>z) ((oth b fun z=>h2 (z ▸ ho)).trans q)
end
end PySem.W
namespace L2
open PySem PyProof.Rows PySem.Spec PySem.Calls
def TrX(n:Nat)(H:Hp)(ea:Addr)(h:Heap):Prop:=∃ cl d vs sl T,h.get? ea=some ⟨cl,d,.fields vs,sl⟩/\vs[1]?=some (.ref T)/\PySem.W.HeadAt h ea T/\n<=T/\H T=none
def CXe(P:Program)(w:World):CXT:=fun outer H s E e s'=>∃ ea C d H',e=.ref ea/\s'.os=s.os/\AllBare s'.gens/\Un (frs outer) [] H H' s.heap s'.heap/\HOk P w H' s'.heap/\H' ea=some (XC ea C d) /\
 TrX s.heap.objs.size H' ea s'.heap/\E (.ref C) (some ea) H'
def TrI(X:Cx)(pins:List (Addr×Obj))(H:Hp)(ea:Addr)(h:Heap):Prop:=∃ cl d vs sl T,h.get? ea=some ⟨cl,d,.fields vs,sl⟩/\vs[1]?=some (.ref T)/\PySem.W.HeadAt h ea T/\X.s₀.heap.objs.size<=T/\H T=none /\
 T≠X.env.locals/\(∀ x c,X.env.cells.lookup x=some c->c≠T)/\∀ p∈X.pn++pins,p.1≠T
structure Top(X:Cx):Prop where
 ex:X.ex=[]
 stk:X.stack=X.env::X.outer
 fr:X.env.frame=some X.env.locals
def jDe(X:Cx)(G:St->XK):Prop:=∀ (pins:List (Addr×Obj)) (σ:St) (H:Hp) (s:Shared) (e:Value) (s':Shared),Inv X pins σ H s->CXe X.prog X.w X.stack H s (G σ) e s'->X.xe e s'
def jMB(X:Cx)(G:St->XK):Prop:=∀ (pins:List (Addr×Obj)) (σ:St) (H:Hp) (s:Shared) (ea C:Addr) (d:Option Addr),Inv X pins σ H s->H ea=some (XO ea C d)->G σ (.ref C) (some ea) (upd H ea (XC ea C d))->X.xe (.ref ea) s
abbrev G0:St->XK:=fun _ _ _ _=>False
theorem jAL{X:Cx}:jDe X G0:=fun _ _ _ _ _ _ _ ⟨_,_,_,_,_,_,_,_,_,_,_,z⟩=>z.elim
section
variable {X:Cx}{pins:List (Addr×Obj)}{σ:St}{H H':Hp}{s s':Shared}{ea C:Addr}{d:Option Addr}{h':Heap}
theorem Inv.flew{E:XK}{e:Value}(I:Inv X pins σ H s)(c:CXe X.prog X.w X.stack H s E e s'):∃ ea C d H',e=.ref ea/\Inv X pins σ H' s'/\H' ea=some (XC ea C d)/\TrI X pins H' ea s'.heap/\E (.ref C) (some ea) H':=by
 obtain⟨ea,C,d,H',rfl,ho,hb,un,ok,hx,⟨cl,d',vs,sl,T,g1,g2,g3,g4,g5⟩,q⟩:=c
 refine⟨ea,C,d,H',rfl,I.call' ho un ok hb (fun b z=>absurd z (by simp)),hx,⟨cl,d',vs,sl,T,g1,g2,g3,Nat.le_trans I.sz g4,g5,fun z=>?_,fun x c hc z=>?_,fun p hp z=>?_⟩,q⟩
 ·have lt:=I.lt
  rw [<- z] at lt
  exact absurd (Nat.lt_of_lt_of_le lt g4) (Nat.lt_irrefl _)
 ·obtain⟨v,o,q1,_⟩:=I.cell x c hc
  have lt:=Heap.lt_size q1
  rw [z] at lt
  exact absurd (Nat.lt_of_lt_of_le lt g4) (Nat.lt_irrefl _)
 ·have lt:=Heap.lt_size (I.pin p hp).1
  rw [z] at lt
  exact absurd (Nat.lt_of_lt_of_le lt g4) (Nat.lt_irrefl _)
theorem Inv.noted{off:Addr->Prop}(t:Top X)(I:Inv X pins σ H s)(hx:H ea=some (XC ea C d))
 (ht:∀ T,off T->X.s₀.heap.objs.size<=T/\H T=none/\T≠X.env.locals/\(∀ x c,X.env.cells.lookup x=some c->c≠T)/\∀ p∈X.pn++pins,p.1≠T) (h1:∀ T U,off T->off U->T=U)
 (n:PySem.W.Noted ea (.ref C) d (X.env::X.outer |>.filterMap (·.frame)) off s.heap h'):Inv X pins σ H { s with heap:=h' }/\TrI X pins H ea h':=by
 have fr:∀ b,b∈(X.env::X.outer).filterMap (·.frame) ↔ b=X.env.locals\/b∈X.fs:=fun b=>by
  rw [List.filterMap_cons,t.fr]
  exact List.mem_cons
 have frn:∀ b,b∈(X.env::X.outer).filterMap (·.frame)->H b=none:=fun b hb=>I.stkFree b (by rw [t.stk];exact hb)
 obtain⟨vs,sl,T,oT,ts,x1,x2,x3,x4,x5,x6,x7⟩:=n.exc
 have nea:∀ b,H b=none->b≠ea:=fun b hb z=>by rw [z,hx] at hb;cases hb
 obtain⟨ch,hch⟩:∃ ch:List Addr,(∀ b∈ch,off b)/\∀ b,off b->b∈ch:=by
  by_cases z:∃ T,off T
  ·obtain⟨T,hT⟩:=z
   exact⟨[T],fun b hb=>by rw [List.mem_singleton.mp hb];exact hT,fun b hb=>by rw [h1 b T hb hT];exact List.mem_singleton.mpr rfl⟩
  ·exact⟨[],fun b hb=>absurd hb (by simp),fun b hb=>absurd ⟨b,hb⟩ z⟩
 have I':Inv X pins σ H { s with heap:=h',gens:=s.gens,drawn:=s.drawn,toks:=s.toks }:=by
  refine I.step (ch:=ch) (fun b hb=>?_) (fun b o h1 h2 h3 q hn=>?_) (fun b o h1 h2 h3 q hn=>?_) (fun _ _ _ _ q=>q) (fun b o h3 q=>?_) (fun _ _ q=>q) (fun _ _ _ q=>q) (fun b ps q=>⟨#[],by rw [q];simp⟩) (fun m hm=>?_) (fun b u hb=>?_) I.bare
  ·obtain⟨a1,_,a3,a4,a5⟩:=ht b (hch.1 b hb)
   exact⟨.inr a1,a3,a4,a5⟩
  ·exact n.keep b o (nea b hn) (fun z=>h3 (hch.2 b z)) (fun z=>((fr b).mp z).elim h1 h2) q
  ·exact n.slot b o (nea b hn) (fun z=>h3 (hch.2 b z)) q
  ·by_cases z:b=ea
   ·rw [z];exact⟨_,x1⟩
   ·obtain⟨l,q1⟩:=n.slot b o z (fun z=>h3 (hch.2 b z)) q
    exact⟨_,q1⟩
  ·obtain⟨o,es,ep,ho,r⟩:=hm
   obtain⟨l,q1⟩:=n.slot _ o (nea _ I.free) (fun z=>(ht _ z).2.2.1 rfl) ho
   exact⟨_,es,ep,q1,r⟩
  ·by_cases z:b=ea
   ·subst z
    rw [hx] at hb
    cases hb
    obtain⟨vs0,sl0,g0,c0⟩:=jNA I.hok (.inr hx)
    exact xc_ok x1 ((n.ctx _ _ _ _ g0 x1 rfl rfl).trans c0)
   ·refine (I.hok b u hb).stay (fun c v hc q=>n.keep c v ?_ (fun z=>?_) (fun z=>?_) q) (fun _ q=>q) fun _ _ q=>q
    ·rcases hc with rfl|hc
     ·exact z
     ·intro z
      rw [z,hx] at hc
      cases hc
    ·have hn:=(ht c z).2.1
     rcases hc with rfl|hc
     ·rw [hb] at hn;cases hn
     ·rw [hc] at hn;cases hn
    ·have hn:=frn c z
     rcases hc with rfl|hc
     ·rw [hb] at hn;cases hn
     ·rw [hc] at hn;cases hn
 have lt:=I.lt
 refine⟨I',.ref C,d,vs,sl,T,x1,x2,⟨x3,oT,ts,x5,x6,x7⟩,Nat.le_trans I.sz x4,I.hok.fresh x4,fun z=>?_,fun x c hc z=>?_,fun p hp z=>?_⟩
 ·rw [<- z] at lt
  exact absurd (Nat.lt_of_lt_of_le lt x4) (Nat.lt_irrefl _)
 ·obtain⟨v,o,q1,_⟩:=I.cell x c hc
  have lt:=Heap.lt_size q1
  rw [z] at lt
  exact absurd (Nat.lt_of_lt_of_le lt x4) (Nat.lt_irrefl _)
 ·have lt:=Heap.lt_size (I.pin p hp).1
  rw [z] at lt
  exact absurd (Nat.lt_of_lt_of_le lt x4) (Nat.lt_irrefl _)
theorem jKn{Q:Unit->Shared->Prop}{E:Value->Shared->Prop}(t:Top X)(I:Inv X pins σ H s)(hx:H ea=some (XC ea C d))(tr:TrI X pins H ea s.heap)
 (k:∀ s',Inv X pins σ H s'->TrI X pins H ea s'.heap->Q () s') :
 wpAny (model X.prog X.w) X.A (noteFrame (.ref ea) X.env) (fun _ s1=>wpAny (model X.prog X.w) X.A (setFlight (.ref ea) none) Q E s1) E s:=by
 obtain⟨cl,d',vs,sl,T,g1,g2,g3,g4⟩:=tr
 obtain⟨vs',sl',q⟩:=jIH I.hok (.inr hx)
 rw [g1] at q
 cases q
 refine PySem.W.note_fly (bh:=X.base) (off:=fun b=>b=T) (outer:=X.outer) (by rw [<- t.stk];exact I.ok.frames) (by rw [<- t.stk];exact I.stack) t.fr g1 (.inr ⟨T,g2,g3,rfl⟩) fun h' n=>?_
 obtain⟨a,b⟩:=I.noted (off:=fun b=>b=T) t hx (fun U z=>(show U=T from z) ▸ g4) (fun _ _ p q=>p.trans q.symm) n
 exact k _ a b
theorem jNE{Q:Unit->Shared->Prop}{E:Value->Shared->Prop}(t:Top X)(I:Inv X pins σ H s)(hx:H ea=some (XO ea C d))
 (k:∀ s',Inv X pins σ (upd H ea (XC ea C d)) s'->TrI X pins (upd H ea (XC ea C d)) ea s'.heap->Q () s') :
 wpAny (model X.prog X.w) X.A (noteFrame (.ref ea) X.env) (fun _ s1=>wpAny (model X.prog X.w) X.A (setFlight (.ref ea) none) Q E s1) E s:=by
 obtain⟨t0,g1⟩:=jHs I.hok hx
 have I1:Inv X pins σ (upd H ea (XC ea C d)) { s with heap:=s.heap,toks:=s.toks }:=I.write (x:=ea) (e:=ea) (by rw [hx];exact True.intro) (.inl rfl) (fun _ _ _ q=>q) ⟨_,g1⟩ (xc_ok g1 rfl)
 refine PySem.W.note_fly (bh:=X.base) (off:=fun _=>False) (outer:=X.outer) (by rw [<- t.stk];exact I.ok.frames) (by rw [<- t.stk];exact I.stack) t.fr g1 (.inl rfl) fun h' n=>?_
 obtain⟨a,b⟩:=I1.noted t jAb (fun _ z=>z.elim) (fun _ _ z=>z.elim) n
 exact k _ a b
theorem TrI.tr(t:TrI X pins H ea h'):TrX X.s₀.heap.objs.size H ea h':=let ⟨cl,d,vs,sl,T,a,b,c,e,f,_⟩:=t;⟨cl,d,vs,sl,T,a,b,c,e,f⟩
end
section
variable {P:Program}{w:World}{K:PySem.W.Frag}{mg:Str->Option Value}{base:Heap}{N ps:List Str}{qual x:Str}{scope:Scope}{f:Addr}{cd:Value}{A:Around}{outer:List Env}{s:Shared}{H:Hp}{E:XK}{k:Nat}
abbrev cxE(P:Program)(w:World)(K:PySem.W.Frag)(mg:Str->Option Value)(base:Heap)(N:List Str)(qual:Str)(scope:Scope)(f:Addr)(cd:Value)(A:Around)(outer:List Env)(s:Shared)(H:Hp)(E:XK):Cx :=
 jHk (CXe P w) P w K mg base N qual scope f cd A outer s H E
theorem jMC:Top (cxE P w K mg base N qual scope f cd A outer s H E):=⟨rfl,rfl,rfl⟩
theorem jFc:PassesOwn (model P w) (cxE P w K mg base N qual scope f cd A outer s H E).A (cxE P w K mg base N qual scope f cd A outer s H E).env (cxE P w K mg base N qual scope f cd A outer s H E).xe:=PassesOwn.leaving
theorem jAx:jDe (cxE P w K mg base N qual scope f cd A outer s H E) (fun _=>E):=by
 intro pins σ H1 s1 e s2 I c
 obtain⟨ea,C,d,H2,rfl,I2,hx,tr,q⟩:=I.flew c
 show wpAny _ _ (leaving _ _) _ _ _
 unfold leaving
 refine wpAny_bind (jKn jMC I2 hx tr fun s3 I3 t3=>?_)
 exact⟨ea,C,d,H2,rfl,I3.os,I3.bare,I3.base,I3.hok,hx,t3.tr,q⟩
theorem jBn:jMB (cxE P w K mg base N qual scope f cd A outer s H E) (fun _=>E):=by
 intro pins σ H1 s1 ea C d I hx q
 show wpAny _ _ (leaving _ _) _ _ _
 unfold leaving
 refine wpAny_bind (jNE jMC I hx fun s3 I3 t3=>?_)
 exact⟨ea,C,d,_,rfl,I3.os,I3.bare,I3.base,I3.hok,jAb,t3.tr,q⟩
theorem Fun.okE{st:Stmt}{fd:FuncData}{sp:Sp}(F:Fun K x qual st f fd)(S:jAk N ps (jAh st))(len:∀ vs H Q E,sp vs H Q E->vs.length=ps.length)
 (hbody:∀ (cdv:Value) (A:Around) (outer:List Env) (s:Shared) (H:Hp) (vs:List V) (Q:VK) (E:XK),jAZ k (A.deeper (envOfC qual (jAh st) s.heap.objs.size f cdv))->sp vs H Q E ->
  ∃ t,PSs (cxE P w K mg base N qual (jAh st) f cdv A outer s H E) (jCG st) t/\t { nx:=fun _ H'=>Q .non H',rt:=Q } (jEi N vs) H):jAr P w K mg base (CXe P w) (k+1) f fd ps sp:=by
 obtain⟨oc,od,kV,doc,pm,an,cdv,ct,osl,rfl,lk,hcd⟩:=F.ex
 exact fn_of lk hcd S len fun A outer s H vs Q E hr hsp=>hbody cdv A outer s H vs Q E hr hsp
theorem jAr.lift{CX:CXT}{fd:FuncData}{sp:Sp}(F:jAr P w K mg base CX0 k f fd ps sp):jAr P w K mg base CX k f fd ps sp :=
 ⟨F.len,fun A outer s H args us vs Q E hr e0 hb r h=>codeAny_mono (F.run A outer s H args us vs Q E hr e0 hb r h) fun r s' q=>match r,q with
  | .ok (.ret _),q=>q
  | .ok .next,q=>q
  | .ok .brk,q=>q
  | .ok .cont,q=>q
  | .error _,q=>False.elim q⟩
structure DfE(P:Program)(w:World)(K:PySem.W.Frag)(mg:Str->Option Value)(base:Heap)(k:Nat)(x:Str)(ps:List Str)(sp:Sp):Prop where
 ex:∃ f fd,jAr P w K mg base (CXe P w) k f fd ps sp/\jBw K fd ps []/\PySem.W.keepIn K (.ref f)=true/\mg x=some (.ref f)
structure MtE(P:Program)(w:World)(K:PySem.W.Frag)(mg:Str->Option Value)(base:Heap)(k:Nat)(m:Str)(C:Addr)(ps:List Str)(sp:Sp):Prop where
 ex:∃ f fd,Meth K C m f/\jAr P w K mg base (CXe P w) k f fd ps sp/\jBw K fd ps []
end
def tCallE(sp:Sp)(G:St->XK)(t:TA):TE:=fun σ H Q=>t σ H fun vs H1=>sp vs H1 Q (G σ)
inductive jJu(P:Program)(w:World)(K:PySem.W.Frag)(mg:Str->Option Value)(base:Heap)(k:Nat)(m:Str)(G:St->XK)(t:TA)(σ:St)(Q:VK)(x:V)(H1:Hp):Prop|mk a C dx fs ps sp:x=.ref a->H1 a=some (.ins C dx fs)->fs.lookup m=none->Cls K C->MtE P w K mg base k m C ps sp->(t σ H1 fun vs H2=>sp (x::vs) H2 Q (G σ))->jJu P w K mg base k m G t σ Q x H1
def jLh(P:Program)(w:World)(K:PySem.W.Frag)(mg:Str->Option Value)(base:Heap)(k:Nat)(m:Str)(G:St->XK)(ta:TE)(t:TA):TE:=fun σ H Q=>ta σ H fun x H1=>jJu P w K mg base k m G t σ Q x H1
section
variable {X:Cx}{k:Nat}{ps:List Str}{sp:Sp}{G:St->XK}{x m:Str}{p pos apos:Pos}{e o:Expr}{es:List Expr}{ta:TE}{t:TA}
theorem jJv{pins:List (Addr×Obj)}{σ:St}{H:Hp}{s:Shared}{Q:VK}{us:List Value}{vs:List V}{f:Addr}{fd:FuncData}(F:jAr X.prog X.w X.K X.mg X.base (CXe X.prog X.w) k f fd ps sp)(hr:jAZ k X.A)(hb:jBw X.K fd ps [])(hx:jDe X G)
 (I:Inv X pins σ H s) (r:jAH vs us) (h:sp vs H Q (G σ)):wpAny (model X.prog X.w) X.A (call (.ref f) us) (EP X pins σ Q) X.xe s:=by
 have hl:us.length=ps.length:=by rw [<- r.length];exact F.len _ _ _ _ h
 have hb2:=hb s us I.kIn (by rw [List.append_nil];exact hl)
 rw [List.append_nil] at hb2
 refine wpAny_call (codeAny_mono (F.run X.A X.stack s H ⟨us,[]⟩ us vs Q (G σ) hr I.env0 hb2 r h) fun r s' hq=>?_)
 cases r with
 | error e=>exact hx pins σ H s e s' I hq
 | ok fl =>
   cases fl with
   | ret u=>exact I.after hq
   | next=>exact False.elim hq
   | brk=>exact False.elim hq
   | cont=>exact False.elim hq
theorem jLi(D:DfE X.prog X.w X.K X.mg X.base k x ps sp)(hx:jDe X G)(hr:jAZ k X.A)(hg:Gl X x)(ha:PA X (e::es) t)(hdb:(x==("__debug__":Str))=false:=by decide)
 (he:starEach (e::es) X.env=(false,eval e X.env)::starEach es X.env:=by rfl) (hpl:(backTo pos (starEach es X.env)).any (·.1)=false:=by rfl):PE X (.Call (.Name x p) (e::es) [] pos) (tCallE sp G t):=by
 intro pins s σ H Q I h
 obtain⟨f,fd,F,b,kp,hm⟩:=D.ex
 refine wpAny_Call_Name_kw (jCF I hg hm ?_ hdb)
 refine PySem.W.callWith_K (h₀:=X.base) I.ok.mod.kin kp (thn (ha pos pins s σ H _ I h) fun us s1 ⟨vs,H1,I1,r,q⟩=>⟨I1.kIn,?_⟩) he hpl
 exact jJv F hr b hx I1 r q
theorem jAF{pl:Sem Bool}(k:Nat)(hx:jDe X G)(hr:jAZ k X.A)(he:PE X o ta)(ha:PA X (e::es) t)
 (hst:starEach (e::es) X.env=(false,eval e X.env)::starEach es X.env:=by rfl) (hpl:(backTo pos (starEach es X.env)).any (·.1)=false:=by rfl)
 (ht:eval (.Call (.Attribute o m apos) (e::es) [] pos) X.env=(do
  let ov <- eval o X.env
  standAt apos.atName
  let (f,first) <- holding [ov] (getMethod ov m pl)
  callWith pos f first (backTo pos (starEach (e::es) X.env)) (backToKw pos (keywordEach [] X.env))):=by rfl) :
 PE X (.Call (.Attribute o m apos) (e::es) [] pos) (jLh X.prog X.w X.K X.mg X.base k m G ta t):=by
 intro pins s σ H Q I h
 refine PySem.W.methodCall_KW (pl:=pl) (thn (he pins s σ H _ I h) fun u s1 ⟨x,H1,I1,rx,a,C,dx,fs,ps,sp,ex,ea,l,c,D,q⟩=>?_) ht
 subst ex
 obtain rfl:u=Value.ref a:=rx
 obtain⟨f,fd,hm,F,b⟩:=D.ex
 refine jIz I1 ea c hm l ?_
 refine PySem.W.callWith_K (first:=[.ref a]) (h₀:=X.base) I.ok.mod.kin hm.kp (thn (ha pos pins s1 σ H1 _ I1 q) fun us s2 ⟨vs,H2,I2,r,q2⟩=>⟨I2.kIn,?_⟩) hst hpl
 exact jJv (us:=.ref a::us) (vs:=.ref a::vs) F hr b hx I2 (.cons rfl r) q2
theorem jAs{pl:Sem Bool}(k:Nat)(hx:jDe X G)(hr:jAZ k X.A)(he:PE X o ta)
 (ht:eval (.Call (.Attribute o m apos) [] [] pos) X.env=(do
  let ov <- eval o X.env
  standAt apos.atName
  let (f,first) <- holding [ov] (getMethod ov m pl)
  callWith pos f first (backTo pos (starEach [] X.env)) (backToKw pos (keywordEach [] X.env))):=by rfl) :
 PE X (.Call (.Attribute o m apos) [] [] pos) (jLh X.prog X.w X.K X.mg X.base k m G ta jCx):=by
 intro pins s σ H Q I h
 refine PySem.W.methodCall_KW (pl:=pl) (thn (he pins s σ H _ I h) fun u s1 ⟨x,H1,I1,rx,a,C,dx,fs,ps,sp,ex,ea,l,c,D,q⟩=>?_) ht
 subst ex
 obtain rfl:u=Value.ref a:=rx
 obtain⟨f,fd,hm,F,b⟩:=D.ex
 refine jIz I1 ea c hm l ?_
 exact PySem.W.callWith_K0 (first:=[.ref a]) I1.kIn hm.kp (jJv (us:=[.ref a]) (vs:=[.ref a]) F hr b hx I1 (.cons rfl .nil) q)
end
end L2
namespace PySem.W
open PySem PyProof.Rows PySem.Spec PySem.Calls
def mroHas(K:Frag)(C:Addr)(c:Value):Bool:=match K.lookup C with
 | some ⟨_,_,.cls cd,_⟩=>cd.mro.contains c
 | _=>false
theorem jJw{K:Frag}{h:Heap}{C:Addr}(X:K.In h)(q:excMk K C=true):∃ tlm,ExcAt h C tlm/\OwnTail h jEj tlm/\∀ c,mroHas K C c=(Value.ref C::tlm).contains c:=by
 obtain⟨tlm,hE,T⟩:=jHq X q
 refine⟨tlm,hE,T,fun c=>?_⟩
 unfold mroHas
 cases hk:K.lookup C with
 | none =>
   unfold excMk at q
   rw [hk] at q
   cases q
 | some o =>
   obtain⟨N,nm,q,bs,hdct,sn,sub,ab,col,dd,q0,q1,q2,q3,q5,hCl⟩:=hE
   have z:=X _ _ hk
   rw [hCl] at z
   cases z
   rfl
section
variable {M:Model}{A:Around}{E:Value->Shared->Prop}{env:Env}{K:Frag}
theorem exc_match{h:Heap}{g:Array GenState}{d:Drawn}{t:Nat}{os:OsState}{e C D:Addr}{oe:Obj}{Q:Bool->Shared->Prop}(X:K.In h)(qC:excMk K C=true)(qD:excMk K D=true)(he:h.get? e=some oe)(hc:oe.cls=.ref C)
 (hq:Q (mroHas K C (.ref D)) ⟨h,g,d,t,os⟩):wpAny M A (excMatches (.ref e) (.ref D)) Q E ⟨h,g,d,t,os⟩:=by
 obtain⟨tl,⟨N,nm,q,bs,hdct,sn,sub,ab,col,dd,q0,q1,q2,q3,q5,hC⟩,_,mh⟩:=jJw X qC
 obtain⟨tl',⟨N',nm',q',bs',hdct',sn',sub',ab',col',dd',q0',q1',q2',q3',q5',hD⟩,T,_⟩:=jJw X qD
 have hB:(Value.ref D::tl').contains (.type "BaseException")=true:=by
  rw [List.contains_cons,T.hasType (show jEj.contains (.type "BaseException")=true from by decide +kernel),Bool.or_true]
 rw [mh] at hq
 have f:=tc_notTuple
 unfold excMatches
 repeat (first|(with_reducible refine wpAny_loadPart_at he ?_;rw [hc])|with_reducible refine wpAny_loadPart_at hD ?_|(with_reducible refine wpAny_isSubtype_exc hD ?_;rw [hB])|with_reducible refine wpAny_isSubtype_exc hC ?_|wp_step)
 all_goals (cases hb:(Value.ref C::tl).contains (.ref D)<;>(rw [hb] at hq;wp_walk;exact hq))
theorem raise_X{s:Shared}{x:Sem Value}{Q:Flow->Shared->Prop}(hh:A.handled=none)
 (h:wpAny M A x (fun v s1=>∃ e C d t0,v=.ref e/\K.In s1.heap/\excMk K C=true/\s1.heap.get? e=some ⟨.ref C,d,.fields #[.ref t0,.none,.none,.none,.bool false,.none],#[]⟩/\E (.ref e) s1) E s) :
 wpAny M A (raiseStmt env (some x) none) Q E s := by  -- raised here
 unfold raiseStmt
 refine wpAny_bind (wpAny_mono h (fun v s1 h1=>?_) fun _ _ x=>x)
 obtain⟨e,C,d,t0,rfl,X,qC,he,hE⟩:=h1
 obtain⟨tl,⟨N,nm,q,bs,hdct,sn,sub,ab,col,dd,q0,q1,q2,q3,q5,hC⟩,T,_⟩:=jJw X qC
 have hB:(Value.ref C::tl).contains (.type "BaseException")=true:=by
  rw [List.contains_cons,T.hasType (show jEj.contains (.type "BaseException")=true from by decide +kernel),Bool.or_true]
 obtain⟨hp,g,d',tk,os⟩:=s1
 repeat (first|with_reducible refine wpAny_loadPart_at he ?_|with_reducible refine wpAny_loadPart_at hC ?_|(with_reducible refine wpAny_isSubtype_exc hC ?_;rw [hB])|wp_step)
 exact (wpAny_raiseNew_none hh hE)
end
end PySem.W
namespace L2
open PySem PyProof.Rows PySem.Spec PySem.Calls
inductive jJx(K:PySem.W.Frag)(G:St->XK)(σ:St)(v:V)(H1:Hp):Prop|mk ea C d:v=.ref ea->H1 ea=some (XO ea C d)->PySem.W.excMk K C=true->G σ (.ref C) (some ea) (upd H1 ea (XC ea C d))->jJx K G σ v H1
def tRaise(K:PySem.W.Frag)(G:St->XK)(te:TE):TS:=fun _ σ H=>te σ H fun v H1=>jJx K G σ v H1
abbrev Cx.caught(X:Cx)(ea:Addr):Cx:={ X with A:=X.A.mark (some (.ref ea)),calm:=false,xe:=fun _ _=>False }
abbrev Cx.inTry(X:Cx)(ps:List (Addr×Obj))(xe:Value->Shared->Prop):Cx:={ X with pn:=X.pn++ps,xe:=xe }
section
variable {X:Cx}{pins:List (Addr×Obj)}{σ:St}{H:Hp}{s:Shared}{ea:Addr}
theorem jBz{G:St->XK}{e:Expr}{te:TE}{pos:Pos}(hR:jMB X G)(hc:X.calm=true)(he:PE X e te):PS X (.Raise (some e) none pos) (tRaise X.K G te):=by
 intro pins s σ H D I h
 show wpAny _ _ (do standAt pos;raiseStmt X.env (some (do let v <- eval e X.env;standAt pos;pure v)) none) _ _ s
 refine wpAny_bind (wpAny_standAt (PySem.W.raise_X (K:=X.K) (I.ok.hd hc) (wpAny_bind (thn (he pins s σ H _ I h) fun v s1 ⟨x,H1,I1,rx,ea,C,d,ex,hx,mk,q⟩=>wpAny_bind (wpAny_standAt (wpAny_pure ?_))))))
 subst ex
 obtain rfl:v=Value.ref ea:=rx
 obtain⟨t0,g1⟩:=jHs I1.hok hx
 exact⟨ea,C,d,t0,rfl,I1.kIn,mk,g1,hR pins σ H1 s1 ea C d I1 hx q⟩
theorem Cx.Ok.caught(ok:X.Ok):(X.caught ea).Ok :=
 ⟨ok.mod,ok.kind,ok.glob,ok.blt,ok.above,ok.inj,ok.has,ok.cab,(fun z=>nomatch z),ok.frames,ok.stk,ok.exf,ok.bs,ok.bsz,ok.noex,ok.exfs,ok.funs,ok.frf⟩
theorem Inv.caught(I:Inv X pins σ H s):Inv (X.caught ea) pins σ H s:=⟨I.ok.caught,I.os,I.bare,I.base,I.loc,I.cell,I.free,I.freeC,I.pin,I.hok,I.len⟩
theorem Inv.uncaught(o:X.Ok)(I:Inv (X.caught ea) pins σ H s):Inv X pins σ H s:=⟨o,I.os,I.bare,I.base,I.loc,I.cell,I.free,I.freeC,I.pin,I.hok,I.len⟩
theorem Cx.Ok.inTry{ps:List (Addr×Obj)}{xe:Value->Shared->Prop}(ok:X.Ok):(X.inTry ps xe).Ok :=
 ⟨ok.mod,ok.kind,ok.glob,ok.blt,ok.above,ok.inj,ok.has,ok.cab,ok.hd,ok.frames,ok.stk,ok.exf,ok.bs,ok.bsz,ok.noex,ok.exfs,ok.funs,ok.frf⟩
theorem Inv.inTry{xe:Value->Shared->Prop}(I:Inv X pins σ H s):Inv (X.inTry pins xe) [] σ H s:=⟨I.ok.inTry,I.os,I.bare,I.base,I.loc,I.cell,I.free,I.freeC,fun p hp=>I.pin p (by rw [<- List.append_nil (X.pn++pins)];exact hp),I.hok,I.len⟩
theorem Inv.outTry{ps:List (Addr×Obj)}{xe:Value->Shared->Prop}(o:X.Ok)(I:Inv (X.inTry ps xe) pins σ H s):Inv X ps σ H s:=⟨o,I.os,I.bare,I.base,I.loc,I.cell,I.free,I.freeC,fun p hp=>I.pin p (List.mem_append_left _ hp),I.hok,I.len⟩
theorem SP.outTry{ps:List (Addr×Obj)}{xe:Value->Shared->Prop}{D:jBR}{f:Flow}{s':Shared}(o:X.Ok)(h:SP (X.inTry ps xe) pins D f s'):SP X ps D f s':=by
 cases f with
 | next=>obtain⟨σ',H',I,q⟩:=h;exact⟨σ',H',I.outTry o,q⟩
 | brk=>obtain⟨σ',H',I,q⟩:=h;exact⟨σ',H',I.outTry o,q⟩
 | cont=>obtain⟨σ',H',I,q⟩:=h;exact⟨σ',H',I.outTry o,q⟩
 | ret u=>obtain⟨v,σ',H',I,r,q⟩:=h;exact⟨v,σ',H',I.outTry o,r,q⟩
theorem jNF{M:Model}{A:Around}{E:Value->Shared->Prop}{i:Nat}{n:Str}{v:V}{Q:Unit->Shared->Prop}(I:Inv X pins σ H s)(hN:X.N.Nodup)(hi:X.N[i]?=some n)(hx:X.env.scope.names.lookup n=some .local)(hv:σ[i]?=some (some v))
 (h:∀ s',Inv X pins (σ.set i none) H s'->Q () s'):wpAny M A (unbindName X.env n) Q E s:=by
 obtain⟨m,hn,hl⟩:=id I.loc
 obtain⟨u,_,lk⟩:=hl i n v hi hv (.inl hx)
 have hm:m n=some u:=by
  rcases lk with⟨_,e⟩|⟨k,_⟩
  ·exact e
  ·have kx:X.env.kindOf n=some .local:=hx
   rw [kx] at k
   rcases k with k|k<;>cases k
 have hcls:(X.env.scope.kind==.class||(X.env.scope.kind==.module&&X.env.locals != X.env.globals))=false:=by rw [I.ok.kind];rfl
 have iσ:i<σ.length:=by rw [I.len];exact (List.getElem?_eq_some_iff.mp hi).1
 refine wpAny_unbindName_local hx hn hm hcls fun h' u' hn' hs=>h _ ?_
 obtain⟨oLo,_,_,hoLo,_⟩:=id hn
 have ne0:∀ b o,X.s₀.heap.get? b=some o->b≠X.env.locals:=fun b o e=>Nat.ne_of_lt (Nat.lt_of_lt_of_le (Heap.lt_size e) I.ok.above)
 refine⟨I.ok,I.os,I.bare,⟨fun b o e nn hb he=>(hs.2 b (ne0 b o e)).trans (I.base.keep b o e nn hb he),fun b o e nn hb he=>?_,I.base.free,fun b o e he=>?_,I.base.tups,I.base.frzs,I.base.tbls⟩,⟨_,hn',fun j y w' e1 e2 e3=>?_⟩,fun y c e=>?_,I.free,I.freeC,fun p hp=>?_,fun b ob e=>?_,by simpa using I.len⟩
 ·obtain⟨sl,q⟩:=I.base.slot b o e nn hb he
  exact⟨sl,(hs.2 b (ne0 b o e)).trans q⟩
 ·obtain⟨o',q⟩:=I.base.there b o e he
  exact⟨o',(hs.2 b (ne0 b o e)).trans q⟩
 ·have hj:j≠i:=fun z=>by
   subst z
   rw [List.getElem?_set_self iσ] at e2
   cases e2
  rw [List.getElem?_set_ne (Ne.symm hj)] at e2
  obtain⟨u2,r2,q⟩:=hl j y w' e1 e2 e3
  exists u2,r2
  rcases q with⟨k,e⟩|⟨k,c,e,z⟩
  ·refine .inl ⟨k,?_⟩
   have hy:y≠n:=fun z=>hj (jIg hN e1 (z ▸ hi))
   show (if y=n then u' else m y)=some u2
   rw [if_neg hy]
   exact e
  ·exact .inr ⟨k,c,e,z.sameBut hs (I.cne y c e)⟩
 ·obtain⟨w',z⟩:=I.cell y c e
  exact⟨w',z.sameBut hs (I.cne y c e)⟩
 ·obtain⟨e,nn,ne,nf,dd⟩:=I.pin p hp
  exact⟨(hs.2 p.1 ne).trans e,nn,ne,nf,dd⟩
 ·refine (I.hok b ob e).stay (fun c w' hc q=>(hs.2 c ?_).trans q) (fun _ q=>q) fun _ _ q=>q
  rintro rfl
  rcases hc with rfl|hc
  ·rw [I.free] at e;cases e
  ·rw [I.free] at hc;cases hc
end
abbrev TH:=jBR->St->Hp->Addr->Addr->Prop
def PH(X:Cx)(hs:List ExceptHandler)(t:TH):Prop:=∀ (pins:List (Addr×Obj)) (s:Shared) (σ:St) (H:Hp) (D:jBR) (ea C:Addr) (d:Option Addr),Inv X pins σ H s->H ea=some (XC ea C d)->TrI X pins H ea s.heap->t D σ H C ea ->
 wpAny (model X.prog X.w) X.A (handleBy (.ref ea) X.env hs) (SP X pins D) X.xe s
def tNoH:TH:=fun _ _ _ _ _=>False
def jBR.less(D:jBR)(i:Nat):jBR:={ nx:=fun σ H=>D.nx (σ.set i none) H,rt:=D.rt,bk:=fun σ H=>D.bk (σ.set i none) H,ct:=fun σ H=>D.ct (σ.set i none) H }
def tAs(K:PySem.W.Frag)(B:Addr)(i:Nat)(ts:TS)(tr:TH):TH:=fun D σ H C ea=>PySem.W.excMk K C=true/\PySem.W.excMk K B=true/\∃ b,PySem.W.mroHas K C (.ref B)=b/\if b=true then ts (D.less i) (σ.set i (some (.ref ea))) H else tr D σ H C ea
def tTry(tb:(St->XK)->TS)(th:TH):TS:=fun D σ H=>tb (fun σ' c oa H'=>∃ C ea,c=.ref C/\oa=some ea/\th D σ' H' C ea) D σ H
section
variable {X:Cx}
theorem jNG:PH X [] tNoH:=fun _ _ _ _ _ _ _ _ _ _ _ h=>h.elim
theorem jGJ{x n:Str}{B:Addr}{i:Nat}{b₀:Stmt}{suite:List Stmt}{ts:TS}{tr:TH}{np hpos:Pos}{rest:List ExceptHandler}(hg:Gl X x)(hm:X.mg x=some (.ref B))(hN:X.N.Nodup)(hi:X.N[i]?=some n)(hl:X.env.scope.names.lookup n=some .local)
 (hs:∀ ea,PSs (X.caught ea) (b₀::suite) ts) (hr:PH X rest tr) (hd:(x==("__debug__":Str))=false:=by decide):PH X (.ExceptHandler (some (.Name x np)) (some n) (b₀::suite) hpos::rest) (tAs X.K B i ts tr):=by
 intro pins s σ H D ea C d I hx tr h
 obtain⟨mC,mB,b,hb,h⟩:=h
 have I1:Inv (X.caught ea) pins σ H s:=I.caught
 refine wpAny_handleBy_cons (codeAny_handlers_test (jCF I1 hg hm ?_ hd)) (by intro q;cases q)
 obtain⟨vs,sl,g1⟩:=jIH I.hok (.inr hx)
 refine PySem.W.exc_match (K:=X.K) I.kIn mC mB g1 rfl ?_
 rw [hb]
 cases b with
 | false=>exact hr pins s σ H D ea C d I hx tr h
 | true =>
   show codeAny _ _ _ _ _
   refine (codeAny_handlers_suite_as ?_)
   obtain⟨cl,d',vs',sl',T,g1',g2,⟨nT,oT,ts',gT,dT,h3⟩,g4,g5,g6,g7,g8⟩:=tr
   rw [g1] at g1'
   cases g1'
   unfold setFlight
   refine wpAny_bind (wpAny_field g1 rfl g2 ?_)
   rw [if_pos (by simp)]
   refine wpAny_setField gT dT (Array.getElem?_eq_some_iff.mp h3).1 ?_
   have I2:Inv (X.caught ea) pins σ H { s with heap:=s.heap.update T (Obj.mapFields (·.setIfInBounds 3 ((none:Option Addr).elim Value.none fun f=>rawInt f))),toks:=s.toks } :=
    I1.turned (it:=T) (fun b o hb q=>by rw [Heap.get?_update_other _ _ (Ne.symm hb)];exact q) g5 g6 (.inr g4) g7 g8
   refine jFh (X:=X.caught ea) I2 hN hi (.inl hl) (v:=.ref ea) rfl (fun s3 I3=>?_) (.inr hl)
   refine wpAny_mono (hs ea pins s3 _ H (D.less i) I3 h) (fun f s4 q=>?_) fun _ _ z=>False.elim z
   have fin:∀ {σ':St} {H':Hp} {Q:Shared->Prop},Inv (X.caught ea) pins σ' H' s4->(∀ s5,Inv X pins (σ'.set i none) H' s5->Q s5)->wpAny (model X.prog X.w) X.A (do bindName X.env n .none;unbindBehindTheSuite X.env n hpos) (fun _ s5=>Q s5) X.xe s4:=fun {σ' H' Q} J k=>by
    have J':=J.uncaught I.ok
    refine wpAny_bind (wpAny_bindName (jFh J' hN hi (.inl hl) (v:=.non) rfl (fun s5 I5=>?_) (.inr hl)))
    unfold unbindBehindTheSuite
    refine wpAny_onRaise (jNF I5 hN hi hl (List.getElem?_set_self (by rw [J'.len];exact (List.getElem?_eq_some_iff.mp hi).1)) fun s6 I6=>k s6 ?_)
    rwa [List.set_set] at I6
   cases f with
   | next=>obtain⟨σ',H',J,q⟩:=q;exact fin (Q:=fun s5=>SP X pins D .next s5) J fun s5 I5=>⟨_,H',I5,q⟩
   | brk=>obtain⟨σ',H',J,q⟩:=q;exact fin (Q:=fun s5=>SP X pins D .brk s5) J fun s5 I5=>⟨_,H',I5,q⟩
   | cont=>obtain⟨σ',H',J,q⟩:=q;exact fin (Q:=fun s5=>SP X pins D .cont s5) J fun s5 I5=>⟨_,H',I5,q⟩
   | ret u=>obtain⟨v,σ',H',J,r,q⟩:=q;exact fin (Q:=fun s5=>SP X pins D (.ret u) s5) J fun s5 I5=>⟨v,_,H',I5,r,q⟩
theorem jNH{body:List Stmt}{h₀:ExceptHandler}{hs:List ExceptHandler}{pos:Pos}{tb:(St->XK)->TS}{th:TH}(t:Top X)
 (hb:∀ (ps:List (Addr×Obj)) (xe:Value->Shared->Prop) (G:St->XK),jDe (X.inTry ps xe) G->PassesOwn (model X.prog X.w) X.A X.env xe->PSs (X.inTry ps xe) body (tb G))
 (hh:PH X (h₀::hs) th):PS X (.Try body (h₀::hs) [] [] pos) (tTry tb th):=by
 intro pins s σ H D I h
 have o:=I.ok
 refine wpAny_Try_except (thn (hb pins _ _ ?_ PassesOwn.looking [] s σ H D I.inTry h) fun f s1 q=>?_)
 ·intro ps2 σ2 H2 s2 e s3 I2 c
  obtain⟨ea,C,d,H3,rfl,I3,hx,tr,C',ea',e1,e2,q⟩:=I2.flew c
  cases e1
  cases e2
  have tr':TrI X pins H3 ea s3.heap:=let ⟨a1,a2,a3,a4,a5,b1,b2,b3,b4,b5,b6,b7,b8⟩:=tr;⟨a1,a2,a3,a4,a5,b1,b2,b3,b4,b5,b6,b7,fun p hp=>b8 p (List.mem_append_left _ hp)⟩
  exact jKn t (I3.outTry o) hx tr' fun s4 I4 t4=>hh pins s4 σ2 H3 D ea C d I4 hx t4 q
 ·have q':=q.outTry o
  cases f with
  | next=>exact wpAny_execs_nil q'
  | brk=>exact q'
  | cont=>exact q'
  | ret u=>exact q'
end
def XG(H:Hp)(e C:Addr)(fs:List (Str×V)):Prop:=∃ dx,IsX H e C (some dx)/\H dx=some (XD dx fs)/\dx≠e
theorem XG.keep{H H':Hp}{e C:Addr}{fs:List (Str×V)}(x:XG H e C fs)(k:jAn H H'):XG H' e C fs:=by
 obtain⟨d,a,b,c⟩:=x
 rcases a with a|a
 ·exact⟨d,.inl (k _ _ a),k _ _ b,c⟩
 ·exact⟨d,.inr (k _ _ a),k _ _ b,c⟩
theorem XF.raised{H:Hp}{e C:Addr}{fs:List (Str×V)}(x:XF H e C fs):∃ dx,H e=some (XO e C (some dx))/\XG (L2.upd H e (XC e C (some dx))) e C fs :=
 let ⟨d,a,b,c⟩:=x
 ⟨d,a,d,.inr jAb,by rw [jAi c];exact b,c⟩
inductive rIsG(K:PySem.W.Frag)(xs:List V)(H:Hp)(Q:VK):Prop|mk a C fs c b:xs=[.ref a,c]->XG H a C fs->ClsI K C->(∀ u,jAA c u->u=clV c)->PySem.W.kitOne K (.ref C) (clV c)=some b->Q (.bl b) H->rIsG K xs H Q
inductive jNI(K:PySem.W.Frag)(f:Str)(Q:VK)(x:V)(H1:Hp):Prop|mk a C fs v:x=.ref a->XG H1 a C fs->jGI K C->jAz K C f->fs.lookup f=some v->Q v H1->jNI K f Q x H1
def tFldG(K:PySem.W.Frag)(ta:TE)(f:Str):TE:=fun σ H Q=>ta σ H fun x H1=>jNI K f Q x H1
section
variable {X:Cx}{e o:Expr}{es:List Expr}{f x:Str}{p pos apos:Pos}{ta:TE}{t:TA}{k:Nat}{ps:List Str}{sp:Sp}
theorem jOj:CallR X (.builtin "isinstance") (rIsG X.K):=by
 intro pins s σ H xs us Q I r h
 obtain⟨a,C,fs,c,b,rfl,⟨dx,ea,ed,_⟩,cl,hc,e,q⟩:=h
 obtain⟨u,w',rfl,r1,r2⟩:=vals2 r
 cases (show u=Value.ref a from r1)
 cases hc _ r2
 obtain⟨vs,sl,hx⟩:=jIH I.hok ea
 obtain⟨_,mA,hn,_,_⟩:=jLg I.hok ed
 obtain⟨od,ho,_⟩:=lookIn_ns hn
 exact PySem.W.kia_one (PySem.W.kitx_X (ox:=⟨.ref C,some dx,.fields vs,sl⟩) (od:=od) (cl.c.at cl.ca cl.cn cl.ct)) I.kIn ⟨hx,rfl,rfl,ho⟩ e (fun z=>nomatch z) fun tk=>⟨.bl b,H,I.tok tk,rfl,q⟩
theorem pe_fldG(he:PE X e ta)(hb:attributeBase e f X.env (eval e X.env)=eval e X.env):PE X (.Attribute e f pos) (tFldG X.K ta f):=by
 intro pins s σ H Q I h
 refine jMu hb (thn (he pins s σ H _ I h) fun u s1 ⟨x,H1,I1,rx,a,C,fs,v,ex,⟨dx,ea,ed,_⟩,c,n,l,q⟩=>?_)
 subst ex
 obtain rfl:u=Value.ref a:=rx
 exact getX_ok I1 ea ed c n l fun u' s2 I2 ru=>⟨v,H1,I2,ru,q⟩
structure InO(K:PySem.W.Frag)(B f:Addr):Prop where
 sp:PySem.W.specialIn K (.ref B) "__getattribute__"=some (some (.builtin "type.__getattribute__"))
 rd:PySem.W.readsIn K B (.type "type")=true
 fc:PySem.W.findCls K (.ref B) (.type "type") "__init__"=some (.val (.ref f))
structure InD(P:Program)(w:World)(K:PySem.W.Frag)(mg:Str->Option Value)(base:Heap)(k:Nat)(x:Str)(B:Addr)(ps:List Str)(sp:Sp):Prop where
 ex:∃ f fd,InO K B f/\jAr P w K mg base CX0 k f fd ps sp/\jBw K fd ps []/\PySem.W.keepIn K (.ref f)=true/\mg x=some (.ref B)
theorem jDO{B:Addr}{pl:Sem Bool}(D:InD X.prog X.w X.K X.mg X.base k x B ps sp)(hr:jAZ k X.A)(hg:Gl X x)(ha:PA X (e::es) t)(hdb:(x==("__debug__":Str))=false:=by decide)
 (hst:starEach (e::es) X.env=(false,eval e X.env)::starEach es X.env:=by rfl) (hpl:(backTo pos (starEach es X.env)).any (·.1)=false:=by rfl)
 (ht:eval (.Call (.Attribute (.Name x p) "__init__" apos) (e::es) [] pos) X.env=(do
  let ov <- eval (.Name x p) X.env
  standAt apos.atName
  let (f,first) <- holding [ov] (getMethod ov "__init__" pl)
  callWith pos f first (backTo pos (starEach (e::es) X.env)) (backToKw pos (keywordEach [] X.env))):=by rfl) :
 PE X (.Call (.Attribute (.Name x p) "__init__" apos) (e::es) [] pos) (tCall sp [] E0 t):=by
 intro pins s σ H Q I h
 obtain⟨f,fd,J,F,b,kp,hm⟩:=D.ex
 refine PySem.W.methodCall_KW (pl:=pl) (jCF I hg hm ?_ hdb) ht
 refine PySem.W.method_cls I.kIn J.sp (PySem.W.cls_value I.kIn J.rd J.fc rfl ?_)
 refine PySem.W.callWith_K (first:=[]) (h₀:=X.base) I.ok.mod.kin kp (thn (ha pos pins _ σ H _ (I.tok (s.toks+1)) h) fun us s1 ⟨vs,H1,I1,r,q⟩=>⟨I1.kIn,?_⟩) hst hpl
 exact jNj F hr b .nil jIC I1 r q
theorem jCy{C:Addr}(D:MkD X.prog X.w X.K X.mg X.base k x C ps sp)(hr:jAZ (k+1) X.A)(hg:Gl X x)(hdb:(x==("__debug__":Str))=false:=by decide):PE X (.Call (.Name x p) [] [] pos) (jKU C sp [] E0 jCx):=by
 obtain⟨f,fd,M,F,b,m⟩:=D.ex
 exact jN7 M F hr hg m b .nil jIC hdb
end
section
variable {P:Program}{w:World}{K:PySem.W.Frag}{mg:Str->Option Value}{base:Heap}{j k:Nat}{x m:Str}{C:Addr}{ps:List Str}{sp:Sp}
theorem MtE.mono(D:MtE P w K mg base j m C ps sp)(h:j<=k):MtE P w K mg base k m C ps sp:=let ⟨f,fd,a,b,c⟩:=D.ex;⟨f,fd,a,b.mono h,c⟩
end
theorem jMD{CX:CXT}{P:Program}{w:World}{K:PySem.W.Frag}{mg:Str->Option Value}{base:Heap}{N:List Str}{qual:Str}{scope:Scope}{f:Addr}{cd:Value}{A:Around}{outer:List Env}{s:Shared}{H:Hp}{E:XK} :
 Top (jHk CX P w K mg base N qual scope f cd A outer s H E).nox:=⟨rfl,rfl,rfl⟩
section
variable {X:Cx}{P:Program}{w:World}{K:PySem.W.Frag}{mg:Str->Option Value}{base:Heap}{G:St->XK}{m:Str}{pos apos:Pos}{e o:Expr}{es:List Expr}{ta:TE}{t:TA}
theorem jNJ{pl:Sem Bool}(q:X.prog=P/\X.w=w/\X.K=K/\X.mg=mg/\X.base=base)(k:Nat)(hx:jDe X G)(hr:jAZ k X.A)(he:PE X o ta)(ha:PA X (e::es) t)
 (hst:starEach (e::es) X.env=(false,eval e X.env)::starEach es X.env:=by rfl) (hpl:(backTo pos (starEach es X.env)).any (·.1)=false:=by rfl)
 (ht:eval (.Call (.Attribute o m apos) (e::es) [] pos) X.env=(do
  let ov <- eval o X.env
  standAt apos.atName
  let (f,first) <- holding [ov] (getMethod ov m pl)
  callWith pos f first (backTo pos (starEach (e::es) X.env)) (backToKw pos (keywordEach [] X.env))):=by rfl) :
 PE X (.Call (.Attribute o m apos) (e::es) [] pos) (jLh P w K mg base k m G ta t):=by
 obtain⟨rfl,rfl,rfl,rfl,rfl⟩:=q
 exact jAF (pl:=pl) k hx hr he ha hst hpl ht
end
section
variable {X:Cx}{K:PySem.W.Frag}{e:Expr}{f:Str}{pos:Pos}{ta:TE}
theorem jBg(h:X.K=K):CallR X (.builtin "isinstance") (rIsG K):=h ▸ jOj
theorem jDP(h:X.K=K)(he:PE X e ta)(hb:attributeBase e f X.env (eval e X.env)=eval e X.env):PE X (.Attribute e f pos) (tFldG K ta f):=by
 subst h
 exact pe_fldG he hb
end
open PySem PySem.Spec PyProof.Rows
def Its(lo d:Int)(n:Nat):It:=⟨fun i _=>i<n,fun i H x H'=>H'=H/\x=.int (lo+i*d),fun i _=>n<=i⟩
theorem jL2{P:Program}{w:World}{K:PySem.W.Frag}{tg:Expr}(it:Addr)(lo d:Int)(n:Nat):Turn P w K tg (Its lo d n) [it] it (fun i h=>IsRangeIter h it (lo+(i:Nat)*d) ((n:Int)-(i:Nat)) d) where
 mem:=by simp
 obj:=fun i h st b hb=>by
  have e:b=it:=by simpa using hb
  subst e
  exact⟨_,st,fun v z=>nomatch (show Data.fields _=Data.cell v from z)⟩
 keep:=fun i h h' st k=>k it (by simp) _ st
 item:=by
  intro X hP hw hK hc i pins s σ H E I hf st hg
  subst hP hw hK
  obtain⟨f0,f1,f2,f3,f4,f5⟩:=hf it (by simp)
  have W:=Walks.range (prog:=X.prog) (w:=X.w) (I.ok.hd hc) it lo d n
  refine W.item i s _ _ hg st fun v h' tk hv st' kk=>?_
  obtain⟨t,rfl⟩:=hv
  have I1:Inv X pins σ H { s with heap:=h',toks:=tk }:=I.turned (fun b o hb e=>kk b o (by simpa using hb) e) f0 f1 f3 f4 f5
  exact⟨_,rfl,jKT (s:={ s with heap:=h',toks:=tk }) (n:="range_iterator") st' rfl rfl (by decide) ⟨.int (lo+i*d),H,I1,⟨t,rfl⟩,⟨rfl,rfl⟩,st',fun b hb=>(hf b hb).1⟩⟩
 done:=by
  intro X hP hw hK hc i pins s σ H E I hf st hg
  subst hP hw hK
  obtain⟨f0,f1,f2,f3,f4,f5⟩:=hf it (by simp)
  exact wpAny_pyNext_range_end (I.ok.hd hc) st (by have:n<=i:=hg;omega) fun h' eb=>⟨rfl,I.turned (t':=s.toks) (fun b o hb e=>eb b o hb e) f0 f1 f3 f4 f5⟩
 self:=fun _ _ _ _ _ st h=>wpAny_pyIter_rangeiter st h
theorem jMU(lo d:Int)(n:Nat)(H1:Hp):Seq (Its lo d n) H1 ((List.range n).map fun i=>V.int (lo+(i:Nat)*d)) where
 go:=fun i H _ hi=>by
  rw [List.length_map,List.length_range] at hi
  exact hi
 yld:=fun i H x H' _ hi y=>by
  obtain⟨e,hx⟩:=y
  exists e
  rw [List.length_map,List.length_range] at hi
  rw [List.getElem?_map,List.getElem?_range hi,hx]
  rfl
 stop:=fun H _=>by
  show n<=_
  rw [List.length_map,List.length_range]
  exact Nat.le_refl _
theorem jMV{a b d:Int}(ha:-(2^60)<=a)(ha':a<2^60)(hb:-(2^60)<=b)(hb':b<2^60)(hd:0<d)(hd':d<2^29):Builtin.Range.small a b d=true:=by
 unfold Builtin.Range.small Builtin.Range.rangeSize
 simp only [Builtin.Range.rangeFitsLong,Bool.and_eq_true,Bool.or_eq_true,decide_eq_true_eq,beq_iff_eq,show d > 0 from hd,if_true]
 by_cases h:a<b
 ·have h1:(b-a-1)/d<=b-a-1:=Int.ediv_le_self _ (by omega)
  have h2:0<=(b-a-1)/d:=Int.ediv_nonneg (by omega) (by omega)
  have h3:d*((b-a-1)/d)<=b-a-1:=Int.mul_ediv_self_le (by omega)
  simp only [if_pos h]
  omega
 ·simp only [if_neg h]
  omega
section
variable {X:Cx}{tg:Expr}
theorem jNK{pins:List (Addr×Obj)}{σ:St}{H:Hp}{s:Shared}{R:It->Hp->Prop}{E:Value->Shared->Prop}{lo hi d:Int}{t u v:Tok}{tk:Nat}(I:Inv X pins σ H s)(hs:Builtin.Range.small lo hi d=true)(h0:0<=Builtin.Range.rangeSize lo hi d)
 (q:R (Its lo d (Builtin.Range.rangeSize lo hi d).toNat) H):wpAny (model X.prog X.w) X.A (pyIter (.ref s.heap.objs.size)) (PIE X pins σ tg R) E { s with heap:=s.heap.push { cls:=.type "range",data:=.fields #[.int lo t,.int hi u,.int d v] },toks:=tk }:=by
 refine wpAny_pyIter_range (IsRange.new ..) hs ?_
 have I1:Inv X pins σ H { s with heap:=s.heap.push { cls:=.type "range",data:=.fields #[.int lo t,.int hi u,.int d v] },toks:=tk }:=I.kept fun b o e=>Heap.get?_push_of_some _ e
 refine⟨(s.heap.push { cls:=.type "range",data:=.fields #[.int lo t,.int hi u,.int d v] }).objs.size,[(s.heap.push { cls:=.type "range",data:=.fields #[.int lo t,.int hi u,.int d v] }).objs.size],_,_,H,rfl,
  I1.kept (t':=tk) fun b o e=>Heap.get?_push_of_some _ e,jL2 _ lo d _,?_,fun b hb=>?_,q⟩
 ·have e1:lo+((0:Nat):Int)*d=lo:=by simp
  have e2:(((Builtin.Range.rangeSize lo hi d).toNat:Nat):Int)-((0:Nat):Int)=Builtin.Range.rangeSize lo hi d:=by omega
  show IsRangeIter _ _ (lo+((0:Nat):Int)*d) ((((Builtin.Range.rangeSize lo hi d).toNat:Nat):Int)-((0:Nat):Int)) d
  rw [e1,e2]
  exact (Heap.get?_push_size _ rfl)
 ·have e:b=(s.heap.push { cls:=.type "range",data:=.fields #[.int lo t,.int hi u,.int d v] }).objs.size:=by simpa using hb
  subst e
  exact I1.fpOk (Nat.le_refl _) (I1.hok.fresh (Nat.le_refl _))
def iRng3(ta:TA):TI:=fun σ H R=>ta σ H fun vs H1=>∃ i j d:Int,vs=[.int i,.int j,.int d]/\(-(2^60)<=i/\i<2^60/\-(2^60)<=j/\j<2^60/\0<d/\d<2^29)/\R (Its i d (if i<j then (j-i-1)/d+1 else 0).toNat) H1
theorem jNL{a b c:Expr}{ta:TA}{p pos:Pos}(hg:Gl X "range")(hm:X.mg "range"=none)(ha:PA X [a,b,c] ta)(hs:starEach [a,b,c] X.env=[(false,eval a X.env),(false,eval b X.env),(false,eval c X.env)]:=by rfl)(hs2:starEach [b,c] X.env=[(false,eval b X.env),(false,eval c X.env)]:=by rfl) :
 PI X tg (.Call (.Name "range" p) [a,b,c] [] pos) (iRng3 ta):=by
 intro pins s σ H R I h
 refine Call_ (jGn I hg hm boot_range (PyProof.Rows.callWith_type1 (thn (ha pos pins s σ H _ I h) fun us s1 ⟨vs,H1,I1,r1,q1⟩=>?_) (by rw [hs,hs2]) (by rw [hs2];rfl)))
 obtain⟨i,j,d,e,⟨q1,q2,q3,q4,q5,q6⟩,q⟩:=q1
 subst e
 obtain⟨u1,u2,u3,rfl,x1,x2,x3⟩:∃ u1 u2 u3,us=[u1,u2,u3]/\jAA (.int i) u1/\jAA (.int j) u2/\jAA (.int d) u3:=by
  cases r1 with
  | cons x1 rr =>
    cases rr with
    | cons x2 rr =>
      cases rr with
      | cons x3 rr =>
        cases rr
        exact⟨_,_,_,rfl,x1,x2,x3⟩
 obtain⟨t1,rfl⟩:=x1
 obtain⟨t2,rfl⟩:=x2
 obtain⟨t3,rfl⟩:=x3
 have er:Builtin.Range.rangeSize i j d=if i<j then (j-i-1)/d+1 else 0:=by
  unfold Builtin.Range.rangeSize;rw [if_pos (show d > 0 from q5)]
 refine call_range_3 (by omega) (jNK I1 (jMV q1 q2 q3 q4 q5 q6) ?_ (by rw [er];exact q)) (Or.inl (PyProof.noPylong_small (by omega)))
 rw [er]
 split
 ·have:=Int.ediv_nonneg (a:=j-i-1) (b:=d) (by omega) (by omega)
  omega
 ·exact Int.le_refl _
end
def New(H H':Hp)(G:Hp->Prop):Prop:=∃ S:Addr->Prop,(∀ b,S b->H b=none/\∃ o,H' b=some o)/\∀ H3,(∀ b,S b->H3 b=H' b)->G H3
theorem jGK{J:It}{tc:TT}{te:TE}{σf:Option V->St}{H1:Hp}{Q:VK}{xs:List V}(S:Seq J H1 xs)(G:V->V->Hp->Prop)(hz:xs.length<sizeLine)
 (hc:∀ x∈xs,∀ (H':Hp) (R:Bool->Hp->Prop),jAn H1 H'->R true H'->tc (σf (some x)) H' R)
 (he:∀ x∈xs,∀ (H':Hp) (R:VK),jAn H1 H'->(∀ y H'',jAn H' H''->New H' H'' (G x y)->R y H'')->te (σf (some x)) H' R)
 (q:∀ D H' ys,jAn H1 H'->H1 D=none->H' D=some (.lst ys)->ys.length=xs.length->(∀ (i:Nat) x y,xs[i]?=some x->ys[i]?=some y->G x y H')->Q (.ref D) H'):jKX J tc te σf H1 Q:=by
 intro D hD
 refine⟨fun i m ys H2=>m=xs.length-i/\i<=xs.length/\jAn H1 H2/\H2 D=some (.lst ys)/\ys.length=i/\∀ (k:Nat) x y,xs[k]?=some x->ys[k]?=some y->∃ Z:Addr->Prop,(∀ b,Z b->b≠D/\∃ o,H2 b=some o)/\∀ H3,(∀ b,Z b->H3 b=H2 b)->G x y H3,
  ⟨xs.length,rfl,Nat.zero_le _,jAj hD _,jAb,rfl,fun k x y _ e=>by simp at e⟩,?_⟩
 rintro i m ys H2 ⟨rfl,hi,sm,hD2,hl,hg⟩
 exists hD2
 by_cases hlt:i<xs.length
 ·refine .inr ⟨S.go i H2 sm hlt,by omega,fun x H3 y=>?_⟩
  obtain⟨e,hx⟩:=S.yld i H2 x H3 sm hlt y
  subst e
  have mem:x∈xs:=List.mem_of_getElem? hx
  refine hc x mem _ _ sm (jAU (he x mem _ _ sm fun yv H5 s5 ny=>⟨s5 _ _ hD2,xs.length-(i+1),by omega,rfl,hlt,jCa hD (sm.trans s5) _,jAb,by rw [List.length_append,hl];rfl,fun k x' y' ex ey=>?_⟩))
  by_cases hk:k<i
  ·rw [List.getElem?_append_left (by omega)] at ey
   obtain⟨Z,z1,z2⟩:=hg k x' y' ex ey
   refine⟨Z,fun b hb=>?_,fun H6 h6=>z2 H6 fun b hb=>?_⟩
   ·obtain⟨nb,o,ho⟩:=z1 b hb
    exact⟨nb,o,by rw [jAi nb];exact s5 _ _ ho⟩
   ·obtain⟨nb,o,ho⟩:=z1 b hb
    rw [h6 b hb,jAi nb,s5 _ _ ho,ho]
  ·have ek:k=i:=by
    have:=(List.getElem?_eq_some_iff.mp ey).1
    rw [List.length_append,hl] at this
    have:k<i+1:=this
    omega
   subst ek
   rw [List.getElem?_append_right (by omega),hl,Nat.sub_self] at ey
   obtain rfl:yv=y':=Option.some.inj ey
   obtain rfl:x=x':=Option.some.inj (hx.symm.trans ex)
   obtain⟨Z,z1,z2⟩:=ny
   have nD:∀ b,Z b->b≠D:=fun b hb e=>by
    have:=(z1 b hb).1
    rw [e,hD2] at this
    cases this
   refine⟨Z,fun b hb=>?_,fun H6 h6=>z2 H6 fun b hb=>?_⟩
   ·obtain⟨_,o,ho⟩:=z1 b hb
    exact⟨nD b hb,o,by rw [jAi (nD b hb)];exact ho⟩
   ·rw [h6 b hb,jAi (nD b hb)]
 ·have e:i=xs.length:=by omega
  refine .inl ⟨by rw [e];exact S.stop H2 sm,q D H2 ys sm hD hD2 (by omega) fun k x y ex ey=>?_⟩
  obtain⟨Z,_,z2⟩:=hg k x y ex ey
  exact z2 H2 fun _ _=>rfl
def jHM:Value->V
 | .bool b=>.bl b
 | .int i _=>.int i
 | .str x _=>.str x
 | .bytes b _=>.byt b
 | .float b _=>.flt b
 | .ref a=>.ref a
 | .type n=>.ty n
 | _=>.non
theorem jFM{v:V}{u:Value}(r:jAA v u):jHM u=v:=by
 cases v with
 | non=>cases (show u=Value.none from r);rfl
 | bl b=>cases (show u=Value.bool b from r);rfl
 | int i=>obtain⟨t,q⟩:=(show ∃ t,u=Value.int i t from r);cases q;rfl
 | str x=>obtain⟨t,q⟩:=(show ∃ t,u=Value.str x t from r);cases q;rfl
 | byt b=>obtain⟨t,q⟩:=(show ∃ t,u=Value.bytes b t from r);cases q;rfl
 | flt b=>obtain⟨t,q⟩:=(show ∃ t,u=Value.float b t from r);cases q;rfl
 | ref a=>cases (show u=Value.ref a from r);rfl
 | ty n=>cases (show u=Value.type n from r);rfl
def rIndex:V->List V->Hp->VK->Prop:=fun x vs H Q=>∃ l xs y j,x=.ref l/\vs=[y]/\H l=some (.lst xs)/\xs.all jCf=true/\jCf y=true/\xs.length<=1000/\j<xs.length/\eqV (xs.getD j .non) y=true/\(∀ m,m<j->eqV (xs.getD m .non) y=false)/\Q (.int (j:Nat)) H
theorem jOk{X:Cx}:MtR X "list.index" rIndex:=by
 intro pins s σ H x vs v us Q I rx rv h
 obtain⟨l,xs,y,j,rfl,rfl,hH,fx,fy,hz,hj,hit,hno,q⟩:=h
 cases rx
 obtain⟨u,rfl,ru⟩:=jCV rv
 obtain⟨z,its,n,r,hl,e⟩:=I.lstM hH
 have at_:∀ m (hm:m<its.toArray.size),eqV (jHM (its.toArray[m])) y=eqV (xs.getD m .non) y:=fun m hm=>by rw [jFM (jBl r m hm)]
 have hj2:j<its.toArray.size:=by simp;omega
 refine call_meets F.slot_list_index ⟨_,e,rfl⟩ F.entry_list_index (F.args_list_index_2 _ _) (SeqAt.list_indexAt l its.toArray n none #[] u (fun w=>eqV (jHM w) y) j hj2 (by omega) (by rw [at_ j hj2];exact hit) (fun m hm hlt=>by rw [at_ m hm];exact hno m hlt)) ⟨e,fun w hw=>?_,⟨.int (j:Nat),H,I.tok _,⟨_,rfl⟩,q⟩⟩
 obtain⟨m,hm,rfl⟩:=Array.getElem_of_mem hw
 have ra:=jBl r m hm
 have:=jHm (A:=X.A.in1) (s:=s) ra ru (jHL fx m) fy
 rwa [<- jFM ra] at this
def rDq(K:PySem.W.Frag)(n:Nat)(b:Bool):R2:=fun x y H Q=>∃ a c xs ys,x=.ref a/\y=.ref c/\((SqL K H a xs/\SqL K H c ys)\/(SqT K H a xs/\SqT K H c ys))/\xs.length=ys.length/\(∀ j,j<xs.length->Deq K H n (xs.getD j .non) (ys.getD j .non))/\Q (.bl b) H
theorem jFN{A:Around}{n:Nat}(h:A.units+(n+1)<cLine):A.in1.units+n<cLine:=by
 have:A.in1.units=A.units+1:=by first|rfl|exact Around.units_in1 _
 omega
theorem jOl{X:Cx}{n:Nat}(hu:X.A.units+(n+1)<cLine):OpR X (compareOp .Eq) (rDq X.K n true):=by
 intro pins s σ H x y v u Q I rx ry h
 obtain⟨a,c,xs,ys,rfl,rfl,hs,hl,he,q⟩:=h
 cases rx
 cases ry
 rcases hs with⟨h1,h2⟩|⟨h1,h2⟩
 ·obtain⟨its,r1,l1,_⟩:=I.list h1
  obtain⟨jts,r2,l2,_⟩:=I.list h2
  have e1:=r1.length
  have e2:=r2.length
  have:=SeqAt.RcAt.lists (A:=X.A) (e:=fun _=>true) l1.isList l2.isList (by simp;omega) (by omega) (fun j q1 q2=>jDN I n X.A.in1 _ _ _ _ (jFN hu) (he j (by simp at q1;omega)) (jBl r1 j q1) (jBl r2 j q2))
  rw [show (List.range its.toArray.size).all (fun _=>true)=true from List.all_eq_true.mpr fun _ _=>rfl] at this
  exact this X.prog X.w _ _ ⟨.bl true,H,I,rfl,q⟩
 ·obtain⟨its,r1,l1,_⟩:=I.tuple h1
  obtain⟨jts,r2,l2,_⟩:=I.tuple h2
  have e1:=r1.length
  have e2:=r2.length
  have:=SeqAt.RcAt.tuples (A:=X.A) (e:=fun _=>true) l1 l2 (by omega) (fun j q1 q2=>jDN I n X.A.in1 _ _ _ _ (jFN hu) (he j (by simp at q1;omega)) (jBl r1 j q1) (jBl r2 j q2))
  rw [show (List.range (min its.toArray.size jts.toArray.size)).all (fun _=>true)=true from List.all_eq_true.mpr fun _ _=>rfl,Bool.true_and,beq_iff_eq.mpr (by simp;omega)] at this
  exact this X.prog X.w _ _ ⟨.bl true,H,I,rfl,q⟩
theorem jOm{X:Cx}{n:Nat}(hu:X.A.units+(n+1)<cLine):OpR X (compareOp .NotEq) (rDq X.K n false):=by
 intro pins s σ H x y v u Q I rx ry h
 obtain⟨a,c,xs,ys,rfl,rfl,hs,hl,he,q⟩:=h
 cases rx
 cases ry
 rcases hs with⟨h1,h2⟩|⟨h1,h2⟩
 ·obtain⟨its,r1,l1,_⟩:=I.list h1
  obtain⟨jts,r2,l2,_⟩:=I.list h2
  have e1:=r1.length
  have e2:=r2.length
  have:=SeqAt.RcNeAt.lists (A:=X.A) (e:=fun _=>true) l1.isList l2.isList (by simp;omega) (by omega) (fun j q1 q2=>jDN I n X.A.in1 _ _ _ _ (jFN hu) (he j (by simp at q1;omega)) (jBl r1 j q1) (jBl r2 j q2))
  rw [show (List.range its.toArray.size).all (fun _=>true)=true from List.all_eq_true.mpr fun _ _=>rfl] at this
  exact this X.prog X.w _ _ ⟨.bl false,H,I,rfl,q⟩
 ·obtain⟨its,r1,l1,_⟩:=I.tuple h1
  obtain⟨jts,r2,l2,_⟩:=I.tuple h2
  have e1:=r1.length
  have e2:=r2.length
  have:=SeqAt.RcNeAt.tuples (A:=X.A) (e:=fun _=>true) l1 l2 (by omega) (fun j q1 q2=>jDN I n X.A.in1 _ _ _ _ (jFN hu) (he j (by simp at q1;omega)) (jBl r1 j q1) (jBl r2 j q2))
  rw [show (List.range (min its.toArray.size jts.toArray.size)).all (fun _=>true)=true from List.all_eq_true.mpr fun _ _=>rfl,Bool.true_and,beq_iff_eq.mpr (by simp;omega)] at this
  exact this X.prog X.w _ _ ⟨.bl false,H,I,rfl,q⟩
theorem jCZ{A:Around}{k:Nat}(hr:jAZ k A)(n:Nat)(h:n<=60):A.units+(n+1)<cLine:=Nat.lt_of_le_of_lt (Nat.add_le_add_left (by omega:n+1<=64) _) hr.units
section
variable {X:Cx}{elt iter:Expr}{x x2:Str}{px px2 tp pos:Pos}{kk:Nat}{ifs:List Expr}{scope:Scope}{frees:List (Str×Nat)}{tc:TT}{te:TE}
end
theorem jME:∀ {xs:List V} {us:List Value},xs.length=us.length->(∀ (k:Nat) x u,xs[k]?=some x->us[k]?=some u->jAA x u)->jAH xs us
 | [],[],_,_=>.nil
 | x::xs,u::us,e,h=>.cons (h 0 x u rfl rfl) (jME (Nat.succ.inj e) fun k y w h1 h2=>h (k+1) y w h1 h2)
 | [],_::_,e,_=>nomatch e
 | _::_,[],e,_=>nomatch e
section
variable {X:Cx}
end
end L2
namespace PySem
open Sem (wp)
theorem jJy:typeLookup (.type "list") "keys"=pure none:=am_miss_of_fast (by decide +kernel)
theorem jL3{prog:Program}{w:World}{A:Around}{E:Value->Shared->Prop}{s:Shared}{a:Addr}{xs:Array Value}{n:Nat}{Q:Option Value->Shared->Prop}
 (hx:s.heap.get? a=some { cls:=.type "list",dict:=none,data:=.seq xs n }) (hA:A.handled=none)
 (h:∀ h' tk,(∀ b ob,s.heap.get? b=some ob->h'.get? b=some ob)->Q none { s with heap:=h',toks:=tk }) :
 wpAny (model prog w) A (getAttr? (.ref a) "keys") Q E s:=by
 obtain⟨hp,g,d,tk,os⟩:=s
 have hT:∀ tk',(⟨hp,g,d,tk',os⟩:Shared).TypeIs (.ref a) "list":=fun _=>⟨_,hx,rfl⟩
 have g1:=sub_AttributeError
 have g3:=F.slot_list_getattribute.lookup
 have g4:=F.slot_list_getattribute.bind (.ref a)
 have g5:=am_list_getattr_none
 unfold getAttr? getAttrBy? getAttrBy
 repeat (any_goals (first|assumption|exact hT _|((with_reducible show wpAny _ _ (call (Value.builtin "list.__getattribute__") _ _) _ _ _);refine call_meets F.slot_list_getattribute (hT _) am_entry_list_getattribute (F.args_list_getattribute_2 _ _) (meets_getattribute_miss_list a xs n _ "keys" _ jJy (by decide +kernel) (by size_fits)) ⟨hx,hA,fun h' tk' e hx=>?_⟩)|wp_step))
 obtain⟨t',u',he⟩:=hx.there
 show wpAny (model prog w) A (getattributeRaised _ _ _ _ _ _ _) _ _ _
 have hTe:∀ tk',(⟨h',g,d,tk',os⟩:Shared).TypeIs (.ref e) "AttributeError":=fun _=>⟨_,he,rfl⟩
 unfold getattributeRaised
 repeat (any_goals (first|assumption|exact hTe _|wp_step))
 exact h _ _ hx.keeps
theorem jFj:entryFor table "dict.update.loop"=some Builtin.«dict.update.loop»:=entryFor_of_tree (by kernel_rfl)
theorem jCi:plainId "dict.update.loop"=true:=by decide +kernel
section
variable {prog:Program}{w:World}{K:Type}[DecidableEq K]{knd:KeyKind prog w K}{A:Around}{R:Result->Shared->Prop}
def jCS(ps:List (K×Value)):List (K×Value):=ps.foldl (fun acc p=>stored acc p.1 p.2) []
theorem jMW(kvs:List (K×Value))(k:K)(v:Value):(stored kvs k v).length<=kvs.length+1:=by
 unfold stored
 split
 ·rw [List.length_map];exact Nat.le_succ _
 ·rw [List.length_append];exact Nat.le_refl _
theorem jL4(ps:List (K×Value))(p:K×Value):jCS (ps++[p])=stored (jCS ps) p.1 p.2:=by
 unfold jCS
 rw [List.foldl_append]
 rfl
theorem jKo:∀ (ps acc:List (K×Value)),(ps.foldl (fun acc p=>stored acc p.1 p.2) acc).length<=acc.length+ps.length
 | [],_=>Nat.le_refl _
 | p::r,acc=>by
   have h1:=jKo r (stored acc p.1 p.2)
   have h2:=jMW acc p.1 p.2
   rw [List.foldl_cons,List.length_cons]
   omega
theorem jMX{h₀:Heap}{l it D:Addr}{items:Array Value}{ps:List (K×Value)}(hA:A.handled=none)(hl:h₀.IsList l items)(nit:h₀.get? it=none)(nD:h₀.get? D=none)(ne:it≠D)
 (hn:items.size=ps.length) (hi:∀ (i:Nat) p,ps[i]?=some p->∃ t key,items[i]?=some (.ref t)/\knd.is p.1 key=true/\h₀.IsTuple t #[key,p.2]) (hz:ps.length<=sizeLine) :
 ∀ (k i:Nat) (s:Shared) (tk:Tok),ps.length-i=k->i<=ps.length->s.heap.IsListIter it l i->(∀ b o,h₀.get? b=some o->s.heap.get? b=some o)->s.heap.DictOf knd D (jCS (ps.take i)) ->
  (∀ h' tk',(∀ b o,b≠it->b≠D->s.heap.get? b=some o->h'.get? b=some o)->h'.DictOf knd D (jCS ps)->R (.ok (.ret .none)) { s with heap:=h',toks:=tk' }) ->
  codeAny (model prog w) A (.builtin "dict.update.loop" ⟨[.ref D,.ref it,.int i tk,.none],[]⟩) R s:=by
 intro k
 induction k with
 | zero =>
   intro i s tk hk hi' hit kp hD hR
   have e:i=ps.length:=by omega
   subst e
   refine codeAny_builtin jFj ?_
   rw [Around.under_plainId jCi _]
   show wpAny _ A.in1 (pyNext (.ref it) >>= _) _ _ s
   refine wpAny_bind (wpAny_pyNext_list_end (i:=ps.length) (items:=items) hA hit ?_ ?_ fun h' hx=>?_)
   ·exact let ⟨o,ho,r⟩:=hl;⟨o,kp _ _ ho,r⟩
   ·exact Array.getElem?_eq_none (by omega)
   ·show wpAny _ A.in1 (Builtin.Dict.addKeywords D [] >>= fun _=>ret Value.none) _ _ _
    refine wpAny_bind (wpAny_pure (wpAny_pure (hR h' s.toks (fun b o nb _ e=>hx b o nb e) ?_)))
    rw [List.take_length] at hD
    exact hD.extBut hx (Ne.symm ne)
 | succ k ih =>
   intro i s tk hk hi' hit kp hD hR
   obtain⟨p,hp⟩:∃ p,ps[i]?=some p:=⟨_,List.getElem?_eq_getElem (by omega)⟩
   obtain⟨t,key,ht,hkey,htup⟩:=hi i p hp
   refine codeAny_builtin jFj ?_
   rw [Around.under_plainId jCi _]
   show wpAny _ A.in1 (pyNext (.ref it) >>= _) _ _ s
   refine wpAny_bind (wpAny_pyNext_list_item (i:=i) (items:=items) hit (let ⟨o,ho,r⟩:=hl;⟨o,kp _ _ ho,r⟩) ht fun h' hit' hs=>?_)
   have kp':∀ b o,h₀.get? b=some o->h'.get? b=some o:=fun b o e=>(hs.2 b (fun z=>by rw [z,nit] at e;cases e)).trans (kp b o e)
   obtain⟨ot,hot,hct,nt,hdt⟩:=htup
   have hot':=kp' _ _ hot
   have hT:(⟨h',s.gens,s.drawn,s.toks,s.os⟩:Shared).TypeIs (.ref t) "tuple":=⟨_,hot',hct⟩
   have tk1:ps.take (i+1)=ps.take i++[p]:=by rw [List.take_add_one,hp];rfl
   have pz:(jCS (ps.take i)).length<=sizeLine:=by
    have h1:=jKo (ps.take i) []
    rw [List.length_take] at h1
    unfold jCS
    simp only [List.length_nil] at h1
    omega
   show wpAny _ A.in1 (holding [Value.ref t] _ >>= _) _ _ _
   refine wpAny_bind (wpAny_holding ?_)
   refine wpAny_bind (wpAny_tryCatch ?_)
   unfold Builtin.Dict.pairItems
   refine wpAny_bind (wpAny_typeOf hT ?_)
   rw [if_pos (by decide)]
   refine wpAny_bind (wpAny_seqItems hot' hdt (wpAny_pure ?_))
   show wpAny _ A.in1 (holding [key,p.2] (dictSet D key p.2)) _ _ _
   refine wpAny_holding ?_
   have hD':Heap.DictOf knd h' D (jCS (ps.take i)):=hD.sameBut hs (Ne.symm ne)
   refine wpAny_dictSet_pairs (s:=⟨h',s.gens,s.drawn,s.toks,s.os⟩) (hsz:=pz) hkey hD' fun h2 hD2 hs2=>?_
   rw [<- jL4,<- tk1] at hD2
   refine wpAny_pure ⟨plainId_quiet jCi _,?_⟩
   have hit2:h2.IsListIter it l (i+1):=let ⟨o,ho,r⟩:=hit';⟨o,(hs2.2 it ne).trans ho,r⟩
   refine ih (i+1) ⟨h2,s.gens,s.drawn,s.toks+1,s.os⟩ 0 (by omega) (by omega) hit2 (fun b o e=>(hs2.2 b (fun z=>by rw [z,nD] at e;cases e)).trans (kp' b o e)) hD2 fun h3 tk3 k3 hD3=>?_
   exact hR h3 tk3 (fun b o n1 n2 e=>k3 b o n1 n2 ((hs2.2 b n2).trans ((hs.2 b n1).trans e))) hD3
theorem jKy{E:Value->Shared->Prop}{s:Shared}{l:Addr}{items:Array Value}{n:Nat}{ps:List (K×Value)}{Q:Value->Shared->Prop}(hA:A.handled=none)(hx:s.heap.get? l=some { cls:=.type "list",dict:=none,data:=.seq items n })
 (hn:items.size=ps.length) (hi:∀ (i:Nat) p,ps[i]?=some p->∃ t key,items[i]?=some (.ref t)/\knd.is p.1 key=true/\s.heap.IsTuple t #[key,p.2]) (hz:ps.length<=sizeLine)
 (h:∀ h' tk,(∀ b o,s.heap.get? b=some o->h'.get? b=some o)->h'.DictOf knd s.heap.objs.size (jCS ps)->Q (.ref s.heap.objs.size) { s with heap:=h',toks:=tk }) :
 wpAny (model prog w) A (call (.type "dict") [.ref l]) Q E s:=by
 refine callType_codes (Q₁:=fun obj s₁=>obj=.ref s.heap.objs.size/\s₁={ s with heap:=s.heap.push { cls:=.type "dict",data:=.dict #[] } }) F.kt_called_dict (F.kt_typeCall_dict_1 _) F.entry_dict_init (kt_code_dict_new _ ⟨rfl,rfl⟩) ?_
 rintro obj s₁ ⟨rfl,rfl⟩
 have hnew:(s.heap.push { cls:=.type "dict",data:=.dict #[] }).DictOf knd s.heap.objs.size []:=Heap.DictOf.new s.heap
 have hx':(s.heap.push { cls:=.type "dict",data:=.dict #[] }).get? l=some { cls:=.type "list",dict:=none,data:=.seq items n }:=Heap.get?_push_of_some _ hx
 exists hnew.typeIs,F.args_dict_init_2 _ _
 unfold Builtin.«dict.__init__»
 refine wpAny_bind ?_
 unfold Builtin.Dict.selfAndRest
 refine wpAny_bind (wpAny_notOrdered_dict hnew.typeIs ?_)
 show wpAny _ _ (pure (s.heap.objs.size,[Value.ref l])) _ _ _
 refine wpAny_pure ?_
 show wpAny _ _ (Builtin.Dict.updateFrom "dict.__init__" s.heap.objs.size (.ref l) [] .none) _ _ _
 unfold Builtin.Dict.updateFrom
 refine wpAny_bind (wpAny_typeOf (T:="list") ⟨_,hx',rfl⟩ ?_)
 rw [if_pos (by decide)]
 refine wpAny_bind (jL3 hx' hA fun h1 tk1 k1=>?_)
 simp only [Option.isNone_none,if_true]
 refine wpAny_bind (wpAny_rule (wpAny_bind (wpAny_pyIter_list (items:=items) ⟨_,k1 _ _ hx',rfl,n,rfl⟩ ?_)))
 have hsz:s.heap.objs.size<h1.objs.size:=by
  obtain⟨o,_,_,ho,_⟩:=hnew
  exact Heap.lt_size (k1 _ _ ho)
 refine wpAny_pure ⟨plainId_quiet jCi _,?_⟩
 have keep:∀ b o,s.heap.get? b=some o->(h1.push { cls:=.type "list_iterator",data:=.fields #[.ref l,.int 0 0] }).get? b=some o:=fun b o e=>Heap.get?_push_of_some _ (k1 _ _ (Heap.get?_push_of_some _ e))
 refine jMX (A:=A.in1) (R:=wants (fun r s₂=>r=Value.none/\Q (Value.ref s.heap.objs.size) s₂) E) (h₀:=s.heap) (l:=l) (items:=items) (ps:=ps) hA ⟨_,hx,rfl,n,rfl⟩ (Heap.get?_none_of_le (Nat.le_of_lt hsz)) (Heap.get?_none_of_le (Nat.le_refl _)) (Ne.symm (Nat.ne_of_lt hsz)) hn hi hz ps.length 0 ⟨h1.push { cls:=.type "list_iterator",data:=.fields #[.ref l,.int 0 0] },s.gens,s.drawn,tk1,s.os⟩ 0 (Nat.sub_zero _) (Nat.zero_le _) ⟨_,Heap.get?_push_size _ rfl,rfl,rfl⟩ keep ?_ fun h' tk' k' hD'=>?_
 ·obtain⟨o,es,ep,ho,r⟩:=hnew
  exact⟨o,es,ep,Heap.get?_push_of_some _ (k1 _ _ ho),r⟩
 ·refine⟨rfl,h h' tk' (fun b o e=>k' b o ?_ ?_ (keep b o e)) hD'⟩
  ·intro z
   exact absurd (Heap.lt_size e) (by rw [z];exact Nat.not_lt.mpr (Nat.le_of_lt hsz))
  ·intro z
   exact absurd (Heap.lt_size e) (by rw [z];exact Nat.lt_irrefl _)
end
end PySem
namespace L2
open PySem PySem.Spec PyProof.Rows
theorem kv_mk:∀ {kvs:List (Key×V)} {us:List Value},(kvs.map (·.2)).length=us.length->(∀ (i:Nat) q u,kvs[i]?=some q->us[i]?=some u->jAA q.2 u)->∃ vs:List (Key×Value),KV kvs vs/\vs.map (·.1)=kvs.map (·.1)/\vs.map (·.2)=us
 | [],[],_,_=>⟨[],.nil,rfl,rfl⟩
 | q::r,u::us,e,h=>by
   obtain⟨vs,h1,h2,h3⟩:=kv_mk (kvs:=r) (us:=us) (Nat.succ.inj e) fun i q u e1 e2=>h (i+1) q u e1 e2
   exact⟨(q.1,u)::vs,.cons ⟨rfl,h 0 q u rfl rfl⟩ h1,by rw [List.map_cons,List.map_cons,h2],by rw [List.map_cons,h3]⟩
 | [],_::_,e,_=>nomatch e
 | _::_,[],e,_=>nomatch e
inductive jIJ(K:PySem.W.Frag)(xs:List V)(H:Hp)(Q:VK):Prop|mk p ts kvs:xs=[.ref p]->H p=some (.lst ts)->ts.length=kvs.length->(∀ (i:Nat) y (q:Key×V),ts[i]?=some y->kvs[i]?=some q->∃ t,y=.ref t/\SqT K H t [kV q.1,q.2])->(kvs.map (·.1)).Nodup->(∀ d,H d=none->Q (.ref d) (upd H d (.dK kvs)))->jIJ K xs H Q
theorem jIK{X:Cx}(hc:X.calm=true):CallR X (.type "dict") (jIJ X.K):=by
 intro pins s σ H xs us Q I r h
 obtain⟨p,ts,kvs,rfl,hp,lt,ht,nd,q⟩:=h
 obtain⟨u,rfl,rx⟩:=jCV r
 cases rx
 obtain⟨hz,its,n,rv,e⟩:=Rd.ok (u:=.lst ts) (.inl hp) I.hok
 have li:=rv.length
 have at1:∀ (i:Nat) q,kvs[i]?=some q->∃ t key w',its[i]?=some (.ref t)/\jAA (kV q.1) key/\jAA q.2 w'/\s.heap.IsTuple t #[key,w']:=fun i q eq=>by
  have hi:i<kvs.length:=(List.getElem?_eq_some_iff.mp eq).1
  obtain⟨y,ey⟩:∃ y,ts[i]?=some y:=⟨_,List.getElem?_eq_getElem (by omega)⟩
  obtain⟨t,rfl,hq⟩:=ht i y q ey eq
  obtain⟨u,eu,ru⟩:=jAH.get rv ey
  cases ru
  obtain⟨jt,rj,tj,_⟩:=I.tuple hq
  cases rj with
  | cons r1 rr =>
    cases rr with
    | cons r2 rr =>
      cases rr
      exact⟨t,_,_,eu,r1,r2,tj⟩
 obtain⟨ws,lw,gw⟩:∃ ws:List Value,ws.length=kvs.length/\∀ (i:Nat) q u,kvs[i]?=some q->ws[i]?=some u->jAA q.2 u/\∃ t key,its[i]?=some (.ref t)/\jAA (kV q.1) key/\s.heap.IsTuple t #[key,u]:=by
  have ch:∀ i:Fin kvs.length,∃ w',jAA (kvs[i]).2 w'/\∃ t key,its[i.1]?=some (.ref t)/\jAA (kV (kvs[i]).1) key/\s.heap.IsTuple t #[key,w']:=fun i=>by
   obtain⟨t,key,w',h1,h2,h3,h4⟩:=at1 i.1 kvs[i] (List.getElem?_eq_getElem i.2)
   exact⟨w',h3,t,key,h1,h2,h4⟩
  refine⟨List.ofFn fun i=>Classical.choose (ch i),List.length_ofFn,fun i q u e1 e2=>?_⟩
  obtain⟨hi,rfl⟩:=List.getElem?_eq_some_iff.mp e1
  rw [List.getElem?_ofFn,dif_pos hi] at e2
  obtain rfl:=Option.some.inj e2
  exact Classical.choose_spec (ch ⟨i,hi⟩)
 obtain⟨vs,kv,k1,k2⟩:=kv_mk (kvs:=kvs) (us:=ws) (by rw [List.length_map,lw]) fun i q u e1 e2=>(gw i q u e1 e2).1
 have lv:vs.length=kvs.length:=by rw [<- List.length_map (f:=(·.1)),k1,List.length_map]
 refine jKy (knd:=jA4 X.prog X.w) (ps:=vs) (I.ok.hd hc) e (by rw [List.size_toArray];omega) (fun i p ep=>?_) (by omega) fun h' tk keep hd=>?_
 ·have hi:i<vs.length:=(List.getElem?_eq_some_iff.mp ep).1
  have e1:kvs[i]?=some kvs[i]:=List.getElem?_eq_getElem (by omega)
  have e2:ws[i]?=some p.2:=by rw [<- k2,List.getElem?_map,ep];rfl
  have e3:kvs[i].1=p.1:=by
   have h1:(vs.map (·.1))[i]?=some p.1:=by rw [List.getElem?_map,ep];rfl
   rw [k1,List.getElem?_map,e1] at h1
   exact Option.some.inj h1
  obtain⟨_,t,key,h1,h2,h3⟩:=gw i _ _ e1 e2
  refine⟨t,key,by rw [List.getElem?_toArray];exact h1,?_,h3⟩
  rw [<- e3]
  exact jHJ h2
 ·rw [show jCS vs=vs from merged_nil_of_nodup vs (by rw [k1];exact nd)] at hd
  refine⟨.ref s.heap.objs.size,_,I.laid (t':=tk) keep (Nat.le_refl _) (jHo (by omega) (beq_eq_false_iff_ne.mpr (Ne.symm (Nat.ne_of_lt I.big))) kv hd),rfl,q _ (I.hok.fresh (Nat.le_refl _))⟩
inductive jMF(xs:List V)(H:Hp)(Q:VK):Prop|mk a kvs:xs=[.ref a]->Rd H a (.dK kvs)->(∀ d,H d=none->Q (.ref d) (upd H d (.dK kvs)))->jMF xs H Q
theorem jDQ{X:Cx}:CallR X (.type "dict") jMF:=by
 intro pins s σ H xs us Q I r h
 obtain⟨a,kvs,rfl,e,q⟩:=h
 obtain⟨u,rfl,rx⟩:=jCV r
 cases rx
 exact jOa I e fun p s' hp I'=>⟨.ref p,_,I',rfl,q p hp⟩
theorem jHN:bootBuiltins "dict"=some (.type "dict"):=by decide +kernel
open PySem PyProof.Rows PySem.Spec PySem.Calls
section
variable {X:Cx}
end
theorem jLj:∀ {ss:List Str} {us:List Value},jAH (ss.map V.str) us->StrsAre us ss
 | [],_,h=>by cases h;exact .nil
 | s::ss,_,h=>by
   cases h with
   | cons a b =>
     obtain⟨t,rfl⟩:=a
     exact .cons s t (jLj b)
theorem jLk:∀ {us:List Value} {ss:List Str},StrsAre us ss->jAH (ss.map V.str) us
 | _,_,.nil=>.nil
 | _,_,.cons y t h=>.cons ⟨t,rfl⟩ (jLk h)
section
variable {X:Cx}
end
open PySem PySem.Calls PyProof.Rows PyProof.V PySem.Spec PySem.W
theorem coll{prog:Program}{w:World}{A:Around}{E:Value->Shared->Prop}{s:Shared}{T:String}{r d:Addr}{n:Nat}{P:Nat->Value->Prop}{OK:Heap->Prop}{R:List Value->Shared->Prop}(K:KdlSrc prog w T r d n P OK)(hh:A.handled=none)(hok:OK s.heap)(hn:n<=sizeLine)
 (g:∀ (h₁:Heap) (k:Nat) (its:Array Value),s.heap.objs.size<h₁.objs.size->(∀ b o,s.heap.get? b=some o->h₁.get? b=some o)->ItemsOf P its n->R its.toList { s with heap:=h₁,toks:=k }):wpAny (model prog w) A (collect (.ref r)) R E s:=by
 obtain⟨lr,ld⟩:=K.there _ hok
 have fin:∀ (h₁:Heap) (k:Nat) (its:Array Value) (c:Nat),(∀ b o,s.heap.get? b=some o->h₁.get? b=some o)->h₁.get? s.heap.objs.size=some { cls:=.type "list",data:=.seq its c }->ItemsOf P its n->wpAny (model prog w) A (load s.heap.objs.size >>= fun o=>match o.data with|.seq items _=>pure items.toList|_=>unsupported "internal:collect") R E { s with heap:=h₁,toks:=k }:=fun h₁ k its c kp hS it=>wpAny_bind (wpAny_load hS (wpAny_pure (g h₁ k its (Heap.lt_size hS) kp it)))
 unfold collect
 refine wpAny_bind (wpAny_runValue (codeAny_builtin entry_proto_collect' ?_));rw [Around.under_plainId PySem.F.plain_proto_collect _]
 show wpAny _ A.in1 (newList [] >>= fun nl=>again (.builtin "list.__iadd__" ⟨[nl,.ref r],[]⟩)) _ _ s
 refine wpAny_bind (wpAny_newObj_type (wpAny_pure ⟨plainId_quiet PySem.F.plain_list_iadd _,codeAny_builtin entry_list_iadd' ?_⟩));rw [Around.under_plainId PySem.F.plain_list_iadd _]
 have e0:(s.heap.push { cls:=.type "list",data:=.seq ([]:List Value).toArray }).get? s.heap.objs.size=some { cls:=.type "list",data:=.seq #[] }:=Heap.get?_push_size (o:={ cls:=.type "list",data:=.seq ([]:List Value).toArray }) _ rfl
 have key:=kdl_extend (A:=A) (s:={ s with heap:=s.heap.push { cls:=.type "list",data:=.seq ([]:List Value).toArray } }) (R:=fun (q:Result) (s₂:Shared)=>∃ (h₁:Heap) (k:Nat) (its:Array Value) (c:Nat),q=.ok (.ret (.ref s.heap.objs.size))/\s₂={ s with heap:=h₁,toks:=k }/\(∀ b o,s.heap.get? b=some o->h₁.get? b=some o)/\h₁.get? s.heap.objs.size=some { cls:=.type "list",data:=.seq its c }/\ItemsOf P its n) K hh (K.keep _ _ hok fun b _ o e=>Heap.get?_push_of_some _ e) s.heap.objs.size (Nat.ne_of_gt lr) (Nat.ne_of_gt ld) (.ref s.heap.objs.size) 0 e0 (fun h₁ k its c kp hS it=>⟨h₁,k,its,c,rfl,rfl,fun b o e=>kp b o (Nat.ne_of_lt (Heap.lt_size e)) (Heap.get?_push_of_some _ e),hS,it⟩) hn
 refine wpAny_mono key (fun end' s₂ x=>?_) fun e s₂ x=>?_
 ·cases end' with
  | done f =>
    obtain⟨h₁,k,its,c,e,rfl,kp,hS,it⟩:=x
    cases e;exact fin h₁ k its c kp hS it
  | again c₁ =>
    refine⟨x.1,codeAny_mono x.2 fun q s₃ y=>?_⟩
    obtain⟨h₁,k,its,c,rfl,rfl,kp,hS,it⟩:=y
    exact fin h₁ k its c kp hS it
 ·obtain⟨_,_,_,_,e₁,_⟩:=x
  cases e₁
section
variable {X:Cx}
def rCount:V->List V->Hp->VK->Prop:=fun x vs H Q=>∃ l xs y,x=.ref l/\vs=[y]/\H l=some (.lst xs)/\xs.all jCf=true/\jCf y=true/\Q (.int ((xs.countP fun z=>eqV z y:Nat):Int)) H
theorem jOn:MtR X "list.count" rCount:=by
 intro pins s σ H x vs v us Q I rx rv h
 obtain⟨l,xs,y,rfl,rfl,hH,fx,fy,q⟩:=h
 cases rx
 obtain⟨u,rfl,ru⟩:=jCV rv
 obtain⟨z,its,n,r,hl,e⟩:=I.lstM hH
 have ec:List.countP (fun w=>eqV (jHM w) y) its.toArray.toList=xs.countP fun z=>eqV z y:=by
  have all:∀ {xs:List V} {its:List Value},jAH xs its->List.countP (fun w=>eqV (jHM w) y) its=xs.countP fun z=>eqV z y:=by
   intro xs its r
   induction r with
   | nil=>rfl
   | cons a b ih=>rw [List.countP_cons,List.countP_cons,ih,jFM a]
  exact all r
 refine call_meets F.slot_list_count ⟨_,e,rfl⟩ F.entry_list_count (F.args_list_count_2 _ _) (SeqAt.list_countAt l its.toArray n none #[] u fun w=>eqV (jHM w) y) ⟨e,fun w hw=>?_,⟨.int ((xs.countP fun z=>eqV z y:Nat):Int),H,I.tok _,⟨_,by rw [ec]⟩,q⟩⟩
 obtain⟨m,hm,rfl⟩:=Array.getElem_of_mem hw
 have ra:=jBl r m hm
 have:=jHm (A:=X.A.in1) (s:=s) ra ru (jHL fx m) fy
 rwa [<- jFM ra] at this
def jOo:List V->Hp->VK->Prop:=fun xs H Q=>∃ p kvs ss,xs=[.ref p]/\H p=some (.dK kvs)/\kvs.map (fun q=>kV q.1)=ss.map V.str/\ss.length<64/\∀ l ss',H l=none->List.Perm ss' ss->sortedS ss'=true->Q (.ref l) (upd H l (.lst (ss'.map V.str)))
theorem jKz(hc:X.calm=true):CallR X (.builtin "sorted") jOo:=by
 intro pins s σ H xs us Q I r h
 obtain⟨p,kvs,ss,rfl,hp,ek,h64,q⟩:=h
 obtain⟨u,rfl,rx⟩:=jCV r
 cases rx
 obtain⟨z,hd,vs,rk,o,es,ep,e',xd,dt,ko,pr,nd⟩:=I.hok p _ hp
 have hl:=KV.length rk
 have hs:kvs.length=ss.length:=by
  have:=congrArg List.length ek
  rwa [List.length_map,List.length_map] at this
 refine Calls.call_function_entry kind_sorted plain_sorted entry_sorted (args_sorted1 _) ?_;unfold Builtin.«sorted»
 refine wpAny_bind (m:=checkCount "sorted" 1 1 _) (wpAny_pure ?_);show wpAny _ _ (collect (.ref p) >>= _) _ _ _
 refine wpAny_bind (coll (PySem.W.kdl_dict (knd:=jA4 X.prog X.w) (kvs:=vs) (ep:=ep) hd) (I.ok.hd hc) ⟨o,es,e',xd,dt,ko,pr,nd⟩ (by omega) fun h1 tk acc sz1 kp it=>?_)
 have ln:acc.toList.length=ss.length:=by
  have:acc.toList.length=vs.length:=it.1
  omega
 have rv:jAH (ss.map V.str) acc.toList:=jME (by rw [List.length_map];exact ln.symm) fun k x u hx hu=>by
  have hu':acc[k]?=some u:=by simpa using hu
  obtain⟨k',x',e1,e2⟩:=it.2 k u hu'
  rw [<- ek,List.getElem?_map] at hx
  obtain⟨y,ey,rfl⟩:=Option.map_eq_some_iff.mp hx
  have q1:(kvs.map (·.1))[k]?=(vs.map (·.1))[k]?:=by rw [KV.keys rk]
  rw [List.getElem?_map,List.getElem?_map,ey,e1] at q1
  have q2:y.1=k':=Option.some.inj q1
  show jAA (kV y.1) u
  rw [q2]
  exact jMA e2
 have hS:=jLj rv
 refine wpAny_bind (wpAny_newList ?_ (by rw [ln];exact Nat.le_of_lt (jAW (by omega))))
 have hoL:(h1.push (seqObj "list" acc.toList.toArray 0)).get? h1.objs.size=some (seqObj "list" acc.toList.toArray 0):=Heap.get?_push_size _ rfl
 refine wpAny_bind (wpAny_holding (wpAny_call_entry slot_list_sort ⟨_,hoL,rfl⟩ entry_list_sort (list_sort_treeK strKind_oneLt hoL hS.keysOf (fun v₁ v₂ rest e=>keyKind_strs (by rw [<- e];exact hS)) (by omega) fun st' a1 a2=>⟨_,rfl,?_⟩) (args_list_sort _)))
 obtain⟨ss',b1,b2,b3⟩:=sorted_out_str hS a1 a2
 refine wpAny_pure ⟨_,rfl,?_⟩;obtain⟨c,he⟩:=sortedHeap_at (n:=0) hoL (vs:=acc.toList) (out:=(arrOf st').map (·.2))
 have sz:s.heap.objs.size<=h1.objs.size:=Nat.le_of_lt sz1
 refine⟨.ref h1.objs.size,_,I.laid (t':=tk) (fun b o e=>?_) sz (show jA6 X.prog X.w _ _ _ (.lst (ss'.map V.str)) from ⟨by rw [List.length_map,b2.length_eq];exact Nat.le_of_lt (jAW (by omega)),_,c,jLk b1,he⟩),rfl,q _ ss' (I.hok.fresh sz) b2 b3⟩
 have hb:=kp b o e
 rw [sortedHeap_old (Nat.ne_of_lt (Heap.lt_size hb)) (by rw [size_push'];exact Nat.lt_succ_of_lt (Heap.lt_size hb))]
 exact (Heap.get?_push_of_some _ hb :)
end
end L2
theorem L2.bt_sorted:PySem.bootBuiltins "sorted"=some (.builtin "sorted"):=PyProof.Rows.boot_sorted
namespace L2
open PySem PyProof.Rows PySem.Spec PySem.Calls
section
variable {X:Cx}
theorem op_isB:OpR X (compareOp .Is) (fun x y H Q=>∃ a b,x=.bl a/\y=.bl b/\Q (.bl (decide (a=b))) H):=by
 intro pins s σ H x y v u Q I rx ry h
 obtain⟨a,b,rfl,rfl,q⟩:=h
 cases rx
 cases ry
 refine wpAny_of_eq (a:=Value.bool (decide (a=b))) ?_ (jAS I q rfl)
 cases a<;>cases b<;>rfl
end
open PySem PySem.Spec PyProof.Rows
section
variable {X:Cx}
end
section
variable {X:Cx}{a b o e:Expr}{ta tb td te:TE}{pos p pos':Pos}{i:Nat}{x:Str}{r:R2}{op:CmpOp}
theorem psA(hN:X.N.Nodup)(he:PE X e te)(hi:X.N[i]?=some x:=by rfl)(hx:Loc X.env.scope x:=by first|exact Or.inl rfl|exact Or.inr rfl)(hs:swapsWith e (some (.Name x pos')) pos.line X.env=pure false:=by rfl)(hf:X.fn x=true\/X.env.scope.names.lookup x=some .local:=by first|exact .inl rfl|exact .inr rfl|assumption):PS X (.Assign [.Name x pos'] e pos) (tAsg te (jBJ i)):=ps_set hN hi hx he hs hf
theorem pgA(hN:X.N.Nodup)(hi:X.N[i]?=some x:=by rfl)(hx:Loc X.env.scope x:=by first|exact Or.inl rfl|exact Or.inr rfl)(hf:X.fn x=true\/X.env.scope.names.lookup x=some .local:=by first|exact .inl rfl|exact .inr rfl|assumption):PG X (.Name x pos) (jBJ i):=jMq hN hi hx hf
theorem dgA(hu:X.A.units+1<cLine)(ho:PE X o td)(hi:PE X b tb)(hs:NoSl b:=by exact fun _ _=>rfl):PE X (.Subscript o b pos) (tDGet td tb):=pe_dget hu ho hi hs
theorem ixA(hr:IxR X r)(ha:PE X a ta)(hb:PE X b tb)(hs:jJs b:=by exact fun _ _=>rfl):PE X (.Subscript a b pos) (tOp r ta tb):=pe_ix hr ha hb hs
theorem ecA(ho:OpR X (compareOp op) r)(ha:PE X a ta)(hb:PE X b tb)(hm:behindInMarks op b=false:=by exact jNh _):PE X (.Compare a [op] [b] pos) (tOp r ta tb):=pe_cmpR ho ha hb hm
theorem tcA(ho:OpR X (compareOp op) r)(ha:PE X a ta)(hb:PE X b tb)(hm:behindInMarks op b=false:=by exact jNh _):PT X (.Compare a [op] [b] pos) (tTest (tOp r ta tb)):=pt_cmpR ho ha hb hm
theorem jAZ.m{j k:Nat}{A:Around}(h:jAZ k A)(e:j<=k:=by decide):jAZ j A:=h.mono e
theorem scM{N ps:List Str}{sc:Scope}(h:jAk N ps sc:=by exact⟨rfl,rfl,rfl,by decide +kernel,rfl,by decide +kernel,by decide +kernel⟩):jAk N ps sc:=h
end
section
variable {X:Cx}{tg:Expr}
def iDictF(tl:TE):TI:=fun σ H R=>tl σ H fun x H1=>∃ d kvs,x=.ref d/\H1 d=some (.dK kvs)/\∀ o,R (Itd d o kvs) (upd H1 d (.frz o (.dK kvs)))
theorem jOp{l:Expr}{tl:TE}(hl:PE X l tl):PI X tg l (iDictF tl):=by
 intro pins s σ H R I h
 refine thn (hl pins s σ H _ I h) fun v s1 ⟨x,H0,I0,r1,q1⟩=>?_
 obtain⟨d,kvs,rfl,hz0,q0⟩:=q1
 obtain⟨o,eo,I1⟩:=I0.freeze hz0
 have q:=q0 o
 have hz:upd H0 d (.frz o (.dK kvs)) d=some (.frz o (.dK kvs)):=jAb
 generalize upd H0 d (.frz o (.dK kvs))=H1 at I1 q hz
 cases r1
 obtain⟨eo,z,hd,vs,rk,o',es,ep,e',xd,dt,ko,pr,nd⟩:=I1.hok d _ hz
 rw [eo] at e'
 cases e'
 refine wpAny_pyIter_dict hd ⟨o,es,eo,xd,dt,ko,pr,nd⟩ ?_
 refine⟨s1.heap.objs.size,[s1.heap.objs.size],_,_,H1,rfl,I1.kept (t':=s1.toks) fun b o e=>Heap.get?_push_of_some _ e,jKj d _ o kvs rk xd dt ko pr nd,⟨_,Heap.get?_push_size _ rfl,rfl,rfl⟩,fun b hb=>?_,q⟩
 have e:b=s1.heap.objs.size:=by simpa using hb
 subst e
 exact I1.fpOk (Nat.le_refl _) (I1.hok.fresh (Nat.le_refl _))
end
theorem jOq{d:Addr}{o:Obj}{kvs:List (Key×V)}{g:TG}{tb:TS}{D:jBR}{σ:St}{H:Hp}(Pv:Nat->St->Hp->Prop)(h0:Pv 0 σ H)(hl:∀ i σ H,i<=kvs.length->Pv i σ H->H d=some (.frz o (.dK kvs)))
 (hs:∀ i k v σ H,kvs[i]?=some (k,v)->Pv i σ H->g (kV k) σ H fun σ2 H2=>tb { D with nx:=Pv (i+1),ct:=Pv (i+1),bk:=D.nx } σ2 H2) (hd:∀ σ H,Pv kvs.length σ H->D.nx σ H) :
 ∃ W:Nat->Nat->St->Hp->Prop,(∃ m,W 0 m σ H)/\∀ i m σ H,W i m σ H ->
  ((Itd d o kvs).stop i H/\D.nx σ H)\/((Itd d o kvs).go i H/\∃ N:St->Hp->Prop,(∀ σ' H',N σ' H'->∃ m',m'<m/\W (i+1) m' σ' H')/\∀ x H',(Itd d o kvs).yld i H x H'->g x σ H' fun σ2 H2=>tb { D with nx:=N,ct:=N,bk:=D.nx } σ2 H2):=by
 exists fun i m σ H=>m=kvs.length-i/\i<=kvs.length/\Pv i σ H,⟨kvs.length,rfl,Nat.zero_le _,h0⟩
 rintro i m σ H ⟨rfl,hi,p⟩
 have q:=hl i σ H hi p
 by_cases hlt:i<kvs.length
 ·refine .inr ⟨⟨q,hlt⟩,Pv (i+1),fun σ' H' p'=>⟨kvs.length-(i+1),by omega,rfl,hlt,p'⟩,fun x H' y=>?_⟩
  obtain⟨e,k,v,ek,ex⟩:=y
  subst e ex
  exact hs i k v σ _ ek p
 ·have e:i=kvs.length:=by omega
  subst e
  exact .inl ⟨⟨q,rfl⟩,hd _ _ p⟩
end L2
namespace My
open PySem L2
def fig:List Nat:=List.range' 48 10
def isnum(z:Str):Bool:=decide ((1:Int)<=(z.length:Nat))&&decide (((z.length:Nat):Int)<=9)&&(z.cps.toList.all fun c=>decide (c∈fig))&&(decide (z=⟨#[48]⟩) || !decide (z.cps.toList.headD 0=48))
def val(z:Str):Int:=((NumText.digitsVal z.cps.toList:Nat):Int)
def jKZ(z:Str)(lo hi:Int):V:=if (isnum z&&decide (lo<=val z)&&decide (val z<=hi))=true then .int (val z) else .non
def low:List Nat:=List.range' 97 26
def good(z:Str):Bool:=decide ((1:Int)<=(z.length:Nat))&&decide (((z.length:Nat):Int)<=12)&&decide (z.cps.toList.headD 0∈low)&&z.cps.toList.all fun c=>decide (c∈low++fig)
def lay(z:Str):Bool:=decide (z=Str.ofString "both")||(Txt.startswith z (Str.ofString "up:")&&decide (¬ jKZ (Txt.slice z (some 3) none) 2 16=V.non))
def jNM:List Str:=(List.range 15).map fun i=>Str.ofString "up:" ++ Str.ofString (toString (2+((i:Nat):Int)))
open Blk (sg sg_inj sg_app)
def tn(n:Int):Str:=Str.ofString (toString n)
inductive VO where
 | v (x:V)|pair (a b:Int)
 deriving DecidableEq
def non:VO:=.v .non
abbrev cX:Str:=Str.ofString "x"
abbrev cCol:Str:=Str.ofString "colour:"
abbrev cPap:Str:=Str.ofString "paper:"
abbrev cCov:Str:=Str.ofString "cover:"
abbrev cAft:Str:=Str.ofString "after:"
abbrev cSta:Str:=Str.ofString "staple"
abbrev cLay:Str:=Str.ofString "layout"
abbrev yZ:Str:=Str.ofString "one"
abbrev cDash:Str:=Str.ofString "-"
def rst(z p:Str):Str:=Txt.slice z (some ((p.length:Nat):Int)) none
def readCol(span:Str)(pages:Int):VO:=match Txt.split span cDash with
 | [a,b]=>(match jKZ a 1 pages with
   | .int f=>(match jKZ b f pages with
     | .int l=>.pair f l
     | _=>non)
   | _=>non)
 | _=>non
def three:List Str:=[cPap,cCov,cAft]
def four:List Str:=[cX,cCol,cPap,cCov]
def valueOf(z:Str)(pages:Int):VO :=
 if z=cSta then .v (.bl true) else if lay z=true then .v (.str z) else if Txt.startswith z cX=true then .v (jKZ (rst z cX) 1 99) else if Txt.startswith z cCol=true then readCol (rst z cCol) pages
 else match three.find? (fun p=>Txt.startswith z p&&good (rst z p)) with
  | some p=>.v (.str (rst z p))
  | none=>non
def sortOf(z:Str):Str:=if lay z=true then cLay else (four.find? fun p=>Txt.startswith z p).getD z
structure Jb where
 name:Str
 asker:Str
 pages:Int
 copies:Int
 layout:Str
 paper:Str
 cover:Option Str
 colour:Option (Int×Int)
 staple:Bool
 after:List Str
structure Jb.Ok(j:Jb):Prop where
 name:good j.name=true
 asker:good j.asker=true
 p0:1<=j.pages
 p1:j.pages<=999
 c0:1<=j.copies
 c1:j.copies<=99
 lay:j.layout∈yZ::Str.ofString "both" :: jNM
 paper:good j.paper=true
 cover:∀ z,j.cover=some z->good z=true
 colour:∀ a b,j.colour=some (a,b)->1<=a/\a<=b/\b<=j.pages
 after:∀ z∈j.after,good z=true
 nd:j.after.Nodup
 few:j.after.length<=3
def told(pages:Int)(M:List Str):List (Str×VO):=M.map fun w=>(sortOf w,valueOf w pages)
def Jb.head(j:Jb):List Str:=[j.name,j.asker,tn j.pages]
def jDi(a b c d e f g h i j:V):List (Str×V):=[("name",a),("asker",b),("pages",c),("copies",d),("layout",e),("paper",f),("cover",g),("colour",h),("staple",i),("after",j)]
theorem jBV{f:Str}{v:V}:∀ {fs:List (Str×V)},¬ f∈fs.map (·.1)->jBd f v fs=fs++[(f,v)]
 | [],_=>rfl
 | (g,u)::r,h=>by
   have h1:¬ g=f:=fun e=>h (by rw [<- e];exact List.mem_cons_self)
   show (if g=f then _ else (g,u)::jBd f v r)=_
   rw [if_neg h1,jBV fun m=>h (List.mem_cons_of_mem _ m)]
   rfl
theorem jOr(xs:List V)(k:Nat):jHl xs (some (k:Int)) none=xs.drop k:=by
 unfold jHl
 rw [HT.sIx_nat,HT.sIx_none]
 by_cases h:k<=xs.length
 ·rw [Nat.min_eq_left h]
  exact List.take_of_length_le (by rw [List.length_drop];omega)
 ·rw [Nat.min_eq_right (by omega),List.drop_of_length_le (Nat.le_refl _),List.drop_of_length_le (by omega),List.take_nil]
theorem cut_to(xs:List V)(k:Nat):jHl xs none (some (k:Int))=xs.take k:=by
 unfold jHl
 rw [HT.sIx_nat,HT.sIx_none]
 by_cases h:k<=xs.length
 ·rw [Nat.min_eq_left h]
  rfl
 ·rw [Nat.min_eq_right (by omega),List.drop_zero,Nat.sub_zero,List.take_of_length_le (Nat.le_refl _),List.take_of_length_le (by omega)]
def nmC(f r:Nat)(size place l:Nat):List Nat:=(f::List.replicate (size-1) r).set place l
def nm(f r:Nat)(size place l:Nat):Str:=⟨(nmC f r size place l).toArray⟩
def one(c:Nat):Str:=⟨#[c]⟩
inductive Ly where
 | one|both|up (n:Nat)
def Ly.Ok:Ly->Prop
 | .up n=>2<=n/\n<=16
 | _=>True
def Ly.cells:Ly->Nat
 | .up n=>n
 | _=>1
def Ly.backs:Ly->Bool
 | .one=>false
 | _=>true
def Ly.per(l:Ly):Nat:=if l.backs=true then 2*l.cells else l.cells
def upT(n:Nat):Str:=Str.ofString "up:" ++ Str.ofString (toString (n:Int))
def Ly.text:Ly->Str
 | .one=>Str.ofString "one"
 | .both=>Str.ofString "both"
 | .up n=>upT n
def jBe(f:Int)(m:Nat)(n:Int):List Int:=(List.range m).map fun i=>if f+(i:Nat)<=n then f+(i:Nat) else 0
def jCz(l:Ly)(n f:Int):List Int×List Int:=(jBe f l.cells n,if l.backs=true then jBe (f+l.cells) l.cells n else List.replicate l.cells 0)
def jDj(l:Ly)(n:Nat):Nat:=(n-1)/l.per+1
def jDk(l:Ly)(n:Nat):List (List Int×List Int):=(List.range (jDj l n)).map fun i=>jCz l n (1+(i:Nat)*(l.per:Int))
theorem Ly.cells_pos{l:Ly}(h:l.Ok):1<=l.cells/\l.cells<=16:=by
 cases l with
 | one=>exact⟨by decide,by decide⟩
 | both=>exact⟨by decide,by decide⟩
 | up n=>exact⟨Nat.le_trans (by decide) h.1,h.2⟩
theorem Ly.per_pos{l:Ly}(h:l.Ok):1<=l.per/\l.per<=32:=by
 have:=Ly.cells_pos h
 unfold Ly.per
 split<;>omega
def jMG(n:Nat):Bool:=PySem.intText? (Txt.slice (upT n) (some 3) none)==some (n:Int)&&decide ((Txt.slice (upT n) (some 3) none).length<=10)&&decide (upT n≠Str.ofString "one")&&decide (upT n≠Str.ofString "both")&&decide ((upT n).length<=10)
theorem up_all:((List.range 17).drop 2).all jMG=true:=by decide +kernel
theorem jNN{n:Nat}(h1:2<=n)(h2:n<=16):PySem.intText? (Txt.slice (upT n) (some 3) none)=some (n:Int)/\(Txt.slice (upT n) (some 3) none).length<=10/\upT n≠Str.ofString "one"/\upT n≠Str.ofString "both"/\(upT n).length<=10:=by
 have:=List.all_eq_true.mp up_all n (by
  have:n=((List.range 17).drop 2)[n-2]'(by simp;omega):=by simp;omega
  rw [this]
  exact List.getElem_mem _)
 unfold jMG at this
 simp only [Bool.and_eq_true,beq_iff_eq,decide_eq_true_eq] at this
 exact⟨this.1.1.1.1,this.1.1.1.2,this.1.1.2,this.1.2,this.2⟩
def top(i:Nat):Stmt:=PySem.Challenge.pw_spoolhall_k35_run_refuses.main.body.getD i (.Pass ⟨0,0,0,0⟩)
abbrev jMY:Stmt:=top 2
abbrev jDR:Stmt:=jAt (top 5) 0
abbrev jED:Stmt:=jAt (top 7) 0
abbrev jDS:Stmt:=jAt (top 8) 0
abbrev jGL:Stmt:=jAt (top 9) 0
abbrev jF8:Stmt:=jAt (top 10) 0
abbrev jDT:Stmt:=jAt (top 11) 0
abbrev jFk:Stmt:=top 22
abbrev jEE:Stmt:=jAt (top 23) 0
abbrev jCA:Stmt:=jAt (top 23) 1
abbrev jEF:Stmt:=jAt (top 23) 2
abbrev jCr:Stmt:=jAt (top 23) 3
abbrev jGM:Stmt:=jAt (top 24) 0
abbrev jF9:Stmt:=jAt (top 25) 0
abbrev jDU:Stmt:=jAt (top 26) 0
abbrev jF_:Stmt:=top 27
abbrev jGa:Stmt:=top 30
abbrev jGN:Stmt:=top 31
abbrev jIk:Stmt:=top 32
abbrev jEG:Stmt:=top 33
abbrev jFl:Stmt:=jAt (top 38) 0
abbrev jDV:Stmt:=jAt (top 38) 1
abbrev jGb:Stmt:=jAt (top 38) 2
abbrev jFm:Stmt:=jAt (top 38) 3
abbrev jEH:Stmt:=jAt (top 38) 4
abbrev jFn:Stmt:=jAt (top 38) 5
abbrev jFo:Stmt:=jAt (top 39) 0
abbrev jGc:Stmt:=jAt (top 39) 1
abbrev jEI:Stmt:=jAt (top 39) 2
abbrev jEJ:Stmt:=jAt (top 40) 0
abbrev jEK:Stmt:=jAt (top 40) 1
abbrev jDW:Stmt:=jAt (top 40) 2
abbrev jGd:Stmt:=jAt (top 41) 0
abbrev jGe:Stmt:=jAt (top 41) 1
abbrev jGO:Stmt:=jAt (top 43) 0
abbrev jGP:Stmt:=jAt (top 43) 1
abbrev jGf:Stmt:=jAt (top 43) 2
abbrev jHt:Stmt:=jAt (top 43) 3
abbrev jIl:Stmt:=jAt (top 43) 4
abbrev jGg:Stmt:=jAt (top 43) 5
abbrev jGQ:Stmt:=jAt (top 43) 6
abbrev jDX:Stmt:=jAt (top 43) 7
abbrev jGR:Stmt:=jAt (top 43) 8
abbrev jGS:Stmt:=jAt (top 43) 10
abbrev jHu:Stmt:=jAt (top 43) 11
abbrev jC0:Stmt:=jAt (top 43) 12
abbrev jCj:Stmt:=jAt (top 43) 13
abbrev jEL:Stmt:=jAt (top 43) 14
abbrev jHv:Stmt:=jAt (top 43) 15
abbrev jEM:Stmt:=jAt (top 43) 16
abbrev jDY:Stmt:=jAt (top 43) 17
abbrev jGT:Stmt:=jAt (top 45) 0
abbrev jFp:Stmt:=jAt (top 47) 0
abbrev jFq:Stmt:=jAt (top 47) 1
abbrev jLl:Stmt:=jAt (top 47) 2
abbrev jFr:Stmt:=jAt (top 47) 3
abbrev jC1:Stmt:=jAt (top 47) 4
abbrev jGh:Stmt:=jAt (top 47) 5
abbrev jDl:Stmt:=jAt (top 47) 6
abbrev jC2:Stmt:=jAt (top 47) 7
abbrev jDZ:Stmt:=jAt (top 52) 0
abbrev jC3:Stmt:=jAt (top 52) 1
abbrev jC4:Stmt:=jAt (top 52) 2
abbrev jCk:Stmt:=jAt (top 52) 3
abbrev jCB:Stmt:=jAt (top 52) 4
abbrev jC5:Stmt:=jAt (top 52) 5
abbrev jD0:Stmt:=jAt (top 52) 6
abbrev jD1:Stmt:=jAt (top 52) 7
abbrev jBZ:Stmt:=jAt (top 52) 8
abbrev jD2:Stmt:=jAt (top 52) 9
abbrev jD3:Stmt:=jAt (top 52) 10
abbrev jC6:Stmt:=jAt (top 52) 11
abbrev jEN:Stmt:=jAt (top 52) 12
abbrev jDm:Stmt:=jAt (top 52) 13
abbrev jD4:Stmt:=jAt (top 52) 14
abbrev jD5:Stmt:=jAt (top 52) 15
abbrev jD6:Stmt:=top 54
abbrev jGU:Stmt:=top 55
abbrev jGi:Stmt:=top 56
abbrev jFs:Stmt:=top 57
abbrev jGV:Stmt:=top 58
abbrev jGW:Stmt:=top 59
abbrev jEO:Stmt:=top 60
abbrev jFt:Stmt:=top 61
abbrev jD7:Stmt:=top 62
abbrev jGX:Stmt:=top 63
abbrev jD8:Stmt:=top 64
abbrev jD9:Stmt:=top 65
abbrev jD_:Stmt:=top 66
abbrev jC7:Stmt:=top 67
abbrev jEa:Stmt:=top 68
abbrev jEP:Stmt:=top 69
abbrev jFu:Stmt:=top 70
abbrev jDn:Stmt:=top 71
abbrev jHO:Stmt:=top 72
set_option genSizeOf false
theorem wq1:1<=sizeLine:=small (by decide)
theorem wq2:2<=sizeLine:=small (by decide)
theorem wq3:3<=sizeLine:=small (by decide)
theorem wq4:4<=sizeLine:=small (by decide)
theorem wq5:5<=sizeLine:=small (by decide)
theorem wq8:8<=sizeLine:=small (by decide)
theorem wq12:12<=sizeLine:=small (by decide)
theorem wq14:14<=sizeLine:=small (by decide)
structure Txt(K:PySem.W.Frag)(mg:Str->Option Value)(yQ yZ yX yY yV yJ yW yU yK yG cQ cZ cV cK cG vQ vZ vX vY vV vJ vW vU vK vG gQ:Addr):Prop where
 aB:mg "len"=none
 aE:mg "range"=none
 bJ:mg "str"=none
 bp:mg "int"=none
 bK:mg "tuple"=none
 bL:mg "list"=none
 aq:mg "isinstance"=none
 bq:mg "min"=none
 bt:mg "max"=none
 aO:mg "dict"=none
 bM:mg "sorted"=none
 bN:mg "ValueError"=none
 aP:GI mg "SLIP" (-1)
 UP:GS mg "UP" (Str.ofString "up:")
 aX:GI mg "NOTHING" (0)
 bO:GI mg "FIRST_PAGE" (1)
 bP:GI mg "COVER_SHEET" (0)
 aY:GS mg "READY" (Str.ofString "ready")
 bQ:GS mg "JAMMED" (Str.ofString "jammed")
 bR:GS mg "OFF" (Str.ofString "off")
 aQ:GS mg "BLACK" (Str.ofString "black")
 aR:GS mg "COLOUR" (Str.ofString "colour")
 bS:GS mg "WITHIN" (Str.ofString "within")
 dw:Cls K yQ
 dz:mg "Layout"=some (.ref yQ)
 dA:jAz K yQ "cells"
 dB:jAz K yQ "backs"
 aI:Cls K yZ
 dC:mg "One"=some (.ref yZ)
 aZ:jAz K yZ "cells"
 bb:jAz K yZ "backs"
 aJ:Cls K yX
 dD:mg "Both"=some (.ref yX)
 bc:jAz K yX "cells"
 bd:jAz K yX "backs"
 aK:Cls K yY
 dE:mg "Several"=some (.ref yY)
 bf:jAz K yY "cells"
 bg:jAz K yY "backs"
 dF:Cls K yV
 dG:mg "State"=some (.ref yV)
 dH:jAz K yV "word"
 ay:Cls K yJ
 dJ:mg "Ready"=some (.ref yJ)
 aS:jAz K yJ "word"
 az:Cls K yW
 dL:mg "Jammed"=some (.ref yW)
 aU:jAz K yW "word"
 ar:Cls K yU
 dM:mg "Away"=some (.ref yU)
 aL:jAz K yU "word"
 bu:jAz K yU "jammed"
 aa:Cls K yK
 dN:mg "Run"=some (.ref yK)
 aA:jAz K yK "job"
 bi:jAz K yK "inks"
 aC:jAz K yK "passed"
 ah:jAz K yK "printer"
 aM:jAz K yK "slipped"
 bj:jAz K yK "broken"
 ad:Cls K yG
 dO:mg "Job"=some (.ref yG)
 aF:jAz K yG "name"
 bT:jAz K yG "asker"
 bv:jAz K yG "pages"
 bw:jAz K yG "copies"
 bx:jAz K yG "layout"
 aV:jAz K yG "paper"
 bn:jAz K yG "cover"
 bz:jAz K yG "colour"
 bU:jAz K yG "staple"
 bV:jAz K yG "after"
 ag:Cls K cQ
 dP:mg "Stock"=some (.ref cQ)
 bo:jAz K cQ "rooms"
 aG:jAz K cQ "amounts"
 ac:Cls K cZ
 dQ:mg "Printer"=some (.ref cZ)
 bA:jAz K cZ "name"
 bW:jAz K cZ "can"
 bB:jAz K cZ "path"
 bC:jAz K cZ "rooms"
 aW:jAz K cZ "trays"
 aN:jAz K cZ "inks"
 ax:jAz K cZ "state"
 au:jAz K cZ "inside"
 bX:PySem.W.excMk K gQ=true
 bY:PySem.W.mroHas K vG (.ref gQ)=true
 bZ:PySem.W.mroHas K vY (.ref gQ)=true
 ce:PySem.W.mroHas K vU (.ref gQ)=true
 cf:PySem.W.mroHas K cG (.ref gQ)=true
 cg:PySem.W.mroHas K vW (.ref gQ)=true
 cj:PySem.W.mroHas K vJ (.ref gQ)=true
 ck:PySem.W.mroHas K vG (.ref vG)=true
 cm:PySem.W.mroHas K vY (.ref vG)=false
 cq:PySem.W.mroHas K vY (.ref vY)=true
 cr:PySem.W.mroHas K vU (.ref vG)=false
 cu:PySem.W.mroHas K vU (.ref vY)=false
 cw:PySem.W.mroHas K vU (.ref vU)=true
 cx:PySem.W.mroHas K cG (.ref vG)=false
 cy:PySem.W.mroHas K cG (.ref vY)=false
 cz:PySem.W.mroHas K cG (.ref vU)=false
 cC:PySem.W.mroHas K cG (.ref cG)=true
 cE:PySem.W.mroHas K vW (.ref vG)=false
 cF:PySem.W.mroHas K vW (.ref vY)=false
 cH:PySem.W.mroHas K vW (.ref vU)=false
 cI:PySem.W.mroHas K vW (.ref cG)=false
 cL:PySem.W.mroHas K vW (.ref vW)=true
 da:PySem.W.mroHas K vJ (.ref vG)=false
 db:PySem.W.mroHas K vJ (.ref vY)=false
 dc:PySem.W.mroHas K vJ (.ref vU)=false
 de:PySem.W.mroHas K vJ (.ref cG)=false
 df:PySem.W.mroHas K vJ (.ref vW)=false
 dg:PySem.W.mroHas K vJ (.ref vJ)=true
 dR:XCl K cV ["place"]
 dh:mg "BadLine"=some (.ref cV)
 dU:XCl K cK ["job"]
 dj:mg "Busy"=some (.ref cK)
 ai:XCl K cG ["name"]
 bD:mg "Dry"=some (.ref cG)
 dX:XCl K vQ ["ring"]
 dl:mg "GoesRound"=some (.ref vQ)
 dY:XCl K vZ ["place"]
 dn:mg "NoHeap"=some (.ref vZ)
 dZ:XCl K vX ["job","lacks"]
 dq:mg "NoPrinter"=some (.ref vX)
 ae:XCl K vY ["found"]
 bE:mg "NotNow"=some (.ref vY)
 eh:XCl K vV ["place"]
 du:mg "NoWay"=some (.ref vV)
 al:XCl K vJ ["job"]
 bF:mg "Nowhere"=some (.ref vJ)
 aj:XCl K vW ["job"]
 bG:mg "Over"=some (.ref vW)
 ak:XCl K vU ["name"]
 bH:mg "TooMuch"=some (.ref vU)
 ej:XCl K vK ["name"]
 dv:mg "Twice"=some (.ref vK)
 ao:XCl K vG ["name"]
 bI:mg "Unknown"=some (.ref vG)
 aH:InX K gQ
 aD:mg "HallError"=some (.ref gQ)
 av:jII K [cV,cK,cG,vQ,vZ,vX,vY,vV,vJ,vW,vU,vK,vG] gQ=true
end My
seal L2.PE L2.PS L2.PSs L2.PT L2.PW L2.PA L2.PI L2.PG L2.PGs L2.PSet L2.PIfs L2.PO L2.PK L2.CallR L2.OpR L2.IxR L2.SlR L2.UnR
namespace My
open PySem L2
open Blk (sg sg_inj sg_app)
section
variable {P:Program}{w:World}{K:PySem.W.Frag}{mg:Str->Option Value}{base:Heap}{fa yQ yZ yX yY yV yJ yW yU yK yG cQ cZ cV cK cG vQ vZ vX vY vV vJ vW vU vK vG gQ:Addr}{fd:FuncData}(T:Txt K mg yQ yZ yX yY yV yJ yW yU yK yG cQ cZ cV cK cG vQ vZ vX vY vV vJ vW vU vK vG gQ)
structure Scr(K:PySem.W.Frag)(H:Hp)(a:Addr):Prop where
 ex:∃ ns:List Int,SqL K H a (ns.map V.int)/\ns.length<=63
def jJz(x:Addr)(H H':Hp):Prop:=∀ b o,b≠x->H b=some o->H' b=some o
inductive jBh(C:Addr)(f:Str)(vs:List V)(H:Hp)(Q:VK)(E_:XK):Prop|mk (x:Addr) (y:V):vs=[.ref x,y]->H x=some (XO x C none)->(∀ H',jJz x H H'->XF H' x C [(f,y)]->Q .non H')->jBh C f vs H Q E_
theorem jEb{H:Hp}{x dx:Addr}{o u:HO}(hd:H dx=none):jJz x H (upd (upd H dx o) x u):=fun b v hb e=>by
 rw [jAi hb,jAi (jAg e hd)];exact e
theorem jGq{H:Hp}{x dx C:Addr}{fs:List (Str×V)}(hx:dx≠x):XF (upd (upd H dx (XD dx fs)) x (XO x C (some dx))) x C fs:=⟨dx,jAb,by rw [jAi hx,jAb],hx⟩
theorem jNO{H H':Hp}{x:Addr}{o:HO}(hx:H x=none)(k:jJz x (upd H x o) H'):jAn H H':=fun b v e=>by
 have hb:b≠x:=jAg e hx
 exact k b v hb (by rw [jAi hb];exact e)
theorem jA2{K:PySem.W.Frag}{C:Addr}{f:Str}{y:V}{H:Hp}{E:XK}{σ:St}(mk:PySem.W.excMk K C=true)(h:∀ ea H',jAn H H'->H ea=none->XG H' ea C [(f,y)]->E (.ref C) (some ea) H') :
 ∀ x,H x=none->jBh C f (.ref x::[y]) (upd H x (XO x C none)) (fun v H2=>v=.non/\jJx K (fun _=>E) σ (.ref x) H2) E0:=by
 intro x nx
 refine⟨x,y,rfl,jAb,fun H' kb xf=>⟨rfl,?_⟩⟩
 obtain⟨dx,a,g⟩:=xf.raised
 exact⟨x,C,some dx,rfl,a,mk,h x _ (jCa nx (jNO nx kb) _) nx g⟩
theorem jBo{c A B:Prop}[Decidable c](hc:c)(h:A):if decide c=true then A else B:=by
 rw [if_pos (decide_eq_true hc)]
 exact h
theorem jBx{c A B:Prop}[Decidable c](hc:¬ c)(h:B):if decide c=true then A else B:=by
 rw [if_neg (by rw [decide_eq_false hc];decide)]
 exact h
theorem iteNN{c A B:Prop}[Decidable c](hc:¬ c)(h:A):if (!decide c)=true then A else B:=by
 rw [decide_eq_false hc]
 exact h
theorem jIL:jAk ["self","name"] ["self","name"] (jAh jDR):=scM
include T in
theorem jIM(F:Fun K "__init__" "Unknown.__init__" jDR fa fd)  :
 jAr P w K mg base CX0 1 fa fd ["self","name"] (jBh vG "name"):=by
 refine F.ok jIL (fun vs H Q E h=>?_) (fun cdv A outer s H vs Q E hr h=>?_)
 ·obtain⟨x,y,rfl,_⟩:=h
  rfl
 obtain⟨x,y,rfl,hx,q⟩:=h
 exists _,(jAd (jAy (jDM T.aH rfl T.aD (jAa (pv 0) (jAa (pv 1) jAc)))) (jAf (jFb (pv 0) (pv 1) rfl)))
 exists _,rfl,_,rfl,x,_,none,[y],rfl,(by simp),hx,T.ao.m
 refine⟨_,rfl,_,rfl,.inl ⟨x,_,rfl,hx,T.ao.i.c,T.ao.n _ (.head _),fun dx nd ne=>?_⟩⟩
 exact q _ (jEb nd) (jGq ne)
theorem jIN:jAk ["self","name"] ["self","name"] (jAh jDS):=scM
include T in
theorem jIO(F:Fun K "__init__" "TooMuch.__init__" jDS fa fd)  :
 jAr P w K mg base CX0 1 fa fd ["self","name"] (jBh vU "name"):=by
 refine F.ok jIN (fun vs H Q E h=>?_) (fun cdv A outer s H vs Q E hr h=>?_)
 ·obtain⟨x,y,rfl,_⟩:=h
  rfl
 obtain⟨x,y,rfl,hx,q⟩:=h
 exists _,(jAd (jAy (jDM T.aH rfl T.aD (jAa (pv 0) (jAa (pv 1) jAc)))) (jAf (jFb (pv 0) (pv 1) rfl)))
 exists _,rfl,_,rfl,x,_,none,[y],rfl,(by simp),hx,T.ak.m
 refine⟨_,rfl,_,rfl,.inl ⟨x,_,rfl,hx,T.ak.i.c,T.ak.n _ (.head _),fun dx nd ne=>?_⟩⟩
 exact q _ (jEb nd) (jGq ne)
theorem jL5:jAk ["self","name"] ["self","name"] (jAh jGL):=scM
include T in
theorem jL6(F:Fun K "__init__" "Dry.__init__" jGL fa fd)  :
 jAr P w K mg base CX0 1 fa fd ["self","name"] (jBh cG "name"):=by
 refine F.ok jL5 (fun vs H Q E h=>?_) (fun cdv A outer s H vs Q E hr h=>?_)
 ·obtain⟨x,y,rfl,_⟩:=h
  rfl
 obtain⟨x,y,rfl,hx,q⟩:=h
 exists _,(jAd (jAy (jDM T.aH rfl T.aD (jAa (pv 0) (jAa (pv 1) jAc)))) (jAf (jFb (pv 0) (pv 1) rfl)))
 exists _,rfl,_,rfl,x,_,none,[y],rfl,(by simp),hx,T.ai.m
 refine⟨_,rfl,_,rfl,.inl ⟨x,_,rfl,hx,T.ai.i.c,T.ai.n _ (.head _),fun dx nd ne=>?_⟩⟩
 exact q _ (jEb nd) (jGq ne)
theorem jBa{f:Str}{v:V}:∀ {fs:List (Str×V)},¬ f∈fs.map (·.1)->jBd f v fs=fs++[(f,v)]
 | [],_=>rfl
 | (g,u)::r,h=>by
   have h1:¬ g=f:=fun e=>h (by rw [<- e];exact List.mem_cons_self)
   show (if g=f then _ else (g,u)::jBd f v r)=_
   rw [if_neg h1,jBa fun m=>h (List.mem_cons_of_mem _ m)]
   rfl
def dI(ps:List (Str×Int)):List (Key×V):=ps.map fun p=>(Sum.inr p.1,V.int p.2)
theorem jHd{l:List Str}(h:l.Nodup):(l.map (Sum.inr:Str->Key)).Nodup:=by
 induction l with
 | nil=>exact List.nodup_nil
 | cons a r ih =>
   rw [List.nodup_cons] at h
   rw [List.map_cons,List.nodup_cons]
   refine⟨fun m=>?_,ih h.2⟩
   obtain⟨b,hb,e⟩:=List.mem_map.mp m
   cases e
   exact h.1 hb
inductive jEQ(C:Addr)(vs:List V)(H:Hp)(Q:VK)(E_:XK):Prop|mk (x dx a:Addr) (rs:List (Str×Int)):vs=[.ref x,.ref a]->H x=some (.ins C dx [])->H a=some (.dK (dI rs))->(rs.map (·.1)).Nodup->rs.length<=1000->(∀ r m H',(∀ b u,b≠x->H b=some u->H' b=some u)->H r=none->H m=none->r≠m->H' x=some (.ins C dx [("rooms",.ref r),("amounts",.ref m)])->H' r=some (.dK (dI rs))->H' m=some (.dK (dI (rs.map fun p=>(p.1,0))))->Q .non H')->jEQ C vs H Q E_
theorem jKA:jAk ["self","rooms"] ["self","rooms"] (jAh jFp):=scM
include T in
theorem jKB(F:Fun K "__init__" "Stock.__init__" jFp fa fd)  :
 jAr P w K mg base CX0 1 fa fd ["self","rooms"] (jEQ cQ):=by
 refine F.ok jKA (fun vs H Q E h=>?_) (fun cdv A outer s H vs Q E hr h=>?_)
 ·obtain⟨x,dx,a,rs,rfl,_⟩:=h
  rfl
 obtain⟨x,dx,a,rs,rfl,hx,ha,nd,l1,q⟩:=h
 exists _,(jAd (jAM (pv 0) (jB4 jDQ rfl T.aO jHN (jAa (pv 1) jAc)) rfl) (jAf (jAM (pv 0) (pe_frz (jB4 (jIK rfl) rfl T.aO jHN (jAa (jFa (frees:=[]) ⟨by decide +kernel,rfl,rfl,by decide +kernel,trivial,by decide +kernel,jBD rfl,rfl⟩ rfl (pi_dict (pv 1)) (fun _ _ _ _=>jDL) (fun _ _ _ _=>by exact (jAN (jAa (pv 0) (jAa jAe jAc))))) jAc))) rfl)))
 have z2:2<=sizeLine:=small (by decide)
 refine⟨_,rfl,a,_,rfl,.inl ha,fun r nr=>?_⟩
 have nrx:x≠r:=jAg hx nr
 have nra:a≠r:=jAg ha nr
 have nax:a≠x:=jAu ha hx nofun
 refine⟨_,rfl,x,cQ,dx,_,rfl,(by rw [jAi nrx];exact hx),T.ag,T.bo,(by show 0<1000;decide),?_⟩
 rw [jBa (by show ¬ ("rooms":Str)∈([]:List Str);decide +kernel),List.nil_append]
 have k1:∀ b u,b≠x->H b=some u->upd (upd H r (.dK (dI rs))) x (.ins cQ dx [("rooms",.ref r)]) b=some u:=fun b u nb e=>by rw [jAi nb,jAi (jAg e nr)];exact e
 have hr1:upd (upd H r (.dK (dI rs))) x (.ins cQ dx [("rooms",.ref r)]) r=some (.dK (dI rs)):=by rw [jAi (Ne.symm nrx),jAb]
 have hx1:upd (upd H r (.dK (dI rs))) x (.ins cQ dx [("rooms",.ref r)]) x=some (.ins cQ dx [("rooms",.ref r)]):=jAb
 generalize upd (upd H r (.dK (dI rs))) x (.ins cQ dx [("rooms",.ref r)])=H1 at k1 hr1 hx1 ⊢
 refine⟨a,dI rs,k1 _ _ nax ha,fun o=>?_⟩
 exists _,rfl,a,o,dI rs,rfl,jAb
 have zr:((dI rs).map fun p=>kV p.1).length=rs.length:=by unfold dI;rw [List.length_map,List.length_map]
 refine jGK (jOd jAb) (fun n y H'=>∃ t,y=.ref t/\H' t=some (.tup [n,.int 0])) (by rw [zr];exact jAW l1) (fun x _ H' R _ rr=>rr) (fun n _ H' R _ rr=>⟨_,rfl,z2,fun t nt=>rr _ _ (jAj nt _) ⟨fun z=>z=t,fun b hb=>by subst hb;exact⟨nt,_,jAb⟩,fun H3 h3=>⟨t,rfl,by rw [h3 t rfl];exact jAb⟩⟩⟩) (fun D H2 ys s2 nD hD ly gy=>?_)
 have k2:∀ b u,b≠a->H1 b=some u->H2 b=some u:=fun b u nb e=>s2 b u (by rw [jAi nb];exact e)
 have ha2:=s2 _ _ (jAb (H:=H1) (a:=a) (o:=.frz o (.dK (dI rs))))
 have nd':((dI (rs.map fun p=>(p.1,0))).map (·.1)).Nodup:=by
  have e:(dI (rs.map fun p=>(p.1,(0:Int)))).map (·.1)=(rs.map (·.1)).map (Sum.inr:Str->Key):=by
   unfold dI
   rw [List.map_map,List.map_map,List.map_map]
   rfl
  rw [e]
  exact jHd nd
 refine⟨D,ys,dI (rs.map fun p=>(p.1,0)),rfl,hD,?_,fun i y kv e1 e2=>?_,nd',fun m nm=>⟨?_,?_⟩⟩
 ·rw [ly,zr]
  unfold dI
  rw [List.length_map,List.length_map]
 ·unfold dI at e2
  rw [List.map_map,List.getElem?_map] at e2
  obtain⟨p,ep,rfl⟩:=Option.map_eq_some_iff.mp e2
  have ex:((dI rs).map fun p=>kV p.1)[i]?=some (.str p.1):=by
   unfold dI
   rw [List.map_map,List.getElem?_map,ep]
   rfl
  obtain⟨t,rfl,ht⟩:=gy i _ y ex e1
  exact⟨t,rfl,SqT.of ht⟩
 ·rw [jAi (jAg ha2 nm)]
  exact ha2
 have nma:a≠m:=jAg ha2 nm
 have hx2:=k2 _ _ (Ne.symm nax) hx1
 have nmx:x≠m:=jAg hx2 nm
 have hr2:=k2 _ _ (Ne.symm nra) hr1
 have nmr:r≠m:=jAg hr2 nm
 refine⟨_,rfl,x,cQ,dx,_,rfl,(by rw [jAi (Ne.symm nax),jAi nmx];exact hx2),T.ag,T.aG,(by show 1<1000;decide),?_⟩
 rw [jBa (by show ¬ ("amounts":Str)∈(["rooms"]:List Str);decide +kernel)]
 have nm1:H m=none:=by
  cases e:H m with
  | none=>rfl
  | some u =>
    have:H2 m=some u:=k2 m u (Ne.symm nma) (k1 m u (Ne.symm nmx) e)
    rw [nm] at this
    cases this
 refine q r m _ (fun b u nb e=>?_) nr nm1 nmr jAb ?_ ?_
 ·rw [jAi nb]
  by_cases hb:b=a
  ·subst hb
   rw [jAb]
   rw [ha] at e
   exact e
  ·have e2:=k2 b u hb (k1 b u nb e)
   rw [jAi hb,jAi (jAg e2 nm)]
   exact e2
 ·rw [jAi (Ne.symm nrx),jAi (Ne.symm nra),jAi nmr]
  exact hr2
 ·rw [jAi (Ne.symm nmx),jAi (Ne.symm nma),jAb]
theorem jHw{rs:List (Str×Int)}{n:Str}:jCO (dI rs) (Sum.inr n:Key)=(rs.lookup n).map V.int:=by
 induction rs with
 | nil=>rfl
 | cons p r ih =>
   obtain⟨k,v⟩:=p
   show ((((Sum.inr k:Key),V.int v)::dI r).find? fun kv=>decide (kv.1=Sum.inr n)).map (·.2)=_
   rw [List.find?_cons,List.lookup_cons]
   by_cases h:k=n
   ·subst h
    rw [decide_eq_true rfl,beq_self_eq_true]
    rfl
   ·rw [decide_eq_false (show ¬ (((Sum.inr k:Key),V.int v).1=Sum.inr n) from fun z=>h (Sum.inr.inj z)),beq_eq_false_iff_ne.mpr (Ne.symm h)]
    exact ih
theorem jFd{H:Hp}{m:Addr}{am:List (Str×Int)}{n:Str}{v:Int}(e:H m=some (.dK (dI am)))(l:am.lookup n=some v):jBU H m (.str n) (some (.int v)):=by
 have:=jBU.k (k:=Sum.inr n) e
 rw [jHw,l] at this
 exact this
theorem jBF{rs:List (Str×Int)}{n:Str}{v:Int}(h:rs.lookup n=some v):n∈rs.map (·.1):=List.mem_map.mpr ⟨(n,v),PySem.mem_of_lookup h,rfl⟩
theorem jCC{rs:List (Str×Int)}{n:Str}(h:rs.lookup n=none):¬ n∈rs.map (·.1):=by
 intro m
 obtain⟨p,hp,e⟩:=List.mem_map.mp m
 rw [List.lookup_eq_none_iff] at h
 have:=h p hp
 rw [e] at this
 simp at this
theorem look_in{rs:List (Str×Int)}{n:Str}(h:n∈rs.map (·.1)):(rs.lookup n).isNone=false:=by
 cases e:rs.lookup n with
 | none=>exact absurd h (jCC e)
 | some v=>rfl
theorem jOs{rs:List (Str×Int)}{n:Str}(h:¬ n∈rs.map (·.1)):(rs.lookup n).isNone=true:=by
 cases e:rs.lookup n with
 | none=>rfl
 | some v=>exact absurd (jBF e) h
def jHP(C:Addr)(H:Hp)(x:Addr)(rs am:List (Str×Int)):Prop:=∃ dx r m,H x=some (.ins C dx [("rooms",.ref r),("amounts",.ref m)])/\H r=some (.dK (dI rs))/\H m=some (.dK (dI am))/\r≠m
def OutU(cU:Addr)(n:Str)(H:Hp)(E:XK):Prop:=∀ ea H',jAn H H'->XG H' ea cU [("name",.str n)]->E (.ref cU) (some ea) H'
inductive jHQ(C cU:Addr)(vs:List V)(H:Hp)(Q:VK)(E:XK):Prop|mk x rs am n:vs=[.ref x,.str n]->jHP C H x rs am->(n∈rs.map (·.1)->Q .non H)->(¬ n∈rs.map (·.1)->OutU cU n H E)->jHQ C cU vs H Q E
theorem jKC:jAk ["self","name"] ["self","name"] (jAh jFr):=scM
include T in
theorem jKD(F:Fun K "know" "Stock.know" jFr fa fd)(DaU:jCY P w K mg base 1 "Unknown" vG ["self","name"] (jBh vG "name")) :
 jAr P w K mg base (CXe P w) 3 fa fd ["self","name"] (jHQ cQ vG):=by
 refine F.okE jKC (fun vs H Q E h=>?_) (fun cdv A outer s H vs Q E hr h=>?_)
 ·obtain⟨x,rs,am,n,rfl,_⟩:=h
  rfl
 obtain⟨x,rs,am,n,rfl,⟨dx,r,m,hx,hr',hm,ne⟩,q1,q2⟩:=h
 have hu:=jCZ hr 0 (by decide)
 exists _,(jAf (jAE (jM_ (jKf hu (pv 1) (jAq (pv 0) rfl))) (jAf (jBz jBn rfl (jBm DaU hr.m rfl (jAa (pv 1) jAc)))) jAw))
 exists _,rfl,_,rfl,x,cQ,dx,_,_,rfl,hx,T.ag,T.bo,rfl,r,_,rfl,jBU.k (k:=Sum.inr n) hr',_,rfl
 rw [jHw]
 cases e:rs.lookup n with
 | some v=>exact jAJ (q1 (jBF e))
 | none=>exact jAU ⟨_,rfl,jA2 T.ao.m fun ea H' sm _ g=>q2 (jCC e) ea H' sm g⟩
inductive jHR(C cU:Addr)(vs:List V)(H:Hp)(Q:VK)(E:XK):Prop|mk x rs am n:vs=[.ref x,.str n]->jHP C H x rs am->(∀ v,n∈rs.map (·.1)->am.lookup n=some v->Q (.int v) H)->(n∈rs.map (·.1)->∃ v,am.lookup n=some v)->(¬ n∈rs.map (·.1)->OutU cU n H E)->jHR C cU vs H Q E
theorem jKE:jAk ["self","name"] ["self","name"] (jAh jFq):=scM
include T in
theorem jKF(F:Fun K "held" "Stock.held" jFq fa fd)(Dar:MtE P w K mg base 3 "know" cQ ["self","name"] (jHQ cQ vG)) :
 jAr P w K mg base (CXe P w) 4 fa fd ["self","name"] (jHR cQ vG):=by
 refine F.okE jKE (fun vs H Q E h=>?_) (fun cdv A outer s H vs Q E hr h=>?_)
 ·obtain⟨x,rs,am,n,rfl,_⟩:=h
  rfl
 obtain⟨x,rs,am,n,rfl,S,q1,q0,q2⟩:=h
 have hu:=jCZ hr 0 (by decide)
 obtain⟨dx,r,m,hx,hr',hm,ne⟩:=id S
 exists _,(jAd (jAy (jAF 3 jAx hr.m (pv 0) (jAa (pv 1) jAc))) (jAf (jAo (dgA hu (jAq (pv 0) rfl) (pv 1)))))
 refine⟨_,rfl,x,_,dx,_,_,_,rfl,hx,rfl,T.ag,Dar,_,rfl,x,rs,am,n,rfl,S,fun hn=>?_,q2⟩
 obtain⟨v,ev⟩:=q0 hn
 exact⟨_,rfl,x,cQ,dx,_,_,rfl,hx,T.ag,T.aG,rfl,_,rfl,m,_,rfl,jFd hm ev,q1 v hn ev⟩
def GiftAt(H:Hp)(y:V)(g:Str×Int):Prop:=∃ t,y=.ref t/\H t=some (.tup [.str g.1,.int g.2])
def jHS(H:Hp)(p:Addr)(ws:List (Str×Int)):Prop:=∃ ts,H p=some (.lst ts)/\ts.length=ws.length/\∀ (i:Nat) y g,ts[i]?=some y->ws[i]?=some g->GiftAt H y g
def jA3(rs ws:List (Str×Int)):Option Str:=(ws.find? fun g=>(rs.lookup g.1).isNone).map (·.1)
theorem jE2{α:Type}{f:α->Bool}:∀ {l:List α} {i:Nat} {a:α},l[i]?=some a->(∀ j b,j<i->l[j]?=some b->f b=false)->f a=true->l.find? f=some a
 | [],_,_,h,_,_=>by simp at h
 | b::r,0,a,h,_,k=>by
   obtain rfl:b=a:=Option.some.inj h
   rw [List.find?_cons,k]
 | b::r,i+1,a,h,g,k=>by
   have hb:f b=false:=g 0 b (Nat.succ_pos _) rfl
   rw [List.find?_cons,hb]
   exact jE2 (i:=i) h (fun j c hj e=>g (j+1) c (Nat.succ_lt_succ hj) e) k
theorem jJA{α:Type}{f:α->Bool}{l:List α}(h:∀ (j:Nat) b,l[j]?=some b->f b=false):l.find? f=none:=by
 rw [List.find?_eq_none]
 intro x hx
 obtain⟨j,hj⟩:=List.mem_iff_getElem?.mp hx
 rw [h j x hj]
 decide
inductive jEk(C cU:Addr)(vs:List V)(H:Hp)(Q:VK)(E:XK):Prop|mk x p rs am ws:vs=[.ref x,.ref p]->jHP C H x rs am->jHS H p ws->(jA3 rs ws=none->Q .non H)->(∀ n,jA3 rs ws=some n->OutU cU n H E)->jEk C cU vs H Q E
theorem jEX:jAk ["self","rows","row"] ["self","rows"] (jAh jC1):=scM
include T in
theorem jHX(F:Fun K "know_all" "Stock.know_all" jC1 fa fd)(Dar:MtE P w K mg base 3 "know" cQ ["self","name"] (jHQ cQ vG)) :
 jAr P w K mg base (CXe P w) 4 fa fd ["self","rows"] (jEk cQ vG):=by
 refine F.okE jEX (fun vs H Q E h=>?_) (fun cdv A outer s H vs Q E hr h=>?_)
 ·obtain⟨x,p,rs,am,ws,rfl,_⟩:=h
  rfl
 obtain⟨x,p,rs,am,ws,rfl,S,⟨ts,hp,lt,gt⟩,q1,q2⟩:=h
 have hu:=jCZ hr 0 (by decide)
 obtain⟨dx,r,m,hx,hr',hm,ne⟩:=id S
 exists _,(jAf (jBS jFc rfl (jBt (pv 1)) (pgA (i:=2) jEX.nd) (jAf (jAy (jAF 3 jAx hr.m (pv 0) (jAa (ixA jAI (pv 2) jAe) jAc))))))
 refine⟨_,rfl,p,rfl,⟨_,SqL.of hp⟩,jBK (K:=K) (a:=p) (xs:=ts) (fun i σ H'=>H'=H/\(∀ (j:Nat) g,j<i->ws[j]?=some g->(rs.lookup g.1).isNone=false)/\∃ v,σ=[some (.ref x),some (.ref p),v]) ⟨rfl,fun j g hj=>absurd hj (Nat.not_lt_zero j),_,rfl⟩ (fun i σ H' _ z=>by rw [z.1];exact SqL.of hp) (fun i y σ H' hy z=>?_) (fun σ H' z=>?_)⟩
 ·obtain⟨rfl,kn,v,rfl⟩:=z
  obtain⟨g,eg⟩:∃ g,ws[i]?=some g:=⟨_,List.getElem?_eq_getElem (by rw [<- lt];exact (List.getElem?_eq_some_iff.mp hy).1)⟩
  obtain⟨t,rfl,ht⟩:=gt i y g hy eg
  exists _,rfl,x,_,dx,_,_,_,rfl,hx,rfl,T.ag,Dar
  refine⟨_,rfl,t,_,_,_,rfl,rfl,SqT.of ht,jAl (j:=0) rfl,x,rs,am,g.1,rfl,S,fun hn=>⟨rfl,fun j g' hj e=>?_,_,rfl⟩,fun hn=>q2 g.1 ?_⟩
  ·by_cases hji:j<i
   ·exact kn j g' hji e
   ·have:j=i:=by omega
    subst this
    rw [eg] at e
    obtain rfl:=Option.some.inj e
    exact look_in hn
  ·unfold jA3
   rw [jE2 eg (fun j b hj e=>kn j b hj e) (jOs hn)]
   rfl
 ·obtain⟨rfl,kn,v,rfl⟩:=z
  refine q1 ?_
  unfold jA3
  rw [jJA fun j g e=>kn j g (by rw [lt];exact (List.getElem?_eq_some_iff.mp e).1) e]
  rfl
def jCb(C:Addr)(H:Hp)(x r m:Addr)(rs am:List (Str×Int)):Prop:=(∃ dx,H x=some (.ins C dx [("rooms",.ref r),("amounts",.ref m)]))/\H r=some (.dK (dI rs))/\H m=some (.dK (dI am))/\r≠m
theorem jCb.at{C:Addr}{H:Hp}{x r m:Addr}{rs am:List (Str×Int)}(h:jCb C H x r m rs am):jHP C H x rs am:=let ⟨⟨dx,e1⟩,e2,e3,n⟩:=h;⟨dx,r,m,e1,e2,e3,n⟩
def jAT(am:List (Str×Int))(n:Str)(v:Int):List (Str×Int):=am.map fun p=>if p.1=n then (p.1,v) else p
def jBM(s:Int)(am ws:List (Str×Int)):List (Str×Int):=ws.foldl (fun am g=>jAT am g.1 ((am.lookup g.1).getD 0+s*g.2)) am
theorem jEv(am:List (Str×Int))(n:Str)(v:Int):(jAT am n v).map (·.1)=am.map (·.1):=by
 unfold jAT
 rw [List.map_map]
 refine List.map_congr_left fun p _=>?_
 show (if p.1=n then (p.1,v) else p).1=p.1
 split<;>rfl
theorem jLm{am:List (Str×Int)}{n:Str}{v:Int}(h:n∈am.map (·.1)):jB7 (dI am) (Sum.inr n:Key) (.int v)=dI (jAT am n v):=by
 have hany:((dI am).any fun kv=>decide (kv.1=(Sum.inr n:Key)))=true:=by
  obtain⟨p,hp,e⟩:=List.mem_map.mp h
  refine List.any_eq_true.mpr ⟨(Sum.inr p.1,V.int p.2),List.mem_map.mpr ⟨p,hp,rfl⟩,decide_eq_true ?_⟩
  rw [e]
 unfold jB7
 rw [if_pos hany]
 unfold dI jAT
 rw [List.map_map,List.map_map]
 refine List.map_congr_left fun p _=>?_
 show (if (Sum.inr p.1:Key)=Sum.inr n then ((Sum.inr p.1:Key),V.int v) else (Sum.inr p.1,V.int p.2))=(Sum.inr (if p.1=n then (p.1,v) else p).1,V.int (if p.1=n then (p.1,v) else p).2)
 by_cases e:p.1=n
 ·rw [if_pos (by rw [e]),if_pos e]
 ·rw [if_neg (fun z=>e (Sum.inr.inj z)),if_neg e]
def jBA(rs am ws:List (Str×Int)):Option Str:=(ws.find? fun g=>decide ((rs.lookup g.1).getD 0<(am.lookup g.1).getD 0+g.2)).map (·.1)
def jBr(am ws:List (Str×Int)):Option Str:=(ws.find? fun g=>decide ((am.lookup g.1).getD 0<g.2)).map (·.1)
def jHx(C cU cN:Addr)(s:Int)(bad:List (Str×Int)->List (Str×Int)->List (Str×Int)->Option Str):Sp:=fun vs H Q E=>∃ x r m p rs am ws,vs=[.ref x,.ref p]/\jCb C H x r m rs am/\am.map (·.1)=rs.map (·.1)/\am.length<=1000/\p≠m/\jHS H p ws /\
 (∀ n,jA3 rs ws=some n->OutU cU n H E)/\(∀ n,jA3 rs ws=none->bad rs am ws=some n->OutU cN n H E) /\
 (jA3 rs ws=none->bad rs am ws=none->∀ H',(∀ b u,b≠m->H b=some u->H' b=some u)->jCb C H' x r m rs (jBM s am ws)->Q .non H')
theorem jCT(s:Int):∀ (ws am:List (Str×Int)),(jBM s am ws).map (·.1)=am.map (·.1)
 | [],_=>rfl
 | g::r,am=>by
   show (jBM s (jAT am g.1 ((am.lookup g.1).getD 0+s*g.2)) r).map (·.1)=_
   rw [jCT s r,jEv]
theorem jIb(s:Int)(am ws:List (Str×Int))(g:Str×Int):jBM s am (ws++[g])=jAT (jBM s am ws) g.1 (((jBM s am ws).lookup g.1).getD 0+s*g.2):=by
 unfold jBM
 rw [List.foldl_append]
 rfl
theorem jEw{rs am:List (Str×Int)}{n:Str}{v:Int}(e:am.map (·.1)=rs.map (·.1))(h:rs.lookup n=some v):∃ w,am.lookup n=some w:=by
 cases l:am.lookup n with
 | some w=>exact⟨w,rfl⟩
 | none=>exact absurd (e ▸ jBF h) (jCC l)
theorem jDo{rs ws:List (Str×Int)}(h:jA3 rs ws=none){j:Nat}{g:Str×Int}(e:ws[j]?=some g):∃ v,rs.lookup g.1=some v:=by
 unfold jA3 at h
 have h1:=List.find?_eq_none.mp (Option.map_eq_none_iff.mp h) g (List.mem_of_getElem? e)
 cases l:rs.lookup g.1 with
 | some v=>exact⟨v,rfl⟩
 | none=>rw [l] at h1;exact absurd rfl h1
theorem jBW:jAk ["self","gifts","name","many"] ["self","gifts"] (jAh jDl):=scM
include T in
theorem jIm(F:Fun K "put_all" "Stock.put_all" jDl fa fd)(Das:jCY P w K mg base 1 "TooMuch" vU ["self","name"] (jBh vU "name"))(Dat:MtE P w K mg base 4 "know_all" cQ ["self","rows"] (jEk cQ vG)) :
 jAr P w K mg base (CXe P w) 5 fa fd ["self","gifts"] (jHx cQ vG vU 1 jBA):=by
 refine F.okE jBW (fun vs H Q E h=>?_) (fun cdv A outer s H vs Q E hr h=>?_)
 ·obtain⟨x,r,m,p,rs,am,ws,rfl,_⟩:=h
  rfl
 obtain⟨x,r,m,p,rs,am,ws,rfl,S,ek,la,npm,G,q1,q2,q3⟩:=h
 have hu:=jCZ hr 0 (by decide)
 obtain⟨⟨dx,hx⟩,hr',hm,ne⟩:=id S
 obtain⟨ts,hp,lt,gt⟩:=id G
 have nxm:x≠m:=jAu hx hm nofun
 exists _,(jAd (jAy (jAF 4 jAx hr.m (pv 0) (jAa (pv 1) jAc))) (jAd (jBS jFc rfl (jBt (pv 1)) (jIu rfl (jCw (pgA (i:=2) jBW.nd) (jCw (pgA (i:=3) jBW.nd) jHF))) (jAf (jAE (tcA jGE (jAp jAO (dgA hu (jAq (pv 0) rfl) (pv 2)) (pv 3)) (dgA hu (jAq (pv 0) rfl) (pv 2))) (jAf (jBz jBn rfl (jBm Das hr.m rfl (jAa (pv 2) jAc)))) jAw))) (jAf (jBS jFc rfl (jBt (pv 1)) (jIu rfl (jCw (pgA (i:=2) jBW.nd) (jCw (pgA (i:=3) jBW.nd) jHF))) (jAf (jMy hu (jAq (pv 0) rfl) (pv 2) (pv 3) in_add (fun _ _ _=>rfl)))))))
 refine⟨_,rfl,x,_,dx,_,_,_,rfl,hx,rfl,T.ag,Dat,_,rfl,x,p,rs,am,ws,rfl,S.at,G,fun kn=>?_,q1⟩
 refine⟨_,rfl,p,rfl,⟨_,SqL.of hp⟩,jBK (K:=K) (a:=p) (xs:=ts) (fun i σ H'=>H'=H/\(∀ (j:Nat) g,j<i->ws[j]?=some g->decide ((rs.lookup g.1).getD 0<(am.lookup g.1).getD 0+g.2)=false)/\∃ v2 v3,σ=[some (.ref x),some (.ref p),v2,v3]) ⟨rfl,fun j g hj=>absurd hj (Nat.not_lt_zero j),_,_,rfl⟩ (fun i σ H' _ z=>by rw [z.1];exact SqL.of hp) (fun i y σ H' hy z=>?_) (fun σ H' z=>?_)⟩
 ·obtain⟨rfl,kb,v2,v3,rfl⟩:=z
  obtain⟨g,eg⟩:∃ g,ws[i]?=some g:=⟨_,List.getElem?_eq_getElem (by rw [<- lt];exact (List.getElem?_eq_some_iff.mp hy).1)⟩
  obtain⟨t,rfl,ht⟩:=gt i y g hy eg
  obtain⟨vr,er⟩:=jDo kn eg
  obtain⟨va,ea⟩:=jEw ek er
  exists t,[.str g.1,.int g.2],rfl,SqT.of ht,rfl,.str g.1,[.int g.2],rfl,.int g.2,[],rfl,rfl
  exists _,rfl,x,cQ,dx,_,_,rfl,hx,T.ag,T.aG,rfl,_,rfl,m,_,rfl,jFd hm ea,_,rfl,_,_,rfl,rfl,_,rfl,x,cQ,dx,_,_,rfl,hx,T.ag,T.bo,rfl,_,rfl,r,_,rfl,jFd hr' er,_,_,rfl,rfl,decide (vr<va+g.2),rfl
  have eb:(decide ((rs.lookup g.1).getD 0<(am.lookup g.1).getD 0+g.2))=decide (vr<va+g.2):=by rw [ea,er];rfl
  cases hd:decide (vr<va+g.2) with
  | false =>
    refine jAJ ⟨rfl,fun j g' hj e=>?_,_,_,rfl⟩
    by_cases hji:j<i
    ·exact kb j g' hji e
    ·have:j=i:=by omega
     subst this
     rw [eg] at e
     obtain rfl:=Option.some.inj e
     rw [eb,hd]
  | true =>
    refine jAU ⟨_,rfl,jA2 T.ak.m fun ea H2 sm _ gx=>q2 g.1 kn ?_ ea H2 sm gx⟩
    unfold jBA
    rw [jE2 eg (fun j b hj e=>kb j b hj e) (by rw [eb,hd])]
    rfl
 ·obtain⟨rfl,kb,v2,v3,rfl⟩:=z
  have nb:jBA rs am ws=none:=by
   unfold jBA
   rw [jJA fun j g e=>kb j g (by rw [lt];exact (List.getElem?_eq_some_iff.mp e).1) e]
   rfl
  refine⟨_,rfl,p,rfl,⟨_,SqL.of hp⟩,jBK (K:=K) (a:=p) (xs:=ts) (fun i σ H2=>(∀ b u,b≠m->H' b=some u->H2 b=some u)/\H2 m=some (.dK (dI (jBM 1 am (ws.take i))))/\∃ v2 v3,σ=[some (.ref x),some (.ref p),v2,v3]) ⟨fun b u _ e=>e,hm,_,_,rfl⟩ (fun i σ H2 _ z=>SqL.of (z.1 _ _ npm hp)) (fun i y σ H2 hy z=>?_) (fun σ H2 z=>?_)⟩
  ·obtain⟨kp,hm2,v2,v3,rfl⟩:=z
   obtain⟨g,eg⟩:∃ g,ws[i]?=some g:=⟨_,List.getElem?_eq_getElem (by rw [<- lt];exact (List.getElem?_eq_some_iff.mp hy).1)⟩
   obtain⟨t,rfl,ht⟩:=gt i y g hy eg
   obtain⟨vr,er⟩:=jDo kn eg
   have ek2:(jBM 1 am (ws.take i)).map (·.1)=rs.map (·.1):=by rw [jCT,ek]
   obtain⟨va,ea⟩:=jEw ek2 er
   have tk:ws.take (i+1)=ws.take i++[g]:=by rw [List.take_add_one,eg];rfl
   exists t,[.str g.1,.int g.2],rfl,SqT.of (kp _ _ (jAu ht hm nofun) ht),rfl,.str g.1,[.int g.2],rfl,.int g.2,[],rfl,rfl
   have ln:(dI (jBM 1 am (ws.take i))).length<sizeLine:=by
    unfold dI
    have:=congrArg List.length (jCT 1 (ws.take i) am)
    rw [List.length_map,List.length_map] at this
    rw [List.length_map,this]
    exact jAW la
   exists _,rfl,x,cQ,dx,_,_,rfl,kp _ _ nxm hx,T.ag,T.aG,rfl,_,rfl,m,_,rfl,jFd hm2 ea,_,rfl,_,_,rfl,rfl,_,jCP.k (k:=Sum.inr g.1) hm2 ln
   refine⟨fun b u nb e=>by rw [jAi nb];exact kp b u nb e,?_,_,_,rfl⟩
   rw [jAb,jLm (jBF ea),tk,jIb,ea,Option.getD_some]
   rw [Int.one_mul]
  ·obtain⟨kp,hm2,v2,v3,rfl⟩:=z
   rw [List.take_of_length_le (by omega)] at hm2
   exact q3 kn nb H2 kp ⟨⟨dx,kp _ _ nxm hx⟩,kp _ _ ne hr',hm2,ne⟩
theorem jBN:jAk ["self","wants","name","many"] ["self","wants"] (jAh jC2):=scM
include T in
theorem jHY(F:Fun K "draw_all" "Stock.draw_all" jC2 fa fd)(Dau:jCY P w K mg base 1 "Dry" cG ["self","name"] (jBh cG "name"))(Dat:MtE P w K mg base 4 "know_all" cQ ["self","rows"] (jEk cQ vG)) :
 jAr P w K mg base (CXe P w) 5 fa fd ["self","wants"] (jHx cQ vG cG (-1) (fun _ am ws=>jBr am ws)):=by
 refine F.okE jBN (fun vs H Q E h=>?_) (fun cdv A outer s H vs Q E hr h=>?_)
 ·obtain⟨x,r,m,p,rs,am,ws,rfl,_⟩:=h
  rfl
 obtain⟨x,r,m,p,rs,am,ws,rfl,S,ek,la,npm,G,q1,q2,q3⟩:=h
 have hu:=jCZ hr 0 (by decide)
 obtain⟨⟨dx,hx⟩,hr',hm,ne⟩:=id S
 obtain⟨ts,hp,lt,gt⟩:=id G
 have nxm:x≠m:=jAu hx hm nofun
 exists _,(jAd (jAy (jAF 4 jAx hr.m (pv 0) (jAa (pv 1) jAc))) (jAd (jBS jFc rfl (jBt (pv 1)) (jIu rfl (jCw (pgA (i:=2) jBN.nd) (jCw (pgA (i:=3) jBN.nd) jHF))) (jAf (jAE (tcA jEZ (dgA hu (jAq (pv 0) rfl) (pv 2)) (pv 3)) (jAf (jBz jBn rfl (jBm Dau hr.m rfl (jAa (pv 2) jAc)))) jAw))) (jAf (jBS jFc rfl (jBt (pv 1)) (jIu rfl (jCw (pgA (i:=2) jBN.nd) (jCw (pgA (i:=3) jBN.nd) jHF))) (jAf (jMy hu (jAq (pv 0) rfl) (pv 2) (pv 3) in_sub (fun _ _ _=>rfl)))))))
 refine⟨_,rfl,x,_,dx,_,_,_,rfl,hx,rfl,T.ag,Dat,_,rfl,x,p,rs,am,ws,rfl,S.at,G,fun kn=>?_,q1⟩
 refine⟨_,rfl,p,rfl,⟨_,SqL.of hp⟩,jBK (K:=K) (a:=p) (xs:=ts) (fun i σ H'=>H'=H/\(∀ (j:Nat) g,j<i->ws[j]?=some g->decide ((am.lookup g.1).getD 0<g.2)=false)/\∃ v2 v3,σ=[some (.ref x),some (.ref p),v2,v3]) ⟨rfl,fun j g hj=>absurd hj (Nat.not_lt_zero j),_,_,rfl⟩ (fun i σ H' _ z=>by rw [z.1];exact SqL.of hp) (fun i y σ H' hy z=>?_) (fun σ H' z=>?_)⟩
 ·obtain⟨rfl,kb,v2,v3,rfl⟩:=z
  obtain⟨g,eg⟩:∃ g,ws[i]?=some g:=⟨_,List.getElem?_eq_getElem (by rw [<- lt];exact (List.getElem?_eq_some_iff.mp hy).1)⟩
  obtain⟨t,rfl,ht⟩:=gt i y g hy eg
  obtain⟨vr,er⟩:=jDo kn eg
  obtain⟨va,ea⟩:=jEw ek er
  exists t,[.str g.1,.int g.2],rfl,SqT.of ht,rfl,.str g.1,[.int g.2],rfl,.int g.2,[],rfl,rfl
  exists _,rfl,x,cQ,dx,_,_,rfl,hx,T.ag,T.aG,rfl,_,rfl,m,_,rfl,jFd hm ea,_,rfl,_,_,rfl,rfl,decide (va<g.2),rfl
  have eb:(decide ((am.lookup g.1).getD 0<g.2))=decide (va<g.2):=by rw [ea];rfl
  cases hd:decide (va<g.2) with
  | false =>
    refine jAJ ⟨rfl,fun j g' hj e=>?_,_,_,rfl⟩
    by_cases hji:j<i
    ·exact kb j g' hji e
    ·have:j=i:=by omega
     subst this
     rw [eg] at e
     obtain rfl:=Option.some.inj e
     rw [eb,hd]
  | true =>
    refine jAU ⟨_,rfl,jA2 T.ai.m fun ea H2 sm _ gx=>q2 g.1 kn ?_ ea H2 sm gx⟩
    show jBr am ws=some g.1
    unfold jBr
    rw [jE2 eg (fun j b hj e=>kb j b hj e) (by rw [eb,hd])]
    rfl
 ·obtain⟨rfl,kb,v2,v3,rfl⟩:=z
  have nb:jBr am ws=none:=by
   unfold jBr
   rw [jJA fun j g e=>kb j g (by rw [lt];exact (List.getElem?_eq_some_iff.mp e).1) e]
   rfl
  refine⟨_,rfl,p,rfl,⟨_,SqL.of hp⟩,jBK (K:=K) (a:=p) (xs:=ts) (fun i σ H2=>(∀ b u,b≠m->H' b=some u->H2 b=some u)/\H2 m=some (.dK (dI (jBM (-1) am (ws.take i))))/\∃ v2 v3,σ=[some (.ref x),some (.ref p),v2,v3]) ⟨fun b u _ e=>e,hm,_,_,rfl⟩ (fun i σ H2 _ z=>SqL.of (z.1 _ _ npm hp)) (fun i y σ H2 hy z=>?_) (fun σ H2 z=>?_)⟩
  ·obtain⟨kp,hm2,v2,v3,rfl⟩:=z
   obtain⟨g,eg⟩:∃ g,ws[i]?=some g:=⟨_,List.getElem?_eq_getElem (by rw [<- lt];exact (List.getElem?_eq_some_iff.mp hy).1)⟩
   obtain⟨t,rfl,ht⟩:=gt i y g hy eg
   obtain⟨vr,er⟩:=jDo kn eg
   have ek2:(jBM (-1) am (ws.take i)).map (·.1)=rs.map (·.1):=by rw [jCT,ek]
   obtain⟨va,ea⟩:=jEw ek2 er
   have tk:ws.take (i+1)=ws.take i++[g]:=by rw [List.take_add_one,eg];rfl
   exists t,[.str g.1,.int g.2],rfl,SqT.of (kp _ _ (jAu ht hm nofun) ht),rfl,.str g.1,[.int g.2],rfl,.int g.2,[],rfl,rfl
   have ln:(dI (jBM (-1) am (ws.take i))).length<sizeLine:=by
    unfold dI
    have:=congrArg List.length (jCT (-1) (ws.take i) am)
    rw [List.length_map,List.length_map] at this
    rw [List.length_map,this]
    exact jAW la
   exists _,rfl,x,cQ,dx,_,_,rfl,kp _ _ nxm hx,T.ag,T.aG,rfl,_,rfl,m,_,rfl,jFd hm2 ea,_,rfl,_,_,rfl,rfl,_,jCP.k (k:=Sum.inr g.1) hm2 ln
   refine⟨fun b u nb e=>by rw [jAi nb];exact kp b u nb e,?_,_,_,rfl⟩
   rw [jAb,jLm (jBF ea),tk,jIb,ea,Option.getD_some]
   rw [show va + -1*g.2=va-g.2 from by omega]
  ·obtain⟨kp,hm2,v2,v3,rfl⟩:=z
   rw [List.take_of_length_le (by omega)] at hm2
   exact q3 kn nb H2 kp ⟨⟨dx,kp _ _ nxm hx⟩,kp _ _ ne hr',hm2,ne⟩
inductive jLn(C cU cT:Addr)(vs:List V)(H:Hp)(Q:VK)(E:XK):Prop|mk x r m rs am n k:vs=[.ref x,.str n,.int k]->jCb C H x r m rs am->am.map (·.1)=rs.map (·.1)->am.length<=1000->(∀ n',jA3 rs [(n,k)]=some n'->OutU cU n' H E)->(∀ n',jA3 rs [(n,k)]=none->jBA rs am [(n,k)]=some n'->OutU cT n' H E)->(jA3 rs [(n,k)]=none->jBA rs am [(n,k)]=none->∀ H',(∀ b u,b≠m->H b=some u->H' b=some u)->jCb C H' x r m rs (jBM 1 am [(n,k)])->Q .non H')->jLn C cU cT vs H Q E
theorem jCb.same{C:Addr}{H H':Hp}{x r m:Addr}{rs am:List (Str×Int)}(h:jCb C H x r m rs am)(k:jAn H H'):jCb C H' x r m rs am:=let ⟨⟨dx,e1⟩,e2,e3,n⟩:=h;⟨⟨dx,k _ _ e1⟩,k _ _ e2,k _ _ e3,n⟩
theorem jLo:jAk ["self","name","many"] ["self","name","many"] (jAh jGh):=scM
include T in
theorem jLp(F:Fun K "put" "Stock.put" jGh fa fd)(Dav:MtE P w K mg base 5 "put_all" cQ ["self","gifts"] (jHx cQ vG vU 1 jBA)) :
 jAr P w K mg base (CXe P w) 6 fa fd ["self","name","many"] (jLn cQ vG vU):=by
 refine F.okE jLo (fun vs H Q E h=>?_) (fun cdv A outer s H vs Q E hr h=>?_)
 ·obtain⟨x,r,m,rs,am,n,k,rfl,_⟩:=h
  rfl
 obtain⟨x,r,m,rs,am,n,k,rfl,S,ek,la,q1,q2,q3⟩:=h
 have z1:1<=sizeLine:=small (by decide)
 have z2:2<=sizeLine:=small (by decide)
 obtain⟨⟨dx,hx⟩,hr',hm,ne⟩:=id S
 exists _,(jAf (jAy (jAF 5 jAx hr.m (pv 0) (jAa (jAV (jAa (jAN (jAa (pv 1) (jAa (pv 2) jAc))) jAc)) jAc))))
 refine⟨_,rfl,x,_,dx,_,_,_,rfl,hx,rfl,T.ag,Dav,_,rfl,_,rfl,z2,fun t nt=>⟨z1,fun p np=>?_⟩⟩
 have s1:=(jAj nt (.tup [.str n,.int k])).trans (jAj np (.lst [.ref t]))
 have ht:=jAj np (.lst [.ref t]) _ _ (jAb (H:=H) (a:=t) (o:=.tup [.str n,.int k]))
 have hp:=jAb (H:=upd H t (.tup [.str n,.int k])) (a:=p) (o:=.lst [.ref t])
 have npm:p≠m:=fun e=>by
  have:=jAj nt (.tup [.str n,.int k]) _ _ hm
  rw [<- e,np] at this
  cases this
 refine⟨x,r,m,p,rs,am,[(n,k)],rfl,S.same s1,ek,la,npm,⟨[.ref t],hp,rfl,fun i y g e1 e2=>?_⟩,fun n' h ea H' sm gx=>q1 n' h ea H' (s1.trans sm) gx,fun n' h h2 ea H' sm gx=>q2 n' h h2 ea H' (s1.trans sm) gx,fun h1 h2 H' kp S'=>q3 h1 h2 H' (fun b u nb e=>kp b u nb (s1 _ _ e)) S'⟩
 match i,e1,e2 with
 | 0,e1,e2 =>
   obtain rfl:V.ref t=y:=Option.some.inj e1
   obtain rfl:(n,k)=g:=Option.some.inj e2
   exact⟨t,rfl,ht⟩
theorem jJB:jAk ["self","found"] ["self","found"] (jAh jED):=scM
include T in
theorem jJC(F:Fun K "__init__" "NotNow.__init__" jED fa fd)  :
 jAr P w K mg base CX0 1 fa fd ["self","found"] (jBh vY "found"):=by
 refine F.ok jJB (fun vs H Q E h=>?_) (fun cdv A outer s H vs Q E hr h=>?_)
 ·obtain⟨x,y,rfl,_⟩:=h
  rfl
 obtain⟨x,y,rfl,hx,q⟩:=h
 exists _,(jAd (jAy (jDM T.aH rfl T.aD (jAa (pv 0) (jAa (pv 1) jAc)))) (jAf (jFb (pv 0) (pv 1) rfl)))
 exists _,rfl,_,rfl,x,_,none,[y],rfl,(by simp),hx,T.ae.m
 refine⟨_,rfl,_,rfl,.inl ⟨x,_,rfl,hx,T.ae.i.c,T.ae.n _ (.head _),fun dx nd ne=>?_⟩⟩
 exact q _ (jEb nd) (jGq ne)
inductive S3 where
 | rd|jm|aw (b:Bool)
 deriving DecidableEq
def wd:S3->Str
 | .rd=>Str.ofString "ready"
 | .jm=>Str.ofString "jammed"
 | .aw _=>Str.ofString "off"
def jC8:S3->List (Str×V)
 | .rd=>[("word",.str (Str.ofString "ready"))]
 | .jm=>[("word",.str (Str.ofString "jammed"))]
 | .aw b=>[("word",.str (Str.ofString "off")),("jammed",.bl b)]
def clOf(cR cJ cA:Addr):S3->Addr
 | .rd=>cR
 | .jm=>cJ
 | .aw _=>cA
def jBX:Nat->S3->Option S3
 | 0,.rd=>some .jm
 | 1,.jm=>some .rd
 | 2,.rd=>some (.aw false)
 | 2,.jm=>some (.aw true)
 | 3,.aw b=>some (if b=true then .jm else .rd)
 | _,_=>none
def jER(cR cJ cA:Addr)(H:Hp)(a:Addr)(s:S3):Prop:=∃ dx,H a=some (.ins (clOf cR cJ cA s) dx (jC8 s))
theorem jER.same{cR cJ cA:Addr}{H H':Hp}{a:Addr}{s:S3}(h:jER cR cJ cA H a s)(k:jAn H H'):jER cR cJ cA H' a s:=let ⟨dx,e⟩:=h;⟨dx,k _ _ e⟩
theorem jCK{H:Hp}{x dx:Addr}{o o1 o2:HO}(nx:H x=none)(nd:H dx=none):jAn H (upd (upd (upd H dx o) x o1) x o2):=by
 rw [jBP]
 exact jCa nx (jAj nd _) _
def OutS(cR cJ cA cN:Addr)(d:Nat)(s:S3)(H:Hp)(Q:VK)(E:XK):Prop:=(∀ s',jBX d s=some s'->∀ p H',jAn H H'->H p=none->jER cR cJ cA H' p s'->Q (.ref p) H') /\
 (jBX d s=none->∀ ea H',jAn H H'->XG H' ea cN [("found",.str (wd s))]->E (.ref cN) (some ea) H')
inductive jBj(cR cJ cA cN:Addr)(S:S3->Prop)(d:Nat)(vs:List V)(H:Hp)(Q:VK)(E:XK):Prop|mk a s:vs=[.ref a]->S s->jER cR cJ cA H a s->OutS cR cJ cA cN d s H Q E->jBj cR cJ cA cN S d vs H Q E
inductive jEx(cR cJ cA:Addr)(vs:List V)(H:Hp)(Q:VK)(E_:XK):Prop|mk a s:vs=[.ref a]->jER cR cJ cA H a s->Q (.str (wd s)) H->jEx cR cJ cA vs H Q E_
inductive jB1(K:PySem.W.Frag)(vs:List V)(H:Hp)(Q:VK)(E_:XK):Prop|mk x dx C y:vs=[.ref x,y]->H x=some (.ins C dx [])->Cls K C->jAz K C "word"->Q .non (upd H x (.ins C dx [("word",y)]))->jB1 K vs H Q E_
def jFv(C:Addr)(fs:List (Str×V)):Sp:=fun vs H Q _=>∃ x dx,vs=[.ref x]/\H x=some (.ins C dx [])/\Q .non (upd H x (.ins C dx fs))
inductive jDp(C:Addr)(vs:List V)(H:Hp)(Q:VK)(E_:XK):Prop|mk x dx b:vs=[.ref x,.bl b]->H x=some (.ins C dx [])->Q .non (upd H x (.ins C dx (jC8 (.aw b))))->jDp C vs H Q E_
theorem jKG:jAk ["self","word"] ["self","word"] (jAh jFl):=scM
include T in
theorem jKH(F:Fun K "__init__" "State.__init__" jFl fa fd)  :
 jAr P w K mg base CX0 1 fa fd ["self","word"] (jB1 K):=by
 refine F.ok jKG (fun vs H Q E h=>?_) (fun cdv A outer s H vs Q E hr h=>?_)
 ·obtain⟨x,dx,C,y,rfl,_⟩:=h
  rfl
 obtain⟨x,dx,C,y,rfl,hx,cl,n,q⟩:=h
 exists _,(jAf (jAM (pv 0) (pv 1) rfl))
 exact⟨_,rfl,_,rfl,x,C,dx,_,rfl,hx,cl,n,(by decide),q⟩
theorem jIP:jAk ["self"] ["self"] (jAh jDV):=scM
include T in
theorem jIQ(F:Fun K "called" "State.called" jDV fa fd)  :
 jAr P w K mg base CX0 1 fa fd ["self"] (jEx yJ yW yU):=by
 refine F.ok jIP (fun vs H Q E h=>?_) (fun cdv A outer s H vs Q E hr h=>?_)
 ·obtain⟨a,s,rfl,_⟩:=h
  rfl
 obtain⟨a,s,rfl,⟨dx,hx⟩,q⟩:=h
 exists _,(jAf (jAo (jAq (pv 0) rfl)))
 cases s with
 | rd=>exact⟨_,rfl,a,_,dx,_,_,rfl,hx,T.ay,T.aS,rfl,q⟩
 | jm=>exact⟨_,rfl,a,_,dx,_,_,rfl,hx,T.az,T.aU,rfl,q⟩
 | aw b=>exact⟨_,rfl,a,_,dx,_,_,rfl,hx,T.ar,T.aL,rfl,q⟩
theorem jLq:jAk ["self"] ["self"] (jAh jGb):=scM
include T in
theorem jLr(F:Fun K "jam" "State.jam" jGb fa fd)(Dab:jCY P w K mg base 1 "NotNow" vY ["self","found"] (jBh vY "found")) :
 jAr P w K mg base (CXe P w) 3 fa fd ["self"] (jBj yJ yW yU vY (fun s=>jBX 0 s=none) 0):=by
 refine F.okE jLq (fun vs H Q E h=>?_) (fun cdv A outer s H vs Q E hr h=>?_)
 ·obtain⟨a,s,rfl,_⟩:=h
  rfl
 obtain⟨a,s,rfl,hs,⟨dx,hx⟩,_,q⟩:=h
 exists _,(jAf (jBz jBn rfl (jBm Dab hr.m rfl (jAa (jAq (pv 0) rfl) jAc))))
 cases s with
 | rd=>cases hs
 | jm=>exact⟨_,rfl,a,_,dx,_,_,rfl,hx,T.az,T.aU,rfl,jA2 T.ae.m fun ea H' sm _ g=>q hs ea H' sm g⟩
 | aw b=>exact⟨_,rfl,a,_,dx,_,_,rfl,hx,T.ar,T.aL,rfl,jA2 T.ae.m fun ea H' sm _ g=>q hs ea H' sm g⟩
theorem jKI:jAk ["self"] ["self"] (jAh jFm):=scM
include T in
theorem jKJ(F:Fun K "mend" "State.mend" jFm fa fd)(Dab:jCY P w K mg base 1 "NotNow" vY ["self","found"] (jBh vY "found")) :
 jAr P w K mg base (CXe P w) 3 fa fd ["self"] (jBj yJ yW yU vY (fun s=>jBX 1 s=none) 1):=by
 refine F.okE jKI (fun vs H Q E h=>?_) (fun cdv A outer s H vs Q E hr h=>?_)
 ·obtain⟨a,s,rfl,_⟩:=h
  rfl
 obtain⟨a,s,rfl,hs,⟨dx,hx⟩,_,q⟩:=h
 exists _,(jAf (jBz jBn rfl (jBm Dab hr.m rfl (jAa (jAq (pv 0) rfl) jAc))))
 cases s with
 | jm=>cases hs
 | rd=>exact⟨_,rfl,a,_,dx,_,_,rfl,hx,T.ay,T.aS,rfl,jA2 T.ae.m fun ea H' sm _ g=>q hs ea H' sm g⟩
 | aw b=>exact⟨_,rfl,a,_,dx,_,_,rfl,hx,T.ar,T.aL,rfl,jA2 T.ae.m fun ea H' sm _ g=>q hs ea H' sm g⟩
theorem jJD:jAk ["self"] ["self"] (jAh jEH):=scM
include T in
theorem jJE(F:Fun K "leave" "State.leave" jEH fa fd)(Dab:jCY P w K mg base 1 "NotNow" vY ["self","found"] (jBh vY "found")) :
 jAr P w K mg base (CXe P w) 3 fa fd ["self"] (jBj yJ yW yU vY (fun s=>jBX 2 s=none) 2):=by
 refine F.okE jJD (fun vs H Q E h=>?_) (fun cdv A outer s H vs Q E hr h=>?_)
 ·obtain⟨a,s,rfl,_⟩:=h
  rfl
 obtain⟨a,s,rfl,hs,⟨dx,hx⟩,_,q⟩:=h
 exists _,(jAf (jBz jBn rfl (jBm Dab hr.m rfl (jAa (jAq (pv 0) rfl) jAc))))
 cases s with
 | jm=>cases hs
 | rd=>cases hs
 | aw b=>exact⟨_,rfl,a,_,dx,_,_,rfl,hx,T.ar,T.aL,rfl,jA2 T.ae.m fun ea H' sm _ g=>q hs ea H' sm g⟩
theorem jKK:jAk ["self"] ["self"] (jAh jFn):=scM
include T in
theorem jKL(F:Fun K "come" "State.come" jFn fa fd)(Dab:jCY P w K mg base 1 "NotNow" vY ["self","found"] (jBh vY "found")) :
 jAr P w K mg base (CXe P w) 3 fa fd ["self"] (jBj yJ yW yU vY (fun s=>jBX 3 s=none) 3):=by
 refine F.okE jKK (fun vs H Q E h=>?_) (fun cdv A outer s H vs Q E hr h=>?_)
 ·obtain⟨a,s,rfl,_⟩:=h
  rfl
 obtain⟨a,s,rfl,hs,⟨dx,hx⟩,_,q⟩:=h
 exists _,(jAf (jBz jBn rfl (jBm Dab hr.m rfl (jAa (jAq (pv 0) rfl) jAc))))
 cases s with
 | rd=>exact⟨_,rfl,a,_,dx,_,_,rfl,hx,T.ay,T.aS,rfl,jA2 T.ae.m fun ea H' sm _ g=>q hs ea H' sm g⟩
 | jm=>exact⟨_,rfl,a,_,dx,_,_,rfl,hx,T.az,T.aU,rfl,jA2 T.ae.m fun ea H' sm _ g=>q hs ea H' sm g⟩
 | aw b=>cases hs
theorem jKM:jAk ["self"] ["self"] (jAh jFo):=scM
include T in
theorem jKN(F:Fun K "__init__" "Ready.__init__" jFo fa fd)(Daj:InD P w K mg base 1 "State" yV ["self","word"] (jB1 K)) :
 jAr P w K mg base CX0 2 fa fd ["self"] (jFv yJ (jC8 .rd)):=by
 refine F.ok jKM (fun vs H Q E h=>?_) (fun cdv A outer s H vs Q E hr h=>?_)
 ·obtain⟨x,dx,rfl,_⟩:=h
  rfl
 obtain⟨x,dx,rfl,hx,q⟩:=h
 exists _,(jAf (jAy (jDO Daj hr.m rfl (jAa (pv 0) (jAa (jCg T.aY rfl) jAc)))))
 exact⟨_,rfl,x,dx,_,_,rfl,hx,T.ay,T.aS,q⟩
theorem jJF:jAk ["self"] ["self"] (jAh jEJ):=scM
include T in
theorem jJG(F:Fun K "__init__" "Jammed.__init__" jEJ fa fd)(Daj:InD P w K mg base 1 "State" yV ["self","word"] (jB1 K)) :
 jAr P w K mg base CX0 2 fa fd ["self"] (jFv yW (jC8 .jm)):=by
 refine F.ok jJF (fun vs H Q E h=>?_) (fun cdv A outer s H vs Q E hr h=>?_)
 ·obtain⟨x,dx,rfl,_⟩:=h
  rfl
 obtain⟨x,dx,rfl,hx,q⟩:=h
 exists _,(jAf (jAy (jDO Daj hr.m rfl (jAa (pv 0) (jAa (jCg T.bQ rfl) jAc)))))
 exact⟨_,rfl,x,dx,_,_,rfl,hx,T.az,T.aU,q⟩
theorem jLs:jAk ["self","jammed"] ["self","jammed"] (jAh jGd):=scM
include T in
theorem jLt(F:Fun K "__init__" "Away.__init__" jGd fa fd)(Daj:InD P w K mg base 1 "State" yV ["self","word"] (jB1 K)) :
 jAr P w K mg base CX0 2 fa fd ["self","jammed"] (jDp yU):=by
 refine F.ok jLs (fun vs H Q E h=>?_) (fun cdv A outer s H vs Q E hr h=>?_)
 ·obtain⟨x,dx,b,rfl,_⟩:=h
  rfl
 obtain⟨x,dx,b,rfl,hx,q⟩:=h
 exists _,(jAd (jAy (jDO Daj hr.m rfl (jAa (pv 0) (jAa (jCg T.bR rfl) jAc)))) (jAf (jAM (pv 0) (pv 1) rfl)))
 exists _,rfl,x,dx,_,_,rfl,hx,T.ar,T.aL
 exists _,rfl,_,rfl,x,_,dx,_,rfl,jAb,T.ar,T.bu,(by decide)
 rw [jBP]
 exact q
theorem jLu:jAk ["self"] ["self"] (jAh jGc):=scM
include T in
theorem jLv(F:Fun K "jam" "Ready.jam" jGc fa fd)(Daw:MkD P w K mg base 2 "Jammed" yW ["self"] (jFv yW (jC8 .jm))) :
 jAr P w K mg base CX0 4 fa fd ["self"] (jBj yJ yW yU vY (fun s=>s=.rd) 0):=by
 refine F.ok jLu (fun vs H Q E h=>?_) (fun cdv A outer s H vs Q E hr h=>?_)
 ·obtain⟨a,s,rfl,_⟩:=h
  rfl
 obtain⟨a,s,rfl,rfl,_,q,_⟩:=h
 exists _,(jAf (jAo (jCy Daw hr.m rfl)))
 exact fun x dx nx nd ne=>⟨x,dx,rfl,jAb,rfl,q _ rfl x _ (jCK nx nd) nx ⟨dx,jAb⟩⟩
theorem jJH:jAk ["self"] ["self"] (jAh jEI):=scM
include T in
theorem jJI(F:Fun K "leave" "Ready.leave" jEI fa fd)(Dax:MkD P w K mg base 2 "Away" yU ["self","jammed"] (jDp yU)) :
 jAr P w K mg base CX0 4 fa fd ["self"] (jBj yJ yW yU vY (fun s=>s=.rd) 2):=by
 refine F.ok jJH (fun vs H Q E h=>?_) (fun cdv A outer s H vs Q E hr h=>?_)
 ·obtain⟨a,s,rfl,_⟩:=h
  rfl
 obtain⟨a,s,rfl,rfl,_,q,_⟩:=h
 exists _,(jAf (jAo (jCh Dax hr.m rfl (jAa jBc jAc))))
 exact fun x dx nx nd ne=>⟨x,dx,_,rfl,jAb,rfl,q _ rfl x _ (jCK nx nd) nx ⟨dx,jAb⟩⟩
theorem jJJ:jAk ["self"] ["self"] (jAh jEK):=scM
include T in
theorem jJK(F:Fun K "mend" "Jammed.mend" jEK fa fd)(Dak:MkD P w K mg base 2 "Ready" yJ ["self"] (jFv yJ (jC8 .rd))) :
 jAr P w K mg base CX0 4 fa fd ["self"] (jBj yJ yW yU vY (fun s=>s=.jm) 1):=by
 refine F.ok jJJ (fun vs H Q E h=>?_) (fun cdv A outer s H vs Q E hr h=>?_)
 ·obtain⟨a,s,rfl,_⟩:=h
  rfl
 obtain⟨a,s,rfl,rfl,_,q,_⟩:=h
 exists _,(jAf (jAo (jCy Dak hr.m rfl)))
 exact fun x dx nx nd ne=>⟨x,dx,rfl,jAb,rfl,q _ rfl x _ (jCK nx nd) nx ⟨dx,jAb⟩⟩
theorem jIR:jAk ["self"] ["self"] (jAh jDW):=scM
include T in
theorem jIS(F:Fun K "leave" "Jammed.leave" jDW fa fd)(Dax:MkD P w K mg base 2 "Away" yU ["self","jammed"] (jDp yU)) :
 jAr P w K mg base CX0 4 fa fd ["self"] (jBj yJ yW yU vY (fun s=>s=.jm) 2):=by
 refine F.ok jIR (fun vs H Q E h=>?_) (fun cdv A outer s H vs Q E hr h=>?_)
 ·obtain⟨a,s,rfl,_⟩:=h
  rfl
 obtain⟨a,s,rfl,rfl,_,q,_⟩:=h
 exists _,(jAf (jAo (jCh Dax hr.m rfl (jAa jBc jAc))))
 exact fun x dx nx nd ne=>⟨x,dx,_,rfl,jAb,rfl,q _ rfl x _ (jCK nx nd) nx ⟨dx,jAb⟩⟩
theorem jLw:jAk ["self"] ["self"] (jAh jGe):=scM
include T in
theorem jLx(F:Fun K "come" "Away.come" jGe fa fd)(Daw:MkD P w K mg base 2 "Jammed" yW ["self"] (jFv yW (jC8 .jm)))(Dak:MkD P w K mg base 2 "Ready" yJ ["self"] (jFv yJ (jC8 .rd))) :
 jAr P w K mg base CX0 4 fa fd ["self"] (jBj yJ yW yU vY (fun s=>∃ b,s=.aw b) 3):=by
 refine F.ok jLw (fun vs H Q E h=>?_) (fun cdv A outer s H vs Q E hr h=>?_)
 ·obtain⟨a,s,rfl,_⟩:=h
  rfl
 obtain⟨a,s,rfl,⟨b,rfl⟩,⟨dx,hx⟩,q,_⟩:=h
 exists _,(jAf (jAo (jCv (jAX (jAq (pv 0) rfl) (fun _=>rfl)) (jCy Daw hr.m rfl) (jCy Dak hr.m rfl))))
 exists _,rfl,a,_,dx,_,_,rfl,hx,T.ar,T.bu,rfl,b,rfl
 cases b with
 | true=>exact jAU fun x dx nx nd ne=>⟨x,dx,rfl,jAb,rfl,q _ rfl x _ (jCK nx nd) nx ⟨dx,jAb⟩⟩
 | false=>exact jAJ fun x dx nx nd ne=>⟨x,dx,rfl,jAb,rfl,q _ rfl x _ (jCK nx nd) nx ⟨dx,jAb⟩⟩
abbrev blW:Str:=Str.ofString "black"
abbrev coW:Str:=Str.ofString "colour"
theorem blco:blW≠coW:=by decide +kernel
def jAG(b c:Int):List (Str×Int):=[(blW,b),(coW,c)]
structure PD where
 dx:Addr
 cn:Addr
 rm:Addr
 tr:Addr
 tr1:Addr
 tr2:Addr
 ik:Addr
 ik1:Addr
 ik2:Addr
 st:Addr
 ins:Addr
 name:Str
 path:Int
 rs:List (Str×Int)
 am:List (Str×Int)
 rb:Int
 rc:Int
 b:Int
 c:Int
 tags:List V
 S:S3
def PD.fs(d:PD):List (Str×V):=[("name",.str d.name),("can",.ref d.cn),("path",.int d.path),("rooms",.ref d.rm),("trays",.ref d.tr),("inks",.ref d.ik),("state",.ref d.st),("inside",.ref d.ins)]
structure jAC(cP cS cR cJ cA:Addr)(H:Hp)(x:Addr)(d:PD):Prop where
 o:H x=some (.ins cP d.dx d.fs)
 T:jCb cS H d.tr d.tr1 d.tr2 d.rs d.am
 I:jCb cS H d.ik d.ik1 d.ik2 (jAG d.rb d.rc) (jAG d.b d.c)
 s:jER cR cJ cA H d.st d.S
 n:H d.ins=some (.lst d.tags)
 ka:d.am.map (·.1)=d.rs.map (·.1)
 la:d.am.length<=900
 lt:d.tags.length<=900
 n22:d.tr2≠d.ik2
 n21:d.tr2≠d.ik1
 n12:d.tr1≠d.ik2
theorem jAC.same{cP cS cR cJ cA:Addr}{H H':Hp}{x:Addr}{d:PD}(h:jAC cP cS cR cJ cA H x d)(k:jAn H H'):jAC cP cS cR cJ cA H' x d :=
 { h with o:=k _ _ h.o,T:=h.T.same k,I:=h.I.same k,s:=h.s.same k,n:=k _ _ h.n }
def jBi(c:Addr)(f:Str)(v:V)(H:Hp)(E:XK):Prop:=∀ ea H',jAn H H'->XG H' ea c [(f,v)]->E (.ref c) (some ea) H'
theorem jBi.after{c:Addr}{f:Str}{v:V}{H H':Hp}{E:XK}(h:jBi c f v H E)(k:jAn H H'):jBi c f v H' E:=fun ea H2 s g=>h ea H2 (k.trans s) g
inductive jBG(cP cS cR cJ cA:Addr)(vs:List V)(H:Hp)(Q:VK)(E_:XK):Prop|mk x d:vs=[.ref x]->jAC cP cS cR cJ cA H x d->Q (.str (wd d.S)) H->jBG cP cS cR cJ cA vs H Q E_
theorem jHZ:jAk ["self"] ["self"] (jAh jC3):=scM
include T in
theorem jH0(F:Fun K "stands" "Printer.stands" jC3 fa fd)(DaV:MtE P w K mg base 1 "called" yJ ["self"] (jEx yJ yW yU))(DaW:MtE P w K mg base 1 "called" yW ["self"] (jEx yJ yW yU))(DaX:MtE P w K mg base 1 "called" yU ["self"] (jEx yJ yW yU)) :
 jAr P w K mg base CX0 2 fa fd ["self"] (jBG cZ cQ yJ yW yU):=by
 refine F.ok jHZ (fun vs H Q E h=>?_) (fun cdv A outer s H vs Q E hr h=>?_)
 ·obtain⟨x,d,rfl,_⟩:=h
  rfl
 obtain⟨x,d,rfl,P,q⟩:=h
 exists _,(jAf (jAo (jAs 1 jAL hr.m (jAq (pv 0) rfl))))
 exists _,rfl,x,cZ,d.dx,_,_,rfl,P.o,T.ac,T.ax,rfl
 obtain⟨ds,hs⟩:=id P.s
 have hs':=P.s
 cases eS:d.S with
 | rd =>
   rw [eS] at hs hs' q
   exact⟨d.st,_,ds,_,_,_,rfl,hs,rfl,T.ay,DaV,d.st,.rd,rfl,hs',q⟩
 | jm =>
   rw [eS] at hs hs' q
   exact⟨d.st,_,ds,_,_,_,rfl,hs,rfl,T.az,DaW,d.st,.jm,rfl,hs',q⟩
 | aw b =>
   rw [eS] at hs hs' q
   exact⟨d.st,_,ds,_,_,_,rfl,hs,rfl,T.ar,DaX,d.st,.aw b,rfl,hs',q⟩
theorem jFw{rs am:List (Str×Int)}{n:Str}{v:Int}(e:am.map (·.1)=rs.map (·.1))(h:am.lookup n=some v):n∈rs.map (·.1):=e ▸ jBF h
inductive jCl(cU cP cS cR cJ cA:Addr)(vs:List V)(H:Hp)(Q:VK)(E:XK):Prop|mk x d n:vs=[.ref x,.str n]->jAC cP cS cR cJ cA H x d->(∀ v,d.am.lookup n=some v->Q (.int v) H)->(¬ n∈d.rs.map (·.1)->jBi cU "name" (.str n) H E)->jCl cU cP cS cR cJ cA vs H Q E
theorem jGr:jAk ["self","kind"] ["self","kind"] (jAh jCk):=scM
include T in
theorem jGs(F:Fun K "paper_left" "Printer.paper_left" jCk fa fd)(Dao:MtE P w K mg base 4 "held" cQ ["self","name"] (jHR cQ vG)) :
 jAr P w K mg base (CXe P w) 5 fa fd ["self","kind"] (jCl vG cZ cQ yJ yW yU):=by
 refine F.okE jGr (fun vs H Q E h=>?_) (fun cdv A outer s H vs Q E hr h=>?_)
 ·obtain⟨x,d,n,rfl,_⟩:=h
  rfl
 obtain⟨x,d,n,rfl,P,q,q2⟩:=h
 exists _,(jAf (jAo (jAF 4 jAx hr.m (jAq (pv 0) rfl) (jAa (pv 1) jAc))))
 exists _,rfl,x,cZ,d.dx,_,_,rfl,P.o,T.ac,T.aW,rfl
 obtain⟨⟨dt,ht⟩,_⟩:=id P.T
 exact⟨d.tr,_,dt,_,_,_,rfl,ht,rfl,T.ag,Dao,_,rfl,d.tr,d.rs,d.am,n,rfl,P.T.at,fun v' _ l'=>q v' l',fun hn=>by
  cases l:d.am.lookup n with
  | some v=>exact⟨v,rfl⟩
  | none=>exact absurd (P.ka ▸ hn) (jCC l),q2⟩
inductive jEc(cP cS cR cJ cA:Addr)(vs:List V)(H:Hp)(Q:VK)(E_:XK):Prop|mk x d:vs=[.ref x]->jAC cP cS cR cJ cA H x d->(∀ t H',jAn H H'->H' t=some (.tup [.int d.b,.int d.c])->Q (.ref t) H')->jEc cP cS cR cJ cA vs H Q E_
theorem jCs{b c:Int}:(jAG b c).lookup blW=some b:=by
 unfold jAG
 rw [List.lookup_cons,beq_self_eq_true]
theorem jDq{b c:Int}:(jAG b c).lookup coW=some c:=by
 unfold jAG
 rw [List.lookup_cons,beq_eq_false_iff_ne.mpr (Ne.symm blco),List.lookup_cons,beq_self_eq_true]
theorem jHf:jAk ["self"] ["self"] (jAh jCB):=scM
include T in
theorem jHg(F:Fun K "ink_left" "Printer.ink_left" jCB fa fd)(Dao:MtE P w K mg base 4 "held" cQ ["self","name"] (jHR cQ vG)) :
 jAr P w K mg base (CXe P w) 5 fa fd ["self"] (jEc cZ cQ yJ yW yU):=by
 refine F.okE jHf (fun vs H Q E h=>?_) (fun cdv A outer s H vs Q E hr h=>?_)
 ·obtain⟨x,d,rfl,_⟩:=h
  rfl
 obtain⟨x,d,rfl,P,q⟩:=h
 have z2:2<=sizeLine:=small (by decide)
 exists _,(jAf (jAo (jAN (jAa (jAF 4 jAx hr.m (jAq (pv 0) rfl) (jAa (jCg T.aQ rfl) jAc)) (jAa (jAF 4 jAx hr.m (jAq (pv 0) rfl) (jAa (jCg T.aR rfl) jAc)) jAc)))))
 obtain⟨⟨dt,ht⟩,_⟩:=id P.I
 exists _,rfl,x,cZ,d.dx,_,_,rfl,P.o,T.ac,T.aN,rfl
 refine⟨d.ik,_,dt,_,_,_,rfl,ht,rfl,T.ag,Dao,d.ik,_,_,blW,rfl,P.I.at,fun v' _ l'=>?_,fun _=>⟨_,jCs⟩,fun z=>absurd (jBF jCs) z⟩
 rw [jCs] at l'
 obtain rfl:=Option.some.inj l'
 exists _,rfl,x,cZ,d.dx,_,_,rfl,P.o,T.ac,T.aN,rfl
 refine⟨d.ik,_,dt,_,_,_,rfl,ht,rfl,T.ag,Dao,d.ik,_,_,coW,rfl,P.I.at,fun v' _ l'=>?_,fun _=>⟨_,jDq⟩,fun z=>absurd (jBF jDq) z⟩
 rw [jDq] at l'
 obtain rfl:=Option.some.inj l'
 exact⟨z2,fun t nt=>q t _ (jAj nt _) jAb⟩
inductive jCD(cP cS cR cJ cA:Addr)(vs:List V)(H:Hp)(Q:VK)(E_:XK):Prop|mk x d:vs=[.ref x]->jAC cP cS cR cJ cA H x d->(∀ l H',jAn H H'->H l=none->H' l=some (.lst d.tags)->Q (.ref l) H')->jCD cP cS cR cJ cA vs H Q E_
theorem jH1:jAk ["self"] ["self"] (jAh jC5):=scM
include T in
theorem jH2(F:Fun K "within" "Printer.within" jC5 fa fd)  :
 jAr P w K mg base CX0 1 fa fd ["self"] (jCD cZ cQ yJ yW yU):=by
 refine F.ok jH1 (fun vs H Q E h=>?_) (fun cdv A outer s H vs Q E hr h=>?_)
 ·obtain⟨x,d,rfl,_⟩:=h
  rfl
 obtain⟨x,d,rfl,P,q⟩:=h
 exists _,(jAf (jAo (jB4 jK9 rfl T.bL bt_list (jAa (jAq (pv 0) rfl) jAc))))
 exists _,rfl,x,cZ,d.dx,_,_,rfl,P.o,T.ac,T.au,rfl
 exact⟨d.ins,_,rfl,.inl (SqL.of P.n),fun l nl=>q l _ (jAj nl _) nl jAb⟩
inductive jE3(cN cP cS cR cJ cA:Addr)(vs:List V)(H:Hp)(Q:VK)(E:XK):Prop|mk x d:vs=[.ref x]->jAC cP cS cR cJ cA H x d->(d.S=.rd->Q .non H)->(d.S≠.rd->jBi cN "found" (.str (wd d.S)) H E)->jE3 cN cP cS cR cJ cA vs H Q E
theorem wd_rd{s:S3}:wd s=Str.ofString "ready" ↔ s=.rd:=by
 constructor
 ·intro h
  cases s with
  | rd=>rfl
  | jm=>exact absurd h (by decide +kernel)
  | aw b=>exact absurd (show Str.ofString "off"=Str.ofString "ready" from h) (by decide +kernel)
 ·rintro rfl
  rfl
theorem jFx:jAk ["self"] ["self"] (jAh jBZ):=scM
include T in
theorem jFy(F:Fun K "must_be_ready" "Printer.must_be_ready" jBZ fa fd)(Dab:jCY P w K mg base 1 "NotNow" vY ["self","found"] (jBh vY "found"))(Daa:MtE P w K mg base 2 "stands" cZ ["self"] (jBG cZ cQ yJ yW yU)) :
 jAr P w K mg base (CXe P w) 3 fa fd ["self"] (jE3 vY cZ cQ yJ yW yU):=by
 refine F.okE jFx (fun vs H Q E h=>?_) (fun cdv A outer s H vs Q E hr h=>?_)
 ·obtain⟨x,d,rfl,_⟩:=h
  rfl
 obtain⟨x,d,rfl,P,q,q2⟩:=h
 exists _,(jAf (jAE (tcA jHG (jAs 2 jAx hr.m (pv 0)) (jCg T.aY rfl)) (jAf (jBz jBn rfl (jBm Dab hr.m rfl (jAa (jAs 2 jAx hr.m (pv 0)) jAc)))) jAw))
 exists _,rfl,x,_,d.dx,_,_,_,rfl,P.o,rfl,T.ac,Daa,x,d,rfl,P,rfl,_,rfl
 by_cases h:d.S=.rd
 ·exact iteNS (by rw [h];rfl) (q h)
 ·refine iteNN (fun z=>h (wd_rd.mp (by injection z))) ?_
  exact⟨_,rfl,x,_,d.dx,_,_,_,rfl,P.o,rfl,T.ac,Daa,x,d,rfl,P,jA2 T.ae.m fun ea H' sm _ g=>q2 h ea H' sm g⟩
inductive jDr(cP cS cR cJ cA:Addr)(vs:List V)(H:Hp)(Q:VK)(E_:XK):Prop|mk x d:vs=[.ref x]->jAC cP cS cR cJ cA H x d->H d.rm=some (.dK (dI d.rs))->(∀ p H',jAn H H'->H p=none->H' p=some (.dK (dI d.rs))->Q (.ref p) H')->jDr cP cS cR cJ cA vs H Q E_
theorem jH3:jAk ["self"] ["self"] (jAh jC4):=scM
include T in
theorem jH4(F:Fun K "papers" "Printer.papers" jC4 fa fd)  :
 jAr P w K mg base CX0 1 fa fd ["self"] (jDr cZ cQ yJ yW yU):=by
 refine F.ok jH3 (fun vs H Q E h=>?_) (fun cdv A outer s H vs Q E hr h=>?_)
 ·obtain⟨x,d,rfl,_⟩:=h
  rfl
 obtain⟨x,d,rfl,P,rm,q⟩:=h
 exists _,(jAf (jAo (jB4 jDQ rfl T.aO jHN (jAa (jAq (pv 0) rfl) jAc))))
 exists _,rfl,x,cZ,d.dx,_,_,rfl,P.o,T.ac,T.bC,rfl
 exact⟨d.rm,_,rfl,.inl rm,fun l nl=>q l _ (jAj nl _) nl jAb⟩
theorem jIc{rs:List (Str×Int)}{n:Str}{k v:Int}(h:rs.lookup n=some v):jA3 rs [(n,k)]=none:=by
 unfold jA3
 rw [List.find?_cons,show ((rs.lookup (n,k).1).isNone)=false from by rw [show (n,k).1=n from rfl,h];rfl]
 rfl
theorem jLy{rs am:List (Str×Int)}{n:Str}{k v u:Int}(h:rs.lookup n=some v)(h':am.lookup n=some u):jBA rs am [(n,k)]=if v<u+k then some n else none:=by
 unfold jBA
 rw [List.find?_cons,show (rs.lookup (n,k).1).getD 0=v from by rw [show (n,k).1=n from rfl,h];rfl,show (am.lookup (n,k).1).getD 0=u from by rw [show (n,k).1=n from rfl,h'];rfl]
 by_cases c:v<u+k
 ·rw [if_pos c,decide_eq_true (show v<u+(n,k).2 from c)]
  rfl
 ·rw [if_neg c,decide_eq_false (show ¬ v<u+(n,k).2 from c)]
  rfl
theorem few_one{am:List (Str×Int)}{n:Str}{k u:Int}(h':am.lookup n=some u):jBr am [(n,k)]=if u<k then some n else none:=by
 unfold jBr
 rw [List.find?_cons,show (am.lookup (n,k).1).getD 0=u from by rw [show (n,k).1=n from rfl,h'];rfl]
 by_cases c:u<k
 ·rw [if_pos c,decide_eq_true (show u<(n,k).2 from c)]
  rfl
 ·rw [if_neg c,decide_eq_false (show ¬ u<(n,k).2 from c)]
  rfl
theorem jMH{am:List (Str×Int)}{n:Str}{s k u:Int}(h:am.lookup n=some u):jBM s am [(n,k)]=jAT am n (u+s*k):=by
 show jAT am n ((am.lookup n).getD 0+s*k)=_
 rw [h]
 rfl
theorem jId{a b x y:Int}:jA3 (jAG a b) (jAG x y)=none:=by
 unfold jA3
 rw [show jAG x y=[(blW,x),(coW,y)] from rfl,List.find?_cons,show ((jAG a b).lookup (blW,x).1).isNone=false from by rw [show (blW,x).1=blW from rfl,jCs];rfl]
 show (List.find? _ [(coW,y)]).map _=none
 rw [List.find?_cons,show ((jAG a b).lookup (coW,y).1).isNone=false from by rw [show (coW,y).1=coW from rfl,jDq];rfl]
 rfl
theorem jOt{rb rc a b x y:Int}(h1:a+x<=rb)(h2:b+y<=rc):jBA (jAG rb rc) (jAG a b) (jAG x y)=none:=by
 unfold jBA
 rw [show jAG x y=[(blW,x),(coW,y)] from rfl,List.find?_cons,show ((jAG rb rc).lookup (blW,x).1).getD 0=rb from by rw [show (blW,x).1=blW from rfl,jCs];rfl,show ((jAG a b).lookup (blW,x).1).getD 0=a from by rw [show (blW,x).1=blW from rfl,jCs];rfl,decide_eq_false (show ¬ rb<a+(blW,x).2 from Int.not_lt.mpr h1)]
 show (List.find? _ [(coW,y)]).map _=none
 rw [List.find?_cons,show ((jAG rb rc).lookup (coW,y).1).getD 0=rc from by rw [show (coW,y).1=coW from rfl,jDq];rfl,show ((jAG a b).lookup (coW,y).1).getD 0=b from by rw [show (coW,y).1=coW from rfl,jDq];rfl,decide_eq_false (show ¬ rc<b+(coW,y).2 from Int.not_lt.mpr h2)]
 rfl
theorem ink_few{a b x y:Int}(h1:x<=a)(h2:y<=b):jBr (jAG a b) (jAG x y)=none:=by
 unfold jBr
 rw [show jAG x y=[(blW,x),(coW,y)] from rfl,List.find?_cons,show ((jAG a b).lookup (blW,x).1).getD 0=a from by rw [show (blW,x).1=blW from rfl,jCs];rfl,decide_eq_false (show ¬ a<(blW,x).2 from Int.not_lt.mpr h1)]
 show (List.find? _ [(coW,y)]).map _=none
 rw [List.find?_cons,show ((jAG a b).lookup (coW,y).1).getD 0=b from by rw [show (coW,y).1=coW from rfl,jDq];rfl,decide_eq_false (show ¬ b<(coW,y).2 from Int.not_lt.mpr h2)]
 rfl
theorem set_b{a b v:Int}:jAT (jAG a b) blW v=jAG v b:=by
 unfold jAT jAG
 rw [List.map_cons,List.map_cons,if_pos rfl,if_neg (Ne.symm blco)]
 rfl
theorem set_c{a b v:Int}:jAT (jAG a b) coW v=jAG a v:=by
 unfold jAT jAG
 rw [List.map_cons,List.map_cons,if_neg blco,if_pos rfl]
 rfl
theorem jMI{s a b x y:Int}:jBM s (jAG a b) (jAG x y)=jAG (a+s*x) (b+s*y):=by
 show jAT (jAT (jAG a b) blW (((jAG a b).lookup blW).getD 0+s*x)) coW (((jAT (jAG a b) blW (((jAG a b).lookup blW).getD 0+s*x)).lookup coW).getD 0+s*y)=_
 rw [jCs]
 show jAT (jAT (jAG a b) blW (a+s*x)) coW (((jAT (jAG a b) blW (a+s*x)).lookup coW).getD 0+s*y)=_
 rw [set_b,jDq]
 exact set_c
theorem jAC.trays{cP cS cR cJ cA:Addr}{H H':Hp}{x:Addr}{d:PD}{am':List (Str×Int)}(h:jAC cP cS cR cJ cA H x d)(kp:∀ b o,b≠d.tr2->H b=some o->H' b=some o)(S:jCb cS H' d.tr d.tr1 d.tr2 d.rs am')(k:am'.map (·.1)=d.rs.map (·.1))(l:am'.length<=900):jAC cP cS cR cJ cA H' x { d with am:=am' }:=by
 obtain⟨⟨di,hi⟩,h1,h2,n⟩:=id h.I
 have hm:=h.T.2.2.1
 have off:∀ b o,H b=some o->(∀ kv,o≠.dK kv)->H' b=some o:=fun b o e n=>kp b o (fun z=>by rw [z,hm] at e;injection e with e;exact n _ e.symm) e
 exact { o:=off _ _ h.o (by intro kv z;cases z),T:=S,I:=⟨⟨di,off _ _ hi (by intro kv z;cases z)⟩,kp _ _ (Ne.symm h.n21) h1,kp _ _ (Ne.symm h.n22) h2,n⟩,s:=let ⟨ds,e⟩:=h.s;⟨ds,off _ _ e (by intro kv z;cases z)⟩,n:=off _ _ h.n (by intro kv z;cases z),ka:=k,la:=l,lt:=h.lt,n22:=h.n22,n21:=h.n21,n12:=h.n12 }
theorem jAC.inks{cP cS cR cJ cA:Addr}{H H':Hp}{x:Addr}{d:PD}{b' c':Int}(h:jAC cP cS cR cJ cA H x d)(kp:∀ b o,b≠d.ik2->H b=some o->H' b=some o)(S:jCb cS H' d.ik d.ik1 d.ik2 (jAG d.rb d.rc) (jAG b' c')):jAC cP cS cR cJ cA H' x { d with b:=b',c:=c' }:=by
 obtain⟨⟨di,hi⟩,h1,h2,n⟩:=id h.T
 have hm:=h.I.2.2.1
 have off:∀ b o,H b=some o->(∀ kv,o≠.dK kv)->H' b=some o:=fun b o e n=>kp b o (fun z=>by rw [z,hm] at e;injection e with e;exact n _ e.symm) e
 exact { o:=off _ _ h.o (by intro kv z;cases z),T:=⟨⟨di,off _ _ hi (by intro kv z;cases z)⟩,kp _ _ h.n12 h1,kp _ _ h.n22 h2,n⟩,I:=S,s:=let ⟨ds,e⟩:=h.s;⟨ds,off _ _ e (by intro kv z;cases z)⟩,n:=off _ _ h.n (by intro kv z;cases z),ka:=h.ka,la:=h.la,lt:=h.lt,n22:=h.n22,n21:=h.n21,n12:=h.n12 }
theorem jAC.inside{cP cS cR cJ cA:Addr}{H H':Hp}{x:Addr}{d:PD}{ts:List V}(h:jAC cP cS cR cJ cA H x d)(kp:∀ b o,b≠d.ins->H b=some o->H' b=some o)(hn:H' d.ins=some (.lst ts))(l:ts.length<=900):jAC cP cS cR cJ cA H' x { d with tags:=ts }:=by
 have off:∀ b o,H b=some o->(∀ xs,o≠.lst xs)->H' b=some o:=fun b o e n=>kp b o (fun z=>by rw [z,h.n] at e;injection e with e;exact n _ e.symm) e
 obtain⟨⟨di,hi⟩,h1,h2,n⟩:=id h.T
 obtain⟨⟨di',hi'⟩,h1',h2',n'⟩:=id h.I
 exact { o:=off _ _ h.o (by intro kv z;cases z),T:=⟨⟨di,off _ _ hi (by intro kv z;cases z)⟩,off _ _ h1 (by intro kv z;cases z),off _ _ h2 (by intro kv z;cases z),n⟩,I:=⟨⟨di',off _ _ hi' (by intro kv z;cases z)⟩,off _ _ h1' (by intro kv z;cases z),off _ _ h2' (by intro kv z;cases z),n'⟩,s:=let ⟨ds,e⟩:=h.s;⟨ds,off _ _ e (by intro kv z;cases z)⟩,n:=hn,ka:=h.ka,la:=h.la,lt:=l,n22:=h.n22,n21:=h.n21,n12:=h.n12 }
theorem jKp{rb rc a b x y:Int}:jBA (jAG rb rc) (jAG a b) (jAG x y)=if rb<a+x then some blW else if rc<b+y then some coW else none:=by
 by_cases c1:rb<a+x
 ·rw [if_pos c1]
  unfold jBA
  rw [show jAG x y=[(blW,x),(coW,y)] from rfl,List.find?_cons,show ((jAG rb rc).lookup (blW,x).1).getD 0=rb from by rw [show (blW,x).1=blW from rfl,jCs];rfl,show ((jAG a b).lookup (blW,x).1).getD 0=a from by rw [show (blW,x).1=blW from rfl,jCs];rfl,decide_eq_true (show rb<a+(blW,x).2 from c1)]
  rfl
 ·rw [if_neg c1]
  by_cases c2:rc<b+y
  ·rw [if_pos c2]
   unfold jBA
   rw [show jAG x y=[(blW,x),(coW,y)] from rfl,List.find?_cons,show ((jAG rb rc).lookup (blW,x).1).getD 0=rb from by rw [show (blW,x).1=blW from rfl,jCs];rfl,show ((jAG a b).lookup (blW,x).1).getD 0=a from by rw [show (blW,x).1=blW from rfl,jCs];rfl,decide_eq_false (show ¬ rb<a+(blW,x).2 from c1)]
   show (List.find? _ [(coW,y)]).map _=_
   rw [List.find?_cons,show ((jAG rb rc).lookup (coW,y).1).getD 0=rc from by rw [show (coW,y).1=coW from rfl,jDq];rfl,show ((jAG a b).lookup (coW,y).1).getD 0=b from by rw [show (coW,y).1=coW from rfl,jDq];rfl,decide_eq_true (show rc<b+(coW,y).2 from c2)]
   rfl
  ·rw [if_neg c2]
   exact jOt (Int.not_lt.mp c1) (Int.not_lt.mp c2)
theorem jLz{a b x y:Int}:jBr (jAG a b) (jAG x y)=if a<x then some blW else if b<y then some coW else none:=by
 by_cases c1:a<x
 ·rw [if_pos c1]
  unfold jBr
  rw [show jAG x y=[(blW,x),(coW,y)] from rfl,List.find?_cons,show ((jAG a b).lookup (blW,x).1).getD 0=a from by rw [show (blW,x).1=blW from rfl,jCs];rfl,decide_eq_true (show a<(blW,x).2 from c1)]
  rfl
 ·rw [if_neg c1]
  by_cases c2:b<y
  ·rw [if_pos c2]
   unfold jBr
   rw [show jAG x y=[(blW,x),(coW,y)] from rfl,List.find?_cons,show ((jAG a b).lookup (blW,x).1).getD 0=a from by rw [show (blW,x).1=blW from rfl,jCs];rfl,decide_eq_false (show ¬ a<(blW,x).2 from c1)]
   show (List.find? _ [(coW,y)]).map _=_
   rw [List.find?_cons,show ((jAG a b).lookup (coW,y).1).getD 0=b from by rw [show (coW,y).1=coW from rfl,jDq];rfl,decide_eq_true (show b<(coW,y).2 from c2)]
   rfl
  ·rw [if_neg c2]
   exact ink_few (Int.not_lt.mp c1) (Int.not_lt.mp c2)
theorem jMZ{rs:List (Str×Int)}{n n':Str}{k:Int}(h:jA3 rs [(n,k)]=some n'):n'=n/\¬ n∈rs.map (·.1):=by
 cases l:rs.lookup n with
 | some v=>rw [jIc l] at h;cases h
 | none =>
   have e:jA3 rs [(n,k)]=some n:=by
    unfold jA3
    rw [List.find?_cons,show ((rs.lookup (n,k).1).isNone)=true from by rw [show (n,k).1=n from rfl,l];rfl]
    rfl
   rw [e] at h
   exact⟨(Option.some.inj h).symm,jCC l⟩
theorem jOu{rs:List (Str×Int)}{n:Str}{k:Int}(h:jA3 rs [(n,k)]=none):∃ v,rs.lookup n=some v:=by
 cases l:rs.lookup n with
 | some v=>exact⟨v,rfl⟩
 | none =>
   unfold jA3 at h
   rw [List.find?_cons,show ((rs.lookup (n,k).1).isNone)=true from by rw [show (n,k).1=n from rfl,l];rfl] at h
   cases h
inductive jDs(cU cT cP cS cR cJ cA:Addr)(vs:List V)(H:Hp)(Q:VK)(E:XK):Prop|mk x d n k:vs=[.ref x,.str n,.int k]->jAC cP cS cR cJ cA H x d->(¬ n∈d.rs.map (·.1)->jBi cU "name" (.str n) H E)->(∀ R A,d.rs.lookup n=some R->d.am.lookup n=some A->(R<A+k->jBi cT "name" (.str n) H E)/\(¬ R<A+k->∀ H',(∀ b o,b≠d.tr2->H b=some o->H' b=some o)->jAC cP cS cR cJ cA H' x { d with am:=jAT d.am n (A+k) }->Q .non H'))->jDs cU cT cP cS cR cJ cA vs H Q E
theorem jIT:jAk ["self","kind","many"] ["self","kind","many"] (jAh jD0):=scM
include T in
theorem jIU(F:Fun K "load" "Printer.load" jD0 fa fd)(DaY:MtE P w K mg base 6 "put" cQ ["self","name","many"] (jLn cQ vG vU)) :
 jAr P w K mg base (CXe P w) 7 fa fd ["self","kind","many"] (jDs vG vU cZ cQ yJ yW yU):=by
 refine F.okE jIT (fun vs H Q E h=>?_) (fun cdv A outer s H vs Q E hr h=>?_)
 ·obtain⟨x,d,n,k,rfl,_⟩:=h
  rfl
 obtain⟨x,d,n,k,rfl,P,qu,q⟩:=h
 exists _,(jAf (jAy (jAF 6 jAx hr.m (jAq (pv 0) rfl) (jAa (pv 1) (jAa (pv 2) jAc)))))
 obtain⟨⟨dt,ht⟩,_⟩:=id P.T
 exists _,rfl,x,cZ,d.dx,_,_,rfl,P.o,T.ac,T.aW,rfl
 have both:jA3 d.rs [(n,k)]=none->∃ R A,d.rs.lookup n=some R/\d.am.lookup n=some A:=fun h=>by
  obtain⟨R,eR⟩:=jOu h
  obtain⟨A,eA⟩:=jEw P.ka eR
  exact⟨R,A,eR,eA⟩
 refine⟨d.tr,_,dt,_,_,_,rfl,ht,rfl,T.ag,DaY,_,rfl,_,rfl,d.tr,d.tr1,d.tr2,d.rs,d.am,n,k,rfl,P.T,P.ka,by have:=P.la;omega,fun n' h ea H1 sm g=>?_,fun n' h h2 ea H1 sm g=>?_,fun h h2 H1 kp S1=>?_⟩
 ·obtain⟨rfl,nn⟩:=jMZ h
  exact qu nn ea H1 sm g
 ·obtain⟨R,A,eR,eA⟩:=both h
  rw [jLy eR eA] at h2
  by_cases c:R<A+k
  ·rw [if_pos c] at h2
   obtain rfl:=Option.some.inj h2
   exact (q R A eR eA).1 c ea H1 sm g
  ·rw [if_neg c] at h2
   cases h2
 ·obtain⟨R,A,eR,eA⟩:=both h
  rw [jLy eR eA] at h2
  by_cases c:R<A+k
  ·rw [if_pos c] at h2
   cases h2
  ·rw [jMH eA,Int.one_mul] at S1
   exact (q R A eR eA).2 c H1 kp (P.trays kp S1 (by rw [jEv];exact P.ka) (by unfold jAT;rw [List.length_map];exact P.la))
inductive jDt(cT cP cS cR cJ cA:Addr)(vs:List V)(H:Hp)(Q:VK)(E:XK):Prop|mk x d y z:vs=[.ref x,.int y,.int z]->jAC cP cS cR cJ cA H x d->(d.rb<d.b+y->jBi cT "name" (.str blW) H E)->(¬ d.rb<d.b+y->d.rc<d.c+z->jBi cT "name" (.str coW) H E)->(¬ d.rb<d.b+y->¬ d.rc<d.c+z->∀ H',(∀ b o,b≠d.ik2->H b=some o->H' b=some o)->jAC cP cS cR cJ cA H' x { d with b:=d.b+y,c:=d.c+z }->Q .non H')->jDt cT cP cS cR cJ cA vs H Q E
theorem jKq{H:Hp}{l t1 t2:Addr}{y z:Int}(hl:H l=some (.lst [.ref t1,.ref t2]))(h1:H t1=some (.tup [.str blW,.int y]))(h2:H t2=some (.tup [.str coW,.int z])):jHS H l (jAG y z):=by
 refine⟨_,hl,rfl,fun i v g e1 e2=>?_⟩
 match i,e1,e2 with
 | 0,e1,e2 =>
   obtain rfl:=Option.some.inj e1
   obtain rfl:=Option.some.inj e2
   exact⟨t1,rfl,h1⟩
 | 1,e1,e2 =>
   obtain rfl:=Option.some.inj e1
   obtain rfl:=Option.some.inj e2
   exact⟨t2,rfl,h2⟩
theorem jIV:jAk ["self","black","coloured"] ["self","black","coloured"] (jAh jD1):=scM
include T in
theorem jIW(F:Fun K "fill" "Printer.fill" jD1 fa fd)(Dav:MtE P w K mg base 5 "put_all" cQ ["self","gifts"] (jHx cQ vG vU 1 jBA)) :
 jAr P w K mg base (CXe P w) 6 fa fd ["self","black","coloured"] (jDt vU cZ cQ yJ yW yU):=by
 refine F.okE jIV (fun vs H Q E h=>?_) (fun cdv A outer s H vs Q E hr h=>?_)
 ·obtain⟨x,d,y,z,rfl,_⟩:=h
  rfl
 obtain⟨x,d,y,z,rfl,P,qb,qc,q⟩:=h
 have z2:2<=sizeLine:=small (by decide)
 exists _,(jAf (jAy (jAF 5 jAx hr.m (jAq (pv 0) rfl) (jAa (jAV (jAa (jAN (jAa (jCg T.aQ rfl) (jAa (pv 1) jAc))) (jAa (jAN (jAa (jCg T.aR rfl) (jAa (pv 2) jAc))) jAc))) jAc))))
 obtain⟨⟨dt,ht⟩,_⟩:=id P.I
 exists _,rfl,x,cZ,d.dx,_,_,rfl,P.o,T.ac,T.aN,rfl
 refine⟨d.ik,_,dt,_,_,_,rfl,ht,rfl,T.ag,Dav,_,rfl,z2,fun t1 nt1=>?_⟩
 have s1:=jAj nt1 (.tup [.str blW,.int y])
 have h1:upd H t1 (.tup [.str blW,.int y]) t1=some (.tup [.str blW,.int y]):=jAb
 generalize upd H t1 (.tup [.str blW,.int y])=H1 at s1 h1 ⊢
 refine⟨_,rfl,z2,fun t2 nt2=>?_⟩
 have s2:=jAj nt2 (.tup [.str coW,.int z])
 have h2:upd H1 t2 (.tup [.str coW,.int z]) t2=some (.tup [.str coW,.int z]):=jAb
 generalize upd H1 t2 (.tup [.str coW,.int z])=H2 at s2 h2 ⊢
 refine⟨z2,fun l nl=>?_⟩
 have s3:=jAj nl (.lst [.ref t1,.ref t2])
 have hl:upd H2 l (.lst [.ref t1,.ref t2]) l=some (.lst [.ref t1,.ref t2]):=jAb
 generalize upd H2 l (.lst [.ref t1,.ref t2])=H3 at s3 hl ⊢
 have s03:=(s1.trans s2).trans s3
 have P3:=P.same s03
 refine⟨d.ik,d.ik1,d.ik2,l,_,_,jAG y z,rfl,P3.I,rfl,by show 2<=1000;decide,jAu hl P3.I.2.2.1 nofun,jKq hl ((s2.trans s3) _ _ h1) (s3 _ _ h2),fun n h=>?_,fun n h h2=>?_,fun h h2 H4 kp S4=>?_⟩
 ·rw [jId] at h
  cases h
 ·rw [jKp] at h2
  by_cases c1:d.rb<d.b+y
  ·rw [if_pos c1] at h2
   obtain rfl:=Option.some.inj h2
   exact (qb c1).after s03
  ·rw [if_neg c1] at h2
   by_cases c2:d.rc<d.c+z
   ·rw [if_pos c2] at h2
    obtain rfl:=Option.some.inj h2
    exact (qc c1 c2).after s03
   ·rw [if_neg c2] at h2
    cases h2
 ·rw [jKp] at h2
  by_cases c1:d.rb<d.b+y
  ·rw [if_pos c1] at h2
   cases h2
  ·rw [if_neg c1] at h2
   by_cases c2:d.rc<d.c+z
   ·rw [if_pos c2] at h2
    cases h2
   ·rw [jMI,Int.one_mul,Int.one_mul] at S4
    exact q c1 c2 H4 (fun b o nb e=>kp b o nb (s03 _ _ e)) (P3.inks kp S4)
inductive jDu(cP cS cR cJ cA:Addr)(vs:List V)(H:Hp)(Q:VK)(E_:XK):Prop|mk x d:vs=[.ref x]->jAC cP cS cR cJ cA H x d->(∀ l H',(∀ b o,b≠d.ins->H b=some o->H' b=some o)->H l=none->H' l=some (.lst (d.tags.take 1))->jAC cP cS cR cJ cA H' x { d with tags:=d.tags.drop 1 }->Q (.ref l) H')->jDu cP cS cR cJ cA vs H Q E_
theorem jH5:jAk ["self"] ["self"] (jAh jC6):=scM
include T in
theorem jH6(F:Fun K "oldest" "Printer.oldest" jC6 fa fd)  :
 jAr P w K mg base CX0 1 fa fd ["self"] (jDu cZ cQ yJ yW yU):=by
 refine F.ok jH5 (fun vs H Q E h=>?_) (fun cdv A outer s H vs Q E hr h=>?_)
 ·obtain⟨x,d,rfl,_⟩:=h
  rfl
 obtain⟨x,d,rfl,P,q⟩:=h
 have z1:1<=sizeLine:=small (by decide)
 exists _,(jAf (jAo (jCv (jAX (jAq (pv 0) rfl) (fun _=>rfl)) (jAV (jAa (jE0 PySem.F.plainAttrs_list PySem.F.slot_list_pop PySem.F.type_list_pop jN8 (jAq (pv 0) rfl) (jAa jAe jAc)) jAc)) (jAV jAc))))
 exists _,rfl,x,cZ,d.dx,_,_,rfl,P.o,T.ac,T.au,rfl
 cases et:d.tags with
 | nil =>
   refine⟨false,.inl ⟨_,SqL.of P.n,by rw [et];rfl⟩,jAJ ⟨Nat.zero_le _,fun l nl=>?_⟩⟩
   have s:=jAj nl (.lst [])
   refine q l _ (fun b o _ e=>s _ _ e) nl (by rw [jAb,et];rfl) ?_
   have P':=P.same s
   have e:({ d with tags:=d.tags.drop 1 }:PD)=d:=by
    rw [et]
    show ({ d with tags:=[] }:PD)=d
    rw [<- et]
   rw [e]
   exact P'
 | cons t r =>
   refine⟨true,.inl ⟨_,SqL.of P.n,by rw [et];rfl⟩,jAU ?_⟩
   refine⟨_,rfl,x,cZ,d.dx,_,_,rfl,P.o,T.ac,T.au,rfl,.inl ⟨rfl,_,SqL.of P.n⟩,d.ins,_,0,0,t,rfl,rfl,P.n,by decide,by decide,?_,by rw [et];rfl,z1,fun l nl=>?_⟩
   ·rw [et]
    exact seqIndex_of (by decide) (by show (0:Int)<((r.length+1:Nat):Int);omega)
   have kp:∀ b o,b≠d.ins->H b=some o->upd H d.ins (.lst (d.tags.eraseIdx 0)) b=some o:=fun b o nb e=>by rw [jAi nb];exact e
   have hi:upd H d.ins (.lst (d.tags.eraseIdx 0)) d.ins=some (.lst r):=by rw [jAb,et];rfl
   have nl0:H l=none:=by
    have ne:l≠d.ins:=fun z=>by rw [z,hi] at nl;cases nl
    rw [jAi ne] at nl
    exact nl
   generalize upd H d.ins (.lst (d.tags.eraseIdx 0))=H1 at kp hi nl ⊢
   have s:=jAj nl (.lst [t])
   have P1:=(P.inside kp hi (by have:=P.lt;rw [et] at this;exact Nat.le_of_succ_le this)).same s
   refine q l _ (fun b o nb e=>s _ _ (kp b o nb e)) nl0 (by rw [jAb,et];rfl) ?_
   rw [et]
   exact P1
inductive jE4(cN cP cS cR cJ cA:Addr)(vs:List V)(H:Hp)(Q:VK)(E:XK):Prop|mk x d:vs=[.ref x]->jAC cP cS cR cJ cA H x d->(d.S=.rd->∀ l H',(∀ b o,b≠d.ins->H b=some o->H' b=some o)->H l=none->H' l=some (.lst (d.tags.take 1))->jAC cP cS cR cJ cA H' x { d with tags:=d.tags.drop 1 }->Q (.ref l) H')->(d.S≠.rd->jBi cN "found" (.str (wd d.S)) H E)->jE4 cN cP cS cR cJ cA vs H Q E
theorem jIX:jAk ["self"] ["self"] (jAh jD3):=scM
include T in
theorem jIY(F:Fun K "push" "Printer.push" jD3 fa fd)(Day:MtE P w K mg base 3 "must_be_ready" cZ ["self"] (jE3 vY cZ cQ yJ yW yU))(Daz:MtE P w K mg base 1 "oldest" cZ ["self"] (jDu cZ cQ yJ yW yU)) :
 jAr P w K mg base (CXe P w) 4 fa fd ["self"] (jE4 vY cZ cQ yJ yW yU):=by
 refine F.okE jIX (fun vs H Q E h=>?_) (fun cdv A outer s H vs Q E hr h=>?_)
 ·obtain⟨x,d,rfl,_⟩:=h
  rfl
 obtain⟨x,d,rfl,P,q,q2⟩:=h
 exists _,(jAd (jAy (jAs 3 jAx hr.m (pv 0))) (jAf (jAo (jAs 1 jAx hr.m (pv 0)))))
 refine⟨_,rfl,x,_,d.dx,_,_,_,rfl,P.o,rfl,T.ac,Day,x,d,rfl,P,fun rd=>?_,q2⟩
 exact⟨_,rfl,x,_,d.dx,_,_,_,rfl,P.o,rfl,T.ac,Daz,x,d,rfl,P,q rd⟩
def fedD(d:PD)(n:Str)(A y z:Int)(tag:V):PD:={ d with am:=jAT d.am n (A-1),b:=d.b-y,c:=d.c-z,tags:=d.tags++[tag] }
inductive jGY(cU cN cD cP cS cR cJ cA:Addr)(vs:List V)(H:Hp)(Q:VK)(E:XK):Prop|mk x d tag n y z:vs=[.ref x,tag,.str n,.int y,.int z]->jAC cP cS cR cJ cA H x d->d.tags.length<=800->(d.S≠.rd->jBi cN "found" (.str (wd d.S)) H E)->(d.S=.rd->¬ n∈d.rs.map (·.1)->jBi cU "name" (.str n) H E)->(∀ A,d.S=.rd->d.am.lookup n=some A->(A<1->jBi cD "name" (.str n) H E)/\(¬ A<1->d.b<y->jBi cD "name" (.str blW) H E)/\(¬ A<1->¬ d.b<y->d.c<z->jBi cD "name" (.str coW) H E)/\(¬ A<1->¬ d.b<y->¬ d.c<z->∀ l H',(∀ b o,b≠d.ins->b≠d.tr2->b≠d.ik2->H b=some o->H' b=some o)->H l=none->H' l=some (.lst (if d.path<((d.tags.length+1:Nat):Int) then (d.tags++[tag]).take 1 else []))->jAC cP cS cR cJ cA H' x { fedD d n A y z tag with tags:=if d.path<((d.tags.length+1:Nat):Int) then (d.tags++[tag]).drop 1 else d.tags++[tag] }->Q (.ref l) H'))->jGY cU cN cD cP cS cR cJ cA vs H Q E
theorem jIZ:jAk ["self","tag","kind","black","coloured"] ["self","tag","kind","black","coloured"] (jAh jD2):=scM
include T in
theorem jI0(F:Fun K "feed" "Printer.feed" jD2 fa fd)(Dau:jCY P w K mg base 1 "Dry" cG ["self","name"] (jBh cG "name"))(Day:MtE P w K mg base 3 "must_be_ready" cZ ["self"] (jE3 vY cZ cQ yJ yW yU))(DaA:MtE P w K mg base 5 "paper_left" cZ ["self","kind"] (jCl vG cZ cQ yJ yW yU))(DaP:MtE P w K mg base 5 "draw_all" cQ ["self","wants"] (jHx cQ vG cG (-1) (fun _ am ws=>jBr am ws)))(Daz:MtE P w K mg base 1 "oldest" cZ ["self"] (jDu cZ cQ yJ yW yU)) :
 jAr P w K mg base (CXe P w) 6 fa fd ["self","tag","kind","black","coloured"] (jGY vG vY cG cZ cQ yJ yW yU):=by
 refine F.okE jIZ (fun vs H Q E h=>?_) (fun cdv A outer s H vs Q E hr h=>?_)
 ·obtain⟨x,d,tag,n,y,z,rfl,_⟩:=h
  rfl
 obtain⟨x,d,tag,n,y,z,rfl,P,lt,qn,qu,q⟩:=h
 have z1:1<=sizeLine:=small (by decide)
 have z2:2<=sizeLine:=small (by decide)
 exists _,(jAd (jAy (jAs 3 jAx hr.m (pv 0))) (jAd (jAE (tcA jEZ (jAF 5 jAx hr.m (pv 0) (jAa (pv 2) jAc)) jAe) (jAf (jBz jBn rfl (jBm Dau hr.m rfl (jAa (pv 2) jAc)))) jAw) (jAd (jAy (jAF 5 jAx hr.m (jAq (pv 0) rfl) (jAa (jAV (jAa (jAN (jAa (jCg T.aQ rfl) (jAa (pv 3) jAc))) (jAa (jAN (jAa (jCg T.aR rfl) (jAa (pv 4) jAc))) jAc))) jAc))) (jAd (jAy (jAF 5 jAx hr.m (jAq (pv 0) rfl) (jAa (jAV (jAa (jAN (jAa (pv 2) (jAa jAe jAc))) jAc)) jAc))) (jAd (jAy (jE0 PySem.F.plainAttrs_list PySem.F.slot_list_append PySem.F.type_list_append jFL (jAq (pv 0) rfl) (jAa (pv 1) jAc))) (jAf (jAo (jCv (tcA jGE (jAQ jBT rfl T.aB PySem.boot_len (jAa (jAq (pv 0) rfl) jAc)) (jAq (pv 0) rfl)) (jAs 1 jAx hr.m (pv 0)) (jAV jAc)))))))))
 refine⟨_,rfl,x,_,d.dx,_,_,_,rfl,P.o,rfl,T.ac,Day,x,d,rfl,P,fun rd=>?_,qn⟩
 refine⟨_,rfl,x,_,d.dx,_,_,_,rfl,P.o,rfl,T.ac,DaA,_,rfl,x,d,n,rfl,P,fun A la=>?_,qu rd⟩
 obtain⟨qa,qb,qc,q⟩:=q A rd la
 exists _,_,rfl,rfl,_,rfl
 refine jDK (fun c=>⟨_,rfl,jA2 T.ai.m fun ea H' sm _ g=>qa (of_decide_eq_true c) ea H' sm g⟩) (fun c=>?_)
 have A0:¬ A<1:=fun z=>c (decide_eq_true z)
 have A1:1<=A:=by omega
 obtain⟨⟨di,hi⟩,_⟩:=id P.I
 exists _,rfl,x,cZ,d.dx,_,_,rfl,P.o,T.ac,T.aN,rfl
 refine⟨d.ik,_,di,_,_,_,rfl,hi,rfl,T.ag,DaP,_,rfl,z2,fun t1 nt1=>?_⟩
 have s1:=jAj nt1 (.tup [.str blW,.int y])
 have h1:upd H t1 (.tup [.str blW,.int y]) t1=some (.tup [.str blW,.int y]):=jAb
 generalize upd H t1 (.tup [.str blW,.int y])=H1 at s1 h1 ⊢
 refine⟨_,rfl,z2,fun t2 nt2=>?_⟩
 have s2:=jAj nt2 (.tup [.str coW,.int z])
 have h2:upd H1 t2 (.tup [.str coW,.int z]) t2=some (.tup [.str coW,.int z]):=jAb
 generalize upd H1 t2 (.tup [.str coW,.int z])=H2 at s2 h2 ⊢
 refine⟨z2,fun l nl=>?_⟩
 have s3:=jAj nl (.lst [.ref t1,.ref t2])
 have hl:upd H2 l (.lst [.ref t1,.ref t2]) l=some (.lst [.ref t1,.ref t2]):=jAb
 generalize upd H2 l (.lst [.ref t1,.ref t2])=H3 at s3 hl ⊢
 have s03:=(s1.trans s2).trans s3
 have P3:=P.same s03
 refine⟨d.ik,d.ik1,d.ik2,l,_,_,jAG y z,rfl,P3.I,rfl,by show 2<=1000;decide,jAu hl P3.I.2.2.1 nofun,jKq hl ((s2.trans s3) _ _ h1) (s3 _ _ h2),fun n h=>?_,fun n h h2=>?_,fun h h2 H4 kp4 S4=>?_⟩
 ·rw [jId] at h
  cases h
 ·rw [show (fun _ am ws=>jBr am ws) (jAG d.rb d.rc) (jAG d.b d.c) (jAG y z)=jBr (jAG d.b d.c) (jAG y z) from rfl,jLz] at h2
  by_cases c1:d.b<y
  ·rw [if_pos c1] at h2
   obtain rfl:=Option.some.inj h2
   exact (qb A0 c1).after s03
  ·rw [if_neg c1] at h2
   by_cases c2:d.c<z
   ·rw [if_pos c2] at h2
    obtain rfl:=Option.some.inj h2
    exact (qc A0 c1 c2).after s03
   ·rw [if_neg c2] at h2
    cases h2
 rw [show (fun _ am ws=>jBr am ws) (jAG d.rb d.rc) (jAG d.b d.c) (jAG y z)=jBr (jAG d.b d.c) (jAG y z) from rfl,jLz] at h2
 have yb:¬ d.b<y:=fun z'=>by rw [if_pos z'] at h2;cases h2
 have zc:¬ d.c<z:=fun z'=>by rw [if_neg yb,if_pos z'] at h2;cases h2
 have q:=q A0 yb zc
 rw [jMI,show d.b + -1*y=d.b-y by omega,show d.c + -1*z=d.c-z by omega] at S4
 have P4:=P3.inks kp4 S4
 obtain⟨⟨dt,ht4⟩,_⟩:=id P4.T
 exists _,rfl,x,cZ,d.dx,_,_,rfl,P4.o,T.ac,T.aW,rfl
 refine⟨d.tr,_,dt,_,_,_,rfl,ht4,rfl,T.ag,DaP,_,rfl,z2,fun t3 nt3=>?_⟩
 have s5:=jAj nt3 (.tup [.str n,.int 1])
 have h5:upd H4 t3 (.tup [.str n,.int 1]) t3=some (.tup [.str n,.int 1]):=jAb
 generalize upd H4 t3 (.tup [.str n,.int 1])=H5 at s5 h5 ⊢
 refine⟨z1,fun l2 nl2=>?_⟩
 have s6:=jAj nl2 (.lst [.ref t3])
 have hl2:upd H5 l2 (.lst [.ref t3]) l2=some (.lst [.ref t3]):=jAb
 generalize upd H5 l2 (.lst [.ref t3])=H6 at s6 hl2 ⊢
 have P6:=P4.same (s5.trans s6)
 have hm6:H6 d.tr2=some (.dK (dI d.am)):=P6.T.2.2.1
 have G6:jHS H6 l2 [(n,1)]:=by
  refine⟨_,hl2,rfl,fun i v g e1 e2=>?_⟩
  match i,e1,e2 with
  | 0,e1,e2 =>
    obtain rfl:=Option.some.inj e1
    obtain rfl:=Option.some.inj e2
    exact⟨t3,rfl,s6 _ _ h5⟩
 refine⟨d.tr,d.tr1,d.tr2,l2,d.rs,d.am,[(n,1)],rfl,P6.T,P.ka,by have:=P.la;omega,jAu hl2 hm6 nofun,G6,fun n' h=>?_,fun n' h h2=>?_,fun h h2 H7 kp7 S7=>?_⟩
 ·obtain⟨R,eR⟩:∃ R,d.rs.lookup n=some R:=by
   cases l:d.rs.lookup n with
   | some v=>exact⟨v,rfl⟩
   | none=>exact absurd (jFw P.ka la) (jCC l)
  rw [jIc eR] at h
  cases h
 ·rw [show (fun _ am ws=>jBr am ws) d.rs d.am [(n,1)]=jBr d.am [(n,1)] from rfl,few_one la,if_neg (by omega)] at h2
  cases h2
 rw [jMH la,show A + -1*1=A-1 by omega] at S7
 have P7:jAC cZ cQ yJ yW yU H7 x { d with am:=jAT d.am n (A-1),b:=d.b-y,c:=d.c-z }:=P6.trays kp7 S7 (by rw [jEv];exact P.ka) (by unfold jAT;rw [List.length_map];exact P.la)
 have hi7:H7 d.ins=some (.lst d.tags):=P7.n
 refine⟨_,rfl,x,cZ,d.dx,_,_,rfl,P7.o,T.ac,T.au,rfl,.inl ⟨rfl,_,SqL.of hi7⟩,_,rfl,d.ins,_,_,rfl,rfl,hi7,jAW (by show d.tags.length<=1000;omega),?_⟩
 have kp8:∀ b o,b≠d.ins->H7 b=some o->upd H7 d.ins (.lst (d.tags++[tag])) b=some o:=fun b o nb e=>by rw [jAi nb];exact e
 have hi8:upd H7 d.ins (.lst (d.tags++[tag])) d.ins=some (.lst (d.tags++[tag])):=jAb
 generalize upd H7 d.ins (.lst (d.tags++[tag]))=H8 at kp8 hi8 ⊢
 have P8:jAC cZ cQ yJ yW yU H8 x (fedD d n A y z tag):=P7.inside kp8 hi8 (by rw [List.length_append];show d.tags.length+1<=900;omega)
 have fr:∀ b o,b≠d.ins->b≠d.tr2->b≠d.ik2->H b=some o->H8 b=some o:=fun b o b1 b2 b3 e=>kp8 b o b1 (kp7 b o b2 ((s5.trans s6) b o (kp4 b o b3 (s03 b o e))))
 have ll:(d.tags++[tag]).length=d.tags.length+1:=by rw [List.length_append];rfl
 exists _,rfl,x,cZ,d.dx,_,_,rfl,P8.o,T.ac,T.au,rfl,d.ins,_,rfl,.inl (SqL.of hi8),_,rfl,x,cZ,d.dx,_,_,rfl,P8.o,T.ac,T.bB,rfl,_,_,rfl,rfl,_,rfl
 have back:∀ l,H8 l=none->H l=none:=fun l nl=>by
  cases e:H l with
  | none=>rfl
  | some o =>
    by_cases c1:l=d.ins
    ·rw [c1,hi8] at nl
     cases nl
    by_cases c2:l=d.tr2
    ·rw [c2,show H8 d.tr2=_ from P8.T.2.2.1] at nl
     cases nl
    by_cases c3:l=d.ik2
    ·rw [c3,show H8 d.ik2=_ from P8.I.2.2.1] at nl
     cases nl
    rw [fr l o c1 c2 c3 e] at nl
    cases nl
 refine jDK (fun c=>?_) (fun c=>?_)
 ·have c':d.path<((d.tags.length+1:Nat):Int):=by
   have:=of_decide_eq_true c
   rwa [ll] at this
  rw [if_pos c',if_pos c'] at q
  exact⟨_,rfl,x,_,d.dx,_,_,_,rfl,P8.o,rfl,T.ac,Daz,x,fedD d n A y z tag,rfl,P8,fun l H9 kp9 nl hl9 P9=>q l H9 (fun b o b1 b2 b3 e=>kp9 b o b1 (fr b o b1 b2 b3 e)) (back l nl) hl9 P9⟩
 ·have c':¬ d.path<((d.tags.length+1:Nat):Int):=fun z=>c (decide_eq_true (by rw [ll];exact z))
  rw [if_neg c',if_neg c'] at q
  refine⟨Nat.zero_le _,fun l nl=>?_⟩
  have s9:=jAj nl (.lst [])
  exact q l _ (fun b o b1 b2 b3 e=>s9 _ _ (fr b o b1 b2 b3 e)) (back l nl) jAb (P8.same s9)
abbrev wiW:Str:=Str.ofString "within"
theorem jFO{d:PD}{st:Addr}:jBd "state" (.ref st) d.fs=({ d with st:=st }:PD).fs:=by
 unfold PD.fs
 repeat (rw [show ∀ (g:Str) (u v:V) (r:List (Str×V)),jBd "state" v ((g,u)::r)=if g="state" then (g,v)::r else (g,u)::jBd "state" v r from fun _ _ _ _=>rfl];first|rw [if_pos rfl]|rw [if_neg (by decide +kernel)])
theorem jI1{d:PD}{il:Addr}:jBd "inside" (.ref il) d.fs=({ d with ins:=il }:PD).fs:=by
 unfold PD.fs
 repeat (rw [show ∀ (g:Str) (u v:V) (r:List (Str×V)),jBd "inside" v ((g,u)::r)=if g="inside" then (g,v)::r else (g,u)::jBd "inside" v r from fun _ _ _ _=>rfl];first|rw [if_pos rfl]|rw [if_neg (by decide +kernel)])
theorem jAC.turned{cP cS cR cJ cA:Addr}{H H':Hp}{x st il:Addr}{S:S3}{ts:List V}{d:PD}(h:jAC cP cS cR cJ cA H x d)(kp:∀ b o,b≠x->H b=some o->H' b=some o)(ho:H' x=some (.ins cP d.dx ({ d with st:=st,ins:=il }:PD).fs))(hs:jER cR cJ cA H' st S)(hn:H' il=some (.lst ts))(l:ts.length<=900):jAC cP cS cR cJ cA H' x { d with st:=st,S:=S,ins:=il,tags:=ts }:=by
 obtain⟨⟨di,hi⟩,h1,h2,n⟩:=id h.T
 obtain⟨⟨di',hi'⟩,h1',h2',n'⟩:=id h.I
 have off:∀ b o,H b=some o->o≠.ins cP d.dx d.fs->H' b=some o:=fun b o e n=>kp b o (jAu e h.o n) e
 have two:∀ (c e:Addr) (u v:Str×V),HO.ins c e [u,v]≠.ins cP d.dx d.fs:=fun c e u v z=>by
  injection z with _ _ z
  have:=congrArg List.length z
  rw [show d.fs.length=8 from rfl] at this
  exact absurd (show 2=8 from this) (by decide)
 exact { o:=ho,T:=⟨⟨di,off _ _ hi (two _ _ _ _)⟩,off _ _ h1 nofun,off _ _ h2 nofun,n⟩,I:=⟨⟨di',off _ _ hi' (two _ _ _ _)⟩,off _ _ h1' nofun,off _ _ h2' nofun,n'⟩,s:=hs,n:=hn,ka:=h.ka,la:=h.la,lt:=l,n22:=h.n22,n21:=h.n21,n12:=h.n12 }
theorem jHT{P:Program}{w:World}{K:PySem.W.Frag}{mg:Str->Option Value}{base:Heap}{k1 k2 k3 k i:Nat}{m:Str}{cR cJ cA cN:Addr}{S1 S2 S3':S3->Prop}{H:Hp}{a:Addr}{s:S3}{Q:VK}{E:XK}{σ:St}(D1:MtE P w K mg base k1 m cR ["self"] (jBj cR cJ cA cN S1 i))(D2:MtE P w K mg base k2 m cJ ["self"] (jBj cR cJ cA cN S2 i))(D3:MtE P w K mg base k3 m cA ["self"] (jBj cR cJ cA cN S3' i))
 (l1:k1<=k) (l2:k2<=k) (l3:k3<=k) (h1:S1 .rd) (h2:S2 .jm) (h3:∀ b,S3' (.aw b)) (c1:Cls K cR) (c2:Cls K cJ) (c3:Cls K cA) (hm:∀ s,(jC8 s).lookup m=none) (hs:jER cR cJ cA H a s) (q:OutS cR cJ cA cN i s H Q E) :
 jJu P w K mg base k m (fun _=>E) jCx σ Q (.ref a) H:=by
 obtain⟨ds,e⟩:=id hs
 cases s with
 | rd=>exact⟨a,_,ds,_,_,_,rfl,e,hm _,c1,D1.mono l1,a,.rd,rfl,h1,hs,q⟩
 | jm=>exact⟨a,_,ds,_,_,_,rfl,e,hm _,c2,D2.mono l2,a,.jm,rfl,h2,hs,q⟩
 | aw b=>exact⟨a,_,ds,_,_,_,rfl,e,hm _,c3,D3.mono l3,a,.aw b,rfl,h3 b,hs,q⟩
theorem jI2{cP cR cJ cA:Addr}{H:Hp}{x a:Addr}{s:S3}{d:PD}(h:jER cR cJ cA H a s)(hx:H x=some (.ins cP d.dx d.fs)):a≠x:=by
 obtain⟨ds,e⟩:=h
 refine jAu e hx fun z=>?_
 injection z with _ _ z
 have:=congrArg List.length z
 rw [show d.fs.length=8 from rfl] at this
 cases s with
 | rd=>exact absurd (show 1=8 from this) (by decide)
 | jm=>exact absurd (show 1=8 from this) (by decide)
 | aw b=>exact absurd (show 2=8 from this) (by decide)
inductive jCm(i:Nat)(cN cP cS cR cJ cA:Addr)(vs:List V)(H:Hp)(Q:VK)(E:XK):Prop|mk x d:vs=[.ref x]->jAC cP cS cR cJ cA H x d->(∀ s',jBX i d.S=some s'->∀ st H',(∀ b o,b≠x->H b=some o->H' b=some o)->jAC cP cS cR cJ cA H' x { d with st:=st,S:=s' }->Q (.str (wd s')) H')->(jBX i d.S=none->jBi cN "found" (.str (wd d.S)) H E)->jCm i cN cP cS cR cJ cA vs H Q E
theorem jI3:jAk ["self"] ["self"] (jAh jD4):=scM
include T in
theorem jI4(F:Fun K "mend" "Printer.mend" jD4 fa fd)(DaZ:MtE P w K mg base 3 "mend" yJ ["self"] (jBj yJ yW yU vY (fun s=>jBX 1 s=none) 1))(Da0:MtE P w K mg base 4 "mend" yW ["self"] (jBj yJ yW yU vY (fun s=>s=.jm) 1))(Da1:MtE P w K mg base 3 "mend" yU ["self"] (jBj yJ yW yU vY (fun s=>jBX 1 s=none) 1))(Daa:MtE P w K mg base 2 "stands" cZ ["self"] (jBG cZ cQ yJ yW yU)) :
 jAr P w K mg base (CXe P w) 5 fa fd ["self"] (jCm 1 vY cZ cQ yJ yW yU):=by
 refine F.okE jI3 (fun vs H Q E h=>?_) (fun cdv A outer s H vs Q E hr h=>?_)
 ·obtain⟨x,d,rfl,_⟩:=h
  rfl
 obtain⟨x,d,rfl,P,q,q2⟩:=h
 exists _,(jAd (jAM (pv 0) (jAs 4 jAx hr.m (jAq (pv 0) rfl)) rfl) (jAf (jAo (jAs 2 jAx hr.m (pv 0)))))
 exists _,rfl,x,cZ,d.dx,_,_,rfl,P.o,T.ac,T.ax,rfl
 refine jHT DaZ Da0 Da1 (by decide) (by decide) (by decide) rfl rfl (fun _=>rfl) T.ay T.az T.ar (fun s=>by cases s<;>rfl) P.s ⟨fun s' e p H1 sm _ sa=>?_,q2⟩
 have P1:=P.same sm
 refine⟨_,rfl,x,cZ,d.dx,_,rfl,P1.o,T.ac,T.ax,(by show 8<1000;decide),?_⟩
 rw [jFO]
 have kp:∀ b o,b≠x->H b=some o->upd H1 x (.ins cZ d.dx ({ d with st:=p }:PD).fs) b=some o:=fun b o nb e=>by rw [jAi nb];exact sm _ _ e
 have P2:jAC cZ cQ yJ yW yU (upd H1 x (.ins cZ d.dx ({ d with st:=p }:PD).fs)) x { d with st:=p,S:=s' }:=by
  obtain⟨ds,hs⟩:=sa
  exact jAC.turned (st:=p) (il:=d.ins) (S:=s') (ts:=d.tags) P kp jAb ⟨ds,by rw [jAi (jI2 ⟨ds,hs⟩ P1.o)];exact hs⟩ (kp _ _ (jAu P.n P.o nofun) P.n) P.lt
 exact⟨_,rfl,x,_,d.dx,_,_,_,rfl,P2.o,rfl,T.ac,Daa,x,_,rfl,P2,q s' e p _ kp P2⟩
theorem jI5:jAk ["self"] ["self"] (jAh jD5):=scM
include T in
theorem jI6(F:Fun K "come" "Printer.come" jD5 fa fd)(Da2:MtE P w K mg base 3 "come" yJ ["self"] (jBj yJ yW yU vY (fun s=>jBX 3 s=none) 3))(Da3:MtE P w K mg base 3 "come" yW ["self"] (jBj yJ yW yU vY (fun s=>jBX 3 s=none) 3))(Da4:MtE P w K mg base 4 "come" yU ["self"] (jBj yJ yW yU vY (fun s=>∃ b,s=.aw b) 3))(Daa:MtE P w K mg base 2 "stands" cZ ["self"] (jBG cZ cQ yJ yW yU)) :
 jAr P w K mg base (CXe P w) 5 fa fd ["self"] (jCm 3 vY cZ cQ yJ yW yU):=by
 refine F.okE jI5 (fun vs H Q E h=>?_) (fun cdv A outer s H vs Q E hr h=>?_)
 ·obtain⟨x,d,rfl,_⟩:=h
  rfl
 obtain⟨x,d,rfl,P,q,q2⟩:=h
 exists _,(jAd (jAM (pv 0) (jAs 4 jAx hr.m (jAq (pv 0) rfl)) rfl) (jAf (jAo (jAs 2 jAx hr.m (pv 0)))))
 exists _,rfl,x,cZ,d.dx,_,_,rfl,P.o,T.ac,T.ax,rfl
 refine jHT Da2 Da3 Da4 (by decide) (by decide) (by decide) rfl rfl (fun b=>⟨b,rfl⟩) T.ay T.az T.ar (fun s=>by cases s<;>rfl) P.s ⟨fun s' e p H1 sm _ sa=>?_,q2⟩
 have P1:=P.same sm
 refine⟨_,rfl,x,cZ,d.dx,_,rfl,P1.o,T.ac,T.ax,(by show 8<1000;decide),?_⟩
 rw [jFO]
 have kp:∀ b o,b≠x->H b=some o->upd H1 x (.ins cZ d.dx ({ d with st:=p }:PD).fs) b=some o:=fun b o nb e=>by rw [jAi nb];exact sm _ _ e
 have P2:jAC cZ cQ yJ yW yU (upd H1 x (.ins cZ d.dx ({ d with st:=p }:PD).fs)) x { d with st:=p,S:=s' }:=by
  obtain⟨ds,hs⟩:=sa
  exact jAC.turned (st:=p) (il:=d.ins) (S:=s') (ts:=d.tags) P kp jAb ⟨ds,by rw [jAi (jI2 ⟨ds,hs⟩ P1.o)];exact hs⟩ (kp _ _ (jAu P.n P.o nofun) P.n) P.lt
 exact⟨_,rfl,x,_,d.dx,_,_,_,rfl,P2.o,rfl,T.ac,Daa,x,_,rfl,P2,q s' e p _ kp P2⟩
inductive jEl(cN cP cS cR cJ cA:Addr)(vs:List V)(H:Hp)(Q:VK)(E:XK):Prop|mk x d:vs=[.ref x]->jAC cP cS cR cJ cA H x d->(∀ s',jBX 2 d.S=some s'->∀ st il H',(∀ b o,b≠x->H b=some o->H' b=some o)->H il=none->jAC cP cS cR cJ cA H' x { d with st:=st,S:=s',ins:=il,tags:=[] }->Q (.ref d.ins) H')->(jBX 2 d.S=none->jBi cN "found" (.str (wd d.S)) H E)->jEl cN cP cS cR cJ cA vs H Q E
theorem jFz:jAk ["self","lost"] ["self"] (jAh jDm):=scM
include T in
theorem jIn(F:Fun K "leave" "Printer.leave" jDm fa fd)(Da5:MtE P w K mg base 4 "leave" yJ ["self"] (jBj yJ yW yU vY (fun s=>s=.rd) 2))(Da6:MtE P w K mg base 4 "leave" yW ["self"] (jBj yJ yW yU vY (fun s=>s=.jm) 2))(Da7:MtE P w K mg base 3 "leave" yU ["self"] (jBj yJ yW yU vY (fun s=>jBX 2 s=none) 2)) :
 jAr P w K mg base (CXe P w) 5 fa fd ["self"] (jEl vY cZ cQ yJ yW yU):=by
 refine F.okE jFz (fun vs H Q E h=>?_) (fun cdv A outer s H vs Q E hr h=>?_)
 ·obtain⟨x,d,rfl,_⟩:=h
  rfl
 obtain⟨x,d,rfl,P,q,q2⟩:=h
 exists _,(jAd (jAM (pv 0) (jAs 4 jAx hr.m (jAq (pv 0) rfl)) rfl) (jAd (psA (i:=1) jFz.nd (jAq (pv 0) rfl)) (jAd (jAM (pv 0) (jAV jAc) rfl) (jAf (jAo (pv 1))))))
 exists _,rfl,x,cZ,d.dx,_,_,rfl,P.o,T.ac,T.ax,rfl
 refine jHT Da5 Da6 Da7 (by decide) (by decide) (by decide) rfl rfl (fun _=>rfl) T.ay T.az T.ar (fun s=>by cases s<;>rfl) P.s ⟨fun s' e p H1 sm _ sa=>?_,q2⟩
 have P1:=P.same sm
 refine⟨_,rfl,x,cZ,d.dx,_,rfl,P1.o,T.ac,T.ax,(by show 8<1000;decide),?_⟩
 rw [jFO]
 have kp:∀ b o,b≠x->H b=some o->upd H1 x (.ins cZ d.dx ({ d with st:=p }:PD).fs) b=some o:=fun b o nb e=>by rw [jAi nb];exact sm _ _ e
 have ho:upd H1 x (.ins cZ d.dx ({ d with st:=p }:PD).fs) x=some (.ins cZ d.dx ({ d with st:=p }:PD).fs):=jAb
 have hs:jER yJ yW yU (upd H1 x (.ins cZ d.dx ({ d with st:=p }:PD).fs)) p s':=by
  obtain⟨ds,hs⟩:=sa
  exact⟨ds,by rw [jAi (jI2 ⟨ds,hs⟩ P1.o)];exact hs⟩
 generalize upd H1 x (.ins cZ d.dx ({ d with st:=p }:PD).fs)=H2 at kp ho hs ⊢
 exists _,rfl,x,cZ,d.dx,_,_,rfl,ho,T.ac,T.au,rfl
 refine⟨Nat.zero_le _,fun il nil'=>?_⟩
 have s3:=jAj nil' (.lst [])
 have h3:upd H2 il (.lst []) il=some (.lst []):=jAb
 generalize upd H2 il (.lst [])=H3 at s3 h3 ⊢
 refine⟨_,rfl,x,cZ,d.dx,_,rfl,s3 _ _ ho,T.ac,T.au,(by show 8<1000;decide),?_⟩
 rw [jI1]
 have kp4:∀ b o,b≠x->H b=some o->upd H3 x (.ins cZ d.dx ({ d with st:=p,ins:=il }:PD).fs) b=some o:=fun b o nb e=>by rw [jAi nb];exact s3 _ _ (kp b o nb e)
 have nil0:H il=none:=by
  cases e:H il with
  | none=>rfl
  | some o =>
    by_cases c:il=x
    ·rw [c,ho] at nil';cases nil'
    ·rw [kp il o c e] at nil';cases nil'
 have nix:il≠x:=Ne.symm (jAg ho nil')
 refine⟨_,rfl,q s' e p il _ kp4 nil0 (jAC.turned (st:=p) (il:=il) (S:=s') (ts:=[]) P kp4 jAb ?_ (by rw [jAi nix];exact h3) (Nat.zero_le _))⟩
 obtain⟨ds,hs⟩:=hs
 exact⟨ds,by rw [jAi (jI2 (d:={ d with st:=p }) ⟨ds,hs⟩ ho)];exact s3 _ _ hs⟩
inductive jEy(cN cT cP cS cR cJ cA:Addr)(vs:List V)(H:Hp)(Q:VK)(E:XK):Prop|mk x d k:vs=[.ref x,.int (k:Nat)]->jAC cP cS cR cJ cA H x d->(d.S≠.rd->jBi cN "found" (.str (wd d.S)) H E)->(d.S=.rd->d.tags.length<k->jBi cT "name" (.str wiW) H E)->(d.S=.rd->k<=d.tags.length->∀ t l1 l2 st il H',(∀ b o,b≠x->H b=some o->H' b=some o)->H il=none->H t=none->H' t=some (.tup [.ref l1,.ref l2])->H' l1=some (.lst (d.tags.take k))->H' l2=some (.lst (d.tags.drop k))->jAC cP cS cR cJ cA H' x { d with st:=st,S:=.jm,ins:=il,tags:=[] }->Q (.ref t) H')->jEy cN cT cP cS cR cJ cA vs H Q E
theorem jCL:jAk ["self","saved","jammed","out","lost"] ["self","saved"] (jAh jEN):=scM
include T in
theorem jJL(F:Fun K "jam" "Printer.jam" jEN fa fd)(Das:jCY P w K mg base 1 "TooMuch" vU ["self","name"] (jBh vU "name"))(Da8:MtE P w K mg base 4 "jam" yJ ["self"] (jBj yJ yW yU vY (fun s=>s=.rd) 0))(Da9:MtE P w K mg base 3 "jam" yW ["self"] (jBj yJ yW yU vY (fun s=>jBX 0 s=none) 0))(Dba:MtE P w K mg base 3 "jam" yU ["self"] (jBj yJ yW yU vY (fun s=>jBX 0 s=none) 0)) :
 jAr P w K mg base (CXe P w) 5 fa fd ["self","saved"] (jEy vY vU cZ cQ yJ yW yU):=by
 refine F.okE jCL (fun vs H Q E h=>?_) (fun cdv A outer s H vs Q E hr h=>?_)
 ·obtain⟨x,d,k,rfl,_⟩:=h
  rfl
 obtain⟨x,d,k,rfl,P,q1,q2,q⟩:=h
 exists _,(jAd (psA (i:=2) jCL.nd (jAs 4 jAx hr.m (jAq (pv 0) rfl))) (jAd (jAE (tcA jGE (pv 1) (jAQ jBT rfl T.aB PySem.boot_len (jAa (jAq (pv 0) rfl) jAc))) (jAf (jBz jBn rfl (jBm Das hr.m rfl (jAa (jCg T.bS rfl) jAc)))) jAw) (jAd (psA (i:=3) jCL.nd (jGF jMv (jAq (pv 0) rfl) jHH (jHI (pv 1)))) (jAd (psA (i:=4) jCL.nd (jGF jMv (jAq (pv 0) rfl) (jHI (pv 1)) jHH)) (jAd (jAM (pv 0) (jAV jAc) rfl) (jAd (jAM (pv 0) (pv 2) rfl) (jAf (jAo (jAN (jAa (pv 3) (jAa (pv 4) jAc)))))))))))
 exists _,rfl,x,cZ,d.dx,_,_,rfl,P.o,T.ac,T.ax,rfl
 have nn:∀ s,jBX 0 s=none ↔ s≠.rd:=fun s=>by cases s with
  | rd=>exact⟨fun z=>(by cases z),fun z=>absurd rfl z⟩
  | jm=>exact⟨fun _ z=>(by cases z),fun _=>rfl⟩
  | aw b=>exact⟨fun _ z=>(by cases z),fun _=>rfl⟩
 refine jHT Da8 Da9 Dba (by decide) (by decide) (by decide) rfl rfl (fun _=>rfl) T.ay T.az T.ar (fun s=>by cases s<;>rfl) P.s ⟨fun s' e p H1 sm np sa=>?_,fun e=>q1 ((nn _).mp e)⟩
 have P1:=P.same sm
 have rd:d.S=.rd:=Classical.byContradiction fun z=>by rw [(nn _).mpr z] at e;cases e
 rw [rd] at e
 obtain rfl:=Option.some.inj e
 exists _,rfl,_,rfl,x,cZ,d.dx,_,_,rfl,P1.o,T.ac,T.au,rfl,d.ins,_,rfl,.inl (SqL.of P1.n),_,_,rfl,rfl,_,rfl
 refine jDK (fun c=>jA2 T.ak.m fun ea H' s1 _ g=>q2 rd (by have:=of_decide_eq_true c;omega) ea H' (sm.trans s1) g) (fun c=>?_)
 have hk:k<=d.tags.length:=Nat.not_lt.mp fun z=>c (decide_eq_true (by omega))
 exists _,rfl,x,cZ,d.dx,_,_,rfl,P1.o,T.ac,T.au,rfl
 refine⟨_,rfl,_,rfl,d.ins,_,rfl,SqL.of P1.n,fun l1 nl1=>?_⟩
 rw [cut_to]
 have s2:=jAj nl1 (.lst (d.tags.take k))
 have h2:upd H1 l1 (.lst (d.tags.take k)) l1=some (.lst (d.tags.take k)):=jAb
 generalize upd H1 l1 (.lst (d.tags.take k))=H2 at s2 h2 ⊢
 have P2:=P1.same s2
 exists _,rfl,x,cZ,d.dx,_,_,rfl,P2.o,T.ac,T.au,rfl
 refine⟨_,rfl,_,rfl,d.ins,_,rfl,SqL.of P2.n,fun l2 nl2=>?_⟩
 rw [jOr]
 have s3:=jAj nl2 (.lst (d.tags.drop k))
 have h3:upd H2 l2 (.lst (d.tags.drop k)) l2=some (.lst (d.tags.drop k)):=jAb
 generalize upd H2 l2 (.lst (d.tags.drop k))=H3 at s3 h3 ⊢
 refine⟨Nat.zero_le _,fun il nil'=>?_⟩
 have s4:=jAj nil' (.lst [])
 have h4:upd H3 il (.lst []) il=some (.lst []):=jAb
 generalize upd H3 il (.lst [])=H4 at s4 h4 ⊢
 have s14:=(s2.trans s3).trans s4
 have P4:=P1.same s14
 refine⟨_,rfl,x,cZ,d.dx,_,rfl,P4.o,T.ac,T.au,(by show 8<1000;decide),?_⟩
 rw [jI1]
 have kp5:∀ b o,b≠x->H4 b=some o->upd H4 x (.ins cZ d.dx ({ d with ins:=il }:PD).fs) b=some o:=fun b o nb e=>by rw [jAi nb];exact e
 have ho5:upd H4 x (.ins cZ d.dx ({ d with ins:=il }:PD).fs) x=some (.ins cZ d.dx ({ d with ins:=il }:PD).fs):=jAb
 generalize upd H4 x (.ins cZ d.dx ({ d with ins:=il }:PD).fs)=H5 at kp5 ho5 ⊢
 refine⟨_,rfl,_,rfl,x,cZ,d.dx,_,rfl,ho5,T.ac,T.ax,(by show 8<1000;decide),?_⟩
 rw [jFO]
 have kp6:∀ b o,b≠x->H5 b=some o->upd H5 x (.ins cZ d.dx ({ d with ins:=il,st:=p }:PD).fs) b=some o:=fun b o nb e=>by rw [jAi nb];exact e
 have ho6:upd H5 x (.ins cZ d.dx ({ d with ins:=il,st:=p }:PD).fs) x=some (.ins cZ d.dx ({ d with ins:=il,st:=p }:PD).fs):=jAb
 generalize upd H5 x (.ins cZ d.dx ({ d with ins:=il,st:=p }:PD).fs)=H6 at kp6 ho6 ⊢
 have z2:2<=sizeLine:=small (by decide)
 refine⟨_,rfl,_,rfl,z2,fun t nt=>?_⟩
 have s7:=jAj nt (.tup [.ref l1,.ref l2])
 have h7:upd H6 t (.tup [.ref l1,.ref l2]) t=some (.tup [.ref l1,.ref l2]):=jAb
 generalize upd H6 t (.tup [.ref l1,.ref l2])=H7 at s7 h7 ⊢
 have kq:∀ b o,b≠x->H4 b=some o->H7 b=some o:=fun b o nb e=>s7 _ _ (kp6 b o nb (kp5 b o nb e))
 have nx4:∀ l ys,H4 l=some (.lst ys)->l≠x:=fun l ys e=>jAu e P4.o nofun
 have e1:=(s3.trans s4) _ _ h2
 have e2:=s4 _ _ h3
 refine q rd hk t l1 l2 p il H7 (fun b o nb e=>kq b o nb (s14 _ _ (sm _ _ e))) (sm.free ((s2.trans s3).free nil')) ?_ h7 (kq _ _ (nx4 _ _ e1) e1) (kq _ _ (nx4 _ _ e2) e2) ?_
 ·cases e:H t with
  | none=>rfl
  | some o =>
    by_cases c:t=x
    ·rw [c,ho6] at nt;cases nt
    ·rw [kp6 t o c (kp5 t o c (s14 _ _ (sm _ _ e)))] at nt;cases nt
 ·refine jAC.turned (st:=p) (il:=il) (S:=.jm) (ts:=[]) P4 kq (s7 _ _ ho6) ?_ (kq _ _ (nx4 _ _ h4) h4) (Nat.zero_le _)
  obtain⟨ds,hs⟩:=id (sa.same s14)
  exact⟨ds,kq _ _ (jI2 (sa.same s14) P4.o) hs⟩
theorem jLA{H Ha:Hp}{x b:Addr}{ox:HO}(k:∀ b o,b≠x->H b=some o->Ha b=some o)(hx:Ha x=some ox)(nb:Ha b=none):H b=none:=by
 cases e:H b with
 | none=>rfl
 | some o =>
   by_cases c:b=x
   ·rw [c,hx] at nb;cases nb
   ·rw [k b o c e] at nb;cases nb
inductive jE5(cP cS cR cJ cA:Addr)(vs:List V)(H:Hp)(Q:VK)(E_:XK):Prop|mk (x dx cl pp:Addr) (nm:Str) (path rb rc:Int) (cs:List V) (rs:List (Str×Int)):vs=[.ref x,.str nm,.ref cl,.int path,.ref pp,.int rb,.int rc]->H x=some (.ins cP dx [])->H cl=some (.lst cs)->H pp=some (.dK (dI rs))->(rs.map (·.1)).Nodup->rs.length<=900->(∀ d H',(∀ b o,b≠x->H b=some o->H' b=some o)->jAC cP cS cR cJ cA H' x d->d.name=nm->d.path=path->d.rs=rs->d.am=rs.map (fun p=>(p.1,0))->d.rb=rb->d.rc=rc->d.b=0->d.c=0->d.tags=[]->d.S=.rd->H d.tr1=none->H d.tr2=none->H d.ik1=none->H d.ik2=none->H d.ins=none->H d.tr=none->H d.ik=none->H d.st=none->H d.cn=none->H d.rm=none->H' d.cn=some (.tup cs)->H' d.rm=some (.dK (dI rs))->d.rm≠d.tr2->d.rm≠d.ik2->Q .non H')->jE5 cP cS cR cJ cA vs H Q E_
theorem jI7:jAk ["self","name","can","path","papers","black","colour"] ["self","name","can","path","papers","black","colour"] (jAh jDZ):=scM
include T in
theorem jI8(F:Fun K "__init__" "Printer.__init__" jDZ fa fd)(DaQ:MkD P w K mg base 1 "Stock" cQ ["self","rooms"] (jEQ cQ))(Dak:MkD P w K mg base 2 "Ready" yJ ["self"] (jFv yJ (jC8 .rd))) :
 jAr P w K mg base CX0 4 fa fd ["self","name","can","path","papers","black","colour"] (jE5 cZ cQ yJ yW yU):=by
 refine F.ok jI7 (fun vs H Q E h=>?_) (fun cdv A outer s H vs Q E hr h=>?_)
 ·obtain⟨x,dx,cl,pp,nm,path,rb,rc,cs,rs,rfl,_⟩:=h
  rfl
 obtain⟨x,dx,cl,pp,nm,path,rb,rc,cs,rs,rfl,hx,hcl,hpp,nd,lr,q⟩:=h
 exists _,(jAd (jAM (pv 0) (pv 1) rfl) (jAd (jAM (pv 0) (jB4 jKw rfl T.bK jOb (jAa (pv 2) jAc)) rfl) (jAd (jAM (pv 0) (pv 3) rfl) (jAd (jAM (pv 0) (jB4 jDQ rfl T.aO jHN (jAa (pv 4) jAc)) rfl) (jAd (jAM (pv 0) (jCh DaQ hr.m rfl (jAa (pv 4) jAc)) rfl) (jAd (jAM (pv 0) (jCh DaQ hr.m rfl (jAa (jDd (jBf (jCg T.aQ rfl) (pv 5) (jBf (jCg T.aR rfl) (pv 6) jDc)) rfl rfl (by decide) (by decide)) jAc)) rfl) (jAd (jAM (pv 0) (jCy Dak hr.m rfl) rfl) (jAf (jAM (pv 0) (jAV jAc) rfl)))))))))
 have ncx:cl≠x:=jAu hcl hx nofun
 have npx:pp≠x:=jAu hpp hx nofun
 refine⟨_,rfl,_,rfl,x,cZ,dx,_,rfl,hx,T.ac,T.bA,(by show 0<1000;decide),?_⟩
 rw [jBa (by show ¬ ("name":Str)∈([]:List Str);decide +kernel),List.nil_append]
 have k1:∀ b o,b≠x->H b=some o->upd H x (.ins cZ dx [("name",V.str nm)]) b=some o:=fun b o nb e=>by rw [jAi nb];exact e
 have hx1:upd H x (.ins cZ dx [("name",V.str nm)]) x=some (.ins cZ dx [("name",V.str nm)]):=jAb
 generalize upd H x (.ins cZ dx [("name",V.str nm)])=H1 at k1 hx1 ⊢
 refine⟨_,rfl,cl,_,rfl,.inl ⟨SqL.of (k1 _ _ ncx hcl),fun cn ncn=>?_⟩⟩
 have s2:=jAj ncn (.tup cs)
 have hcn2:upd H1 cn (.tup cs) cn=some (.tup cs):=jAb
 have ncnx:cn≠x:=Ne.symm (jAg hx1 ncn)
 generalize upd H1 cn (.tup cs)=H2 at s2 hcn2 ⊢
 refine⟨_,rfl,x,cZ,dx,_,rfl,s2 _ _ hx1,T.ac,T.bW,(by show 1<1000;decide),?_⟩
 rw [jBa (by show ¬ ("can":Str)∈(["name"]:List Str);decide +kernel)]
 have k3:∀ b o,b≠x->H1 b=some o->upd H2 x (.ins cZ dx (([("name",V.str nm)]:List (Str×V))++([("can",V.ref cn)]:List (Str×V)))) b=some o:=fun b o nb e=>by rw [jAi nb];exact s2 _ _ e
 have hx3:upd H2 x (.ins cZ dx (([("name",V.str nm)]:List (Str×V))++([("can",V.ref cn)]:List (Str×V)))) x=some (.ins cZ dx [("name",V.str nm),("can",V.ref cn)]):=jAb
 have hcn3:upd H2 x (.ins cZ dx (([("name",V.str nm)]:List (Str×V))++([("can",V.ref cn)]:List (Str×V)))) cn=some (.tup cs):=by rw [jAi ncnx];exact hcn2
 generalize upd H2 x (.ins cZ dx (([("name",V.str nm)]:List (Str×V))++([("can",V.ref cn)]:List (Str×V))))=H3 at k3 hx3 hcn3 ⊢
 refine⟨_,rfl,_,rfl,x,cZ,dx,_,rfl,hx3,T.ac,T.bB,(by show 2<1000;decide),?_⟩
 rw [jBa (by show ¬ ("path":Str)∈(["name","can"]:List Str);decide +kernel)]
 have k4:∀ b o,b≠x->H3 b=some o->upd H3 x (.ins cZ dx (([("name",V.str nm),("can",V.ref cn)]:List (Str×V))++([("path",V.int path)]:List (Str×V)))) b=some o:=fun b o nb e=>by rw [jAi nb];exact e
 have hx4:upd H3 x (.ins cZ dx (([("name",V.str nm),("can",V.ref cn)]:List (Str×V))++([("path",V.int path)]:List (Str×V)))) x=some (.ins cZ dx [("name",V.str nm),("can",V.ref cn),("path",V.int path)]):=jAb
 generalize upd H3 x (.ins cZ dx (([("name",V.str nm),("can",V.ref cn)]:List (Str×V))++([("path",V.int path)]:List (Str×V))))=H4 at k4 hx4 ⊢
 have k04:∀ b o,b≠x->H b=some o->H4 b=some o:=fun b o nb e=>k4 b o nb (k3 b o nb (k1 b o nb e))
 have hpp4:=k04 _ _ npx hpp
 refine⟨_,rfl,pp,_,rfl,.inl hpp4,fun rm nrm=>?_⟩
 have s5:=jAj nrm (.dK (dI rs))
 have hrm5:upd H4 rm (.dK (dI rs)) rm=some (.dK (dI rs)):=jAb
 have nrmx:rm≠x:=Ne.symm (jAg hx4 nrm)
 generalize upd H4 rm (.dK (dI rs))=H5 at s5 hrm5 ⊢
 refine⟨_,rfl,x,cZ,dx,_,rfl,s5 _ _ hx4,T.ac,T.bC,(by show 3<1000;decide),?_⟩
 rw [jBa (by show ¬ ("rooms":Str)∈(["name","can","path"]:List Str);decide +kernel)]
 have k6:∀ b o,b≠x->H4 b=some o->upd H5 x (.ins cZ dx (([("name",V.str nm),("can",V.ref cn),("path",V.int path)]:List (Str×V))++([("rooms",V.ref rm)]:List (Str×V)))) b=some o:=fun b o nb e=>by rw [jAi nb];exact s5 _ _ e
 have hx6:upd H5 x (.ins cZ dx (([("name",V.str nm),("can",V.ref cn),("path",V.int path)]:List (Str×V))++([("rooms",V.ref rm)]:List (Str×V)))) x=some (.ins cZ dx [("name",V.str nm),("can",V.ref cn),("path",V.int path),("rooms",V.ref rm)]):=jAb
 have hrm6:upd H5 x (.ins cZ dx (([("name",V.str nm),("can",V.ref cn),("path",V.int path)]:List (Str×V))++([("rooms",V.ref rm)]:List (Str×V)))) rm=some (.dK (dI rs)):=by rw [jAi nrmx];exact hrm5
 generalize upd H5 x (.ins cZ dx (([("name",V.str nm),("can",V.ref cn),("path",V.int path)]:List (Str×V))++([("rooms",V.ref rm)]:List (Str×V))))=H6 at k6 hx6 hrm6 ⊢
 have k06:∀ b o,b≠x->H b=some o->H6 b=some o:=fun b o nb e=>k6 b o nb (k04 b o nb e)
 have free6:∀ b,H6 b=none->H b=none:=fun b nb=>by
  cases e:H b with
  | none=>rfl
  | some o =>
    by_cases c:b=x
    ·rw [c,hx6] at nb;cases nb
    ·rw [k06 b o c e] at nb;cases nb
 refine⟨_,rfl,fun tr dt ntr ndt nde=>?_⟩
 have ki:∀ b o,H6 b=some o->b≠tr/\upd (upd H6 dt (.own tr)) tr (.ins cQ dt []) b=some o:=fun b o e=>by
  have b1:b≠tr:=jAg e ntr
  exact⟨b1,by rw [jAi b1,jAi (jAg e ndt)];exact e⟩
 refine⟨tr,dt,pp,rs,rfl,jAb,(ki _ _ (k06 _ _ npx hpp)).2,nd,by omega,fun tr1 tr2 H7 kp7 nr nm' n12 ht7 hr7 hm7=>⟨rfl,?_⟩⟩
 have s7:jAn H6 H7:=fun b o e=>kp7 b o (ki b o e).1 (ki b o e).2
 have ntr1:H6 tr1=none:=by
  cases e:H6 tr1 with
  | none=>rfl
  | some o=>rw [(ki _ _ e).2] at nr;cases nr
 have ntr2:H6 tr2=none:=by
  cases e:H6 tr2 with
  | none=>rfl
  | some o=>rw [(ki _ _ e).2] at nm';cases nm'
 refine⟨_,rfl,x,cZ,dx,_,rfl,s7 _ _ hx6,T.ac,T.aW,(by show 4<1000;decide),?_⟩
 rw [jBa (by show ¬ ("trays":Str)∈(["name","can","path","rooms"]:List Str);decide +kernel)]
 have hx7:=s7 _ _ hx6
 have ntx:tr≠x:=Ne.symm (jAg hx6 ntr)
 have nt1x:tr1≠x:=Ne.symm (jAg hx6 ntr1)
 have nt2x:tr2≠x:=Ne.symm (jAg hx6 ntr2)
 have k8:∀ b o,b≠x->H7 b=some o->upd H7 x (.ins cZ dx (([("name",V.str nm),("can",V.ref cn),("path",V.int path),("rooms",V.ref rm)]:List (Str×V))++([("trays",V.ref tr)]:List (Str×V)))) b=some o:=fun b o nb e=>by rw [jAi nb];exact e
 have hx8:upd H7 x (.ins cZ dx (([("name",V.str nm),("can",V.ref cn),("path",V.int path),("rooms",V.ref rm)]:List (Str×V))++([("trays",V.ref tr)]:List (Str×V)))) x=some (.ins cZ dx [("name",V.str nm),("can",V.ref cn),("path",V.int path),("rooms",V.ref rm),("trays",V.ref tr)]):=jAb
 generalize upd H7 x (.ins cZ dx (([("name",V.str nm),("can",V.ref cn),("path",V.int path),("rooms",V.ref rm)]:List (Str×V))++([("trays",V.ref tr)]:List (Str×V))))=H8 at k8 hx8 ⊢
 have ht8:=k8 _ _ ntx ht7
 have hr8:=k8 _ _ nt1x hr7
 have hm8:=k8 _ _ nt2x hm7
 have free8:∀ b,H8 b=none->H6 b=none:=fun b nb=>by
  cases e:H6 b with
  | none=>rfl
  | some o =>
    by_cases c:b=x
    ·rw [c,hx8] at nb;cases nb
    ·rw [k8 b o c (s7 _ _ e)] at nb;cases nb
 refine fun ip nip=>?_
 have s9:=jAj nip (.dK [])
 have h9:upd H8 ip (.dK []) ip=some (.dK []):=jAb
 refine⟨_,rfl,_,rfl,h9,[(Sum.inr blW,.int rb),(Sum.inr coW,.int rc)],rfl,(by show 2<=15;decide),?_⟩
 rw [jCJ (ks:=[Sum.inr blW,Sum.inr coW]) rfl (by decide +kernel)]
 have s10:jAn H8 (upd (upd H8 ip (.dK [])) ip (.dK ([]++[((Sum.inr blW:Key),V.int rb),(Sum.inr coW,V.int rc)]))):=jCa nip s9 _
 have h10:upd (upd H8 ip (.dK [])) ip (.dK ([]++[((Sum.inr blW:Key),V.int rb),(Sum.inr coW,V.int rc)])) ip=some (.dK (dI (jAG rb rc))):=jAb
 generalize upd (upd H8 ip (.dK [])) ip (.dK ([]++[((Sum.inr blW:Key),V.int rb),(Sum.inr coW,V.int rc)]))=H10 at s10 h10 ⊢
 refine fun ik di nik ndi ndie=>?_
 have kj:∀ b o,H10 b=some o->b≠ik/\upd (upd H10 di (.own ik)) ik (.ins cQ di []) b=some o:=fun b o e=>by
  have b1:b≠ik:=jAg e nik
  exact⟨b1,by rw [jAi b1,jAi (jAg e ndi)];exact e⟩
 have ndk:((jAG rb rc).map (·.1)).Nodup:=by
  show [blW,coW].Nodup
  decide +kernel
 refine⟨ik,di,ip,jAG rb rc,rfl,jAb,(kj _ _ h10).2,ndk,by show 2<=1000;decide,fun ik1 ik2 H11 kp11 nr1 nm1 n12' hi11 hr11 hm11=>⟨rfl,?_⟩⟩
 have s11:jAn H10 H11:=fun b o e=>kp11 b o (kj b o e).1 (kj b o e).2
 have nik1:H10 ik1=none:=by
  cases e:H10 ik1 with
  | none=>rfl
  | some o=>rw [(kj _ _ e).2] at nr1;cases nr1
 have nik2:H10 ik2=none:=by
  cases e:H10 ik2 with
  | none=>rfl
  | some o=>rw [(kj _ _ e).2] at nm1;cases nm1
 have s811:=s10.trans s11
 refine⟨_,rfl,x,cZ,dx,_,rfl,s811 _ _ hx8,T.ac,T.aN,(by show 5<1000;decide),?_⟩
 rw [jBa (by show ¬ ("inks":Str)∈(["name","can","path","rooms","trays"]:List Str);decide +kernel)]
 have k12:∀ b o,b≠x->H11 b=some o->upd H11 x (.ins cZ dx (([("name",V.str nm),("can",V.ref cn),("path",V.int path),("rooms",V.ref rm),("trays",V.ref tr)]:List (Str×V))++([("inks",V.ref ik)]:List (Str×V)))) b=some o:=fun b o nb e=>by rw [jAi nb];exact e
 have hx12:upd H11 x (.ins cZ dx (([("name",V.str nm),("can",V.ref cn),("path",V.int path),("rooms",V.ref rm),("trays",V.ref tr)]:List (Str×V))++([("inks",V.ref ik)]:List (Str×V)))) x=some (.ins cZ dx [("name",V.str nm),("can",V.ref cn),("path",V.int path),("rooms",V.ref rm),("trays",V.ref tr),("inks",V.ref ik)]):=jAb
 generalize upd H11 x (.ins cZ dx (([("name",V.str nm),("can",V.ref cn),("path",V.int path),("rooms",V.ref rm),("trays",V.ref tr)]:List (Str×V))++([("inks",V.ref ik)]:List (Str×V))))=H12 at k12 hx12 ⊢
 have hx10:=s10 _ _ hx8
 have nikx:ik≠x:=Ne.symm (jAg hx10 nik)
 have nik1x:ik1≠x:=Ne.symm (jAg hx10 nik1)
 have nik2x:ik2≠x:=Ne.symm (jAg hx10 nik2)
 refine fun st ds nst nds ndse=>⟨st,ds,rfl,jAb,⟨rfl,?_⟩⟩
 have s13:jAn H12 (upd (upd (upd H12 ds (.own st)) st (.ins yJ ds [])) st (.ins yJ ds (jC8 .rd))):=fun b o e=>by
  have b1:b≠st:=jAg e nst
  rw [jAi b1,jAi b1,jAi (jAg e nds)]
  exact e
 have h13:upd (upd (upd H12 ds (.own st)) st (.ins yJ ds [])) st (.ins yJ ds (jC8 .rd)) st=some (.ins yJ ds (jC8 .rd)):=jAb
 generalize upd (upd (upd H12 ds (.own st)) st (.ins yJ ds [])) st (.ins yJ ds (jC8 .rd))=H13 at s13 h13 ⊢
 refine⟨_,rfl,x,cZ,dx,_,rfl,s13 _ _ hx12,T.ac,T.ax,(by show 6<1000;decide),?_⟩
 rw [jBa (by show ¬ ("state":Str)∈(["name","can","path","rooms","trays","inks"]:List Str);decide +kernel)]
 have k14:∀ b o,b≠x->H13 b=some o->upd H13 x (.ins cZ dx (([("name",V.str nm),("can",V.ref cn),("path",V.int path),("rooms",V.ref rm),("trays",V.ref tr),("inks",V.ref ik)]:List (Str×V))++([("state",V.ref st)]:List (Str×V)))) b=some o:=fun b o nb e=>by rw [jAi nb];exact e
 have hx14:upd H13 x (.ins cZ dx (([("name",V.str nm),("can",V.ref cn),("path",V.int path),("rooms",V.ref rm),("trays",V.ref tr),("inks",V.ref ik)]:List (Str×V))++([("state",V.ref st)]:List (Str×V)))) x=some (.ins cZ dx [("name",V.str nm),("can",V.ref cn),("path",V.int path),("rooms",V.ref rm),("trays",V.ref tr),("inks",V.ref ik),("state",V.ref st)]):=jAb
 generalize upd H13 x (.ins cZ dx (([("name",V.str nm),("can",V.ref cn),("path",V.int path),("rooms",V.ref rm),("trays",V.ref tr),("inks",V.ref ik)]:List (Str×V))++([("state",V.ref st)]:List (Str×V))))=H14 at k14 hx14 ⊢
 have nstx:st≠x:=Ne.symm (jAg hx12 nst)
 refine⟨Nat.zero_le _,fun il nil'=>?_⟩
 have s15:=jAj nil' (.lst [])
 have h15:upd H14 il (.lst []) il=some (.lst []):=jAb
 generalize upd H14 il (.lst [])=H15 at s15 h15 ⊢
 have hx15:=s15 _ _ hx14
 refine⟨_,rfl,x,cZ,dx,_,rfl,hx15,T.ac,T.au,(by show 7<1000;decide),?_⟩
 rw [jBa (by show ¬ ("inside":Str)∈(["name","can","path","rooms","trays","inks","state"]:List Str);decide +kernel)]
 have nilx:il≠x:=Ne.symm (jAg hx14 nil')
 have k16:∀ b o,b≠x->H15 b=some o->upd H15 x (.ins cZ dx (([("name",V.str nm),("can",V.ref cn),("path",V.int path),("rooms",V.ref rm),("trays",V.ref tr),("inks",V.ref ik),("state",V.ref st)]:List (Str×V))++([("inside",V.ref il)]:List (Str×V)))) b=some o:=fun b o nb e=>by rw [jAi nb];exact e
 have hx16:upd H15 x (.ins cZ dx (([("name",V.str nm),("can",V.ref cn),("path",V.int path),("rooms",V.ref rm),("trays",V.ref tr),("inks",V.ref ik),("state",V.ref st)]:List (Str×V))++([("inside",V.ref il)]:List (Str×V)))) x=some (.ins cZ dx [("name",V.str nm),("can",V.ref cn),("path",V.int path),("rooms",V.ref rm),("trays",V.ref tr),("inks",V.ref ik),("state",V.ref st),("inside",V.ref il)]):=jAb
 generalize upd H15 x (.ins cZ dx (([("name",V.str nm),("can",V.ref cn),("path",V.int path),("rooms",V.ref rm),("trays",V.ref tr),("inks",V.ref ik),("state",V.ref st)]:List (Str×V))++([("inside",V.ref il)]:List (Str×V))))=H16 at k16 hx16 ⊢
 have e12:∀ b o,b≠x->H12 b=some o->H16 b=some o:=fun b o nb e=>k16 b o nb (s15 _ _ (k14 b o nb (s13 _ _ e)))
 have e8:∀ b o,b≠x->H8 b=some o->H16 b=some o:=fun b o nb e=>e12 b o nb (k12 b o nb (s811 _ _ e))
 have e6:∀ b o,b≠x->H6 b=some o->H16 b=some o:=fun b o nb e=>e8 b o nb (k8 b o nb (s7 _ _ e))
 have f10:∀ b,H10 b=none->H6 b=none:=fun b nb=>free8 b (s10.free nb)
 have f14:∀ b,H14 b=none->H6 b=none:=fun b nb=>by
  cases e:H6 b with
  | none=>rfl
  | some o =>
    by_cases c:b=x
    ·rw [c,hx14] at nb;cases nb
    ·rw [k14 b o c (s13 _ _ (k12 b o c (s811 _ _ (k8 b o c (s7 _ _ e)))))] at nb;cases nb
 have hm10:=s10 _ _ hm8
 have hr10:=s10 _ _ hr8
 refine q ⟨dx,cn,rm,tr,tr1,tr2,ik,ik1,ik2,st,il,nm,path,rs,rs.map fun p=>(p.1,0),rb,rc,0,0,[],.rd⟩ H16 (fun b o nb e=>e6 b o nb (k06 b o nb e)) ?_ rfl rfl rfl rfl rfl rfl rfl rfl rfl rfl (free6 _ ntr1) (free6 _ ntr2) (free6 _ (f10 _ nik1)) (free6 _ (f10 _ nik2)) (free6 _ (f14 _ nil')) (free6 _ ntr) (free6 _ (f10 _ nik)) (jLA (fun b o nb e=>k12 b o nb (s811 _ _ (k8 b o nb (s7 _ _ (k06 b o nb e))))) hx12 nst) (jLA k1 hx1 ncn) (jLA k04 hx4 nrm) (e6 _ _ ncnx (k6 _ _ ncnx (k4 _ _ ncnx hcn3))) (e6 _ _ nrmx hrm6) (jAg hrm6 ntr2) (jAg (s10 _ _ (k8 _ _ nrmx (s7 _ _ hrm6))) nik2)
 exact { o:=hx16,T:=⟨⟨dt,e8 _ _ ntx ht8⟩,e8 _ _ nt1x hr8,e8 _ _ nt2x hm8,n12⟩,I:=⟨⟨di,e12 _ _ nikx (k12 _ _ nikx hi11)⟩,e12 _ _ nik1x (k12 _ _ nik1x hr11),e12 _ _ nik2x (k12 _ _ nik2x hm11),n12'⟩,s:=⟨ds,k16 _ _ nstx (s15 _ _ (k14 _ _ nstx h13))⟩,n:=k16 _ _ nilx h15,ka:=by rw [List.map_map];rfl,la:=by rw [List.length_map];exact lr,lt:=Nat.zero_le _,n22:=jAg hm10 nik2,n21:=jAg hm10 nik1,n12:=jAg hr10 nik2 }
def LyC(cO cB cS:Addr):Ly->Addr
 | .one=>cO
 | .both=>cB
 | .up _=>cS
def LyAt(cO cB cS:Addr)(H:Hp)(a:Addr)(l:Ly):Prop:=∃ dx,H a=some (.ins (LyC cO cB cS l) dx [("cells",.int (l.cells:Int)),("backs",.bl l.backs)])
theorem LyAt.same{cO cB cS:Addr}{H H':Hp}{a:Addr}{l:Ly}(h:LyAt cO cB cS H a l)(k:jAn H H'):LyAt cO cB cS H' a l:=let ⟨dx,e⟩:=h;⟨dx,k _ _ e⟩
def jFe(H:Hp)(y:V)(s:List Int×List Int):Prop:=∃ t f b,y=.ref t/\H t=some (.tup [.ref f,.ref b])/\H f=some (.lst (s.1.map V.int))/\H b=some (.lst (s.2.map V.int))
def jEz(H0 H:Hp)(y:V)(s:List Int×List Int):Prop:=∃ t f b,y=.ref t/\H t=some (.tup [.ref f,.ref b])/\H f=some (.lst (s.1.map V.int))/\H b=some (.lst (s.2.map V.int))/\H0 t=none/\H0 f=none/\H0 b=none
theorem jEz.at{H0 H:Hp}{y:V}{s:List Int×List Int}(h:jEz H0 H y s):jFe H y s:=let ⟨t,f,b,e,e1,e2,e3,_⟩:=h;⟨t,f,b,e,e1,e2,e3⟩
theorem jEz.old{H0 H1 H:Hp}{y:V}{s:List Int×List Int}(h:jEz H1 H y s)(k:jAn H0 H1):jEz H0 H y s:=let ⟨t,f,b,e,e1,e2,e3,n1,n2,n3⟩:=h;⟨t,f,b,e,e1,e2,e3,k.free n1,k.free n2,k.free n3⟩
def jMJ(H0 H:Hp)(p:Addr)(L:List (List Int×List Int)):Prop:=∃ ys,H p=some (.lst ys)/\ys.length=L.length/\∀ (i:Nat) y s,ys[i]?=some y->L[i]?=some s->jEz H0 H y s
theorem jFe.same{H H':Hp}{y:V}{s:List Int×List Int}(h:jFe H y s)(k:jAn H H'):jFe H' y s:=let ⟨t,f,b,e,e1,e2,e3⟩:=h;⟨t,f,b,e,k _ _ e1,k _ _ e2,k _ _ e3⟩
theorem jFP{H:Hp}{x dx:Addr}{o o1 o2:HO}(nx:H x=none)(nd:H dx=none):jAn H (upd (upd (upd H dx o) x o1) x o2):=by
 rw [jBP]
 exact jCa nx (jAj nd _) _
inductive jES(K:PySem.W.Frag)(vs:List V)(H:Hp)(Q:VK)(E_:XK):Prop|mk (f n:Int) (m:Nat):vs=[.int f,.int (m:Int),.int n]->-(2^40)<=f->f<=2^40->m<=900->(∀ p H',jAn H H'->H p=none->H' p=some (.lst ((jBe f m n).map V.int))->Q (.ref p) H')->jES K vs H Q E_
inductive jBQ(K:PySem.W.Frag)(vs:List V)(H:Hp)(Q:VK)(E_:XK):Prop|mk x dx C c b:vs=[.ref x,c,b]->H x=some (.ins C dx [])->Cls K C->jAz K C "cells"->jAz K C "backs"->Q .non (upd H x (.ins C dx [("cells",c),("backs",b)]))->jBQ K vs H Q E_
def jGZ(C:Addr)(fs:List (Str×V)):Sp:=fun vs H Q _=>∃ x dx,vs=[.ref x]/\H x=some (.ins C dx [])/\Q .non (upd H x (.ins C dx fs))
inductive jDv(C:Addr)(vs:List V)(H:Hp)(Q:VK)(E_:XK):Prop|mk x dx c:vs=[.ref x,c]->H x=some (.ins C dx [])->Q .non (upd H x (.ins C dx [("cells",c),("backs",.bl true)]))->jDv C vs H Q E_
inductive jGt(cO cB cS:Addr)(vs:List V)(H:Hp)(Q:VK)(E_:XK):Prop|mk a l:vs=[.ref a]->Ly.Ok l->LyAt cO cB cS H a l->Q (.int (l.per:Int)) H->jGt cO cB cS vs H Q E_
inductive jB2(cO cB cS:Addr)(vs:List V)(H:Hp)(Q:VK)(E_:XK):Prop|mk a l f n:vs=[.ref a,.int f,.int n]->Ly.Ok l->LyAt cO cB cS H a l->-(2^20)<=f->f<=2^20->(∀ y H',jAn H H'->New H H' (fun H3=>jEz H H3 y (jCz l n f))->Q y H')->jB2 cO cB cS vs H Q E_
inductive jFf(cO cB cS:Addr)(vs:List V)(H:Hp)(Q:VK)(E_:XK):Prop|mk a l (n:Nat):vs=[.ref a,.int (n:Int)]->Ly.Ok l->LyAt cO cB cS H a l->1<=n->n<=999->(∀ p H',jAn H H'->H p=none->jMJ H H' p (jDk l n)->Q (.ref p) H')->jFf cO cB cS vs H Q E_
inductive jFA(cO cB cS:Addr)(vs:List V)(H:Hp)(Q:VK)(E_:XK):Prop|mk l:vs=[.str (Ly.text l)]->Ly.Ok l->(∀ a H',jAn H H'->H a=none->LyAt cO cB cS H' a l->Q (.ref a) H')->jFA cO cB cS vs H Q E_
theorem jKO:jAk ["first","many","pages"] ["first","many","pages"] (jAh jFk):=scM
include T in
theorem jKP(F:Fun K "cells_from" "cells_from" jFk fa fd)  :
 jAr P w K mg base CX0 1 fa fd ["first","many","pages"] (jES K):=by
 refine F.ok jKO (fun vs H Q E h=>?_) (fun cdv A outer s H vs Q E hr h=>?_)
 ·obtain⟨f,n,m,rfl,_⟩:=h
  rfl
 obtain⟨f,n,m,rfl,f0,f1,hm,q⟩:=h
 exists _,(jAf (jAo (jFa (frees:=[ ("pages",2) ]) ⟨by decide +kernel,rfl,rfl,by decide +kernel,⟨⟨rfl,rfl,rfl,by decide +kernel⟩,trivial⟩,by decide +kernel,jBD rfl,rfl⟩ rfl (jNc rfl T.aE (jAa (pv 0) (jAa (jAp jAO (pv 0) (pv 1)) jAc))) (fun _ _ _ _=>jDL) (fun _ _ _ _=>by exact (jCv (tcA jGD (pv 0) (pv 1)) (pv 0) (jE1 T.aX rfl))))))
 exists _,rfl,_,rfl,_,rfl,_,_,rfl,rfl,_,_,rfl,⟨by omega,by omega,by omega,by omega⟩
 rw [show (f+(m:Int)-f).toNat=m from by omega]
 refine jEu (jHp f m H) (fun _=>true) (fun v=>match v with|.int x=>.int (if x<=n then x else 0)|v=>v) ?_ (fun x hx H' R _ r=>r) (fun x hx H' R sm _ r=>?_) (fun D H' sm hD hH=>?_)
 ·rw [List.length_map,List.length_range]
  exact jAW (by omega)
 ·obtain⟨i,_,rfl⟩:=List.mem_map.mp hx
  exists _,rfl,_,rfl,_,_,rfl,rfl,_,rfl
  refine jDK (fun c=>⟨_,rfl,?_⟩) (fun c=>?_)
  ·have c':=of_decide_eq_true c
   dsimp only at r
   rw [if_pos c'] at r
   exact r
  ·have c':¬ (f+((i:Nat):Int)<=n):=fun z=>c (decide_eq_true z)
   dsimp only at r
   rw [if_neg c'] at r
   exact r
 ·refine q D H' sm hD ?_
  rw [hH,List.filter_eq_self.mpr (fun _ _=>rfl),List.map_map]
  unfold jBe
  rw [List.map_map]
  rfl
theorem jJM:jAk ["self","cells","backs"] ["self","cells","backs"] (jAh jEE):=scM
include T in
theorem jJN(F:Fun K "__init__" "Layout.__init__" jEE fa fd)  :
 jAr P w K mg base CX0 1 fa fd ["self","cells","backs"] (jBQ K):=by
 refine F.ok jJM (fun vs H Q E h=>?_) (fun cdv A outer s H vs Q E hr h=>?_)
 ·obtain⟨x,dx,C,c,b,rfl,_⟩:=h
  rfl
 obtain⟨x,dx,C,c,b,rfl,hx,cl,n1,n2,q⟩:=h
 exists _,(jAd (jAM (pv 0) (pv 1) rfl) (jAf (jAM (pv 0) (pv 2) rfl)))
 exists _,rfl,_,rfl,x,C,dx,_,rfl,hx,cl,n1,(by decide)
 refine⟨_,rfl,_,rfl,x,C,dx,_,rfl,jAb,cl,n2,(by show 1<1000;decide),?_⟩
 rw [jBP]
 exact q
theorem jL7:jAk ["self"] ["self"] (jAh jGM):=scM
include T in
theorem jL8(F:Fun K "__init__" "One.__init__" jGM fa fd)(Dal:InD P w K mg base 1 "Layout" yQ ["self","cells","backs"] (jBQ K)) :
 jAr P w K mg base CX0 2 fa fd ["self"] (jGZ yZ [("cells",.int 1),("backs",.bl false)]):=by
 refine F.ok jL7 (fun vs H Q E h=>?_) (fun cdv A outer s H vs Q E hr h=>?_)
 ·obtain⟨x,dx,rfl,_⟩:=h
  rfl
 obtain⟨x,dx,rfl,hx,q⟩:=h
 exists _,(jAf (jAy (jDO Dal hr.m rfl (jAa (pv 0) (jAa jAe (jAa jBc jAc))))))
 exact⟨_,rfl,x,dx,_,_,_,rfl,hx,T.aI,T.aZ,T.bb,q⟩
theorem jLB:jAk ["self"] ["self"] (jAh jF9):=scM
include T in
theorem jLC(F:Fun K "__init__" "Both.__init__" jF9 fa fd)(Dal:InD P w K mg base 1 "Layout" yQ ["self","cells","backs"] (jBQ K)) :
 jAr P w K mg base CX0 2 fa fd ["self"] (jGZ yX [("cells",.int 1),("backs",.bl true)]):=by
 refine F.ok jLB (fun vs H Q E h=>?_) (fun cdv A outer s H vs Q E hr h=>?_)
 ·obtain⟨x,dx,rfl,_⟩:=h
  rfl
 obtain⟨x,dx,rfl,hx,q⟩:=h
 exists _,(jAf (jAy (jDO Dal hr.m rfl (jAa (pv 0) (jAa jAe (jAa jBc jAc))))))
 exact⟨_,rfl,x,dx,_,_,_,rfl,hx,T.aJ,T.bc,T.bd,q⟩
theorem jI9:jAk ["self","many"] ["self","many"] (jAh jDU):=scM
include T in
theorem jI_(F:Fun K "__init__" "Several.__init__" jDU fa fd)(Dal:InD P w K mg base 1 "Layout" yQ ["self","cells","backs"] (jBQ K)) :
 jAr P w K mg base CX0 2 fa fd ["self","many"] (jDv yY):=by
 refine F.ok jI9 (fun vs H Q E h=>?_) (fun cdv A outer s H vs Q E hr h=>?_)
 ·obtain⟨x,dx,c,rfl,_⟩:=h
  rfl
 obtain⟨x,dx,c,rfl,hx,q⟩:=h
 exists _,(jAf (jAy (jDO Dal hr.m rfl (jAa (pv 0) (jAa (pv 1) (jAa jBc jAc))))))
 exact⟨_,rfl,_,rfl,x,dx,_,_,_,rfl,hx,T.aK,T.bf,T.bg,q⟩
theorem jHh:jAk ["self"] ["self"] (jAh jCA):=scM
include T in
theorem jHi(F:Fun K "per_sheet" "Layout.per_sheet" jCA fa fd)  :
 jAr P w K mg base CX0 1 fa fd ["self"] (jGt yZ yX yY):=by
 refine F.ok jHh (fun vs H Q E h=>?_) (fun cdv A outer s H vs Q E hr h=>?_)
 ·obtain⟨a,l,rfl,_⟩:=h
  rfl
 obtain⟨a,l,rfl,ok,⟨dx,hx⟩,q⟩:=h
 have hc:=Ly.cells_pos ok
 exists _,(jAf (jAo (jCv (jAX (jAq (pv 0) rfl) (fun _=>rfl)) (jAp jCR jAe (jAq (pv 0) rfl)) (jAq (pv 0) rfl))))
 have cl:Cls K (LyC yZ yX yY l)/\jAz K (LyC yZ yX yY l) "cells"/\jAz K (LyC yZ yX yY l) "backs":=by
  cases l with
  | one=>exact⟨T.aI,T.aZ,T.bb⟩
  | both=>exact⟨T.aJ,T.bc,T.bd⟩
  | up n=>exact⟨T.aK,T.bf,T.bg⟩
 exists _,rfl,a,_,dx,_,_,rfl,hx,cl.1,cl.2.2,rfl,l.backs,rfl
 unfold Ly.per at q
 cases hb:l.backs with
 | true =>
   rw [hb,if_pos rfl] at q
   refine jAU ⟨_,rfl,a,_,dx,_,_,rfl,hx,cl.1,cl.2.1,rfl,_,_,rfl,rfl,.inl ⟨by decide,by decide⟩,?_⟩
   have e:(2:Int)*(l.cells:Int)=((2*l.cells:Nat):Int):=by omega
   show Q (V.int ((2:Int)*(l.cells:Int))) H
   rw [e]
   exact q
 | false =>
   rw [hb,if_neg (by decide)] at q
   exact jAJ ⟨_,rfl,a,_,dx,_,_,rfl,hx,cl.1,cl.2.1,rfl,q⟩
theorem jDw:jAk ["self","first","pages","front"] ["self","first","pages"] (jAh jCr):=scM
include T in
theorem jG0(F:Fun K "sheet_from" "Layout.sheet_from" jCr fa fd)(DaR:Dfn P w K mg base 1 "cells_from" ["first","many","pages"] (jES K)) :
 jAr P w K mg base CX0 2 fa fd ["self","first","pages"] (jB2 yZ yX yY):=by
 refine F.ok jDw (fun vs H Q E h=>?_) (fun cdv A outer s H vs Q E hr h=>?_)
 ·obtain⟨a,l,f,n,rfl,_⟩:=h
  rfl
 obtain⟨a,l,f,n,rfl,ok,⟨dx,hx⟩,f0,f1,q⟩:=h
 have hc:=Ly.cells_pos ok
 exists _,(jAd (psA (i:=3) jDw.nd (jAv DaR hr.m rfl (jAa (pv 1) (jAa (jAq (pv 0) rfl) (jAa (pv 2) jAc))))) (jAd (jAE (jAX (jAq (pv 0) rfl) (fun _=>rfl)) (jAf (jAo (jAN (jAa (pv 3) (jAa (jAv DaR hr.m rfl (jAa (jAp jAO (pv 1) (jAq (pv 0) rfl)) (jAa (jAq (pv 0) rfl) (jAa (pv 2) jAc)))) jAc))))) jAw) (jAf (jAo (jAN (jAa (pv 3) (jAa (jAp op_rep (jAV (jAa (jE1 T.aX rfl) jAc)) (jAq (pv 0) rfl)) jAc)))))))
 have cl:Cls K (LyC yZ yX yY l)/\jAz K (LyC yZ yX yY l) "cells"/\jAz K (LyC yZ yX yY l) "backs":=by
  cases l with
  | one=>exact⟨T.aI,T.aZ,T.bb⟩
  | both=>exact⟨T.aJ,T.bc,T.bd⟩
  | up n=>exact⟨T.aK,T.bf,T.bg⟩
 refine⟨_,rfl,_,rfl,a,_,dx,_,_,rfl,hx,cl.1,cl.2.1,rfl,_,rfl,f,n,l.cells,rfl,by omega,by omega,by omega,fun p H1 s1 np hp=>?_⟩
 have hx1:=s1 _ _ hx
 exists _,rfl,a,_,dx,_,_,rfl,hx1,cl.1,cl.2.2,rfl,l.backs,rfl
 have fin:∀ (b:Addr) (H2:Hp) (bs:List Int),jAn H1 H2->H1 b=none->H2 b=some (.lst (bs.map V.int))->(jCz l n f).2=bs->∀ t,H2 t=none->Q (.ref t) (upd H2 t (.tup [.ref p,.ref b])):=fun b H2 bs s2 nb hb eb t nt=>by
  have hp2:=s2 _ _ hp
  refine q _ _ ((s1.trans s2).trans (jAj nt _)) ⟨fun z=>z=t\/z=p\/z=b,?_,fun H3 h3=>⟨t,p,b,rfl,?_,?_,?_,(s1.trans s2).free nt,np,s1.free nb⟩⟩
  ·rintro z (rfl|rfl|rfl)
   ·exact⟨(s1.trans s2).free nt,_,jAb⟩
   ·exact⟨np,_,by rw [jAi (jAg hp2 nt)];exact hp2⟩
   ·exact⟨s1.free nb,_,by rw [jAi (jAg hb nt)];exact hb⟩
  ·rw [h3 t (.inl rfl)];exact jAb
  ·rw [h3 p (.inr (.inl rfl)),jAi (jAg hp2 nt)];exact hp2
  ·rw [h3 b (.inr (.inr rfl)),jAi (jAg hb nt),eb];exact hb
 cases hb:l.backs with
 | true =>
   refine jAU ⟨_,rfl,_,rfl,_,rfl,a,_,dx,_,_,rfl,hx1,cl.1,cl.2.1,rfl,_,_,rfl,rfl,_,rfl,a,_,dx,_,_,rfl,hx1,cl.1,cl.2.1,rfl,_,rfl,f+(l.cells:Int),n,l.cells,rfl,by omega,by omega,by omega,fun b H2 s2 nb hb2=>⟨wq2,fun t nt=>?_⟩⟩
   exact fin b H2 _ s2 nb hb2 (by unfold jCz;rw [hb,if_pos rfl]) t nt
 | false =>
   refine jAJ ⟨_,rfl,wq1,fun z nz=>⟨_,rfl,a,_,dx,_,_,rfl,(jAj nz _ _ _ hx1),cl.1,cl.2.1,rfl,z,_,_,rfl,rfl,jAb,by omega,by omega,?_,fun b nb=>⟨wq2,fun t nt=>?_⟩⟩⟩
   ·refine Nat.le_of_lt (jAW ?_)
    show 1*((l.cells:Int).toNat)<=1000
    omega
   ·refine fin b _ (List.replicate l.cells 0) ((jAj nz _).trans (jAj nb _)) ((jAj nz _).free nb) ?_ (by unfold jCz;rw [hb,if_neg (by decide)]) t nt
    rw [jAb]
    congr 2
    rw [Int.toNat_natCast]
    clear fin q
    induction l.cells with
    | zero=>rfl
    | succ k ih=>rw [List.replicate_succ,List.replicate_succ,List.flatten_cons,List.map_cons,ih];rfl
theorem jJO:jAk ["self","pages"] ["self","pages"] (jAh jEF):=scM
include T in
theorem jJP(F:Fun K "laid" "Layout.laid" jEF fa fd)(Dbb:MtE P w K mg base 1 "per_sheet" yZ ["self"] (jGt yZ yX yY))(Dbc:MtE P w K mg base 1 "per_sheet" yX ["self"] (jGt yZ yX yY))(Dbd:MtE P w K mg base 1 "per_sheet" yY ["self"] (jGt yZ yX yY))(Dbe:MtE P w K mg base 2 "sheet_from" yZ ["self","first","pages"] (jB2 yZ yX yY))(Dbf:MtE P w K mg base 2 "sheet_from" yX ["self","first","pages"] (jB2 yZ yX yY))(Dbg:MtE P w K mg base 2 "sheet_from" yY ["self","first","pages"] (jB2 yZ yX yY)) :
 jAr P w K mg base CX0 3 fa fd ["self","pages"] (jFf yZ yX yY):=by
 refine F.ok jJO (fun vs H Q E h=>?_) (fun cdv A outer s H vs Q E hr h=>?_)
 ·obtain⟨a,l,n,rfl,_⟩:=h
  rfl
 obtain⟨a,l,n,rfl,ok,hl,n0,n1,q⟩:=h
 have hp:=Ly.per_pos ok
 exists _,(jAf (jAo (jFa (frees:=[ ("pages",1) ,("self",0) ]) ⟨by decide +kernel,rfl,rfl,by decide +kernel,⟨⟨rfl,rfl,rfl,by decide +kernel⟩,⟨⟨rfl,rfl,rfl,by decide +kernel⟩,trivial⟩⟩,by decide +kernel,jBD rfl,rfl⟩ rfl (jNL rfl T.aE (jAa (jE1 T.bO rfl) (jAa (jAp jAO (pv 1) jAe) (jAa (jAs 1 jAL hr.m (pv 0)) jAc)))) (fun _ _ _ _=>jDL) (fun _ _ _ _=>by exact (jNJ (P:=P) (w:=w) (K:=K) (mg:=mg) (base:=base) ⟨rfl,rfl,rfl,rfl,rfl⟩ 2 jAL hr.m (pv 2) (jAa (pv 0) (jAa (pv 1) jAc)))))))
 obtain⟨dx,hx⟩:=id hl
 have cl:Cls K (LyC yZ yX yY l):=by
  cases l with
  | one=>exact T.aI
  | both=>exact T.aJ
  | up n=>exact T.aK
 have D1:MtE P w K mg base 1 "per_sheet" (LyC yZ yX yY l) ["self"] (jGt yZ yX yY):=by
  cases l with
  | one=>exact Dbb
  | both=>exact Dbc
  | up n=>exact Dbd
 have D2:MtE P w K mg base 2 "sheet_from" (LyC yZ yX yY l) ["self","first","pages"] (jB2 yZ yX yY):=by
  cases l with
  | one=>exact Dbe
  | both=>exact Dbf
  | up n=>exact Dbg
 exists _,rfl,_,_,rfl,rfl,_,rfl,a,_,dx,_,_,_,rfl,hx,rfl,cl,D1,a,l,rfl,ok,hl,_,_,_,rfl,⟨by decide,by decide,by omega,by omega,by omega,by omega⟩
 have hm:(n-1)/l.per*l.per<=n-1:=Nat.div_mul_le_self _ _
 have hm2:(n-1)/l.per<=n-1:=Nat.div_le_self _ _
 have ec:(if (1:Int)<(n:Int)+1 then ((n:Int)+1-1-1)/(l.per:Int)+1 else 0).toNat=jDj l n:=by
  rw [if_pos (by omega),show (n:Int)+1-1-1=((n-1:Nat):Int) from by omega,<- Int.natCast_ediv]
  unfold jDj
  generalize (n-1)/l.per=z
  omega
 rw [ec]
 refine jGK (jMU 1 (l.per:Int) (jDj l n) H) (fun x y H3=>∃ f:Int,x=.int f/\jEz H H3 y (jCz l n f)) ?_ (fun x hx' H' R _ r=>r) (fun x hx' H' R sm r=>?_) (fun D H' ys sm hD hH hl' hg=>?_)
 ·rw [List.length_map,List.length_range]
  unfold jDj
  exact jAW (by omega)
 ·obtain⟨i,hi,rfl⟩:=List.mem_map.mp hx'
  have hi':i<(n-1)/l.per+1:=List.mem_range.mp hi
  have hb:i*l.per<=(n-1)/l.per*l.per:=Nat.mul_le_mul_right _ (by omega)
  have hb2:((i:Nat):Int)*(l.per:Int)=((i*l.per:Nat):Int):=by rw [Int.natCast_mul]
  refine⟨_,rfl,a,_,dx,_,_,_,rfl,sm _ _ hx,rfl,cl,D2,_,rfl,_,rfl,a,l,_,_,rfl,ok,hl.same sm,by omega,by omega,fun y H'' s2 nw=>r y H'' s2 ?_⟩
  obtain⟨Z,z1,z2⟩:=nw
  exact⟨Z,z1,fun H3 h3=>⟨_,rfl,(z2 H3 h3).old sm⟩⟩
 ·refine q D H' sm hD ⟨ys,hH,?_,fun i y s ey es=>?_⟩
  ·rw [hl']
   unfold jDk
   simp only [List.length_range,List.length_map]
  ·have hi:i<jDj l n:=by
    have:=(List.getElem?_eq_some_iff.mp ey).1
    rw [hl',List.length_map,List.length_range] at this
    exact this
   unfold jDk at es
   rw [List.getElem?_map,List.getElem?_range hi] at es
   obtain rfl:=Option.some.inj es
   obtain⟨f,ef,g⟩:=hg i _ y (by rw [List.getElem?_map,List.getElem?_range hi];rfl) ey
   cases ef
   exact g
theorem jLD:jAk ["text"] ["text"] (jAh jF_):=scM
include T in
theorem jLE(F:Fun K "layout_of" "layout_of" jF_ fa fd)(Dbh:MkD P w K mg base 2 "Several" yY ["self","many"] (jDv yY))(Dbi:MkD P w K mg base 2 "One" yZ ["self"] (jGZ yZ [("cells",.int 1),("backs",.bl false)]))(Dbj:MkD P w K mg base 2 "Both" yX ["self"] (jGZ yX [("cells",.int 1),("backs",.bl true)])) :
 jAr P w K mg base CX0 4 fa fd ["text"] (jFA yZ yX yY):=by
 refine F.ok jLD (fun vs H Q E h=>?_) (fun cdv A outer s H vs Q E hr h=>?_)
 ·obtain⟨l,rfl,_⟩:=h
  rfl
 obtain⟨l,rfl,ok,q⟩:=h
 exists _,(jAd (jAE (tcA jA9 (pv 0) jAm) (jAf (jAo (jCy Dbi hr.m rfl))) jAw) (jAd (jAE (tcA jA9 (pv 0) jAm) (jAf (jAo (jCy Dbj hr.m rfl))) jAw) (jAf (jAo (jCh Dbh hr.m rfl (jAa (jB4 jHc rfl T.bp jNt (jAa (jGF jNx (pv 0) (jHI (jAQ jK8 rfl T.aB PySem.boot_len (jAa (jCg T.UP rfl) jAc))) jHH) jAc)) jAc))))))
 exists _,rfl,rfl,_,rfl
 cases l with
 | one=>exact jBo rfl fun x dx nx nd ne=>⟨x,dx,rfl,jAb,rfl,q x _ (jFP nx nd) nx ⟨dx,jAb⟩⟩
 | both=>exact jBx (by decide +kernel) ⟨_,rfl,rfl,_,rfl,jBo rfl fun x dx nx nd ne=>⟨x,dx,rfl,jAb,rfl,q x _ (jFP nx nd) nx ⟨dx,jAb⟩⟩⟩
 | up n =>
   obtain⟨u1,u2,u3,u4,u5⟩:=jNN ok.1 ok.2
   have l3:(((Str.ofString "up:").length:Nat):Int)=3:=by decide +kernel
   refine jBx (by intro z;injection z with z;exact u3 z) ⟨_,rfl,rfl,_,rfl,jBx (by intro z;injection z with z;exact u4 z) ?_⟩
   exists _,rfl,_,rfl,(by decide +kernel),_,rfl,_,rfl,small (Nat.le_trans u5 (by decide))
   rw [l3]
   exact⟨_,_,rfl,u1,Nat.le_trans u2 (by decide),fun x dx nx nd ne=>⟨x,dx,_,rfl,jAb,rfl,q x _ (jFP nx nd) nx ⟨dx,jAb⟩⟩⟩
inductive jGj(C:Addr)(vs:List V)(H:Hp)(Q:VK)(E_:XK):Prop|mk (x dx:Addr) (a b c d e f g h i j:V):vs=[.ref x,a,b,c,d,e,f,g,h,i,j]->H x=some (.ins C dx [])->Q .non (upd H x (.ins C dx (jDi a b c d e f g h i j)))->jGj C vs H Q E_
theorem jF0(a b c d e f g h i j:V):(jDi a b c d e f g h i j).lookup ("name":Str)=some a:=rfl
theorem jF2(a b c d e f g h i j:V):(jDi a b c d e f g h i j).lookup ("pages":Str)=some c:=rfl
theorem jF3(a b c d e f g h i j:V):(jDi a b c d e f g h i j).lookup ("copies":Str)=some d:=rfl
theorem jF4(a b c d e f g h i j:V):(jDi a b c d e f g h i j).lookup ("layout":Str)=some e:=rfl
theorem jF5(a b c d e f g h i j:V):(jDi a b c d e f g h i j).lookup ("paper":Str)=some f:=rfl
theorem jF6(a b c d e f g h i j:V):(jDi a b c d e f g h i j).lookup ("cover":Str)=some g:=rfl
theorem jF7(a b c d e f g h i j:V):(jDi a b c d e f g h i j).lookup ("colour":Str)=some h:=rfl
theorem jL9:jAk ["self","name","asker","pages","copies","layout","paper","cover","colour","staple","after"] ["self","name","asker","pages","copies","layout","paper","cover","colour","staple","after"] (jAh jGT):=scM
include T in
theorem jL_(F:Fun K "__init__" "Job.__init__" jGT fa fd)  :
 jAr P w K mg base CX0 1 fa fd ["self","name","asker","pages","copies","layout","paper","cover","colour","staple","after"] (jGj yG):=by
 refine F.ok jL9 (fun vs H Q E h=>?_) (fun cdv A outer s H vs Q E hr h=>?_)
 ·obtain⟨x,dx,a,b,c,d,e,f,g,h,i,j,rfl,_⟩:=h
  rfl
 obtain⟨x,dx,a,b,c,d,e,f,g,h,i,j,rfl,hx,q⟩:=h
 exists _,(jAd (jAM (pv 0) (pv 1) rfl) (jAd (jAM (pv 0) (pv 2) rfl) (jAd (jAM (pv 0) (pv 3) rfl) (jAd (jAM (pv 0) (pv 4) rfl) (jAd (jAM (pv 0) (pv 5) rfl) (jAd (jAM (pv 0) (pv 6) rfl) (jAd (jAM (pv 0) (pv 7) rfl) (jAd (jAM (pv 0) (pv 8) rfl) (jAd (jAM (pv 0) (pv 9) rfl) (jAf (jAM (pv 0) (pv 10) rfl)))))))))))
 refine⟨_,rfl,_,rfl,x,yG,dx,_,rfl,hx,T.ad,T.aF,(by show 0<1000;decide),?_⟩
 rw [jBV (by show ¬ ("name":Str)∈([]:List Str);decide +kernel)]
 refine⟨_,rfl,_,rfl,x,yG,dx,_,rfl,jAb,T.ad,T.bT,(by show 1<1000;decide),?_⟩
 rw [jBP,jBV (by show ¬ ("asker":Str)∈(["name"]:List Str);decide +kernel)]
 refine⟨_,rfl,_,rfl,x,yG,dx,_,rfl,jAb,T.ad,T.bv,(by show 2<1000;decide),?_⟩
 rw [jBP,jBV (by show ¬ ("pages":Str)∈(["name","asker"]:List Str);decide +kernel)]
 refine⟨_,rfl,_,rfl,x,yG,dx,_,rfl,jAb,T.ad,T.bw,(by show 3<1000;decide),?_⟩
 rw [jBP,jBV (by show ¬ ("copies":Str)∈(["name","asker","pages"]:List Str);decide +kernel)]
 refine⟨_,rfl,_,rfl,x,yG,dx,_,rfl,jAb,T.ad,T.bx,(by show 4<1000;decide),?_⟩
 rw [jBP,jBV (by show ¬ ("layout":Str)∈(["name","asker","pages","copies"]:List Str);decide +kernel)]
 refine⟨_,rfl,_,rfl,x,yG,dx,_,rfl,jAb,T.ad,T.aV,(by show 5<1000;decide),?_⟩
 rw [jBP,jBV (by show ¬ ("paper":Str)∈(["name","asker","pages","copies","layout"]:List Str);decide +kernel)]
 refine⟨_,rfl,_,rfl,x,yG,dx,_,rfl,jAb,T.ad,T.bn,(by show 6<1000;decide),?_⟩
 rw [jBP,jBV (by show ¬ ("cover":Str)∈(["name","asker","pages","copies","layout","paper"]:List Str);decide +kernel)]
 refine⟨_,rfl,_,rfl,x,yG,dx,_,rfl,jAb,T.ad,T.bz,(by show 7<1000;decide),?_⟩
 rw [jBP,jBV (by show ¬ ("colour":Str)∈(["name","asker","pages","copies","layout","paper","cover"]:List Str);decide +kernel)]
 refine⟨_,rfl,_,rfl,x,yG,dx,_,rfl,jAb,T.ad,T.bU,(by show 8<1000;decide),?_⟩
 rw [jBP,jBV (by show ¬ ("staple":Str)∈(["name","asker","pages","copies","layout","paper","cover","colour"]:List Str);decide +kernel)]
 refine⟨_,rfl,_,rfl,x,yG,dx,_,rfl,jAb,T.ad,T.bV,(by show 9<1000;decide),?_⟩
 rw [jBP,jBV (by show ¬ ("after":Str)∈(["name","asker","pages","copies","layout","paper","cover","colour","staple"]:List Str);decide +kernel)]
 exact q
structure Jv where
 n:Nat
 l:Ly
 paper:Str
 cover:Option Str
 colour:Option (Int×Int)
def Jv.Ok(j:Jv):Prop:=1<=j.n/\j.n<=999/\Ly.Ok j.l
def oV:Option Str->V
 | some z=>.str z
 | none=>.non
def jE6(H:Hp)(v:V):Option (Int×Int)->Prop
 | none=>v=.non
 | some c=>∃ t,v=.ref t/\H t=some (.tup [.int c.1,.int c.2])
theorem jE6.same{H H':Hp}{v:V}{c:Option (Int×Int)}(h:jE6 H v c)(k:jAn H H'):jE6 H' v c:=by
 cases c with
 | none=>exact h
 | some c=>obtain⟨t,e,g⟩:=h;exact⟨t,e,k _ _ g⟩
def JO(C:Addr)(H:Hp)(x:Addr)(j:Jv):Prop:=∃ dx a b d i k cv,H x=some (.ins C dx (jDi a b (.int (j.n:Int)) d (.str (Ly.text j.l)) (.str j.paper) (oV j.cover) cv i k))/\jE6 H cv j.colour
def jFQ(c:Option (Int×Int))(x:Int):Bool:=match c with
 | none=>false
 | some c=>decide (c.1<=x)&&decide (x<=c.2)
def jC9(s:List Int×List Int):List Int:=(s.1++s.2).filter fun x=>decide (x≠0)
def jG1(s:List Int×List Int)(c:Option (Int×Int)):Int×Int:=(((jC9 s).length:Int)-(((jC9 s).filter (jFQ c)).length:Int),(((jC9 s).filter (jFQ c)).length:Int))
inductive jFB(cJ:Addr)(vs:List V)(H:Hp)(Q:VK)(E_:XK):Prop|mk x j:vs=[.ref x]->JO cJ H x j->j.Ok->(∀ p H',jAn H H'->H p=none->jMJ H H' p (jDk j.l j.n)->Q (.ref p) H')->jFB cJ vs H Q E_
inductive jGk(cJ:Addr)(vs:List V)(H:Hp)(Q:VK)(E_:XK):Prop|mk x j (s:Int):vs=[.ref x,.int s]->JO cJ H x j->Q (.str (if s=0 then j.cover.getD j.paper else j.paper)) H->jGk cJ vs H Q E_
inductive jHy(K:PySem.W.Frag)(vs:List V)(H:Hp)(Q:VK)(E_:XK):Prop|mk (t:V) (cv:V) (s:List Int×List Int) (c:Option (Int×Int)):vs=[t,cv]->jFe H t s->s.1.length<=100->s.2.length<=100->jE6 H cv c->(∀ p H',jAn H H'->H p=none->H' p=some (.tup [.int (jG1 s c).1,.int (jG1 s c).2])->Q (.ref p) H')->jHy K vs H Q E_
inductive jEd(K:PySem.W.Frag)(vs:List V)(H:Hp)(Q:VK)(E_:XK):Prop|mk (x:Int) (cv:V) (c:Option (Int×Int)):vs=[.int x,cv]->jE6 H cv c->Q (.bl (jFQ c x)) H->jEd K vs H Q E_
theorem LyD{K:PySem.W.Frag}{cO cB cS:Addr}{M:Addr->Prop}(l:Ly)(h0:M cO)(h1:M cB)(h2:M cS):M (LyC cO cB cS l):=by
 cases l with
 | one=>exact h0
 | both=>exact h1
 | up n=>exact h2
theorem jLF:jAk ["job"] ["job"] (jAh jGa):=scM
include T in
theorem jLG(F:Fun K "sheets_of" "sheets_of" jGa fa fd)(Dbk:Dfn P w K mg base 4 "layout_of" ["text"] (jFA yZ yX yY))(Dbl:MtE P w K mg base 3 "laid" yZ ["self","pages"] (jFf yZ yX yY))(Dbm:MtE P w K mg base 3 "laid" yX ["self","pages"] (jFf yZ yX yY))(Dbn:MtE P w K mg base 3 "laid" yY ["self","pages"] (jFf yZ yX yY)) :
 jAr P w K mg base CX0 5 fa fd ["job"] (jFB yG):=by
 refine F.ok jLF (fun vs H Q E h=>?_) (fun cdv A outer s H vs Q E hr h=>?_)
 ·obtain⟨x,j,rfl,_⟩:=h
  rfl
 obtain⟨x,j,rfl,⟨dx,a,b,d,i,k,cv,hx,_⟩,⟨n0,n1,ok⟩,q⟩:=h
 exists _,(jAf (jAo (jAF 3 jAL hr.m (jAv Dbk hr.m rfl (jAa (jAq (pv 0) rfl) jAc)) (jAa (jAq (pv 0) rfl) jAc))))
 refine⟨_,rfl,x,yG,dx,_,_,rfl,hx,T.ad,T.bx,jF4 _ _ _ _ _ _ _ _ _ _,j.l,rfl,ok,fun y H1 s1 ny Y=>?_⟩
 obtain⟨dy,hy⟩:=id Y
 exists y,_,dy,_,_,_,rfl,hy,rfl,LyD (K:=K) (M:=fun C=>Cls K C) j.l T.aI T.aJ T.aK,LyD (K:=K) (M:=fun C=>MtE P w K mg base 3 "laid" C ["self","pages"] (jFf yZ yX yY)) j.l Dbl Dbm Dbn
 exact⟨_,rfl,x,yG,dx,_,_,rfl,s1 _ _ hx,T.ad,T.bv,jF2 _ _ _ _ _ _ _ _ _ _,y,j.l,j.n,rfl,ok,Y,n0,n1,fun p H' s2 np SF=>q p H' (s1.trans s2) (s1.free np) (let ⟨ys,e1,e2,g⟩:=SF;⟨ys,e1,e2,fun i y s h1 h2=>(g i y s h1 h2).old s1⟩)⟩
theorem jMa:jAk ["job","sheet"] ["job","sheet"] (jAh jGN):=scM
include T in
theorem jMb(F:Fun K "paper_of" "paper_of" jGN fa fd)  :
 jAr P w K mg base CX0 1 fa fd ["job","sheet"] (jGk yG):=by
 refine F.ok jMa (fun vs H Q E h=>?_) (fun cdv A outer s H vs Q E hr h=>?_)
 ·obtain⟨x,j,s,rfl,_⟩:=h
  rfl
 obtain⟨x,j,s,rfl,⟨dx,a,b,d,i,k,cv,hx,_⟩,q⟩:=h
 exists _,(jAd (jAE (PW.pt (jEq (tcA jA9 (pv 1) (jE1 T.bP rfl)) (jDI (tcA jE_ (jAq (pv 0) rfl) jBk)))) (jAf (jAo (jAq (pv 0) rfl))) jAw) (jAf (jAo (jAq (pv 0) rfl))))
 exists _,rfl,rfl,_,rfl
 by_cases hs:s=0
 ·subst hs
  rw [if_pos rfl] at q
  refine jBo rfl ?_
  refine⟨_,rfl,x,yG,dx,_,_,rfl,hx,T.ad,T.bn,jF6 _ _ _ _ _ _ _ _ _ _,(by cases j.cover<;>rfl),_,rfl,?_⟩
  cases e:j.cover with
  | none =>
    rw [e] at q
    exact jAJ ⟨_,rfl,x,yG,dx,_,_,rfl,hx,T.ad,T.aV,jF5 _ _ _ _ _ _ _ _ _ _,q⟩
  | some z =>
    rw [e] at q hx
    exact jAU ⟨_,rfl,x,yG,dx,_,_,rfl,hx,T.ad,T.bn,jF6 _ _ _ _ _ _ _ _ _ _,q⟩
 ·rw [if_neg hs] at q
  exact jBx (by intro z;injection z with z;exact hs z) (jAJ ⟨_,rfl,x,yG,dx,_,_,rfl,hx,T.ad,T.aV,jF5 _ _ _ _ _ _ _ _ _ _,q⟩)
theorem jJQ:jAk ["page","colour"] ["page","colour"] (jAh jEG):=scM
include T in
theorem jJR(F:Fun K "is_coloured" "is_coloured" jEG fa fd)  :
 jAr P w K mg base CX0 1 fa fd ["page","colour"] (jEd K):=by
 refine F.ok jJQ (fun vs H Q E h=>?_) (fun cdv A outer s H vs Q E hr h=>?_)
 ·obtain⟨x,cv,c,rfl,_⟩:=h
  rfl
 obtain⟨x,cv,c,rfl,hc,q⟩:=h
 exists _,(jAf (jAo (jIt (ecA jE_ (pv 1) jBk) (jIs (jN4 jGD jGD (ixA jAI (pv 1) jAe) (pv 0) (ixA jAI (pv 1) jAe))))))
 cases c with
 | none =>
   have e:cv=.non:=hc
   subst e
   exact⟨_,rfl,rfl,false,rfl,jAJ q⟩
 | some c =>
   obtain⟨t,rfl,ht⟩:=hc
   refine⟨_,rfl,rfl,true,rfl,jAU ?_⟩
   exists _,rfl,t,_,_,_,rfl,rfl,SqT.of ht,jAl (j:=0) rfl,_,rfl,_,_,rfl,rfl,decide (c.1<=x),rfl
   have e:jFQ (some c) x=(decide (c.1<=x)&&decide (x<=c.2)):=rfl
   rw [e] at q
   cases h1:decide (c.1<=x) with
   | false =>
     rw [h1] at q
     exact jAJ q
   | true =>
     rw [h1] at q
     exact jAU ⟨_,rfl,t,_,_,_,rfl,rfl,SqT.of ht,jAl (j:=1) rfl,_,_,rfl,rfl,q⟩
theorem jLH(xs:List Int)(p:Int->Bool):(((xs.map V.int).filter fun v=>match v with|.int x=>p x|_=>false).map fun v=>v)=(xs.filter p).map V.int:=by
 rw [List.map_id']
 induction xs with
 | nil=>rfl
 | cons x r ih =>
   rw [List.map_cons,List.filter_cons,List.filter_cons]
   dsimp only
   by_cases h:p x=true
   ·rw [if_pos h,if_pos h,List.map_cons,ih]
   ·rw [if_neg h,if_neg h,ih]
theorem jHz:jAk ["sheet","colour","printed","coloured"] ["sheet","colour"] (jAh jIk):=scM
include T in
theorem jNP(F:Fun K "ink_of" "ink_of" jIk fa fd)(Dbo:Dfn P w K mg base 1 "is_coloured" ["page","colour"] (jEd K)) :
 jAr P w K mg base CX0 2 fa fd ["sheet","colour"] (jHy K):=by
 refine F.ok jHz (fun vs H Q E h=>?_) (fun cdv A outer s H vs Q E hr h=>?_)
 ·obtain⟨t,cv,s,c,rfl,_⟩:=h
  rfl
 obtain⟨t,cv,s,c,rfl,⟨ta,fa',ba,rfl,ht,hf,hb⟩,lf,lb,hc,q⟩:=h
 exists _,(jAd (jJt (i:=2) (frees:=[]) ⟨by decide +kernel,rfl,rfl,by decide +kernel,trivial,by decide +kernel,jBD rfl,rfl⟩ jHz.nd rfl rfl rfl (jBt (jAp jHn (ixA jAI (pv 0) jAe) (ixA jAI (pv 0) jAe))) (fun _ _ _ _=>by exact (jIj (tcA jHG (pv 0) (jE1 T.aX rfl)))) (fun _ _ _ _=>by exact (pv 0))) (jAd (psA (i:=3) jHz.nd (jAQ jBT rfl T.aB PySem.boot_len (jAa (jFa (frees:=[ ("colour",1) ]) ⟨by decide +kernel,rfl,rfl,by decide +kernel,⟨⟨rfl,rfl,rfl,by decide +kernel⟩,trivial⟩,by decide +kernel,jBD rfl,rfl⟩ rfl (jBt (pv 2)) (fun _ _ _ _=>by exact (jIj (jNy (K:=K) rfl (jAv Dbo hr.m rfl (jAa (pv 0) (jAa (pv 1) jAc))) (fun _=>rfl)))) (fun _ _ _ _=>by exact (pv 0))) jAc))) (jAf (jAo (jAN (jAa (jAp jB_ (jAQ jBT rfl T.aB PySem.boot_len (jAa (pv 2) jAc)) (pv 3)) (jAa (pv 3) jAc)))))))
 refine⟨_,rfl,ta,_,_,_,rfl,rfl,SqT.of ht,jAl (j:=0) rfl,_,rfl,ta,_,_,_,rfl,rfl,SqT.of ht,jAl (j:=1) rfl,fa',ba,_,_,rfl,rfl,hf,hb,(by rw [List.length_map,List.length_map];exact small (by omega)),fun pc npc=>?_⟩
 rw [<- List.map_append]
 have s1:=jAj npc (.lst ((s.1++s.2).map V.int))
 refine⟨pc,rfl,⟨_,SqL.of jAb⟩,jEu (jGH (K:=K) (SqL.of jAb)) (fun v=>match v with|.int x=>decide (x≠0)|_=>false) (fun v=>v) ?_ (fun x hx H' R _ r=>?_) (fun x hx H' R sm _ r=>⟨_,rfl,r⟩) (fun D H2 s2 hD hH=>?_)⟩
 ·rw [List.length_map,List.length_append]
  exact jAW (by omega)
 ·obtain⟨y,_,rfl⟩:=List.mem_map.mp hx
  exists _,rfl,rfl,_,rfl
  have e:(!decide (V.int y=V.int 0))=decide (y≠0):=by
   by_cases h:y=0
   ·rw [decide_eq_true (by rw [h]),decide_eq_false (fun z=>z h)];rfl
   ·rw [decide_eq_false (by intro z;injection z with z;exact h z),decide_eq_true h];rfl
  rw [e]
  exact r
 rw [jLH] at hH
 have hH':H2 D=some (.lst ((jC9 s).map V.int)):=hH
 have lp:(jC9 s).length<=200:=by
  refine Nat.le_trans (List.length_filter_le _ _) ?_
  rw [List.length_append]
  omega
 have s12:=s1.trans s2
 refine⟨_,rfl,D,rfl,⟨_,SqL.of hH'⟩,jEu (jGH (K:=K) (SqL.of hH')) (fun v=>match v with|.int x=>jFQ c x|_=>false) (fun v=>v) ?_ (fun x hx H' R sm r=>?_) (fun x hx H' R sm _ r=>⟨_,rfl,r⟩) (fun D2 H3 s3 hD2 hH3=>?_)⟩
 ·rw [List.length_map]
  exact jAW (by omega)
 ·obtain⟨y,_,rfl⟩:=List.mem_map.mp hx
  exact⟨_,rfl,_,rfl,y,cv,c,rfl,(hc.same s12).same sm,_,rfl,r⟩
 rw [jLH] at hH3
 exists D2,_,rfl,.inl (SqL.of hH3)
 refine⟨_,rfl,D,_,rfl,.inl (SqL.of (s3 _ _ hH')),_,rfl,_,_,rfl,rfl,_,rfl,wq2,fun p np=>?_⟩
 refine q p _ ((s12.trans s3).trans (jAj np _)) ((s12.trans s3).free np) ?_
 rw [jAb]
 unfold jG1
 simp only [List.length_map]
inductive jCt(K:PySem.W.Frag)(vs:List V)(H:Hp)(Q:VK)(E_:XK):Prop|mk (a:Addr) (k:Int) (ns:List Int):vs=[.ref a,.int k]->SqL K H a (ns.map V.int)->0<=k->Q (.int (ns.getD k.toNat 0)) H->jCt K vs H Q E_
theorem jJa:jAk ["_law_script","_law_k"] ["_law_script","_law_k"] (jAh jD6):=scM
include T in
theorem jJb(F:Fun K "_law_cell_at" "_law_cell_at" jD6 fa fd)  :
 jAr P w K mg base CX0 1 fa fd ["_law_script","_law_k"] (jCt K):=by
 refine F.ok jJa (fun vs H Q E h=>?_) (fun cdv A outer s H vs Q E hr h=>?_)
 ·obtain⟨a,k,ns,rfl,_⟩:=h
  rfl
 obtain⟨a,k,ns,rfl,hS,k0,q⟩:=h
 exists _,(jAd (jAE (tcA jEZ (pv 1) (jAQ jBT rfl T.aB PySem.boot_len (jAa (pv 0) jAc))) (jAf (jAo (ixA jCX (pv 0) (pv 1)))) jAw) (jAf (jAo jAe)))
 exists _,rfl,_,rfl,a,_,rfl,.inl hS,_,_,rfl,rfl,_,rfl
 refine jDK (fun c=>?_) (fun c=>?_)
 ·refine⟨_,rfl,_,rfl,a,_,_,rfl,rfl,hS,k0,of_decide_eq_true c,fun v hv=>?_⟩
  rw [List.getElem?_map] at hv
  obtain⟨z,ez,rfl⟩:=Option.map_eq_some_iff.mp hv
  rw [List.getD_eq_getElem?_getD,ez] at q
  exact q
 ·have c':¬ k<((ns.map V.int).length:Int):=fun z=>c (decide_eq_true z)
  rw [List.length_map] at c'
  rw [List.getD_eq_getElem?_getD,List.getElem?_eq_none (by omega)] at q
  exact q
def jDx(c k m:Int):Int:=((c%1000003+1)*(k*k+48271))%(([65537,64007,62003]:List Int).getD (k%3).toNat 1)%m
theorem jFC{c k m:Int}(h:0<m):0<=jDx c k m:=Int.emod_nonneg _ (by omega)
theorem jFD{c k m:Int}(h:0<m):jDx c k m<m:=Int.emod_lt_of_pos _ h
inductive jEm(K:PySem.W.Frag)(vs:List V)(H:Hp)(Q:VK)(E_:XK):Prop|mk (c k m:Int):vs=[.int c,.int k,.int m]->0<=k->k<=10000->0<m->(∀ H',jAn H H'->Q (.int (jDx c k m)) H')->jEm K vs H Q E_
theorem jMc:jAk ["_law_cell","_law_k","_law_many"] ["_law_cell","_law_k","_law_many"] (jAh jGU):=scM
include T in
theorem jMd(F:Fun K "_law_mix" "_law_mix" jGU fa fd)  :
 jAr P w K mg base CX0 1 fa fd ["_law_cell","_law_k","_law_many"] (jEm K):=by
 refine F.ok jMc (fun vs H Q E h=>?_) (fun cdv A outer s H vs Q E hr h=>?_)
 ·obtain⟨c,k,m,rfl,_⟩:=h
  rfl
 obtain⟨c,k,m,rfl,k0,k1,m0,q⟩:=h
 have z3:3<=sizeLine:=small (by decide)
 exists _,(jAf (jAo (jAp jA7 (jAp jA7 (jAp jCR (jAp jAO (jAp jA7 (pv 0) jAe) jAe) (jAp jAO (jAp jCR (pv 1) (pv 1)) jAe)) (ixA jCX (jAV (jAa jAe (jAa jAe (jAa jAe jAc)))) (jAp jA7 (pv 1) jAe))) (pv 2))))
 have b0:=Int.emod_nonneg c (show (1000003:Int)≠0 by decide)
 have b1:=Int.emod_lt_of_pos c (show (0:Int)<1000003 by decide)
 have d0:=Int.emod_nonneg k (show (3:Int)≠0 by decide)
 have d1:=Int.emod_lt_of_pos k (show (0:Int)<3 by decide)
 refine⟨_,rfl,_,_,rfl,rfl,(by show (0:Int)<1000003;decide),_,_,rfl,rfl,_,rfl,_,rfl,_,_,rfl,rfl,.inr ⟨by omega,by omega⟩,_,_,rfl,rfl,_,_,rfl,rfl,.inl ⟨by omega,by omega⟩,z3,fun p np=>?_⟩
 have s1:=jAj np (.lst [V.int 65537,V.int 64007,V.int 62003])
 have h1:upd H p (.lst [V.int 65537,V.int 64007,V.int 62003]) p=some (.lst (([65537,64007,62003]:List Int).map V.int)):=jAb
 generalize upd H p (.lst [V.int 65537,V.int 64007,V.int 62003])=H1 at s1 h1 ⊢
 refine⟨_,rfl,_,_,rfl,rfl,(by show (0:Int)<3;decide),p,_,_,rfl,rfl,SqL.of h1,d0,(by show k%3<3;exact d1),fun v hv=>?_⟩
 rw [List.getElem?_map] at hv
 obtain⟨d,ed,rfl⟩:=Option.map_eq_some_iff.mp hv
 have hd:0<d:=by
  have hm:=List.mem_of_getElem? ed
  simp only [List.mem_cons,List.not_mem_nil,or_false] at hm
  rcases hm with rfl|rfl|rfl<;>decide
 have eg:([65537,64007,62003]:List Int).getD (k%3).toNat 1=d:=by rw [List.getD_eq_getElem?_getD,ed];rfl
 exists _,_,rfl,rfl,hd,_,rfl,_,_,rfl,rfl,m0
 have:=q H1 s1
 unfold jDx at this
 rw [eg] at this
 exact this
abbrev abc:Str:=Str.ofString "abcdefghijklmnopqrstuvwxyz"
def ltr5(j:Nat):Nat:=abc.cps.toList.getD j 0
def stp(c t:Int)(k:Nat):Int:=c/12+(k:Int)*(k:Int)+(if (k:Int)=c/144%(1+c%12) then t else 0)
def jDy(c t:Int)(n:Nat):List Nat:=(List.range n).map fun k=>ltr5 (stp c t k%26).toNat
def jFR(c t:Int)(n:Nat):Str:=⟨(jDy c t n).toArray⟩
theorem jKr{c t:Int}{i:Nat}{S:Int}{ch:Nat}(e:S=stp c t i)(h:abc.cps.toList[(S%26).toNat]?=some ch):jFR c t i++(⟨#[ch]⟩:Str)=jFR c t (i+1):=by
 refine Blk.sg_inj ?_
 rw [Blk.sg_app]
 show jDy c t i++[ch]=jDy c t (i+1)
 unfold jDy
 rw [List.range_succ,List.map_append]
 have:ltr5 (stp c t i%26).toNat=ch:=by
  unfold ltr5
  rw [List.getD_eq_getElem?_getD,<- e,h]
  rfl
 rw [List.map_cons,List.map_nil,this]
theorem jOv{c t:Int}{n:Nat}:(jFR c t n).length=n:=by
 show (jDy c t n).toArray.size=n
 unfold jDy
 rw [List.size_toArray,List.length_map,List.length_range]
def jDz(c:Int):Nat:=(1+c%12).toNat
theorem jOw:∀ a b:Nat,a<26->b<26->ltr5 a=ltr5 b->a=b:=by
 have h:∀ a:Fin 26,∀ b:Fin 26,ltr5 a.1=ltr5 b.1->a=b:=by decide +kernel
 intro a b ha hb e
 exact congrArg Fin.val (h ⟨a,ha⟩ ⟨b,hb⟩ e)
theorem word_ne{c t u:Int}(t0:0<=t)(t1:t<26)(u0:0<=u)(u1:u<26)(e:jFR c t (jDz c)=jFR c u (jDz c)):t=u:=by
 have m0:=Int.emod_nonneg c (show (12:Int)≠0 by decide)
 have m1:=Int.emod_lt_of_pos c (show (0:Int)<12 by decide)
 have ez:((jDz c:Nat):Int)=1+c%12:=by unfold jDz;omega
 have e2:jDy c t (jDz c)=jDy c u (jDz c):=congrArg Blk.sg e
 have p0:=Int.emod_nonneg (c/144) (show (1+c%12:Int)≠0 by omega)
 have p1:=Int.emod_lt_of_pos (c/144) (show (0:Int)<1+c%12 by omega)
 obtain⟨p,hp⟩:∃ p:Nat,(p:Int)=c/144%(1+c%12):=⟨(c/144%(1+c%12)).toNat,by omega⟩
 have hk:p<jDz c:=by omega
 have e3:(jDy c t (jDz c))[p]?=(jDy c u (jDz c))[p]?:=by rw [e2]
 unfold jDy at e3
 rw [List.getElem?_map,List.getElem?_map,List.getElem?_range hk] at e3
 have e4:=Option.some.inj e3
 have a0:=Int.emod_nonneg (stp c t p) (show (26:Int)≠0 by decide)
 have a1:=Int.emod_lt_of_pos (stp c t p) (show (0:Int)<26 by decide)
 have b0:=Int.emod_nonneg (stp c u p) (show (26:Int)≠0 by decide)
 have b1:=Int.emod_lt_of_pos (stp c u p) (show (0:Int)<26 by decide)
 have h1:=jOw _ _ (by omega) (by omega) e4
 have h2:stp c t p%26=stp c u p%26:=by omega
 unfold stp at h2
 rw [if_pos hp,if_pos hp] at h2
 generalize c/12+(p:Int)*(p:Int)=X at h2
 omega
inductive jFE(K:PySem.W.Frag)(vs:List V)(H:Hp)(Q:VK)(E_:XK):Prop|mk (c t:Int):vs=[.int c,.int t]->Q (.str (jFR c t (jDz c))) H->jFE K vs H Q E_
theorem jBH:jAk ["_law_cell","_law_turn","_law_letters","_law_size","_law_word_here","_law_k","_law_step"] ["_law_cell","_law_turn"] (jAh jGi):=scM
include T in
theorem jLI(F:Fun K "_law_word" "_law_word" jGi fa fd)  :
 jAr P w K mg base CX0 1 fa fd ["_law_cell","_law_turn"] (jFE K):=by
 refine F.ok jBH (fun vs H Q E h=>?_) (fun cdv A outer s H vs Q E hr h=>?_)
 ·obtain⟨c,t,rfl,_⟩:=h
  rfl
 obtain⟨c,t,rfl,q⟩:=h
 exists _,(jAd (psA (i:=2) jBH.nd jAm) (jAd (psA (i:=3) jBH.nd (jAp jAO jAe (jAp jA7 (pv 0) jAe))) (jAd (psA (i:=4) jBH.nd jAm) (jAd (jBS PassesOwn.never rfl (jFK rfl T.aE (jAa (pv 3) jAc)) (pgA (i:=5) jBH.nd) (jAd (psA (i:=6) jBH.nd (jAp jAO (jAp jCp (pv 0) jAe) (jAp jCR (pv 5) (pv 5)))) (jAd (jAE (tcA jA9 (pv 5) (jAp jA7 (jAp jCp (pv 0) jAe) (pv 3))) (jAf (psA (i:=6) jBH.nd (jAp jAO (pv 6) (pv 1)))) jAw) (jAf (psA (i:=4) jBH.nd (jAp jIx (pv 4) (ixA ix_strA (pv 2) (jAp jA7 (pv 6) jAe)))))))) (jAf (jAo (pv 4)))))))
 have m0:=Int.emod_nonneg c (show (12:Int)≠0 by decide)
 have m1:=Int.emod_lt_of_pos c (show (0:Int)<12 by decide)
 have l26:abc.length=26:=by decide +kernel
 refine⟨_,rfl,_,_,rfl,rfl,(by show (0:Int)<12;decide),_,_,rfl,rfl,?_⟩
 refine⟨_,rfl,_,rfl,by omega,by omega,jJ2 (lo:=0) (n:=(1+c%12).toNat) (fun i σ H'=>H'=H/\∃ (v5 v6:Option V),σ=[some (.int c),some (.int t),some (.str abc),some (.int (1+c%12)),some (.str (jFR c t i)),v5,v6]) ⟨rfl,_,_,rfl⟩ (fun i σ H' hi z=>?_) (fun σ H' z=>?_)⟩
 ·obtain⟨rfl,v5,v6,rfl⟩:=z
  rw [Int.zero_add]
  exists _,rfl,_,_,rfl,rfl,⟨by decide,by decide⟩,_,rfl,_,rfl,_,_,rfl,rfl,.inl ⟨by omega,by omega⟩,_,_,rfl,rfl
  refine⟨_,rfl,_,rfl,_,_,rfl,rfl,⟨by decide,by decide⟩,_,rfl,_,_,rfl,rfl,(by show (0:Int)<1+c%12;omega),rfl,_,rfl,?_⟩
  have one:∀ ch:Nat,(⟨#[ch]⟩:Str).length=1:=fun _=>rfl
  have un:∀ {a b:Int},decide (V.int a=V.int b)=true->a=b:=fun h=>by
   have:=of_decide_eq_true h
   injection this
  have nu:∀ {a b:Int},¬ decide (V.int a=V.int b)=true->¬ a=b:=fun h e=>h (decide_eq_true (by rw [e]))
  refine jDK (fun c1=>⟨_,rfl,_,rfl,_,_,rfl,rfl,?_⟩) (fun c1=>?_)
  all_goals
   refine⟨_,rfl,_,rfl,_,rfl,_,_,rfl,rfl,(by show (0:Int)<26;decide),_,_,rfl,rfl,(by rw [l26];exact small (by decide)),Int.emod_nonneg _ (by decide),(by rw [l26];exact Int.emod_lt_of_pos _ (by decide)),fun ch hch=>?_⟩
   refine⟨_,_,rfl,rfl,(by rw [one,jOv];exact small (by omega)),?_⟩
  ·rw [jKr (i:=i) (by unfold stp;rw [if_pos (un c1)]) hch]
   exact⟨rfl,_,_,rfl⟩
  ·rw [jKr (i:=i) (by unfold stp;rw [if_neg (nu c1),Int.add_zero]) hch]
   exact⟨rfl,_,_,rfl⟩
 ·obtain⟨rfl,v5,v6,rfl⟩:=z
  exact⟨_,rfl,q⟩
theorem jLJ:jAk ["self","job"] ["self","job"] (jAh jF8):=scM
include T in
theorem jLK(F:Fun K "__init__" "Over.__init__" jF8 fa fd)  :
 jAr P w K mg base CX0 1 fa fd ["self","job"] (jBh vW "job"):=by
 refine F.ok jLJ (fun vs H Q E h=>?_) (fun cdv A outer s H vs Q E hr h=>?_)
 ·obtain⟨x,y,rfl,_⟩:=h
  rfl
 obtain⟨x,y,rfl,hx,q⟩:=h
 exists _,(jAd (jAy (jDM T.aH rfl T.aD (jAa (pv 0) (jAa (pv 1) jAc)))) (jAf (jFb (pv 0) (pv 1) rfl)))
 exists _,rfl,_,rfl,x,_,none,[y],rfl,(by simp),hx,T.aj.m
 refine⟨_,rfl,_,rfl,.inl ⟨x,_,rfl,hx,T.aj.i.c,T.aj.n _ (.head _),fun dx nd ne=>?_⟩⟩
 exact q _ (jEb nd) (jGq ne)
theorem jJc:jAk ["self","job"] ["self","job"] (jAh jDT):=scM
include T in
theorem jJd(F:Fun K "__init__" "Nowhere.__init__" jDT fa fd)  :
 jAr P w K mg base CX0 1 fa fd ["self","job"] (jBh vJ "job"):=by
 refine F.ok jJc (fun vs H Q E h=>?_) (fun cdv A outer s H vs Q E hr h=>?_)
 ·obtain⟨x,y,rfl,_⟩:=h
  rfl
 obtain⟨x,y,rfl,hx,q⟩:=h
 exists _,(jAd (jAy (jDM T.aH rfl T.aD (jAa (pv 0) (jAa (pv 1) jAc)))) (jAf (jFb (pv 0) (pv 1) rfl)))
 exists _,rfl,_,rfl,x,_,none,[y],rfl,(by simp),hx,T.al.m
 refine⟨_,rfl,_,rfl,.inl ⟨x,_,rfl,hx,T.al.i.c,T.al.n _ (.head _),fun dx nd ne=>?_⟩⟩
 exact q _ (jEb nd) (jGq ne)
def prV:Option Addr->V
 | none=>.non
 | some a=>.ref a
def jG2(cJ:Addr)(H:Hp)(x:Addr)(nm:Str)(cp:Nat)(j:Jv):Prop:=∃ dx b i k cv,H x=some (.ins cJ dx (jDi (.str nm) b (.int (j.n:Int)) (.int (cp:Int)) (.str (Ly.text j.l)) (.str j.paper) (oV j.cover) cv i k))/\jE6 H cv j.colour
theorem jG2.jo{cJ:Addr}{H:Hp}{x:Addr}{nm:Str}{cp:Nat}{j:Jv}(h:jG2 cJ H x nm cp j):JO cJ H x j:=let ⟨dx,b,i,k,cv,e,c⟩:=h;⟨dx,_,b,_,i,k,cv,e,c⟩
theorem jG2.fr{cJ:Addr}{H H':Hp}{x:Addr}{nm:Str}{cp:Nat}{j:Jv}(h:jG2 cJ H x nm cp j)(kx:∀ o,H x=some o->H' x=some o)(kt:∀ b xs,H b=some (.tup xs)->H' b=some (.tup xs)):jG2 cJ H' x nm cp j:=by
 obtain⟨dx,b,i,k,cv,e,c⟩:=h
 exists dx,b,i,k,cv,kx _ e
 cases hc:j.colour with
 | none=>rw [hc] at c;exact c
 | some z=>rw [hc] at c;obtain⟨t,e1,e2⟩:=c;exact⟨t,e1,kt _ _ e2⟩
def jHA(H:Hp)(p:Addr)(is:List (Int×Int)):Prop:=∃ ys,H p=some (.lst ys)/\ys.length=is.length/\∀ (i:Nat) y s,ys[i]?=some y->is[i]?=some s->∃ t,y=.ref t/\H t=some (.tup [.int s.1,.int s.2])
theorem jHA.fr{H H':Hp}{p:Addr}{is:List (Int×Int)}(h:jHA H p is)(kx:∀ o,H p=some o->H' p=some o)(kt:∀ b xs,H b=some (.tup xs)->H' b=some (.tup xs)):jHA H' p is:=let ⟨ys,e,l,g⟩:=h;⟨ys,kx _ e,l,fun i y s a b=>let ⟨t,e1,e2⟩:=g i y s a b;⟨t,e1,kt _ _ e2⟩⟩
structure RD where
 dx:Addr
 jb:Addr
 il:Addr
 nm:Str
 cp:Nat
 j:Jv
 inks:List (Int×Int)
 ps:Nat
 pr:Option Addr
 sl:Bool
 br:Bool
def RD.fs(r:RD):List (Str×V):=[("job",.ref r.jb),("inks",.ref r.il),("passed",.int (r.ps:Int)),("printer",prV r.pr),("slipped",.bl r.sl),("broken",.bl r.br)]
structure jA0(cR cJ:Addr)(H:Hp)(x:Addr)(r:RD):Prop where
 o:H x=some (.ins cR r.dx r.fs)
 j:jG2 cJ H r.jb r.nm r.cp r.j
 i:jHA H r.il r.inks
 n:r.jb≠x
 c1:1<=r.cp
 c2:r.cp<=99
 i1:1<=r.inks.length
 i2:r.inks.length<=999
theorem jA0.fr{cR cJ:Addr}{H H':Hp}{x:Addr}{r:RD}(h:jA0 cR cJ H x r)(kx:∀ b C d fs,H b=some (.ins C d fs)->H' b=some (.ins C d fs))(kl:∀ o,H r.il=some o->H' r.il=some o)(kt:∀ b xs,H b=some (.tup xs)->H' b=some (.tup xs)):jA0 cR cJ H' x r:=by
 obtain⟨dx,b,i,k,cv,e,c⟩:=id h.j
 exact { h with o:=kx _ _ _ _ h.o,j:=h.j.fr (fun o e'=>by rw [e] at e';cases e';exact kx _ _ _ _ e) kt,i:=h.i.fr kl kt }
theorem jA0.same{cR cJ:Addr}{H H':Hp}{x:Addr}{r:RD}(h:jA0 cR cJ H x r)(k:jAn H H'):jA0 cR cJ H' x r:=h.fr (fun b C d fs e=>k _ _ e) (fun o e=>k _ _ e) (fun b xs e=>k _ _ e)
theorem jA0.set{cR cJ:Addr}{H:Hp}{x:Addr}{r:RD}(h:jA0 cR cJ H x r)(ps:Nat)(pr:Option Addr)(sl br:Bool):jA0 cR cJ (upd H x (.ins cR r.dx ({ r with ps:=ps,pr:=pr,sl:=sl,br:=br }:RD).fs)) x { r with ps:=ps,pr:=pr,sl:=sl,br:=br }:=by
 obtain⟨ys,hy,_⟩:=id h.i
 exact { h with o:=jAb,j:=h.j.fr (fun o e=>by rw [jAi h.n];exact e) (fun b xs e=>by rw [jAi (jAu e h.o nofun)];exact e),i:=h.i.fr (fun o e=>by rw [jAi (jAu hy h.o nofun)];exact e) (fun b xs e=>by rw [jAi (jAu e h.o nofun)];exact e) }
def RD.tot(r:RD):Nat:=r.inks.length*r.cp
inductive jDA(cR cJ cP cS cY cM cW:Addr)(vs:List V)(H:Hp)(Q:VK)(E_:XK):Prop|mk x r:vs=[.ref x]->jA0 cR cJ H x r->Q (.int (r.inks.length:Int)) H->jDA cR cJ cP cS cY cM cW vs H Q E_
theorem jMe:jAk ["self"] ["self"] (jAh jGP):=scM
include T in
theorem jMf(F:Fun K "each" "Run.each" jGP fa fd)  :
 jAr P w K mg base CX0 1 fa fd ["self"] (jDA yK yG cZ cQ yJ yW yU):=by
 refine F.ok jMe (fun vs H Q E h=>?_) (fun cdv A outer s H vs Q E hr h=>?_)
 ·obtain⟨x,r,rfl,_⟩:=h
  rfl
 obtain⟨x,r,rfl,R,q⟩:=h
 exists _,(jAf (jAo (jAQ jBT rfl T.aB PySem.boot_len (jAa (jAq (pv 0) rfl) jAc))))
 obtain⟨ys,hy,ly,_⟩:=id R.i
 exists _,rfl,x,yK,r.dx,_,_,rfl,R.o,T.aa,T.bi,rfl,r.il,_,rfl,.inl (SqL.of hy)
 rw [ly]
 exact q
inductive jEn(cR cJ cP cS cY cM cW:Addr)(vs:List V)(H:Hp)(Q:VK)(E_:XK):Prop|mk x r:vs=[.ref x]->jA0 cR cJ H x r->Q (.int (r.tot:Int)) H->jEn cR cJ cP cS cY cM cW vs H Q E_
theorem jLL:jAk ["self"] ["self"] (jAh jGf):=scM
include T in
theorem jLM(F:Fun K "total" "Run.total" jGf fa fd)(Dag:MtE P w K mg base 1 "each" yK ["self"] (jDA yK yG cZ cQ yJ yW yU)) :
 jAr P w K mg base CX0 2 fa fd ["self"] (jEn yK yG cZ cQ yJ yW yU):=by
 refine F.ok jLL (fun vs H Q E h=>?_) (fun cdv A outer s H vs Q E hr h=>?_)
 ·obtain⟨x,r,rfl,_⟩:=h
  rfl
 obtain⟨x,r,rfl,R,q⟩:=h
 exists _,(jAf (jAo (jAp jCR (jAs 1 jAL hr.m (pv 0)) (jAq (jAq (pv 0) rfl) rfl))))
 obtain⟨dx,b,i,k,cv,e,c⟩:=id R.j
 have:=R.i2
 have:=R.c2
 exists _,rfl,x,_,r.dx,_,_,_,rfl,R.o,rfl,T.aa,Dag,x,r,rfl,R,_,rfl,x,yK,r.dx,_,_,rfl,R.o,T.aa,T.aA,rfl,r.jb,yG,dx,_,_,rfl,e,T.ad,T.bw,jF3 _ _ _ _ _ _ _ _ _ _,_,_,rfl,rfl,.inl ⟨by omega,by omega⟩
 have e2:((r.tot:Nat):Int)=(r.inks.length:Int)*(r.cp:Int):=by unfold RD.tot;rw [Int.natCast_mul]
 rw [e2] at q
 exact q
inductive jHB(cR cJ cP cS cY cM cW:Addr)(vs:List V)(H:Hp)(Q:VK)(E_:XK):Prop|mk x r:vs=[.ref x]->jA0 cR cJ H x r->Q (.int (r.ps:Int)) H->jHB cR cJ cP cS cY cM cW vs H Q E_
theorem jM0:jAk ["self"] ["self"] (jAh jHt):=scM
include T in
theorem jM1(F:Fun K "out" "Run.out" jHt fa fd)  :
 jAr P w K mg base CX0 1 fa fd ["self"] (jHB yK yG cZ cQ yJ yW yU):=by
 refine F.ok jM0 (fun vs H Q E h=>?_) (fun cdv A outer s H vs Q E hr h=>?_)
 ·obtain⟨x,r,rfl,_⟩:=h
  rfl
 obtain⟨x,r,rfl,R,q⟩:=h
 exists _,(jAf (jAo (jAq (pv 0) rfl)))
 exact⟨_,rfl,x,yK,r.dx,_,_,rfl,R.o,T.aa,T.aC,rfl,q⟩
inductive jB8(cR cJ cP cS cY cM cW:Addr)(vs:List V)(H:Hp)(Q:VK)(E_:XK):Prop|mk x r:vs=[.ref x]->jA0 cR cJ H x r->Q (.bl (decide (r.ps=r.tot))) H->jB8 cR cJ cP cS cY cM cW vs H Q E_
theorem jLN:jAk ["self"] ["self"] (jAh jGg):=scM
include T in
theorem jLO(F:Fun K "whole" "Run.whole" jGg fa fd)(DaB:MtE P w K mg base 2 "total" yK ["self"] (jEn yK yG cZ cQ yJ yW yU)) :
 jAr P w K mg base CX0 3 fa fd ["self"] (jB8 yK yG cZ cQ yJ yW yU):=by
 refine F.ok jLN (fun vs H Q E h=>?_) (fun cdv A outer s H vs Q E hr h=>?_)
 ·obtain⟨x,r,rfl,_⟩:=h
  rfl
 obtain⟨x,r,rfl,R,q⟩:=h
 exists _,(jAf (jAo (ecA jA9 (jAq (pv 0) rfl) (jAs 2 jAL hr.m (pv 0)))))
 exists _,rfl,x,yK,r.dx,_,_,rfl,R.o,T.aa,T.aC,rfl,_,rfl,x,_,r.dx,_,_,_,rfl,R.o,rfl,T.aa,DaB,x,r,rfl,R,rfl
 have e:decide (V.int (r.ps:Int)=V.int (r.tot:Int))=decide (r.ps=r.tot):=by
  rw [Bool.eq_iff_iff,decide_eq_true_iff,decide_eq_true_iff]
  exact⟨fun z=>by injection z with z;omega,fun z=>by rw [z]⟩
 rw [<- e] at q
 exact q
inductive jG3(cR cJ cP cS cY cM cW:Addr)(vs:List V)(H:Hp)(Q:VK)(E_:XK):Prop|mk x r:vs=[.ref x]->jA0 cR cJ H x r->(r.br=false->Q .non H)->(r.br=true->∀ t H',jAn H H'->H' t=some (.tup [.int ((r.ps:Int)/(r.inks.length:Int)+1),.int ((r.ps:Int)%(r.inks.length:Int)+1)])->Q (.ref t) H')->jG3 cR cJ cP cS cY cM cW vs H Q E_
theorem jMg:jAk ["self"] ["self"] (jAh jGQ):=scM
include T in
theorem jMh(F:Fun K "lack" "Run.lack" jGQ fa fd)(Dag:MtE P w K mg base 1 "each" yK ["self"] (jDA yK yG cZ cQ yJ yW yU)) :
 jAr P w K mg base CX0 2 fa fd ["self"] (jG3 yK yG cZ cQ yJ yW yU):=by
 refine F.ok jMg (fun vs H Q E h=>?_) (fun cdv A outer s H vs Q E hr h=>?_)
 ·obtain⟨x,r,rfl,_⟩:=h
  rfl
 obtain⟨x,r,rfl,R,q1,q2⟩:=h
 exists _,(jAd (jAE (jB9 (jAX (jAq (pv 0) rfl) (fun _=>rfl))) (jAf (jAo jBk)) jAw) (jAf (jAo (jAN (jAa (jAp jAO (jAp jCp (jAq (pv 0) rfl) (jAs 1 jAL hr.m (pv 0))) jAe) (jAa (jAp jAO (jAp jA7 (jAq (pv 0) rfl) (jAs 1 jAL hr.m (pv 0))) jAe) jAc))))))
 exists _,rfl,x,yK,r.dx,_,_,rfl,R.o,T.aa,T.bj,rfl,r.br,rfl
 have i1:=R.i1
 have i2:=R.i2
 cases e:r.br with
 | false=>exact jAU (q1 e)
 | true =>
   refine jAJ ⟨_,rfl,x,yK,r.dx,_,_,rfl,R.o,T.aa,T.aC,rfl,_,rfl,x,_,r.dx,_,_,_,rfl,R.o,rfl,T.aa,Dag,x,r,rfl,R,_,_,rfl,rfl,⟨by omega,by omega⟩,_,_,rfl,rfl,?_⟩
   refine⟨_,rfl,x,yK,r.dx,_,_,rfl,R.o,T.aa,T.aC,rfl,_,rfl,x,_,r.dx,_,_,_,rfl,R.o,rfl,T.aa,Dag,x,r,rfl,R,_,_,rfl,rfl,(by omega),_,_,rfl,rfl,wq2,fun t nt=>q2 e t _ (jAj nt _) jAb⟩
inductive jG4(cR cJ cP cS cY cM cW:Addr)(vs:List V)(H:Hp)(Q:VK)(E_:XK):Prop|mk x r:vs=[.ref x]->jA0 cR cJ H x r->(r.pr=none->Q .non H)->(∀ p,r.pr=some p->∃ d,jAC cP cS cY cM cW H p d/\Q (.str d.name) H)->jG4 cR cJ cP cS cY cM cW vs H Q E_
theorem jNQ:jAk ["self"] ["self"] (jAh jIl):=scM
include T in
theorem jNR(F:Fun K "at" "Run.at" jIl fa fd)  :
 jAr P w K mg base CX0 1 fa fd ["self"] (jG4 yK yG cZ cQ yJ yW yU):=by
 refine F.ok jNQ (fun vs H Q E h=>?_) (fun cdv A outer s H vs Q E hr h=>?_)
 ·obtain⟨x,r,rfl,_⟩:=h
  rfl
 obtain⟨x,r,rfl,R,q1,q2⟩:=h
 exists _,(jAf (jAo (jCv (tcA jIv (jAq (pv 0) rfl) jBk) jBk (jAq (jAq (pv 0) rfl) rfl))))
 exists _,rfl,x,yK,r.dx,_,_,rfl,R.o,T.aa,T.ah,rfl
 cases hp:r.pr with
 | none=>exact⟨rfl,true,rfl,jAU (q1 hp)⟩
 | some p =>
   obtain⟨d,P,q⟩:=q2 p hp
   refine⟨rfl,false,rfl,jAJ ⟨_,rfl,x,yK,r.dx,_,_,rfl,R.o,T.aa,T.ah,rfl,?_⟩⟩
   rw [hp]
   exact⟨p,cZ,d.dx,_,_,rfl,P.o,T.ac,T.bA,rfl,q⟩
def jAB(H:Hp)(nm:Str)(ts:List V)(ns:List Int):Prop:=ts.length=ns.length/\∀ (i:Nat) y n,ts[i]?=some y->ns[i]?=some n->∃ t,y=.ref t/\H t=some (.tup [.str nm,.int n])
theorem jAB.fr{H H':Hp}{nm:Str}{ts:List V}{ns:List Int}(h:jAB H nm ts ns)(kt:∀ b xs,H b=some (.tup xs)->H' b=some (.tup xs)):jAB H' nm ts ns:=⟨h.1,fun i y n a b=>let ⟨t,e,e1⟩:=h.2 i y n a b;⟨t,e,kt _ _ e1⟩⟩
theorem jAB.same{H H':Hp}{nm:Str}{ts:List V}{ns:List Int}(h:jAB H nm ts ns)(s:jAn H H'):jAB H' nm ts ns:=h.fr fun b xs e=>s _ _ e
theorem jAB.get{H:Hp}{nm:Str}{ts:List V}{ns:List Int}(h:jAB H nm ts ns){i:Nat}{y:V}(e:ts[i]?=some y):∃ t n,y=.ref t/\ns[i]?=some n/\H t=some (.tup [.str nm,.int n]):=by
 obtain⟨n,en⟩:∃ n,ns[i]?=some n:=⟨_,List.getElem?_eq_getElem (by rw [<- h.1];exact (List.getElem?_eq_some_iff.mp e).1)⟩
 obtain⟨t,e1,e2⟩:=h.2 i y n e en
 exact⟨t,n,e1,en,e2⟩
theorem jAB.drop1{H:Hp}{nm:Str}{ts:List V}{ns:List Int}(h:jAB H nm ts ns):jAB H nm (ts.drop 1) (ns.drop 1):=⟨by rw [List.length_drop,List.length_drop,h.1],fun i y n a b=>by rw [List.getElem?_drop] at a b;exact h.2 _ y n a b⟩
theorem jAB.take1{H:Hp}{nm:Str}{ts:List V}{ns:List Int}(h:jAB H nm ts ns):jAB H nm (ts.take 1) (ns.take 1):=⟨by rw [List.length_take,List.length_take,h.1],fun i y n a b=>by
 rw [List.getElem?_take] at a b
 by_cases c:i<1
 ·rw [if_pos c] at a b;exact h.2 i y n a b
 ·rw [if_neg c] at a;cases a⟩
theorem jAB.snoc{H:Hp}{nm:Str}{ts:List V}{ns:List Int}{t:Addr}{n:Int}(h:jAB H nm ts ns)(e:H t=some (.tup [.str nm,.int n])):jAB H nm (ts++[.ref t]) (ns++[n]):=⟨by rw [List.length_append,List.length_append,h.1];rfl,fun i y m a b=>by
 by_cases c:i<ts.length
 ·rw [List.getElem?_append_left c] at a
  rw [List.getElem?_append_left (by rw [<- h.1];exact c)] at b
  exact h.2 i y m a b
 ·rw [List.getElem?_append_right (by omega)] at a
  rw [List.getElem?_append_right (by rw [<- h.1];omega),<- h.1] at b
  have l:=(List.getElem?_eq_some_iff.mp a).1
  have l':i-ts.length<1:=l
  rw [show i-ts.length=0 by omega] at a b
  obtain rfl:=Option.some.inj a
  obtain rfl:=Option.some.inj b
  exact⟨t,rfl,e⟩⟩
theorem ifs_cut{t:TT}{A B C:TS}{D:jBR}{σ:St}{H:Hp}(P:Prop)(ht:∀ Q:Bool->Hp->Prop,(P->Q true H)->(¬ P->Q false H)->t σ H Q)(hA:P->A { D with nx:=C D } σ H)(hB:¬ P->B { D with nx:=C D } σ H):jFX (tIfS t A B) C D σ H:=ht _ (fun p=>by rw [if_pos rfl];exact hA p) (fun p=>by rw [if_neg (by decide)];exact hB p)
def isSlip(H:Hp)(nm:Str)(v:V):Prop:=∃ a,v=.ref a/\H a=some (.tup [.str nm,.int (-1)])
noncomputable def jHU (H:Hp)(nm:Str)(v:V):Bool:=!@decide (isSlip H nm v) (Classical.propDecidable _)
theorem jLP{H:Hp}{nm:Str}{t:Addr}{n:Int}(h:H t=some (.tup [.str nm,.int n])):jHU H nm (.ref t)=!decide (V.int n=V.int (-1)):=by
 unfold jHU
 refine congrArg (fun c=>!c) ?_
 by_cases c:n=-1
 ·exact (@decide_eq_true _ (Classical.propDecidable _) ⟨t,rfl,by rw [<- c];exact h⟩).trans (decide_eq_true (by rw [c])).symm
 ·refine (@decide_eq_false _ (Classical.propDecidable _) (fun⟨a',z1,z2⟩=>?_)).trans (decide_eq_false (fun z=>c (by injection z))).symm
  cases z1
  rw [h] at z2
  injection z2 with z2
  injection z2 with z2
  injection z2 with _ z2
  injection z2 with z2 _
  injection z2 with z2
  exact c z2
def jBB(ns:List Int):Nat:=ns.countP fun n=>decide (n≠-1)
def Liv(r:RD):Prop:=r.br=false/\r.ps≠r.tot
def OvR(cO:Addr)(r:RD)(H:Hp)(E:XK):Prop:=∀ ea H',jAn H H'->H ea=none->XG H' ea cO [("job",.str r.nm)]->E (.ref cO) (some ea) H'
inductive jCn(cR cJ cO cP cS cY cM cW:Addr)(vs:List V)(H:Hp)(Q:VK)(E:XK):Prop|mk x r:vs=[.ref x]->jA0 cR cJ H x r->(Liv r->Q .non H)->(¬ Liv r->OvR cO r H E)->jCn cR cJ cO cP cS cY cM cW vs H Q E
theorem jH7:jAk ["self"] ["self"] (jAh jC0):=scM
include T in
theorem jH8(F:Fun K "must_go_on" "Run.must_go_on" jC0 fa fd)(Dbp:jCY P w K mg base 1 "Over" vW ["self","job"] (jBh vW "job"))(Dad:MtE P w K mg base 3 "whole" yK ["self"] (jB8 yK yG cZ cQ yJ yW yU)) :
 jAr P w K mg base (CXe P w) 4 fa fd ["self"] (jCn yK yG vW cZ cQ yJ yW yU):=by
 refine F.okE jH7 (fun vs H Q E h=>?_) (fun cdv A outer s H vs Q E hr h=>?_)
 ·obtain⟨x,r,rfl,_⟩:=h
  rfl
 obtain⟨x,r,rfl,R,q,q2⟩:=h
 exists _,(jAf (jAE (PW.pt (pw_or (jAX (jAq (pv 0) rfl) (fun _=>rfl)) (jK1 (jAX (jAs 3 jAx hr.m (pv 0)) (fun _=>rfl))))) (jAf (jBz jBn rfl (jBm Dbp hr.m rfl (jAa (jAq (jAq (pv 0) rfl) rfl) jAc)))) jAw))
 obtain⟨jx,jb,ji,jk,jc,je,_⟩:=id R.j
 exists _,rfl,x,yK,r.dx,_,_,rfl,R.o,T.aa,T.bj,rfl,r.br,rfl
 cases e:r.br with
 | true =>
   refine jAU (jAU ⟨_,rfl,x,yK,r.dx,_,_,rfl,R.o,T.aa,T.aA,rfl,r.jb,yG,jx,_,_,rfl,je,T.ad,T.aF,jF0 _ _ _ _ _ _ _ _ _ _,?_⟩)
   exact jA2 T.aj.m fun ea H' sm ne g=>q2 (fun z=>by rw [z.1] at e;cases e) ea H' sm ne g
 | false =>
   refine jAJ ⟨_,rfl,x,_,r.dx,_,_,_,rfl,R.o,rfl,T.aa,Dad,x,r,rfl,R,decide (r.ps=r.tot),rfl,jDK (fun c=>?_) (fun c=>q ⟨e,fun z=>c (decide_eq_true z)⟩)⟩
   exists _,rfl,x,yK,r.dx,_,_,rfl,R.o,T.aa,T.aA,rfl,r.jb,yG,jx,_,_,rfl,je,T.ad,T.aF,jF0 _ _ _ _ _ _ _ _ _ _
   exact jA2 T.aj.m fun ea H' sm ne g=>q2 (fun z=>z.2 (of_decide_eq_true c)) ea H' sm ne g
inductive jBO(cR cJ cO cX cP cS cY cM cW:Addr)(vs:List V)(H:Hp)(Q:VK)(E:XK):Prop|mk x r:vs=[.ref x]->jA0 cR cJ H x r->(Liv r->∀ p,r.pr=some p->Q .non H)->(Liv r->r.pr=none->jBi cX "job" (.str r.nm) H E)->(¬ Liv r->OvR cO r H E)->jBO cR cJ cO cX cP cS cY cM cW vs H Q E
theorem jGu:jAk ["self"] ["self"] (jAh jCj):=scM
include T in
theorem jGv(F:Fun K "must_be_placed" "Run.must_be_placed" jCj fa fd)(Dbq:jCY P w K mg base 1 "Nowhere" vJ ["self","job"] (jBh vJ "job"))(DaC:MtE P w K mg base 4 "must_go_on" yK ["self"] (jCn yK yG vW cZ cQ yJ yW yU)) :
 jAr P w K mg base (CXe P w) 5 fa fd ["self"] (jBO yK yG vW vJ cZ cQ yJ yW yU):=by
 refine F.okE jGu (fun vs H Q E h=>?_) (fun cdv A outer s H vs Q E hr h=>?_)
 ·obtain⟨x,r,rfl,_⟩:=h
  rfl
 obtain⟨x,r,rfl,R,q,qn,q2⟩:=h
 exists _,(jAd (jAy (jAs 4 jAx hr.m (pv 0))) (jAf (jAE (tcA jIv (jAq (pv 0) rfl) jBk) (jAf (jBz jBn rfl (jBm Dbq hr.m rfl (jAa (jAq (jAq (pv 0) rfl) rfl) jAc)))) jAw)))
 refine⟨_,rfl,x,_,r.dx,_,_,_,rfl,R.o,rfl,T.aa,DaC,x,r,rfl,R,fun lv=>?_,q2⟩
 obtain⟨jx,jb,ji,jk,jc,je,_⟩:=id R.j
 exists _,rfl,x,yK,r.dx,_,_,rfl,R.o,T.aa,T.ah,rfl
 cases hp:r.pr with
 | some p=>exact⟨rfl,false,rfl,jAJ (q lv p hp)⟩
 | none =>
   refine⟨rfl,true,rfl,jAU ⟨_,rfl,x,yK,r.dx,_,_,rfl,R.o,T.aa,T.aA,rfl,r.jb,yG,jx,_,_,rfl,je,T.ad,T.aF,jF0 _ _ _ _ _ _ _ _ _ _,?_⟩⟩
   exact jA2 T.al.m fun ea H' sm ne g=>qn lv hp ea H' sm g
theorem jKs{H:Hp}{nm:Str}:∀ {ts:List V} {ns:List Int},jAB H nm ts ns->(ts.filter (jHU H nm)).length=jBB ns
 | [],[],_=>rfl
 | [],_::_,h=>by have:=h.1;cases this
 | _::_,[],h=>by have:=h.1;cases this
 | v::ts,n::ns,h=>by
   have ih:=jKs (H:=H) (nm:=nm) (ts:=ts) (ns:=ns) h.drop1
   obtain⟨t,rfl,ht⟩:=h.2 0 v n rfl rfl
   unfold jBB at ih ⊢
   rw [List.countP_cons,<- ih,List.filter_cons,jLP ht]
   by_cases c:n=-1
   ·rw [decide_eq_true (by rw [c]:V.int n=V.int (-1)),if_neg (by decide),decide_eq_false (by rw [c];decide),if_neg (by decide),Nat.add_zero]
   ·rw [decide_eq_false (fun z=>c (by injection z):¬ V.int n=V.int (-1)),if_pos (by decide),decide_eq_true c,if_pos rfl,List.length_cons]
def jAY(r:RD)(ns:List Int):Int:=if r.sl=false/\ns=[] then -1 else ((r.ps+jBB ns:Nat):Int)
inductive jCc(cR cJ cP cS cY cM cW:Addr)(vs:List V)(H:Hp)(Q:VK)(E_:XK):Prop|mk x r:vs=[.ref x]->jA0 cR cJ H x r->(r.pr=none->Q .non H)->(∀ p,r.pr=some p->∃ d ns,jAC cP cS cY cM cW H p d/\jAB H r.nm d.tags ns /\
 (jAY r ns<(r.tot:Int)->∀ t H',jAn H H'->H t=none->H' t=some (.tup [.str r.nm,.int (jAY r ns)])->Q (.ref t) H')/\(¬ jAY r ns<(r.tot:Int)->∀ H',jAn H H'->Q .non H'))->jCc cR cJ cP cS cY cM cW vs H Q E_
theorem jDB:jAk ["self","within","number"] ["self"] (jAh jDX):=scM
include T in
theorem jJe(F:Fun K "upcoming" "Run.upcoming" jDX fa fd)(Dah:MtE P w K mg base 1 "within" cZ ["self"] (jCD cZ cQ yJ yW yU))(DaB:MtE P w K mg base 2 "total" yK ["self"] (jEn yK yG cZ cQ yJ yW yU)) :
 jAr P w K mg base CX0 3 fa fd ["self"] (jCc yK yG cZ cQ yJ yW yU):=by
 refine F.ok jDB (fun vs H Q E h=>?_) (fun cdv A outer s H vs Q E hr h=>?_)
 ·obtain⟨x,r,rfl,_⟩:=h
  rfl
 obtain⟨x,r,rfl,R,q1,q2⟩:=h
 have z2:2<=sizeLine:=small (by decide)
 exists _,(jAd (jAE (tcA jIv (jAq (pv 0) rfl) jBk) (jAf (jAo jBk)) jAw) (jAd (psA (i:=1) jDB.nd (jAs 1 jAL hr.m (jAq (pv 0) rfl))) (jAd (jAE (PW.pt (jEq (jB9 (jAX (jAq (pv 0) rfl) (fun _=>rfl))) (jDI (jB9 (jAX (pv 1) (fun _=>rfl)))))) (jAf (jAo (jAN (jAa (jAq (jAq (pv 0) rfl) rfl) (jAa (jE1 T.aP rfl) jAc))))) jAw) (jAd (psA (i:=2) jDB.nd (jAp jAO (jAq (pv 0) rfl) (jAQ jBT rfl T.aB PySem.boot_len (jAa (jFa (frees:=[]) ⟨by decide +kernel,rfl,rfl,by decide +kernel,trivial,by decide +kernel,jBD rfl,rfl⟩ rfl (jBt (pv 1)) (fun _ _ _ _=>by exact (jIj (tcA jHG (jNz (K:=K) (r:=rIxT) rfl jAI (pv 0) jAe (fun _ _=>rfl)) (jE1 T.aP rfl)))) (fun _ _ _ _=>by exact (pv 0))) jAc)))) (jAf (jAo (jCv (tcA jEZ (pv 2) (jAs 2 jAL hr.m (pv 0))) (jAN (jAa (jAq (jAq (pv 0) rfl) rfl) (jAa (pv 2) jAc))) jBk)))))))
 exists _,rfl,x,yK,r.dx,_,_,rfl,R.o,T.aa,T.ah,rfl
 cases hp:r.pr with
 | none=>exact⟨rfl,true,rfl,jAU (q1 hp)⟩
 | some p =>
 obtain⟨d,ns,P,tg,k1,k2⟩:=q2 p hp
 refine⟨rfl,false,rfl,jAJ ?_⟩
 exists _,rfl,x,yK,r.dx,_,_,rfl,R.o,T.aa,T.ah,rfl
 rw [hp]
 refine⟨p,_,d.dx,_,_,_,rfl,P.o,rfl,T.ac,Dah,p,d,rfl,P,fun l H1 s1 nl hl=>?_⟩
 have R1:=R.same s1
 obtain⟨jx,jb,ji,jk,jc,je,_⟩:=id R1.j
 have tg1:=tg.same s1
 have lw:d.tags=[] ↔ ns=[]:=by
  rw [<- List.length_eq_zero_iff,<- List.length_eq_zero_iff,tg.1]
 dsimp only [jBJ]
 refine ifs_cut (r.sl=false/\ns=[]) (fun W qt qf=>?_) (fun c=>?_) (fun c=>?_)
 ·exists _,rfl,x,yK,r.dx,_,_,rfl,R1.o,T.aa,T.aM,rfl,r.sl,rfl
  cases hs:r.sl with
  | true=>exact jAJ (qf (fun z=>by rw [hs] at z;cases z.1))
  | false =>
    refine jAU ⟨_,rfl,!d.tags.isEmpty,.inl ⟨_,SqL.of hl,rfl⟩,?_⟩
    by_cases c:ns=[]
    ·rw [lw.mpr c]
     exact qt ⟨hs,c⟩
    ·have:d.tags.isEmpty=false:=by rw [List.isEmpty_eq_false_iff];exact fun z=>c (lw.mp z)
     rw [this]
     exact qf (fun z=>c z.2)
 ·have en:jAY r ns=-1:=by unfold jAY;rw [if_pos c]
  refine⟨_,rfl,x,yK,r.dx,_,_,rfl,R1.o,T.aa,T.aA,rfl,r.jb,yG,jx,_,_,rfl,je,T.ad,T.aF,jF0 _ _ _ _ _ _ _ _ _ _,z2,fun t nt=>?_⟩
  refine k1 (by rw [en];omega) t _ (s1.trans (jAj nt _)) (s1.free nt) ?_
  rw [en]
  exact jAb
 have en:jAY r ns=((r.ps+jBB ns:Nat):Int):=by unfold jAY;rw [if_neg c]
 have lt9:=P.lt
 exists _,rfl,x,yK,r.dx,_,_,rfl,R1.o,T.aa,T.aC,rfl,_,rfl,l,rfl,⟨_,SqL.of hl⟩
 refine jEu (jGH (K:=K) (SqL.of hl)) (jHU H1 r.nm) id (jAW (by omega)) (fun y hy H' W sm rr=>?_) (fun y hy H' W sm py rr=>⟨_,rfl,rr⟩) (fun D H2 s2 nD hD=>?_)
 ·obtain⟨i,ei⟩:=List.mem_iff_getElem?.mp hy
  obtain⟨t,n,rfl,_,ht⟩:=tg1.get ei
  refine⟨_,rfl,t,_,_,_,rfl,rfl,SqT.of (sm _ _ ht),jAl (j:=1) rfl,rfl,_,?_,rr⟩
  rw [jLP ht]
 rw [List.map_id] at hD
 have R2:=R1.same s2
 exists D,_,rfl,.inl (SqL.of hD),_,_,rfl,rfl
 rw [jKs tg1]
 dsimp only [jBJ]
 rw [show (r.ps:Int)+((jBB ns:Nat):Int)=jAY r ns by rw [en];omega]
 have s12:=s1.trans s2
 obtain⟨jx2,jb2,ji2,jk2,jc2,je2,_⟩:=id R2.j
 refine⟨_,rfl,_,rfl,x,_,r.dx,_,_,_,rfl,R2.o,rfl,T.aa,DaB,x,r,rfl,R2,_,_,rfl,rfl,_,rfl,jDK (fun cc=>?_) (fun cc=>?_)⟩
 ·refine⟨_,rfl,x,yK,r.dx,_,_,rfl,R2.o,T.aa,T.aA,rfl,r.jb,yG,jx2,_,_,rfl,je2,T.ad,T.aF,jF0 _ _ _ _ _ _ _ _ _ _,_,rfl,z2,fun t nt=>?_⟩
  exact k1 (of_decide_eq_true cc) t _ (s12.trans (jAj nt _)) (s12.free nt) jAb
 ·exact k2 (fun z=>cc (decide_eq_true z)) _ s12
def jDC(j:Jv)(i:Nat):Str:=if i=0 then j.cover.getD j.paper else j.paper
def jBv(r:RD)(n:Int):Str×Int×Int:=if n=-1 then (r.j.paper,0,0) else (jDC r.j (n.toNat%r.inks.length),r.inks.getD (n.toNat%r.inks.length) (0,0))
inductive jET(cR cJ cP cS cY cM cW:Addr)(vs:List V)(H:Hp)(Q:VK)(E_:XK):Prop|mk x r tg n:vs=[.ref x,.ref tg]->jA0 cR cJ H x r->H tg=some (.tup [.str r.nm,.int n])->-1<=n->(∀ t H',jAn H H'->H' t=some (.tup [.str (jBv r n).1,.int (jBv r n).2.1,.int (jBv r n).2.2])->Q (.ref t) H')->jET cR cJ cP cS cY cM cW vs H Q E_
theorem jEe:jAk ["self","tag","sheet","ink"] ["self","tag"] (jAh jEL):=scM
include T in
theorem jJS(F:Fun K "used_by" "Run.used_by" jEL fa fd)(Dbr:Dfn P w K mg base 1 "paper_of" ["job","sheet"] (jGk yG))(Dag:MtE P w K mg base 1 "each" yK ["self"] (jDA yK yG cZ cQ yJ yW yU)) :
 jAr P w K mg base CX0 2 fa fd ["self","tag"] (jET yK yG cZ cQ yJ yW yU):=by
 refine F.ok jEe (fun vs H Q E h=>?_) (fun cdv A outer s H vs Q E hr h=>?_)
 ·obtain⟨x,r,tg,n,rfl,_⟩:=h
  rfl
 obtain⟨x,r,tg,n,rfl,R,ht,n1,q⟩:=h
 have z3:3<=sizeLine:=small (by decide)
 exists _,(jAd (jAE (tcA jA9 (ixA jAI (pv 1) jAe) (jE1 T.aP rfl)) (jAf (jAo (jAN (jAa (jAq (jAq (pv 0) rfl) rfl) (jAa jAe (jAa jAe jAc)))))) jAw) (jAd (psA (i:=2) jEe.nd (jAp jA7 (ixA jAI (pv 1) jAe) (jAs 1 jAL hr.m (pv 0)))) (jAd (psA (i:=3) jEe.nd (ixA jCX (jAq (pv 0) rfl) (pv 2))) (jAf (jAo (jAN (jAa (jAv Dbr hr.m rfl (jAa (jAq (pv 0) rfl) (jAa (pv 2) jAc))) (jAa (ixA jAI (pv 3) jAe) (jAa (ixA jAI (pv 3) jAe) jAc)))))))))
 obtain⟨jx,jb,ji,jk,jc,je,_⟩:=id R.j
 have i1:=R.i1
 exists _,rfl,tg,_,_,_,rfl,rfl,SqT.of ht,jAl (j:=1) rfl,rfl
 by_cases c:n=-1
 ·have eu:jBv r n=(r.j.paper,0,0):=by unfold jBv;rw [if_pos c]
  rw [eu] at q
  exact⟨true,by rw [c];rfl,jAU ⟨_,rfl,x,yK,r.dx,_,_,rfl,R.o,T.aa,T.aA,rfl,r.jb,yG,jx,_,_,rfl,je,T.ad,T.aV,jF5 _ _ _ _ _ _ _ _ _ _,z3,fun t nt=>q t _ (jAj nt _) jAb⟩⟩
 have eu:jBv r n=(jDC r.j (n.toNat%r.inks.length),r.inks.getD (n.toNat%r.inks.length) (0,0)):=by unfold jBv;rw [if_neg c]
 rw [eu] at q
 refine⟨false,by rw [decide_eq_false (fun z=>c (by injection z))],jAJ ?_⟩
 exists _,rfl,tg,_,_,_,rfl,rfl,SqT.of ht,jAl (j:=1) rfl,_,rfl,x,_,r.dx,_,_,_,rfl,R.o,rfl,T.aa,Dag,x,r,rfl,R,_,_,rfl,rfl,by omega
 have em:n%(r.inks.length:Int)=((n.toNat%r.inks.length:Nat):Int):=by
  rw [Int.natCast_emod,Int.toNat_of_nonneg (by omega)]
 have lm:n.toNat%r.inks.length<r.inks.length:=Nat.mod_lt _ (by omega)
 dsimp only [jBJ]
 rw [em]
 generalize n.toNat%r.inks.length=i at lm q ⊢
 obtain⟨ys,hy,ly,gy⟩:=id R.i
 have ey:ys[i]?=some ys[i]:=List.getElem?_eq_getElem (by omega)
 have es:r.inks[i]?=some r.inks[i]:=List.getElem?_eq_getElem lm
 obtain⟨t,et,ht2⟩:=gy i _ _ ey es
 rw [et] at ey
 rw [List.getD_eq_getElem?_getD,es,Option.getD_some] at q
 generalize r.inks[i]=s at ht2 q
 refine⟨_,rfl,x,yK,r.dx,_,_,rfl,R.o,T.aa,T.bi,rfl,_,rfl,r.il,_,_,rfl,rfl,SqL.of hy,by omega,by omega,fun v hv=>?_⟩
 rw [Int.toNat_natCast,ey] at hv
 obtain rfl:=Option.some.inj hv
 exists _,rfl,x,yK,r.dx,_,_,rfl,R.o,T.aa,T.aA,rfl,_,rfl,r.jb,r.j,(i:Int),rfl,R.j.jo
 refine⟨_,rfl,t,_,_,_,rfl,rfl,SqT.of ht2,jAl (j:=0) rfl,_,rfl,t,_,_,_,rfl,rfl,SqT.of ht2,jAl (j:=1) rfl,z3,fun t' nt'=>q t' _ (jAj nt' _) ?_⟩
 have ep:(if (i:Int)=0 then r.j.cover.getD r.j.paper else r.j.paper)=jDC r.j i:=by
  unfold jDC
  by_cases c0:i=0
  ·rw [if_pos c0,if_pos (by omega)]
  ·rw [if_neg c0,if_neg (by omega)]
 rw [ep]
 exact jAb
def feedD(d:PD)(n:Str)(A y z:Int)(tag:V):PD:={ fedD d n A y z tag with tags:=if d.path<((d.tags.length+1:Nat):Int) then (d.tags++[tag]).drop 1 else d.tags++[tag] }
def jCM(d:PD)(A:Int)(u:Str×Int×Int):Option Str:=if A<1 then some u.1 else if d.b<u.2.1 then some blW else if d.c<u.2.2 then some coW else none
structure FdQ(cU cN cD:Addr)(d:PD)(u:Str×Int×Int)(H:Hp)(E:XK):Prop where
 nw:d.S≠.rd->jBi cN "found" (.str (wd d.S)) H E
 un:d.S=.rd->¬ u.1∈d.rs.map (·.1)->jBi cU "name" (.str u.1) H E
 dr:∀ A w,d.S=.rd->d.am.lookup u.1=some A->jCM d A u=some w->jBi cD "name" (.str w) H E
theorem FdQ.after{cU cN cD:Addr}{d:PD}{u:Str×Int×Int}{H H':Hp}{E:XK}(h:FdQ cU cN cD d u H E)(s:jAn H H'):FdQ cU cN cD d u H' E:=⟨fun a=>(h.nw a).after s,fun a b=>(h.un a b).after s,fun A w a b c=>(h.dr A w a b c).after s⟩
inductive jHC(cR cJ cU cN cD cP cS cY cM cW:Addr)(vs:List V)(H:Hp)(Q:VK)(E:XK):Prop|mk x r tg n p d:vs=[.ref x,.ref tg]->jA0 cR cJ H x r->H tg=some (.tup [.str r.nm,.int n])->-1<=n->r.pr=some p->jAC cP cS cY cM cW H p d->d.tags.length<=800->FdQ cU cN cD d (jBv r n) H E->(∀ A,d.S=.rd->d.am.lookup (jBv r n).1=some A->jCM d A (jBv r n)=none->∀ l H',(∀ b o,b≠d.ins->b≠d.tr2->b≠d.ik2->H b=some o->H' b=some o)->H l=none->H' l=some (.lst (if d.path<((d.tags.length+1:Nat):Int) then (d.tags++[V.ref tg]).take 1 else []))->jAC cP cS cY cM cW H' p (feedD d (jBv r n).1 A (jBv r n).2.1 (jBv r n).2.2 (.ref tg))->Q (.ref l) H')->jHC cR cJ cU cN cD cP cS cY cM cW vs H Q E
theorem jJf:jAk ["self","tag","used"] ["self","tag"] (jAh jHv):=scM
include T in
theorem jM2(F:Fun K "fed" "Run.fed" jHv fa fd)(Dbs:MtE P w K mg base 2 "used_by" yK ["self","tag"] (jET yK yG cZ cQ yJ yW yU))(Dbt:MtE P w K mg base 6 "feed" cZ ["self","tag","kind","black","coloured"] (jGY vG vY cG cZ cQ yJ yW yU)) :
 jAr P w K mg base (CXe P w) 7 fa fd ["self","tag"] (jHC yK yG vG vY cG cZ cQ yJ yW yU):=by
 refine F.okE jJf (fun vs H Q E h=>?_) (fun cdv A outer s H vs Q E hr h=>?_)
 ·obtain⟨x,r,tg,n,p,d,rfl,_⟩:=h
  rfl
 obtain⟨x,r,tg,n,p,d,rfl,R,ht,n1,hp,P,lt,fq,q⟩:=h
 exists _,(jAd (psA (i:=2) jJf.nd (jAF 2 jAx hr.m (pv 0) (jAa (pv 1) jAc))) (jAf (jAo (jAF 6 jAx hr.m (jAq (pv 0) rfl) (jAa (pv 1) (jAa (ixA jAI (pv 2) jAe) (jAa (ixA jAI (pv 2) jAe) (jAa (ixA jAI (pv 2) jAe) jAc))))))))
 refine⟨_,rfl,x,_,r.dx,_,_,_,rfl,R.o,rfl,T.aa,Dbs,_,rfl,x,r,tg,n,rfl,R,ht,n1,fun t H1 s1 h1=>?_⟩
 have R1:=R.same s1
 have P1:=P.same s1
 replace fq:=fq.after s1
 exists _,rfl,x,yK,r.dx,_,_,rfl,R1.o,T.aa,T.ah,rfl
 rw [hp]
 refine⟨p,_,d.dx,_,_,_,rfl,P1.o,rfl,T.ac,Dbt,_,rfl,_,rfl,t,_,_,_,rfl,rfl,SqT.of h1,jAl (j:=0) rfl,_,rfl,t,_,_,_,rfl,rfl,SqT.of h1,jAl (j:=1) rfl,_,rfl,t,_,_,_,rfl,rfl,SqT.of h1,jAl (j:=2) rfl,p,d,V.ref tg,_,_,_,rfl,P1,lt,fq.nw,fq.un,fun A eS la=>⟨fun c=>fq.dr A _ eS la (if_pos c),fun c c2=>fq.dr A _ eS la (by unfold jCM;rw [if_neg c,if_pos c2]),fun c c2 c3=>fq.dr A _ eS la (by unfold jCM;rw [if_neg c,if_neg c2,if_pos c3]),fun c c2 c3 l H2 k2 nl hl P2=>?_⟩⟩
 exact q A eS la (by unfold jCM;rw [if_neg c,if_neg c2,if_neg c3]) l H2 (fun b o e1 e2 e3 e=>k2 b o e1 e2 e3 (s1 _ _ e)) (s1.free nl) hl P2
theorem jJT(r:RD)(b:Bool):jBd "slipped" (.bl b) r.fs=({ r with sl:=b }:RD).fs:=by first|rfl|decide +kernel
theorem putR_ps(r:RD)(n:Nat):jBd "passed" (.int (n:Int)) r.fs=({ r with ps:=n }:RD).fs:=by first|rfl|decide +kernel
theorem jJU(r:RD)(p:Option Addr):jBd "printer" (prV p) r.fs=({ r with pr:=p }:RD).fs:=by first|rfl|decide +kernel
def jFS(sl:Bool)(ns:List Int):Bool:=sl||ns.any fun n=>decide (n=-1)
def jA1(r:RD)(ns:List Int):RD:={ r with ps:=r.ps+jBB ns,sl:=jFS r.sl ns }
def jA8(r:RD)(ns:List Int):RD:=if (jA1 r ns).ps=r.tot then { jA1 r ns with pr:=none } else jA1 r ns
theorem jIo(r:RD):jA1 r []=r:=by
 cases r
 unfold jA1 jBB jFS
 simp
theorem jNS(r:RD)(ns:List Int)(n:Int):jA1 r (ns++[n])=if n=-1 then { jA1 r ns with sl:=true } else { jA1 r ns with ps:=(jA1 r ns).ps+1 }:=by
 unfold jA1 jBB jFS
 rw [List.countP_append,List.any_append]
 by_cases c:n=-1
 ·rw [if_pos c]
  simp [c]
 ·rw [if_neg c]
  simp [c]
  omega
inductive jCd(cR cJ cP cS cY cM cW:Addr)(vs:List V)(H:Hp)(Q:VK)(E_:XK):Prop|mk x r l ts ns:vs=[.ref x,.ref l]->jA0 cR cJ H x r->H l=some (.lst ts)->jAB H r.nm ts ns->(∀ H',(∀ b o,b≠x->H b=some o->H' b=some o)->jA0 cR cJ H' x (jA8 r ns)->Q (.ref l) H')->jCd cR cJ cP cS cY cM cW vs H Q E_
theorem jFT:jAk ["self","tags","tag"] ["self","tags"] (jAh jDY):=scM
include T in
theorem jJg(F:Fun K "note_out" "Run.note_out" jDY fa fd)(Dad:MtE P w K mg base 3 "whole" yK ["self"] (jB8 yK yG cZ cQ yJ yW yU)) :
 jAr P w K mg base CX0 4 fa fd ["self","tags"] (jCd yK yG cZ cQ yJ yW yU):=by
 refine F.ok jFT (fun vs H Q E h=>?_) (fun cdv A outer s H vs Q E hr h=>?_)
 ·obtain⟨x,r,l,ts,ns,rfl,_⟩:=h
  rfl
 obtain⟨x,r,l,ts,ns,rfl,R,hl,tg,q⟩:=h
 exists _,(jAd (jBS PassesOwn.never rfl (jBt (pv 1)) (pgA (i:=2) jFT.nd) (jAf (jAE (tcA jA9 (ixA jAI (pv 2) jAe) (jE1 T.aP rfl)) (jAf (jAM (pv 0) jBc rfl)) (jAf (jNi (pv 0) jAe ip_add))))) (jAd (jAE (jAX (jAs 3 jAL hr.m (pv 0)) (fun _=>rfl)) (jAf (jAM (pv 0) jBk rfl)) jAw) (jAf (jAo (pv 1)))))
 have nlx:l≠x:=jAu hl R.o nofun
 refine⟨_,rfl,l,rfl,⟨_,SqL.of hl⟩,jBK (K:=K) (a:=l) (xs:=ts) (fun i σ G=>∃ v2:Option V,σ=[some (.ref x),some (.ref l),v2]/\jA0 yK yG G x (jA1 r (ns.take i))/\∀ b o,b≠x->H b=some o->G b=some o) ⟨_,rfl,by rw [List.take_zero,jIo];exact R,fun b o _ e=>e⟩ (fun i σ G _ z=>by obtain⟨v2,_,_,k⟩:=z;exact SqL.of (k _ _ nlx hl)) (fun i y σ G hy z=>?_) (fun σ G z=>?_)⟩
 ·obtain⟨v2,rfl,RG,k⟩:=z
  obtain⟨t,n,rfl,en,ht⟩:=tg.get hy
  have htG:=k _ _ (jAu ht R.o nofun) ht
  have et:ns.take (i+1)=ns.take i++[n]:=by rw [List.take_add_one,en];rfl
  rw [et,jNS]
  exists _,rfl,t,_,_,_,rfl,rfl,SqT.of htG,jAl (j:=1) rfl,rfl
  by_cases c:n=-1
  ·rw [if_pos c]
   refine⟨true,by rw [c];rfl,jAU ⟨_,rfl,x,yK,_,_,rfl,RG.o,T.aa,T.aM,(by show 6<1000;decide),?_⟩⟩
   rw [jJT]
   exact⟨_,rfl,RG.set _ _ true _,fun b o nb e=>by rw [jAi nb];exact k b o nb e⟩
  ·rw [if_neg c]
   refine⟨false,by rw [decide_eq_false (fun z=>c (by injection z))],jAJ ?_⟩
   refine⟨_,rfl,x,yK,_,_,_,rfl,RG.o,T.aa,T.aC,rfl,_,_,rfl,rfl,_,_,RG.o,(by show 6<1000;decide),?_⟩
   have ep:jBd "passed" (.int (((jA1 r (ns.take i)).ps:Int)+1)) (jA1 r (ns.take i)).fs=({ jA1 r (ns.take i) with ps:=(jA1 r (ns.take i)).ps+1 }:RD).fs:=by
    rw [show ((jA1 r (ns.take i)).ps:Int)+1=(((jA1 r (ns.take i)).ps+1:Nat):Int) by omega]
    exact putR_ps _ _
   rw [ep]
   exact⟨_,rfl,RG.set _ _ _ _,fun b o nb e=>by rw [jAi nb];exact k b o nb e⟩
 ·obtain⟨v2,rfl,RG,k⟩:=z
  rw [List.take_of_length_le (by rw [tg.1];exact Nat.le_refl _)] at RG
  exists _,rfl,x,_,r.dx,_,_,_,rfl,RG.o,rfl,T.aa,Dad,x,_,rfl,RG
  by_cases c:(jA1 r ns).ps=r.tot
  ·refine⟨true,(by show true=decide ((jA1 r ns).ps=r.tot);rw [decide_eq_true c]),jAU ⟨_,rfl,x,yK,_,_,rfl,RG.o,T.aa,T.ah,(by show 6<1000;decide),?_⟩⟩
   rw [show (V.non)=prV none from rfl,jJU]
   refine⟨_,rfl,q _ (fun b o nb e=>by rw [jAi nb];exact k b o nb e) ?_⟩
   have:=RG.set (jA1 r ns).ps none (jA1 r ns).sl (jA1 r ns).br
   unfold jA8
   rw [if_pos c]
   exact this
  ·refine⟨false,(by show false=decide ((jA1 r ns).ps=r.tot);rw [decide_eq_false c]),jAJ ⟨_,rfl,q _ k ?_⟩⟩
   unfold jA8
   rw [if_neg c]
   exact RG
theorem jAC.off{cP cS cY cM cW:Addr}{H H':Hp}{p x C dx:Addr}{fs:List (Str×V)}{d:PD}(P:jAC cP cS cY cM cW H p d)(hx:H x=some (.ins C dx fs))(k:∀ b o,b≠x->H b=some o->H' b=some o)(n1:p≠x)(n2:d.tr≠x)(n3:d.ik≠x)(n4:d.st≠x):jAC cP cS cY cM cW H' p d:=by
 obtain⟨⟨dt,t1⟩,t2,t3,t4⟩:=P.T
 obtain⟨⟨di,i1⟩,i2,i3,i4⟩:=P.I
 exact { P with o:=k _ _ n1 P.o,T:=⟨⟨dt,k _ _ n2 t1⟩,k _ _ (jAu t2 hx nofun) t2,k _ _ (jAu t3 hx nofun) t3,t4⟩,I:=⟨⟨di,k _ _ n3 i1⟩,k _ _ (jAu i2 hx nofun) i2,k _ _ (jAu i3 hx nofun) i3,i4⟩,s:=(let ⟨ds,hs⟩:=P.s;⟨ds,k _ _ n4 hs⟩),n:=k _ _ (jAu P.n hx nofun) P.n }
structure Wd(cR cJ cP cS cY cM cW:Addr)(H:Hp)(x:Addr)(r:RD)(p:Addr)(d:PD)(ns:List Int):Prop where
 R:jA0 cR cJ H x r
 P:jAC cP cS cY cM cW H p d
 tg:jAB H r.nm d.tags ns
 n1:p≠x
 n2:d.tr≠x
 n3:d.ik≠x
 n4:d.st≠x
 n5:r.il≠d.ins
theorem Wd.same{cR cJ cP cS cY cM cW:Addr}{H H':Hp}{x:Addr}{r:RD}{p:Addr}{d:PD}{ns:List Int}(w:Wd cR cJ cP cS cY cM cW H x r p d ns)(s:jAn H H'):Wd cR cJ cP cS cY cM cW H' x r p d ns:={ w with R:=w.R.same s,P:=w.P.same s,tg:=w.tg.same s }
theorem jA0.prn{cR cJ cP cS cY cM cW:Addr}{H H':Hp}{x:Addr}{r:RD}{p:Addr}{d:PD}(R:jA0 cR cJ H x r)(P:jAC cP cS cY cM cW H p d)(n5:r.il≠d.ins)(k:∀ b o,b≠d.ins->b≠d.tr2->b≠d.ik2->H b=some o->H' b=some o):jA0 cR cJ H' x r:=by
 have h1:=P.n
 have h2:=P.T.2.2.1
 have h3:=P.I.2.2.1
 obtain⟨ys,hy,_⟩:=id R.i
 refine R.fr (fun b C dd fs e=>k _ _ (jAu e h1 nofun) (jAu e h2 nofun) (jAu e h3 nofun) e) (fun o e=>k _ _ n5 (jAu hy h2 nofun) (jAu hy h3 nofun) e) (fun b xs e=>k _ _ (jAu e h1 nofun) (jAu e h2 nofun) (jAu e h3 nofun) e)
theorem jJV(r:RD)(ns:List Int):(jA8 r ns).nm=r.nm:=by unfold jA8;split<;>rfl
theorem jGw(r:RD)(ns:List Int):(jA8 r ns).il=r.il:=by unfold jA8;split<;>rfl
theorem jJh(a b:List Int):jBB (a++b)=jBB a+jBB b:=List.countP_append
theorem jOx(r:RD)(a b:List Int):jA1 (jA1 r a) b=jA1 r (a++b):=by
 unfold jA1 jFS
 rw [jJh,List.any_append]
 dsimp only
 rw [Nat.add_assoc,Bool.or_assoc]
theorem jOy(r:RD)(a b:List Int):jA8 (jA1 r a) b=jA8 r (a++b):=by
 unfold jA8
 rw [jOx]
 rfl
theorem jNT{r:RD}{ns:List Int}(h:(jA1 r ns).ps≠r.tot):jA8 r ns=jA1 r ns:=by
 unfold jA8
 rw [if_neg h]
theorem jAB.app{H:Hp}{nm:Str}{ts us:List V}{ns ms:List Int}(h:jAB H nm ts ns)(g:jAB H nm us ms):jAB H nm (ts++us) (ns++ms):=⟨by rw [List.length_append,List.length_append,h.1,g.1],fun i y n a b=>by
 by_cases c:i<ts.length
 ·rw [List.getElem?_append_left c] at a
  rw [List.getElem?_append_left (by rw [<- h.1];exact c)] at b
  exact h.2 i y n a b
 ·rw [List.getElem?_append_right (by omega)] at a
  rw [List.getElem?_append_right (by rw [<- h.1];omega),<- h.1] at b
  exact g.2 _ y n a b⟩
theorem Wd.list{cR cJ cP cS cY cM cW:Addr}{H:Hp}{x:Addr}{r:RD}{p:Addr}{d:PD}{ns:List Int}{l:Addr}{ts us:List V}(w:Wd cR cJ cP cS cY cM cW H x r p d ns)(hl:H l=some (.lst ts))(n1:l≠d.ins)(n2:r.il≠l):Wd cR cJ cP cS cY cM cW (upd H l (.lst us)) x r p d ns:=by
 have off:∀ b o,H b=some o->(∀ zs,o≠.lst zs)->upd H l (.lst us) b=some o:=fun b o e n=>by
  rw [jAi (fun z=>by rw [z,hl] at e;injection e with e;exact n _ e.symm)]
  exact e
 obtain⟨⟨dt,t1⟩,t2,t3,t4⟩:=w.P.T
 obtain⟨⟨di,i1⟩,i2,i3,i4⟩:=w.P.I
 refine { w with R:=w.R.fr (fun b C dd fs e=>off _ _ e (by intro zs z;cases z)) (fun o e=>by rw [jAi n2];exact e) (fun b xs e=>off _ _ e (by intro zs z;cases z)),P:=?_,tg:=w.tg.fr fun b xs e=>off _ _ e (by intro zs z;cases z) }
 exact { w.P with o:=off _ _ w.P.o (by intro zs z;cases z),T:=⟨⟨dt,off _ _ t1 (by intro zs z;cases z)⟩,off _ _ t2 (by intro zs z;cases z),off _ _ t3 (by intro zs z;cases z),t4⟩,I:=⟨⟨di,off _ _ i1 (by intro zs z;cases z)⟩,off _ _ i2 (by intro zs z;cases z),off _ _ i3 (by intro zs z;cases z),i4⟩,s:=(let ⟨ds,hs⟩:=w.P.s;⟨ds,off _ _ hs (by intro zs z;cases z)⟩),n:=by rw [jAi (Ne.symm n1)];exact w.P.n }
def NW(r:RD)(ns:List Int):Prop:=∀ i,i<ns.length->(jA1 r (ns.take i)).ps≠r.tot
structure Emp(cR cJ cP cS cY cM cW:Addr)(H H':Hp)(x:Addr)(r:RD)(p:Addr)(d:PD)(l:Addr)(ns:List Int):Prop where
 fr:∀ b o,b≠x->b≠d.ins->H b=some o->H' b=some o
 nl:H l=none
 l:∃ ts,H' l=some (.lst ts)/\jAB H' r.nm ts ns
 w:Wd cR cJ cP cS cY cM cW H' x (jA8 r ns) p { d with tags:=[] } []
inductive jEU(cR cJ cP cS cY cM cW:Addr)(vs:List V)(H:Hp)(Q:VK)(E_:XK):Prop|mk x r:vs=[.ref x]->jA0 cR cJ H x r->(r.pr=none->∀ l H',jAn H H'->H l=none->H' l=some (.lst [])->Q (.ref l) H')->(∀ p,r.pr=some p->∃ d ns,Wd cR cJ cP cS cY cM cW H x r p d ns/\(ns≠[]->d.S=.rd)/\NW r ns/\r.ps≠r.tot/\∀ l H',Emp cR cJ cP cS cY cM cW H H' x r p d l ns->Q (.ref l) H')->jEU cR cJ cP cS cY cM cW vs H Q E_
theorem jGx:jAk ["self","came"] ["self"] (jAh jEM):=scM
include T in
theorem jJW(F:Fun K "emptied" "Run.emptied" jEM fa fd)(Dah:MtE P w K mg base 1 "within" cZ ["self"] (jCD cZ cQ yJ yW yU))(DaD:MtE P w K mg base 4 "push" cZ ["self"] (jE4 vY cZ cQ yJ yW yU))(Dai:MtE P w K mg base 4 "note_out" yK ["self","tags"] (jCd yK yG cZ cQ yJ yW yU)) :
 jAr P w K mg base (CXe P w) 5 fa fd ["self"] (jEU yK yG cZ cQ yJ yW yU):=by
 refine F.okE jGx (fun vs H Q E h=>?_) (fun cdv A outer s H vs Q E hr h=>?_)
 ·obtain⟨x,r,rfl,_⟩:=h
  rfl
 obtain⟨x,r,rfl,R,q1,q2⟩:=h
 exists _,(jAd (psA (i:=1) jGx.nd (jAV jAc)) (jAd (jN3 jFc (PW.pt (jEq (tcA jE_ (jAq (pv 0) rfl) jBk) (jDI (jAX (jAs 1 jAx hr.m (jAq (pv 0) rfl)) (fun _=>rfl))))) (jAf (jAy (jE0 PySem.F.plainAttrs_list PySem.F.slot_list_extend PySem.F.type_list_extend jNl (pv 1) (jAa (jAF 4 jAx hr.m (pv 0) (jAa (jAs 4 jAx hr.m (jAq (pv 0) rfl)) jAc)) jAc))))) (jAf (jAo (pv 1)))))
 refine⟨small (Nat.zero_le _),fun l nl=>?_⟩
 have s1:=jAj nl (.lst [])
 have hl:upd H l (.lst []) l=some (.lst []):=jAb
 generalize upd H l (.lst [])=H1 at s1 hl ⊢
 cases hp:r.pr with
 | none =>
   exists fun m σ G=>m=0/\G=H1/\σ=[some (.ref x),some (.ref l)],⟨0,rfl,rfl,rfl⟩
   rintro m σ G ⟨rfl,rfl,rfl⟩
   exists _,rfl,x,yK,r.dx,_,_,rfl,(R.same s1).o,T.aa,T.ah,rfl
   rw [hp]
   exact⟨rfl,false,rfl,jAJ (jAJ ⟨_,rfl,q1 hp l _ s1 nl hl⟩)⟩
 | some p =>
 obtain⟨d,ns,W,hS,nw,n0,q⟩:=q2 p hp
 have lt9:=W.P.lt
 have ltn:=W.tg.1
 exists fun m σ G=>∃ i ts,m+i=ns.length/\(∀ b o,b≠x->b≠d.ins->H b=some o->G b=some o)/\G l=some (.lst ts)/\jAB G r.nm ts (ns.take i)/\Wd yK yG cZ cQ yJ yW yU G x (jA8 r (ns.take i)) p { d with tags:=d.tags.drop i } (ns.drop i)/\σ=[some (.ref x),some (.ref l)],⟨ns.length,0,[],rfl,fun b o _ _ e=>s1 _ _ e,hl,⟨rfl,fun i y n a=>by cases a⟩,?_,rfl⟩
 ·rw [List.take_zero,jNT (by rw [jIo];exact n0),jIo,List.drop_zero,List.drop_zero]
  exact W.same s1
 rintro m σ G ⟨i,ts,mi,fr,hl,tg,WG,rfl⟩
 have lts:=tg.1
 rw [List.length_take] at lts
 have nlx:l≠x:=jAu hl WG.R.o nofun
 have done:∀ H',i=ns.length->jAn G H'->Q (.ref l) H':=fun H' ei s'=>by
  subst ei
  rw [List.take_length] at tg WG
  rw [List.drop_length] at WG
  have W2:=WG.same s'
  rw [show d.tags.drop ns.length=[] by rw [<- ltn,List.drop_length]] at W2
  exact q l H' ⟨fun b o b1 b2 e=>s' _ _ (fr b o b1 b2 e),nl,⟨ts,s' _ _ hl,tg.same s'⟩,W2⟩
 exists _,rfl,x,yK,_,_,_,rfl,WG.R.o,T.aa,T.ah,rfl
 have hpi:i<ns.length->(jA8 r (ns.take i))=jA1 r (ns.take i):=fun z=>jNT (nw i z)
 by_cases ci:i<ns.length
 ·have er:=hpi ci
  rw [er] at WG
  rw [er,show (jA1 r (ns.take i)).pr=some p from hp]
  refine⟨rfl,true,rfl,jAU ?_⟩
  exists _,rfl,x,yK,_,_,_,rfl,WG.R.o,T.aa,T.ah,rfl
  rw [show (jA1 r (ns.take i)).pr=some p from hp]
  refine⟨p,_,d.dx,_,_,_,rfl,WG.P.o,rfl,T.ac,Dah,p,_,rfl,WG.P,fun wl G1 sg nwl hwl=>?_⟩
  have lne:(d.tags.drop i).isEmpty=false:=by
   rw [List.isEmpty_eq_false_iff]
   intro z
   have:=congrArg List.length z
   rw [List.length_drop] at this
   have:d.tags.length-i=0:=this
   omega
  exists !(d.tags.drop i).isEmpty,.inl ⟨_,SqL.of hwl,rfl⟩
  rw [lne]
  refine jAU ⟨fun σ' G'=>∃ ts,(∀ b o,b≠x->b≠d.ins->H b=some o->G' b=some o)/\G' l=some (.lst ts)/\jAB G' r.nm ts (ns.take (i+1))/\Wd yK yG cZ cQ yJ yW yU G' x (jA8 r (ns.take (i+1))) p { d with tags:=d.tags.drop (i+1) } (ns.drop (i+1))/\σ'=[some (.ref x),some (.ref l)],fun σ' G' ⟨ts,h1,h2,h3,h4,h5⟩=>⟨m-1,by omega,i+1,ts,by omega,h1,h2,h3,h4,h5⟩,?_⟩
  have W1:=WG.same sg
  have hl1:=sg _ _ hl
  exists _,rfl,.inl ⟨rfl,_,SqL.of hl1⟩,_,rfl,x,_,_,_,_,_,rfl,W1.R.o,rfl,T.aa,Dai,_,rfl,x,yK,_,_,_,rfl,W1.R.o,T.aa,T.ah,rfl
  rw [show (jA1 r (ns.take i)).pr=some p from hp]
  refine⟨p,_,d.dx,_,_,_,rfl,W1.P.o,rfl,T.ac,DaD,p,_,rfl,W1.P,fun _ l1 G2 k2 nl1 hl2 P2=>?_,fun z=>absurd (hS (fun z=>by rw [z] at ci;cases ci)) z⟩
  have k2':∀ b o,b≠d.ins->b≠d.tr2->b≠d.ik2->G1 b=some o->G2 b=some o:=fun b o e1 _ _ e=>k2 b o e1 e
  have tg2:jAB G2 r.nm (d.tags.drop i) (ns.drop i):=W1.tg.fr fun b xs e=>k2 _ _ (jAu e W1.P.n nofun) e
  have R2:=W1.R.prn W1.P W1.n5 k2'
  refine⟨x,_,l1,_,(ns.drop i).take 1,rfl,R2,hl2,tg2.take1,fun G3 k3 R3=>?_⟩
  have e1:ns.take i++(ns.drop i).take 1=ns.take (i+1):=by
   rw [List.take_add]
  rw [jOy,e1] at R3
  have kt3:∀ b xs,G2 b=some (.tup xs)->G3 b=some (.tup xs):=fun b xs e=>k3 _ _ (jAu e R2.o nofun) e
  have nli:l≠d.ins:=fun z=>by
   have h1:=W.P.n
   rw [<- z] at h1
   rw [nl] at h1
   cases h1
  have hl3:G3 l=some (.lst ts):=k3 _ _ nlx (k2 _ _ nli hl1)
  have nl1x:l1≠x:=fun z=>by rw [z,W1.R.o] at nl1;cases nl1
  have hl13:=k3 _ _ nl1x hl2
  have tgt:jAB G3 r.nm (ts++(d.tags.drop i).take 1) (ns.take (i+1)):=by
   have a1:=((tg.same sg).fr fun b xs e=>k2 _ _ (jAu e W1.P.n nofun) e).fr kt3
   have a2:=tg2.take1.fr kt3
   rw [<- e1]
   exact a1.app a2
  refine⟨l,l1,_,_,rfl,rfl,hl3,hl13,?_,_,?_,jAb,tgt.fr ?_,?_,rfl⟩
  ·have:((d.tags.drop i).take 1).length<=1:=by rw [List.length_take];exact Nat.min_le_left _ _
   show ts.length+((d.tags.drop i).take 1).length<=sizeLine
   exact small (by omega)
  ·intro b o b1 b2 e
   have b3:b≠l:=fun z=>by rw [z,nl] at e;cases e
   rw [jAi b3]
   exact k3 _ _ b1 (k2 _ _ b2 (sg _ _ (fr b o b1 b2 e)))
  ·intro b xs e
   rw [jAi (jAu e hl3 nofun)]
   exact e
  ·have P3:=P2.off R2.o k3 W.n1 W.n2 W.n3 W.n4
   have hl3':=hl3
   rw [List.drop_drop] at P3
   have W3:Wd yK yG cZ cQ yJ yW yU G3 x (jA8 r (ns.take (i+1))) p { d with tags:=d.tags.drop (i+1) } (ns.drop (i+1)):=⟨R3,P3,by rw [jJV];have:=tg2.drop1.fr kt3;rw [List.drop_drop,List.drop_drop] at this;exact this,W.n1,W.n2,W.n3,W.n4,by rw [jGw];exact W.n5⟩
   have nil':r.il≠l:=fun z=>by
    obtain⟨ys,hy,_⟩:=id R.i
    rw [z,nl] at hy
    cases hy
   exact W3.list hl3 nli (by rw [jGw];exact nil')
 ·have ei:i=ns.length:=by omega
  cases hpe:(jA8 r (ns.take i)).pr with
  | none =>
    exact⟨rfl,false,rfl,jAJ (jAJ ⟨_,rfl,done G ei (jAn.refl _)⟩)⟩
  | some p' =>
    have ep:p'=p:=by
     unfold jA8 at hpe
     split at hpe
     ·cases hpe
     ·have:r.pr=some p':=hpe
      rw [hp] at this
      exact (Option.some.inj this).symm
    subst ep
    refine⟨rfl,true,rfl,jAU ?_⟩
    exists _,rfl,x,yK,_,_,_,rfl,WG.R.o,T.aa,T.ah,rfl
    rw [hpe]
    refine⟨p',_,d.dx,_,_,_,rfl,WG.P.o,rfl,T.ac,Dah,p',_,rfl,WG.P,fun wl G1 sg nwl hwl=>?_⟩
    exists !(d.tags.drop i).isEmpty,.inl ⟨_,SqL.of hwl,rfl⟩
    rw [show d.tags.drop i=[] by rw [ei,<- ltn,List.drop_length]]
    exact jAJ ⟨_,rfl,done G1 ei sg⟩
theorem jAB.takeN{H:Hp}{nm:Str}{ts:List V}{ns:List Int}(h:jAB H nm ts ns)(k:Nat):jAB H nm (ts.take k) (ns.take k):=⟨by rw [List.length_take,List.length_take,h.1],fun i y n a b=>by
 rw [List.getElem?_take] at a b
 by_cases c:i<k
 ·rw [if_pos c] at a b;exact h.2 i y n a b
 ·rw [if_neg c] at a;cases a⟩
def jE7(r:RD)(p:Addr):RD:=if r.ps=r.tot then r else { r with pr:=some p,sl:=false }
theorem Wd.run{cR cJ cP cS cY cM cW:Addr}{H H':Hp}{x:Addr}{r r':RD}{p:Addr}{d:PD}{ns:List Int}(w:Wd cR cJ cP cS cY cM cW H x r p d ns)(k:∀ b o,b≠x->H b=some o->H' b=some o)(R:jA0 cR cJ H' x r')(en:r'.nm=r.nm)(ei:r'.il=r.il):Wd cR cJ cP cS cY cM cW H' x r' p d ns:=⟨R,w.P.off w.R.o k w.n1 w.n2 w.n3 w.n4,by rw [en];exact w.tg.fr fun b xs eo=>k _ _ (jAu eo w.R.o nofun) eo,w.n1,w.n2,w.n3,w.n4,by rw [ei];exact w.n5⟩
inductive jCo(cR cJ cO cN cP cS cY cM cW:Addr)(vs:List V)(H:Hp)(Q:VK)(E:XK):Prop|mk x r p2 d2:vs=[.ref x,.ref p2]->jA0 cR cJ H x r->jAC cP cS cY cM cW H p2 d2->(¬ Liv r->OvR cO r H E)->(Liv r->d2.S≠.rd->jBi cN "found" (.str (wd d2.S)) H E)->(Liv r->d2.S=.rd->(r.pr=none->∀ l H',(∀ b o,b≠x->H b=some o->H' b=some o)->H l=none->H' l=some (.lst [])->jA0 cR cJ H' x (jE7 r p2)->Q (.ref l) H') /\
 ∀ p,r.pr=some p->∃ d ns,Wd cR cJ cP cS cY cM cW H x r p d ns/\(ns≠[]->d.S=.rd)/\NW r ns/\∀ l H',(∀ b o,b≠x->b≠d.ins->H b=some o->H' b=some o)->H l=none->(∃ ts,H' l=some (.lst ts)/\jAB H' r.nm ts ns)->Wd cR cJ cP cS cY cM cW H' x (jE7 (jA8 r ns) p2) p { d with tags:=[] } []->Q (.ref l) H')->jCo cR cJ cO cN cP cS cY cM cW vs H Q E
theorem jIe:jAk ["self","printer","came"] ["self","printer"] (jAh jGR):=scM
include T in
theorem jMi(F:Fun K "take" "Run.take" jGR fa fd)(Dab:jCY P w K mg base 1 "NotNow" vY ["self","found"] (jBh vY "found"))(DaC:MtE P w K mg base 4 "must_go_on" yK ["self"] (jCn yK yG vW cZ cQ yJ yW yU))(Daa:MtE P w K mg base 2 "stands" cZ ["self"] (jBG cZ cQ yJ yW yU))(Dbu:MtE P w K mg base 5 "emptied" yK ["self"] (jEU yK yG cZ cQ yJ yW yU))(Dad:MtE P w K mg base 3 "whole" yK ["self"] (jB8 yK yG cZ cQ yJ yW yU)) :
 jAr P w K mg base (CXe P w) 6 fa fd ["self","printer"] (jCo yK yG vW vY cZ cQ yJ yW yU):=by
 refine F.okE jIe (fun vs H Q E h=>?_) (fun cdv A outer s H vs Q E hr h=>?_)
 ·obtain⟨x,r,p,d,rfl,_⟩:=h
  rfl
 obtain⟨x,r,p2,d2,rfl,R,P,qo,qn,qg⟩:=h
 exists _,(jAd (jAy (jAs 4 jAx hr.m (pv 0))) (jAd (jAE (tcA jHG (jAs 2 jAx hr.m (pv 1)) (jCg T.aY rfl)) (jAf (jBz jBn rfl (jBm Dab hr.m rfl (jAa (jAs 2 jAx hr.m (pv 1)) jAc)))) jAw) (jAd (psA (i:=2) jIe.nd (jAs 5 jAx hr.m (pv 0))) (jAd (jAE (jB9 (jAX (jAs 3 jAx hr.m (pv 0)) (fun _=>rfl))) (jAd (jAM (pv 0) (pv 1) rfl) (jAf (jAM (pv 0) jBc rfl))) jAw) (jAf (jAo (pv 2)))))))
 refine⟨_,rfl,x,_,r.dx,_,_,_,rfl,R.o,rfl,T.aa,DaC,x,r,rfl,R,fun lv=>?_,qo⟩
 exists _,rfl,p2,_,d2.dx,_,_,_,rfl,P.o,rfl,T.ac,Daa,p2,d2,rfl,P,rfl,_,rfl
 by_cases eS:d2.S=.rd
 rotate_left
 ·refine iteNN (fun z=>eS (wd_rd.mp (by injection z))) ?_
  exact⟨_,rfl,p2,_,d2.dx,_,_,_,rfl,P.o,rfl,T.ac,Daa,p2,d2,rfl,P,jA2 T.ae.m fun ea H' sm _ g=>qn lv eS ea H' sm g⟩
 refine iteNS (by rw [eS];rfl) ?_
 obtain⟨q1,q2⟩:=qg lv eS
 refine⟨_,rfl,x,_,r.dx,_,_,_,rfl,R.o,rfl,T.aa,Dbu,x,r,rfl,R,fun hp l H1 s1 nl hl=>?_,fun p hp=>?_⟩
 ·have R1:=R.same s1
  refine⟨_,rfl,x,_,_,_,_,_,rfl,R1.o,rfl,T.aa,Dad,x,r,rfl,R1,false,(by show false=decide (r.ps=r.tot);rw [decide_eq_false lv.2]),jAU ?_⟩
  refine⟨_,rfl,_,rfl,x,yK,_,_,rfl,R1.o,T.aa,T.ah,(by show 6<1000;decide),?_⟩
  rw [show V.ref p2=prV (some p2) from rfl,jJU]
  have R2:=R1.set r.ps (some p2) r.sl r.br
  refine⟨_,rfl,x,yK,_,_,rfl,R2.o,T.aa,T.aM,(by show 6<1000;decide),?_⟩
  rw [jJT]
  have nlx:l≠x:=fun z=>by rw [z,R.o] at nl;cases nl
  refine⟨_,rfl,q1 hp l _ (fun b o nb e=>by rw [jAi nb,jAi nb];exact s1 _ _ e) nl (by rw [jAi nlx,jAi nlx];exact hl) ?_⟩
  unfold jE7
  rw [if_neg lv.2]
  exact R2.set r.ps (some p2) false r.br
 ·obtain⟨d,ns,W,hS,nw,q⟩:=q2 p hp
  refine⟨d,ns,W,hS,nw,lv.2,fun l H1 em=>?_⟩
  have R1:=em.w.R
  obtain⟨ts,hl,tl⟩:=em.l
  exists _,rfl,x,_,_,_,_,_,rfl,R1.o,rfl,T.aa,Dad,x,_,rfl,R1,_,rfl
  by_cases c:(jA8 r ns).ps=(jA8 r ns).tot
  ·rw [decide_eq_true c]
   refine jAJ ⟨_,rfl,q l H1 em.fr em.nl ⟨ts,hl,tl⟩ ?_⟩
   unfold jE7
   rw [if_pos c]
   exact em.w
  ·rw [decide_eq_false c]
   refine jAU ?_
   refine⟨_,rfl,_,rfl,x,yK,_,_,rfl,R1.o,T.aa,T.ah,(by show 6<1000;decide),?_⟩
   rw [show V.ref p2=prV (some p2) from rfl,jJU]
   have R2:=R1.set (jA8 r ns).ps (some p2) (jA8 r ns).sl (jA8 r ns).br
   refine⟨_,rfl,x,yK,_,_,rfl,R2.o,T.aa,T.aM,(by show 6<1000;decide),?_⟩
   rw [jJT]
   have R3:=R2.set (jA8 r ns).ps (some p2) false (jA8 r ns).br
   have k3:∀ b o,b≠x->H1 b=some o->upd (upd H1 x (.ins yK (jA8 r ns).dx ({ jA8 r ns with pr:=some p2 }:RD).fs)) x (.ins yK (jA8 r ns).dx ({ jA8 r ns with pr:=some p2,sl:=false }:RD).fs) b=some o:=fun b o nb e=>by rw [jAi nb,jAi nb];exact e
   refine⟨_,rfl,q l _ (fun b o b1 b2 e=>k3 _ _ b1 (em.fr b o b1 b2 e)) em.nl ⟨ts,k3 _ _ (jAu hl R1.o nofun) hl,tl.fr fun b xs eo=>k3 _ _ (jAu eo R1.o nofun) eo⟩ (em.w.run k3 ?_ ?_ ?_)⟩
   ·unfold jE7
    rw [if_neg c]
    exact R3
   ·unfold jE7
    rw [if_neg c]
   ·unfold jE7
    rw [if_neg c]
theorem st_run{cR cJ cY cM cW:Addr}{H:Hp}{x st:Addr}{s:S3}{r:RD}(h:jER cY cM cW H st s)(R:jA0 cR cJ H x r):st≠x:=by
 obtain⟨ds,e⟩:=h
 refine jAu e R.o fun z=>?_
 injection z with _ _ z
 have:=congrArg List.length z
 rw [show r.fs.length=6 from rfl] at this
 cases s with
 | rd=>exact absurd (show 1=6 from this) (by decide)
 | jm=>exact absurd (show 1=6 from this) (by decide)
 | aw b=>exact absurd (show 2=6 from this) (by decide)
theorem jA0.turn{cR cJ cP cS cY cM cW:Addr}{H H':Hp}{x:Addr}{r:RD}{p:Addr}{d:PD}(R:jA0 cR cJ H x r)(P:jAC cP cS cY cM cW H p d)(n1:p≠x)(kp:∀ b o,b≠p->H b=some o->H' b=some o):jA0 cR cJ H' x r:=by
 have kt:∀ b xs,H b=some (.tup xs)->H' b=some (.tup xs):=fun b xs e=>kp _ _ (jAu e P.o nofun) e
 obtain⟨ys,hy,_⟩:=id R.i
 obtain⟨jx,jb,ji,jk,jc,je,_⟩:=id R.j
 have fs8:∀ (C dx C' dx':Addr) (fs:List (Str×V)),fs.length≠8->HO.ins C dx fs≠.ins C' dx' d.fs:=fun C dx C' dx' fs n z=>by
  injection z with _ _ z
  exact n (by rw [z];rfl)
 exact { R with o:=kp _ _ (Ne.symm n1) R.o,j:=R.j.fr (fun o e=>kp _ _ (jAu je P.o (fs8 _ _ _ _ _ (by show 10≠8;decide))) e) kt,i:=R.i.fr (fun o e=>kp _ _ (jAu hy P.o nofun) e) kt }
inductive jEA(cR cJ cO cX cN cT cP cS cY cM cW:Addr)(vs:List V)(H:Hp)(Q:VK)(E:XK):Prop|mk x r (k:Nat):vs=[.ref x,.int (k:Int)]->jA0 cR cJ H x r->(¬ Liv r->OvR cO r H E)->(Liv r->r.pr=none->jBi cX "job" (.str r.nm) H E)->(Liv r->∀ p,r.pr=some p->∃ d ns,Wd cR cJ cP cS cY cM cW H x r p d ns/\(d.S≠.rd->jBi cN "found" (.str (wd d.S)) H E)/\(d.S=.rd->ns.length<k->jBi cT "name" (.str wiW) H E) /\
 (d.S=.rd->k<=ns.length->∀ t l1 l2 st il H',(∀ b o,b≠x->b≠p->H b=some o->H' b=some o)->H il=none->H' t=some (.tup [.ref l1,.ref l2])->(∃ ts,H' l1=some (.lst ts)/\jAB H' r.nm ts (ns.take k))->(∃ ts,H' l2=some (.lst ts)/\jAB H' r.nm ts (ns.drop k))->Wd cR cJ cP cS cY cM cW H' x (jA8 r (ns.take k)) p { d with st:=st,S:=.jm,ins:=il,tags:=[] } []->Q (.ref t) H'))->jEA cR cJ cO cX cN cT cP cS cY cM cW vs H Q E
theorem jAB.dropN{H:Hp}{nm:Str}{ts:List V}{ns:List Int}(h:jAB H nm ts ns)(k:Nat):jAB H nm (ts.drop k) (ns.drop k):=⟨by rw [List.length_drop,List.length_drop,h.1],fun i y n a b=>by rw [List.getElem?_drop] at a b;exact h.2 _ y n a b⟩
theorem jJi:jAk ["self","saved","told"] ["self","saved"] (jAh jHu):=scM
include T in
theorem jM3(F:Fun K "jam" "Run.jam" jHu fa fd)(DaE:MtE P w K mg base 5 "must_be_placed" yK ["self"] (jBO yK yG vW vJ cZ cQ yJ yW yU))(Dam:MtE P w K mg base 5 "jam" cZ ["self","saved"] (jEy vY vU cZ cQ yJ yW yU))(Dai:MtE P w K mg base 4 "note_out" yK ["self","tags"] (jCd yK yG cZ cQ yJ yW yU)) :
 jAr P w K mg base (CXe P w) 6 fa fd ["self","saved"] (jEA yK yG vW vJ vY vU cZ cQ yJ yW yU):=by
 refine F.okE jJi (fun vs H Q E h=>?_) (fun cdv A outer s H vs Q E hr h=>?_)
 ·obtain⟨x,r,k,rfl,_⟩:=h
  rfl
 obtain⟨x,r,k,rfl,R,qo,qx,qg⟩:=h
 exists _,(jAd (jAy (jAs 5 jAx hr.m (pv 0))) (jAd (psA (i:=2) jJi.nd (jAF 5 jAx hr.m (jAq (pv 0) rfl) (jAa (pv 1) jAc))) (jAd (jAy (jAF 4 jAx hr.m (pv 0) (jAa (ixA jAI (pv 2) jAe) jAc))) (jAf (jAo (pv 2))))))
 refine⟨_,rfl,x,_,r.dx,_,_,_,rfl,R.o,rfl,T.aa,DaE,x,r,rfl,R,fun lv p hp=>?_,qx,qo⟩
 obtain⟨d,ns,W,qn,qt,q⟩:=qg lv p hp
 exists _,rfl,x,yK,r.dx,_,_,rfl,R.o,T.aa,T.ah,rfl
 rw [hp]
 have ltn:=W.tg.1
 refine⟨p,_,d.dx,_,_,_,rfl,W.P.o,rfl,T.ac,Dam,_,rfl,p,d,k,rfl,W.P,qn,fun e1 e2=>qt e1 (by omega),fun eS kn t l1 l2 st il H1 kp nil' nt ht hl1 hl2 P1=>?_⟩
 have kt:∀ b xs,H b=some (.tup xs)->H1 b=some (.tup xs):=fun b xs e=>kp _ _ (jAu e W.P.o nofun) e
 have R1:=R.turn W.P W.n1 kp
 have tg1:jAB H1 r.nm (d.tags.take k) (ns.take k):=(W.tg.fr kt).takeN k
 have tg2:jAB H1 r.nm (d.tags.drop k) (ns.drop k):=(W.tg.fr kt).dropN k
 refine⟨_,rfl,x,_,r.dx,_,_,_,rfl,R1.o,rfl,T.aa,Dai,_,rfl,t,_,_,_,rfl,rfl,SqT.of ht,jAl (j:=0) rfl,x,r,l1,_,ns.take k,rfl,R1,hl1,tg1,fun H2 k2 R2=>?_⟩
 have nstx:st≠x:=st_run P1.s R1
 have P2:=P1.off R1.o k2 W.n1 W.n2 W.n3 nstx
 have kt2:∀ b xs,H1 b=some (.tup xs)->H2 b=some (.tup xs):=fun b xs e=>k2 _ _ (jAu e R1.o nofun) e
 refine⟨_,rfl,q eS (by omega) t l1 l2 st il H2 (fun b o b1 b2 e=>k2 _ _ b1 (kp _ _ b2 e)) nil' (kt2 _ _ ht) ⟨_,k2 _ _ (jAu hl1 R1.o nofun) hl1,tg1.fr kt2⟩ ⟨_,k2 _ _ (jAu hl2 R1.o nofun) hl2,tg2.fr kt2⟩ ⟨R2,P2,⟨rfl,fun i y n a=>by cases a⟩,W.n1,W.n2,W.n3,nstx,?_⟩⟩
 rw [jGw]
 intro z
 have z':r.il=il:=z
 obtain⟨ys,hy,_⟩:=id R.i
 rw [<- z',hy] at nil'
 cases nil'
def jJj(over:Bool)(ns:List Int):List Int:=if over=true then ns.take 1 else []
def jK0(over:Bool)(ns:List Int):List Int:=if over=true then ns.drop 1 else ns
structure Stp(cR cJ cP cS cY cM cW:Addr)(H H':Hp)(x:Addr)(r:RD)(p:Addr)(d d':PD)(l:Addr)(outs ns:List Int):Prop where
 fr:∀ b o,b≠x->b≠d.ins->b≠d.tr2->b≠d.ik2->H b=some o->H' b=some o
 nl:H l=none
 l:∃ ts,H' l=some (.lst ts)/\jAB H' r.nm ts outs
 w:Wd cR cJ cP cS cY cM cW H' x (jA8 r outs) p d' ns
theorem take_if{α:Type}{c:Prop}[Decidable c]{over:Bool}(e:decide c=over)(l:List α):(if c then l.take 1 else [])=if over=true then l.take 1 else []:=by
 subst e
 by_cases h:c
 ·rw [if_pos h,if_pos (decide_eq_true h)]
 ·rw [if_neg h,if_neg (fun z=>h (of_decide_eq_true z))]
theorem drop_if{α:Type}{c:Prop}[Decidable c]{over:Bool}(e:decide c=over)(l:List α):(if c then l.drop 1 else l)=if over=true then l.drop 1 else l:=by
 subst e
 by_cases h:c
 ·rw [if_pos h,if_pos (decide_eq_true h)]
 ·rw [if_neg h,if_neg (fun z=>h (of_decide_eq_true z))]
theorem jAB.outs{H:Hp}{nm:Str}{ts:List V}{ns:List Int}(h:jAB H nm ts ns)(over:Bool):jAB H nm (if over=true then ts.take 1 else []) (jJj over ns):=by
 unfold jJj
 cases over with
 | true=>rw [if_pos rfl,if_pos rfl];exact h.take1
 | false=>rw [if_neg (by decide),if_neg (by decide)];exact⟨rfl,fun i y n a=>by simp at a⟩
theorem jAB.rest{H:Hp}{nm:Str}{ts:List V}{ns:List Int}(h:jAB H nm ts ns)(over:Bool):jAB H nm (if over=true then ts.drop 1 else ts) (jK0 over ns):=by
 unfold jK0
 cases over with
 | true=>rw [if_pos rfl,if_pos rfl];exact h.drop1
 | false=>rw [if_neg (by decide),if_neg (by decide)];exact h
theorem next_lo(r:RD)(ns:List Int):-1<=jAY r ns:=by
 unfold jAY
 split<;>omega
inductive jE8(cR cJ cO cX cU cN cD cP cS cY cM cW:Addr)(vs:List V)(H:Hp)(Q:VK)(E:XK):Prop|mk x r:vs=[.ref x]->jA0 cR cJ H x r->(¬ Liv r->OvR cO r H E)->(Liv r->r.pr=none->jBi cX "job" (.str r.nm) H E)->(Liv r->∀ p,r.pr=some p->∃ d ns,Wd cR cJ cP cS cY cM cW H x r p d ns/\(d.S≠.rd->jBi cN "found" (.str (wd d.S)) H E) /\
 (jAY r ns<(r.tot:Int)->d.tags.length<=800/\FdQ cU cN cD d (jBv r (jAY r ns)) H E/\∀ A,d.S=.rd->d.am.lookup (jBv r (jAY r ns)).1=some A->jCM d A (jBv r (jAY r ns))=none->∀ l H' ts over,over=decide (d.path<((ns.length+1:Nat):Int)) ->
  Stp cR cJ cP cS cY cM cW H H' x r p d { d with am:=jAT d.am (jBv r (jAY r ns)).1 (A-1),b:=d.b-(jBv r (jAY r ns)).2.1,c:=d.c-(jBv r (jAY r ns)).2.2,tags:=ts } l (jJj over (ns++[jAY r ns])) (jK0 over (ns++[jAY r ns]))->Q (.ref l) H') /\
 (¬ jAY r ns<(r.tot:Int)->d.S=.rd->∀ l H' ts,Stp cR cJ cP cS cY cM cW H H' x r p d { d with tags:=ts } l (ns.take 1) (ns.drop 1)->Q (.ref l) H'))->jE8 cR cJ cO cX cU cN cD cP cS cY cM cW vs H Q E
theorem jIf:jAk ["self","tag"] ["self"] (jAh jGS):=scM
include T in
theorem jMj(F:Fun K "step" "Run.step" jGS fa fd)(DaE:MtE P w K mg base 5 "must_be_placed" yK ["self"] (jBO yK yG vW vJ cZ cQ yJ yW yU))(DaF:MtE P w K mg base 3 "upcoming" yK ["self"] (jCc yK yG cZ cQ yJ yW yU))(DaD:MtE P w K mg base 4 "push" cZ ["self"] (jE4 vY cZ cQ yJ yW yU))(Dbv:MtE P w K mg base 7 "fed" yK ["self","tag"] (jHC yK yG vG vY cG cZ cQ yJ yW yU))(Dai:MtE P w K mg base 4 "note_out" yK ["self","tags"] (jCd yK yG cZ cQ yJ yW yU)) :
 jAr P w K mg base (CXe P w) 8 fa fd ["self"] (jE8 yK yG vW vJ vG vY cG cZ cQ yJ yW yU):=by
 refine F.okE jIf (fun vs H Q E h=>?_) (fun cdv A outer s H vs Q E hr h=>?_)
 ·obtain⟨x,r,rfl,_⟩:=h
  rfl
 obtain⟨x,r,rfl,R0,qo,qx,qg⟩:=h
 exists _,(jAd (jAy (jAs 5 jAx hr.m (pv 0))) (jAd (psA (i:=1) jIf.nd (jAs 3 jAx hr.m (pv 0))) (jAf (jAo (jAF 4 jAx hr.m (pv 0) (jAa (jCv (tcA jIv (pv 1) jBk) (jAs 4 jAx hr.m (jAq (pv 0) rfl)) (jAF 7 jAx hr.m (pv 0) (jAa (pv 1) jAc))) jAc))))))
 refine⟨_,rfl,x,_,r.dx,_,_,_,rfl,R0.o,rfl,T.aa,DaE,x,r,rfl,R0,fun lv p hp=>?_,qx,qo⟩
 obtain⟨d,ns,W,qn,q1,q2⟩:=qg lv p hp
 refine⟨_,rfl,x,_,r.dx,_,_,_,rfl,W.R.o,rfl,T.aa,DaF,x,r,rfl,W.R,(fun z=>by rw [hp] at z;cases z),fun p' hp'=>?_⟩
 obtain rfl:p=p':=by rw [hp] at hp';exact Option.some.inj hp'
 refine⟨d,ns,W.P,W.tg,fun cn t H1 s1 nt ht=>?_,fun cn H1 s1=>?_⟩
 ·obtain⟨lt8,fq,q⟩:=q1 cn
  have W1:=W.same s1
  refine⟨_,rfl,x,_,r.dx,_,_,_,rfl,W1.R.o,rfl,T.aa,Dai,_,rfl,rfl,false,rfl,jAJ ?_⟩
  refine⟨_,rfl,x,_,r.dx,_,_,_,rfl,W1.R.o,rfl,T.aa,Dbv,_,rfl,x,r,t,_,p,d,rfl,W1.R,ht,next_lo _ _,hp,W1.P,lt8,fq.after s1,fun A eS la lk l H2 k2 nl hl P2=>?_⟩
  have elen:=W.tg.1
  have tg1:=W1.tg.snoc ht
  have h1:=W1.P.n
  have h2:=W1.P.T.2.2.1
  have h3:=W1.P.I.2.2.1
  have tg2:jAB H2 r.nm (d.tags++[V.ref t]) (ns++[jAY r ns]):=tg1.fr fun b xs e=>k2 _ _ (jAu e h1 nofun) (jAu e h2 nofun) (jAu e h3 nofun) e
  have R2:=W1.R.prn W1.P W1.n5 k2
  generalize hov:decide (d.path<((d.tags.length+1:Nat):Int))=over at hl
  rw [take_if hov] at hl
  refine⟨x,r,l,_,jJj over (ns++[jAY r ns]),rfl,R2,hl,tg2.outs over,fun H3 k3 R3=>?_⟩
  have nlx:l≠x:=fun z=>by rw [z,W1.R.o] at nl;cases nl
  have kt3:∀ b xs,H2 b=some (.tup xs)->H3 b=some (.tup xs):=fun b xs e=>k3 _ _ (jAu e R2.o nofun) e
  refine q A eS la lk l H3 (if over=true then (d.tags++[V.ref t]).drop 1 else d.tags++[V.ref t]) over (by rw [<- hov,elen]) ⟨fun b o e1 e2 e3 e4 e=>k3 _ _ e1 (k2 _ _ e2 e3 e4 (s1 _ _ e)),s1.free nl,⟨_,k3 _ _ nlx hl,(tg2.outs over).fr kt3⟩,?_⟩
  have P3:=P2.off R2.o k3 W.n1 W.n2 W.n3 W.n4
  have ed:feedD d (jBv r (jAY r ns)).1 A (jBv r (jAY r ns)).2.1 (jBv r (jAY r ns)).2.2 (V.ref t)={ d with am:=jAT d.am (jBv r (jAY r ns)).1 (A-1),b:=d.b-(jBv r (jAY r ns)).2.1,c:=d.c-(jBv r (jAY r ns)).2.2,tags:=if over=true then (d.tags++[V.ref t]).drop 1 else d.tags++[V.ref t] }:=by
   unfold feedD fedD
   rw [drop_if hov]
  rw [ed] at P3
  exact⟨R3,P3,by rw [jJV];exact (tg2.rest over).fr kt3,W.n1,W.n2,W.n3,W.n4,by rw [jGw];exact W.n5⟩
 ·have W1:=W.same s1
  refine⟨_,rfl,x,_,r.dx,_,_,_,rfl,W1.R.o,rfl,T.aa,Dai,_,rfl,rfl,true,rfl,jAU ?_⟩
  exists _,rfl,x,yK,r.dx,_,_,rfl,W1.R.o,T.aa,T.ah,rfl
  rw [hp]
  refine⟨p,_,d.dx,_,_,_,rfl,W1.P.o,rfl,T.ac,DaD,p,d,rfl,W1.P,fun eS l H2 k2 nl hl P2=>?_,fun z=>(qn z).after s1⟩
  have k2':∀ b o,b≠d.ins->b≠d.tr2->b≠d.ik2->H1 b=some o->H2 b=some o:=fun b o e1 _ _ e=>k2 b o e1 e
  have tg2:jAB H2 r.nm d.tags ns:=W1.tg.fr fun b xs e=>k2 _ _ (jAu e W1.P.n nofun) e
  have R2:=W1.R.prn W1.P W1.n5 k2'
  refine⟨x,r,l,_,ns.take 1,rfl,R2,hl,tg2.take1,fun H3 k3 R3=>?_⟩
  have nlx:l≠x:=fun z=>by rw [z,W1.R.o] at nl;cases nl
  have kt3:∀ b xs,H2 b=some (.tup xs)->H3 b=some (.tup xs):=fun b xs e=>k3 _ _ (jAu e R2.o nofun) e
  refine q2 cn eS l H3 (d.tags.drop 1) ⟨fun b o e1 e2 e3 e4 e=>k3 _ _ e1 (k2 _ _ e2 (s1 _ _ e)),s1.free nl,⟨_,k3 _ _ nlx hl,tg2.take1.fr kt3⟩,?_⟩
  exact⟨R3,P2.off R2.o k3 W.n1 W.n2 W.n3 W.n4,by rw [jJV];exact tg2.drop1.fr kt3,W.n1,W.n2,W.n3,W.n4,by rw [jGw];exact W.n5⟩
def jAK(j:Jv):List (Int×Int):=(jDk j.l j.n).map fun s=>jG1 s j.colour
def newR(dx jb il:Addr)(nm:Str)(cp:Nat)(j:Jv):RD:=⟨dx,jb,il,nm,cp,j,jAK j,0,none,false,false⟩
theorem jM4{l:Ly}{n:Nat}(ok:Ly.Ok l){i:Nat}{s:List Int×List Int}(h:(jDk l n)[i]?=some s):s.1.length<=100/\s.2.length<=100:=by
 have c:=Ly.cells_pos ok
 unfold jDk at h
 rw [List.getElem?_map] at h
 obtain⟨k,_,rfl⟩:=Option.map_eq_some_iff.mp h
 unfold jCz jBe
 refine⟨by rw [List.length_map,List.length_range];omega,?_⟩
 dsimp only
 split
 ·rw [List.length_map,List.length_range];omega
 ·rw [List.length_replicate];omega
theorem jEf(l:Ly)(n:Nat):(jDk l n).length=jDj l n:=by unfold jDk;rw [List.length_map,List.length_range]
theorem cnt_hi{l:Ly}{n:Nat}(h:1<=n):jDj l n<=n:=by
 unfold jDj
 have:=Nat.div_le_self (n-1) l.per
 omega
inductive jG5(cR cJ:Addr)(vs:List V)(H:Hp)(Q:VK)(E_:XK):Prop|mk (x dx jb:Addr) (nm:Str) (cp:Nat) (j:Jv):vs=[.ref x,.ref jb]->H x=some (.ins cR dx [])->jG2 cJ H jb nm cp j->j.Ok->1<=cp->cp<=99->jb≠x->(∀ il H',(∀ b o,b≠x->H b=some o->H' b=some o)->H il=none->jA0 cR cJ H' x (newR dx jb il nm cp j)->Q .non H')->jG5 cR cJ vs H Q E_
theorem jMk:jAk ["self","job"] ["self","job"] (jAh jGO):=scM
include T in
theorem jMl(F:Fun K "__init__" "Run.__init__" jGO fa fd)(Dbw:Dfn P w K mg base 2 "ink_of" ["sheet","colour"] (jHy K))(Dbx:Dfn P w K mg base 5 "sheets_of" ["job"] (jFB yG)) :
 jAr P w K mg base CX0 6 fa fd ["self","job"] (jG5 yK yG):=by
 refine F.ok jMk (fun vs H Q E h=>?_) (fun cdv A outer s H vs Q E hr h=>?_)
 ·obtain⟨x,dx,jb,nm,cp,j,rfl,_⟩:=h
  rfl
 obtain⟨x,dx,jb,nm,cp,j,rfl,hx,J,ok,c1,c2,njx,q⟩:=h
 exists _,(jAd (jAM (pv 0) (pv 1) rfl) (jAd (jAM (pv 0) (jFa (frees:=[ ("job",1) ]) ⟨by decide +kernel,rfl,rfl,by decide +kernel,⟨⟨rfl,rfl,rfl,by decide +kernel⟩,trivial⟩,by decide +kernel,jBD rfl,rfl⟩ rfl (jBt (jAv Dbx hr.m rfl (jAa (pv 1) jAc))) (fun _ _ _ _=>jDL) (fun _ _ _ _=>by exact (jAv Dbw hr.m rfl (jAa (pv 0) (jAa (pe_fldK (K:=K) rfl (pv 1) rfl) jAc))))) rfl) (jAd (jAM (pv 0) jAe rfl) (jAd (jAM (pv 0) jBk rfl) (jAd (jAM (pv 0) jBc rfl) (jAf (jAM (pv 0) jBc rfl)))))))
 refine⟨_,rfl,_,rfl,x,yK,dx,_,rfl,hx,T.aa,T.aA,(by show 0<1000;decide),?_⟩
 rw [jBa (by show ¬ ("job":Str)∈([]:List Str);decide +kernel),List.nil_append]
 have hx1:upd H x (.ins yK dx [("job",V.ref jb)]) x=some (.ins yK dx [("job",V.ref jb)]):=jAb
 have k1:∀ b o,b≠x->H b=some o->upd H x (.ins yK dx [("job",V.ref jb)]) b=some o:=fun b o nb e=>by rw [jAi nb];exact e
 generalize upd H x (.ins yK dx [("job",V.ref jb)])=H1 at hx1 k1 ⊢
 have J1:jG2 yG H1 jb nm cp j:=J.fr (fun o e=>k1 _ _ njx e) (fun b xs e=>k1 _ _ (jAu e hx nofun) e)
 obtain⟨jx,jb',ji,jk,jc,je,jcol⟩:=id J1
 refine⟨_,rfl,jb,j,rfl,J1.jo,ok,fun pl H2 s2 npl SF=>?_⟩
 obtain⟨ys,hpl,ly,gy⟩:=SF
 have lc:=jEf j.l j.n
 have ch:=cnt_hi (l:=j.l) ok.1
 have n9:=ok.2.1
 exists pl,rfl,⟨_,SqL.of hpl⟩
 refine jGK (jGH (K:=K) (SqL.of hpl)) (fun y z H3=>∀ s,jFe H2 y s->∃ t,z=.ref t/\H3 t=some (.tup [.int (jG1 s j.colour).1,.int (jG1 s j.colour).2])) (jAW (by omega)) (fun y hy H' R _ rr=>rr) (fun y hy H' R sm rr=>?_) (fun il H3 zs s3 nil' hil lz gz=>?_)
 ·obtain⟨i,ei⟩:=List.mem_iff_getElem?.mp hy
  obtain⟨s,es⟩:∃ s,(jDk j.l j.n)[i]?=some s:=⟨_,List.getElem?_eq_getElem (by rw [<- ly];exact (List.getElem?_eq_some_iff.mp ei).1)⟩
  have sa:=(gy i y s ei es).at
  obtain⟨l1,l2⟩:=jM4 ok.2.2 es
  refine⟨_,rfl,_,rfl,jb,yG,jx,_,_,rfl,(s2.trans sm) _ _ je,T.ad,T.bz,jF7 _ _ _ _ _ _ _ _ _ _,y,jc,s,j.colour,rfl,sa.same sm,l1,l2,jcol.same (s2.trans sm),fun t H'' s'' nt ht=>?_⟩
  refine rr _ _ s'' ⟨fun b=>b=t,fun b hb=>by subst hb;exact⟨nt,_,ht⟩,fun H3 h3 s' sa'=>⟨t,rfl,?_⟩⟩
  rw [h3 t rfl,ht]
  obtain⟨t1,f1,b1,e1,g1,g2,g3⟩:=sa
  obtain⟨t2,f2,b2,e2,g4,g5,g6⟩:=sa'
  rw [e1] at e2
  cases e2
  rw [g1] at g4
  cases g4
  rw [g2] at g5
  rw [g3] at g6
  have q1:s.1=s'.1:=by injection g5 with g5;injection g5 with g5;exact (List.map_inj_right (fun a b z=>by injection z)).mp g5
  have q2:s.2=s'.2:=by injection g6 with g6;injection g6 with g6;exact (List.map_inj_right (fun a b z=>by injection z)).mp g6
  rw [show s=s' from Prod.ext q1 q2]
 have s13:=s2.trans s3
 have hx3:=s13 _ _ hx1
 have nilx:il≠x:=jAu hil hx3 nofun
 have kk:∀ b o,b≠x->H b=some o->H3 b=some o:=fun b o nb e=>s13 _ _ (k1 b o nb e)
 have I3:jHA H3 il (jAK j):=by
  refine⟨zs,hil,by unfold jAK;rw [List.length_map,lz,ly],fun i z s e1 e2=>?_⟩
  unfold jAK at e2
  rw [List.getElem?_map] at e2
  obtain⟨sh,es,rfl⟩:=Option.map_eq_some_iff.mp e2
  obtain⟨y,ey⟩:∃ y,ys[i]?=some y:=⟨_,List.getElem?_eq_getElem (by rw [ly];exact (List.getElem?_eq_some_iff.mp es).1)⟩
  exact gz i y z ey e1 sh (gy i y sh ey es).at
 have J3:=J1.fr (fun o e=>s13 _ _ e) (fun b xs e=>s13 _ _ e)
 have k1':=k1
 clear gz gy hx1 k1 J1
 refine⟨_,rfl,x,yK,dx,_,rfl,hx3,T.aa,T.bi,(by show 1<1000;decide),?_⟩
 rw [jBa (by show ¬ ("inks":Str)∈(["job"]:List Str);decide +kernel)]
 have hx4:upd H3 x (.ins yK dx (([("job",V.ref jb)]:List (Str×V))++([("inks",V.ref il)]:List (Str×V)))) x=some (.ins yK dx [("job",V.ref jb),("inks",V.ref il)]):=jAb
 have e4:∀ b o,b≠x->H3 b=some o->upd H3 x (.ins yK dx (([("job",V.ref jb)]:List (Str×V))++([("inks",V.ref il)]:List (Str×V)))) b=some o:=fun b o nb e=>by rw [jAi nb];exact e
 generalize upd H3 x (.ins yK dx (([("job",V.ref jb)]:List (Str×V))++([("inks",V.ref il)]:List (Str×V))))=H4 at hx4 e4 ⊢
 refine⟨_,rfl,x,yK,dx,_,rfl,hx4,T.aa,T.aC,(by show 2<1000;decide),?_⟩
 rw [jBa (by show ¬ ("passed":Str)∈(["job","inks"]:List Str);decide +kernel)]
 have hx5:upd H4 x (.ins yK dx (([("job",V.ref jb),("inks",V.ref il)]:List (Str×V))++([("passed",V.int 0)]:List (Str×V)))) x=some (.ins yK dx [("job",V.ref jb),("inks",V.ref il),("passed",V.int 0)]):=jAb
 have e5:∀ b o,b≠x->H4 b=some o->upd H4 x (.ins yK dx (([("job",V.ref jb),("inks",V.ref il)]:List (Str×V))++([("passed",V.int 0)]:List (Str×V)))) b=some o:=fun b o nb e=>by rw [jAi nb];exact e
 generalize upd H4 x (.ins yK dx (([("job",V.ref jb),("inks",V.ref il)]:List (Str×V))++([("passed",V.int 0)]:List (Str×V))))=H5 at hx5 e5 ⊢
 refine⟨_,rfl,x,yK,dx,_,rfl,hx5,T.aa,T.ah,(by show 3<1000;decide),?_⟩
 rw [jBa (by show ¬ ("printer":Str)∈(["job","inks","passed"]:List Str);decide +kernel)]
 have hx6:upd H5 x (.ins yK dx (([("job",V.ref jb),("inks",V.ref il),("passed",V.int 0)]:List (Str×V))++([("printer",V.non)]:List (Str×V)))) x=some (.ins yK dx [("job",V.ref jb),("inks",V.ref il),("passed",V.int 0),("printer",V.non)]):=jAb
 have e6:∀ b o,b≠x->H5 b=some o->upd H5 x (.ins yK dx (([("job",V.ref jb),("inks",V.ref il),("passed",V.int 0)]:List (Str×V))++([("printer",V.non)]:List (Str×V)))) b=some o:=fun b o nb e=>by rw [jAi nb];exact e
 generalize upd H5 x (.ins yK dx (([("job",V.ref jb),("inks",V.ref il),("passed",V.int 0)]:List (Str×V))++([("printer",V.non)]:List (Str×V))))=H6 at hx6 e6 ⊢
 refine⟨_,rfl,x,yK,dx,_,rfl,hx6,T.aa,T.aM,(by show 4<1000;decide),?_⟩
 rw [jBa (by show ¬ ("slipped":Str)∈(["job","inks","passed","printer"]:List Str);decide +kernel)]
 have hx7:upd H6 x (.ins yK dx (([("job",V.ref jb),("inks",V.ref il),("passed",V.int 0),("printer",V.non)]:List (Str×V))++([("slipped",V.bl false)]:List (Str×V)))) x=some (.ins yK dx [("job",V.ref jb),("inks",V.ref il),("passed",V.int 0),("printer",V.non),("slipped",V.bl false)]):=jAb
 have e7:∀ b o,b≠x->H6 b=some o->upd H6 x (.ins yK dx (([("job",V.ref jb),("inks",V.ref il),("passed",V.int 0),("printer",V.non)]:List (Str×V))++([("slipped",V.bl false)]:List (Str×V)))) b=some o:=fun b o nb e=>by rw [jAi nb];exact e
 generalize upd H6 x (.ins yK dx (([("job",V.ref jb),("inks",V.ref il),("passed",V.int 0),("printer",V.non)]:List (Str×V))++([("slipped",V.bl false)]:List (Str×V))))=H7 at hx7 e7 ⊢
 refine⟨_,rfl,x,yK,dx,_,rfl,hx7,T.aa,T.bj,(by show 5<1000;decide),?_⟩
 rw [jBa (by show ¬ ("broken":Str)∈(["job","inks","passed","printer","slipped"]:List Str);decide +kernel)]
 have hx8:upd H7 x (.ins yK dx (([("job",V.ref jb),("inks",V.ref il),("passed",V.int 0),("printer",V.non),("slipped",V.bl false)]:List (Str×V))++([("broken",V.bl false)]:List (Str×V)))) x=some (.ins yK dx [("job",V.ref jb),("inks",V.ref il),("passed",V.int 0),("printer",V.non),("slipped",V.bl false),("broken",V.bl false)]):=jAb
 have e8:∀ b o,b≠x->H7 b=some o->upd H7 x (.ins yK dx (([("job",V.ref jb),("inks",V.ref il),("passed",V.int 0),("printer",V.non),("slipped",V.bl false)]:List (Str×V))++([("broken",V.bl false)]:List (Str×V)))) b=some o:=fun b o nb e=>by rw [jAi nb];exact e
 generalize upd H7 x (.ins yK dx (([("job",V.ref jb),("inks",V.ref il),("passed",V.int 0),("printer",V.non),("slipped",V.bl false)]:List (Str×V))++([("broken",V.bl false)]:List (Str×V))))=H8 at hx8 e8 ⊢
 have e38:∀ b o,b≠x->H3 b=some o->H8 b=some o:=fun b o nb e=>e8 b o nb (e7 b o nb (e6 b o nb (e5 b o nb (e4 b o nb e))))
 have kt:∀ b xs,H3 b=some (.tup xs)->H8 b=some (.tup xs):=fun b xs e=>e38 _ _ (jAu e hx3 nofun) e
 have il0:H il=none:=by
  cases e:H il with
  | none=>rfl
  | some u =>
    rw [s2 _ _ (k1' _ _ nilx e)] at nil'
    cases nil'
 exact q il H8 (fun b o nb e=>e38 _ _ nb (kk b o nb e)) il0 { o:=hx8,j:=J3.fr (fun o e=>e38 _ _ njx e) kt,i:=I3.fr (fun o e=>e38 _ _ nilx e) kt,n:=njx,c1:=c1,c2:=c2,i1:=by unfold newR jAK;rw [List.length_map,lc];unfold jDj;exact Nat.le_add_left 1 _,i2:=by unfold newR jAK;rw [List.length_map,lc];omega }
theorem jG6(f:Int)(m:Nat)(n:Int):jBe f (m+1) n=jBe f m n++[if f+(m:Nat)<=n then f+(m:Nat) else 0]:=by
 unfold jBe
 rw [List.range_succ,List.map_append]
 rfl
theorem jKt(f:Int)(m:Nat)(n:Int):∀ k:Nat,jBe f m n++jBe (f+(m:Nat)) k n=jBe f (m+k) n
 | 0=>by
   show jBe f m n++[]=_
   rw [List.append_nil]
   rfl
 | k+1=>by
   rw [jG6,<- List.append_assoc,jKt f m n k,show m+(k+1)=(m+k)+1 from rfl,jG6 f (m+k),show f+((m+k:Nat):Int)=f+(m:Nat)+(k:Nat) by omega]
def jA_(f:Int)(m:Nat)(n:Int):Int:=if n<f+(m:Nat)-1 then n else f+(m:Nat)-1
def jCq(lo hi x:Int):Bool:=decide (x≠0)&&(decide (lo<=x)&&decide (x<=hi))
def jEo(f l lo hi:Int):Int:=if 0<(if hi<l then hi else l)-(if f<lo then lo else f)+1 then (if hi<l then hi else l)-(if f<lo then lo else f)+1 else 0
theorem over_go(f n lo hi:Int)(m:Nat):jEo f (jA_ f m n) lo hi+(if f+(m:Nat)<=n/\lo<=f+(m:Nat)/\f+(m:Nat)<=hi then 1 else 0)=jEo f (jA_ f (m+1) n) lo hi:=by
 have e1:jA_ f m n=if n<f+(m:Nat) then (if n<f+(m:Nat)-1 then n else f+(m:Nat)-1) else f+(m:Nat)-1:=by unfold jA_;split<;>split<;>omega
 have e2:jA_ f (m+1) n=if n<f+(m:Nat) then n else f+(m:Nat):=by unfold jA_;split<;>split<;>omega
 by_cases c:n<f+(m:Nat)
 ·rw [if_neg (by omega),e2,if_pos c,e1,if_pos c,Int.add_zero]
  by_cases d:n<f+(m:Nat)-1
  ·rw [if_pos d]
  ·rw [if_neg d,show f+(m:Nat)-1=n by omega]
 ·rw [e2,if_neg c,e1,if_neg c]
  have fx:f<=f+((m:Nat):Int):=by omega
  clear e1 e2
  generalize f+((m:Nat):Int)=x at c fx ⊢
  have hM:lo<=x ↔ (if f<lo then lo else f)<=x:=by split<;>omega
  unfold jEo
  generalize (if f<lo then lo else f)=M at hM ⊢
  clear fx
  by_cases d:M<=x/\x<=hi
  ·rw [if_pos (show x<=n/\lo<=x/\x<=hi from ⟨by omega,hM.mpr d.1,d.2⟩),if_neg (show ¬ hi<x-1 by omega),if_neg (show ¬ hi<x by omega),if_pos (show 0<x-M+1 by omega)]
   clear c hM
   split<;>omega
  ·rw [if_neg (show ¬ (x<=n/\lo<=x/\x<=hi) from fun z=>d ⟨hM.mp z.2.1,z.2.2⟩),Int.add_zero]
   clear c hM
   by_cases e:hi<x
   ·rw [if_pos e,show (if hi<x-1 then hi else x-1)=hi by split<;>omega]
   ·rw [if_neg e,if_neg (show ¬ hi<x-1 by omega),if_neg (show ¬ 0<x-1-M+1 by omega),if_neg (show ¬ 0<x-M+1 by omega)]
theorem jG7{f n:Int}(f1:1<=f)(lo hi:Int):∀ m:Nat,(((jBe f m n).filter (jCq lo hi)).length:Int)=jEo f (jA_ f m n) lo hi
 | 0=>by
   show (0:Int)=_
   unfold jEo jA_
   (repeat' split)<;>omega
 | m+1=>by
   rw [jG6,List.filter_append,List.length_append,Int.natCast_add,jG7 f1 lo hi m]
   have key:(((([if f+(m:Nat)<=n then f+(m:Nat) else 0]:List Int).filter (jCq lo hi)).length:Nat):Int)=if f+(m:Nat)<=n/\lo<=f+(m:Nat)/\f+(m:Nat)<=hi then 1 else 0:=by
    by_cases h1:f+(m:Nat)<=n
    ·rw [if_pos h1]
     by_cases h2:lo<=f+(m:Nat)/\f+(m:Nat)<=hi
     ·rw [if_pos ⟨h1,h2⟩,List.filter_cons_of_pos (by unfold jCq;rw [decide_eq_true (by omega),decide_eq_true h2.1,decide_eq_true h2.2];rfl)]
      rfl
     ·rw [if_neg (fun z=>h2 z.2),List.filter_cons_of_neg (by
       unfold jCq
       intro z
       rw [Bool.and_eq_true,Bool.and_eq_true] at z
       exact h2 ⟨of_decide_eq_true z.2.1,of_decide_eq_true z.2.2⟩)]
      rfl
    ·rw [if_neg h1,if_neg (fun z=>h1 z.1),List.filter_cons_of_neg (by unfold jCq;rw [decide_eq_false (fun z=>z rfl)];exact Bool.false_ne_true)]
     rfl
   rw [key]
   clear key f1
   exact over_go f n lo hi m
theorem jM5{l:Ly}{n f:Int}:jC9 (jCz l n f)=(jBe f l.per n).filter fun x=>decide (x≠0):=by
 unfold jC9 jCz Ly.per
 dsimp only
 by_cases h:l.backs=true
 ·rw [if_pos h,if_pos h,jKt,show l.cells+l.cells=2*l.cells by omega]
 ·rw [if_neg h,if_neg h,List.filter_append]
  have:(List.replicate l.cells (0:Int)).filter (fun x=>decide (x≠0))=[]:=by
   rw [List.filter_eq_nil_iff]
   intro a ha
   rw [List.eq_of_mem_replicate ha]
   decide
  rw [this,List.append_nil]
def jFF(c:Option (Int×Int))(f l:Int):Int:=match c with
 | none=>0
 | some c=>jEo f l c.1 c.2
theorem jNU{l:Ly}{n f:Int}(f1:1<=f)(fn:f<=n)(pp:1<=l.per)(c:Option (Int×Int)):jG1 (jCz l n f) c=(jA_ f l.per n-f+1-jFF c f (jA_ f l.per n),jFF c f (jA_ f l.per n)):=by
 have h1:(((jBe f l.per n).filter fun x=>decide (x≠0)).length:Int)=jA_ f l.per n-f+1:=by
  have:=jG7 (n:=n) f1 f n l.per
  have e:(jBe f l.per n).filter (jCq f n)=(jBe f l.per n).filter fun x=>decide (x≠0):=by
   refine List.filter_congr fun x hx=>?_
   unfold jCq
   by_cases z:x=0
   ·rw [z]
    rfl
   ·unfold jBe at hx
    obtain⟨i,_,rfl⟩:=List.mem_map.mp hx
    by_cases h2:f+(i:Nat)<=n
    ·rw [if_pos h2] at z ⊢
     rw [decide_eq_true z,decide_eq_true (by omega),decide_eq_true h2]
     rfl
    ·rw [if_neg h2] at z
     exact absurd rfl z
  rw [e] at this
  rw [this]
  unfold jEo jA_
  (repeat' split)<;>omega
 have h2:((((jBe f l.per n).filter fun x=>decide (x≠0)).filter (jFQ c)).length:Int)=jFF c f (jA_ f l.per n):=by
  cases c with
  | none =>
    have:((jBe f l.per n).filter fun x=>decide (x≠0)).filter (jFQ none)=[]:=by
     rw [List.filter_eq_nil_iff]
     intro a _
     show ¬ false=true
     decide
    rw [this]
    rfl
  | some c =>
    rw [List.filter_filter]
    have e:(jBe f l.per n).filter (fun a=>jFQ (some c) a&&decide (a≠0))=(jBe f l.per n).filter (jCq c.1 c.2):=by
     refine List.filter_congr fun x hx=>?_
     show (decide (c.1<=x)&&decide (x<=c.2)&&decide (x≠0))=jCq c.1 c.2 x
     unfold jCq
     rw [Bool.and_comm]
    rw [e]
    exact jG7 f1 c.1 c.2 l.per
 unfold jG1
 rw [jM5,h1,h2]
theorem jMK{j:Jv}(ok:j.Ok){i:Nat}(h:i<(jAK j).length):1+(i:Int)*(j.l.per:Int)<=(j.n:Int)/\(jAK j).getD i (0,0)=(jA_ (1+(i:Int)*(j.l.per:Int)) j.l.per j.n-(1+(i:Int)*(j.l.per:Int))+1-jFF j.colour (1+(i:Int)*(j.l.per:Int)) (jA_ (1+(i:Int)*(j.l.per:Int)) j.l.per j.n),jFF j.colour (1+(i:Int)*(j.l.per:Int)) (jA_ (1+(i:Int)*(j.l.per:Int)) j.l.per j.n)):=by
 have pp:=Ly.per_pos ok.2.2
 have hc:i<jDj j.l j.n:=by unfold jAK at h;rw [List.length_map,jEf] at h;exact h
 have hi:i*j.l.per<=j.n-1:=by
  unfold jDj at hc
  have:=Nat.div_mul_le_self (j.n-1) j.l.per
  exact Nat.le_trans (Nat.mul_le_mul_right _ (by omega:i<=(j.n-1)/j.l.per)) this
 have n1:=ok.1
 have fn:1+(i:Int)*(j.l.per:Int)<=(j.n:Int):=by
  rw [<- Int.natCast_mul]
  omega
 exists fn
 unfold jAK jDk
 rw [List.getD_eq_getElem?_getD,List.getElem?_map,List.getElem?_map,List.getElem?_range hc]
 show jG1 (jCz j.l j.n (1+(i:Nat)*(j.l.per:Int))) j.colour=_
 exact jNU (by have:=Int.mul_nonneg (Int.natCast_nonneg i) (Int.natCast_nonneg j.l.per);omega) fn pp.1 _
theorem jBp{a rest:TS}{D:jBR}{σ:St}{H:Hp}(P:St->Hp->Prop)(h1:∀ R:St->Hp->Prop,(∀ σ H,P σ H->R σ H)->a { D with nx:=R } σ H)(h2:∀ σ H,P σ H->rest D σ H):jFX a rest D σ H:=h1 _ h2
theorem jA5{a rest:TS}{D:jBR}{σ:St}{H:Hp}(P:St->Hp->Prop)(h1:∀ R:St->Hp->Prop,(∀ σ H,P σ H->R σ H)->a { D with nx:=R } σ H)(h2:∀ (X:Prop) (σ:St) (H:Hp),(rest D σ H->X)->P σ H->X):jFX a rest D σ H:=h1 _ fun σ H p=>h2 _ σ H id p
theorem jOz{a rest:TS}{D:jBR}{σ:St}{H:Hp}(h:∀ T,T=rest->jFX a T D σ H):jFX a rest D σ H:=h rest rfl
theorem jBI{T a rest:TS}(e:T=jFX a rest):∃ T',T'=rest/\T=jFX a T':=⟨rest,rfl,e⟩
theorem via{T T' a:TS}{D:jBR}{σ:St}{H:Hp}(e:T=jFX a T')(h:jFX a T' D σ H):T D σ H:=by rw [e];exact h
def jFG(H:Hp)(t:Addr)(j:Jv)(cp:Nat):Prop:=∃ cv,H t=some (.tup [.int (j.n:Int),.int (cp:Int),.str (Ly.text j.l),.str j.paper,oV j.cover,cv])/\jE6 H cv j.colour
theorem jFG.fr{H H':Hp}{t:Addr}{j:Jv}{cp:Nat}(h:jFG H t j cp)(kt:∀ b xs,H b=some (.tup xs)->H' b=some (.tup xs)):jFG H' t j cp:=by
 obtain⟨cv,e,c⟩:=h
 exists cv,kt _ _ e
 cases hc:j.colour with
 | none=>rw [hc] at c;exact c
 | some z=>rw [hc] at c;obtain⟨t,e1,e2⟩:=c;exact⟨t,e1,kt _ _ e2⟩
theorem jFG.same{H H':Hp}{t:Addr}{j:Jv}{cp:Nat}(h:jFG H t j cp)(s:jAn H H'):jFG H' t j cp:=h.fr fun b xs e=>s _ _ e
inductive jEp(_K:PySem.W.Frag)(vs:List V)(H:Hp)(Q:VK)(E_:XK):Prop|mk l:vs=[.str (Ly.text l)]->Ly.Ok l->Q (.int (l.per:Int)) H->jEp _K vs H Q E_
theorem jMm:jAk ["_law_layout"] ["_law_layout"] (jAh jGV):=scM
include T in
theorem jMn(F:Fun K "_law_per" "_law_per" jGV fa fd)  :
 jAr P w K mg base CX0 1 fa fd ["_law_layout"] (jEp K):=by
 refine F.ok jMm (fun vs H Q E h=>?_) (fun cdv A outer s H vs Q E hr h=>?_)
 ·obtain⟨l,rfl,_⟩:=h
  rfl
 obtain⟨l,rfl,ok,q⟩:=h
 exists _,(jAd (jAE (tcA jA9 (pv 0) jAm) (jAf (jAo jAe)) jAw) (jAd (jAE (tcA jA9 (pv 0) jAm) (jAf (jAo jAe)) jAw) (jAf (jAo (jAp jCR jAe (jB4 jHc rfl T.bp jNt (jAa (jGF jNx (pv 0) (jHI jAe) jHH) jAc)))))))
 exists _,rfl,rfl,_,rfl
 cases l with
 | one=>exact jBo rfl q
 | both=>exact jBx (by decide +kernel) ⟨_,rfl,rfl,_,rfl,jBo rfl q⟩
 | up n =>
   obtain⟨u1,u2,u3,u4,u5⟩:=jNN ok.1 ok.2
   refine jBx (by intro z;injection z with z;exact u3 z) ⟨_,rfl,rfl,_,rfl,jBx (by intro z;injection z with z;exact u4 z) ?_⟩
   have n6:n<=16:=ok.2
   exists _,rfl,_,rfl,_,rfl,small (Nat.le_trans u5 (by decide))
   exists _,_,rfl,u1,Nat.le_trans u2 (by decide),_,_,rfl,rfl,.inl ⟨by decide,by decide⟩
   have e:(((Ly.up n).per:Nat):Int)=2*(n:Int):=by
    show ((2*n:Nat):Int)=_
    omega
   rw [e] at q
   exact q
def jAR(j:Jv)(n:Int):Str×Int×Int:=if n=-1 then (j.paper,0,0) else (jDC j (n.toNat%(jAK j).length),(jAK j).getD (n.toNat%(jAK j).length) (0,0))
theorem use_eq{r:RD}(h:r.inks=jAK r.j)(n:Int):jBv r n=jAR r.j n:=by unfold jBv jAR;rw [h]
theorem jIp{j:Jv}:1<=(jAK j).length:=by unfold jAK;rw [List.length_map,jEf];unfold jDj;exact Nat.le_add_left 1 _
inductive jGl(_K:PySem.W.Frag)(vs:List V)(H:Hp)(Q:VK)(E_:XK):Prop|mk f j cp n:vs=[.ref f,.int n]->jFG H f j cp->j.Ok->-1<=n->(∀ t H',jAn H H'->H t=none->H' t=some (.tup [.str (jAR j n).1,.int (jAR j n).2.1,.int (jAR j n).2.2])->Q (.ref t) H')->jGl _K vs H Q E_
theorem jBE:jAk ["_law_facts_here","_law_number","_law_per_here","_law_sheet","_law_first","_law_last","_law_coloured","_law_kind"] ["_law_facts_here","_law_number"] (jAh jGW):=scM
include T in
theorem jMo(F:Fun K "_law_use" "_law_use" jGW fa fd)(DaG:Dfn P w K mg base 1 "_law_per" ["_law_layout"] (jEp K)) :
 jAr P w K mg base CX0 2 fa fd ["_law_facts_here","_law_number"] (jGl K):=by
 refine F.ok jBE (fun vs H Q E h=>?_) (fun cdv A outer s H vs Q E hr h=>?_)
 ·obtain⟨f,j,cp,n,rfl,_⟩:=h
  rfl
 obtain⟨f,j,cp,n,rfl,F,ok,n1,q⟩:=h
 obtain⟨cv,hf,hc⟩:=id F
 have z3:3<=sizeLine:=small (by decide)
 have pp:=Ly.per_pos ok.2.2
 exists _,(jAd (jAE (tcA jEZ (pv 1) jAe) (jAf (jAo (jAN (jAa (ixA jAI (pv 0) jAe) (jAa jAe (jAa jAe jAc)))))) jAw) (jAd (psA (i:=2) jBE.nd (jAv DaG hr.m rfl (jAa (ixA jAI (pv 0) jAe) jAc))) (jAd (psA (i:=3) jBE.nd (jAp jA7 (pv 1) (jAp jCp (jAp jB_ (jAp jAO (ixA jAI (pv 0) jAe) (pv 2)) jAe) (pv 2)))) (jAd (psA (i:=4) jBE.nd (jAp jAO (jAp jCR (pv 3) (pv 2)) jAe)) (jAd (psA (i:=5) jBE.nd (jAQ (jJ4 rfl) rfl T.bq jNu (jAa (ixA jAI (pv 0) jAe) (jAa (jAp jB_ (jAp jAO (pv 4) (pv 2)) jAe) jAc)))) (jAd (psA (i:=6) jBE.nd jAe) (jAd (jAE (tcA jE_ (ixA jAI (pv 0) jAe) jBk) (jAf (psA (i:=6) jBE.nd (jAQ (jJ3 rfl) rfl T.bt jNv (jAa jAe (jAa (jAp jAO (jAp jB_ (jAQ (jJ4 rfl) rfl T.bq jNu (jAa (pv 5) (jAa (ixA jAI (ixA jAI (pv 0) jAe) jAe) jAc))) (jAQ (jJ3 rfl) rfl T.bt jNv (jAa (pv 4) (jAa (ixA jAI (ixA jAI (pv 0) jAe) jAe) jAc)))) jAe) jAc))))) jAw) (jAd (psA (i:=7) jBE.nd (ixA jAI (pv 0) jAe)) (jAd (jAE (PW.pt (jEq (tcA jA9 (pv 3) jAe) (jDI (tcA jE_ (ixA jAI (pv 0) jAe) jBk)))) (jAf (psA (i:=7) jBE.nd (ixA jAI (pv 0) jAe))) jAw) (jAf (jAo (jAN (jAa (pv 7) (jAa (jAp jB_ (jAp jAO (jAp jB_ (pv 5) (pv 4)) jAe) (pv 6)) (jAa (pv 6) jAc)))))))))))))))
 by_cases c:n<0
 ·have eu:jAR j n=(j.paper,0,0):=by unfold jAR;rw [if_pos (by omega)]
  rw [eu] at q
  exact⟨_,rfl,_,_,rfl,rfl,_,rfl,jBo c ⟨_,rfl,f,_,_,_,rfl,rfl,SqT.of hf,jAl (j:=3) rfl,z3,fun t nt=>q t _ (jAj nt _) nt jAb⟩⟩
 have eu:jAR j n=(jDC j (n.toNat%(jAK j).length),(jAK j).getD (n.toNat%(jAK j).length) (0,0)):=by unfold jAR;rw [if_neg (by omega)]
 rw [eu] at q
 have ip:=jIp (j:=j)
 have lm:n.toNat%(jAK j).length<(jAK j).length:=Nat.mod_lt _ (by omega)
 refine⟨_,rfl,_,_,rfl,rfl,_,rfl,jBx c ?_⟩
 have nn:=ok.1
 have el:((j.n:Int)+(j.l.per:Int)-1)/(j.l.per:Int)=(((jAK j).length:Nat):Int):=by
  unfold jAK
  rw [List.length_map,jEf,show (j.n:Int)+(j.l.per:Int)-1=((j.n-1+j.l.per:Nat):Int) from by omega,<- Int.natCast_ediv,Nat.add_div_right _ (by omega)]
  rfl
 exists _,rfl,f,_,_,_,rfl,rfl,SqT.of hf,jAl (j:=2) rfl,j.l,rfl,ok.2.2
 dsimp only [jBJ]
 refine⟨_,rfl,_,rfl,f,_,_,_,rfl,rfl,SqT.of hf,jAl (j:=0) rfl,_,rfl,_,_,rfl,rfl,_,_,rfl,rfl,_,rfl,_,_,rfl,rfl,⟨by omega,by omega⟩,_,_,rfl,rfl,(by show 0<((j.n:Int)+(j.l.per:Int)-1)/(j.l.per:Int);rw [el];omega),?_⟩
 rw [el]
 have em:n%((jAK j).length:Int)=((n.toNat%(jAK j).length:Nat):Int):=by
  rw [Int.natCast_emod,Int.toNat_of_nonneg (by omega)]
 dsimp only [jBJ]
 rw [em]
 generalize n.toNat%(jAK j).length=i at lm q ⊢
 obtain⟨fn,ei⟩:=jMK ok lm
 rw [ei] at q
 have i0:=Int.mul_nonneg (Int.natCast_nonneg i) (Int.natCast_nonneg j.l.per)
 exists _,rfl,_,rfl,_,_,rfl,rfl,.inr ⟨by omega,by omega⟩,_,_,rfl,rfl
 generalize hF:(1:Int)+(i:Int)*(j.l.per:Int)=fst at fn q
 have hF':(i:Int)*(j.l.per:Int)+1=fst:=by omega
 dsimp only [jBJ]
 rw [hF']
 exists _,rfl,f,_,_,_,rfl,rfl,SqT.of hf,jAl (j:=0) rfl,_,rfl,_,rfl,_,_,rfl,rfl,_,_,rfl,rfl,_,_,rfl
 have el:(if fst+(j.l.per:Int)-1<(j.n:Int) then fst+(j.l.per:Int)-1 else (j.n:Int))=jA_ fst j.l.per j.n:=by
  unfold jA_
  (repeat' split)<;>omega
 dsimp only [jBJ]
 rw [el]
 generalize jA_ fst j.l.per j.n=lst at q ⊢
 refine jBp (fun σ G=>G=H/\σ=[some (.ref f),some (.int n),some (.int (j.l.per:Int)),some (.int (i:Int)),some (.int fst),some (.int lst),some (.int 0),none]) (fun R hR=>hR _ _ ⟨rfl,rfl⟩) (fun σ G z=>?_)
 obtain⟨rfl,rfl⟩:=z
 refine jBp (fun σ H'=>H'=G/\σ=[some (.ref f),some (.int n),some (.int (j.l.per:Int)),some (.int (i:Int)),some (.int fst),some (.int lst),some (.int (jFF j.colour fst lst)),none]) (fun R hR=>?_) (fun σ G' z=>?_)
 ·exists _,rfl,f,_,_,_,rfl,rfl,SqT.of hf,jAl (j:=5) rfl,rfl
  cases hj:j.colour with
  | none =>
    rw [hj] at hc hR
    obtain rfl:cv=.non:=hc
    exact⟨false,rfl,jAJ (hR _ _ ⟨rfl,rfl⟩)⟩
  | some cc =>
    rw [hj] at hc hR
    obtain⟨tc,rfl,htc⟩:=hc
    refine⟨true,rfl,jAU ?_⟩
    exists _,rfl,_,rfl,f,_,_,_,rfl,rfl,SqT.of hf,jAl (j:=5) rfl,tc,_,_,_,rfl,rfl,SqT.of htc,jAl (j:=1) rfl,_,_,rfl,_,rfl,_,rfl,f,_,_,_,rfl,rfl,SqT.of hf,jAl (j:=5) rfl,tc,_,_,_,rfl,rfl,SqT.of htc,jAl (j:=0) rfl,_,_,rfl,_,_,rfl,rfl,_,_,rfl,rfl,_,_,rfl
    exact hR _ _ ⟨rfl,rfl⟩
 obtain⟨rfl,rfl⟩:=z
 exists _,rfl,f,_,_,_,rfl,rfl,SqT.of hf,jAl (j:=3) rfl
 dsimp only [jBJ]
 refine jBp (fun σ H'=>H'=G'/\σ=[some (.ref f),some (.int n),some (.int (j.l.per:Int)),some (.int (i:Int)),some (.int fst),some (.int lst),some (.int (jFF j.colour fst lst)),some (.str (jDC j i))]) (fun R hR=>?_) (fun σ G2 z=>?_)
 ·exists _,rfl,rfl
  by_cases c0:i=0
  ·refine⟨true,by rw [c0];rfl,jAU ⟨_,rfl,f,_,_,_,rfl,rfl,SqT.of hf,jAl (j:=4) rfl,rfl,?_⟩⟩
   have ep:jDC j i=j.cover.getD j.paper:=by unfold jDC;rw [if_pos c0]
   cases hv:j.cover with
   | none =>
     rw [hv] at ep
     exact⟨false,rfl,jAJ (hR _ _ ⟨rfl,by rw [ep];rfl⟩)⟩
   | some v =>
     rw [hv] at ep hf
     refine⟨true,rfl,jAU ⟨_,rfl,f,_,_,_,rfl,rfl,SqT.of hf,jAl (j:=4) rfl,hR _ _ ⟨rfl,by rw [ep];rfl⟩⟩⟩
  ·have ep:jDC j i=j.paper:=by unfold jDC;rw [if_neg c0]
   exact⟨false,by rw [decide_eq_false (fun z=>c0 (by injection z with z;omega))],jAJ (jAJ (hR _ _ ⟨rfl,by rw [ep];rfl⟩))⟩
 obtain⟨rfl,rfl⟩:=z
 exact⟨_,rfl,_,rfl,_,rfl,_,_,rfl,rfl,_,_,rfl,rfl,_,rfl,_,_,rfl,rfl,_,rfl,z3,fun t nt=>q t _ (jAj nt _) nt jAb⟩
def itm(b j:Nat):Int:=if j=0 then -1 else ((b+j-1:Nat):Int)
def win(b a f:Nat):List Int:=(List.range (f-a)).map fun i=>itm b (a+i)
theorem jHV(b a f:Nat):(win b a f).length=f-a:=by unfold win;rw [List.length_map,List.length_range]
theorem jC_(b a:Nat):win b a a=[]:=by unfold win;rw [Nat.sub_self];rfl
theorem jLQ{b a f:Nat}(h:a<=f):win b a f++[itm b f]=win b a (f+1):=by
 unfold win
 rw [show f+1-a=(f-a)+1 by omega,List.range_succ,List.map_append]
 show _=_++[itm b (a+(f-a))]
 rw [show a+(f-a)=f by omega]
theorem jG8{b a f k:Nat}(h:a+k<=f):(win b a f).take k=win b a (a+k):=by
 unfold win
 rw [<- List.map_take,List.take_range,show min k (f-a)=a+k-a by omega]
theorem jLR{b a f:Nat}(h:a<f):win b a f=itm b a::win b (a+1) f:=by
 unfold win
 rw [show f-a=(f-(a+1))+1 by omega,List.range_succ_eq_map,List.map_cons,List.map_map]
 congr 1
 refine List.map_congr_left fun i _=>?_
 show itm b (a+(i+1))=itm b (a+1+i)
 rw [show a+(i+1)=a+1+i by omega]
def shN(b a f:Nat):Nat:=if a=0 then f-1 else f-a
theorem itm_ne{b j:Nat}(h:j≠0):itm b j≠-1:=by
 unfold itm
 rw [if_neg h]
 omega
theorem jG9(b a:Nat):∀ k,jBB (win b a (a+k))=shN b a (a+k)
 | 0=>by
   rw [Nat.add_zero,jC_]
   unfold shN
   split
   ·next h=>rw [h];rfl
   ·rw [Nat.sub_self];rfl
 | k+1=>by
   have ih:=jG9 b a k
   rw [<- Nat.add_assoc,<- jLQ (by omega),jJh,ih]
   by_cases c:a+k=0
   ·have e1:itm b (a+k)=-1:=by unfold itm;rw [if_pos c]
    rw [e1]
    unfold shN
    rw [if_pos (by omega),if_pos (by omega),c]
    rfl
   ·have e1:jBB [itm b (a+k)]=1:=by
     unfold jBB
     rw [List.countP_cons,decide_eq_true (itm_ne c)]
     rfl
    rw [e1]
    unfold shN
    split<;>omega
def R5(r:RD)(pr:Option Addr)(b a:Nat):RD:={ r with ps:=b+(a-1),sl:=decide (1<=a),pr:=pr }
theorem jFH{r:RD}{p:Option Addr}{b a f:Nat}(h:a<=f):jAY (R5 r p b a) (win b a f)=itm b f:=by
 have es:=jG9 b a (f-a)
 rw [show a+(f-a)=f by omega] at es
 unfold jAY
 by_cases c:(R5 r p b a).sl=false/\win b a f=[]
 ·rw [if_pos c]
  have h1:¬ 1<=a:=of_decide_eq_false c.1
  have h2:=congrArg List.length c.2
  rw [jHV] at h2
  have h3:f-a=0:=h2
  unfold itm
  rw [if_pos (by omega)]
 ·rw [if_neg c,es]
  have h4:f≠0:=fun z=>c ⟨decide_eq_false (by omega),by rw [z,show a=0 by omega];exact jC_ b 0⟩
  unfold itm shN
  rw [if_neg h4]
  show ((b+(a-1)+(if a=0 then f-1 else f-a):Nat):Int)=_
  split<;>omega
theorem jOA{sl:Bool}{b a f:Nat}(h:a<f)(e:sl=decide (1<=a)):jFS sl (win b a f)=decide (1<=f):=by
 unfold jFS
 rw [decide_eq_true (show 1<=f by omega),e]
 by_cases c:1<=a
 ·rw [decide_eq_true c];rfl
 ·rw [jLR h,List.any_cons,show itm b a=-1 by unfold itm;rw [if_pos (by omega)]]
  simp
theorem jLS{r:RD}{p:Option Addr}{b a f:Nat}(h:a<=f):(jA1 (R5 r p b a) (win b a f)).ps=b+(f-1)/\(jA1 (R5 r p b a) (win b a f)).sl=decide (1<=f):=by
 have es:=jG9 b a (f-a)
 rw [show a+(f-a)=f by omega] at es
 exists ?_
 ·show b+(a-1)+jBB (win b a f)=_
  rw [es]
  unfold shN
  split<;>omega
 ·show jFS (decide (1<=a)) (win b a f)=_
  by_cases c:a<f
  ·exact jOA c rfl
  ·rw [show f=a by omega,jC_]
   unfold jFS
   simp
theorem jJX{r:RD}{p:Addr}{b a f:Nat}(hb:b<r.tot)(h:a<=f):jA8 (R5 r (some p) b a) (win b a f)=R5 r (if b+f=r.tot+1 then none else some p) b f:=by
 obtain⟨e1,e2⟩:=jLS (r:=r) (p:=some p) (b:=b) h
 have et:(R5 r (some p) b a).tot=r.tot:=rfl
 have full:jA1 (R5 r (some p) b a) (win b a f)={ R5 r (some p) b a with ps:=b+(f-1),sl:=decide (1<=f) }:=by
  have g:jA1 (R5 r (some p) b a) (win b a f)={ R5 r (some p) b a with ps:=(jA1 (R5 r (some p) b a) (win b a f)).ps,sl:=(jA1 (R5 r (some p) b a) (win b a f)).sl }:=rfl
  rw [g,e1,e2]
 unfold jA8
 rw [et,e1,full]
 unfold R5
 by_cases c:b+f=r.tot+1
 ·rw [if_pos (by omega),if_pos c]
 ·rw [if_neg (by omega),if_neg c]
theorem liv_5{r:RD}{p:Option Addr}{b a:Nat}(hb:r.br=false)(h2:b<r.tot)(h:b+a≠r.tot+1):Liv (R5 r p b a):=⟨hb,by show b+(a-1)≠r.tot;omega⟩
theorem liv_of{r:RD}{p:Option Addr}{b a:Nat}(h2:b<r.tot)(lv:Liv (R5 r p b a)):b+a≠r.tot+1:=by
 have:b+(a-1)≠r.tot:=lv.2
 omega
theorem nliv{r:RD}{p:Option Addr}{b a:Nat}(hb:r.br=false)(h2:b<r.tot)(n:¬ Liv (R5 r p b a)):b+a=r.tot+1:=Classical.byContradiction fun z=>n (liv_5 hb h2 z)
theorem jIq{b a f:Nat}:∀ k,a+k<=f->(win b a f).drop k=win b (a+k) f
 | 0,_=>rfl
 | k+1,h=>by
   rw [<- List.drop_drop,jIq k (by omega),jLR (by omega)]
   rfl
theorem nw_win{r:RD}{p:Option Addr}{b a f:Nat}(h2:b<r.tot)(hf:b+f<=r.tot+1):NW (R5 r p b a) (win b a f):=fun i hi=>by
 rw [jHV] at hi
 rw [jG8 (by omega),(jLS (by omega)).1]
 show b+(a+i-1)≠r.tot
 omega
theorem jOB:∀ u:Nat,u<17->((u:Int)).natAbs.log2<1920/\(Str.ofString "up:").length+(Str.ofString (toString (u:Int))).length<=1000:=by decide +kernel
theorem jOC{H H':Hp}{G:Prop}(g:G):New H H' (fun _=>G):=⟨fun _=>False,fun _ z=>z.elim,fun _ _=>g⟩
theorem jBb{H:Hp}{b c C dx:Addr}{fs:List (Str×V)}{kv:List (Key×V)}(h:H b=some (.ins C dx fs))(g:H c=some (.dK kv)):b≠c:=jAu h g nofun
theorem jDf{H:Hp}{b c C dx:Addr}{fs:List (Str×V)}{ts:List V}(h:H b=some (.ins C dx fs))(g:H c=some (.lst ts)):b≠c:=jAu h g nofun
structure Sp2(p q:Addr)(d e:PD):Prop where
 pq:p≠q
 ii:d.ins≠e.ins
 a1:d.tr2≠e.tr1
 a2:d.tr2≠e.tr2
 a3:d.tr2≠e.ik1
 a4:d.tr2≠e.ik2
 b1:d.ik2≠e.tr1
 b2:d.ik2≠e.tr2
 b3:d.ik2≠e.ik1
 b4:d.ik2≠e.ik2
def Kp(x p:Addr)(d:PD)(H H':Hp):Prop:=∀ b o,b≠x->b≠p->b≠d.ins->b≠d.tr2->b≠d.ik2->H b=some o->H' b=some o
theorem jAn.kp{x p:Addr}{d:PD}{H H':Hp}(s:jAn H H'):Kp x p d H H':=fun b o _ _ _ _ _ e=>s _ _ e
structure Gp(d d':PD)(H:Hp):Prop where
 i:d'.ins=d.ins\/H d'.ins=none
 t:d'.tr2=d.tr2
 k:d'.ik2=d.ik2
 t1:d'.tr1=d.tr1
 k1:d'.ik1=d.ik1
theorem jJY(d:PD)(H:Hp):Gp d d H:=⟨.inl rfl,rfl,rfl,rfl,rfl⟩
theorem fs_ne{C C' dx dx':Addr}{fs:List (Str×V)}{d:PD}(h:fs.length≠8):HO.ins C dx fs≠.ins C' dx' d.fs:=fun z=>by
 injection z with _ _ z
 exact h (by rw [z];rfl)
theorem jOD(s:S3):(jC8 s).length≠8:=by cases s with
 | rd=>show 1≠8;decide
 | jm=>show 1≠8;decide
 | aw b=>show 2≠8;decide
section
variable {cR cJ cO cX cN cT cP cS cY cM cW:Addr}{H H':Hp}{x p q:Addr}{d d' e:PD}
theorem jAC.kp(U:jAC cP cS cY cM cW H q e){C dx:Addr}{fs:List (Str×V)}(hx:H x=some (.ins C dx fs))(hp:jAC cP cS cY cM cW H p d)(s:Sp2 p q d e)(n1:q≠x)(n2:e.tr≠x)(n3:e.ik≠x)(n4:e.st≠x)(k:Kp x p d H H'):jAC cP cS cY cM cW H' q e:=by
 obtain⟨⟨dt,t1⟩,t2,t3,t4⟩:=U.T
 obtain⟨⟨di,i1⟩,i2,i3,i4⟩:=U.I
 obtain⟨dst,hs⟩:=U.s
 have hn:=hp.n
 have h2:=hp.T.2.2.1
 have h3:=hp.I.2.2.1
 have ko:∀ {b C dx:Addr} {fs:List (Str×V)},H b=some (.ins C dx fs)->b≠x->b≠p->H' b=some (.ins C dx fs):=fun e c1 c2=>k _ _ c1 c2 (jDf e hn) (jBb e h2) (jBb e h3) e
 have kd:∀ {b:Addr} {kv:List (Key×V)},H b=some (.dK kv)->b≠d.tr2->b≠d.ik2->H' b=some (.dK kv):=fun e c1 c2=>k _ _ (jBb hx e).symm (jBb hp.o e).symm (jAu e hn nofun) c1 c2 e
 exact { U with o:=ko U.o n1 s.pq.symm,T:=⟨⟨dt,ko t1 n2 (jAu t1 hp.o (fs_ne (by show 2≠8;decide)))⟩,kd t2 s.a1.symm s.b1.symm,kd t3 s.a2.symm s.b2.symm,t4⟩,I:=⟨⟨di,ko i1 n3 (jAu i1 hp.o (fs_ne (by show 2≠8;decide)))⟩,kd i2 s.a3.symm s.b3.symm,kd i3 s.a4.symm s.b4.symm,i4⟩,s:=⟨dst,ko hs n4 (jAu hs hp.o (fs_ne (jOD _)))⟩,n:=k _ _ (jDf hx U.n).symm (jDf hp.o U.n).symm s.ii.symm (jAu U.n h2 nofun) (jAu U.n h3 nofun) U.n }
theorem jHD{C dx:Addr}{fs:List (Str×V)}(hx:H x=some (.ins C dx fs))(hp:jAC cP cS cY cM cW H p d)(k:Kp x p d H H'):∀ b xs,H b=some (.tup xs)->H' b=some (.tup xs):=fun b xs e=>k _ _ (jAu e hx nofun) (jAu e hp.o nofun) (jAu e hp.n nofun) (jAu e hp.T.2.2.1 nofun) (jAu e hp.I.2.2.1 nofun) e
theorem Sp2.left(s:Sp2 p q d e)(g:Gp d d' H)(U:jAC cP cS cY cM cW H q e):Sp2 p q d' e:=by
 refine⟨s.pq,?_,by rw [g.t];exact s.a1,by rw [g.t];exact s.a2,by rw [g.t];exact s.a3,by rw [g.t];exact s.a4,by rw [g.k];exact s.b1,by rw [g.k];exact s.b2,by rw [g.k];exact s.b3,by rw [g.k];exact s.b4⟩
 rcases g.i with h|h
 ·rw [h];exact s.ii
 ·exact (jAg U.n h).symm
theorem Sp2.right(s:Sp2 q p e d)(g:Gp d d' H)(U:jAC cP cS cY cM cW H q e):Sp2 q p e d':=by
 refine⟨s.pq,?_,by rw [g.t1];exact s.a1,by rw [g.t];exact s.a2,by rw [g.k1];exact s.a3,by rw [g.k];exact s.a4,by rw [g.t1];exact s.b1,by rw [g.t];exact s.b2,by rw [g.k1];exact s.b3,by rw [g.k];exact s.b4⟩
 rcases g.i with h|h
 ·rw [h];exact s.ii
 ·exact jAg U.n h
end
def stK(T P b a f:Nat):Nat:=if b+f=T+1 then 1 else if P<f+1-a then 1 else 0
def stF(T b f:Nat):Nat:=if b+f=T+1 then f else f+1
structure Ra(b:Addr)(d:PD):Prop where
 t:b≠d.tr2
 k:b≠d.ik2
structure Nx(x:Addr)(r:RD)(p:Addr)(d:PD):Prop where
 n1:p≠x
 n2:d.tr≠x
 n3:d.ik≠x
 n4:d.st≠x
 n5:r.il≠d.ins
inductive Dd where
 | take|step|jam (k:Nat)
def dW:Dd->Str
 | .take=>Str.ofString "take"
 | .step=>Str.ofString "step"
 | .jam _=>Str.ofString "jam"
def ddV(D:Dd):List V:=.str (dW D)::match D with
 | .jam k=>[.int (k:Int)]
 | _=>[]
structure W35(cR cJ cP cS cY cM cW:Addr)(H:Hp)(x p q:Addr)(r:RD)(d e:PD)(Pn:Nat)(o:Bool)(a f:Nat):Prop where
 R:jA0 cR cJ H x (R5 r (if o=true then some p else none) 0 a)
 P:jAC cP cS cY cM cW H p d
 E:jAC cP cS cY cM cW H q e
 tg:jAB H r.nm d.tags (win 0 a f)
 te:e.tags=[]
 x1:Nx x r p d
 x2:Nx x r q e
 s1:Sp2 p q d e
 s2:Sp2 q p e d
 r1:H d.rm=some (.dK (dI d.rs))
 r2:H e.rm=some (.dK (dI e.rs))
 u1:Ra d.rm d/\Ra d.rm e
 u2:Ra e.rm d/\Ra e.rm e
 hb:r.br=false
 T1:1<=r.tot
 T9:r.tot<=90
 ik:r.inks=jAK r.j
 af:a<=f
 fT:f<=r.tot+1
 oa:o=true->a≠r.tot+1
 on:o=false->a=f
 pa:d.path=(Pn:Int)
 wP:f-a<=Pn
 P4:Pn<=4
 rdf:a<f->d.S=.rd
 k2:d.rs.length<=2/\e.rs.length<=2
def fdK:Nat->Str
 | 3=>"found"
 | 6=>"job"
 | 7=>"job"
 | _=>"name"
def clK(cU cN cT cD cO cX:Addr):Nat->Addr
 | 1=>cU
 | 3=>cN
 | 4=>cT
 | 5=>cD
 | 6=>cO
 | _=>cX
def Rfd(r:RD)(d:PD)(o:Bool)(a f:Nat)(D:Dd)(k:Nat)(w:Str):Prop :=
 (a=r.tot+1/\k=6/\w=r.nm)\/a≠r.tot+1/\match D with
 | .take=>d.S≠.rd/\k=3/\w=wd d.S
 | .step=>(o=false/\k=7/\w=r.nm)\/o=true/\((d.S≠.rd/\k=3/\w=wd d.S)\/d.S=.rd/\f≠r.tot+1/\((¬ (jAR r.j (itm 0 f)).1∈d.rs.map (·.1)/\k=1/\w=(jAR r.j (itm 0 f)).1)\/∃ A,d.am.lookup (jAR r.j (itm 0 f)).1=some A/\jCM d A (jAR r.j (itm 0 f))=some w/\k=5))
 | .jam n=>(o=false/\k=7/\w=r.nm)\/o=true/\((d.S≠.rd/\k=3/\w=wd d.S)\/d.S=.rd/\f-a<n/\k=4/\w=wiW)
def StpD(r:RD)(f:Nat)(d d':PD):Prop:=if f=r.tot+1 then d'.am=d.am/\d'.b=d.b/\d'.c=d.c else ∃ A,d.am.lookup (jAR r.j (itm 0 f)).1=some A/\d'.am=jAT d.am (jAR r.j (itm 0 f)).1 (A-1)/\d'.b=d.b-(jAR r.j (itm 0 f)).2.1/\d'.c=d.c-(jAR r.j (itm 0 f)).2.2
def Can(r:RD)(d:PD)(o:Bool)(f:Nat):Prop:=o=true/\d.S=.rd/\(f≠r.tot+1->∃ A,d.am.lookup (jAR r.j (itm 0 f)).1=some A/\jCM d A (jAR r.j (itm 0 f))=none)
structure Gq(d d':PD)(H:Hp):Prop where
 g:Gp d d' H
 rs:d'.rs=d.rs
 rm:d'.rm=d.rm
 nm:d'.name=d.name
 pa:d'.path=d.path
 rb:d'.rb=d.rb
 rc:d'.rc=d.rc
section
variable {cR cJ cO cX cU cN cT cD cP cS cY cM cW:Addr}{H H':Hp}{Q:VK}{E:XK}{x p q:Addr}{r:RD}{d d' e:PD}{Pn:Nat}{o o':Bool}{a f a' f' k:Nat}{w:Str}{D:Dd}
theorem W35.same(W:W35 cR cJ cP cS cY cM cW H x p q r d e Pn o a f)(s:jAn H H'):W35 cR cJ cP cS cY cM cW H' x p q r d e Pn o a f:={ W with R:=W.R.same s,P:=W.P.same s,E:=W.E.same s,tg:=W.tg.same s,r1:=s _ _ W.r1,r2:=s _ _ W.r2 }
theorem use_R{pr:Option Addr}{b:Nat}(h:r.inks=jAK r.j)(n:Int):jBv (R5 r pr b a) n=jAR r.j n:=use_eq (r:=R5 r pr b a) h n
theorem W35.wd(W:W35 cR cJ cP cS cY cM cW H x p q r d e Pn true a f):Wd cR cJ cP cS cY cM cW H x (R5 r (some p) 0 a) p d (win 0 a f):=⟨W.R,W.P,W.tg,W.x1.n1,W.x1.n2,W.x1.n3,W.x1.n4,W.x1.n5⟩
theorem W35.deed(W:W35 cR cJ cP cS cY cM cW H x p q r d e Pn o a f)(k:Kp x p d H H')(R':jA0 cR cJ H' x (R5 r (if o'=true then some p else none) 0 a'))(P':jAC cP cS cY cM cW H' p d')(tg:jAB H' r.nm d'.tags (win 0 a' f'))(nx:Nx x r p d')(g:Gq d d' H)(h1:a'<=f')(h2:f'<=r.tot+1)(h3:o'=true->a'≠r.tot+1)(h4:o'=false->a'=f')(h5:f'-a'<=Pn)(h6:a'<f'->d'.S=.rd):W35 cR cJ cP cS cY cM cW H' x p q r d' e Pn o' a' f':=by
 have hx:=W.R.o
 have kd:∀ {b:Addr} {kv:List (Key×V)},Ra b d->H b=some (.dK kv)->H' b=some (.dK kv):=fun n e=>k _ _ (jBb hx e).symm (jBb W.P.o e).symm (jAu e W.P.n nofun) n.t n.k e
 have ra:∀ {b},Ra b d->Ra b d':=fun h=>⟨by rw [g.g.t];exact h.t,by rw [g.g.k];exact h.k⟩
 exact { W with R:=R',P:=P',E:=W.E.kp hx W.P W.s1 W.x2.n1 W.x2.n2 W.x2.n3 W.x2.n4 k,tg:=tg,x1:=nx,s1:=W.s1.left g.g W.E,s2:=W.s2.right g.g W.E,r1:=by rw [g.rm,g.rs];exact kd W.u1.1 W.r1,r2:=kd W.u2.1 W.r2,u1:=by rw [g.rm];exact⟨ra W.u1.1,W.u1.2⟩,u2:=⟨ra W.u2.1,W.u2.2⟩,af:=h1,fT:=h2,oa:=h3,on:=h4,pa:=by rw [g.pa];exact W.pa,wP:=h5,rdf:=h6,k2:=⟨by rw [g.rs];exact W.k2.1,W.k2.2⟩ }
end
theorem dd0(D:Dd):(ddV D)[0]?=some (.str (dW D)):=rfl
theorem jHE{T f:Nat}(T1:1<=T)(h:f<=T+1):itm 0 f<(T:Int) ↔ f≠T+1:=by
 unfold itm
 split<;>omega
theorem jBi.ov{cO:Addr}{r:RD}{H:Hp}{E:XK}(h:jBi cO "job" (.str r.nm) H E):OvR cO r H E:=fun ea H' s _ g=>h ea H' s g
section
variable {cR cJ cO cX cU cN cT cD cP cS cY cM cW:Addr}{H H':Hp}{Q:VK}{E:XK}{x p q:Addr}{r:RD}{d d' e:PD}{Pn:Nat}{o o':Bool}{a f a' f' k:Nat}{w:Str}{D:Dd}
theorem W35.nliv(W:W35 cR cJ cP cS cY cM cW H x p q r d e Pn o a f)(n:¬ Liv (R5 r (if o=true then some p else none) 0 a)):a=r.tot+1:=by
 have:=My.nliv W.hb W.T1 n
 omega
theorem W35.liv(W:W35 cR cJ cP cS cY cM cW H x p q r d e Pn o a f)(n:Liv (R5 r (if o=true then some p else none) 0 a)):a≠r.tot+1:=by
 have:=liv_of W.T1 n
 omega
def RefX(cU cN cT cD cO cX:Addr)(r:RD)(d:PD)(o:Bool)(a f:Nat)(D:Dd)(H:Hp)(E:XK):Prop:=∃ k w,Rfd r d o a f D k w/\jBi (clK cU cN cT cD cO cX k) (fdK k) (.str w) H E
def SucS(cR cJ cP cS cY cM cW:Addr)(H:Hp)(x p q:Addr)(r:RD)(d e:PD)(Pn:Nat)(o:Bool)(a f:Nat)(Z:Hp->Prop):Prop:=Can r d o f/\a≠r.tot+1/\∀ d' H',Kp x p d H H'->W35 cR cJ cP cS cY cM cW H' x p q r d' e Pn (decide (a+stK r.tot Pn 0 a f≠r.tot+1)) (a+stK r.tot Pn 0 a f) (stF r.tot 0 f)->Gq d d' H->StpD r f d d'->d'.S=.rd->Z H'
theorem W35.step(W:W35 cR cJ cP cS cY cM cW H x p q r d e Pn o a f)(h:RefX cU cN cT cD cO cX r d o a f .step H E\/SucS cR cJ cP cS cY cM cW H x p q r d e Pn o a f (fun H'=>∀ l,Q (.ref l) H')):jE8 cR cJ cO cX cU cN cD cP cS cY cM cW [.ref x] H Q E:=by
 have T1:=W.T1
 have af:=W.af
 have fT:=W.fT
 have wl:=jHV 0 a f
 have tl:=W.tg.1
 have P4:=W.P4
 have wP:=W.wP
 have T9:=W.T9
 rcases h with⟨k,w,R,h⟩|⟨⟨rfl,eR,can⟩,nov,q⟩
 ·rcases R with⟨e1,rfl,rfl⟩|⟨nov,R⟩
  ·exact⟨x,_,rfl,W.R,fun _=>h.ov,fun lv=>absurd e1 (W.liv lv),fun lv=>absurd e1 (W.liv lv)⟩
  ·refine⟨x,_,rfl,W.R,fun n=>absurd (W.nliv n) nov,fun _ hp=>?_,fun _ p' hp=>?_⟩
   ·rcases R with⟨rfl,rfl,rfl⟩|⟨rfl,_⟩
    ·exact h
    ·cases hp
   ·rcases R with⟨rfl,_⟩|⟨rfl,R⟩
    ·cases hp
    ·obtain rfl:p=p':=Option.some.inj hp
     refine⟨d,_,W.wd,fun nS=>?_,fun cn=>?_,fun cn eS=>?_⟩
     ·rcases R with⟨_,rfl,rfl⟩|⟨eS,_⟩
      ·exact h
      ·exact absurd eS nS
     ·rw [show jAY (R5 r (if true=true then some p else none) 0 a) (win 0 a f)=itm 0 f from jFH af,use_R W.ik]
      refine⟨by rw [tl,wl];omega,⟨fun nS=>?_,fun eS nk=>?_,fun A w' eS la lk=>?_⟩,fun A eS la lk=>?_⟩
      ·rcases R with⟨_,rfl,rfl⟩|⟨eS,_⟩
       ·exact h
       ·exact absurd eS nS
      ·rcases R with⟨nS,_⟩|⟨_,_,⟨_,rfl,rfl⟩|⟨A,la,_⟩⟩
       ·exact absurd eS nS
       ·exact h
       ·exact absurd (jFw W.P.ka la) nk
      ·rcases R with⟨nS,_⟩|⟨_,_,⟨nk,_⟩|⟨A',la',lk',rfl⟩⟩
       ·exact absurd eS nS
       ·exact absurd (jFw W.P.ka la) nk
       ·obtain rfl:A=A':=Option.some.inj (la.symm.trans la')
        obtain rfl:w'=w:=Option.some.inj (lk.symm.trans lk')
        exact h
      ·rcases R with⟨nS,_⟩|⟨_,_,⟨nk,_⟩|⟨A',la',lk',_⟩⟩
       ·exact absurd eS nS
       ·exact absurd (jFw W.P.ka la) nk
       ·obtain rfl:A=A':=Option.some.inj (la.symm.trans la')
        rw [lk] at lk'
        cases lk'
     ·rcases R with⟨nS,_⟩|⟨_,nf,_⟩
      ·exact absurd eS nS
      ·rw [show jAY (R5 r (if true=true then some p else none) 0 a) (win 0 a f)=itm 0 f from jFH af] at cn
       exact absurd ((jHE T1 fT).mpr nf) cn
 ·have hK:stK r.tot Pn 0 a f<=1/\a+stK r.tot Pn 0 a f<=stF r.tot 0 f/\stF r.tot 0 f<=r.tot+1/\stF r.tot 0 f-(a+stK r.tot Pn 0 a f)<=Pn:=by
   unfold stK stF
   split
   ·exact⟨by omega,by omega,by omega,by omega⟩
   ·split
    ·exact⟨by omega,by omega,by omega,by omega⟩
    ·exact⟨by omega,by omega,by omega,by omega⟩
  have fin:∀ (d':PD) (H':Hp) (ws us:List Int),(∀ b o,b≠x->b≠d.ins->b≠d.tr2->b≠d.ik2->H b=some o->H' b=some o)->ws=win 0 a (a+stK r.tot Pn 0 a f)->us=win 0 (a+stK r.tot Pn 0 a f) (stF r.tot 0 f)->Wd cR cJ cP cS cY cM cW H' x (jA8 (R5 r (some p) 0 a) ws) p d' us->d'.S=.rd->Gq d d' H->StpD r f d d'->∀ l,Q (.ref l) H':=by
   intro d' H' ws us fr ews eus wd eS g sd
   subst ews
   subst eus
   obtain⟨K1,K2,K3,K4⟩:=hK
   have q':=q d' H' (fun b o n1 _ n3 n4 n5 e=>fr b o n1 n3 n4 n5 e)
   generalize stK r.tot Pn 0 a f=kk at *
   generalize stF r.tot 0 f=ff at *
   rw [jJX T1 (by omega)] at wd
   refine q' (W.deed (fun b o n1 _ n3 n4 n5 e=>fr b o n1 n3 n4 n5 e) ?_ wd.P wd.tg ⟨wd.n1,wd.n2,wd.n3,wd.n4,wd.n5⟩ g K2 K3 (fun z=>of_decide_eq_true z) (fun z=>?_) K4 (fun _=>eS)) g sd eS
   ·have:=wd.R
    rw [show (if decide (a+kk≠r.tot+1)=true then some p else none)=if 0+(a+kk)=r.tot+1 then none else some p by
     by_cases c:a+kk=r.tot+1
     ·rw [if_neg (by rw [decide_eq_false (fun z=>z c)];decide),if_pos (by omega)]
     ·rw [if_pos (decide_eq_true c),if_neg (by omega)]]
    exact this
   ·have:¬ (a+kk≠r.tot+1):=of_decide_eq_false z
    omega
  refine⟨x,_,rfl,W.R,fun n=>absurd (W.nliv n) nov,fun _ hp=>(by cases hp),fun _ p' hp=>?_⟩
  obtain rfl:p=p':=Option.some.inj hp
  refine⟨d,_,W.wd,fun nS=>absurd eR nS,fun cn=>?_,fun cn _ l H' ts st=>?_⟩
  ·rw [show jAY (R5 r (if true=true then some p else none) 0 a) (win 0 a f)=itm 0 f from jFH af] at cn ⊢
   rw [use_R W.ik]
   have fl:=(jHE T1 fT).mp cn
   obtain⟨A,la,lk⟩:=can fl
   refine⟨by rw [tl,wl];omega,⟨fun nS=>absurd eR nS,fun _ nk=>absurd (jFw W.P.ka la) nk,fun A' w' _ la' lk'=>?_⟩,fun A' _ la' lk' l H' ts over eo st=>?_⟩
   ·obtain rfl:A=A':=Option.some.inj (la.symm.trans la')
    rw [lk] at lk'
    cases lk'
   ·obtain rfl:A=A':=Option.some.inj (la.symm.trans la')
    rw [wl,W.pa] at eo
    rw [jLQ af] at st
    have eF:stF r.tot 0 f=f+1:=by unfold stF;rw [if_neg (by omega)]
    refine fin _ H' _ _ st.fr ?_ ?_ st.w eR ⟨⟨.inl rfl,rfl,rfl,rfl,rfl⟩,rfl,rfl,rfl,rfl,rfl,rfl⟩ (by unfold StpD;rw [if_neg fl];exact⟨A,la,rfl,rfl,rfl⟩) l
    ·unfold jJj
     rw [show stK r.tot Pn 0 a f=if Pn<f+1-a then 1 else 0 by unfold stK;rw [if_neg (by omega)]]
     by_cases co:Pn<f+1-a
     ·rw [show over=true by rw [eo];exact decide_eq_true (by omega),if_pos rfl,if_pos co,jG8 (by omega)]
     ·rw [show over=false by rw [eo];exact decide_eq_false (by omega),if_neg (by decide),if_neg co]
      exact (jC_ _ _).symm
    ·unfold jK0
     rw [eF,show stK r.tot Pn 0 a f=if Pn<f+1-a then 1 else 0 by unfold stK;rw [if_neg (by omega)]]
     by_cases co:Pn<f+1-a
     ·rw [show over=true by rw [eo];exact decide_eq_true (by omega),if_pos rfl,if_pos co,jIq 1 (by omega)]
     ·rw [show over=false by rw [eo];exact decide_eq_false (by omega),if_neg (by decide),if_neg co]
      rfl
  ·rw [show jAY (R5 r (if true=true then some p else none) 0 a) (win 0 a f)=itm 0 f from jFH af] at cn
   have fl:f=r.tot+1:=Classical.byContradiction fun z=>cn ((jHE T1 fT).mpr z)
   have eK:stK r.tot Pn 0 a f=1:=by unfold stK;rw [if_pos (by omega)]
   have eF:stF r.tot 0 f=f:=by unfold stF;rw [if_pos (by omega)]
   exact fin { d with tags:=ts } H' _ _ st.fr (by rw [eK];exact jG8 (by omega)) (by rw [eK,eF];exact jIq 1 (by omega)) st.w eR ⟨⟨.inl rfl,rfl,rfl,rfl,rfl⟩,rfl,rfl,rfl,rfl,rfl,rfl⟩ (by unfold StpD;rw [if_pos fl];exact⟨rfl,rfl,rfl⟩) l
def SucJ(cR cJ cP cS cY cM cW:Addr)(H:Hp)(x p q:Addr)(r:RD)(d e:PD)(Pn:Nat)(o:Bool)(a f n:Nat)(Z:Hp->Prop):Prop:=o=true/\d.S=.rd/\n<=f-a/\∀ d' H',Kp x p d H H'->W35 cR cJ cP cS cY cM cW H' x p q r d' e Pn (decide (a+n≠r.tot+1)) (a+n) (a+n)->Gq d d' H->d'.am=d.am->d'.b=d.b->d'.c=d.c->d'.S=.jm->Z H'
theorem W35.jam{n:Nat}(W:W35 cR cJ cP cS cY cM cW H x p q r d e Pn o a f)(h:RefX cU cN cT cD cO cX r d o a f (.jam n) H E\/SucJ cR cJ cP cS cY cM cW H x p q r d e Pn o a f n (fun H'=>∀ l,Q (.ref l) H')):jEA cR cJ cO cX cN cT cP cS cY cM cW [.ref x,.int (n:Int)] H Q E:=by
 have T1:=W.T1
 have af:=W.af
 have fT:=W.fT
 have wl:=jHV 0 a f
 rcases h with⟨k,w,R,h⟩|⟨rfl,eR,kn,q⟩
 ·rcases R with⟨e1,rfl,rfl⟩|⟨nov,R⟩
  ·exact⟨x,_,n,rfl,W.R,fun _=>h.ov,fun lv=>absurd e1 (W.liv lv),fun lv=>absurd e1 (W.liv lv)⟩
  ·refine⟨x,_,n,rfl,W.R,fun n=>absurd (W.nliv n) nov,fun _ hp=>?_,fun _ p' hp=>?_⟩
   ·rcases R with⟨rfl,rfl,rfl⟩|⟨rfl,_⟩
    ·exact h
    ·cases hp
   ·rcases R with⟨rfl,_⟩|⟨rfl,R⟩
    ·cases hp
    ·obtain rfl:p=p':=Option.some.inj hp
     refine⟨d,_,W.wd,fun nS=>?_,fun eS g=>?_,fun eS g=>?_⟩
     ·rcases R with⟨_,rfl,rfl⟩|⟨eS,_⟩
      ·exact h
      ·exact absurd eS nS
     ·rcases R with⟨nS,_⟩|⟨_,_,rfl,rfl⟩
      ·exact absurd eS nS
      ·exact h
     ·rw [wl] at g
      rcases R with⟨nS,_⟩|⟨_,g2,_⟩
      ·exact absurd eS nS
      ·omega
 ·have nov:=W.oa rfl
  refine⟨x,_,n,rfl,W.R,fun n=>absurd (W.nliv n) nov,fun _ hp=>(by cases hp),fun _ p' hp=>?_⟩
  obtain rfl:p=p':=Option.some.inj hp
  refine⟨d,_,W.wd,fun nS=>absurd eR nS,fun _ g=>by rw [wl] at g;omega,fun _ g t l1 l2 st il H' kk nil' ht tl1 tl2 wd=>?_⟩
  rw [jG8 (by omega)] at wd
  rw [show (R5 r (if true=true then some p else none) 0 a)=R5 r (some p) 0 a from rfl,jJX T1 (by omega)] at wd
  have kp:Kp x p d H H':=fun b o n1 n2 _ _ _ e=>kk b o n1 n2 e
  have g':Gq d { d with st:=st,S:=.jm,ins:=il,tags:=[] } H:=⟨⟨.inr nil',rfl,rfl,rfl,rfl⟩,rfl,rfl,rfl,rfl,rfl,rfl⟩
  refine q _ H' kp (W.deed kp ?_ wd.P (by rw [jC_];exact wd.tg) ⟨wd.n1,wd.n2,wd.n3,wd.n4,wd.n5⟩ g' (Nat.le_refl _) (by omega) (fun z=>of_decide_eq_true z) (fun _=>rfl) (by omega) (fun z=>absurd z (by omega))) g' rfl rfl rfl rfl t
  have:=wd.R
  rw [show (if decide (a+n≠r.tot+1)=true then some p else none)=if 0+(a+n)=r.tot+1 then none else some p by
   by_cases c:a+n=r.tot+1
   ·rw [if_neg (by rw [decide_eq_false (fun z=>z c)];decide),if_pos (by omega)]
   ·rw [if_pos (decide_eq_true c),if_neg (by omega)]]
  exact this
theorem W35.takeX(W:W35 cR cJ cP cS cY cM cW H x p q r d e Pn o a f)(h:RefX cU cN cT cD cO cX r d o a f .take H E):jCo cR cJ cO cN cP cS cY cM cW [.ref x,.ref p] H Q E:=by
 obtain⟨k,w,R,h⟩:=h
 rcases R with⟨e1,rfl,rfl⟩|⟨nov,nS,rfl,rfl⟩
 ·exact⟨x,_,p,d,rfl,W.R,W.P,fun _=>h.ov,fun lv=>absurd e1 (W.liv lv),fun lv=>absurd e1 (W.liv lv)⟩
 ·exact⟨x,_,p,d,rfl,W.R,W.P,fun n=>absurd (W.nliv n) nov,fun _ _=>h,fun _ eS=>absurd eS nS⟩
theorem W35.take0(W:W35 cR cJ cP cS cY cM cW H x p q r d e Pn false 0 0)(eS:d.S=.rd)(z:∀ l H',(∀ b o,b≠x->H b=some o->H' b=some o)->W35 cR cJ cP cS cY cM cW H' x p q r d e Pn true 0 0->Q (.ref l) H'):jCo cR cJ cO cN cP cS cY cM cW [.ref x,.ref p] H Q E:=by
 have T1:=W.T1
 refine⟨x,_,p,d,rfl,W.R,W.P,fun n=>absurd (W.nliv n) (by omega),fun _ nS=>absurd eS nS,fun _ _=>⟨fun _ l H' kx nl hl R'=>z l H' kx ?_,fun p' hp=>by cases hp⟩⟩
 have kp:Kp x p d H H':=fun b o n1 _ _ _ _ e=>kx b o n1 e
 refine W.deed kp ?_ (W.P.off W.R.o kx W.x1.n1 W.x1.n2 W.x1.n3 W.x1.n4) (W.tg.fr (jHD W.R.o W.P kp)) W.x1 ⟨jJY _ _,rfl,rfl,rfl,rfl,rfl,rfl⟩ (Nat.le_refl _) (by omega) (fun _=>by omega) (fun z=>by cases z) (by omega) (fun z=>absurd z (by omega))
 unfold jE7 at R'
 rw [if_neg (by show ¬ 0+(0-1)=r.tot;omega)] at R'
 exact R'
theorem W35.take1{Pm:Nat}(W:W35 cR cJ cP cS cY cM cW H x p q r d e Pn true 0 0)(eS:e.S=.rd)(dS:d.S=.rd)(hm:e.path=(Pm:Int))(m4:Pm<=4)(z:∀ l d' H',Kp x p d H H'->W35 cR cJ cP cS cY cM cW H' x q p r e d' Pm true 0 0->Gq d d' H->Q (.ref l) H'):jCo cR cJ cO cN cP cS cY cM cW [.ref x,.ref q] H Q E:=by
 have T1:=W.T1
 refine⟨x,_,q,e,rfl,W.R,W.E,fun n=>absurd (W.nliv n) (by omega),fun _ nS=>absurd eS nS,fun _ _=>⟨fun hp=>(by cases hp),fun p' hp=>?_⟩⟩
 obtain rfl:p=p':=Option.some.inj hp
 refine⟨d,_,W.wd,fun _=>dS,nw_win T1 (by omega),fun l H' fr nl hl w=>?_⟩
 have kp:Kp x p d H H':=fun b o n1 _ n3 _ _ e=>fr b o n1 n3 e
 rw [show (R5 r (if true=true then some p else none) 0 0)=R5 r (some p) 0 0 from rfl,jJX T1 (Nat.le_refl _),if_neg (by omega)] at w
 unfold jE7 at w
 rw [if_neg (by show ¬ 0+(0-1)=r.tot;omega)] at w
 have g:Gq d { d with tags:=[] } H:=⟨⟨.inl rfl,rfl,rfl,rfl,rfl⟩,rfl,rfl,rfl,rfl,rfl,rfl⟩
 have hx:=W.R.o
 have kd:∀ {b:Addr} {kv:List (Key×V)},Ra b d->H b=some (.dK kv)->H' b=some (.dK kv):=fun n e=>kp _ _ (jBb hx e).symm (jBb W.P.o e).symm (jAu e W.P.n nofun) n.t n.k e
 exact z l _ H' kp ⟨w.R,W.E.kp hx W.P W.s1 W.x2.n1 W.x2.n2 W.x2.n3 W.x2.n4 kp,w.P,by rw [W.te,jC_];exact⟨rfl,fun i y n a=>by cases a⟩,rfl,W.x2,⟨w.n1,w.n2,w.n3,w.n4,w.n5⟩,W.s2.right g.g W.E,W.s1.left g.g W.E,kd W.u2.1 W.r2,kd W.u1.1 W.r1,⟨W.u2.2,⟨W.u2.1.t,W.u2.1.k⟩⟩,⟨W.u1.2,⟨W.u1.1.t,W.u1.1.k⟩⟩,W.hb,W.T1,W.T9,W.ik,Nat.le_refl _,by omega,fun _=>by omega,(fun z=>by cases z),hm,by omega,m4,fun z=>absurd z (by omega),⟨W.k2.2,W.k2.1⟩⟩ g
end
inductive jCN(cR cJ cO cX cU cN cD cT cP cS cY cM cW:Addr)(vs:List V)(H:Hp)(Q:VK)(E:XK):Prop|mk x p q t r d e Pn o a f D:vs=[.ref x,.ref p,.ref t]->H t=some (.tup (ddV D))->W35 cR cJ cP cS cY cM cW H x p q r d e Pn o a f->(RefX cU cN cT cD cO cX r d o a f D H E\/D=.step/\SucS cR cJ cP cS cY cM cW H x p q r d e Pn o a f (fun H'=>Q .non H'))->jCN cR cJ cO cX cU cN cD cT cP cS cY cM cW vs H Q E
theorem jJZ:jAk ["_law_run","_law_printer","_law_deed"] ["_law_run","_law_printer","_law_deed"] (jAh jEO):=scM
include T in
theorem jJ0(F:Fun K "_law_called" "_law_called" jEO fa fd)(Dap:MtE P w K mg base 6 "take" yK ["self","printer"] (jCo yK yG vW vY cZ cQ yJ yW yU))(Dby:MtE P w K mg base 8 "step" yK ["self"] (jE8 yK yG vW vJ vG vY cG cZ cQ yJ yW yU))(DaH:MtE P w K mg base 6 "jam" yK ["self","saved"] (jEA yK yG vW vJ vY vU cZ cQ yJ yW yU)) :
 jAr P w K mg base (CXe P w) 9 fa fd ["_law_run","_law_printer","_law_deed"] (jCN yK yG vW vJ vG vY cG vU cZ cQ yJ yW yU):=by
 refine F.okE jJZ (fun vs H Q E h=>?_) (fun cdv A outer s H vs Q E hr h=>?_)
 ·obtain⟨x,p,q,t,r,d,e,Pn,o,a,f,D,rfl,_⟩:=h
  rfl
 obtain⟨x,p,q,t,r,d,e,Pn,o,a,f,D,rfl,ht,W,h⟩:=h
 exists _,(jAd (jAE (tcA jA9 (ixA jAI (pv 2) jAe) jAm) (jAf (jAy (jAF 6 jAx hr.m (pv 0) (jAa (pv 1) jAc)))) jAw) (jAd (jAE (tcA jA9 (ixA jAI (pv 2) jAe) jAm) (jAf (jAy (jAs 8 jAx hr.m (pv 0)))) jAw) (jAf (jAE (tcA jA9 (ixA jAI (pv 2) jAe) jAm) (jAf (jAy (jAF 6 jAx hr.m (pv 0) (jAa (ixA jAI (pv 2) jAe) jAc)))) jAw))))
 cases D with
 | take =>
   refine⟨_,rfl,t,_,_,_,rfl,rfl,SqT.of ht,jAl (j:=0) (dd0 .take),rfl,true,rfl,jAU ⟨_,rfl,x,_,_,_,_,_,rfl,W.R.o,rfl,T.aa,Dap,_,rfl,?_⟩⟩
   rcases h with h|⟨h,_⟩
   ·dsimp only [jCx]
    exact W.takeX h
   ·cases h
 | step =>
   refine⟨_,rfl,t,_,_,_,rfl,rfl,SqT.of ht,jAl (j:=0) (dd0 .step),rfl,false,by decide +kernel,jAJ ⟨_,rfl,t,_,_,_,rfl,rfl,SqT.of ht,jAl (j:=0) (dd0 .step),rfl,true,rfl,jAU ⟨_,rfl,x,_,_,_,_,_,rfl,W.R.o,rfl,T.aa,Dby,?_⟩⟩⟩
   dsimp only [jCx]
   refine W.step (cT:=vU) ?_
   rcases h with h|⟨_,h1,h2,h3⟩
   ·exact .inl h
   ·refine .inr ⟨h1,h2,fun d' H' kp W' g sd eS l=>?_⟩
    have ht':=jHD W.R.o W.P kp _ _ ht
    exact⟨_,rfl,t,_,_,_,rfl,rfl,SqT.of ht',jAl (j:=0) (dd0 .step),rfl,false,by decide +kernel,jAJ (h3 d' H' kp W' g sd eS)⟩
 | jam n =>
   refine⟨_,rfl,t,_,_,_,rfl,rfl,SqT.of ht,jAl (j:=0) (dd0 (.jam n)),rfl,false,(show V.bl (decide (V.str (Str.ofString "jam")=V.str (Str.ofString "take")))=.bl false by decide +kernel),jAJ ⟨_,rfl,t,_,_,_,rfl,rfl,SqT.of ht,jAl (j:=0) (dd0 (.jam n)),rfl,false,(show V.bl (decide (V.str (Str.ofString "jam")=V.str (Str.ofString "step")))=.bl false by decide +kernel),jAJ ⟨_,rfl,t,_,_,_,rfl,rfl,SqT.of ht,jAl (j:=0) (dd0 (.jam n)),rfl,true,rfl,jAU ⟨_,rfl,x,_,_,_,_,_,rfl,W.R.o,rfl,T.aa,DaH,_,rfl,t,_,_,_,rfl,rfl,SqT.of ht,jAl (j:=1) rfl,?_⟩⟩⟩⟩
   rcases h with h|⟨h,_⟩
   ·dsimp only [jCx]
    exact W.jam (.inl h)
   ·cases h
def ixK:Nat->Nat
 | 1=>12
 | 3=>6
 | 4=>10
 | 5=>2
 | 6=>9
 | _=>8
theorem Rfd.k{r:RD}{d:PD}{o:Bool}{a f:Nat}{D:Dd}{k:Nat}{w:Str}(h:Rfd r d o a f D k w):k=1\/k=3\/k=4\/k=5\/k=6\/k=7:=by
 unfold Rfd at h
 cases D<;>simp only at h<;>grind
theorem jHW{d d':PD}{H H':Hp}(g:Gq d d' H')(s:jAn H H'):Gq d d' H:=by
 refine⟨⟨?_,g.g.t,g.g.k,g.g.t1,g.g.k1⟩,g.rs,g.rm,g.nm,g.pa,g.rb,g.rc⟩
 rcases g.g.i with h|h
 ·exact .inl h
 ·refine .inr ?_
  cases e:H d'.ins with
  | none=>rfl
  | some o=>rw [s _ _ e] at h;cases h
theorem kp_none{cP cS cY cM cW x p:Addr}{d:PD}{H H1 H':Hp}{m:Addr}{o:HO}{C dx:Addr}{fs:List (Str×V)}(hx:H x=some (.ins C dx fs))(hp:jAC cP cS cY cM cW H p d)(k:Kp x p d H1 H')(n:H m=none)(e:H1 m=some o):H' m=some o:=k _ _ (jAg hx n).symm (jAg hp.o n).symm (jAg hp.n n).symm (jAg hp.T.2.2.1 n).symm (jAg hp.I.2.2.1 n).symm e
abbrev q4(ci a b c d:Nat):List V:=[.bl (ci==a),.bl (ci==b),.bl (ci==c),.bl (ci==d)]
inductive jCW(cR cJ cO cX cU cN cD cT cP cS cY cM cW:Addr)(vs:List V)(H:Hp)(Q:VK)(E_:XK):Prop|mk x p q t r d e Pn o a f D:vs=[.ref x,.ref p,.ref t]->H t=some (.tup (ddV D))->W35 cR cJ cP cS cY cM cW H x p q r d e Pn o a f->((∃ k w,Rfd r d o a f D k w/\∀ H',jAn H H'->Q (.int (k:Int)) H')\/D=.step/\SucS cR cJ cP cS cY cM cW H x p q r d e Pn o a f (fun H'=>Q (.int (-1)) H'))->jCW cR cJ cO cX cU cN cD cT cP cS cY cM cW vs H Q E_
theorem jBL:jAk ["_law_run","_law_printer","_law_deed","_law_marks","e"] ["_law_run","_law_printer","_law_deed"] (jAh jFt):=scM
include T in
theorem jKQ(F:Fun K "_law_place" "_law_place" jFt fa fd)(DaI:DfE P w K mg base 9 "_law_called" ["_law_run","_law_printer","_law_deed"] (jCN yK yG vW vJ vG vY cG vU cZ cQ yJ yW yU)) :
 jAr P w K mg base CX0 10 fa fd ["_law_run","_law_printer","_law_deed"] (jCW yK yG vW vJ vG vY cG vU cZ cQ yJ yW yU):=by
 refine F.ok jBL (fun vs H Q E h=>?_) (fun cdv A outer s H vs Q E hr h=>?_)
 ·obtain⟨x,p,q,t,r,d,e,Pn,o,a,f,D,rfl,_⟩:=h
  rfl
 obtain⟨x,p,q,t,r,d,e,Pn,o,a,f,D,rfl,ht,W,q⟩:=h
 have hu:=jCZ hr 0 (by decide)
 have hu0:=hr.units0
 exists _,(jAd (psA (i:=3) jBL.nd (jAV jAc)) (jAd (jNH jMD (fun _ _ _ hP hO=>by exact (jAf (jAy (jLi DaI hP (hr.mono (show 9<=9 by decide)) rfl (jAa (pv 0) (jAa (pv 1) (jAa (pv 2) jAc))))))) (jGJ (i:=4) rfl T.aD jBL.nd rfl rfl (fun _=>by exact (jAd (psA (i:=3) jBL.nd (jAV (jAa (jAQ (jBg (K:=K) rfl) rfl T.aq jB6 (jAa (pv 4) (jAa (jBy (v:=.ref cV) rfl T.dh rfl) jAc))) (jAa (jAQ (jBg (K:=K) rfl) rfl T.aq jB6 (jAa (pv 4) (jAa (jBy (v:=.ref vG) rfl T.bI rfl) jAc))) (jAa (jAQ (jBg (K:=K) rfl) rfl T.aq jB6 (jAa (pv 4) (jAa (jBy (v:=.ref vK) rfl T.dv rfl) jAc))) (jAa (jAQ (jBg (K:=K) rfl) rfl T.aq jB6 (jAa (pv 4) (jAa (jBy (v:=.ref vY) rfl T.bE rfl) jAc))) jAc)))))) (jAd (psA (i:=3) jBL.nd (jAp jHn (pv 3) (jAV (jAa (jAQ (jBg (K:=K) rfl) rfl T.aq jB6 (jAa (pv 4) (jAa (jBy (v:=.ref vU) rfl T.bH rfl) jAc))) (jAa (jAQ (jBg (K:=K) rfl) rfl T.aq jB6 (jAa (pv 4) (jAa (jBy (v:=.ref cG) rfl T.bD rfl) jAc))) (jAa (jAQ (jBg (K:=K) rfl) rfl T.aq jB6 (jAa (pv 4) (jAa (jBy (v:=.ref vW) rfl T.bG rfl) jAc))) (jAa (jAQ (jBg (K:=K) rfl) rfl T.aq jB6 (jAa (pv 4) (jAa (jBy (v:=.ref vJ) rfl T.bF rfl) jAc))) jAc))))))) (jAd (psA (i:=3) jBL.nd (jAp jHn (pv 3) (jAV (jAa (jAQ (jBg (K:=K) rfl) rfl T.aq jB6 (jAa (pv 4) (jAa (jBy (v:=.ref cK) rfl T.dj rfl) jAc))) (jAa (jAQ (jBg (K:=K) rfl) rfl T.aq jB6 (jAa (pv 4) (jAa (jBy (v:=.ref vZ) rfl T.dn rfl) jAc))) (jAa (jAQ (jBg (K:=K) rfl) rfl T.aq jB6 (jAa (pv 4) (jAa (jBy (v:=.ref vX) rfl T.dq rfl) jAc))) (jAa (jAQ (jBg (K:=K) rfl) rfl T.aq jB6 (jAa (pv 4) (jAa (jBy (v:=.ref vV) rfl T.du rfl) jAc))) jAc))))))) (jAf (psA (i:=3) jBL.nd (jAp jHn (pv 3) (jAV (jAa (jAQ (jBg (K:=K) rfl) rfl T.aq jB6 (jAa (pv 4) (jAa (jBy (v:=.ref vQ) rfl T.dl rfl) jAc))) (jAa (pe_not (jAQ (jBg (K:=K) rfl) rfl T.aq jB6 (jAa (pv 4) (jAa (pe_bltn rfl T.bN jKx (rel_ty _)) jAc)))) jAc)))))))))) jNG)) (jAd (jAE (tcA (jMR hu0) (pv 3) (jAV jAc)) (jAf (jAo (pe_un jNf jAe))) jAw) (jAd (jAE (tcA jHG (jE0 PySem.F.plainAttrs_list PySem.F.slot_list_count PySem.F.type_list_count jOn (pv 3) (jAa jBc jAc)) jAe) (jAf (jAo jAe)) jAw) (jAf (jAo (jE0 PySem.F.plainAttrs_list PySem.F.slot_list_index PySem.F.type_list_index jOk (pv 3) (jAa jBc jAc))))))))
 refine⟨small (Nat.zero_le _),fun m0 nm0=>?_⟩
 have s1:=jAj nm0 (.lst [])
 have hm0:upd H m0 (.lst []) m0=some (.lst []):=jAb
 generalize upd H m0 (.lst [])=H1 at s1 hm0 ⊢
 have W1:=W.same s1
 exists _,rfl,_,rfl,_,rfl,x,p,_,t,r,d,e,Pn,o,a,f,D,rfl,s1 _ _ ht,W1
 rcases q with⟨k,w,R,q⟩|⟨rfl,q⟩
 ·refine .inl ⟨k,w,R,fun ea H2 s2 g=>?_⟩
  have hk:=R.k
  obtain⟨ci,eC,im,ihs,ii,kt,kv⟩:∃ ci,ci=ixK k/\PySem.W.excMk K (clK vG vY vU cG vW vJ k)=true/\PySem.W.mroHas K (clK vG vY vU cG vW vJ k) (.ref gQ)=true/\ClsI K (clK vG vY vU cG vW vJ k)/\(∀ j,j<13->PySem.W.kitOne K (.ref (clK vG vY vU cG vW vJ k)) (.ref ([cV,cK,cG,vQ,vZ,vX,vY,vV,vJ,vW,vU,vK,vG].getD j 0))=some (ci==j))/\PySem.W.kitOne K (.ref (clK vG vY vU cG vW vJ k)) (.type "ValueError")=some true:=by
   rcases hk with rfl|rfl|rfl|rfl|rfl|rfl
   ·exact⟨12,rfl,T.ao.m,T.bY,T.ao.i,fun j hj=>jCI (i:=12) T.av (show 12<13 by decide) hj,jCH (i:=12) T.av (show 12<13 by decide)⟩
   ·exact⟨6,rfl,T.ae.m,T.bZ,T.ae.i,fun j hj=>jCI (i:=6) T.av (show 6<13 by decide) hj,jCH (i:=6) T.av (show 6<13 by decide)⟩
   ·exact⟨10,rfl,T.ak.m,T.ce,T.ak.i,fun j hj=>jCI (i:=10) T.av (show 10<13 by decide) hj,jCH (i:=10) T.av (show 10<13 by decide)⟩
   ·exact⟨2,rfl,T.ai.m,T.cf,T.ai.i,fun j hj=>jCI (i:=2) T.av (show 2<13 by decide) hj,jCH (i:=2) T.av (show 2<13 by decide)⟩
   ·exact⟨9,rfl,T.aj.m,T.cg,T.aj.i,fun j hj=>jCI (i:=9) T.av (show 9<13 by decide) hj,jCH (i:=9) T.av (show 9<13 by decide)⟩
   ·exact⟨8,rfl,T.al.m,T.cj,T.al.i,fun j hj=>jCI (i:=8) T.av (show 8<13 by decide) hj,jCH (i:=8) T.av (show 8<13 by decide)⟩
  refine⟨_,ea,rfl,rfl,im,T.bX,true,ihs,jAU ?_⟩
  generalize clK vG vY vU cG vW vJ k=C at g im ihs ii kt kv ⊢
  refine⟨_,rfl,ea,C,_,_,_,rfl,g,ii,(fun u r=>r),kt 0 (by decide),_,rfl,ea,C,_,_,_,rfl,g,ii,(fun u r=>r),kt 12 (by decide),_,rfl,ea,C,_,_,_,rfl,g,ii,(fun u r=>r),kt 11 (by decide),_,rfl,ea,C,_,_,_,rfl,g,ii,(fun u r=>r),kt 6 (by decide),wq4,fun p0 n0=>?_⟩
  have t0:=jAj n0 (.lst (q4 ci 0 12 11 6))
  have hp0:upd H2 p0 (.lst (q4 ci 0 12 11 6)) p0=some (.lst (q4 ci 0 12 11 6)):=jAb
  generalize upd H2 p0 (.lst (q4 ci 0 12 11 6))=Ha0 at t0 hp0 ⊢
  have g0:=g.keep t0
  refine⟨_,rfl,_,rfl,ea,C,_,_,_,rfl,g0,ii,(fun u r=>r),kt 10 (by decide),_,rfl,ea,C,_,_,_,rfl,g0,ii,(fun u r=>r),kt 2 (by decide),_,rfl,ea,C,_,_,_,rfl,g0,ii,(fun u r=>r),kt 9 (by decide),_,rfl,ea,C,_,_,_,rfl,g0,ii,(fun u r=>r),kt 8 (by decide),wq4,fun p1 n1=>?_⟩
  have t1:=jAj n1 (.lst (q4 ci 10 2 9 8))
  have hp1:upd Ha0 p1 (.lst (q4 ci 10 2 9 8)) p1=some (.lst (q4 ci 10 2 9 8)):=jAb
  generalize upd Ha0 p1 (.lst (q4 ci 10 2 9 8))=Ha1 at t1 hp1 ⊢
  have g1:=g0.keep t1
  refine⟨p0,p1,_,_,rfl,rfl,t1 _ _ hp0,hp1,wq8,fun c1 m1=>?_⟩
  have u1:=jAj m1 (.lst ((q4 ci 0 12 11 6)++(q4 ci 10 2 9 8)))
  have hc1:upd Ha1 c1 (.lst ((q4 ci 0 12 11 6)++(q4 ci 10 2 9 8))) c1=some (.lst (q4 ci 0 12 11 6++q4 ci 10 2 9 8)):=jAb
  generalize upd Ha1 c1 (.lst ((q4 ci 0 12 11 6)++(q4 ci 10 2 9 8)))=Hb1 at u1 hc1 ⊢
  have k1:=g1.keep u1
  refine⟨_,rfl,_,rfl,ea,C,_,_,_,rfl,k1,ii,(fun u r=>r),kt 1 (by decide),_,rfl,ea,C,_,_,_,rfl,k1,ii,(fun u r=>r),kt 4 (by decide),_,rfl,ea,C,_,_,_,rfl,k1,ii,(fun u r=>r),kt 5 (by decide),_,rfl,ea,C,_,_,_,rfl,k1,ii,(fun u r=>r),kt 7 (by decide),wq4,fun p2 n2=>?_⟩
  have t2:=jAj n2 (.lst (q4 ci 1 4 5 7))
  have hp2:upd Hb1 p2 (.lst (q4 ci 1 4 5 7)) p2=some (.lst (q4 ci 1 4 5 7)):=jAb
  generalize upd Hb1 p2 (.lst (q4 ci 1 4 5 7))=Ha2 at t2 hp2 ⊢
  have g2:=k1.keep t2
  refine⟨c1,p2,_,_,rfl,rfl,t2 _ _ hc1,hp2,wq12,fun c2 m2=>?_⟩
  have u2:=jAj m2 (.lst ((q4 ci 0 12 11 6++q4 ci 10 2 9 8)++(q4 ci 1 4 5 7)))
  have hc2:upd Ha2 c2 (.lst ((q4 ci 0 12 11 6++q4 ci 10 2 9 8)++(q4 ci 1 4 5 7))) c2=some (.lst (q4 ci 0 12 11 6++q4 ci 10 2 9 8++q4 ci 1 4 5 7)):=jAb
  generalize upd Ha2 c2 (.lst ((q4 ci 0 12 11 6++q4 ci 10 2 9 8)++(q4 ci 1 4 5 7)))=Hb2 at u2 hc2 ⊢
  have k2:=g2.keep u2
  refine⟨_,rfl,_,rfl,ea,C,_,_,_,rfl,k2,ii,(fun u r=>r),kt 3 (by decide),_,rfl,ea,C,_,_,true,rfl,k2,ii,(fun u r=>r),kv,true,rfl,wq2,fun p3 n3=>?_⟩
  have t3:=jAj n3 (.lst [.bl (ci==3),.bl (!true)])
  have hp3:upd Hb2 p3 (.lst [.bl (ci==3),.bl (!true)]) p3=some (.lst [.bl (ci==3),.bl (!true)]):=jAb
  generalize upd Hb2 p3 (.lst [.bl (ci==3),.bl (!true)])=Ha3 at t3 hp3 ⊢
  refine⟨c2,p3,_,_,rfl,rfl,t3 _ _ hc2,hp3,wq14,fun c3 m3=>?_⟩
  have u3:=jAj m3 (.lst ((q4 ci 0 12 11 6++q4 ci 10 2 9 8++q4 ci 1 4 5 7)++[.bl (ci==3),.bl (!true)]))
  have hc3:upd Ha3 c3 (.lst ((q4 ci 0 12 11 6++q4 ci 10 2 9 8++q4 ci 1 4 5 7)++[.bl (ci==3),.bl (!true)])) c3=some (.lst (q4 ci 0 12 11 6++q4 ci 10 2 9 8++q4 ci 1 4 5 7++[.bl (ci==3),.bl (!true)])):=jAb
  generalize upd Ha3 c3 (.lst ((q4 ci 0 12 11 6++q4 ci 10 2 9 8++q4 ci 1 4 5 7)++[.bl (ci==3),.bl (!true)]))=Hb3 at u3 hc3 ⊢
  refine⟨_,rfl,small (Nat.zero_le _),fun ee nee=>⟨c3,ee,_,[],rfl,rfl,SqL.of (jAj nee _ _ _ hc3),SqL.of jAb,rfl,rfl,false,rfl,jAJ ?_⟩⟩
  have te:=jAj nee (.lst [])
  have he:=te _ _ hc3
  generalize upd Hb3 ee (.lst [])=He at te he ⊢
  have q':=q _ (s1.trans (s2.trans (t0.trans (t1.trans (u1.trans (t2.trans (u2.trans (t3.trans (u3.trans te)))))))))
  rcases hk with rfl|rfl|rfl|rfl|rfl|rfl<;>subst eC<;>exact⟨_,rfl,.inl ⟨rfl,_,SqL.of he⟩,c3,_,_,rfl,rfl,he,rfl,rfl,rfl,false,rfl,jAJ ⟨_,rfl,.inl ⟨rfl,_,SqL.of he⟩,c3,_,_,_,rfl,rfl,he,rfl,rfl,(by show 14<=1000;decide),(by decide),rfl,(fun m hm=>by rcases m with _|_|_|_|_|_|_|m<;>first|rfl|omega),q'⟩⟩
 ·obtain⟨c1,c2,q⟩:=q
  refine .inr ⟨rfl,c1,c2,fun d' H2 kp W2 g sd eS=>?_⟩
  have hm2:=kp_none W.R.o W.P kp nm0 hm0
  refine⟨_,rfl,small (Nat.zero_le _),fun ee nee=>⟨m0,ee,[],[],rfl,rfl,SqL.of (jAj nee _ _ _ hm2),SqL.of jAb,rfl,rfl,true,rfl,jAU ⟨_,rfl,?_⟩⟩⟩
  have te:=jAj nee (.lst [])
  exact q d' _ (fun b o n1 n2 n3 n4 n5 e=>te _ _ (kp b o n1 n2 n3 n4 n5 (s1 _ _ e))) (W2.same te) (jHW g s1) sd eS
inductive jDD(cR cJ cO cX cU cN cD cT cP cS cY cM cW:Addr)(vs:List V)(H:Hp)(Q:VK)(E_:XK):Prop|mk x p q t r d e Pn o a f D:vs=[.ref x,.ref p,.ref t]->H t=some (.tup (ddV D))->W35 cR cJ cP cS cY cM cW H x p q r d e Pn o a f->(∃ k w,Rfd r d o a f D k w/\∀ H',jAn H H'->Q (.str w) H')->jDD cR cJ cO cX cU cN cD cT cP cS cY cM cW vs H Q E_
theorem jAP:jAk ["_law_run","_law_printer","_law_deed","_law_word_here","e"] ["_law_run","_law_printer","_law_deed"] (jAh jD7):=scM
include T in
theorem jJk(F:Fun K "_law_word_of" "_law_word_of" jD7 fa fd)(DaI:DfE P w K mg base 9 "_law_called" ["_law_run","_law_printer","_law_deed"] (jCN yK yG vW vJ vG vY cG vU cZ cQ yJ yW yU)) :
 jAr P w K mg base CX0 10 fa fd ["_law_run","_law_printer","_law_deed"] (jDD yK yG vW vJ vG vY cG vU cZ cQ yJ yW yU):=by
 refine F.ok jAP (fun vs H Q E h=>?_) (fun cdv A outer s H vs Q E hr h=>?_)
 ·obtain⟨x,p,q,t,r,d,e,Pn,o,a,f,D,rfl,_⟩:=h
  rfl
 obtain⟨x,p,q,t,r,d,e,Pn,o,a,f,D,rfl,ht,W,k,w,R,q⟩:=h
 exists _,(jAd (psA (i:=3) jAP.nd jBk) (jAd (jNH jMD (fun _ _ _ hP hO=>by exact (jAf (jAy (jLi DaI hP (hr.mono (show 9<=9 by decide)) rfl (jAa (pv 0) (jAa (pv 1) (jAa (pv 2) jAc))))))) (jGJ (i:=4) rfl T.bI jAP.nd rfl rfl (fun _=>by exact (jAf (psA (i:=3) jAP.nd (jDP (K:=K) rfl (pv 4) rfl)))) (jGJ (i:=4) rfl T.bE jAP.nd rfl rfl (fun _=>by exact (jAf (psA (i:=3) jAP.nd (jDP (K:=K) rfl (pv 4) rfl)))) (jGJ (i:=4) rfl T.bH jAP.nd rfl rfl (fun _=>by exact (jAf (psA (i:=3) jAP.nd (jDP (K:=K) rfl (pv 4) rfl)))) (jGJ (i:=4) rfl T.bD jAP.nd rfl rfl (fun _=>by exact (jAf (psA (i:=3) jAP.nd (jDP (K:=K) rfl (pv 4) rfl)))) (jGJ (i:=4) rfl T.bG jAP.nd rfl rfl (fun _=>by exact (jAf (psA (i:=3) jAP.nd (jDP (K:=K) rfl (pv 4) rfl)))) (jGJ (i:=4) rfl T.bF jAP.nd rfl rfl (fun _=>by exact (jAf (psA (i:=3) jAP.nd (jDP (K:=K) rfl (pv 4) rfl)))) jNG))))))) (jAf (jAo (pv 3)))))
 refine⟨_,rfl,_,rfl,_,rfl,x,p,_,t,r,d,e,Pn,o,a,f,D,rfl,ht,W,.inl ⟨k,w,R,fun ea H2 s2 g=>?_⟩⟩
 have q':=q H2 s2
 rcases R.k with rfl|rfl|rfl|rfl|rfl|rfl
 ·exact⟨vG,ea,rfl,rfl,T.ao.m,T.ao.m,true,T.ck,jAU ⟨_,rfl,ea,_,_,_,rfl,g,T.ao.i.c,T.ao.n _ (.head _),rfl,_,rfl,q'⟩⟩
 ·exact⟨vY,ea,rfl,rfl,T.ae.m,T.ao.m,false,T.cm,jAJ ⟨T.ae.m,T.ae.m,true,T.cq,jAU ⟨_,rfl,ea,_,_,_,rfl,g,T.ae.i.c,T.ae.n _ (.head _),rfl,_,rfl,q'⟩⟩⟩
 ·exact⟨vU,ea,rfl,rfl,T.ak.m,T.ao.m,false,T.cr,jAJ ⟨T.ak.m,T.ae.m,false,T.cu,jAJ ⟨T.ak.m,T.ak.m,true,T.cw,jAU ⟨_,rfl,ea,_,_,_,rfl,g,T.ak.i.c,T.ak.n _ (.head _),rfl,_,rfl,q'⟩⟩⟩⟩
 ·exact⟨cG,ea,rfl,rfl,T.ai.m,T.ao.m,false,T.cx,jAJ ⟨T.ai.m,T.ae.m,false,T.cy,jAJ ⟨T.ai.m,T.ak.m,false,T.cz,jAJ ⟨T.ai.m,T.ai.m,true,T.cC,jAU ⟨_,rfl,ea,_,_,_,rfl,g,T.ai.i.c,T.ai.n _ (.head _),rfl,_,rfl,q'⟩⟩⟩⟩⟩
 ·exact⟨vW,ea,rfl,rfl,T.aj.m,T.ao.m,false,T.cE,jAJ ⟨T.aj.m,T.ae.m,false,T.cF,jAJ ⟨T.aj.m,T.ak.m,false,T.cH,jAJ ⟨T.aj.m,T.ai.m,false,T.cI,jAJ ⟨T.aj.m,T.aj.m,true,T.cL,jAU ⟨_,rfl,ea,_,_,_,rfl,g,T.aj.i.c,T.aj.n _ (.head _),rfl,_,rfl,q'⟩⟩⟩⟩⟩⟩
 ·exact⟨vJ,ea,rfl,rfl,T.al.m,T.ao.m,false,T.da,jAJ ⟨T.al.m,T.ae.m,false,T.db,jAJ ⟨T.al.m,T.ak.m,false,T.dc,jAJ ⟨T.al.m,T.ai.m,false,T.de,jAJ ⟨T.al.m,T.aj.m,false,T.df,jAJ ⟨T.al.m,T.al.m,true,T.dg,jAU ⟨_,rfl,ea,_,_,_,rfl,g,T.al.i.c,T.al.n _ (.head _),rfl,_,rfl,q'⟩⟩⟩⟩⟩⟩⟩
inductive DV where
 | fl (v:V)|tp (xs:List V)|ls (ts:List V)
def jG_(H:Hp)(v:V):DV->Prop
 | .fl u=>v=u/\jCf u=true
 | .tp xs=>(∀ y∈xs,jCf y=true)/\∃ t,v=.ref t/\H t=some (.tup xs)
 | .ls ts=>(∀ y∈ts,∃ t n k,y=.ref t/\H t=some (.tup [.str n,.int k]))/\∃ l,v=.ref l/\H l=some (.lst ts)
theorem jG_.same{H H':Hp}{v:V}{D:DV}(h:jG_ H v D)(s:jAn H H'):jG_ H' v D:=by
 cases D with
 | fl u=>exact h
 | tp xs=>exact⟨h.1,let ⟨t,e,e1⟩:=h.2;⟨t,e,s _ _ e1⟩⟩
 | ls ts=>exact⟨fun y m=>let ⟨t,n,k,e,e1⟩:=h.1 y m;⟨t,n,k,e,s _ _ e1⟩,let ⟨t,e,e1⟩:=h.2;⟨t,e,s _ _ e1⟩⟩
theorem jG_.deq{K:PySem.W.Frag}{H:Hp}{v v':V}{D:DV}(h:jG_ H v D)(h':jG_ H v' D):Deq K H 2 v v':=by
 have all:∀ {xs:List V} {j:Nat},j<xs.length->xs.getD j .non∈xs:=fun {xs j} hj=>by
  rw [List.getD_eq_getElem?_getD,List.getElem?_eq_getElem hj]
  exact List.getElem_mem hj
 cases D with
 | fl u=>obtain⟨rfl,e⟩:=h;obtain⟨rfl,_⟩:=h';exact .inl ⟨rfl,e⟩
 | tp xs =>
   obtain⟨f,t,rfl,e⟩:=h
   obtain⟨_,t',rfl,e'⟩:=h'
   exact .inr ⟨t,t',xs,xs,rfl,rfl,.inr ⟨SqT.of e,SqT.of e'⟩,rfl,fun j hj=>.inl ⟨rfl,f _ (all hj)⟩⟩
 | ls ts =>
   obtain⟨f,t,rfl,e⟩:=h
   obtain⟨_,t',rfl,e'⟩:=h'
   refine .inr ⟨t,t',ts,ts,rfl,rfl,.inl ⟨SqL.of e,SqL.of e'⟩,rfl,fun j hj=>?_⟩
   obtain⟨t,n,k,ey,ht⟩:=f _ (all hj)
   rw [ey]
   refine .inr ⟨t,t,_,_,rfl,rfl,.inr ⟨SqT.of ht,SqT.of ht⟩,rfl,fun j hj=>?_⟩
   match j,hj with
   | 0,_=>exact⟨rfl,rfl⟩
   | 1,_=>exact⟨rfl,rfl⟩
def jFI(H:Hp)(vs:List V)(ds:List DV):Prop:=vs.length=ds.length/\∀ (i:Nat) v D,vs[i]?=some v->ds[i]?=some D->jG_ H v D
theorem jFI.same{H H':Hp}{vs:List V}{ds:List DV}(h:jFI H vs ds)(s:jAn H H'):jFI H' vs ds:=⟨h.1,fun i v D a b=>(h.2 i v D a b).same s⟩
theorem jNV{H:Hp}:jFI H [] []:=⟨rfl,fun i v D a=>by cases a⟩
theorem jDg{H:Hp}{v:V}{D:DV}{vs:List V}{ds:List DV}(h:jG_ H v D)(t:jFI H vs ds):jFI H (v::vs) (D::ds):=by
 refine⟨congrArg (· + 1) t.1,fun i v' D' a b=>?_⟩
 cases i with
 | zero=>cases a;cases b;exact h
 | succ i=>exact t.2 i v' D' a b
theorem jNW{H:Hp}{vs vs':List V}{ds ds':List DV}(h:jFI H vs ds)(t:jFI H vs' ds'):jFI H (vs++vs') (ds++ds'):=by
 refine⟨by rw [List.length_append,List.length_append,h.1,t.1],fun i v D a b=>?_⟩
 by_cases c:i<vs.length
 ·rw [List.getElem?_append_left c] at a
  rw [List.getElem?_append_left (by rw [<- h.1];exact c)] at b
  exact h.2 i v D a b
 ·rw [List.getElem?_append_right (by omega)] at a
  rw [List.getElem?_append_right (by rw [<- h.1];omega),<- h.1] at b
  exact t.2 _ v D a b
def jE9(H:Hp)(p:Addr)(ds:List DV):Prop:=∃ vs,H p=some (.lst vs)/\jFI H vs ds
theorem jE9.same{H H':Hp}{p:Addr}{ds:List DV}(h:jE9 H p ds)(s:jAn H H'):jE9 H' p ds:=let ⟨vs,e,a⟩:=h;⟨vs,s _ _ e,a.same s⟩
theorem jE9.deq{K:PySem.W.Frag}{H:Hp}{p p':Addr}{ds:List DV}(h:jE9 H p ds)(h':jE9 H p' ds):∃ xs ys,SqL K H p xs/\SqL K H p' ys/\xs.length=ys.length/\∀ j,j<xs.length->Deq K H 2 (xs.getD j .non) (ys.getD j .non):=by
 obtain⟨xs,e,l,a⟩:=h
 obtain⟨ys,e',l',a'⟩:=h'
 refine⟨xs,ys,SqL.of e,SqL.of e',l.trans l'.symm,fun j hj=>?_⟩
 rw [List.getD_eq_getElem?_getD,List.getD_eq_getElem?_getD,List.getElem?_eq_getElem hj,List.getElem?_eq_getElem (show j<ys.length by omega)]
 have e3:=List.getElem?_eq_getElem (show j<ds.length by omega)
 exact (a j _ _ (List.getElem?_eq_getElem hj) e3).deq (a' j _ _ (List.getElem?_eq_getElem (by omega)) e3)
def amN(d:PD)(n:Str):Int:=(d.am.lookup n).getD 0
def pds(d:PD):List DV:=[.fl (.str (wd d.S)),.ls d.tags,.tp [.int d.b,.int d.c]]++d.rs.map fun q=>.fl (.int (amN d q.1))
def atV(o:Bool)(d:PD):V:=if o=true then .str d.name else .non
def upD(r:RD)(o:Bool)(f:Nat):DV:=if o=true/\f≠r.tot+1 then .tp [.str r.nm,.int (itm 0 f)] else .fl .non
def rds(r:RD)(d:PD)(o:Bool)(a f:Nat):List DV:=[.fl (.int ((0+(a-1):Nat):Int)),.fl (atV o d),.fl (.bl (decide (0+(a-1)=r.tot))),.fl .non,upD r o f]
def allD(r:RD)(d e:PD)(o:Bool)(a f:Nat):Nat->List DV
 | 0=>rds r d o a f
 | 1=>rds r d o a f++pds d
 | _=>rds r d o a f++pds d++pds e
section
variable {cR cJ cP cS cY cM cW:Addr}{H H':Hp}{Q:VK}{E:XK}{x p q:Addr}{r:RD}{d e:PD}{Pn:Nat}{o:Bool}{a f:Nat}
theorem W35.at(W:W35 cR cJ cP cS cY cM cW H x p q r d e Pn o a f)(h:Q (atV o d) H):jG4 cR cJ cP cS cY cM cW [.ref x] H Q E:=by
 refine⟨x,_,rfl,W.R,fun hp=>?_,fun p' hp=>?_⟩
 ·cases o with
  | false=>exact h
  | true=>cases hp
 ·cases o with
  | false=>cases hp
  | true=>obtain rfl:p=p':=Option.some.inj hp;exact⟨d,W.P,h⟩
theorem W35.upc(W:W35 cR cJ cP cS cY cM cW H x p q r d e Pn o a f)(h:∀ v H',jAn H H'->jG_ H' v (upD r o f)->Q v H'):jCc cR cJ cP cS cY cM cW [.ref x] H Q E:=by
 refine⟨x,_,rfl,W.R,fun hp=>?_,fun p' hp=>?_⟩
 ·refine h _ _ (jAn.refl _) ?_
  cases o with
  | false=>exact⟨rfl,rfl⟩
  | true=>cases hp
 ·cases o with
  | false=>cases hp
  | true =>
    obtain rfl:p=p':=Option.some.inj hp
    exists d,_,W.P,W.tg
    rw [show jAY (R5 r (if true=true then some p else none) 0 a) (win 0 a f)=itm 0 f from jFH W.af]
    refine⟨fun lt t H' s _ e=>h _ _ s ?_,fun nlt H' s=>h _ _ s ?_⟩
    ·unfold upD
     rw [if_pos ⟨rfl,(jHE W.T1 W.fT).mp lt⟩]
     exact⟨(fun y m=>by simp only [List.mem_cons,List.not_mem_nil,or_false] at m;rcases m with rfl|rfl<;>rfl),t,rfl,e⟩
    ·unfold upD
     rw [if_neg (fun z=>nlt ((jHE W.T1 W.fT).mpr z.2))]
     exact⟨rfl,rfl⟩
end
theorem tags_ls{H:Hp}{nm:Str}{ts:List V}{ns:List Int}(h:jAB H nm ts ns):∀ y∈ts,∃ t n k,y=V.ref t/\H t=some (.tup [.str n,.int k]):=fun y m=>by
 obtain⟨i,e⟩:=List.getElem?_of_mem m
 obtain⟨t,n,e1,_,e2⟩:=h.get e
 exact⟨t,_,n,e1,e2⟩
inductive jGm(cR cJ cO cX cU cN cD cT cP cS cY cM cW:Addr)(vs:List V)(H:Hp)(Q:VK)(E_:XK):Prop|mk x p q l r d e Pn o a f:vs=[.ref x,.ref l]->H l=some (.lst [.ref p,.ref q])->W35 cR cJ cP cS cY cM cW H x p q r d e Pn o a f->(∀ p' H',jAn H H'->jE9 H' p' (rds r d o a f++pds d++pds e)->Q (.ref p') H')->jGm cR cJ cO cX cU cN cD cT cP cS cY cM cW vs H Q E_
theorem jCU:jAk ["_law_run","_law_printers_here","_law_told","_law_printer","_law_kind"] ["_law_run","_law_printers_here"] (jAh jGX):=scM
include T in
theorem jMp(F:Fun K "_law_all" "_law_all" jGX fa fd)(Dbz:MtE P w K mg base 1 "out" yK ["self"] (jHB yK yG cZ cQ yJ yW yU))(DbA:MtE P w K mg base 1 "at" yK ["self"] (jG4 yK yG cZ cQ yJ yW yU))(Dad:MtE P w K mg base 3 "whole" yK ["self"] (jB8 yK yG cZ cQ yJ yW yU))(DbB:MtE P w K mg base 2 "lack" yK ["self"] (jG3 yK yG cZ cQ yJ yW yU))(DaF:MtE P w K mg base 3 "upcoming" yK ["self"] (jCc yK yG cZ cQ yJ yW yU))(Daa:MtE P w K mg base 2 "stands" cZ ["self"] (jBG cZ cQ yJ yW yU))(Dah:MtE P w K mg base 1 "within" cZ ["self"] (jCD cZ cQ yJ yW yU))(DbC:MtE P w K mg base 5 "ink_left" cZ ["self"] (jEc cZ cQ yJ yW yU))(DaJ:MtE P w K mg base 1 "papers" cZ ["self"] (jDr cZ cQ yJ yW yU))(DaA:MtE P w K mg base 5 "paper_left" cZ ["self","kind"] (jCl vG cZ cQ yJ yW yU)) :
 jAr P w K mg base CX0 6 fa fd ["_law_run","_law_printers_here"] (jGm yK yG vW vJ vG vY cG vU cZ cQ yJ yW yU):=by
 refine F.ok jCU (fun vs H Q E h=>?_) (fun cdv A outer s H vs Q E hr h=>?_)
 ·obtain⟨x,p,q,l,r,d,e,Pn,o,a,f,rfl,_⟩:=h
  rfl
 obtain⟨x,p,q,l,r,d,e,Pn,o,a,f,rfl,hl,W,z⟩:=h
 exists _,(jAd (psA (i:=2) jCU.nd (jAV (jAa (jAs 1 jAL hr.m (pv 0)) (jAa (jAs 1 jAL hr.m (pv 0)) (jAa (jAs 3 jAL hr.m (pv 0)) (jAa (jAs 2 jAL hr.m (pv 0)) (jAa (jAs 3 jAL hr.m (pv 0)) jAc))))))) (jAd (jBS PassesOwn.never rfl (jBt (pv 1)) (pgA (i:=3) jCU.nd) (jAd (psA (i:=2) jCU.nd (jAp jHn (pv 2) (jAV (jAa (jAs 2 jAL hr.m (pv 3)) (jAa (jAs 1 jAL hr.m (pv 3)) (jAa (jAs 5 jAL hr.m (pv 3)) jAc)))))) (jAf (jBS PassesOwn.never rfl (jOp (jAs 1 jAL hr.m (pv 3))) (pgA (i:=4) jCU.nd) (jAf (jAy (jE0 PySem.F.plainAttrs_list PySem.F.slot_list_append PySem.F.type_list_append jFL (pv 2) (jAa (jAF 5 jAL hr.m (pv 3) (jAa (pv 4) jAc)) jAc)))))))) (jAf (jAo (pv 2)))))
 refine jBp (fun σ G=>∃ c,σ=[some (.ref x),some (.ref l),some (.ref c),none,none]/\jAn H G/\jE9 G c (allD r d e o a f 0)) (fun R hR=>?_) (fun σ H2 y=>?_)
 ·exists _,rfl,x,_,_,_,_,_,rfl,W.R.o,rfl,T.aa,Dbz,x,_,rfl,W.R
  exists _,rfl,x,_,_,_,_,_,rfl,W.R.o,rfl,T.aa,DbA
  dsimp only [jCx]
  refine W.at ?_
  exists _,rfl,x,_,_,_,_,_,rfl,W.R.o,rfl,T.aa,Dad,x,_,rfl,W.R
  refine⟨_,rfl,x,_,_,_,_,_,rfl,W.R.o,rfl,T.aa,DbB,x,_,rfl,W.R,fun _=>?_,fun hb=>(by rw [show (R5 r (if o=true then some p else none) 0 a).br=r.br from rfl,W.hb] at hb;cases hb)⟩
  exists _,rfl,x,_,_,_,_,_,rfl,W.R.o,rfl,T.aa,DaF
  dsimp only [jCx]
  refine W.upc fun v H1 s1 hv=>?_
  refine⟨wq5,fun p0 n0=>?_⟩
  have s2:=jAj n0 (.lst [.int ((0+(a-1):Nat):Int),atV o d,.bl (decide (0+(a-1)=r.tot)),.non,v])
  exact hR _ _ ⟨p0,rfl,s1.trans s2,_,jAb,jDg ⟨rfl,rfl⟩ (jDg ⟨rfl,by unfold atV;split<;>rfl⟩ (jDg ⟨rfl,rfl⟩ (jDg ⟨rfl,rfl⟩ (jDg (hv.same s2) jNV))))⟩
 obtain⟨p0,rfl,s12,A0⟩:=y
 refine⟨_,rfl,l,rfl,⟨_,SqL.of (s12 _ _ hl)⟩,jBK (K:=K) (a:=l) (xs:=[.ref p,.ref q]) (fun i σ G=>∃ v3 v4 c,σ=[some (.ref x),some (.ref l),some (.ref c),v3,v4]/\jAn H G/\jE9 G c (allD r d e o a f i)) ⟨_,_,p0,rfl,s12,A0⟩ (fun i σ G _ y=>?_) (fun i y σ G hy y'=>?_) (fun σ G y=>?_)⟩
 ·obtain⟨_,_,_,_,sG,_⟩:=y
  exact SqL.of (sG _ _ hl)
 ·obtain⟨v3,v4,c,rfl,sG,us,hc,A⟩:=y'
  have WG:=W.same sG
  obtain⟨Y,D,rfl,hY,hR,hT,h2,eD,l9⟩:∃ Y D,y=.ref Y/\jAC cZ cQ yJ yW yU G Y D/\G D.rm=some (.dK (dI D.rs))/\(∀ y∈D.tags,∃ t n k,y=V.ref t/\G t=some (.tup [.str n,.int k]))/\D.rs.length<=2/\allD r d e o a f (i+1)=allD r d e o a f i++pds D/\(allD r d e o a f i).length<=10:=by
   have:=W.k2
   rcases i with _|_|i
   ·cases hy
    exact⟨p,d,rfl,WG.P,WG.r1,tags_ls WG.tg,this.1,rfl,(by show 5<=10;decide)⟩
   ·cases hy
    exact⟨_,e,rfl,WG.E,WG.r2,(by rw [W.te];intro y m;cases m),this.2,rfl,by
     show ((rds r d o a f)++pds d).length<=10
     rw [List.length_append]
     unfold pds
     rw [List.length_append,List.length_map]
     show 5+(3+d.rs.length)<=10
     omega⟩
   ·cases hy
  rw [eD]
  have lu:us.length<=10:=by rw [A.1];exact l9
  exists _,rfl,_,rfl,Y,_,_,_,_,_,rfl,hY.o,rfl,T.ac,Daa,Y,_,rfl,hY
  refine⟨_,rfl,Y,_,_,_,_,_,rfl,hY.o,rfl,T.ac,Dah,Y,_,rfl,hY,fun w1 Ga sa nw hw=>?_⟩
  have hYa:=hY.same sa
  refine⟨_,rfl,Y,_,_,_,_,_,rfl,hYa.o,rfl,T.ac,DbC,Y,_,rfl,hYa,fun t1 Gb sb ht=>?_⟩
  refine⟨wq3,fun p1 n1=>?_⟩
  have t1':=jAj n1 (.lst [.str (wd D.S),.ref w1,.ref t1])
  have hp1:upd Gb p1 (.lst [.str (wd D.S),.ref w1,.ref t1]) p1=some (.lst [.str (wd D.S),.ref w1,.ref t1]):=jAb
  generalize upd Gb p1 (.lst [.str (wd D.S),.ref w1,.ref t1])=Gc at t1' hp1 ⊢
  have sGc:=(sa.trans sb).trans t1'
  have A2:jFI Gc (us++[.str (wd D.S),.ref w1,.ref t1]) (allD r d e o a f i++[.fl (.str (wd D.S)),.ls D.tags,.tp [.int D.b,.int D.c]]):=jNW (A.same sGc) (jDg ⟨rfl,rfl⟩ (jDg ⟨fun y m=>let ⟨t,n,k,e1,e2⟩:=hT y m;⟨t,n,k,e1,sGc _ _ e2⟩,w1,rfl,t1' _ _ (sb _ _ hw)⟩ (jDg ⟨(fun y m=>by simp only [List.mem_cons,List.not_mem_nil,or_false] at m;rcases m with rfl|rfl<;>rfl),t1,rfl,t1' _ _ ht⟩ jNV)))
  have lw:(us++[V.str (wd D.S),.ref w1,.ref t1]).length<=13:=by rw [List.length_append];show us.length+3<=13;omega
  refine⟨c,p1,_,_,rfl,rfl,sGc _ _ hc,hp1,small (by show us.length+3<=1000;omega),fun c' m'=>?_⟩
  generalize us++[V.str (wd D.S),.ref w1,.ref t1]=vs at A2 lw ⊢
  have u':=jAj m' (.lst vs)
  have hc':upd Gc c' (.lst vs) c'=some (.lst vs):=jAb
  generalize upd Gc c' (.lst vs)=Gd at u' hc' ⊢
  have sGd:=sGc.trans u'
  have hYd:=hY.same sGd
  refine⟨_,rfl,Y,_,_,_,_,_,rfl,hYd.o,rfl,T.ac,DaJ,Y,_,rfl,hYd,sGd _ _ hR,fun dd Ge se nd hd=>⟨dd,_,rfl,hd,fun ob=>?_⟩⟩
  have cd:c'≠dd:=jAg hc' nd
  have sF:jAn Gd (upd Ge dd (.frz ob (.dK (dI D.rs)))):=fun b o1 e1=>by rw [jAi (jAg e1 nd)];exact se _ _ e1
  refine jOq (d:=dd) (o:=ob) (kvs:=dI D.rs) (fun j σ G'=>∃ v4,σ=[some (.ref x),some (.ref l),some (.ref c'),some (.ref Y),v4]/\jAn Gc G'/\G' c'=some (.lst (vs++(D.rs.take j).map fun q=>.int (amN D q.1)))/\G' dd=some (.frz ob (.dK (dI D.rs)))) ⟨_,rfl,u'.trans sF,by rw [List.take_zero,List.map_nil,List.append_nil];exact sF _ _ hc',jAb⟩ (fun j σ G' _ y=>?_) (fun j k1 v1 σ G' hk y=>?_) (fun σ G' y=>?_)
  ·obtain⟨_,_,_,_,y⟩:=y
   exact y
  ·obtain⟨v4,rfl,sG',hG',hD⟩:=y
   unfold dI at hk
   rw [List.getElem?_map] at hk
   obtain⟨⟨n,rv⟩,en,ek⟩:=Option.map_eq_some_iff.mp hk
   cases ek
   have hY':=(hY.same sGc).same sG'
   have nin:n∈D.rs.map (·.1):=List.mem_map.mpr ⟨_,List.mem_of_getElem? en,rfl⟩
   have lj:=(List.getElem?_eq_some_iff.mp en).1
   refine⟨_,rfl,.inl ⟨rfl,_,SqL.of hG'⟩,_,rfl,Y,_,_,_,_,_,rfl,hY'.o,rfl,T.ac,DaA,_,rfl,Y,D,n,rfl,hY',fun v ev=>?_,fun z=>absurd nin z⟩
   exists c',_,_,rfl,rfl,hG',?_
   ·rw [List.length_append,List.length_map,List.length_take]
    exact jAW (by omega)
   refine⟨_,rfl,fun b o1 e1=>by rw [jAi (jAg e1 m')];exact sG' _ _ e1,?_,by rw [jAi cd.symm];exact hD⟩
   rw [jAb,List.append_assoc,List.take_add_one,en,List.map_append]
   have:amN D n=v:=by unfold amN;rw [ev];rfl
   rw [<- this]
   rfl
  ·obtain⟨v4,rfl,sG',hG',hD⟩:=y
   rw [show (dI D.rs).length=D.rs.length from List.length_map ..] at hG'
   rw [List.take_length] at hG'
   exists _,_,c',rfl,sG.trans (sGc.trans sG'),_,hG'
   unfold pds
   rw [<- List.append_assoc]
   refine jNW (A2.same sG') ⟨by rw [List.length_map,List.length_map],fun i v D' a b=>?_⟩
   rw [List.getElem?_map] at a b
   obtain⟨q1,e1,rfl⟩:=Option.map_eq_some_iff.mp a
   rw [e1] at b
   cases b
   exact⟨rfl,rfl⟩
 ·obtain⟨v3,v4,c,rfl,sG,A⟩:=y
  exact⟨_,rfl,z c G sG A⟩
inductive jBs(cR cJ cO cX cU cN cD cT cP cS cY cM cW:Addr)(vs:List V)(H:Hp)(Q:VK)(E_:XK):Prop|mk x p q l t r d e Pn o a f D k w:vs=[.ref x,.ref l,.ref t,.int ((k:Nat):Int),.str w]->H l=some (.lst [.ref p,.ref q])->H t=some (.tup (ddV D))->W35 cR cJ cP cS cY cM cW H x p q r d e Pn o a f->Rfd r d o a f D k w->(∀ H',jAn H H'->Q (.bl true) H')->jBs cR cJ cO cX cU cN cD cT cP cS cY cM cW vs H Q E_
theorem jFU:jAk ["_law_run","_law_printers_here","_law_deed","_law_place_here","_law_word_here","_law_before"] ["_law_run","_law_printers_here","_law_deed","_law_place_here","_law_word_here"] (jAh jD8):=scM
include T in
theorem jJl(F:Fun K "_law_refused" "_law_refused" jD8 fa fd)(DaO:Dfn P w K mg base 6 "_law_all" ["_law_run","_law_printers_here"] (jGm yK yG vW vJ vG vY cG vU cZ cQ yJ yW yU))(DaK:Dfn P w K mg base 10 "_law_place" ["_law_run","_law_printer","_law_deed"] (jCW yK yG vW vJ vG vY cG vU cZ cQ yJ yW yU))(DbD:Dfn P w K mg base 10 "_law_word_of" ["_law_run","_law_printer","_law_deed"] (jDD yK yG vW vJ vG vY cG vU cZ cQ yJ yW yU)) :
 jAr P w K mg base CX0 11 fa fd ["_law_run","_law_printers_here","_law_deed","_law_place_here","_law_word_here"] (jBs yK yG vW vJ vG vY cG vU cZ cQ yJ yW yU):=by
 refine F.ok jFU (fun vs H Q E h=>?_) (fun cdv A outer s H vs Q E hr h=>?_)
 ·obtain⟨x,p,q,l,t,r,d,e,Pn,o,a,f,D,k,w,rfl,_⟩:=h
  rfl
 obtain⟨x,p,q,l,t,r,d,e,Pn,o,a,f,D,k,w,rfl,hl,ht,W,R,z⟩:=h
 have hu2:=jCZ hr 2 (by decide)
 exists _,(jAd (psA (i:=5) jFU.nd (jAv DaO hr.m rfl (jAa (pv 0) (jAa (pv 1) jAc)))) (jAd (jAE (PW.pt (pw_or (tcA jHG (jAv DaK hr.m rfl (jAa (pv 0) (jAa (ixA jAD (pv 1) jAe) (jAa (pv 2) jAc)))) (pv 3)) (jK1 (tcA (jOm (n:=2) hu2) (jAv DaO hr.m rfl (jAa (pv 0) (jAa (pv 1) jAc))) (pv 5))))) (jAf (jAo jBc)) jAw) (jAf (jAo (jIt (ecA jA9 (jAv DbD hr.m rfl (jAa (pv 0) (jAa (ixA jAD (pv 1) jAe) (jAa (pv 2) jAc)))) (pv 4)) (jIs (ecA (jOl (n:=2) hu2) (jAv DaO hr.m rfl (jAa (pv 0) (jAa (pv 1) jAc))) (pv 5))))))))
 refine⟨_,rfl,_,rfl,x,p,q,l,r,d,e,Pn,o,a,f,rfl,hl,W,fun p1 H1 s1 al1=>?_⟩
 refine⟨_,rfl,_,rfl,l,_,_,_,rfl,rfl,SqL.of (s1 _ _ hl),jAl (j:=0) rfl,_,rfl,x,p,q,t,r,d,e,Pn,o,a,f,D,rfl,s1 _ _ ht,W.same s1,.inl ⟨k,w,R,fun H2 s2=>?_⟩⟩
 have s12:=s1.trans s2
 refine⟨_,rfl,rfl,false,(by rw [decide_eq_true rfl];rfl),jAJ ?_⟩
 refine⟨_,rfl,_,rfl,x,p,q,l,r,d,e,Pn,o,a,f,rfl,s12 _ _ hl,W.same s12,fun p3 H3 s3 al3=>?_⟩
 obtain⟨xs,ys,d1,d2,d3,d4⟩:=al3.deq (K:=K) (al1.same (s2.trans s3))
 refine⟨_,rfl,p3,p1,xs,ys,rfl,rfl,.inl ⟨d1,d2⟩,d3,d4,false,rfl,jAJ ?_⟩
 have s13:=s12.trans s3
 refine⟨_,rfl,_,rfl,l,_,_,_,rfl,rfl,SqL.of (s13 _ _ hl),jAl (j:=0) rfl,_,rfl,x,p,q,t,r,d,e,Pn,o,a,f,D,rfl,s13 _ _ ht,W.same s13,k,w,R,fun H4 s4=>?_⟩
 refine⟨_,rfl,rfl,true,(by rw [decide_eq_true rfl]),jAU ?_⟩
 have s14:=s13.trans s4
 refine⟨_,rfl,_,rfl,x,p,q,l,r,d,e,Pn,o,a,f,rfl,s14 _ _ hl,W.same s14,fun p5 H5 s5 al5=>?_⟩
 obtain⟨xs,ys,d1,d2,d3,d4⟩:=al5.deq (K:=K) (al1.same ((s2.trans s3).trans (s4.trans s5)))
 exact⟨_,rfl,p5,p1,xs,ys,rfl,rfl,.inl ⟨d1,d2⟩,d3,d4,z H5 (s14.trans s5)⟩
section
variable {cR cJ cP cS cY cM cW:Addr}{H H':Hp}{x p q:Addr}{r:RD}{d d' e:PD}{Pn:Nat}{o:Bool}{a f f':Nat}
theorem W35.turn(W:W35 cR cJ cP cS cY cM cW H x p q r d e Pn o a f)(kx:∀ b o,b≠p->H b=some o->H' b=some o)(P':jAC cP cS cY cM cW H' p d')(g:Gq d d' H)(e1:d'.tr=d.tr)(e2:d'.ik=d.ik)(et:(d'.tags=d.tags/\f'=f/\(a<f->d'.S=.rd))\/d'.tags=[]/\f'=a):W35 cR cJ cP cS cY cM cW H' x p q r d' e Pn o a f':=by
 have R':=W.R.turn W.P W.x1.n1 kx
 have kp:Kp x p d H H':=fun b o _ n2 _ _ _ e=>kx b o n2 e
 have af:=W.af
 have fT:=W.fT
 have wP:=W.wP
 obtain⟨us,hil,_⟩:=W.R.i
 have tg:jAB H' r.nm d'.tags (win 0 a f'):=by
  rcases et with⟨h1,rfl,_⟩|⟨h1,rfl⟩
  ·rw [h1];exact W.tg.fr (jHD W.R.o W.P kp)
  ·rw [h1,jC_];exact⟨rfl,fun i y n a=>by cases a⟩
 refine W.deed kp R' P' tg ⟨W.x1.n1,by rw [e1];exact W.x1.n2,by rw [e2];exact W.x1.n3,?_,?_⟩ g ?_ ?_ W.oa ?_ ?_ ?_
 ·obtain⟨dx,hs⟩:=P'.s
  refine jAu hs R'.o fun z=>?_
  injection z with _ _ z
  have:=congrArg List.length z
  revert this
  cases d'.S<;>intro z<;>cases z
 ·rcases g.g.i with h|h
  ·rw [h];exact W.x1.n5
  ·exact jAg hil h
 ·rcases et with⟨_,rfl,_⟩|⟨_,rfl⟩<;>omega
 ·rcases et with⟨_,rfl,_⟩|⟨_,rfl⟩<;>omega
 ·intro z
  rcases et with⟨_,rfl,_⟩|⟨_,rfl⟩
  ·exact W.on z
  ·rfl
 ·rcases et with⟨_,rfl,_⟩|⟨_,rfl⟩<;>omega
 ·rcases et with⟨_,rfl,h⟩|⟨_,rfl⟩
  ·exact h
  ·intro z;omega
theorem W35.gift(W:W35 cR cJ cP cS cY cM cW H x p q r d e Pn o a f)(kx:∀ b o,b≠d.tr2->b≠d.ik2->H b=some o->H' b=some o)(P':jAC cP cS cY cM cW H' p d')(g:Gq d d' H)(e1:d'.tr=d.tr)(e2:d'.ik=d.ik)(e3:d'.st=d.st)(e4:d'.ins=d.ins)(e5:d'.tags=d.tags)(e6:d'.S=d.S):W35 cR cJ cP cS cY cM cW H' x p q r d' e Pn o a f:=by
 have kp:Kp x p d H H':=fun b o _ _ _ n4 n5 e=>kx b o n4 n5 e
 refine W.deed kp (W.R.prn W.P W.x1.n5 fun b o _ n4 n5 e=>kx b o n4 n5 e) P' (by rw [e5];exact W.tg.fr (jHD W.R.o W.P kp)) ⟨W.x1.n1,by rw [e1];exact W.x1.n2,by rw [e2];exact W.x1.n3,by rw [e3];exact W.x1.n4,by rw [e4];exact W.x1.n5⟩ g W.af W.fT W.oa W.on W.wP (by rw [e6];exact W.rdf)
end
inductive jDE(cR cJ cO cX cU cN cD cT cP cS cY cM cW:Addr)(vs:List V)(H:Hp)(Q:VK)(E_:XK):Prop|mk x p q l r d e Pn a:vs=[.ref x,.ref l,.str (wd d.S)]->H l=some (.lst [.ref p,.ref q])->W35 cR cJ cP cS cY cM cW H x p q r d e Pn true a a->(d.S=.jm\/d.S=.aw false)->(∀ d' H',Kp x p d H H'->W35 cR cJ cP cS cY cM cW H' x p q r d' e Pn true a a->Gq d d' H->d'.am=d.am/\d'.b=d.b/\d'.c=d.c->d'.S=.rd->Q (.bl true) H')->jDE cR cJ cO cX cU cN cD cT cP cS cY cM cW vs H Q E_
theorem jFV:jAk ["_law_run","_law_printers_here","_law_word_here","_law_deed"] ["_law_run","_law_printers_here","_law_word_here"] (jAh jD9):=scM
include T in
theorem jJm(F:Fun K "_law_stopped" "_law_stopped" jD9 fa fd)(Dac:Dfn P w K mg base 11 "_law_refused" ["_law_run","_law_printers_here","_law_deed","_law_place_here","_law_word_here"] (jBs yK yG vW vJ vG vY cG vU cZ cQ yJ yW yU))(DaL:MtE P w K mg base 5 "mend" cZ ["self"] (jCm 1 vY cZ cQ yJ yW yU))(DaM:MtE P w K mg base 5 "come" cZ ["self"] (jCm 3 vY cZ cQ yJ yW yU)) :
 jAr P w K mg base CX0 12 fa fd ["_law_run","_law_printers_here","_law_word_here"] (jDE yK yG vW vJ vG vY cG vU cZ cQ yJ yW yU):=by
 refine F.ok jFV (fun vs H Q E h=>?_) (fun cdv A outer s H vs Q E hr h=>?_)
 ·obtain⟨x,p,q,l,r,d,e,Pn,a,rfl,_⟩:=h
  rfl
 obtain⟨x,p,q,l,r,d,e,Pn,a,rfl,hl,W,hS,z⟩:=h
 have hu:=jCZ hr 0 (by decide)
 exists _,(jAd (jBS PassesOwn.never rfl (jBt (jAV (jAa (jAN (jAa jAm jAc)) (jAa (jAN (jAa jAm jAc)) (jAa (jAN (jAa jAm (jAa jAe jAc))) (jAa (jAN (jAa jAm (jAa (jAp jNe jAe jAe) jAc))) jAc)))))) (pgA (i:=3) jFV.nd) (jAf (jAE (jB9 (jAX (jAv Dac hr.m rfl (jAa (pv 0) (jAa (pv 1) (jAa (pv 3) (jAa jAe (jAa (pv 2) jAc)))))) (fun _=>rfl))) (jAf (jAo jBc)) jAw))) (jAd (jAE (tcA jA9 (pv 2) jAm) (jAf (jAo (ecA jA9 (jAs 5 jAL hr.m (ixA jAD (pv 1) jAe)) jAm))) jAw) (jAf (jAo (ecA jA9 (jAs 5 jAL hr.m (ixA jAD (pv 1) jAe)) jAm)))))
 refine⟨wq1,fun t0 n0=>?_⟩
 have s0:=jAj n0 (.tup [.str "take"])
 have h0:upd H t0 (.tup [.str "take"]) t0=some (.tup (ddV (.take))):=jAb
 generalize upd H t0 (.tup [.str "take"])=H0 at s0 h0 ⊢
 refine⟨wq1,fun t1 n1=>?_⟩
 have s1:=jAj n1 (.tup [.str "step"])
 have h1:upd H0 t1 (.tup [.str "step"]) t1=some (.tup (ddV (.step))):=jAb
 generalize upd H0 t1 (.tup [.str "step"])=H1 at s1 h1 ⊢
 refine⟨wq2,fun t2 n2=>?_⟩
 have s2:=jAj n2 (.tup [.str "jam",.int 0])
 have h2:upd H1 t2 (.tup [.str "jam",.int 0]) t2=some (.tup (ddV (.jam 0))):=jAb
 generalize upd H1 t2 (.tup [.str "jam",.int 0])=H2 at s2 h2 ⊢
 refine⟨_,_,rfl,rfl,⟨by decide,by decide,by decide⟩,wq2,fun t3 n3=>?_⟩
 have s3:=jAj n3 (.tup [.str "jam",(fun (i j:Int)=>V.int (i^j.toNat)) 10 59])
 have h3:upd H2 t3 (.tup [.str "jam",(fun (i j:Int)=>V.int (i^j.toNat)) 10 59]) t3=some (.tup (ddV (.jam (10^59)))):=jAb
 generalize upd H2 t3 (.tup [.str "jam",(fun (i j:Int)=>V.int (i^j.toNat)) 10 59])=H3 at s3 h3 ⊢
 refine⟨wq4,fun tl nl=>?_⟩
 have s4:=jAj nl (.lst [.ref t0,.ref t1,.ref t2,.ref t3])
 have hl4:upd H3 tl (.lst [.ref t0,.ref t1,.ref t2,.ref t3]) tl=some (.lst [.ref t0,.ref t1,.ref t2,.ref t3]):=jAb
 generalize upd H3 tl (.lst [.ref t0,.ref t1,.ref t2,.ref t3])=H4 at s4 hl4 ⊢
 have s34:=s3.trans s4
 have s24:=s2.trans s34
 have s14:=s1.trans s24
 have sH:=s0.trans s14
 have nS:d.S≠.rd:=by rcases hS with h|h<;>rw [h]<;>intro z<;>cases z
 have na:=W.oa rfl
 refine⟨tl,rfl,⟨_,SqL.of hl4⟩,jBK (K:=K) (a:=tl) (xs:=[.ref t0,.ref t1,.ref t2,.ref t3]) (fun i σ G=>jAn H4 G/\∃ v3,σ=[some (.ref x),some (.ref l),some (.str (wd d.S)),v3]) ⟨jAn.refl _,_,rfl⟩ (fun i σ G _ y=>SqL.of (y.1 _ _ hl4)) (fun i y σ G hy y'=>?_) (fun σ G y=>?_)⟩
 ·obtain⟨sG,v3,rfl⟩:=y'
  obtain⟨t,D,rfl,ht,R⟩:∃ t D,y=.ref t/\H4 t=some (.tup (ddV D))/\Rfd r d true a a D 3 (wd d.S):=by
   rcases i with _|_|_|_|i<;>cases hy
   ·exact⟨t0,_,rfl,s14 _ _ h0,.inr ⟨na,nS,rfl,rfl⟩⟩
   ·exact⟨t1,_,rfl,s24 _ _ h1,.inr ⟨na,.inr ⟨rfl,.inl ⟨nS,rfl,rfl⟩⟩⟩⟩
   ·exact⟨t2,_,rfl,s34 _ _ h2,.inr ⟨na,.inr ⟨rfl,.inl ⟨nS,rfl,rfl⟩⟩⟩⟩
   ·exact⟨t3,_,rfl,s4 _ _ h3,.inr ⟨na,.inr ⟨rfl,.inl ⟨nS,rfl,rfl⟩⟩⟩⟩
  exact⟨_,rfl,_,rfl,_,rfl,_,rfl,x,p,q,l,t,r,d,e,Pn,true,a,a,D,3,wd d.S,rfl,sG _ _ (sH _ _ hl),sG _ _ ht,W.same (sH.trans sG),R,fun G' s'=>⟨true,rfl,jAJ ⟨sG.trans s',_,rfl⟩⟩⟩
 obtain⟨sG,v3,rfl⟩:=y
 have sHG:=sH.trans sG
 have WG:=W.same sHG
 have fin:∀ st H' s',s'=S3.rd->(∀ b o,b≠p->G b=some o->H' b=some o)->jAC cZ cQ yJ yW yU H' p { d with st:=st,S:=s' }->Q (.bl true) H':=fun st H' s' es kx P'=>by
  have g:Gq d { d with st:=st,S:=s' } G:=⟨⟨.inl rfl,rfl,rfl,rfl,rfl⟩,rfl,rfl,rfl,rfl,rfl,rfl⟩
  exact z _ H' (fun b o _ n2 _ _ _ e=>kx b o n2 (sHG _ _ e)) (WG.turn kx P' g rfl rfl (.inl ⟨rfl,rfl,fun z=>absurd z (Nat.lt_irrefl _)⟩)) (jHW g sHG) ⟨rfl,rfl,rfl⟩ es
 rcases hS with h|h
 ·refine⟨_,rfl,rfl,true,(by rw [h];rfl),jAU ⟨_,rfl,l,_,_,_,rfl,rfl,SqL.of (sHG _ _ hl),jAl (j:=0) rfl,p,_,_,_,_,_,rfl,WG.P.o,rfl,T.ac,DaL,p,_,rfl,WG.P,fun s' es st H' kx P'=>?_,fun z=>(by rw [h] at z;cases z)⟩⟩
  rw [h] at es
  cases es
  exists rfl
  refine (show Q (.bl (decide (V.str (wd S3.rd)=V.str (Str.ofString "ready")))) H' from ?_)
  rw [decide_eq_true (show V.str (wd S3.rd)=V.str (Str.ofString "ready") from rfl)]
  exact fin st H' _ rfl kx P'
 ·refine⟨_,rfl,rfl,false,(by rw [h];decide +kernel),jAJ ⟨_,rfl,l,_,_,_,rfl,rfl,SqL.of (sHG _ _ hl),jAl (j:=0) rfl,p,_,_,_,_,_,rfl,WG.P.o,rfl,T.ac,DaM,p,_,rfl,WG.P,fun s' es st H' kx P'=>?_,fun z=>(by rw [h] at z;cases z)⟩⟩
  rw [h] at es
  cases es
  exists rfl
  refine (show Q (.bl (decide (V.str (wd S3.rd)=V.str (Str.ofString "ready")))) H' from ?_)
  rw [decide_eq_true (show V.str (wd S3.rd)=V.str (Str.ofString "ready") from rfl)]
  exact fin st H' _ rfl kx P'
theorem jDh{n m:Str}{v:Int}(h:m≠n):∀ {am:List (Str×Int)},(jAT am n v).lookup m=am.lookup m
 | []=>rfl
 | (k,u)::r=>by
   show List.lookup m ((if k=n then (k,v) else (k,u))::jAT r n v)=_
   by_cases c:k=n
   ·rw [if_pos c,List.lookup_cons,List.lookup_cons,beq_eq_false_iff_ne.mpr (by rw [c];exact h)]
    exact jDh h
   ·rw [if_neg c,List.lookup_cons,List.lookup_cons]
    cases (m==k) with
    | true=>rfl
    | false=>exact jDh h
theorem jFW{n:Str}{v:Int}:∀ {am:List (Str×Int)},n∈am.map (·.1)->(jAT am n v).lookup n=some v
 | [],h=>by cases h
 | (k,u)::r,h=>by
   show List.lookup n ((if k=n then (k,v) else (k,u))::jAT r n v)=_
   by_cases c:k=n
   ·rw [if_pos c,List.lookup_cons,beq_iff_eq.mpr c.symm]
   ·rw [if_neg c,List.lookup_cons,beq_eq_false_iff_ne.mpr (Ne.symm c)]
    rcases List.mem_cons.mp h with e|e
    ·exact absurd e.symm c
    ·exact jFW e
theorem jKu{n m:Str}{v:Int}{am bm:List (Str×Int)}(h1:n∈am.map (·.1))(h2:n∈bm.map (·.1))(e:am.lookup m=bm.lookup m):(jAT am n v).lookup m=(jAT bm n v).lookup m:=by
 by_cases c:m=n
 ·rw [c,jFW h1,jFW h2]
 ·rw [jDh c,jDh c,e]
theorem jLT{j:Jv}{n:Int}{k0 k1:Str}(h1:j.paper=k0)(h2:∀ c,j.cover=some c->c=k0\/c=k1):(jAR j n).1=k0\/(jAR j n).1=k1:=by
 unfold jAR
 by_cases c:n=-1
 ·rw [if_pos c];exact .inl h1
 ·rw [if_neg c]
  show jDC j _=k0\/jDC j _=k1
  unfold jDC
  split
  ·cases hc:j.cover with
   | none=>exact .inl h1
   | some v=>exact h2 v hc
  ·exact .inl h1
theorem over_bd{f l lo hi:Int}(h:f<=l+1):0<=jEo f l lo hi/\jEo f l lo hi<=l-f+1:=by
 unfold jEo
 have hm:(if hi<l then hi else l)<=l:=by clear h;split<;>omega
 have hM:f<=(if f<lo then lo else f):=by clear h hm;split<;>omega
 generalize (if hi<l then hi else l)=a at hm ⊢
 generalize (if f<lo then lo else f)=b at hM ⊢
 split<;>constructor<;>omega
theorem jNX{j:Jv}(ok:j.Ok)(n:Int):0<=(jAR j n).2.1/\(jAR j n).2.1<=32/\0<=(jAR j n).2.2/\(jAR j n).2.2<=32:=by
 unfold jAR
 split
 ·exact⟨Int.le_refl _,(by show (0:Int)<=32;decide),Int.le_refl _,(by show (0:Int)<=32;decide)⟩
 ·obtain⟨fn,ei⟩:=jMK ok (Nat.mod_lt n.toNat (show 0<(jAK j).length from jIp))
  have p3:j.l.per<=32:=by
   have o:=ok.2.2
   cases hl:j.l with
   | one=>show 1<=32;decide
   | both=>show 2<=32;decide
   | up n=>rw [hl] at o;have:=o.2;show 2*n<=32;omega
  have pp:=Ly.per_pos ok.2.2
  dsimp only
  rw [ei]
  generalize 1+((n.toNat%(jAK j).length:Nat):Int)*(j.l.per:Int)=fst at fn ⊢
  have hl:fst<=jA_ fst j.l.per j.n/\jA_ fst j.l.per j.n-fst+1<=32:=by
   clear ei
   unfold jA_
   split<;>constructor<;>omega
  have hc:0<=jFF j.colour fst (jA_ fst j.l.per j.n)/\jFF j.colour fst (jA_ fst j.l.per j.n)<=jA_ fst j.l.per j.n-fst+1:=by
   unfold jFF
   cases j.colour with
   | none=>exact⟨Int.le_refl _,Int.add_nonneg (Int.sub_nonneg_of_le hl.1) (by decide)⟩
   | some c=>exact over_bd (Int.le_trans hl.1 (Int.le_add_of_nonneg_right (by decide)))
  clear ei fn pp p3
  generalize jFF j.colour fst (jA_ fst j.l.per j.n)=x at hc ⊢
  generalize jA_ fst j.l.per j.n=y at hl hc ⊢
  clear ok
  refine⟨?_,?_,hc.1,?_⟩<;>omega
abbrev kw(w:String):Key:=Sum.inr (Str.ofString w)
structure M5 where
 mp:Addr
 M:List (Str×Int)
 b:Int
 c:Int
 T:Int
 ca:Int
 wi:Int
 P:Int
def M5.kv(m:M5):List (Key×V):=[(kw "papers",.ref m.mp),(kw "black",.int m.b),(kw "colour",.int m.c),(kw "total",.int m.T),(kw "came",.int m.ca),(kw "within",.int m.wi),(kw "path",.int m.P)]
theorem sget{H:Hp}{a:Addr}{kvs:List (Key×V)}{w:String}{v:V}(h:H a=some (.dK kvs))(l:jCO kvs (kw w)=some v):jBU H a (.str (Str.ofString w)) (some v):=by
 have:=jBU.k (k:=kw w) h
 rw [l] at this
 exact this
section
variable {H:Hp}{d:Addr}{m:M5}(h:H d=some (.dK m.kv))
include h
theorem jCE:jBU H d (.str (Str.ofString "papers")) (some (.ref m.mp)):=sget h (by kernel_rfl)
theorem jGy:jBU H d (.str (Str.ofString "black")) (some (.int m.b)):=sget h (by kernel_rfl)
theorem jFJ:jBU H d (.str (Str.ofString "colour")) (some (.int m.c)):=sget h (by kernel_rfl)
theorem jFg:jBU H d (.str (Str.ofString "total")) (some (.int m.T)):=sget h (by kernel_rfl)
theorem jEB:jBU H d (.str (Str.ofString "came")) (some (.int m.ca)):=sget h (by kernel_rfl)
theorem jDa:jBU H d (.str (Str.ofString "within")) (some (.int m.wi)):=sget h (by kernel_rfl)
theorem jNY:jBU H d (.str (Str.ofString "path")) (some (.int m.P)):=sget h (by kernel_rfl)
theorem sput{w:String}{v:V}{m':M5}(e:jB7 m.kv (kw w) v=m'.kv):jCP H d (.str (Str.ofString w)) v (upd H d (.dK m'.kv)):=by
 have:=jCP.k (k:=kw w) (v:=v) h (show m.kv.length<sizeLine from jAW (by show 7<=1000;decide))
 rw [e] at this
 exact this
theorem jML(w:Int):jCP H d (.str (Str.ofString "black")) (.int w) (upd H d (.dK ({ m with b:=w }:M5).kv)):=sput h (by kernel_rfl)
theorem jLU(w:Int):jCP H d (.str (Str.ofString "colour")) (.int w) (upd H d (.dK ({ m with c:=w }:M5).kv)):=sput h (by kernel_rfl)
theorem jLV(w:Int):jCP H d (.str (Str.ofString "came")) (.int w) (upd H d (.dK ({ m with ca:=w }:M5).kv)):=sput h (by kernel_rfl)
theorem jHa(w:Int):jCP H d (.str (Str.ofString "within")) (.int w) (upd H d (.dK ({ m with wi:=w }:M5).kv)):=sput h (by kernel_rfl)
theorem p_path(w:Int):jCP H d (.str (Str.ofString "path")) (.int w) (upd H d (.dK ({ m with P:=w }:M5).kv)):=sput h (by kernel_rfl)
end
theorem jGz{H:Hp}{a:Addr}{M:List (Str×Int)}{n:Str}{A:Int}(h:H a=some (.dK (dI M)))(e:M.lookup n=some A):jBU H a (.str n) (some (.int A)):=by
 have:=jBU.k (k:=Sum.inr n) h
 rw [show jCO (dI M) (Sum.inr n:Key)=some (.int A) by rw [jHw,e];rfl] at this
 exact this
theorem jNZ{H:Hp}{a:Addr}{M:List (Str×Int)}{n:Str}{w:Int}(h:H a=some (.dK (dI M)))(e:n∈M.map (·.1))(l:M.length=2):jCP H a (.str n) (.int w) (upd H a (.dK (dI (jAT M n w)))):=by
 have:=jCP.k (k:=Sum.inr n) (v:=.int w) h (show (dI M).length<sizeLine from jAW (by unfold dI;rw [List.length_map,l];decide))
 rw [jLm e] at this
 exact this
structure Ap(z:Addr)(d:PD):Prop where
 n1:d.tr1≠z
 n2:d.tr2≠z
 n3:d.ik1≠z
 n4:d.ik2≠z
 n5:d.rm≠z
theorem Ap.go{z:Addr}{d d':PD}{H:Hp}(h:Ap z d)(g:Gq d d' H):Ap z d':=⟨by rw [g.g.t1];exact h.n1,by rw [g.g.t];exact h.n2,by rw [g.g.k1];exact h.n3,by rw [g.g.k];exact h.n4,by rw [g.rm];exact h.n5⟩
section
variable {cR cJ cP cS cY cM cW:Addr}{H H':Hp}{x p q z:Addr}{r:RD}{d d' e:PD}{Pn:Nat}{o:Bool}{a f f':Nat}{kv:List (Key×V)}
theorem jAC.offd(P:jAC cP cS cY cM cW H p d)(hz:H z=some (.dK kv))(k:∀ b o,b≠z->H b=some o->H' b=some o)(n:Ap z d):jAC cP cS cY cM cW H' p d:=by
 obtain⟨⟨dt,t1⟩,t2,t3,t4⟩:=P.T
 obtain⟨⟨di,i1⟩,i2,i3,i4⟩:=P.I
 obtain⟨ds,hs⟩:=P.s
 exact { P with o:=k _ _ (jBb P.o hz) P.o,T:=⟨⟨dt,k _ _ (jBb t1 hz) t1⟩,k _ _ n.n1 t2,k _ _ n.n2 t3,t4⟩,I:=⟨⟨di,k _ _ (jBb i1 hz) i1⟩,k _ _ n.n3 i2,k _ _ n.n4 i3,i4⟩,s:=⟨ds,k _ _ (jBb hs hz) hs⟩,n:=k _ _ (jAu P.n hz nofun) P.n }
theorem W35.off(W:W35 cR cJ cP cS cY cM cW H x p q r d e Pn o a f)(hz:H z=some (.dK kv))(k:∀ b o,b≠z->H b=some o->H' b=some o)(n:Ap z d)(n':Ap z e):W35 cR cJ cP cS cY cM cW H' x p q r d e Pn o a f:=by
 obtain⟨us,hil,_⟩:=W.R.i
 have kt:∀ b xs,H b=some (.tup xs)->H' b=some (.tup xs):=fun b xs e=>k _ _ (jAu e hz nofun) e
 exact { W with R:=W.R.fr (fun b C d fs e=>k _ _ (jBb e hz) e) (fun o e=>k _ _ (jAu hil hz nofun) e) kt,P:=W.P.offd hz k n,E:=W.E.offd hz k n',tg:=W.tg.fr kt,r1:=k _ _ n.n5 W.r1,r2:=k _ _ n'.n5 W.r2 }
structure B5(cR cJ cP cS cY cM cW:Addr)(H:Hp)(x p q l dm fc:Addr)(r:RD)(d e:PD)(Pn:Nat)(o:Bool)(a f:Nat)(m:M5)(k0 k1:Str):Prop where
 W:W35 cR cJ cP cS cY cM cW H x p q r d e Pn o a f
 hl:H l=some (.lst [.ref p,.ref q])
 nl:l≠d.ins
 fc:jFG H fc r.j r.cp
 ok:r.j.Ok
 pa:r.j.paper=k0
 co:∀ c,r.j.cover=some c->c=k0\/c=k1
 hm:H dm=some (.dK m.kv)
 hp:H m.mp=some (.dK (dI m.M))
 ks:m.M.map (·.1)=[k0,k1]
 rs:∀ k,k∈d.rs.map (·.1)->d.rs.lookup k=some 999
 rb:d.rb=2000
 rc:d.rc=2000
 m1:Ap dm d
 m2:Ap dm e
 m3:Ap m.mp d
 m4:Ap m.mp e
 nm:dm≠m.mp
end
structure EqM(m:M5)(r:RD)(d:PD)(Pn a f:Nat)(k0 k1:Str):Prop where
 lk:∀ k,k=k0\/k=k1->d.am.lookup k=m.M.lookup k
 b:m.b=d.b
 c:m.c=d.c
 T:m.T=(r.tot:Int)
 ca:m.ca=(a:Int)
 wi:m.wi=((f-a:Nat):Int)
 P:m.P=(Pn:Int)
 b2:d.b<=2000
 c2:d.c<=2000
 has:∀ k,k=k0\/k=k1->k∈d.rs.map (·.1)
def Kd(o:HO):Prop:=(∀ C dx fs,o≠.ins C dx fs)/\∀ kv,o≠.dK kv
theorem jDF{ts:List V}:Kd (.lst ts):=⟨(fun C dx fs z=>by cases z),(fun kv z=>by cases z)⟩
structure Fr5(H H':Hp)(d d':PD):Prop where
 t:∀ b xs,H b=some (.tup xs)->H' b=some (.tup xs)
 l:∀ z o,z≠d.ins->Kd o->H z=some o->H' z=some o/\z≠d'.ins
theorem Fr5.trans{H H1 H':Hp}{d d1 d':PD}(h:Fr5 H H1 d d1)(k:Fr5 H1 H' d1 d'):Fr5 H H' d d':=⟨fun b xs e=>k.t _ _ (h.t _ _ e),fun z ts n kd e=>let ⟨e1,n1⟩:=h.l z ts n kd e;k.l z ts n1 kd e1⟩
theorem jAn.fr5{H H':Hp}(s:jAn H H')(d:PD):Fr5 H H' d d:=⟨fun b xs e=>s _ _ e,fun z ts n _ e=>⟨s _ _ e,n⟩⟩
theorem jBu{H:Hp}{z:Addr}{kv kv':List (Key×V)}(hz:H z=some (.dK kv))(d:PD):Fr5 H (upd H z (.dK kv')) d d:=⟨fun b xs e=>by rw [jAi (jAu e hz nofun)];exact e,fun b ts n kd e=>⟨by rw [jAi (jAu e hz (kd.2 _))];exact e,n⟩⟩
section
variable {cR cJ cP cS cY cM cW:Addr}{H H':Hp}{x p q l dm fc:Addr}{r:RD}{d d' e:PD}{Pn:Nat}{o o':Bool}{a f a' f':Nat}{m m':M5}{k0 k1:Str}
theorem Fr5.seq{H H':Hp}{d d':PD}{K:PySem.W.Frag}{z:Addr}{xs:List V}(F:Fr5 H H' d d')(n:z≠d.ins)(h:SqL K H z xs):SqL K H' z xs:=by
 rcases h with (h|⟨o,h⟩)|h
 ·exact .inl (.inl (F.l _ _ n jDF h).1)
 ·exact .inl (.inr ⟨o,(F.l _ _ n ⟨(fun C dx fs z=>by cases z),(fun kv z=>by cases z)⟩ h).1⟩)
 ·exact .inr h
def Sk(K:PySem.W.Frag)(H:Hp)(z:Addr)(xs:List V)(d:PD):Prop:=SqL K H z xs/\(z≠d.ins\/∀ H',SqL K H' z xs)
theorem Fr5.sk{H H':Hp}{d d':PD}{K:PySem.W.Frag}{z:Addr}{xs:List V}(F:Fr5 H H' d d')(h:Sk K H z xs d):Sk K H' z xs d':=by
 obtain⟨h,n|a⟩:=h
 ·exists F.seq n h
  rcases h with (h|⟨o,h⟩)|h
  ·exact .inl (F.l _ _ n jDF h).2
  ·exact .inl (F.l _ _ n ⟨(fun C dx fs z=>by cases z),(fun kv z=>by cases z)⟩ h).2
  ·exact .inr fun _=>.inr h
 ·exact⟨a _,.inr a⟩
theorem sk_of{H H':Hp}{d:PD}{K:PySem.W.Frag}{z:Addr}{xs:List V}(h:SqL K H z xs)(n:H d.ins=none)(s:jAn H H'):Sk K H' z xs d:=by
 exists s.seq h
 rcases h with (h|⟨o,h⟩)|h
 ·exact .inl (jAg h n)
 ·exact .inl (jAg h n)
 ·exact .inr fun _=>.inr h
theorem B5.same(B:B5 cR cJ cP cS cY cM cW H x p q l dm fc r d e Pn o a f m k0 k1)(s:jAn H H'):B5 cR cJ cP cS cY cM cW H' x p q l dm fc r d e Pn o a f m k0 k1:={ B with W:=B.W.same s,hl:=s _ _ B.hl,fc:=B.fc.same s,hm:=s _ _ B.hm,hp:=s _ _ B.hp }
theorem B5.fr(B:B5 cR cJ cP cS cY cM cW H x p q l dm fc r d e Pn o a f m k0 k1)(k:Kp x p d H H')(g:Gq d d' H):Fr5 H H' d d':=⟨jHD B.W.R.o B.W.P k,fun z ts n kd e=>⟨k _ _ (jAu e B.W.R.o (kd.1 _ _ _)) (jAu e B.W.P.o (kd.1 _ _ _)) n (jAu e B.W.P.T.2.2.1 (kd.2 _)) (jAu e B.W.P.I.2.2.1 (kd.2 _)) e,by
 rcases g.g.i with i|i
 ·rw [i];exact n
 ·exact jAg e i⟩⟩
theorem B5.deed(B:B5 cR cJ cP cS cY cM cW H x p q l dm fc r d e Pn o a f m k0 k1)(k:Kp x p d H H')(g:Gq d d' H)(W':W35 cR cJ cP cS cY cM cW H' x p q r d' e Pn o' a' f'):B5 cR cJ cP cS cY cM cW H' x p q l dm fc r d' e Pn o' a' f' m k0 k1:=by
 have F:=B.fr k g
 have hx:=B.W.R.o
 have kd:∀ {b:Addr} {kv:List (Key×V)},Ap b d->H b=some (.dK kv)->H' b=some (.dK kv):=fun n e=>k _ _ (jBb hx e).symm (jBb B.W.P.o e).symm (jAu e B.W.P.n nofun) n.n2.symm n.n4.symm e
 exact { B with W:=W',hl:=(F.l _ _ B.nl jDF B.hl).1,nl:=(F.l _ _ B.nl jDF B.hl).2,fc:=B.fc.fr F.t,hm:=kd B.m1 B.hm,hp:=kd B.m3 B.hp,rs:=by rw [g.rs];exact B.rs,rb:=g.rb.trans B.rb,rc:=g.rc.trans B.rc,m1:=B.m1.go g,m3:=B.m3.go g }
theorem B5.put(B:B5 cR cJ cP cS cY cM cW H x p q l dm fc r d e Pn o a f m k0 k1)(h1:m'.mp=m.mp)(h2:m'.M=m.M):B5 cR cJ cP cS cY cM cW (upd H dm (.dK m'.kv)) x p q l dm fc r d e Pn o a f m' k0 k1:=by
 have F:=jBu (kv':=m'.kv) B.hm d
 exact { B with W:=B.W.off B.hm (fun b o n e=>by rw [jAi n];exact e) B.m1 B.m2,hl:=(F.l _ _ B.nl jDF B.hl).1,fc:=B.fc.fr F.t,hm:=jAb,hp:=by rw [h1,h2,jAi B.nm.symm];exact B.hp,ks:=by rw [h2];exact B.ks,m3:=by rw [h1];exact B.m3,m4:=by rw [h1];exact B.m4,nm:=by rw [h1];exact B.nm }
theorem B5.pput(B:B5 cR cJ cP cS cY cM cW H x p q l dm fc r d e Pn o a f m k0 k1)(n:Str)(v:Int):B5 cR cJ cP cS cY cM cW (upd H m.mp (.dK (dI (jAT m.M n v)))) x p q l dm fc r d e Pn o a f { m with M:=jAT m.M n v } k0 k1:=by
 have F:=jBu (kv':=dI (jAT m.M n v)) B.hp d
 exact { B with W:=B.W.off B.hp (fun b o n e=>by rw [jAi n];exact e) B.m3 B.m4,hl:=(F.l _ _ B.nl jDF B.hl).1,fc:=B.fc.fr F.t,hm:=by rw [jAi B.nm];exact B.hm,hp:=jAb,ks:=by show (jAT m.M n v).map (·.1)=_;rw [jEv];exact B.ks }
theorem B5.kin(B:B5 cR cJ cP cS cY cM cW H x p q l dm fc r d e Pn o a f m k0 k1){n:Str}(h:n=k0\/n=k1)(hs:n∈d.rs.map (·.1)):n∈m.M.map (·.1)/\m.M.length=2/\n∈d.am.map (·.1):=by
 exists ?_,?_
 ·rw [B.ks];rcases h with rfl|rfl<;>simp
 ·have:=congrArg List.length B.ks
  rw [List.length_map] at this
  exact this
 ·rw [B.W.P.ka]
  exact hs
end
inductive jDG(_K:PySem.W.Frag)(vs:List V)(H:Hp)(Q:VK)(E_:XK):Prop|mk (dm t:Addr) (m:M5) (d:PD) (u:Str×Int×Int) (A:Int):vs=[.ref dm,.ref t]->H dm=some (.dK (M5.kv m))->H m.mp=some (.dK (dI m.M))->H t=some (.tup [.str u.1,.int u.2.1,.int u.2.2])->m.M.lookup u.1=some A->m.b=d.b->m.c=d.c->Q (oV (jCM d A u)) H->jDG _K vs H Q E_
theorem jJn:jAk ["_law_m","_law_use_here"] ["_law_m","_law_use_here"] (jAh jD_):=scM
include T in
theorem jJo(F:Fun K "_law_lacking" "_law_lacking" jD_ fa fd)  :
 jAr P w K mg base CX0 1 fa fd ["_law_m","_law_use_here"] (jDG K):=by
 refine F.ok jJn (fun vs H Q E h=>?_) (fun cdv A outer s H vs Q E hr h=>?_)
 ·obtain⟨dm,t,m,d,u,A,rfl,_⟩:=h
  rfl
 obtain⟨dm,t,m,d,u,A,rfl,hm,hp,ht,eA,eb,ec,z⟩:=h
 have hu:=jCZ hr 0 (by decide)
 exists _,(jAd (jAE (tcA jEZ (dgA hu (dgA hu (pv 0) jAm) (ixA jAI (pv 1) jAe)) jAe) (jAf (jAo (ixA jAI (pv 1) jAe))) jAw) (jAd (jAE (tcA jEZ (dgA hu (pv 0) jAm) (ixA jAI (pv 1) jAe)) (jAf (jAo jAm)) jAw) (jAd (jAE (tcA jEZ (dgA hu (pv 0) jAm) (ixA jAI (pv 1) jAe)) (jAf (jAo jAm)) jAw) (jAf (jAo jBk)))))
 unfold jCM at z
 exists _,rfl,dm,_,rfl,jCE hm,_,rfl,t,_,_,_,rfl,rfl,SqT.of ht,jAl (j:=0) rfl,m.mp,_,rfl,jGz hp eA,_,_,rfl,rfl,_,rfl
 by_cases c:A<1
 ·rw [if_pos c] at z
  exact jBo c ⟨_,rfl,t,_,_,_,rfl,rfl,SqT.of ht,jAl (j:=0) rfl,z⟩
 rw [if_neg c,<- eb,<- ec] at z
 refine jBx c ⟨_,rfl,dm,_,rfl,jGy hm,_,rfl,t,_,_,_,rfl,rfl,SqT.of ht,jAl (j:=1) rfl,_,_,rfl,rfl,_,rfl,?_⟩
 by_cases c:m.b<u.2.1
 ·rw [if_pos c] at z
  exact jBo c z
 rw [if_neg c] at z
 refine jBx c ⟨_,rfl,dm,_,rfl,jFJ hm,_,rfl,t,_,_,_,rfl,rfl,SqT.of ht,jAl (j:=2) rfl,_,_,rfl,rfl,_,rfl,?_⟩
 by_cases c:m.c<u.2.2
 ·rw [if_pos c] at z
  exact jBo c z
 rw [if_neg c] at z
 exact jBx c z
inductive jCQ(cR cJ cO cX cU cN cD cT cP cS cY cM cW:Addr)(vs:List V)(H:Hp)(Q:VK)(E_:XK):Prop|mk x p q l dm fc r d e Pn a f m k0 k1 n A w:vs=[.ref p,.ref dm,.str (jAR r.j n).1,.str w]->B5 cR cJ cP cS cY cM cW H x p q l dm fc r d e Pn true a f m k0 k1->EqM m r d Pn a f k0 k1->d.S=.rd->m.M.lookup (jAR r.j n).1=some A->jCM d A (jAR r.j n)=some w->(∀ d' m' H',Fr5 H H' d d'->B5 cR cJ cP cS cY cM cW H' x p q l dm fc r d' e Pn true a f m' k0 k1->EqM m' r d' Pn a f k0 k1->d'.S=.rd->Q .non H')->jCQ cR cJ cO cX cU cN cD cT cP cS cY cM cW vs H Q E_
theorem jH9:jAk ["_law_printer","_law_m","_law_kind","_law_lacking_here"] ["_law_printer","_law_m","_law_kind","_law_lacking_here"] (jAh jC7):=scM
include T in
theorem jH_(F:Fun K "_law_made_good" "_law_made_good" jC7 fa fd)(Daq:MtE P w K mg base 7 "load" cZ ["self","kind","many"] (jDs vG vU cZ cQ yJ yW yU))(Dan:MtE P w K mg base 6 "fill" cZ ["self","black","coloured"] (jDt vU cZ cQ yJ yW yU)) :
 jAr P w K mg base CX0 8 fa fd ["_law_printer","_law_m","_law_kind","_law_lacking_here"] (jCQ yK yG vW vJ vG vY cG vU cZ cQ yJ yW yU):=by
 refine F.ok jH9 (fun vs H Q E h=>?_) (fun cdv A outer s H vs Q E hr h=>?_)
 ·obtain⟨x,p,q,l,dm,fc,r,d,e,Pn,a,f,m,k0,k1,n,A,w,rfl,_⟩:=h
  rfl
 obtain⟨x,p,q,l,dm,fc,r,d,e,Pn,a,f,m,k0,k1,n,A,w,rfl,B,M,eS,eA,lw,z⟩:=h
 have hu:=jCZ hr 0 (by decide)
 have kn:=jLT (n:=n) B.pa B.co
 obtain⟨b1,b2,b3,b4⟩:=jNX B.ok n
 generalize jAR r.j n=u at kn eA lw b1 b2 b3 b4 ⊢
 obtain⟨i1,i2,i3⟩:=B.kin kn (M.has _ kn)
 have W:=B.W
 have eA':d.am.lookup u.1=some A:=(M.lk _ kn).trans eA
 exists _,(jAf (jAE (tcA jEZ (dgA hu (dgA hu (pv 1) jAm) (pv 2)) jAe) (jAd (jAy (jAF 7 jAL hr.m (pv 0) (jAa (pv 2) (jAa jAe jAc)))) (jAf (jB0 hu (dgA hu (pv 1) jAm) (pv 2) (jAp jAO (dgA hu (dgA hu (pv 1) jAm) (pv 2)) jAe) rfl))) (jAf (jAE (tcA jA9 (pv 3) jAm) (jAd (jAy (jAF 6 jAL hr.m (pv 0) (jAa jAe (jAa jAe jAc)))) (jAf (jB0 hu (pv 1) jAm (jAp jAO (dgA hu (pv 1) jAm) jAe) rfl))) (jAd (jAy (jAF 6 jAL hr.m (pv 0) (jAa jAe (jAa jAe jAc)))) (jAf (jB0 hu (pv 1) jAm (jAp jAO (dgA hu (pv 1) jAm) jAe) rfl)))))))
 exists _,rfl,dm,_,rfl,jCE B.hm,_,rfl,m.mp,_,rfl,jGz B.hp eA,_,_,rfl,rfl,_,rfl
 unfold jCM at lw
 by_cases c:A<1
 ·refine jBo c ⟨_,rfl,p,_,_,_,_,_,rfl,W.P.o,rfl,T.ac,Daq,_,rfl,p,d,u.1,50,rfl,W.P,fun z=>absurd (jBF (B.rs _ (M.has _ kn))) z,fun R A' eR eA2=>?_⟩
  obtain rfl:(999:Int)=R:=Option.some.inj ((B.rs _ (M.has _ kn)).symm.trans eR)
  obtain rfl:A=A':=Option.some.inj (eA'.symm.trans eA2)
  refine⟨fun z=>absurd z (by omega),fun _ H' kx P'=>?_⟩
  have g:Gq d { d with am:=jAT d.am u.1 (A+50) } H:=⟨⟨.inl rfl,rfl,rfl,rfl,rfl⟩,rfl,rfl,rfl,rfl,rfl,rfl⟩
  have kp:Kp x p d H H':=fun b o _ _ _ n4 _ e=>kx b o n4 e
  have B':=B.deed kp g (W.gift (fun b o n4 _ e=>kx b o n4 e) P' g rfl rfl rfl rfl rfl rfl)
  exists _,rfl,dm,_,rfl,jCE B'.hm,_,rfl,m.mp,_,rfl,jGz B'.hp eA,_,_,rfl,rfl,_,rfl,dm,_,rfl,jCE B'.hm,_,rfl,m.mp,_,rfl,jNZ B'.hp i1 i2
  exact z _ _ _ ((B.fr kp g).trans (jBu B'.hp _)) (B'.pput u.1 (A+50)) { M with lk:=fun k hk=>jKu i3 i1 (M.lk k hk) } eS
 rw [if_neg c] at lw
 refine jBx c ⟨_,rfl,rfl,_,rfl,?_⟩
 by_cases cb:d.b<u.2.1
 ·rw [if_pos cb] at lw
  obtain rfl:=Option.some.inj lw
  refine jBo rfl ⟨_,rfl,p,_,_,_,_,_,rfl,W.P.o,rfl,T.ac,Dan,p,d,300,0,rfl,W.P,fun z=>absurd z (by rw [B.rb];omega),fun _ z=>absurd z (by rw [B.rc];have:=M.c2;omega),fun _ _ H' kx P'=>?_⟩
  have g:Gq d { d with b:=d.b+300,c:=d.c+0 } H:=⟨⟨.inl rfl,rfl,rfl,rfl,rfl⟩,rfl,rfl,rfl,rfl,rfl,rfl⟩
  have kp:Kp x p d H H':=fun b o _ _ _ _ n5 e=>kx b o n5 e
  have B':=B.deed kp g (W.gift (fun b o _ n5 e=>kx b o n5 e) P' g rfl rfl rfl rfl rfl rfl)
  exists _,rfl,dm,_,rfl,jGy B'.hm,_,_,rfl,rfl,_,rfl,dm,_,rfl,jML B'.hm _
  have eb:=M.b
  have ec:=M.c
  have h1:=M.b2
  have h2:=M.c2
  exact z _ _ _ ((B.fr kp g).trans (jBu B'.hm _)) (B'.put (m':={ m with b:=m.b+300 }) rfl rfl) ⟨M.lk,(by show m.b+300=d.b+300;omega),(by show m.c=d.c+0;omega),M.T,M.ca,M.wi,M.P,(by show d.b+300<=2000;omega),(by show d.c+0<=2000;omega),M.has⟩ eS
 ·rw [if_neg cb] at lw
  by_cases cc:d.c<u.2.2
  ·rw [if_pos cc] at lw
   obtain rfl:=Option.some.inj lw
   refine jBx (by decide +kernel) ⟨_,rfl,p,_,_,_,_,_,rfl,W.P.o,rfl,T.ac,Dan,p,d,0,300,rfl,W.P,fun z=>absurd z (by rw [B.rb];have:=M.b2;omega),fun _ z=>absurd z (by rw [B.rc];omega),fun _ _ H' kx P'=>?_⟩
   have g:Gq d { d with b:=d.b+0,c:=d.c+300 } H:=⟨⟨.inl rfl,rfl,rfl,rfl,rfl⟩,rfl,rfl,rfl,rfl,rfl,rfl⟩
   have kp:Kp x p d H H':=fun b o _ _ _ _ n5 e=>kx b o n5 e
   have B':=B.deed kp g (W.gift (fun b o _ n5 e=>kx b o n5 e) P' g rfl rfl rfl rfl rfl rfl)
   exists _,rfl,dm,_,rfl,jFJ B'.hm,_,_,rfl,rfl,_,rfl,dm,_,rfl,jLU B'.hm _
   have eb:=M.b
   have ec:=M.c
   have h1:=M.b2
   have h2:=M.c2
   exact z _ _ _ ((B.fr kp g).trans (jBu B'.hm _)) (B'.put (m':={ m with c:=m.c+300 }) rfl rfl) ⟨M.lk,(by show m.b=d.b+0;omega),(by show m.c+300=d.c+300;omega),M.T,M.ca,M.wi,M.P,(by show d.b+0<=2000;omega),(by show d.c+300<=2000;omega),M.has⟩ eS
  ·rw [if_neg cc] at lw
   cases lw
theorem itm0{f:Nat}:itm 0 f=(f:Int)-1:=by
 unfold itm
 split<;>omega
def fedM(m:M5)(u:Str×Int×Int)(A:Int):M5:={ m with M:=jAT m.M u.1 (A-1),b:=m.b-u.2.1,c:=m.c-u.2.2,wi:=m.wi+1 }
def outM(m:M5):M5:={ m with wi:=m.wi-1,ca:=m.ca+1 }
inductive jDH(cR cJ cO cX cU cN cD cT cP cS cY cM cW:Addr)(vs:List V)(H:Hp)(Q:VK)(E_:XK):Prop|mk x p q l dm fc r d e Pn a f m k0 k1:vs=[.ref x,.ref l,.ref dm,.ref fc]->B5 cR cJ cP cS cY cM cW H x p q l dm fc r d e Pn true a f m k0 k1->EqM m r d Pn a f k0 k1->d.S=.rd->(∀ d' m' o' a' f' H',Fr5 H H' d d'->o'=decide (a'≠r.tot+1)->B5 cR cJ cP cS cY cM cW H' x p q l dm fc r d' e Pn o' a' f' m' k0 k1->EqM m' r d' Pn a' f' k0 k1->d'.S=.rd->Q (.bl true) H')->jDH cR cJ cO cX cU cN cD cT cP cS cY cM cW vs H Q E_
theorem jCu:jAk ["_law_run","_law_printers_here","_law_m","_law_facts_here","_law_place_here","_law_use_here","_law_lacking_here"] ["_law_run","_law_printers_here","_law_m","_law_facts_here"] (jAh jEa):=scM
include T in
theorem jJp(F:Fun K "_law_stepped" "_law_stepped" jEa fa fd)(DbE:Dfn P w K mg base 2 "_law_use" ["_law_facts_here","_law_number"] (jGl K))(DbF:Dfn P w K mg base 1 "_law_lacking" ["_law_m","_law_use_here"] (jDG K))(DaK:Dfn P w K mg base 10 "_law_place" ["_law_run","_law_printer","_law_deed"] (jCW yK yG vW vJ vG vY cG vU cZ cQ yJ yW yU))(DbG:Dfn P w K mg base 8 "_law_made_good" ["_law_printer","_law_m","_law_kind","_law_lacking_here"] (jCQ yK yG vW vJ vG vY cG vU cZ cQ yJ yW yU))(Dac:Dfn P w K mg base 11 "_law_refused" ["_law_run","_law_printers_here","_law_deed","_law_place_here","_law_word_here"] (jBs yK yG vW vJ vG vY cG vU cZ cQ yJ yW yU)) :
 jAr P w K mg base CX0 12 fa fd ["_law_run","_law_printers_here","_law_m","_law_facts_here"] (jDH yK yG vW vJ vG vY cG vU cZ cQ yJ yW yU):=by
 refine F.ok jCu (fun vs H Q E h=>?_) (fun cdv A outer s H vs Q E hr h=>?_)
 ·obtain⟨x,p,q,l,dm,fc,r,d,e,Pn,a,f,m,k0,k1,rfl,_⟩:=h
  rfl
 obtain⟨x,p,q,l,dm,fc,r,d,e,Pn,a,f,m,k0,k1,rfl,B,M,eS,z⟩:=h
 have hu:=jCZ hr 0 (by decide)
 have W:=B.W
 have af:=W.af
 have fT:=W.fT
 have aT:=W.oa rfl
 exists _,(jAd (psA (i:=4) jCu.nd (jAp jAO (dgA hu (pv 2) jAm) (dgA hu (pv 2) jAm))) (jAd (jAE (tcA jGD (pv 4) (dgA hu (pv 2) jAm)) (jAd (psA (i:=5) jCu.nd (jAv DbE hr.m rfl (jAa (pv 3) (jAa (jAp jB_ (pv 4) jAe) jAc)))) (jAd (psA (i:=6) jCu.nd (jAv DbF hr.m rfl (jAa (pv 2) (jAa (pv 5) jAc)))) (jAd (jAE (tcA jE_ (pv 6) jBk) (jAd (jAE (jB9 (jAX (jAv Dac hr.m rfl (jAa (pv 0) (jAa (pv 1) (jAa (jAN (jAa jAm jAc)) (jAa jAe (jAa (pv 6) jAc)))))) (fun _=>rfl))) (jAf (jAo jBc)) jAw) (jAd (jAy (jAv DbG hr.m rfl (jAa (ixA jAD (pv 1) jAe) (jAa (pv 2) (jAa (ixA jAI (pv 5) jAe) (jAa (pv 6) jAc)))))) (jAf (jAo jBc)))) jAw) (jAd (jB0 hu (dgA hu (pv 2) jAm) (ixA jAI (pv 5) jAe) (jAp jB_ (dgA hu (dgA hu (pv 2) jAm) (ixA jAI (pv 5) jAe)) jAe) rfl) (jAd (jB0 hu (pv 2) jAm (jAp jB_ (dgA hu (pv 2) jAm) (ixA jAI (pv 5) jAe)) rfl) (jAd (jB0 hu (pv 2) jAm (jAp jB_ (dgA hu (pv 2) jAm) (ixA jAI (pv 5) jAe)) rfl) (jAf (jB0 hu (pv 2) jAm (jAp jAO (dgA hu (pv 2) jAm) jAe) rfl)))))))) jAw) (jAd (jAE (PW.pt (pw_or (tcA jGE (pv 4) (dgA hu (pv 2) jAm)) (jK1 (tcA jGE (dgA hu (pv 2) jAm) (dgA hu (pv 2) jAm))))) (jAd (jB0 hu (pv 2) jAm (jAp jB_ (dgA hu (pv 2) jAm) jAe) rfl) (jAf (jB0 hu (pv 2) jAm (jAp jAO (dgA hu (pv 2) jAm) jAe) rfl))) jAw) (jAf (jAo (ecA jA9 (jAv DaK hr.m rfl (jAa (pv 0) (jAa (ixA jAD (pv 1) jAe) (jAa (jAN (jAa jAm jAc)) jAc)))) (pe_un jNf jAe)))))))
 exists _,rfl,dm,_,rfl,jEB B.hm,_,rfl,dm,_,rfl,jDa B.hm,_,_,rfl,rfl
 dsimp only [jBJ]
 rw [show m.ca+m.wi=(f:Int) by rw [M.ca,M.wi];omega]
 have u1:=jLT (n:=itm 0 f) B.pa B.co
 obtain⟨i1,i2,i3⟩:=B.kin u1 (M.has _ u1)
 obtain⟨A,eA⟩:∃ A,d.am.lookup (jAR r.j (itm 0 f)).1=some A:=by
  obtain⟨q1,h1,h2⟩:=List.mem_map.mp i3
  cases h:d.am.lookup (jAR r.j (itm 0 f)).1 with
  | some A=>exact⟨A,rfl⟩
  | none=>exact absurd i3 (jCC h)
 have eA':m.M.lookup (jAR r.j (itm 0 f)).1=some A:=(M.lk _ u1).symm.trans eA
 refine jBp (fun σ G=>∃ m1 v5 v6,σ=[some (.ref x),some (.ref l),some (.ref dm),some (.ref fc),some (.int (f:Int)),v5,v6]/\Fr5 H G d d/\B5 yK yG cZ cQ yJ yW yU G x p q l dm fc r d e Pn true a f m1 k0 k1/\Can r d true f/\m1=if f=r.tot+1 then m else fedM m (jAR r.j (itm 0 f)) A) (fun R hR=>?_) (fun σ G y=>?_)
 ·exists _,rfl,_,rfl,dm,_,rfl,jFg B.hm,_,_,rfl,rfl,_,rfl
  by_cases c:f=r.tot+1
  ·refine jBx (by rw [M.T];omega) ?_
   exact hR _ _ ⟨m,_,_,rfl,jAn.fr5 (jAn.refl _) d,B,⟨rfl,eS,fun z=>absurd c z⟩,by rw [if_pos c]⟩
  refine jBo (by rw [M.T];omega) ⟨_,rfl,_,rfl,_,_,rfl,rfl,fc,r.j,r.cp,_,rfl,B.fc,B.ok,(by omega),fun t H1 s1 nt ht=>?_⟩
  rw [<- itm0] at ht
  have B1:=B.same s1
  exists _,rfl,_,rfl,dm,t,m,d,_,A,rfl,B1.hm,B1.hp,ht,eA',M.b,M.c
  dsimp only [jBJ]
  cases lw:jCM d A (jAR r.j (itm 0 f)) with
  | some w =>
    refine⟨_,rfl,rfl,true,rfl,jAU ?_⟩
    refine⟨_,rfl,_,rfl,wq1,fun t0 n0=>?_⟩
    have s2:=jAj n0 (.tup [.str "step"])
    have h2:upd H1 t0 (.tup [.str "step"]) t0=some (.tup (ddV .step)):=jAb
    generalize upd H1 t0 (.tup [.str "step"])=H2 at s2 h2 ⊢
    refine⟨_,rfl,x,p,q,l,t0,r,d,e,Pn,true,a,f,.step,5,w,rfl,(B1.same s2).hl,h2,W.same (s1.trans s2),.inr ⟨aT,.inr ⟨rfl,.inr ⟨eS,c,.inr ⟨A,eA,lw,rfl⟩⟩⟩⟩,fun H3 s3=>⟨true,rfl,jAJ ?_⟩⟩
    have s13:=s1.trans (s2.trans s3)
    have B3:=B.same s13
    refine⟨_,rfl,l,_,_,_,rfl,rfl,SqL.of B3.hl,jAl (j:=0) rfl,_,rfl,_,rfl,t,_,_,_,rfl,rfl,SqT.of ((s2.trans s3) _ _ ht),jAl (j:=0) rfl,_,rfl,x,p,q,l,dm,fc,r,d,e,Pn,a,f,m,k0,k1,itm 0 f,A,w,rfl,B3,M,eS,eA',lw,fun d' m' H' F' B' M' eS'=>?_⟩
    exact z d' m' true a f H' ((jAn.fr5 s13 d).trans F') (by rw [decide_eq_true aT]) B' M' eS'
  | none =>
    refine⟨_,rfl,rfl,false,rfl,jAJ ?_⟩
    exists _,rfl,dm,_,rfl,jCE B1.hm,_,rfl,t,_,_,_,rfl,rfl,SqT.of ht,jAl (j:=0) rfl,m.mp,_,rfl,jGz B1.hp eA',_,_,rfl,rfl,_,rfl,dm,_,rfl,jCE B1.hm,_,rfl,t,_,_,_,rfl,rfl,SqT.of ht,jAl (j:=0) rfl,m.mp,_,rfl,jNZ B1.hp i1 i2
    have B2:=B1.pput (jAR r.j (itm 0 f)).1 (A-1)
    have F2:=(jAn.fr5 s1 d).trans (jBu (kv':=dI (jAT m.M (jAR r.j (itm 0 f)).1 (A-1))) B1.hp d)
    have ht2:=(jBu (kv':=dI (jAT m.M (jAR r.j (itm 0 f)).1 (A-1))) B1.hp d).t _ _ ht
    generalize upd H1 m.mp (.dK (dI (jAT m.M (jAR r.j (itm 0 f)).1 (A-1))))=H2 at B2 F2 ht2 ⊢
    exists _,rfl,dm,_,rfl,jGy B2.hm,_,rfl,t,_,_,_,rfl,rfl,SqT.of ht2,jAl (j:=1) rfl,_,_,rfl,rfl,_,rfl,dm,_,rfl,jML B2.hm _
    have B3:=B2.put (m':={ m with M:=jAT m.M (jAR r.j (itm 0 f)).1 (A-1),b:=m.b-(jAR r.j (itm 0 f)).2.1 }) rfl rfl
    have F3:=jBu (kv':=({ m with M:=jAT m.M (jAR r.j (itm 0 f)).1 (A-1),b:=m.b-(jAR r.j (itm 0 f)).2.1 }:M5).kv) B2.hm d
    have ht3:=F3.t _ _ ht2
    exists _,rfl,dm,_,rfl,jFJ B3.hm,_,rfl,t,_,_,_,rfl,rfl,SqT.of ht3,jAl (j:=2) rfl,_,_,rfl,rfl,_,rfl,dm,_,rfl,jLU B3.hm _
    have B4:=B3.put (m':={ m with M:=jAT m.M (jAR r.j (itm 0 f)).1 (A-1),b:=m.b-(jAR r.j (itm 0 f)).2.1,c:=m.c-(jAR r.j (itm 0 f)).2.2 }) rfl rfl
    have F4:=F2.trans (F3.trans (jBu (kv':=({ m with M:=jAT m.M (jAR r.j (itm 0 f)).1 (A-1),b:=m.b-(jAR r.j (itm 0 f)).2.1,c:=m.c-(jAR r.j (itm 0 f)).2.2 }:M5).kv) B3.hm d))
    exists _,rfl,dm,_,rfl,jDa B4.hm,_,_,rfl,rfl,_,rfl,dm,_,rfl,jHa B4.hm _
    exact hR _ _ ⟨fedM m (jAR r.j (itm 0 f)) A,_,_,rfl,F4.trans (jBu B4.hm d),B4.put rfl rfl,⟨rfl,eS,fun _=>⟨A,eA,lw⟩⟩,by rw [if_neg c]⟩
 obtain⟨m1,v5,v6,rfl,F1,B1,can,em⟩:=y
 refine jBp (fun σ G'=>σ=[some (.ref x),some (.ref l),some (.ref dm),some (.ref fc),some (.int (f:Int)),v5,v6]/\Fr5 H G' d d/\B5 yK yG cZ cQ yJ yW yU G' x p q l dm fc r d e Pn true a f (if stK r.tot Pn 0 a f=1 then outM m1 else m1) k0 k1) (fun R hR=>?_) (fun σ G' y=>?_)
 ·have B2:=B1.put (m':={ m1 with wi:=m1.wi-1 }) rfl rfl
  have B3:stK r.tot Pn 0 a f=1->B5 yK yG cZ cQ yJ yW yU _ x p q l dm fc r d e Pn true a f (if stK r.tot Pn 0 a f=1 then outM m1 else m1) k0 k1:=fun h=>by
   rw [if_pos h]
   exact B2.put (m':=outM m1) rfl rfl
  have F3:=F1.trans ((jBu (kv':=({ m1 with wi:=m1.wi-1 }:M5).kv) B1.hm d).trans (jBu (kv':=(outM m1).kv) B2.hm d))
  exists _,rfl,_,rfl,dm,_,rfl,jFg B1.hm,_,_,rfl,rfl,_,rfl
  have eT:m1.T=(r.tot:Int):=by
   rw [em,<- M.T]
   split<;>rfl
  by_cases c:f=r.tot+1
  ·exact jBo (by rw [eT];omega) ⟨_,rfl,dm,_,rfl,jDa B1.hm,_,_,rfl,rfl,_,rfl,dm,_,rfl,jHa B1.hm _,_,rfl,dm,_,rfl,jEB B2.hm,_,_,rfl,rfl,_,rfl,dm,_,rfl,jLV B2.hm _,hR _ _ ⟨rfl,F3,B3 (by unfold stK;rw [if_pos (by omega)])⟩⟩
  ·have ew:m1.wi=((f-a:Nat):Int)+1/\m1.P=(Pn:Int):=by
    rw [em,if_neg c,<- M.wi,<- M.P]
    exact⟨rfl,rfl⟩
   refine jBx (by rw [eT];omega) ⟨_,rfl,dm,_,rfl,jDa B1.hm,_,rfl,dm,_,rfl,jNY B1.hm,_,_,rfl,rfl,_,rfl,?_⟩
   by_cases c2:Pn<f+1-a
   ·exact jBo (by rw [ew.1,ew.2];omega) ⟨_,rfl,dm,_,rfl,jDa B1.hm,_,_,rfl,rfl,_,rfl,dm,_,rfl,jHa B1.hm _,_,rfl,dm,_,rfl,jEB B2.hm,_,_,rfl,rfl,_,rfl,dm,_,rfl,jLV B2.hm _,hR _ _ ⟨rfl,F3,B3 (by unfold stK;rw [if_neg (by omega),if_pos c2])⟩⟩
   ·refine jBx (by rw [ew.1,ew.2];omega) (hR _ _ ⟨rfl,F1,?_⟩)
    rw [if_neg (by unfold stK;rw [if_neg (by omega),if_neg c2];decide)]
    exact B1
 obtain⟨rfl,F2,B2⟩:=y
 refine⟨_,rfl,_,rfl,l,_,_,_,rfl,rfl,SqL.of B2.hl,jAl (j:=0) rfl,wq1,fun t0 n0=>?_⟩
 have s3:=jAj n0 (.tup [.str "step"])
 have h3:upd G' t0 (.tup [.str "step"]) t0=some (.tup (ddV .step)):=jAb
 generalize upd G' t0 (.tup [.str "step"])=H3 at s3 h3 ⊢
 have B3:=B2.same s3
 refine⟨x,p,q,t0,r,d,e,Pn,true,a,f,.step,rfl,h3,B3.W,.inr ⟨rfl,can,aT,fun d' H' kp W' g sd eS'=>?_⟩⟩
 exists _,rfl,rfl
 refine (show Q (.bl (decide (V.int (-1)=V.int (-1)))) H' from ?_)
 rw [decide_eq_true rfl]
 refine z d' _ _ _ _ H' ((F2.trans (jAn.fr5 s3 d)).trans (B3.fr kp g)) rfl (B3.deed kp g W') ?_ eS'
 have Mlk:=M.lk
 have hb:=M.b
 have hc:=M.c
 have hT:=M.T
 have hca:=M.ca
 have hwi:=M.wi
 have hP:=M.P
 have hb2:=M.b2
 have hc2:=M.c2
 obtain⟨q1,q2,q3,q4⟩:=jNX B.ok (itm 0 f)
 unfold StpD at sd
 by_cases c:f=r.tot+1
 ·rw [if_pos c] at sd em
  have k1:stK r.tot Pn 0 a f=1:=by unfold stK;rw [if_pos (by omega)]
  have k2:stF r.tot 0 f=f:=by unfold stF;rw [if_pos (by omega)]
  rw [k1,k2,if_pos rfl,em]
  obtain⟨sa,sb,sc⟩:=sd
  exact⟨by rw [sa];exact Mlk,by rw [sb];exact hb,by rw [sc];exact hc,hT,(by show m.ca+1=_;omega),(by show m.wi-1=_;omega),hP,by rw [sb];exact hb2,by rw [sc];exact hc2,by rw [g.rs];exact M.has⟩
 ·rw [if_neg c] at sd em
  have k2:stF r.tot 0 f=f+1:=by unfold stF;rw [if_neg (by omega)]
  obtain⟨A2,ea2,sa,sb,sc⟩:=sd
  obtain rfl:A=A2:=Option.some.inj (eA.symm.trans ea2)
  have lk':∀ k,k=k0\/k=k1->d'.am.lookup k=(jAT m.M (jAR r.j (itm 0 f)).1 (A-1)).lookup k:=fun k hk=>by rw [sa];exact jKu i3 i1 (Mlk k hk)
  rw [k2,em]
  by_cases c2:Pn<f+1-a
  ·have k1:stK r.tot Pn 0 a f=1:=by unfold stK;rw [if_neg (by omega),if_pos c2]
   rw [k1,if_pos rfl]
   exact⟨lk',(by show m.b-_=_;omega),(by show m.c-_=_;omega),hT,(by show m.ca+1=_;omega),(by show m.wi+1-1=_;omega),hP,by omega,by omega,by rw [g.rs];exact M.has⟩
  ·have k1:stK r.tot Pn 0 a f=0:=by unfold stK;rw [if_neg (by omega),if_neg c2]
   rw [k1,if_neg (by decide)]
   exact⟨lk',(by show m.b-_=_;omega),(by show m.c-_=_;omega),hT,(by show m.ca=_;omega),(by show m.wi+1=_;omega),hP,by omega,by omega,by rw [g.rs];exact M.has⟩
inductive jEg(cR cJ cO cX cU cN cD cT cP cS cY cM cW:Addr)(vs:List V)(H:Hp)(Q:VK)(E_:XK):Prop|mk x p q l dm fc r d e Pn a f m k0 k1 c:vs=[.ref x,.ref l,.ref dm,.int c]->B5 cR cJ cP cS cY cM cW H x p q l dm fc r d e Pn true a f m k0 k1->EqM m r d Pn a f k0 k1->d.S=.rd->(∀ d' m' o' a' f' H',Fr5 H H' d d'->o'=decide (a'≠r.tot+1)->B5 cR cJ cP cS cY cM cW H' x p q l dm fc r d' e Pn o' a' f' m' k0 k1->EqM m' r d' Pn a' f' k0 k1->(a'≠r.tot+1->d'.S=.rd)->Q (.bl true) H')->jEg cR cJ cO cX cU cN cD cT cP cS cY cM cW vs H Q E_
theorem jEh:jAk ["_law_run","_law_printers_here","_law_m","_law_cell","_law_saved","_law_word_here"] ["_law_run","_law_printers_here","_law_m","_law_cell"] (jAh jEP):=scM
include T in
theorem jJ1(F:Fun K "_law_halted" "_law_halted" jEP fa fd)(DbH:Dfn P w K mg base 12 "_law_stopped" ["_law_run","_law_printers_here","_law_word_here"] (jDE yK yG vW vJ vG vY cG vU cZ cQ yJ yW yU))(Dac:Dfn P w K mg base 11 "_law_refused" ["_law_run","_law_printers_here","_law_deed","_law_place_here","_law_word_here"] (jBs yK yG vW vJ vG vY cG vU cZ cQ yJ yW yU))(DaH:MtE P w K mg base 6 "jam" yK ["self","saved"] (jEA yK yG vW vJ vY vU cZ cQ yJ yW yU))(DaN:MtE P w K mg base 5 "leave" cZ ["self"] (jEl vY cZ cQ yJ yW yU)) :
 jAr P w K mg base CX0 13 fa fd ["_law_run","_law_printers_here","_law_m","_law_cell"] (jEg yK yG vW vJ vG vY cG vU cZ cQ yJ yW yU):=by
 refine F.ok jEh (fun vs H Q E h=>?_) (fun cdv A outer s H vs Q E hr h=>?_)
 ·obtain⟨x,p,q,l,dm,fc,r,d,e,Pn,a,f,m,k0,k1,c,rfl,_⟩:=h
  rfl
 obtain⟨x,p,q,l,dm,fc,r,d,e,Pn,a,f,m,k0,k1,c,rfl,B,M,eS,z⟩:=h
 have hu:=jCZ hr 0 (by decide)
 have W:=B.W
 have af:=W.af
 have fT:=W.fT
 have aT:=W.oa rfl
 exists _,(jAd (jAE (jB9 (jAX (jAv Dac hr.m rfl (jAa (pv 0) (jAa (pv 1) (jAa (jAN (jAa jAm (jAa (jAp jAO (jAp jAO (dgA hu (pv 2) jAm) jAe) (jAp jA7 (pv 3) (jAp jNe jAe jAe))) jAc))) (jAa jAe (jAa jAm jAc)))))) (fun _=>rfl))) (jAf (jAo jBc)) jAw) (jAd (psA (i:=4) jEh.nd (jAp jA7 (pv 3) (jAp jAO (dgA hu (pv 2) jAm) jAe))) (jAd (psA (i:=5) jEh.nd (ixA jCX (jAV (jAa jAm (jAa jAm jAc))) (jAp jA7 (jAp jCp (pv 3) jAe) jAe))) (jAd (jAE (tcA jA9 (pv 5) jAm) (jAd (jAy (jAF 6 jAL hr.m (pv 0) (jAa (pv 4) jAc))) (jAf (jB0 hu (pv 2) jAm (jAp jAO (dgA hu (pv 2) jAm) (pv 4)) rfl))) (jAf (jAy (jAs 5 jAL hr.m (ixA jAD (pv 1) jAe))))) (jAd (jB0 hu (pv 2) jAm jAe rfl) (jAd (jAE (tcA jGE (dgA hu (pv 2) jAm) (dgA hu (pv 2) jAm)) (jAf (jAo jBc)) jAw) (jAf (jAo (jAv DbH hr.m rfl (jAa (pv 0) (jAa (pv 1) (jAa (pv 5) jAc))))))))))))
 have c0:=Int.emod_nonneg c (show (10^59:Int)≠0 by decide)
 have hwi:=M.wi
 refine jBp (fun σ G=>jAn H G/\σ=[some (.ref x),some (.ref l),some (.ref dm),some (.int c),none,none]) (fun R hR=>?_) (fun σ H1 y=>?_)
 ·refine⟨_,rfl,_,rfl,_,rfl,dm,_,rfl,jDa B.hm,_,_,rfl,rfl,_,rfl,_,_,rfl,rfl,⟨by decide,by decide,by decide⟩,_,_,rfl,rfl,(by show (0:Int)<10^59;decide),_,_,rfl,rfl,wq2,fun t0 n0=>?_⟩
  have s1:=fun o=>jAj n0 o
  refine⟨x,p,q,l,t0,r,d,e,Pn,true,a,f,.jam (f-a+1+(c%10^59).toNat),4,wiW,rfl,s1 _ _ _ B.hl,?_,W.same (s1 _),.inr ⟨aT,.inr ⟨rfl,.inr ⟨eS,by omega,rfl,rfl⟩⟩⟩,fun H3 s3=>⟨true,rfl,jAJ (hR _ _ ⟨(s1 _).trans s3,rfl⟩)⟩⟩
  refine jAb.trans (congrArg (fun v=>some (HO.tup [.str "jam",V.int v])) ?_)
  show m.wi+1+c%10^59=((f-a+1+(c%10^59).toNat:Nat):Int)
  omega
 obtain⟨s1,rfl⟩:=y
 have B1:=B.same s1
 have w0:(0:Int)<m.wi+1:=by omega
 have v0:=Int.emod_nonneg c (show m.wi+1≠0 by omega)
 have v1:=Int.emod_lt_of_pos c w0
 exists _,rfl,_,rfl,dm,_,rfl,jDa B1.hm,_,_,rfl,rfl,_,_,rfl,rfl,w0
 obtain⟨sv,hsv⟩:∃ sv:Nat,c%(m.wi+1)=(sv:Int):=⟨(c%(m.wi+1)).toNat,by omega⟩
 dsimp only [jBJ]
 rw [hsv]
 refine⟨wq2,fun cl ncl=>?_⟩
 have s2:=jAj ncl (.lst [.str "jammed",.str "off"])
 have hcl:upd H1 cl (.lst [.str "jammed",.str "off"]) cl=some (.lst [.str "jammed",.str "off"]):=jAb
 generalize upd H1 cl (.lst [.str "jammed",.str "off"])=H2 at s2 hcl ⊢
 refine⟨_,rfl,_,_,rfl,rfl,⟨by decide,by decide⟩,_,_,rfl,rfl,(by show (0:Int)<2;decide),cl,_,_,rfl,rfl,SqL.of hcl,Int.emod_nonneg _ (by decide),Int.emod_lt_of_pos _ (by decide),fun v hv=>?_⟩
 obtain⟨S,rfl,hS⟩:∃ S,v=.str (wd S)/\(S=.jm\/S=.aw false):=by
  have hm:=List.mem_of_getElem? hv
  simp only [List.mem_cons,List.not_mem_nil,or_false] at hm
  rcases hm with rfl|rfl
  ·exact⟨.jm,rfl,.inl rfl⟩
  ·exact⟨.aw false,rfl,.inr rfl⟩
 have B2:=B1.same s2
 have F2:=jAn.fr5 (s1.trans s2) d
 have W2:=B2.W
 dsimp only [jBJ]
 refine jBp (fun σ G=>∃ d1 a1,σ=[some (.ref x),some (.ref l),some (.ref dm),some (.int c),some (.int (sv:Int)),some (.str (wd d1.S))]/\Fr5 H G d d1/\B5 yK yG cZ cQ yJ yW yU G x p q l dm fc r d1 e Pn (decide (a1≠r.tot+1)) a1 a1 { m with ca:=(a1:Int) } k0 k1/\(d1.S=.jm\/d1.S=.aw false)/\d1.am=d.am/\d1.b=d.b/\d1.c=d.c/\d1.rs=d.rs) (fun R hR=>?_) (fun σ G y=>?_)
 ·rcases hS with rfl|rfl
  ·refine⟨_,rfl,rfl,true,rfl,jAU ⟨_,rfl,x,_,_,_,_,_,rfl,W2.R.o,rfl,T.aa,DaH,_,rfl,?_⟩⟩
   dsimp only [jCx]
   refine W2.jam (cU:=vG) (cD:=cG) (.inr ⟨rfl,eS,by omega,fun d' H' kp W' g ea eb ec eS' l'=>?_⟩)
   have B3:=B2.deed kp g W'
   have e1:m.ca+(sv:Int)=((a+sv:Nat):Int):=by rw [M.ca];omega
   refine⟨_,rfl,dm,_,rfl,jEB B3.hm,_,rfl,_,_,rfl,rfl,_,rfl,dm,_,rfl,jLV B3.hm _,hR _ _ ⟨d',a+sv,by rw [eS'];rfl,(F2.trans (B2.fr kp g)).trans (jBu B3.hm _),?_,.inl eS',ea,eb,ec,g.rs⟩⟩
   rw [e1]
   exact B3.put rfl rfl
  ·refine⟨_,rfl,rfl,false,by decide +kernel,jAJ ⟨_,rfl,l,_,_,_,rfl,rfl,SqL.of B2.hl,jAl (j:=0) rfl,p,_,_,_,_,_,rfl,W2.P.o,rfl,T.ac,DaN,p,d,rfl,W2.P,fun s' es st il H' kx nil P'=>?_,fun z=>(by rw [eS] at z;cases z)⟩⟩
   rw [eS] at es
   cases es
   have g:Gq d { d with st:=st,S:=.aw false,ins:=il,tags:=[] } H2:=⟨⟨.inr nil,rfl,rfl,rfl,rfl⟩,rfl,rfl,rfl,rfl,rfl,rfl⟩
   have W':=W2.turn kx P' g rfl rfl (.inr ⟨rfl,rfl⟩)
   have kp:Kp x p d H2 H':=fun b o _ n2 _ _ _ e=>kx b o n2 e
   have B3:=B2.deed kp g W'
   refine hR _ _ ⟨_,a,rfl,F2.trans (B2.fr kp g),?_,.inr rfl,rfl,rfl,rfl,rfl⟩
   rw [decide_eq_true aT,<- M.ca]
   exact B3
 obtain⟨d1,a1,rfl,F3,B3,hS1,sa,sb,sc,sr⟩:=y
 exists _,rfl,dm,_,rfl,jHa B3.hm 0
 have B4:=B3.put (m':={ m with ca:=(a1:Int),wi:=0 }) rfl rfl
 have F4:=F3.trans (jBu (kv':=({ m with ca:=(a1:Int),wi:=0 }:M5).kv) B3.hm d1)
 generalize upd G dm (.dK ({ m with ca:=(a1:Int),wi:=0 }:M5).kv)=G4 at B4 F4 ⊢
 have a1T:a1<=r.tot+1:=Nat.le_trans B4.W.af B4.W.fT
 have E4:EqM { m with ca:=(a1:Int),wi:=0 } r d1 Pn a1 a1 k0 k1:=⟨by rw [sa];exact M.lk,M.b.trans sb.symm,M.c.trans sc.symm,M.T,rfl,(by show (0:Int)=_;omega),M.P,by rw [sb];exact M.b2,by rw [sc];exact M.c2,by rw [sr];exact M.has⟩
 exists _,rfl,dm,_,rfl,jEB B4.hm,_,rfl,dm,_,rfl,jFg B4.hm,_,_,rfl,rfl,_,rfl
 have hT:=M.T
 by_cases c1:a1=r.tot+1
 ·exact jBo (by show m.T<(a1:Int);omega) (z d1 _ _ a1 a1 G4 F4 rfl B4 E4 (fun n=>absurd c1 n))
 ·rw [decide_eq_true c1] at B4
  refine jBx (by show ¬ m.T<(a1:Int);omega) ⟨_,rfl,_,rfl,_,rfl,x,p,q,l,r,d1,e,Pn,a1,rfl,B4.hl,B4.W,hS1,fun d' H' kp W' g sd eS'=>?_⟩
  exact z d' _ true a1 a1 H' (F4.trans (B4.fr kp g)) (by rw [decide_eq_true c1]) (B4.deed kp g W') { E4 with lk:=by rw [sd.1];exact E4.lk,b:=E4.b.trans sd.2.1.symm,c:=E4.c.trans sd.2.2.symm,b2:=by rw [sd.2.1];exact E4.b2,c2:=by rw [sd.2.2];exact E4.c2,has:=by rw [g.rs];exact E4.has } (fun _=>eS')
inductive jEV(cR cJ cO cX cU cN cD cT cP cS cY cM cW:Addr)(vs:List V)(H:Hp)(Q:VK)(E_:XK):Prop|mk x p q l r d e Pn c:vs=[.ref x,.ref l,.int c,.str r.nm]->H l=some (.lst [.ref p,.ref q])->W35 cR cJ cP cS cY cM cW H x p q r d e Pn false 0 0->d.S=.rd->(∀ d' H',Kp x p d H H'->W35 cR cJ cP cS cY cM cW H' x p q r d' e Pn false 0 0->Gq d d' H->d'.am=d.am/\d'.b=d.b/\d'.c=d.c->d'.S=.rd->Q (.bl true) H')->jEV cR cJ cO cX cU cN cD cT cP cS cY cM cW vs H Q E_
theorem jHe:jAk ["_law_run","_law_printers_here","_law_cell","_law_name","_law_deed"] ["_law_run","_law_printers_here","_law_cell","_law_name"] (jAh jFu):=scM
include T in
theorem jKR(F:Fun K "_law_start" "_law_start" jFu fa fd)(Dac:Dfn P w K mg base 11 "_law_refused" ["_law_run","_law_printers_here","_law_deed","_law_place_here","_law_word_here"] (jBs yK yG vW vJ vG vY cG vU cZ cQ yJ yW yU))(Dam:MtE P w K mg base 5 "jam" cZ ["self","saved"] (jEy vY vU cZ cQ yJ yW yU))(DaL:MtE P w K mg base 5 "mend" cZ ["self"] (jCm 1 vY cZ cQ yJ yW yU))(DaN:MtE P w K mg base 5 "leave" cZ ["self"] (jEl vY cZ cQ yJ yW yU))(DaM:MtE P w K mg base 5 "come" cZ ["self"] (jCm 3 vY cZ cQ yJ yW yU)) :
 jAr P w K mg base CX0 12 fa fd ["_law_run","_law_printers_here","_law_cell","_law_name"] (jEV yK yG vW vJ vG vY cG vU cZ cQ yJ yW yU):=by
 refine F.ok jHe (fun vs H Q E h=>?_) (fun cdv A outer s H vs Q E hr h=>?_)
 ·obtain⟨x,p,q,l,r,d,e,Pn,c,rfl,_⟩:=h
  rfl
 obtain⟨x,p,q,l,r,d,e,Pn,c,rfl,hl,W,eS,z⟩:=h
 have hu:=jCZ hr 0 (by decide)
 exists _,(jAd (jBS PassesOwn.never rfl (jBt (jAV (jAa (jAN (jAa jAm jAc)) (jAa (jAN (jAa jAm (jAa (jAp jA7 (pv 2) jAe) jAc))) (jAa (jAN (jAa jAm jAc)) jAc))))) (pgA (i:=4) jHe.nd) (jAf (jAE (jB9 (jAX (jAv Dac hr.m rfl (jAa (pv 0) (jAa (pv 1) (jAa (pv 4) (jAa jAe (jAa (pv 3) jAc)))))) (fun _=>rfl))) (jAf (jAo jBc)) jAw))) (jAd (jAE (tcA jA9 (jAp jA7 (jAp jCp (pv 2) jAe) jAe) jAe) (jAd (jAy (jAF 5 jAL hr.m (ixA jAD (pv 1) jAe) (jAa jAe jAc))) (jAf (jAo (jIt (jAv Dac hr.m rfl (jAa (pv 0) (jAa (pv 1) (jAa (jAN (jAa jAm jAc)) (jAa jAe (jAa jAm jAc)))))) (jIs (ecA jA9 (jAs 5 jAL hr.m (ixA jAD (pv 1) jAe)) jAm)))))) jAw) (jAd (jAE (tcA jA9 (jAp jA7 (jAp jCp (pv 2) jAe) jAe) jAe) (jAd (jAy (jAs 5 jAL hr.m (ixA jAD (pv 1) jAe))) (jAf (jAo (jIt (jAv Dac hr.m rfl (jAa (pv 0) (jAa (pv 1) (jAa (jAN (jAa jAm jAc)) (jAa jAe (jAa jAm jAc)))))) (jIs (ecA jA9 (jAs 5 jAL hr.m (ixA jAD (pv 1) jAe)) jAm)))))) jAw) (jAf (jAo jBc)))))
 have T1:=W.T1
 have na:0≠r.tot+1:=by omega
 obtain⟨n,hn⟩:∃ n:Nat,c%3=(n:Int):=⟨(c%3).toNat,by omega⟩
 refine jBp (fun σ G=>jAn H G/\∃ v4,σ=[some (.ref x),some (.ref l),some (.int c),some (.str r.nm),v4]) (fun R hR=>?_) (fun σ G y=>?_)
 ·refine⟨wq1,fun t0 n0=>?_⟩
  have s0:=jAj n0 (.tup [.str "step"])
  have h0:upd H t0 (.tup [.str "step"]) t0=some (.tup (ddV .step)):=jAb
  generalize upd H t0 (.tup [.str "step"])=H0 at s0 h0 ⊢
  refine⟨_,rfl,_,_,rfl,rfl,(by show (0:Int)<3;decide),wq2,fun t1 n1=>?_⟩
  have s1:=jAj n1 (.tup [.str "jam",(fun (i j:Int)=>V.int (i%j)) c 3])
  have h1:upd H0 t1 (.tup [.str "jam",(fun (i j:Int)=>V.int (i%j)) c 3]) t1=some (.tup (ddV (.jam n))):=jAb.trans (by show some (HO.tup [.str "jam",.int (c%3)])=_;rw [hn];rfl)
  generalize upd H0 t1 (.tup [.str "jam",(fun (i j:Int)=>V.int (i%j)) c 3])=H1 at s1 h1 ⊢
  refine⟨wq1,fun t2 n2=>?_⟩
  have s2:=jAj n2 (.tup [.str "step"])
  have h2:upd H1 t2 (.tup [.str "step"]) t2=some (.tup (ddV .step)):=jAb
  generalize upd H1 t2 (.tup [.str "step"])=H2 at s2 h2 ⊢
  refine⟨wq3,fun tl nl=>?_⟩
  have s3:=jAj nl (.lst [.ref t0,.ref t1,.ref t2])
  have hl3:upd H2 tl (.lst [.ref t0,.ref t1,.ref t2]) tl=some (.lst [.ref t0,.ref t1,.ref t2]):=jAb
  generalize upd H2 tl (.lst [.ref t0,.ref t1,.ref t2])=H3 at s3 hl3 ⊢
  have s23:=s2.trans s3
  have s13:=s1.trans s23
  have sH:=s0.trans s13
  refine⟨tl,rfl,⟨_,SqL.of hl3⟩,jBK (K:=K) (a:=tl) (xs:=[.ref t0,.ref t1,.ref t2]) (fun i σ G=>jAn H3 G/\∃ v4,σ=[some (.ref x),some (.ref l),some (.int c),some (.str r.nm),v4]) ⟨jAn.refl _,_,rfl⟩ (fun i σ G _ y=>SqL.of (y.1 _ _ hl3)) (fun i y σ G hy y'=>?_) (fun σ G y=>?_)⟩
  rotate_left
  ·exact hR _ _ ⟨sH.trans y.1,y.2⟩
  obtain⟨sG,v4,rfl⟩:=y'
  obtain⟨t,D,rfl,ht,R⟩:∃ t D,y=.ref t/\H3 t=some (.tup (ddV D))/\Rfd r d false 0 0 D 7 r.nm:=by
   rcases i with _|_|_|i<;>cases hy
   ·exact⟨t0,_,rfl,s13 _ _ h0,.inr ⟨na,.inl ⟨rfl,rfl,rfl⟩⟩⟩
   ·exact⟨t1,_,rfl,s23 _ _ h1,.inr ⟨na,.inl ⟨rfl,rfl,rfl⟩⟩⟩
   ·exact⟨t2,_,rfl,s3 _ _ h2,.inr ⟨na,.inl ⟨rfl,rfl,rfl⟩⟩⟩
  exact⟨_,rfl,_,rfl,_,rfl,_,rfl,x,p,q,l,t,r,d,e,Pn,false,0,0,D,7,r.nm,rfl,sG _ _ (sH _ _ hl),sG _ _ ht,W.same (sH.trans sG),R,fun G' s'=>⟨true,rfl,jAJ ⟨sG.trans s',_,rfl⟩⟩⟩
 obtain⟨sG,v4,rfl⟩:=y
 have WG:=W.same sG
 have hlG:=sG _ _ hl
 have aft:∀ S st il H1,S≠S3.rd->(∀ b o,b≠p->G b=some o->H1 b=some o)->G il=none->jAC cZ cQ yJ yW yU H1 p { d with st:=st,S:=S,ins:=il,tags:=[] }->W35 yK yG cZ cQ yJ yW yU H1 x p q r { d with st:=st,S:=S,ins:=il,tags:=[] } e Pn false 0 0/\H1 l=some (.lst [.ref p,.ref q])/\Rfd r { d with st:=st,S:=S,ins:=il,tags:=[] } false 0 0 .take 3 (wd S)/\∀ st' H2 H3,jAn H1 H2->(∀ b o,b≠p->H2 b=some o->H3 b=some o)->jAC cZ cQ yJ yW yU H3 p { d with st:=st',S:=.rd,ins:=il,tags:=[] }->Q (.bl true) H3:=fun S st il H1 nS kx nil P1=>by
  have g:Gq d { d with st:=st,S:=S,ins:=il,tags:=[] } G:=⟨⟨.inr nil,rfl,rfl,rfl,rfl⟩,rfl,rfl,rfl,rfl,rfl,rfl⟩
  have W1:=WG.turn kx P1 g rfl rfl (.inr ⟨rfl,rfl⟩)
  refine⟨W1,kx _ _ (jDf WG.P.o hlG).symm hlG,.inr ⟨na,nS,rfl,rfl⟩,fun st' H2 H3 s2 kx' P3=>?_⟩
  have g':Gq { d with st:=st,S:=S,ins:=il,tags:=[] } { d with st:=st',S:=.rd,ins:=il,tags:=[] } H2:=⟨⟨.inl rfl,rfl,rfl,rfl,rfl⟩,rfl,rfl,rfl,rfl,rfl,rfl⟩
  have g2:Gq d { d with st:=st',S:=.rd,ins:=il,tags:=[] } G:=⟨⟨.inr nil,rfl,rfl,rfl,rfl⟩,rfl,rfl,rfl,rfl,rfl,rfl⟩
  exact z _ H3 (fun b o _ n2 _ _ _ e=>kx' b o n2 (s2 _ _ (kx b o n2 (sG _ _ e)))) ((W1.same s2).turn kx' P3 g' rfl rfl (.inr ⟨rfl,rfl⟩)) (jHW g2 sG) ⟨rfl,rfl,rfl⟩ rfl
 refine⟨_,rfl,_,_,rfl,rfl,⟨by decide,by decide⟩,_,_,rfl,rfl,(by show (0:Int)<4;decide),rfl,_,rfl,?_⟩
 by_cases c1:c/3%4=1
 ·refine jBo (by show V.int (c/3%4)=V.int 1;rw [c1]) ⟨_,rfl,l,_,_,_,rfl,rfl,SqL.of hlG,jAl (j:=0) rfl,p,_,_,_,_,_,rfl,WG.P.o,rfl,T.ac,Dam,p,d,0,rfl,WG.P,fun n=>absurd eS n,fun _ z=>absurd z (Nat.not_lt_zero _),fun _ _ t l1 l2 st il H1 kx nil _ _ _ _ P1=>?_⟩
  obtain⟨W1,hl1,R1,fin⟩:=aft .jm st il H1 nofun kx nil P1
  refine⟨_,rfl,_,rfl,wq1,fun t0 n0=>?_⟩
  have s0:=jAj n0 (.tup [.str "take"])
  have h0:upd H1 t0 (.tup [.str "take"]) t0=some (.tup (ddV .take)):=jAb
  generalize upd H1 t0 (.tup [.str "take"])=H2 at s0 h0 ⊢
  refine⟨x,p,q,l,t0,r,_,e,Pn,false,0,0,.take,3,wd .jm,rfl,s0 _ _ hl1,h0,W1.same s0,R1,fun H3 s3=>⟨true,rfl,jAU ?_⟩⟩
  have s03:=s0.trans s3
  have P3:=P1.same s03
  refine⟨_,rfl,l,_,_,_,rfl,rfl,SqL.of (s03 _ _ hl1),jAl (j:=0) rfl,p,_,_,_,_,_,rfl,P3.o,rfl,T.ac,DaL,p,_,rfl,P3,fun s' es st' H4 kx' P4=>?_,fun z=>(by cases z)⟩
  cases es
  exists rfl
  refine (show Q (.bl (decide (V.str (wd S3.rd)=V.str (Str.ofString "ready")))) H4 from ?_)
  rw [decide_eq_true (show V.str (wd S3.rd)=V.str (Str.ofString "ready") from rfl)]
  exact fin st' H3 H4 s03 kx' P4
 refine jBx (by show ¬ V.int (c/3%4)=V.int 1;intro z;injection z with z;exact c1 z) ⟨_,rfl,_,_,rfl,rfl,⟨by decide,by decide⟩,_,_,rfl,rfl,(by show (0:Int)<4;decide),rfl,_,rfl,?_⟩
 by_cases c2:c/3%4=2
 ·refine jBo (by show V.int (c/3%4)=V.int 2;rw [c2]) ⟨_,rfl,l,_,_,_,rfl,rfl,SqL.of hlG,jAl (j:=0) rfl,p,_,_,_,_,_,rfl,WG.P.o,rfl,T.ac,DaN,p,d,rfl,WG.P,fun s' es st il H1 kx nil P1=>?_,fun z=>(by rw [eS] at z;cases z)⟩
  rw [eS] at es
  cases es
  obtain⟨W1,hl1,R1,fin⟩:=aft (.aw false) st il H1 nofun kx nil P1
  refine⟨_,rfl,_,rfl,wq1,fun t0 n0=>?_⟩
  have s0:=jAj n0 (.tup [.str "take"])
  have h0:upd H1 t0 (.tup [.str "take"]) t0=some (.tup (ddV .take)):=jAb
  generalize upd H1 t0 (.tup [.str "take"])=H2 at s0 h0 ⊢
  refine⟨x,p,q,l,t0,r,_,e,Pn,false,0,0,.take,3,wd (.aw false),rfl,s0 _ _ hl1,h0,W1.same s0,R1,fun H3 s3=>⟨true,rfl,jAU ?_⟩⟩
  have s03:=s0.trans s3
  have P3:=P1.same s03
  refine⟨_,rfl,l,_,_,_,rfl,rfl,SqL.of (s03 _ _ hl1),jAl (j:=0) rfl,p,_,_,_,_,_,rfl,P3.o,rfl,T.ac,DaM,p,_,rfl,P3,fun s' es st' H4 kx' P4=>?_,fun z=>(by cases z)⟩
  cases es
  exists rfl
  refine (show Q (.bl (decide (V.str (wd S3.rd)=V.str (Str.ofString "ready")))) H4 from ?_)
  rw [decide_eq_true (show V.str (wd S3.rd)=V.str (Str.ofString "ready") from rfl)]
  exact fin st' H3 H4 s03 kx' P4
 refine jBx (by show ¬ V.int (c/3%4)=V.int 2;intro z;injection z with z;exact c2 z) ?_
 exact z d G (jAn.kp sG) WG (jHW ⟨jJY _ _,rfl,rfl,rfl,rfl,rfl,rfl⟩ sG) ⟨rfl,rfl,rfl⟩ eS
inductive jEW(_K:PySem.W.Frag)(vs:List V)(H:Hp)(Q:VK)(E_:XK):Prop|mk (c:Int) (n:Nat) (kl:Addr) (k0 k1:Str):vs=[.int c,.int (n:Int),.ref kl]->H kl=some (.lst [.str k0,.str k1])->1<=n->n<=60->(∀ (t:Addr) (j:Jv) (cp:Nat) (H':Hp),jAn H H'->jFG H' t j cp->j.n=n->j.Ok->1<=cp->cp<=3->j.paper=k0->(∀ v,j.cover=some v->v=k0\/v=k1)->Q (.ref t) H')->jEW _K vs H Q E_
theorem jB3:jAk ["_law_cell","_law_pages","_law_kinds","_law_layout","_law_colour","_law_low","_law_cover"] ["_law_cell","_law_pages","_law_kinds"] (jAh jFs):=scM
include T in
theorem jKS(F:Fun K "_law_facts" "_law_facts" jFs fa fd)(Daf:Dfn P w K mg base 1 "_law_mix" ["_law_cell","_law_k","_law_many"] (jEm K)) :
 jAr P w K mg base CX0 2 fa fd ["_law_cell","_law_pages","_law_kinds"] (jEW K):=by
 refine F.ok jB3 (fun vs H Q E h=>?_) (fun cdv A outer s H vs Q E hr h=>?_)
 ·obtain⟨c,n,kl,k0,k1,rfl,_⟩:=h
  rfl
 obtain⟨c,n,kl,k0,k1,rfl,hk,n1,n6,q⟩:=h
 have z2:2<=sizeLine:=small (by decide)
 have z3:3<=sizeLine:=small (by decide)
 have z4:4<=sizeLine:=small (by decide)
 have z6:6<=sizeLine:=small (by decide)
 exists _,(jAd (psA (i:=3) jB3.nd (jAV (jAa jAm (jAa jAm (jAa jAm (jAa (jAp jIx jAm (jB4 jK3 rfl T.bJ bt_str (jAa (jAp jAO jAe (jAv Daf hr.m rfl (jAa (pv 0) (jAa jAe (jAa jAe jAc))))) jAc))) jAc)))))) (jAd (psA (i:=4) jB3.nd jBk) (jAd (jAE (tcA jGE (jAv Daf hr.m rfl (jAa (pv 0) (jAa jAe (jAa jAe jAc)))) jAe) (jAd (psA (i:=5) jB3.nd (jAp jAO jAe (jAv Daf hr.m rfl (jAa (pv 0) (jAa jAe (jAa (pv 1) jAc)))))) (jAf (psA (i:=4) jB3.nd (jAN (jAa (pv 5) (jAa (jAp jAO (pv 5) (jAv Daf hr.m rfl (jAa (pv 0) (jAa jAe (jAa (jAp jAO (jAp jB_ (pv 1) (pv 5)) jAe) jAc))))) jAc)))))) jAw) (jAd (psA (i:=6) jB3.nd (ixA jCX (jAV (jAa jBk (jAa (ixA jAD (pv 2) jAe) (jAa (ixA jAD (pv 2) jAe) (jAa (ixA jAD (pv 2) jAe) jAc))))) (jAv Daf hr.m rfl (jAa (pv 0) (jAa jAe (jAa jAe jAc)))))) (jAf (jAo (jAN (jAa (pv 1) (jAa (jAp jAO jAe (jAv Daf hr.m rfl (jAa (pv 0) (jAa jAe (jAa jAe jAc))))) (jAa (ixA jCX (pv 3) (jAv Daf hr.m rfl (jAa (pv 0) (jAa jAe (jAa jAe jAc))))) (jAa (ixA jAD (pv 2) jAe) (jAa (pv 6) (jAa (pv 4) jAc)))))))))))))
 obtain⟨w',ew,w1,w2⟩:∃ u:Nat,2+jDx c 2 3=(u:Int)/\2<=u/\u<=16:=by
  have:=jFC (c:=c) (k:=2) (show (0:Int)<3 by decide)
  have:=jFD (c:=c) (k:=2) (show (0:Int)<3 by decide)
  exact⟨(2+jDx c 2 3).toNat,by omega,by omega,by omega⟩
 have ws:=jOB w' (by omega)
 refine⟨_,rfl,c,2,3,rfl,by decide,by decide,by decide,fun H2 s2=>⟨_,_,rfl,rfl,_,rfl,(by show (2+jDx c 2 3).natAbs.log2<1920;rw [ew];exact ws.1),_,_,rfl,rfl,(by show (Str.ofString "up:").length+(Str.ofString (toString (2+jDx c 2 3))).length<=sizeLine;rw [ew];exact small ws.2),z4,fun ll nll=>?_⟩⟩
 dsimp only [jBJ]
 rw [ew]
 rw [show Str.ofString "up:" ++ Str.ofString (toString (w':Int))=Ly.text (.up w') from rfl]
 have s3:=jAj nll (.lst [V.str (Str.ofString "one"),.str (Str.ofString "one"),.str (Str.ofString "both"),.str (Ly.text (.up w'))])
 have hll:upd H2 ll (.lst [V.str (Str.ofString "one"),.str (Str.ofString "one"),.str (Str.ofString "both"),.str (Ly.text (.up w'))]) ll=some (.lst [V.str (Str.ofString "one"),.str (Str.ofString "one"),.str (Str.ofString "both"),.str (Ly.text (.up w'))]):=jAb
 generalize upd H2 ll (.lst [V.str (Str.ofString "one"),.str (Str.ofString "one"),.str (Str.ofString "both"),.str (Ly.text (.up w'))])=H3 at s3 hll ⊢
 have s03:=s2.trans s3
 refine jBp (fun σ G=>G=H3/\σ=[some (.int c),some (.int (n:Int)),some (.ref kl),some (.ref ll),some .non,none,none]) (fun R hR=>hR _ _ ⟨rfl,rfl⟩) (fun σ G z=>?_)
 obtain⟨rfl,rfl⟩:=z
 refine jBp (fun σ G'=>jAn G G'/\∃ (cv:V) (col:Option (Int×Int)) (v5:Option V),jE6 G' cv col/\σ=[some (.int c),some (.int (n:Int)),some (.ref kl),some (.ref ll),some cv,v5,none]) (fun R hR=>?_) (fun σ G4 z=>?_)
 ·refine⟨_,rfl,c,3,4,rfl,by decide,by decide,by decide,fun G1 t1=>⟨_,_,rfl,rfl,_,rfl,jDK (fun _=>?_) (fun _=>hR _ _ ⟨t1,.non,none,_,rfl,rfl⟩)⟩⟩
  refine⟨_,rfl,_,rfl,c,4,(n:Int),rfl,by decide,by decide,by omega,fun G2 t2=>⟨_,_,rfl,rfl,?_⟩⟩
  have l0:=jFC (c:=c) (k:=4) (show (0:Int)<n by omega)
  have l1:=jFD (c:=c) (k:=4) (show (0:Int)<n by omega)
  dsimp only [jBJ]
  generalize hlow:1+jDx c 4 (n:Int)=low
  refine⟨_,rfl,_,rfl,_,rfl,_,rfl,_,rfl,_,_,rfl,rfl,_,_,rfl,rfl,c,5,_,rfl,by decide,by decide,(by show 0<(n:Int)-low+1;omega),fun G3 t3=>⟨_,_,rfl,rfl,z2,fun t nt=>?_⟩⟩
  exact hR _ _ ⟨((t1.trans t2).trans t3).trans (jAj nt _),.ref t,some (low,_),_,⟨t,rfl,jAb⟩,rfl⟩
 obtain⟨s4,cv,col,v5,hcol,rfl⟩:=z
 have s04:=s03.trans s4
 refine⟨_,rfl,kl,_,_,_,rfl,rfl,SqL.of (s04 _ _ hk),jAl (j:=1) rfl,_,rfl,kl,_,_,_,rfl,rfl,SqL.of (s04 _ _ hk),jAl (j:=1) rfl,_,rfl,kl,_,_,_,rfl,rfl,SqL.of (s04 _ _ hk),jAl (j:=0) rfl,z4,fun cl ncl=>?_⟩
 have s5:=jAj ncl (.lst [V.non,.str k1,.str k1,.str k0])
 have hcl:upd G4 cl (.lst [V.non,.str k1,.str k1,.str k0]) cl=some (.lst [V.non,.str k1,.str k1,.str k0]):=jAb
 generalize upd G4 cl (.lst [V.non,.str k1,.str k1,.str k0])=G5 at s5 hcl ⊢
 refine⟨_,rfl,c,6,4,rfl,by decide,by decide,by decide,fun G6 s6=>⟨cl,_,_,rfl,rfl,SqL.of (s6 _ _ hcl),jFC (by decide),jFD (by decide),fun v hv=>?_⟩⟩
 obtain⟨cov,rfl,hcov⟩:∃ cov:Option Str,v=oV cov/\∀ z,cov=some z->z=k0\/z=k1:=by
  have hm:=List.mem_of_getElem? hv
  simp only [List.mem_cons,List.not_mem_nil,or_false] at hm
  rcases hm with rfl|rfl|rfl|rfl
  ·exact⟨none,rfl,fun z e=>by cases e⟩
  ·exact⟨some k1,rfl,fun z e=>.inr (Option.some.inj e).symm⟩
  ·exact⟨some k1,rfl,fun z e=>.inr (Option.some.inj e).symm⟩
  ·exact⟨some k0,rfl,fun z e=>.inl (Option.some.inj e).symm⟩
 have s06:=(s04.trans s5).trans s6
 have p0:=jFC (c:=c) (k:=7) (show (0:Int)<3 by decide)
 have p1:=jFD (c:=c) (k:=7) (show (0:Int)<3 by decide)
 refine⟨_,rfl,_,rfl,c,7,3,rfl,by decide,by decide,by decide,fun G7 s7=>⟨_,_,rfl,rfl,_,rfl,_,rfl,c,1,4,rfl,by decide,by decide,by decide,fun G8 s8=>⟨ll,_,_,rfl,rfl,SqL.of ((((s4.trans s5).trans s6).trans (s7.trans s8)) _ _ hll),jFC (by decide),jFD (by decide),fun v hv=>?_⟩⟩⟩
 obtain⟨ly,rfl,okl⟩:∃ ly:Ly,v=.str (Ly.text ly)/\ly.Ok:=by
  have hm:=List.mem_of_getElem? hv
  simp only [List.mem_cons,List.not_mem_nil,or_false] at hm
  rcases hm with rfl|rfl|rfl|rfl
  ·exact⟨.one,rfl,trivial⟩
  ·exact⟨.one,rfl,trivial⟩
  ·exact⟨.both,rfl,trivial⟩
  ·exact⟨.up w',rfl,w1,w2⟩
 have s08:=s06.trans (s7.trans s8)
 refine⟨_,rfl,kl,_,_,_,rfl,rfl,SqL.of (s08 _ _ hk),jAl (j:=0) rfl,_,rfl,_,rfl,z6,fun t nt=>?_⟩
 have s9:=jAj nt (.tup [V.int (n:Int),.int (1+jDx c 7 3),.str (Ly.text ly),.str k0,oV cov,cv])
 have ecp:1+jDx c 7 3=(((1+jDx c 7 3).toNat:Nat):Int):=by omega
 refine q t ⟨n,ly,k0,cov,col⟩ (1+jDx c 7 3).toNat _ (s08.trans s9) ⟨cv,?_,((hcol.same ((s5.trans s6).trans (s7.trans s8))).same s9)⟩ rfl ⟨n1,by show n<=999;omega,okl⟩ (by omega) (by omega) rfl hcov
 rw [<- ecp]
 exact jAb
structure Pd(cP cS cY cM cW:Addr)(H0 H:Hp)(p:Addr)(d:PD):Prop where
 P:jAC cP cS cY cM cW H p d
 r:H d.rm=some (.dK (dI d.rs))
 u1:d.rm≠d.tr2
 u2:d.rm≠d.ik2
 tg:d.tags=[]
 S:d.S=.rd
 n0:H0 p=none
 n1:H0 d.tr1=none
 n2:H0 d.tr2=none
 n3:H0 d.ik1=none
 n4:H0 d.ik2=none
 n5:H0 d.rm=none
 n6:H0 d.ins=none
structure Ab(p q:Addr)(d e:PD):Prop where
 pq:p≠q
 ii:d.ins≠e.ins
 t:Ap d.tr2 e
 k:Ap d.ik2 e
section
variable {cP cS cY cM cW cU cT:Addr}{H0 H1 H H':Hp}{p q z:Addr}{d e:PD}{kv:List (Key×V)}{Q:VK}{E:XK}
theorem Pd.same(h:Pd cP cS cY cM cW H0 H p d)(s:jAn H H'):Pd cP cS cY cM cW H0 H' p d:={ h with P:=h.P.same s,r:=s _ _ h.r }
theorem Pd.old(h:Pd cP cS cY cM cW H1 H p d)(s:jAn H0 H1):Pd cP cS cY cM cW H0 H p d:={ h with n0:=s.free h.n0,n1:=s.free h.n1,n2:=s.free h.n2,n3:=s.free h.n3,n4:=s.free h.n4,n5:=s.free h.n5,n6:=s.free h.n6 }
theorem Pd.ap(h:Pd cP cS cY cM cW H0 H p d){o:HO}(e:H0 z=some o):Ap z d:=⟨(jAg e h.n1).symm,(jAg e h.n2).symm,(jAg e h.n3).symm,(jAg e h.n4).symm,(jAg e h.n5).symm⟩
theorem Pd.ab(h:Pd cP cS cY cM cW H0 H1 p d)(k:Pd cP cS cY cM cW H1 H q e):Ab p q d e/\Ab q p e d:=by
 have t:=h.P.T
 have i:=h.P.I
 have pe:∀ {a b:Addr} {o:HO},H1 a=some o->H1 b=none->a≠b:=fun x y=>jAg x y
 refine⟨⟨pe h.P.o k.n0,pe h.P.n k.n6,k.ap t.2.2.1,k.ap i.2.2.1⟩,⟨(pe h.P.o k.n0).symm,(pe h.P.n k.n6).symm,⟨pe t.2.1 k.n2,pe t.2.2.1 k.n2,pe i.2.1 k.n2,pe i.2.2.1 k.n2,pe h.r k.n2⟩,⟨pe t.2.1 k.n4,pe t.2.2.1 k.n4,pe i.2.1 k.n4,pe i.2.2.1 k.n4,pe h.r k.n4⟩⟩⟩
theorem Pd.off(h:Pd cP cS cY cM cW H0 H q e)(hz:H z=some (.dK kv))(k:∀ b o,b≠z->H b=some o->H' b=some o)(n:Ap z e):Pd cP cS cY cM cW H0 H' q e:={ h with P:=h.P.offd hz k n,r:=k _ _ n.n5 h.r }
theorem Pd.offl{ts:List V}(h:Pd cP cS cY cM cW H0 H q e)(hz:H z=some (.lst ts))(n:z≠e.ins)(k:∀ b o,b≠z->H b=some o->H' b=some o):Pd cP cS cY cM cW H0 H' q e:=by
 obtain⟨⟨dt,t1⟩,t2,t3,t4⟩:=h.P.T
 obtain⟨⟨di,i1⟩,i2,i3,i4⟩:=h.P.I
 obtain⟨ds,hs⟩:=h.P.s
 have kd:∀ {b:Addr} {kv:List (Key×V)},H b=some (.dK kv)->H' b=some (.dK kv):=fun e=>k _ _ (jAu e hz nofun) e
 exact { h with P:={ h.P with o:=k _ _ (jDf h.P.o hz) h.P.o,T:=⟨⟨dt,k _ _ (jDf t1 hz) t1⟩,kd t2,kd t3,t4⟩,I:=⟨⟨di,k _ _ (jDf i1 hz) i1⟩,kd i2,kd i3,i4⟩,s:=⟨ds,k _ _ (jDf hs hz) hs⟩,n:=k _ _ n.symm h.P.n },r:=kd h.r }
theorem mk_pr{cl pp:Addr}{nm:Str}{path rb rc:Int}{cs:List V}{rs:List (Str×Int)}(hcl:H cl=some (.lst cs))(hpp:H pp=some (.dK (dI rs)))(nd:(rs.map (·.1)).Nodup)(ln:rs.length<=900){x dx:Addr}(nx:H x=none)(ndx:H dx=none)(nxd:dx≠x)(z:∀ d H',jAn H H'->Pd cP cS cY cM cW H H' x d->d.path=path->d.rs=rs->d.am=rs.map (fun p=>(p.1,0))->d.rb=rb->d.rc=rc->d.b=0->d.c=0->Q .non H'):jE5 cP cS cY cM cW [.ref x,.str nm,.ref cl,.int path,.ref pp,.int rb,.int rc] (upd (upd H dx (.own x)) x (.ins cP dx [])) Q E:=by
 have ki:∀ b o,H b=some o->b≠x/\upd (upd H dx (.own x)) x (.ins cP dx []) b=some o:=fun b o e=>by
  have b1:b≠x:=jAg e nx
  exact⟨b1,by rw [jAi b1,jAi (jAg e ndx)];exact e⟩
 have fk:∀ b,upd (upd H dx (.own x)) x (.ins cP dx []) b=none->H b=none:=fun b nb=>by
  cases e:H b with
  | none=>rfl
  | some o=>rw [(ki b o e).2] at nb;cases nb
 exact⟨x,dx,cl,pp,nm,path,rb,rc,cs,rs,rfl,jAb,(ki _ _ hcl).2,(ki _ _ hpp).2,nd,ln,fun d G kp P' _ ep ers eam erb erc eb ec etg eS n1 n2 n3 n4 n5 _ _ _ _ n6 _ hr u1 u2=>z d G (fun b o e=>kp b o (ki b o e).1 (ki b o e).2) ⟨P',by rw [ers];exact hr,u1,u2,etg,eS,nx,fk _ n1,fk _ n2,fk _ n3,fk _ n4,fk _ n6,fk _ n5⟩ ep ers eam erb erc eb ec⟩
theorem jLW{am:List (Str×Int)}{k:Str}{A:Int}(h:Pd cP cS cY cM cW H0 H p { d with am:=am })(h2:Pd cP cS cY cM cW H0 H q e)(ab:Ap d.tr2 e)(er:d.rs.lookup k=some 999)(ea:am.lookup k=some 0)(A9:A<=999)(s0:jAn H0 H)(z:∀ H',jAn H0 H'->(∀ b ts,H b=some (.lst ts)->H' b=some (.lst ts))->Pd cP cS cY cM cW H0 H' p { d with am:=jAT am k A }->Pd cP cS cY cM cW H0 H' q e->Q .non H'):jDs cU cT cP cS cY cM cW [.ref p,.str k,.int A] H Q E:=by
 refine⟨p,_,k,A,rfl,h.P,fun n=>absurd (jBF er) n,fun R A' eR eA=>?_⟩
 obtain rfl:(999:Int)=R:=Option.some.inj (er.symm.trans eR)
 obtain rfl:(0:Int)=A':=Option.some.inj (ea.symm.trans eA)
 refine⟨fun n=>absurd n (by omega),fun _ H' kx P'=>z H' (fun b o e=>kx b o (jAg e h.n2) (s0 _ _ e)) (fun b ts e=>kx _ _ (jAu e h.P.T.2.2.1 nofun) e) ?_ (h2.off h.P.T.2.2.1 kx ab)⟩
 rw [Int.zero_add] at P'
 exact { h with P:=P',r:=kx _ _ h.u1 h.r }
theorem jLX{b c:Int}(h:Pd cP cS cY cM cW H0 H p d)(h2:Pd cP cS cY cM cW H0 H q e)(ab:Ap d.ik2 e)(e1:d.rb=2000)(e2:d.rc=2000)(e3:d.b=0)(e4:d.c=0)(b9:b<=2000)(c9:c<=2000)(s0:jAn H0 H)(z:∀ H',jAn H0 H'->(∀ b ts,H b=some (.lst ts)->H' b=some (.lst ts))->Pd cP cS cY cM cW H0 H' p { d with b:=b,c:=c }->Pd cP cS cY cM cW H0 H' q e->Q .non H'):jDt cT cP cS cY cM cW [.ref p,.int b,.int c] H Q E:=by
 refine⟨p,_,b,c,rfl,h.P,fun n=>absurd n (by omega),fun _ n=>absurd n (by omega),fun _ _ H' kx P'=>z H' (fun b o e=>kx b o (jAg e h.n4) (s0 _ _ e)) (fun b ts e=>kx _ _ (jAu e h.P.I.2.2.1 nofun) e) ?_ (h2.off h.P.I.2.2.1 kx ab)⟩
 rw [e3,e4,Int.zero_add,Int.zero_add] at P'
 exact { h with P:=P',r:=kx _ _ h.u2 h.r }
end
theorem lk2{k0 k1:Str}(h:k0≠k1)(v w:Int):([(k0,v),(k1,w)]:List (Str×Int)).lookup k0=some v/\([(k0,v),(k1,w)]:List (Str×Int)).lookup k1=some w:=⟨by rw [List.lookup_cons,beq_self_eq_true],by rw [List.lookup_cons,beq_eq_false_iff_ne.mpr h.symm,List.lookup_cons,beq_self_eq_true]⟩
theorem nd2{k0 k1:Str}(h:k0≠k1):[k0,k1].Nodup:=List.nodup_cons.mpr ⟨fun m=>h (List.mem_singleton.mp m),List.nodup_cons.mpr ⟨List.not_mem_nil,List.nodup_nil⟩⟩
theorem nd2k{k0 k1:Str}(h:k0≠k1):[(Sum.inr k0:Key),Sum.inr k1].Nodup:=jHd (nd2 h)
theorem look9{ks:List Str}{v:Int}{k:Str}(h:k∈ks):(ks.map fun k=>(k,v)).lookup k=some v:=by
 induction ks with
 | nil=>cases h
 | cons a r ih =>
   rw [List.map_cons,List.lookup_cons]
   by_cases c:k=a
   ·rw [beq_iff_eq.mpr c]
   ·rw [beq_eq_false_iff_ne.mpr c]
    rcases List.mem_cons.mp h with e|e
    ·exact absurd e c
    ·exact ih e
structure Ld(M am:List (Str×Int))(ks done:List Str):Prop where
 k:am.map (·.1)=ks
 d:∀ k,k∈ks->k∈done->am.lookup k=M.lookup k
 n:∀ k,k∈ks->k ∉ done->am.lookup k=some 0
theorem Ld.go{M am:List (Str×Int)}{ks done:List Str}{k:Str}{A:Int}(h:Ld M am ks done)(hk:k∈ks)(e:M.lookup k=some A):Ld M (jAT am k A) ks (done++[k]):=by
 have i:k∈am.map (·.1):=by rw [h.k];exact hk
 refine⟨by rw [jEv,h.k],fun n hn hd=>?_,fun n hn hd=>?_⟩
 ·by_cases c:n=k
  ·rw [c,jFW i,e]
  ·rw [jDh c]
   rcases List.mem_append.mp hd with x|x
   ·exact h.d n hn x
   ·exact absurd (List.mem_singleton.mp x) c
 ·have c:n≠k:=fun z=>hd (List.mem_append.mpr (.inr (List.mem_singleton.mpr z)))
  rw [jDh c]
  exact h.n n hn fun z=>hd (List.mem_append.mpr (.inl z))
inductive jDb(K:PySem.W.Frag)(cR cJ cO cX cU cN cD cT cP cS cY cM cW:Addr)(vs:List V)(H:Hp)(Q:VK)(E_:XK):Prop|mk (sc kl dm:Addr) (ns:List Int) (m:M5) (k0 k1:Str) (A0 A1:Int):vs=[.ref sc,.ref kl,.ref dm]->SqL K H sc (ns.map V.int)->H kl=some (.lst [.str k0,.str k1])->k0≠k1->H dm=some (.dK m.kv)->H m.mp=some (.dK (dI m.M))->m.M=[(k0,A0),(k1,A1)]->A0<=999->A1<=999->m.b<=2000->m.c<=2000->(∀ l p q d e H',jAn H H'->H l=none->H' l=some (.lst [.ref p,.ref q])->Pd cP cS cY cM cW H H' p d->Pd cP cS cY cM cW H H' q e->Ab p q d e->Ab q p e d->l≠d.ins->l≠e.ins->d.path=m.P->e.path=2->(∃ ks,(ks=[k1,k0]\/ks=[k1])/\d.rs=ks.map (fun k=>(k,999))/\Ld m.M d.am ks ks)->e.rs=[k0,k1].map (fun k=>(k,999))->Ld m.M e.am [k0,k1] [k0,k1]->d.rb=2000->d.rc=2000->e.rb=2000->e.rc=2000->d.b=m.b->d.c=m.c->e.b=m.b->e.c=m.c->Q (.ref l) H')->jDb K cR cJ cO cX cU cN cD cT cP cS cY cM cW vs H Q E_
theorem jBC:jAk ["_law_script","_law_kinds","_law_m","_law_rooms","_law_printers_here","_law_kind"] ["_law_script","_law_kinds","_law_m"] (jAh jDn):=scM
include T in
theorem jIr(F:Fun K "_law_printers" "_law_printers" jDn fa fd)(DaS:MkD P w K mg base 4 "Printer" cZ ["self","name","can","path","papers","black","colour"] (jE5 cZ cQ yJ yW yU))(Dae:Dfn P w K mg base 1 "_law_cell_at" ["_law_script","_law_k"] (jCt K))(Daq:MtE P w K mg base 7 "load" cZ ["self","kind","many"] (jDs vG vU cZ cQ yJ yW yU))(Dan:MtE P w K mg base 6 "fill" cZ ["self","black","coloured"] (jDt vU cZ cQ yJ yW yU)) :
 jAr P w K mg base CX0 8 fa fd ["_law_script","_law_kinds","_law_m"] (jDb K yK yG vW vJ vG vY cG vU cZ cQ yJ yW yU):=by
 refine F.ok jBC (fun vs H Q E h=>?_) (fun cdv A outer s H vs Q E hr h=>?_)
 ·obtain⟨sc,kl,dm,ns,m,k0,k1,A0,A1,rfl,_⟩:=h
  rfl
 obtain⟨sc,kl,dm,ns,m,k0,k1,A0,A1,rfl,hS,hk,k01,hm,hp,eM,a0,a1,mb,mc,z⟩:=h
 have hu:=jCZ hr 0 (by decide)
 exists _,(jAd (psA (i:=3) jBC.nd (jDd (jBf (ixA jAD (pv 1) jAe) jAe (jBf (ixA jAD (pv 1) jAe) jAe jDc)) rfl rfl (by decide) (by decide))) (jAd (jAE (tcA jA9 (jAp jA7 (jAv Dae hr.m rfl (jAa (pv 0) (jAa jAe jAc))) jAe) jAe) (jAf (psA (i:=3) jBC.nd (jDd (jBf (ixA jAD (pv 1) jAe) jAe jDc) rfl rfl (by decide) (by decide)))) jAw) (jAd (psA (i:=4) jBC.nd (jAV (jAa (jCh DaS hr.m rfl (jAa jAm (jAa (jAV (jAa jAm jAc)) (jAa (dgA hu (pv 2) jAm) (jAa (pv 3) (jAa jAe (jAa jAe jAc))))))) jAc))) (jAd (jAy (jE0 PySem.F.plainAttrs_list PySem.F.slot_list_append PySem.F.type_list_append jFL (pv 4) (jAa (jCh DaS hr.m rfl (jAa jAm (jAa (jAV jAc) (jAa jAe (jAa (jDd (jBf (ixA jAD (pv 1) jAe) jAe (jBf (ixA jAD (pv 1) jAe) jAe jDc)) rfl rfl (by decide) (by decide)) (jAa jAe (jAa jAe jAc))))))) jAc))) (jAd (jBS PassesOwn.never rfl (jBt (jAQ (jKz rfl) rfl T.bM bt_sorted (jAa (pv 3) jAc))) (pgA (i:=5) jBC.nd) (jAf (jAy (jAF 7 jAL hr.m (ixA jAD (pv 4) jAe) (jAa (pv 5) (jAa (dgA hu (dgA hu (pv 2) jAm) (pv 5)) jAc)))))) (jAd (jAy (jAF 6 jAL hr.m (ixA jAD (pv 4) jAe) (jAa (dgA hu (pv 2) jAm) (jAa (dgA hu (pv 2) jAm) jAc)))) (jAd (jBS PassesOwn.never rfl (jBt (pv 1)) (pgA (i:=5) jBC.nd) (jAf (jAy (jAF 7 jAL hr.m (ixA jAD (pv 4) jAe) (jAa (pv 5) (jAa (dgA hu (dgA hu (pv 2) jAm) (pv 5)) jAc)))))) (jAd (jAy (jAF 6 jAL hr.m (ixA jAD (pv 4) jAe) (jAa (dgA hu (pv 2) jAm) (jAa (dgA hu (pv 2) jAm) jAc)))) (jAf (jAo (pv 4)))))))))))
 have hM:∀ k,k=k0\/k=k1->∃ A,m.M.lookup k=some A/\A<=999:=fun k hk=>by
  rw [eM]
  rcases hk with rfl|rfl
  ·exact⟨A0,(lk2 k01 _ _).1,a0⟩
  ·exact⟨A1,(lk2 k01 _ _).2,a1⟩
 refine jBp (fun σ G=>∃ rd ks,(ks=[k1,k0]\/ks=[k1])/\σ=[some (.ref sc),some (.ref kl),some (.ref dm),some (.ref rd),none,none]/\jAn H G/\G rd=some (.dK (dI (ks.map fun k=>(k,999))))) (fun R hR=>?_) (fun σ G y=>?_)
 ·refine fun rd nrd=>?_
  have s2:=jAj nrd (.dK [])
  have hrd1:upd H rd (.dK []) rd=some (.dK []):=jAb
  have hk2:=s2 _ _ hk
  refine⟨_,rfl,kl,_,_,_,rfl,rfl,SqL.of hk2,jAl (j:=1) rfl,_,rfl,kl,_,_,_,rfl,rfl,SqL.of hk2,jAl (j:=0) rfl,hrd1,[(Sum.inr k1,.int 999),(Sum.inr k0,.int 999)],rfl,(by show 2<=15;decide),?_⟩
  rw [jCJ (ks:=[Sum.inr k1,Sum.inr k0]) rfl (nd2k k01.symm)]
  exact hR _ _ ⟨rd,[k1,k0],.inl rfl,rfl,jCa nrd s2 _,jAb⟩
 obtain⟨rd0,ks0,hks0,rfl,sG,hrd0⟩:=y
 refine jBp (fun σ G=>∃ rd ks,(ks=[k1,k0]\/ks=[k1])/\σ=[some (.ref sc),some (.ref kl),some (.ref dm),some (.ref rd),none,none]/\jAn H G/\G rd=some (.dK (dI (ks.map fun k=>(k,999))))) (fun R hR=>?_) (fun σ G1 y=>?_)
 ·refine⟨_,rfl,sc,4,ns,rfl,sG.seq hS,by decide,_,_,rfl,rfl,(by show (0:Int)<5;decide),rfl,_,rfl,jDK (fun _=>?_) (fun _=>hR _ _ ⟨rd0,ks0,hks0,rfl,sG,hrd0⟩)⟩
  refine fun rd nrd=>?_
  have s2:=jAj nrd (.dK [])
  have hrd1:upd G rd (.dK []) rd=some (.dK []):=jAb
  have hk2:=s2 _ _ (sG _ _ hk)
  refine⟨_,rfl,kl,_,_,_,rfl,rfl,SqL.of hk2,jAl (j:=1) rfl,hrd1,[(Sum.inr k1,.int 999)],rfl,(by show 1<=15;decide),?_⟩
  rw [jCJ (ks:=[Sum.inr k1]) rfl (List.nodup_cons.mpr ⟨List.not_mem_nil,List.nodup_nil⟩)]
  exact hR _ _ ⟨rd,[k1],.inr rfl,rfl,sG.trans (jCa nrd s2 _),jAb⟩
 clear hrd0 hks0 sG
 obtain⟨rd,ks,hks,rfl,sG,hrd⟩:=y
 have ksM:∀ k∈ks,k=k0\/k=k1:=by
  rcases hks with rfl|rfl<;>intro k h<;>simp at h<;>grind
 have ksN:ks.Nodup/\ks.length<=2:=by
  rcases hks with rfl|rfl
  ·exact⟨nd2 k01.symm,Nat.le_refl _⟩
  ·exact⟨List.nodup_cons.mpr ⟨List.not_mem_nil,List.nodup_nil⟩,by show 1<=2;decide⟩
 have rk:∀ l:List Str,((l.map fun k=>(k,(999:Int))).map (·.1))=l:=fun l=>by rw [List.map_map];exact List.map_id l
 have r0:∀ l:List Str,((l.map fun k=>(k,(999:Int))).map fun p=>(p.1,(0:Int)))=l.map fun k=>(k,0):=fun l=>by rw [List.map_map];rfl
 have l0:∀ l:List Str,Ld m.M (l.map fun k=>(k,0)) l []:=fun l=>⟨by rw [List.map_map];exact List.map_id l,(fun k _ h=>by cases h),fun k h _=>look9 h⟩
 -- the first printer
 refine jBp (fun σ G'=>∃ l p d,σ=[some (.ref sc),some (.ref kl),some (.ref dm),some (.ref rd),some (.ref l),none]/\jAn G1 G'/\G1 l=none/\G' l=some (.lst [.ref p])/\Pd cZ cQ yJ yW yU G1 G' p d/\l≠d.ins/\d.path=m.P/\d.rs=ks.map (fun k=>(k,999))/\d.am=ks.map (fun k=>(k,0))/\d.rb=2000/\d.rc=2000/\d.b=0/\d.c=0) (fun R hR=>?_) (fun σ G2 y=>?_)
 ·refine⟨wq1,fun cl ncl=>?_⟩
  have s1:=jAj ncl (.lst [.str "both"])
  have hcl:upd G1 cl (.lst [.str "both"]) cl=some (.lst [.str "both"]):=jAb
  generalize upd G1 cl (.lst [.str "both"])=Ga at s1 hcl ⊢
  exists _,rfl,dm,_,rfl,jNY (s1 _ _ (sG _ _ hm)),_,rfl
  refine fun p dx nx ndx nxd=>mk_pr hcl (s1 _ _ hrd) (by rw [rk];exact ksN.1) (by rw [List.length_map];omega) nx ndx nxd (fun d Gb sb PD ep ers eam erb erc eb ec=>⟨rfl,?_⟩)
  refine⟨wq1,fun l nl=>?_⟩
  have s3:=jAj nl (.lst [.ref p])
  exact hR _ _ ⟨l,p,d,rfl,(s1.trans sb).trans s3,(s1.trans sb).free nl,jAb,(PD.old s1).same s3,(jAg PD.P.n nl).symm,ep,ers,eam.trans (r0 ks),erb,erc,eb,ec⟩
 obtain⟨l,p,d,rfl,s12,nl,hl,PD,ld,ep,ers,eam,erb,erc,eb,ec⟩:=y
 have sG2:=sG.trans s12
 -- the other
 refine jBp (fun σ G'=>∃ q e,σ=[some (.ref sc),some (.ref kl),some (.ref dm),some (.ref rd),some (.ref l),none]/\jAn G1 G'/\G' l=some (.lst [.ref p,.ref q])/\Pd cZ cQ yJ yW yU G1 G' p d/\Pd cZ cQ yJ yW yU G1 G' q e/\Ab p q d e/\Ab q p e d/\l≠e.ins/\e.path=2/\e.rs=[k0,k1].map (fun k=>(k,999))/\e.am=[k0,k1].map (fun k=>(k,0))/\e.rb=2000/\e.rc=2000/\e.b=0/\e.c=0) (fun R hR=>?_) (fun σ G3 y=>?_)
 ·refine⟨_,rfl,.inl ⟨rfl,_,SqL.of hl⟩,small (Nat.zero_le _),fun cl ncl=>?_⟩
  have s1:=jAj ncl (.lst [])
  have hcl:upd G2 cl (.lst []) cl=some (.lst []):=jAb
  generalize upd G2 cl (.lst [])=Ga at s1 hcl ⊢
  refine fun rd' nrd=>?_
  have s2:=jAj nrd (.dK [])
  have hrd1:upd Ga rd' (.dK []) rd'=some (.dK []):=jAb
  have hk2:=s2 _ _ (s1 _ _ (sG2 _ _ hk))
  refine⟨_,rfl,kl,_,_,_,rfl,rfl,SqL.of hk2,jAl (j:=0) rfl,_,rfl,kl,_,_,_,rfl,rfl,SqL.of hk2,jAl (j:=1) rfl,hrd1,[(Sum.inr k0,.int 999),(Sum.inr k1,.int 999)],rfl,(by show 2<=15;decide),?_⟩
  rw [jCJ (ks:=[Sum.inr k0,Sum.inr k1]) rfl (nd2k k01)]
  have s3:jAn Ga (upd (upd Ga rd' (.dK [])) rd' (.dK ([]++[((Sum.inr k0:Key),V.int 999),(Sum.inr k1,V.int 999)]))):=jCa nrd s2 _
  have hrd':upd (upd Ga rd' (.dK [])) rd' (.dK ([]++[((Sum.inr k0:Key),V.int 999),(Sum.inr k1,V.int 999)])) rd'=some (.dK (dI ([k0,k1].map fun k=>(k,999)))):=jAb
  generalize upd (upd Ga rd' (.dK [])) rd' (.dK ([]++[((Sum.inr k0:Key),V.int 999),(Sum.inr k1,V.int 999)]))=Gb at s3 hrd' ⊢
  have s13:=s1.trans s3
  refine fun q dx nx ndx nxd=>mk_pr (s3 _ _ hcl) hrd' (by rw [rk];exact nd2 k01) (by show 2<=900;decide) nx ndx nxd (fun e Gc sc' PE ep' ers' eam' erb' erc' eb' ec'=>⟨rfl,?_⟩)
  have s14:=s13.trans sc'
  refine⟨l,_,_,rfl,rfl,s14 _ _ hl,jAW (by show 1<=1000;decide),?_⟩
  have ab:=(PD.same s13).ab PE
  have lP:l≠e.ins:=jAg (s13 _ _ hl) PE.n6
  have hlc:=s14 _ _ hl
  have kl':∀ b o,b≠l->Gc b=some o->upd Gc l (.lst [.ref p,.ref q]) b=some o:=fun b o n e=>by rw [jAi n];exact e
  exact hR _ _ ⟨q,e,rfl,jCa nl (s12.trans s14) _,jAb,(PD.same s14).offl hlc ld kl',(PE.offl hlc lP kl').old (s12.trans s13),ab.1,ab.2,lP,ep',ers',eam'.trans (r0 [k0,k1]),erb',erc',eb',ec'⟩
 clear hl PD
 obtain⟨q,e,rfl,s13,hl,PD,PE,ab1,ab2,le,ep',ers',eam',erb',erc',eb',ec'⟩:=y
 have lkr:∀ {l:List Str} {k:Str} {rs:List (Str×Int)},rs=l.map (fun k=>(k,(999:Int)))->k∈l->rs.lookup k=some 999:=fun e h=>by rw [e];exact look9 h
 -- the first is loaded
 refine jBp (fun σ G'=>∃ am v5,σ=[some (.ref sc),some (.ref kl),some (.ref dm),some (.ref rd),some (.ref l),v5]/\jAn G1 G'/\G' l=some (.lst [.ref p,.ref q])/\Pd cZ cQ yJ yW yU G1 G' p { d with am:=am }/\Pd cZ cQ yJ yW yU G1 G' q e/\Ld m.M am ks ks) (fun R hR=>?_) (fun σ G4 y=>?_)
 ·refine⟨_,rfl,rd,_,ks,rfl,s13 _ _ hrd,?_,?_,fun ls ss nls perm _=>?_⟩
  ·unfold dI
   rw [List.map_map,List.map_map]
   exact List.map_congr_left fun k _=>rfl
  ·have:=ksN.2
   omega
  have s4:=jAj nls (.lst (ss.map V.str))
  have hls:upd G3 ls (.lst (ss.map V.str)) ls=some (.lst (ss.map V.str)):=jAb
  generalize upd G3 ls (.lst (ss.map V.str))=Ga at s4 hls ⊢
  refine⟨ls,rfl,⟨_,SqL.of hls⟩,jBK (K:=K) (a:=ls) (xs:=ss.map V.str) (fun i σ G'=>∃ am v5,σ=[some (.ref sc),some (.ref kl),some (.ref dm),some (.ref rd),some (.ref l),v5]/\jAn G1 G'/\G' ls=some (.lst (ss.map V.str))/\G' l=some (.lst [.ref p,.ref q])/\Pd cZ cQ yJ yW yU G1 G' p { d with am:=am }/\Pd cZ cQ yJ yW yU G1 G' q e/\Ld m.M am ks (ss.take i)) ⟨d.am,_,rfl,s13.trans s4,hls,s4 _ _ hl,PD.same s4,PE.same s4,by rw [eam];exact l0 ks⟩ (fun i σ G' _ y=>?_) (fun i y σ G' hy y'=>?_) (fun σ G' y=>?_)⟩
  ·obtain⟨_,_,_,_,h,_⟩:=y
   exact SqL.of h
  ·obtain⟨am,v5,rfl,sG',hls',hl',PD',PE',L'⟩:=y'
   rw [List.getElem?_map] at hy
   obtain⟨k,ek,rfl⟩:=Option.map_eq_some_iff.mp hy
   have hk':k∈ks:=perm.mem_iff.mp (List.mem_of_getElem? ek)
   obtain⟨A,eA,A9⟩:=hM k (ksM k hk')
   have nd:=perm.nodup_iff.mpr ksN.1
   have ni:k ∉ ss.take i:=fun z=>by
    obtain⟨j,hj⟩:=List.getElem?_of_mem z
    rw [List.getElem?_take] at hj
    split at hj
    ·next lt =>
     have:=(List.getElem?_inj (by exact (List.getElem?_eq_some_iff.mp ek).1) nd).mp (ek.trans hj.symm)
     omega
    ·cases hj
   have sH:=sG.trans sG'
   exists _,rfl,l,_,_,_,rfl,rfl,SqL.of hl',jAl (j:=0) rfl,p,_,_,_,_,_,rfl,PD'.P.o,rfl,T.ac,Daq,_,rfl,_,rfl,dm,_,rfl,jCE (sH _ _ hm),_,rfl,m.mp,_,rfl,jGz (sH _ _ hp) eA
   dsimp only [jCx]
   refine jLW PD' PE' ab1.t (lkr ers hk') (L'.n k hk' ni) A9 sG' fun G5 s5 k5 P5 E5=>?_
   exists _,_,rfl,s5,k5 _ _ hls',k5 _ _ hl',P5,E5
   rw [List.take_add_one,ek]
   exact L'.go hk' eA
  ·obtain⟨am,v5,rfl,sG',_,hl',PD',PE',L'⟩:=y
   rw [List.length_map,List.take_length] at L'
   exact hR _ _ ⟨am,v5,rfl,sG',hl',PD',PE',⟨L'.k,fun k h _=>L'.d k h (perm.mem_iff.mpr h),fun k h n=>absurd h n⟩⟩
 clear hl PD PE
 obtain⟨am,v5,rfl,s14,hl,PD,PE,L1⟩:=y
 have sH:=sG.trans s14
 exists _,rfl,l,_,_,_,rfl,rfl,SqL.of hl,jAl (j:=0) rfl,p,_,_,_,_,_,rfl,PD.P.o,rfl,T.ac,Dan,_,rfl,dm,_,rfl,jGy (sH _ _ hm),_,rfl,dm,_,rfl,jFJ (sH _ _ hm)
 dsimp only [jCx]
 refine jLX PD PE ab1.k erb erc eb ec mb mc s14 fun G5 s15 k5 P5 E5=>?_
 -- the other is loaded
 have ap:∀ {z:Addr},Ap z d->Ap z { d with am:=am,b:=m.b,c:=m.c }:=fun h=>⟨h.n1,h.n2,h.n3,h.n4,h.n5⟩
 have hl5:=k5 _ _ hl
 have hk5:=(sG.trans s15) _ _ hk
 refine⟨_,rfl,kl,rfl,⟨_,SqL.of hk5⟩,jBK (K:=K) (a:=kl) (xs:=[k0,k1].map V.str) (fun i σ G'=>∃ bm v5,σ=[some (.ref sc),some (.ref kl),some (.ref dm),some (.ref rd),some (.ref l),v5]/\jAn G1 G'/\G' l=some (.lst [.ref p,.ref q])/\Pd cZ cQ yJ yW yU G1 G' p { d with am:=am,b:=m.b,c:=m.c }/\Pd cZ cQ yJ yW yU G1 G' q { e with am:=bm }/\Ld m.M bm [k0,k1] ([k0,k1].take i)) ⟨e.am,_,rfl,s15,hl5,P5,E5,by rw [eam'];exact l0 [k0,k1]⟩ (fun i σ G' _ y=>?_) (fun i y σ G' hy y'=>?_) (fun σ G' y=>?_)⟩
 ·obtain⟨_,_,_,h,_⟩:=y
  exact SqL.of ((sG.trans h) _ _ hk)
 ·obtain⟨bm,v5,rfl,sG',hl',PD',PE',L'⟩:=y'
  rw [List.getElem?_map] at hy
  obtain⟨k,ek,rfl⟩:=Option.map_eq_some_iff.mp hy
  have hk':k∈[k0,k1]:=List.mem_of_getElem? ek
  obtain⟨A,eA,A9⟩:=hM k (by simpa using hk')
  have ni:k ∉ [k0,k1].take i:=fun z=>by
   obtain⟨j,hj⟩:=List.getElem?_of_mem z
   rw [List.getElem?_take] at hj
   split at hj
   ·next lt =>
    have:=(List.getElem?_inj (by exact (List.getElem?_eq_some_iff.mp ek).1) (nd2 k01)).mp (ek.trans hj.symm)
    omega
   ·cases hj
  have sH:=sG.trans sG'
  exists _,rfl,l,_,_,_,rfl,rfl,SqL.of hl',jAl (j:=1) rfl,q,_,_,_,_,_,rfl,PE'.P.o,rfl,T.ac,Daq,_,rfl,_,rfl,dm,_,rfl,jCE (sH _ _ hm),_,rfl,m.mp,_,rfl,jGz (sH _ _ hp) eA
  dsimp only [jCx]
  refine jLW PE' PD' (ap ab2.t) (lkr ers' hk') (L'.n k hk' ni) A9 sG' fun G6 s6 k6 P6 E6=>?_
  exists _,_,rfl,s6,k6 _ _ hl',E6,P6
  rw [List.take_add_one,ek]
  exact L'.go hk' eA
 ·obtain⟨bm,v5,rfl,sG',hl',PD',PE',L'⟩:=y
  have sH:=sG.trans sG'
  exists _,rfl,l,_,_,_,rfl,rfl,SqL.of hl',jAl (j:=1) rfl,q,_,_,_,_,_,rfl,PE'.P.o,rfl,T.ac,Dan,_,rfl,dm,_,rfl,jGy (sH _ _ hm),_,rfl,dm,_,rfl,jFJ (sH _ _ hm)
  dsimp only [jCx]
  refine jLX PE' PD' (ap ab2.k) erb' erc' eb' ec' mb mc sG' fun G6 s6 k6 P6 E6=>?_
  exact⟨_,rfl,z l p q _ _ G6 (sG.trans s6) (sG.free nl) (k6 _ _ hl') (E6.old sG) (P6.old sG) ⟨ab1.pq,ab1.ii,⟨ab1.t.n1,ab1.t.n2,ab1.t.n3,ab1.t.n4,ab1.t.n5⟩,⟨ab1.k.n1,ab1.k.n2,ab1.k.n3,ab1.k.n4,ab1.k.n5⟩⟩ ⟨ab2.pq,ab2.ii,ap ab2.t,ap ab2.k⟩ ld le ep ep' ⟨ks,hks,ers,L1⟩ ers' L' erb erc erb' erc' rfl rfl rfl rfl⟩
theorem cnt_div{j:Jv}(ok:j.Ok):((j.n:Int)+(j.l.per:Int)-1)/(j.l.per:Int)=(((jAK j).length:Nat):Int):=by
 have pp:=Ly.per_pos ok.2.2
 have nn:=ok.1
 unfold jAK
 rw [List.length_map,jEf,show (j.n:Int)+(j.l.per:Int)-1=((j.n-1+j.l.per:Nat):Int) from by omega,<- Int.natCast_ediv,Nat.add_div_right _ (by omega)]
 rfl
theorem cnt_le{j:Jv}(ok:j.Ok):(jAK j).length<=j.n:=by
 have pp:=Ly.per_pos ok.2.2
 have nn:=ok.1
 unfold jAK
 rw [List.length_map,jEf]
 unfold jDj
 have:=Nat.div_le_self (j.n-1) j.l.per
 omega
theorem four_of{us:List V}(h:us.length=4)(g:∀ (i:Nat) y,us[i]?=some y->∃ F:Int,y=.int F/\0<=F/\F<=400):∃ f0 f1 f2 f3:Int,us=[.int f0,.int f1,.int f2,.int f3]/\(0<=f0/\f0<=400)/\(0<=f1/\f1<=400)/\(0<=f2/\f2<=400)/\(0<=f3/\f3<=400):=by
 match us,h with
 | [a,b,c,d],_ =>
   obtain⟨f0,rfl,h0⟩:=g 0 _ rfl
   obtain⟨f1,rfl,h1⟩:=g 1 _ rfl
   obtain⟨f2,rfl,h2⟩:=g 2 _ rfl
   obtain⟨f3,rfl,h3⟩:=g 3 _ rfl
   exact⟨f0,f1,f2,f3,rfl,h0,h1,h2,h3⟩
def amt(f:Int):Int:=f%4+f/400*200
structure P2(cP cS cY cM cW:Addr)(H0 H:Hp)(l p q:Addr)(d e:PD)(m:M5)(k0 k1:Str):Prop where
 nl:H0 l=none
 hl:H l=some (.lst [.ref p,.ref q])
 P:Pd cP cS cY cM cW H0 H p d
 E:Pd cP cS cY cM cW H0 H q e
 a1:Ab p q d e
 a2:Ab q p e d
 ld:l≠d.ins
 le:l≠e.ins
 pd:d.path=m.P
 pe:e.path=2
 r1:∃ ks,(ks=[k1,k0]\/ks=[k1])/\d.rs=ks.map (fun k=>(k,999))/\Ld m.M d.am ks ks
 r2:e.rs=[k0,k1].map (fun k=>(k,999))
 l2:Ld m.M e.am [k0,k1] [k0,k1]
 b1:d.rb=2000
 b2:d.rc=2000
 b3:e.rb=2000
 b4:e.rc=2000
 c1:d.b=m.b
 c2:d.c=m.c
 c3:e.b=m.b
 c4:e.c=m.c
theorem Ab.sp{p q:Addr}{d e:PD}(h:Ab p q d e):Sp2 p q d e:=⟨h.pq,h.ii,h.t.n1.symm,h.t.n2.symm,h.t.n3.symm,h.t.n4.symm,h.k.n1.symm,h.k.n2.symm,h.k.n3.symm,h.k.n4.symm⟩
theorem Pd.nx{cP cS cY cM cW x p:Addr}{H0 H:Hp}{r:RD}{d:PD}(h:Pd cP cS cY cM cW H0 H p d)(nx:H x=none)(ni:H r.il=none):Nx x r p d:=by
 obtain⟨⟨dt,t1⟩,_⟩:=h.P.T
 obtain⟨⟨di,i1⟩,_⟩:=h.P.I
 obtain⟨ds,hs⟩:=h.P.s
 exact⟨jAg h.P.o nx,jAg t1 nx,jAg i1 nx,jAg hs nx,(jAg h.P.n ni).symm⟩
theorem jN0{ks:List Str}{rs:List (Str×Int)}(e:rs=ks.map (fun k=>(k,999))):rs.map (·.1)=ks/\∀ k,k∈rs.map (·.1)->rs.lookup k=some 999:=by
 have h:rs.map (·.1)=ks:=by rw [e,List.map_map];exact List.map_id ks
 exact⟨h,fun k hk=>by rw [h] at hk;rw [e];exact look9 hk⟩
def s6(a kl ft:Addr)(nm:Str)(fw dm:Addr)(t:St):St:=some (.ref a)::some (.ref kl)::some (.ref ft)::some (.str nm)::some (.ref fw)::some (.ref dm)::t
def s9(a kl ft:Addr)(nm:Str)(fw dm:Addr)(j:Jv)(l x:Addr)(t:St):St:=s6 a kl ft nm fw dm (some (.int (j.l.per:Int))::some (.ref l)::some (.ref x)::t)
inductive sp_law(K:PySem.W.Frag)(vs:List V)(H:Hp)(Q:VK)(E_:XK):Prop|mk (a:Addr):vs=[.ref a]->Scr K H a->(∀ H',Q (.bl true) H')->sp_law K vs H Q E_
theorem jCe:jAk ["_law_script","_law_kinds","_law_facts_here","_law_name","_law_few","_law_m","_law_per_here","_law_printers_here","_law_run","_law_halt","_law_k","_law_deed"] ["_law_script"] (jAh jHO):=scM
include T in
theorem ok_law(F:Fun K "law" "law" jHO fa fd)(DbI:Dfn P w K mg base 2 "_law_facts" ["_law_cell","_law_pages","_law_kinds"] (jEW K))(DaT:Dfn P w K mg base 1 "_law_word" ["_law_cell","_law_turn"] (jFE K))(DaG:Dfn P w K mg base 1 "_law_per" ["_law_layout"] (jEp K))(DbJ:Dfn P w K mg base 8 "_law_printers" ["_law_script","_law_kinds","_law_m"] (jDb K yK yG vW vJ vG vY cG vU cZ cQ yJ yW yU))(DbK:MkD P w K mg base 6 "Run" yK ["self","job"] (jG5 yK yG))(Dae:Dfn P w K mg base 1 "_law_cell_at" ["_law_script","_law_k"] (jCt K))(DbL:MkD P w K mg base 1 "Job" yG ["self","name","asker","pages","copies","layout","paper","cover","colour","staple","after"] (jGj yG))(DbM:Dfn P w K mg base 12 "_law_start" ["_law_run","_law_printers_here","_law_cell","_law_name"] (jEV yK yG vW vJ vG vY cG vU cZ cQ yJ yW yU))(Daf:Dfn P w K mg base 1 "_law_mix" ["_law_cell","_law_k","_law_many"] (jEm K))(Dac:Dfn P w K mg base 11 "_law_refused" ["_law_run","_law_printers_here","_law_deed","_law_place_here","_law_word_here"] (jBs yK yG vW vJ vG vY cG vU cZ cQ yJ yW yU))(DbN:Dfn P w K mg base 13 "_law_halted" ["_law_run","_law_printers_here","_law_m","_law_cell"] (jEg yK yG vW vJ vG vY cG vU cZ cQ yJ yW yU))(DbO:Dfn P w K mg base 12 "_law_stepped" ["_law_run","_law_printers_here","_law_m","_law_facts_here"] (jDH yK yG vW vJ vG vY cG vU cZ cQ yJ yW yU))(Dap:MtE P w K mg base 6 "take" yK ["self","printer"] (jCo yK yG vW vY cZ cQ yJ yW yU))(DaJ:MtE P w K mg base 1 "papers" cZ ["self"] (jDr cZ cQ yJ yW yU))(Daa:MtE P w K mg base 2 "stands" cZ ["self"] (jBG cZ cQ yJ yW yU))(Dam:MtE P w K mg base 5 "jam" cZ ["self","saved"] (jEy vY vU cZ cQ yJ yW yU))(Dad:MtE P w K mg base 3 "whole" yK ["self"] (jB8 yK yG cZ cQ yJ yW yU)) :
 jAr P w K mg base CX0 14 fa fd ["_law_script"] (sp_law K):=by
 refine F.ok jCe (fun vs H Q E h=>?_) (fun cdv A outer s H vs Q E hr h=>?_)
 ·obtain⟨a,rfl,_⟩:=h
  rfl
 obtain⟨a,rfl,S0,qq⟩:=h
 have hu:=jCZ hr 0 (by decide)
 have z2:2<=sizeLine:=small (by decide)
 exists _,(jAd (jJt (i:=1) (frees:=[ ("_law_script",0) ]) ⟨by decide +kernel,rfl,rfl,by decide +kernel,⟨⟨rfl,rfl,rfl,by decide +kernel⟩,trivial⟩,by decide +kernel,jBD rfl,rfl⟩ jCe.nd rfl rfl rfl (jFK rfl T.aE (jAa jAe jAc)) (fun _ _ _ _=>jDL) (fun _ _ _ _=>by exact (jAv DaT hr.m rfl (jAa (jAv Dae hr.m rfl (jAa (pv 1) (jAa jAe jAc))) (jAa (pv 0) jAc))))) (jAd (psA (i:=2) jCe.nd (jAv DbI hr.m rfl (jAa (jAv Dae hr.m rfl (jAa (pv 0) (jAa jAe jAc))) (jAa (jAp jAO jAe (jAp jA7 (jAv Dae hr.m rfl (jAa (pv 0) (jAa jAe jAc))) jAe)) (jAa (pv 1) jAc))))) (jAd (psA (i:=3) jCe.nd (jAv DaT hr.m rfl (jAa (jAv Dae hr.m rfl (jAa (pv 0) (jAa jAe jAc))) (jAa jAe jAc)))) (jAd (jJt (i:=4) (frees:=[ ("_law_script",0) ]) ⟨by decide +kernel,rfl,rfl,by decide +kernel,⟨⟨rfl,rfl,rfl,by decide +kernel⟩,trivial⟩,by decide +kernel,jBD rfl,rfl⟩ jCe.nd rfl rfl rfl (jFK rfl T.aE (jAa jAe jAc)) (fun _ _ _ _=>jDL) (fun _ _ _ _=>by exact (jNz (K:=K) (r:=rIxLA) rfl jCX (jAV (jAa (jAv Daf hr.m rfl (jAa (jAv Dae hr.m rfl (jAa (pv 1) (jAa jAe jAc))) (jAa (pv 0) (jAa jAe jAc)))) (jAa jAe jAc))) (jAv Daf hr.m rfl (jAa (jAv Dae hr.m rfl (jAa (pv 1) (jAa jAe jAc))) (jAa (pv 0) (jAa jAe jAc)))) (fun _ _=>rfl)))) (jAd (psA (i:=5) jCe.nd (jDd (jBf jAm (jDd (jBf (ixA jAD (pv 1) jAe) (jAp jAO (jAp jA7 (ixA jAD (pv 4) jAe) jAe) (jAp jCR (jAp jCp (ixA jAD (pv 4) jAe) jAe) jAe)) (jBf (ixA jAD (pv 1) jAe) (jAp jAO (jAp jA7 (ixA jAD (pv 4) jAe) jAe) (jAp jCR (jAp jCp (ixA jAD (pv 4) jAe) jAe) jAe)) jDc)) rfl rfl (by decide) (by decide)) jDc) rfl rfl (by decide) (by decide))) (jAd (psA (i:=6) jCe.nd (jAv DaG hr.m rfl (jAa (ixA jAI (pv 2) jAe) jAc))) (jAd (jAy (jE0 PySem.F.plainAttrs_dict PySem.F.slot_dict_update PySem.F.type_dict_update jKl (pv 5) (jAa (jDd (jBf jAm (ixA jAD (pv 4) jAe) (jBf jAm (ixA jAD (pv 4) jAe) (jBf jAm (jAp jCR (jAp jCp (jAp jB_ (jAp jAO (ixA jAI (pv 2) jAe) (pv 6)) jAe) (pv 6)) (ixA jAI (pv 2) jAe)) (jBf jAm jAe jDc)))) rfl rfl (by decide) (by decide)) jAc))) (jAd (jAy (jE0 PySem.F.plainAttrs_dict PySem.F.slot_dict_update PySem.F.type_dict_update jKl (pv 5) (jAa (jDd (jBf jAm jAe (jBf jAm (jAp jAO jAe (jAp jA7 (jAv Dae hr.m rfl (jAa (pv 0) (jAa jAe jAc))) jAe)) jDc)) rfl rfl (by decide) (by decide)) jAc))) (jAd (psA (i:=7) jCe.nd (jAv DbJ hr.m rfl (jAa (pv 0) (jAa (pv 1) (jAa (pv 5) jAc))))) (jAd (psA (i:=8) jCe.nd (jCh DbK hr.m rfl (jAa (jCh DbL hr.m rfl (jAa (pv 3) (jAa jAm (jAa (ixA jAI (pv 2) jAe) (jAa (ixA jAI (pv 2) jAe) (jAa (ixA jAI (pv 2) jAe) (jAa (ixA jAD (pv 1) jAe) (jAa (ixA jAI (pv 2) jAe) (jAa (ixA jAI (pv 2) jAe) (jAa jBc (jAa (jAN jAc) jAc))))))))))) jAc))) (jAd (jAE (jB9 (jAX (jAv DbM hr.m rfl (jAa (pv 8) (jAa (pv 7) (jAa (jAp jA7 (jAv Dae hr.m rfl (jAa (pv 0) (jAa jAe jAc))) jAe) (jAa (pv 3) jAc))))) (fun _=>rfl))) (jAf (jAo jBc)) jAw) (jAd (jAy (jAF 6 jAL hr.m (pv 8) (jAa (ixA jAD (pv 7) jAe) jAc))) (jAd (jAE (jM_ (jKf hu (ixA jAD (pv 1) jAe) (jAs 1 jAL hr.m (ixA jAD (pv 7) jAe)))) (jAd (jAE (jB9 (jAX (jAv Dac hr.m rfl (jAa (pv 8) (jAa (pv 7) (jAa (jAN (jAa jAm jAc)) (jAa jAe (jAa (ixA jAD (pv 1) jAe) jAc)))))) (fun _=>rfl))) (jAf (jAo jBc)) jAw) (jAd (psA (i:=7) jCe.nd (jAV (jAa (ixA jAD (pv 7) jAe) (jAa (ixA jAD (pv 7) jAe) jAc)))) (jAd (jB0 hu (pv 5) jAm jAe rfl) (jAf (jAy (jAF 6 jAL hr.m (pv 8) (jAa (ixA jAD (pv 7) jAe) jAc))))))) jAw) (jAd (psA (i:=9) jCe.nd (jAp jA7 (jAv Dae hr.m rfl (jAa (pv 0) (jAa jAe jAc))) jAe)) (jAd (jBS PassesOwn.never rfl (jFK rfl T.aE (jAa jAe jAc)) (pgA (i:=10) jCe.nd) (jAd (jAE (PW.pt (jEq (tcA jA9 (pv 10) (pv 9)) (jEq (tcA jGD (dgA hu (pv 5) jAm) (dgA hu (pv 5) jAm)) (jDI (jB9 (jAX (jAv DbN hr.m rfl (jAa (pv 8) (jAa (pv 7) (jAa (pv 5) (jAa (jAv Dae hr.m rfl (jAa (pv 0) (jAa jAe jAc))) jAc))))) (fun _=>rfl))))))) (jAf (jAo jBc)) jAw) (jAf (jAE (PW.pt (jEq (tcA jGD (dgA hu (pv 5) jAm) (dgA hu (pv 5) jAm)) (jDI (jB9 (jAX (jAv DbO hr.m rfl (jAa (pv 8) (jAa (pv 7) (jAa (pv 5) (jAa (pv 2) jAc))))) (fun _=>rfl)))))) (jAf (jAo jBc)) jAw)))) (jAd (jAE (tcA jGD (dgA hu (pv 5) jAm) (dgA hu (pv 5) jAm)) (jAf (jAo jBc)) jAw) (jAd (jAE (PW.pt (jEq (tcA jA9 (jAs 2 jAL hr.m (ixA jAD (pv 7) jAe)) jAm) (jDI (tcA jA9 (jAp jA7 (jAv Dae hr.m rfl (jAa (pv 0) (jAa jAe jAc))) jAe) jAe)))) (jAf (jAy (jAF 5 jAL hr.m (ixA jAD (pv 7) jAe) (jAa jAe jAc)))) jAw) (jAd (jBS PassesOwn.never rfl (jBt (jAV (jAa (jAN (jAa jAm jAc)) (jAa (jAN (jAa jAm (jAa jAe jAc))) (jAa (jAN (jAa jAm jAc)) jAc))))) (pgA (i:=11) jCe.nd) (jAf (jAE (jB9 (jAX (jAv Dac hr.m rfl (jAa (pv 8) (jAa (pv 7) (jAa (pv 11) (jAa jAe (jAa (pv 3) jAc)))))) (fun _=>rfl))) (jAf (jAo jBc)) jAw))) (jAf (jAo (ecA op_isB (jAs 3 jAL hr.m (pv 8)) jBc)))))))))))))))))))))
 obtain⟨ns,hS,h63⟩:=id S0.ex
 refine jOz fun T1 e1=>?_
 obtain⟨T2,e2,e1⟩:=jBI e1
 obtain⟨T3,e3,e2⟩:=jBI e2
 obtain⟨T4,e4,e3⟩:=jBI e3
 obtain⟨T5,e5,e4⟩:=jBI e4
 obtain⟨T6,e6,e5⟩:=jBI e5
 obtain⟨T7,e7,e6⟩:=jBI e6
 obtain⟨T8,e8,e7⟩:=jBI e7
 obtain⟨T9,e9,e8⟩:=jBI e8
 obtain⟨T10,e10,e9⟩:=jBI e9
 obtain⟨T11,e11,e10⟩:=jBI e10
 obtain⟨T12,e12,e11⟩:=jBI e11
 obtain⟨T13,e13,e12⟩:=jBI e12
 obtain⟨T14,e14,e13⟩:=jBI e13
 obtain⟨T15,e15,e14⟩:=jBI e14
 obtain⟨T16,e16,e15⟩:=jBI e15
 obtain⟨T17,e17,e16⟩:=jBI e16
 obtain⟨T18,e18,e17⟩:=jBI e17
 obtain⟨n,en,n1,n9⟩:∃ n:Nat,1+ns.getD (2:Int).toNat 0%9=(n:Int)/\1<=n/\n<=9:=by
  have:=Int.emod_nonneg (ns.getD (2:Int).toNat 0) (show (9:Int)≠0 by decide)
  have:=Int.emod_lt_of_pos (ns.getD (2:Int).toNat 0) (show (0:Int)<9 by decide)
  exact⟨(1+ns.getD (2:Int).toNat 0%9).toNat,by omega,by omega,by omega⟩
 -- the kinds
 refine jA5 (fun σ G=>jAn H G/\∃ kl k0 k1,G kl=some (.lst [.str k0,.str k1])/\k0≠k1/\σ=[some (.ref a),some (.ref kl),none,none,none,none,none,none,none,none,none,none]) (fun R hR=>⟨_,rfl,by decide,by decide,?_⟩) ?_
 ·generalize hc1:ns.getD (1:Int).toNat 0=c1'
  refine jEu (jHp 0 2 H) (fun _=>true) (fun v=>match v with|.int t=>.str (jFR c1' t (jDz c1'))|_=>.non) (by rw [List.length_map,List.length_range];exact jAW (by decide)) (fun x _ H' R _ rr=>rr) (fun x hx H' R sG _ rr=>?_) (fun kl H1 s1 nkl hkl0=>?_)
  ·obtain⟨t,ht,rfl⟩:=List.mem_map.mp hx
   rw [<- hc1] at rr
   exact⟨_,rfl,a,1,ns,rfl,sG.seq hS,by decide,_,rfl,_,_,rfl,rr⟩
  exact hR _ _ ⟨s1,kl,_,_,hkl0,fun z=>absurd (word_ne (by decide) (by decide) (by decide) (by decide) z) (by decide),rfl⟩
 intro X σ H1 hX
 rintro⟨s1,kl,k0,k1,hk,k01,rfl⟩
 -- the facts
 refine hX (via e1 ?_)
 refine jA5 (fun σ G=>jAn H1 G/\∃ (ft:Addr) (j:Jv) (cp:Nat),jFG G ft j cp/\j.n=n/\j.Ok/\1<=cp/\cp<=3/\j.paper=k0/\(∀ v,j.cover=some v->v=k0\/v=k1)/\σ=[some (.ref a),some (.ref kl),some (.ref ft),none,none,none,none,none,none,none,none,none]) (fun R hR=>⟨_,rfl,a,0,ns,rfl,s1.seq hS,by decide,_,rfl,a,2,ns,rfl,s1.seq hS,by decide,_,_,rfl,rfl,(by show (0:Int)<9;decide),_,_,rfl,rfl,_,rfl,ns.getD (0:Int).toNat 0,n,kl,k0,k1,(by rw [<- en];rfl),hk,n1,(by omega),fun ft j cp H2 s2 fc jn jok c1 c3 jp jc=>hR _ _ ⟨s2,ft,j,cp,fc,jn,jok,c1,c3,jp,jc,rfl⟩⟩) ?_
 intro X σ H2 hX
 rintro⟨s2,ft,j,cp,fc,jn,jok,c1,c3,jp,jc,rfl⟩
 have t2:=s1.trans s2
 replace hk:=s2 _ _ hk
 -- the name
 refine hX (via e2 ?_)
 refine jA5 (fun σ G=>H2=G/\∃ nm,σ=[some (.ref a),some (.ref kl),some (.ref ft),some (.str nm),none,none,none,none,none,none,none,none]) (fun R hR=>⟨_,rfl,a,3,ns,rfl,t2.seq hS,by decide,_,_,rfl,hR _ _ ⟨rfl,_,rfl⟩⟩) ?_
 intro X σ G hX
 rintro⟨rfl,nm,rfl⟩
 -- how few
 refine hX (via e3 ?_)
 refine jA5 (fun σ G=>jAn H2 G/\∃ fw f0 f1 f2 f3,G fw=some (.lst [.int f0,.int f1,.int f2,.int f3])/\(0<=f0/\f0<=400)/\(0<=f1/\f1<=400)/\(0<=f2/\f2<=400)/\(0<=f3/\f3<=400)/\σ=[some (.ref a),some (.ref kl),some (.ref ft),some (.str nm),some (.ref fw),none,none,none,none,none,none,none]) (fun R hR=>⟨_,rfl,by decide,by decide,?_⟩) ?_
 ·refine jGK (jHp 0 (4:Int).toNat H2) (fun x y H3=>∃ F:Int,y=.int F/\0<=F/\F<=400) (by rw [List.length_map,List.length_range];exact jAW (by decide)) (fun x hx' H' R _ r=>r) (fun x hx' H' R sm rr=>?_) (fun fw H7 us s7 nfw hfw hl hg=>?_)
  ·obtain⟨i,hi,rfl⟩:=List.mem_map.mp hx'
   have i4:=List.mem_range.mp hi
   have i4':i<4:=i4
   have m0:=jFC (c:=ns.getD (5:Int).toNat 0) (k:=0+(i:Int)) (show (0:Int)<7 by decide)
   have m1:=jFD (c:=ns.getD (5:Int).toNat 0) (k:=0+(i:Int)) (show (0:Int)<7 by decide)
   refine⟨_,rfl,a,5,ns,rfl,(t2.trans sm).seq hS,by decide,_,rfl,_,_,7,rfl,by omega,by omega,by decide,fun H8 s8=>⟨z2,fun ll nll=>?_⟩⟩
   have s9:=jAj nll (.lst [.int (jDx (ns.getD (5:Int).toNat 0) (0+(i:Int)) 7),.int 400])
   refine⟨_,rfl,a,6,ns,rfl,((t2.trans sm).trans (s8.trans s9)).seq hS,by decide,_,rfl,_,_,2,rfl,by omega,by omega,by decide,fun H9 s10=>⟨ll,_,_,rfl,rfl,SqL.of (s10 _ _ jAb),jFC (by decide),jFD (by decide),fun v hv=>?_⟩⟩
   refine rr _ _ (s8.trans (s9.trans s10)) (jOC ?_)
   have hm:=List.mem_of_getElem? hv
   simp only [List.mem_cons,List.not_mem_nil,or_false] at hm
   rcases hm with rfl|rfl
   ·exact⟨_,rfl,by omega,by omega⟩
   ·exact⟨_,rfl,by decide,by decide⟩
  rw [List.length_map,List.length_range] at hl
  obtain⟨f0,f1,f2,f3,rfl,hf⟩:=four_of hl (fun i y e=>by
   obtain⟨x,ex⟩:∃ x,((List.range (4:Int).toNat).map fun i=>V.int (0+(i:Nat)))[i]?=some x:=⟨_,List.getElem?_eq_getElem (by rw [List.length_map,List.length_range,<- hl];exact (List.getElem?_eq_some_iff.mp e).1)⟩
   exact hg i x y ex e)
  exact hR _ _ ⟨s7,fw,f0,f1,f2,f3,hfw,hf.1,hf.2.1,hf.2.2.1,hf.2.2.2,rfl⟩
 intro X σ H3 hX
 rintro⟨s3,fw,f0,f1,f2,f3,hfw,h0,h1,h2,h3,rfl⟩
 have t3:=t2.trans s3
 replace hk:=s3 _ _ hk
 replace fc:=fc.same s3
 -- the book
 refine hX (via e4 ?_)
 refine jA5 (fun σ G=>jAn H3 G/\∃ dm mp,H3 dm=none/\H3 mp=none/\dm≠mp/\G mp=some (.dK (dI [(k0,amt f0),(k1,amt f1)]))/\G dm=some (.dK [(kw "papers",V.ref mp)])/\σ=s6 a kl ft nm fw dm [none,none,none,none,none,none]) (fun R hR=>?_) ?_
 ·refine fun dm ndm=>?_
  have u1:=jAj ndm (.dK [])
  have hd1:upd H3 dm (.dK []) dm=some (.dK []):=jAb
  generalize upd H3 dm (.dK [])=G1 at u1 hd1 ⊢
  refine fun mp nmp=>?_
  have u2:=jAj nmp (.dK [])
  have hmp1:upd G1 mp (.dK []) mp=some (.dK []):=jAb
  have hfw2:=u2 _ _ (u1 _ _ hfw)
  have hk2:=u2 _ _ (u1 _ _ hk)
  refine⟨_,rfl,kl,_,_,_,rfl,rfl,SqL.of hk2,jAl (j:=0) rfl,_,rfl,fw,_,_,_,rfl,rfl,SqL.of hfw2,jAl (j:=0) rfl,_,_,rfl,rfl,(by show (0:Int)<4;decide),_,rfl,fw,_,_,_,rfl,rfl,SqL.of hfw2,jAl (j:=0) rfl,_,_,rfl,rfl,⟨by decide,by decide⟩,_,_,rfl,rfl,.inr ⟨by decide,by decide⟩,_,_,rfl,rfl,_,rfl,kl,_,_,_,rfl,rfl,SqL.of hk2,jAl (j:=1) rfl,_,rfl,fw,_,_,_,rfl,rfl,SqL.of hfw2,jAl (j:=1) rfl,_,_,rfl,rfl,(by show (0:Int)<4;decide),_,rfl,fw,_,_,_,rfl,rfl,SqL.of hfw2,jAl (j:=1) rfl,_,_,rfl,rfl,⟨by decide,by decide⟩,_,_,rfl,rfl,.inr ⟨by decide,by decide⟩,_,_,rfl,rfl,hmp1,[((Sum.inr k0:Key),V.int (amt f0)),(Sum.inr k1,V.int (amt f1))],rfl,(by show 2<=15;decide),?_⟩
  rw [jCJ (ks:=[Sum.inr k0,Sum.inr k1]) rfl (nd2k k01)]
  have u3:jAn G1 (upd (upd G1 mp (.dK [])) mp (.dK ([]++[((Sum.inr k0:Key),V.int (amt f0)),(Sum.inr k1,V.int (amt f1))]))):=jCa nmp u2 _
  have hmp:upd (upd G1 mp (.dK [])) mp (.dK ([]++[((Sum.inr k0:Key),V.int (amt f0)),(Sum.inr k1,V.int (amt f1))])) mp=some (.dK (dI [(k0,amt f0),(k1,amt f1)])):=jAb
  generalize upd (upd G1 mp (.dK [])) mp (.dK ([]++[((Sum.inr k0:Key),V.int (amt f0)),(Sum.inr k1,V.int (amt f1))]))=G3 at u3 hmp ⊢
  refine⟨u3 _ _ hd1,[(kw "papers",V.ref mp)],rfl,(by show 1<=15;decide),?_⟩
  rw [show jB5 [] [(kw "papers",V.ref mp)]=[(kw "papers",V.ref mp)] by kernel_rfl]
  have dmp:mp≠dm:=(jAg hd1 nmp).symm
  exact hR _ _ ⟨fun b o e=>by rw [jAi (jAg e ndm)];exact u3 _ _ (u1 _ _ e),dm,mp,ndm,u1.free nmp,dmp.symm,by rw [jAi dmp];exact hmp,jAb,rfl⟩
 intro X σ H4 hX
 rintro⟨s4,dm,mp,ndm,nmp,dmp,hmp,hdm,rfl⟩
 have t4:=t3.trans s4
 replace hk:=s4 _ _ hk
 replace fc:=fc.same s4
 replace hfw:=s4 _ _ hfw
 obtain⟨cv,hft,hcol⟩:=id fc
 refine hX (via e5 ?_)
 refine jA5 (fun σ G=>H4=G/\σ=s6 a kl ft nm fw dm [some (.int (j.l.per:Int)),none,none,none,none,none]) (fun R hR=>⟨_,rfl,ft,_,_,_,rfl,rfl,SqT.of hft,jAl (j:=2) rfl,j.l,rfl,jok.2.2,hR _ _ ⟨rfl,rfl⟩⟩) ?_
 intro X σ G hX
 rintro⟨rfl,rfl⟩
 obtain⟨Pn,eP,P1,P4⟩:∃ Pn:Nat,1+ns.getD (7:Int).toNat 0%4=(Pn:Int)/\1<=Pn/\Pn<=4:=by
  have:=Int.emod_nonneg (ns.getD (7:Int).toNat 0) (show (4:Int)≠0 by decide)
  have:=Int.emod_lt_of_pos (ns.getD (7:Int).toNat 0) (show (0:Int)<4 by decide)
  exact⟨(1+ns.getD (7:Int).toNat 0%4).toNat,by omega,by omega,by omega⟩
 refine hX (via e6 ?_)
 refine jA5 (fun σ G=>(∀ b o,b≠dm->H4 b=some o->G b=some o)/\G dm=some (.dK [(kw "papers",V.ref mp),(kw "black",V.int f2),(kw "colour",V.int f3),(kw "total",.int (((jAK j).length*cp:Nat):Int)),(kw "came",.int 0)])/\σ=s6 a kl ft nm fw dm [some (.int (j.l.per:Int)),none,none,none,none,none]) (fun R hR=>?_) ?_
 ·refine⟨_,rfl,.inr (.inr (.inl ⟨rfl,.inl ⟨_,hdm⟩⟩)),fun d2 nd2'=>?_⟩
  have u1:=jAj nd2' (.dK [])
  have h1':upd H4 d2 (.dK []) d2=some (.dK []):=jAb
  have n2:dm≠d2:=jAg hdm nd2'
  generalize upd H4 d2 (.dK [])=G1 at u1 h1' ⊢
  have hfw2:=u1 _ _ hfw
  have hft2:=u1 _ _ hft
  have pp:=Ly.per_pos jok.2.2
  have ev:((j.n:Int)+(j.l.per:Int)-1)/(j.l.per:Int)*(cp:Int)=(((jAK j).length*cp:Nat):Int):=by rw [cnt_div jok,Int.natCast_mul]
  refine⟨_,rfl,fw,_,_,_,rfl,rfl,SqL.of hfw2,jAl (j:=2) rfl,_,rfl,fw,_,_,_,rfl,rfl,SqL.of hfw2,jAl (j:=3) rfl,_,rfl,ft,_,_,_,rfl,rfl,SqT.of hft2,jAl (j:=0) rfl,_,rfl,_,_,rfl,rfl,_,_,rfl,rfl,_,rfl,_,_,rfl,rfl,⟨by omega,by omega⟩,_,rfl,ft,_,_,_,rfl,rfl,SqT.of hft2,jAl (j:=1) rfl,_,_,rfl,rfl,.inr ⟨by omega,by omega⟩,h1',[(kw "black",V.int f2),(kw "colour",V.int f3),(kw "total",.int (((jAK j).length*cp:Nat):Int)),(kw "came",.int 0)],(by rw [<- ev];rfl),(by show 4<=15;decide),?_⟩
  rw [show jB5 [] [(kw "black",V.int f2),(kw "colour",V.int f3),(kw "total",.int (((jAK j).length*cp:Nat):Int)),(kw "came",.int 0)]=[(kw "black",V.int f2),(kw "colour",V.int f3),(kw "total",.int (((jAK j).length*cp:Nat):Int)),(kw "came",.int 0)] by kernel_rfl]
  have k6:∀ b o,b≠d2->G1 b=some o->upd G1 d2 (.dK [(kw "black",V.int f2),(kw "colour",V.int f3),(kw "total",.int (((jAK j).length*cp:Nat):Int)),(kw "came",.int 0)]) b=some o:=fun b o n e=>by rw [jAi n];exact e
  have h6:upd G1 d2 (.dK [(kw "black",V.int f2),(kw "colour",V.int f3),(kw "total",.int (((jAK j).length*cp:Nat):Int)),(kw "came",.int 0)]) d2=some (.dK [(kw "black",V.int f2),(kw "colour",V.int f3),(kw "total",.int (((jAK j).length*cp:Nat):Int)),(kw "came",.int 0)]):=jAb
  generalize upd G1 d2 (.dK [(kw "black",V.int f2),(kw "colour",V.int f3),(kw "total",.int (((jAK j).length*cp:Nat):Int)),(kw "came",.int 0)])=G6 at k6 h6 ⊢
  refine⟨dm,d2,_,_,rfl,rfl,k6 _ _ n2 (u1 _ _ hdm),h6,n2,(by show 5<=1000;decide),?_⟩
  rw [show jB5 [(kw "papers",V.ref mp)] [(kw "black",V.int f2),(kw "colour",V.int f3),(kw "total",.int (((jAK j).length*cp:Nat):Int)),(kw "came",.int 0)]=[(kw "papers",V.ref mp),(kw "black",V.int f2),(kw "colour",V.int f3),(kw "total",.int (((jAK j).length*cp:Nat):Int)),(kw "came",.int 0)] by kernel_rfl]
  exact hR _ _ ⟨fun b o n e=>by rw [jAi n];exact k6 _ _ (jAg e nd2') (u1 _ _ e),jAb,rfl⟩
 intro X σ H5 hX
 rintro⟨s5,hdm5,rfl⟩
 refine hX (via e7 ?_)
 refine jA5 (fun σ G=>(∀ b o,b≠dm->H4 b=some o->G b=some o)/\G dm=some (.dK (⟨mp,[(k0,amt f0),(k1,amt f1)],f2,f3,(((jAK j).length*cp:Nat):Int),0,0,(Pn:Int)⟩:M5).kv)/\σ=s6 a kl ft nm fw dm [some (.int (j.l.per:Int)),none,none,none,none,none]) (fun R hR=>?_) ?_
 ·refine⟨_,rfl,.inr (.inr (.inl ⟨rfl,.inl ⟨_,hdm5⟩⟩)),fun d2 nd2'=>?_⟩
  have u1:=jAj nd2' (.dK [])
  have h1':upd H5 d2 (.dK []) d2=some (.dK []):=jAb
  have n2:dm≠d2:=jAg hdm5 nd2'
  generalize upd H5 d2 (.dK [])=G1 at u1 h1' ⊢
  have sS:jAn H3 G1:=fun b o e=>u1 _ _ (s5 _ _ (jAg e ndm) (s4 _ _ e))
  refine⟨_,rfl,a,7,ns,rfl,(t3.trans sS).seq hS,by decide,_,_,rfl,rfl,(by show (0:Int)<4;decide),_,_,rfl,rfl,h1',[(kw "within",V.int 0),(kw "path",.int (Pn:Int))],(by rw [<- eP];rfl),(by show 2<=15;decide),?_⟩
  rw [show jB5 [] [(kw "within",V.int 0),(kw "path",.int (Pn:Int))]=[(kw "within",V.int 0),(kw "path",.int (Pn:Int))] by kernel_rfl]
  have k6:∀ b o,b≠d2->G1 b=some o->upd G1 d2 (.dK [(kw "within",V.int 0),(kw "path",.int (Pn:Int))]) b=some o:=fun b o n e=>by rw [jAi n];exact e
  have h6:upd G1 d2 (.dK [(kw "within",V.int 0),(kw "path",.int (Pn:Int))]) d2=some (.dK [(kw "within",V.int 0),(kw "path",.int (Pn:Int))]):=jAb
  generalize upd G1 d2 (.dK [(kw "within",V.int 0),(kw "path",.int (Pn:Int))])=G6 at k6 h6 ⊢
  refine⟨dm,d2,_,_,rfl,rfl,k6 _ _ n2 (u1 _ _ hdm5),h6,n2,(by show 7<=1000;decide),?_⟩
  rw [show jB5 [(kw "papers",V.ref mp),(kw "black",V.int f2),(kw "colour",V.int f3),(kw "total",.int (((jAK j).length*cp:Nat):Int)),(kw "came",.int 0)] [(kw "within",V.int 0),(kw "path",.int (Pn:Int))]=(⟨mp,[(k0,amt f0),(k1,amt f1)],f2,f3,(((jAK j).length*cp:Nat):Int),0,0,(Pn:Int)⟩:M5).kv by kernel_rfl]
  refine hR _ _ ⟨fun b o n e=>?_,jAb,rfl⟩
  rw [jAi n]
  have e5:=s5 _ _ n e
  exact k6 _ _ (jAg e5 nd2') (u1 _ _ e5)
 intro X σ H6 hX
 rintro⟨s6,hm,rfl⟩
 have s36:jAn H3 H6:=fun b o e=>s6 _ _ (jAg e ndm) (s4 _ _ e)
 have t6:=t3.trans s36
 replace hk:H6 kl=some (.lst [.str k0,.str k1]):=s6 _ _ (jAu hk hdm nofun) hk
 replace fc:jFG H6 ft j cp:=fc.fr fun b xs e=>s6 _ _ (jAu e hdm nofun) e
 replace hmp:H6 mp=some (.dK (dI [(k0,amt f0),(k1,amt f1)])):=s6 _ _ dmp.symm hmp
 clear s5 hdm5 hdm s4 hft hcol hfw s6
 have a0:amt f0<=999:=by unfold amt;omega
 have a1:amt f1<=999:=by unfold amt;omega
 generalize amt f0=A0 at hm hmp a0
 generalize amt f1=A1 at hm hmp a1
 -- the printers
 obtain⟨m,em⟩:∃ m:M5,m=⟨mp,[(k0,A0),(k1,A1)],f2,f3,(((jAK j).length*cp:Nat):Int),0,0,(Pn:Int)⟩:=⟨_,rfl⟩
 rw [<- em] at hm
 have hmp':H6 m.mp=some (.dK (dI m.M)):=by rw [em];exact hmp
 have eM:m.M=[(k0,A0),(k1,A1)]:=by rw [em]
 have mb:m.b<=2000:=by rw [em];show f2<=2000;omega
 have mc:m.c<=2000:=by rw [em];show f3<=2000;omega
 have hD:dm≠m.mp:=by rw [em];exact dmp
 refine hX (via e8 ?_)
 refine jA5 (fun σ G=>jAn H6 G/\∃ l p q d e,P2 cZ cQ yJ yW yU H6 G l p q d e m k0 k1/\σ=s6 a kl ft nm fw dm [some (.int (j.l.per:Int)),some (.ref l),none,none,none,none]) (fun R hR=>⟨_,rfl,_,rfl,_,rfl,a,kl,dm,ns,m,k0,k1,A0,A1,rfl,t6.seq hS,hk,k01,hm,hmp',eM,a0,a1,mb,mc,fun l p q d e H' sH g1 g2 g3 g4 g5 g6 g7 g8 g9 g10 g11 g12 g13 g14 g15 g16 g17 g18 g19 g20 g21=>hR _ _ ⟨sH,l,p,q,d,e,⟨g1,g2,g3,g4,g5,g6,g7,g8,g9,g10,g11,g12,g13,g14,g15,g16,g17,g18,g19,g20,g21⟩,rfl⟩⟩) ?_
 intro X σ H7 hX
 rintro⟨s7,l,p,q,d,e,PP,rfl⟩
 have hk7:=s7 _ _ hk
 obtain⟨cv,hft,hcol⟩:=id (fc.same s7)
 -- the run
 refine hX (via e9 ?_)
 refine jA5 (fun σ G=>jAn H7 G/\∃ x r,jA0 yK yG G x r/\r.nm=nm/\R5 r none 0 0=r/\r.j=j/\r.cp=cp/\r.br=false/\r.inks=jAK j/\H7 x=none/\H7 r.il=none/\σ=s9 a kl ft nm fw dm j l x [none,none,none]) (fun R hR=>⟨_,rfl,_,rfl,ft,_,_,_,rfl,rfl,SqT.of hft,jAl (j:=0) rfl,_,rfl,ft,_,_,_,rfl,rfl,SqT.of hft,jAl (j:=1) rfl,_,rfl,ft,_,_,_,rfl,rfl,SqT.of hft,jAl (j:=2) rfl,_,rfl,kl,_,_,_,rfl,rfl,SqL.of hk7,jAl (j:=0) rfl,_,rfl,ft,_,_,_,rfl,rfl,SqT.of hft,jAl (j:=4) rfl,_,rfl,ft,_,_,_,rfl,rfl,SqT.of hft,jAl (j:=5) rfl,small (Nat.zero_le _),fun tp ntp=>?_⟩) ?_
 ·have l5:=jAj ntp (.tup [])
  generalize upd H7 tp (.tup [])=G11 at l5 ⊢
  refine fun jx jdx njx njdx njxd=>⟨jx,jdx,_,_,_,_,_,_,_,_,_,_,rfl,jAb,⟨rfl,?_⟩⟩
  dsimp only
  have l6:jAn G11 (upd (upd (upd G11 jdx (.own jx)) jx (.ins yG jdx [])) jx (.ins yG jdx (jDi (.str nm) (.str (Str.ofString "ann")) (.int (j.n:Int)) (.int (cp:Int)) (.str (Ly.text j.l)) (.str k0) (oV j.cover) cv (.bl false) (.ref tp)))):=jFP njx njdx
  have hj:upd (upd (upd G11 jdx (.own jx)) jx (.ins yG jdx [])) jx (.ins yG jdx (jDi (.str nm) (.str (Str.ofString "ann")) (.int (j.n:Int)) (.int (cp:Int)) (.str (Ly.text j.l)) (.str k0) (oV j.cover) cv (.bl false) (.ref tp))) jx=some (.ins yG jdx (jDi (.str nm) (.str (Str.ofString "ann")) (.int (j.n:Int)) (.int (cp:Int)) (.str (Ly.text j.l)) (.str k0) (oV j.cover) cv (.bl false) (.ref tp))):=jAb
  generalize upd (upd (upd G11 jdx (.own jx)) jx (.ins yG jdx [])) jx (.ins yG jdx (jDi (.str nm) (.str (Str.ofString "ann")) (.int (j.n:Int)) (.int (cp:Int)) (.str (Ly.text j.l)) (.str k0) (oV j.cover) cv (.bl false) (.ref tp)))=G12 at l6 hj ⊢
  have l46:=l5.trans l6
  have J12:jG2 yG G12 jx nm cp j:=⟨jdx,_,_,_,cv,by rw [jp];exact hj,hcol.same l46⟩
  refine fun rx rdx nrx nrdx nrxd=>?_
  have kr:∀ b o,G12 b=some o->b≠rx/\upd (upd G12 rdx (.own rx)) rx (.ins yK rdx []) b=some o:=fun b o e=>by
   have b1:b≠rx:=jAg e nrx
   exact⟨b1,by rw [jAi b1,jAi (jAg e nrdx)];exact e⟩
  refine⟨rx,rdx,jx,nm,cp,j,rfl,jAb,J12.fr (fun o e=>(kr _ _ e).2) (fun b xs e=>(kr _ _ e).2),jok,c1,by omega,(kr _ _ hj).1,fun il G13 k13 nil' R13=>⟨rfl,?_⟩⟩
  have l7:jAn G12 G13:=fun b o e=>k13 b o (kr b o e).1 (kr b o e).2
  have nil12:H7 il=none:=by
   cases e:H7 il with
   | none=>rfl
   | some o=>rw [(kr il o (l46 _ _ e)).2] at nil';cases nil'
  exact hR _ _ ⟨l46.trans l7,rx,newR rdx jx il nm cp j,R13,rfl,rfl,rfl,rfl,rfl,rfl,l46.free nrx,nil12,rfl⟩
 intro X σ H8 hX
 rintro⟨s8,x,r,R,rnm,er5,rj,rcp,rbr,rik,nx,nil',rfl⟩
 have rtot:r.tot=(jAK j).length*cp:=by show r.inks.length*r.cp=_;rw [rik,rcp]
 have cn1:=jIp (j:=j)
 have cn9:(jAK j).length<=9:=by have:=cnt_le jok;omega
 have T1:1<=r.tot:=by rw [rtot];exact Nat.mul_le_mul cn1 c1
 have T9:r.tot<=90:=by rw [rtot];exact Nat.le_trans (Nat.mul_le_mul cn9 c3) (by decide)
 have s68:=s7.trans s8
 have P8:=PP.P.same s8
 have E8:=PP.E.same s8
 obtain⟨ks,hks,drs,Ldd⟩:=PP.r1
 obtain⟨dk,d9⟩:=jN0 drs
 obtain⟨ek,e9⟩:=jN0 PP.r2
 have tgn:∀ {G:Hp} {ts:List V},ts=[]->jAB G r.nm ts (win 0 0 0):=fun h=>by rw [h];exact⟨rfl,fun i y n a=>by cases a⟩
 have W0:W35 yK yG cZ cQ yJ yW yU H8 x p q r d e Pn false 0 0:=⟨by show jA0 yK yG H8 x (R5 r none 0 0);rw [er5];exact R,P8.P,E8.P,tgn PP.P.tg,PP.E.tg,PP.P.nx nx nil',PP.E.nx nx nil',PP.a1.sp,PP.a2.sp,P8.r,E8.r,⟨⟨PP.P.u1,PP.P.u2⟩,⟨PP.a2.t.n5,PP.a2.k.n5⟩⟩,⟨⟨PP.a1.t.n5,PP.a1.k.n5⟩,⟨PP.E.u1,PP.E.u2⟩⟩,rbr,T1,T9,by rw [rik,rj],Nat.le_refl _,by omega,(fun z=>by cases z),fun _=>rfl,by rw [PP.pd,em],by omega,P4,(fun z=>absurd z (Nat.lt_irrefl _)),⟨by rw [drs,List.length_map];rcases hks with rfl|rfl<;>simp,by rw [PP.r2];exact Nat.le_refl _⟩⟩
 have B0:B5 yK yG cZ cQ yJ yW yU H8 x p q l dm ft r d e Pn false 0 0 m k0 k1:=⟨W0,s8 _ _ PP.hl,PP.ld,by rw [rj,rcp];exact fc.same s68,by rw [rj];exact jok,by rw [rj];exact jp,by rw [rj];exact jc,s68 _ _ hm,s68 _ _ hmp',by rw [eM];rfl,d9,PP.b1,PP.b2,PP.P.ap hm,PP.E.ap hm,PP.P.ap hmp',PP.E.ap hmp',hD⟩
 have sk0:=sk_of (t6.seq hS) PP.P.n6 s68
 have ske:=(sk_of (t6.seq hS) PP.E.n6 s68).2
 have kld:kl≠d.ins:=jAg hk PP.P.n6
 have hk8:=s68 _ _ hk
 -- the jEi
 refine hX (via e10 ?_)
 refine jA5 (fun σ G=>∃ d1,Fr5 H8 G d d1/\B5 yK yG cZ cQ yJ yW yU G x p q l dm ft r d1 e Pn false 0 0 m k0 k1/\d1.rs=d.rs/\d1.am=d.am/\d1.b=d.b/\d1.c=d.c/\d1.S=.rd/\σ=s9 a kl ft nm fw dm j l x [none,none,none]) (fun R' hR=>⟨_,rfl,_,rfl,_,rfl,a,8,ns,rfl,(t6.trans s68).seq hS,by decide,_,_,rfl,rfl,(by show (0:Int)<1000;decide),_,rfl,x,p,q,l,r,d,e,Pn,_,(by rw [rnm];rfl),B0.hl,B0.W,PP.P.S,fun d' H' kp W' g sd eS'=>⟨true,rfl,jAJ (hR _ _ ⟨d',B0.fr kp g,B0.deed kp g W',g.rs,sd.1,sd.2.1,sd.2.2,eS',rfl⟩)⟩⟩) ?_
 intro X σ H9 hX
 rintro⟨d1,F9,B9,drs1,dam1,db1,dc1,dS1,rfl⟩
 -- taken
 refine hX (via e11 ?_)
 refine jA5 (fun σ G=>Fr5 H8 G d d1/\B5 yK yG cZ cQ yJ yW yU G x p q l dm ft r d1 e Pn true 0 0 m k0 k1/\σ=s9 a kl ft nm fw dm j l x [none,none,none]) (fun R' hR=>⟨_,rfl,x,_,_,_,_,_,rfl,B9.W.R.o,rfl,T.aa,Dap,_,rfl,l,_,_,_,rfl,rfl,SqL.of B9.hl,jAl (j:=0) rfl,?_⟩) ?_
 ·dsimp only [jCx]
  refine B9.W.take0 dS1 fun l' H' kx W'=>?_
  have g:Gq d1 d1 H9:=⟨jJY _ _,rfl,rfl,rfl,rfl,rfl,rfl⟩
  have kp:Kp x p d1 H9 H':=fun b o n1 _ _ _ _ e=>kx b o n1 e
  exact hR _ _ ⟨F9.trans (B9.fr kp g),B9.deed kp g W',rfl⟩
 intro X σ H10 hX
 rintro⟨F10,B10,rfl⟩
 have sk10:=F10.sk sk0
 obtain⟨hk10,kld1⟩:=F10.l _ _ kld jDF hk8
 have dk1:d1.rs.map (·.1)=ks:=by rw [drs1];exact dk
 -- the kind
 refine hX (via e12 ?_)
 refine jA5 (fun σ G=>∃ p q l' d e Pn m,B5 yK yG cZ cQ yJ yW yU G x p q l' dm ft r d e Pn true 0 0 m k0 k1/\EqM m r d Pn 0 0 k0 k1/\d.S=.rd/\Sk K G a (ns.map V.int) d/\σ=s9 a kl ft nm fw dm j l' x [none,none,none]) (fun R' hR=>⟨_,rfl,kl,_,_,_,rfl,rfl,SqL.of hk10,jAl (j:=0) rfl,_,rfl,l,_,_,_,rfl,rfl,SqL.of B10.hl,jAl (j:=0) rfl,p,_,_,_,_,_,rfl,B10.W.P.o,rfl,T.ac,DaJ,p,d1,rfl,B10.W.P,B10.W.r1,fun pd H11 s11 npd hpd=>⟨pd,_,rfl,jBU.k (k:=Sum.inr k0) hpd,?_⟩⟩) ?_
 ·have B11:=B10.same s11
  have sk11:=(jAn.fr5 s11 d1).sk sk10
  have mT:m.T=(r.tot:Int):=by rw [em,rtot]
  have m0:m.ca=0/\m.wi=0/\m.P=(Pn:Int):=by rw [em];exact⟨rfl,rfl,rfl⟩
  rcases hks with rfl|rfl
  ·have hv:jCO (dI d1.rs) (Sum.inr k0:Key)=some (.int 999):=by rw [jHw,drs1,d9 k0 (by rw [dk];simp)];rfl
   rw [hv]
   have kin:∀ k,k=k0\/k=k1->k∈[k1,k0]:=fun k h=>by rcases h with rfl|rfl<;>simp
   exact⟨false,rfl,jAJ (hR _ _ ⟨p,q,l,d1,e,Pn,m,B11,⟨fun k h=>by rw [dam1];exact Ldd.d k (kin k h) (kin k h),by rw [db1,PP.c1],by rw [dc1,PP.c2],mT,m0.1,m0.2.1,m0.2.2,by rw [db1,PP.c1];exact mb,by rw [dc1,PP.c2];exact mc,fun k h=>by rw [dk1];exact kin k h⟩,dS1,sk11,rfl⟩)⟩
  ·have nk:¬ k0∈[k1]:=fun z=>k01 (List.mem_singleton.mp z)
   have hv:jCO (dI d1.rs) (Sum.inr k0:Key)=none:=by
    rw [jHw]
    cases h:d1.rs.lookup k0 with
    | none=>rfl
    | some v=>exact absurd (by have:=jBF h;rw [dk1] at this;exact this) nk
   rw [hv]
   refine⟨true,rfl,jAU ?_⟩
   have uj:(jAR r.j (itm 0 0)).1=k0:=by rw [rj,<- jp];rfl
   have hk11:=s11 _ _ hk10
   refine⟨_,rfl,_,rfl,wq1,fun t0 n0=>?_⟩
   have s12:=jAj n0 (.tup [.str "step"])
   have h12:upd H11 t0 (.tup [.str "step"]) t0=some (.tup (ddV .step)):=jAb
   generalize upd H11 t0 (.tup [.str "step"])=H12 at s12 h12 ⊢
   have B12:=B11.same s12
   refine⟨_,rfl,kl,_,_,_,rfl,rfl,SqL.of (s12 _ _ hk11),jAl (j:=0) rfl,x,p,q,l,t0,r,d1,e,Pn,true,0,0,.step,1,k0,rfl,B12.hl,h12,B12.W,.inr ⟨by omega,.inr ⟨rfl,.inr ⟨dS1,by omega,.inl ⟨by rw [uj,dk1];exact nk,rfl,uj.symm⟩⟩⟩⟩,fun H13 s13=>⟨true,rfl,jAJ ?_⟩⟩
   have B13:=B12.same s13
   refine⟨_,rfl,l,_,_,_,rfl,rfl,SqL.of B13.hl,jAl (j:=1) rfl,_,rfl,l,_,_,_,rfl,rfl,SqL.of B13.hl,jAl (j:=0) rfl,z2,fun l2 nl2=>?_⟩
   have s14:=jAj nl2 (.lst [.ref q,.ref p])
   have h14:upd H13 l2 (.lst [.ref q,.ref p]) l2=some (.lst [.ref q,.ref p]):=jAb
   generalize upd H13 l2 (.lst [.ref q,.ref p])=H14 at s14 h14 ⊢
   have B14:=B13.same s14
   have nld:l2≠d1.ins:=(jAg B13.W.P.n nl2).symm
   have nle:l2≠e.ins:=(jAg B13.W.E.n nl2).symm
   exists _,rfl,dm,_,rfl,p_path B14.hm 2
   have B15:=B14.put (m':={ m with P:=2 }) rfl rfl
   have F15:=((jAn.fr5 (((s11.trans s12).trans s13).trans s14) d1)).trans (jBu (kv':=({ m with P:=2 }:M5).kv) B14.hm d1)
   have h15:=((jBu (kv':=({ m with P:=2 }:M5).kv) B14.hm d1).l _ _ nld jDF h14).1
   generalize upd H14 dm (.dK ({ m with P:=2 }:M5).kv)=H15 at B15 F15 h15 ⊢
   exists _,rfl,x,_,_,_,_,_,rfl,B15.W.R.o,rfl,T.aa,Dap,_,rfl,l2,_,_,_,rfl,rfl,SqL.of h15,jAl (j:=0) rfl
   dsimp only [jCx]
   refine B15.W.take1 (Pm:=2) PP.E.S dS1 PP.pe (by decide) fun l' d' H' kp W' g=>?_
   have F16:=B15.fr kp g
   have kd:∀ {b:Addr} {kv:List (Key×V)},Ap b d1->H15 b=some (.dK kv)->H' b=some (.dK kv):=fun n e=>kp _ _ (jBb B15.W.R.o e).symm (jBb B15.W.P.o e).symm (jAu e B15.W.P.n nofun) n.n2.symm n.n4.symm e
   have kin:∀ k,k=k0\/k=k1->k∈[k0,k1]:=fun k h=>by rcases h with rfl|rfl<;>simp
   refine hR _ _ ⟨q,p,l2,e,d',2,{ m with P:=2 },⟨W',(F16.l _ _ nld jDF h15).1,nle,B15.fc.fr F16.t,B15.ok,B15.pa,B15.co,kd B15.m1 B15.hm,kd B15.m3 B15.hp,B15.ks,e9,PP.b3,PP.b4,B15.m2,B15.m1.go g,B15.m4,B15.m3.go g,B15.nm⟩,⟨fun k h=>PP.l2.d k (kin k h) (kin k h),PP.c3.symm,PP.c4.symm,mT,m0.1,m0.2.1,rfl,by rw [PP.c3];exact mb,by rw [PP.c4];exact mc,fun k h=>by rw [ek];exact kin k h⟩,PP.E.S,⟨((F15.trans F16).sk sk10).1,ske⟩,rfl⟩
 clear hk10 kld1 sk10 F10 B10 sk0 hk8 kld B9 F9 B0 W0
 intro X σ H11 hX
 rintro⟨p,q,l,d,e,Pn,m,B,M,eS,sk,rfl⟩
 refine hX (via e13 ?_)
 refine jA5 (fun σ G=>H11=G/\∃ h,σ=s9 a kl ft nm fw dm j l x [some (.int h),none,none]) (fun R' hR=>⟨_,rfl,a,9,ns,rfl,sk.1,by decide,_,_,rfl,rfl,(by show (0:Int)<40;decide),hR _ _ ⟨rfl,_,rfl⟩⟩) ?_
 intro X σ G hX
 rintro⟨rfl,h,rfl⟩
 -- the steps
 refine hX (via e14 ?_)
 refine jA5 (fun σ G=>(∃ d m o a' f',B5 yK yG cZ cQ yJ yW yU G x p q l dm ft r d e Pn o a' f' m k0 k1/\EqM m r d Pn a' f' k0 k1/\(a'≠r.tot+1->d.S=.rd)/\o=decide (a'≠r.tot+1)/\Sk K G a (ns.map V.int) d)/\∃ v10,σ=s9 a kl ft nm fw dm j l x [some (.int h),v10,none]) (fun R' hR=>⟨_,rfl,by decide,by decide,?_⟩) ?_
 ·refine jJ2 (lo:=0) (n:=60) (fun i σ G=>(∃ d m o a' f',B5 yK yG cZ cQ yJ yW yU G x p q l dm ft r d e Pn o a' f' m k0 k1/\EqM m r d Pn a' f' k0 k1/\(a'≠r.tot+1->d.S=.rd)/\o=decide (a'≠r.tot+1)/\Sk K G a (ns.map V.int) d)/\∃ v10,σ=s9 a kl ft nm fw dm j l x [some (.int h),v10,none]) ⟨⟨d,m,true,0,0,B,M,fun _=>eS,(by rw [decide_eq_true (by omega)]),sk⟩,_,rfl⟩ (fun i σ G hi zz=>?_) (fun σ G zz=>?_)
  rotate_left
  ·exact hR _ _ zz
  clear sk M B eS
  obtain⟨⟨d,m,o,a',f',B,M,eS,eo,sk⟩,v10,rfl⟩:=zz
  refine jBp (fun σ G=>(∃ d m o a' f',B5 yK yG cZ cQ yJ yW yU G x p q l dm ft r d e Pn o a' f' m k0 k1/\EqM m r d Pn a' f' k0 k1/\(a'≠r.tot+1->d.S=.rd)/\o=decide (a'≠r.tot+1)/\Sk K G a (ns.map V.int) d)/\σ=s9 a kl ft nm fw dm j l x [some (.int h),some (.int (0+(i:Int))),none]) (fun R hR=>?_) (fun σ G1 zz=>?_)
  ·have stay:=hR (s9 a kl ft nm fw dm j l x [some (.int h),some (.int (0+(i:Int))),none]) G ⟨⟨d,m,o,a',f',B,M,eS,eo,sk⟩,rfl⟩
   refine⟨_,rfl,_,rfl,rfl,_,rfl,jDK (fun _=>?_) (fun _=>stay)⟩
   exists _,rfl,dm,_,rfl,jEB B.hm,_,rfl,dm,_,rfl,jFg B.hm,_,_,rfl,rfl,_,rfl
   have a9:=Nat.le_trans B.W.af B.W.fT
   by_cases c:a'=r.tot+1
   ·exact jBx (by rw [M.ca,M.T];omega) stay
   ·rw [decide_eq_true c] at eo
    subst eo
    refine jBo (by rw [M.ca,M.T];omega) ⟨_,rfl,_,rfl,_,rfl,_,rfl,a,10,ns,rfl,sk.1,by decide,x,p,q,l,dm,ft,r,d,e,Pn,a',f',m,k0,k1,_,rfl,B,M,eS c,fun d' m' o' a'' f'' H' F' eo' B' M' eS'=>⟨true,rfl,jAJ (hR _ _ ⟨⟨d',m',o',a'',f'',B',M',eS',eo',F'.sk sk⟩,rfl⟩)⟩⟩
  clear sk M B eS eo
  obtain⟨⟨d,m,o,a',f',B,M,eS,eo,sk⟩,rfl⟩:=zz
  exists _,rfl,dm,_,rfl,jEB B.hm,_,rfl,dm,_,rfl,jFg B.hm,_,_,rfl,rfl,_,rfl
  have a9:=Nat.le_trans B.W.af B.W.fT
  by_cases c:a'=r.tot+1
  ·exact jBx (by rw [M.ca,M.T];omega) ⟨⟨d,m,o,a',f',B,M,eS,eo,sk⟩,_,rfl⟩
  ·rw [decide_eq_true c] at eo
   subst eo
   refine jBo (by rw [M.ca,M.T];omega) ⟨_,rfl,_,rfl,_,rfl,_,rfl,x,p,q,l,dm,ft,r,d,e,Pn,a',f',m,k0,k1,rfl,B,M,eS c,fun d' m' o' a'' f'' H' F' eo' B' M' eS'=>⟨true,rfl,jAJ ⟨⟨d',m',o',a'',f'',B',M',fun _=>eS',eo',F'.sk sk⟩,_,rfl⟩⟩⟩
 clear sk M B eS
 intro X σ H12 hX
 rintro⟨⟨d,m,o,a',f',B,M,eS,eo,sk⟩,v10,rfl⟩
 have a9:=Nat.le_trans B.W.af B.W.fT
 refine hX (via e15 ?_)
 refine jA5 (fun σ G=>H12=G/\a'=r.tot+1/\σ=s9 a kl ft nm fw dm j l x [some (.int h),v10,none]) (fun R' hR=>⟨_,rfl,dm,_,rfl,jEB B.hm,_,rfl,dm,_,rfl,jFg B.hm,_,_,rfl,rfl,_,rfl,?_⟩) ?_
 ·by_cases c:a'=r.tot+1
  ·exact jBx (by rw [M.ca,M.T];omega) (hR _ _ ⟨rfl,c,rfl⟩)
  ·exact jBo (by rw [M.ca,M.T];omega) (qq _)
 intro X σ G hX
 rintro⟨rfl,ca,rfl⟩
 -- all is out
 refine hX (via e16 ?_)
 refine jA5 (fun σ G=>∃ d f',B5 yK yG cZ cQ yJ yW yU G x p q l dm ft r d e Pn o a' f' m k0 k1/\σ=s9 a kl ft nm fw dm j l x [some (.int h),v10,none]) (fun R' hR=>⟨_,rfl,l,_,_,_,rfl,rfl,SqL.of B.hl,jAl (j:=0) rfl,p,_,_,_,_,_,rfl,B.W.P.o,rfl,T.ac,Daa,p,d,rfl,B.W.P,rfl,_,rfl,jDK (fun c=>?_) (fun _=>hR _ _ ⟨d,f',B,rfl⟩)⟩) ?_
 ·refine⟨_,rfl,a,11,ns,rfl,sk.1,by decide,_,_,rfl,rfl,(by show (0:Int)<2;decide),rfl,_,rfl,jDK (fun _=>?_) (fun _=>hR _ _ ⟨d,f',B,rfl⟩)⟩
  have eS:d.S=.rd:=by
   cases h:d.S with
   | rd=>rfl
   | jm=>rw [h] at c;exact absurd c (by decide +kernel)
   | aw b=>rw [h] at c;exact absurd (of_decide_eq_true c) (show ¬ V.str (Str.ofString "off")=V.str (Str.ofString "ready") by decide +kernel)
  refine⟨_,rfl,l,_,_,_,rfl,rfl,SqL.of B.hl,jAl (j:=0) rfl,p,_,_,_,_,_,rfl,B.W.P.o,rfl,T.ac,Dam,p,d,0,rfl,B.W.P,fun n=>absurd eS n,fun _ z=>absurd z (Nat.not_lt_zero _),fun _ _ t l1 l2 st il H1 kx nil _ _ _ _ P1=>?_⟩
  have g:Gq d { d with st:=st,S:=.jm,ins:=il,tags:=[] } H12:=⟨⟨.inr nil,rfl,rfl,rfl,rfl⟩,rfl,rfl,rfl,rfl,rfl,rfl⟩
  have kp:Kp x p d H12 H1:=fun b o _ n2 _ _ _ e=>kx b o n2 e
  exact hR _ _ ⟨_,a',B.deed kp g (B.W.turn kx P1 g rfl rfl (.inr ⟨rfl,rfl⟩)),rfl⟩
 clear B sk M eS
 intro X σ H13 hX
 rintro⟨d,f',B,rfl⟩
 refine hX (via e17 ?_)
 refine jA5 (fun σ G=>jAn H13 G/\∃ v11,σ=s9 a kl ft nm fw dm j l x [some (.int h),v10,v11]) (fun R' hR=>?_) ?_
 ·refine⟨wq1,fun t0 n0=>?_⟩
  have u0:=jAj n0 (.tup [.str "step"])
  have w0:upd H13 t0 (.tup [.str "step"]) t0=some (.tup (ddV (.step))):=jAb
  generalize upd H13 t0 (.tup [.str "step"])=G0 at u0 w0 ⊢
  refine⟨wq2,fun t1 n1=>?_⟩
  have u1:=jAj n1 (.tup [.str "jam",.int 9])
  have w1:upd G0 t1 (.tup [.str "jam",.int 9]) t1=some (.tup (ddV (.jam 9))):=jAb
  generalize upd G0 t1 (.tup [.str "jam",.int 9])=G1 at u1 w1 ⊢
  refine⟨wq1,fun t2 n2=>?_⟩
  have u2:=jAj n2 (.tup [.str "take"])
  have w2:upd G1 t2 (.tup [.str "take"]) t2=some (.tup (ddV (.take))):=jAb
  generalize upd G1 t2 (.tup [.str "take"])=G2 at u2 w2 ⊢
  refine⟨wq3,fun tl nl=>?_⟩
  have u3:=jAj nl (.lst [.ref t0,.ref t1,.ref t2])
  have hl3:upd G2 tl (.lst [.ref t0,.ref t1,.ref t2]) tl=some (.lst [.ref t0,.ref t1,.ref t2]):=jAb
  generalize upd G2 tl (.lst [.ref t0,.ref t1,.ref t2])=G3 at u3 hl3 ⊢
  have u23:=u2.trans u3
  have u13:=u1.trans u23
  have sH:=u0.trans u13
  refine⟨tl,rfl,⟨_,SqL.of hl3⟩,jBK (K:=K) (a:=tl) (xs:=[.ref t0,.ref t1,.ref t2]) (fun i σ G=>jAn G3 G/\∃ v11,σ=s9 a kl ft nm fw dm j l x [some (.int h),v10,v11]) ⟨jAn.refl _,_,rfl⟩ (fun i σ G _ y=>SqL.of (y.1 _ _ hl3)) (fun i y σ G hy y'=>?_) (fun σ G y=>?_)⟩
  ·obtain⟨sG,v11,rfl⟩:=y'
   obtain⟨t,D,rfl,ht⟩:∃ t D,y=.ref t/\G3 t=some (.tup (ddV D)):=by
    rcases i with _|_|_|i<;>cases hy
    ·exact⟨t0,_,rfl,u13 _ _ w0⟩
    ·exact⟨t1,_,rfl,u23 _ _ w1⟩
    ·exact⟨t2,_,rfl,u3 _ _ w2⟩
   have BG:=B.same (sH.trans sG)
   exact⟨_,rfl,_,rfl,_,rfl,_,rfl,x,p,q,l,t,r,d,e,Pn,o,a',f',D,6,nm,rfl,BG.hl,sG _ _ ht,BG.W,.inl ⟨ca,rfl,rnm.symm⟩,fun G' s'=>⟨true,rfl,jAJ ⟨sG.trans s',_,rfl⟩⟩⟩
  ·exact hR _ _ ⟨sH.trans y.1,y.2⟩
 intro X σ H14 hX
 rintro⟨s14,v11,rfl⟩
 have B14:=B.same s14
 refine hX ?_
 rw [e18]
 exists _,rfl,x,_,_,_,_,_,rfl,B14.W.R.o,rfl,T.aa,Dad,x,_,rfl,B14.W.R,_,_,rfl,rfl
 have e0:decide ((R5 r (if o=true then some p else none) 0 a').ps=(R5 r (if o=true then some p else none) 0 a').tot)=true:=decide_eq_true (by show 0+(a'-1)=r.tot;omega)
 rw [e0]
 exact qq _
end
end My
namespace PySem.W.Fast
noncomputable def tw6018106431902470853:PySem.Program:=PySem.Challenge.pw_spoolhall_k35_run_refuses
theorem te6018106431902470853:PySem.Challenge.pw_spoolhall_k35_run_refuses=tw6018106431902470853:=rfl
def tw12798100596762904814:=0
def tw8759098561487189184:=0
def tw2549666049510356010:=0
def tw7001409793262328594:=0
def tw6222465146760860947:=0
def tw2918815412113431012:=0
def tw13234928543924403925:=0
def tw9940198733561320652:=0
def tw18300062258473975608:=0
def tw8441165555846583202:=0
def tw13665567601091339391:=0
def tw15352156041185689960:=0
def tw754105585164310834:=0
def tw3308851629931453818:=0
def tw9247923216638811904:=0
def tw9049439928948789978:=0
def tw17744927402826307916:=0
def tw15285192518380768342:=0
def tw11950042189798659867:=0
def tw8665146975154030011:=0
def tw6793429152940426547:=0
def tw1169367516568112446:=0
def tw4524395933186729778:=0
def tw10420139268953706062:=0
def tw14869804218593634923:=0
def tw18277595087883499967:=0
def tw17642733948995973039:=0
def tw5445945898884985099:=0
def tw290991012157619009:=0
def tw6172666331176262350:=0
def tw12370772591817923580:=0
def tw18009929019541925469:=0
def tw5691532509045323742:=0
def tw7139447038399978289:=0
def tw14883693530693955044:=0
def tw6042363163575526857:=0
def tw3773825442359236286:=0
def tw7571425402613799585:=0
def tw8260102411269850771:=0
def tw11263220497692684552:=0
def tw97468603239335495:=0
def tw8302348241240170662:=0
def tw7023488328882177398:=0
def tw3852676691271245082:=0
def tw6022021612750364104:=0
def tw15699611468977128485:=0
def tw8411389236141841500:=0
def tw1144622385179650030:=0
def tw6826954880541653164:=0
def tw635698585711161065:=0
def tw15626381274480413578:=0
def tw11426182550024556455:=0
def tw17087644767402817348:=0
def tw10063173237987752419:=0
def tw3228834770645021529:=0
def tw15714703711725874585:=0
def tw6712399185831922162:=0
def tw7546241389355354381:=0
def tw4745527052575990102:=0
def tw4695482494489077028:=0
def tw12172141388732650988:=0
def tw10880003086781258576:=0
def tw2388535080617591077:=0
def tw3163762088418490831:=0
def tw14460532293186778678:=0
def tw12633186850891631723:=0
def tw1206548882364236571:=0
def tw2377790894000934396:=0
def tw17871245958097527811:=0
def tw10155238670919262180:=0
def tw10287164511105432322:=0
def tw3888832994057863495:=0
def tw12435534902827053894:=0
def tw11704296712700089332:=0
def tw7633518382397272317:=0
def tw7956897948268391271:=0
def tw4463466464234105373:=0
def tw10764895959935995817:=0
def tw9754663703578963727:=0
def tw12759831203425206110:=0
def tw15801637066789084008:=0
def tw3556607360741963485:=0
def tw11182279956561636830:=0
def tw4193742934724406487:=0
def tw10141198197860845701:=0
def tw8701796147321356192:=0
def tw17220696852351174513:=0
def tw7179280877819686888:=0
def tw3724981865683891949:=0
def tw14436229800674169735:=0
def tw1874296925965167709:=0
def tw13778221913793681324:=0
def tw13654639734520617357:=0
def tw17236586444472673209:=0
def tw11190512666543039012:=0
def tw9884845277318744425:=0
def tw13930041777944273705:=0
def tw17928302852812449963:=0
def tw4429489678217329816:=0
def tw18257705019181648880:=0
def tw10664725041771150501:=0
def tw2819713243193403607:=0
def tw12674000778748027774:=0
def tw13522845408267196805:=0
def tw3660530080431535478:=0
def tw12258556564634586632:=0
def tw17824750703484830600:=0
def tw7456025036812379521:=0
def tw7028215732701812476:=0
def tw14479389989770447274:=0
def tw10396443902221266045:=0
def tw3841712267176250485:=0
def tw10016621681226392310:=0
def tw13590886163258953833:=0
def tw8414197576938840384:=0
def tw6029245244909476480:=0
def tw4008543942967819866:=0
def tw8373232238660624736:=0
def tw12976557209036295057:=0
def tw591604195726548747:=0
def tw1235901775662888325:=0
def tw461271765461068743:=0
def tw6596778954579936330:=0
def tw3991449040577285121:=0
def tw5427621915852707097:=0
def tw2322424871495016742:=0
def tw1354571745036283963:=0
def tw4209386279372835906:=0
def tw14757682837067117071:=0
def tw11771791149239565610:=0
def tw12956829279957455378:=0
def tw3200846010403556415:=0
def tw3499446015126461504:=0
def tw5073205413875986407:=0
def tw16440227553789253157:=0
def tw15432125484224596067:=0
def tw14791047718207804852:=0
def tw9414056810312046888:=0
def tw2070764237806973265:=0
def tw12958820083280759271:=0
def tw12702040481249213795:=0
def tw15959701827415226644:=0
def tw14028030966200445399:=0
def tw12260042657556592472:=0
def tw7478059596532822068:=0
def tw6435059342954011272:=0
def tw10388157874034811337:=0
def tw1437174769254867942:=0
def tw11070146534906655849:=0
def tw14105230281750142286:=0
def tw198273590857563997:=0
def tw13947584212049308534:=0
def tw13023471898071290022:=0
def tw6273265787209751413:=0
def tw4856401968769094925:=0
def tw15890713680800263003:=0
def tw14043195383929892228:=0
def tw15534357804860251076:=0
def tw11889308774614201016:=0
def tw337022375302118284:=0
def tw307266489865735024:=0
def tw1011531708283454496:=0
def tw18416216472777501457:=0
def tw8847826875667889702:=0
def tw9657476784928491286:=0
def tw11280159058571434360:=0
def tw580720642330053160:=0
def tw12022967454866762989:=0
def tw14918535592492101753:=0
def tw2626538889545325991:=0
def tw3574573470164816975:=0
def tw718098617290455536:=0
def tw13863391829359588367:=0
def tw9788557389400531246:=0
def tw13465952233841113953:=0
def tw10898760777271637773:=0
def tw15338016481873057610:=0
def tw2205391855306889903:=0
def tw4164395525755123999:=0
def tw5538580655124561693:=0
def tw18070584757410241749:=0
def tw4668116965096776228:=0
def tw184475407664953447:=0
def tw738638719808905943:=0
def tw8539207469126637842:=0
def tw1006429340152009068:=0
def tw9133097546038746381:=0
def tw11611684260826024192:=0
def tw14828760450621966471:=0
def tw13072678368162954691:=0
def tw12597124166680942182:=0
def tw13445852457562390882:=0
def tw267439458133741046:=0
def tw4805504691589297088:=0
def tw1071659671683697764:=0
def tw17991354442459858746:=0
def tw5518163084675532195:=0
def tw4122129273233540569:=0
def tw961030042724097439:=0
def tw11985283361850870137:=0
def tw7449803758094139709:=0
def tw11384620540767148730:=0
def tw2460436869272365659:=0
def tw17859705953407513456:=0
def tw17387113635364435108:=0
def tw3028538602954116915:=0
def tw11383913243655642201:=0
def tw10401924179394628681:=0
def tw9737464049104492982:=0
def tw6836727877888455998:=0
def tw689815528241457360:=0
def tw6168823456341681682:=0
def tw17162518589134007476:=0
def tw5088136981597965228:=0
def tw12701409950149247642:=0
def tw10179226698408363160:=0
def tw5826617159185093023:=0
def tw2674659644099482922:=0
def tw8230196968386491532:=0
def tw3510250979028141122:=0
def tw18368881162219121458:=0
def tw1962971900913366603:=0
def tw133535166215597000:=0
def tw6732217076162300587:=0
def tw6596862953585412234:=0
def tw12343372825580886288:=0
def tw4075163790024011646:=0
def tw2703858380090459718:=0
def tw11426621181810379814:=0
def tw4093592846357124630:=0
def tw12276161986123471873:=0
def tw5424114870324418391:=0
def tw6022409950436334780:=0
def tw6527187170426329552:=0
def tw6779670177552764600:=0
def tw6190989304495995241:=0
def tw4500968269491610548:=0
def tw1694138691655725821:=0
def tw3665199708586925446:=0
def tw7248380992771925196:=0
def tw2742743254000815896:=0
def tw9850829614877116478:=0
def tw14750580719066984006:=0
def tw4248537774758482842:=0
def tw15320353680406762441:=0
def tw6566745077266639137:=0
def tw12195792092809014640:=0
def tw9458565324916526314:=0
def tw9698130369230314378:=0
def tw8792376954219203211:=0
def tw16168538814441685728:=0
def tw17461444859686609669:=0
def tw11351578021932572121:=0
def tw6571257748404836992:=0
def tw13541187101935987023:=0
def tw7773578490867646798:=0
def tw17797962699367502805:=0
def tw7206374384252350899:=0
def tw3818153392229093991:=0
def tw1280507957742108067:=0
def tw12042532655644453480:=0
def tw10645327265061987053:=0
def tw6712217609109984432:=0
def tw17210335566488764339:=0
def tw195591351852092601:=0
def tw14919925001372253135:=0
def tw12447590527670639090:=0
def tw1883682018763517839:=0
def tw8527636908180490351:=0
def tw4919861393392974871:=0
def tw17849602217687018592:=0
def tw485124880838614087:=0
def tw14974831257476457314:=0
def tw11471005272722823226:=0
def tw921342431912197892:=0
def tw16074737232678768388:=0
def tw16364045932676882212:=0
def tw15273489334622488667:=0
def tw13566795681573944742:=0
def tw12821436650985382960:=0
def tw8627798524413046241:=0
def tw17351222222029366617:=0
def tw10124688560638338372:=0
def tw2633685586157057789:=0
def tw3661123886454399206:=0
def tw13145821521231952431:=0
def tw5283377050682369751:=0
def tw4494267482001003409:=0
def tw1310998516285241661:=0
def tw5441009166057834667:=0
def tw5136830527563708592:=0
def tw13621263667705610559:=0
def tw9391361732826261733:=0
def tw2783883483552093483:=0
def tw6087925382288893639:=0
def tw17776340729860096290:=0
def tw2444996815142987960:=0
def tw12447061590785813067:=0
def tw14730825580537478525:=0
def tw13646585929414756931:=0
def tw8903788605284138241:=0
def tw4908576168042239888:=0
def tw5821403731643797010:=0
def tw4240712033890339867:=0
def tw14664719463675392369:=0
def tw2261387630055298112:=0
def tw17729486513320476471:=0
def tw5727441815024154653:=0
def tw10181686490594560104:=0
def tw9470341902093300378:=0
def tw4322445572030232581:=0
def tw10455592528962278817:=0
def tw5858063356598914198:=0
def tw3109030994468078957:=0
def tw16009908409418356196:=0
def tw6614554233594824008:=0
def tw3336042616072936804:=0
def tw15980053826254592230:=0
def tw13698657505983714813:=0
def tw7275335415982910781:=0
def tw1018674765714198302:=0
def tw8713407274018322459:=0
def tw18125957444186212303:=0
def tw7774207309782675726:=0
def tw15003677527345595081:=0
def tw7940340426758915914:=0
def tw9039616071112089433:=0
def tw18235718801874753240:=0
def tw15291021182949006436:=0
def tw5663213265104631965:=0
def tw1540044431121733855:=0
def tw17906433621245681711:=0
def tw8843018732624305575:=0
def tw6912272705323501408:=0
def tw17547129046701794995:=0
def tw6433196655587215923:=0
def tw2648104015379838264:=0
def tw17341557798426689597:=0
def tw14389019546752234107:=0
def tw8176831249896944991:=0
def tw6761968026545328797:=0
def tw15024317627018355754:=0
def tw11432605600089994588:=0
def tw10484342609794933852:=0
def tw15303863015096545970:=0
def tw5766327883342280427:=0
def tw2756295448710878405:=0
def tw14139222852164104185:=0
def tw10199401799510882426:=0
def tw14842952622161255305:=0
def tw11043722905717684831:=0
def tw9841902354717105412:=0
def tw3659539853912771110:=0
def tw14726382647974442668:=0
def tw15420603714175006659:=0
def tw1187896201608373607:=0
def tw14597373561341675242:=0
def tw13445502061729798694:=0
def tw1580283143707669872:=0
def tw7969568162104752714:=0
def tw8618595770353264574:=0
def tw1773269605227878154:=0
def tw805089862468769430:=0
def tw2500996252381833486:=0
def tw900661142271569480:=0
def tw7322817165903619289:=0
def tw4677728104032202373:=0
def tw10262504596739703417:=0
def tw15263786232941549121:=0
def tw1307546082316394102:=0
def tw1256379113675832964:=0
def tw9654231755961991613:=0
def tw11651448120430146568:=0
def tw6639813687676300464:=0
def tw13388293170680673234:=0
def tw9085613967040340697:=0
def tw7419994016652647033:=0
def tw5084471678948452581:=0
def tw3965312581490660059:=0
def tw3675757637073665323:=0
def tw2440997025333142192:=0
def tw17610559807403931942:=0
def tw16526964896595123751:=0
def tw15650108707050277510:=0
def tw13935721017641302859:=0
def tw121228867480338849:=0
def tw1133780111228876441:=0
def tw11939931122906149292:=0
def tw8818367240258015375:=0
def tw1450233960300776439:=0
def tw1838636530515373160:=0
def tw6164968761090429973:=0
def tw16952818347626102278:=0
def tw5132574939553985071:=0
def tw1734122886463364809:=0
def tw11793433357083206377:=0
def tw16288908535599470154:=0
def tw7108344763024275331:=0
def tw17510774114097977722:=0
def tw16245792389212170596:=0
def tw17669543785030569524:=0
def tw8381150665083774016:=0
def tw7632654483490834031:=0
def tw684014698711811582:=0
def tw15107780347027305267:=0
def tw12727589963453849819:=0
def tw572272881816601362:=0
def tw5948452246374250928:=0
def tw15970550562935594446:=0
def tw18393725704271605675:=0
def tw1017802887394177487:=0
def tw10745133418676908844:=0
def tw18303902335411685097:=0
def tw15658386984997932431:=0
def tw4713803833375800197:=0
def tw3736500325385732544:=0
def tw14738245964603522154:=0
def tw9679801405919411139:=0
def tw2896075847690126799:=0
def tw14130881599685228929:=0
def tw527285139271173005:=0
def tw3113676328908316937:=0
def tw10346521804123441393:=0
def tw1669557104149723352:=0
def tw18168775266362137097:=0
def tw17467348160244641091:=0
def tw12934236423364745495:=0
def tw7228819335901178829:=0
def tw16148488241819171163:=0
def tw15604533253200778807:=0
def tw18224913953653355835:=0
def tw2130503109957494193:=0
def tw6545177697305095293:=0
def tw14492620273211883037:=0
def tw16660560823358533125:=0
def tw8051004892437863153:=0
def tw1435117402354262730:=0
def tw8844377273905768191:=0
def tw6726911071144875025:=0
def tw6131837261437711472:=0
def tw18257507409195310692:=0
def tw1798089171269860254:=0
def tw15215459926416063605:=0
def tw1066599127190350647:=0
def tw10057877521090948965:=0
def tw14082760076544528040:=0
def tw860644241075701304:=0
def tw7907309808438596431:=0
def tw6630989202111479362:=0
def tw16855668464920985616:=0
def tw16134482430607026640:=0
def tw12380985344177718984:=0
def tw11074823501982702429:=0
def tw9355136610557407655:=0
def tw11100432084271547501:=0
def tw13901394548369026724:=0
def tw7084067313650366930:=0
def tw5513174117692262166:=0
def tw5082302871850854699:=0
def tw4142938366220655942:=0
def tw3009738999705134986:=0
def tw2585957122803206980:=0
def tw12719614132502288784:=0
def tw11857720272128747205:=0
def tw5840777751168956280:=0
def tw3456566608986142995:=0
def tw12468996994405796488:=0
def tw8563191082178604152:=0
def tw11093484223003049412:=0
def tw9759306964848367531:=0
def tw7108295955960970795:=0
def tw6025122599627636327:=0
def tw5497275455048203140:=0
def tw15160667992561174905:=0
def tw12885327867840252892:=0
def tw11957937123962479777:=0
def tw10496556094434633391:=0
def tw988437061892964798:=0
def tw8527844393296400275:=0
def tw3492984757613420292:=0
def tw16937490384275538238:=0
def tw8931155479182883857:=0
def tw5044465606306586012:=0
def tw4147582317478244319:=0
def tw3032919398353771401:=0
def tw17298078069181222452:=0
def tw17132930965378053737:=0
def tw16164874846243996701:=0
def tw16100122045910741076:=0
def tw14913611238389366700:=0
def tw3450719466722790605:=0
def tw1115334073956483873:=0
def tw3962911201096857206:=0
def tw17069656644629787358:=0
def tw9541038838454873674:=0
def tw9212074014092274637:=0
def tw3266633240842571995:=0
def tw2067154894918645630:=0
def tw14528914732301415334:=0
def tw13160353987013635354:=0
def tw12523892172360179233:=0
def tw4211102416793399118:=0
def tw3800614165099023335:=0
def tw16632801415570227602:=0
def tw13931819435774339446:=0
def tw13547672465764169563:=0
def tw1050448581352202418:=0
def tw6105010761758950097:=0
def tw18353257273479485516:=0
def tw3732171214835847:=0
def tw1577004039337051772:=0
def tw13823280391498266588:=0
def tw8535654631940381377:=0
def tw718864257905127466:=0
def tw3086112957467560018:=0
def tw15092332965550910819:=0
def tw7576155522410829579:=0
def tw6008704799759271792:=0
def tw16598113857833352464:=0
def tw13407557391815537388:=0
def tw12444702703092440162:=0
def tw3277414059214360592:=0
def tw11960230378820744779:=0
def tw7294125927212220227:=0
def tw3880634076057677253:=0
def tw15143594309877911829:=0
def tw12298853446597629328:=0
def tw8050189780621261927:=0
def tw6658511456641495277:=0
def tw4836736022693575503:=0
def tw4184240993187867030:=0
def tw18048909020512296031:=0
def tw18025571709353716500:=0
def tw1672634747586875021:=0
def tw15268675585510290278:=0
def tw1132401874551979109:=0
def tw17490006606096613081:=0
def tw5614616602921895159:=0
def tw418629367361848884:=0
def tw11697557703209491326:=0
def tw10817217993676165536:=0
def tw4882051065412260527:=0
def tw2512922325514620857:=0
def tw8400722469248143805:=0
def tw7759073360246414367:=0
def tw15499241212835866748:=0
def tw7988222092411655724:=0
def tw5628768816806011901:=0
def tw14060023405688531554:=0
def tw11249343808832247386:=0
def tw1680963690601630595:=0
def tw7630796360201194203:=0
def tw7542967931243569044:=0
def tw4249780947959438251:=0
def tw14741176094266651367:=0
def tw540031783301554615:=0
def tw12902604549242676126:=0
def tw4159491091382253260:=0
def tw10568729418049378461:=0
def tw9647499810269077082:=0
def tw2970688883898481172:=0
def tw2645956392408788935:=0
def tw4816210792484211533:=0
def tw11220781883528536157:=0
def tw262893490005628133:=0
def tw4829436697754795201:=0
def tw2325694129036358980:=0
def tw10122461260782781124:=0
def tw6861578348951616829:=0
def tw408740963082115406:=0
def tw12714432271322807850:=0
def tw5087892197422398329:=0
def tw13497880255388030718:=0
def tw10161449843205897581:=0
def tw12370721257201464029:=0
def tw16637533274506677207:=0
def tw18028639229707496277:=0
def tw6009507347974467829:=0
def tw14478608802736425214:=0
def tw12877120431818062578:=0
def tw13722202026018022062:=0
def tw17708147745244302308:=0
def tw8359831160210132516:=0
def tw16595564795391346459:=0
def tw11858046254433991450:=0
def tw3640389335893215392:=0
def tw1296212310610275458:=0
def tw12816894869503031801:=0
def tw7681827853401618929:=0
def tw9713138432925941452:=0
def tw2959487995218455010:=0
def tw11556533212538382868:=0
def tw6687830076134828655:=0
def tw2218049318184606306:=0
def tw1870956147469419403:=0
def tw5866190254635171299:=0
def tw13812786493949072229:=0
def tw4401689328934567641:=0
def tw16883942717023090766:=0
def tw14836652920890869490:=0
def tw4283344590925964822:=0
def tw16534003401663862052:=0
def tw9150448489704740539:=0
def tw7129598245955633198:=0
def tw10571833938981306896:=0
def tw9388238503181433888:=0
def tw4023184277462774497:=0
def tw11147056710048211335:=0
def tw8592929871942882153:=0
def tw9079319962330912517:=0
def tw5002346461529963386:=0
def tw4536163093807769939:=0
def tw17548699078321822900:=0
def tw17754030589156379012:=0
def tw13404345025051243596:=0
def tw4635433749759460796:=0
def tw9605553512287215103:=0
def tw15681190043854084490:=0
def tw3864044374110099425:=0
def tw5490364450994966573:=0
def tw4359384142246762406:=0
def tw17575114735836722963:=0
def tw15854149565571666578:=0
def tw16449738410322881357:=0
def tw15836971472143432819:=0
def tw13348188849003737362:=0
def tw16175317670433902404:=0
def tw10472805973204580671:=0
def tw2135318796534677142:=0
def tw10194637618549587789:=0
def tw8182760633024613119:=0
def tw13657724505136322436:=0
def tw10594020272165137722:=0
def tw9279045462882405987:=0
def tw11934957104108596525:=0
def tw9047292934972764859:=0
def tw1040509576517355382:=0
def tw3553980860919327447:=0
def tw17819868308147459891:=0
def tw12216361177618878803:=0
def tw8305884023650511641:=0
def tw14894175769678841576:=0
def tw9565983074550393763:=0
def tw4510680817077052693:=0
def tw718994265629288020:=0
def tw6057046935123036887:=0
def tw2804087390585283956:=0
def tw9836947620487511163:=0
def tw16988889810087969040:=0
def tw17520352568056179166:=0
def tw13607819646553774493:=0
def tw5095450227791470746:=0
def tw9165035319036219118:=0
def tw7680574927838539551:=0
def tw16755170869953419031:=0
def tw14751072632092109669:=0
def tw4319293118515436517:=0
def tw12819332571834653121:=0
def tw6429066368897909894:=0
def tw6287387252322518548:=0
def tw13676113371897126846:=0
def tw12231490414623616064:=0
def tw9850432531533565728:=0
def tw9701201397859047296:=0
def tw8584246062792301039:=0
def tw7455390787103637239:=0
def tw6968071070042307684:=0
def tw6812259464154130649:=0
def tw4468320806369778687:=0
def tw4270132828207250868:=0
def tw4184864979655303079:=0
def tw18234286843309697493:=0
def tw1769021299343580959:=0
def tw17566968963606453768:=0
def tw17130826135536452562:=0
def tw15659374930149908937:=0
def tw15517853708390876531:=0
def tw14748936027850035756:=0
def tw11764672682126452138:=0
def tw11359891137936498560:=0
def tw10365719112571855866:=0
def tw10343346718391623686:=0
def tw18158459309964327950:=0
def tw10032324588003297433:=0
def tw8266881479149574976:=0
def tw6078127060293235187:=0
def tw18007358271346859457:=0
def tw17207549035159276204:=0
def tw13252047230024547136:=0
def tw10744906283419978265:=0
def tw1132275365993477885:=0
def tw11061641269007513799:=0
def tw16292864979506999650:=0
def tw17767951750231223670:=0
def tw9797128625612674935:=0
def tw6116769220712176720:=0
def tw3453166691918569511:=0
def tw2194256410409649276:=0
def tw15550447833630461117:=0
def tw8283563863952213878:=0
end PySem.W.Fast
namespace My
open PySem L2
theorem bn1{p:List Value->Prop}(h:∀ a0:Value,p [a0])(us:List Value)(l:us.length=1):p us:=match us,l with|[a0],_=>h a0
theorem bn2{p:List Value->Prop}(h:∀ a0 a1:Value,p [a0,a1])(us:List Value)(l:us.length=2):p us:=match us,l with|[a0,a1],_=>h a0 a1
theorem bn3{p:List Value->Prop}(h:∀ a0 a1 a2:Value,p [a0,a1,a2])(us:List Value)(l:us.length=3):p us:=match us,l with|[a0,a1,a2],_=>h a0 a1 a2
theorem bn4{p:List Value->Prop}(h:∀ a0 a1 a2 a3:Value,p [a0,a1,a2,a3])(us:List Value)(l:us.length=4):p us:=match us,l with|[a0,a1,a2,a3],_=>h a0 a1 a2 a3
theorem bn5{p:List Value->Prop}(h:∀ a0 a1 a2 a3 a4:Value,p [a0,a1,a2,a3,a4])(us:List Value)(l:us.length=5):p us:=match us,l with|[a0,a1,a2,a3,a4],_=>h a0 a1 a2 a3 a4
theorem bn7{p:List Value->Prop}(h:∀ a0 a1 a2 a3 a4 a5 a6:Value,p [a0,a1,a2,a3,a4,a5,a6])(us:List Value)(l:us.length=7):p us:=match us,l with|[a0,a1,a2,a3,a4,a5,a6],_=>h a0 a1 a2 a3 a4 a5 a6
theorem bn11{p:List Value->Prop}(h:∀ a0 a1 a2 a3 a4 a5 a6 a7 a8 a9 a10:Value,p [a0,a1,a2,a3,a4,a5,a6,a7,a8,a9,a10])(us:List Value)(l:us.length=11):p us:=match us,l with|[a0,a1,a2,a3,a4,a5,a6,a7,a8,a9,a10],_=>h a0 a1 a2 a3 a4 a5 a6 a7 a8 a9 a10
def Fi(K:PySem.W.Frag)(C:Addr)(n:Str)(f:Addr):Prop:=PySem.W.findIn K (.ref C) n=some (some (.ref f))
def Ng(K:PySem.W.Frag)(n:Str)(v:Option Value):Prop:=PySem.W.nsIn K mainGlobals n=some v
structure MP(K:PySem.W.Frag)(C:Addr)(n q:Str)(st:Stmt)(f:Addr):Prop where
 a:Fi K C n f
 i:PySem.W.isFn K (.ref f)=true
 F:∃ fd,Fun K n q st f fd
structure GP(K:PySem.W.Frag)(n:Str)(st:Stmt)(f:Addr):Prop where
 a:Ng K n (some (.ref f))
 F:∃ fd,Fun K n n st f fd
def cpB(K:PySem.W.Frag)(C:Addr)(fs:List Str):Bool:=PySem.W.plainGet K C Str.empty&&PySem.W.hasDictIn K C&&PySem.W.plainOver K C&&PySem.W.findIn K (.ref C) "__setattr__" == some (some (.builtin "object.__setattr__"))&&PySem.W.makesIn K C&&PySem.W.keepIn K (.ref C)&&fs.all fun f=>PySem.W.findIn K (.ref C) f==some none
structure CP(K:PySem.W.Frag)(n:Str)(C:Addr)(fs:List Str):Prop where
 a:Ng K n (some (.ref C))
 c:Cls K C
 m:PySem.W.makesIn K C=true
 k:PySem.W.keepIn K (.ref C)=true
 n:∀ (i:Nat) {f:Str},fs[i]?=some f->jAz K C f
structure XP(K:PySem.W.Frag)(n:Str)(C:Addr)(fs:List Str):Prop where
 a:Ng K n (some (.ref C))
 x:xcls K C fs=true
 m:PySem.W.excMk K C=true
 k:PySem.W.keepIn K (.ref C)=true
def GsP(K:PySem.W.Frag)(n z:Str):Prop:=∃ t,Ng K n (some (.str z t))
def GiP(K:PySem.W.Frag)(n:Str)(z:Int):Prop:=∃ t,Ng K n (some (.int z t))
section
variable {K:PySem.W.Frag}{C f:Addr}{n q:Str}{st:Stmt}{oc kV doc pm cdv ct:Value}{od an:Option Addr}{osl:Array (Option Value)}{fs:List Str}
theorem MP.of(a:PySem.W.findIn K (.ref C) n=some (some (.ref f)))(i:PySem.W.isFn K (.ref f)=true)(l:K.lookup f=some ⟨oc,od,.func (PySem.W.fnOf n q (jDJ st) (jCG st) (jAh st) .none kV doc pm an cdv ct),osl⟩)(c:PySem.W.codeIn K cdv q=true)(k:PySem.W.keepIn K (.ref f)=true):MP K C n q st f:=⟨a,i,_,jNp l c k⟩
theorem GP.of(a:PySem.W.nsIn K mainGlobals n=some (some (.ref f)))(l:K.lookup f=some ⟨oc,od,.func (PySem.W.fnOf n n (jDJ st) (jCG st) (jAh st) .none kV doc pm an cdv ct),osl⟩)(c:PySem.W.codeIn K cdv n=true)(k:PySem.W.keepIn K (.ref f)=true):GP K n st f:=⟨a,_,jNp l c k⟩
theorem CP.of(a:PySem.W.nsIn K mainGlobals n=some (some (.ref C)))(b:cpB K C fs=true):CP K n C fs:=by
 unfold cpB at b
 simp only [Bool.and_eq_true,beq_iff_eq,List.all_eq_true] at b
 obtain⟨⟨⟨⟨⟨⟨h1,h2⟩,h3⟩,h4⟩,h5⟩,h6⟩,h7⟩:=b
 exact⟨a,⟨h1,h2,h3,h4⟩,h5,h6,fun i f e=>h7 f (List.mem_of_getElem? e)⟩
theorem XP.of(a:PySem.W.nsIn K mainGlobals n=some (some (.ref C)))(x:xcls K C fs=true)(m:PySem.W.excMk K C=true)(k:PySem.W.keepIn K (.ref C)=true):XP K n C fs:=⟨a,x,m,k⟩
theorem GsP.of{x z:Str}{t:Tok}(g:PySem.W.nsIn K mainGlobals n=some (some (.str x t)))(e:x=z):GsP K n z:=⟨t,e ▸ g⟩
theorem GiP.of{x z:Int}{t:Tok}(g:PySem.W.nsIn K mainGlobals n=some (some (.int x t)))(e:x=z):GiP K n z:=⟨t,e ▸ g⟩
variable {P:Program}{w:World}{mg:Str->Option Value}{base h:Heap}{k:Nat}{fd:FuncData}{ps:List Str}{sp:Sp}{x:Str}
theorem mtE(a:Fi K C n f)(i:PySem.W.isFn K (.ref f)=true)(F:Fun K x q st f fd)(o:jAr P w K mg base (CXe P w) k f fd ps sp)(b:jBw K fd ps []):MtE P w K mg base k n C ps sp:=⟨_,_,⟨a,i,F.kp⟩,o,b⟩
theorem dfN(X:K.In h)(G:h.Ns mainGlobals mg)(p:GP K n st f)(F:Fun K n n st f fd)(o:jAr P w K mg base CX0 k f fd ps sp)(b:jBw K fd ps []):Dfn P w K mg base k n ps sp:=⟨_,_,o,b,F.kp,PySem.W.mg_of X G p.a⟩
theorem dfX(X:K.In h)(G:h.Ns mainGlobals mg)(p:GP K n st f)(F:Fun K n n st f fd)(o:jAr P w K mg base (CXe P w) k f fd ps sp)(b:jBw K fd ps []):DfE P w K mg base k n ps sp:=⟨_,_,o,b,F.kp,PySem.W.mg_of X G p.a⟩
theorem mkD(X:K.In h)(G:h.Ns mainGlobals mg)(c:CP K n C fs)(p:MP K C "__init__" q st f)(o:jAr P w K mg base CX0 k f fd ps sp)(b:jBw K fd ps []):MkD P w K mg base k n C ps sp:=⟨_,_,⟨c.m,p.a,p.i,c.k⟩,o,b,PySem.W.mg_of X G c.a⟩
theorem mkX(X:K.In h)(G:h.Ns mainGlobals mg)(c:XP K n C fs)(p:MP K C "__init__" q st f)(o:jAr P w K mg base CX0 k f fd ps sp)(b:jBw K fd ps [])(e:ps.length<=1000:=by decide):jCY P w K mg base k n C ps sp:=⟨⟨_,_,⟨c.m,p.a,p.i,c.k⟩,o,b,PySem.W.mg_of X G c.a⟩,e⟩
end
theorem all_mk{l:PySem.W.OpenLaw}{w:World}{K:PySem.W.Frag}{h:Heap}{mg:Str->Option Value}{fa yQ yZ yX yY yV yJ yW yU yK yG cQ cZ cV cK cG vQ vZ vX vY vV vJ vW vU vK vG gQ f0 f1 f2 f3 f4 f5 f6 f7 f8 f9 f10 f11 f12 f13 f14 f15 f16 f17 f18 f19 f20 f21 f22 f23 f24 f25 f26 f27 f28 f29 f30 f31 f32 f33 f34 f35 f36 f37 f38 f39 f40 f41 f42 f43 f44 f45 f46 f47 f48 f49 f50 f51 f52 f53 f54 f55 f56 f57 f58 f59 f60 f61 f62 f63 f64 f65 f66 f67 f68 f69 f70 f71 f72 f73 f74 f75 f76 f77 f78 f79 f80 f81 f82 f83 f84 f85 f86 f87 f88 f89 f90 f91 f92 f93 f94:Addr}(X:K.In h)(G:h.Ns mainGlobals mg)(hfa:mg "law"=some (.ref fa))
 (qaa:CP K "Layout" yQ ["cells","backs"])
 (qab:CP K "One" yZ ["cells","backs"])
 (qac:CP K "Both" yX ["cells","backs"])
 (qad:CP K "Several" yY ["cells","backs"])
 (qae:CP K "State" yV ["word"])
 (qaf:CP K "Ready" yJ ["word"])
 (qag:CP K "Jammed" yW ["word"])
 (qah:CP K "Away" yU ["word","jammed"])
 (qai:CP K "Run" yK ["job","inks","passed","printer","slipped","broken"])
 (qaj:CP K "Job" yG ["name","asker","pages","copies","layout","paper","cover","colour","staple","after"])
 (qak:CP K "Stock" cQ ["rooms","amounts"])
 (qal:CP K "Printer" cZ ["name","can","path","rooms","trays","inks","state","inside"])
 (qam:XP K "BadLine" cV ["place"])
 (qan:XP K "Busy" cK ["job"])
 (qao:XP K "Dry" cG ["name"])
 (qap:XP K "GoesRound" vQ ["ring"])
 (qaq:XP K "NoHeap" vZ ["place"])
 (qar:XP K "NoPrinter" vX ["job","lacks"])
 (qas:XP K "NotNow" vY ["found"])
 (qat:XP K "NoWay" vV ["place"])
 (qau:XP K "Nowhere" vJ ["job"])
 (qav:XP K "Over" vW ["job"])
 (qaw:XP K "TooMuch" vU ["name"])
 (qax:XP K "Twice" vK ["name"])
 (qay:XP K "Unknown" vG ["name"])
 (qaz:PySem.W.nsIn K mainGlobals "HallError"=some (some (.ref gQ)))
 (p0:GP K "own_copy" jMY f0)
 (p1:MP K vG "__init__" "Unknown.__init__" jDR f1)
 (p2:MP K vY "__init__" "NotNow.__init__" jED f2)
 (p3:MP K vU "__init__" "TooMuch.__init__" jDS f3)
 (p4:MP K cG "__init__" "Dry.__init__" jGL f4)
 (p5:MP K vW "__init__" "Over.__init__" jF8 f5)
 (p6:MP K vJ "__init__" "Nowhere.__init__" jDT f6)
 (p7:GP K "cells_from" jFk f7)
 (p8:MP K yQ "__init__" "Layout.__init__" jEE f8)
 (p9:MP K yQ "per_sheet" "Layout.per_sheet" jCA f9)
 (p10:MP K yQ "laid" "Layout.laid" jEF f10)
 (p11:MP K yQ "sheet_from" "Layout.sheet_from" jCr f11)
 (p12:MP K yZ "__init__" "One.__init__" jGM f12)
 (p13:MP K yX "__init__" "Both.__init__" jF9 f13)
 (p14:MP K yY "__init__" "Several.__init__" jDU f14)
 (p15:GP K "layout_of" jF_ f15)
 (p16:GP K "sheets_of" jGa f16)
 (p17:GP K "paper_of" jGN f17)
 (p18:GP K "ink_of" jIk f18)
 (p19:GP K "is_coloured" jEG f19)
 (p20:MP K yV "__init__" "State.__init__" jFl f20)
 (p21:MP K yV "called" "State.called" jDV f21)
 (p22:MP K yV "jam" "State.jam" jGb f22)
 (p23:MP K yV "mend" "State.mend" jFm f23)
 (p24:MP K yV "leave" "State.leave" jEH f24)
 (p25:MP K yV "come" "State.come" jFn f25)
 (p26:MP K yJ "__init__" "Ready.__init__" jFo f26)
 (p27:MP K yJ "jam" "Ready.jam" jGc f27)
 (p28:MP K yJ "leave" "Ready.leave" jEI f28)
 (p29:MP K yW "__init__" "Jammed.__init__" jEJ f29)
 (p30:MP K yW "mend" "Jammed.mend" jEK f30)
 (p31:MP K yW "leave" "Jammed.leave" jDW f31)
 (p32:MP K yU "__init__" "Away.__init__" jGd f32)
 (p33:MP K yU "come" "Away.come" jGe f33)
 (p34:MP K yK "__init__" "Run.__init__" jGO f34)
 (p35:MP K yK "each" "Run.each" jGP f35)
 (p36:MP K yK "total" "Run.total" jGf f36)
 (p37:MP K yK "out" "Run.out" jHt f37)
 (p38:MP K yK "at" "Run.at" jIl f38)
 (p39:MP K yK "whole" "Run.whole" jGg f39)
 (p40:MP K yK "lack" "Run.lack" jGQ f40)
 (p41:MP K yK "upcoming" "Run.upcoming" jDX f41)
 (p42:MP K yK "take" "Run.take" jGR f42)
 (p43:MP K yK "step" "Run.step" jGS f43)
 (p44:MP K yK "jam" "Run.jam" jHu f44)
 (p45:MP K yK "must_go_on" "Run.must_go_on" jC0 f45)
 (p46:MP K yK "must_be_placed" "Run.must_be_placed" jCj f46)
 (p47:MP K yK "used_by" "Run.used_by" jEL f47)
 (p48:MP K yK "fed" "Run.fed" jHv f48)
 (p49:MP K yK "emptied" "Run.emptied" jEM f49)
 (p50:MP K yK "note_out" "Run.note_out" jDY f50)
 (p51:MP K yG "__init__" "Job.__init__" jGT f51)
 (p52:MP K cQ "__init__" "Stock.__init__" jFp f52)
 (p53:MP K cQ "held" "Stock.held" jFq f53)
 (p54:MP K cQ "room" "Stock.room" jLl f54)
 (p55:MP K cQ "know" "Stock.know" jFr f55)
 (p56:MP K cQ "know_all" "Stock.know_all" jC1 f56)
 (p57:MP K cQ "put" "Stock.put" jGh f57)
 (p58:MP K cQ "put_all" "Stock.put_all" jDl f58)
 (p59:MP K cQ "draw_all" "Stock.draw_all" jC2 f59)
 (p60:MP K cZ "__init__" "Printer.__init__" jDZ f60)
 (p61:MP K cZ "stands" "Printer.stands" jC3 f61)
 (p62:MP K cZ "papers" "Printer.papers" jC4 f62)
 (p63:MP K cZ "paper_left" "Printer.paper_left" jCk f63)
 (p64:MP K cZ "ink_left" "Printer.ink_left" jCB f64)
 (p65:MP K cZ "within" "Printer.within" jC5 f65)
 (p66:MP K cZ "load" "Printer.load" jD0 f66)
 (p67:MP K cZ "fill" "Printer.fill" jD1 f67)
 (p68:MP K cZ "must_be_ready" "Printer.must_be_ready" jBZ f68)
 (p69:MP K cZ "feed" "Printer.feed" jD2 f69)
 (p70:MP K cZ "push" "Printer.push" jD3 f70)
 (p71:MP K cZ "oldest" "Printer.oldest" jC6 f71)
 (p72:MP K cZ "jam" "Printer.jam" jEN f72)
 (p73:MP K cZ "leave" "Printer.leave" jDm f73)
 (p74:MP K cZ "mend" "Printer.mend" jD4 f74)
 (p75:MP K cZ "come" "Printer.come" jD5 f75)
 (p76:GP K "_law_cell_at" jD6 f76)
 (p77:GP K "_law_mix" jGU f77)
 (p78:GP K "_law_word" jGi f78)
 (p79:GP K "_law_facts" jFs f79)
 (p80:GP K "_law_per" jGV f80)
 (p81:GP K "_law_use" jGW f81)
 (p82:GP K "_law_called" jEO f82)
 (p83:GP K "_law_place" jFt f83)
 (p84:GP K "_law_word_of" jD7 f84)
 (p85:GP K "_law_all" jGX f85)
 (p86:GP K "_law_refused" jD8 f86)
 (p87:GP K "_law_stopped" jD9 f87)
 (p88:GP K "_law_lacking" jD_ f88)
 (p89:GP K "_law_made_good" jC7 f89)
 (p90:GP K "_law_stepped" jEa f90)
 (p91:GP K "_law_halted" jEP f91)
 (p92:GP K "_law_start" jFu f92)
 (p93:GP K "_law_printers" jDn f93)
 (p94:GP K "law" jHO f94)
 (qaA:PySem.W.findIn K (.ref yZ) "per_sheet"=some (some (.ref f9)))
 (qaB:PySem.W.findIn K (.ref yX) "per_sheet"=some (some (.ref f9)))
 (qaC:PySem.W.findIn K (.ref yY) "per_sheet"=some (some (.ref f9)))
 (qaD:PySem.W.findIn K (.ref yZ) "sheet_from"=some (some (.ref f11)))
 (qaE:PySem.W.findIn K (.ref yX) "sheet_from"=some (some (.ref f11)))
 (qaF:PySem.W.findIn K (.ref yY) "sheet_from"=some (some (.ref f11)))
 (qaG:PySem.W.findIn K (.ref yZ) "laid"=some (some (.ref f10)))
 (qaH:PySem.W.findIn K (.ref yX) "laid"=some (some (.ref f10)))
 (qaI:PySem.W.findIn K (.ref yY) "laid"=some (some (.ref f10)))
 (qaJ:PySem.W.findIn K (.ref yJ) "called"=some (some (.ref f21)))
 (qaK:PySem.W.findIn K (.ref yW) "called"=some (some (.ref f21)))
 (qaL:PySem.W.findIn K (.ref yU) "called"=some (some (.ref f21)))
 (qaM:PySem.W.findIn K (.ref yW) "jam"=some (some (.ref f22)))
 (qaN:PySem.W.findIn K (.ref yU) "jam"=some (some (.ref f22)))
 (qaO:PySem.W.findIn K (.ref yU) "leave"=some (some (.ref f24)))
 (qaP:PySem.W.findIn K (.ref yJ) "mend"=some (some (.ref f23)))
 (qaQ:PySem.W.findIn K (.ref yU) "mend"=some (some (.ref f23)))
 (qaR:PySem.W.findIn K (.ref yJ) "come"=some (some (.ref f25)))
 (qaS:PySem.W.findIn K (.ref yW) "come"=some (some (.ref f25)))
 (qaT:PySem.W.specialIn K (.ref yQ) "__getattribute__"=some (some (.builtin "type.__getattribute__")))
 (qaU:PySem.W.readsIn K yQ (.type "type")=true)
 (qaV:PySem.W.findCls K (.ref yQ) (.type "type") "__init__"=some (.val (.ref f8)))
 (qaW:PySem.W.specialIn K (.ref yV) "__getattribute__"=some (some (.builtin "type.__getattribute__")))
 (qaX:PySem.W.readsIn K yV (.type "type")=true)
 (qaY:PySem.W.findCls K (.ref yV) (.type "type") "__init__"=some (.val (.ref f20)))
 (qaZ:PySem.W.excMk K gQ=true)
 (qa0:PySem.W.mroHas K vG (.ref gQ)=true)
 (qa1:PySem.W.mroHas K vY (.ref gQ)=true)
 (qa2:PySem.W.mroHas K vU (.ref gQ)=true)
 (qa3:PySem.W.mroHas K cG (.ref gQ)=true)
 (qa4:PySem.W.mroHas K vW (.ref gQ)=true)
 (qa5:PySem.W.mroHas K vJ (.ref gQ)=true)
 (qa6:PySem.W.mroHas K vG (.ref vG)=true)
 (qa7:PySem.W.mroHas K vY (.ref vG)=false)
 (qa8:PySem.W.mroHas K vY (.ref vY)=true)
 (qa9:PySem.W.mroHas K vU (.ref vG)=false)
 (qba:PySem.W.mroHas K vU (.ref vY)=false)
 (qbb:PySem.W.mroHas K vU (.ref vU)=true)
 (qbc:PySem.W.mroHas K cG (.ref vG)=false)
 (qbd:PySem.W.mroHas K cG (.ref vY)=false)
 (qbe:PySem.W.mroHas K cG (.ref vU)=false)
 (qbf:PySem.W.mroHas K cG (.ref cG)=true)
 (qbg:PySem.W.mroHas K vW (.ref vG)=false)
 (qbh:PySem.W.mroHas K vW (.ref vY)=false)
 (qbi:PySem.W.mroHas K vW (.ref vU)=false)
 (qbj:PySem.W.mroHas K vW (.ref cG)=false)
 (qbk:PySem.W.mroHas K vW (.ref vW)=true)
 (qbl:PySem.W.mroHas K vJ (.ref vG)=false)
 (qbm:PySem.W.mroHas K vJ (.ref vY)=false)
 (qbn:PySem.W.mroHas K vJ (.ref vU)=false)
 (qbo:PySem.W.mroHas K vJ (.ref cG)=false)
 (qbp:PySem.W.mroHas K vJ (.ref vW)=false)
 (qbq:PySem.W.mroHas K vJ (.ref vJ)=true)
 (xcn:PySem.W.specialIn K (.builtin "object.__class__") "__get__"=some (some (.builtin "getset_descriptor.__get__")))
 (xct:PySem.W.takesIn K (.builtin "object.__class__")=some true)
 (xb1:PySem.W.specialIn K (.ref gQ) "__getattribute__"=some (some (.builtin "type.__getattribute__")))
 (xb2:PySem.W.readsIn K gQ (.type "type")=true)
 (xb3:PySem.W.findCls K (.ref gQ) (.type "type") "__init__"=some (.val (.builtin "ValueError.__init__")))
 (xkt:jII K [cV,cK,cG,vQ,vZ,vX,vY,vV,vJ,vW,vU,vK,vG] gQ=true)
 (qbr:GiP K "SLIP" (-1))
 (gUP:GsP K "UP" (Str.ofString "up:"))
 (qbs:GiP K "NOTHING" (0))
 (qbt:GiP K "FIRST_PAGE" (1))
 (qbu:GiP K "COVER_SHEET" (0))
 (qbv:GsP K "READY" (Str.ofString "ready"))
 (qbw:GsP K "JAMMED" (Str.ofString "jammed"))
 (qbx:GsP K "OFF" (Str.ofString "off"))
 (qby:GsP K "BLACK" (Str.ofString "black"))
 (qbz:GsP K "COLOUR" (Str.ofString "colour"))
 (qbA:GsP K "WITHIN" (Str.ofString "within"))
 (qbB:PySem.W.nsIn K mainGlobals "len"=some none)
 (qbC:PySem.W.nsIn K mainGlobals "range"=some none)
 (qbD:PySem.W.nsIn K mainGlobals "str"=some none)
 (qbE:PySem.W.nsIn K mainGlobals "int"=some none)
 (qbF:PySem.W.nsIn K mainGlobals "tuple"=some none)
 (qbG:PySem.W.nsIn K mainGlobals "list"=some none)
 (qbH:PySem.W.nsIn K mainGlobals "isinstance"=some none)
 (qbI:PySem.W.nsIn K mainGlobals "min"=some none)
 (qbJ:PySem.W.nsIn K mainGlobals "max"=some none)
 (qbK:PySem.W.nsIn K mainGlobals "dict"=some none)
 (qbL:PySem.W.nsIn K mainGlobals "sorted"=some none)
 (qbM:PySem.W.nsIn K mainGlobals "ValueError"=some none)
 : ∃ fd:FuncData,(∀ (s:Shared) (v:Value),BindsTo s fd ⟨[v],[]⟩ [("_law_script",v)])/\∀ base:Heap,K.In base->base.Ns mainGlobals mg->jAr l.prog w K mg base CX0 14 fa fd ["_law_script"] (sp_law K):=by
 have e:=hfa.symm.trans (PySem.W.mg_of X G p94.a)
 cases e
 obtain⟨d0,F0⟩:=p0.F
 obtain⟨d1,F1⟩:=p1.F
 obtain⟨d2,F2⟩:=p2.F
 obtain⟨d3,F3⟩:=p3.F
 obtain⟨d4,F4⟩:=p4.F
 obtain⟨d5,F5⟩:=p5.F
 obtain⟨d6,F6⟩:=p6.F
 obtain⟨d7,F7⟩:=p7.F
 obtain⟨d8,F8⟩:=p8.F
 obtain⟨d9,F9⟩:=p9.F
 obtain⟨d10,F10⟩:=p10.F
 obtain⟨d11,F11⟩:=p11.F
 obtain⟨d12,F12⟩:=p12.F
 obtain⟨d13,F13⟩:=p13.F
 obtain⟨d14,F14⟩:=p14.F
 obtain⟨d15,F15⟩:=p15.F
 obtain⟨d16,F16⟩:=p16.F
 obtain⟨d17,F17⟩:=p17.F
 obtain⟨d18,F18⟩:=p18.F
 obtain⟨d19,F19⟩:=p19.F
 obtain⟨d20,F20⟩:=p20.F
 obtain⟨d21,F21⟩:=p21.F
 obtain⟨d22,F22⟩:=p22.F
 obtain⟨d23,F23⟩:=p23.F
 obtain⟨d24,F24⟩:=p24.F
 obtain⟨d25,F25⟩:=p25.F
 obtain⟨d26,F26⟩:=p26.F
 obtain⟨d27,F27⟩:=p27.F
 obtain⟨d28,F28⟩:=p28.F
 obtain⟨d29,F29⟩:=p29.F
 obtain⟨d30,F30⟩:=p30.F
 obtain⟨d31,F31⟩:=p31.F
 obtain⟨d32,F32⟩:=p32.F
 obtain⟨d33,F33⟩:=p33.F
 obtain⟨d34,F34⟩:=p34.F
 obtain⟨d35,F35⟩:=p35.F
 obtain⟨d36,F36⟩:=p36.F
 obtain⟨d37,F37⟩:=p37.F
 obtain⟨d38,F38⟩:=p38.F
 obtain⟨d39,F39⟩:=p39.F
 obtain⟨d40,F40⟩:=p40.F
 obtain⟨d41,F41⟩:=p41.F
 obtain⟨d42,F42⟩:=p42.F
 obtain⟨d43,F43⟩:=p43.F
 obtain⟨d44,F44⟩:=p44.F
 obtain⟨d45,F45⟩:=p45.F
 obtain⟨d46,F46⟩:=p46.F
 obtain⟨d47,F47⟩:=p47.F
 obtain⟨d48,F48⟩:=p48.F
 obtain⟨d49,F49⟩:=p49.F
 obtain⟨d50,F50⟩:=p50.F
 obtain⟨d51,F51⟩:=p51.F
 obtain⟨d52,F52⟩:=p52.F
 obtain⟨d53,F53⟩:=p53.F
 obtain⟨d54,F54⟩:=p54.F
 obtain⟨d55,F55⟩:=p55.F
 obtain⟨d56,F56⟩:=p56.F
 obtain⟨d57,F57⟩:=p57.F
 obtain⟨d58,F58⟩:=p58.F
 obtain⟨d59,F59⟩:=p59.F
 obtain⟨d60,F60⟩:=p60.F
 obtain⟨d61,F61⟩:=p61.F
 obtain⟨d62,F62⟩:=p62.F
 obtain⟨d63,F63⟩:=p63.F
 obtain⟨d64,F64⟩:=p64.F
 obtain⟨d65,F65⟩:=p65.F
 obtain⟨d66,F66⟩:=p66.F
 obtain⟨d67,F67⟩:=p67.F
 obtain⟨d68,F68⟩:=p68.F
 obtain⟨d69,F69⟩:=p69.F
 obtain⟨d70,F70⟩:=p70.F
 obtain⟨d71,F71⟩:=p71.F
 obtain⟨d72,F72⟩:=p72.F
 obtain⟨d73,F73⟩:=p73.F
 obtain⟨d74,F74⟩:=p74.F
 obtain⟨d75,F75⟩:=p75.F
 obtain⟨d76,F76⟩:=p76.F
 obtain⟨d77,F77⟩:=p77.F
 obtain⟨d78,F78⟩:=p78.F
 obtain⟨d79,F79⟩:=p79.F
 obtain⟨d80,F80⟩:=p80.F
 obtain⟨d81,F81⟩:=p81.F
 obtain⟨d82,F82⟩:=p82.F
 obtain⟨d83,F83⟩:=p83.F
 obtain⟨d84,F84⟩:=p84.F
 obtain⟨d85,F85⟩:=p85.F
 obtain⟨d86,F86⟩:=p86.F
 obtain⟨d87,F87⟩:=p87.F
 obtain⟨d88,F88⟩:=p88.F
 obtain⟨d89,F89⟩:=p89.F
 obtain⟨d90,F90⟩:=p90.F
 obtain⟨d91,F91⟩:=p91.F
 obtain⟨d92,F92⟩:=p92.F
 obtain⟨d93,F93⟩:=p93.F
 obtain⟨d94,F94⟩:=p94.F
 have T:Txt K mg yQ yZ yX yY yV yJ yW yU yK yG cQ cZ cV cK cG vQ vZ vX vY vV vJ vW vU vK vG gQ:=⟨PySem.W.mg_none_of X G qbB,PySem.W.mg_none_of X G qbC,PySem.W.mg_none_of X G qbD,PySem.W.mg_none_of X G qbE,PySem.W.mg_none_of X G qbF,PySem.W.mg_none_of X G qbG,PySem.W.mg_none_of X G qbH,PySem.W.mg_none_of X G qbI,PySem.W.mg_none_of X G qbJ,PySem.W.mg_none_of X G qbK,PySem.W.mg_none_of X G qbL,PySem.W.mg_none_of X G qbM,(let ⟨t,e⟩:=qbr;⟨⟨t,PySem.W.mg_of X G e⟩⟩),(let ⟨t,e⟩:=gUP;⟨⟨t,PySem.W.mg_of X G e⟩⟩),(let ⟨t,e⟩:=qbs;⟨⟨t,PySem.W.mg_of X G e⟩⟩),(let ⟨t,e⟩:=qbt;⟨⟨t,PySem.W.mg_of X G e⟩⟩),(let ⟨t,e⟩:=qbu;⟨⟨t,PySem.W.mg_of X G e⟩⟩),(let ⟨t,e⟩:=qbv;⟨⟨t,PySem.W.mg_of X G e⟩⟩),(let ⟨t,e⟩:=qbw;⟨⟨t,PySem.W.mg_of X G e⟩⟩),(let ⟨t,e⟩:=qbx;⟨⟨t,PySem.W.mg_of X G e⟩⟩),(let ⟨t,e⟩:=qby;⟨⟨t,PySem.W.mg_of X G e⟩⟩),(let ⟨t,e⟩:=qbz;⟨⟨t,PySem.W.mg_of X G e⟩⟩),(let ⟨t,e⟩:=qbA;⟨⟨t,PySem.W.mg_of X G e⟩⟩),qaa.c,PySem.W.mg_of X G qaa.a,qaa.n 0 rfl,qaa.n 1 rfl,qab.c,PySem.W.mg_of X G qab.a,qab.n 0 rfl,qab.n 1 rfl,qac.c,PySem.W.mg_of X G qac.a,qac.n 0 rfl,qac.n 1 rfl,qad.c,PySem.W.mg_of X G qad.a,qad.n 0 rfl,qad.n 1 rfl,qae.c,PySem.W.mg_of X G qae.a,qae.n 0 rfl,qaf.c,PySem.W.mg_of X G qaf.a,qaf.n 0 rfl,qag.c,PySem.W.mg_of X G qag.a,qag.n 0 rfl,qah.c,PySem.W.mg_of X G qah.a,qah.n 0 rfl,qah.n 1 rfl,qai.c,PySem.W.mg_of X G qai.a,qai.n 0 rfl,qai.n 1 rfl,qai.n 2 rfl,qai.n 3 rfl,qai.n 4 rfl,qai.n 5 rfl,qaj.c,PySem.W.mg_of X G qaj.a,qaj.n 0 rfl,qaj.n 1 rfl,qaj.n 2 rfl,qaj.n 3 rfl,qaj.n 4 rfl,qaj.n 5 rfl,qaj.n 6 rfl,qaj.n 7 rfl,qaj.n 8 rfl,qaj.n 9 rfl,qak.c,PySem.W.mg_of X G qak.a,qak.n 0 rfl,qak.n 1 rfl,qal.c,PySem.W.mg_of X G qal.a,qal.n 0 rfl,qal.n 1 rfl,qal.n 2 rfl,qal.n 3 rfl,qal.n 4 rfl,qal.n 5 rfl,qal.n 6 rfl,qal.n 7 rfl,qaZ,qa0,qa1,qa2,qa3,qa4,qa5,qa6,qa7,qa8,qa9,qba,qbb,qbc,qbd,qbe,qbf,qbg,qbh,qbi,qbj,qbk,qbl,qbm,qbn,qbo,qbp,qbq,XCl.of qam.x qam.m xcn xct,PySem.W.mg_of X G qam.a,XCl.of qan.x qan.m xcn xct,PySem.W.mg_of X G qan.a,XCl.of qao.x qao.m xcn xct,PySem.W.mg_of X G qao.a,XCl.of qap.x qap.m xcn xct,PySem.W.mg_of X G qap.a,XCl.of qaq.x qaq.m xcn xct,PySem.W.mg_of X G qaq.a,XCl.of qar.x qar.m xcn xct,PySem.W.mg_of X G qar.a,XCl.of qas.x qas.m xcn xct,PySem.W.mg_of X G qas.a,XCl.of qat.x qat.m xcn xct,PySem.W.mg_of X G qat.a,XCl.of qau.x qau.m xcn xct,PySem.W.mg_of X G qau.a,XCl.of qav.x qav.m xcn xct,PySem.W.mg_of X G qav.a,XCl.of qaw.x qaw.m xcn xct,PySem.W.mg_of X G qaw.a,XCl.of qax.x qax.m xcn xct,PySem.W.mg_of X G qax.a,XCl.of qay.x qay.m xcn xct,PySem.W.mg_of X G qay.a,⟨xb1,xb2,xb3⟩,PySem.W.mg_of X G qaz,xkt⟩
 obtain⟨oc,od,kV,doc,pm,an,cdv,ct,osl,rfl,lk,hcd⟩:=id F94.ex
 refine⟨PySem.W.fnOf "law" "law" (jDJ jHO) (jCG jHO) (jAh jHO) .none kV doc pm an cdv ct,fun s v=>.of_eq rfl,fun base _ _=>?_⟩
 have okk77:=jMd (P:=l.prog) (w:=w) (base:=base) T F77
 have Daf:=dfN X G p77 F77 okk77 (F77.binds fun _ _ _ _ _ _=>bn3 fun _ _ _=>rfl)
 have okk79:=jKS T F79 Daf
 have DbI:=dfN X G p79 F79 okk79 (F79.binds fun _ _ _ _ _ _=>bn3 fun _ _ _=>rfl)
 have okk78:=jLI (P:=l.prog) (w:=w) (base:=base) T F78
 have DaT:=dfN X G p78 F78 okk78 (F78.binds fun _ _ _ _ _ _=>bn2 fun _ _=>rfl)
 have okk80:=jMn (P:=l.prog) (w:=w) (base:=base) T F80
 have DaG:=dfN X G p80 F80 okk80 (F80.binds fun _ _ _ _ _ _=>bn1 fun _=>rfl)
 have okk52:=jKB (P:=l.prog) (w:=w) (base:=base) T F52
 have DaQ:=mkD X G qak p52 okk52 (F52.binds fun _ _ _ _ _ _=>bn2 fun _ _=>rfl)
 have okk20:=jKH (P:=l.prog) (w:=w) (base:=base) T F20
 have DbP:=mkD X G qae p20 okk20 (F20.binds fun _ _ _ _ _ _=>bn2 fun _ _=>rfl)
 have Daj:InD l.prog w K mg base 1 "State" yV ["self","word"] (jB1 K):=⟨_,_,⟨qaW,qaX,qaY⟩,okk20,(F20.binds fun _ _ _ _ _ _=>bn2 fun _ _=>rfl),F20.kp,PySem.W.mg_of X G qae.a⟩
 have okk26:=jKN T F26 Daj
 have Dak:=mkD X G qaf p26 okk26 (F26.binds fun _ _ _ _ _ _=>bn1 fun _=>rfl)
 have okk60:=jI8 T F60 DaQ Dak
 have DaS:=mkD X G qal p60 okk60 (F60.binds fun _ _ _ _ _ _=>bn7 fun _ _ _ _ _ _ _=>rfl)
 have okk76:=jJb (P:=l.prog) (w:=w) (base:=base) T F76
 have Dae:=dfN X G p76 F76 okk76 (F76.binds fun _ _ _ _ _ _=>bn2 fun _ _=>rfl)
 have okk3:=jIO (P:=l.prog) (w:=w) (base:=base) T F3
 have Das:=mkX X G qaw p3 okk3 (F3.binds fun _ _ _ _ _ _=>bn2 fun _ _=>rfl)
 have okk1:=jIM (P:=l.prog) (w:=w) (base:=base) T F1
 have DaU:=mkX X G qay p1 okk1 (F1.binds fun _ _ _ _ _ _=>bn2 fun _ _=>rfl)
 have okk55:=jKD T F55 DaU
 have Dar:=mtE p55.a p55.i F55 okk55 (F55.binds fun _ _ _ _ _ _=>bn2 fun _ _=>rfl)
 have okk56:=jHX T F56 Dar
 have Dat:=mtE p56.a p56.i F56 okk56 (F56.binds fun _ _ _ _ _ _=>bn2 fun _ _=>rfl)
 have okk58:=jIm T F58 Das Dat
 have Dav:=mtE p58.a p58.i F58 okk58 (F58.binds fun _ _ _ _ _ _=>bn2 fun _ _=>rfl)
 have okk57:=jLp T F57 Dav
 have DaY:=mtE p57.a p57.i F57 okk57 (F57.binds fun _ _ _ _ _ _=>bn3 fun _ _ _=>rfl)
 have okk66:=jIU T F66 DaY
 have okk67:=jIW T F67 Dav
 have Daq:=mtE p66.a p66.i F66 okk66 (F66.binds fun _ _ _ _ _ _=>bn3 fun _ _ _=>rfl)
 have Dan:=mtE p67.a p67.i F67 okk67 (F67.binds fun _ _ _ _ _ _=>bn3 fun _ _ _=>rfl)
 have okk93:=jIr T F93 DaS Dae Daq Dan
 have DbJ:=dfN X G p93 F93 okk93 (F93.binds fun _ _ _ _ _ _=>bn3 fun _ _ _=>rfl)
 have okk19:=jJR (P:=l.prog) (w:=w) (base:=base) T F19
 have Dbo:=dfN X G p19 F19 okk19 (F19.binds fun _ _ _ _ _ _=>bn2 fun _ _=>rfl)
 have okk18:=jNP T F18 Dbo
 have Dbw:=dfN X G p18 F18 okk18 (F18.binds fun _ _ _ _ _ _=>bn2 fun _ _=>rfl)
 have okk8:=jJN (P:=l.prog) (w:=w) (base:=base) T F8
 have DbQ:=mkD X G qaa p8 okk8 (F8.binds fun _ _ _ _ _ _=>bn3 fun _ _ _=>rfl)
 have Dal:InD l.prog w K mg base 1 "Layout" yQ ["self","cells","backs"] (jBQ K):=⟨_,_,⟨qaT,qaU,qaV⟩,okk8,(F8.binds fun _ _ _ _ _ _=>bn3 fun _ _ _=>rfl),F8.kp,PySem.W.mg_of X G qaa.a⟩
 have okk14:=jI_ T F14 Dal
 have Dbh:=mkD X G qad p14 okk14 (F14.binds fun _ _ _ _ _ _=>bn2 fun _ _=>rfl)
 have okk12:=jL8 T F12 Dal
 have Dbi:=mkD X G qab p12 okk12 (F12.binds fun _ _ _ _ _ _=>bn1 fun _=>rfl)
 have okk13:=jLC T F13 Dal
 have Dbj:=mkD X G qac p13 okk13 (F13.binds fun _ _ _ _ _ _=>bn1 fun _=>rfl)
 have okk15:=jLE T F15 Dbh Dbi Dbj
 have Dbk:=dfN X G p15 F15 okk15 (F15.binds fun _ _ _ _ _ _=>bn1 fun _=>rfl)
 have okk9:=jHi (P:=l.prog) (w:=w) (base:=base) T F9
 have okk7:=jKP (P:=l.prog) (w:=w) (base:=base) T F7
 have DaR:=dfN X G p7 F7 okk7 (F7.binds fun _ _ _ _ _ _=>bn3 fun _ _ _=>rfl)
 have okk11:=jG0 T F11 DaR
 have Dbb:=mtE (n:="per_sheet") qaA p9.i F9 okk9.lift (F9.binds fun _ _ _ _ _ _=>bn1 fun _=>rfl)
 have Dbc:=mtE (n:="per_sheet") qaB p9.i F9 okk9.lift (F9.binds fun _ _ _ _ _ _=>bn1 fun _=>rfl)
 have Dbd:=mtE (n:="per_sheet") qaC p9.i F9 okk9.lift (F9.binds fun _ _ _ _ _ _=>bn1 fun _=>rfl)
 have Dbe:=mtE (n:="sheet_from") qaD p11.i F11 okk11.lift (F11.binds fun _ _ _ _ _ _=>bn3 fun _ _ _=>rfl)
 have Dbf:=mtE (n:="sheet_from") qaE p11.i F11 okk11.lift (F11.binds fun _ _ _ _ _ _=>bn3 fun _ _ _=>rfl)
 have Dbg:=mtE (n:="sheet_from") qaF p11.i F11 okk11.lift (F11.binds fun _ _ _ _ _ _=>bn3 fun _ _ _=>rfl)
 have okk10:=jJP T F10 Dbb Dbc Dbd Dbe Dbf Dbg
 have Dbl:=mtE (n:="laid") qaG p10.i F10 okk10.lift (F10.binds fun _ _ _ _ _ _=>bn2 fun _ _=>rfl)
 have Dbm:=mtE (n:="laid") qaH p10.i F10 okk10.lift (F10.binds fun _ _ _ _ _ _=>bn2 fun _ _=>rfl)
 have Dbn:=mtE (n:="laid") qaI p10.i F10 okk10.lift (F10.binds fun _ _ _ _ _ _=>bn2 fun _ _=>rfl)
 have okk16:=jLG T F16 Dbk Dbl Dbm Dbn
 have Dbx:=dfN X G p16 F16 okk16 (F16.binds fun _ _ _ _ _ _=>bn1 fun _=>rfl)
 have okk34:=jMl T F34 Dbw Dbx
 have DbK:=mkD X G qai p34 okk34 (F34.binds fun _ _ _ _ _ _=>bn2 fun _ _=>rfl)
 have okk51:=jL_ (P:=l.prog) (w:=w) (base:=base) T F51
 have DbL:=mkD X G qaj p51 okk51 (F51.binds fun _ _ _ _ _ _=>bn11 fun _ _ _ _ _ _ _ _ _ _ _=>rfl)
 have okk37:=jM1 (P:=l.prog) (w:=w) (base:=base) T F37
 have okk38:=jNR (P:=l.prog) (w:=w) (base:=base) T F38
 have okk35:=jMf (P:=l.prog) (w:=w) (base:=base) T F35
 have Dag:=mtE p35.a p35.i F35 okk35.lift (F35.binds fun _ _ _ _ _ _=>bn1 fun _=>rfl)
 have okk36:=jLM T F36 Dag
 have DaB:=mtE p36.a p36.i F36 okk36.lift (F36.binds fun _ _ _ _ _ _=>bn1 fun _=>rfl)
 have okk39:=jLO T F39 DaB
 have okk40:=jMh T F40 Dag
 have okk65:=jH2 (P:=l.prog) (w:=w) (base:=base) T F65
 have Dah:=mtE p65.a p65.i F65 okk65.lift (F65.binds fun _ _ _ _ _ _=>bn1 fun _=>rfl)
 have okk41:=jJe T F41 Dah DaB
 have okk21:=jIQ (P:=l.prog) (w:=w) (base:=base) T F21
 have DaV:=mtE (n:="called") qaJ p21.i F21 okk21.lift (F21.binds fun _ _ _ _ _ _=>bn1 fun _=>rfl)
 have DaW:=mtE (n:="called") qaK p21.i F21 okk21.lift (F21.binds fun _ _ _ _ _ _=>bn1 fun _=>rfl)
 have DaX:=mtE (n:="called") qaL p21.i F21 okk21.lift (F21.binds fun _ _ _ _ _ _=>bn1 fun _=>rfl)
 have okk61:=jH0 T F61 DaV DaW DaX
 have okk53:=jKF T F53 Dar
 have Dao:=mtE p53.a p53.i F53 okk53 (F53.binds fun _ _ _ _ _ _=>bn2 fun _ _=>rfl)
 have okk64:=jHg T F64 Dao
 have okk62:=jH4 (P:=l.prog) (w:=w) (base:=base) T F62
 have okk63:=jGs T F63 Dao
 have Dbz:=mtE p37.a p37.i F37 okk37.lift (F37.binds fun _ _ _ _ _ _=>bn1 fun _=>rfl)
 have DbA:=mtE p38.a p38.i F38 okk38.lift (F38.binds fun _ _ _ _ _ _=>bn1 fun _=>rfl)
 have Dad:=mtE p39.a p39.i F39 okk39.lift (F39.binds fun _ _ _ _ _ _=>bn1 fun _=>rfl)
 have DbB:=mtE p40.a p40.i F40 okk40.lift (F40.binds fun _ _ _ _ _ _=>bn1 fun _=>rfl)
 have DaF:=mtE p41.a p41.i F41 okk41.lift (F41.binds fun _ _ _ _ _ _=>bn1 fun _=>rfl)
 have Daa:=mtE p61.a p61.i F61 okk61.lift (F61.binds fun _ _ _ _ _ _=>bn1 fun _=>rfl)
 have DbC:=mtE p64.a p64.i F64 okk64 (F64.binds fun _ _ _ _ _ _=>bn1 fun _=>rfl)
 have DaJ:=mtE p62.a p62.i F62 okk62.lift (F62.binds fun _ _ _ _ _ _=>bn1 fun _=>rfl)
 have DaA:=mtE p63.a p63.i F63 okk63 (F63.binds fun _ _ _ _ _ _=>bn2 fun _ _=>rfl)
 have okk85:=jMp T F85 Dbz DbA Dad DbB DaF Daa Dah DbC DaJ DaA
 have DaO:=dfN X G p85 F85 okk85 (F85.binds fun _ _ _ _ _ _=>bn2 fun _ _=>rfl)
 have okk2:=jJC (P:=l.prog) (w:=w) (base:=base) T F2
 have Dab:=mkX X G qas p2 okk2 (F2.binds fun _ _ _ _ _ _=>bn2 fun _ _=>rfl)
 have okk5:=jLK (P:=l.prog) (w:=w) (base:=base) T F5
 have Dbp:=mkX X G qav p5 okk5 (F5.binds fun _ _ _ _ _ _=>bn2 fun _ _=>rfl)
 have okk45:=jH8 T F45 Dbp Dad
 have okk68:=jFy T F68 Dab Daa
 have okk71:=jH6 (P:=l.prog) (w:=w) (base:=base) T F71
 have Day:=mtE p68.a p68.i F68 okk68 (F68.binds fun _ _ _ _ _ _=>bn1 fun _=>rfl)
 have Daz:=mtE p71.a p71.i F71 okk71.lift (F71.binds fun _ _ _ _ _ _=>bn1 fun _=>rfl)
 have okk70:=jIY T F70 Day Daz
 have okk50:=jJg T F50 Dad
 have DaD:=mtE p70.a p70.i F70 okk70 (F70.binds fun _ _ _ _ _ _=>bn1 fun _=>rfl)
 have Dai:=mtE p50.a p50.i F50 okk50.lift (F50.binds fun _ _ _ _ _ _=>bn2 fun _ _=>rfl)
 have okk49:=jJW T F49 Dah DaD Dai
 have DaC:=mtE p45.a p45.i F45 okk45 (F45.binds fun _ _ _ _ _ _=>bn1 fun _=>rfl)
 have Dbu:=mtE p49.a p49.i F49 okk49 (F49.binds fun _ _ _ _ _ _=>bn1 fun _=>rfl)
 have okk42:=jMi T F42 Dab DaC Daa Dbu Dad
 have okk6:=jJd (P:=l.prog) (w:=w) (base:=base) T F6
 have Dbq:=mkX X G qau p6 okk6 (F6.binds fun _ _ _ _ _ _=>bn2 fun _ _=>rfl)
 have okk46:=jGv T F46 Dbq DaC
 have okk17:=jMb (P:=l.prog) (w:=w) (base:=base) T F17
 have Dbr:=dfN X G p17 F17 okk17 (F17.binds fun _ _ _ _ _ _=>bn2 fun _ _=>rfl)
 have okk47:=jJS T F47 Dbr Dag
 have okk4:=jL6 (P:=l.prog) (w:=w) (base:=base) T F4
 have Dau:=mkX X G qao p4 okk4 (F4.binds fun _ _ _ _ _ _=>bn2 fun _ _=>rfl)
 have okk59:=jHY T F59 Dau Dat
 have DaP:=mtE p59.a p59.i F59 okk59 (F59.binds fun _ _ _ _ _ _=>bn2 fun _ _=>rfl)
 have okk69:=jI0 T F69 Dau Day DaA DaP Daz
 have Dbs:=mtE p47.a p47.i F47 okk47.lift (F47.binds fun _ _ _ _ _ _=>bn2 fun _ _=>rfl)
 have Dbt:=mtE p69.a p69.i F69 okk69 (F69.binds fun _ _ _ _ _ _=>bn5 fun _ _ _ _ _=>rfl)
 have okk48:=jM2 T F48 Dbs Dbt
 have DaE:=mtE p46.a p46.i F46 okk46 (F46.binds fun _ _ _ _ _ _=>bn1 fun _=>rfl)
 have Dbv:=mtE p48.a p48.i F48 okk48 (F48.binds fun _ _ _ _ _ _=>bn2 fun _ _=>rfl)
 have okk43:=jMj T F43 DaE DaF DaD Dbv Dai
 have okk29:=jJG T F29 Daj
 have Daw:=mkD X G qag p29 okk29 (F29.binds fun _ _ _ _ _ _=>bn1 fun _=>rfl)
 have okk27:=jLv T F27 Daw
 have okk22:=jLr T F22 Dab
 have Da8:=mtE p27.a p27.i F27 okk27.lift (F27.binds fun _ _ _ _ _ _=>bn1 fun _=>rfl)
 have Da9:=mtE (n:="jam") qaM p22.i F22 okk22 (F22.binds fun _ _ _ _ _ _=>bn1 fun _=>rfl)
 have Dba:=mtE (n:="jam") qaN p22.i F22 okk22 (F22.binds fun _ _ _ _ _ _=>bn1 fun _=>rfl)
 have okk72:=jJL T F72 Das Da8 Da9 Dba
 have Dam:=mtE p72.a p72.i F72 okk72 (F72.binds fun _ _ _ _ _ _=>bn2 fun _ _=>rfl)
 have okk44:=jM3 T F44 DaE Dam Dai
 have Dap:=mtE p42.a p42.i F42 okk42 (F42.binds fun _ _ _ _ _ _=>bn2 fun _ _=>rfl)
 have Dby:=mtE p43.a p43.i F43 okk43 (F43.binds fun _ _ _ _ _ _=>bn1 fun _=>rfl)
 have DaH:=mtE p44.a p44.i F44 okk44 (F44.binds fun _ _ _ _ _ _=>bn2 fun _ _=>rfl)
 have okk82:=jJ0 T F82 Dap Dby DaH
 have DaI:=dfX X G p82 F82 okk82 (F82.binds fun _ _ _ _ _ _=>bn3 fun _ _ _=>rfl)
 have okk83:=jKQ T F83 DaI
 have DaK:=dfN X G p83 F83 okk83 (F83.binds fun _ _ _ _ _ _=>bn3 fun _ _ _=>rfl)
 have okk84:=jJk T F84 DaI
 have DbD:=dfN X G p84 F84 okk84 (F84.binds fun _ _ _ _ _ _=>bn3 fun _ _ _=>rfl)
 have okk86:=jJl T F86 DaO DaK DbD
 have Dac:=dfN X G p86 F86 okk86 (F86.binds fun _ _ _ _ _ _=>bn5 fun _ _ _ _ _=>rfl)
 have okk23:=jKJ T F23 Dab
 have okk30:=jJK T F30 Dak
 have DaZ:=mtE (n:="mend") qaP p23.i F23 okk23 (F23.binds fun _ _ _ _ _ _=>bn1 fun _=>rfl)
 have Da0:=mtE p30.a p30.i F30 okk30.lift (F30.binds fun _ _ _ _ _ _=>bn1 fun _=>rfl)
 have Da1:=mtE (n:="mend") qaQ p23.i F23 okk23 (F23.binds fun _ _ _ _ _ _=>bn1 fun _=>rfl)
 have okk74:=jI4 T F74 DaZ Da0 Da1 Daa
 have okk32:=jLt T F32 Daj
 have Dax:=mkD X G qah p32 okk32 (F32.binds fun _ _ _ _ _ _=>bn2 fun _ _=>rfl)
 have okk28:=jJI T F28 Dax
 have okk31:=jIS T F31 Dax
 have okk24:=jJE T F24 Dab
 have Da5:=mtE p28.a p28.i F28 okk28.lift (F28.binds fun _ _ _ _ _ _=>bn1 fun _=>rfl)
 have Da6:=mtE p31.a p31.i F31 okk31.lift (F31.binds fun _ _ _ _ _ _=>bn1 fun _=>rfl)
 have Da7:=mtE (n:="leave") qaO p24.i F24 okk24 (F24.binds fun _ _ _ _ _ _=>bn1 fun _=>rfl)
 have okk73:=jIn T F73 Da5 Da6 Da7
 have okk25:=jKL T F25 Dab
 have okk33:=jLx T F33 Daw Dak
 have Da2:=mtE (n:="come") qaR p25.i F25 okk25 (F25.binds fun _ _ _ _ _ _=>bn1 fun _=>rfl)
 have Da3:=mtE (n:="come") qaS p25.i F25 okk25 (F25.binds fun _ _ _ _ _ _=>bn1 fun _=>rfl)
 have Da4:=mtE p33.a p33.i F33 okk33.lift (F33.binds fun _ _ _ _ _ _=>bn1 fun _=>rfl)
 have okk75:=jI6 T F75 Da2 Da3 Da4 Daa
 have DaL:=mtE p74.a p74.i F74 okk74 (F74.binds fun _ _ _ _ _ _=>bn1 fun _=>rfl)
 have DaN:=mtE p73.a p73.i F73 okk73 (F73.binds fun _ _ _ _ _ _=>bn1 fun _=>rfl)
 have DaM:=mtE p75.a p75.i F75 okk75 (F75.binds fun _ _ _ _ _ _=>bn1 fun _=>rfl)
 have okk92:=jKR T F92 Dac Dam DaL DaN DaM
 have DbM:=dfN X G p92 F92 okk92 (F92.binds fun _ _ _ _ _ _=>bn4 fun _ _ _ _=>rfl)
 have okk87:=jJm T F87 Dac DaL DaM
 have DbH:=dfN X G p87 F87 okk87 (F87.binds fun _ _ _ _ _ _=>bn3 fun _ _ _=>rfl)
 have okk91:=jJ1 T F91 DbH Dac DaH DaN
 have DbN:=dfN X G p91 F91 okk91 (F91.binds fun _ _ _ _ _ _=>bn4 fun _ _ _ _=>rfl)
 have okk81:=jMo T F81 DaG
 have DbE:=dfN X G p81 F81 okk81 (F81.binds fun _ _ _ _ _ _=>bn2 fun _ _=>rfl)
 have okk88:=jJo (P:=l.prog) (w:=w) (base:=base) T F88
 have DbF:=dfN X G p88 F88 okk88 (F88.binds fun _ _ _ _ _ _=>bn2 fun _ _=>rfl)
 have okk89:=jH_ T F89 Daq Dan
 have DbG:=dfN X G p89 F89 okk89 (F89.binds fun _ _ _ _ _ _=>bn4 fun _ _ _ _=>rfl)
 have okk90:=jJp T F90 DbE DbF DaK DbG Dac
 have DbO:=dfN X G p90 F90 okk90 (F90.binds fun _ _ _ _ _ _=>bn4 fun _ _ _ _=>rfl)
 exact ok_law T F94 DbI DaT DaG DbJ DbK Dae DbL DbM Daf Dac DbN DbO Dap DaJ Daa Dam Dad
theorem walk{l:PySem.W.OpenLaw}{q:Program}{loose:List Str}{XP:(Str->Option Value)->Heap->Prop}{YP:World->Heap->Prop}{d:DefRec}{K:Params->PySem.W.Frag}(hn:l.most=some 63)(hdf:d.params.defaults=[])
 (hY:∀ (w:World) (h:Heap),YP w h->(K w.params).In h)
 (F:∀ (w:World) (mg:Str->Option Value) (fa:Addr) (h:Heap),(K w.params).In h->h.Ns mainGlobals mg->mg d.name=some (.ref fa) ->
  ∃ fd:FuncData,(∀ (s:Shared) (u:Value),BindsTo s fd ⟨[u],[]⟩ [("_law_script",u)])/\∀ base:Heap,(K w.params).In base->base.Ns mainGlobals mg->jAr l.prog w (K w.params) mg base CX0 14 fa fd ["_law_script"] (sp_law (K w.params))) :
 PySem.W.WalkO q loose XP YP l.row.toRowW d [] (fun f vs=>PySem.call f vs) :=
 L2.walk_of (n:=63) (k:=14) (x:="_law_script") (CX:=fun _=>CX0) (sp:=fun w=>sp_law (K w.params)) hn (by decide) hdf ⟨rfl,by decide,by decide⟩ hY F (fun _ _ a ns hl _ hS=>⟨a,rfl,⟨⟨ns,hS,hl⟩⟩,fun _=>rfl⟩) fun _ _ _ _ _ z=>z
end My
open PySem PySem.W PyProof.Rows
set_option maxRecDepth 100000 in
set_option maxHeartbeats 0 in
theorem PySem.Challenge.cw_spoolhall_k35_run_refuses_holds : PySem.Challenge.rw_spoolhall_k35_run_refuses.Holds := by
 w_on;o_law;k_head;(case hw=>w_witness2)
 k_fill
 refine My.walk (l:=PySem.Challenge.rw_spoolhall_k35_run_refuses) rfl rfl (fun w h Y=>PySem.W.kIn_of Y) ?F
 case F =>
  intro w mg fa h KX G hmg
  refine' My.all_mk KX G hmg ?qaa ?qab ?qac ?qad ?qae ?qaf ?qag ?qah ?qai ?qaj ?qak ?qal ?qam ?qan ?qao ?qap ?qaq ?qar ?qas ?qat ?qau ?qav ?qaw ?qax ?qay ?qaz ?p0 ?p1 ?p2 ?p3 ?p4 ?p5 ?p6 ?p7 ?p8 ?p9 ?p10 ?p11 ?p12 ?p13 ?p14 ?p15 ?p16 ?p17 ?p18 ?p19 ?p20 ?p21 ?p22 ?p23 ?p24 ?p25 ?p26 ?p27 ?p28 ?p29 ?p30 ?p31 ?p32 ?p33 ?p34 ?p35 ?p36 ?p37 ?p38 ?p39 ?p40 ?p41 ?p42 ?p43 ?p44 ?p45 ?p46 ?p47 ?p48 ?p49 ?p50 ?p51 ?p52 ?p53 ?p54 ?p55 ?p56 ?p57 ?p58 ?p59 ?p60 ?p61 ?p62 ?p63 ?p64 ?p65 ?p66 ?p67 ?p68 ?p69 ?p70 ?p71 ?p72 ?p73 ?p74 ?p75 ?p76 ?p77 ?p78 ?p79 ?p80 ?p81 ?p82 ?p83 ?p84 ?p85 ?p86 ?p87 ?p88 ?p89 ?p90 ?p91 ?p92 ?p93 ?p94 ?qaA ?qaB ?qaC ?qaD ?qaE ?qaF ?qaG ?qaH ?qaI ?qaJ ?qaK ?qaL ?qaM ?qaN ?qaO ?qaP ?qaQ ?qaR ?qaS ?qaT ?qaU ?qaV ?qaW ?qaX ?qaY ?qaZ ?qa0 ?qa1 ?qa2 ?qa3 ?qa4 ?qa5 ?qa6 ?qa7 ?qa8 ?qa9 ?qba ?qbb ?qbc ?qbd ?qbe ?qbf ?qbg ?qbh ?qbi ?qbj ?qbk ?qbl ?qbm ?qbn ?qbo ?qbp ?qbq ?xcn ?xct ?xb1 ?xb2 ?xb3 ?xkt ?qbr ?gUP ?qbs ?qbt ?qbu ?qbv ?qbw ?qbx ?qby ?qbz ?qbA ?qbB ?qbC ?qbD ?qbE ?qbF ?qbG ?qbH ?qbI ?qbJ ?qbK ?qbL ?qbM
  (case qaa|qab|qac|qad|qae|qaf|qag|qah|qai|qaj|qak|qal=>(refine' My.CP.of ?a ?b;(case a=>k_is);(case b=>kernel_rfl)))
  (case qam|qan|qao|qap|qaq|qar|qas|qat|qau|qav|qaw|qax|qay=>(refine' My.XP.of ?a ?x ?m ?k;(case a=>k_is);(case x|m=>kernel_rfl);(case k=>k_is)))
  (case qaz=>k_is)
  (case p0=>(refine' My.GP.of ?a ?l ?c ?k;(case a|l|c|k=>k_is)))
  (case p1|p2|p3|p4|p5|p6=>(refine' My.MP.of ?a ?i ?l ?c ?k;(case a|i|l|c|k=>k_is)))
  (case p7=>(refine' My.GP.of ?a ?l ?c ?k;(case a|l|c|k=>k_is)))
  (case p8|p9|p10|p11|p12|p13|p14=>(refine' My.MP.of ?a ?i ?l ?c ?k;(case a|i|l|c|k=>k_is)))
  (case p15|p16|p17|p18|p19=>(refine' My.GP.of ?a ?l ?c ?k;(case a|l|c|k=>k_is)))
  (case p20|p21|p22|p23|p24|p25|p26|p27|p28|p29|p30|p31|p32|p33|p34|p35|p36|p37|p38|p39|p40|p41|p42|p43|p44|p45|p46|p47|p48|p49|p50|p51|p52|p53|p54|p55|p56|p57|p58|p59|p60|p61|p62|p63|p64|p65|p66|p67|p68|p69|p70|p71|p72|p73|p74|p75=>(refine' My.MP.of ?a ?i ?l ?c ?k;(case a|i|l|c|k=>k_is)))
  (case p76|p77|p78|p79|p80|p81|p82|p83|p84|p85|p86|p87|p88|p89|p90|p91|p92|p93|p94=>(refine' My.GP.of ?a ?l ?c ?k;(case a|l|c|k=>k_is)))
  (case qaA|qaB|qaC|qaD|qaE|qaF|qaG|qaH|qaI|qaJ|qaK|qaL|qaM|qaN|qaO|qaP|qaQ|qaR|qaS|qaT|qaU|qaV|qaW|qaX|qaY=>k_is)
  (case qaZ|qa0|qa1|qa2|qa3|qa4|qa5|qa6|qa7|qa8|qa9|qba|qbb|qbc|qbd|qbe|qbf|qbg|qbh|qbi|qbj|qbk|qbl|qbm|qbn|qbo|qbp|qbq=>kernel_rfl)
  (case xcn|xct|xb1|xb2|xb3=>k_is)
  (case xkt=>kernel_rfl)
  (case qbr=>(refine' My.GiP.of ?a ?b;(case a=>k_is);(case b=>rfl)))
  (case gUP=>(refine' My.GsP.of ?a ?b;(case a=>k_is);(case b=>first|rfl|decide +kernel)))
  (case qbs|qbt|qbu=>(refine' My.GiP.of ?a ?b;(case a=>k_is);(case b=>rfl)))
  (case qbv|qbw|qbx|qby|qbz|qbA=>(refine' My.GsP.of ?a ?b;(case a=>k_is);(case b=>first|rfl|decide +kernel)))
  (case qbB|qbC|qbD|qbE|qbF|qbG|qbH|qbI|qbJ|qbK|qbL|qbM=>k_is)
#print axioms PySem.Challenge.cw_spoolhall_k35_run_refuses_holds
