import PyProof.Rows.All
import Wide.All
import OpenK.AllK
import Wide.FinOn
import Lean
import PyProof.EqAt
import PyProof.EqKinds
import PyProof.TupleCall
import PyProof.EnumMake
import PyProof.Draws
import PyProof.InstStoreFacts
import PyProof.ExcArgs
import PyProof.ExcBaseAll.ValueError
import KE.KDictLaws
import OpenK.KOwn
import PyProof.ListRange
import PyProof.AttrMissHeap
import PyProof.MinMaxWalk
import PyProof.WalksMore
import PyProof.NeKinds
import KE.KDictList
import KE.KDictSum
import KE.KEqDict
import PySem.Challenge.RW_spoolhall_k33_taken_over
set_option Elab.async false
set_option linter.all false
set_option maxRecDepth 100000
namespace L2
open PySem PySem.Spec PyProof.Rows
abbrev Key:=Sum Int Str
def jFZ:Key→Value→Bool
  | .inl k,v=>Value.isInt k v
  | .inr x,v=>Value.isStrOf x v
def keyH (w:World):Key→Int
  | .inl k=>hashInt k
  | .inr x=>hashStr w x
theorem jBn:∀ {k:Key} {v:Value},jFZ k v=true→(∃ i t,k=Sum.inl i∧v=Value.int i t)∨(∃ x t,k=Sum.inr x∧v=Value.str x t)
  | .inl i,v,h=>by
    obtain ⟨t,e⟩:=Value.isInt_shape (k:=i) (v:=v) h
    exact .inl ⟨i,t,rfl,e⟩
  | .inr x,v,h=>by
    obtain ⟨t,e⟩:=Value.isStrOf_shape (x:=x) (v:=v) h
    exact .inr ⟨x,t,rfl,e⟩
theorem jM9 (i:Int) (t:Tok):jFZ (.inl i) (.int i t)=true:=by simp [jFZ,Value.isInt]
theorem jM_ (x:Str) (t:Tok):jFZ (.inr x) (.str x t)=true:=by simp [jFZ,Value.isStrOf]
theorem key_ll (a b:Int):decide ((Sum.inl a:Key)=Sum.inl b)=(a == b):=by
  by_cases e:a=b
  · subst e;simp
  · have h:¬ (Sum.inl a:Key)=Sum.inl b:=fun q=>e (Sum.inl.inj q)
    rw [decide_eq_false h]
    exact (beq_eq_false_iff_ne.mpr e).symm
theorem key_rr (a b:Str):decide ((Sum.inr a:Key)=Sum.inr b)=decide (a=b):=by
  by_cases e:a=b
  · subst e;simp
  · have h:¬ (Sum.inr a:Key)=Sum.inr b:=fun q=>e (Sum.inr.inj q)
    rw [decide_eq_false h,decide_eq_false e]
theorem key_lr (a:Int) (b:Str):decide ((Sum.inl a:Key)=Sum.inr b)=false:=decide_eq_false (fun q=>nomatch q)
theorem key_rl (a:Str) (b:Int):decide ((Sum.inr a:Key)=Sum.inl b)=false:=decide_eq_false (fun q=>nomatch q)
def jA_ (prog:Program) (w:World):PySem.KeyKind prog w Key where
  is:=jFZ
  hash:=keyH w
  inj:=fun v a b ha hb=>by
    rcases jBn ha with ⟨i,t,rfl,rfl⟩ | ⟨x,t,rfl,rfl⟩
    · rcases jBn hb with ⟨j,u,rfl,e⟩ | ⟨y,u,rfl,e⟩
      · injection e with e1 _;rw [e1]
      · exact nomatch e
    · rcases jBn hb with ⟨j,u,rfl,e⟩ | ⟨y,u,rfl,e⟩
      · exact nomatch e
      · injection e with e1 _;rw [e1]
  byValue:=fun k v h=>by
    rcases jBn h with ⟨i,t,rfl,rfl⟩ | ⟨x,t,rfl,rfl⟩ <;> rfl
  pyHash:=fun hv h=>by
    rcases jBn hv with ⟨i,t,rfl,rfl⟩ | ⟨x,t,rfl,rfl⟩
    · exact wpAny_pyHash_int h
    · exact wpAny_pyHash_str h
  eqBool:=fun hu hv h=>by
    rcases jBn hu with ⟨i,t,rfl,rfl⟩ | ⟨x,t,rfl,rfl⟩
    · rcases jBn hv with ⟨j,u,rfl,rfl⟩ | ⟨y,u,rfl,rfl⟩
      · rw [key_ll] at h;exact wpAny_eqBool_int h
      · rw [key_lr] at h;exact SeqAt.EqAt.int_str i t y u _ _ _ _ h
    · rcases jBn hv with ⟨j,u,rfl,rfl⟩ | ⟨y,u,rfl,rfl⟩
      · rw [key_rl] at h;exact SeqAt.EqAt.str_int x t j u _ _ _ _ h
      · rw [key_rr] at h;exact wpAny_eqBool_str h
  «strs»:=fun k x t v h=>by
    rcases jBn h with ⟨i,u,rfl,e⟩ | ⟨y,u,rfl,e⟩
    · exact nomatch e
    · injection e with e1 _
      subst e1
      cases v <;> rfl
theorem jLV (prog:Program) (w:World) (i:Int) (t:Tok):(jA_ prog w).is (.inl i) (.int i t)=true:=jM9 i t
theorem jLW (prog:Program) (w:World) (x:Str) (t:Tok):(jA_ prog w).is (.inr x) (.str x t)=true:=jM_ x t
end L2
namespace L2
open PySem PySem.Spec PyProof.Rows
inductive V where
  | non | bl (b:Bool) | int (i:Int) | str (x:Str) | byt (b:Array UInt8) | flt (b:UInt64) | ref (a:Addr) | ty (n:String)
  deriving DecidableEq
def jAx:V→Value→Prop
  | .non,u=>u=Value.none
  | .bl b,u=>u=Value.bool b
  | .int i,u=>∃ t,u=Value.int i t
  | .str x,u=>∃ t,u=Value.str x t
  | .byt b,u=>∃ t,u=Value.bytes b t
  | .flt b,u=>∃ t,u=Value.float b t
  | .ref a,u=>u=Value.ref a
  | .ty n,u=>u=Value.type n
abbrev jAA:List V→List Value→Prop:=Paired jAx
theorem jAA.length {xs:List V} {us:List Value} (r:jAA xs us):xs.length=us.length:=Paired.length r
theorem jAA.get:∀ {xs:List V} {us:List Value} {i:Nat} {x:V},jAA xs us→xs[i]?=some x→∃ u,us[i]?=some u∧jAx x u
  | _,_,_,_,.nil,e=>by simp at e
  | _,_,0,_,.cons r _,e=>by simp at e;subst e;exact ⟨_,rfl,r⟩
  | _,_,i + 1,x,.cons _ t,e=>by
    obtain ⟨u,h1,h2⟩:=jAA.get (i:=i) (x:=x) t (by simpa using e)
    exact ⟨u,by simpa using h1,h2⟩
theorem jAA.set {x:V} {u:Value} (r:jAx x u):∀ {xs:List V} {us:List Value} (i:Nat),jAA xs us→jAA (xs.set i x) (us.set i u)
  | _,_,_,.nil=>.nil
  | _,_,0,.cons _ t=>.cons r t
  | _,_,i + 1,.cons q t=>.cons q (jAA.set r i t)
theorem jAA.append:∀ {xs ys:List V} {us ws:List Value},jAA xs us→jAA ys ws→jAA (xs ++ ys) (us ++ ws)
  | _,_,_,_,.nil,s=>s
  | _,_,_,_,.cons r t,s=>.cons r (jAA.append t s)
theorem jAA.take:∀ {xs:List V} {us:List Value} (n:Nat),jAA xs us→jAA (xs.take n) (us.take n)
  | _,_,0,_=>.nil
  | _,_,_ + 1,.nil=>.nil
  | _,_,n + 1,.cons r t=>.cons r (jAA.take n t)
theorem jAA.drop:∀ {xs:List V} {us:List Value} (n:Nat),jAA xs us→jAA (xs.drop n) (us.drop n)
  | _,_,0,r=>r
  | _,_,_ + 1,.nil=>.nil
  | _,_,n + 1,.cons _ t=>jAA.drop n t
def jBK:Option V→Option Value→Prop
  | some v,some u=>jAx v u
  | none,none=>True
  | _,_=>False
def KV {κ:Type}:List (κ×V)→List (κ×Value)→Prop:=Paired fun (p:κ×V) (q:κ×Value)=>p.1=q.1∧jAx p.2 q.2
def kV:Key→V
  | .inl i=>.int i
  | .inr x=>.str x
inductive HO where
  | lst (xs:List V)
  | tup (xs:List V)
  | dK (kvs:List (Key×V)) | dT (kvs:List (List Key×V))
  | set (S:Int→Bool) (n:Nat)
  | ins (C dx:Addr) (fs:List (Str×V))
  | own (x:Addr)
  | xd (fs:List (Str×V))
  | met (f x:Addr)
  | rng (lo hi:Int)
  | frz (o:Obj) (u:HO)
  | tbl (ps:Array Value)
  | ext (φ:Heap→Prop)
abbrev Hp:=Addr→Option HO
def upd (H:Hp) (a:Addr) (o:HO):Hp:=fun b=>if b=a then some o else H b
theorem jAc {H:Hp} {a:Addr} {o:HO}:upd H a o a=some o:=by unfold upd;rw [if_pos rfl]
theorem jAj {H:Hp} {a b:Addr} {o:HO} (h:b≠a):upd H a o b=H b:=by unfold upd;rw [if_neg h]
theorem jBE {H:Hp} {a:Addr} {o u:HO}:upd (upd H a o) a u=upd H a u:=by
  funext b;unfold upd;split <;> rfl
theorem jAn {H:Hp} {a b:Addr} {o u:HO} (h:H a=some o) (h':H b=some u) (d:o≠u):a≠b:=by
  intro e;subst e;rw [h] at h';exact d (Option.some.inj h')
theorem jAf {H:Hp} {a b:Addr} {o:HO} (h:H a=some o) (h':H b=none):a≠b:=by
  intro e;subst e;rw [h] at h';cases h'
section
variable (P:Program) (w:World)
def jAY (H:Hp) (h:Heap) (a:Addr):HO→Prop
  | .lst xs=>xs.length≤sizeLine∧∃ (its:List Value) (n:Nat),jAA xs its∧h.get? a=some { cls:=.type "list",data:=.seq its.toArray n }
  | .tup xs=>xs.length≤sizeLine∧∃ its:List Value,jAA xs its∧IsTup h a its.toArray
  | .dK kvs=>kvs.length≤sizeLine∧(a == sysModules)=false∧∃ vs,KV kvs vs∧h.DictOf (jA_ P w) a vs
  | .dT kvs=>kvs.length≤sizeLine∧(a == sysModules)=false∧∃ xs:List (List Key×Addr×Value),
      Paired (fun (p:List Key×V) (q:List Key×Addr×Value)=>p.1=q.1∧H q.2.1=some (.tup (p.1.map kV))∧jAx p.2 q.2.2) kvs xs ∧
      ∃ o es ep,h.get? a=some o∧o.ExactDict∧o.data=.dict es ep∧es.toList=xs.map (entryOfKey (tupleKind (jA_ P w)))∧(xs.map (·.1)).Nodup
  | .set S n=>h.SetOf (intKind P w) a S n
  | .ins C dx fs=>H dx=some (.own a)∧fs.length≤1000∧dx≠a∧h.get? a=some (PySem.W.instObj C dx) ∧
      ∃ mA,h.Ns1 dx mA∧(∀ f,jBK (fs.lookup f) (mA f))∧PySem.Within mA (fs.map (·.1))
  | .own _=>∃ o,h.get? a=some o
  | .xd fs=>∃ mA,h.Ns1 a mA∧∀ f,jBK (fs.lookup f) (mA f)
  | .rng lo hi=>∃ t u v,h.get? a=some { cls:=.type "range",data:=.fields #[.int lo t,.int hi u,.int 1 v] }
  | .frz o u=>h.get? a=some o∧jAY H h a u
  | .tbl ps=>h.get? a=some { cls:=.none,data:=.fields ps }
  | .met f x=>h.get? a=some (PySem.W.methodObj (.ref f) (.ref x))
  | .ext φ=>φ h∧(∃ o,h.get? a=some o)∧∀ h1 h2:Heap,φ h1→(∀ o,h1.get? a=some o→h2.get? a=some o)→φ h2
def HOk (H:Hp) (h:Heap):Prop:=∀ a o,H a=some o→jAY P w H h a o
end
section
variable {P:Program} {w:World} {H H':Hp} {h h':Heap} {a:Addr} {o:HO}
theorem jAY.lt (x:jAY P w H h a o):a < h.objs.size:=by
  cases o with
  | lst xs=>obtain ⟨_,_,_,_,e⟩:=x;exact Heap.lt_size e
  | tup xs=>obtain ⟨_,_,_,p⟩:=x;exact p.lt
  | dK kvs=>obtain ⟨_,_,_,_,o,_,_,e,_⟩:=x;exact Heap.lt_size e
  | dT kvs=>obtain ⟨_,_,_,_,o,_,_,e,_⟩:=x;exact Heap.lt_size e
  | set S n=>obtain ⟨o,_,_,_,e,_⟩:=x;exact Heap.lt_size e
  | ins C dx fs=>obtain ⟨_,_,_,e,_⟩:=x;exact Heap.lt_size e
  | own y=>obtain ⟨_,e⟩:=x;exact Heap.lt_size e
  | xd fs=>obtain ⟨_,⟨_,_,_,e,_⟩,_⟩:=x;exact Heap.lt_size e
  | rng lo hi=>obtain ⟨_,_,_,e⟩:=x;exact Heap.lt_size e
  | frz ob u=>obtain ⟨e,_⟩:=x;exact Heap.lt_size e
  | tbl ps=>exact Heap.lt_size (show h.get? a=some _ from x)
  | met f y=>exact Heap.lt_size (show h.get? a=some _ from x)
  | ext φ=>obtain ⟨_,⟨_,e⟩,_⟩:=x;exact Heap.lt_size e
theorem Paired.mapP {α β:Type} {F G:α→β→Prop}:∀ {l₁:List α} {l₂:List β},Paired F l₁ l₂→(∀ a b,F a b→G a b)→Paired G l₁ l₂
  | _,_,.nil,_=>.nil
  | _,_,.cons r t,f=>.cons (f _ _ r) (Paired.mapP t f)
theorem jAY.stay (x:jAY P w H h a o) (k:∀ b u,(b=a∨H b=some (.own a))→h.get? b=some u→h'.get? b=some u)
    (ho:∀ b,H b=some (.own a)→H' b=some (.own a)) (ht:∀ b xs,H b=some (.tup xs)→H' b=some (.tup xs)):jAY P w H' h' a o:=by
  induction o with
  | lst xs=>obtain ⟨z,its,n,r,e⟩:=x;exact ⟨z,its,n,r,k _ _ (.inl rfl) e⟩
  | tup xs=>obtain ⟨z,its,r,ob,e,c⟩:=x;exact ⟨z,its,r,ob,k _ _ (.inl rfl) e,c⟩
  | dK kvs=>obtain ⟨z,y,vs,r,ob,es,ep,e,c⟩:=x;exact ⟨z,y,vs,r,ob,es,ep,k _ _ (.inl rfl) e,c⟩
  | dT kvs =>
    obtain ⟨z,y,xs,r,ob,es,ep,e,c⟩:=x
    exact ⟨z,y,xs,Paired.mapP r fun p q z=>⟨z.1,ht _ _ z.2.1,z.2.2⟩,ob,es,ep,k _ _ (.inl rfl) e,c⟩
  | set S n=>obtain ⟨ob,es,ep,t,e,c⟩:=x;exact ⟨ob,es,ep,t,k _ _ (.inl rfl) e,c⟩
  | ins C dx fs =>
    obtain ⟨d,z,ne,e,mA,⟨od,es,ep,e2,c⟩,r⟩:=x
    exact ⟨ho _ d,z,ne,k _ _ (.inl rfl) e,mA,⟨od,es,ep,k _ _ (.inr d) e2,c⟩,r⟩
  | own y=>obtain ⟨ob,e⟩:=x;exact ⟨ob,k _ _ (.inl rfl) e⟩
  | xd fs=>obtain ⟨mA,⟨od,es,ep,e,c⟩,r⟩:=x;exact ⟨mA,⟨od,es,ep,k _ _ (.inl rfl) e,c⟩,r⟩
  | rng lo hi=>obtain ⟨t,u,v,e⟩:=x;exact ⟨t,u,v,k _ _ (.inl rfl) e⟩
  | frz ob u ih=>obtain ⟨e,q⟩:=x;exact ⟨k _ _ (.inl rfl) e,ih q⟩
  | tbl ps =>
    have e:h.get? a=some { cls:=.none,data:=.fields ps }:=x
    show h'.get? a=some { cls:=.none,data:=.fields ps }
    exact k a _ (.inl rfl) e
  | met f y =>
    have e:h.get? a=some (PySem.W.methodObj (.ref f) (.ref y)):=x
    show h'.get? a=some (PySem.W.methodObj (.ref f) (.ref y))
    exact k a _ (.inl rfl) e
  | ext φ=>obtain ⟨p,⟨o,e⟩,st⟩:=x;exact ⟨st _ _ p fun o q=>k _ _ (.inl rfl) q,⟨o,k _ _ (.inl rfl) e⟩,st⟩
theorem HOk.lt (x:HOk P w H h) (e:H a=some o):a < h.objs.size:=(x a o e).lt
theorem HOk.fresh (x:HOk P w H h) (e:h.objs.size≤a):H a=none:=by
  cases q:H a with
  | none=>rfl
  | some u=>exact absurd (Nat.lt_of_lt_of_le (x.lt q) e) (Nat.lt_irrefl _)
theorem HOk.kept (x:HOk P w H h) (k:∀ b u,h.get? b=some u→h'.get? b=some u):HOk P w H h':=fun a o e =>
  (x a o e).stay (fun b u _ q=>k b u q) (fun _ q=>q) fun _ _ q=>q
theorem HOk.laid (x:HOk P w H h) (k:∀ b u,h.get? b=some u→h'.get? b=some u) (hp:h.objs.size≤a) (new:jAY P w (upd H a o) h' a o):HOk P w (upd H a o) h':=fun b u e=>by
  have hn:=x.fresh hp
  by_cases hb:b=a
  · subst hb;rw [jAc] at e;cases e;exact new
  · rw [jAj hb] at e
    exact (x b u e).stay (fun c v _ q=>k c v q) (fun c q=>by rw [jAj (jAf q hn)];exact q) fun c xs q=>by rw [jAj (jAf q hn)];exact q
end
def Rd (H:Hp) (a:Addr) (u:HO):Prop:=H a=some u∨∃ o,H a=some (.frz o u)
theorem Rd.ok {P:Program} {w:World} {H:Hp} {h:Heap} {a:Addr} {u:HO} (r:Rd H a u) (x:HOk P w H h):jAY P w H h a u:=by
  rcases r with r | ⟨o,r⟩
  · exact x a u r
  · obtain ⟨_,q⟩:=x a _ r
    exact q
def Mut:Option HO→Prop
  | some (.lst _)=>True
  | some (.dK _)=>True
  | some (.dT _)=>True
  | some (.set _ _)=>True
  | some (.ins _ _ _)=>True
  | some (.ext _)=>True
  | _=>False
section
variable {P:Program} {w:World} {H:Hp} {h h':Heap} {x e:Addr} {o':HO}
theorem HOk.write (ok:HOk P w H h) (mu:Mut (H x)) (he:e=x∨H e=some (.own x)) (k:∀ b u,b≠e→h.get? b=some u→h'.get? b=some u) (heo:∃ u,h'.get? e=some u)
    (new:jAY P w (upd H x o') h' x o'):HOk P w (upd H x o') h':=fun b u q=>by
  have nown:∀ c y,H c=some (.own y)→c≠x:=fun c y r z=>by subst z;rw [r] at mu;exact mu
  have ntup:∀ c xs,H c=some (.tup xs)→c≠x:=fun c xs r z=>by subst z;rw [r] at mu;exact mu
  by_cases hb:b=x
  · subst hb;rw [jAc] at q;cases q;exact new
  · rw [jAj hb] at q
    by_cases hbe:b=e
    · have q':H b=some (.own x):=by
        rcases he with z | z
        · exact absurd (hbe.trans z) hb
        · rw [hbe];exact z
      rw [q] at q';cases q'
      obtain ⟨v,hv⟩:=heo
      exact ⟨v,by rw [hbe];exact hv⟩
    · refine (ok b u q).stay (fun c v hc r=>k c v ?_ r) (fun c r=>by rw [jAj (nown c b r)];exact r) fun c xs r=>by rw [jAj (ntup c xs r)];exact r
      rcases hc with rfl | hc
      · exact hbe
      · rintro rfl
        rcases he with z | z
        · exact nown c b hc z
        · rw [hc] at z;cases z;exact hb rfl
end
structure Un (fs ex:List Addr) (H H':Hp) (h h':Heap):Prop where
  keep:∀ b o,h.get? b=some o→H b=none→b ∉ fs→b ∉ ex→h'.get? b=some o
  slot:∀ b o,h.get? b=some o→H b=none→b∈fs→b ∉ ex→∃ sl,h'.get? b=some { o with slots:=sl }
  free:∀ b o,h.get? b=some o→H b=none→b ∉ ex→H' b=none
  there:∀ b o,h.get? b=some o→b ∉ ex→∃ o',h'.get? b=some o'
  tups:∀ b xs,H b=some (.tup xs)→H' b=some (.tup xs)
  frzs:∀ b o u,H b=some (.frz o u)→H' b=some (.frz o u)
  tbls:∀ b ps,H b=some (.tbl ps)→∃ more,H' b=some (.tbl (ps ++ more))
section
variable {fs fs' ex ex':List Addr} {H H1 H2:Hp} {h h1 h2 h':Heap} {a x e:Addr} {o:HO}
theorem Un.any (u:Un fs ex H H1 h h1) {b:Addr} {ob:Obj} (q:h.get? b=some ob) (n:H b=none) (hx:b ∉ ex):∃ sl,h1.get? b=some { ob with slots:=sl }:=by
  by_cases hb:b∈fs
  · exact u.slot b ob q n hb hx
  · exact ⟨ob.slots,u.keep b ob q n hb hx⟩
theorem Un.kept (k:∀ b u,h.get? b=some u→h'.get? b=some u):Un fs ex H H h h' :=
  ⟨fun b ob q _ _ _=>k b ob q,fun b ob q _ _ _=>⟨ob.slots,k b ob q⟩,fun _ _ _ n _=>n,fun b ob q _=>⟨ob,k b ob q⟩,fun _ _ q=>q,fun _ _ _ q=>q,fun _ ps q=>⟨#[],by rw [q];simp⟩⟩
theorem Un.refl:Un fs ex H H h h:=Un.kept fun _ _ q=>q
theorem Un.laid (k:∀ b u,h.get? b=some u→h'.get? b=some u) (hp:h.objs.size≤a) (hn:H a=none):Un fs ex H (upd H a o) h h' where
  keep:=fun b u q _ _ _=>k b u q
  slot:=fun b u q _ _ _=>⟨u.slots,k b u q⟩
  free:=fun b u q n _=>by rw [jAj (Nat.ne_of_lt (Nat.lt_of_lt_of_le (Heap.lt_size q) hp))];exact n
  there:=fun b u q _=>⟨u,k b u q⟩
  tups:=fun b xs q=>by rw [jAj (jAf q hn)];exact q
  frzs:=fun b u xs q=>by rw [jAj (jAf q hn)];exact q
  tbls:=fun b ps q=>⟨#[],by rw [jAj (jAf q hn),q];simp⟩
theorem Un.write (mu:Mut (H x)) (he:e=x∨H e=some (.own x)) (k:∀ b u,b≠e→h.get? b=some u→h'.get? b=some u) (heo:∃ u,h'.get? e=some u):Un fs ex H (upd H x o) h h':=by
  have hx:∀ b,H b=none→b≠x:=fun b n z=>by subst z;rw [n] at mu;exact mu
  have hb:∀ b,H b=none→b≠e:=fun b n z=>by
    subst z
    rcases he with r | r
    · exact hx b n r
    · rw [n] at r;cases r
  have hm:∀ b u,H b=some u→¬ Mut (some u)→b≠x:=fun b u q nm z=>by subst z;rw [q] at mu;exact nm mu
  refine ⟨fun b u q n _ _=>k b u (hb b n) q,fun b u q n _ _=>⟨u.slots,k b u (hb b n) q⟩,fun b u q n _=>by rw [jAj (hx b n)];exact n,fun b u q _=>?_,
    fun b xs q=>by rw [jAj (hm b _ q fun z=>z)];exact q,fun b u xs q=>by rw [jAj (hm b _ q fun z=>z)];exact q,fun b ps q=>⟨#[],by rw [jAj (hm b _ q fun z=>z),q];simp⟩⟩
  by_cases hbe:b=e
  · subst hbe;exact heo
  · exact ⟨u,k b u hbe q⟩
end
def trk (h:Heap) (H:Hp):List Addr:=(List.range h.objs.size).filter fun a=>(H a).isSome
def jF1 (h:Heap) (H:Hp):Heap:=PySem.W.hideAll h (trk h H)
theorem jNa (h:Heap) (H:Hp):(jF1 h H).objs.size=h.objs.size:=PySem.W.hideAll_size _ _
theorem jN4 {h:Heap} {H:Hp} {b:Addr} {o:Obj} (e:h.get? b=some o) (n:H b=none):(jF1 h H).get? b=some o :=
  PySem.W.hideAll_get _ e fun hm=>by
    have q:(H b).isSome=true:=(List.mem_filter.mp hm).2
    rw [n] at q;simp at q
theorem of_hidT {h:Heap} {H:Hp} {b:Addr} {o:Obj} (e:(jF1 h H).get? b=some o):h.get? b=some o∧H b=none:=by
  have e':h.get? b=some o:=PySem.W.of_hideAll (trk h H) e
  refine ⟨e',?_⟩
  cases q:H b with
  | none=>rfl
  | some x =>
    have hm:b∈trk h H:=List.mem_filter.mpr ⟨List.mem_range.mpr (Heap.lt_size e'),by simp [q]⟩
    have z:(jF1 h H).get? b=none:=PySem.W.hideAll_none (trk h H) hm
    rw [z] at e;cases e
def allNews (g h:Heap) (L:Addr):List (Addr×Obj):=(List.range h.objs.size).filterMap fun a=>if a=L∨(g.get? a).isSome=true then none else (h.get? a).map fun o=>(a,o)
def rest (g h:Heap) (L d:Addr):List (Addr×Obj):=(allNews g h L).filter fun p=>decide (p.1≠d)
end L2
namespace L2
open PySem PySem.Spec PyProof.Rows
structure Mod (K:PySem.W.Frag) (mg:Str→Option Value) (base:Heap):Prop where
  kin:K.In base
  glob:base.Ns mainGlobals mg
  blt:∃ mb,base.Ns builtinsNs mb∧∀ x:Str,x≠"__name__"→mb x=bootBuiltins x
  nolimit:base.NoLimit
/-- the context: a def's body (or a comprehension's block) running. base: fixed through the whole law; s₀, H₀: the entry; outer: the frames whose slots others may change (a def's callers); stack: all frames that run;
   ex: iterators that were made ahead of the entry and are walked here (a comprehension's);fn: the names whose cells were made at the entry (a def: all;a comprehension's block: its own);calm: not within an except suite;pn: pins that every state bears;xe: what is wanted of an exception that leaves the code -/
structure Cx where
  prog:Program
  w:World
  K:PySem.W.Frag
  mg:Str→Option Value
  base:Heap
  A:Around
  N:List Str
  s₀:Shared
  H₀:Hp
  env:Env
  outer:List Env
  stack:List Env
  ex:List Addr
  fn:Str→Bool
  calm:Bool
  pn:List (Addr×Obj)
  xe:Value→Shared→Prop
def frs (l:List Env):List Addr:=l.filterMap (·.frame)
abbrev Cx.fs (X:Cx):List Addr:=frs X.outer
def Vis (sc:Scope) (x:Str):Prop:=sc.names.lookup x=some .local∨sc.names.lookup x=some .cell∨sc.names.lookup x=some .free
def Loc (sc:Scope) (x:Str):Prop:=sc.names.lookup x=some .local∨sc.names.lookup x=some .cell
def Look (env:Env) (h:Heap) (m:Str→Option Value) (x:Str) (u:Value):Prop :=
  (env.kindOf x=some .local∧m x=some u)∨((env.kindOf x=some .cell∨env.kindOf x=some .free)∧∃ c,env.cells.lookup x=some c∧h.IsCell c (some u))
structure Cx.Ok (X:Cx):Prop where
  mod:Mod X.K X.mg X.base
  kind:X.env.scope.kind=.function
  glob:X.env.globals=mainGlobals
  blt:X.env.builtins=builtinsNs
  above:X.s₀.heap.objs.size≤X.env.locals
  inj:∀ x y c,X.env.cells.lookup x=some c→X.env.cells.lookup y=some c→x=y
  has:∀ x,(X.env.kindOf x=some .cell∨X.env.kindOf x=some .free)→∃ c,X.env.cells.lookup x=some c
  cab:∀ x c,X.fn x=true→X.env.cells.lookup x=some c→X.s₀.heap.objs.size≤c
  hd:X.calm=true→X.A.handled=none
  frames:X.A.frames=some X.stack
  stk:X.stack=X.outer∨(X.stack=X.env :: X.outer∧X.env.frame=some X.env.locals)
  exf:∀ b∈X.ex,b≠X.env.locals∧∀ x c,X.env.cells.lookup x=some c→c≠b
  bs:∀ b o,X.base.get? b=some o→X.s₀.heap.get? b=some o∧X.H₀ b=none
  bsz:X.base.objs.size≤X.s₀.heap.objs.size
  noex:∀ b o,X.base.get? b=some o→b ∉ X.ex
  exfs:∀ b∈X.ex,b ∉ X.fs
  funs:X.s₀.heap.FunFrames X.base X.outer
  frf:∀ b∈X.fs,X.H₀ b=none
structure Inv (X:Cx) (pins:List (Addr×Obj)) (σ:List (Option V)) (H:Hp) (s:Shared):Prop where
  ok:X.Ok
  os:s.os=X.s₀.os
  bare:AllBare s.gens
  base:Un X.fs X.ex X.H₀ H X.s₀.heap s.heap
  loc:∃ m,s.heap.Ns X.env.locals m∧∀ (i:Nat) (x:Str) (v:V),X.N[i]?=some x→σ[i]?=some (some v)→Vis X.env.scope x→∃ u,jAx v u∧Look X.env s.heap m x u
  cell:∀ x c,X.env.cells.lookup x=some c→∃ v,s.heap.IsCell c v
  free:H X.env.locals=none
  freeC:∀ x c,X.env.cells.lookup x=some c→H c=none
  pin:∀ p∈X.pn ++ pins,s.heap.get? p.1=some p.2∧H p.1=none∧p.1≠X.env.locals∧p.1 ∉ X.fs∧∀ v,p.2.data≠.cell v
  hok:HOk X.prog X.w H s.heap
  len:σ.length=X.N.length
section
variable {X:Cx} {pins:List (Addr×Obj)} {σ:List (Option V)} {H H':Hp} {s:Shared} {h':Heap}
theorem Cx.Ok.nofr (ok:X.Ok) {b:Addr} {o:Obj} (e:X.base.get? b=some o):b ∉ X.fs:=fun hb=>by
  have:=(ok.funs.mem hb).1
  rw [e] at this;cases this
theorem Inv.bs (I:Inv X pins σ H s):∀ b o,X.base.get? b=some o→s.heap.get? b=some o∧H b=none:=fun b o e =>
  ⟨I.base.keep b o (I.ok.bs b o e).1 (I.ok.bs b o e).2 (I.ok.nofr e) (I.ok.noex b o e),I.base.free b o (I.ok.bs b o e).1 (I.ok.bs b o e).2 (I.ok.noex b o e)⟩
theorem Inv.bk (I:Inv X pins σ H s):∀ b o,X.base.get? b=some o→s.heap.get? b=some o:=fun b o e=>(I.bs b o e).1
theorem Inv.mod (I:Inv X pins σ H s):Mod X.K X.mg X.base:=I.ok.mod
theorem Inv.kIn (I:Inv X pins σ H s):X.K.In s.heap:=I.ok.mod.kin.keeps I.bk
theorem Inv.lt (I:Inv X pins σ H s):X.env.locals < s.heap.objs.size:=let ⟨_,hn,_⟩:=I.loc;hn.lt
theorem Inv.sz (I:Inv X pins σ H s):X.s₀.heap.objs.size≤s.heap.objs.size:=Nat.le_trans I.ok.above (Nat.le_of_lt I.lt)
theorem Inv.nofs (I:Inv X pins σ H s) {a:Addr} (h:s.heap.objs.size≤a):a ∉ X.fs:=fun hb=>by
  obtain ⟨_,o,ho,_⟩:=I.ok.funs.mem hb
  exact absurd (Nat.lt_of_lt_of_le (Heap.lt_size ho) (Nat.le_trans I.sz h)) (Nat.lt_irrefl _)
theorem Inv.cne (I:Inv X pins σ H s):∀ x c,X.env.cells.lookup x=some c→c≠X.env.locals:=fun x c e z=>by
  obtain ⟨v,o,ho,hd⟩:=I.cell x c e
  obtain ⟨m,⟨o',es,ep,ho',hd',_⟩,_⟩:=I.loc
  rw [z,ho'] at ho;cases ho;rw [hd'] at hd;cases hd
theorem Inv.funs (I:Inv X pins σ H s):s.heap.FunFrames X.base X.outer:=by
  have all:∀ (l:List Env),(∀ b∈frs l,b∈X.fs)→X.s₀.heap.FunFrames X.base l→s.heap.FunFrames X.base l:=by
    intro l
    induction l with
    | nil=>intro _ _;trivial
    | cons env r ih =>
      intro hs hl
      obtain ⟨hk,⟨L,o,hf,hn,ho,hd⟩,hr⟩:=hl
      have hL:L∈X.fs:=hs L (by unfold frs;rw [List.filterMap_cons,hf];exact List.mem_cons_self)
      obtain ⟨sl,e⟩:=I.base.slot L o ho (I.ok.frf L hL) hL fun z=>I.ok.exfs L z hL
      exact ⟨hk,⟨L,_,hf,hn,e,hd⟩,ih (fun b hb=>hs b (by unfold frs;rw [List.filterMap_cons,hf];exact List.mem_cons_of_mem _ hb)) hr⟩
  exact all X.outer (fun _ hb=>hb) I.ok.funs
theorem Inv.stack (I:Inv X pins σ H s):s.heap.FunFrames X.base X.stack:=by
  rcases I.ok.stk with e | ⟨e,hf⟩
  · rw [e];exact I.funs
  · rw [e]
    obtain ⟨m,hn,_⟩:=I.loc
    refine .cons (by rw [I.ok.kind];decide) hf hn ?_ I.funs
    exact Heap.get?_none_of_le (Nat.le_trans I.ok.bsz I.ok.above)
theorem Inv.stkSub (I:Inv X pins σ H s):∀ b∈frs X.stack,b∈X.env.locals :: X.fs:=fun b hb=>by
  rcases I.ok.stk with e | ⟨e,hf⟩
  · rw [e] at hb;exact List.mem_cons_of_mem _ hb
  · rw [e] at hb
    unfold frs at hb
    rw [List.filterMap_cons,hf] at hb
    exact hb
theorem Inv.stkFree (I:Inv X pins σ H s):∀ b∈frs X.stack,H b=none:=fun b hb=>by
  rcases List.mem_cons.mp (I.stkSub b hb) with e | hb
  · rw [e];exact I.free
  · obtain ⟨_,o,ho,_⟩:=I.ok.funs.mem hb
    exact I.base.free b o ho (I.ok.frf b hb) fun z=>I.ok.exfs b z hb
theorem Inv.step {g':Array GenState} {t':Nat} {d':Drawn} {ch:List Addr} (I:Inv X pins σ H s)
    (hch:∀ b∈ch,(b∈X.ex∨X.s₀.heap.objs.size≤b)∧b≠X.env.locals∧(∀ x c,X.env.cells.lookup x=some c→c≠b)∧∀ p∈X.pn ++ pins,p.1≠b)
    (keep:∀ b o,b≠X.env.locals→b ∉ X.fs→b ∉ ch→s.heap.get? b=some o→H b=none→h'.get? b=some o)
    (slot:∀ b o,b≠X.env.locals→b∈X.fs→b ∉ ch→s.heap.get? b=some o→H b=none→∃ sl,h'.get? b=some { o with slots:=sl }) (free:∀ b o,b ∉ ch→s.heap.get? b=some o→H b=none→H' b=none)
    (there:∀ b o,b ∉ ch→s.heap.get? b=some o→∃ o',h'.get? b=some o')
    (tups:∀ b xs,H b=some (.tup xs)→H' b=some (.tup xs)) (frzs:∀ b o u,H b=some (.frz o u)→H' b=some (.frz o u)) (tbls:∀ b ps,H b=some (.tbl ps)→∃ more,H' b=some (.tbl (ps ++ more)))
    (ns:∀ m,s.heap.Ns X.env.locals m→h'.Ns X.env.locals m) (hok:HOk X.prog X.w H' h') (hg:AllBare g') :
    Inv X pins σ H' { s with heap:=h',gens:=g',drawn:=d',toks:=t' }:=by
  have neL:∀ b o,X.s₀.heap.get? b=some o→b≠X.env.locals:=fun b o e=>Nat.ne_of_lt (Nat.lt_of_lt_of_le (Heap.lt_size e) I.ok.above)
  have neC:∀ b o,X.s₀.heap.get? b=some o→b ∉ X.ex→b ∉ ch:=fun b o e hx hb=>by
    rcases (hch b hb).1 with z | z
    · exact hx z
    · exact absurd (Nat.lt_of_lt_of_le (Heap.lt_size e) z) (Nat.lt_irrefl _)
  have cellK:∀ x c,X.env.cells.lookup x=some c→∀ v,s.heap.IsCell c v→h'.IsCell c v:=fun x c e v ⟨o,ho,hd⟩=>by
    have nch:c ∉ ch:=fun z=>(hch c z).2.2.1 x c e rfl
    by_cases hc:c∈X.fs
    · obtain ⟨sl,q⟩:=slot c o (I.cne x c e) hc nch ho (I.freeC x c e)
      exact ⟨_,q,hd⟩
    · exact ⟨o,keep c o (I.cne x c e) hc nch ho (I.freeC x c e),hd⟩
  refine ⟨I.ok,I.os,hg,⟨fun b o e n hb hx=>?_,fun b o e n hb hx=>?_,fun b o e n hx=>?_,fun b o e hx=>?_,fun b xs e=>tups b xs (I.base.tups b xs e),fun b o xs e=>frzs b o xs (I.base.frzs b o xs e),fun b ps e=>?_⟩,?_,fun x c e=>?_,?_,fun x c e=>?_,fun p hp=>?_,hok,I.len⟩
  · exact keep b o (neL b o e) hb (neC b o e hx) (I.base.keep b o e n hb hx) (I.base.free b o e n hx)
  · obtain ⟨sl,e1⟩:=I.base.slot b o e n hb hx
    obtain ⟨sl',e2⟩:=slot b _ (neL b o e) hb (neC b o e hx) e1 (I.base.free b o e n hx)
    exact ⟨sl',e2⟩
  · obtain ⟨o',e1⟩:=I.base.there b o e hx
    exact free b o' (neC b o e hx) e1 (I.base.free b o e n hx)
  · obtain ⟨o',e1⟩:=I.base.there b o e hx
    exact there b o' (neC b o e hx) e1
  · obtain ⟨m1,e1⟩:=I.base.tbls b ps e
    obtain ⟨m2,e2⟩:=tbls b _ e1
    exact ⟨m1 ++ m2,by rw [e2,Array.append_assoc]⟩
  · obtain ⟨m,hn,hl⟩:=I.loc
    refine ⟨m,ns m hn,fun i x v e1 e2 e3=>?_⟩
    obtain ⟨u,r,l⟩:=hl i x v e1 e2 e3
    refine ⟨u,r,?_⟩
    rcases l with l | ⟨k,c,e,z⟩
    · exact .inl l
    · exact .inr ⟨k,c,e,cellK x c e _ z⟩
  · obtain ⟨v,z⟩:=I.cell x c e
    exact ⟨v,cellK x c e v z⟩
  · obtain ⟨m,⟨o,_,_,ho,_⟩,_⟩:=I.loc
    exact free _ o (fun z=>(hch _ z).2.1 rfl) ho I.free
  · obtain ⟨v,o,ho,hd⟩:=I.cell x c e
    exact free c o (fun z=>(hch c z).2.2.1 x c e rfl) ho (I.freeC x c e)
  · obtain ⟨e,n,ne,nf,d⟩:=I.pin p hp
    have nch:p.1 ∉ ch:=fun z=>(hch p.1 z).2.2.2 p hp rfl
    exact ⟨keep p.1 p.2 ne nf nch e n,free p.1 p.2 nch e n,ne,nf,d⟩
theorem Inv.un {t':Nat} (I:Inv X pins σ H s) (u:Un X.fs [] H H' s.heap h') (hok:HOk X.prog X.w H' h'):Inv X pins σ H' { s with heap:=h',toks:=t' }:=by
  obtain ⟨m,⟨o,es,ep,ho,r⟩,_⟩:=id I.loc
  obtain ⟨sl,hL⟩:=u.any ho I.free (by simp)
  exact I.step (g':=s.gens) (d':=s.drawn) (ch:=[]) (fun _ z=>nomatch z) (fun b o _ hb _ e n=>u.keep b o e n hb (by simp)) (fun b o _ hb _ e n=>u.slot b o e n hb (by simp)) (fun b o _ e n=>u.free b o e n (by simp)) (fun b o _ e=>u.there b o e (by simp)) u.tups u.frzs u.tbls (fun m' hm=>by
    obtain ⟨o',es',ep',ho',r'⟩:=hm
    rw [ho] at ho';cases ho'
    exact ⟨_,es',ep',hL,r'⟩) hok I.bare
theorem Inv.call {g':Array GenState} {t':Nat} {d':Drawn} {ch:List Addr} (I:Inv X pins σ H s) (u:Un (frs X.stack) ch H H' s.heap h') (hok:HOk X.prog X.w H' h') (hg:AllBare g')
    (hch:∀ b∈ch,(b∈X.ex∨X.s₀.heap.objs.size≤b)∧b≠X.env.locals∧(∀ x c,X.env.cells.lookup x=some c→c≠b)∧∀ p∈X.pn ++ pins,p.1≠b) :
    Inv X pins σ H' { s with heap:=h',gens:=g',drawn:=d',toks:=t' }:=by
  obtain ⟨m,⟨o,es,ep,ho,r⟩,_⟩:=id I.loc
  obtain ⟨sl,hL⟩:=u.any ho I.free fun z=>(hch _ z).2.1 rfl
  exact I.step (ch:=ch) hch (fun b o hL hb hc e n=>u.keep b o e n (fun z=>(List.mem_cons.mp (I.stkSub b z)).elim hL hb) hc) (fun b o _ _ hc e n=>u.any e n hc) (fun b o hc e n=>u.free b o e n hc) (fun b o hc e=>u.there b o e hc) u.tups u.frzs u.tbls (fun m' hm=>by
    obtain ⟨o',es',ep',ho',r'⟩:=hm
    rw [ho] at ho';cases ho'
    exact ⟨_,es',ep',hL,r'⟩) hok hg
theorem Inv.turned {t':Nat} {it:Addr} (I:Inv X pins σ H s) (k:∀ b o,b≠it→s.heap.get? b=some o→h'.get? b=some o) (hn:H it=none) (hL:it≠X.env.locals)
    (h1:it∈X.ex∨X.s₀.heap.objs.size≤it) (h2:∀ x c,X.env.cells.lookup x=some c→c≠it) (h3:∀ p∈X.pn ++ pins,p.1≠it):Inv X pins σ H { s with heap:=h',toks:=t' }:=by
  have nit:∀ b u,H b=some u→b≠it:=fun b u e z=>by rw [z,hn] at e;cases e
  refine I.step (g':=s.gens) (d':=s.drawn) (ch:=[it]) (fun b hb=>?_) (fun b o _ _ hc e _=>k b o (fun z=>hc (by simp [z])) e) (fun b o _ _ hc e _=>⟨o.slots,k b o (fun z=>hc (by simp [z])) e⟩) (fun _ _ _ _ n=>n)
    (fun b o hc e=>⟨o,k b o (fun z=>hc (by simp [z])) e⟩) (fun _ _ e=>e) (fun _ _ _ e=>e) (fun b ps e=>⟨#[],by rw [e];simp⟩) (fun m hm=>?_) (fun b u e=>?_) I.bare
  · have e:b=it:=by simpa using hb
    subst e
    exact ⟨h1,hL,h2,h3⟩
  · obtain ⟨o,es,ep,ho,r⟩:=hm
    exact ⟨o,es,ep,k _ o (Ne.symm hL) ho,r⟩
  · refine (I.hok b u e).stay (fun c v hc q=>k c v ?_ q) (fun _ q=>q) fun _ _ q=>q
    rcases hc with z | z
    · rw [z];exact nit b u e
    · exact nit c _ z
theorem Inv.tok (I:Inv X pins σ H s) (t:Nat):Inv X pins σ H { s with toks:=t }:=I.un (h':=s.heap) (t':=t) Un.refl I.hok
theorem Inv.kept {t':Nat} (I:Inv X pins σ H s) (k:∀ b u,s.heap.get? b=some u→h'.get? b=some u):Inv X pins σ H { s with heap:=h',toks:=t' }:=I.un (Un.kept k) (I.hok.kept k)
theorem Inv.laid {a:Addr} {o:HO} {t':Nat} (I:Inv X pins σ H s) (k:∀ b u,s.heap.get? b=some u→h'.get? b=some u) (hp:s.heap.objs.size≤a) (new:jAY X.prog X.w (upd H a o) h' a o) :
    Inv X pins σ (upd H a o) { s with heap:=h',toks:=t' }:=I.un (Un.laid k hp (I.hok.fresh hp)) (I.hok.laid k hp new)
theorem Inv.write {x e:Addr} {o:HO} {t':Nat} (I:Inv X pins σ H s) (mu:Mut (H x)) (he:e=x∨H e=some (.own x)) (k:∀ b u,b≠e→s.heap.get? b=some u→h'.get? b=some u) (heo:∃ u,h'.get? e=some u)
    (new:jAY X.prog X.w (upd H x o) h' x o):Inv X pins σ (upd H x o) { s with heap:=h',toks:=t' }:=I.un (Un.write mu he k heo) (I.hok.write mu he k heo new)
theorem Inv.pins_of {pins':List (Addr×Obj)} (I:Inv X pins σ H s) (h:∀ p∈pins',s.heap.get? p.1=some p.2∧H p.1=none∧p.1≠X.env.locals∧p.1 ∉ X.fs∧∀ v,p.2.data≠.cell v):Inv X pins' σ H s :=
  ⟨I.ok,I.os,I.bare,I.base,I.loc,I.cell,I.free,I.freeC,fun p hp=>(List.mem_append.mp hp).elim (fun z=>I.pin p (List.mem_append_left _ z)) (h p),I.hok,I.len⟩
theorem jHY {N:List Str} (hN:N.Nodup) {i j:Nat} {x:Str} (a:N[i]?=some x) (b:N[j]?=some x):i=j:=by
  obtain ⟨h1,e1⟩:=List.getElem?_eq_some_iff.mp a
  obtain ⟨h2,e2⟩:=List.getElem?_eq_some_iff.mp b
  exact (List.getElem_inj hN).mp (e1.trans e2.symm)
theorem jNb {M:Model} {A:Around} {E:Value→Shared→Prop} {i:Nat} {x:Str} {v:V} {u:Value} {Q:Unit→Shared→Prop} (I:Inv X pins σ H s) (hN:X.N.Nodup) (hi:X.N[i]?=some x) (hx:Loc X.env.scope x) (r:jAx v u)
    (h:∀ s',Inv X pins (σ.set i (some v)) H s'→(∃ a,Heap.SameBut a s.heap s'.heap∧(a=X.env.locals∨X.env.cells.lookup x=some a))→Q () s') (hf:X.fn x=true∨X.env.scope.names.lookup x=some .local:=by first | exact .inl rfl | exact .inr rfl | assumption):wpAny M A (storeName X.env x u) Q E s:=by
  obtain ⟨m,hn,hl⟩:=id I.loc
  have hcls:(X.env.scope.kind == .class || (X.env.scope.kind == .module && X.env.locals != X.env.globals))=false:=by rw [I.ok.kind];rfl
  have hiσ:i < σ.length:=by rw [I.len];exact (List.getElem?_eq_some_iff.mp hi).1
  have cne:=I.cne
  have tracked:∀ {a:Addr} {h':Heap},(∃ o,s.heap.get? a=some o∧H a=none)→Heap.SameBut a s.heap h'→HOk X.prog X.w H h':=fun {a h'} ha hs b ob e=>by
    obtain ⟨_,_,hfree⟩:=ha
    refine (I.hok b ob e).stay (fun c w' hc q=>(hs.2 c ?_).trans q) (fun _ q=>q) fun _ _ q=>q
    rintro rfl
    rcases hc with rfl | hc
    · rw [hfree] at e;cases e
    · rw [hfree] at hc;cases hc
  rcases hx with hk | hk
  · refine wpAny_storeName_local hk hn (fun h' hn' hs=>?_) hcls
    obtain ⟨oL,_,_,hoL,_⟩:=id hn
    refine h _ ⟨I.ok,I.os,I.bare,⟨fun b o e n hb hx=>?_,fun b o e n hb hx=>?_,I.base.free,fun b o e hx=>?_,I.base.tups,I.base.frzs,I.base.tbls⟩,⟨_,hn',fun j y v' e1 e2 e3=>?_⟩,fun y c e=>?_,I.free,I.freeC,fun p hp=>?_,tracked ⟨oL,hoL,I.free⟩ hs,by simpa using I.len⟩ ⟨_,hs,.inl rfl⟩
    · exact (hs.2 b (Nat.ne_of_lt (Nat.lt_of_lt_of_le (Heap.lt_size e) I.ok.above))).trans (I.base.keep b o e n hb hx)
    · obtain ⟨sl,e1⟩:=I.base.slot b o e n hb hx
      exact ⟨sl,(hs.2 b (Nat.ne_of_lt (Nat.lt_of_lt_of_le (Heap.lt_size e) I.ok.above))).trans e1⟩
    · obtain ⟨o',e1⟩:=I.base.there b o e hx
      exact ⟨o',(hs.2 b (Nat.ne_of_lt (Nat.lt_of_lt_of_le (Heap.lt_size e) I.ok.above))).trans e1⟩
    · by_cases hj:j=i
      · subst hj
        rw [hi] at e1;cases e1
        rw [List.getElem?_set_self hiσ] at e2
        cases e2
        exact ⟨u,r,.inl ⟨hk,by simp⟩⟩
      · rw [List.getElem?_set_ne (Ne.symm hj)] at e2
        obtain ⟨u',r',q⟩:=hl j y v' e1 e2 e3
        refine ⟨u',r',?_⟩
        rcases q with ⟨k,e⟩ | ⟨k,c,e,z⟩
        · refine .inl ⟨k,?_⟩
          have:y≠x:=fun e=>hj (jHY hN e1 (e ▸ hi))
          simp [this,e]
        · exact .inr ⟨k,c,e,z.sameBut hs (cne y c e)⟩
    · obtain ⟨w',z⟩:=I.cell y c e
      exact ⟨w',z.sameBut hs (cne y c e)⟩
    · obtain ⟨e,n,ne,nf,d⟩:=I.pin p hp
      exact ⟨(hs.2 p.1 ne).trans e,n,ne,nf,d⟩
  · have hfn:X.fn x=true:=by
      rcases hf with z | z
      · exact z
      · rw [z] at hk;cases hk
    obtain ⟨c,hc⟩:=I.ok.has x (.inl hk)
    obtain ⟨w',z⟩:=I.cell x c hc
    refine wpAny_storeName_cell I.ok.kind hk hc z (fun h' hc' hs=>?_)
    obtain ⟨oc,hoc,hocd⟩:=id z
    refine h { s with heap:=h' } ⟨I.ok,I.os,I.bare,⟨fun b o e n hb hx=>?_,fun b o e n hb hx=>?_,I.base.free,fun b o e hx=>?_,I.base.tups,I.base.frzs,I.base.tbls⟩,⟨m,hn.sameBut hs (Ne.symm (cne x c hc)),fun j y v' e1 e2 e3=>?_⟩,fun y c' e=>?_,I.free,I.freeC,fun p hp=>?_,tracked ⟨oc,hoc,I.freeC x c hc⟩ hs,by simpa using I.len⟩ ⟨c,hs,.inr hc⟩
    · exact (hs.2 b (Nat.ne_of_lt (Nat.lt_of_lt_of_le (Heap.lt_size e) (I.ok.cab x c hfn hc)))).trans (I.base.keep b o e n hb hx)
    · obtain ⟨sl,e1⟩:=I.base.slot b o e n hb hx
      exact ⟨sl,(hs.2 b (Nat.ne_of_lt (Nat.lt_of_lt_of_le (Heap.lt_size e) (I.ok.cab x c hfn hc)))).trans e1⟩
    · obtain ⟨o',e1⟩:=I.base.there b o e hx
      exact ⟨o',(hs.2 b (Nat.ne_of_lt (Nat.lt_of_lt_of_le (Heap.lt_size e) (I.ok.cab x c hfn hc)))).trans e1⟩
    · by_cases hj:j=i
      · subst hj
        rw [hi] at e1;cases e1
        rw [List.getElem?_set_self hiσ] at e2
        cases e2
        exact ⟨u,r,.inr ⟨.inl hk,c,hc,hc'⟩⟩
      · rw [List.getElem?_set_ne (Ne.symm hj)] at e2
        obtain ⟨u',r',q⟩:=hl j y v' e1 e2 e3
        refine ⟨u',r',?_⟩
        rcases q with q | ⟨k,c',e,z'⟩
        · exact .inl q
        · refine .inr ⟨k,c',e,z'.sameBut hs ?_⟩
          rintro rfl
          exact hj (jHY hN e1 (I.ok.inj _ _ _ e hc ▸ hi))
    · by_cases hcc:c'=c
      · subst hcc;exact ⟨_,hc'⟩
      · obtain ⟨w2,z2⟩:=I.cell y c' e
        exact ⟨w2,z2.sameBut hs hcc⟩
    · obtain ⟨e,n,ne,nf,d⟩:=I.pin p hp
      refine ⟨(hs.2 p.1 ?_).trans e,n,ne,nf,d⟩
      intro q
      rw [q,hoc] at e
      have q':oc=p.2:=Option.some.inj e
      exact d w' (by rw [← q'];exact hocd)
theorem jEs {M:Model} {A:Around} {E:Value→Shared→Prop} {i:Nat} {x:Str} {v:V} {u:Value} {Q:Unit→Shared→Prop} (I:Inv X pins σ H s) (hN:X.N.Nodup) (hi:X.N[i]?=some x) (hx:Loc X.env.scope x) (r:jAx v u)
    (h:∀ s',Inv X pins (σ.set i (some v)) H s'→Q () s') (hf:X.fn x=true∨X.env.scope.names.lookup x=some .local:=by first | exact .inl rfl | exact .inr rfl | assumption):wpAny M A (storeName X.env x u) Q E s :=
  jNb I hN hi hx r (fun s' I' _=>h s' I') hf
theorem Inv.call' {s':Shared} {ch:List Addr} (I:Inv X pins σ H s) (ho:s'.os=s.os) (u:Un (frs X.stack) ch H H' s.heap s'.heap) (hok:HOk X.prog X.w H' s'.heap) (hg:AllBare s'.gens)
    (hch:∀ b∈ch,(b∈X.ex∨X.s₀.heap.objs.size≤b)∧b≠X.env.locals∧(∀ x c,X.env.cells.lookup x=some c→c≠b)∧∀ p∈X.pn ++ pins,p.1≠b):Inv X pins σ H' s':=by
  obtain ⟨h',g',d',t',o'⟩:=s'
  have e:o'=s.os:=ho
  subst e
  exact I.call (g':=g') (t':=t') (d':=d') u hok hg hch
end
abbrev XK:=Value→Option Addr→Hp→Prop
abbrev St:=List (Option V)
abbrev VK:=V→Hp→Prop
abbrev TE:=St→Hp→VK→Prop
abbrev TT:=St→Hp→(Bool→Hp→Prop)→Prop
abbrev TA:=St→Hp→(List V→Hp→Prop)→Prop
structure jBB where
  nx:St→Hp→Prop
  rt:VK
  bk:St→Hp→Prop:=fun _ _=>False
  ct:St→Hp→Prop:=fun _ _=>False
abbrev TS:=jBB→St→Hp→Prop
def EP (X:Cx) (pins:List (Addr×Obj)) (σ:St) (Q:VK) (u:Value) (s':Shared):Prop:=∃ v H',Inv X pins σ H' s'∧jAx v u∧Q v H'
def TP (X:Cx) (pins:List (Addr×Obj)) (σ:St) (Q:Bool→Hp→Prop) (b:Bool) (s':Shared):Prop:=∃ H',Inv X pins σ H' s'∧Q b H'
def AP (X:Cx) (pins:List (Addr×Obj)) (σ:St) (Q:List V→Hp→Prop) (us:List Value) (s':Shared):Prop:=∃ vs H',Inv X pins σ H' s'∧jAA vs us∧Q vs H'
def SP (X:Cx) (pins:List (Addr×Obj)) (D:jBB) (f:Flow) (s':Shared):Prop :=
  match f with
  | .next=>∃ σ' H',Inv X pins σ' H' s'∧D.nx σ' H'
  | .brk=>∃ σ' H',Inv X pins σ' H' s'∧D.bk σ' H'
  | .cont=>∃ σ' H',Inv X pins σ' H' s'∧D.ct σ' H'
  | .ret u=>∃ v σ' H',Inv X pins σ' H' s'∧jAx v u∧D.rt v H'
def PE (X:Cx) (e:Expr) (t:TE):Prop :=
  ∀ (pins:List (Addr×Obj)) (s:Shared) (σ:St) (H:Hp) (Q:VK),Inv X pins σ H s→t σ H Q→wpAny (model X.prog X.w) X.A (eval e X.env) (EP X pins σ Q) X.xe s
def PT (X:Cx) (e:Expr) (t:TT):Prop :=
  ∀ (pins:List (Addr×Obj)) (s:Shared) (σ:St) (H:Hp) (Q:Bool→Hp→Prop),Inv X pins σ H s→t σ H Q→wpAny (model X.prog X.w) X.A (isTrue e X.env (eval e X.env)) (TP X pins σ Q) X.xe s
def PW (X:Cx) (e:Expr) (t:TT):Prop :=
  ∀ (whole:Sem Value) (pins:List (Addr×Obj)) (s:Shared) (σ:St) (H:Hp) (Q:Bool→Hp→Prop),Inv X pins σ H s→t σ H Q→wpAny (model X.prog X.w) X.A (isTrue e X.env whole) (TP X pins σ Q) X.xe s
theorem PW.pt {X:Cx} {e:Expr} {t:TT} (h:PW X e t):PT X e t:=h _
def PA (X:Cx) (es:List Expr) (t:TA):Prop :=
  ∀ (pos:Pos) (pins:List (Addr×Obj)) (s:Shared) (σ:St) (H:Hp) (Q:List V→Hp→Prop),Inv X pins σ H s→t σ H Q→wpAny (model X.prog X.w) X.A (spliced (backTo pos (starEach es X.env))) (AP X pins σ Q) X.xe s
def PS (X:Cx) (st:Stmt) (t:TS):Prop :=
  ∀ (pins:List (Addr×Obj)) (s:Shared) (σ:St) (H:Hp) (D:jBB),Inv X pins σ H s→t D σ H→wpAny (model X.prog X.w) X.A (exec st X.env) (SP X pins D) X.xe s
def PSs (X:Cx) (st:List Stmt) (t:TS):Prop :=
  ∀ (pins:List (Addr×Obj)) (s:Shared) (σ:St) (H:Hp) (D:jBB),Inv X pins σ H s→t D σ H→wpAny (model X.prog X.w) X.A (execs st X.env) (SP X pins D) X.xe s
theorem thn {α:Type} {t:Sem α} {Q Q':α→Shared→Prop} {M:Model} {A:Around} {E:Value→Shared→Prop} {s:Shared} (h:wpAny M A t Q E s) (hQ:∀ a s,Q a s→Q' a s):wpAny M A t Q' E s:=wpAny_mono h hQ fun _ _ x=>x
end L2
namespace L2
open PySem PySem.Spec PyProof.Rows
section
variable {X:Cx}
def tVar (i:Nat):TE:=fun σ H Q=>∃ v,σ[i]?=some (some v)∧Q v H
def tC (v:V):TE:=fun _ H Q=>Q v H
theorem pe_var {i:Nat} {x:Str} {pos:Pos} (hN:X.N[i]?=some x) (hv:Vis X.env.scope x) (hd:(x == ("__debug__":Str))=false:=by decide) (hcd:(x == ("__classdict__":Str))=false:=by decide):PE X (.Name x pos) (tVar i):=by
  intro pins s σ H Q I h
  obtain ⟨v,e,h⟩:=h
  obtain ⟨m,hn,hl⟩:=I.loc
  obtain ⟨u,r,l⟩:=hl i x v hN e hv
  have fin:EP X pins σ Q u s:=⟨v,H,I,r,h⟩
  rcases l with ⟨hk,hm⟩ | ⟨hk,c,hc,hcell⟩
  · exact wpAny_Name (wpAny_loadName_local I.ok.kind hk hn hm fin) hd
  · rcases hk with hk | hk
    · exact wpAny_Name (wpAny_loadName_cell I.ok.kind hk hc hcell fin) hd
    · exact wpAny_Name (wpAny_loadName_free I.ok.kind hk hc hcell fin hcd) hd
theorem jAg {i j pos}:PE X (.Constant (.int i) j pos) (tC (.int i)):=fun _ _ _ H _ I h=>wpAny_Constant_int ⟨.int i,H,I.tok _,⟨_,rfl⟩,h⟩
theorem jBC {b j pos}:PE X (.Constant (.bool b) j pos) (tC (.bl b)):=fun _ _ _ H _ I h=>Constant_bool ⟨.bl b,H,I,rfl,h⟩
theorem jAL {j pos}:PE X (.Constant .none j pos) (tC .non):=fun _ _ _ H _ I h=>Constant_none ⟨.non,H,I,rfl,h⟩
theorem jAi {x j pos}:PE X (.Constant (.str x) j pos) (tC (.str x)):=fun _ _ _ H _ I h=>Calls.Constant_str ⟨.str x,H,I.tok _,⟨_,rfl⟩,h⟩
def Gl (X:Cx) (x:Str):Prop:=X.env.kindOf x=some .globalImplicit
theorem jCu {E:Value→Shared→Prop} {pins:List (Addr×Obj)} {s:Shared} {σ:St} {H:Hp} {x:Str} {u:Value} {pos:Pos} {Q:Value→Shared→Prop} (I:Inv X pins σ H s) (hg:Gl X x) (hm:X.mg x=some u) (h:Q u s)
    (hd:(x == ("__debug__":Str))=false:=by decide):wpAny (model X.prog X.w) X.A (eval (.Name x pos) X.env) Q E s :=
  Calls.Name_function_global I.ok.kind hg (Calls.loadGlobal_global (by rw [I.ok.glob];exact I.mod.glob.keeps I.bk) hm h) hd
theorem jDM {E:Value→Shared→Prop} {pins:List (Addr×Obj)} {s:Shared} {σ:St} {H:Hp} {x:Str} {u:Value} {pos:Pos} {Q:Value→Shared→Prop} (I:Inv X pins σ H s) (hg:Gl X x) (hm:X.mg x=none) (hv:bootBuiltins x=some u) (h:Q u s)
    (hn:x≠"__name__":=by decide) (hd:(x == ("__debug__":Str))=false:=by decide):wpAny (model X.prog X.w) X.A (eval (.Name x pos) X.env) Q E s:=by
  obtain ⟨mb,h1,h2⟩:=I.mod.blt
  exact Calls.Name_function_global I.ok.kind hg (Calls.loadGlobal_builtin (by rw [I.ok.glob];exact I.mod.glob.keeps I.bk) hm (by rw [I.ok.blt];exact h1.keeps I.bk) ((h2 x hn).trans hv) h) hd
theorem jMl {x:Str} {v:V} {u:Value} {pos:Pos} (hg:Gl X x) (hm:X.mg x=some u) (r:jAx v u) (hd:(x == ("__debug__":Str))=false:=by decide):PE X (.Name x pos) (tC v) :=
  fun _ _ _ H _ I h=>jCu I hg hm ⟨v,H,I,r,h⟩ hd
theorem jCV {x:Str} {v:V} {u:Value} {pos:Pos} (hg:Gl X x) (hm:X.mg x=none) (hv:bootBuiltins x=some u) (r:jAx v u) (hn:x≠"__name__":=by decide) (hd:(x == ("__debug__":Str))=false:=by decide):PE X (.Name x pos) (tC v) :=
  fun _ _ _ H _ I h=>jDM I hg hm hv ⟨v,H,I,r,h⟩ hn hd
def t2I (ta tb:TE) (k:Int→Int→Hp→Prop):St→Hp→Prop:=fun σ H=>ta σ H fun x H1=>tb σ H1 fun y H2=>∃ i j,x=.int i∧y=.int j∧k i j H2
def tAdd (ta tb:TE):TE:=fun σ H Q=>t2I ta tb (fun i j H2=>Q (.int (i + j)) H2) σ H
def tSub (ta tb:TE):TE:=fun σ H Q=>t2I ta tb (fun i j H2=>Q (.int (i - j)) H2) σ H
def tMul (ta tb:TE):TE:=fun σ H Q=>t2I ta tb (fun i j H2=>(-(2 ^ 64) < i∧i < 2 ^ 64)∧Q (.int (i * j)) H2) σ H
variable {a b:Expr} {ta tb:TE} {pos:Pos}
def PC (X:Cx) (op:CmpOp) (a b:Expr) (t:TE):Prop :=
  ∀ (pins:List (Addr×Obj)) (s:Shared) (σ:St) (H:Hp) (Q:VK),Inv X pins σ H s→t σ H Q →
    wpAny (model X.prog X.w) X.A (eval a X.env) (fun v s₁=>wpAny (model X.prog X.w) X.A (eval b X.env) (fun u s₂=>wpAny (model X.prog X.w) X.A (compareOp op v u) (EP X pins σ Q) X.xe s₂) X.xe s₁) X.xe s
theorem jN5 (b:Expr) {op:CmpOp} (h:op≠.In) (h2:op≠.NotIn):behindInMarks op b=false:=by
  have e1:(op == CmpOp.In)=false:=by cases op <;> first | rfl | exact absurd rfl h
  have e2:(op == CmpOp.NotIn)=false:=by cases op <;> first | rfl | exact absurd rfl h2
  cases b <;> simp [behindInMarks,e1,e2]
def tCmp (p:Int→Int→Bool) (ta tb:TE):TE:=fun σ H Q=>t2I ta tb (fun i j H2=>Q (.bl (p i j)) H2) σ H
abbrev tLt:TE→TE→TE:=tCmp fun i j=>decide (i < j)
abbrev tLe:TE→TE→TE:=tCmp fun i j=>decide (i≤j)
abbrev tGt:TE→TE→TE:=tCmp fun i j=>decide (j < i)
abbrev tGe:TE→TE→TE:=tCmp fun i j=>decide (j≤i)
abbrev tEqI:TE→TE→TE:=tCmp fun i j=>decide (i=j)
abbrev tNeI:TE→TE→TE:=tCmp fun i j=>!decide (i=j)
def tIsN (ta:TE):TE:=fun σ H Q=>ta σ H fun x H1=>Q (.bl (decide (x=.non))) H1
def tNotN (ta:TE):TE:=fun σ H Q=>ta σ H fun x H1=>Q (.bl (!decide (x=.non))) H1
def tB (t:TE):TT:=fun σ H Q=>t σ H fun x H1=>∃ c,x=.bl c∧Q c H1
theorem pt_cmp {op:CmpOp} {t:TE} (h:PC X op a b t) (h1:behindInMarks op b=false:=by first | exact jN5 _ (by decide) (by decide) | rfl):PT X (.Compare a [op] [b] pos) (tB t):=by
  intro pins s σ H Q I hw
  refine wpAny_isTrue_Compare1 (thn (h pins s σ H _ I hw) fun v s1 h1=>thn h1 fun u s2 h2=>thn h2 fun c s3 ⟨x,H1,I1,r1,q1⟩=>?_) h1
  obtain ⟨d,rfl,q⟩:=q1
  cases r1
  exact wpAny_truthy_bool ⟨H1,I1,q⟩
variable {tA tB':TT} {rest:List Expr}
def tAnd (t u:TT):TT:=fun σ H Q=>t σ H fun c H1=>if c=true then u σ H1 Q else Q false H1
def tOr (t u:TT):TT:=fun σ H Q=>t σ H fun c H1=>if c=true then Q true H1 else u σ H1 Q
def tNot (t:TT):TT:=fun σ H Q=>t σ H fun c H1=>Q (!c) H1
theorem jEm (ha:PT X a tA):PW X (.BoolOp .And [a] pos) tA:=by
  intro wh pins s σ H Q I h
  refine isTrue_and (thn (ha pins s σ H Q I h) fun c s1 e=>?_)
  cases c with
  | true=>exact isTrue_and_nil e
  | false=>exact e
theorem jDN (ha:PT X a tA):PW X (.BoolOp .Or [a] pos) tA:=by
  intro wh pins s σ H Q I h
  refine isTrue_or (thn (ha pins s σ H Q I h) fun c s1 e=>?_)
  cases c with
  | false=>exact isTrue_or_nil e
  | true=>exact e
theorem jEt (ha:PT X a tA) (hb:PW X (.BoolOp .And (b :: rest) pos) tB'):PW X (.BoolOp .And (a :: b :: rest) pos) (tAnd tA tB'):=by
  intro wh pins s σ H Q I h
  refine isTrue_and (thn (ha pins s σ H _ I h) fun c s1 ⟨H1,I1,q1⟩=>?_)
  cases c with
  | true=>exact hb wh pins s1 σ H1 Q I1 q1
  | false=>exact ⟨H1,I1,q1⟩
theorem jC0 (ha:PT X a tA) (hb:PW X (.BoolOp .Or (b :: rest) pos) tB'):PW X (.BoolOp .Or (a :: b :: rest) pos) (tOr tA tB'):=by
  intro wh pins s σ H Q I h
  refine isTrue_or (thn (ha pins s σ H _ I h) fun c s1 ⟨H1,I1,q1⟩=>?_)
  cases c with
  | true=>exact ⟨H1,I1,q1⟩
  | false=>exact hb wh pins s1 σ H1 Q I1 q1
theorem jBY (ha:PT X a tA):PT X (.UnaryOp .Not a pos) (tNot tA):=by
  intro pins s σ H Q I h
  exact isTrue_not (ha pins s σ H (fun c H1=>Q (!c) H1) I h)
def tAndV (ta tb:TE):TE:=fun σ H Q=>ta σ H fun x H1=>∃ c,x=.bl c∧if c=true then tb σ H1 Q else Q (.bl false) H1
def tOrV (ta tb:TE):TE:=fun σ H Q=>ta σ H fun x H1=>∃ c,x=.bl c∧if c=true then Q (.bl true) H1 else tb σ H1 Q
def tNotV (ta:TE):TE:=fun σ H Q=>ta σ H fun x H1=>∃ c,x=.bl c∧Q (.bl (!c)) H1
theorem jGT {op} {t:TE} (h:PE X a t):PE X (.BoolOp op [a] pos) t:=fun pins s σ H Q I hw=>BoolOp_one (h pins s σ H Q I hw)
theorem jEu (ha:PE X a ta) (hb:PE X (.BoolOp .And (b :: rest) pos) tb):PE X (.BoolOp .And (a :: b :: rest) pos) (tAndV ta tb):=by
  intro pins s σ H Q I h
  refine BoolOp_and (thn (ha pins s σ H _ I h) fun v s1 ⟨x,H1,I1,r1,q1⟩=>?_)
  obtain ⟨c,rfl,q1⟩:=q1
  cases r1
  refine wpAny_truthy_bool ?_
  cases c with
  | true=>exact hb pins s1 σ H1 Q I1 q1
  | false=>exact ⟨.bl false,H1,I1,rfl,q1⟩
theorem pe_not (ha:PE X a ta):PE X (.UnaryOp .Not a pos) (tNotV ta):=by
  intro pins s σ H Q I h
  refine UnaryOp_ (thn (ha pins s σ H _ I h) fun v s1 ⟨x,H1,I1,r1,q1⟩=>?_)
  obtain ⟨c,rfl,q1⟩:=q1
  cases r1
  exact not_of (wpAny_truthy_bool ⟨.bl (!c),H1,I1,rfl,q1⟩)
def tIf (t:TT) (ta tb:TE):TE:=fun σ H Q=>t σ H fun c H1=>if c=true then ta σ H1 Q else tb σ H1 Q
theorem jCk {c:Expr} (hc:PT X c tA) (ha:PE X a ta) (hb:PE X b tb):PE X (.IfExp c a b pos) (tIf tA ta tb):=by
  intro pins s σ H Q I h
  refine wpAny_IfExp (thn (hc pins s σ H _ I h) fun d s1 ⟨H1,I1,q1⟩=>?_)
  cases d with
  | true=>exact ha pins s1 σ H1 Q I1 q1
  | false=>exact hb pins s1 σ H1 Q I1 q1
end
end L2
namespace L2
open PySem PySem.Spec PyProof.Rows
def SqL (K:PySem.W.Frag) (H:Hp) (a:Addr) (xs:List V):Prop :=
  Rd H a (.lst xs) ∨
    ∃ (o:Obj) (its:Array Value) (n:Nat),K.lookup a=some o∧o.cls=.type "list"∧o.dict=none∧o.data=.seq its n∧its.size≤sizeLine∧jAA xs its.toList
def SqT (K:PySem.W.Frag) (H:Hp) (a:Addr) (xs:List V):Prop :=
  Rd H a (.tup xs) ∨
    ∃ (o:Obj) (its:Array Value) (n:Nat),K.lookup a=some o∧o.cls=.type "tuple"∧o.data=.seq its n∧its.size≤sizeLine∧jAA xs its.toList
def absV:Value→Option V
  | .none=>some .non
  | .bool b=>some (.bl b)
  | .int i _=>some (.int i)
  | .str x _=>some (.str x)
  | .bytes b _=>some (.byt b)
  | .float b _=>some (.flt b)
  | .ref a=>some (.ref a)
  | .type n=>some (.ty n)
  | _=>none
theorem jAx.abs {x:V} {u:Value} (r:jAx x u):absV u=some x:=by
  cases x with
  | non=>cases r;rfl
  | bl _=>cases r;rfl
  | int _=>obtain ⟨t,rfl⟩:=r;rfl
  | str _=>obtain ⟨t,rfl⟩:=r;rfl
  | byt _=>obtain ⟨t,rfl⟩:=r;rfl
  | flt _=>obtain ⟨t,rfl⟩:=r;rfl
  | ref _=>cases r;rfl
  | ty _=>cases r;rfl
theorem jAx.inj {x y:V} {u:Value} (r:jAx x u) (q:jAx y u):x=y:=Option.some.inj (r.abs.symm.trans q.abs)
theorem jAA.inj:∀ {xs ys:List V} {us:List Value},jAA xs us→jAA ys us→xs=ys
  | _,_,_,.nil,.nil=>rfl
  | _,_,_,.cons r t,.cons r' t'=>by rw [r.inj r',jAA.inj t t']
section
variable {X:Cx} {pins:List (Addr×Obj)} {σ:St} {H:Hp} {s:Shared} {a:Addr} {xs ys:List V}
theorem SqL.of {K:PySem.W.Frag} (h:H a=some (.lst xs)):SqL K H a xs:=.inl (.inl h)
theorem SqT.of {K:PySem.W.Frag} (h:H a=some (.tup xs)):SqT K H a xs:=.inl (.inl h)
theorem Inv.list (I:Inv X pins σ H s) (h:SqL X.K H a xs):∃ its:List Value,jAA xs its∧PlainL s.heap a its.toArray∧xs.length≤sizeLine:=by
  rcases h with h | ⟨o,its,n,hk,hc,hd,hs,hz,r⟩
  · obtain ⟨z,its,n,r,e⟩:=h.ok I.hok
    exact ⟨its,r,⟨_,n,e,rfl,rfl,rfl⟩,z⟩
  · refine ⟨its.toList,r,⟨o,n,I.kIn a o hk,hc,hd,by simpa using hs⟩,?_⟩
    have e:=r.length
    simp only [Array.length_toList] at e
    omega
theorem Inv.tuple (I:Inv X pins σ H s) (h:SqT X.K H a xs):∃ its:List Value,jAA xs its∧IsTup s.heap a its.toArray∧xs.length≤sizeLine:=by
  rcases h with h | ⟨o,its,n,hk,hc,hs,hz,r⟩
  · obtain ⟨z,its,r,p⟩:=h.ok I.hok
    exact ⟨its,r,p,z⟩
  · refine ⟨its.toList,r,⟨o,I.kIn a o hk,hc,n,by simpa using hs⟩,?_⟩
    have e:=r.length
    simp only [Array.length_toList] at e
    omega
theorem Inv.list_inj (I:Inv X pins σ H s) (h:SqL X.K H a xs) (h':SqL X.K H a ys):xs=ys:=by
  obtain ⟨its,r,⟨o,n,e,_,_,d⟩,_⟩:=I.list h
  obtain ⟨its',r',⟨o',n',e',_,_,d'⟩,_⟩:=I.list h'
  rw [e] at e';cases e'
  rw [d] at d'
  injection d' with d1 _
  have:its=its':=by simpa using congrArg Array.toList d1
  subst this
  exact r.inj r'
end
abbrev Cx.wish (X:Cx) (E:Value→Shared→Prop):Cx:={ X with xe:=E }
abbrev Cx.nox (X:Cx):Cx:=X.wish fun _ _=>False
theorem Cx.Ok.wish {X:Cx} (ok:X.Ok) (E:Value→Shared→Prop):(X.wish E).Ok :=
  ⟨ok.mod,ok.kind,ok.glob,ok.blt,ok.above,ok.inj,ok.has,ok.cab,ok.hd,ok.frames,ok.stk,ok.exf,ok.bs,ok.bsz,ok.noex,ok.exfs,ok.funs,ok.frf⟩
theorem Cx.Ok.unwish {X:Cx} {E:Value→Shared→Prop} (ok:(X.wish E).Ok):X.Ok :=
  ⟨ok.mod,ok.kind,ok.glob,ok.blt,ok.above,ok.inj,ok.has,ok.cab,ok.hd,ok.frames,ok.stk,ok.exf,ok.bs,ok.bsz,ok.noex,ok.exfs,ok.funs,ok.frf⟩
section
variable {X:Cx} {pins:List (Addr×Obj)} {σ:St} {H:Hp} {s:Shared} {E:Value→Shared→Prop}
theorem Inv.wish (I:Inv X pins σ H s) (E:Value→Shared→Prop):Inv (X.wish E) pins σ H s:=⟨I.ok.wish E,I.os,I.bare,I.base,I.loc,I.cell,I.free,I.freeC,I.pin,I.hok,I.len⟩
theorem Inv.unwish (I:Inv (X.wish E) pins σ H s):Inv X pins σ H s:=⟨I.ok.unwish,I.os,I.bare,I.base,I.loc,I.cell,I.free,I.freeC,I.pin,I.hok,I.len⟩
theorem SP.unwish {D:jBB} {f:Flow} {s':Shared} (h:SP (X.wish E) pins D f s'):SP X pins D f s':=by
  cases f with
  | next=>obtain ⟨σ',H',I,q⟩:=h;exact ⟨σ',H',I.unwish,q⟩
  | brk=>obtain ⟨σ',H',I,q⟩:=h;exact ⟨σ',H',I.unwish,q⟩
  | cont=>obtain ⟨σ',H',I,q⟩:=h;exact ⟨σ',H',I.unwish,q⟩
  | ret u=>obtain ⟨v,σ',H',I,r,q⟩:=h;exact ⟨v,σ',H',I.unwish,r,q⟩
theorem PSs.nox {st:List Stmt} {t:TS} (h:PSs X.nox st t):PSs X st t:=fun pins s σ H D I hw =>
  wpAny_mono (h pins s σ H D (I.wish _) hw) (fun _ _ q=>q.unwish) fun _ _ z=>False.elim z
end
section
variable {X:Cx} {st:Stmt} {rest:List Stmt} {t u:TS} {e:Expr} {te:TE} {pos:Pos}
def tNext:TS:=fun D σ H=>D.nx σ H
def jDX (t u:TS):TS:=fun D σ H=>t { D with nx:=u D } σ H
theorem jAs:PSs X [] tNext:=fun _ _ σ H _ I h=>wpAny_execs_nil ⟨σ,H,I,h⟩
theorem jAb (h1:PS X st t) (h2:PSs X rest u):PSs X (st :: rest) (jDX t u):=by
  intro pins s σ H D I h
  refine wpAny_execs_cons (thn (h1 pins s σ H { D with nx:=u D } I h) fun f s1 q=>?_)
  cases f with
  | next =>
    obtain ⟨σ',H',I',q⟩:=q
    exact h2 pins s1 σ' H' D I' q
  | ret v=>exact q
  | brk=>exact q
  | cont=>exact q
theorem jAe (h1:PS X st t):PSs X [st] t:=by
  intro pins s σ H D I h
  refine wpAny_execs_cons (thn (h1 pins s σ H D I h) fun f s1 q=>?_)
  cases f with
  | next=>exact wpAny_execs_nil q
  | ret v=>exact q
  | brk=>exact q
  | cont=>exact q
def tBreak:TS:=fun D σ H=>D.bk σ H
def tCont:TS:=fun D σ H=>D.ct σ H
theorem Inv.quiet {pins:List (Addr×Obj)} {σ:St} {H:Hp} {s:Shared} (I:Inv X pins σ H s):interactive X.env=false:=by simp [interactive,I.ok.kind]
def tDrop (te:TE):TS:=fun D σ H=>te σ H fun _ H1=>D.nx σ H1
theorem jAJ (he:PE X e te) (hs:swapsWith e none pos.line X.env=pure false:=by rfl):PS X (.Expr e pos) (tDrop te):=by
  intro pins s σ H D I h
  exact wpAny_Expr_any (thn (he pins s σ H _ I h) fun v s1 ⟨x,H1,I1,r1,q1⟩=>⟨σ,H1,I1,q1⟩) I.quiet hs
def tRet (te:TE):TS:=fun D σ H=>te σ H D.rt
theorem jAm (he:PE X e te):PS X (.Return (some e) pos) (tRet te):=by
  intro pins s σ H D I h
  exact wpAny_Return_some (thn (he pins s σ H _ I h) fun v s1 ⟨x,H1,I1,r1,q1⟩=>⟨x,σ,H1,I1,r1,q1⟩)
def tRetN:TS:=fun D _ H=>D.rt .non H
def tIfS (c:TT) (t u:TS):TS:=fun D σ H=>c σ H fun b H1=>if b=true then t D σ H1 else u D σ H1
theorem jAC {c:Expr} {a b:List Stmt} {tc:TT} (hc:PT X c tc) (ha:PSs X a t) (hb:PSs X b u):PS X (.If c a b pos) (tIfS tc t u):=by
  intro pins s σ H D I h
  refine wpAny_If (thn (hc pins s σ H _ I h) fun d s1 ⟨H1,I1,q1⟩=>?_)
  cases d with
  | true=>exact ha pins s1 σ H1 D I1 q1
  | false=>exact hb pins s1 σ H1 D I1 q1
def tNever:TS:=fun _ _ _=>False
end
abbrev TG:=V→St→Hp→(St→Hp→Prop)→Prop
abbrev TGs:=List V→St→Hp→(St→Hp→Prop)→Prop
def PG (X:Cx) (target:Expr) (t:TG):Prop :=
  ∀ (pins:List (Addr×Obj)) (s:Shared) (σ:St) (H:Hp) (v:V) (u:Value) (Q:St→Hp→Prop),Inv X pins σ H s→jAx v u→t v σ H Q →
    wpAny (model X.prog X.w) X.A (assign target X.env u) (fun _ s'=>∃ σ' H',Inv X pins σ' H' s'∧Q σ' H') X.xe s
def PGs (X:Cx) (ts:List Expr) (t:TGs):Prop :=
  ∀ (pins:List (Addr×Obj)) (s:Shared) (σ:St) (H:Hp) (vs:List V) (us:List Value) (Q:St→Hp→Prop),Inv X pins σ H s→jAA vs us→t vs σ H Q →
    wpAny (model X.prog X.w) X.A (assignInOrder ((assignEach ts X.env).map (·.2)) us) (fun _ s'=>∃ σ' H',Inv X pins σ' H' s'∧Q σ' H') X.xe s
abbrev TSet:=V→V→V→Hp→(Hp→Prop)→Prop
def PSet (X:Cx) (t:TSet):Prop :=
  ∀ (pins:List (Addr×Obj)) (s:Shared) (σ:St) (H:Hp) (o i v:V) (ov iv u:Value) (Q:Hp→Prop),Inv X pins σ H s→jAx o ov→jAx i iv→jAx v u→t o i v H Q →
    wpAny (model X.prog X.w) X.A (setItem ov iv u) (fun _ s'=>∃ H',Inv X pins σ H' s'∧Q H') X.xe s
abbrev TIp:=V→V→Hp→VK→Prop
def PIp (X:Cx) (op:Operator) (t:TIp):Prop :=
  ∀ (pins:List (Addr×Obj)) (s:Shared) (σ:St) (H:Hp) (x y:V) (v u:Value) (Q:VK),Inv X pins σ H s→jAx x v→jAx y u→t x y H Q →
    wpAny (model X.prog X.w) X.A (inplaceOp op v u) (EP X pins σ Q) X.xe s
section
variable {X:Cx} {pos:Pos}
def jBr (i:Nat):TG:=fun v σ H Q=>Q (σ.set i (some v)) H
theorem jMm {i:Nat} {x:Str} (hN:X.N.Nodup) (hi:X.N[i]?=some x) (hx:Loc X.env.scope x) (hf:X.fn x=true∨X.env.scope.names.lookup x=some .local:=by first | exact .inl rfl | exact .inr rfl | assumption):PG X (.Name x pos) (jBr i):=by
  intro pins s σ H v u Q I r h
  exact wpAny_assign_Name (jEs I hN hi hx r (fun s' I'=>⟨_,H,I',h⟩) hf)
def gNil:TGs:=fun vs σ H Q=>vs=[]∧Q σ H
def gCons (t:TG) (u:TGs):TGs:=fun vs σ H Q=>∃ v r,vs=v :: r∧t v σ H fun σ' H'=>u r σ' H' Q
theorem jHo:PGs X [] gNil:=by
  intro pins s σ H vs us Q I r h
  obtain ⟨e,h⟩:=h
  subst e
  cases r
  exact assignInOrder_nil ⟨σ,H,I,h⟩
theorem jCl {e:Expr} {es:List Expr} {t:TG} {u:TGs} (h1:PG X e t) (h2:PGs X es u)
    (hs:(assignEach (e :: es) X.env).map (·.2)=assign e X.env :: (assignEach es X.env).map (·.2):=by rfl):PGs X (e :: es) (gCons t u):=by
  intro pins s σ H vs us Q I r h
  obtain ⟨v,vr,e1,h⟩:=h
  subst e1
  cases r with
  | cons r rr =>
    rw [hs]
    refine assignInOrder_cons (thn (h1 pins s σ H _ _ _ I r h) fun _ s1 ⟨σ1,H1,I1,q1⟩=>?_)
    exact h2 pins s1 σ1 H1 _ _ Q I1 rr q1
def gTup (K:PySem.W.Frag) (n:Nat) (t:TGs):TG:=fun v σ H Q=>∃ a xs,v=.ref a∧SqT K H a xs∧xs.length=n∧t xs σ H Q
theorem jIb {es:List Expr} {k:Nat} {t:TGs} {n:Nat} (hc:X.calm=true) (h:PGs X es t)
    (hn:(assignEach es X.env).length=n:=by rfl) (hst:(assignEach es X.env).findIdx? (·.1)=none:=by rfl):PG X (.Tuple es k pos) (gTup X.K n t):=by
  intro pins s σ H v u Q I r hw
  obtain ⟨a,xs,e1,hq,hl,hw⟩:=hw
  subst e1
  cases r
  obtain ⟨its,rv,ht,hz⟩:=I.tuple hq
  refine assign_Tuple_tuple (I.ok.hd hc) ht (by simp [hn,← hl,rv.length]) hst fun h' hx=>?_
  have I1:Inv X pins σ H { s with heap:=h' }:=I.kept (t':=s.toks) fun b o e=>hx b o (Nat.ne_of_lt (Heap.lt_size e)) e
  exact h pins _ σ H xs _ Q I1 (by simpa using rv) hw
def gSub (to ti:TE) (t:TSet):TG:=fun v σ H Q=>to σ H fun o H1=>ti σ H1 fun i H2=>t o i v H2 fun H3=>Q σ H3
theorem jIc {o i:Expr} {to ti:TE} {t:TSet} (ho:PE X o to) (hi:PE X i ti) (hs:PSet X t)
    (ha:∀ v,assign (.Subscript o i pos) X.env v=(do
      let ov ← holding [v] (eval o X.env)
      let iv ← holding [v,ov] (eval i X.env)
      standAt pos
      holding [v,ov,iv] (setItem ov iv v)
      release [v,ov,iv] []):=by intro _;rfl):PG X (.Subscript o i pos) (gSub to ti t):=by
  intro pins s σ H v u Q I r h
  rw [ha]
  refine wpAny_bind (wpAny_holding (thn (ho pins s σ H _ I h) fun ov s1 ⟨x,H1,I1,r1,q1⟩=>?_))
  refine wpAny_bind (wpAny_holding (thn (hi pins s1 σ H1 _ I1 q1) fun iv s2 ⟨y,H2,I2,r2,q2⟩=>?_))
  refine wpAny_bind (wpAny_standAt (wpAny_bind (wpAny_holding (thn (hs pins s2 σ H2 x y v ov iv u _ I2 r1 r2 r q2) fun _ s3 ⟨H3,I3,q3⟩=>?_))))
  exact wpAny_release ⟨σ,H3,I3,q3⟩
def tAsg (te:TE) (g:TG):TS:=fun D σ H=>te σ H fun x H1=>g x σ H1 D.nx
theorem jId {tg e:Expr} {te:TE} {g:TG} (he:PE X e te) (hg:PG X tg g) (hs:swapsWithSole [tg] e pos.line X.env=pure false:=by rfl) (hw:swappedStores [tg] e X.env=pure none:=by rfl)
    (h1:(assignEach [tg] X.env).map (·.2)=[assign tg X.env]:=by rfl):PS X (.Assign [tg] e pos) (tAsg te g):=by
  intro pins s σ H D I h
  refine wpAny_Assign_stores (thn (he pins s σ H _ I h) fun v s1 ⟨x,H1,I1,r1,q1⟩=>?_) hs hw
  rw [h1]
  exact thn (hg pins s1 σ H1 x v _ I1 r1 q1) fun _ s2 q=>q
theorem ps_set {i:Nat} {x:Str} {e:Expr} {te:TE} {pos':Pos} (hN:X.N.Nodup) (hi:X.N[i]?=some x) (hx:Loc X.env.scope x) (he:PE X e te) (hs:swapsWith e (some (.Name x pos')) pos.line X.env=pure false:=by rfl) (hf:X.fn x=true∨X.env.scope.names.lookup x=some .local:=by first | exact .inl rfl | exact .inr rfl | assumption) :
    PS X (.Assign [.Name x pos'] e pos) (tAsg te (jBr i)):=by
  intro pins s σ H D I h
  refine wpAny_Assign_Name (thn (he pins s σ H _ I h) fun v s1 ⟨y,H1,I1,r1,q1⟩=>?_) hs
  exact jEs I1 hN hi hx r1 (fun s2 I2=>⟨_,H1,I2,q1⟩) hf
def tPar (i j:Nat) (ta:TA):TS:=fun D σ H=>ta σ H fun vs H1=>∃ v w,vs=[v,w]∧D.nx ((σ.set i (some v)).set j (some w)) H1
def tAug (i:Nat) (te:TE) (ti:TIp):TS:=fun D σ H=>∃ x,σ[i]?=some (some x)∧te σ H fun y H1=>ti x y H1 fun z H2=>D.nx (σ.set i (some z)) H2
def tAugS (to ti te:TE) (tget:V→V→Hp→VK→Prop) (tip:TIp) (tset:TSet):TS:=fun D σ H=>to σ H fun o H1=>ti σ H1 fun i H2=>tget o i H2 fun x H3=>te σ H3 fun y H4=>tip x y H4 fun z H5=>tset o i z H5 fun H6=>D.nx σ H6
def PGet (X:Cx) (t:V→V→Hp→VK→Prop):Prop :=
  ∀ (pins:List (Addr×Obj)) (s:Shared) (σ:St) (H:Hp) (o i:V) (ov iv:Value) (Q:VK),Inv X pins σ H s→jAx o ov→jAx i iv→t o i H Q →
    wpAny (model X.prog X.w) X.A (getItem ov iv) (EP X pins σ Q) X.xe s
def ipI (f:Int→Int→Int):TIp:=fun x y H Q=>∃ i j,x=.int i∧y=.int j∧Q (.int (f i j)) H
theorem ip_add:PIp X .Add (ipI fun i j=>i + j):=by
  intro pins s σ H x y v u Q I r1 r2 h
  obtain ⟨i,j,e1,e2,q⟩:=h
  subst e1;subst e2
  obtain ⟨t,rfl⟩:=r1
  obtain ⟨t',rfl⟩:=r2
  exact iadd_int ⟨.int _,H,I.tok _,⟨_,rfl⟩,q⟩
end
section
variable {X:Cx} {pos:Pos}
def tWhile (c:TT) (tb:TS):TS:=fun D σ H=>∃ W:Nat→St→Hp→Prop,(∃ m,W m σ H)∧∀ m σ H,W m σ H →
  c σ H fun b H1=>if b=true then ∃ N:St→Hp→Prop,(∀ σ' H',N σ' H'→∃ m',m' < m∧W m' σ' H')∧tb { D with nx:=N,ct:=N,bk:=D.nx } σ H1 else D.nx σ H1
theorem jN6 {c:Expr} {body:List Stmt} {tc:TT} {tb:TS} (hp:PassesOwn (model X.prog X.w) X.A X.env X.xe) (hc:PT X c tc) (hb:PSs X body tb):PS X (.While c body [] pos) (tWhile tc tb):=by
  intro pins s σ H D I h
  obtain ⟨W,⟨m0,w0⟩,turn⟩:=h
  refine wpAny_While (codeAny_whileLoop (fun n s'=>∃ σ' H',Inv X pins σ' H' s'∧W n σ' H') ?_ m0 ⟨σ,H,I,w0⟩)
  rintro n s1 ⟨σ1,H1,I1,w1⟩
  refine wpAny_passesOwn hp (thn (hc pins s1 σ1 H1 _ I1 (turn n σ1 H1 w1)) fun b s2 ⟨H2,I2,q2⟩=>?_)
  cases b with
  | true =>
    obtain ⟨N,hN,q2⟩:=q2
    rw [if_pos rfl]
    refine wpAny_passesOwn hp (thn (hb pins s2 σ1 H2 _ I2 q2) fun f s3 q3=>?_)
    cases f with
    | next =>
      obtain ⟨σ3,H3,I3,n3⟩:=q3
      obtain ⟨m',hm,w3⟩:=hN σ3 H3 n3
      exact ⟨m',hm,σ3,H3,I3,w3⟩
    | cont =>
      obtain ⟨σ3,H3,I3,n3⟩:=q3
      obtain ⟨m',hm,w3⟩:=hN σ3 H3 n3
      exact ⟨m',hm,σ3,H3,I3,w3⟩
    | brk=>exact q3
    | ret v=>exact q3
  | false =>
    rw [if_neg Bool.false_ne_true]
    exact wpAny_execs_nil ⟨σ1,H2,I2,q2⟩
end
structure It where
  go:Nat→Hp→Prop
  yld:Nat→Hp→V→Hp→Prop
  stop:Nat→Hp→Prop
def jF8 (X:Cx) (pins:List (Addr×Obj)) (H:Hp) (b:Addr):Prop :=
  H b=none∧b≠X.env.locals∧b ∉ X.fs∧(b∈X.ex∨X.s₀.heap.objs.size≤b)∧(∀ x c,X.env.cells.lookup x=some c→c≠b)∧∀ p∈X.pn ++ pins,p.1≠b
theorem Inv.fpOk {X:Cx} {pins:List (Addr×Obj)} {σ:St} {H H':Hp} {s:Shared} {b:Addr} (I:Inv X pins σ H s) (hb:s.heap.objs.size≤b) (hn:H' b=none):jF8 X pins H' b:=by
  refine ⟨hn,Nat.ne_of_gt (Nat.lt_of_lt_of_le I.lt hb),I.nofs hb,.inr (Nat.le_trans I.sz hb),fun x c e z=>?_,fun p hp z=>?_⟩
  · obtain ⟨v,q⟩:=I.cell x c e
    exact absurd (Nat.lt_of_lt_of_le q.lt (by rw [z];exact hb)) (Nat.lt_irrefl _)
  · exact absurd (Nat.lt_of_lt_of_le (Heap.lt_size (I.pin p hp).1) (by rw [z];exact hb)) (Nat.lt_irrefl _)
structure Turn (P:Program) (w:World) (K:PySem.W.Frag) (tg:Expr) (J:It) (fp:List Addr) (it:Addr) (tn:Nat→Heap→Prop):Prop where
  mem:it∈fp
  obj:∀ i h,tn i h→∀ b∈fp,∃ o,h.get? b=some o∧∀ v,o.data≠.cell v
  keep:∀ i h h',tn i h→(∀ b∈fp,∀ o,h.get? b=some o→h'.get? b=some o)→tn i h'
  item:∀ (X:Cx),X.prog=P→X.w=w→X.K=K→X.calm=true→∀ (i:Nat) (pins:List (Addr×Obj)) (s:Shared) (σ:St) (H:Hp) (E:Value→Shared→Prop),Inv X pins σ H s→(∀ b∈fp,jF8 X pins H b)→tn i s.heap→J.go i H →
    wpAny (model P w) X.A (pyNext (.ref it)) (fun r s1=>∃ u,r=some u ∧
      wpAny (model P w) X.A (letOwnedTupleGo tg (.ref it) u) (fun _ s2=>∃ x H',Inv X pins σ H' s2∧jAx x u∧J.yld i H x H'∧tn (i + 1) s2.heap∧∀ b∈fp,H' b=none) E s1) E s
  done:∀ (X:Cx),X.prog=P→X.w=w→X.K=K→X.calm=true→∀ (i:Nat) (pins:List (Addr×Obj)) (s:Shared) (σ:St) (H:Hp) (E:Value→Shared→Prop),Inv X pins σ H s→(∀ b∈fp,jF8 X pins H b)→tn i s.heap→J.stop i H →
    wpAny (model P w) X.A (pyNext (.ref it)) (fun r s1=>r=none∧Inv X pins σ H s1) E s
  self:∀ (A:Around) (i:Nat) (s:Shared) (Q:Value→Shared→Prop) (E:Value→Shared→Prop),tn i s.heap→Q (.ref it) s→wpAny (model P w) A (pyIter (.ref it)) Q E s
abbrev TI:=St→Hp→(It→Hp→Prop)→Prop
def PIE (X:Cx) (pins:List (Addr×Obj)) (σ:St) (tg:Expr) (R:It→Hp→Prop) (itv:Value) (s2:Shared):Prop :=
  ∃ (it:Addr) (fp:List Addr) (tn:Nat→Heap→Prop) (J:It) (H':Hp),itv=.ref it∧Inv X pins σ H' s2∧Turn X.prog X.w X.K tg J fp it tn∧tn 0 s2.heap∧(∀ b∈fp,jF8 X pins H' b)∧R J H'
def PI (X:Cx) (tg iter:Expr) (wi:TI):Prop :=
  ∀ (pins:List (Addr×Obj)) (s:Shared) (σ:St) (H:Hp) (R:It→Hp→Prop),Inv X pins σ H s→wi σ H R →
    wpAny (model X.prog X.w) X.A (eval iter X.env) (fun v s1=>wpAny (model X.prog X.w) X.A (pyIter v) (PIE X pins σ tg R) X.xe s1) X.xe s
theorem jKH {M:Model} {A:Around} {E:Value→Shared→Prop} {s:Shared} {tg:Expr} {it:Addr} {u:Value} {o:Obj} {n:String} {vs:Array Value} {Q:Unit→Shared→Prop} (ho:s.heap.get? it=some o) (hc:o.cls=.type n) (hd:o.data=.fields vs)
    (hn:["enumerate","zip","dict_itemiterator","dict_reverseitemiterator","odict_iterator","itertools.zip_longest","itertools.pairwise"].contains n=false) (hQ:Q () s):wpAny M A (letOwnedTupleGo tg (.ref it) u) Q E s:=by
  unfold letOwnedTupleGo
  cases tg <;> first
    | exact wpAny_pure hQ
    | (cases u <;> first
        | exact wpAny_pure hQ
        | (refine wpAny_bind (wpAny_load ho ?_)
           rw [hc,hd]
           show wpAny M A (if (["enumerate","zip","dict_itemiterator","dict_reverseitemiterator","odict_iterator","itertools.zip_longest","itertools.pairwise"].contains n && vs[0]? == some (rawInt _))=true then _ else _) Q E s
           rw [if_neg (by intro h;rw [hn,Bool.false_and] at h;cases h)]
           exact wpAny_pure hQ))
def Itl (K:PySem.W.Frag) (a:Addr):It :=
  ⟨fun i H=>∃ xs x,SqL K H a xs∧xs[i]?=some x,fun i H x H'=>H'=H∧∀ xs,SqL K H a xs→xs[i]?=some x,fun i H=>∃ xs,SqL K H a xs∧xs.length≤i⟩
def Itt (K:PySem.W.Frag) (a:Addr):It :=
  ⟨fun i H=>∃ xs x,SqT K H a xs∧xs[i]?=some x,fun i H x H'=>H'=H∧∀ xs,SqT K H a xs→xs[i]?=some x,fun i H=>∃ xs,SqT K H a xs∧xs.length≤i⟩
def Itr (lo:Int) (n:Nat):It:=⟨fun i _=>i < n,fun i H x H'=>H'=H∧x=.int (lo + i),fun i _=>n≤i⟩
theorem jNc {P:Program} {w:World} {K:PySem.W.Frag} {tg:Expr} (a it:Addr):Turn P w K tg (Itl K a) [it] it (fun i h=>h.IsListIter it a i) where
  mem:=by simp
  obj:=fun i h st b hb=>by
    have e:b=it:=by simpa using hb
    subst e
    obtain ⟨o,e,c,d⟩:=st
    exact ⟨o,e,fun v z=>by rw [d] at z;cases z⟩
  keep:=fun i h h' st k=>st.at fun o e=>k it (by simp) o e
  item:=by
    intro X hP hw hK hc i pins s σ H E I hf st hg
    subst hP hw hK
    obtain ⟨xs,x,hq,hx⟩:=hg
    obtain ⟨its,rv,p,hz⟩:=I.list hq
    obtain ⟨u,hu,ru⟩:=rv.get hx
    obtain ⟨f0,f1,f2,f3,f4,f5⟩:=hf it (by simp)
    refine wpAny_pyNext_list_item st p.isList (x:=u) (by simpa using hu) fun h' st' sb=>?_
    have I1:Inv X pins σ H { s with heap:=h' }:=I.turned (t':=s.toks) (fun b o hb e=>(sb.2 b hb).trans e) f0 f1 f3 f4 f5
    obtain ⟨o,e,c,d⟩:=id st'
    exact ⟨u,rfl,jKH (s:={ s with heap:=h' }) e c d (by decide) ⟨x,H,I1,ru,⟨rfl,fun ys hy=>by rw [I.list_inj hy hq];exact hx⟩,st',fun b hb=>(hf b hb).1⟩⟩
  done:=by
    intro X hP hw hK hc i pins s σ H E I hf st hg
    subst hP hw hK
    obtain ⟨xs,hq,hx⟩:=hg
    obtain ⟨its,rv,p,hz⟩:=I.list hq
    obtain ⟨f0,f1,f2,f3,f4,f5⟩:=hf it (by simp)
    have hl:=rv.length
    exact wpAny_pyNext_list_end (I.ok.hd hc) st p.isList (by simp;omega) fun h' eb=>⟨rfl,I.turned (t':=s.toks) (fun b o hb e=>eb b o hb e) f0 f1 f3 f4 f5⟩
  self:=fun _ _ _ _ _ st h=>wpAny_pyIter_listiter st h
theorem jMN {P:Program} {w:World} {K:PySem.W.Frag} {tg:Expr} (it:Addr) (lo:Int) (n:Nat):Turn P w K tg (Itr lo n) [it] it (fun i h=>IsRangeIter h it (lo + (i:Nat) * 1) ((n:Int) - (i:Nat)) 1) where
  mem:=by simp
  obj:=fun i h st b hb=>by
    have e:b=it:=by simpa using hb
    subst e
    exact ⟨_,st,fun v z=>by
      have z':Data.fields _=Data.cell v:=z
      cases z'⟩
  keep:=fun i h h' st k=>k it (by simp) _ st
  item:=by
    intro X hP hw hK hc i pins s σ H E I hf st hg
    subst hP hw hK
    obtain ⟨f0,f1,f2,f3,f4,f5⟩:=hf it (by simp)
    have W:=Walks.range (prog:=X.prog) (w:=X.w) (I.ok.hd hc) it lo 1 n
    refine W.item i s _ _ hg st fun v h' tk hv st' kk=>?_
    obtain ⟨t,rfl⟩:=hv
    have I1:Inv X pins σ H { s with heap:=h',toks:=tk }:=I.turned (fun b o hb e=>kk b o (by simpa using hb) e) f0 f1 f3 f4 f5
    refine ⟨_,rfl,jKH (s:={ s with heap:=h',toks:=tk }) (n:="range_iterator") st' rfl rfl (by decide) ⟨.int (lo + i),H,I1,⟨t,?_⟩,⟨rfl,rfl⟩,st',fun b hb=>(hf b hb).1⟩⟩
    rw [Int.mul_one]
  done:=by
    intro X hP hw hK hc i pins s σ H E I hf st hg
    subst hP hw hK
    obtain ⟨f0,f1,f2,f3,f4,f5⟩:=hf it (by simp)
    exact wpAny_pyNext_range_end (I.ok.hd hc) st (by have:n≤i:=hg;omega) fun h' eb=>⟨rfl,I.turned (t':=s.toks) (fun b o hb e=>eb b o hb e) f0 f1 f3 f4 f5⟩
  self:=fun _ _ _ _ _ st h=>wpAny_pyIter_rangeiter st h
end L2
namespace L2
open PySem PySem.Spec PyProof.Rows
section
variable {X:Cx} {tg:Expr}
def iList (K:PySem.W.Frag) (tl:TE):TI:=fun σ H R=>tl σ H fun x H1=>∃ a,x=.ref a∧(∃ xs,SqL K H1 a xs)∧R (Itl K a) H1
def iTup (K:PySem.W.Frag) (tl:TE):TI:=fun σ H R=>tl σ H fun x H1=>∃ a,x=.ref a∧(∃ xs,SqT K H1 a xs)∧R (Itt K a) H1
theorem jBF {l:Expr} {tl:TE} (hl:PE X l tl):PI X tg l (iList X.K tl):=by
  intro pins s σ H R I h
  refine thn (hl pins s σ H _ I h) fun v s1 ⟨x,H1,I1,r1,q1⟩=>?_
  obtain ⟨a,e,⟨xs,hq⟩,q⟩:=q1
  subst e
  cases r1
  obtain ⟨its,rv,p,hz⟩:=I1.list hq
  refine wpAny_pyIter_list p.isList ?_
  refine ⟨s1.heap.objs.size,[s1.heap.objs.size],_,_,H1,rfl,I1.kept (t':=s1.toks) fun b o e=>Heap.get?_push_of_some _ e,jNc a _,⟨_,Heap.get?_push_size _ rfl,rfl,rfl⟩,fun b hb=>?_,q⟩
  have e:b=s1.heap.objs.size:=by simpa using hb
  subst e
  exact I1.fpOk (Nat.le_refl _) (I1.hok.fresh (Nat.le_refl _))
theorem jKV {pins:List (Addr×Obj)} {σ:St} {H:Hp} {s:Shared} {R:It→Hp→Prop} {E:Value→Shared→Prop} {lo hi:Int} {t u v:Tok} {tk:Nat} (I:Inv X pins σ H s) (h1:-(2 ^ 62)≤lo) (h2:lo < 2 ^ 62) (h3:-(2 ^ 62)≤hi) (h4:hi < 2 ^ 62)
    (q:R (Itr lo (hi - lo).toNat) H):wpAny (model X.prog X.w) X.A (pyIter (.ref s.heap.objs.size)) (PIE X pins σ tg R) E { s with heap:=s.heap.push { cls:=.type "range",data:=.fields #[.int lo t,.int hi u,.int 1 v] },toks:=tk }:=by
  refine wpAny_pyIter_range (IsRange.new ..) (small_one h1 h2 h3 h4) ?_
  have I1:Inv X pins σ H { s with heap:=s.heap.push { cls:=.type "range",data:=.fields #[.int lo t,.int hi u,.int 1 v] },toks:=tk }:=I.kept fun b o e=>Heap.get?_push_of_some _ e
  refine ⟨(s.heap.push { cls:=.type "range",data:=.fields #[.int lo t,.int hi u,.int 1 v] }).objs.size,[(s.heap.push { cls:=.type "range",data:=.fields #[.int lo t,.int hi u,.int 1 v] }).objs.size],_,_,H,rfl,
    I1.kept (t':=tk) fun b o e=>Heap.get?_push_of_some _ e,jMN _ lo (hi - lo).toNat,?_,fun b hb=>?_,q⟩
  · have e1:lo + ((0:Nat):Int) * 1=lo:=by simp
    have e2:(((hi - lo).toNat:Nat):Int) - ((0:Nat):Int)=Builtin.Range.rangeSize lo hi 1:=by rw [rangeSize_one];split <;> omega
    show IsRangeIter _ _ (lo + ((0:Nat):Int) * 1) ((((hi - lo).toNat:Nat):Int) - ((0:Nat):Int)) 1
    rw [e1,e2]
    exact Heap.get?_push_size _ rfl
  · have e:b=(s.heap.push { cls:=.type "range",data:=.fields #[.int lo t,.int hi u,.int 1 v] }).objs.size:=by simpa using hb
    subst e
    exact I1.fpOk (Nat.le_refl _) (I1.hok.fresh (Nat.le_refl _))
def iRng1 (ta:TA):TI:=fun σ H R=>ta σ H fun vs H1=>∃ j:Int,vs=[.int j]∧-(2 ^ 62)≤j∧j < 2 ^ 62∧R (Itr 0 j.toNat) H1
def iRng2 (ta:TA):TI:=fun σ H R=>ta σ H fun vs H1=>∃ i j:Int,vs=[.int i,.int j]∧(-(2 ^ 62)≤i∧i < 2 ^ 62∧-(2 ^ 62)≤j∧j < 2 ^ 62)∧R (Itr i (j - i).toNat) H1
theorem jB4 {a:Expr} {ta:TA} {p pos:Pos} (hg:Gl X "range") (hm:X.mg "range"=none) (ha:PA X [a] ta) (hs:starEach [a] X.env=[(false,eval a X.env)]:=by rfl):PI X tg (.Call (.Name "range" p) [a] [] pos) (iRng1 ta):=by
  intro pins s σ H R I h
  refine Call_ (jDM I hg hm boot_range (PyProof.Rows.callWith_type1 (thn (ha pos pins s σ H _ I h) fun us s1 ⟨vs,H1,I1,r1,q1⟩=>?_) hs rfl))
  obtain ⟨j,e,q1,q2,q⟩:=q1
  subst e
  cases r1 with
  | cons r rr =>
    cases rr
    obtain ⟨t,rfl⟩:=r
    exact call_range_1 (jKV I1 (by omega) (by omega) q1 q2 (by simpa using q))
theorem jNd {a b:Expr} {ta:TA} {p pos:Pos} (hg:Gl X "range") (hm:X.mg "range"=none) (ha:PA X [a,b] ta) (hs:starEach [a,b] X.env=[(false,eval a X.env),(false,eval b X.env)]:=by rfl) (hs2:starEach [b] X.env=[(false,eval b X.env)]:=by rfl) :
    PI X tg (.Call (.Name "range" p) [a,b] [] pos) (iRng2 ta):=by
  intro pins s σ H R I h
  refine Call_ (jDM I hg hm boot_range (PyProof.Rows.callWith_type1 (thn (ha pos pins s σ H _ I h) fun us s1 ⟨vs,H1,I1,r1,q1⟩=>?_) (by rw [hs,hs2]) (by rw [hs2];rfl)))
  obtain ⟨i,j,e,⟨q1,q2,q3,q4⟩,q⟩:=q1
  subst e
  cases r1 with
  | cons r rr =>
    cases rr with
    | cons r' rr =>
      cases rr
      obtain ⟨t,rfl⟩:=r
      obtain ⟨t',rfl⟩:=r'
      exact call_range_2 (jKV I1 q1 q2 q3 q4 q)
def tFor (wi:TI) (g:TG) (tb:TS):TS:=fun D σ H=>wi σ H fun J H1=>∃ W:Nat→Nat→St→Hp→Prop,(∃ m,W 0 m σ H1)∧∀ i m σ H,W i m σ H →
  (J.stop i H∧D.nx σ H)∨(J.go i H∧∃ N:St→Hp→Prop,(∀ σ' H',N σ' H'→∃ m',m' < m∧W (i + 1) m' σ' H')∧∀ x H',J.yld i H x H'→g x σ H' fun σ2 H2=>tb { D with nx:=N,ct:=N,bk:=D.nx } σ2 H2)
def jGU (fp:List Addr) (h:Heap):List (Addr×Obj):=fp.filterMap fun b=>(h.get? b).map fun o=>(b,o)
theorem jEd {fp:List Addr} {h:Heap} {b:Addr} {o:Obj} (hb:b∈fp) (e:h.get? b=some o):(b,o)∈jGU fp h:=List.mem_filterMap.mpr ⟨b,hb,by rw [e];rfl⟩
theorem jNe {fp:List Addr} {h:Heap} {p:Addr×Obj} (hp:p∈jGU fp h):p.1∈fp∧h.get? p.1=some p.2:=by
  obtain ⟨b,hb,e⟩:=List.mem_filterMap.mp hp
  cases q:h.get? b with
  | none=>rw [q] at e;cases e
  | some o =>
    rw [q] at e
    have e':(b,o)=p:=Option.some.inj e
    subst e'
    exact ⟨hb,q⟩
theorem Inv.pinned {pins:List (Addr×Obj)} {σ:St} {H:Hp} {s:Shared} {fp:List Addr} (I:Inv X pins σ H s) (hf:∀ b∈fp,jF8 X pins H b) (ho:∀ b∈fp,∃ o,s.heap.get? b=some o∧∀ v,o.data≠.cell v):Inv X (pins ++ jGU fp s.heap) σ H s :=
  I.pins_of fun p hp=>(List.mem_append.mp hp).elim (fun z=>I.pin p (List.mem_append_right _ z)) fun z=>by
    obtain ⟨hb,e⟩:=jNe z
    obtain ⟨f0,f1,f2,_⟩:=hf p.1 hb
    obtain ⟨o,e',d⟩:=ho p.1 hb
    rw [e] at e';cases e'
    exact ⟨e,f0,f1,f2,d⟩
theorem Inv.unpinned {pins pl:List (Addr×Obj)} {σ:St} {H:Hp} {s:Shared} (I:Inv X (pins ++ pl) σ H s):Inv X pins σ H s:=I.pins_of fun p hp=>I.pin p (List.mem_append_right _ (List.mem_append_left _ hp))
theorem jB_ {iter:Expr} {body:List Stmt} {wi:TI} {g:TG} {tb:TS} {pos:Pos} (hp:PassesOwn (model X.prog X.w) X.A X.env X.xe) (hc:X.calm=true) (hi:PI X tg iter wi) (hg:PG X tg g) (hb:PSs X body tb)
    (hs:∀ x,foldedSetIterable iter X.env x=pure x:=by intro _;rfl):PS X (.For tg iter body [] pos) (tFor wi g tb):=by
  intro pins s σ H D I h
  refine wpAny_For (thn (hi pins s σ H _ I h) fun v s1 h1=>thn h1 fun itv s2 h2=>?_) hs
  obtain ⟨it,fp,tn,J,H2,e,I2,T,st2,f2,W,⟨m0,w0⟩,turn⟩:=h2
  subst e
  -- what stays true of the iterator's objects through the loop
  have stat:∀ {H':Hp},(∀ b∈fp,H' b=none)→∀ b∈fp,jF8 X pins H' b:=fun hn b hb=>⟨hn b hb,(f2 b hb).2⟩
  refine codeAny_forLoop_any (fun n s'=>∃ i σ' H',Inv X pins σ' H' s'∧tn i s'.heap∧(∀ b∈fp,H' b=none)∧W i n σ' H') ?_ m0 ⟨0,σ,H2,I2,st2,fun b hb=>(f2 b hb).1,w0⟩
  rintro n s3 ⟨i,σ3,H3,I3,st3,fr3,w3⟩
  rcases turn i n σ3 H3 w3 with ⟨stop,qn⟩ | ⟨go,N,hN,step⟩
  · refine wpAny_passesOwn hp (thn (T.done X rfl rfl rfl hc i pins s3 σ3 H3 X.xe I3 (stat fr3) st3 stop) fun r s4 ⟨hr,I4⟩=>?_)
    subst hr
    exact wpAny_execs_nil ⟨σ3,H3,I4,qn⟩
  · refine wpAny_passesOwn hp (thn (T.item X rfl rfl rfl hc i pins s3 σ3 H3 X.xe I3 (stat fr3) st3 go) fun r s4 ⟨u,hr,h4⟩=>?_)
    subst hr
    refine wpAny_passesOwn hp (thn h4 fun _ s5 ⟨x,H5,I5,r5,y5,st5,fr5⟩=>?_)
    have I5':=I5.pinned (stat fr5) (T.obj _ _ st5)
    refine wpAny_passesOwn hp (thn (hg _ s5 σ3 H5 x u _ I5' r5 (step x H5 y5)) fun _ s6 ⟨σ6,H6,I6,q6⟩=>?_)
    refine wpAny_passesOwn hp (thn (hb _ s6 σ6 H6 _ I6 q6) fun f s7 q7=>?_)
    have again:∀ {σ7:St} {H7:Hp},Inv X (pins ++ jGU fp s5.heap) σ7 H7 s7→N σ7 H7→∃ m,m < n∧∃ i σ' H',Inv X pins σ' H' s7∧tn i s7.heap∧(∀ b∈fp,H' b=none)∧W i m σ' H':=fun {σ7 H7} I7 n7=>by
      obtain ⟨m',hm,w7⟩:=hN σ7 H7 n7
      refine ⟨m',hm,i + 1,σ7,H7,I7.unpinned,T.keep _ _ _ st5 fun b hb o e=>(I7.pin (b,o) (List.mem_append_right _ (List.mem_append_right _ (jEd hb e)))).1,fun b hb=>?_,w7⟩
      obtain ⟨o,e,d⟩:=T.obj _ _ st5 b hb
      exact (I7.pin (b,o) (List.mem_append_right _ (List.mem_append_right _ (jEd hb e)))).2.1
    cases f with
    | next=>obtain ⟨σ7,H7,I7,n7⟩:=q7;exact again I7 n7
    | cont=>obtain ⟨σ7,H7,I7,n7⟩:=q7;exact again I7 n7
    | brk=>obtain ⟨σ7,H7,I7,q7⟩:=q7;exact ⟨σ7,H7,I7.unpinned,q7⟩
    | ret v=>obtain ⟨x7,σ7,H7,I7,r7,q7⟩:=q7;exact ⟨x7,σ7,H7,I7.unpinned,r7,q7⟩
end
theorem jCm {K:PySem.W.Frag} {a:Addr} {xs:List V} {g:TG} {tb:TS} {D:jBB} {σ:St} {H:Hp} (Pv:Nat→St→Hp→Prop) (h0:Pv 0 σ H) (hl:∀ i σ H,i≤xs.length→Pv i σ H→SqL K H a xs)
    (hs:∀ i x σ H,xs[i]?=some x→Pv i σ H→g x σ H fun σ2 H2=>tb { D with nx:=Pv (i + 1),ct:=Pv (i + 1),bk:=D.nx } σ2 H2) (hd:∀ σ H,Pv xs.length σ H→D.nx σ H) :
    ∃ W:Nat→Nat→St→Hp→Prop,(∃ m,W 0 m σ H)∧∀ i m σ H,W i m σ H →
      ((Itl K a).stop i H∧D.nx σ H)∨((Itl K a).go i H∧∃ N:St→Hp→Prop,(∀ σ' H',N σ' H'→∃ m',m' < m∧W (i + 1) m' σ' H')∧∀ x H',(Itl K a).yld i H x H'→g x σ H' fun σ2 H2=>tb { D with nx:=N,ct:=N,bk:=D.nx } σ2 H2):=by
  refine ⟨fun i m σ H=>m=xs.length - i∧i≤xs.length∧Pv i σ H,⟨xs.length,by simp,Nat.zero_le _,h0⟩,?_⟩
  rintro i m σ H ⟨rfl,hi,p⟩
  have q:=hl i σ H hi p
  by_cases hlt:i < xs.length
  · refine .inr ⟨⟨xs,xs[i],q,by simp [hlt]⟩,Pv (i + 1),fun σ' H' p'=>⟨xs.length - (i + 1),by omega,rfl,hlt,p'⟩,fun x H' y=>?_⟩
    obtain ⟨e,y⟩:=y
    subst e
    exact hs i x σ _ (y xs q) p
  · have e:i=xs.length:=by omega
    subst e
    exact .inl ⟨⟨xs,q,Nat.le_refl _⟩,hd σ H p⟩
theorem jE2 {lo:Int} {n:Nat} {g:TG} {tb:TS} {D:jBB} {σ:St} {H:Hp} (Pv:Nat→St→Hp→Prop) (h0:Pv 0 σ H)
    (hs:∀ i σ H,i < n→Pv i σ H→g (.int (lo + i)) σ H fun σ2 H2=>tb { D with nx:=Pv (i + 1),ct:=Pv (i + 1),bk:=D.nx } σ2 H2) (hd:∀ σ H,Pv n σ H→D.nx σ H) :
    ∃ W:Nat→Nat→St→Hp→Prop,(∃ m,W 0 m σ H)∧∀ i m σ H,W i m σ H →
      ((Itr lo n).stop i H∧D.nx σ H)∨((Itr lo n).go i H∧∃ N:St→Hp→Prop,(∀ σ' H',N σ' H'→∃ m',m' < m∧W (i + 1) m' σ' H')∧∀ x H',(Itr lo n).yld i H x H'→g x σ H' fun σ2 H2=>tb { D with nx:=N,ct:=N,bk:=D.nx } σ2 H2):=by
  refine ⟨fun i m σ H=>m=n - i∧i≤n∧Pv i σ H,⟨n,by simp,Nat.zero_le _,h0⟩,?_⟩
  rintro i m σ H ⟨rfl,hi,p⟩
  by_cases hlt:i < n
  · refine .inr ⟨hlt,Pv (i + 1),fun σ' H' p'=>⟨n - (i + 1),by omega,rfl,hlt,p'⟩,fun x H' y=>?_⟩
    obtain ⟨e,y⟩:=y
    subst e y
    exact hs i σ _ hlt p
  · have e:i=n:=by omega
    subst e
    exact .inl ⟨Nat.le_refl _,hd σ H p⟩
end L2
namespace L2
open PySem PySem.Spec PyProof.Rows
abbrev R2:=V→V→Hp→VK→Prop
def OpR (X:Cx) (f:Value→Value→Sem Value) (r:R2):Prop :=
  ∀ (pins:List (Addr×Obj)) (s:Shared) (σ:St) (H:Hp) (x y:V) (v u:Value) (Q:VK),Inv X pins σ H s→jAx x v→jAx y u→r x y H Q →
    wpAny (model X.prog X.w) X.A (f v u) (EP X pins σ Q) X.xe s
def UnR (X:Cx) (f:Value→Sem Value) (r:V→Hp→VK→Prop):Prop :=
  ∀ (pins:List (Addr×Obj)) (s:Shared) (σ:St) (H:Hp) (x:V) (v:Value) (Q:VK),Inv X pins σ H s→jAx x v→r x H Q →
    wpAny (model X.prog X.w) X.A (f v) (EP X pins σ Q) X.xe s
def CallR (X:Cx) (f:Value) (r:List V→Hp→VK→Prop):Prop :=
  ∀ (pins:List (Addr×Obj)) (s:Shared) (σ:St) (H:Hp) (xs:List V) (us:List Value) (Q:VK),Inv X pins σ H s→jAA xs us→r xs H Q →
    wpAny (model X.prog X.w) X.A (call f us) (EP X pins σ Q) X.xe s
def TruR (X:Cx) (r:V→Hp→(Bool→Hp→Prop)→Prop):Prop :=
  ∀ (pins:List (Addr×Obj)) (s:Shared) (σ:St) (H:Hp) (x:V) (v:Value) (Q:Bool→Hp→Prop),Inv X pins σ H s→jAx x v→r x H Q →
    wpAny (model X.prog X.w) X.A (truthy v) (TP X pins σ Q) X.xe s
def tOp (r:R2) (ta tb:TE):TE:=fun σ H Q=>ta σ H fun x H1=>tb σ H1 fun y H2=>r x y H2 Q
def tUn (r:V→Hp→VK→Prop) (ta:TE):TE:=fun σ H Q=>ta σ H fun x H1=>r x H1 Q
def rI (C:Int→Int→Prop) (g:Int→Int→V):R2:=fun x y H Q=>∃ i j,x=.int i∧y=.int j∧C i j∧Q (g i j) H
def rI0 (g:Int→Int→V):R2:=fun x y H Q=>∃ i j,x=.int i∧y=.int j∧Q (g i j) H
def rU (g:Int→V):V→Hp→VK→Prop:=fun x H Q=>∃ i,x=.int i∧Q (g i) H
section
variable {X:Cx} {a b c:Expr} {ta tb tc:TE} {pos:Pos}
theorem binT (ha:PE X a ta) (hb:PE X b tb) {pins:List (Addr×Obj)} {s:Shared} {σ:St} {H:Hp} {R:V→V→Hp→Prop} (I:Inv X pins σ H s)
    (h:ta σ H fun x H1=>tb σ H1 fun y H2=>R x y H2) {Q:Value→Shared→Prop} {f:Value→Value→Sem Value}
    (hf:∀ v u s2 x y H2,Inv X pins σ H2 s2→jAx x v→jAx y u→R x y H2→wpAny (model X.prog X.w) X.A (f v u) Q X.xe s2) :
    wpAny (model X.prog X.w) X.A (eval a X.env) (fun v s₁=>wpAny (model X.prog X.w) X.A (eval b X.env) (fun u s₂=>wpAny (model X.prog X.w) X.A (f v u) Q X.xe s₂) X.xe s₁) X.xe s:=by
  refine thn (ha pins s σ H _ I h) fun v s1 ⟨x,H1,I1,r1,q1⟩=>?_
  refine thn (hb pins s1 σ H1 _ I1 q1) fun u s2 ⟨y,H2,I2,r2,q2⟩=>?_
  exact hf v u s2 x y H2 I2 r1 r2 q2
theorem jAB {op:Operator} {r:R2} (ho:OpR X (binaryOp op) r) (ha:PE X a ta) (hb:PE X b tb):PE X (.BinOp a op b pos) (tOp r ta tb):=by
  intro pins s σ H Q I h
  exact wpAny_BinOp (binT ha hb I h fun v u s2 x y H2 I2 rx ry q=>ho pins s2 σ H2 x y v u Q I2 rx ry q)
theorem pe_un {op:UnaryOp} {r:V→Hp→VK→Prop} (ho:UnR X (unaryOp op) r) (ha:PE X a ta):PE X (.UnaryOp op a pos) (tUn r ta):=by
  intro pins s σ H Q I h
  exact UnaryOp_ (thn (ha pins s σ H _ I h) fun v s1 ⟨x,H1,I1,r1,q1⟩=>ho pins s1 σ H1 x v Q I1 r1 q1)
theorem opI {f:Value→Value→Sem Value} {C:Int→Int→Prop} {g:Int→Int→Int}
    (rule:∀ (i j:Int) (t u:Tok) (s:Shared) (Q:Value→Shared→Prop) (E:Value→Shared→Prop),C i j→Q (.int (g i j) s.toks) { s with toks:=s.toks + 1 }→wpAny (model X.prog X.w) X.A (f (.int i t) (.int j u)) Q E s) :
    OpR X f (rI C fun i j=>.int (g i j)):=by
  intro pins s σ H x y v u Q I rx ry h
  obtain ⟨i,j,rfl,rfl,hc,q⟩:=h
  obtain ⟨t,rfl⟩:=rx
  obtain ⟨t',rfl⟩:=ry
  exact rule i j t t' s _ _ hc ⟨.int (g i j),H,I.tok _,⟨_,rfl⟩,q⟩
theorem opI0 {f:Value→Value→Sem Value} {g:Int→Int→Int}
    (rule:∀ (i j:Int) (t u:Tok) (s:Shared) (Q:Value→Shared→Prop) (E:Value→Shared→Prop),Q (.int (g i j) s.toks) { s with toks:=s.toks + 1 }→wpAny (model X.prog X.w) X.A (f (.int i t) (.int j u)) Q E s) :
    OpR X f (rI0 fun i j=>.int (g i j)):=by
  intro pins s σ H x y v u Q I rx ry h
  obtain ⟨i,j,rfl,rfl,q⟩:=h
  obtain ⟨t,rfl⟩:=rx
  obtain ⟨t',rfl⟩:=ry
  exact rule i j t t' s _ _ ⟨.int (g i j),H,I.tok _,⟨_,rfl⟩,q⟩
theorem opB0 {f:Value→Value→Sem Value} {g:Int→Int→Bool}
    (rule:∀ (i j:Int) (t u:Tok) (s:Shared) (Q:Value→Shared→Prop) (E:Value→Shared→Prop),Q (.bool (g i j)) s→wpAny (model X.prog X.w) X.A (f (.int i t) (.int j u)) Q E s) :
    OpR X f (rI0 fun i j=>.bl (g i j)):=by
  intro pins s σ H x y v u Q I rx ry h
  obtain ⟨i,j,rfl,rfl,q⟩:=h
  obtain ⟨t,rfl⟩:=rx
  obtain ⟨t',rfl⟩:=ry
  exact rule i j t t' s _ _ ⟨.bl (g i j),H,I,rfl,q⟩
def CDiv (i j:Int):Prop:=0 < j∧j < 1073741824
def CDivN (i j:Int):Prop:=j≠0∧j.natAbs < 1073741824
def CPow (i j:Int):Prop:=0≤j∧j≤1000000∧i.natAbs < 2 ^ 64
def CMul (i j:Int):Prop:=(-(2 ^ 64) < i∧i < 2 ^ 64)∨(-(2 ^ 64) < j∧j < 2 ^ 64)
theorem CMul.ok {i j:Int} (h:CMul i j):IntMulOk i j:=by
  rcases h with ⟨h1,h2⟩ | ⟨h1,h2⟩
  · exact .of_left (intBits_le_64 h1 h2)
  · exact .of_right (intBits_le_64 h1 h2)
theorem jA2:OpR X (binaryOp .Add) (rI0 fun i j=>.int (i + j)):=opI0 fun _ _ _ _ _ _ _ q=>add_int q
theorem jGV:OpR X (binaryOp .Sub) (rI0 fun i j=>.int (i - j)):=opI0 fun _ _ _ _ _ _ _ q=>sub_int q
theorem jEv:OpR X (binaryOp .Mult) (rI CMul fun i j=>.int (i * j)):=opI fun _ _ _ _ _ _ _ hc q=>mul_int q hc.ok
theorem jHp:OpR X (binaryOp .FloorDiv) (rI CDiv fun i j=>.int (i / j)):=opI fun i j _ _ _ _ _ hc q=>by
  have h1:(0:Int) < j:=hc.1
  have h2:j < 1073741824:=hc.2
  exact floordiv_int (by omega) (by rw [Int.fdiv_eq_ediv_of_nonneg i (by omega)];exact q) (.inl (PyProof.noPylong_small (by omega)))
theorem jBP:OpR X (binaryOp .Mod) (rI (fun _ j=>0 < j) fun i j=>.int (i % j)):=opI fun i j _ _ _ _ _ hc q=>by
  have h1:(0:Int) < j:=hc
  exact mod_int' (by omega) (by rw [Int.fmod_eq_emod_of_nonneg i (by omega)];exact q)
theorem unI {f:Value→Sem Value} {g:Int→Int}
    (rule:∀ (i:Int) (t:Tok) (s:Shared) (Q:Value→Shared→Prop) (E:Value→Shared→Prop),Q (.int (g i) s.toks) { s with toks:=s.toks + 1 }→wpAny (model X.prog X.w) X.A (f (.int i t)) Q E s) :
    UnR X f (rU fun i=>.int (g i)):=by
  intro pins s σ H x v Q I rx h
  obtain ⟨i,rfl,q⟩:=h
  obtain ⟨t,rfl⟩:=rx
  exact rule i t s _ _ ⟨.int (g i),H,I.tok _,⟨_,rfl⟩,q⟩
theorem un_neg:UnR X (unaryOp .USub) (rU fun i=>.int (-i)):=unI fun _ _ _ _ _ q=>neg_int q
end
def scal:V→V→Bool
  | .non,.non=>true | .non,.int _=>true | .int _,.non=>true | .non,.bl _=>true | .bl _,.non=>true | .non,.str _=>true | .str _,.non=>true
  | .int _,.int _=>true | .bl _,.bl _=>true | .str _,.str _=>true | .byt _,.byt _=>true
  | .int _,.str _=>true | .str _,.int _=>true | .bl _,.str _=>true | .str _,.bl _=>true
  | _,_=>false
def rEq:R2:=fun x y H Q=>scal x y=true∧Q (.bl (decide (x=y))) H
def rNe:R2:=fun x y H Q=>scal x y=true∧Q (.bl (!decide (x=y))) H
theorem jMn {i j:Int}:decide (V.int i=V.int j)=(i == j):=by
  rw [Bool.eq_iff_iff]
  simp
theorem jNf {i j:Bool}:decide (V.bl i=V.bl j)=(i == j):=by
  rw [Bool.eq_iff_iff]
  simp
theorem jMo {i j:Str}:decide (V.str i=V.str j)=(i == j):=by
  rw [Bool.eq_iff_iff]
  simp
theorem jMp {i j:Array UInt8}:decide (V.byt i=V.byt j)=(i.toList == j.toList):=by
  rw [Bool.eq_iff_iff]
  cases i
  cases j
  simp
section
variable {X:Cx} {a b c:Expr} {ta tb tc:TE} {pos:Pos}
theorem jAT {pins:List (Addr×Obj)} {σ:St} {H:Hp} {s:Shared} {Q:VK} {k k':Bool} (I:Inv X pins σ H s) (q:Q (.bl k) H) (e:k=k'):EP X pins σ Q (.bool k') s:=by
  subst e
  exact ⟨.bl k,H,I,rfl,q⟩
theorem jAZ:OpR X (compareOp .Eq) rEq:=by
  intro pins s σ H x y v u Q I rx ry h
  obtain ⟨hs,q⟩:=h
  cases x with
  | non =>
    cases rx
    cases y with
    | non=>cases ry;exact PySem.EqNone.eq_none_none (jAT I q (by simp))
    | bl j=>cases ry;exact PySem.EqNone.eq_none_bool (jAT I q (by simp))
    | int j=>obtain ⟨t',rfl⟩:=ry;exact PySem.EqNone.eq_none_int (jAT I q (by simp))
    | str j=>obtain ⟨t',rfl⟩:=ry;exact PySem.EqNone.eq_none_str (jAT I q (by simp))
    | _=>exact absurd (show false=true from hs) Bool.false_ne_true
  | bl i =>
    cases rx
    cases y with
    | non=>cases ry;exact PySem.EqNone.eq_bool_none (jAT I q (by simp))
    | bl j=>cases ry;exact eq_bool (jAT I q jNf)
    | str j=>obtain ⟨t',rfl⟩:=ry;exact PySem.EqMixed.eq_bool_str (jAT I q (by simp))
    | _=>exact absurd (show false=true from hs) Bool.false_ne_true
  | int i =>
    obtain ⟨t,rfl⟩:=rx
    cases y with
    | non=>cases ry;exact PySem.EqNone.eq_int_none (jAT I q (by simp))
    | int j=>obtain ⟨t',rfl⟩:=ry;exact eq_int (jAT I q jMn)
    | str j=>obtain ⟨t',rfl⟩:=ry;exact PySem.EqMixed.eq_int_str (jAT I q (by simp))
    | _=>exact absurd (show false=true from hs) Bool.false_ne_true
  | str i =>
    obtain ⟨t,rfl⟩:=rx
    cases y with
    | non=>cases ry;exact PySem.EqNone.eq_str_none (jAT I q (by simp))
    | bl j=>cases ry;exact PySem.EqMixed.eq_str_bool (jAT I q (by simp))
    | int j=>obtain ⟨t',rfl⟩:=ry;exact PySem.EqMixed.eq_str_int (jAT I q (by simp))
    | str j=>obtain ⟨t',rfl⟩:=ry;exact eq_str (jAT I q jMo)
    | _=>exact absurd (show false=true from hs) Bool.false_ne_true
  | byt i =>
    obtain ⟨t,rfl⟩:=rx
    cases y with
    | byt j=>obtain ⟨t',rfl⟩:=ry;exact PySem.W.eq_bytes (jAT I q jMp)
    | _=>exact absurd (show false=true from hs) Bool.false_ne_true
  | _=>cases y <;> exact absurd (show false=true from hs) Bool.false_ne_true
theorem jCv:OpR X (compareOp .NotEq) rNe:=by
  intro pins s σ H x y v u Q I rx ry h
  obtain ⟨hs,q⟩:=h
  cases x with
  | non =>
    cases rx
    cases y with
    | non=>cases ry;exact PySem.EqNone.ne_none_none (jAT I q (by simp))
    | bl j=>cases ry;exact PySem.EqNone.ne_none_bool (jAT I q (by simp))
    | int j=>obtain ⟨t',rfl⟩:=ry;exact PySem.EqNone.ne_none_int (jAT I q (by simp))
    | str j=>obtain ⟨t',rfl⟩:=ry;exact PySem.EqNone.ne_none_str (jAT I q (by simp))
    | _=>exact absurd (show false=true from hs) Bool.false_ne_true
  | bl i =>
    cases rx
    cases y with
    | non=>cases ry;exact PySem.EqNone.ne_bool_none (jAT I q (by simp))
    | bl j=>cases ry;exact ne_bool (jAT I q (congrArg not jNf))
    | str j=>obtain ⟨t',rfl⟩:=ry;exact PySem.EqMixed.ne_bool_str (jAT I q (by simp))
    | _=>exact absurd (show false=true from hs) Bool.false_ne_true
  | int i =>
    obtain ⟨t,rfl⟩:=rx
    cases y with
    | non=>cases ry;exact PySem.EqNone.ne_int_none (jAT I q (by simp))
    | int j=>obtain ⟨t',rfl⟩:=ry;exact ne_int (jAT I q (congrArg not jMn))
    | str j=>obtain ⟨t',rfl⟩:=ry;exact PySem.EqMixed.ne_int_str (jAT I q (by simp))
    | _=>exact absurd (show false=true from hs) Bool.false_ne_true
  | str i =>
    obtain ⟨t,rfl⟩:=rx
    cases y with
    | non=>cases ry;exact PySem.EqNone.ne_str_none (jAT I q (by simp))
    | bl j=>cases ry;exact PySem.EqMixed.ne_str_bool (jAT I q (by simp))
    | int j=>obtain ⟨t',rfl⟩:=ry;exact PySem.EqMixed.ne_str_int (jAT I q (by simp))
    | str j=>obtain ⟨t',rfl⟩:=ry;exact ne_str (jAT I q (congrArg not jMo))
    | _=>exact absurd (show false=true from hs) Bool.false_ne_true
  | byt i =>
    obtain ⟨t,rfl⟩:=rx
    cases y with
    | byt j=>obtain ⟨t',rfl⟩:=ry;exact PySem.W.ne_bytes (jAT I q (congrArg not jMp))
    | _=>exact absurd (show false=true from hs) Bool.false_ne_true
  | _=>cases y <;> exact absurd (show false=true from hs) Bool.false_ne_true
theorem jF9:OpR X (compareOp .Lt) (rI0 fun i j=>.bl (decide (i < j))):=opB0 fun _ _ _ _ _ _ _ q=>lt_int q
theorem op_le:OpR X (compareOp .LtE) (rI0 fun i j=>.bl (decide (i≤j))):=opB0 fun _ _ _ _ _ _ _ q=>le_int q
theorem jKI:OpR X (compareOp .Gt) (rI0 fun i j=>.bl (decide (j < i))):=opB0 fun _ _ _ _ _ _ _ q=>gt_int q
theorem op_ge:OpR X (compareOp .GtE) (rI0 fun i j=>.bl (decide (j≤i))):=opB0 fun _ _ _ _ _ _ _ q=>ge_int q
theorem jC1:OpR X (compareOp .Is) (fun x y H Q=>y=.non∧Q (.bl (decide (x=.non))) H):=by
  intro pins s σ H x y v u Q I rx ry h
  obtain ⟨rfl,q⟩:=h
  cases ry
  refine is_none_gen (jAT I q ?_)
  cases x <;> first
    | (cases rx;rfl)
    | (obtain ⟨t,rfl⟩:=rx;rfl)
theorem jHq:OpR X (compareOp .IsNot) (fun x y H Q=>y=.non∧Q (.bl (!decide (x=.non))) H):=by
  intro pins s σ H x y v u Q I rx ry h
  obtain ⟨rfl,q⟩:=h
  cases ry
  refine isnot_none_gen (jAT I q ?_)
  cases x <;> first
    | (cases rx;rfl)
    | (obtain ⟨t,rfl⟩:=rx;rfl)
def isObj:HO→Bool
  | .lst _=>true
  | .ins _ _ _=>true
  | _=>false
theorem OpR.or {f:Value→Value→Sem Value} {r r':R2} (h:OpR X f r) (h':OpR X f r'):OpR X f (fun x y H Q=>r x y H Q∨r' x y H Q):=by
  intro pins s σ H x y v u Q I rx ry q
  rcases q with q | q
  · exact h pins s σ H x y v u Q I rx ry q
  · exact h' pins s σ H x y v u Q I rx ry q
theorem jNg (b:Expr) {op:CmpOp} (h:op≠.In:=by decide) (h2:op≠.NotIn:=by decide):behindInMarks op b=false:=by
  have e1:(op == CmpOp.In)=false:=by cases op <;> first | rfl | exact absurd rfl h
  have e2:(op == CmpOp.NotIn)=false:=by cases op <;> first | rfl | exact absurd rfl h2
  cases b <;> simp [behindInMarks,e1,e2]
theorem pe_cmpR {op:CmpOp} {r:R2} (ho:OpR X (compareOp op) r) (ha:PE X a ta) (hb:PE X b tb) (hm:behindInMarks op b=false):PE X (.Compare a [op] [b] pos) (tOp r ta tb):=by
  intro pins s σ H Q I h
  exact wpAny_Compare1 (binT ha hb I h fun v u s2 x y H2 I2 rx ry q=>ho pins s2 σ H2 x y v u Q I2 rx ry q) hm
def jKJ (t:TE):TT:=fun σ H Q=>t σ H fun x H'=>∃ k,x=.bl k∧Q k H'
theorem jMq {op:CmpOp} {r:R2} (ho:OpR X (compareOp op) r) (ha:PE X a ta) (hb:PE X b tb) (hm:behindInMarks op b=false):PT X (.Compare a [op] [b] pos) (jKJ (tOp r ta tb)):=by
  intro pins s σ H Q I h
  refine wpAny_isTrue_Compare1 (thn (ha pins s σ H _ I h) fun v s1 ⟨x,H1,I1,r1,q1⟩=>thn (hb pins s1 σ H1 _ I1 q1) fun u s2 ⟨y,H2,I2,r2,q2⟩ =>
    thn (ho pins s2 σ H2 x y v u _ I2 r1 r2 q2) fun c s3 ⟨z,H3,I3,r3,k,e,q3⟩=>?_) hm
  subst e
  cases r3
  exact wpAny_truthy_bool ⟨H3,I3,q3⟩
def tChain (r r':R2) (ta tb tc:TE):TE:=fun σ H Q=>ta σ H fun x H1=>tb σ H1 fun y H2=>r x y H2 fun z H3=>∃ k,z=.bl k ∧
  (if k=true then tc σ H3 fun w' H4=>r' y w' H4 Q else Q (.bl false) H3)
theorem jN7 {op op':CmpOp} {r r':R2} (ho:OpR X (compareOp op) r) (ho':OpR X (compareOp op') r') (ha:PE X a ta) (hb:PE X b tb) (hc:PE X c tc)
    (hm:lastMarks [op,op'] [b,c]=false:=by with_unfolding_all rfl):PE X (.Compare a [op,op'] [b,c] pos) (tChain r r' ta tb tc):=by
  intro pins s σ H Q I h
  refine Compare_chain (thn (ha pins s σ H _ I h) fun v s1 ⟨x,H1,I1,r1,q1⟩=>chain_link (thn (hb pins s1 σ H1 _ I1 q1) fun u s2 ⟨y,H2,I2,r2,q2⟩ =>
    thn (ho pins s2 σ H2 x y v u _ I2 r1 r2 q2) fun d s3 ⟨z,H3,I3,r3,k,e,q3⟩=>?_)) hm
  subst e
  cases r3
  refine wpAny_truthy_bool ?_
  cases k with
  | false=>exact ite_ff ⟨.bl false,H3,I3,rfl,q3⟩
  | true=>exact ite_tt (chain_last (thn (hc pins s3 σ H3 _ I3 q3) fun w' s4 ⟨z',H4,I4,r4,q4⟩=>ho' pins s4 σ H4 y z' u w' Q I4 r2 r4 q4))
def TruV (K:PySem.W.Frag) (x:V) (H:Hp) (k:Bool):Prop :=
  match x with
  | .non=>k=false
  | .bl b=>k=b
  | .int i=>k=(i != 0)
  | .str y=>y.length≤sizeLine∧k=((y.length:Int) != 0)
  | .byt y=>y.size≤sizeLine∧k=((y.size:Int) != 0)
  | .ref p=>(∃ xs,SqL K H p xs∧k=!xs.isEmpty)∨(∃ xs,SqT K H p xs∧k=!xs.isEmpty)∨∃ kvs,H p=some (.dK kvs)∧k=!kvs.isEmpty
  | _=>False
theorem jMO {κ:Type} {kvs:List (κ×V)} {vs:List (κ×Value)} (r:KV kvs vs):(!vs.isEmpty)=!kvs.isEmpty:=by
  cases r <;> rfl
theorem jIe {xs:List V} {its:List Value} (r:jAA xs its):(!its.toArray.isEmpty)=!xs.isEmpty:=by
  cases r <;> simp
theorem jEw:(sizeLine:Nat) < 2 ^ 63:=by rw [sizeLine_eq];decide
theorem tru_ok:TruR X (fun x H Q=>∃ k,TruV X.K x H k∧Q k H):=by
  intro pins s σ H x v Q I rx h
  obtain ⟨k,e,q⟩:=h
  have hl:=jEw
  have hs:sizeLine=16777216:=sizeLine_eq
  cases x with
  | non =>
    cases rx
    have e':k=false:=e
    subst e'
    exact truthy_none ⟨H,I,q⟩
  | bl b =>
    cases rx
    have e':k=b:=e
    subst e'
    exact wpAny_truthy_bool ⟨H,I,q⟩
  | int i =>
    obtain ⟨t,rfl⟩:=rx
    have e':k=(i != 0):=e
    subst e'
    exact PySem.P.truthy_int ⟨H,I,q⟩
  | str y =>
    obtain ⟨t,rfl⟩:=rx
    obtain ⟨hy,e'⟩:y.length≤sizeLine∧k=((y.length:Int) != 0):=e
    subst e'
    exact PySem.P.truthy_str (by omega) ⟨H,I.tok _,q⟩
  | byt y =>
    obtain ⟨t,rfl⟩:=rx
    obtain ⟨hy,e'⟩:y.size≤sizeLine∧k=((y.size:Int) != 0):=e
    subst e'
    exact PySem.W.truthy_bytes (by omega) ⟨H,I.tok _,q⟩
  | ref p =>
    cases rx
    have e':(∃ xs,SqL X.K H p xs∧k=!xs.isEmpty)∨(∃ xs,SqT X.K H p xs∧k=!xs.isEmpty)∨∃ kvs,H p=some (.dK kvs)∧k=!kvs.isEmpty:=e
    rcases e' with ⟨xs,hx,e'⟩ | ⟨xs,hx,e'⟩ | ⟨kvs,hx,e'⟩
    · subst e'
      obtain ⟨its,r,pl,hz⟩:=I.list hx
      have hlen:=r.length
      exact wpAny_truthy_list pl.isList (by simp only [List.size_toArray];omega) ⟨H,I.tok _,by rw [jIe r];exact q⟩
    · subst e'
      obtain ⟨its,r,pl,hz⟩:=I.tuple hx
      have hlen:=r.length
      exact truthy_tuple pl (by simp only [List.size_toArray];omega) ⟨H,I.tok _,by rw [jIe r];exact q⟩
    · subst e'
      obtain ⟨hz,hS,vs,r,m⟩:kvs.length≤sizeLine∧(p == sysModules)=false∧∃ vs,KV kvs vs∧s.heap.DictOf (jA_ X.prog X.w) p vs:=I.hok p _ hx
      have hlen:kvs.length=vs.length:=Paired.length r
      exact wpAny_truthy_dict hS m (by omega) ⟨H,I.tok _,by rw [jMO r];exact q⟩
  | _=>exact (show False from e).elim
theorem jAN (ha:PE X a ta) (he:∀ whole,isTrue a X.env whole=(do let v ← whole;standAt a.pos;holding [v] (truthy v))) :
    PT X a (fun σ H Q=>ta σ H fun x H'=>∃ k,TruV X.K x H' k∧Q k H'):=by
  intro pins s σ H Q I h
  exact isTrue_plain (thn (ha pins s σ H _ I h) fun v s1 ⟨x,H1,I1,r1,q1⟩=>tru_ok pins s1 σ H1 x v Q I1 r1 q1) (he _)
theorem jF_:OpR X (binaryOp .Add) (fun x y H Q=>∃ i j,x=.str i∧y=.str j∧i.length + j.length≤sizeLine∧Q (.str (i ++ j)) H):=by
  intro pins s σ H x y v u Q I rx ry h
  obtain ⟨i,j,rfl,rfl,hz,q⟩:=h
  obtain ⟨t,rfl⟩:=rx
  obtain ⟨t',rfl⟩:=ry
  exact add_str (fun t' tk=>⟨.str (i ++ j),H,I.tok _,⟨_,rfl⟩,q⟩) hz
def PlainIxT (b:Expr):Prop:=∀ o i,subscripted b false o i=operate [o,i] (getItem o i)
theorem jEe {x:V} {us:List Value} (r:jAA [x] us):∃ u,us=[u]∧jAx x u:=by
  cases r with
  | cons r1 r2=>cases r2;exact ⟨_,rfl,r1⟩
theorem vals2 {x y:V} {us:List Value} (r:jAA [x,y] us):∃ u w',us=[u,w']∧jAx x u∧jAx y w':=by
  cases r with
  | cons r1 r2 =>
    cases r2 with
    | cons r3 r4=>cases r4;exact ⟨_,_,rfl,r1,r3⟩
theorem jNh (hc:X.calm=true):CallR X (.builtin "max") (fun xs H Q=>∃ i j,xs=[.int i,.int j]∧Q (.int (if j > i then j else i)) H):=by
  intro pins s σ H xs us Q I r h
  obtain ⟨i,j,rfl,q⟩:=h
  obtain ⟨u,w',rfl,⟨t,rfl⟩,⟨t',rfl⟩⟩:=vals2 r
  refine max_two_ints (I.ok.hd hc) fun h' tk k=>⟨_,H,I.kept k,?_,q⟩
  by_cases hj:j > i
  · rw [if_pos hj,if_pos hj];exact ⟨_,rfl⟩
  · rw [if_neg hj,if_neg hj];exact ⟨_,rfl⟩
theorem jGW:CallR X (.type "str") (fun xs H Q=>∃ i,xs=[.int i]∧i.natAbs.log2 < 1920∧Q (.str (toString i)) H):=by
  intro pins s σ H xs us Q I r h
  obtain ⟨i,rfl,hz,q⟩:=h
  obtain ⟨u,rfl,t,rfl⟩:=jEe r
  exact PySem.P.str_of_int hz ⟨.str _,H,I.tok _,⟨_,rfl⟩,q⟩
def LenV (K:PySem.W.Frag) (x:V) (H:Hp) (n:Nat):Prop :=
  match x with
  | .str y=>y.length≤sizeLine∧n=y.length
  | .byt y=>y.size≤sizeLine∧n=y.size
  | .ref p=>(∃ xs,SqL K H p xs∧n=xs.length)∨∃ xs,SqT K H p xs∧n=xs.length
  | _=>False
end
end L2
namespace L2
open PySem PySem.Spec PyProof.Rows
structure ObjM (h:Heap) (x dx C:Addr) (mA:Str→Option Value):Prop where
  obj:h.get? x=some (PySem.W.instObj C dx)
  ns:h.Ns1 dx mA
  ne:dx≠x
theorem lookIn_ns {h:Heap} {dx:Addr} {mA:Str→Option Value} (n:h.Ns1 dx mA):∃ od,h.get? dx=some od∧∀ name,PySem.W.lookIn name od=some (mA name):=by
  obtain ⟨o,es,ep,ho,hd,hk,_,hm⟩:=n
  refine ⟨o,ho,fun name=>?_⟩
  have e:=hm name
  unfold nsFind findBy at e
  rw [← Array.find?_toList] at e
  unfold PySem.W.lookIn
  rw [hd]
  dsimp only
  split
  · rename_i y q
    rw [q] at e
    exact congrArg some e
  · rename_i q
    rw [q] at e
    have a:es.toList.any (·.refKey)=false:=by
      rw [List.any_eq_false]
      intro y hy
      obtain ⟨z,t,hkey⟩:=hk y (Array.mem_toList_iff.mp hy)
      simp [DictEntry.refKey,hkey]
    have a':¬ es.toList.any (·.refKey)=true:=by rw [a];exact Bool.false_ne_true
    rw [if_neg a']
    exact congrArg some e
theorem ObjM.look {h:Heap} {x dx C:Addr} {mA:Str→Option Value} (I:ObjM h x dx C mA):∃ od,PySem.W.InstAt h x (PySem.W.instObj C dx) C (some od)∧∀ name,PySem.W.lookIn name od=some (mA name) :=
  let ⟨od,ho,hl⟩:=lookIn_ns I.ns
  ⟨od,⟨I.obj,rfl,rfl,ho⟩,hl⟩
section
variable {prog:Program} {w:World} {A:Around} {E:Value→Shared→Prop} {s:Shared} {K:PySem.W.Frag} {x dx C f:Addr} {mA:Str→Option Value} {name:Str} {v:Value}
theorem get_map {expr:Bool} {Q:Value→Shared→Prop} (X:K.In s.heap) (I:ObjM s.heap x dx C mA) (hg:PySem.W.plainGet K C name=true) (hh:PySem.W.hasDictIn K C=true)
    (ha:PySem.W.findIn K (.ref C) name=some none) (hv:mA name=some v) (hv':PySem.W.handedIn v=true) (h:Q v { s with toks:=s.toks + 1 }) :
    wpAny (model prog w) A (getAttr (.ref x) name expr) Q E s:=by
  obtain ⟨od,J,hl⟩:=I.look
  exact PySem.W.get_value X J (PySem.W.plainGet_of hg).1 (PySem.W.findObj_own hh ha rfl (by rw [hl,hv])) hv' h
theorem jN8 {pl:Sem Bool} {Q:Value×List Value→Shared→Prop} (X:K.In s.heap) (I:ObjM s.heap x dx C mA) (hg:PySem.W.plainGet K C name=true)
    (hf:PySem.W.findIn K (.ref C) name=some (some (.ref f))) (ht:PySem.W.isFn K (.ref f)=true) (hv:mA name=none) (h:Q (.ref f,[.ref x]) s) :
    wpAny (model prog w) A (getMethod (.ref x) name pl) Q E s:=by
  obtain ⟨od,J,hl⟩:=I.look
  exact PySem.W.method_fn X J (PySem.W.plainGet_of hg).1 (PySem.W.plainGet_of hg).2 hf (beq_iff_eq.mp ht) (by show (PySem.W.lookIn name od).map (·.isSome)=some false;rw [hl,hv];rfl) h
theorem set_map {ns:List Str} {Q:Unit→Shared→Prop} (X:K.In s.heap) (I:ObjM s.heap x dx C mA)
    (hs:PySem.W.findIn K (.ref C) "__setattr__"=some (some (.builtin "object.__setattr__"))) (hp:PySem.W.plainOver K C=true) (ht:PySem.W.takerIn K C name=some none) (hh:PySem.W.hasDictIn K C=true)
    (hw:PySem.Within mA ns) (hsz:ns.length≤sizeLine)
    (h:∀ h',ObjM h' x dx C (fun y=>if y=name then some v else mA y)→Heap.SameBut dx s.heap h'→Q () { s with heap:=h',toks:=s.toks + 2 }) :
    wpAny (model prog w) A (setAttr (.ref x) name v) Q E s:=by
  obtain ⟨od,J,hl⟩:=I.look
  refine PySem.W.set_plain X J hs (PySem.W.osa_open (s:={ s with toks:=s.toks + 1 }) (r:=none) X J hp ht fun b=>?_)
  obtain ⟨cd,hc,hd'⟩:=PySem.W.any_some hh
  have hx:s.heap.get? x=some ⟨.ref C,some dx,.plain,#[]⟩:=I.obj
  refine wpAny_bind (wpAny_pure (wpAny_bind (wpAny_bind (wpAny_loadPart hx (wpAny_bind (PySem.W.Looks.here (s:={ s with toks:=s.toks + 1 }) (PySem.W.looks_clsIn X hc) ?_))))))
  rw [hd']
  refine wpAny_pure (a:=some dx) (wpAny_bind (wpAny_pure (wpAny_bind ?_)))
  refine wpAny_nsSet1 (s:={ s with toks:=s.toks + 1 }) I.ns fun h' hn2 hs2=>?_
  obtain ⟨oD,esD,epD,hoD,hdD,hcD⟩:=hn2.count (PySem.Within.cons name v hw)
  refine wpAny_bind (wpAny_lookBehind hoD (by rw [hdD];exact pastItsLine_dict (Nat.le_trans hcD (by rw [List.length_cons];omega))) ?_)
  exact wpAny_pure (h _ ⟨(hs2.2 _ (Ne.symm I.ne)).trans I.obj,hn2,I.ne⟩ hs2)
theorem jN9 {R:Result→Shared→Prop} {vs:List Value} {kw:List (Str×Value)} (X:K.In s.heap) (hm:PySem.W.makesIn K C=true)
    (hi:PySem.W.findIn K (.ref C) "__init__"=some (some (.ref f))) (hf:PySem.W.typeIn K (.ref f)=some (.type "function"))
    (h:codeAny (model prog w) (A.under (.builtin "type.__call__" ⟨.ref C :: vs,kw⟩)) (.call (.ref f) ⟨.ref (s.heap.objs.size + 1) :: vs,kw⟩) (PySem.W.InitBack (s.heap.objs.size + 1) R)
      { s with heap:=(s.heap.push PySem.W.emptyDict).push (PySem.W.instObj C s.heap.objs.size) }) :
    codeAny (model prog w) A (.call (.ref C) ⟨vs,kw⟩) R s:=by
  obtain ⟨hh,g,d,t,os⟩:=s
  exact PySem.W.make_core (PySem.W.makes_of X hm) (PySem.W.looks_findIn X hi) (fun self=>PySem.W.bind_fn X self hf) (.inl rfl) h
end
def jBe (f:Str) (v:V):List (Str×V)→List (Str×V)
  | []=>[(f,v)]
  | (g,x) :: r=>if g=f then (g,v) :: r else (g,x) :: jBe f v r
theorem jFf (f g:Str) (v:V):∀ fs:List (Str×V),(jBe f v fs).lookup g=if g=f then some v else fs.lookup g
  | []=>by
    show List.lookup g [(f,v)]=_
    by_cases h:g=f
    · have hb:(g == f)=true:=beq_iff_eq.mpr h
      simp only [List.lookup,hb,if_pos h]
    · have hb:(g == f)=false:=beq_eq_false_iff_ne.mpr h
      simp only [List.lookup,hb,if_neg h]
  | (k,x) :: r=>by
    have ih:=jFf f g v r
    rw [show jBe f v ((k,x) :: r)=(if k=f then (k,v) :: r else (k,x) :: jBe f v r) from rfl]
    by_cases hk:k=f
    · rw [if_pos hk]
      by_cases h:g=k
      · have hb:(g == k)=true:=beq_iff_eq.mpr h
        simp only [List.lookup,hb,if_pos (h.trans hk)]
      · have hb:(g == k)=false:=beq_eq_false_iff_ne.mpr h
        simp only [List.lookup,hb,if_neg (fun e:g=f=>h (e.trans hk.symm))]
    · rw [if_neg hk]
      by_cases h:g=k
      · have hb:(g == k)=true:=beq_iff_eq.mpr h
        simp only [List.lookup,hb,if_neg (fun e:g=f=>hk (h.symm.trans e))]
      · have hb:(g == k)=false:=beq_eq_false_iff_ne.mpr h
        simp only [List.lookup,hb]
        exact ih
theorem jDO (f:Str) (v:V):∀ fs:List (Str×V),f∈(jBe f v fs).map (·.1)∧∀ g,g∈fs.map (·.1)→g∈(jBe f v fs).map (·.1)
  | []=>⟨by simp [jBe],fun g h=>by simp at h⟩
  | (k,x) :: r=>by
    obtain ⟨i1,i2⟩:=jDO f v r
    rw [show jBe f v ((k,x) :: r)=(if k=f then (k,v) :: r else (k,x) :: jBe f v r) from rfl]
    by_cases hk:k=f
    · rw [if_pos hk]
      subst hk
      exact ⟨by simp,fun g h=>by simpa using h⟩
    · rw [if_neg hk]
      refine ⟨?_,fun g h=>?_⟩
      · rw [List.map_cons]
        exact List.mem_cons_of_mem _ i1
      · rw [List.map_cons] at h ⊢
        rcases List.mem_cons.mp h with e | e
        · exact List.mem_cons.mpr (.inl e)
        · exact List.mem_cons_of_mem _ (i2 g e)
theorem jFg (f:Str) (v:V):∀ fs:List (Str×V),(jBe f v fs).length≤fs.length + 1
  | []=>by simp [jBe]
  | (k,x) :: r=>by
    have ih:=jFg f v r
    rw [show jBe f v ((k,x) :: r)=(if k=f then (k,v) :: r else (k,x) :: jBe f v r) from rfl]
    by_cases hk:k=f
    · rw [if_pos hk,List.length_cons,List.length_cons];omega
    · rw [if_neg hk,List.length_cons,List.length_cons];omega
theorem jBK.some_of {v:V} {o:Option Value} (r:jBK (some v) o):∃ u,o=some u∧jAx v u:=by
  cases o with
  | none=>exact (show False from r).elim
  | some u=>exact ⟨u,rfl,r⟩
theorem jBK.none_of {o:Option Value} (r:jBK none o):o=none:=by
  cases o with
  | none=>rfl
  | some u=>exact (show False from r).elim
theorem jJS {v:V} {u:Value} (r:jAx v u):PySem.W.handedIn u=true:=by
  cases v with
  | non=>cases (show u=Value.none from r);rfl
  | bl b=>cases (show u=Value.bool b from r);rfl
  | int i=>obtain ⟨t,e⟩:=(show ∃ t,u=Value.int i t from r);cases e;rfl
  | str x=>obtain ⟨t,e⟩:=(show ∃ t,u=Value.str x t from r);cases e;rfl
  | byt b=>obtain ⟨t,e⟩:=(show ∃ t,u=Value.bytes b t from r);cases e;rfl
  | flt b=>obtain ⟨t,e⟩:=(show ∃ t,u=Value.float b t from r);cases e;rfl
  | ref a=>cases (show u=Value.ref a from r);rfl
  | ty n=>cases (show u=Value.type n from r);rfl
section
variable {P:Program} {w:World} {H H':Hp} {h h':Heap} {a C dx:Addr} {fs fs':List (Str×V)}
theorem jHr (hok:HOk P w H h) (e:H a=some (.ins C dx fs)):∃ mA,ObjM h a dx C mA∧(∀ f,jBK (fs.lookup f) (mA f))∧PySem.Within mA (fs.map (·.1))∧fs.length≤1000∧H dx=some (.own a):=by
  obtain ⟨d,z,ne,ob,mA,n,r,q⟩:=(show jAY P w H h a (.ins C dx fs) from hok a _ e)
  exact ⟨mA,⟨ob,n,ne⟩,r,q,z,d⟩
end
structure Cls (K:PySem.W.Frag) (C:Addr):Prop where
  pg:PySem.W.plainGet K C Str.empty=true
  hd:PySem.W.hasDictIn K C=true
  po:PySem.W.plainOver K C=true
  sa:PySem.W.findIn K (.ref C) "__setattr__"=some (some (.builtin "object.__setattr__"))
theorem Cls.get {K:PySem.W.Frag} {C:Addr} (c:Cls K C) (f:Str):PySem.W.plainGet K C f=true:=c.pg
def jAu (K:PySem.W.Frag) (C:Addr) (f:Str):Prop:=PySem.W.findIn K (.ref C) f=some none
theorem jAu.taker {K:PySem.W.Frag} {C:Addr} {f:Str} (n:jAu K C f):PySem.W.takerIn K C f=some none:=by
  unfold PySem.W.takerIn
  rw [show PySem.W.findIn K (.ref C) f=some none from n]
  rfl
structure Con (K:PySem.W.Frag) (C:Addr) (f:Str) (v:V) (u:Value):Prop where
  at_:PySem.W.findIn K (.ref C) f=some (some u)
  rel:jAx v u
  get:PySem.W.specialIn K u "__get__"=some none
  cp:PySem.W.copiedNames.contains f=false
structure Meth (K:PySem.W.Frag) (C:Addr) (m:Str) (f:Addr):Prop where
  at_:PySem.W.findIn K (.ref C) m=some (some (.ref f))
  fn:PySem.W.isFn K (.ref f)=true
  kp:PySem.W.keepIn K (.ref f)=true
section
variable {X:Cx} {pins:List (Addr×Obj)} {σ:St} {H:Hp} {s:Shared} {a C dx:Addr} {fs:List (Str×V)} {f:Str} {v:V} {A:Around} {E:Value→Shared→Prop}
theorem jIf {b:Bool} {Q:Value→Shared→Prop} (I:Inv X pins σ H s) (e:H a=some (.ins C dx fs)) (c:Cls X.K C) (n:jAu X.K C f) (l:fs.lookup f=some v)
    (h:∀ u s',Inv X pins σ H s'→jAx v u→Q u s'):wpAny (model X.prog X.w) A (getAttr (.ref a) f b) Q E s:=by
  obtain ⟨mA,O,r,_,_,_⟩:=jHr I.hok e
  obtain ⟨u,hu,ru⟩:=jBK.some_of (v:=v) (o:=mA f) (by rw [← l];exact r f)
  exact get_map I.kIn O (c.get f) c.hd n hu (jJS ru) (h u _ (I.tok _) ru)
theorem jIg {m:Str} {g:Addr} {pl:Sem Bool} {Q:Value×List Value→Shared→Prop} (I:Inv X pins σ H s) (e:H a=some (.ins C dx fs)) (c:Cls X.K C) (k:Meth X.K C m g) (l:fs.lookup m=none)
    (h:Q (.ref g,[.ref a]) s):wpAny (model X.prog X.w) A (getMethod (.ref a) m pl) Q E s:=by
  obtain ⟨mA,O,r,_,_,_⟩:=jHr I.hok e
  have hn:mA m=none:=jBK.none_of (by rw [← l];exact r m)
  exact jN8 I.kIn O (c.get m) k.at_ k.fn hn h
theorem jIh {y:V} {u:Value} {Q:Unit→Shared→Prop} (I:Inv X pins σ H s) (e:H a=some (.ins C dx fs)) (c:Cls X.K C) (n:jAu X.K C f) (hl:fs.length < 1000) (ry:jAx y u)
    (h:∀ s',Inv X pins σ (upd H a (.ins C dx (jBe f y fs))) s'→Q () s'):wpAny (model X.prog X.w) A (setAttr (.ref a) f u) Q E s:=by
  obtain ⟨mA,O,r,wi,_,ho⟩:=jHr I.hok e
  have hz:(fs.map (·.1)).length≤sizeLine:=by rw [List.length_map,sizeLine_eq];omega
  refine set_map I.kIn O c.sa c.po n.taker c.hd wi hz fun h' O' sb=>h _ ?_
  have hd:∃ o,h'.get? dx=some o:=let ⟨o,_,_,e',_⟩:=O'.ns;⟨o,e'⟩
  refine I.write (x:=a) (e:=dx) (by rw [e];exact True.intro) (.inr ho) (fun b q hb z=>(sb.2 b hb).trans z) hd ?_
  refine ⟨by rw [jAj O.ne];exact ho,?_,O.ne,O'.obj,_,O'.ns,fun g=>?_,fun g hg=>?_⟩
  · have:=jFg f y fs;omega
  · show jBK ((jBe f y fs).lookup g) (if g=f then some u else mA g)
    rw [jFf]
    by_cases q:g=f
    · rw [if_pos q,if_pos q];exact ry
    · rw [if_neg q,if_neg q];exact r g
  · by_cases q:g=f
    · rw [q];exact (jDO f y fs).1
    · refine (jDO f y fs).2 g (wi g fun z=>hg ?_)
      show (if g=f then some u else mA g)=none
      rw [if_neg q];exact z
theorem Inv.made (I:Inv X pins σ H s):Inv X pins σ (upd (upd H s.heap.objs.size (.own (s.heap.objs.size + 1))) (s.heap.objs.size + 1) (.ins C s.heap.objs.size []))
    { s with heap:=(s.heap.push PySem.W.emptyDict).push (PySem.W.instObj C s.heap.objs.size) }:=by
  have e1:(s.heap.push PySem.W.emptyDict).get? s.heap.objs.size=some PySem.W.emptyDict:=Heap.get?_push_size s.heap rfl
  have e2:((s.heap.push PySem.W.emptyDict).push (PySem.W.instObj C s.heap.objs.size)).get? (s.heap.objs.size + 1)=some (PySem.W.instObj C s.heap.objs.size):=by
    have:=Heap.get?_push_size (s.heap.push PySem.W.emptyDict) (o:=PySem.W.instObj C s.heap.objs.size) rfl
    rwa [Heap.size_push] at this
  have e3:(s.heap.push PySem.W.emptyDict).Ns s.heap.objs.size (fun _=>none):=⟨PySem.W.emptyDict,#[],_,e1,rfl,(fun e he=>absurd he (by simp)),fun _=>rfl⟩
  have I1:=I.laid (a:=s.heap.objs.size) (o:=.own (s.heap.objs.size + 1)) (h':=s.heap.push PySem.W.emptyDict) (t':=s.toks) (fun b u q=>Heap.get?_push_of_some _ q) (Nat.le_refl _) ⟨_,e1⟩
  refine I1.laid (a:=s.heap.objs.size + 1) (o:=.ins C s.heap.objs.size []) (t':=s.toks) (fun b u q=>Heap.get?_push_of_some _ q) (Nat.le_of_eq (Heap.size_push _ _)) ?_
  have ne:s.heap.objs.size≠s.heap.objs.size + 1:=Nat.ne_of_lt (Nat.lt_succ_self _)
  refine ⟨by rw [jAj ne,jAc],Nat.zero_le _,ne,e2,fun _=>none,(Heap.Ns1.of_empty e3).at fun o q=>Heap.get?_push_of_some _ q,fun _=>True.intro,fun y hy=>absurd rfl hy⟩
theorem jMr {prog:Program} {w:World} {env:Env} {e:Expr} {f:Str} {pos:Pos} {s:Shared} {Q:Value→Shared→Prop} (hb:attributeBase e f env (eval e env)=eval e env)
    (h:wpAny (model prog w) A (eval e env) (fun o s₁=>wpAny (model prog w) A (getAttr o f true) Q E s₁) E s):wpAny (model prog w) A (eval (.Attribute e f pos) env) Q E s :=
  Attribute_any_ h (by rw [arm_eval_Attribute,hb])
end
def tFld (K:PySem.W.Frag) (ta:TE) (f:Str):TE:=fun σ H Q=>ta σ H fun x H1=>∃ a C dx fs v,x=.ref a∧H1 a=some (.ins C dx fs)∧Cls K C∧jAu K C f∧fs.lookup f=some v∧Q v H1
def tCon (K:PySem.W.Frag) (ta:TE) (f:Str):TE:=fun σ H Q=>ta σ H fun x H1=>∃ a C dx fs v u,x=.ref a∧H1 a=some (.ins C dx fs)∧Cls K C∧Con K C f v u∧fs.lookup f=none∧Q v H1
def sFld (K:PySem.W.Frag) (ta tv:TE) (f:Str):TS:=fun D σ H=>tv σ H fun y H1=>ta σ H1 fun x H2=>∃ a C dx fs,x=.ref a∧H2 a=some (.ins C dx fs)∧Cls K C∧jAu K C f∧fs.length < 1000 ∧
  D.nx σ (upd H2 a (.ins C dx (jBe f y fs)))
def InOp (X:Cx) (op:Operator) (rd:V→V→Hp→VK→Prop):Prop :=
  ∀ (pins:List (Addr×Obj)) (s:Shared) (σ:St) (H:Hp) (x y:V) (u v:Value) (Q:VK),Inv X pins σ H s→jAx x u→jAx y v→rd x y H Q→wpAny (model X.prog X.w) X.A (inplaceOp op u v) (EP X pins σ Q) X.xe s
def sFldAug (K:PySem.W.Frag) (ta tv:TE) (rd:V→V→Hp→VK→Prop) (f:Str):TS:=fun D σ H=>ta σ H fun x H1=>∃ a C dx fs v,x=.ref a∧H1 a=some (.ins C dx fs)∧Cls K C∧jAu K C f∧fs.lookup f=some v ∧
  tv σ H1 fun y H2=>rd v y H2 fun z H3=>∃ dx' fs',H3 a=some (.ins C dx' fs')∧fs'.length < 1000∧D.nx σ (upd H3 a (.ins C dx' (jBe f z fs')))
section
variable {X:Cx} {o e value:Expr} {f:Str} {pos pos' tpos:Pos} {ta tv:TE}
theorem jAp (he:PE X e ta) (hb:attributeBase e f X.env (eval e X.env)=eval e X.env):PE X (.Attribute e f pos) (tFld X.K ta f):=by
  intro pins s σ H Q I h
  refine jMr hb (thn (he pins s σ H _ I h) fun u s1 ⟨x,H1,I1,rx,a,C,dx,fs,v,ex,ea,c,n,l,q⟩=>?_)
  subst ex
  obtain rfl:u=Value.ref a:=rx
  exact jIf I1 ea c n l fun u' s2 I2 ru=>⟨v,H1,I2,ru,q⟩
theorem jAI (ha:PE X o ta) (hv:PE X value tv) (hs:swapsWith value (some (.Attribute o f pos')) pos.line X.env=pure false):PS X (.Assign [.Attribute o f pos'] value pos) (sFld X.K ta tv f):=by
  intro pins s σ H D I h
  refine plainObj_wpAny_Assign_Attribute (thn (hv pins s σ H _ I h) fun u s1 ⟨y,H1,I1,ry,q⟩=>thn (ha pins s1 σ H1 _ I1 q) fun ov s2 ⟨x,H2,I2,rx,a,C,dx,fs,ex,ea,c,n,l,q2⟩=>?_) hs
  subst ex
  obtain rfl:ov=Value.ref a:=rx
  exact jIh I2 ea c n l ry fun s3 I3=>⟨σ,_,I3,q2⟩
theorem jNi {op:Operator} {rd:V→V→Hp→VK→Prop} (ha:PE X o ta) (hv:PE X value tv) (hop:InOp X op rd):PS X (.AugAssign (.Attribute o f tpos) op value pos) (sFldAug X.K ta tv rd f):=by
  intro pins s σ H D I h
  refine wpAny_AugAssign_AttributeAny (thn (ha pins s σ H _ I h) fun ov s1 ⟨x,H1,I1,rx,a,C,dx,fs,v,ex,ea,c,n,l,q⟩=>?_)
  subst ex
  obtain rfl:ov=Value.ref a:=rx
  refine jIf I1 ea c n l fun u s2 I2 ru=>thn (hv pins s2 σ H1 _ I2 q) fun w3 s3 ⟨y,H2,I3,ry,q3⟩=>thn (hop pins s3 σ H2 v y u w3 _ I3 ru ry q3) fun w4 s4 ⟨z,H3,I4,rz,dx',fs',ea',l',q4⟩=>?_
  exact jIh I4 ea' c n l' rz fun s5 I5=>⟨σ,_,I5,q4⟩
def rAdd:V→V→Hp→VK→Prop:=fun x y H Q=>∃ i j,x=.int i∧y=.int j∧Q (.int (i + j)) H
def rSub:V→V→Hp→VK→Prop:=fun x y H Q=>∃ i j,x=.int i∧y=.int j∧Q (.int (i - j)) H
theorem in_add:InOp X .Add rAdd:=by
  rintro pins s σ H x y u v Q I rx ry ⟨i,j,rfl,rfl,q⟩
  obtain ⟨t,rfl⟩:=(show ∃ t,u=Value.int i t from rx)
  obtain ⟨t',rfl⟩:=(show ∃ t',v=Value.int j t' from ry)
  exact PyProof.Rows.iadd_int ⟨.int (i + j),H,I.tok _,⟨_,rfl⟩,q⟩
theorem in_sub:InOp X .Sub rSub:=by
  rintro pins s σ H x y u v Q I rx ry ⟨i,j,rfl,rfl,q⟩
  obtain ⟨t,rfl⟩:=(show ∃ t,u=Value.int i t from rx)
  obtain ⟨t',rfl⟩:=(show ∃ t',v=Value.int j t' from ry)
  exact PyProof.Rows.isub_int ⟨.int (i - j),H,I.tok _,⟨_,rfl⟩,q⟩
end
section
variable {X:Cx} {pins:List (Addr×Obj)} {σ:St} {H:Hp} {s:Shared} {A:Around} {E:Value→Shared→Prop} {Q:Value→Shared→Prop} {c:Value} {b:Bool}
inductive jBx (K:PySem.W.Frag) (H:Hp):V→Value→Prop where
  | non:jBx K H .non (.type "NoneType")
  | bl (x:Bool):jBx K H (.bl x) (.type "bool")
  | int (i:Int):jBx K H (.int i) (.type "int")
  | str (x:Str):jBx K H (.str x) (.type "str")
  | flt (x:UInt64):jBx K H (.flt x) (.type "float")
  | lst {a:Addr} {xs:List V} (e:H a=some (.lst xs)):jBx K H (.ref a) (.type "list")
  | frz {a:Addr} {o:Obj} {xs:List V} (e:H a=some (.frz o (.lst xs))):jBx K H (.ref a) (.type "list")
  | tup {a:Addr} {xs:List V} (e:H a=some (.tup xs)):jBx K H (.ref a) (.type "tuple")
  | dK {a:Addr} {kvs:List (Key×V)} (e:H a=some (.dK kvs)):jBx K H (.ref a) (.type "dict")
  | dT {a:Addr} {kvs:List (List Key×V)} (e:H a=some (.dT kvs)):jBx K H (.ref a) (.type "dict")
  | ins {a C dx:Addr} {fs:List (Str×V)} (e:H a=some (.ins C dx fs)) (cl:Cls K C) (ha:PySem.W.findIn K (.ref C) "__class__"=some (some (.builtin "object.__class__")))
      (hn:PySem.W.specialIn K (.builtin "object.__class__") "__get__"=some (some (.builtin "getset_descriptor.__get__"))) (htk:PySem.W.takesIn K (.builtin "object.__class__")=some true)
      (hm:PySem.W.mroIn K C (.type "object")=some true):jBx K H (.ref a) (.ref C)
theorem jNj {x:V} {u t:Value} (I:Inv X pins σ H s) (rx:jAx x u) (ty:jBx X.K H x t) (e:PySem.W.kitOne X.K t c=some b) (h:∀ tk,Q (.bool b) { s with toks:=tk }) :
    wpAny (model X.prog X.w) A (call (.builtin "isinstance") [u,c]) Q E s:=by
  cases ty with
  | non=>cases (show u=Value.none from rx);exact PySem.W.kia_one PySem.W.kitx_none I.kIn True.intro e (fun z=>nomatch z) h
  | bl y=>cases (show u=Value.bool y from rx);exact PySem.W.kia_one PySem.W.kitx_bool I.kIn True.intro e (fun z=>nomatch z) h
  | int i=>obtain ⟨t,q⟩:=(show ∃ t,u=Value.int i t from rx);cases q;exact PySem.W.kia_one PySem.W.kitx_int I.kIn True.intro e (fun z=>nomatch z) h
  | str y=>obtain ⟨t,q⟩:=(show ∃ t,u=Value.str y t from rx);cases q;exact PySem.W.kia_one PySem.W.kitx_str I.kIn True.intro e (fun z=>nomatch z) h
  | flt y=>obtain ⟨t,q⟩:=(show ∃ t,u=Value.float y t from rx);cases q;exact PySem.W.kia_one PySem.W.kitx_float I.kIn True.intro e (fun z=>nomatch z) h
  | @lst a xs ea =>
    cases (show u=Value.ref a from rx)
    obtain ⟨_,_,n,_,h1⟩:=(show jAY X.prog X.w H s.heap a (.lst xs) from I.hok a _ ea)
    exact PySem.W.kia_one PySem.W.kitx_list I.kIn ⟨_,h1,rfl⟩ e (fun z=>nomatch z) h
  | @frz a ob xs ea =>
    cases (show u=Value.ref a from rx)
    obtain ⟨_,_,_,n,_,h1⟩:=(show jAY X.prog X.w H s.heap a (.frz ob (.lst xs)) from I.hok a _ ea)
    exact PySem.W.kia_one PySem.W.kitx_list I.kIn ⟨_,h1,rfl⟩ e (fun z=>nomatch z) h
  | @tup a xs ea =>
    cases (show u=Value.ref a from rx)
    obtain ⟨_,_,_,p⟩:=(show jAY X.prog X.w H s.heap a (.tup xs) from I.hok a _ ea)
    obtain ⟨o,h1,h2,_⟩:=p
    exact PySem.W.kia_one PySem.W.kitx_tuple I.kIn ⟨o,h1,h2⟩ e (fun z=>nomatch z) h
  | @dK a kvs ea =>
    cases (show u=Value.ref a from rx)
    obtain ⟨_,_,vs,_,p⟩:=(show jAY X.prog X.w H s.heap a (.dK kvs) from I.hok a _ ea)
    obtain ⟨o,es,ep,h1,h2,_⟩:=p
    exact PySem.W.kia_one PySem.W.kitx_dict I.kIn ⟨o,h1,h2.1⟩ e (fun z=>nomatch z) h
  | @dT a kvs ea =>
    cases (show u=Value.ref a from rx)
    obtain ⟨_,_,xs,_,o,es,ep,h1,h2,_⟩:=(show jAY X.prog X.w H s.heap a (.dT kvs) from I.hok a _ ea)
    exact PySem.W.kia_one PySem.W.kitx_dict I.kIn ⟨o,h1,h2.1⟩ e (fun z=>nomatch z) h
  | @ins a C dx fs ea cl ha hn htk hm =>
    cases (show u=Value.ref a from rx)
    obtain ⟨mA,O,_⟩:=jHr I.hok ea
    obtain ⟨od,J,_⟩:=O.look
    exact PySem.W.kia_one (PySem.W.kitx_own (cl.get _) cl.hd ha hn htk hm) I.kIn J e (fun z=>nomatch z) h
end
end L2
namespace L2
open PySem PySem.Spec PyProof.Rows
structure jAV (k:Nat) (A:Around):Prop where
  hd:A.handled=none
  dp:A.depth + 3 * k + 5 < recursionLimit
  un:A.units + 16 * k + 200 < cLine
theorem jAV.mono {j k:Nat} {A:Around} (r:jAV k A) (h:j≤k):jAV j A:=⟨r.hd,by have:=r.dp;omega,by have:=r.un;omega⟩
theorem jAV.deeper {k:Nat} {A:Around} (r:jAV (k + 1) A) (env:Env):jAV k (A.deeper env) :=
  ⟨r.hd,by have:=r.dp;show A.depth + 1 + 3 * k + 5 < _;omega,by have:=r.un;show A.units + 3 + 16 * k + 200 < _;omega⟩
theorem jMP {A:Around} {C:Addr} {us:List Value} {kw:List (Str×Value)}:(A.under (.builtin "type.__call__" ⟨.ref C :: us,kw⟩)).depth=A.depth + 1:=by
  first | rfl | simp [Around.under,Code.weight,Code.isCreation,Code.isGuard,Code.isCaller,Code.frames,Code.isFrame,guardIds]
theorem jMQ {A:Around} {C:Addr} {us:List Value} {kw:List (Str×Value)}:(A.under (.builtin "type.__call__" ⟨.ref C :: us,kw⟩)).units=A.units + 1:=by
  first | rfl | simp [Around.under,Code.cUnits,Code.frames,Code.isFrame]
theorem jAV.make {k:Nat} {A:Around} (r:jAV (k + 1) A) (C:Addr) (us:List Value) (kw:List (Str×Value)):jAV k (A.under (.builtin "type.__call__" ⟨.ref C :: us,kw⟩)) :=
  ⟨r.hd,by have:=r.dp;rw [jMP];omega,by have:=r.un;rw [jMQ];omega⟩
theorem jAV.depth {k:Nat} {A:Around} (r:jAV k A):A.depth < recursionLimit:=by have:=r.dp;omega
theorem jAV.units {k:Nat} {A:Around} (r:jAV k A):A.units + 64 < cLine:=by have:=r.un;omega
theorem jAV.units0 {k:Nat} {A:Around} (r:jAV k A):A.units < cLine:=by have:=r.un;omega
def tNil:TA:=fun _ H Q=>Q [] H
def tCons (ta:TE) (tr:TA):TA:=fun σ H Q=>ta σ H fun x H1=>tr σ H1 fun xs H2=>Q (x :: xs) H2
section
variable {X:Cx} {e:Expr} {es:List Expr} {te:TE} {t:TA} {pos:Pos}
theorem jAd:PA X [] tNil:=fun _ _ _ _ H Q I h=>Calls.spliced_nil ⟨[],H,I,.nil,h⟩
theorem jAa (ha:PE X e te) (hr:PA X es t) (hs:starEach (e :: es) X.env=(false,eval e X.env) :: starEach es X.env:=by rfl):PA X (e :: es) (tCons te t):=by
  intro pos pins s σ H Q I h
  rw [hs]
  show wpAny _ _ (spliced ((false,eval e X.env) :: backTo pos (starEach es X.env))) _ _ s
  refine Calls.spliced_cons (thn (ha pins s σ H _ I h) fun u s1 ⟨x,H1,I1,r1,q1⟩=>?_)
  exact thn (hr pos pins s1 σ H1 _ I1 q1) fun us s2 ⟨xs,H2,I2,r2,q2⟩=>⟨x :: xs,H2,I2,.cons r1 r2,q2⟩
def tTup (t:TA):TE:=fun σ H Q=>t σ H fun xs H1=>xs.length≤sizeLine∧∀ p,H1 p=none→Q (.ref p) (upd H1 p (.tup xs))
def tLst (t:TA):TE:=fun σ H Q=>t σ H fun xs H1=>xs.length≤sizeLine∧∀ p,H1 p=none→Q (.ref p) (upd H1 p (.lst xs))
theorem jAM {x1} (h:PA X es t):PE X (.Tuple es x1 pos) (tTup t):=by
  intro pins s σ H Q I hq
  refine wpAny_Tuple_spliced (thn (h pos pins s σ H _ I hq) fun us s1 ⟨xs,H1,I1,r,z,q⟩=>⟨by rw [← r.length];exact z,?_⟩)
  have hf:H1 s1.heap.objs.size=none:=I1.hok.fresh (Nat.le_refl _)
  refine ⟨.ref s1.heap.objs.size,upd H1 s1.heap.objs.size (.tup xs),I1.laid (t':=s1.toks) (fun b u e=>Heap.get?_push_of_some _ e) (Nat.le_refl _) ?_,rfl,q _ hf⟩
  exact ⟨z,us,r,⟨_,Heap.get?_push_size _ rfl,rfl,_,rfl⟩⟩
theorem jAS (h:PA X es t):PE X (.List es pos) (tLst t):=by
  intro pins s σ H Q I hq
  refine wpAny_List_spliced (thn (h pos pins s σ H _ I hq) fun us s1 ⟨xs,H1,I1,r,z,q⟩=>⟨by rw [← r.length];exact z,?_⟩)
  have hf:H1 s1.heap.objs.size=none:=I1.hok.fresh (Nat.le_refl _)
  refine ⟨.ref s1.heap.objs.size,upd H1 s1.heap.objs.size (.lst xs),I1.laid (t':=s1.toks) (fun b u e=>Heap.get?_push_of_some _ e) (Nat.le_refl _) ?_,rfl,q _ hf⟩
  exact ⟨z,us,0,r,Heap.get?_push_size _ rfl⟩
end
abbrev Sp:=List V→Hp→VK→XK→Prop
abbrev CXT:=List Env→Hp→Shared→XK→Value→Shared→Prop
structure Env0 (P:Program) (w:World) (K:PySem.W.Frag) (mg:Str→Option Value) (base:Heap) (A:Around) (outer:List Env) (s:Shared) (H:Hp):Prop where
  frames:A.frames=some outer
  mod:Mod K mg base
  bs:∀ b o,base.get? b=some o→s.heap.get? b=some o∧H b=none
  bsz:base.objs.size≤s.heap.objs.size
  funs:s.heap.FunFrames base outer
  frf:∀ b∈frs outer,H b=none
  hok:HOk P w H s.heap
  bare:AllBare s.gens
def CE (outer:List Env) (P:Program) (w:World) (H:Hp) (s:Shared) (Q:VK) (u:Value) (s':Shared):Prop :=
  ∃ v H',s'.os=s.os∧AllBare s'.gens∧Un (frs outer) [] H H' s.heap s'.heap∧HOk P w H' s'.heap∧jAx v u∧Q v H'
def CR (CX:CXT) (outer:List Env) (P:Program) (w:World) (H:Hp) (s:Shared) (Q:VK) (E:XK) (r:Result) (s':Shared):Prop :=
  match r with
  | .ok (.ret u)=>CE outer P w H s Q u s'
  | .ok _=>False
  | .error e=>CX outer H s E e s'
structure jAq (P:Program) (w:World) (K:PySem.W.Frag) (mg:Str→Option Value) (base:Heap) (CX:CXT) (k:Nat) (f:Addr) (fd:FuncData) (ps:List Str) (sp:Sp):Prop where
  len:∀ vs H Q E,sp vs H Q E→vs.length=ps.length
  run:∀ (A:Around) (outer:List Env) (s:Shared) (H:Hp) (args:Args) (us:List Value) (vs:List V) (Q:VK) (E:XK),jAV k A→Env0 P w K mg base A outer s H→BindsTo s fd args (ps.zip us)→jAA vs us→sp vs H Q E →
    codeAny (model P w) A (.call (.ref f) args) (CR CX outer P w H s Q E) s
theorem jAq.mono {P:Program} {w:World} {K:PySem.W.Frag} {mg:Str→Option Value} {base:Heap} {CX:CXT} {j k:Nat} {f:Addr} {fd:FuncData} {ps:List Str} {sp:Sp} (F:jAq P w K mg base CX j f fd ps sp) (h:j≤k) :
    jAq P w K mg base CX k f fd ps sp:=⟨F.len,fun A outer s H args us vs Q E hr=>F.run A outer s H args us vs Q E (hr.mono h)⟩
theorem Env0.make {P:Program} {w:World} {K:PySem.W.Frag} {mg:Str→Option Value} {base:Heap} {A:Around} {outer:List Env} {s:Shared} {H:Hp} (e:Env0 P w K mg base A outer s H) (C:Addr) (us:List Value) (kw:List (Str×Value)) :
    Env0 P w K mg base (A.under (.builtin "type.__call__" ⟨.ref C :: us,kw⟩)) outer s H:=⟨by first | exact e.frames | (simpa [Around.under,Code.envs,Code.isFrame,pushEnvs] using e.frames),e.mod,e.bs,e.bsz,e.funs,e.frf,e.hok,e.bare⟩
section
variable {X:Cx} {pins:List (Addr×Obj)} {σ:St} {H:Hp} {s s':Shared}
theorem Inv.env0 (I:Inv X pins σ H s):Env0 X.prog X.w X.K X.mg X.base X.A X.stack s H :=
  ⟨I.ok.frames,I.ok.mod,I.bs,Nat.le_trans I.ok.bsz I.sz,I.stack,I.stkFree,I.hok,I.bare⟩
theorem Inv.after {Q:VK} {u:Value} (I:Inv X pins σ H s) (h:CE X.stack X.prog X.w H s Q u s'):EP X pins σ Q u s':=by
  obtain ⟨v,H',os,bare,un,hok,r,q⟩:=h
  obtain ⟨hh,g,d,t,os'⟩:=s'
  obtain rfl:os'=s.os:=os
  exact ⟨v,H',I.call (h':=hh) (g':=g) (d':=d) (t':=t) (ch:=[]) un hok bare (fun b z=>absurd z (by simp)),r,q⟩
end
def tCall (sp:Sp) (dvs:List V) (E:XK) (t:TA):TE:=fun σ H Q=>t σ H fun vs H1=>sp (vs ++ dvs) H1 Q E
def tMeth (C:Addr) (m:Str) (sp:Sp) (dvs:List V) (E:XK) (ta:TE) (t:TA):TE:=fun σ H Q=>ta σ H fun x H1=>∃ a dx fs,x=.ref a∧H1 a=some (.ins C dx fs)∧fs.lookup m=none ∧
  t σ H1 fun vs H2=>sp (x :: (vs ++ dvs)) H2 Q E
def jKK (C:Addr) (sp:Sp) (dvs:List V) (E:XK) (t:TA):TE:=fun σ H Q=>t σ H fun vs H1=>∀ x dx,H1 x=none→H1 dx=none→dx≠x →
  sp (.ref x :: (vs ++ dvs)) (upd (upd H1 dx (.own x)) x (.ins C dx [])) (fun v H2=>v=.non∧Q (.ref x) H2) E
def jBo (K:PySem.W.Frag) (fd:FuncData) (ps:List Str) (ds:List Value):Prop :=
  ∀ (s:Shared) (us:List Value),K.In s.heap→(us ++ ds).length=ps.length→BindsTo s fd ⟨us,[]⟩ (ps.zip (us ++ ds))
theorem jBo.all {K:PySem.W.Frag} {fd:FuncData} {ps:List Str} (h:∀ us:List Value,us.length=ps.length→bindArgs fd ⟨us,[]⟩=pure (ps.zip us)):jBo K fd ps []:=fun s us _ hl=>by
  rw [List.append_nil] at hl ⊢
  exact .of_eq (h us hl)
def jDP (CX:CXT) (X:Cx) (E:XK):Prop:=∀ (pins:List (Addr×Obj)) (σ:St) (H:Hp) (s:Shared) (e:Value) (s':Shared),Inv X pins σ H s→CX X.stack H s E e s'→X.xe e s'
section
variable {X:Cx} {CX:CXT} {k:Nat} {f C:Addr} {fd:FuncData} {ps:List Str} {sp:Sp} {dvs:List V} {ds:List Value} {E:XK} {x m:Str} {p pos apos:Pos} {e o:Expr} {es:List Expr} {ta:TE} {t:TA}
theorem jNk {pins:List (Addr×Obj)} {σ:St} {H:Hp} {s:Shared} {Q:VK} {us:List Value} {vs:List V} (F:jAq X.prog X.w X.K X.mg X.base CX k f fd ps sp) (hr:jAV k X.A) (hb:jBo X.K fd ps ds) (hd:jAA dvs ds) (hx:jDP CX X E)
    (I:Inv X pins σ H s) (r:jAA vs us) (h:sp (vs ++ dvs) H Q E):wpAny (model X.prog X.w) X.A (call (.ref f) us) (EP X pins σ Q) X.xe s:=by
  have r2:jAA (vs ++ dvs) (us ++ ds):=r.append hd
  have hl:(us ++ ds).length=ps.length:=by rw [← r2.length];exact F.len _ _ _ _ h
  refine wpAny_call (codeAny_mono (F.run X.A X.stack s H ⟨us,[]⟩ (us ++ ds) (vs ++ dvs) Q E hr I.env0 (hb s us I.kIn hl) r2 h) fun r s' hq=>?_)
  cases r with
  | error e=>exact hx pins σ H s e s' I hq
  | ok fl =>
    cases fl with
    | ret u=>exact I.after hq
    | next=>exact False.elim hq
    | brk=>exact False.elim hq
    | cont=>exact False.elim hq
theorem pe_call (F:jAq X.prog X.w X.K X.mg X.base CX k f fd ps sp) (hr:jAV k X.A) (hg:Gl X x) (hm:X.mg x=some (.ref f)) (hk:PySem.W.keepIn X.K (.ref f)=true) (hb:jBo X.K fd ps ds) (hd:jAA dvs ds) (hx:jDP CX X E)
    (ha:PA X (e :: es) t) (hdb:(x == ("__debug__":Str))=false:=by decide) (he:starEach (e :: es) X.env=(false,eval e X.env) :: starEach es X.env:=by rfl) (hpl:(backTo pos (starEach es X.env)).any (·.1)=false:=by rfl) :
    PE X (.Call (.Name x p) (e :: es) [] pos) (tCall sp dvs E t):=by
  intro pins s σ H Q I h
  refine wpAny_Call_Name_kw (jCu I hg hm ?_ hdb)
  refine PySem.W.callWith_K (h₀:=X.base) I.ok.mod.kin hk (thn (ha pos pins s σ H _ I h) fun us s1 ⟨vs,H1,I1,r,q⟩=>⟨I1.kIn,?_⟩) he hpl
  exact jNk F hr hb hd hx I1 r q
structure Mk (K:PySem.W.Frag) (C f:Addr):Prop where
  makes:PySem.W.makesIn K C=true
  init:PySem.W.findIn K (.ref C) "__init__"=some (some (.ref f))
  fn:PySem.W.isFn K (.ref f)=true
  kp:PySem.W.keepIn K (.ref C)=true
theorem jKW {pins:List (Addr×Obj)} {σ:St} {H:Hp} {s:Shared} {Q:VK} {us:List Value} {vs:List V} (M:Mk X.K C f) (F:jAq X.prog X.w X.K X.mg X.base CX k f fd ps sp) (hr:jAV (k + 1) X.A) (hb:jBo X.K fd ps ds) (hd:jAA dvs ds)
    (hx:jDP CX X E) (I:Inv X pins σ H s) (r:jAA vs us)
    (h:∀ x dx,H x=none→H dx=none→dx≠x→sp (.ref x :: (vs ++ dvs)) (upd (upd H dx (.own x)) x (.ins C dx [])) (fun v H2=>v=.non∧Q (.ref x) H2) E) :
    wpAny (model X.prog X.w) X.A (call (.ref C) us) (EP X pins σ Q) X.xe s:=by
  have hq:=h (s.heap.objs.size + 1) s.heap.objs.size (I.hok.fresh (Nat.le_succ _)) (I.hok.fresh (Nat.le_refl _)) (Nat.ne_of_lt (Nat.lt_succ_self _))
  have I2:=Inv.made (C:=C) I
  have r2:jAA (V.ref (s.heap.objs.size + 1) :: (vs ++ dvs)) (Value.ref (s.heap.objs.size + 1) :: (us ++ ds)):=.cons rfl (r.append hd)
  have hl:(Value.ref (s.heap.objs.size + 1) :: us ++ ds).length=ps.length:=by
    have e:=r2.length
    rw [F.len _ _ _ _ hq] at e
    exact e.symm
  refine wpAny_call (jN9 (f:=f) I.kIn M.makes M.init (beq_iff_eq.mp M.fn) (codeAny_mono (F.run _ X.stack _ _ ⟨Value.ref (s.heap.objs.size + 1) :: us,[]⟩ (Value.ref (s.heap.objs.size + 1) :: (us ++ ds)) _ _ E (hr.make C us [])
    (I2.env0.make C us []) (hb _ (Value.ref (s.heap.objs.size + 1) :: us) I2.kIn hl) r2 hq) fun r s' hq'=>?_))
  cases r with
  | error e=>exact hx pins σ _ _ e s' I2 hq'
  | ok fl =>
    cases fl with
    | ret u =>
      obtain ⟨v,H',I3,rv,ev,q3⟩:=I2.after hq'
      subst ev
      exact ⟨rv,⟨V.ref (s.heap.objs.size + 1),H',I3,rfl,q3⟩⟩
    | next=>exact False.elim hq'
    | brk=>exact False.elim hq'
    | cont=>exact False.elim hq'
theorem pe_make (M:Mk X.K C f) (F:jAq X.prog X.w X.K X.mg X.base CX k f fd ps sp) (hr:jAV (k + 1) X.A) (hg:Gl X x) (hm:X.mg x=some (.ref C)) (hb:jBo X.K fd ps ds) (hd:jAA dvs ds) (hx:jDP CX X E)
    (ha:PA X (e :: es) t) (hdb:(x == ("__debug__":Str))=false:=by decide) (he:starEach (e :: es) X.env=(false,eval e X.env) :: starEach es X.env:=by rfl) (hpl:(backTo pos (starEach es X.env)).any (·.1)=false:=by rfl) :
    PE X (.Call (.Name x p) (e :: es) [] pos) (jKK C sp dvs E t):=by
  intro pins s σ H Q I h
  refine wpAny_Call_Name_kw (jCu I hg hm ?_ hdb)
  refine PySem.W.callWith_K (h₀:=X.base) I.ok.mod.kin M.kp (thn (ha pos pins s σ H _ I h) fun us s1 ⟨vs,H1,I1,r,q⟩=>⟨I1.kIn,?_⟩) he hpl
  exact jKW M F hr hb hd hx I1 r q
theorem jN_ (M:Mk X.K C f) (F:jAq X.prog X.w X.K X.mg X.base CX k f fd ps sp) (hr:jAV (k + 1) X.A) (hg:Gl X x) (hm:X.mg x=some (.ref C)) (hb:jBo X.K fd ps ds) (hd:jAA dvs ds) (hx:jDP CX X E)
    (hdb:(x == ("__debug__":Str))=false:=by decide):PE X (.Call (.Name x p) [] [] pos) (jKK C sp dvs E tNil):=by
  intro pins s σ H Q I h
  refine wpAny_Call_Name_kw (jCu I hg hm ?_ hdb)
  exact PySem.W.callWith_K0 I.kIn M.kp (jKW (us:=[]) M F hr hb hd hx I .nil h)
end
def PK (X:Cx) (kws:List Keyword) (t:TA):Prop :=
  ∀ (pos:Pos) (pins:List (Addr×Obj)) (s:Shared) (σ:St) (H:Hp) (Q:List V→Hp→Prop),Inv X pins σ H s→t σ H Q→wpAny (model X.prog X.w) X.A (evalAll ((backToKw pos (keywordEach kws X.env)).map (·.2))) (AP X pins σ Q) X.xe s
section
variable {X:Cx} {CX:CXT} {k:Nat} {f C:Addr} {fd:FuncData} {ps ks:List Str} {sp:Sp} {E:XK} {x m:Str} {p pos apos kpos:Pos} {e o:Expr} {es:List Expr} {kws:List Keyword} {te ta:TE} {t tk:TA} {nm:Option Str}
structure KBinds (K:PySem.W.Frag) (fd:FuncData) (ps ks:List Str) (g:List Value→List Value→List Value) (gV:List V→List V→List V):Prop where
  to:∀ (s:Shared) (us ws:List Value),K.In s.heap→(g us ws).length=ps.length→BindsTo s fd ⟨us,ks.zip ws⟩ (ps.zip (g us ws))
  rel:∀ {vs:List V} {us:List Value} {zs:List V} {ws:List Value},jAA vs us→jAA zs ws→jAA (gV vs zs) (g us ws)
def tCallK (sp:Sp) (gV:List V→List V→List V) (E:XK) (t tk:TA):TE:=fun σ H Q=>t σ H fun vs H1=>tk σ H1 fun zs H2=>sp (gV vs zs) H2 Q E
variable {g:List Value→List Value→List Value} {gV:List V→List V→List V}
end
structure jAl (N P:List Str) (sc:Scope):Prop where
  kind:sc.kind=.function
  co:sc.isCoroutine=false
  gen:sc.isGenerator=false
  nd:N.Nodup
  pre:N.take P.length=P
  par:∀ x∈P,sc.names.lookup x=some .local∨sc.names.lookup x=some .cell
  nofree:∀ y∈sc.names,y.2≠.free
theorem jJT {kindOf:Str→Option NameKind} {x:Str}:∀ {binds:List (Str×Value)} {m:Str→Option Value},(∀ v,(x,v) ∉ binds)→bindL kindOf binds m x=m x
  | [],_,_=>rfl
  | (n,v) :: r,m,h=>by
    unfold bindL
    rw [jJT fun w hw=>h w (List.mem_cons_of_mem _ hw)]
    split
    · have:x≠n:=by rintro rfl;exact h v List.mem_cons_self
      simp [this]
    · rfl
theorem jJU {kindOf:Str→Option NameKind} {x:Str}:∀ {binds:List (Str×Value)} {m:Str→Option Value},(∀ v,(x,v) ∉ binds)→bindC kindOf binds m x=m x
  | [],_,_=>rfl
  | (n,v) :: r,m,h=>by
    unfold bindC
    rw [jJU fun w hw=>h w (List.mem_cons_of_mem _ hw)]
    split
    · rfl
    · have:x≠n:=by rintro rfl;exact h v List.mem_cons_self
      simp [this]
theorem jJV {kindOf:Str→Option NameKind} {x:Str} {v:Value}:∀ {P:List Str} {vs:List Value} {i:Nat} {m:Str→Option Value},P.Nodup→P[i]?=some x→vs[i]?=some v→kindOf x=some .local →
    bindL kindOf (P.zip vs) m x=some v
  | [],_,_,_,_,h,_,_=>by simp at h
  | _ :: _,[],_,_,_,_,h,_=>by simp at h
  | p :: P,w :: vs,0,m,nd,h1,h2,hk=>by
    simp at h1 h2;subst h1;subst h2
    show bindL kindOf ((p,w) :: P.zip vs) m p=_
    unfold bindL
    rw [jJT fun v hv=>(List.nodup_cons.mp nd).1 (List.of_mem_zip hv).1,if_pos hk]
    simp
  | p :: P,w :: vs,i + 1,m,nd,h1,h2,hk=>by
    show bindL kindOf ((p,w) :: P.zip vs) m x=_
    unfold bindL
    exact jJV (i:=i) (List.nodup_cons.mp nd).2 (by simpa using h1) (by simpa using h2) hk
theorem jJW {kindOf:Str→Option NameKind} {x:Str} {v:Value}:∀ {P:List Str} {vs:List Value} {i:Nat} {m:Str→Option Value},P.Nodup→P[i]?=some x→vs[i]?=some v→kindOf x≠some .local →
    bindC kindOf (P.zip vs) m x=some v
  | [],_,_,_,_,h,_,_=>by simp at h
  | _ :: _,[],_,_,_,_,h,_=>by simp at h
  | p :: P,w :: vs,0,m,nd,h1,h2,hk=>by
    simp at h1 h2;subst h1;subst h2
    show bindC kindOf ((p,w) :: P.zip vs) m p=_
    unfold bindC
    rw [jJU fun v hv=>(List.nodup_cons.mp nd).1 (List.of_mem_zip hv).1,if_neg hk]
    simp
  | p :: P,w :: vs,i + 1,m,nd,h1,h2,hk=>by
    show bindC kindOf ((p,w) :: P.zip vs) m x=_
    unfold bindC
    exact jJW (i:=i) (List.nodup_cons.mp nd).2 (by simpa using h1) (by simpa using h2) hk
def jEf (N:List Str) (vs:List V):St:=vs.map some ++ List.replicate (N.length - vs.length) none
def jGX (CX:CXT) (P:Program) (w:World) (K:PySem.W.Frag) (mg:Str→Option Value) (base:Heap) (N:List Str) (qual:Str) (scope:Scope) (f:Addr) (cd:Value) (A:Around) (outer:List Env) (s:Shared) (H:Hp) (E:XK):Cx where
  prog:=P
  w:=w
  K:=K
  mg:=mg
  base:=base
  A:=A.deeper (envOfC qual scope s.heap.objs.size f cd)
  N:=N
  s₀:=s
  H₀:=H
  env:=envOfC qual scope s.heap.objs.size f cd
  outer:=outer
  stack:=envOfC qual scope s.heap.objs.size f cd :: outer
  ex:=[]
  calm:=true
  fn:=fun _=>true
  pn:=[]
  xe:=fun e s'=>wpAny (model P w) (A.deeper (envOfC qual scope s.heap.objs.size f cd)) (leaving (envOfC qual scope s.heap.objs.size f cd) e) (fun _ s''=>CX outer H s E e s'') (fun e' s''=>CX outer H s E e' s'') s'
theorem jKX {sc:Scope} {n:Nat} {x:Str} (h:sc.names.lookup x=some .cell):∃ c,(cellsFrom n sc.names []).lookup x=some c:=by
  have q:=PySem.W.cellsFrom_some sc.names n [] (.inl h)
  exact Option.isSome_iff_exists.mp q
theorem jNl {CX:CXT} {P:Program} {w:World} {K:PySem.W.Frag} {mg:Str→Option Value} {base:Heap} {N ps:List Str} {qual:Str} {scope:Scope} {f:Addr} {cd:Value} {A:Around} {outer:List Env} {s s1:Shared} {H:Hp} {E:XK} {us:List Value} {vs:List V}
    (S:jAl N ps scope) (hd:A.handled=none) (e0:Env0 P w K mg base A outer s H) (hl:vs.length=ps.length) (r:jAA vs us)
    (x:InCallC s s.heap.objs.size (bindL (envOfC qual scope s.heap.objs.size f cd).kindOf (ps.zip us) fun _=>none) (cellsFrom (s.heap.objs.size + 1) scope.names []) (bindC (envOfC qual scope s.heap.objs.size f cd).kindOf (ps.zip us) fun _=>none) s1) :
    Inv (jGX CX P w K mg base N qual scope f cd A outer s H E) [] (jEf N vs) H s1:=by
  have hpl:ps.length≤N.length:=by have:=congrArg List.length S.pre;rw [List.length_take] at this;omega
  obtain ⟨h1,tk,rfl,hk⟩:=x.done
  have noA:∀ b:Addr,b ∉ (jGX CX P w K mg base N qual scope f cd A outer s H E).ex:=fun b z=>absurd (show b∈([]:List Addr) from z) (by simp)
  refine ⟨⟨e0.mod,S.kind,rfl,rfl,Nat.le_refl _,fun y z c h1 h2=>?_,fun y hy=>?_,fun y c _ h=>?_,fun _=>hd,Around.frames_deeper e0.frames,.inr ⟨rfl,rfl⟩,fun b z=>absurd z (noA b),e0.bs,e0.bsz,fun b _ _=>noA b,fun b z=>absurd z (noA b),e0.funs,e0.frf⟩,
    rfl,e0.bare,Un.kept hk,⟨_,x.toInCall.ns,fun i y v h1 h2 h3=>?_⟩,fun y c h=>⟨_,x.cell y c h⟩,e0.hok.fresh (Nat.le_refl _),fun y c h=>?_,fun p hp=>absurd (show p∈([]:List (Addr×Obj)) from hp) (by simp),e0.hok.kept hk,?_⟩
  · exact name_of_addr x.apart (PySem.mem_of_lookup h1) (PySem.mem_of_lookup h2)
  · have hy:scope.names.lookup y=some .cell∨scope.names.lookup y=some .free:=hy
    rcases hy with hy | hy
    · exact jKX hy
    · exact absurd rfl (S.nofree _ (PySem.mem_of_lookup hy))
  · exact Nat.le_of_lt (x.above y c (PySem.mem_of_lookup h))
  · have hi:i < vs.length:=by
      unfold jEf at h2
      by_cases hi:i < vs.length
      · exact hi
      · rw [List.getElem?_append_right (by simpa using hi)] at h2
        rw [List.getElem?_replicate] at h2
        split at h2 <;> cases h2
    have ha:vs[i]?=some v:=by
      unfold jEf at h2
      rw [List.getElem?_append_left (by simpa using hi),List.getElem?_map] at h2
      cases e:vs[i]? with
      | none=>rw [e] at h2;cases h2
      | some a=>rw [e] at h2;cases h2;rfl
    obtain ⟨u,hu,rv⟩:=r.get ha
    have hp:ps[i]?=some y:=by
      rw [← S.pre,List.getElem?_take_of_lt (by omega)];exact h1
    have ndP:ps.Nodup:=by rw [← S.pre];exact S.nd.sublist (List.take_sublist _ _)
    refine ⟨u,rv,?_⟩
    rcases S.par y (List.mem_of_getElem? hp) with k | k
    · exact .inl ⟨k,jJV ndP hp hu k⟩
    · obtain ⟨c,e⟩:=jKX (n:=s.heap.objs.size + 1) k
      refine .inr ⟨.inl k,c,e,?_⟩
      have q:=x.cell y c e
      rw [jJW ndP hp hu (by show scope.names.lookup y≠_;rw [k];decide)] at q
      exact q
  · exact e0.hok.fresh (Nat.le_of_lt (x.above y c (PySem.mem_of_lookup h)))
  · unfold jEf
    show _=N.length
    rw [List.length_append,List.length_map,List.length_replicate]
    omega
theorem fn_of {CX:CXT} {P:Program} {w:World} {K:PySem.W.Frag} {mg:Str→Option Value} {base:Heap} {k:Nat} {f:Addr} {name qual:Str} {params:Arguments} {body:List Stmt} {scope:Scope} {dV kV doc pm cdv ct oc:Value} {an od:Option Addr}
    {osl:Array (Option Value)} {N ps:List Str} {sp:Sp} (lk:K.lookup f=some ⟨oc,od,.func (PySem.W.fnOf name qual params body scope dV kV doc pm an cdv ct),osl⟩) (hcd:PySem.W.codeIn K cdv qual=true) (S:jAl N ps scope)
    (len:∀ vs H Q E,sp vs H Q E→vs.length=ps.length)
    (hbody:∀ (A:Around) (outer:List Env) (s:Shared) (H:Hp) (vs:List V) (Q:VK) (E:XK),jAV k (A.deeper (envOfC qual scope s.heap.objs.size f cdv))→sp vs H Q E →
      ∃ t,PSs (jGX CX P w K mg base N qual scope f cdv A outer s H E) body t∧t { nx:=fun _ H'=>Q .non H',rt:=Q } (jEf N vs) H) :
    jAq P w K mg base CX (k + 1) f (PySem.W.fnOf name qual params body scope dV kV doc pm an cdv ct) ps sp:=by
  refine ⟨len,fun A outer s H args us vs Q E hr e0 hb r hsp=>?_⟩
  have hl:=len _ _ _ _ hsp
  have KX:K.In s.heap:=e0.mod.kin.keeps fun b o e=>(e0.bs b o e).1
  have lim:s.heap.NoLimit:=e0.mod.nolimit.keeps fun b o e=>(e0.bs b o e).1
  have hkind:∀ y∈ps.zip us,scope.names.lookup y.1=some .local∨(scope.names.lookup y.1=some .cell∧((cellsFrom (s.heap.objs.size + 1) scope.names []).lookup y.1).isSome=true):=fun ⟨n,v⟩ hy=>by
    rcases S.par n (List.of_mem_zip hy).1 with q | q
    · exact .inl q
    · exact .inr ⟨q,PySem.W.cellsFrom_some _ _ _ (.inl q)⟩
  refine codeAny_call_function hr.depth (KX _ _ lk) rfl S.co S.gen rfl (PySem.W.codeRec_of KX hcd) (hb _ _ _ _ ?_)
  refine wpAny_newFunctionEnv_cells S.kind hkind fun env he s1 x=>?_
  subst he
  refine ⟨lim.keeps x.toInCall.keep,codeAny_func ?_⟩
  obtain ⟨t,ht,hq⟩:=hbody A outer s H vs Q E (hr.deeper _) hsp
  have I:Inv (jGX CX P w K mg base N qual scope f cdv A outer s H E) [] (jEf N vs) H s1:=jNl S hr.hd e0 hl r x
  refine wpAny_mono (ht [] s1 (jEf N vs) H _ I hq) (fun fl s' hs=>?_) fun e s' hs=>hs
  have fin:∀ {σ':St} {H':Hp} {v:V} {u:Value},Inv (jGX CX P w K mg base N qual scope f cdv A outer s H E) [] σ' H' s'→jAx v u→Q v H'→CE outer P w H s Q u s' :=
    fun {σ' H' v u} J rv q=>⟨v,H',J.os,J.bare,J.base,J.hok,rv,q⟩
  cases fl with
  | ret u =>
    obtain ⟨v,σ',H',J,rv,q⟩:=hs
    exact fin J rv q
  | next =>
    obtain ⟨σ',H',J,q⟩:=hs
    exact fin (v:=V.non) (u:=Value.none) J rfl q
  | brk =>
    obtain ⟨_,_,_,q⟩:=hs
    exact False.elim q
  | cont =>
    obtain ⟨_,_,_,q⟩:=hs
    exact False.elim q
end L2
namespace L2
open PySem PySem.Spec PyProof.Rows
section
variable {X:Cx} {x:Str} {p pos:Pos} {e:Expr} {es:List Expr} {t:TA} {id T:String} {r:List V→Hp→VK→Prop}
def tCB (r:List V→Hp→VK→Prop) (t:TA):TE:=fun σ H Q=>t σ H fun vs H1=>r vs H1 Q
theorem jAG (hc:CallR X (.builtin id) r) (hg:Gl X x) (hm:X.mg x=none) (hv:bootBuiltins x=some (.builtin id)) (ha:PA X (e :: es) t) (hn:x≠"__name__":=by decide) (hdb:(x == ("__debug__":Str))=false:=by decide)
    (he:starEach (e :: es) X.env=(false,eval e X.env) :: starEach es X.env:=by rfl) (hpl:(backTo pos (starEach es X.env)).any (·.1)=false:=by rfl):PE X (.Call (.Name x p) (e :: es) [] pos) (tCB r t):=by
  intro pins s σ H Q I h
  refine wpAny_Call_Name_kw (jDM I hg hm hv ?_ hn hdb)
  exact PyProof.Rows.callWith_builtin1 (thn (ha pos pins s σ H _ I h) fun us s1 ⟨vs,H1,I1,r1,q1⟩=>hc pins s1 σ H1 vs us Q I1 r1 q1) he hpl
theorem jBQ (hc:CallR X (.type T) r) (hg:Gl X x) (hm:X.mg x=none) (hv:bootBuiltins x=some (.type T)) (ha:PA X (e :: es) t) (hn:x≠"__name__":=by decide) (hdb:(x == ("__debug__":Str))=false:=by decide)
    (he:starEach (e :: es) X.env=(false,eval e X.env) :: starEach es X.env:=by rfl) (hpl:(backTo pos (starEach es X.env)).any (·.1)=false:=by rfl):PE X (.Call (.Name x p) (e :: es) [] pos) (tCB r t):=by
  intro pins s σ H Q I h
  refine wpAny_Call_Name_kw (jDM I hg hm hv ?_ hn hdb)
  exact PyProof.Rows.callWith_type1 (thn (ha pos pins s σ H _ I h) fun us s1 ⟨vs,H1,I1,r1,q1⟩=>hc pins s1 σ H1 vs us Q I1 r1 q1) he hpl
end
end L2
namespace HT
open PySem PyProof.Rows
def lexLt:List Int→List Int→Bool
  | [],[]=>false
  | [],_ :: _=>true
  | _ :: _,[]=>false
  | x :: xs,y :: ys=>if x=y then lexLt xs ys else decide (x < y)
section
open PySem.SeqAt
open PySem.AutoSeq1 (wpAny_loadPart')
open PySem.MeetsSeq PySem.MeetsSeq2 PySem.MeetsSeq3
end
section
variable {prog:Program} {w:World} {A:Around} {E:Value→Shared→Prop} {s:Shared}
def sIx (n d:Nat):Option Int→Nat
  | none=>d
  | some v=>if v < 0 then (v + (n:Int)).toNat else min v.toNat n
theorem sIx_none (n d:Nat):sIx n d none=d:=rfl
theorem sIx_nat (n d k:Nat):sIx n d (some (k:Int))=min k n:=by
  show (if (k:Int) < 0 then ((k:Int) + (n:Int)).toNat else min (k:Int).toNat n)=min k n
  rw [if_neg (by omega),Int.toNat_natCast]
theorem sIx_le (n d:Nat) (hd:d≤n) (o:Option Int):sIx n d o≤n:=by
  cases o with
  | none=>exact hd
  | some v =>
    show (if v < 0 then (v + (n:Int)).toNat else min v.toNat n)≤n
    by_cases hv:v < 0
    · rw [if_pos hv];omega
    · rw [if_neg hv];exact Nat.min_le_right _ _
theorem jMs (v:Int) (n d:Nat):(if v < 0 then max (v + (n:Int)) 0 else min v (n:Int))=((sIx n d (some v):Nat):Int):=by
  show (if v < 0 then max (v + (n:Int)) 0 else min v (n:Int))=(((if v < 0 then (v + (n:Int)).toNat else min v.toNat n):Nat):Int)
  by_cases hv:v < 0
  · simp only [if_pos hv];omega
  · simp only [if_neg hv];omega
theorem jMR (lo hi:Option Int) (n:Nat):Builtin.Slice.sliceAdjust lo hi 1 (n:Int)=(((sIx n 0 lo:Nat):Int),((sIx n n hi:Nat):Int)):=by
  have h1:¬ ((1:Int) < 0):=by omega
  unfold Builtin.Slice.sliceAdjust
  simp only [h1,if_false]
  refine Prod.ext ?_ ?_
  · cases lo with
    | none=>rfl
    | some v=>exact jMs v n 0
  · cases hi with
    | none=>rfl
    | some v=>exact jMs v n n
theorem jMS (i j:Nat):Builtin.Slice.slicePlaces (i:Int) (j:Int) 1=j - i:=by
  unfold Builtin.Slice.slicePlaces
  have h1:(1:Int) > 0:=by omega
  simp only [h1,if_true,Int.ediv_one]
  split <;> omega
theorem jIi {v:Value} {o:Option Int} {Q:Option Int→Shared→Prop} (p:IsPart v o) (h:Q o s):wpAny (model prog w) A (Builtin.Slice.slicePartIndex v) Q E s:=by
  cases p with
  | none=>exact slicePart_none h
  | int i t=>exact slicePart_int h
theorem jHZ {sl:Addr} {vl vu:Value} {lo hi:Option Int} {n:Nat} {Q:Int×Int×Nat→Shared→Prop} (hs:s.heap.IsSliceOf sl vl vu .none) (pl:IsPart vl lo) (pu:IsPart vu hi)
    (h:Q (((sIx n 0 lo:Nat):Int),1,sIx n n hi - sIx n 0 lo) s):wpAny (model prog w) A (Builtin.Slice.sliceApplied (.ref sl) (pure (n:Int))) Q E s:=by
  obtain ⟨os,hos,hcs,hds⟩:=id hs
  unfold Builtin.Slice.sliceApplied Builtin.Slice.sliceFields
  refine wpAny_bind (wpAny_bind (wpAny_field hos hds (x:=vl) rfl (wpAny_bind (wpAny_field hos hds (x:=vu) rfl (wpAny_bind (wpAny_field hos hds (x:=.none) rfl (wpAny_pure ?_)))))))
  refine wpAny_bind (slicePart_none ?_)
  show wpAny _ _ (if ((1:Int) == 0)=true then _ else _) _ _ s
  rw [if_neg (by decide)]
  refine wpAny_bind (jIi pl (wpAny_bind (jIi pu (wpAny_bind (wpAny_pure ?_)))))
  show wpAny _ _ (match Builtin.Slice.sliceAdjust lo hi 1 (n:Int) with | (lo,hi)=>pure (lo,(1:Int),Builtin.Slice.slicePlaces lo hi 1)) _ _ s
  rw [jMR lo hi n]
  show wpAny _ _ (pure (((sIx n 0 lo:Nat):Int),(1:Int),Builtin.Slice.slicePlaces ((sIx n 0 lo:Nat):Int) ((sIx n n hi:Nat):Int) 1)) _ _ s
  rw [jMS]
  exact wpAny_pure h
theorem jOa (xs:Array Value) (i k:Nat):((List.range k).filterMap fun (m:Nat)=>xs[((i:Int) + (m:Int) * 1).toNat]?).toArray=((xs.toList.drop i).take k).toArray:=by
  have e:(fun (m:Nat)=>xs[((i:Int) + (m:Int) * 1).toNat]?)=fun m=>xs[i + m]?:=by
    funext m
    have:((i:Int) + (m:Int) * 1).toNat=i + m:=by omega
    rw [this]
  rw [e]
  have:=pick_run xs i k
  rw [List.filterMap_map] at this
  have e2:((fun x=>xs[x]?) ∘ fun x=>i + x)=fun m=>xs[i + m]?:=rfl
  rw [e2] at this
  rw [this]
theorem getItem_tuple_cut {t sl:Addr} {items:Array Value} {vl vu:Value} {lo hi:Option Int} {Q:Value→Shared→Prop} (ht:IsTup s.heap t items) (hs:s.heap.IsSliceOf sl vl vu .none) (pl:IsPart vl lo) (pu:IsPart vu hi)
    (hw:¬ (sIx items.size 0 lo=0∧sIx items.size items.size hi=items.size))
    (h:Q (.ref s.heap.objs.size) { s with heap:=s.heap.push { cls:=.type "tuple",data:=.seq ((items.toList.drop (sIx items.size 0 lo)).take (sIx items.size items.size hi - sIx items.size 0 lo)).toArray } })
    (hsz:items.size≤sizeLine):wpAny (model prog w) A (getItem (.ref t) (.ref sl)) Q E s:=by
  have htake:sizeOk (.seq ((items.toList.drop (sIx items.size 0 lo)).take (sIx items.size items.size hi - sIx items.size 0 lo)).toArray):=by
    show ((items.toList.drop (sIx items.size 0 lo)).take (sIx items.size items.size hi - sIx items.size 0 lo)).toArray.size≤sizeLine
    rw [List.size_toArray,List.length_take,List.length_drop,Array.length_toList]
    omega
  have hj:sIx items.size items.size hi≤items.size:=sIx_le _ _ (Nat.le_refl _) hi
  obtain ⟨os,hos,hcs,hds⟩:=id hs
  have hTs:s.TypeIs (.ref sl) "slice":=⟨os,hos,hcs⟩
  unfold getItem
  try with_reducible refine wpAny_holding ?_
  first | refine wpAny_bind (wpAny_pure ?_) | skip
  refine wpAny_bind (wpAny_sequenceKey ht.typeIs (by decide) ?_)
  refine wpAny_bind (wpAny_callSpecial?_slot (name:=Str.ofString "__getitem__") ht.typeIs PyProof.Rows.slot_tuple_getitem
    (wpAny_call_entry PyProof.Rows.slot_tuple_getitem ht.typeIs entry_tuple_getitem ?_ (args_tuple_getitem _ _)))
  show wpAny _ _ (Builtin.Tuple.tupleItemsOf (.ref t) >>= _) _ _ s
  refine wpAny_bind (tupleItemsOf_ ht ?_)
  refine wpAny_bind (wpAny_typeOf hTs ?_)
  rw [if_pos (by decide)]
  refine wpAny_bind (jHZ hs pl pu ?_)
  have hno:¬ ((((sIx items.size 0 lo:Nat):Int) == 0 && (1:Int) == 1 && (sIx items.size items.size hi - sIx items.size 0 lo) == items.size)=true):=by
    intro q
    rw [Bool.and_eq_true,Bool.and_eq_true] at q
    have q1:((sIx items.size 0 lo:Nat):Int)=0:=eq_of_beq q.1.1
    have q2:sIx items.size items.size hi - sIx items.size 0 lo=items.size:=eq_of_beq q.2
    exact hw ⟨by omega,by omega⟩
  show wpAny _ _ (if (((sIx items.size 0 lo:Nat):Int) == 0 && (1:Int) == 1 && (sIx items.size items.size hi - sIx items.size 0 lo) == items.size)=true then _ else _) _ _ s
  rw [if_neg hno,jOa]
  first
    | exact wpAny_bind (m:=Builtin.Tuple.tupleExact _) (wpAny_newObj_type (wpAny_pure ⟨_,rfl,wpAny_pure h⟩) htake)
    | exact wpAny_bind (m:=Builtin.Tuple.tupleExact _) (wpAny_newObj_type (wpAny_bind (wpAny_pure (wpAny_pure ⟨_,rfl,wpAny_pure h⟩))) htake)
    | exact wpAny_bind (wpAny_bind (m:=Builtin.Tuple.tupleExact _) (wpAny_newObj_type (wpAny_pure (wpAny_pure ⟨_,rfl,wpAny_pure h⟩)) htake))
    | exact wpAny_bind (wpAny_bind (m:=Builtin.Tuple.tupleExact _) (wpAny_newObj_type (wpAny_pure ⟨_,rfl,wpAny_pure h⟩) htake))
end
end HT
namespace L2
open PySem PySem.Spec PyProof.Rows
abbrev TO:=St→Hp→(Option Int→Hp→Prop)→Prop
def PO (X:Cx) (e:Option Expr) (t:TO):Prop :=
  ∀ (pins:List (Addr×Obj)) (s:Shared) (σ:St) (H:Hp) (Q:Option Int→Hp→Prop),Inv X pins σ H s→t σ H Q →
    wpAny (model X.prog X.w) X.A (evalPart e X.env) (fun u s'=>∃ o H',Inv X pins σ H' s'∧IsPart u o∧Q o H') X.xe s
def tNoPart:TO:=fun _ H Q=>Q none H
def tPart (t:TE):TO:=fun σ H Q=>t σ H fun x H1=>∃ i,x=.int i∧Q (some i) H1
section
variable {X:Cx} {e:Expr} {te:TE} {lo hi:Option Expr} {tl th:TO} {pos p2:Pos}
theorem jCc:PO X none tNoPart:=by
  intro pins s σ H Q I h
  rw [evalPart_none]
  exact wpAny_pure ⟨none,H,I,.none,h⟩
theorem jCd (h:PE X e te):PO X (some e) (tPart te):=by
  intro pins s σ H Q I hw
  rw [evalPart_some]
  refine thn (h pins s σ H _ I hw) fun u s1 ⟨x,H1,I1,r1,q1⟩=>?_
  obtain ⟨i,rfl,q⟩:=q1
  obtain ⟨t,rfl⟩:=r1
  exact ⟨some i,H1,I1,.int i t,q⟩
def SlR (X:Cx) (r:V→Option Int→Option Int→Hp→VK→Prop):Prop :=
  ∀ (pins:List (Addr×Obj)) (s:Shared) (σ:St) (H:Hp) (x:V) (v vl vu:Value) (lo hi:Option Int) (sl:Addr) (Q:VK),Inv X pins σ H s→jAx x v→s.heap.IsSliceOf sl vl vu .none→IsPart vl lo→IsPart vu hi→r x lo hi H Q →
    ∃ T id,typeLookup (.type T) "__getitem__"=pure (some (.builtin id))∧s.TypeIs v T∧wpAny (model X.prog X.w) X.A (getItem v (.ref sl)) (EP X pins σ Q) X.xe s
def tSl (r:V→Option Int→Option Int→Hp→VK→Prop) (te:TE) (tl th:TO):TE:=fun σ H Q=>te σ H fun x H1=>tl σ H1 fun l H2=>th σ H2 fun u H3=>r x l u H3 Q
theorem jBT {r:V→Option Int→Option Int→Hp→VK→Prop} (hr:SlR X r) (he:PE X e te) (hl:PO X lo tl) (hu:PO X hi th):PE X (.Subscript e (.Slice lo hi none p2) pos) (tSl r te tl th):=by
  intro pins s σ H Q I h
  refine Subscript_ (thn (he pins s σ H _ I h) fun v s1 ⟨x,H1,I1,r1,q1⟩=>?_)
  refine wpAny_Slice (thn (hl pins s1 σ H1 _ I1 q1) fun vl s2 ⟨l,H2,I2,pl,q2⟩=>thn (hu pins s2 σ H2 _ I2 q2) fun vu s3 ⟨u,H3,I3,pu,q3⟩=>?_)
  rw [evalPart_none]
  refine wpAny_pure ?_
  have I4:Inv X pins σ H3 { s3 with heap:=s3.heap.push { cls:=.type "slice",data:=.fields #[vl,vu,.none] } }:=I3.kept (t':=s3.toks) fun b ob q=>Heap.get?_push_of_some _ q
  obtain ⟨T,id,hT,ht,hg⟩:=hr pins { s3 with heap:=s3.heap.push { cls:=.type "slice",data:=.fields #[vl,vu,.none] } } σ H3 x v vl vu l u s3.heap.objs.size Q I4 r1 (Heap.IsSliceOf.new ..) pl pu q3
  show wpAny (model X.prog X.w) X.A (subscriptTail e (.Slice lo hi none p2) v (.ref s3.heap.objs.size)) (EP X pins σ Q) X.xe { s3 with heap:=s3.heap.push { cls:=.type "slice",data:=.fields #[vl,vu,.none] } }
  exact tail_any (ops:=[.ref s3.heap.objs.size,v]) ht hT hg (by with_unfolding_all rfl)
def jFh (xs:List V) (lo hi:Option Int):List V:=(xs.drop (HT.sIx xs.length 0 lo)).take (HT.sIx xs.length xs.length hi - HT.sIx xs.length 0 lo)
theorem jHN (xs:List V) (lo hi:Option Int):(jFh xs lo hi).length≤xs.length:=by
  unfold jFh
  rw [List.length_take,List.length_drop]
  omega
def rSlT (K:PySem.W.Frag):V→Option Int→Option Int→Hp→VK→Prop:=fun x lo hi H Q=>∃ a xs,x=.ref a∧SqT K H a xs ∧
  ¬ (HT.sIx xs.length 0 lo=0∧HT.sIx xs.length xs.length hi=xs.length)∧∀ p,H p=none→Q (.ref p) (upd H p (.tup (jFh xs lo hi)))
theorem jNm:SlR X (rSlT X.K):=by
  intro pins s σ H x v vl vu lo hi sl Q I rx hs pl pu h
  obtain ⟨a,xs,rfl,hx,hw,q⟩:=h
  cases rx
  obtain ⟨its,r,ht,hz⟩:=I.tuple hx
  have hlen:its.toArray.size=xs.length:=by rw [List.size_toArray];exact r.length.symm
  refine ⟨"tuple",_,PyProof.Rows.slot_tuple_getitem.lookup,ht.typeIs,?_⟩
  refine HT.getItem_tuple_cut ht hs pl pu (by rw [hlen];exact hw) ?_ (by rw [hlen];exact hz)
  rw [hlen]
  refine ⟨.ref s.heap.objs.size,_,I.laid (t':=s.toks) (o:=.tup (jFh xs lo hi)) (fun b ob q=>Heap.get?_push_of_some _ q) (Nat.le_refl _) ?_,rfl,q _ (I.hok.fresh (Nat.le_refl _))⟩
  exact ⟨Nat.le_trans (jHN xs lo hi) hz,_,(r.drop (HT.sIx xs.length 0 lo)).take (HT.sIx xs.length xs.length hi - HT.sIx xs.length 0 lo),IsTup.new _ _⟩
def rLtT (K:PySem.W.Frag):R2:=fun x y H Q=>∃ a b ns ms,x=.ref a∧y=.ref b∧SqT K H a (ns.map V.int)∧SqT K H b (ms.map V.int)∧Q (.bl (HT.lexLt ns ms)) H
def rCatT (K:PySem.W.Frag):R2:=fun x y H Q=>∃ a b xs ys,x=.ref a∧y=.ref b∧SqT K H a xs∧SqT K H b ys∧xs≠[]∧xs.length + ys.length≤sizeLine ∧
  (ys=[]→Q (.ref a) H)∧(ys≠[]→∀ p,H p=none→Q (.ref p) (upd H p (.tup (xs ++ ys))))
end
end L2
namespace L2
open PySem PySem.Spec PyProof.Rows
def ixN (n:Nat) (i:Int):Option Nat:=if 0≤i then (if i < n then some i.toNat else none) else if -(n:Int)≤i then some (i + n).toNat else none
def atI {α:Type} (xs:List α) (i:Int):Option α:=(ixN xs.length i).bind fun j=>xs[j]?
theorem jMt {n:Nat} {i:Int} {j:Nat} (h:ixN n i=some j):seqIndex? i n=some j∧j < n∧-(n:Int)≤i∧i < n:=by
  unfold ixN at h
  by_cases h0:0≤i
  · rw [if_pos h0] at h
    by_cases h1:i < n
    · rw [if_pos h1] at h
      have e:i.toNat=j:=Option.some.inj h
      exact ⟨by rw [seqIndex_of h0 h1,e],by omega,by omega,h1⟩
    · rw [if_neg h1] at h;cases h
  · rw [if_neg h0] at h
    by_cases h1:-(n:Int)≤i
    · rw [if_pos h1] at h
      have e:(i + n).toNat=j:=Option.some.inj h
      exact ⟨by rw [seqIndex_neg (by omega) h1,e],by omega,h1,by omega⟩
    · rw [if_neg h1] at h;cases h
theorem jJf {α:Type} {xs:List α} {i:Int} {v:α} (h:atI xs i=some v):∃ j,seqIndex? i xs.length=some j∧xs[j]?=some v∧j < xs.length∧-(xs.length:Int)≤i∧i < xs.length:=by
  unfold atI at h
  cases e:ixN xs.length i with
  | none=>rw [e] at h;cases h
  | some j =>
    rw [e] at h
    obtain ⟨h1,h2,h3,h4⟩:=jMt e
    exact ⟨j,h1,h,h2,h3,h4⟩
theorem jAz {α:Type} {xs:List α} {j:Nat} {v:α} (h:xs[j]?=some v):atI xs (j:Int)=some v:=by
  have hj:j < xs.length:=(List.getElem?_eq_some_iff.mp h).1
  have e:ixN xs.length (j:Int)=some j:=by
    unfold ixN
    rw [if_pos (by omega),if_pos (by omega)];simp
  unfold atI;rw [e];exact h
def jJg (b:Expr):Prop:=∀ o i,subscripted b false o i=operate [o,i] (getItem o i)
def IxR (X:Cx) (r:R2):Prop :=
  ∀ (value slice:Expr) (pins:List (Addr×Obj)) (s:Shared) (σ:St) (H:Hp) (x y:V) (v u:Value) (Q:VK),Inv X pins σ H s→jAx x v→jAx y u→r x y H Q →
    subscripted slice false v u=operate [v,u] (getItem v u)→wpAny (model X.prog X.w) X.A (subscriptTail value slice v u) (EP X pins σ Q) X.xe s
def MtR (X:Cx) (id:String) (r:V→List V→Hp→VK→Prop):Prop :=
  ∀ (pins:List (Addr×Obj)) (s:Shared) (σ:St) (H:Hp) (x:V) (xs:List V) (v:Value) (us:List Value) (Q:VK),Inv X pins σ H s→jAx x v→jAA xs us→r x xs H Q →
    wpAny (model X.prog X.w) X.A (call (.builtin id) (v :: us)) (EP X pins σ Q) X.xe s
section
variable {X:Cx} {a b:Expr} {ta tb:TE} {pos:Pos}
theorem pe_ix {r:R2} (hr:IxR X r) (ha:PE X a ta) (hb:PE X b tb) (hs:jJg b):PE X (.Subscript a b pos) (tOp r ta tb):=by
  intro pins s σ H Q I h
  exact Subscript_ (binT ha hb I h fun v u s2 x y H2 I2 rx ry q=>hr a b pins s2 σ H2 x y v u Q I2 rx ry q (hs _ _))
def rIxL (K:PySem.W.Frag):R2:=fun x y H Q=>∃ p xs i v,x=.ref p∧y=.int i∧SqL K H p xs∧atI xs i=some v∧Q v H
def rIxT (K:PySem.W.Frag):R2:=fun x y H Q=>∃ p xs i v,x=.ref p∧y=.int i∧SqT K H p xs∧atI xs i=some v∧Q v H
def rIxS:R2:=fun x y H Q=>∃ z i c,x=.str z∧y=.int i∧z.length≤sizeLine∧atI z.cps.toList i=some c∧Q (.str ⟨#[c]⟩) H
theorem jDi:IxR X (rIxL X.K):=by
  intro value slice pins s σ H x y v u Q I rx ry h hs
  obtain ⟨p,xs,i,z,rfl,rfl,hq,he,q⟩:=h
  cases rx
  obtain ⟨t,rfl⟩:=ry
  obtain ⟨its,r,pl,hz⟩:=I.list hq
  obtain ⟨j,h1,h2,h3,h4,h5⟩:=jJf he
  obtain ⟨w,ew,rw'⟩:=r.get h2
  have hl:=r.length
  have hn:=jEw
  have fin:EP X pins σ Q w s:=⟨z,H,I,rw',q⟩
  by_cases h0:0≤i
  · have hj:i.toNat=j:=by
      rw [seqIndex_of h0 h5] at h1
      exact Option.some.inj h1
    exact item_listR pl.isList h0 (by omega) (by rw [hj];simpa using ew) fin hs
  · have hj:(i + (its.toArray.size:Int)).toNat=j:=by
      rw [seqIndex_neg (by omega) h4] at h1
      rw [List.size_toArray,← hl]
      exact Option.some.inj h1
    exact subscriptTail_builtinR (x:=w) pl.isList.typeIs slot_list_getitem.lookup
      (wpAny_getItem_list_neg (Q:=fun r s'=>r=w∧EP X pins σ Q r s') pl.isList (by omega) (by rw [List.size_toArray] <;> omega) (by omega) (by rw [hj];simpa using ew) ⟨rfl,fin⟩) hs
theorem jAE:IxR X (rIxT X.K):=by
  intro value slice pins s σ H x y v u Q I rx ry h hs
  obtain ⟨p,xs,i,z,rfl,rfl,hq,he,q⟩:=h
  cases rx
  obtain ⟨t,rfl⟩:=ry
  obtain ⟨its,r,pl,hz⟩:=I.tuple hq
  obtain ⟨j,h1,h2,h3,h4,h5⟩:=jJf he
  obtain ⟨w,ew,rw'⟩:=r.get h2
  have hl:=r.length
  have hn:=jEw
  have fin:EP X pins σ Q w s:=⟨z,H,I,rw',q⟩
  exact subscriptTail_builtinR (x:=w) pl.typeIs slot_tuple_getitem.lookup
    (getItem_tuple (j:=j) (Q:=fun r s'=>r=w∧EP X pins σ Q r s') pl (by omega) (by omega) (by rw [List.size_toArray,← hl];exact h1) (by simpa using ew) ⟨rfl,fin⟩) hs
theorem ix_str:IxR X rIxS:=by
  intro value slice pins s σ H x y v u Q I rx ry h hs
  obtain ⟨z,i,c,rfl,rfl,hz,he,q⟩:=h
  obtain ⟨t,rfl⟩:=rx
  obtain ⟨t',rfl⟩:=ry
  obtain ⟨j,h1,h2,h3,h4,h5⟩:=jJf he
  have hl:z.cps.toList.length=z.length:=by simp [Str.length]
  rw [hl] at h1 h4 h5
  have hn:=jEw
  exact tail_any (typeIs_str s z t) slot_str_getitem.lookup (getItem_str (c:=c) (by
    have e1:decide (i < -(2 ^ 63:Int))=false:=decide_eq_false (by omega)
    have e2:decide (i ≥ 2 ^ 63)=false:=decide_eq_false (by omega)
    rw [e1,e2,Bool.or_false]) (by rw [h1];simpa using h2) ⟨.str ⟨#[c]⟩,H,I.tok _,⟨_,rfl⟩,q⟩) hs
def rIx (K:PySem.W.Frag):R2:=fun x y H Q=>rIxL K x y H Q∨rIxT K x y H Q∨rIxS x y H Q
theorem jMT (its:List Value) (n j:Nat) (u:Value):Obj.mapSeq (·.setIfInBounds j u) { cls:=.type "list",data:=.seq its.toArray n }={ cls:=.type "list",data:=.seq (its.set j u).toArray n }:=by
  simp [Obj.mapSeq]
theorem Inv.lst {pins:List (Addr×Obj)} {σ:St} {H:Hp} {s:Shared} {p:Addr} {xs:List V} (I:Inv X pins σ H s) (h:H p=some (.lst xs)) :
    ∃ (its:List Value) (n:Nat),jAA xs its∧s.heap.get? p=some { cls:=.type "list",data:=.seq its.toArray n }∧xs.length≤sizeLine:=by
  obtain ⟨z,its,n,r,e⟩:=I.hok p _ h
  exact ⟨its,n,r,e,z⟩
theorem Inv.lstUpd {pins:List (Addr×Obj)} {σ:St} {H:Hp} {s:Shared} {p:Addr} {xs ys:List V} {its its':List Value} {n n':Nat} {f:Obj→Obj} (I:Inv X pins σ H s) (h:H p=some (.lst xs))
    (ho:s.heap.get? p=some { cls:=.type "list",data:=.seq its.toArray n }) (hf:f { cls:=.type "list",data:=.seq its.toArray n }={ cls:=.type "list",data:=.seq its'.toArray n' }) (r:jAA ys its') (hz:ys.length≤sizeLine) (t:Nat) :
    Inv X pins σ (upd H p (.lst ys)) { s with heap:=s.heap.update p f,toks:=t }:=by
  have e:(s.heap.update p f).get? p=some { cls:=.type "list",data:=.seq its'.toArray n' }:=by
    rw [Heap.get?_update_self f ho (by rw [hf] <;> rfl),hf]
  refine I.write (x:=p) (e:=p) (by rw [h];trivial) (.inl rfl) (fun b u hb q=>(Heap.get?_update_other _ _ (Ne.symm hb)).trans q) ⟨_,e⟩ ?_
  exact ⟨hz,its',n',r,e⟩
def rSetL:V→V→V→Hp→(Hp→Prop)→Prop:=fun o i v H Q=>∃ p xs k j,o=.ref p∧i=.int k∧H p=some (.lst xs)∧ixN xs.length k=some j∧Q (upd H p (.lst (xs.set j v)))
theorem jGa:PSet X rSetL:=by
  intro pins s σ H o i v ov iv u Q I ro ri rv h
  obtain ⟨p,xs,k,j,rfl,rfl,hp,hj,q⟩:=h
  cases ro
  obtain ⟨t,rfl⟩:=ri
  obtain ⟨its,n,r,ho,hz⟩:=I.lst hp
  obtain ⟨h1,h2,h3,h4⟩:=jMt hj
  have hl:=r.length
  have hn:=jEw
  have I':Inv X pins σ (upd H p (.lst (xs.set j v))) { s with heap:=s.heap.update p (Obj.mapSeq (·.setIfInBounds j u)) } :=
    I.lstUpd hp ho (jMT its n j u) (r.set rv j) (by rw [List.length_set];exact hz) s.toks
  by_cases h0:0≤k
  · have hk:k.toNat=j:=by
      rw [seqIndex_of h0 h4] at h1
      exact Option.some.inj h1
    exact PySem.W.ki_setAt ho h0 (by omega) (by rw [List.size_toArray,← hl];exact h4) (by rw [hk];exact ⟨_,I',q⟩)
  · have hk:(k + (its.toArray.size:Int)).toNat=j:=by
      rw [seqIndex_neg (by omega) h3] at h1
      rw [List.size_toArray,← hl]
      exact Option.some.inj h1
    exact PySem.W.ki_setBack ho (by omega) (by rw [List.size_toArray,← hl];exact h3) (by omega) (by rw [hk];exact ⟨_,I',q⟩)
theorem jKY (lo hi:Option Int) (n:Nat):(sliceBounds lo hi none n).1=((HT.sIx n 0 lo:Nat):Int)∧(sliceBounds lo hi none n).2.1=((HT.sIx n n hi:Nat):Int)∧(sliceBounds lo hi none n).2.2=1:=by
  refine ⟨?_,?_,rfl⟩
  · cases lo with
    | none=>simp [sliceBounds,HT.sIx]
    | some i =>
      simp only [sliceBounds,HT.sIx,Option.getD_none,show (1:Int) > 0 by decide,if_true]
      by_cases h:i < 0
      · simp only [h,if_true] <;> omega
      · simp only [h,if_false] <;> omega
  · cases hi with
    | none=>simp [sliceBounds,HT.sIx]
    | some i =>
      simp only [sliceBounds,HT.sIx,Option.getD_none,show (1:Int) > 0 by decide,if_true]
      by_cases h:i < 0
      · simp only [h,if_true] <;> omega
      · simp only [h,if_false] <;> omega
theorem jKj (its:List Value) (lo hi:Option Int):slicePick its.toArray lo hi none=((its.drop (HT.sIx its.length 0 lo)).take (HT.sIx its.length its.length hi - HT.sIx its.length 0 lo)).toArray:=by
  obtain ⟨h1,h2,h3⟩:=jKY lo hi its.toArray.size
  unfold slicePick
  rw [h1,h2,h3]
  simp only [sliceRange_one,pick_run,List.size_toArray] <;> rfl
def rSlL (K:PySem.W.Frag):V→Option Int→Option Int→Hp→VK→Prop:=fun x lo hi H Q=>∃ a xs,x=.ref a∧SqL K H a xs∧∀ p,H p=none→Q (.ref p) (upd H p (.lst (jFh xs lo hi)))
theorem jFE:SlR X (rSlL X.K):=by
  intro pins s σ H x v vl vu lo hi sl Q I rx hs pl pu h
  obtain ⟨a,xs,rfl,hx,q⟩:=h
  cases rx
  obtain ⟨its,r,ht,hz⟩:=I.list hx
  have hlen:=r.length
  refine ⟨"list",_,slot_list_getitem.lookup,ht.isList.typeIs,?_⟩
  refine wpAny_getItem_list_slice ht.isList hs pl pu .none (by simp) ?_ (by rw [List.size_toArray] <;> omega)
  rw [jKj,← hlen]
  refine ⟨.ref s.heap.objs.size,_,I.laid (t':=s.toks) (o:=.lst (jFh xs lo hi)) (fun b ob q=>Heap.get?_push_of_some _ q) (Nat.le_refl _) ?_,rfl,q _ (I.hok.fresh (Nat.le_refl _))⟩
  exact ⟨Nat.le_trans (jHN xs lo hi) hz,_,0,(r.drop (HT.sIx xs.length 0 lo)).take (HT.sIx xs.length xs.length hi - HT.sIx xs.length 0 lo),Heap.get?_push_size _ rfl⟩
def jA1:V→Bool
  | .non=>true
  | .bl _=>true
  | .int _=>true
  | .str _=>true
  | _=>false
def eqV:V→V→Bool
  | .non,.non=>true
  | .bl a,.bl b=>a == b
  | .bl a,.int b=>(if a then 1 else 0) == b
  | .int a,.bl b=>a == (if b then 1 else 0)
  | .int a,.int b=>a == b
  | .str a,.str b=>a == b
  | _,_=>false
theorem jIj {A:Around} {s:Shared} {y x:V} {u v:Value} (ry:jAx y u) (rx:jAx x v) (fy:jA1 y=true) (fx:jA1 x=true):SeqAt.EqAt A s u v (eqV y x):=by
  cases y with
  | non =>
    cases ry
    cases x with
    | non=>cases rx;exact SeqAt.EqAt.same _
    | bl b=>cases rx;exact SeqAt.EqAt.none_bool b
    | int b=>obtain ⟨t,rfl⟩:=rx;exact SeqAt.EqAt.none_int b t
    | str b=>obtain ⟨t,rfl⟩:=rx;exact SeqAt.EqAt.none_str b t
    | _=>exact absurd (show false=true from fx) Bool.false_ne_true
  | bl a =>
    cases ry
    cases x with
    | non=>cases rx;exact SeqAt.EqAt.bool_none a
    | bl b=>cases rx;exact SeqAt.EqAt.bool_bool a b
    | int b=>obtain ⟨t,rfl⟩:=rx;exact SeqAt.EqAt.bool_int a b t
    | str b=>obtain ⟨t,rfl⟩:=rx;exact SeqAt.EqAt.bool_str a b t
    | _=>exact absurd (show false=true from fx) Bool.false_ne_true
  | int a =>
    obtain ⟨t',rfl⟩:=ry
    cases x with
    | non=>cases rx;exact SeqAt.EqAt.int_none a t'
    | bl b=>cases rx;exact SeqAt.EqAt.int_bool a t' b
    | int b=>obtain ⟨t,rfl⟩:=rx;exact SeqAt.EqAt.int_int a t' b t
    | str b=>obtain ⟨t,rfl⟩:=rx;exact SeqAt.EqAt.int_str a t' b t
    | _=>exact absurd (show false=true from fx) Bool.false_ne_true
  | str a =>
    obtain ⟨t',rfl⟩:=ry
    cases x with
    | non=>cases rx;exact SeqAt.EqAt.str_none a t'
    | bl b=>cases rx;exact SeqAt.EqAt.str_bool a t' b
    | int b=>obtain ⟨t,rfl⟩:=rx;exact SeqAt.EqAt.str_int a t' b t
    | str b=>obtain ⟨t,rfl⟩:=rx;exact SeqAt.EqAt.str_str a t' b t
    | _=>exact absurd (show false=true from fx) Bool.false_ne_true
  | _=>exact absurd (show false=true from fy) Bool.false_ne_true
def eqU (x:V) (u:Value):Bool:=match u with
  | .none=>eqV .non x
  | .bool b=>eqV (.bl b) x
  | .int i _=>eqV (.int i) x
  | .str z _=>eqV (.str z) x
  | _=>false
theorem jNn {x y:V} {u:Value} (r:jAx y u) (f:jA1 y=true):eqU x u=eqV y x:=by
  cases y with
  | non=>cases r;rfl
  | bl b=>cases r;rfl
  | int i=>obtain ⟨t,rfl⟩:=r;rfl
  | str z=>obtain ⟨t,rfl⟩:=r;rfl
  | _=>exact absurd (show false=true from f) Bool.false_ne_true
theorem jJh {x:V}:∀ {xs:List V} {us:List Value},jAA xs us→xs.all jA1=true→us.any (eqU x)=xs.any fun y=>eqV y x
  | _,_,.nil,_=>rfl
  | y :: xs,u :: us,.cons r t,f=>by
    rw [List.all_cons,Bool.and_eq_true] at f
    rw [List.any_cons,List.any_cons,jNn r f.1,jJh t f.2]
theorem jH0 {A:Around} {s:Shared} {x:V} {v:Value} (rx:jAx x v) (fx:jA1 x=true):∀ {xs:List V} {us:List Value},jAA xs us→xs.all jA1=true→∀ u∈us,SeqAt.EqAt A s u v (eqU x u)
  | _,_,.nil,_=>fun u hu=>by cases hu
  | y :: xs,u :: us,.cons r t,f=>fun u' hu=>by
    rw [List.all_cons,Bool.and_eq_true] at f
    rcases List.mem_cons.mp hu with rfl | hu
    · rw [jNn r f.1];exact jIj r rx f.1 fx
    · exact jH0 rx fx t f.2 u' hu
def inV (x:V) (xs:List V):Bool:=xs.any fun y=>eqV y x
def rIn (K:PySem.W.Frag) (neg:Bool):R2:=fun x y H Q=>∃ p xs,y=.ref p∧(SqL K H p xs∨SqT K H p xs)∧jA1 x=true∧xs.all jA1=true∧Q (.bl (if neg then !inV x xs else inV x xs)) H
theorem jNo:OpR X (compareOp .In) (rIn X.K false):=by
  intro pins s σ H x y v u Q I rx ry h
  obtain ⟨p,xs,rfl,hq,fx,fs,q⟩:=h
  cases ry
  rcases hq with hq | hq
  · obtain ⟨its,r,pl,hz⟩:=I.list hq
    refine SeqAt.in_listAt (eqU x) pl.isList (fun w hw=>jH0 rx fx r fs w (by simpa using hw)) ⟨.bl _,H,I,rfl,?_⟩
    rw [show its.toArray.any (eqU x)=its.any (eqU x) by simp,jJh r fs]
    exact q
  · obtain ⟨its,r,pl,hz⟩:=I.tuple hq
    refine SeqAt.in_tupleAt (eqU x) pl (fun w hw=>jH0 rx fx r fs w (by simpa using hw)) ⟨.bl _,H,I,rfl,?_⟩
    rw [show its.toArray.any (eqU x)=its.any (eqU x) by simp,jJh r fs]
    exact q
theorem jAF:CallR X (.builtin "len") (fun xs H Q=>∃ p ys,xs=[.ref p]∧(SqL X.K H p ys∨SqT X.K H p ys)∧Q (.int ys.length) H):=by
  intro pins s σ H xs us Q I r h
  obtain ⟨p,ys,rfl,hq,q⟩:=h
  obtain ⟨u,rfl,rx⟩:=jEe r
  cases rx
  have hn:=jEw
  rcases hq with hq | hq
  · obtain ⟨its,r',pl,hz⟩:=I.list hq
    have hlen:=r'.length
    exact Calls.call_len_list pl.isList (by simp only [List.size_toArray] <;> omega) ⟨.int ys.length,H,I.tok _,⟨s.toks + 1,by rw [List.size_toArray,hlen]⟩,q⟩
  · obtain ⟨its,r',pl,hz⟩:=I.tuple hq
    have hlen:=r'.length
    exact len_tuple pl (by simp only [List.size_toArray] <;> omega) ⟨.int ys.length,H,I.tok _,⟨s.toks + 1,by rw [List.size_toArray,hlen]⟩,q⟩
theorem jKZ:CallR X (.builtin "len") (fun xs H Q=>∃ z,xs=[.str z]∧z.length≤sizeLine∧Q (.int z.length) H):=by
  intro pins s σ H xs us Q I r h
  obtain ⟨z,rfl,hz,q⟩:=h
  obtain ⟨u,rfl,t,rfl⟩:=jEe r
  have hn:=jEw
  exact len_str (by omega) ⟨.int z.length,H,I.tok _,⟨_,rfl⟩,q⟩
theorem jK0:CallR X (.type "list") (fun xs H Q=>∃ p ys,xs=[.ref p]∧(SqL X.K H p ys∨SqT X.K H p ys)∧∀ l,H l=none→Q (.ref l) (upd H l (.lst ys))):=by
  intro pins s σ H xs us Q I r h
  obtain ⟨p,ys,rfl,hq,q⟩:=h
  obtain ⟨u,rfl,rx⟩:=jEe r
  cases rx
  have fin:∀ (its:List Value),jAA ys its→ys.length≤sizeLine→∀ (h':Heap) (c':Nat),(∀ b o',s.heap.get? b=some o'→h'.get? b=some o') →
      h'.get? s.heap.objs.size=some { cls:=.type "list",dict:=none,data:=.seq its.toArray c',slots:=#[] }→EP X pins σ Q (.ref s.heap.objs.size) { s with heap:=h' }:=fun its r' hz h' c' kp e =>
    ⟨.ref s.heap.objs.size,_,I.laid (t':=s.toks) kp (Nat.le_refl _) (show jAY X.prog X.w _ h' _ (.lst ys) from ⟨hz,its,c',r',e⟩),rfl,q _ (I.hok.fresh (Nat.le_refl _))⟩
  rcases hq with hq | hq
  · obtain ⟨its,r',pl,hz⟩:=I.list hq
    have hlen:=r'.length
    obtain ⟨o,ho,hc,n,hd⟩:=pl.isList
    exact call_list_seq p (.inl rfl) ho hc hd (fun h' c' kp e=>fin its r' hz h' c' kp e) (by simp only [List.size_toArray] <;> omega)
  · obtain ⟨its,r',pl,hz⟩:=I.tuple hq
    have hlen:=r'.length
    obtain ⟨o,ho,hc,n,hd⟩:=pl
    exact call_list_seq p (.inr rfl) ho hc hd (fun h' c' kp e=>fin its r' hz h' c' kp e) (by simp only [List.size_toArray] <;> omega)
theorem jKk:CallR X (.type "tuple") (fun xs H Q=>∃ p ys,xs=[.ref p]∧((SqL X.K H p ys∧∀ l,H l=none→Q (.ref l) (upd H l (.tup ys)))∨(SqT X.K H p ys∧Q (.ref p) H))):=by
  intro pins s σ H xs us Q I r h
  obtain ⟨p,ys,rfl,h⟩:=h
  obtain ⟨u,rfl,rx⟩:=jEe r
  cases rx
  rcases h with ⟨hq,q⟩ | ⟨hq,q⟩
  · obtain ⟨its,r',pl,hz⟩:=I.list hq
    have hlen:=r'.length
    refine call_tuple_list pl.isList (fun h' kp=>?_) (by simp only [List.size_toArray] <;> omega)
    have I1:Inv X pins σ H { s with heap:=h' }:=I.kept (t':=s.toks) kp
    have I2:Inv X pins σ (upd H h'.objs.size (.tup ys)) { s with heap:=h'.push { cls:=.type "tuple",data:=.seq its.toArray } } :=
      I1.laid (t':=s.toks) (fun b o e=>Heap.get?_push_of_some _ e) (Nat.le_refl _) (show jAY X.prog X.w _ _ _ (.tup ys) from ⟨hz,its,r',IsTup.new _ _⟩)
    exact ⟨.ref h'.objs.size,_,I2,rfl,q _ (I1.hok.fresh (Nat.le_refl _))⟩
  · obtain ⟨its,r',pl,hz⟩:=I.tuple hq
    exact call_tuple_same pl ⟨.ref p,H,I,rfl,q⟩
def tyV (K:PySem.W.Frag) (T:String) (x:V) (H:Hp):Prop:=match x with
  | .str _=>T="str"
  | .int _=>T="int"
  | .ref p=>(T="list"∧∃ xs,SqL K H p xs)∨(T="tuple"∧∃ o,K.lookup p=some o∧o.cls=.type "tuple"∧o.dict=none) ∨
      (T="dict"∧((∃ kvs,H p=some (.dK kvs))∨∃ kvs,H p=some (.dT kvs)))∨(T="set"∧∃ S n,H p=some (.set S n))
  | _=>False
theorem tyV_is {pins:List (Addr×Obj)} {σ:St} {H:Hp} {s:Shared} {T:String} {x:V} {v:Value} (I:Inv X pins σ H s) (r:jAx x v) (ty:tyV X.K T x H) :
    s.TypeIs v T∧∀ a,v=.ref a→∃ ob,s.heap.get? a=some ob∧ob.dict=none:=by
  cases x with
  | str z =>
    obtain ⟨t,rfl⟩:=r
    cases (show T="str" from ty)
    exact ⟨typeIs_str s z t,fun _ e=>nomatch e⟩
  | int i =>
    obtain ⟨t,rfl⟩:=r
    cases (show T="int" from ty)
    exact ⟨typeIs_int s i t,fun _ e=>nomatch e⟩
  | ref p =>
    cases r
    rcases ty with ⟨rfl,xs,hq⟩ | ⟨rfl,o,hk,hc,hd⟩ | ⟨rfl,hk⟩ | ⟨rfl,S,n,hk⟩
    · obtain ⟨its,_,pl,_⟩:=I.list hq
      refine ⟨pl.isList.typeIs,fun a e=>?_⟩
      cases e
      obtain ⟨o,n,e,c,hd,_⟩:=pl
      exact ⟨o,e,hd⟩
    · refine ⟨⟨o,I.kIn p o hk,hc⟩,fun a e=>?_⟩
      cases e
      exact ⟨o,I.kIn _ o hk,hd⟩
    · have z:∃ o,s.heap.get? p=some o∧o.ExactDict:=by
        rcases hk with ⟨kvs,hk⟩ | ⟨kvs,hk⟩
        · obtain ⟨_,_,_,_,o,_,_,e,ex,_⟩:=I.hok p _ hk
          exact ⟨o,e,ex⟩
        · obtain ⟨_,_,_,_,o,_,_,e,ex,_⟩:=I.hok p _ hk
          exact ⟨o,e,ex⟩
      obtain ⟨o,e,ex⟩:=z
      refine ⟨⟨o,e,ex.1⟩,fun a e2=>?_⟩
      cases e2
      exact ⟨o,e,ex.2.1⟩
    · obtain ⟨o,_,_,_,e,ex,_⟩:=I.hok p _ hk
      refine ⟨⟨o,e,ex.1⟩,fun a e2=>?_⟩
      cases e2
      exact ⟨o,e,ex.2.1⟩
  | _=>exact False.elim ty
def tBM0 (K:PySem.W.Frag) (T:String) (r:V→List V→Hp→VK→Prop) (to:TE):TE:=fun σ H Q=>to σ H fun x H1=>tyV K T x H1∧r x [] H1 Q
def tBM (K:PySem.W.Frag) (T:String) (r:V→List V→Hp→VK→Prop) (to:TE) (t:TA):TE:=fun σ H Q=>to σ H fun x H1=>tyV K T x H1∧t σ H1 fun xs H2=>r x xs H2 Q
variable {o e:Expr} {es:List Expr} {to:TE} {t:TA} {name:Str} {apos cpos:Pos} {T id:String} {r:V→List V→Hp→VK→Prop}
theorem jKL (pa:PlainAttrs T) (slot:Slot T name id) (hty:typeOf (.builtin id)=pure (.type "method_descriptor")) (hm:MtR X id r) (ho:PE X o to) (ha:PA X (e :: es) t)
    (hbase:attributeBase o name X.env (eval o X.env)=eval o X.env:=by rfl)
    (hfew:((backTo cpos (starEach (e :: es) X.env)).all (fun x=>!x.1) && (backToKw cpos (keywordEach [] X.env)).all (fun x=>x.1.isSome)
      && decide ((e :: es).length + ([]:List Keyword).length + (if ([]:List Keyword).isEmpty then 0 else 1) < 30))=true:=by rfl)
    (hline:(apos.endLine == cpos.line)=true:=by rfl) (hs:starEach (e :: es) X.env=(false,eval e X.env) :: starEach es X.env:=by rfl) (hplain:(backTo cpos (starEach es X.env)).any (·.1)=false:=by rfl) :
    PE X (.Call (.Attribute o name apos) (e :: es) [] cpos) (tBM X.K T r to t):=by
  intro pins s σ H Q I h
  refine wpAny_Call_method_late hbase hfew hline rfl (thn (ho pins s σ H _ I h) fun v s1 ⟨x,H1,I1,r1,ty,q1⟩=>?_)
  obtain ⟨h1,h2⟩:=tyV_is I1 r1 ty
  refine ⟨T,id,pa,slot,hty,h1,h2,?_⟩
  have hA:=ha cpos pins s1 σ H1 _ I1 q1
  rw [hs] at hA ⊢
  refine Calls.callWith_builtin (by show (false || (backTo cpos (starEach es X.env)).any (·.1))=false;rw [hplain] <;> rfl) (Calls.evalArgs_plain ?_)
  exact thn hA fun us s2 ⟨vs,H2,I2,r2,q2⟩=>hm pins s2 σ H2 x vs v us Q I2 r1 r2 q2
/- xs.append(e), list.index on a module's tuple .. are MtR facts of 06m -/
end
end L2
namespace L2
open PySem PySem.Spec PyProof.Rows
def MtM (X:Cx) (id:String) (r:V→List V→Hp→VK→Prop):Prop :=
  ∀ (pins:List (Addr×Obj)) (s:Shared) (σ:St) (H:Hp) (x:V) (xs:List V) (v:Value) (us:List Value) (Q:VK),Inv X pins σ H s→jAx x v→jAA xs us→r x xs H Q →
    wpAny (model X.prog X.w) X.A (call (.builtin id) (v :: us)) (EP X pins σ Q) X.xe s
theorem jAA.one:∀ {x:V} {us:List Value},jAA [x] us→∃ u,us=[u]∧jAx x u
  | _,_,.cons r .nil=>⟨_,rfl,r⟩
theorem jAA.eraseIdx:∀ {xs:List V} {us:List Value} (i:Nat),jAA xs us→jAA (xs.eraseIdx i) (us.eraseIdx i)
  | _,_,_,.nil=>.nil
  | _,_,0,.cons _ t=>t
  | _,_,i + 1,.cons r t=>.cons r (jAA.eraseIdx i t)
theorem jAA.rep {xs:List V} {us:List Value} (h:jAA xs us):∀ k:Nat,jAA (List.replicate k xs).flatten (List.replicate k us).flatten
  | 0=>.nil
  | k + 1=>by
    rw [List.replicate_succ,List.replicate_succ,List.flatten_cons,List.flatten_cons]
    exact jAA.append h (jAA.rep h k)
theorem jJX {α:Type}:∀ (l:List α) (i:Nat),(l.eraseIdx i).length≤l.length
  | [],_=>Nat.le_refl _
  | _ :: _,0=>Nat.le_succ _
  | _ :: r,i + 1=>Nat.succ_le_succ (jJX r i)
theorem jJY (its:List Value):∀ (k:Nat) (acc:List Value),
    List.foldl (fun x1 x2=>x1 ++ x2) acc.toArray (List.replicate k its.toArray)=(acc ++ (List.replicate k its).flatten).toArray
  | 0,acc=>by simp
  | k + 1,acc=>by
    have e:acc.toArray ++ its.toArray=(acc ++ its).toArray:=by simp
    have e2:(acc ++ its) ++ (List.replicate k its).flatten=acc ++ (List.replicate (k + 1) its).flatten:=by
      rw [List.replicate_succ,List.flatten_cons,List.append_assoc]
    rw [← e2,← jJY its k (acc ++ its),← e,List.replicate_succ,List.foldl_cons]
section
variable {X:Cx} {pins:List (Addr×Obj)} {σ:St} {H:Hp} {s:Shared} {l b:Addr} {xs ys zs:List V}
theorem Inv.lset {its its':List Value} {n:Nat} {f:Array Value→Array Value} {t':Nat} (I:Inv X pins σ H s) (hH:H l=some (.lst xs))
    (e:s.heap.get? l=some { cls:=.type "list",data:=.seq its.toArray n }) (hf:f its.toArray=its'.toArray) (hv:jAA ys its') (hz:ys.length≤sizeLine) :
    Inv X pins σ (upd H l (.lst ys)) { s with heap:=s.heap.update l (Obj.mapSeq f),toks:=t' }:=by
  have q:=PySem.IsL.update e f
  rw [hf] at q
  refine I.write (x:=l) (e:=l) (by rw [hH];exact trivial) (.inl rfl) (fun b' u hb hu=>(Heap.get?_update_other s.heap (Obj.mapSeq f) (Ne.symm hb)).trans hu) ⟨_,q⟩ ?_
  exact ⟨hz,its',_,hv,q⟩
theorem Inv.lnew {its:List Value} {t':Nat} (I:Inv X pins σ H s) (hv:jAA ys its) (hz:ys.length≤sizeLine) :
    Inv X pins σ (upd H s.heap.objs.size (.lst ys)) { s with heap:=s.heap.push { cls:=.type "list",data:=.seq its.toArray },toks:=t' } :=
  I.laid (fun _ _ q=>Heap.get?_push_of_some _ q) (Nat.le_refl _) ⟨hz,its,0,hv,Heap.get?_push_size _ rfl⟩
theorem Inv.fresh (I:Inv X pins σ H s):H s.heap.objs.size=none:=I.hok.fresh (Nat.le_refl _)
theorem Inv.lstM (I:Inv X pins σ H s) (hH:H l=some (.lst xs)):xs.length≤sizeLine∧∃ (its:List Value) (n:Nat),jAA xs its∧xs.length=its.length∧s.heap.get? l=some { cls:=.type "list",data:=.seq its.toArray n }:=by
  obtain ⟨z,its,n,r,e⟩:=I.hok l _ hH
  exact ⟨z,its,n,r,r.length,e⟩
theorem jK1 {n:Nat} (h:n≤sizeLine):Builtin.List.listTooLong n=false:=by
  unfold Builtin.List.listTooLong
  exact decide_eq_false (by omega)
end
section
variable {X:Cx}
def rAppend:V→List V→Hp→VK→Prop:=fun x vs H Q=>∃ l xs y,x=.ref l∧vs=[y]∧H l=some (.lst xs)∧xs.length < sizeLine∧Q .non (upd H l (.lst (xs ++ [y])))
theorem jJZ:MtM X "list.append" rAppend:=by
  intro pins s σ H x vs v us Q I rx rv h
  obtain ⟨l,xs,y,rfl,rfl,hH,hz,q⟩:=h
  cases rx
  obtain ⟨u,rfl,ru⟩:=rv.one
  obtain ⟨z,its,n,r,hl,e⟩:=I.lstM hH
  refine call_meets F.slot_list_append ⟨_,e,rfl⟩ F.entry_list_append (F.args_list_append_2 _ _) (PySem.list_append l its.toArray n u (by rw [List.size_toArray];omega)) ⟨e,?_⟩
  refine ⟨.non,_,I.lset (its':=its ++ [u]) hH e (by simp) (r.append (.cons ru .nil)) ?_,rfl,q⟩
  rw [List.length_append,List.length_singleton]
  omega
def rExtend:V→List V→Hp→VK→Prop:=fun x vs H Q=>∃ l b xs zs,x=.ref l∧vs=[.ref b]∧H l=some (.lst xs)∧H b=some (.lst zs)∧xs.length + zs.length≤sizeLine∧Q .non (upd H l (.lst (xs ++ zs)))
theorem jNp:MtM X "list.extend" rExtend:=by
  intro pins s σ H x vs v us Q I rx rv h
  obtain ⟨l,b,xs,zs,rfl,rfl,hH,hB,hz,q⟩:=h
  cases rx
  obtain ⟨u,rfl,ru⟩:=rv.one
  cases ru
  obtain ⟨z,its,n,r,hl,e⟩:=I.lstM hH
  obtain ⟨z2,its2,n2,r2,hl2,e2⟩:=I.lstM hB
  have hsz:its.toArray.size + its2.toArray.size≤sizeLine:=by rw [List.size_toArray,List.size_toArray];omega
  have hlong:¬ (!its.toArray.isEmpty && Builtin.List.listTooLong (its.toArray.size + its2.toArray.size))=true:=by
    rw [jK1 hsz,Bool.and_false]
    exact Bool.false_ne_true
  refine call_meets F.slot_list_extend ⟨_,e,rfl⟩ F.entry_list_extend (F.args_list_extend_2 _ _)
    (AutoSeq1.list_extend_list_list_0 l its.toArray n b its2.toArray n2 hlong (by rw [List.size_toArray];omega) (by omega)) ⟨e,e2,?_⟩
  refine ⟨.non,_,I.lset (its':=its ++ its2) hH e (by simp) (r.append r2) ?_,rfl,q⟩
  rw [List.length_append]
  omega
def rPop:V→List V→Hp→VK→Prop:=fun x vs H Q=>∃ l xs y,x=.ref l∧vs=[]∧H l=some (.lst xs)∧xs[xs.length - 1]?=some y∧Q y (upd H l (.lst xs.dropLast))
def rPopAt:V→List V→Hp→VK→Prop:=fun x vs H Q=>∃ l xs i k y,x=.ref l∧vs=[.int i]∧H l=some (.lst xs)∧-(2 ^ 63)≤i∧i < 2 ^ 63∧seqIndex? i xs.length=some k∧xs[k]?=some y∧Q y (upd H l (.lst (xs.eraseIdx k)))
theorem jOb:MtM X "list.pop" rPopAt:=by
  intro pins s σ H x vs v us Q I rx rv h
  obtain ⟨l,xs,i,k,y,rfl,rfl,hH,h1,h2,hk,hy,q⟩:=h
  cases rx
  obtain ⟨u,rfl,ru⟩:=rv.one
  obtain ⟨t,rfl⟩:=ru
  obtain ⟨z,its,n,r,hl,e⟩:=I.lstM hH
  obtain ⟨w,hw,rw'⟩:=r.get hy
  refine call_meets F.slot_list_pop ⟨_,e,rfl⟩ F.entry_list_pop (F.args_list_pop_2 _ _)
    (MeetsSeq.list_pop_at l its.toArray n i t k w (fitsIndex_both h1 h2) (by rw [List.size_toArray,← hl];exact hk) (by rw [← Array.getElem?_toList];exact hw) (by rw [List.size_toArray];omega)) ⟨e,?_⟩
  refine ⟨y,_,I.lset (its':=its.eraseIdx k) hH e ?_ (r.eraseIdx k) ?_,rw',q⟩
  · show its.toArray.eraseIdxIfInBounds k=(its.eraseIdx k).toArray
    rw [List.eraseIdxIfInBounds_toArray]
  · have:=jJX xs k
    omega
def rReverse:V→List V→Hp→VK→Prop:=fun x vs H Q=>∃ l xs,x=.ref l∧vs=[]∧H l=some (.lst xs)∧Q .non (upd H l (.lst xs.reverse))
def rClear:V→List V→Hp→VK→Prop:=fun x vs H Q=>∃ l xs,x=.ref l∧vs=[]∧H l=some (.lst xs)∧Q .non (upd H l (.lst []))
def rCat:R2:=fun x y H Q=>∃ l b xs zs,x=.ref l∧y=.ref b∧H l=some (.lst xs)∧H b=some (.lst zs)∧xs.length + zs.length≤sizeLine∧∀ p,H p=none→Q (.ref p) (upd H p (.lst (xs ++ zs)))
theorem jK2:OpR X (binaryOp .Add) rCat:=by
  intro pins s σ H x y v u Q I rx ry h
  obtain ⟨l,b,xs,zs,rfl,rfl,hH,hB,hz,q⟩:=h
  cases rx
  cases ry
  obtain ⟨z,its,n,r,hl,e⟩:=I.lstM hH
  obtain ⟨z2,its2,n2,r2,hl2,e2⟩:=I.lstM hB
  refine PySem.P.add_list e e2 ?_ (by rw [List.size_toArray,List.size_toArray];omega)
  have ea:its.toArray ++ its2.toArray=(its ++ its2).toArray:=by simp
  rw [ea]
  exact ⟨.ref _,_,I.lnew (t':=s.toks) (r.append r2) (by rw [List.length_append];omega),rfl,q _ I.fresh⟩
def rRep:R2:=fun x y H Q=>∃ l k xs,x=.ref l∧y=.int k∧H l=some (.lst xs)∧-(2 ^ 63)≤k∧k < 2 ^ 63∧xs.length * k.toNat≤sizeLine ∧
  ∀ p,H p=none→Q (.ref p) (upd H p (.lst (List.replicate k.toNat xs).flatten))
theorem len_rep {α:Type} (xs:List α) (k:Nat):(List.replicate k xs).flatten.length=k * xs.length:=by
  induction k with
  | zero=>simp
  | succ k ih=>rw [List.replicate_succ,List.flatten_cons,List.length_append,ih,Nat.succ_mul,Nat.add_comm]
theorem jK3:OpR X (binaryOp .Mult) rRep:=by
  intro pins s σ H x y v u Q I rx ry h
  obtain ⟨l,k,xs,rfl,rfl,hH,h1,h2,hz,q⟩:=h
  cases rx
  obtain ⟨t,rfl⟩:=ry
  obtain ⟨z,its,n,r,hl,e⟩:=I.lstM hH
  have hlen:its.toArray.size * k.toNat≤sizeLine:=by rw [List.size_toArray,← hl];exact hz
  have hcap:¬ its.toArray.size * k.toNat > (2 ^ 63 - 1) / 8:=by
    have:(sizeLine:Nat)≤(2 ^ 63 - 1) / 8:=by decide
    omega
  have hfit:¬ (!Builtin.List.listFitsIndex k)=true:=by
    rw [fitsIndex_both h1 h2]
    exact Bool.false_ne_true
  have hlong:¬ Builtin.List.listTooLong (its.toArray.size * k.toNat)=true:=by
    rw [jK1 hlen]
    exact Bool.false_ne_true
  have hnew:List.foldl (fun x1 x2=>x1 ++ x2) #[] (List.replicate (if its.toArray.isEmpty=true then 0 else k.toNat) its.toArray)=(List.replicate k.toNat its).flatten.toArray:=by
    have f0:∀ m:Nat,List.foldl (fun x1 x2=>x1 ++ x2) #[] (List.replicate m its.toArray)=(List.replicate m its).flatten.toArray:=fun m=>by
      have:=jJY its m []
      rw [List.nil_append] at this
      exact this
    rw [f0]
    cases its with
    | nil=>simp
    | cons a r'=>rw [if_neg (by simp)]
  refine wpAny_binaryOp_repeat_ref (T:="list") (U:="int") (by decide) ⟨_,e,rfl⟩ (fun s'=>typeIs_int s' k t) noFill_list_mul F.fills_int_mul F.slot_int_rmul repeat_list F.slot_int_index.lookup
    (call_meets F.slot_int_rmul (typeIs_int s k t) F.entry_int_rmul (F.args_int_rmul_2 _ _) (int___rmul___int_list k t l its.toArray n)
      ⟨e,rfl,⟨_,e,rfl⟩,call_meets F.slot_list_mul ⟨_,e,rfl⟩ F.entry_list_mul (F.args_list_mul_2 _ _) (AutoListH.list___mul___list_int_3 l its.toArray n k t hfit hcap hlong) ⟨e,?_⟩⟩)
  rw [hnew]
  exact ⟨.ref _,_,I.lnew (t':=s.toks) (r.rep k.toNat) (by rw [len_rep,Nat.mul_comm];exact hz),rfl,q _ I.fresh⟩
end
section
variable {prog:Program} {w:World} {A:Around} {E:Value→Shared→Prop} {s:Shared}
set_option maxRecDepth 100000 in
end
section
variable {X:Cx}
end
end L2
namespace Att
open PySem PySem.W PySem.Calls PyProof.Rows
theorem jIk {P:Params} {h:Heap}:∀ (ns:List Int) (vs:List Value),WellAll P h vs (ns.map WData.int)→IntsAre vs ns:=by
  intro ns
  induction ns with
  | nil =>
    intro vs w
    rw [List.map_nil] at w
    cases w
    exact .nil
  | cons n ns ih =>
    intro vs w
    rw [List.map_cons] at w
    cases w with
    | cons a b =>
      cases a
      exact .cons _ _ (ih _ b)
theorem jNq {l:OpenLaw} {n:Nat} (hn:l.most=some n) {P:Params} {h:Heap} {args:List WData} {vals:List Value}
    (hpre:l.row.toRowW.claim.pre args=true) (hwl:WellAll P h vals args) :
    ∃ a vs ns,vals=[Value.ref a]∧args=[WData.list (ns.map WData.int)]∧h.get? a=some { cls:=.type "list",data:=.seq vs.toArray }∧IntsAre vs ns∧ns.length≤n:=by
  have hsh:WShape.hasAll [] args [.list .int]=true:=(pre_splitW hpre).1
  have hc:l.pre.holds [] { args:=args }=true:=(pre_splitW hpre).2
  obtain ⟨d,r,rfl,h1,h2⟩:=hasAllW_cons hsh
  obtain rfl:=hasAllW_nil h2
  obtain ⟨xs,rfl,h3⟩:=hasW_list h1
  obtain ⟨ns,rfl⟩:=items_int h3
  have hlen:ns.length≤n:=by
    unfold OpenLaw.pre at hc
    have h4:(WTm.not (.lt (.lit (.int (n:Int))) (.len (.arg 0)))).holds [] { args:=[.list (ns.map .int)] }=true:=by
      have h4:=(holds_andW hc).1
      rw [hn] at h4
      exact h4
    have h5:=condW_of h4 (w_not (w_lt w_lit (w_len_list (w_arg rfl))))
    rw [List.length_map] at h5
    refine Nat.le_of_not_lt fun q=>?_
    have q':(n:Int) < ((ns.length:Nat):Int):=by omega
    first
      | (rw [decide_eq_true q'] at h5;exact absurd h5 (by decide))
      | (simp at h5;omega)
  cases hwl with
  | cons w1 w2 =>
    cases w2
    cases w1 with
    | list ho hall=>exact ⟨_,_,ns,rfl,rfl,ho,jIk ns _ hall,hlen⟩
theorem jNr (l:OpenLaw) (args:List WData):l.row.toRowW.claim.post args (.bool true) args=true :=
  postW_of (r:=l.row.toRowW) (X:=(true == true))
    (show WShape.has [] (.bool true) .bool=true by first | rfl | decide | simp [WShape.has,WShape.arms,WShape.armsAll])
    (show (WTm.eq .res (.lit (.bool true))).value [] { args:=args,res:=some (.bool true),after:=args }=some (.bool (true == true)) from w_eq_bool (w_res rfl) w_lit) rfl
theorem attach_call {l:OpenLaw} {n:Nat} {q:Program} {loose:List Str} {XP:(Str→Option Value)→Heap→Prop} {YP:World→Heap→Prop} {d:DefRec}
    (hn:l.most=some n) (hdf:d.params.defaults=[])
    (call:∀ (w:World) (s₀ s₁:Shared) (mg mb:Str→Option Value) (fa:Addr) (o:Obj) (pm cd doc:Value) (a:Addr) (vs:List Value) (ns:List Int),
      Ground q loose [] XP w s₀ mg mb s₁.heap→YP w s₁.heap →
      s₁.heap.get? fa=some o→o.data=.func (docDef d.name d.params d.body d.scope pm cd doc)→s₁.heap.CodeRec cd d.name→mg d.name=some (.ref fa) →
      s₁.heap.get? a=some { cls:=.type "list",data:=.seq vs.toArray }→IntsAre vs ns→ns.length≤n→s₁.gens=#[] →
      codeAny (model l.prog w) callerA (.call (.ref fa) ⟨[.ref a],[]⟩) (fun r s'=>r=.ok (.ret (.bool true))∧OldK s₁.heap s'.heap∧s'.os=s₁.os∧AllBare s'.gens) s₁) :
    WalkO q loose XP YP l.row.toRowW d [] (fun f vs=>PySem.call f vs):=by
  intro w s₀ s₁ mg mb G Y fa o pm cd doc dV kV ho hd hcd hD hmg hg args vals as hpre hlay hrd hwl hlo
  obtain rfl:dV=.none:=Dflts.none hD hdf
  obtain rfl:kV=.none:=Dflts.noKw hD
  obtain ⟨a,vs,ns,rfl,rfl,hobj,hints,hlen⟩:=jNq hn hpre hwl
  refine enter_call (codeAny_mono (call w s₀ s₁ mg mb fa o pm cd doc a vs ns G Y ho (fd_plain hd) hcd hmg hobj hints hlen hg) fun r s' hq=>?_)
  obtain ⟨rfl,h2,h3,h4⟩:=hq
  exact ⟨.inl ⟨.bool true,.bool true,[],rfl,fun _=>rfl,.bool true,jNr l _,fun _=>⟨List.Pairwise.nil,fun _ hm=>(nomatch hm)⟩⟩,h2,h3,h4⟩
section
variable {prog:Program} {w:World} {A:Around} {E:Value→Shared→Prop} {s:Shared} {K:Frag}
def noObjs (h:Heap):Heap:={ h with objs:=#[] }
def ledger (h:Heap) (L d:Addr):List (Addr×Obj):=(List.range h.objs.size).filterMap fun a=>if a=L∨a=d then none else (h.get? a).map fun o=>(a,o)
end
end Att
namespace L2
open PySem PySem.Spec PyProof.Rows
theorem jJ0:∀ {vs:List Value} {ns:List Int},IntsAre vs ns→jAA (ns.map V.int) vs
  | _,_,.nil=>.nil
  | _,_,.cons n t h=>.cons ⟨t,rfl⟩ (jJ0 h)
def Only (H:Hp):Prop:=∀ b,H b=none∨∃ o xs,H b=some (.frz o (.lst xs))
theorem jOc {P:Program} {w:World} {K:PySem.W.Frag} {mg mb:Str→Option Value} {CX:CXT} {k:Nat} {fa a:Addr} {fd:FuncData} {x:Str} {sp:Sp} {s₁:Shared} {vs:List Value} {ns:List Int}
    (KX:K.In s₁.heap) (hns:s₁.heap.Ns mainGlobals mg) (hb:s₁.heap.Ns builtinsNs mb) (hbb:∀ x:Str,x≠"__name__"→mb x=bootBuiltins x) (hlim:s₁.heap.NoLimit) (hg:s₁.gens=#[])
    (ha:s₁.heap.get? a=some { cls:=.type "list",data:=.seq vs.toArray }) (hi:IntsAre vs ns) (hl:ns.length≤sizeLine) (hr:jAV k callerA)
    (F:∀ base:Heap,K.In base→base.Ns mainGlobals mg→jAq P w K mg base CX k fa fd [x] sp) (hbind:∀ (s:Shared) (u:Value),BindsTo s fd ⟨[u],[]⟩ [(x,u)])
    (hsp:∀ H:Hp,Only H→SqL K H a (ns.map V.int)→sp [.ref a] H (fun v _=>v=.bl true) fun _ _ _=>False)
    (hCX:∀ H e s',CX [] H s₁ (fun _ _ _=>False) e s'→False) :
    codeAny (model P w) callerA (.call (.ref fa) ⟨[.ref a],[]⟩) (fun r s'=>r=.ok (.ret (.bool true))∧OldK s₁.heap s'.heap∧s'.os=s₁.os∧AllBare s'.gens) s₁:=by
  have rv:=jJ0 hi
  have lenV:=hi.length
  -- from an abstract heap in which nothing but the script may be tracked
  have core:∀ H:Hp,Only H→SqL K H a (ns.map V.int)→HOk P w H s₁.heap→(∀ b,H b≠none→b=a)→(H a≠none→K.lookup a=none) →
      codeAny (model P w) callerA (.call (.ref fa) ⟨[.ref a],[]⟩) (fun r s'=>r=.ok (.ret (.bool true))∧OldK s₁.heap s'.heap∧s'.os=s₁.os∧AllBare s'.gens) s₁:=by
    intro H hO hS hok hA hK
    have base_of:∀ {b:Addr} {o:Obj},s₁.heap.get? b=some o→H b=none→(jF1 s₁.heap H).get? b=some o:=fun e n=>jN4 e n
    have noA:∀ {b:Addr} {o:Obj} {es:Array DictEntry} {ep:Nat},s₁.heap.get? b=some o→o.data=.dict es ep→H b=none:=fun {b o es ep} e d=>by
      cases q:H b with
      | none=>rfl
      | some u =>
        have e':b=a:=hA b (by rw [q];simp)
        subst e'
        rw [ha] at e;cases e
        have d':Data.seq vs.toArray _=Data.dict es ep:=d
        cases d'
    have nsK:∀ {b:Addr} {m:Str→Option Value},s₁.heap.Ns b m→(jF1 s₁.heap H).Ns b m:=fun {b m} ⟨o,es,ep,e,d,r⟩=>⟨o,es,ep,base_of e (noA e d),d,r⟩
    have hKb:K.In (jF1 s₁.heap H):=fun b o e=>base_of (KX b o e) (by
      cases q:H b with
      | none=>rfl
      | some u =>
        have e':b=a:=hA b (by rw [q];simp)
        subst e'
        rw [hK (by rw [q];simp)] at e;cases e)
    have hM:Mod K mg (jF1 s₁.heap H):=⟨hKb,nsK hns,⟨mb,nsK hb,hbb⟩,let ⟨mc,h1,h2⟩:=hlim;⟨mc,nsK h1,h2⟩⟩
    have e0:Env0 P w K mg (jF1 s₁.heap H) callerA [] s₁ H:=⟨rfl,hM,fun b o e=>of_hidT e,Nat.le_of_eq (jNa _ _),trivial,fun b hb=>absurd (show b∈([]:List Addr) from hb) (by simp),hok,.of_eq hg⟩
    refine codeAny_mono ((F _ hKb (nsK hns)).run callerA [] s₁ H ⟨[.ref a],[]⟩ [.ref a] [.ref a] _ _ hr e0 (hbind s₁ (.ref a)) (.cons rfl .nil) (hsp H hO hS)) fun r s' h=>?_
    cases r with
    | error e=>exact (hCX H e s' h).elim
    | ok fl =>
      cases fl with
      | next=>exact False.elim h
      | brk=>exact False.elim h
      | cont=>exact False.elim h
      | ret u =>
        obtain ⟨v,H',os,bare,un,hok',r',q⟩:=h
        have q':v=.bl true:=q
        subst q'
        obtain rfl:u=Value.bool true:=r'
        refine ⟨rfl,OldK.of_keep fun b o e=>?_,os,bare⟩
        cases q:H b with
        | none=>exact un.keep b o e q (by intro z;exact absurd (show b∈([]:List Addr) from z) (by simp)) (by simp)
        | some u =>
          rcases hO b with z | ⟨ob,xs,z⟩
          · rw [q] at z;cases z
          · have z2:=un.frzs b ob _ z
            obtain ⟨e1,_⟩:=hok b _ z
            obtain ⟨e2,_⟩:=hok' b _ z2
            rw [e] at e1;cases e1
            exact e2
  cases hk:K.lookup a with
  | some o =>
    -- the script is one of the module's own objects
    have e:=KX a o hk
    rw [ha] at e
    cases e
    refine core (fun _=>none) (fun _=>.inl rfl) (.inr ⟨_,vs.toArray,_,hk,rfl,rfl,rfl,by rw [List.size_toArray,lenV];exact hl,by simpa using rv⟩) (fun b u z=>by have z':(none:Option HO)=some u:=z;cases z') (fun b z=>absurd rfl z) fun z=>absurd rfl z
  | none =>
    refine core (fun b=>if b=a then some (.frz { cls:=.type "list",data:=.seq vs.toArray } (.lst (ns.map V.int))) else none) (fun b=>?_) (.inl (.inr ⟨{ cls:=.type "list",data:=.seq vs.toArray },if_pos rfl⟩)) (fun b u z=>?_) (fun b z=>?_) fun _=>hk
    · by_cases hb:b=a
      · exact .inr ⟨_,_,if_pos hb⟩
      · exact .inl (if_neg hb)
    · by_cases hb:b=a
      · have z':=(if_pos hb).symm.trans z
        cases z'
        subst hb
        exact ⟨ha,by rw [List.length_map];exact hl,vs,_,rv,ha⟩
      · have z':=(if_neg hb).symm.trans z
        cases z'
    · by_cases hb:b=a
      · exact hb
      · exact absurd (if_neg hb) z
end L2
namespace L2
open PySem PySem.Spec PyProof.Rows
abbrev KOf {K:PySem.W.Frag} {h:Heap} (_:K.In h):PySem.W.Frag:=K
theorem walk_of {l:PySem.W.OpenLaw} {n k:Nat} {q:Program} {loose:List Str} {XP:(Str→Option Value)→Heap→Prop} {YP:World→Heap→Prop} {d:DefRec} {K:Params→PySem.W.Frag} {CX:World→CXT} {sp:World→Sp} {x:Str}
    (hn:l.most=some n) (hn2:n≤sizeLine) (hdf:d.params.defaults=[]) (hr:jAV k callerA)
    (hY:∀ (w:World) (h:Heap),YP w h→(K w.params).In h)
    (F:∀ (w:World) (mg:Str→Option Value) (fa:Addr) (h:Heap),(K w.params).In h→h.Ns mainGlobals mg→mg d.name=some (.ref fa) →
      ∃ fd:FuncData,(∀ (s:Shared) (u:Value),BindsTo s fd ⟨[u],[]⟩ [(x,u)]) ∧
        ∀ base:Heap,(K w.params).In base→base.Ns mainGlobals mg→jAq l.prog w (K w.params) mg base (CX w) k fa fd [x] (sp w))
    (hsp:∀ (w:World) (H:Hp) (a:Addr) (ns:List Int),ns.length≤n→Only H→SqL (K w.params) H a (ns.map V.int)→sp w [.ref a] H (fun v _=>v=.bl true) fun _ _ _=>False)
    (hCX:∀ (w:World) (H:Hp) (s:Shared) (e:Value) (s':Shared),CX w [] H s (fun _ _ _=>False) e s'→False) :
    PySem.W.WalkO q loose XP YP l.row.toRowW d [] (fun f vs=>PySem.call f vs):=by
  refine Att.attach_call hn hdf fun w s₀ s₁ mg mb fa o pm cd doc a vs ns G Y ho hd hcd hmg hobj hints hlen hg=>?_
  have KX:=hY w _ Y
  obtain ⟨fd,hb,hF⟩:=F w mg fa _ KX G.T.g hmg
  exact jOc KX G.T.g G.T.b G.T.builtins G.T.nolimit hg hobj hints (Nat.le_trans hlen hn2) hr hF hb (fun H hO hS=>hsp w H a ns hlen hO hS) fun H e s'=>hCX w H s₁ e s'
end L2
/- THE LAST THEOREM (shape; LID, My.* are yours):
   My.Adr: a structure of the addresses that your layer names (classes,functions);My.Txt K t: a structure (Prop) of the equations over K;
   My.txt_mk:{K} {implicit addresses ..} (e1:nsIn K mainGlobals "law"=some (some (.ref f))) (e2:K.lookup f=some ⟨oc,od,.func (fnOf "law" "law" params body scope dV kV doc pm an cdv ct),sl⟩) (e3:codeIn K cdv "law"=true) ..:∃ t,My.Txt K t
set_option maxRecDepth 100000 in
set_option maxHeartbeats 0 in
theorem PySem.Challenge.cw_LID_holds : PySem.Challenge.rw_LID.Holds := by
  w_on;o_law;k_head;(case hw=>w_witness2)
  k_fill
  refine L2.walk_of (l:=PySem.Challenge.rw_LID) (n:=63) (k:=40) (x:="script") (CX:=fun w=>..) (sp:=fun _=>My.sp_law) rfl (by decide) rfl ⟨rfl,by decide,by decide⟩ (fun w h Y=>PySem.W.kIn_of Y) ?F ?S ?C
  case F =>
    intro w mg fa h KX G hmg
    have T:∃ t,My.Txt (L2.KOf KX) t:=by
      dsimp only [L2.KOf]                          -- K must stand as «<heap const> w.params» for k_is
      refine' My.txt_mk ?e1 ?e2 ?e3 ..
      (case e1 => PySem.W.k_is)                    -- in the order: a name -> its address -> its object -> its parts
      (case e2=>PySem.W.k_is)
      ..
    obtain ⟨t,T⟩:=T
    have e0:=hmg.symm.trans (PySem.W.mg_of KX G T.law)
    cases e0                                       -- fa is the law's own address
    exact ⟨_, fun s u => .of_eq rfl, fun base kb nb => My.law_fn T kb nb⟩     -- if «.of_eq rfl» comes too early: refine' ⟨_, ?b, fun base kb nb => My.law_fn T kb nb⟩; exact fun s u => .of_eq rfl
  case S=>exact fun w H a ns hl hO hS=>..
  case C=>exact ..
(the tactic k_is has no namespace: write k_is) -/
namespace L2
open PySem PySem.Spec PyProof.Rows
def jAr (s:Stmt) (j:Nat):Stmt:=match s with
  | .ClassDef _ _ _ body _ _ _ _ _ _ _=>body.getD j (.Pass ⟨0,0,0,0⟩)
  | _=>.Pass ⟨0,0,0,0⟩
def jDj (s:Stmt):Arguments:=match s with
  | .FunctionDef _ a _ _ _ _ _ _ _ _=>a
  | _=>{ posonlyargs:=[],args:=[],vararg:=none,kwonlyargs:=[],kw_defaults:=[],kwarg:=none,defaults:=[] }
def jCw (s:Stmt):List Stmt:=match s with
  | .FunctionDef _ _ b _ _ _ _ _ _ _=>b
  | _=>[]
def jAh (s:Stmt):Scope:=match s with
  | .FunctionDef _ _ _ _ _ _ sc _ _ _=>sc
  | _=>{ kind:=.function,names:=[],isGenerator:=false,isCoroutine:=false }
abbrev CX0:CXT:=fun _ _ _ _ _ _=>False
abbrev E0:XK:=fun _ _ _=>False
theorem jIl {X:Cx}:jDP CX0 X E0:=fun _ _ _ _ _ _ _ h=>h.elim
structure Fun (K:PySem.W.Frag) (x qual:Str) (st:Stmt) (f:Addr) (fd:FuncData):Prop where
  ex:∃ (oc:Value) (od:Option Addr) (kV doc pm:Value) (an:Option Addr) (cdv ct:Value) (osl:Array (Option Value)),
    fd=PySem.W.fnOf x qual (jDj st) (jCw st) (jAh st) .none kV doc pm an cdv ct∧K.lookup f=some ⟨oc,od,.func fd,osl⟩∧PySem.W.codeIn K cdv qual=true
  kp:PySem.W.keepIn K (.ref f)=true
section
variable {P:Program} {w:World} {K:PySem.W.Frag} {mg:Str→Option Value} {base:Heap}
theorem Fun.ok {x qual:Str} {st:Stmt} {f:Addr} {fd:FuncData} {N ps:List Str} {k:Nat} {sp:Sp} (F:Fun K x qual st f fd) (S:jAl N ps (jAh st)) (len:∀ vs H Q E,sp vs H Q E→vs.length=ps.length)
    (hbody:∀ (cdv:Value) (A:Around) (outer:List Env) (s:Shared) (H:Hp) (vs:List V) (Q:VK) (E:XK),jAV k (A.deeper (envOfC qual (jAh st) s.heap.objs.size f cdv))→sp vs H Q E →
      ∃ t,PSs (jGX CX0 P w K mg base N qual (jAh st) f cdv A outer s H E).nox (jCw st) t∧t { nx:=fun _ H'=>Q .non H',rt:=Q } (jEf N vs) H):jAq P w K mg base CX0 (k + 1) f fd ps sp:=by
  obtain ⟨oc,od,kV,doc,pm,an,cdv,ct,osl,rfl,lk,hcd⟩:=F.ex
  refine fn_of lk hcd S len fun A outer s H vs Q E hr hsp=>?_
  obtain ⟨t,h,q⟩:=hbody cdv A outer s H vs Q E hr hsp
  exact ⟨t,h.nox,q⟩
theorem Fun.binds {x qual:Str} {st:Stmt} {f:Addr} {fd:FuncData} {ps:List Str} (F:Fun K x qual st f fd)
    (h:∀ (kV doc pm:Value) (an:Option Addr) (cdv ct:Value) (us:List Value),us.length=ps.length→bindArgs (PySem.W.fnOf x qual (jDj st) (jCw st) (jAh st) .none kV doc pm an cdv ct) ⟨us,[]⟩=pure (ps.zip us)):jBo K fd ps []:=by
  obtain ⟨oc,od,kV,doc,pm,an,cdv,ct,osl,rfl,lk,hcd⟩:=F.ex
  exact .all (h kV doc pm an cdv ct)
theorem jNs {x qual:Str} {st:Stmt} {f:Addr} {oc:Value} {od an:Option Addr} {osl:Array (Option Value)} {kV doc pm cdv ct:Value} (l:K.lookup f=some ⟨oc,od,.func (PySem.W.fnOf x qual (jDj st) (jCw st) (jAh st) .none kV doc pm an cdv ct),osl⟩)
    (c:PySem.W.codeIn K cdv qual=true) (k:PySem.W.keepIn K (.ref f)=true):Fun K x qual st f (PySem.W.fnOf x qual (jDj st) (jCw st) (jAh st) .none kV doc pm an cdv ct):=⟨⟨oc,od,kV,doc,pm,an,cdv,ct,osl,rfl,l,c⟩,k⟩
end
theorem jAX {n:Nat} (h:n≤1000):n < sizeLine:=Nat.lt_of_le_of_lt h (by decide)
section
variable {X:Cx}
theorem pv (i:Nat) {x:Str} {pos:Pos} (hN:X.N[i]?=some x:=by rfl) (hv:Vis X.env.scope x:=by first | exact Or.inl rfl | exact Or.inr (Or.inl rfl) | exact Or.inr (Or.inr rfl)) (hd:(x == ("__debug__":Str))=false:=by decide)
    (hcd:(x == ("__classdict__":Str))=false:=by decide):PE X (.Name x pos) (tVar i):=pe_var hN hv hd hcd
end
theorem jAK {A B:Prop} (h:B):if false=true then A else B:=by
  rw [if_neg Bool.false_ne_true]
  exact h
theorem jAP {A B:Prop} (h:A):if true=true then A else B:=by
  rw [if_pos rfl]
  exact h
theorem jBp {c A B:Prop} [Decidable c] (h1:c→A) (h2:¬ c→B):if c then A else B:=by
  by_cases h:c
  · rw [if_pos h]
    exact h1 h
  · rw [if_neg h]
    exact h2 h
theorem jKM {c A B:Prop} [Decidable c] (hc:c) (h:B):if (!decide c)=true then A else B:=by
  rw [decide_eq_true hc]
  exact jAK h
def jAo (H H':Hp):Prop:=∀ b o,H b=some o→H' b=some o
theorem jAo.refl (H:Hp):jAo H H:=fun _ _ h=>h
theorem jAo.trans {H H1 H2:Hp} (a:jAo H H1) (b:jAo H1 H2):jAo H H2:=fun c o h=>b c o (a c o h)
theorem jAo.free {H H':Hp} (e:jAo H H') {l:Addr} (h:H' l=Option.none):H l=Option.none:=by
  cases q:H l with
  | none=>rfl
  | some o =>
    rw [e l o q] at h
    cases h
theorem jAo.seq {K:PySem.W.Frag} {H H':Hp} {a:Addr} {xs:List V} (e:jAo H H') (h:SqL K H a xs):SqL K H' a xs:=by
  rcases h with (h | ⟨o,h⟩) | h
  · exact .inl (.inl (e _ _ h))
  · exact .inl (.inr ⟨o,e _ _ h⟩)
  · exact .inr h
end L2
set_option maxHeartbeats 4000000
namespace L2
open PySem PySem.Spec PyProof.Rows
section
variable {κ:Type} [DecidableEq κ]
def jBU (kvs:List (κ×V)) (k:κ):Option V:=(kvs.find? fun kv=>decide (kv.1=k)).map (·.2)
def jBV (kvs:List (κ×V)) (k:κ) (v:V):List (κ×V) :=
  if (kvs.any fun kv=>decide (kv.1=k))=true then kvs.map (fun kv=>if kv.1=k then (kv.1,v) else kv) else kvs ++ [(k,v)]
def dropK (kvs:List (κ×V)) (k:κ):List (κ×V):=kvs.filter fun kv=>decide (kv.1≠k)
theorem jH1 {p:κ×V} {r:List (κ×V)} {k:κ} (e:p.1=k):jBU (p :: r) k=some p.2:=by simp [jBU,List.find?_cons,e]
theorem jH2 {p:κ×V} {r:List (κ×V)} {k:κ} (e:¬ p.1=k):jBU (p :: r) k=jBU r k:=by simp [jBU,List.find?_cons,e]
theorem jK4 (k:κ):∀ kvs:List (κ×V),(kvs.any fun kv=>decide (kv.1=k))=(jBU kvs k).isSome
  | []=>rfl
  | p :: r=>by
    rw [List.any_cons]
    by_cases e:p.1=k
    · simp only [jH1 e,decide_eq_true e,Bool.true_or,Option.isSome_some]
    · rw [jH2 e,decide_eq_false e,Bool.false_or];exact jK4 k r
theorem jFi (kvs:List (κ×V)) (k:κ) (v:V):(jBV kvs k v).length≤kvs.length + 1:=by
  unfold jBV
  split
  · rw [List.length_map];omega
  · rw [List.length_append,List.length_cons,List.length_nil];omega
theorem jBK.isSome_eq {o:Option V} {u:Option Value} (r:jBK o u):o.isSome=u.isSome:=by
  cases o with
  | none=>cases u with
    | none=>rfl
    | some _=>exact (show False from r).elim
  | some _=>cases u with
    | none=>exact (show False from r).elim
    | some _=>rfl
theorem KV.val {kvs:List (κ×V)} {vs:List (κ×Value)} (r:KV kvs vs) (k:κ):jBK (jBU kvs k) (valueAt vs k):=by
  unfold KV at r
  induction r with
  | nil=>exact True.intro
  | @cons p q ps qs h t ih =>
    obtain ⟨h1,h2⟩:=h
    by_cases e:p.1=k
    · have e':q.1=k:=h1.symm.trans e
      have b:valueAt (q :: qs) k=some q.2:=by simp [valueAt,List.find?_cons,e']
      rw [jH1 e,b];exact h2
    · have e':¬ q.1=k:=fun z=>e (h1.trans z)
      have b:valueAt (q :: qs) k=valueAt qs k:=by simp [valueAt,List.find?_cons,e']
      rw [jH2 e,b];exact ih
theorem KV.any {kvs:List (κ×V)} {vs:List (κ×Value)} (r:KV kvs vs) (k:κ):(kvs.any fun kv=>decide (kv.1=k))=vs.any fun kv=>decide (kv.1=k):=by
  unfold KV at r
  induction r with
  | nil=>rfl
  | cons h t ih=>rw [List.any_cons,List.any_cons,ih,h.1]
theorem KV.repl {kvs:List (κ×V)} {vs:List (κ×Value)} (r:KV kvs vs) (k:κ) {y:V} {u:Value} (ry:jAx y u) :
    KV (kvs.map fun kv=>if kv.1=k then (kv.1,y) else kv) (vs.map fun kv=>if kv.1=k then (kv.1,u) else kv):=by
  unfold KV at r ⊢
  induction r with
  | nil=>exact .nil
  | @cons p q ps qs h t ih =>
    rw [List.map_cons,List.map_cons]
    refine .cons ?_ ih
    obtain ⟨h1,h2⟩:=h
    by_cases e:p.1=k
    · rw [if_pos e,if_pos (h1.symm.trans e)];exact ⟨h1,ry⟩
    · rw [if_neg e,if_neg (fun z=>e (h1.trans z))];exact ⟨h1,h2⟩
theorem KV.put {kvs:List (κ×V)} {vs:List (κ×Value)} (r:KV kvs vs) (k:κ) {y:V} {u:Value} (ry:jAx y u):KV (jBV kvs k y) (stored vs k u):=by
  unfold jBV stored
  rw [r.any k]
  by_cases e:(vs.any fun kv=>decide (kv.1=k))=true
  · rw [if_pos e,if_pos e];exact r.repl k ry
  · rw [if_neg e,if_neg e];exact Paired.snoc r ⟨rfl,ry⟩
theorem KV.keys {kvs:List (κ×V)} {vs:List (κ×Value)} (r:KV kvs vs):kvs.map (·.1)=vs.map (·.1):=by
  unfold KV at r
  induction r with
  | nil=>rfl
  | cons h t ih=>rw [List.map_cons,List.map_cons,ih,h.1]
theorem KV.length {kvs:List (κ×V)} {vs:List (κ×Value)} (r:KV kvs vs):kvs.length=vs.length:=Paired.length r
end
theorem jHs {P:Program} {w:World} {k:Key} {u:Value} (r:jAx (kV k) u):(jA_ P w).is k u=true:=by
  cases k with
  | inl i=>obtain ⟨t,e⟩:=(show ∃ t,u=Value.int i t from r);subst e;exact jLV P w i t
  | inr x=>obtain ⟨t,e⟩:=(show ∃ t,u=Value.str x t from r);subst e;exact jLW P w x t
theorem jJ1 {P:Program} {w:World}:∀ {ks:List Key} {us:List Value},jAA (ks.map kV) us→ItemsAre (jA_ P w) ks us
  | [],_,r=>by rw [List.map_nil] at r;cases r;exact .nil
  | k :: ks,_,r=>by
    rw [List.map_cons] at r
    cases r with
    | cons h t=>exact .cons (jHs h) (jJ1 t)
abbrev KT (H:Hp):List (List Key×V)→List (List Key×Addr×Value)→Prop:=Paired fun p q=>p.1=q.1∧H q.2.1=some (.tup (p.1.map kV))∧jAx p.2 q.2.2
theorem KT.val {H:Hp} {kvs:List (List Key×V)} {xs:List (List Key×Addr×Value)} (r:KT H kvs xs) (k:List Key):jBK (jBU kvs k) ((atKey xs k).map (·.2)):=by
  induction r with
  | nil=>exact True.intro
  | @cons p q ps qs h t ih =>
    obtain ⟨h1,_,h2⟩:=h
    by_cases e:p.1=k
    · have e':q.1=k:=h1.symm.trans e
      have b:atKey (q :: qs) k=some q.2:=by simp [atKey,List.find?_cons,e']
      rw [jH1 e,b];exact h2
    · have e':¬ q.1=k:=fun z=>e (h1.trans z)
      have b:atKey (q :: qs) k=atKey qs k:=by simp [atKey,List.find?_cons,e']
      rw [jH2 e,b];exact ih
theorem KT.repl {H:Hp} {kvs:List (List Key×V)} {xs:List (List Key×Addr×Value)} (r:KT H kvs xs) (k:List Key) {y:V} {u:Value} (ry:jAx y u) :
    KT H (kvs.map fun kv=>if kv.1=k then (kv.1,y) else kv) (xs.map (putAt k u)):=by
  induction r with
  | nil=>exact .nil
  | @cons p q ps qs h t ih =>
    rw [List.map_cons,List.map_cons]
    refine .cons ?_ ih
    obtain ⟨h1,h2,h3⟩:=h
    unfold putAt
    by_cases e:p.1=k
    · rw [if_pos e,if_pos (h1.symm.trans e)];exact ⟨h1,h2,ry⟩
    · rw [if_neg e,if_neg (fun z=>e (h1.trans z))];exact ⟨h1,h2,h3⟩
theorem KT.put {H:Hp} {kvs:List (List Key×V)} {xs:List (List Key×Addr×Value)} (r:KT H kvs xs) (k:List Key) {b:Addr} {y:V} {u:Value} (hb:H b=some (.tup (k.map kV))) (ry:jAx y u) :
    KT H (jBV kvs k y) (storedH xs k b u):=by
  have e:(kvs.any fun kv=>decide (kv.1=k))=(atKey xs k).isSome:=by
    rw [jK4,(r.val k).isSome_eq,Option.isSome_map]
  unfold jBV storedH
  rw [e]
  by_cases q:(atKey xs k).isSome=true
  · rw [if_pos q,if_pos q];exact r.repl k ry
  · rw [if_neg q,if_neg q];exact Paired.snoc r ⟨rfl,hb,ry⟩
theorem KT.keeps {H H':Hp} {kvs:List (List Key×V)} {xs:List (List Key×Addr×Value)} (r:KT H kvs xs) (ht:∀ b ys,H b=some (.tup ys)→H' b=some (.tup ys)):KT H' kvs xs :=
  Paired.mapP r fun _ _ z=>⟨z.1,ht _ _ z.2.1,z.2.2⟩
section
variable {P:Program} {w:World} {H:Hp} {h:Heap} {a:Addr}
theorem rd_of {u:HO} (ok:HOk P w H h) (e:Rd H a u):jAY P w H h a u:=e.ok ok
theorem jIm {kvs:List (Key×V)} (ok:HOk P w H h) (e:Rd H a (.dK kvs)):kvs.length≤sizeLine∧(a == sysModules)=false∧∃ vs,KV kvs vs∧h.DictOf (jA_ P w) a vs :=
  show jAY P w H h a (.dK kvs) from rd_of ok e
theorem jKN {kvs:List (Key×V)} (ok:HOk P w H h) (e:H a=some (.dK kvs)):kvs.length≤sizeLine∧(a == sysModules)=false∧∃ vs,KV kvs vs∧h.DictOf (jA_ P w) a vs:=jIm ok (.inl e)
theorem jIn {ks:List Key} (ok:HOk P w H h) (e:H a=some (.tup (ks.map kV))):(tupleKind (jA_ P w)).is h ks a:=by
  obtain ⟨_,its,r,o,h1,h2,n,h3⟩:=(show jAY P w H h a (.tup (ks.map kV)) from ok a _ e)
  exact ⟨o,its.toArray,n,h1,h2,h3,by simpa using jJ1 r⟩
theorem jKO {kvs:List (List Key×V)} (ok:HOk P w H h) (e:Rd H a (.dT kvs)):kvs.length≤sizeLine∧(a == sysModules)=false ∧
    ∃ xs,KT H kvs xs∧h.DictOfH (tupleKind (jA_ P w)) a xs:=by
  obtain ⟨z,y,xs,r,o,es,ep,h1,h2,h3,h4,h5⟩:=(show jAY P w H h a (.dT kvs) from rd_of ok e)
  refine ⟨z,y,xs,r,o,es,ep,h1,h2,h3,h4,fun x hx=>?_,h5⟩
  have all:∀ {l:List (List Key×V)} {m:List (List Key×Addr×Value)},KT H l m→∀ x∈m,(tupleKind (jA_ P w)).is h x.1 x.2.1:=by
    intro l m q
    induction q with
    | nil=>intro x hx;exact nomatch hx
    | @cons p q ps qs hq t ih =>
      intro x hx
      rcases List.mem_cons.mp hx with e | hx
      · subst e
        exact jIn ok (by rw [← hq.1];exact hq.2.1)
      · exact ih x hx
  exact all r x hx
theorem dt_of {kvs:List (List Key×V)} (ok:HOk P w H h) (e:H a=some (.dT kvs)):kvs.length≤sizeLine∧(a == sysModules)=false ∧
    ∃ xs,KT H kvs xs∧h.DictOfH (tupleKind (jA_ P w)) a xs:=jKO ok (.inl e)
end
def jBh (H:Hp) (a:Addr) (y:V) (r:Option V):Prop :=
  (∃ kvs k,Rd H a (.dK kvs)∧y=kV k∧r=jBU kvs k)∨∃ kvs k b,Rd H a (.dT kvs)∧y=.ref b∧H b=some (.tup (k.map kV))∧r=jBU kvs k
def jCH (H:Hp) (a:Addr) (y v:V) (H':Hp):Prop :=
  (∃ kvs k,H a=some (.dK kvs)∧y=kV k∧kvs.length < sizeLine∧H'=upd H a (.dK (jBV kvs k v))) ∨
  ∃ kvs k b,H a=some (.dT kvs)∧y=.ref b∧H b=some (.tup (k.map kV))∧kvs.length < sizeLine∧H'=upd H a (.dT (jBV kvs k v))
theorem jBh.k {H:Hp} {a:Addr} {kvs:List (Key×V)} {k:Key} (e:H a=some (.dK kvs)):jBh H a (kV k) (jBU kvs k):=.inl ⟨kvs,k,.inl e,rfl,rfl⟩
theorem jCH.k {H:Hp} {a:Addr} {kvs:List (Key×V)} {k:Key} {v:V} (e:H a=some (.dK kvs)) (hl:kvs.length < sizeLine):jCH H a (kV k) v (upd H a (.dK (jBV kvs k v))):=.inl ⟨kvs,k,e,rfl,hl,rfl⟩
section
variable {X:Cx} {pins:List (Addr×Obj)} {σ:St} {H:Hp} {s:Shared} {a:Addr} {y v:V} {u r:Value} {o:Option V} {A:Around} {E:Value→Shared→Prop}
theorem Inv.big (I:Inv X pins σ H s):sysModules < s.heap.objs.size:=by
  have h:mainGlobals < s.heap.objs.size:=(I.mod.glob.keeps I.bk).lt
  exact Nat.lt_trans (by decide) h
theorem jJ2 {Q:Value→Shared→Prop} (hu:A.units + 1 < cLine) (I:Inv X pins σ H s) (g:jBh H a y (some v)) (ry:jAx y u) (h:∀ w' s',Inv X pins σ H s'→jAx v w'→Q w' s') :
    wpAny (model X.prog X.w) A (getItem (.ref a) u) Q E s:=by
  rcases g with ⟨kvs,k,e,ey,l⟩ | ⟨kvs,k,b,e,ey,eb,l⟩
  · subst ey
    obtain ⟨z,hd,vs,rel,dd⟩:=jIm I.hok e
    obtain ⟨w',hw,rw'⟩:=jBK.some_of (v:=v) (o:=valueAt vs k) (by rw [l];exact rel.val k)
    exact wpAny_getItem_of (jHs ry) dd.mapOf hw (h w' _ (I.tok _) rw')
  · subst ey
    cases (show u=Value.ref b from ry)
    obtain ⟨z,hd,xs,rel,dd⟩:=jKO I.hok e
    obtain ⟨w',hw,rw'⟩:=jBK.some_of (v:=v) (o:=(atKey xs k).map (·.2)) (by rw [l];exact rel.val k)
    obtain ⟨p,hp,hp2⟩:=Option.map_eq_some_iff.mp hw
    refine wpAny_getItem_heap (tupleKind_room_in1 hu) (jIn I.hok eb) dd hp ?_
    rw [hp2]
    exact h w' _ (I.tok _) rw'
theorem d_notIn {Q:Value→Shared→Prop} (hu:A.units + 1 < cLine) (I:Inv X pins σ H s) (g:jBh H a y o) (ry:jAx y u) (h:∀ s',Inv X pins σ H s'→Q (.bool (!o.isSome)) s') :
    wpAny (model X.prog X.w) A (compareOp .NotIn u (.ref a)) Q E s:=by
  rcases g with ⟨kvs,k,e,ey,l⟩ | ⟨kvs,k,b,e,ey,eb,l⟩
  · subst ey
    obtain ⟨z,hd,vs,rel,dd⟩:=jIm I.hok e
    refine wpAny_notIn_of (jHs ry) hd dd.mapOf ?_
    rw [← (rel.val k).isSome_eq,← l]
    exact h _ (I.tok _)
  · subst ey
    cases (show u=Value.ref b from ry)
    obtain ⟨z,hd,xs,rel,dd⟩:=jKO I.hok e
    refine wpAny_notIn_heap (tupleKind_room_in1 hu) (jIn I.hok eb) hd dd ?_
    have q:=(rel.val k).isSome_eq
    rw [Option.isSome_map] at q
    rw [← q,← l]
    exact h _ (I.tok _)
theorem jHt {h':Heap} {t':Nat} {ob:HO} (I:Inv X pins σ H s) (mu:Mut (H a)) (hs:Heap.SameBut a s.heap h') (he:∃ q,h'.get? a=some q) (new:jAY X.prog X.w (upd H a ob) h' a ob) :
    Inv X pins σ (upd H a ob) { s with heap:=h',toks:=t' } :=
  I.write (x:=a) (e:=a) mu (.inl rfl) (fun b q hb z=>(hs.2 b hb).trans z) he new
theorem jGY {P:Program} {w:World} {H':Hp} {h':Heap} {kvs:List (Key×V)} {vs:List (Key×Value)} (z:kvs.length≤sizeLine) (hd:(a == sysModules)=false) (rel:KV kvs vs) (dd:h'.DictOf (jA_ P w) a vs) :
    jAY P w H' h' a (.dK kvs):=⟨z,hd,vs,rel,dd⟩
theorem jJ3 {H':Hp} {Q:Unit→Shared→Prop} (hu:A.units + 1 < cLine) (I:Inv X pins σ H s) (g:jCH H a y v H') (ry:jAx y u) (rv:jAx v r) (h:∀ s',Inv X pins σ H' s'→Q () s') :
    wpAny (model X.prog X.w) A (setItem (.ref a) u r) Q E s:=by
  rcases g with ⟨kvs,k,e,ey,l,eH⟩ | ⟨kvs,k,b,e,ey,eb,l,eH⟩
  · subst ey eH
    obtain ⟨z,hd,vs,rel,dd⟩:=jKN I.hok e
    have hz:vs.length≤sizeLine:=by rw [← rel.length];exact z
    have hl:(jBV kvs k v).length≤sizeLine:=by have:=jFi kvs k v;omega
    refine wpAny_setItem_pairs (hsz:=hz) (jHs ry) dd fun h' dd' hs=>h _ ?_
    have he:∃ q,h'.get? a=some q:=let ⟨q,_,_,hq,_⟩:=dd';⟨q,hq⟩
    exact jHt I (by rw [e];exact True.intro) hs he (jGY hl hd (rel.put k rv) dd')
  · subst ey eH
    cases (show u=Value.ref b from ry)
    obtain ⟨z,hd,xs,rel,dd⟩:=dt_of I.hok e
    have hz:xs.length≤sizeLine:=by rw [← Paired.length rel];exact z
    have hl:(jBV kvs k v).length≤sizeLine:=by have:=jFi kvs k v;omega
    refine wpAny_setItem_heap (hsz:=hz) (tupleKind_room_in1 hu) (jIn I.hok eb) dd fun h' dd' hs=>h _ ?_
    obtain ⟨q,es,ep,hq,h2,h3,h4,_,h5⟩:=dd'
    refine jHt I (by rw [e];exact True.intro) hs ⟨q,hq⟩ ⟨hl,hd,_,(rel.put k eb rv).keeps fun c ys ec=>?_,q,es,ep,hq,h2,h3,h4,h5⟩
    rw [jAj (jAn ec e (fun z=>nomatch z))]
    exact ec
end
section
variable {X:Cx} {pins:List (Addr×Obj)} {σ:St} {H:Hp} {s:Shared} {a:Addr} {kvs:List (Key×V)} {k:Key} {u:Value} {A:Around} {E:Value→Shared→Prop}
end
def NoSl (i:Expr):Prop:=∀ ov iv,subscripted i false ov iv=operate [ov,iv] (getItem ov iv)
theorem subD_of {prog:Program} {w:World} {A:Around} {E:Value→Shared→Prop} {s:Shared} {env:Env} {value slice:Expr} {pos:Pos} {T id:String} {Q:Value→Shared→Prop}
    (hl:typeLookup (.type T) "__getitem__"=pure (some (.builtin id))) (hs:NoSl slice)
    (h:wpAny (model prog w) A (eval value env) (fun o s₁=>wpAny (model prog w) A (eval slice env) (fun i s₂=>s₂.TypeIs o T∧wpAny (model prog w) A (getItem o i) Q E s₂) E s₁) E s) :
    wpAny (model prog w) A (eval (.Subscript value slice pos) env) Q E s:=by
  refine Subscript_ (wpAny_mono h (fun o s₁ h₁=>wpAny_mono h₁ (fun i s₂ h₂=>?_) fun _ _ x=>x) fun _ _ x=>x)
  obtain ⟨hT,h₂⟩:=h₂
  unfold subscriptTail
  refine wpAny_bind ?_
  rw [getitemInPython_of_ne hT.not_modules]
  refine wpAny_bind (wpAny_specialOf hT hl ?_)
  have fin:wpAny (model prog w) A (subscripted slice false o i) (fun r s₃=>wpAny (model prog w) A (letTemporaryGo value o r >>= fun _=>pure r) Q E s₃) E s₂:=by
    rw [hs o i]
    exact wpAny_operating (wpAny_mono h₂ (fun r s₃ h₃=>wpAny_bind (wpAny_letTemporaryGo (wpAny_pure h₃))) fun _ _ x=>x)
  first
    | exact wpAny_pure (wpAny_bind fin)
    | exact wpAny_bind (wpAny_pure (wpAny_bind fin))
    | exact wpAny_bind fin
theorem jLX {X:Cx} {pins:List (Addr×Obj)} {σ:St} {H:Hp} {s:Shared} {a:Addr} {y:V} {o:Option V} (I:Inv X pins σ H s) (g:jBh H a y o):s.TypeIs (.ref a) "dict":=by
  rcases g with ⟨kvs,k,e,_,_⟩ | ⟨kvs,k,b,e,_,_,_⟩
  · obtain ⟨_,_,vs,_,dd⟩:=jIm I.hok e
    exact dd.typeIs
  · obtain ⟨_,_,xs,_,dd⟩:=jKO I.hok e
    exact dd.typeIs
def tDGet (td ty:TE):TE:=fun σ H Q=>td σ H fun x H1=>ty σ H1 fun y H2=>∃ a v,x=.ref a∧jBh H2 a y (some v)∧Q v H2
def tDIn (ty td:TE):TE:=fun σ H Q=>ty σ H fun y H1=>td σ H1 fun x H2=>∃ a o,x=.ref a∧jBh H2 a y o∧Q (.bl o.isSome) H2
def tDNotIn (ty td:TE):TE:=fun σ H Q=>ty σ H fun y H1=>td σ H1 fun x H2=>∃ a o,x=.ref a∧jBh H2 a y o∧Q (.bl (!o.isSome)) H2
def sDPut (td ty tv:TE):TS:=fun D σ H=>tv σ H fun v H1=>td σ H1 fun x H2=>ty σ H2 fun y H3=>∃ a H4,x=.ref a∧jCH H3 a y v H4∧D.nx σ H4
def sDAug (td ty tv:TE) (rd:V→V→Hp→VK→Prop):TS:=fun D σ H=>td σ H fun x H1=>ty σ H1 fun y H2=>∃ a v,x=.ref a∧jBh H2 a y (some v) ∧
  tv σ H2 fun y2 H3=>rd v y2 H3 fun z H4=>∃ H5,jCH H4 a y z H5∧D.nx σ H5
def sDDel (td ty:TE):TS:=fun D σ H=>td σ H fun x H1=>ty σ H1 fun y H2=>∃ a kvs k,x=.ref a∧H2 a=some (.dK kvs)∧y=kV k∧(jBU kvs k).isSome=true∧D.nx σ (upd H2 a (.dK (dropK kvs k)))
section
variable {X:Cx} {o i e value:Expr} {pos pos' tpos:Pos} {td ty tv:TE}
theorem pe_dget (hu:X.A.units + 1 < cLine) (ho:PE X o td) (hi:PE X i ty) (hs:NoSl i):PE X (.Subscript o i pos) (tDGet td ty):=by
  intro pins s σ H Q I h
  refine subD_of PySem.F.slot_dict_getitem.lookup hs (thn (ho pins s σ H _ I h) fun u s1 ⟨x,H1,I1,rx,q1⟩=>thn (hi pins s1 σ H1 _ I1 q1) fun iv s2 ⟨y,H2,I2,ry,a,v,ex,g,q2⟩=>?_)
  subst ex
  obtain rfl:u=Value.ref a:=rx
  exact ⟨jLX I2 g,jJ2 hu I2 g ry fun w' s3 I3 rw'=>⟨v,H2,I3,rw',q2⟩⟩
theorem jNt (hu:X.A.units + 1 < cLine) (hi:PE X i ty) (ho:PE X o td):PC X .NotIn i o (tDNotIn ty td):=by
  intro pins s σ H Q I h
  refine thn (hi pins s σ H _ I h) fun iv s1 ⟨y,H1,I1,ry,q1⟩=>thn (ho pins s1 σ H1 _ I1 q1) fun u s2 ⟨x,H2,I2,rx,a,ov,ex,g,q2⟩=>?_
  subst ex
  obtain rfl:u=Value.ref a:=rx
  exact d_notIn hu I2 g ry fun s3 I3=>⟨.bl (!ov.isSome),H2,I3,rfl,q2⟩
theorem jCe (hu:X.A.units + 1 < cLine) (ho:PE X o td) (hi:PE X i ty) (hv:PE X value tv) (hs:swapsWith value (some (.Subscript o i pos')) pos.line X.env=pure false) :
    PS X (.Assign [.Subscript o i pos'] value pos) (sDPut td ty tv):=by
  intro pins s σ H D I h
  refine wpAny_Assign_Subscript (thn (hv pins s σ H _ I h) fun r s1 ⟨v,H1,I1,rv,q1⟩=>thn (ho pins s1 σ H1 _ I1 q1) fun u s2 ⟨x,H2,I2,rx,q2⟩=>thn (hi pins s2 σ H2 _ I2 q2) fun iv s3 ⟨y,H3,I3,ry,a,H4,ex,g,q3⟩=>?_) hs
  subst ex
  obtain rfl:u=Value.ref a:=rx
  exact jJ3 hu I3 g ry rv fun s4 I4=>⟨σ,H4,I4,q3⟩
theorem jMu {op:Operator} {rd:V→V→Hp→VK→Prop} (hu:X.A.units + 1 < cLine) (ho:PE X o td) (hi:PE X i ty) (hv:PE X value tv) (hop:InOp X op rd)
    (ha:∀ ov iv new,augStore i ov iv new=(do holding [new,ov,iv] (setItem ov iv new);release [new,ov,iv] [];pure .next)):PS X (.AugAssign (.Subscript o i tpos) op value pos) (sDAug td ty tv rd):=by
  intro pins s σ H D I h
  refine wpAny_AugAssign_SubscriptAny (thn (ho pins s σ H _ I h) fun u s1 ⟨x,H1,I1,rx,q1⟩=>thn (hi pins s1 σ H1 _ I1 q1) fun iv s2 ⟨y,H2,I2,ry,a,v,ex,g,q2⟩=>?_) ha
  subst ex
  obtain rfl:u=Value.ref a:=rx
  refine jJ2 hu I2 g ry fun w' s3 I3 rw'=>thn (hv pins s3 σ H2 _ I3 q2) fun w2 s4 ⟨y2,H3,I4,ry2,q3⟩=>thn (hop pins s4 σ H3 v y2 w' w2 _ I4 rw' ry2 q3) fun w3 s5 ⟨z,H4,I5,rz,H5,g5,q4⟩=>?_
  exact jJ3 hu I5 g5 ry rz fun s6 I6=>⟨σ,H5,I6,q4⟩
end
theorem jOd {P:Program} {w:World} {H:Hp} (h:Heap) (hb:sysModules < h.objs.size):jAY P w H (h.push { cls:=.type "dict",data:=.dict #[] }) h.objs.size (.dK []) :=
  ⟨Nat.zero_le _,beq_eq_false_iff_ne.mpr (Ne.symm (Nat.ne_of_lt hb)),[],.nil,Heap.DictOf.new h⟩
def tDNewK:TE:=fun _ H Q=>∀ p,H p=none→Q (.ref p) (upd H p (.dK []))
def tDNewT:TE:=fun _ H Q=>∀ p,H p=none→Q (.ref p) (upd H p (.dT []))
section
variable {X:Cx} {pos:Pos}
end
def jK5:List (TE×TE)→St→Hp→(List (V×V)→Hp→Prop)→Prop
  | [],_,H,Q=>Q [] H
  | (tk,tv) :: r,σ,H,Q=>tk σ H fun x H1=>tv σ H1 fun y H2=>jK5 r σ H2 fun ps H3=>Q ((x,y) :: ps) H3
abbrev VV:List (V×V)→List (Value×Value)→Prop:=Paired fun p q=>jAx p.1 q.1∧jAx p.2 q.2
def PPs (X:Cx) (pos:Pos) (keys:List (Option Expr)) (values:List Expr) (trs:List (TE×TE)):Prop :=
  ∀ (pins:List (Addr×Obj)) (s:Shared) (σ:St) (H:Hp) (Q:List (V×V)→Hp→Prop),Inv X pins σ H s→jK5 trs σ H Q →
    wpAny (model X.prog X.w) X.A (evalPairs (pairTrees keys values X.env pos)) (fun vs s'=>∃ ps H',Inv X pins σ H' s'∧VV ps vs∧Q ps H') X.xe s
theorem jFF {X:Cx} {pos:Pos}:PPs X pos [] [] []:=fun pins s σ H Q I h=>pairTrees_nil_walk ⟨[],H,I,.nil,h⟩
theorem jA6 {X:Cx} {pos:Pos} {k v:Expr} {ks:List (Option Expr)} {vs:List Expr} {tk tv:TE} {trs:List (TE×TE)} (hk:PE X k tk) (hv:PE X v tv) (hr:PPs X pos ks vs trs) :
    PPs X pos (some k :: ks) (v :: vs) ((tk,tv) :: trs):=fun pins s σ H Q I h =>
  pairTrees_cons_walk (thn (hk pins s σ H _ I h) fun u s1 ⟨x,H1,I1,rx,q1⟩=>thn (hv pins s1 σ H1 _ I1 q1) fun w2 s2 ⟨y,H2,I2,ry,q2⟩ =>
    thn (hr pins s2 σ H2 _ I2 q2) fun ws s3 ⟨ps,H3,I3,rel,q3⟩=>⟨(x,y) :: ps,H3,I3,.cons ⟨rx,ry⟩ rel,q3⟩)
def jBZ (kvs more:List (Key×V)):List (Key×V):=more.foldl (fun acc kv=>jBV acc kv.1 kv.2) kvs
theorem KV.merge:∀ {more:List (Key×V)} {rs:List (Key×Value)} {kvs:List (Key×V)} {vs:List (Key×Value)},KV more rs→KV kvs vs→KV (jBZ kvs more) (merged vs rs):=by
  intro more rs kvs vs r
  unfold KV at r
  induction r generalizing kvs vs with
  | nil=>intro q;exact q
  | @cons p q ps qs h t ih =>
    intro r0
    have e:KV (jBV kvs p.1 p.2) (stored vs q.1 q.2):=by
      have:=r0.put p.1 h.2
      rw [← h.1];exact this
    exact ih e
theorem jDY:∀ (more kvs:List (Key×V)),(jBZ kvs more).length≤kvs.length + more.length
  | [],kvs=>by show kvs.length≤kvs.length + 0;omega
  | p :: r,kvs=>by
    have h1:=jDY r (jBV kvs p.1 p.2)
    have h2:=jFi kvs p.1 p.2
    show (jBZ (jBV kvs p.1 p.2) r).length≤_
    rw [List.length_cons];omega
theorem jIo {P:Program} {w:World}:∀ {kvs:List (Key×V)} {ws:List (Value×Value)},VV (kvs.map fun kv=>(kV kv.1,kv.2)) ws→∃ rs,Carries (jA_ P w) ws rs∧KV kvs rs
  | [],_,r=>by rw [List.map_nil] at r;cases r;exact ⟨[],True.intro,.nil⟩
  | p :: kvs,_,r=>by
    rw [List.map_cons] at r
    cases r with
    | @cons a b as bs h t =>
      obtain ⟨rs,c,q⟩:=jIo (P:=P) (w:=w) t
      obtain ⟨b1,b2⟩:=b
      exact ⟨(p.1,b2) :: rs,⟨jHs h.1,rfl,c⟩,.cons ⟨rfl,h.2⟩ q⟩
def tDisp (trs:List (TE×TE)):TE:=fun σ H Q=>∀ p,H p=none→jK5 trs σ (upd H p (.dK [])) fun ps H2=>H2 p=some (.dK [])∧∃ kvs:List (Key×V),ps=kvs.map (fun kv=>(kV kv.1,kv.2))∧kvs.length≤15∧Q (.ref p) (upd H2 p (.dK (jBZ [] kvs)))
theorem jFG {X:Cx} {pos:Pos} {keys:List (Option Expr)} {values:List Expr} {trs:List (TE×TE)} (h:PPs X pos keys values trs) (hall:keys.all (·.isSome)=true) (hl:keys.length=values.length) (h0:keys≠[])
    (h15:keys.length≤15):PE X (.Dict keys values pos) (tDisp trs):=by
  intro pins s σ H Q I q
  have hn:=I.hok.fresh (Nat.le_refl s.heap.objs.size)
  have I1:=I.laid (a:=s.heap.objs.size) (o:=.dK []) (h':=s.heap.push { cls:=.type "dict",data:=.dict #[] }) (t':=s.toks) (fun _ _ q=>Heap.get?_push_of_some _ q) (Nat.le_refl _) (jOd s.heap I.big)
  refine wpAny_Dict_walk (knd:=jA_ X.prog X.w) hall hl h0 h15 (thn (h pins _ σ _ _ I1 (q _ hn)) fun ws s2 ⟨ps,H2,I2,rel,e,kvs,ep,lk,q2⟩=>?_)
  subst ep
  obtain ⟨rs,c,rk⟩:=jIo (P:=X.prog) (w:=X.w) rel
  obtain ⟨z,hd,vs0,r0,dd⟩:=jKN I2.hok e
  cases r0
  refine ⟨rs,c,dd,fun h' dd' hs=>⟨.ref s.heap.objs.size,_,?_,rfl,q2⟩⟩
  have hz:(jBZ [] kvs).length≤sizeLine:=by
    have h1:=jDY kvs []
    rw [List.length_nil] at h1
    rw [sizeLine_eq];omega
  have he:∃ q,h'.get? s.heap.objs.size=some q:=let ⟨q,_,_,hq,_⟩:=dd';⟨q,hq⟩
  exact jHt I2 (by rw [e];exact True.intro) hs he (jGY hz hd (rk.merge .nil) dd')
structure M1 (X:Cx) (o:Expr) (m:Str) (apos:Pos) (e:Expr) (cpos:Pos):Prop where
  base:attributeBase o m X.env (eval o X.env)=eval o X.env
  few:((backTo cpos (starEach [e] X.env)).all (fun x=>!x.1) && (backToKw cpos (keywordEach [] X.env)).all (fun x=>x.1.isSome)
    && decide (([e]:List Expr).length + ([]:List Keyword).length + (if ([]:List Keyword).isEmpty then 0 else 1) < 30))=true
  line:(apos.endLine == cpos.line)=true
  trees:backTo cpos (starEach [e] X.env)=[(false,eval e X.env)]
structure M2 (X:Cx) (o:Expr) (m:Str) (apos:Pos) (e f:Expr) (cpos:Pos):Prop where
  base:attributeBase o m X.env (eval o X.env)=eval o X.env
  few:((backTo cpos (starEach [e,f] X.env)).all (fun x=>!x.1) && (backToKw cpos (keywordEach [] X.env)).all (fun x=>x.1.isSome)
    && decide (([e,f]:List Expr).length + ([]:List Keyword).length + (if ([]:List Keyword).isEmpty then 0 else 1) < 30))=true
  line:(apos.endLine == cpos.line)=true
  trees:backTo cpos (starEach [e,f] X.env)=[(false,eval e X.env),(false,eval f X.env)]
def IsD (H:Hp) (a:Addr):Prop:=(∃ kvs,Rd H a (.dK kvs))∨∃ kvs,Rd H a (.dT kvs)
section
variable {X:Cx} {pins:List (Addr×Obj)} {σ:St} {H:Hp} {s:Shared} {a:Addr} {y d:V} {u r:Value} {o:Option V} {A:Around} {E:Value→Shared→Prop}
end
def tDGet1 (td ty:TE):TE:=fun σ H Q=>td σ H fun x H1=>∃ a,x=.ref a∧IsD H1 a∧ty σ H1 fun y H2=>∃ o,jBh H2 a y o∧Q (o.getD .non) H2
def tDGet2 (td ty tx:TE):TE:=fun σ H Q=>td σ H fun x H1=>∃ a,x=.ref a∧IsD H1 a∧ty σ H1 fun y H2=>tx σ H2 fun z H3=>∃ o,jBh H3 a y o∧Q (o.getD z) H3
def tDPop1 (td ty:TE):TE:=fun σ H Q=>td σ H fun x H1=>∃ a,x=.ref a∧IsD H1 a∧ty σ H1 fun y H2=>∃ kvs k v,H2 a=some (.dK kvs)∧y=kV k∧jBU kvs k=some v∧Q v (upd H2 a (.dK (dropK kvs k)))
def tDPop2 (td ty tx:TE):TE:=fun σ H Q=>td σ H fun x H1=>∃ a,x=.ref a∧IsD H1 a∧ty σ H1 fun y H2=>tx σ H2 fun z H3=>∃ kvs k,H3 a=some (.dK kvs)∧y=kV k ∧
  (∀ v,jBU kvs k=some v→Q v (upd H3 a (.dK (dropK kvs k))))∧(jBU kvs k=none→Q z H3)
section
variable {X:Cx} {o e f:Expr} {apos cpos:Pos} {td ty tx:TE}
end
section
variable {X:Cx} {pins:List (Addr×Obj)} {σ:St} {H:Hp} {s:Shared} {a:Addr} {kvs:List (Key×V)} {A:Around} {E:Value→Shared→Prop}
theorem jOe {Q:Value→Shared→Prop} (I:Inv X pins σ H s) (e:Rd H a (.dK kvs)) (h:∀ p s',H p=none→Inv X pins σ (upd H p (.dK kvs)) s'→Q (.ref p) s'):wpAny (model X.prog X.w) A (call (.type "dict") [.ref a]) Q E s:=by
  obtain ⟨z,hd,vs,rel,dd⟩:=jIm I.hok e
  refine kt_call_dict hd dd (by rw [← rel.length];exact z) fun h' dd' hs=>?_
  refine h _ _ (I.hok.fresh (Nat.le_refl _)) (I.laid (a:=s.heap.objs.size) (o:=.dK kvs) (t':=s.toks) (fun b q hq=>?_) (Nat.le_refl _) (jGY z (beq_eq_false_iff_ne.mpr (Ne.symm (Nat.ne_of_lt I.big))) rel dd'))
  exact (hs.2 b (Nat.ne_of_lt (Heap.lt_size hq))).trans (Heap.get?_push_of_some _ hq)
end
section
variable {X:Cx} {pins:List (Addr×Obj)} {σ:St} {H:Hp} {s:Shared} {a:Addr} {y:V} {u:Value} {A:Around} {E:Value→Shared→Prop}
end
end L2
namespace L2
open PySem PySem.Spec PyProof.Rows
section
variable {X:Cx}
end
section
variable {κ:Type} [DecidableEq κ]
end
end L2
namespace Blk
open PySem
def J:List (List Nat)→List Nat
  | []=>[]
  | [x]=>x
  | x :: y :: r=>x ++ 32 :: J (y :: r)
def C:List Nat→List (List Nat)
  | []=>[[]]
  | c :: r=>if c=32 then [] :: C r else match C r with
    | []=>[[c]]
    | p :: ps=>(c :: p) :: ps
def sg (x:Str):List Nat:=x.cps.toList
theorem sg_inj {x y:Str} (h:sg x=sg y):x=y:=by
  obtain ⟨a⟩:=x
  obtain ⟨b⟩:=y
  have e:a.toList=b.toList:=h
  rw [Array.toList_inj.mp e]
theorem sg_app (x y:Str):sg (x ++ y)=sg x ++ sg y:=Array.toList_append ..
structure Parts (pre:List Nat) (ws:List Str) (w:Str):Prop where
  free:∀ p∈ws ++ [w],32 ∉ sg p
  join:((ws.map sg).map (· ++ [32])).flatten ++ sg w=pre
  many:ws.length≤pre.length
  len:w.length≤pre.length
end Blk
namespace L2
open PySem PySem.Spec PyProof.Rows
theorem small {n:Nat} (h:n≤1000):n≤sizeLine:=Nat.le_of_lt (jAX h)
theorem jMU (z:Str):z.cps.toList.length=z.length:=by simp [Str.length]
theorem at_in {α:Type} {xs:List α} {i:Int} (h0:0≤i) (h1:i < (xs.length:Int)):∃ v,xs[i.toNat]?=some v∧atI xs i=some v:=by
  have hk:i.toNat < xs.length:=by omega
  have q:atI xs ((i.toNat:Nat):Int)=some xs[i.toNat]:=jAz (List.getElem?_eq_getElem hk)
  have e:((i.toNat:Nat):Int)=i:=by omega
  rw [e] at q
  exact ⟨_,List.getElem?_eq_getElem hk,q⟩
theorem jMv:bootBuiltins "list"=some (.type "list"):=by decide +kernel
theorem jK6:bootBuiltins "str"=some (.type "str"):=by decide +kernel
theorem jMw:bootBuiltins "bool"=some (.type "bool"):=by decide +kernel
theorem jK7:bootBuiltins "int"=some (.type "int"):=by decide +kernel
theorem jDQ:bootBuiltins "isinstance"=some (.builtin "isinstance"):=by decide +kernel
theorem bt_max:bootBuiltins "max"=some (.builtin "max"):=by decide +kernel
theorem jGb:bootBuiltins "tuple"=some (.type "tuple"):=by decide +kernel
theorem jDR (n:String):jAx (.ty n) (.type n):=rfl
theorem rel_str (x:Str) (t:Tok):jAx (.str x) (.str x t):=⟨t,rfl⟩
theorem rel_int (x:Int) (t:Tok):jAx (.int x) (.int x t):=⟨t,rfl⟩
def Itx (z:Str):It:=⟨fun i _=>i < z.cps.size,fun i H x H'=>H'=H∧∃ c,z.cps[i]?=some c∧x=.str ⟨#[c]⟩,fun i _=>i=z.cps.size⟩
section
variable {X:Cx} {tg:Expr}
def iStr (tl:TE):TI:=fun σ H R=>tl σ H fun x H1=>∃ z,x=.str z∧R (Itx z) H1
end
section
variable {X:Cx}
def rIxSA:R2:=fun x y H Q=>∃ z i,x=.str z∧y=.int i∧z.length≤sizeLine∧0≤i∧i < ((z.length:Nat):Int)∧∀ c,z.cps.toList[i.toNat]?=some c→Q (.str ⟨#[c]⟩) H
theorem ix_strA:IxR X rIxSA:=by
  intro value slice pins s σ H x y v u Q I rx ry h hs
  obtain ⟨z,i,rfl,rfl,hz,h0,h1,q⟩:=h
  obtain ⟨c,e1,e2⟩:=at_in (xs:=z.cps.toList) h0 (by rw [jMU];exact h1)
  exact ix_str value slice pins s σ H _ _ v u Q I rx ry ⟨z,i,c,rfl,rfl,hz,e2,q c e1⟩ hs
def rIsi (K:PySem.W.Frag):List V→Hp→VK→Prop:=fun xs H Q=>∃ x n t b,xs=[x,.ty n]∧jBx K H x t∧PySem.W.kitOne K t (.type n)=some b∧Q (.bl b) H
theorem jCn:CallR X (.builtin "isinstance") (rIsi X.K):=by
  intro pins s σ H xs us Q I r h
  obtain ⟨x,n,t,b,rfl,ty,e,q⟩:=h
  obtain ⟨u,w',rfl,r1,r2⟩:=vals2 r
  cases (show w'=Value.type n from r2)
  exact jNj I r1 ty e fun tk=>⟨.bl b,H,I.tok tk,rfl,q⟩
theorem jCI {K:PySem.W.Frag} (n:String):PySem.W.kitOne K (.type n) (.type n)=some true:=by
  unfold PySem.W.kitOne
  rw [if_pos (beq_self_eq_true _)]
def jGc (xs ys:List V):Bool:=xs.length == ys.length && (List.range xs.length).all fun j=>eqV (xs.getD j .non) (ys.getD j .non)
theorem jJi {xs:List V} (f:xs.all jA1=true) (j:Nat):jA1 (xs.getD j .non)=true:=by
  by_cases h:j < xs.length
  · rw [List.getD_eq_getElem?_getD,List.getElem?_eq_getElem h]
    exact (List.all_eq_true.mp f) _ (List.getElem_mem h)
  · rw [List.getD_eq_getElem?_getD,List.getElem?_eq_none (by omega)]
    rfl
theorem jCf {xs:List V} {us:List Value} (r:jAA xs us) (j:Nat) (h:j < us.toArray.size):jAx (xs.getD j .non) (us.toArray[j]):=by
  have hl:=r.length
  have h':j < us.length:=by simpa using h
  have h2:j < xs.length:=by omega
  obtain ⟨u,e1,e2⟩:=r.get (List.getElem?_eq_getElem h2)
  rw [List.getD_eq_getElem?_getD,List.getElem?_eq_getElem h2]
  have e3:us.toArray[j]=u:=by
    rw [List.getElem?_eq_getElem h'] at e1
    simpa using Option.some.inj e1
  rw [e3]
  exact e2
def rEqL (K:PySem.W.Frag) (neg:Bool):R2:=fun x y H Q=>∃ p q xs ys,x=.ref p∧y=.ref q∧SqL K H p xs∧SqL K H q ys∧xs.all jA1=true∧ys.all jA1=true∧Q (.bl (if neg then !jGc xs ys else jGc xs ys)) H
theorem jMV (hu:X.A.units < cLine):OpR X (compareOp .Eq) (rEqL X.K false):=by
  intro pins s σ H x y v u Q I rx ry h
  obtain ⟨p,q,xs,ys,rfl,rfl,hp,hq,fx,fy,k⟩:=h
  cases rx
  cases ry
  obtain ⟨its,r1,l1,z1⟩:=I.list hp
  obtain ⟨jts,r2,l2,z2⟩:=I.list hq
  have e1:=r1.length
  have e2:=r2.length
  have fin:∀ b,b=jGc xs ys→EP X pins σ Q (.bool b) s:=fun b e=>⟨.bl b,H,I,rfl,by rw [e];exact k⟩
  by_cases hs:xs.length=ys.length
  · refine SeqAt.RcAt.lists (e:=fun j=>eqV (xs.getD j .non) (ys.getD j .non)) l1.isList l2.isList (by simp;omega) hu (fun j h1 h2=>?_) X.prog X.w _ _ (fin _ ?_)
    · exact jIj (jCf r1 j h1) (jCf r2 j h2) (jJi fx j) (jJi fy j)
    · unfold jGc
      rw [List.size_toArray,← e1,hs,beq_self_eq_true,Bool.true_and]
  · refine SeqAt.RcAt.lists_lengths l1.isList l2.isList (by simp [bne_iff_ne];omega) hu X.prog X.w _ _ (fin false ?_)
    unfold jGc
    rw [beq_eq_false_iff_ne.mpr hs,Bool.false_and]
theorem jH3 {x:V} (f:jA1 x=true):eqV x x=true:=by
  cases x with
  | non=>rfl
  | bl b=>exact beq_self_eq_true b
  | int i=>exact beq_self_eq_true i
  | str z=>exact beq_self_eq_true z
  | _=>exact absurd (show false=true from f) Bool.false_ne_true
theorem jNu {xs:List V} (f:xs.all jA1=true):jGc xs xs=true:=by
  unfold jGc
  rw [beq_self_eq_true,Bool.true_and]
  exact List.all_eq_true.mpr fun j _=>jH3 (jJi f j)
def rSplit:V→List V→Hp→VK→Prop:=fun x vs H Q=>∃ z y,x=.str z∧vs=[.str y]∧(y.length == 0)=false∧z.length + 2≤sizeLine∧∀ p,H p=none→Q (.ref p) (upd H p (.lst ((Txt.split z y).map V.str)))
end
theorem jAk {H:Hp} {p:Addr} (h:H p=none) (o:HO):jAo H (upd H p o):=fun b u q=>by rw [jAj (jAf q h)];exact q
theorem jCx {H H':Hp} {p:Addr} (h:H p=none) (e:jAo H H') (o:HO):jAo H (upd H' p o):=fun b u q=>by rw [jAj (jAf q h)];exact e b u q
end L2
namespace L2
open PySem PySem.Spec PyProof.Rows
def jDS (cells:List (Str×Addr)):List (Str×NameKind)→List (Str×Addr)→List (Str×Addr)
  | [],acc=>acc
  | (n,k) :: r,acc=>jDS cells r (if (k == .free)=true then (n,(cells.lookup n).getD 0) :: acc else acc)
theorem jGI {scope:Scope} {env:Env} (h:∀ p∈scope.names,p.2=.free→(env.cells.lookup p.1).isSome=true):closureFor scope env=pure (jDS env.cells scope.names []):=by
  obtain ⟨kd,names,g1,g2,more⟩:=scope
  simp only [closureFor]
  dsimp only at h ⊢
  generalize ([]:List (Str×Addr))=acc
  induction names generalizing acc with
  | nil=>rfl
  | cons p r ih =>
    obtain ⟨n,k⟩:=p
    have hr:∀ p∈r,p.2=.free→(env.cells.lookup p.1).isSome=true:=fun p hp=>h p (List.mem_cons_of_mem _ hp)
    have ih':=ih hr
    simp only [jDS]
    by_cases hk:k=.free
    · subst hk
      obtain ⟨c,hc⟩:=Option.isSome_iff_exists.mp (h (n,.free) List.mem_cons_self rfl)
      have hc':List.lookup n env.cells=some c:=hc
      rw [show (NameKind.free == NameKind.free)=true from rfl,if_pos rfl,hc']
      have e:cellOf env n=pure c:=by unfold cellOf;rw [hc']
      have q:=ih' ((n,c) :: acc)
      simp only [List.forIn_cons,beq_self_eq_true,if_true,e,pure_bind,Option.getD_some]
      exact q
    · have hb:(k == NameKind.free)=false:=by simpa using hk
      have q:=ih' acc
      simp only [List.forIn_cons,hb,Bool.false_eq_true,if_false,pure_bind]
      exact q
theorem jJ4 {cells:List (Str×Addr)} {y:Str} {c:Addr}:∀ (names:List (Str×NameKind)) (acc:List (Str×Addr)),(∀ p∈names,p.2=.free→(cells.lookup p.1).isSome=true) →
    (∀ y c,acc.lookup y=some c→cells.lookup y=some c)→(jDS cells names acc).lookup y=some c→cells.lookup y=some c
  | [],_,_,ha,h=>ha _ _ h
  | (n,k) :: r,acc,hn,ha,h=>by
    refine jJ4 r _ (fun p hp=>hn p (List.mem_cons_of_mem _ hp)) (fun y c hy=>?_) h
    by_cases hk:(k == NameKind.free)=true
    · rw [if_pos hk] at hy
      rw [List.lookup_cons] at hy
      by_cases e:(y == n)=true
      · rw [e] at hy
        obtain ⟨d,hd⟩:=Option.isSome_iff_exists.mp (hn (n,k) List.mem_cons_self (by simpa using hk))
        have hd':cells.lookup n=some d:=hd
        have hy':(cells.lookup n).getD 0=c:=Option.some.inj hy
        rw [hd'] at hy'
        rw [eq_of_beq e,hd']
        exact congrArg some hy'
      · rw [Bool.eq_false_iff.mpr e] at hy
        exact ha y c hy
    · rw [if_neg hk] at hy
      exact ha y c hy
theorem jGd {cells:List (Str×Addr)} {y:Str}:∀ (names:List (Str×NameKind)) (acc:List (Str×Addr)),((acc.lookup y).isSome=true∨(y,NameKind.free)∈names)→((jDS cells names acc).lookup y).isSome=true
  | [],acc,h=>h.elim id (fun z=>by cases z)
  | (n,k) :: r,acc,h=>by
    refine jGd r _ ?_
    rcases h with h | h
    · refine .inl ?_
      by_cases hk:(k == NameKind.free)=true
      · rw [if_pos hk,List.lookup_cons]
        by_cases e:(y == n)=true
        · rw [e];rfl
        · rw [Bool.eq_false_iff.mpr e];exact h
      · rw [if_neg hk];exact h
    · rcases List.mem_cons.mp h with e | h
      · cases e
        refine .inl ?_
        rw [if_pos (show (NameKind.free == NameKind.free)=true from rfl),List.lookup_cons,beq_self_eq_true]
        rfl
      · exact .inr h
def jEx (X:Cx) (scope:Scope) (N':List Str) (C:Addr) (ex:List Addr) (s₂:Shared) (H₂:Hp):Cx where
  prog:=X.prog
  w:=X.w
  K:=X.K
  mg:=X.mg
  base:=X.base
  A:=X.A
  N:=N'
  s₀:=s₂
  H₀:=H₂
  env:=compEnvC scope (jDS X.env.cells scope.names []) C X.env
  outer:=X.stack
  stack:=X.stack
  ex:=ex
  fn:=fun _=>false
  calm:=X.calm
  pn:=[]
  xe:=fun _ _=>False
def jEn (X:Cx) (scope:Scope):List (Str×Nat)→Prop
  | []=>True
  | p :: r=>(X.N[p.2]?=some p.1∧X.env.kindOf p.1=some .cell∧(relabel scope X.env).names.lookup p.1=some .cell∧(p.1,NameKind.free)∈scope.names)∧jEn X scope r
theorem jEn.at {X:Cx} {scope:Scope}:∀ {fr:List (Str×Nat)},jEn X scope fr→∀ p∈fr,X.N[p.2]?=some p.1∧X.env.kindOf p.1=some .cell∧(relabel scope X.env).names.lookup p.1=some .cell∧(p.1,NameKind.free)∈scope.names
  | [],_,p,hp=>by cases hp
  | _ :: _,h,p,hp=>by
    rcases List.mem_cons.mp hp with e | hp
    · rw [e];exact h.1
    · exact jEn.at h.2 p hp
def inSt (frees:List (Str×Nat)) (σ:St) (x:Option V):St:=x :: frees.map fun p=>(σ[p.2]?).join
def PIfs (X:Cx) (ifs:List Expr) (t:TT):Prop :=
  ∀ (pins:List (Addr×Obj)) (s:Shared) (σ:St) (H:Hp) (Q:Bool→Hp→Prop),Inv X pins σ H s→t σ H Q →
    wpAny (model X.prog X.w) X.A (forIn ifs true fun c r=>if r=true then do let ok ← isTrue c X.env (eval c X.env);pure (ForInStep.yield ok) else pure (ForInStep.yield r)) (TP X pins σ Q) X.xe s
theorem jCo {X:Cx}:PIfs X [] (fun _ H Q=>Q true H):=fun _ _ _ H _ I h=>wpAny_tests_nil ⟨H,I,h⟩
theorem jGe {X:Cx} {c:Expr} {t:TT} (h:PT X c t):PIfs X [c] t:=fun pins s σ H Q I hw=>wpAny_tests_one (h pins s σ H Q I hw)
def jIp (J:It) (tc:TT) (te:TE) (σf:Option V→St) (H1:Hp) (Q:VK):Prop:=∀ D,H1 D=none →
  ∃ W:Nat→Nat→List V→Hp→Prop,(∃ m,W 0 m [] (upd H1 D (.lst [])))∧∀ i m ys H2,W i m ys H2→H2 D=some (.lst ys) ∧
    ((J.stop i H2∧Q (.ref D) H2)∨(J.go i H2∧ys.length < sizeLine∧∀ x H3,J.yld i H2 x H3→tc (σf (some x)) H3 fun b H4 =>
      if b=true then te (σf (some x)) H4 fun y H5=>H5 D=some (.lst ys)∧∃ m',m' < m∧W (i + 1) m' (ys ++ [y]) (upd H5 D (.lst (ys ++ [y]))) else ∃ m',m' < m∧W (i + 1) m' ys H4))
section
variable {prog:Program} {w:World} {A:Around} {R:Result→Shared→Prop} {s:Shared}
theorem jNv {elt target iter:Expr} {ifs:List Expr} {scope:Scope} {pos:Pos} {it acc:Value} {env:Env} (I:Nat→Shared→Prop)
    (turn:∀ n s,I n s→wpAny (model prog w) A (pyNext it) (fun r s₁=>match r with
      | none=>R (.ok .next) s₁
      | some v=>wpAny (model prog w) A (letOwnedTupleGo target it v) (fun _ s₁'=>wpAny (model prog w) A (assign target env v) (fun _ s₂ =>
          wpAny (model prog w) A (forIn ifs true fun c r=>if r=true then do let ok ← isTrue c env (eval c env);pure (ForInStep.yield ok) else pure (ForInStep.yield r)) (fun ok s₃ =>
            if ok=true then wpAny (model prog w) A (eval elt env) (fun x s₄ =>
              wpAny (model prog w) A (call (.builtin "list.append") [acc,x]) (fun _ s₅=>∃ m,m < n∧I m s₅) (fun _ _=>False) s₄) (fun _ _=>False) s₃
            else ∃ m,m < n∧I m s₃) (fun _ _=>False) s₂) (fun _ _=>False) s₁') (fun _ _=>False) s₁) (fun _ _=>False) s)
    (n:Nat) (h:I n s) :
    codeAny (model prog w) A (.compLoop (.ListComp elt [⟨target,iter,ifs,0⟩] scope pos) 0 it acc env) R s:=by
  have no:∀ {α:Type} {t:Sem α} {Q:α→Shared→Prop} {E:Value→Shared→Prop} {s:Shared},wpAny (model prog w) A t Q (fun _ _=>False) s→wpAny (model prog w) A t Q E s:=fun h=>wpAny_mono h (fun _ _ q=>q) fun _ _ f=>f.elim
  refine codeAny_loop rfl I (fun n s hI=>?_) n h
  show wpAny _ A ((compTurn (.ListComp elt [⟨target,iter,ifs,0⟩] scope pos) 0 it acc env).onRaise (fun x=>do noteFrame x env;theTreesLotGoes x)) _ _ s
  refine wpAny_noted ?_
  rw [compTurn_list]
  refine wpAny_bind (wpAny_standAt (wpAny_bind (wpAny_mono (turn n s hI) (fun r s₁ h₁=>?_) fun _ _ h'=>h'.elim)))
  cases r with
  | none=>exact wpAny_pure h₁
  | some v =>
    refine wpAny_bind (wpAny_mono h₁ (fun _ s₁' h₁'=>?_) fun _ _ h'=>h'.elim)
    refine wpAny_bind (wpAny_mono h₁' (fun _ s₂ h₂=>wpAny_bind (wpAny_mono h₂ (fun ok s₃ h₃=>?_) fun _ _ h'=>h'.elim)) fun _ _ h'=>h'.elim)
    cases ok with
    | false=>exact wpAny_pure ⟨rfl,h₃⟩
    | true =>
      exact wpAny_bind (wpAny_bind (wpAny_mono h₃ (fun x s₄ h₄=>wpAny_bind (wpAny_mono h₄ (fun _ s₅ h₅=>wpAny_pure (wpAny_pure ⟨rfl,h₅⟩)) fun _ _ h'=>h'.elim)) fun _ _ h'=>h'.elim))
end
section
variable {X:Cx} {elt iter:Expr} {x:Str} {px pos:Pos} {ifs:List Expr} {scope:Scope} {frees:List (Str×Nat)} {tc:TT} {te:TE}
structure jK8 (X:Cx) (scope:Scope) (x:Str) (frees:List (Str×Nat)):Prop where
  cell:∀ y∈scope.names,y.2≠.cell
  kind:scope.kind=.function
  own:scope.names.lookup x=some .local
  names:∀ y∈scope.names,y.2=.local→scope.names.lookup y.1=some .local
  fr:jEn X scope frees
  nd:(x :: frees.map (·.1)).Nodup
  cl:∀ p∈scope.names,p.2=.free→(X.env.cells.lookup p.1).isSome=true
  calm:X.calm=true
theorem jK9 {scope:Scope} {env:Env} {y:Str} (hc:∀ y∈scope.names,y.2≠.cell) (h:(relabel scope env).names.lookup y=some .cell∨(relabel scope env).names.lookup y=some .free):(y,NameKind.free)∈scope.names:=by
  have key:∀ k,(relabel scope env).names.lookup y=some k→k≠.local→k=.cell∨k=.free→(y,NameKind.free)∈scope.names:=fun k hk _ hkk=>by
    have hm:=PySem.mem_of_lookup hk
    obtain ⟨⟨n,k0⟩,hm0,e⟩:=List.mem_map.mp hm
    by_cases hcond:(k0 == NameKind.free && env.scope.kind == .function && env.kindOf n == some .cell)=true
    · have e':(n,NameKind.cell)=(y,k):=by rw [← e];exact (if_pos hcond).symm
      have hk0:k0=.free:=by
        rw [Bool.and_eq_true,Bool.and_eq_true] at hcond
        exact eq_of_beq hcond.1.1
      have en:n=y:=congrArg Prod.fst e'
      rw [← en,← hk0]
      exact hm0
    · have e':(n,k0)=(y,k):=by rw [← e];exact (if_neg hcond).symm
      have en:n=y:=congrArg Prod.fst e'
      have ek:k0=k:=congrArg Prod.snd e'
      rcases hkk with hkk | hkk
      · exact absurd (ek.trans hkk) (hc _ hm0)
      · rw [← en,← hkk,← ek]
        exact hm0
  rcases h with h | h
  · exact key _ h (by decide) (.inl rfl)
  · exact key _ h (by decide) (.inr rfl)
theorem jJ5 {pins:List (Addr×Obj)} {σ:St} {H1:Hp} {s₂:Shared} {it:Addr} {fp:List Addr} {tn:Nat→Heap→Prop} {J:It} {Q:VK} {RR:Value→Addr→Result→Shared→Prop} {E:Value→Shared→Prop}
    (O:jK8 X scope x frees) (hc:∀ C ex s₂ H₂,PIfs (jEx X scope (x :: frees.map (·.1)) C ex s₂ H₂) ifs tc) (he:∀ C ex s₂ H₂,PE (jEx X scope (x :: frees.map (·.1)) C ex s₂ H₂) elt te)
    (I:Inv X pins σ H1 s₂) (T:Turn X.prog X.w X.K (.Name x px) J fp it tn) (st:tn 0 s₂.heap) (hf:∀ b∈fp,jF8 X pins H1 b) (hB:jIp J tc te (inSt frees σ) H1 Q)
    (hRR:∀ D C H' s',Inv X pins σ H' s'→(∃ m,s'.heap.Ns C m)→jF8 X pins H' C→Q (.ref D) H'→RR (.ref D) C (.ok .next) s') :
    wpAny (model X.prog X.w) X.A (newList []) (fun acc s₃=>wpAny (model X.prog X.w) X.A (newFunctionEnv scope X.env.globals (jDS X.env.cells scope.names []) [] X.env.qual none .none (some X.env)) (fun cenv s₄ =>
      codeAny (model X.prog X.w) X.A (.compStart (.ListComp elt [⟨.Name x px,iter,ifs,0⟩] scope pos) 0 (.ref it) acc { cenv with scope:=relabel scope X.env }) (RR acc cenv.locals) s₄) E s₃) E s₂:=by
  refine wpAny_newObj_type (wpAny_newFunctionEnv O.cell (by intro y hy;simp at hy) (fun h₁ hns₁ hsb₁=>?_) O.kind)
  dsimp only at hns₁ hsb₁ ⊢
  generalize hH2:s₂.heap.push { cls:=.type "list",dict:=none,data:=.seq ([]:List Value).toArray }=H2 at hns₁ hsb₁ ⊢
  have hC:H2.objs.size=s₂.heap.objs.size + 1:=by rw [← hH2,Heap.size_push]
  have hDC:s₂.heap.objs.size≠H2.objs.size:=by rw [hC];exact Nat.ne_of_lt (Nat.lt_succ_self _)
  have hCle:s₂.heap.objs.size≤H2.objs.size:=by rw [hC];exact Nat.le_succ _
  have below:∀ b,b < s₂.heap.objs.size→b≠H2.objs.size∧b≠s₂.heap.objs.size:=fun b hb=>⟨by rw [hC];exact Nat.ne_of_lt (Nat.lt_succ_of_lt hb),Nat.ne_of_lt hb⟩
  have old:∀ b o,s₂.heap.get? b=some o→h₁.get? b=some o:=fun b o e=>hsb₁.extBut b o (below b (Heap.lt_size e)).1 (Heap.get?_push_of_some _ (hH2 ▸ Heap.get?_push_of_some _ e))
  have hacc:h₁.get? s₂.heap.objs.size=some { cls:=.type "list",data:=.seq ([]:List Value).toArray }:=hsb₁.extBut _ _ hDC (Heap.get?_push_of_some _ (hH2 ▸ Heap.get?_push_size _ rfl))
  have nD:H1 s₂.heap.objs.size=none:=I.hok.fresh (Nat.le_refl _)
  obtain ⟨W,⟨m0,w0⟩,hW⟩:=hB s₂.heap.objs.size nD
  -- the block's context and its first state
  let X':Cx:=jEx X scope (x :: frees.map (·.1)) H2.objs.size fp s₂ H1
  have inC:∀ y c,(jDS X.env.cells scope.names []).lookup y=some c→X.env.cells.lookup y=some c:=fun y c h=>jJ4 scope.names [] O.cl (fun y c h=>by cases h) h
  have fpl:∀ b∈fp,b < s₂.heap.objs.size:=fun b hb=>by
    obtain ⟨o,e,_⟩:=T.obj _ _ st b hb
    exact Heap.lt_size e
  have ok':X'.Ok:=by
    refine ⟨I.ok.mod,O.kind,I.ok.glob,I.ok.blt,hCle,fun y z c h1 h2=>I.ok.inj y z c (inC y c h1) (inC z c h2),fun y hy=>?_,fun y c h _=>(by cases h),I.ok.hd,I.ok.frames,.inl rfl,fun b hb=>?_,I.bs,Nat.le_trans I.ok.bsz I.sz,fun b o e hb=>?_,fun b hb z=>?_,I.stack,I.stkFree⟩
    · exact Option.isSome_iff_exists.mp (jGd scope.names [] (.inr (jK9 O.cell hy)))
    · exact ⟨(below b (fpl b hb)).1,fun y c h=>(hf b hb).2.2.2.2.1 y c (inC y c h)⟩
    · rcases (hf b hb).2.2.2.1 with z | z
      · exact I.ok.noex b o e z
      · exact absurd (Nat.lt_of_lt_of_le (Nat.lt_of_lt_of_le (Heap.lt_size e) I.ok.bsz) z) (Nat.lt_irrefl _)
    · exact (List.mem_cons.mp (I.stkSub b z)).elim (hf b hb).2.1 (hf b hb).2.2.1
  have hok1:HOk X.prog X.w (upd H1 s₂.heap.objs.size (.lst [])) h₁:=I.hok.laid old (Nat.le_refl _) ⟨Nat.zero_le _,[],0,.nil,hacc⟩
  have I0:∀ tk,Inv X' [] (inSt frees σ none) (upd H1 s₂.heap.objs.size (.lst [])) { s₂ with heap:=h₁,toks:=tk }:=fun tk=>by
    refine ⟨ok',rfl,I.bare,Un.laid old (Nat.le_refl _) nD,⟨_,hns₁,fun i y v h1 h2 h3=>?_⟩,fun y c h=>?_,?_,fun y c h=>?_,fun p hp=>absurd (show p∈([]:List (Addr×Obj)) from hp) (by simp),hok1,?_⟩
    · cases i with
      | zero =>
        have h2':(none:Option V)=some v:=Option.some.inj h2
        cases h2'
      | succ j =>
        have h1':(frees.map (·.1))[j]?=some y:=h1
        have h2':(frees.map fun p=>(σ[p.2]?).join)[j]?=some (some v):=h2
        rw [List.getElem?_map] at h1' h2'
        cases e:frees[j]? with
        | none=>rw [e] at h1';cases h1'
        | some p =>
          rw [e] at h1' h2'
          have e1:p.1=y:=Option.some.inj h1'
          have e2:(σ[p.2]?).join=some v:=Option.some.inj h2'
          obtain ⟨g1,g2,g3,g4⟩:=O.fr.at p (List.mem_of_getElem? e)
          have e3:σ[p.2]?=some (some v):=by
            cases q:σ[p.2]? with
            | none=>rw [q] at e2;cases e2
            | some o=>rw [q] at e2;exact congrArg some e2
          obtain ⟨m,hn,hl⟩:=I.loc
          obtain ⟨u,r,l⟩:=hl p.2 p.1 v g1 e3 (.inr (.inl g2))
          refine ⟨u,r,?_⟩
          rcases l with ⟨k,_⟩ | ⟨_,c,hc1,hc2⟩
          · rw [g2] at k;cases k
          · obtain ⟨c2,hc3⟩:=Option.isSome_iff_exists.mp (jGd (cells:=X.env.cells) scope.names [] (.inr g4))
            have hc4:=inC _ _ hc3
            rw [hc1] at hc4
            cases hc4
            rw [← e1]
            refine .inr ⟨.inl g3,c,hc3,?_⟩
            obtain ⟨o,ho,hd⟩:=hc2
            exact ⟨o,old c o ho,hd⟩
    · obtain ⟨v,o,ho,hd⟩:=I.cell y c (inC y c h)
      exact ⟨v,o,old c o ho,hd⟩
    · show upd H1 s₂.heap.objs.size (.lst []) H2.objs.size=none
      rw [jAj (Ne.symm hDC)]
      exact I.hok.fresh hCle
    · obtain ⟨v,o,ho,hd⟩:=I.cell y c (inC y c h)
      rw [jAj (below c (Heap.lt_size ho)).2]
      exact I.freeC y c (inC y c h)
    · show (inSt frees σ none).length=(x :: frees.map (·.1)).length
      simp [inSt]
  have stat:∀ {H':Hp},(∀ b∈fp,H' b=none)→∀ b∈fp,jF8 X' [] H' b:=fun hn b hb =>
    ⟨hn b hb,(below b (fpl b hb)).1,fun z=>(List.mem_cons.mp (I.stkSub b z)).elim (hf b hb).2.1 (hf b hb).2.2.1,.inl hb,fun y c h=>(hf b hb).2.2.2.2.1 y c (inC y c h),fun p hp=>absurd (show p∈([]:List (Addr×Obj)) from hp) (by simp)⟩
  have hst₁:tn 0 h₁:=T.keep _ _ _ st fun b _ o e=>old b o e
  have fr0:∀ b∈fp,(upd H1 s₂.heap.objs.size (.lst [])) b=none:=fun b hb=>by
    rw [jAj (below b (fpl b hb)).2]
    exact (hf b hb).1
  have loop:∀ tk,codeAny (model X.prog X.w) X.A (.compLoop (.ListComp elt [⟨.Name x px,iter,ifs,0⟩] scope pos) 0 (.ref it) (.ref s₂.heap.objs.size) X'.env) (RR (.ref s₂.heap.objs.size) H2.objs.size) { s₂ with heap:=h₁,toks:=tk }:=fun tk=>by
    refine jNv (fun n s'=>∃ i ys o H',Inv X' [] (inSt frees σ o) H' s'∧tn i s'.heap∧(∀ b∈fp,H' b=none)∧W i n ys H') ?_ m0 ⟨0,[],none,_,I0 tk,hst₁,fr0,w0⟩
    rintro n s3 ⟨i,ys,o3,H3,I3,st3,fr3,w3⟩
    obtain ⟨hD3,alt⟩:=hW i n ys H3 w3
    rcases alt with ⟨stop,q⟩ | ⟨go,hlt,step⟩
    · refine thn (T.done X' rfl rfl rfl O.calm i [] s3 _ H3 _ I3 (stat fr3) st3 stop) fun r s4 ⟨hr,I4⟩=>?_
      subst hr
      have J4:Inv X pins σ H3 s4:=I.call' (ch:=fp) I4.os I4.base I4.hok I4.bare fun b hb=>⟨(hf b hb).2.2.2.1,(hf b hb).2.1,(hf b hb).2.2.2.2.1,(hf b hb).2.2.2.2.2⟩
      obtain ⟨m4,hn4,_⟩:=I4.loc
      exact hRR _ _ H3 s4 J4 ⟨m4,hn4⟩ (I.fpOk hCle I4.free) q
    · refine thn (T.item X' rfl rfl rfl O.calm i [] s3 _ H3 _ I3 (stat fr3) st3 go) fun r s4 ⟨u,hr,h4⟩=>?_
      subst hr
      refine thn h4 fun _ s5 ⟨v,H5,I5,r5,y5,st5,fr5⟩=>?_
      have I5':=I5.pinned (stat fr5) (T.obj _ _ st5)
      have tail:∀ {σ7:St} {H7:Hp} {s7:Shared},Inv X' ([] ++ jGU fp s5.heap) σ7 H7 s7→Inv X' [] σ7 H7 s7∧tn (i + 1) s7.heap∧∀ b∈fp,H7 b=none:=fun {σ7 H7 s7} I7=>by
        refine ⟨I7.unpinned,T.keep _ _ _ st5 fun b hb o e=>(I7.pin (b,o) (List.mem_append_right _ (List.mem_append_right _ (jEd hb e)))).1,fun b hb=>?_⟩
        obtain ⟨o,e,d⟩:=T.obj _ _ st5 b hb
        exact (I7.pin (b,o) (List.mem_append_right _ (List.mem_append_right _ (jEd hb e)))).2.1
      have hg:PG X' (.Name x px) (jBr 0):=jMm O.nd rfl (Or.inl (lookup_relabel_local O.own)) (.inr (lookup_relabel_local O.own))
      refine thn (hg _ s5 _ H5 v u (fun σ6 H6=>σ6=inSt frees σ (some v)∧H6=H5) I5' r5 ⟨rfl,rfl⟩) fun _ s6 ⟨σ6,H6,I6,e6,e6'⟩=>?_
      subst e6 e6'
      refine thn (hc _ _ _ _ _ s6 _ _ _ I6 (step v _ y5)) fun b s7 ⟨H7,I7,q7⟩=>?_
      cases b with
      | false =>
        obtain ⟨m',hm,w7⟩:=(show ∃ m',m' < n∧W (i + 1) m' ys H7 from q7)
        obtain ⟨t1,t2,t3⟩:=tail I7
        exact ⟨m',hm,i + 1,ys,some v,H7,t1,t2,t3,w7⟩
      | true =>
        refine thn (he _ _ _ _ _ s7 _ _ _ I7 q7) fun y s8 ⟨y',H8,I8,r8,hD8,m',hm,w8⟩=>?_
        refine thn (jJZ (X:=X') _ s8 _ H8 (.ref s₂.heap.objs.size) [y'] _ [y] (fun _ H9=>H9=upd H8 s₂.heap.objs.size (.lst (ys ++ [y']))) I8 rfl (.cons r8 .nil) ⟨_,_,_,rfl,rfl,hD8,hlt,rfl⟩) fun _ s9 ⟨_,H9,I9,_,e9⟩=>?_
        subst e9
        obtain ⟨t1,t2,t3⟩:=tail I9
        exact ⟨m',hm,i + 1,ys ++ [y'],some v,_,t1,t2,t3,w8⟩
  exact codeAny_compStart_list (loop _) (T.self _ 0 _ _ _ hst₁ (loop _))
def tComp (frees:List (Str×Nat)) (tc:TT) (te:TE) (wi:TI):TE:=fun σ H Q=>wi σ H fun J H1=>jIp J tc te (inSt frees σ) H1 Q
theorem jCg {wi:TI} (O:jK8 X scope x frees) (hxe:X.xe=fun _ _=>False) (hi:PI X (.Name x px) iter wi)
    (hc:∀ C ex s₂ H₂,PIfs (jEx X scope (x :: frees.map (·.1)) C ex s₂ H₂) ifs tc) (he:∀ C ex s₂ H₂,PE (jEx X scope (x :: frees.map (·.1)) C ex s₂ H₂) elt te)
    (hs:∀ x,foldedSetIterable iter X.env x=pure x:=by intro _;rfl):PE X (.ListComp elt [⟨.Name x px,iter,ifs,0⟩] scope pos) (tComp frees tc te wi):=by
  intro pins s σ H Q I h
  rw [eval_ListComp]
  refine wpAny_comprehension_free (use:=none) rfl hs (jGI O.cl) O.kind O.names (thn (hi pins s σ H _ I h) fun xv s₁ h₁=>thn h₁ fun itv s₂ h₂=>?_)
  obtain ⟨it,fp,tn,J,H2,e,I2,T,st2,f2,hB⟩:=h₂
  subst e
  refine jJ5 (RR:=fun acc C=>compPost (model X.prog X.w) X.A X.xe none (EP X pins σ Q) acc C) O hc he I2 T st2 f2 hB ?_
  intro D C H' s' I' hn hC q
  obtain ⟨m,hn⟩:=hn
  refine ⟨m,hn,fun h' hs'=>?_⟩
  exact ⟨.ref D,H',I'.turned (t':=s'.toks) (fun b o hb e=>hs'.extBut b o hb e) hC.1 hC.2.1 hC.2.2.2.1 hC.2.2.2.2.1 hC.2.2.2.2.2,rfl,q⟩
theorem jMx {wi:TI} {i:Nat} {y:Str} {py spos:Pos} (O:jK8 X scope x frees) (hN:X.N.Nodup) (hiy:X.N[i]?=some y) (hy:X.env.kindOf y=some .local) (hsw:swapsWith (.ListComp elt [⟨.Name x px,iter,ifs,0⟩] scope pos) (some (.Name y py)) spos.line X.env=pure true)
    (hi:PI X (.Name x px) iter wi) (hc:∀ C ex s₂ H₂,PIfs (jEx X scope (x :: frees.map (·.1)) C ex s₂ H₂) ifs tc) (he:∀ C ex s₂ H₂,PE (jEx X scope (x :: frees.map (·.1)) C ex s₂ H₂) elt te)
    (hs:∀ x,foldedSetIterable iter X.env x=pure x:=by intro _;rfl):PS X (.Assign [.Name y py] (.ListComp elt [⟨.Name x px,iter,ifs,0⟩] scope pos) spos) (tAsg (tComp frees tc te wi) (jBr i)):=by
  intro pins s σ H D I h
  rw [exec_Assign_Name_used _ _ _ _ hsw]
  refine wpAny_bind (wpAny_standAt (wpAny_bind ?_))
  show wpAny _ X.A (do let _ ← comprehension (.ListComp elt [⟨.Name x px,iter,ifs,0⟩] scope pos) scope X.env _ (newList []) false (eval iter X.env) (some (assign (.Name y py) X.env))) _ _ s
  refine wpAny_bind (wpAny_mono (wpAny_comprehension_free (use:=some (assign (.Name y py) X.env)) (Q:=fun _ s'=>SP X pins D .next s') rfl hs (jGI O.cl) O.kind O.names
    (thn (hi pins s σ H _ I h) fun xv s₁ h₁=>thn h₁ fun itv s₂ h₂=>?_)) (fun _ s' hq=>wpAny_pure (wpAny_pure hq)) fun _ _ e=>e)
  obtain ⟨it,fp,tn,J,H2,e,I2,T,st2,f2,hB⟩:=h₂
  subst e
  refine jJ5 (RR:=fun acc C=>compPost (model X.prog X.w) X.A X.xe (some (assign (.Name y py) X.env)) (fun _ s'=>SP X pins D .next s') acc C) O hc he I2 T st2 f2 hB ?_
  intro A C H' s' I' hn hC q
  obtain ⟨m,hn⟩:=hn
  obtain ⟨oC,es,ep,hoC,hdC,hr⟩:=id hn
  have I'':Inv X (pins ++ [(C,oC)]) σ H' s':=I'.pins_of fun p hp=>(List.mem_append.mp hp).elim (fun z=>I'.pin p (List.mem_append_right _ z)) fun z=>by
    rw [List.mem_singleton.mp z]
    exact ⟨hoC,hC.1,hC.2.1,hC.2.2.1,fun v e=>by rw [hdC] at e;cases e⟩
  show wpAny _ X.A (assign (.Name y py) X.env (.ref A)) _ _ _
  refine wpAny_assign_Name (jEs I'' hN hiy (.inl hy) (v:=.ref A) rfl (fun s3 I3=>?_) (.inr hy))
  have hC3:=(I3.pin (C,oC) (List.mem_append_right _ (List.mem_append_right _ (List.mem_singleton.mpr rfl)))).1
  have J3:Inv X pins (σ.set i (some (.ref A))) H' s3:=I3.unpinned
  refine ⟨m,⟨oC,es,ep,hC3,hdC,hr⟩,fun h' hs'=>?_⟩
  exact ⟨_,H',J3.turned (t':=s3.toks) (fun b o hb e=>hs'.extBut b o hb e) hC.1 hC.2.1 hC.2.2.2.1 hC.2.2.2.2.1 hC.2.2.2.2.2,q⟩
end
end L2
namespace L2
open PySem PySem.Spec PyProof.Rows
section
variable {X:Cx}
def rSlS:V→Option Int→Option Int→Hp→VK→Prop:=fun x lo hi H Q=>∃ z,x=.str z∧z.length≤sizeLine∧Q (.str (Txt.slice z lo hi)) H
theorem jMy {v:Value} {o:Option Int} (p:IsPart v o):∃ l:Option (Int×Tok),v=partValue l∧l.map (·.1)=o:=by
  cases p with
  | none=>exact ⟨none,rfl,rfl⟩
  | int i t=>exact ⟨some (i,t),rfl,rfl⟩
theorem jK_:SlR X rSlS:=by
  intro pins s σ H x v vl vu lo hi sl Q I rx hs pl pu h
  obtain ⟨z,rfl,hz,q⟩:=h
  obtain ⟨t,rfl⟩:=rx
  obtain ⟨l,rfl,rfl⟩:=jMy pl
  obtain ⟨u,rfl,rfl⟩:=jMy pu
  exact ⟨"str",_,F.slot_str_getitem.lookup,typeIs_str _ _ _,wpAny_getItem_str_slice (l:=l) (u:=u) (st:=none) hs rfl
    (post_val_or_str ⟨Nat.le_trans (Txt.slice_le z _ _) hz,fun t' k=>⟨.str _,H,I.tok _,⟨t',rfl⟩,q⟩⟩)⟩
end
structure Seq (J:It) (H1:Hp) (xs:List V):Prop where
  go:∀ i H,jAo H1 H→i < xs.length→J.go i H
  yld:∀ i H x H',jAo H1 H→i < xs.length→J.yld i H x H'→H'=H∧xs[i]?=some x
  stop:∀ H,jAo H1 H→J.stop xs.length H
theorem jDT (lo:Int) (n:Nat) (H1:Hp):Seq (Itr lo n) H1 ((List.range n).map fun i=>V.int (lo + (i:Nat))) where
  go:=fun i H _ h=>by
    rw [List.length_map,List.length_range] at h
    exact h
  yld:=fun i H x H' _ hi h=>by
    obtain ⟨e,hx⟩:=h
    refine ⟨e,?_⟩
    rw [List.length_map,List.length_range] at hi
    rw [List.getElem?_map,List.getElem?_range hi,hx]
    rfl
  stop:=fun H _=>by
    show n≤_
    rw [List.length_map,List.length_range]
    exact Nat.le_refl _
theorem jEy {K:PySem.W.Frag} {a:Addr} {xs:List V} {H1:Hp} (h:SqL K H1 a xs):Seq (Itl K a) H1 xs where
  go:=fun i H e hi=>⟨xs,xs[i],e.seq h,List.getElem?_eq_getElem hi⟩
  yld:=fun i H x H' e _ y=>⟨y.1,y.2 xs (e.seq h)⟩
  stop:=fun H e=>⟨xs,e.seq h,Nat.le_refl _⟩
theorem jJ6 {α:Type} {xs:List α} {i:Nat} {x:α} (h:xs[i]?=some x):xs.take (i + 1)=xs.take i ++ [x]:=by
  rw [List.take_succ,h]
  rfl
theorem jCW {J:It} {tc:TT} {te:TE} {σf:Option V→St} {H1:Hp} {Q:VK} {xs:List V} (S:Seq J H1 xs) (p:V→Bool) (g:V→V) (hz:xs.length < sizeLine)
    (hc:∀ x∈xs,∀ (H':Hp) (R:Bool→Hp→Prop),jAo H1 H'→R (p x) H'→tc (σf (some x)) H' R)
    (he:∀ x∈xs,∀ (H':Hp) (R:VK),jAo H1 H'→p x=true→R (g x) H'→te (σf (some x)) H' R)
    (q:∀ D H',jAo H1 H'→H1 D=none→H' D=some (.lst ((xs.filter p).map g))→Q (.ref D) H'):jIp J tc te σf H1 Q:=by
  intro D hD
  refine ⟨fun i m ys H2=>m=xs.length - i∧i≤xs.length∧jAo H1 H2∧H2 D=some (.lst ys)∧ys=((xs.take i).filter p).map g,⟨xs.length,rfl,Nat.zero_le _,jAk hD _,jAc,rfl⟩,?_⟩
  rintro i m ys H2 ⟨rfl,hi,sm,hD2,rfl⟩
  refine ⟨hD2,?_⟩
  by_cases hlt:i < xs.length
  · refine .inr ⟨S.go i H2 sm hlt,?_,fun x H3 y=>?_⟩
    · rw [List.length_map]
      refine Nat.lt_of_le_of_lt (List.length_filter_le _ _) ?_
      rw [List.length_take]
      omega
    · obtain ⟨e,hx⟩:=S.yld i H2 x H3 sm hlt y
      subst e
      have mem:x∈xs:=List.mem_of_getElem? hx
      refine hc x mem _ _ sm ?_
      cases hp:p x with
      | false =>
        refine jAK ⟨xs.length - (i + 1),by omega,rfl,hlt,sm,hD2,?_⟩
        rw [jJ6 hx,List.filter_append,List.filter_cons_of_neg (by rw [hp];decide),List.filter_nil,List.append_nil]
      | true =>
        refine jAP (he x mem _ _ sm hp ⟨hD2,xs.length - (i + 1),by omega,rfl,hlt,jCx hD sm _,jAc,?_⟩)
        rw [jJ6 hx,List.filter_append,List.filter_cons_of_pos hp,List.filter_nil,List.map_append]
        rfl
  · have e:i=xs.length:=by omega
    subst e
    refine .inl ⟨S.stop H2 sm,q D H2 sm hD ?_⟩
    rw [hD2,List.take_of_length_le (Nat.le_refl _)]
def jOf (cells:List (Str×Addr)) (names:List (Str×NameKind)):Bool:=names.all fun p=>if (p.2 == NameKind.free)=true then (cells.lookup p.1).isSome else true
theorem jBd {cells:List (Str×Addr)} {names:List (Str×NameKind)} (h:jOf cells names=true):∀ p∈names,p.2=.free→(cells.lookup p.1).isSome=true:=fun p hp hk=>by
  have q:=(List.all_eq_true.mp h) p hp
  rw [hk,show (NameKind.free == NameKind.free)=true from rfl,if_pos rfl] at q
  exact q
end L2
namespace L2
open PySem PySem.Spec PyProof.Rows
section
variable {X:Cx}
theorem jGJ:CallR X (.type "int") (fun xs H Q=>∃ z n,xs=[.str z]∧PySem.intText? z=some n∧z.length≤640∧Q (.int n) H):=by
  intro pins s σ H xs us Q I r h
  obtain ⟨z,n,rfl,hn,hl,q⟩:=h
  obtain ⟨u,rfl,t,rfl⟩:=jEe r
  exact PySem.W.KIN.call_text hn hl ⟨.int n,H,I.tok _,⟨_,rfl⟩,q⟩
theorem jLa (K:PySem.W.Frag):PySem.W.kitOne K (.type "int") (.type "bool")=some false:=by
  have e1:PySem.W.kitMeta "bool"=true:=by decide +kernel
  have e2:PySem.W.subIn K (.type "int") (.type "bool")=some false:=by
    show (fastBuiltinMro "int").map (·.contains (Value.type "bool"))=some false
    decide +kernel
  show (if (Value.type "int" == Value.type "bool")=true then some true else (if PySem.W.kitMeta "bool"=true then PySem.W.subIn K (.type "int") (.type "bool") else none))=some false
  rw [if_neg (by decide),if_pos e1]
  exact e2
def rIxLA (K:PySem.W.Frag):R2:=fun x y H Q=>∃ p xs i,x=.ref p∧y=.int i∧SqL K H p xs∧0≤i∧i < ((xs.length:Nat):Int)∧∀ v,xs[i.toNat]?=some v→Q v H
theorem jAH:IxR X (rIxLA X.K):=by
  intro value slice pins s σ H x y v u Q I rx ry h hs
  obtain ⟨p,xs,i,rfl,rfl,hq,h0,h1,q⟩:=h
  obtain ⟨c,e1,e2⟩:=at_in (xs:=xs) h0 h1
  exact jDi value slice pins s σ H _ _ v u Q I rx ry ⟨p,xs,i,c,rfl,rfl,hq,e2,q c e1⟩ hs
def intV:V→Bool
  | .int _=>true
  | _=>false
end
end L2
namespace L2
open PySem PySem.Spec PyProof.Rows
section
variable {X:Cx}
def PSk (X:Cx) (st:Stmt) (t:TS):Prop :=
  ∀ (pins:List (Addr×Obj)) (s:Shared) (σ:St) (H:Hp) (D:jBB),Inv X pins σ H s→1≤s.toks→t D σ H→wpAny (model X.prog X.w) X.A (exec st X.env) (SP X pins D) X.xe s
def PSsK (X:Cx) (st:List Stmt) (t:TS):Prop :=
  ∀ (pins:List (Addr×Obj)) (s:Shared) (σ:St) (H:Hp) (D:jBB),Inv X pins σ H s→1≤s.toks→t D σ H→wpAny (model X.prog X.w) X.A (execs st X.env) (SP X pins D) X.xe s
def PEk (X:Cx) (e:Expr) (t:TE):Prop :=
  ∀ (pins:List (Addr×Obj)) (s:Shared) (σ:St) (H:Hp) (Q:VK),Inv X pins σ H s→1≤s.toks→t σ H Q→wpAny (model X.prog X.w) X.A (eval e X.env) (EP X pins σ Q) X.xe s
def PE1 (X:Cx) (e:Expr) (t:TE):Prop :=
  ∀ (pins:List (Addr×Obj)) (s:Shared) (σ:St) (H:Hp) (Q:VK),Inv X pins σ H s→t σ H Q→wpAny (model X.prog X.w) X.A (eval e X.env) (fun u s'=>1≤s'.toks∧EP X pins σ Q u s') X.xe s
def PS1 (X:Cx) (st:Stmt) (t:TS):Prop :=
  ∀ (pins:List (Addr×Obj)) (s:Shared) (σ:St) (H:Hp) (D:jBB),Inv X pins σ H s→t D σ H→wpAny (model X.prog X.w) X.A (exec st X.env) (fun f s'=>1≤s'.toks∧SP X pins D f s') X.xe s
def tRepl (y z:Str) (to:TE):TE:=fun σ H Q=>to σ H fun v H1=>∃ x,v=.str x∧x.length + (x.length + 1) * z.length≤16777216∧∀ u:Str,u.length≤x.length + (x.length + 1) * z.length→Q (.str u) H1
end
end L2
namespace L2
open PySem PySem.Spec PyProof.Rows
section
variable {prog:Program} {w:World} {A:Around} {E:Value→Shared→Prop} {s:Shared}
set_option maxHeartbeats 2000000 in
end
end L2
namespace L2
open PySem PySem.Spec PyProof.Rows
section
variable {prog:Program} {w:World} {A:Around} {E:Value→Shared→Prop} {s:Shared}
end
end L2
namespace L2
open PySem PySem.Spec PyProof.Rows
section
variable {prog:Program} {w:World} {A:Around} {E:Value→Shared→Prop} {s:Shared}
end
def Ite (K:PySem.W.Frag) (a:Addr) (j:Int):It :=
  ⟨fun i H=>∃ xs x,SqL K H a xs∧xs[i]?=some x,fun i H x H'=>∃ p y,x=.ref p∧H p=none∧H'=upd H p (.tup [.int (j + (i:Nat)),y])∧∀ xs,SqL K H a xs→xs[i]?=some y,fun i H=>∃ xs,SqL K H a xs∧xs.length=i⟩
section
variable {X:Cx} {elts:List Expr} {x1:Nat} {tpos:Pos}
def iEnumK (K:PySem.W.Frag) (tl:TA) (tj:TA):TI:=fun σ H R=>tl σ H fun vs H1=>tj σ H1 fun zs H2=>∃ a j,vs=[.ref a]∧zs=[.int j]∧(∃ xs,SqL K H2 a xs)∧Builtin.SmallTypes.fitsIndex j=true∧R (Ite K a j) H2
def iEnum (K:PySem.W.Frag) (tl:TA):TI:=fun σ H R=>tl σ H fun vs H1=>∃ a,vs=[.ref a]∧(∃ xs,SqL K H1 a xs)∧R (Ite K a 0) H1
end
end L2
namespace L2
open PySem PySem.Spec PyProof.Rows
section
variable {X:Cx} {pins:List (Addr×Obj)} {σ:St} {H:Hp} {s:Shared} {d:Addr} {kvs:List (Key×V)}
theorem Inv.freeze (I:Inv X pins σ H s) (h:H d=some (.dK kvs)):∃ o,s.heap.get? d=some o∧Inv X pins σ (upd H d (.frz o (.dK kvs))) s:=by
  obtain ⟨z,hd,vs,r,o,es,ep,e,c⟩:=I.hok d _ h
  have mu:Mut (H d):=by rw [h];trivial
  refine ⟨o,e,I.un (h':=s.heap) (t':=s.toks) (Un.write mu (.inl rfl) (fun _ _ _ q=>q) ⟨o,e⟩) (I.hok.write mu (.inl rfl) (fun _ _ _ q=>q) ⟨o,e⟩ ⟨e,z,hd,vs,r,o,es,ep,e,c⟩)⟩
theorem Inv.thaw {o:Obj} (I:Inv X pins σ H s) (h:H d=some (.frz o (.dK kvs))) (h0:∀ o u,X.H₀ d≠some (.frz o u)):Inv X pins σ (upd H d (.dK kvs)) s:=by
  have nn:∀ b,H b=none→b≠d:=fun b q z=>by rw [z,h] at q;cases q
  refine ⟨I.ok,I.os,I.bare,⟨I.base.keep,I.base.slot,fun b o' e n hx=>?_,I.base.there,fun b xs e=>?_,fun b o' u e=>?_,fun b ps e=>?_⟩,I.loc,I.cell,?_,fun x c e=>?_,fun p hp=>?_,fun b u e=>?_,I.len⟩
  · have q:=I.base.free b o' e n hx
    rw [jAj (nn b q)]
    exact q
  · have q:=I.base.tups b xs e
    rw [jAj (jAn q h (by intro z;cases z))]
    exact q
  · have q:=I.base.frzs b o' u e
    rw [jAj (fun z=>h0 o' u (by rw [← z];exact e))]
    exact q
  · obtain ⟨more,q⟩:=I.base.tbls b ps e
    refine ⟨more,?_⟩
    rw [jAj (jAn q h (by intro z;cases z))]
    exact q
  · rw [jAj (nn _ I.free)]
    exact I.free
  · rw [jAj (nn _ (I.freeC x c e))]
    exact I.freeC x c e
  · obtain ⟨a,b,c⟩:=I.pin p hp
    exact ⟨a,by rw [jAj (nn _ b)];exact b,c⟩
  · by_cases hb:b=d
    · subst hb
      rw [jAc] at e
      cases e
      obtain ⟨q,ok⟩:=I.hok b _ h
      exact ok
    · rw [jAj hb] at e
      exact (I.hok b u e).stay (fun _ _ _ q=>q) (fun c q=>by rw [jAj (jAn q h (by intro z;cases z))];exact q) (fun c xs q=>by rw [jAj (jAn q h (by intro z;cases z))];exact q)
theorem Inv.unfrozen (I:Inv X pins σ H s) (h:H d=some (.dK kvs)):∀ o u,X.H₀ d≠some (.frz o u):=fun o u e=>by
  have q:=I.base.frzs d o u e
  rw [h] at q
  cases q
def tFrz (t:TE):TE:=fun σ H Q=>∃ (d:Addr) (kvs:List (Key×V)),H d=some (.dK kvs)∧∀ o,t σ (upd H d (.frz o (.dK kvs))) fun v H'=>H' d=some (.frz o (.dK kvs))∧Q v (upd H' d (.dK kvs))
theorem pe_frz {e:Expr} {t:TE} (h:PE X e t):PE X e (tFrz t):=by
  intro pins s σ H Q I hw
  obtain ⟨d,kvs,hd,q⟩:=hw
  obtain ⟨o,eo,I1⟩:=I.freeze hd
  refine thn (h pins s σ _ _ I1 (q o)) fun v s1 ⟨x,H1,I2,r,hz,q2⟩=>?_
  exact ⟨x,_,I2.thaw hz (I.unfrozen hd),r,q2⟩
def sFrz (t:TS):TS:=fun D σ H=>∃ (d:Addr) (kvs:List (Key×V)),H d=some (.dK kvs)∧∀ o,t { nx:=fun σ' H'=>H' d=some (.frz o (.dK kvs))∧D.nx σ' (upd H' d (.dK kvs)),rt:=fun v H'=>H' d=some (.frz o (.dK kvs))∧D.rt v (upd H' d (.dK kvs)),bk:=fun σ' H'=>H' d=some (.frz o (.dK kvs))∧D.bk σ' (upd H' d (.dK kvs)),ct:=fun σ' H'=>H' d=some (.frz o (.dK kvs))∧D.ct σ' (upd H' d (.dK kvs)) } σ (upd H d (.frz o (.dK kvs)))
end
def Itd (d:Addr) (o:Obj) (kvs:List (Key×V)):It :=
  ⟨fun i H=>H d=some (.frz o (.dK kvs))∧i < kvs.length,fun i H x H'=>H'=H∧∃ k v,kvs[i]?=some (k,v)∧x=kV k,fun i H=>H d=some (.frz o (.dK kvs))∧kvs.length=i⟩
theorem rel_key {k:Key} {v:Value} (h:jFZ k v=true):jAx (kV k) v:=by
  rcases jBn h with ⟨i,t,rfl,rfl⟩ | ⟨x,t,rfl,rfl⟩
  · exact ⟨t,rfl⟩
  · exact ⟨t,rfl⟩
theorem jNw {P:Program} {w:World} {K:PySem.W.Frag} {tg:Expr} (d it:Addr) (o:Obj) (kvs:List (Key×V)) {vs:List (Key×Value)} {es:Array DictEntry} {ep:Nat} (rk:KV kvs vs) (hd:o.ExactDict) (he:o.data=.dict es ep) (hk:KeysOf (jA_ P w) es) (hp:Pairs (jA_ P w) es.toList vs) (nd:(vs.map (·.1)).Nodup) :
    Turn P w K tg (Itd d o kvs) [it] it (fun i h=>h.IsKeyIter it d i vs.length ep) where
  mem:=by simp
  obj:=fun i h st b hb=>by
    have e:b=it:=by simpa using hb
    subst e
    obtain ⟨o,e,c,d⟩:=st
    exact ⟨o,e,fun v z=>by rw [d] at z;cases z⟩
  keep:=fun i h h' st k=>st.at fun o e=>k it (by simp) o e
  item:=by
    intro X hP hw hK hc i pins s σ H E I hf st hg
    subst hP hw hK
    obtain ⟨hz,hi⟩:=hg
    obtain ⟨eo,_⟩:=I.hok d _ hz
    obtain ⟨f0,f1,f2,f3,f4,f5⟩:=hf it (by simp)
    have hl:=KV.length rk
    have hi2:i < vs.length:=by omega
    have ev:vs[i]?=some (vs[i].1,vs[i].2):=List.getElem?_eq_getElem hi2
    have ks:kvs[i]?=some (kvs[i].1,kvs[i].2):=List.getElem?_eq_getElem hi
    have keq:kvs[i].1=vs[i].1:=by
      have q:=KV.keys rk
      have q1:(kvs.map (·.1))[i]?=(vs.map (·.1))[i]?:=by rw [q]
      rw [List.getElem?_map,List.getElem?_map,ks,ev] at q1
      exact Option.some.inj q1
    refine wpAny_pyNext_dict_item st ⟨o,es,eo,hd,he,hk,hp,nd⟩ ev fun key h' hkey st' sb=>?_
    have I1:Inv X pins σ H { s with heap:=h' }:=I.turned (t':=s.toks) (fun b o hb e=>(sb.2 b hb).trans e) f0 f1 f3 f4 f5
    obtain ⟨o2,e2,c2,d2⟩:=id st'
    refine ⟨key,rfl,jKH (s:={ s with heap:=h' }) e2 c2 d2 (by decide) ⟨kV kvs[i].1,H,I1,?_,⟨rfl,_,_,ks,rfl⟩,st',fun b hb=>(hf b hb).1⟩⟩
    rw [keq]
    exact rel_key hkey
  done:=by
    intro X hP hw hK hc i pins s σ H E I hf st hg
    subst hP hw hK
    obtain ⟨hz,hi⟩:=hg
    obtain ⟨eo,_⟩:=I.hok d _ hz
    obtain ⟨f0,f1,f2,f3,f4,f5⟩:=hf it (by simp)
    have hl:=KV.length rk
    have hin:vs[i]?=none:=List.getElem?_eq_none (by omega)
    exact wpAny_pyNext_dict_end (I.ok.hd hc) st ⟨o,es,eo,hd,he,hk,hp,nd⟩ hin fun h' eb=>⟨rfl,I.turned (t':=s.toks) (fun b o hb e=>eb b o hb e) f0 f1 f3 f4 f5⟩
  self:=fun _ _ _ _ _ st h=>wpAny_pyIter_keyiter st h
section
variable {X:Cx} {tg:Expr}
def iDict (tl:TE):TI:=fun σ H R=>tl σ H fun x H1=>∃ d o kvs,x=.ref d∧H1 d=some (.frz o (.dK kvs))∧R (Itd d o kvs) H1
theorem pi_dict {l:Expr} {tl:TE} (hl:PE X l tl):PI X tg l (iDict tl):=by
  intro pins s σ H R I h
  refine thn (hl pins s σ H _ I h) fun v s1 ⟨x,H1,I1,r1,q1⟩=>?_
  obtain ⟨d,o,kvs,rfl,hz,q⟩:=q1
  cases r1
  obtain ⟨eo,z,hd,vs,rk,o',es,ep,e',xd,dt,ko,pr,nd⟩:=I1.hok d _ hz
  rw [eo] at e'
  cases e'
  refine wpAny_pyIter_dict hd ⟨o,es,eo,xd,dt,ko,pr,nd⟩ ?_
  refine ⟨s1.heap.objs.size,[s1.heap.objs.size],_,_,H1,rfl,I1.kept (t':=s1.toks) fun b o e=>Heap.get?_push_of_some _ e,jNw d _ o kvs rk xd dt ko pr nd,⟨_,Heap.get?_push_size _ rfl,rfl,rfl⟩,fun b hb=>?_,q⟩
  have e:b=s1.heap.objs.size:=by simpa using hb
  subst e
  exact I1.fpOk (Nat.le_refl _) (I1.hok.fresh (Nat.le_refl _))
theorem jOg {d:Addr} {o:Obj} {kvs:List (Key×V)} {H1:Hp} (h:H1 d=some (.frz o (.dK kvs))):Seq (Itd d o kvs) H1 (kvs.map fun p=>kV p.1) where
  go:=fun i H e hi=>⟨e _ _ h,by rw [List.length_map] at hi;exact hi⟩
  yld:=fun i H x H' e _ y=>by
    obtain ⟨a,k,v,b,c⟩:=y
    refine ⟨a,?_⟩
    rw [List.getElem?_map,b,c]
    rfl
  stop:=fun H e=>⟨e _ _ h,by rw [List.length_map]⟩
def rInsert:V→List V→Hp→VK→Prop:=fun x vs H Q=>∃ l xs i y,x=.ref l∧vs=[.int i,y]∧H l=some (.lst xs)∧0≤i∧i≤((xs.length:Nat):Int)∧xs.length < sizeLine∧Q .non (upd H l (.lst (xs.take i.toNat ++ y :: xs.drop i.toNat)))
structure Dfn (P:Program) (w:World) (K:PySem.W.Frag) (mg:Str→Option Value) (base:Heap) (k:Nat) (x:Str) (ps:List Str) (sp:Sp):Prop where
  ex:∃ f fd,jAq P w K mg base CX0 k f fd ps sp∧jBo K fd ps []∧PySem.W.keepIn K (.ref f)=true∧mg x=some (.ref f)
theorem jAv {k:Nat} {x:Str} {ps:List Str} {sp:Sp} {e:Expr} {es:List Expr} {t:TA} {p pos:Pos} (D:Dfn X.prog X.w X.K X.mg X.base k x ps sp) (hr:jAV k X.A) (hg:Gl X x) (ha:PA X (e :: es) t) (hdb:(x == ("__debug__":Str))=false:=by decide)
    (he:starEach (e :: es) X.env=(false,eval e X.env) :: starEach es X.env:=by rfl) (hpl:(backTo pos (starEach es X.env)).any (·.1)=false:=by rfl):PE X (.Call (.Name x p) (e :: es) [] pos) (tCall sp [] E0 t):=by
  obtain ⟨f,fd,F,b,kp,m⟩:=D.ex
  exact pe_call F hr hg m kp b .nil jIl ha hdb he hpl
structure GS (mg:Str→Option Value) (x:Str) (z:Str):Prop where
  ex:∃ t,mg x=some (.str z t)
structure GI (mg:Str→Option Value) (x:Str) (z:Int):Prop where
  ex:∃ t,mg x=some (.int z t)
theorem jCy {x z:Str} {pos:Pos} (G:GS X.mg x z) (hg:Gl X x) (hd:(x == ("__debug__":Str))=false:=by decide):PE X (.Name x pos) (tC (.str z)):=by
  obtain ⟨t,e⟩:=G.ex
  exact jMl hg e (rel_str _ _) hd
theorem jEg {x:Str} {z:Int} {pos:Pos} (G:GI X.mg x z) (hg:Gl X x) (hd:(x == ("__debug__":Str))=false:=by decide):PE X (.Name x pos) (tC (.int z)):=by
  obtain ⟨t,e⟩:=G.ex
  exact jMl hg e (rel_int _ _) hd
end
end L2
namespace L2
open PySem PySem.Spec PyProof.Rows
section
variable {X:Cx}
structure MkD (P:Program) (w:World) (K:PySem.W.Frag) (mg:Str→Option Value) (base:Heap) (k:Nat) (x:Str) (C:Addr) (ps:List Str) (sp:Sp):Prop where
  ex:∃ f fd,Mk K C f∧jAq P w K mg base CX0 k f fd ps sp∧jBo K fd ps []∧mg x=some (.ref C)
theorem jCp {k:Nat} {x:Str} {C:Addr} {ps:List Str} {sp:Sp} {e:Expr} {es:List Expr} {t:TA} {p pos:Pos} (D:MkD X.prog X.w X.K X.mg X.base k x C ps sp) (hr:jAV (k + 1) X.A) (hg:Gl X x) (ha:PA X (e :: es) t) (hdb:(x == ("__debug__":Str))=false:=by decide)
    (he:starEach (e :: es) X.env=(false,eval e X.env) :: starEach es X.env:=by rfl) (hpl:(backTo pos (starEach es X.env)).any (·.1)=false:=by rfl):PE X (.Call (.Name x p) (e :: es) [] pos) (jKK C sp [] E0 t):=by
  obtain ⟨f,fd,M,F,b,m⟩:=D.ex
  exact pe_make M F hr hg m b .nil jIl ha hdb he hpl
structure MtD (P:Program) (w:World) (K:PySem.W.Frag) (mg:Str→Option Value) (base:Heap) (k:Nat) (m:Str) (C:Addr) (ps:List Str) (sp:Sp):Prop where
  ex:∃ f fd,Meth K C m f∧jAq P w K mg base CX0 k f fd ps sp∧jBo K fd ps []
theorem jNx {K:PySem.W.Frag} {a:Expr} {ta:TE} (hK:X.K=K) (ha:PE X a ta) (he:∀ whole,isTrue a X.env whole=(do let v ← whole;standAt a.pos;holding [v] (truthy v))):PT X a (fun σ H Q=>ta σ H fun x H'=>∃ k,TruV K x H' k∧Q k H'):=by
  subst hK
  exact jAN ha he
theorem jFH {K:PySem.W.Frag} {a b:Expr} {ta tb:TE} {pos:Pos} {r:PySem.W.Frag→R2} (hK:X.K=K) (hr:IxR X (r X.K)) (ha:PE X a ta) (hb:PE X b tb) (hs:jJg b):PE X (.Subscript a b pos) (tOp (r K) ta tb):=by
  subst hK
  exact pe_ix hr ha hb hs
theorem pe_fldK {K:PySem.W.Frag} {e:Expr} {ta:TE} {f:Str} {pos:Pos} (hK:X.K=K) (he:PE X e ta) (hb:attributeBase e f X.env (eval e X.env)=eval e X.env):PE X (.Attribute e f pos) (tFld K ta f):=by
  subst hK
  exact jAp he hb
def tAt (t:TS):TS:=fun D σ H=>∃ σ',σ=σ'∧t D σ' H
theorem jGZ {K:PySem.W.Frag} {a b:String} (h1:(Value.type a == Value.type b)=false) (h2:PySem.W.kitMeta b=true) (h3:(fastBuiltinMro a).map (·.contains (Value.type b))=some false):PySem.W.kitOne K (.type a) (.type b)=some false:=by
  show (if (Value.type a == Value.type b)=true then some true else (if PySem.W.kitMeta b=true then PySem.W.subIn K (.type a) (.type b) else none))=some false
  rw [h1,if_neg (by decide),if_pos h2]
  exact h3
end
end L2
namespace PySem.W
open PySem PySem.Spec PySem.Calls PyProof.Rows Builtin Builtin.ObjectAttr Builtin.Getset_descriptor
abbrev jEh:List Value:=[.type "ValueError",.type "Exception",.type "BaseException",.type "object"]
def excMk (K:Frag) (C:Addr):Bool:=match K.lookup C with
  | some ⟨.type "type",_,.cls cd,sls⟩=>(match cd.mro,sls.toList with
    | .ref C' :: tlm,[_,_,_,_,some (.builtin n),_]=>C' == C && n == "ValueError.__new__" && !cd.hasDel && tailIn K jEh tlm
    | _,_=>false)
  | _=>false
def ExcAt (h:Heap) (C:Addr) (tlm:List Value):Prop:=∃ N nm q bs hdct sn sub ab col dd q0 q1 q2 q3 q5,h.get? C=some (excClassObj nm q C N bs tlm hdct sn sub ab col dd q0 q1 q2 q3 q5 "ValueError.__new__")
theorem jG0 {K:Frag} {h:Heap} {C:Addr} (X:K.In h) (q:excMk K C=true):∃ tlm,ExcAt h C tlm∧OwnTail h jEh tlm:=by
  unfold excMk at q
  split at q
  · rename_i dd cd sls ho
    split at q
    · rename_i C' tlm q0 q1 q2 q3 n q5 hmm hss
      simp only [beq_iff_eq,Bool.and_eq_true,Bool.not_eq_true'] at q
      obtain ⟨⟨⟨rfl,rfl⟩,hdel⟩,ht⟩:=q
      obtain ⟨nm,bs,mro,ns,qun,hd,sn,sub,ab,col,del⟩:=cd
      dsimp only at hmm hdel
      subst hmm hdel
      have hsl:sls=#[q0,q1,q2,q3,some (.builtin "ValueError.__new__"),q5]:=by
        obtain ⟨l⟩:=sls
        simp only at hss
        rw [hss]
      subst hsl
      exact ⟨tlm,⟨ns,nm,qun,bs,hd,sn,sub,ab,col,dd,q0,q1,q2,q3,q5,X _ _ ho⟩,tail_of_in X ht⟩
    · cases q
  · cases q
abbrev excTup (us:List Value):Obj:={ cls:=.type "tuple",data:=.seq us.toArray }
abbrev excNew (C t0:Addr):Obj:={ cls:=.ref C,data:=.fields #[.ref t0,.none,.none,.none,.bool false,.none] }
section
variable {prog:Program} {w:World} {A:Around} {K:Frag} {C f:Addr} {R:Result→Shared→Prop} {h:Heap} {g:Array GenState} {d:Drawn} {t:Nat} {os:OsState}
theorem make_X {us:List Value} (X:K.In h) (e:excMk K C=true) (hi:findIn K (.ref C) "__init__"=some (some (.ref f))) (hf:typeIn K (.ref f)=some (.type "function")) (hrest:us.length≤sizeLine)
    (hq:codeAny (model prog w) (A.under (.builtin "type.__call__" ⟨.ref C :: us,[]⟩)) (.call (.ref f) ⟨.ref (h.objs.size + 1) :: us,[]⟩) (InitBack (h.objs.size + 1) R) ⟨(h.push (excTup us)).push (excNew C h.objs.size),g,d,t,os⟩) :
    codeAny (model prog w) A (.call (.ref C) ⟨us,[]⟩) R ⟨h,g,d,t,os⟩:=by
  obtain ⟨tlm,⟨N,nm,q,bs,hdct,sn,sub,ab,col,dd,q0,q1,q2,q3,q5,hCl⟩,T⟩:=jG0 X e
  have FB:=PySem.F.excBase_ValueError
  have f1:=tc_lookup
  have f2:=tc_bind (.ref C)
  have hTy:(⟨h,g,d,t,os⟩:Shared).TypeIs (.ref C) "type":=⟨_,hCl,rfl⟩
  refine codeAny_of_tree ?_
  show wpAny (model prog w) A.in1 (callAny (.ref C) _) _ _ _
  repeat (any_goals (first | assumption | with_reducible refine wpAny_loadPart_at hCl ?_ | wp_step))
  refine ⟨rfl,?_⟩
  refine codeAny_call_builtin_at (Code.quiet_builtin _ (by decide +kernel)) entry_typeCall (wpAny_check_type_call_sub hCl ?_)
  repeat (first | with_reducible refine wpAny_loadPart_at hCl ?_ | with_reducible refine wpAny_madeBy_exc hCl ?_ | wp_step)
  refine codeAny_call_builtin_code (Code.quiet_builtin _ FB.quiet) (wpAny_check_new_subT FB T hCl ?_)
  refine codeAny_exc_new_subT FB T hCl ?_ hrest
  show wpAny _ _ _ _ _ _
  have k:∀ b o,h.get? b=some o→((h.push (excTup us)).push (excNew C h.objs.size)).get? b=some o:=fun b o e=>Heap.get?_push_of_some _ (Heap.get?_push_of_some _ e)
  have hx:((h.push (excTup us)).push (excNew C h.objs.size)).get? (h.objs.size + 1)=some (excNew C h.objs.size):=by heap_get
  have t1:Looks (model prog w) ((h.push (excTup us)).push (excNew C h.objs.size)) (typeOf (.ref (h.objs.size + 1))) (.ref C):=(Looks.ld hx).andThen .now
  have hcc:(Value.ref C :: tlm).contains (.ref C)=true:=by simp
  have s0:Looks (model prog w) h (isSubtype (.ref C) (.ref C)) true:=by
    intro A Q E s kk qq
    obtain ⟨h1,g1,d1,tk1,os1⟩:=s
    exact wpAny_isSubtype_exc (kk _ _ hCl) (by rw [hcc];exact qq)
  have s1:=s0.keeps k
  have i1:=(looks_findIn (M:=model prog w) X hi).keeps k
  have b1:=(bind_fn (M:=model prog w) X (.ref (h.objs.size + 1)) hf).keeps k
  have hC₁:=k _ _ hCl
  unfold isInstance
  refine wpAny_bind (wpAny_bind (t1.here (s1.here ?_)))
  simp only [Bool.false_eq_true,Bool.not_true,if_false]
  refine wpAny_bind (wpAny_holding ?_);unfold callSpecial? specialOf
  refine wpAny_bind (wpAny_bind (t1.here ?_))
  refine i1.here ?_
  refine wpAny_holding (wpAny_bind (b1.here ?_))
  refine wpAny_bind (wpAny_call ?_)
  refine codeAny_mono hq fun r s' zz=>?_
  rcases r with e | (v | _ | _ | _) <;> first | exact zz | exact zz.elim | skip
  obtain ⟨rfl,zz⟩:=zz
  exact wpAny_pure (wpAny_pure zz)
end
end PySem.W
namespace PySem.W
open PySem PySem.Spec PySem.Calls PyProof.Rows Builtin Builtin.ObjectAttr Builtin.Getset_descriptor
def jG1:List Value→Bool
  | .ref _ :: r=>jG1 r
  | .type n :: r=>(.type n :: r) == jEh
  | _=>false
theorem jJ7 (self:Value):∀ {l:List Value},jG1 l=true→refuseLoop self "__setattr__" l=pure ()
  | .ref c :: r,e=>by rw [refuseLoop_ref];exact jJ7 self (show jG1 r=true from e)
  | .type n :: r,e=>by rw [show Value.type n :: r=jEh from beq_iff_eq.mp e];exact PySem.F.store_ValueError.passes self
theorem jLb {b:String} (hbb:jEh.contains (.type b)=true):∀ {l:List Value},jG1 l=true→l.contains (.type b)=true
  | .ref c :: r,e=>by rw [List.contains_cons,jLb hbb (l:=r) e,Bool.or_true]
  | .type n :: r,e=>by rw [show Value.type n :: r=jEh from beq_iff_eq.mp e];exact hbb
def excOver (K:Frag) (C:Addr):Bool:=(clsIn K C).any fun cdt=>jG1 cdt.mro
section
variable {prog:Program} {w:World} {A:Around} {K:Frag} {C x:Addr} {s:Shared} {R:Result→Shared→Prop}
theorem osa_X {ox:Obj} {od:Option Obj} {nm:Str} {tk:Tok} {v:Value} {r:Option Value} (X:K.In s.heap) (I:InstAt s.heap x ox C od) (hp:excOver K C=true) (ht:takerIn K C nm=some r)
    (go:∀ b,wpAny (model prog w) A.in1 (match r with | some a=>setByDescriptor a (.ref x) v | none=>storeInOwnDict (.ref x) (.ref C) (.str nm tk) nm v b)
      (fun fi s'=>match fi with | .done f=>R (.ok f) s' | .again c'=>c'.quiet=true∧codeAny (model prog w) A c' R s') (fun e s'=>R (.error e) s') s) :
    codeAny (model prog w) A (.call (.builtin "object.__setattr__") ⟨[.ref x,.str nm tk,v],[]⟩) R s:=by
  have SFo:=PySem.F.store_object
  obtain ⟨cdt,hcd,hov⟩:=any_some hp
  have nem:cdt.mro.isEmpty=false:=by cases q:cdt.mro with | nil=>rw [q] at hov;cases hov | cons _ _=>rfl
  have sub:Looks (model prog w) s.heap (isInstance (.ref x) (.type "object")) true:=I.type.andThen (looks_mroIn X (by unfold mroIn;rw [hcd,Option.bind_some,if_neg (by rw [nem];decide),jLb (by decide +kernel) hov]))
  refine codeAny_call_builtin SFo.slot.plain SFo.entry (@check_slot (model prog w) _ _ s "object.__setattr__" "object" "__setattr__" (.ref x) [.str nm tk,v] [] _ SFo.kind SFo.split sub (SFo.args (.ref x) (.str nm tk) v) ?_)
  obtain ⟨atr,ha,hrr⟩:=Option.bind_eq_some_iff.mp ht
  have hmr:Looks (model prog w) s.heap (mroOf (.ref C)) cdt.mro:=(looks_clsIn X hcd).andThen .now
  have l3:Looks (model prog w) s.heap (storeTaker? atr) r:=by
    cases atr with
    | none=>cases hrr;exact .now
    | some a =>
      obtain ⟨b,hbb,rfl⟩:=Option.map_eq_some_iff.mp hrr
      refine (looks_takesIn X hbb).andThen ?_
      cases b <;> exact .now
  rw [osa_eq,refuse_eq]
  refine wpAny_bind (wpAny_bind (I.type.here (wpAny_bind (hmr.here ?_))))
  rw [jJ7 _ hov]
  refine wpAny_pure (wpAny_bind (I.type.here (wpAny_bind ((looks_findIn X ha).here (wpAny_bind (l3.here ?_))))))
  exact go _
variable {E:Value→Shared→Prop} {vs:Array Value} {sl:Array (Option Value)} {nm:Str} {v:Value}
theorem setX_new {Q:Unit→Shared→Prop} (X:K.In s.heap) (hx:s.heap.get? x=some ⟨.ref C,none,.fields vs,sl⟩) (hs:findIn K (.ref C) "__setattr__"=some (some (.builtin "object.__setattr__")))
    (hp:excOver K C=true) (ht:takerIn K C nm=some none) (hh:hasDictIn K C=true)
    (h:∀ h',h'.get? x=some ⟨.ref C,some s.heap.objs.size,.fields vs,sl⟩→h'.Ns1 s.heap.objs.size (fun y=>if y=nm then some v else none)→(∀ b o,b≠x→s.heap.get? b=some o→h'.get? b=some o) →
      Q () { s with heap:=h',toks:=s.toks + 2 }):wpAny (model prog w) A (setAttr (.ref x) nm v) Q E s:=by
  have J:InstAt s.heap x ⟨.ref C,none,.fields vs,sl⟩ C none:=⟨hx,rfl,rfl,True.intro⟩
  refine set_plain X J hs (osa_X (s:={ s with toks:=s.toks + 1 }) (r:=none) X J hp ht fun b=>?_)
  obtain ⟨cdt,hcd,hdc⟩:=any_some hh
  refine wpAny_bind (wpAny_pure (wpAny_bind (wpAny_bind (wpAny_loadPart hx (wpAny_bind (Looks.here (s:={ s with toks:=s.toks + 1 }) (looks_clsIn X hcd) ?_))))))
  rw [hdc]
  have hxz:x≠s.heap.objs.size:=Nat.ne_of_lt (Heap.lt_size hx)
  have hx1:(s.heap.push { cls:=.type "dict",data:=.dict #[] }).get? x=some ⟨.ref C,none,.fields vs,sl⟩:=Heap.get?_push_of_some _ hx
  refine wpAny_bind (wpAny_alloc (wpAny_bind (wpAny_update hx1 ?_)))
  refine wpAny_pure (a:=some s.heap.objs.size) ?_
  have hx2:((s.heap.push { cls:=.type "dict",data:=.dict #[] }).update x fun o=>{ cls:=o.cls,dict:=some s.heap.objs.size,data:=o.data,slots:=o.slots }).get? x=some ⟨.ref C,some s.heap.objs.size,.fields vs,sl⟩:=by
    rw [Heap.get?_update_self _ hx1 rfl]
  have hgx:((s.heap.push { cls:=.type "dict",data:=.dict #[] }).update x fun o=>{ cls:=o.cls,dict:=some s.heap.objs.size,data:=o.data,slots:=o.slots }).get? s.heap.objs.size=some { cls:=.type "dict",data:=.dict #[] } :=
    (Heap.get?_update_ne _ _ _ _ hxz.symm).trans (Heap.get?_push_at rfl rfl)
  have hnd:((s.heap.push { cls:=.type "dict",data:=.dict #[] }).update x fun o=>{ cls:=o.cls,dict:=some s.heap.objs.size,data:=o.data,slots:=o.slots }).Ns s.heap.objs.size (fun _=>none) :=
    ⟨_,#[],_,hgx,rfl,fun e he=>absurd he (by simp),fun _=>rfl⟩
  refine wpAny_bind (wpAny_pure (wpAny_bind (wpAny_nsSet1 (Heap.Ns1.of_empty hnd) fun h' hn' hs'=>?_)))
  obtain ⟨oD,esD,epD,hoE,hdE,hcE⟩:=hn'.count (Within.cons nm v Within.nil)
  refine wpAny_bind (wpAny_lookBehind hoE (by rw [hdE];exact pastItsLine_dict (Nat.le_trans hcE (by rw [List.length_cons,List.length_nil,sizeLine_eq];omega))) ?_)
  refine wpAny_pure (h h' ((hs'.2 x hxz).trans hx2) hn' fun b o hbb q=>?_)
  exact (hs'.2 b (Nat.ne_of_lt (Heap.lt_size q))).trans ((Heap.get?_update_ne _ _ _ _ hbb).trans (Heap.get?_push_of_some _ q))
theorem setX_old {Q:Unit→Shared→Prop} {dxa:Addr} {mA:Str→Option Value} {ns:List Str} (X:K.In s.heap) (hx:s.heap.get? x=some ⟨.ref C,some dxa,.fields vs,sl⟩) (hn:s.heap.Ns1 dxa mA) (hne:dxa≠x)
    (hs:findIn K (.ref C) "__setattr__"=some (some (.builtin "object.__setattr__"))) (hp:excOver K C=true) (ht:takerIn K C nm=some none) (hh:hasDictIn K C=true) (hw:Within mA ns) (hsz:ns.length < sizeLine)
    (h:∀ h',h'.Ns1 dxa (fun y=>if y=nm then some v else mA y)→(∀ b o,b≠dxa→s.heap.get? b=some o→h'.get? b=some o) →
      Q () { s with heap:=h',toks:=s.toks + 2 }):wpAny (model prog w) A (setAttr (.ref x) nm v) Q E s:=by
  obtain ⟨od,hov,hl⟩:=L2.lookIn_ns hn
  have J:InstAt s.heap x ⟨.ref C,some dxa,.fields vs,sl⟩ C (some od):=⟨hx,rfl,rfl,hov⟩
  refine set_plain X J hs (osa_X (s:={ s with toks:=s.toks + 1 }) (r:=none) X J hp ht fun b=>?_)
  obtain ⟨cdt,hcd,hdc⟩:=any_some hh
  refine wpAny_bind (wpAny_pure (wpAny_bind (wpAny_bind (wpAny_loadPart hx (wpAny_bind (Looks.here (s:={ s with toks:=s.toks + 1 }) (looks_clsIn X hcd) ?_))))))
  rw [hdc]
  refine wpAny_pure (a:=some dxa) (wpAny_bind (wpAny_pure (wpAny_bind ?_)))
  refine wpAny_nsSet1 (s:={ s with toks:=s.toks + 1 }) hn fun h' hn' hs'=>?_
  obtain ⟨oD,esD,epD,hoE,hdE,hcE⟩:=hn'.count (Within.cons nm v hw)
  refine wpAny_bind (wpAny_lookBehind hoE (by rw [hdE];exact pastItsLine_dict (Nat.le_trans hcE (by rw [List.length_cons];omega))) ?_)
  exact wpAny_pure (h h' hn' fun b o hbb q=>(hs'.2 b hbb).trans q)
end
end PySem.W
namespace PySem.W
open PySem PySem.Spec PySem.Calls PyProof.Rows Builtin Builtin.ObjectAttr Builtin.Getset_descriptor
section
variable {prog:Program} {w:World} {A:Around} {K:Frag} {C x:Addr} {s:Shared} {E:Value→Shared→Prop} {ox:Obj} {od:Option Obj} {nm:Str} {v:Value} {Q:Value→Shared→Prop} {expr:Bool}
theorem jOh {h:Heap} {g:Array GenState} {d:Drawn} {t:Nat} {os:OsState} {tk:Tok} {R:Result→Shared→Prop} (X:K.In h) (I:InstAt h x ox C od) (hp:excOver K C=true) (hf:findObj K C od nm=some (.value v)) (hq:R (.ok (.ret v)) ⟨h,g,d,t,os⟩) :
    codeAny (model prog w) A (.call (.builtin "BaseException.__getattribute__") ⟨[.ref x,.str nm tk],[]⟩) R ⟨h,g,d,t,os⟩:=by
  obtain ⟨cdt,hcd,hov⟩:=any_some hp
  have nem:cdt.mro.isEmpty=false:=by cases q:cdt.mro with | nil=>rw [q] at hov;cases hov | cons _ _=>rfl
  have sub:Looks (model prog w) h (isInstance (.ref x) (.type "BaseException")) true:=I.type.andThen (looks_mroIn X (by unfold mroIn;rw [hcd,Option.bind_some,if_neg (by rw [nem];decide),jLb (by decide +kernel) hov]))
  have l0:=I.type (M:=model prog w)
  have l1:=looks_find (M:=model prog w) X I hf
  refine codeAny_call_builtin (by decide +kernel) PySem.F.entry_bexc_ga (@check_slot (model prog w) _ _ _ "BaseException.__getattribute__" "BaseException" "__getattribute__" (.ref x) [.str nm tk] [] _ (by decide +kernel) (by decide +kernel) sub (PySem.F.args_bexc_ga (.ref x) (.str nm tk)) ?_)
  refine wpAny_bind (wpAny_pure (wpAny_bind (wpAny_pure (wpAny_bind (l0.at (wpAny_bind (l1.at ?_)))))))
  exact wpAny_pure hq
theorem getX (X:K.In s.heap) (I:InstAt s.heap x ox C od) (hga:findIn K (.ref C) "__getattribute__"=some (some (.builtin "BaseException.__getattribute__"))) (hgn:findIn K (.ref C) "__getattr__"=some none) (hp:excOver K C=true)
    (hf:findObj K C od nm=some (.value v)) (hhd:handedIn v=true) (h:Q v { s with toks:=s.toks + 1 }):wpAny (model prog w) A (getAttr (.ref x) nm expr) Q E s:=by
  obtain ⟨hp',g,d,t,os⟩:=s
  have l0:=I.type (M:=model prog w)
  have l1:=looks_findIn (M:=model prog w) X hga
  have l2:=looks_findIn (M:=model prog w) X hgn
  have f3:bindSpecial (.builtin "BaseException.__getattribute__") (.ref x)=pure (.builtin "BaseException.__getattribute__",[.ref x]) :=
    (Slot.of (T:="ValueError") (name:="__getattribute__") (owner:="BaseException") (n:="__getattribute__") (by rw [typeLookup_type,builtinLookup_eq_fast];kernel_rfl) (by decide +kernel) (by decide +kernel) (by decide +kernel)
      (.inl (by decide +kernel)) (by rw [isSubtype_type];kernel_rfl)).bind (.ref x)
  have hxo:(expr && onTheHeap (Value.builtin "BaseException.__getattribute__"))=false:=by cases expr <;> rfl
  unfold getAttr getAttrBy
  refine wpAny_bind (wpAny_mkText (wpAny_holding (wpAny_bind (l0.at (wpAny_bind (l1.at ?_))))))
  have hx2:(onTheHeap (Value.ref C) && Value.builtin "BaseException.__getattribute__" == Value.builtin "object.__getattribute__")=false:=by
    rw [show (Value.builtin "BaseException.__getattribute__" == Value.builtin "object.__getattribute__")=false by decide +kernel,Bool.and_false]
  dsimp only at l0 l1 l2 X I h ⊢
  rw [hx2,if_neg Bool.false_ne_true]
  unfold getAttrByItsOwn
  refine wpAny_bind (l2.at ?_)
  repeat (any_goals first | assumption | wp_step)
  refine jOh X I hp hf ?_
  show wpAny (model prog w) A (handedOut v) _ _ _
  rw [handedOut_of hhd];exact wpAny_pure h
end
end PySem.W
namespace L2
open PySem PyProof.Rows PySem.Spec PySem.Calls
def XO (e C:Addr) (d:Option Addr):HO:=.ext fun h=>∃ t0,h.get? e=some ⟨.ref C,d,.fields #[.ref t0,.none,.none,.none,.bool false,.none],#[]⟩
def XC (e C:Addr) (d:Option Addr):HO:=.ext fun h=>∃ vs sl,h.get? e=some ⟨.ref C,d,.fields vs,sl⟩∧vs[2]?=some .none
def XD (a:Addr) (fs:List (Str×V)):HO:=.ext fun h=>fs.length≤1000∧∃ mA,h.Ns1 a mA∧(∀ f,jBK (fs.lookup f) (mA f))∧PySem.Within mA (fs.map (·.1))
def IsX (H:Hp) (e C:Addr) (d:Option Addr):Prop:=H e=some (XO e C d)∨H e=some (XC e C d)
section
variable {P:Program} {w:World} {H:Hp} {h:Heap} {e C a:Addr} {d:Option Addr} {fs:List (Str×V)}
theorem xo_ok {t0:Addr} (q:h.get? e=some ⟨.ref C,d,.fields #[.ref t0,.none,.none,.none,.bool false,.none],#[]⟩):jAY P w H h e (XO e C d) :=
  ⟨⟨t0,q⟩,⟨_,q⟩,fun _ _ ⟨t,z⟩ k=>⟨t,k _ z⟩⟩
theorem xc_ok {vs:Array Value} {sl:Array (Option Value)} (q:h.get? e=some ⟨.ref C,d,.fields vs,sl⟩) (c:vs[2]?=some .none):jAY P w H h e (XC e C d) :=
  ⟨⟨vs,sl,q,c⟩,⟨_,q⟩,fun _ _ ⟨v,s,z,c⟩ k=>⟨v,s,k _ z,c⟩⟩
theorem xd_ok {mA:Str→Option Value} (l:fs.length≤1000) (n:h.Ns1 a mA) (r:∀ f,jBK (fs.lookup f) (mA f)) (wi:PySem.Within mA (fs.map (·.1))):jAY P w H h a (XD a fs) :=
  ⟨⟨l,mA,n,r,wi⟩,let ⟨o,_,_,q,_⟩:=n;⟨o,q⟩,fun _ _ ⟨l,m,n,r,z⟩ k=>⟨l,m,n.at k,r,z⟩⟩
theorem jG2 (hok:HOk P w H h) (q:H e=some (XO e C d)):∃ t0,h.get? e=some ⟨.ref C,d,.fields #[.ref t0,.none,.none,.none,.bool false,.none],#[]⟩ :=
  (show jAY P w H h e (XO e C d) from hok e _ q).1
theorem jNy (hok:HOk P w H h) (q:IsX H e C d):∃ vs sl,h.get? e=some ⟨.ref C,d,.fields vs,sl⟩∧vs[2]?=some .none:=by
  rcases q with q | q
  · obtain ⟨t,z⟩:=jG2 hok q;exact ⟨_,_,z,rfl⟩
  · exact (show jAY P w H h e (XC e C d) from hok e _ q).1
theorem jKP (hok:HOk P w H h) (q:IsX H e C d):∃ vs sl,h.get? e=some ⟨.ref C,d,.fields vs,sl⟩:=let ⟨vs,sl,z,_⟩:=jNy hok q;⟨vs,sl,z⟩
theorem jNz (hok:HOk P w H h) (q:H a=some (XD a fs)):fs.length≤1000∧∃ mA,h.Ns1 a mA∧(∀ f,jBK (fs.lookup f) (mA f))∧PySem.Within mA (fs.map (·.1)) :=
  (show jAY P w H h a (XD a fs) from hok a _ q).1
end
structure jDk (K:PySem.W.Frag) (C:Addr):Prop where
  hd:PySem.W.hasDictIn K C=true
  po:PySem.W.excOver K C=true
  sa:PySem.W.findIn K (.ref C) "__setattr__"=some (some (.builtin "object.__setattr__"))
  ga:PySem.W.findIn K (.ref C) "__getattribute__"=some (some (.builtin "BaseException.__getattribute__"))
  gn:PySem.W.findIn K (.ref C) "__getattr__"=some none
section
variable {X:Cx} {pins:List (Addr×Obj)} {σ:St} {H:Hp} {s:Shared} {a C dx:Addr} {d:Option Addr} {fs:List (Str×V)} {f:Str} {v y:V} {u:Value} {A:Around} {E:Value→Shared→Prop}
theorem getX_ok {b:Bool} {Q:Value→Shared→Prop} (I:Inv X pins σ H s) (e:IsX H a C (some dx)) (ed:H dx=some (XD dx fs)) (c:jDk X.K C) (n:jAu X.K C f) (l:fs.lookup f=some v)
    (h:∀ u s',Inv X pins σ H s'→jAx v u→Q u s'):wpAny (model X.prog X.w) A (getAttr (.ref a) f b) Q E s:=by
  obtain ⟨vs,sl,hx⟩:=jKP I.hok e
  obtain ⟨_,mA,hn,r,_⟩:=jNz I.hok ed
  obtain ⟨u,hu,ru⟩:=jBK.some_of (v:=v) (o:=mA f) (by rw [← l];exact r f)
  obtain ⟨od,ho,hl⟩:=lookIn_ns hn
  exact PySem.W.getX I.kIn (ox:=⟨.ref C,some dx,.fields vs,sl⟩) (od:=some od) ⟨hx,rfl,rfl,ho⟩ c.ga c.gn c.po (PySem.W.findObj_own c.hd n rfl (by rw [hl,hu])) (jJS ru) (h u _ (I.tok _) ru)
theorem jOi {Q:Unit→Shared→Prop} (I:Inv X pins σ H s) (e:H a=some (XO a C none)) (c:jDk X.K C) (n:jAu X.K C f) (ry:jAx y u)
    (h:∀ dx s',H dx=none→dx≠a→Inv X pins σ (upd (upd H dx (XD dx [(f,y)])) a (XO a C (some dx))) s'→Q () s'):wpAny (model X.prog X.w) A (setAttr (.ref a) f u) Q E s:=by
  obtain ⟨t0,hx⟩:=jG2 I.hok e
  refine PySem.W.setX_new I.kIn hx c.sa c.po n.taker c.hd fun h' h1 h2 h3=>?_
  have hf:=I.hok.fresh (Nat.le_refl s.heap.objs.size)
  have hne:s.heap.objs.size≠a:=fun z=>by rw [z,e] at hf;cases hf
  obtain ⟨od,es,ep,q1,q2,q3⟩:=id h2
  have hfr:od.isFreed=false:=(Heap.get?_some_iff.mp q1).2
  have g1:(s.heap.push od).get? s.heap.objs.size=some od:=Heap.get?_push_size s.heap hfr
  have I1:Inv X pins σ (upd H s.heap.objs.size (XD s.heap.objs.size [(f,y)])) { s with heap:=s.heap.push od,toks:=s.toks }:=by
    refine I.laid (fun b o q=>Heap.get?_push_of_some _ q) (Nat.le_refl _) (xd_ok (by simp) (h2.at fun o q=>?_) (fun g=>?_) (fun g hg=>?_))
    · rw [q1] at q;cases q;exact g1
    · show jBK ([(f,y)].lookup g) (if g=f then some u else none)
      by_cases z:g=f
      · have hb:(g == f)=true:=beq_iff_eq.mpr z
        simp only [List.lookup,hb,if_pos z];exact ry
      · have hb:(g == f)=false:=beq_eq_false_iff_ne.mpr z
        simp only [List.lookup,hb,if_neg z];exact True.intro
    · by_cases z:g=f
      · rw [z];exact .head _
      · exact absurd (if_neg z) hg
  refine h s.heap.objs.size _ hf hne (I1.write (x:=a) (e:=a) (t':=s.toks + 2) (h':=h') (by rw [jAj (Ne.symm hne),e];exact True.intro) (.inl rfl) (fun b o hb q=>?_) ⟨_,h1⟩ (xo_ok h1))
  by_cases z:b=s.heap.objs.size
  · subst z;rw [g1] at q;cases q;exact q1
  · have hb':s.heap.get? b=some o:=by rw [← q];exact (Heap.get?_push_ne _ _ _ z).symm
    exact h3 b o hb hb'
theorem jOj {Q:Unit→Shared→Prop} (I:Inv X pins σ H s) (e:IsX H a C (some dx)) (ed:H dx=some (XD dx fs)) (hne:dx≠a) (c:jDk X.K C) (n:jAu X.K C f) (hl:fs.length < 1000) (ry:jAx y u)
    (h:∀ s',Inv X pins σ (upd H dx (XD dx (jBe f y fs))) s'→Q () s'):wpAny (model X.prog X.w) A (setAttr (.ref a) f u) Q E s:=by
  obtain ⟨vs,sl,hx⟩:=jKP I.hok e
  obtain ⟨_,mA,hn,r,wi⟩:=jNz I.hok ed
  refine PySem.W.setX_old I.kIn hx hn hne c.sa c.po n.taker c.hd wi (by rw [List.length_map,sizeLine_eq];omega) fun h' h1 h2=>h _ ?_
  refine I.write (x:=dx) (e:=dx) (by rw [ed];exact True.intro) (.inl rfl) h2 (let ⟨o,_,_,q,_⟩:=h1;⟨o,q⟩) (xd_ok ?_ h1 (fun g=>?_) (fun g hg=>?_))
  · have:=jFg f y fs;omega
  · show jBK ((jBe f y fs).lookup g) (if g=f then some u else mA g)
    rw [jFf]
    by_cases q:g=f
    · rw [if_pos q,if_pos q];exact ry
    · rw [if_neg q,if_neg q];exact r g
  · by_cases q:g=f
    · rw [q];exact (jDO f y fs).1
    · refine (jDO f y fs).2 g (wi g fun z=>hg ?_)
      show (if g=f then some u else mA g)=none
      rw [if_neg q];exact z
end
end L2
namespace PySem.W
open PySem PySem.Spec PySem.Calls PyProof.Rows Builtin Builtin.ObjectAttr Builtin.Getset_descriptor
section
variable {prog:Program} {w:World} {A:Around} {K:Frag} {C x t0:Addr} {s:Shared} {E:Value→Shared→Prop} {od:Option Addr} {Q:Value→Shared→Prop}
theorem initX {us:List Value} (X:K.In s.heap) (hx:s.heap.get? x=some ⟨.ref C,od,.fields #[.ref t0,.none,.none,.none,.bool false,.none],#[]⟩) (e:excMk K C=true) (hz:us.length≤sizeLine)
    (h:∀ h',h'.get? x=some ⟨.ref C,od,.fields #[.ref s.heap.objs.size,.none,.none,.none,.bool false,.none],#[]⟩→(∀ b o,b≠x→s.heap.get? b=some o→h'.get? b=some o)→Q .none { s with heap:=h' }) :
    wpAny (model prog w) A (call (.builtin "ValueError.__init__") (.ref x :: us)) Q E s:=by
  obtain ⟨bm,⟨N,nm,q,bs,hdct,sn,sub,ab,col,dd,k0,k1,k2,k3,k5,hC⟩,T⟩:=jG0 X e
  have FB:=PySem.F.excBase_ValueError
  obtain ⟨hp,g,d,t,os⟩:=s
  refine wpAny_call (codeAny_call_builtin FB.init.plain FB.initEntry (wpAny_check_init_subT FB T hC hx rfl ?_))
  delta Builtin.«BaseException.__init__»
  dsimp only
  rw [if_neg (by simp)]
  unfold Builtin.BaseException.bexcPut newTuple
  have hx1:=Heap.get?_push_of_some (h:=hp) { cls:=.type "tuple",data:=.seq us.toArray } hx
  refine wpAny_bind (wpAny_newObj_type (wpAny_bind (wpAny_bind (wpAny_field hx1 rfl rfl (wpAny_bind (wpAny_setField hx1 rfl (by show 0 < 6;decide) ?_))))) (by show us.toArray.size≤sizeLine;rw [List.size_toArray];exact hz))
  refine wpAny_letGo (wpAny_pure (h _ ?_ fun b o hb hq=>?_))
  · rw [Heap.get?_update_self _ hx1 rfl]
    rfl
  · exact (Heap.get?_update_ne _ _ _ _ hb).trans (Heap.get?_push_of_some _ hq)
end
end PySem.W
namespace PySem.W
open PySem PySem.Spec PySem.Calls PyProof.Rows Builtin Builtin.ObjectAttr Builtin.Getset_descriptor
section
variable {prog:Program} {w:World} {A:Around} {K:Frag} {C x:Addr} {s:Shared} {E:Value→Shared→Prop} {ox:Obj} {od:Obj}
structure ClsAt (K:Frag) (C:Addr):Prop where
  hd:hasDictIn K C=true
  po:excOver K C=true
  ga:findIn K (.ref C) "__getattribute__"=some (some (.builtin "BaseException.__getattribute__"))
  gn:findIn K (.ref C) "__getattr__"=some none
  ca:findIn K (.ref C) "__class__"=some (some (.builtin "object.__class__"))
  cn:specialIn K (.builtin "object.__class__") "__get__"=some (some (.builtin "getset_descriptor.__get__"))
  ct:takesIn K (.builtin "object.__class__")=some true
end
end PySem.W
namespace L2
open PySem PyProof.Rows PySem.Spec PySem.Calls
theorem jOk {H:Hp} {a:Addr} {o:HO} (e:H a=some o):upd H a o=H:=by
  funext b
  unfold upd
  by_cases q:b=a
  · rw [if_pos q,q,e]
  · rw [if_neg q]
structure MkX (K:PySem.W.Frag) (C f:Addr):Prop where
  makes:PySem.W.excMk K C=true
  init:PySem.W.findIn K (.ref C) "__init__"=some (some (.ref f))
  fn:PySem.W.isFn K (.ref f)=true
  kp:PySem.W.keepIn K (.ref C)=true
def jNA (C:Addr) (sp:Sp) (E:XK) (t:TA):TE:=fun σ H Q=>t σ H fun vs H1=>∀ x,H1 x=none→sp (.ref x :: vs) (upd H1 x (XO x C none)) (fun v H2=>v=.non∧Q (.ref x) H2) E
section
variable {X:Cx} {CX:CXT} {k:Nat} {f C:Addr} {fd:FuncData} {ps:List Str} {sp:Sp} {E:XK} {x m:Str} {p pos apos:Pos} {e o:Expr} {es:List Expr} {ta:TE} {t:TA}
theorem Inv.madeX {pins:List (Addr×Obj)} {σ:St} {H:Hp} {s:Shared} {us:List Value} (I:Inv X pins σ H s) :
    Inv X pins σ (upd H (s.heap.objs.size + 1) (XO (s.heap.objs.size + 1) C none)) { s with heap:=(s.heap.push (PySem.W.excTup us)).push (PySem.W.excNew C s.heap.objs.size) }:=by
  have e2:((s.heap.push (PySem.W.excTup us)).push (PySem.W.excNew C s.heap.objs.size)).get? (s.heap.objs.size + 1)=some (PySem.W.excNew C s.heap.objs.size):=by
    have:=Heap.get?_push_size (s.heap.push (PySem.W.excTup us)) (o:=PySem.W.excNew C s.heap.objs.size) rfl
    rwa [Heap.size_push] at this
  have I1:=I.kept (h':=s.heap.push (PySem.W.excTup us)) (t':=s.toks) (fun b u q=>Heap.get?_push_of_some _ q)
  exact I1.laid (a:=s.heap.objs.size + 1) (t':=s.toks) (fun b u q=>Heap.get?_push_of_some _ q) (Nat.le_of_eq (Heap.size_push _ _)) (xo_ok e2)
theorem jNB {pins:List (Addr×Obj)} {σ:St} {H:Hp} {s:Shared} {Q:VK} {us:List Value} {vs:List V} (M:MkX X.K C f) (F:jAq X.prog X.w X.K X.mg X.base CX k f fd ps sp) (hr:jAV (k + 1) X.A) (hb:jBo X.K fd ps [])
    (hx:jDP CX X E) (hz:ps.length≤1000) (I:Inv X pins σ H s) (r:jAA vs us)
    (h:∀ x,H x=none→sp (.ref x :: vs) (upd H x (XO x C none)) (fun v H2=>v=.non∧Q (.ref x) H2) E) :
    wpAny (model X.prog X.w) X.A (call (.ref C) us) (EP X pins σ Q) X.xe s:=by
  have hq:=h (s.heap.objs.size + 1) (I.hok.fresh (Nat.le_succ _))
  have I2:=Inv.madeX (C:=C) (us:=us) I
  have r2:jAA (V.ref (s.heap.objs.size + 1) :: vs) (Value.ref (s.heap.objs.size + 1) :: us):=.cons rfl r
  have hl:(Value.ref (s.heap.objs.size + 1) :: us).length=ps.length:=by
    have e:=r2.length
    rw [F.len _ _ _ _ hq] at e
    exact e.symm
  have hb2:=hb { s with heap:=(s.heap.push (PySem.W.excTup us)).push (PySem.W.excNew C s.heap.objs.size) } (Value.ref (s.heap.objs.size + 1) :: us) I2.kIn (by rw [List.append_nil];exact hl)
  rw [List.append_nil] at hb2
  refine wpAny_call (PySem.W.make_X (f:=f) I.kIn M.makes M.init (beq_iff_eq.mp M.fn) (by rw [List.length_cons] at hl;rw [sizeLine_eq];omega) (codeAny_mono (F.run _ X.stack _ _ ⟨Value.ref (s.heap.objs.size + 1) :: us,[]⟩ (Value.ref (s.heap.objs.size + 1) :: us) _ _ E (hr.make C us [])
    (I2.env0.make C us []) hb2 r2 hq) fun r s' hq'=>?_))
  cases r with
  | error e=>exact hx pins σ _ _ e s' I2 hq'
  | ok fl =>
    cases fl with
    | ret u =>
      obtain ⟨v,H',I3,rv,ev,q3⟩:=I2.after hq'
      subst ev
      exact ⟨rv,⟨V.ref (s.heap.objs.size + 1),H',I3,rfl,q3⟩⟩
    | next=>exact False.elim hq'
    | brk=>exact False.elim hq'
    | cont=>exact False.elim hq'
theorem jOl (M:MkX X.K C f) (F:jAq X.prog X.w X.K X.mg X.base CX k f fd ps sp) (hr:jAV (k + 1) X.A) (hg:Gl X x) (hm:X.mg x=some (.ref C)) (hb:jBo X.K fd ps []) (hx:jDP CX X E) (hz:ps.length≤1000)
    (ha:PA X (e :: es) t) (hdb:(x == ("__debug__":Str))=false:=by decide) (he:starEach (e :: es) X.env=(false,eval e X.env) :: starEach es X.env:=by rfl) (hpl:(backTo pos (starEach es X.env)).any (·.1)=false:=by rfl) :
    PE X (.Call (.Name x p) (e :: es) [] pos) (jNA C sp E t):=by
  intro pins s σ H Q I h
  refine wpAny_Call_Name_kw (jCu I hg hm ?_ hdb)
  refine PySem.W.callWith_K (h₀:=X.base) I.ok.mod.kin M.kp (thn (ha pos pins s σ H _ I h) fun us s1 ⟨vs,H1,I1,r,q⟩=>⟨I1.kIn,?_⟩) he hpl
  exact jNB M F hr hb hx hz I1 r q
structure InX (K:PySem.W.Frag) (B:Addr):Prop where
  sp:PySem.W.specialIn K (.ref B) "__getattribute__"=some (some (.builtin "type.__getattribute__"))
  rd:PySem.W.readsIn K B (.type "type")=true
  fc:PySem.W.findCls K (.ref B) (.type "type") "__init__"=some (.val (.builtin "ValueError.__init__"))
def tInX (K:PySem.W.Frag) (t:TA):TE:=fun σ H Q=>t σ H fun vs H1=>∃ a C d xs,vs=.ref a :: xs∧xs.length≤1000∧H1 a=some (XO a C d)∧PySem.W.excMk K C=true∧Q .non H1
theorem jDl {B:Addr} {pl:Sem Bool} (J:InX X.K B) (hg:Gl X x) (hm:X.mg x=some (.ref B)) (ha:PA X (e :: es) t) (hdb:(x == ("__debug__":Str))=false:=by decide)
    (hst:starEach (e :: es) X.env=(false,eval e X.env) :: starEach es X.env:=by rfl) (hpl:(backTo pos (starEach es X.env)).any (·.1)=false:=by rfl)
    (ht:eval (.Call (.Attribute (.Name x p) "__init__" apos) (e :: es) [] pos) X.env=(do
      let ov ← eval (.Name x p) X.env
      standAt apos.atName
      let (f,first) ← holding [ov] (getMethod ov "__init__" pl)
      callWith pos f first (backTo pos (starEach (e :: es) X.env)) (backToKw pos (keywordEach [] X.env))):=by rfl) :
    PE X (.Call (.Attribute (.Name x p) "__init__" apos) (e :: es) [] pos) (tInX X.K t):=by
  intro pins s σ H Q I h
  refine PySem.W.methodCall_KW (pl:=pl) (jCu I hg hm ?_ hdb) ht
  refine PySem.W.method_cls I.kIn J.sp (PySem.W.cls_value I.kIn J.rd J.fc rfl ?_)
  have hA:=ha pos pins _ σ H _ (I.tok (s.toks + 1)) h
  show wpAny _ _ (callWith pos (.builtin "ValueError.__init__") [] (backTo pos (starEach (e :: es) X.env)) []) _ _ _
  rw [hst] at hA ⊢
  refine Calls.callWith_builtin (by show (false || (backTo pos (starEach es X.env)).any (·.1))=false;rw [hpl] <;> rfl) (Calls.evalArgs_plain ?_)
  refine thn hA fun us s2 ⟨vs,H2,I2,r2,a,C,d,xs,ev,hl,ea,mk,q⟩=>?_
  subst ev
  cases r2 with
  | cons ru rr =>
    cases ru
    obtain ⟨t0,hx⟩:=jG2 I2.hok ea
    refine PySem.W.initX I2.kIn hx mk (by rw [← rr.length,sizeLine_eq];omega) fun h' h1 h2=>⟨.non,H2,?_,rfl,q⟩
    have:=I2.write (x:=a) (e:=a) (o:=XO a C d) (t':=s2.toks) (h':=h') (by rw [ea];exact True.intro) (.inl rfl) h2 ⟨_,h1⟩ (xo_ok h1)
    rwa [jOk ea] at this
end
end L2
namespace L2
open PySem PyProof.Rows PySem.Spec PySem.Calls
def XF (H:Hp) (e C:Addr) (fs:List (Str×V)):Prop:=∃ dx,H e=some (XO e C (some dx))∧H dx=some (XD dx fs)∧dx≠e
def sFldX (K:PySem.W.Frag) (ta tv:TE) (f:Str):TS:=fun D σ H=>tv σ H fun y H1=>ta σ H1 fun x H2 =>
  (∃ a C,x=.ref a∧H2 a=some (XO a C none)∧jDk K C∧jAu K C f∧∀ dx,H2 dx=none→dx≠a→D.nx σ (upd (upd H2 dx (XD dx [(f,y)])) a (XO a C (some dx)))) ∨
  (∃ a C dx fs,x=.ref a∧IsX H2 a C (some dx)∧H2 dx=some (XD dx fs)∧dx≠a∧jDk K C∧jAu K C f∧fs.length < 1000∧D.nx σ (upd H2 dx (XD dx (jBe f y fs))))
def tFldX (K:PySem.W.Frag) (ta:TE) (f:Str):TE:=fun σ H Q=>ta σ H fun x H1=>∃ a C fs v,x=.ref a∧XF H1 a C fs∧jDk K C∧jAu K C f∧fs.lookup f=some v∧Q v H1
structure ClsI (K:PySem.W.Frag) (C:Addr):Prop where
  c:jDk K C
  ca:PySem.W.findIn K (.ref C) "__class__"=some (some (.builtin "object.__class__"))
  cn:PySem.W.specialIn K (.builtin "object.__class__") "__get__"=some (some (.builtin "getset_descriptor.__get__"))
  ct:PySem.W.takesIn K (.builtin "object.__class__")=some true
def clV:V→Value
  | .ref a=>.ref a
  | .ty n=>.type n
  | _=>.none
def rIsX (K:PySem.W.Frag):List V→Hp→VK→Prop:=fun xs H Q=>∃ a C fs c b,xs=[.ref a,c]∧XF H a C fs∧ClsI K C∧(∀ u,jAx c u→u=clV c)∧PySem.W.kitOne K (.ref C) (clV c)=some b∧Q (.bl b) H
def rUpd:V→List V→Hp→VK→Prop:=fun x vs H Q=>∃ d e kvs more,x=.ref d∧vs=[.ref e]∧H d=some (.dK kvs)∧H e=some (.dK more)∧d≠e∧kvs.length + more.length≤1000∧Q .non (upd H d (.dK (jBZ kvs more)))
section
variable {X:Cx} {o e value:Expr} {f:Str} {pos pos' tpos:Pos} {ta tv:TE}
theorem jEo (ha:PE X o ta) (hv:PE X value tv) (hs:swapsWith value (some (.Attribute o f pos')) pos.line X.env=pure false):PS X (.Assign [.Attribute o f pos'] value pos) (sFldX X.K ta tv f):=by
  intro pins s σ H D I h
  refine plainObj_wpAny_Assign_Attribute (thn (hv pins s σ H _ I h) fun u s1 ⟨y,H1,I1,ry,q⟩=>thn (ha pins s1 σ H1 _ I1 q) fun ov s2 ⟨x,H2,I2,rx,q2⟩=>?_) hs
  rcases q2 with ⟨a,C,ex,ea,c,n,q3⟩ | ⟨a,C,dx,fs,ex,ea,ed,ne,c,n,l,q3⟩
  · subst ex
    obtain rfl:ov=Value.ref a:=rx
    exact jOi I2 ea c n ry fun dx s3 h1 h2 I3=>⟨σ,_,I3,q3 dx h1 h2⟩
  · subst ex
    obtain rfl:ov=Value.ref a:=rx
    exact jOj I2 ea ed ne c n l ry fun s3 I3=>⟨σ,_,I3,q3⟩
theorem jNC:MtR X "dict.update" rUpd:=by
  intro pins s σ H x vs v us Q I rx rv h
  obtain ⟨d,e,kvs,more,rfl,rfl,hd,he,ne,hz,q⟩:=h
  cases rx
  obtain ⟨u,rfl,r1⟩:=jEe rv
  cases (show u=Value.ref e from r1)
  obtain ⟨z1,m1,vs1,k1,d1⟩:=jKN I.hok hd
  obtain ⟨z2,m2,vs2,k2,d2⟩:=jKN I.hok he
  have l1:=k1.length
  have l2:=k2.length
  refine call_meetsIn PySem.F.slot_dict_update d1.typeIs PySem.F.entry_dict_update (PySem.F.args_dict_update_2 _ _) (meets_dict_update (jA_ X.prog X.w) d e ne m2)
    ⟨vs1,vs2,d1,d2,(by rw [← l1,← l2,sizeLine_eq];omega),fun h' hm _ hs=>⟨.non,_,?_,rfl,q⟩⟩
  have hl:(jBZ kvs more).length≤sizeLine:=by
    have:=jDY more kvs
    rw [sizeLine_eq];omega
  exact jHt I (by rw [hd];exact True.intro) hs (let ⟨o,_,_,hq,_⟩:=hm;⟨o,hq⟩) (jGY hl m1 (k2.merge k1) hm)
end
end L2
namespace L2
open PySem PyProof.Rows PySem.Spec PySem.Calls
def Deq (K:PySem.W.Frag) (H:Hp):Nat→V→V→Prop
  | 0,x,y=>x=y∧jA1 x=true
  | n + 1,x,y=>(x=y∧jA1 x=true)∨∃ a b xs ys,x=.ref a∧y=.ref b∧((SqL K H a xs∧SqL K H b ys)∨(SqT K H a xs∧SqT K H b ys))∧xs.length=ys.length∧∀ j,j < xs.length→Deq K H n (xs.getD j .non) (ys.getD j .non)
theorem jGf {X:Cx} {pins:List (Addr×Obj)} {σ:St} {H:Hp} {s:Shared} (I:Inv X pins σ H s):∀ (n:Nat) (A:Around) (x y:V) (u v:Value),A.units + n < cLine→Deq X.K H n x y→jAx x u→jAx y v→SeqAt.EqAt A s u v true
  | 0,A,x,y,u,v,_,⟨e,f⟩,rx,ry=>by
    subst e
    have:=jIj (A:=A) (s:=s) rx ry f f
    rwa [jH3 f] at this
  | n + 1,A,x,y,u,v,hu,h,rx,ry=>by
    rcases h with ⟨e,f⟩ | ⟨a,b,xs,ys,rfl,rfl,hs,hl,he⟩
    · subst e
      have:=jIj (A:=A) (s:=s) rx ry f f
      rwa [jH3 f] at this
    · cases rx
      cases ry
      by_cases hab:a=b
      · subst hab;exact SeqAt.EqAt.same _
      have hu1:A.in1.units + n < cLine:=by
        have:A.in1.units=A.units + 1:=by first | rfl | exact Around.units_in1 A
        omega
      refine SeqAt.EqAt.of_refs hab ?_
      rcases hs with ⟨h1,h2⟩ | ⟨h1,h2⟩
      · obtain ⟨its,r1,l1,_⟩:=I.list h1
        obtain ⟨jts,r2,l2,_⟩:=I.list h2
        have e1:=r1.length
        have e2:=r2.length
        have:=SeqAt.RcAt.lists (A:=A) (e:=fun _=>true) l1.isList l2.isList (by simp;omega) (by omega) (fun j q1 q2=>jGf I n A.in1 _ _ _ _ hu1 (he j (by simp at q1;omega)) (jCf r1 j q1) (jCf r2 j q2))
        rwa [show (List.range its.toArray.size).all (fun _=>true)=true from List.all_eq_true.mpr fun _ _=>rfl] at this
      · obtain ⟨its,r1,l1,_⟩:=I.tuple h1
        obtain ⟨jts,r2,l2,_⟩:=I.tuple h2
        have e1:=r1.length
        have e2:=r2.length
        have:=SeqAt.RcAt.tuples (A:=A) (e:=fun _=>true) l1 l2 (by omega) (fun j q1 q2=>jGf I n A.in1 _ _ _ _ hu1 (he j (by simp at q1;omega)) (jCf r1 j q1) (jCf r2 j q2))
        rw [show (List.range (min its.toArray.size jts.toArray.size)).all (fun _=>true)=true from List.all_eq_true.mpr fun _ _=>rfl,Bool.true_and,beq_iff_eq.mpr (by simp;omega)] at this
        exact this
def rEqD (K:PySem.W.Frag) (n:Nat):R2:=fun x y H Q=>∃ a b xs ys,x=.ref a∧y=.ref b∧SqL K H a xs∧SqL K H b ys∧xs.length=ys.length∧(∀ j,j < xs.length→Deq K H n (xs.getD j .non) (ys.getD j .non))∧Q (.bl true) H
structure jCJ (P:Program) (w:World) (K:PySem.W.Frag) (mg:Str→Option Value) (base:Heap) (k:Nat) (x:Str) (C:Addr) (ps:List Str) (sp:Sp):Prop where
  ex:∃ f fd,MkX K C f∧jAq P w K mg base CX0 k f fd ps sp∧jBo K fd ps []∧mg x=some (.ref C)
  few:ps.length≤1000
theorem jBj {X:Cx} {k:Nat} {x:Str} {C:Addr} {ps:List Str} {sp:Sp} {e:Expr} {es:List Expr} {t:TA} {p pos:Pos} (D:jCJ X.prog X.w X.K X.mg X.base k x C ps sp) (hr:jAV (k + 1) X.A) (hg:Gl X x) (ha:PA X (e :: es) t) (hdb:(x == ("__debug__":Str))=false:=by decide)
    (he:starEach (e :: es) X.env=(false,eval e X.env) :: starEach es X.env:=by rfl) (hpl:(backTo pos (starEach es X.env)).any (·.1)=false:=by rfl):PE X (.Call (.Name x p) (e :: es) [] pos) (jNA C sp E0 t):=by
  obtain ⟨f,fd,M,F,b,m⟩:=D.ex
  exact jOl M F hr hg m b jIl D.few ha hdb he hpl
def xcls (K:PySem.W.Frag) (C:Addr) (fs:List Str):Bool :=
  PySem.W.hasDictIn K C && PySem.W.excOver K C && PySem.W.findIn K (.ref C) "__setattr__" == some (some (.builtin "object.__setattr__")) && PySem.W.findIn K (.ref C) "__getattribute__" == some (some (.builtin "BaseException.__getattribute__")) &&
  PySem.W.findIn K (.ref C) "__getattr__" == some none && PySem.W.findIn K (.ref C) "__class__" == some (some (.builtin "object.__class__")) && fs.all fun f=>PySem.W.findIn K (.ref C) f == some none
structure XCl (K:PySem.W.Frag) (C:Addr) (fs:List Str):Prop where
  i:ClsI K C
  n:∀ f∈fs,jAu K C f
  m:PySem.W.excMk K C=true
theorem XCl.of {K:PySem.W.Frag} {C:Addr} {fs:List Str} (h:xcls K C fs=true) (m:PySem.W.excMk K C=true) (cn:PySem.W.specialIn K (.builtin "object.__class__") "__get__"=some (some (.builtin "getset_descriptor.__get__"))) (ct:PySem.W.takesIn K (.builtin "object.__class__")=some true):XCl K C fs:=by
  unfold xcls at h
  simp only [Bool.and_eq_true,beq_iff_eq,List.all_eq_true] at h
  obtain ⟨⟨⟨⟨⟨⟨h1,h2⟩,h3⟩,h4⟩,h5⟩,h6⟩,h7⟩:=h
  exact ⟨⟨⟨h1,h2,h3,h4,h5⟩,h6,cn,ct⟩,fun f hf=>h7 f hf,m⟩
end L2
namespace L2
open PySem PyProof.Rows PySem.Spec PySem.Calls
def jND (K:PySem.W.Frag) (cs:List Addr) (b:Addr):Bool :=
  (List.range cs.length).all fun i=>PySem.W.kitOne K (.ref (cs.getD i 0)) (.ref b) == some true && PySem.W.kitOne K (.ref (cs.getD i 0)) (.type "ValueError") == some true && (List.range cs.length).all fun j=>PySem.W.kitOne K (.ref (cs.getD i 0)) (.ref (cs.getD j 0)) == some (i == j)
theorem jMW {kvs:List (Key×V)} {k:Key} {v:V} (h:k ∉ kvs.map (·.1)):jBV kvs k v=kvs ++ [(k,v)]:=by
  unfold jBV
  rw [if_neg]
  intro e
  obtain ⟨p,hp,he⟩:=List.any_eq_true.mp e
  exact h (List.mem_map.mpr ⟨p,hp,of_decide_eq_true he⟩)
theorem jGg:∀ {more kvs:List (Key×V)} {ks:List Key},kvs.map (·.1) ++ more.map (·.1)=ks→ks.Nodup→jBZ kvs more=kvs ++ more
  | [],kvs,ks,_,_=>(List.append_nil _).symm
  | p :: r,kvs,ks,e,n=>by
    subst e
    have hn:p.1 ∉ kvs.map (·.1):=fun z=>by
      rw [List.map_cons,List.nodup_append] at n
      exact n.2.2 _ z _ (.head _) rfl
    show jBZ (jBV kvs p.1 p.2) r=_
    rw [jMW hn,jGg (more:=r) (kvs:=kvs ++ [(p.1,p.2)]) rfl (by rw [List.map_append,List.append_assoc];exact n),List.append_assoc]
    rfl
def spC (m:Nat):Sp:=fun vs H Q _ =>
  (1≤m∧∃ z:Str,vs=[.str z]∧Q (.str z) H) ∨
  (2≤m∧∃ (a:Addr) (zs:List Str),vs=[.ref a]∧H a=some (.lst (zs.map V.str))∧zs.length≤100∧∀ p H',jAo H H'→H p=none→H' p=some (.lst (zs.map V.str))→Q (.ref p) H') ∨
  (3≤m∧∃ (a l:Addr) (z:Str) (zs:List Str),vs=[.ref a]∧H a=some (.tup [.str z,.ref l])∧H l=some (.lst (zs.map V.str))∧zs.length≤100 ∧
    ∀ p q H',jAo H H'→H p=none→H q=none→H' p=some (.tup [.str z,.ref q])→H' q=some (.lst (zs.map V.str))→Q (.ref p) H') ∨
  (4≤m∧∃ (a b l:Addr) (z:Str) (zs:List Str),vs=[.ref a]∧H a=some (.lst [.ref b])∧H b=some (.tup [.str z,.ref l])∧H l=some (.lst (zs.map V.str))∧zs.length≤100 ∧
    ∀ r p q H',jAo H H'→H r=none→H' r=some (.lst [.ref p])→H' p=some (.tup [.str z,.ref q])→H' q=some (.lst (zs.map V.str))→Q (.ref r) H')
end L2
namespace PySem.W
open PySem
structure Noted (e:Addr) (cl:Value) (d:Option Addr) (fr:List Addr) (off:Addr→Prop) (h h':Heap):Prop where
  exc:∃ vs sl T oT ts,h'.get? e=some ⟨cl,d,.fields vs,sl⟩∧vs[1]?=some (.ref T)∧T≠e∧h.objs.size≤T∧h'.get? T=some oT∧oT.data=.fields ts∧ts[3]?=some .none
  keep:∀ b o,b≠e→¬ off b→b ∉ fr→h.get? b=some o→h'.get? b=some o
  slot:∀ b o,b≠e→¬ off b→h.get? b=some o→∃ sl,h'.get? b=some { o with slots:=sl }
  ctx:∀ o o' vs vs',h.get? e=some o→h'.get? e=some o'→o.data=.fields vs→o'.data=.fields vs'→vs'[2]?=vs[2]?
abbrev jKQ (ws:Array Value):Obj:={ cls:=.type "traceback",dict:=none,data:=.fields ws }
section
variable {M:Model} {E:Value→Shared→Prop} {A:Around} {s:Shared}
theorem jJ8 {bh:Heap} {env:Env} {outer:List Env} {L e:Addr} {cl head:Value} {d:Option Addr} {vs:Array Value} {sl:Array (Option Value)} {hadNext:Bool} {Q:Unit→Shared→Prop}
    (hA:A.frames=some (env :: outer)) (hl:s.heap.FunFrames bh (env :: outer)) (hf:env.frame=some L) (he:s.heap.get? e=some ⟨cl,d,.fields vs,sl⟩) (hz:1 < vs.size)
    (k:∀ h',Noted e cl d ((env :: outer).filterMap (·.frame)) (fun _=>False) s.heap h'→Q () { s with heap:=h' }) :
    wpAny M A (do let fo ← frameOf env;let pl ← entryPlaceOf L hadNext;let tb ← EntryCells.newEntry head fo .none (rawInt L) .none pl;setField (.ref e) 1 tb) (fun _ s1=>wpAny M A (setFlight (.ref e) none) Q E s1) E s:=by
  have eno:e ∉ (env :: outer).filterMap (·.frame):=fun z=>by
    obtain ⟨_,ob,q1,q2⟩:=hl.mem z
    rw [he] at q1
    cases q1
    exact q2 vs rfl
  refine wpAny_bind (wpAny_frameOf_fun hA hl hf fun g so=>?_)
  refine wpAny_bind (wpAny_entryPlaceOf fun pla hpl=>?_)
  unfold EntryCells.newEntry;unfold newFields
  refine (wpAny_bind (wpAny_newObj_type ?_ (hpl.sizeOk5 _ _ _ _ _)))
  generalize hws:([head,.ref L,.none,rawInt L,.none] ++ (if pla.isEmpty then List.replicate 6 Value.none else pla)).toArray=ws
  have wz:3 < ws.size:=by
    rw [← hws]
    simp only [List.size_toArray,List.length_append,List.length_cons,List.length_nil]
    omega
  have e1:g.get? e=some ⟨cl,d,.fields vs,sl⟩:=(so.2.1 e eno).trans he
  have nT:g.objs.size≠e:=Nat.ne_of_gt (Heap.lt_size e1)
  have e2:(g.push (jKQ ws)).get? e=_:=Heap.get?_push_of_some (h:=g) (jKQ ws) e1
  refine wpAny_setField e2 rfl hz ?_
  generalize hu:(g.push (jKQ ws)).update e (Obj.mapFields (·.setIfInBounds 1 (Value.ref g.objs.size)))=g2
  have e3:g2.get? e=some ⟨cl,d,.fields (vs.setIfInBounds 1 (.ref g.objs.size)),sl⟩:=by
    rw [← hu]
    exact Heap.get?_update_self _ e2 rfl
  have t3:g2.get? g.objs.size=some (jKQ ws):=by
    rw [← hu,Heap.get?_update_other _ _ (Ne.symm nT)]
    exact Heap.get?_push_size g rfl
  have o3:∀ b ob,b≠e→g.get? b=some ob→g2.get? b=some ob:=fun b ob hb q=>by
    rw [← hu,Heap.get?_update_other _ _ (Ne.symm hb)]
    exact Heap.get?_push_of_some _ q
  unfold setFlight
  refine wpAny_bind (wpAny_field e3 rfl (x:=.ref g.objs.size) (by simp [hz]) ?_)
  rw [if_pos (by simp)]
  refine wpAny_setField t3 rfl wz (k _ ⟨?_,fun b ob hb _ hx q=>?_,fun b ob hb _ q=>?_,fun o o' ws' vs' q1 q2 q3 q4=>?_⟩)
  · refine ⟨vs.setIfInBounds 1 (.ref g.objs.size),sl,g.objs.size,_,_,?_,by simp [hz],nT,?_,Heap.get?_update_self _ t3 rfl,rfl,by simp [wz]⟩
    · rw [Heap.get?_update_other _ _ nT]
      exact e3
    · exact Nat.le_of_eq so.1.symm
  · have q1:g.get? b=some ob:=(so.2.1 b hx).trans q
    rw [Heap.get?_update_other _ _ (Nat.ne_of_gt (Heap.lt_size q1))]
    exact o3 b ob hb q1
  · obtain ⟨s1,q1⟩:=so.2.2 b ob q
    refine ⟨s1,?_⟩
    rw [Heap.get?_update_other _ _ (Nat.ne_of_gt (Heap.lt_size q1))]
    exact o3 b _ hb q1
  · rw [Heap.get?_update_other _ _ nT,e3] at q2
    rw [he] at q1
    cases q1
    cases q2
    cases q3
    cases q4
    simp
def HeadAt (h:Heap) (e T:Addr):Prop:=T≠e∧∃ oT ts,h.get? T=some oT∧oT.data=.fields ts∧ts[3]?=some .none
theorem note_fly {bh:Heap} {env:Env} {outer:List Env} {L e:Addr} {cl:Value} {d:Option Addr} {vs:Array Value} {sl:Array (Option Value)} {off:Addr→Prop} {Q:Unit→Shared→Prop}
    (hA:A.frames=some (env :: outer)) (hl:s.heap.FunFrames bh (env :: outer)) (hf:env.frame=some L) (he:s.heap.get? e=some ⟨cl,d,.fields vs,sl⟩)
    (hv:vs[1]?=some .none∨∃ T,vs[1]?=some (.ref T)∧HeadAt s.heap e T∧off T)
    (k:∀ h',Noted e cl d ((env :: outer).filterMap (·.frame)) off s.heap h'→Q () { s with heap:=h' }) :
    wpAny M A (noteFrame (.ref e) env) (fun _ s1=>wpAny M A (setFlight (.ref e) none) Q E s1) E s:=by
  unfold noteFrame
  simp only [hf]
  rcases hv with hv | ⟨T,hv,⟨nT,oT,ts,hT,dT,h3⟩,ho⟩
  · refine wpAny_bind (wpAny_field he rfl hv ?_)
    rw [if_neg (by decide)]
    exact jJ8 hA hl hf he (Array.getElem?_eq_some_iff.mp hv).1 fun h' n=>k h' ⟨n.exc,fun b o h1 _=>n.keep b o h1 (fun z=>z),fun b o h1 _=>n.slot b o h1 (fun z=>z),n.ctx⟩
  · refine wpAny_bind (wpAny_field he rfl hv ?_)
    rw [if_pos (by simp)]
    refine wpAny_bind (wpAny_field hT dT h3 ?_)
    rw [if_neg (by simp [rawInt])]
    refine wpAny_bind (wpAny_setField hT dT (Array.getElem?_eq_some_iff.mp h3).1 ?_)
    generalize hu:s.heap.update T (Obj.mapFields (·.setIfInBounds 3 Value.none))=g
    have oth:∀ b,b≠T→g.get? b=s.heap.get? b:=fun b hb=>by rw [← hu];exact Heap.get?_update_other _ _ (Ne.symm hb)
    have hz:g.objs.size=s.heap.objs.size:=by rw [← hu];exact Heap.size_after_update ..
    refine jJ8 (s:={ s with heap:=g }) hA (hl.of_keeps fun b o q nf=>⟨o,(oth b fun z=>?_).trans q,rfl⟩) hf ((oth e (Ne.symm nT)).trans he) (Array.getElem?_eq_some_iff.mp hv).1 fun h' n=>k h' ⟨?_,fun b o h1 h2 h3 q=>?_,fun b o h1 h2 q=>?_,fun o o' ws vs' q1=>n.ctx o o' ws vs' ((oth e (Ne.symm nT)).trans q1)⟩
    · rw [z,hT] at q
      cases q
      exact nf ts dT
    · obtain ⟨vs',sl',T',o',ts',x1,x2,x3,x4,x5⟩:=n.exc
      exact ⟨vs',sl',T',o',ts',x1,x2,x3,by rw [← hz];exact x4,x5⟩
    · exact n.keep b o h1 (fun z=>z) h3 ((oth b fun z=>h2 (z ▸ ho)).trans q)
    · exact n.slot b o h1 (fun z=>z) ((oth b fun z=>h2 (z ▸ ho)).trans q)
end
end PySem.W
namespace L2
open PySem PyProof.Rows PySem.Spec PySem.Calls
def TrX (n:Nat) (H:Hp) (ea:Addr) (h:Heap):Prop:=∃ cl d vs sl T,h.get? ea=some ⟨cl,d,.fields vs,sl⟩∧vs[1]?=some (.ref T)∧PySem.W.HeadAt h ea T∧n≤T∧H T=none
def CXe (P:Program) (w:World):CXT:=fun outer H s E e s'=>∃ ea C d H',e=.ref ea∧s'.os=s.os∧AllBare s'.gens∧Un (frs outer) [] H H' s.heap s'.heap∧HOk P w H' s'.heap∧H' ea=some (XC ea C d) ∧
  TrX s.heap.objs.size H' ea s'.heap∧E (.ref C) (some ea) H'
def TrI (X:Cx) (pins:List (Addr×Obj)) (H:Hp) (ea:Addr) (h:Heap):Prop:=∃ cl d vs sl T,h.get? ea=some ⟨cl,d,.fields vs,sl⟩∧vs[1]?=some (.ref T)∧PySem.W.HeadAt h ea T∧X.s₀.heap.objs.size≤T∧H T=none ∧
  T≠X.env.locals∧(∀ x c,X.env.cells.lookup x=some c→c≠T)∧∀ p∈X.pn ++ pins,p.1≠T
structure Top (X:Cx):Prop where
  ex:X.ex=[]
  stk:X.stack=X.env :: X.outer
  fr:X.env.frame=some X.env.locals
def jCX (X:Cx) (G:St→XK):Prop:=∀ (pins:List (Addr×Obj)) (σ:St) (H:Hp) (s:Shared) (e:Value) (s':Shared),Inv X pins σ H s→CXe X.prog X.w X.stack H s (G σ) e s'→X.xe e s'
def jMz (X:Cx) (G:St→XK):Prop:=∀ (pins:List (Addr×Obj)) (σ:St) (H:Hp) (s:Shared) (ea C:Addr) (d:Option Addr),Inv X pins σ H s→H ea=some (XO ea C d)→G σ (.ref C) (some ea) (upd H ea (XC ea C d))→X.xe (.ref ea) s
abbrev G0:St→XK:=fun _ _ _ _=>False
theorem jBa {X:Cx}:jCX X G0:=fun _ _ _ _ _ _ _ ⟨_,_,_,_,_,_,_,_,_,_,_,z⟩=>z.elim
section
variable {X:Cx} {pins:List (Addr×Obj)} {σ:St} {H H':Hp} {s s':Shared} {ea C:Addr} {d:Option Addr} {h':Heap}
theorem Inv.flew {E:XK} {e:Value} (I:Inv X pins σ H s) (c:CXe X.prog X.w X.stack H s E e s'):∃ ea C d H',e=.ref ea∧Inv X pins σ H' s'∧H' ea=some (XC ea C d)∧TrI X pins H' ea s'.heap∧E (.ref C) (some ea) H':=by
  obtain ⟨ea,C,d,H',rfl,ho,hb,un,ok,hx,⟨cl,d',vs,sl,T,g1,g2,g3,g4,g5⟩,q⟩:=c
  refine ⟨ea,C,d,H',rfl,I.call' ho un ok hb (fun b z=>absurd z (by simp)),hx,⟨cl,d',vs,sl,T,g1,g2,g3,Nat.le_trans I.sz g4,g5,fun z=>?_,fun x c hc z=>?_,fun p hp z=>?_⟩,q⟩
  · have lt:=I.lt
    rw [← z] at lt
    exact absurd (Nat.lt_of_lt_of_le lt g4) (Nat.lt_irrefl _)
  · obtain ⟨v,o,q1,_⟩:=I.cell x c hc
    have lt:=Heap.lt_size q1
    rw [z] at lt
    exact absurd (Nat.lt_of_lt_of_le lt g4) (Nat.lt_irrefl _)
  · have lt:=Heap.lt_size (I.pin p hp).1
    rw [z] at lt
    exact absurd (Nat.lt_of_lt_of_le lt g4) (Nat.lt_irrefl _)
theorem Inv.noted {off:Addr→Prop} (t:Top X) (I:Inv X pins σ H s) (hx:H ea=some (XC ea C d))
    (ht:∀ T,off T→X.s₀.heap.objs.size≤T∧H T=none∧T≠X.env.locals∧(∀ x c,X.env.cells.lookup x=some c→c≠T)∧∀ p∈X.pn ++ pins,p.1≠T) (h1:∀ T U,off T→off U→T=U)
    (n:PySem.W.Noted ea (.ref C) d (X.env :: X.outer |>.filterMap (·.frame)) off s.heap h'):Inv X pins σ H { s with heap:=h' }∧TrI X pins H ea h':=by
  have fr:∀ b,b∈(X.env :: X.outer).filterMap (·.frame) ↔ b=X.env.locals∨b∈X.fs:=fun b=>by
    rw [List.filterMap_cons,t.fr]
    exact List.mem_cons
  have frn:∀ b,b∈(X.env :: X.outer).filterMap (·.frame)→H b=none:=fun b hb=>I.stkFree b (by rw [t.stk];exact hb)
  obtain ⟨vs,sl,T,oT,ts,x1,x2,x3,x4,x5,x6,x7⟩:=n.exc
  have nea:∀ b,H b=none→b≠ea:=fun b hb z=>by rw [z,hx] at hb;cases hb
  obtain ⟨ch,hch⟩:∃ ch:List Addr,(∀ b∈ch,off b)∧∀ b,off b→b∈ch:=by
    by_cases z:∃ T,off T
    · obtain ⟨T,hT⟩:=z
      exact ⟨[T],fun b hb=>by rw [List.mem_singleton.mp hb];exact hT,fun b hb=>by rw [h1 b T hb hT];exact List.mem_singleton.mpr rfl⟩
    · exact ⟨[],fun b hb=>absurd hb (by simp),fun b hb=>absurd ⟨b,hb⟩ z⟩
  have I':Inv X pins σ H { s with heap:=h',gens:=s.gens,drawn:=s.drawn,toks:=s.toks }:=by
    refine I.step (ch:=ch) (fun b hb=>?_) (fun b o h1 h2 h3 q hn=>?_) (fun b o h1 h2 h3 q hn=>?_) (fun _ _ _ _ q=>q) (fun b o h3 q=>?_) (fun _ _ q=>q) (fun _ _ _ q=>q) (fun b ps q=>⟨#[],by rw [q];simp⟩) (fun m hm=>?_) (fun b u hb=>?_) I.bare
    · obtain ⟨a1,_,a3,a4,a5⟩:=ht b (hch.1 b hb)
      exact ⟨.inr a1,a3,a4,a5⟩
    · exact n.keep b o (nea b hn) (fun z=>h3 (hch.2 b z)) (fun z=>((fr b).mp z).elim h1 h2) q
    · exact n.slot b o (nea b hn) (fun z=>h3 (hch.2 b z)) q
    · by_cases z:b=ea
      · rw [z];exact ⟨_,x1⟩
      · obtain ⟨l,q1⟩:=n.slot b o z (fun z=>h3 (hch.2 b z)) q
        exact ⟨_,q1⟩
    · obtain ⟨o,es,ep,ho,r⟩:=hm
      obtain ⟨l,q1⟩:=n.slot _ o (nea _ I.free) (fun z=>(ht _ z).2.2.1 rfl) ho
      exact ⟨_,es,ep,q1,r⟩
    · by_cases z:b=ea
      · subst z
        rw [hx] at hb
        cases hb
        obtain ⟨vs0,sl0,g0,c0⟩:=jNy I.hok (.inr hx)
        exact xc_ok x1 ((n.ctx _ _ _ _ g0 x1 rfl rfl).trans c0)
      · refine (I.hok b u hb).stay (fun c v hc q=>n.keep c v ?_ (fun z=>?_) (fun z=>?_) q) (fun _ q=>q) fun _ _ q=>q
        · rcases hc with rfl | hc
          · exact z
          · intro z
            rw [z,hx] at hc
            cases hc
        · have hn:=(ht c z).2.1
          rcases hc with rfl | hc
          · rw [hb] at hn;cases hn
          · rw [hc] at hn;cases hn
        · have hn:=frn c z
          rcases hc with rfl | hc
          · rw [hb] at hn;cases hn
          · rw [hc] at hn;cases hn
  have lt:=I.lt
  refine ⟨I',.ref C,d,vs,sl,T,x1,x2,⟨x3,oT,ts,x5,x6,x7⟩,Nat.le_trans I.sz x4,I.hok.fresh x4,fun z=>?_,fun x c hc z=>?_,fun p hp z=>?_⟩
  · rw [← z] at lt
    exact absurd (Nat.lt_of_lt_of_le lt x4) (Nat.lt_irrefl _)
  · obtain ⟨v,o,q1,_⟩:=I.cell x c hc
    have lt:=Heap.lt_size q1
    rw [z] at lt
    exact absurd (Nat.lt_of_lt_of_le lt x4) (Nat.lt_irrefl _)
  · have lt:=Heap.lt_size (I.pin p hp).1
    rw [z] at lt
    exact absurd (Nat.lt_of_lt_of_le lt x4) (Nat.lt_irrefl _)
theorem jJ9 {Q:Unit→Shared→Prop} {E:Value→Shared→Prop} (t:Top X) (I:Inv X pins σ H s) (hx:H ea=some (XC ea C d)) (tr:TrI X pins H ea s.heap)
    (k:∀ s',Inv X pins σ H s'→TrI X pins H ea s'.heap→Q () s') :
    wpAny (model X.prog X.w) X.A (noteFrame (.ref ea) X.env) (fun _ s1=>wpAny (model X.prog X.w) X.A (setFlight (.ref ea) none) Q E s1) E s:=by
  obtain ⟨cl,d',vs,sl,T,g1,g2,g3,g4⟩:=tr
  obtain ⟨vs',sl',q⟩:=jKP I.hok (.inr hx)
  rw [g1] at q
  cases q
  refine PySem.W.note_fly (bh:=X.base) (off:=fun b=>b=T) (outer:=X.outer) (by rw [← t.stk];exact I.ok.frames) (by rw [← t.stk];exact I.stack) t.fr g1 (.inr ⟨T,g2,g3,rfl⟩) fun h' n=>?_
  obtain ⟨a,b⟩:=I.noted (off:=fun b=>b=T) t hx (fun U z=>(show U=T from z) ▸ g4) (fun _ _ p q=>p.trans q.symm) n
  exact k _ a b
theorem jNE {Q:Unit→Shared→Prop} {E:Value→Shared→Prop} (t:Top X) (I:Inv X pins σ H s) (hx:H ea=some (XO ea C d))
    (k:∀ s',Inv X pins σ (upd H ea (XC ea C d)) s'→TrI X pins (upd H ea (XC ea C d)) ea s'.heap→Q () s') :
    wpAny (model X.prog X.w) X.A (noteFrame (.ref ea) X.env) (fun _ s1=>wpAny (model X.prog X.w) X.A (setFlight (.ref ea) none) Q E s1) E s:=by
  obtain ⟨t0,g1⟩:=jG2 I.hok hx
  have I1:Inv X pins σ (upd H ea (XC ea C d)) { s with heap:=s.heap,toks:=s.toks }:=I.write (x:=ea) (e:=ea) (by rw [hx];exact True.intro) (.inl rfl) (fun _ _ _ q=>q) ⟨_,g1⟩ (xc_ok g1 rfl)
  refine PySem.W.note_fly (bh:=X.base) (off:=fun _=>False) (outer:=X.outer) (by rw [← t.stk];exact I.ok.frames) (by rw [← t.stk];exact I.stack) t.fr g1 (.inl rfl) fun h' n=>?_
  obtain ⟨a,b⟩:=I1.noted t jAc (fun _ z=>z.elim) (fun _ _ z=>z.elim) n
  exact k _ a b
theorem TrI.tr (t:TrI X pins H ea h'):TrX X.s₀.heap.objs.size H ea h':=let ⟨cl,d,vs,sl,T,a,b,c,e,f,_⟩:=t;⟨cl,d,vs,sl,T,a,b,c,e,f⟩
end
section
variable {P:Program} {w:World} {K:PySem.W.Frag} {mg:Str→Option Value} {base:Heap} {N ps:List Str} {qual x:Str} {scope:Scope} {f:Addr} {cd:Value} {A:Around} {outer:List Env} {s:Shared} {H:Hp} {E:XK} {k:Nat}
abbrev cxE (P:Program) (w:World) (K:PySem.W.Frag) (mg:Str→Option Value) (base:Heap) (N:List Str) (qual:Str) (scope:Scope) (f:Addr) (cd:Value) (A:Around) (outer:List Env) (s:Shared) (H:Hp) (E:XK):Cx :=
  jGX (CXe P w) P w K mg base N qual scope f cd A outer s H E
theorem jMA:Top (cxE P w K mg base N qual scope f cd A outer s H E):=⟨rfl,rfl,rfl⟩
theorem jEp:PassesOwn (model P w) (cxE P w K mg base N qual scope f cd A outer s H E).A (cxE P w K mg base N qual scope f cd A outer s H E).env (cxE P w K mg base N qual scope f cd A outer s H E).xe:=PassesOwn.leaving
theorem jAw:jCX (cxE P w K mg base N qual scope f cd A outer s H E) (fun _=>E):=by
  intro pins σ H1 s1 e s2 I c
  obtain ⟨ea,C,d,H2,rfl,I2,hx,tr,q⟩:=I.flew c
  show wpAny _ _ (leaving _ _) _ _ _
  unfold leaving
  refine wpAny_bind (jJ9 jMA I2 hx tr fun s3 I3 t3=>?_)
  exact ⟨ea,C,d,H2,rfl,I3.os,I3.bare,I3.base,I3.hok,hx,t3.tr,q⟩
theorem jBk:jMz (cxE P w K mg base N qual scope f cd A outer s H E) (fun _=>E):=by
  intro pins σ H1 s1 ea C d I hx q
  show wpAny _ _ (leaving _ _) _ _ _
  unfold leaving
  refine wpAny_bind (jNE jMA I hx fun s3 I3 t3=>?_)
  exact ⟨ea,C,d,_,rfl,I3.os,I3.bare,I3.base,I3.hok,jAc,t3.tr,q⟩
theorem Fun.okE {st:Stmt} {fd:FuncData} {sp:Sp} (F:Fun K x qual st f fd) (S:jAl N ps (jAh st)) (len:∀ vs H Q E,sp vs H Q E→vs.length=ps.length)
    (hbody:∀ (cdv:Value) (A:Around) (outer:List Env) (s:Shared) (H:Hp) (vs:List V) (Q:VK) (E:XK),jAV k (A.deeper (envOfC qual (jAh st) s.heap.objs.size f cdv))→sp vs H Q E →
      ∃ t,PSs (cxE P w K mg base N qual (jAh st) f cdv A outer s H E) (jCw st) t∧t { nx:=fun _ H'=>Q .non H',rt:=Q } (jEf N vs) H):jAq P w K mg base (CXe P w) (k + 1) f fd ps sp:=by
  obtain ⟨oc,od,kV,doc,pm,an,cdv,ct,osl,rfl,lk,hcd⟩:=F.ex
  exact fn_of lk hcd S len fun A outer s H vs Q E hr hsp=>hbody cdv A outer s H vs Q E hr hsp
theorem jAq.lift {CX:CXT} {fd:FuncData} {sp:Sp} (F:jAq P w K mg base CX0 k f fd ps sp):jAq P w K mg base CX k f fd ps sp :=
  ⟨F.len,fun A outer s H args us vs Q E hr e0 hb r h=>codeAny_mono (F.run A outer s H args us vs Q E hr e0 hb r h) fun r s' q=>match r,q with
    | .ok (.ret _),q=>q
    | .ok .next,q=>q
    | .ok .brk,q=>q
    | .ok .cont,q=>q
    | .error _,q=>False.elim q⟩
structure DfE (P:Program) (w:World) (K:PySem.W.Frag) (mg:Str→Option Value) (base:Heap) (k:Nat) (x:Str) (ps:List Str) (sp:Sp):Prop where
  ex:∃ f fd,jAq P w K mg base (CXe P w) k f fd ps sp∧jBo K fd ps []∧PySem.W.keepIn K (.ref f)=true∧mg x=some (.ref f)
structure MtE (P:Program) (w:World) (K:PySem.W.Frag) (mg:Str→Option Value) (base:Heap) (k:Nat) (m:Str) (C:Addr) (ps:List Str) (sp:Sp):Prop where
  ex:∃ f fd,Meth K C m f∧jAq P w K mg base (CXe P w) k f fd ps sp∧jBo K fd ps []
end
def tCallE (sp:Sp) (G:St→XK) (t:TA):TE:=fun σ H Q=>t σ H fun vs H1=>sp vs H1 Q (G σ)
def jLc (P:Program) (w:World) (K:PySem.W.Frag) (mg:Str→Option Value) (base:Heap) (k:Nat) (m:Str) (G:St→XK) (ta:TE) (t:TA):TE:=fun σ H Q=>ta σ H fun x H1=>∃ a C dx fs ps sp,x=.ref a∧H1 a=some (.ins C dx fs)∧fs.lookup m=none∧Cls K C∧MtE P w K mg base k m C ps sp ∧
  t σ H1 fun vs H2=>sp (x :: vs) H2 Q (G σ)
section
variable {X:Cx} {k:Nat} {ps:List Str} {sp:Sp} {G:St→XK} {x m:Str} {p pos apos:Pos} {e o:Expr} {es:List Expr} {ta:TE} {t:TA}
theorem jJj {pins:List (Addr×Obj)} {σ:St} {H:Hp} {s:Shared} {Q:VK} {us:List Value} {vs:List V} {f:Addr} {fd:FuncData} (F:jAq X.prog X.w X.K X.mg X.base (CXe X.prog X.w) k f fd ps sp) (hr:jAV k X.A) (hb:jBo X.K fd ps []) (hx:jCX X G)
    (I:Inv X pins σ H s) (r:jAA vs us) (h:sp vs H Q (G σ)):wpAny (model X.prog X.w) X.A (call (.ref f) us) (EP X pins σ Q) X.xe s:=by
  have hl:us.length=ps.length:=by rw [← r.length];exact F.len _ _ _ _ h
  have hb2:=hb s us I.kIn (by rw [List.append_nil];exact hl)
  rw [List.append_nil] at hb2
  refine wpAny_call (codeAny_mono (F.run X.A X.stack s H ⟨us,[]⟩ us vs Q (G σ) hr I.env0 hb2 r h) fun r s' hq=>?_)
  cases r with
  | error e=>exact hx pins σ H s e s' I hq
  | ok fl =>
    cases fl with
    | ret u=>exact I.after hq
    | next=>exact False.elim hq
    | brk=>exact False.elim hq
    | cont=>exact False.elim hq
theorem jOm (D:DfE X.prog X.w X.K X.mg X.base k x ps sp) (hx:jCX X G) (hr:jAV k X.A) (hg:Gl X x) (ha:PA X (e :: es) t) (hdb:(x == ("__debug__":Str))=false:=by decide)
    (he:starEach (e :: es) X.env=(false,eval e X.env) :: starEach es X.env:=by rfl) (hpl:(backTo pos (starEach es X.env)).any (·.1)=false:=by rfl):PE X (.Call (.Name x p) (e :: es) [] pos) (tCallE sp G t):=by
  intro pins s σ H Q I h
  obtain ⟨f,fd,F,b,kp,hm⟩:=D.ex
  refine wpAny_Call_Name_kw (jCu I hg hm ?_ hdb)
  refine PySem.W.callWith_K (h₀:=X.base) I.ok.mod.kin kp (thn (ha pos pins s σ H _ I h) fun us s1 ⟨vs,H1,I1,r,q⟩=>⟨I1.kIn,?_⟩) he hpl
  exact jJj F hr b hx I1 r q
theorem jAR {pl:Sem Bool} (k:Nat) (hx:jCX X G) (hr:jAV k X.A) (he:PE X o ta) (ha:PA X (e :: es) t)
    (hst:starEach (e :: es) X.env=(false,eval e X.env) :: starEach es X.env:=by rfl) (hpl:(backTo pos (starEach es X.env)).any (·.1)=false:=by rfl)
    (ht:eval (.Call (.Attribute o m apos) (e :: es) [] pos) X.env=(do
      let ov ← eval o X.env
      standAt apos.atName
      let (f,first) ← holding [ov] (getMethod ov m pl)
      callWith pos f first (backTo pos (starEach (e :: es) X.env)) (backToKw pos (keywordEach [] X.env))):=by rfl) :
    PE X (.Call (.Attribute o m apos) (e :: es) [] pos) (jLc X.prog X.w X.K X.mg X.base k m G ta t):=by
  intro pins s σ H Q I h
  refine PySem.W.methodCall_KW (pl:=pl) (thn (he pins s σ H _ I h) fun u s1 ⟨x,H1,I1,rx,a,C,dx,fs,ps,sp,ex,ea,l,c,D,q⟩=>?_) ht
  subst ex
  obtain rfl:u=Value.ref a:=rx
  obtain ⟨f,fd,hm,F,b⟩:=D.ex
  refine jIg I1 ea c hm l ?_
  refine PySem.W.callWith_K (first:=[.ref a]) (h₀:=X.base) I.ok.mod.kin hm.kp (thn (ha pos pins s1 σ H1 _ I1 q) fun us s2 ⟨vs,H2,I2,r,q2⟩=>⟨I2.kIn,?_⟩) hst hpl
  exact jJj (us:=.ref a :: us) (vs:=.ref a :: vs) F hr b hx I2 (.cons rfl r) q2
theorem jAt {pl:Sem Bool} (k:Nat) (hx:jCX X G) (hr:jAV k X.A) (he:PE X o ta)
    (ht:eval (.Call (.Attribute o m apos) [] [] pos) X.env=(do
      let ov ← eval o X.env
      standAt apos.atName
      let (f,first) ← holding [ov] (getMethod ov m pl)
      callWith pos f first (backTo pos (starEach [] X.env)) (backToKw pos (keywordEach [] X.env))):=by rfl) :
    PE X (.Call (.Attribute o m apos) [] [] pos) (jLc X.prog X.w X.K X.mg X.base k m G ta tNil):=by
  intro pins s σ H Q I h
  refine PySem.W.methodCall_KW (pl:=pl) (thn (he pins s σ H _ I h) fun u s1 ⟨x,H1,I1,rx,a,C,dx,fs,ps,sp,ex,ea,l,c,D,q⟩=>?_) ht
  subst ex
  obtain rfl:u=Value.ref a:=rx
  obtain ⟨f,fd,hm,F,b⟩:=D.ex
  refine jIg I1 ea c hm l ?_
  exact PySem.W.callWith_K0 (first:=[.ref a]) I1.kIn hm.kp (jJj (us:=[.ref a]) (vs:=[.ref a]) F hr b hx I1 (.cons rfl .nil) q)
end
end L2
namespace PySem.W
open PySem PyProof.Rows PySem.Spec PySem.Calls
def mroHas (K:Frag) (C:Addr) (c:Value):Bool:=match K.lookup C with
  | some ⟨_,_,.cls cd,_⟩=>cd.mro.contains c
  | _=>false
theorem jJk {K:Frag} {h:Heap} {C:Addr} (X:K.In h) (q:excMk K C=true):∃ tlm,ExcAt h C tlm∧OwnTail h jEh tlm∧∀ c,mroHas K C c=(Value.ref C :: tlm).contains c:=by
  obtain ⟨tlm,hE,T⟩:=jG0 X q
  refine ⟨tlm,hE,T,fun c=>?_⟩
  unfold mroHas
  cases hk:K.lookup C with
  | none =>
    unfold excMk at q
    rw [hk] at q
    cases q
  | some o =>
    obtain ⟨N,nm,q,bs,hdct,sn,sub,ab,col,dd,q0,q1,q2,q3,q5,hCl⟩:=hE
    have z:=X _ _ hk
    rw [hCl] at z
    cases z
    rfl
section
variable {M:Model} {A:Around} {E:Value→Shared→Prop} {env:Env} {K:Frag}
theorem exc_match {h:Heap} {g:Array GenState} {d:Drawn} {t:Nat} {os:OsState} {e C D:Addr} {oe:Obj} {Q:Bool→Shared→Prop} (X:K.In h) (qC:excMk K C=true) (qD:excMk K D=true) (he:h.get? e=some oe) (hc:oe.cls=.ref C)
    (hq:Q (mroHas K C (.ref D)) ⟨h,g,d,t,os⟩):wpAny M A (excMatches (.ref e) (.ref D)) Q E ⟨h,g,d,t,os⟩:=by
  obtain ⟨tl,⟨N,nm,q,bs,hdct,sn,sub,ab,col,dd,q0,q1,q2,q3,q5,hC⟩,_,mh⟩:=jJk X qC
  obtain ⟨tl',⟨N',nm',q',bs',hdct',sn',sub',ab',col',dd',q0',q1',q2',q3',q5',hD⟩,T,_⟩:=jJk X qD
  have hB:(Value.ref D :: tl').contains (.type "BaseException")=true:=by
    rw [List.contains_cons,T.hasType (show jEh.contains (.type "BaseException")=true from by decide +kernel),Bool.or_true]
  rw [mh] at hq
  have f:=tc_notTuple
  unfold excMatches
  repeat (first | (with_reducible refine wpAny_loadPart_at he ?_;rw [hc]) | with_reducible refine wpAny_loadPart_at hD ?_ | (with_reducible refine wpAny_isSubtype_exc hD ?_;rw [hB]) | with_reducible refine wpAny_isSubtype_exc hC ?_ | wp_step)
  all_goals (cases hb:(Value.ref C :: tl).contains (.ref D) <;> (rw [hb] at hq;wp_walk;exact hq))
theorem raise_X {s:Shared} {x:Sem Value} {Q:Flow→Shared→Prop} (hh:A.handled=none)
    (h:wpAny M A x (fun v s1=>∃ e C d t0,v=.ref e∧K.In s1.heap∧excMk K C=true∧s1.heap.get? e=some ⟨.ref C,d,.fields #[.ref t0,.none,.none,.none,.bool false,.none],#[]⟩∧E (.ref e) s1) E s) :
    wpAny M A (raiseStmt env (some x) none) Q E s := by  -- raised here
  unfold raiseStmt
  refine wpAny_bind (wpAny_mono h (fun v s1 h1=>?_) fun _ _ x=>x)
  obtain ⟨e,C,d,t0,rfl,X,qC,he,hE⟩:=h1
  obtain ⟨tl,⟨N,nm,q,bs,hdct,sn,sub,ab,col,dd,q0,q1,q2,q3,q5,hC⟩,T,_⟩:=jJk X qC
  have hB:(Value.ref C :: tl).contains (.type "BaseException")=true:=by
    rw [List.contains_cons,T.hasType (show jEh.contains (.type "BaseException")=true from by decide +kernel),Bool.or_true]
  obtain ⟨hp,g,d',tk,os⟩:=s1
  repeat (first | with_reducible refine wpAny_loadPart_at he ?_ | with_reducible refine wpAny_loadPart_at hC ?_ | (with_reducible refine wpAny_isSubtype_exc hC ?_;rw [hB]) | wp_step)
  exact (wpAny_raiseNew_none hh hE)
end
end PySem.W
namespace L2
open PySem PyProof.Rows PySem.Spec PySem.Calls
def tRaise (K:PySem.W.Frag) (G:St→XK) (te:TE):TS:=fun _ σ H=>te σ H fun v H1=>∃ ea C d,v=.ref ea∧H1 ea=some (XO ea C d)∧PySem.W.excMk K C=true∧G σ (.ref C) (some ea) (upd H1 ea (XC ea C d))
abbrev Cx.caught (X:Cx) (ea:Addr):Cx:={ X with A:=X.A.mark (some (.ref ea)),calm:=false,xe:=fun _ _=>False }
abbrev Cx.inTry (X:Cx) (ps:List (Addr×Obj)) (xe:Value→Shared→Prop):Cx:={ X with pn:=X.pn ++ ps,xe:=xe }
section
variable {X:Cx} {pins:List (Addr×Obj)} {σ:St} {H:Hp} {s:Shared} {ea:Addr}
theorem jBt {G:St→XK} {e:Expr} {te:TE} {pos:Pos} (hR:jMz X G) (hc:X.calm=true) (he:PE X e te):PS X (.Raise (some e) none pos) (tRaise X.K G te):=by
  intro pins s σ H D I h
  show wpAny _ _ (do standAt pos;raiseStmt X.env (some (do let v ← eval e X.env;standAt pos;pure v)) none) _ _ s
  refine wpAny_bind (wpAny_standAt (PySem.W.raise_X (K:=X.K) (I.ok.hd hc) (wpAny_bind (thn (he pins s σ H _ I h) fun v s1 ⟨x,H1,I1,rx,ea,C,d,ex,hx,mk,q⟩=>wpAny_bind (wpAny_standAt (wpAny_pure ?_))))))
  subst ex
  obtain rfl:v=Value.ref ea:=rx
  obtain ⟨t0,g1⟩:=jG2 I1.hok hx
  exact ⟨ea,C,d,t0,rfl,I1.kIn,mk,g1,hR pins σ H1 s1 ea C d I1 hx q⟩
theorem Cx.Ok.caught (ok:X.Ok):(X.caught ea).Ok :=
  ⟨ok.mod,ok.kind,ok.glob,ok.blt,ok.above,ok.inj,ok.has,ok.cab,(fun z=>nomatch z),ok.frames,ok.stk,ok.exf,ok.bs,ok.bsz,ok.noex,ok.exfs,ok.funs,ok.frf⟩
theorem Inv.caught (I:Inv X pins σ H s):Inv (X.caught ea) pins σ H s:=⟨I.ok.caught,I.os,I.bare,I.base,I.loc,I.cell,I.free,I.freeC,I.pin,I.hok,I.len⟩
theorem Inv.uncaught (o:X.Ok) (I:Inv (X.caught ea) pins σ H s):Inv X pins σ H s:=⟨o,I.os,I.bare,I.base,I.loc,I.cell,I.free,I.freeC,I.pin,I.hok,I.len⟩
theorem Cx.Ok.inTry {ps:List (Addr×Obj)} {xe:Value→Shared→Prop} (ok:X.Ok):(X.inTry ps xe).Ok :=
  ⟨ok.mod,ok.kind,ok.glob,ok.blt,ok.above,ok.inj,ok.has,ok.cab,ok.hd,ok.frames,ok.stk,ok.exf,ok.bs,ok.bsz,ok.noex,ok.exfs,ok.funs,ok.frf⟩
theorem Inv.inTry {xe:Value→Shared→Prop} (I:Inv X pins σ H s):Inv (X.inTry pins xe) [] σ H s:=⟨I.ok.inTry,I.os,I.bare,I.base,I.loc,I.cell,I.free,I.freeC,fun p hp=>I.pin p (by rw [← List.append_nil (X.pn ++ pins)];exact hp),I.hok,I.len⟩
theorem Inv.outTry {ps:List (Addr×Obj)} {xe:Value→Shared→Prop} (o:X.Ok) (I:Inv (X.inTry ps xe) pins σ H s):Inv X ps σ H s:=⟨o,I.os,I.bare,I.base,I.loc,I.cell,I.free,I.freeC,fun p hp=>I.pin p (List.mem_append_left _ hp),I.hok,I.len⟩
theorem SP.outTry {ps:List (Addr×Obj)} {xe:Value→Shared→Prop} {D:jBB} {f:Flow} {s':Shared} (o:X.Ok) (h:SP (X.inTry ps xe) pins D f s'):SP X ps D f s':=by
  cases f with
  | next=>obtain ⟨σ',H',I,q⟩:=h;exact ⟨σ',H',I.outTry o,q⟩
  | brk=>obtain ⟨σ',H',I,q⟩:=h;exact ⟨σ',H',I.outTry o,q⟩
  | cont=>obtain ⟨σ',H',I,q⟩:=h;exact ⟨σ',H',I.outTry o,q⟩
  | ret u=>obtain ⟨v,σ',H',I,r,q⟩:=h;exact ⟨v,σ',H',I.outTry o,r,q⟩
theorem jNF {M:Model} {A:Around} {E:Value→Shared→Prop} {i:Nat} {n:Str} {v:V} {Q:Unit→Shared→Prop} (I:Inv X pins σ H s) (hN:X.N.Nodup) (hi:X.N[i]?=some n) (hx:X.env.scope.names.lookup n=some .local) (hv:σ[i]?=some (some v))
    (h:∀ s',Inv X pins (σ.set i none) H s'→Q () s'):wpAny M A (unbindName X.env n) Q E s:=by
  obtain ⟨m,hn,hl⟩:=id I.loc
  obtain ⟨u,_,lk⟩:=hl i n v hi hv (.inl hx)
  have hm:m n=some u:=by
    rcases lk with ⟨_,e⟩ | ⟨k,_⟩
    · exact e
    · have kx:X.env.kindOf n=some .local:=hx
      rw [kx] at k
      rcases k with k | k <;> cases k
  have hcls:(X.env.scope.kind == .class || (X.env.scope.kind == .module && X.env.locals != X.env.globals))=false:=by rw [I.ok.kind];rfl
  have iσ:i < σ.length:=by rw [I.len];exact (List.getElem?_eq_some_iff.mp hi).1
  refine wpAny_unbindName_local hx hn hm hcls fun h' u' hn' hs=>h _ ?_
  obtain ⟨oLo,_,_,hoLo,_⟩:=id hn
  have ne0:∀ b o,X.s₀.heap.get? b=some o→b≠X.env.locals:=fun b o e=>Nat.ne_of_lt (Nat.lt_of_lt_of_le (Heap.lt_size e) I.ok.above)
  refine ⟨I.ok,I.os,I.bare,⟨fun b o e nn hb he=>(hs.2 b (ne0 b o e)).trans (I.base.keep b o e nn hb he),fun b o e nn hb he=>?_,I.base.free,fun b o e he=>?_,I.base.tups,I.base.frzs,I.base.tbls⟩,⟨_,hn',fun j y w' e1 e2 e3=>?_⟩,fun y c e=>?_,I.free,I.freeC,fun p hp=>?_,fun b ob e=>?_,by simpa using I.len⟩
  · obtain ⟨sl,q⟩:=I.base.slot b o e nn hb he
    exact ⟨sl,(hs.2 b (ne0 b o e)).trans q⟩
  · obtain ⟨o',q⟩:=I.base.there b o e he
    exact ⟨o',(hs.2 b (ne0 b o e)).trans q⟩
  · have hj:j≠i:=fun z=>by
      subst z
      rw [List.getElem?_set_self iσ] at e2
      cases e2
    rw [List.getElem?_set_ne (Ne.symm hj)] at e2
    obtain ⟨u2,r2,q⟩:=hl j y w' e1 e2 e3
    refine ⟨u2,r2,?_⟩
    rcases q with ⟨k,e⟩ | ⟨k,c,e,z⟩
    · refine .inl ⟨k,?_⟩
      have hy:y≠n:=fun z=>hj (jHY hN e1 (z ▸ hi))
      show (if y=n then u' else m y)=some u2
      rw [if_neg hy]
      exact e
    · exact .inr ⟨k,c,e,z.sameBut hs (I.cne y c e)⟩
  · obtain ⟨w',z⟩:=I.cell y c e
    exact ⟨w',z.sameBut hs (I.cne y c e)⟩
  · obtain ⟨e,nn,ne,nf,dd⟩:=I.pin p hp
    exact ⟨(hs.2 p.1 ne).trans e,nn,ne,nf,dd⟩
  · refine (I.hok b ob e).stay (fun c w' hc q=>(hs.2 c ?_).trans q) (fun _ q=>q) fun _ _ q=>q
    rintro rfl
    rcases hc with rfl | hc
    · rw [I.free] at e;cases e
    · rw [I.free] at hc;cases hc
end
abbrev TH:=jBB→St→Hp→Addr→Addr→Prop
def PH (X:Cx) (hs:List ExceptHandler) (t:TH):Prop:=∀ (pins:List (Addr×Obj)) (s:Shared) (σ:St) (H:Hp) (D:jBB) (ea C:Addr) (d:Option Addr),Inv X pins σ H s→H ea=some (XC ea C d)→TrI X pins H ea s.heap→t D σ H C ea →
  wpAny (model X.prog X.w) X.A (handleBy (.ref ea) X.env hs) (SP X pins D) X.xe s
def tNoH:TH:=fun _ _ _ _ _=>False
def jBB.less (D:jBB) (i:Nat):jBB:={ nx:=fun σ H=>D.nx (σ.set i none) H,rt:=D.rt,bk:=fun σ H=>D.bk (σ.set i none) H,ct:=fun σ H=>D.ct (σ.set i none) H }
def tAs (K:PySem.W.Frag) (B:Addr) (i:Nat) (ts:TS) (tr:TH):TH:=fun D σ H C ea=>PySem.W.excMk K C=true∧PySem.W.excMk K B=true∧∃ b,PySem.W.mroHas K C (.ref B)=b∧if b=true then ts (D.less i) (σ.set i (some (.ref ea))) H else tr D σ H C ea
def tTry (tb:(St→XK)→TS) (th:TH):TS:=fun D σ H=>tb (fun σ' c oa H'=>∃ C ea,c=.ref C∧oa=some ea∧th D σ' H' C ea) D σ H
section
variable {X:Cx}
theorem ph_nil:PH X [] tNoH:=fun _ _ _ _ _ _ _ _ _ _ _ h=>h.elim
theorem jKR {x n:Str} {B:Addr} {i:Nat} {b₀:Stmt} {suite:List Stmt} {ts:TS} {tr:TH} {np hpos:Pos} {rest:List ExceptHandler} (hg:Gl X x) (hm:X.mg x=some (.ref B)) (hN:X.N.Nodup) (hi:X.N[i]?=some n) (hl:X.env.scope.names.lookup n=some .local)
    (hs:∀ ea,PSs (X.caught ea) (b₀ :: suite) ts) (hr:PH X rest tr) (hd:(x == ("__debug__":Str))=false:=by decide):PH X (.ExceptHandler (some (.Name x np)) (some n) (b₀ :: suite) hpos :: rest) (tAs X.K B i ts tr):=by
  intro pins s σ H D ea C d I hx tr h
  obtain ⟨mC,mB,b,hb,h⟩:=h
  have I1:Inv (X.caught ea) pins σ H s:=I.caught
  refine wpAny_handleBy_cons (codeAny_handlers_test (jCu I1 hg hm ?_ hd)) (by intro q;cases q)
  obtain ⟨vs,sl,g1⟩:=jKP I.hok (.inr hx)
  refine PySem.W.exc_match (K:=X.K) I.kIn mC mB g1 rfl ?_
  rw [hb]
  cases b with
  | false=>exact hr pins s σ H D ea C d I hx tr h
  | true =>
    show codeAny _ _ _ _ _
    refine (codeAny_handlers_suite_as ?_)
    obtain ⟨cl,d',vs',sl',T,g1',g2,⟨nT,oT,ts',gT,dT,h3⟩,g4,g5,g6,g7,g8⟩:=tr
    rw [g1] at g1'
    cases g1'
    unfold setFlight
    refine wpAny_bind (wpAny_field g1 rfl g2 ?_)
    rw [if_pos (by simp)]
    refine wpAny_setField gT dT (Array.getElem?_eq_some_iff.mp h3).1 ?_
    have I2:Inv (X.caught ea) pins σ H { s with heap:=s.heap.update T (Obj.mapFields (·.setIfInBounds 3 ((none:Option Addr).elim Value.none fun f=>rawInt f))),toks:=s.toks } :=
      I1.turned (it:=T) (fun b o hb q=>by rw [Heap.get?_update_other _ _ (Ne.symm hb)];exact q) g5 g6 (.inr g4) g7 g8
    refine jEs (X:=X.caught ea) I2 hN hi (.inl hl) (v:=.ref ea) rfl (fun s3 I3=>?_) (.inr hl)
    refine wpAny_mono (hs ea pins s3 _ H (D.less i) I3 h) (fun f s4 q=>?_) fun _ _ z=>False.elim z
    have fin:∀ {σ':St} {H':Hp} {Q:Shared→Prop},Inv (X.caught ea) pins σ' H' s4→(∀ s5,Inv X pins (σ'.set i none) H' s5→Q s5)→wpAny (model X.prog X.w) X.A (do bindName X.env n .none;unbindBehindTheSuite X.env n hpos) (fun _ s5=>Q s5) X.xe s4:=fun {σ' H' Q} J k=>by
      have J':=J.uncaught I.ok
      refine wpAny_bind (wpAny_bindName (jEs J' hN hi (.inl hl) (v:=.non) rfl (fun s5 I5=>?_) (.inr hl)))
      unfold unbindBehindTheSuite
      refine wpAny_onRaise (jNF I5 hN hi hl (List.getElem?_set_self (by rw [J'.len];exact (List.getElem?_eq_some_iff.mp hi).1)) fun s6 I6=>k s6 ?_)
      rwa [List.set_set] at I6
    cases f with
    | next=>obtain ⟨σ',H',J,q⟩:=q;exact fin (Q:=fun s5=>SP X pins D .next s5) J fun s5 I5=>⟨_,H',I5,q⟩
    | brk=>obtain ⟨σ',H',J,q⟩:=q;exact fin (Q:=fun s5=>SP X pins D .brk s5) J fun s5 I5=>⟨_,H',I5,q⟩
    | cont=>obtain ⟨σ',H',J,q⟩:=q;exact fin (Q:=fun s5=>SP X pins D .cont s5) J fun s5 I5=>⟨_,H',I5,q⟩
    | ret u=>obtain ⟨v,σ',H',J,r,q⟩:=q;exact fin (Q:=fun s5=>SP X pins D (.ret u) s5) J fun s5 I5=>⟨v,_,H',I5,r,q⟩
theorem ps_try {body:List Stmt} {h₀:ExceptHandler} {hs:List ExceptHandler} {pos:Pos} {tb:(St→XK)→TS} {th:TH} (t:Top X)
    (hb:∀ (ps:List (Addr×Obj)) (xe:Value→Shared→Prop) (G:St→XK),jCX (X.inTry ps xe) G→PassesOwn (model X.prog X.w) X.A X.env xe→PSs (X.inTry ps xe) body (tb G))
    (hh:PH X (h₀ :: hs) th):PS X (.Try body (h₀ :: hs) [] [] pos) (tTry tb th):=by
  intro pins s σ H D I h
  have o:=I.ok
  refine wpAny_Try_except (thn (hb pins _ _ ?_ PassesOwn.looking [] s σ H D I.inTry h) fun f s1 q=>?_)
  · intro ps2 σ2 H2 s2 e s3 I2 c
    obtain ⟨ea,C,d,H3,rfl,I3,hx,tr,C',ea',e1,e2,q⟩:=I2.flew c
    cases e1
    cases e2
    have tr':TrI X pins H3 ea s3.heap:=let ⟨a1,a2,a3,a4,a5,b1,b2,b3,b4,b5,b6,b7,b8⟩:=tr;⟨a1,a2,a3,a4,a5,b1,b2,b3,b4,b5,b6,b7,fun p hp=>b8 p (List.mem_append_left _ hp)⟩
    exact jJ9 t (I3.outTry o) hx tr' fun s4 I4 t4=>hh pins s4 σ2 H3 D ea C d I4 hx t4 q
  · have q':=q.outTry o
    cases f with
    | next=>exact wpAny_execs_nil q'
    | brk=>exact q'
    | cont=>exact q'
    | ret u=>exact q'
end
end L2
namespace L2
open PySem PyProof.Rows PySem.Spec PySem.Calls
def XG (H:Hp) (e C:Addr) (fs:List (Str×V)):Prop:=∃ dx,IsX H e C (some dx)∧H dx=some (XD dx fs)∧dx≠e
theorem XF.raised {H:Hp} {e C:Addr} {fs:List (Str×V)} (x:XF H e C fs):∃ dx,H e=some (XO e C (some dx))∧XG (L2.upd H e (XC e C (some dx))) e C fs :=
  let ⟨d,a,b,c⟩:=x
  ⟨d,a,d,.inr jAc,by rw [jAj c];exact b,c⟩
def rIsO (K:PySem.W.Frag):List V→Hp→VK→Prop:=fun xs H Q=>∃ x c t b,xs=[x,c]∧jBx K H x t∧(∀ u,jAx c u→u=clV c)∧PySem.W.kitOne K t (clV c)=some b∧Q (.bl b) H
def rIsG (K:PySem.W.Frag):List V→Hp→VK→Prop:=fun xs H Q=>∃ a C fs c b,xs=[.ref a,c]∧XG H a C fs∧ClsI K C∧(∀ u,jAx c u→u=clV c)∧PySem.W.kitOne K (.ref C) (clV c)=some b∧Q (.bl b) H
def rIsGT (K:PySem.W.Frag):List V→Hp→VK→Prop:=fun xs H Q=>∃ a C fs tp cs b,xs=[.ref a,.ref tp]∧XG H a C fs∧ClsI K C∧H tp=some (.tup cs)∧(∀ c∈cs,∀ u,jAx c u→u=clV c)∧PySem.W.kitAny K (.ref C) (cs.map clV)=some b∧Q (.bl b) H
def tFldG (K:PySem.W.Frag) (ta:TE) (f:Str):TE:=fun σ H Q=>ta σ H fun x H1=>∃ a C fs v,x=.ref a∧XG H1 a C fs∧jDk K C∧jAu K C f∧fs.lookup f=some v∧Q v H1
section
variable {X:Cx} {e o:Expr} {es:List Expr} {f x:Str} {p pos apos:Pos} {ta:TE} {t:TA} {k:Nat} {ps:List Str} {sp:Sp}
theorem pe_fldG (he:PE X e ta) (hb:attributeBase e f X.env (eval e X.env)=eval e X.env):PE X (.Attribute e f pos) (tFldG X.K ta f):=by
  intro pins s σ H Q I h
  refine jMr hb (thn (he pins s σ H _ I h) fun u s1 ⟨x,H1,I1,rx,a,C,fs,v,ex,⟨dx,ea,ed,_⟩,c,n,l,q⟩=>?_)
  subst ex
  obtain rfl:u=Value.ref a:=rx
  exact getX_ok I1 ea ed c n l fun u' s2 I2 ru=>⟨v,H1,I2,ru,q⟩
structure InO (K:PySem.W.Frag) (B f:Addr):Prop where
  sp:PySem.W.specialIn K (.ref B) "__getattribute__"=some (some (.builtin "type.__getattribute__"))
  rd:PySem.W.readsIn K B (.type "type")=true
  fc:PySem.W.findCls K (.ref B) (.type "type") "__init__"=some (.val (.ref f))
structure InD (P:Program) (w:World) (K:PySem.W.Frag) (mg:Str→Option Value) (base:Heap) (k:Nat) (x:Str) (B:Addr) (ps:List Str) (sp:Sp):Prop where
  ex:∃ f fd,InO K B f∧jAq P w K mg base CX0 k f fd ps sp∧jBo K fd ps []∧PySem.W.keepIn K (.ref f)=true∧mg x=some (.ref B)
theorem jDm {B:Addr} {pl:Sem Bool} (D:InD X.prog X.w X.K X.mg X.base k x B ps sp) (hr:jAV k X.A) (hg:Gl X x) (ha:PA X (e :: es) t) (hdb:(x == ("__debug__":Str))=false:=by decide)
    (hst:starEach (e :: es) X.env=(false,eval e X.env) :: starEach es X.env:=by rfl) (hpl:(backTo pos (starEach es X.env)).any (·.1)=false:=by rfl)
    (ht:eval (.Call (.Attribute (.Name x p) "__init__" apos) (e :: es) [] pos) X.env=(do
      let ov ← eval (.Name x p) X.env
      standAt apos.atName
      let (f,first) ← holding [ov] (getMethod ov "__init__" pl)
      callWith pos f first (backTo pos (starEach (e :: es) X.env)) (backToKw pos (keywordEach [] X.env))):=by rfl) :
    PE X (.Call (.Attribute (.Name x p) "__init__" apos) (e :: es) [] pos) (tCall sp [] E0 t):=by
  intro pins s σ H Q I h
  obtain ⟨f,fd,J,F,b,kp,hm⟩:=D.ex
  refine PySem.W.methodCall_KW (pl:=pl) (jCu I hg hm ?_ hdb) ht
  refine PySem.W.method_cls I.kIn J.sp (PySem.W.cls_value I.kIn J.rd J.fc rfl ?_)
  refine PySem.W.callWith_K (first:=[]) (h₀:=X.base) I.ok.mod.kin kp (thn (ha pos pins _ σ H _ (I.tok (s.toks + 1)) h) fun us s1 ⟨vs,H1,I1,r,q⟩=>⟨I1.kIn,?_⟩) hst hpl
  exact jNk F hr b .nil jIl I1 r q
theorem jCq {C:Addr} (D:MkD X.prog X.w X.K X.mg X.base k x C ps sp) (hr:jAV (k + 1) X.A) (hg:Gl X x) (hdb:(x == ("__debug__":Str))=false:=by decide):PE X (.Call (.Name x p) [] [] pos) (jKK C sp [] E0 tNil):=by
  obtain ⟨f,fd,M,F,b,m⟩:=D.ex
  exact jN_ M F hr hg m b .nil jIl hdb
end
section
variable {P:Program} {w:World} {K:PySem.W.Frag} {mg:Str→Option Value} {base:Heap} {j k:Nat} {x m:Str} {C:Addr} {ps:List Str} {sp:Sp}
theorem MtE.mono (D:MtE P w K mg base j m C ps sp) (h:j≤k):MtE P w K mg base k m C ps sp:=let ⟨f,fd,a,b,c⟩:=D.ex;⟨f,fd,a,b.mono h,c⟩
end
end L2
namespace L2
open PySem PyProof.Rows PySem.Spec PySem.Calls
structure OwnTy (K:PySem.W.Frag) (C:Addr):Prop where
  ha:PySem.W.findIn K (.ref C) "__class__"=some (some (.builtin "object.__class__"))
  hn:PySem.W.specialIn K (.builtin "object.__class__") "__get__"=some (some (.builtin "getset_descriptor.__get__"))
  tk:PySem.W.takesIn K (.builtin "object.__class__")=some true
  hm:PySem.W.mroIn K C (.type "object")=some true
theorem top_nox {CX:CXT} {P:Program} {w:World} {K:PySem.W.Frag} {mg:Str→Option Value} {base:Heap} {N:List Str} {qual:Str} {scope:Scope} {f:Addr} {cd:Value} {A:Around} {outer:List Env} {s:Shared} {H:Hp} {E:XK} :
    Top (jGX CX P w K mg base N qual scope f cd A outer s H E).nox:=⟨rfl,rfl,rfl⟩
end L2
namespace L2
open PySem PyProof.Rows PySem.Spec PySem.Calls
section
variable {X:Cx} {P:Program} {w:World} {K:PySem.W.Frag} {mg:Str→Option Value} {base:Heap} {G:St→XK} {m:Str} {pos apos:Pos} {e o:Expr} {es:List Expr} {ta:TE} {t:TA}
theorem jNG {pl:Sem Bool} (q:X.prog=P∧X.w=w∧X.K=K∧X.mg=mg∧X.base=base) (k:Nat) (hx:jCX X G) (hr:jAV k X.A) (he:PE X o ta) (ha:PA X (e :: es) t)
    (hst:starEach (e :: es) X.env=(false,eval e X.env) :: starEach es X.env:=by rfl) (hpl:(backTo pos (starEach es X.env)).any (·.1)=false:=by rfl)
    (ht:eval (.Call (.Attribute o m apos) (e :: es) [] pos) X.env=(do
      let ov ← eval o X.env
      standAt apos.atName
      let (f,first) ← holding [ov] (getMethod ov m pl)
      callWith pos f first (backTo pos (starEach (e :: es) X.env)) (backToKw pos (keywordEach [] X.env))):=by rfl) :
    PE X (.Call (.Attribute o m apos) (e :: es) [] pos) (jLc P w K mg base k m G ta t):=by
  obtain ⟨rfl,rfl,rfl,rfl,rfl⟩:=q
  exact jAR (pl:=pl) k hx hr he ha hst hpl ht
end
end L2
namespace L2
open PySem PyProof.Rows PySem.Spec PySem.Calls
section
variable {X:Cx} {K:PySem.W.Frag} {e:Expr} {f:Str} {pos:Pos} {ta:TE}
theorem jGh (h:X.K=K) (he:PE X e ta) (hb:attributeBase e f X.env (eval e X.env)=eval e X.env):PE X (.Attribute e f pos) (tFldG K ta f):=by
  subst h
  exact pe_fldG he hb
end
end L2
namespace L2
open PySem PySem.Spec PyProof.Rows
def Its (lo d:Int) (n:Nat):It:=⟨fun i _=>i < n,fun i H x H'=>H'=H∧x=.int (lo + i * d),fun i _=>n≤i⟩
theorem jLY {P:Program} {w:World} {K:PySem.W.Frag} {tg:Expr} (it:Addr) (lo d:Int) (n:Nat):Turn P w K tg (Its lo d n) [it] it (fun i h=>IsRangeIter h it (lo + (i:Nat) * d) ((n:Int) - (i:Nat)) d) where
  mem:=by simp
  obj:=fun i h st b hb=>by
    have e:b=it:=by simpa using hb
    subst e
    exact ⟨_,st,fun v z=>nomatch (show Data.fields _=Data.cell v from z)⟩
  keep:=fun i h h' st k=>k it (by simp) _ st
  item:=by
    intro X hP hw hK hc i pins s σ H E I hf st hg
    subst hP hw hK
    obtain ⟨f0,f1,f2,f3,f4,f5⟩:=hf it (by simp)
    have W:=Walks.range (prog:=X.prog) (w:=X.w) (I.ok.hd hc) it lo d n
    refine W.item i s _ _ hg st fun v h' tk hv st' kk=>?_
    obtain ⟨t,rfl⟩:=hv
    have I1:Inv X pins σ H { s with heap:=h',toks:=tk }:=I.turned (fun b o hb e=>kk b o (by simpa using hb) e) f0 f1 f3 f4 f5
    exact ⟨_,rfl,jKH (s:={ s with heap:=h',toks:=tk }) (n:="range_iterator") st' rfl rfl (by decide) ⟨.int (lo + i * d),H,I1,⟨t,rfl⟩,⟨rfl,rfl⟩,st',fun b hb=>(hf b hb).1⟩⟩
  done:=by
    intro X hP hw hK hc i pins s σ H E I hf st hg
    subst hP hw hK
    obtain ⟨f0,f1,f2,f3,f4,f5⟩:=hf it (by simp)
    exact wpAny_pyNext_range_end (I.ok.hd hc) st (by have:n≤i:=hg;omega) fun h' eb=>⟨rfl,I.turned (t':=s.toks) (fun b o hb e=>eb b o hb e) f0 f1 f3 f4 f5⟩
  self:=fun _ _ _ _ _ st h=>wpAny_pyIter_rangeiter st h
theorem jMX (lo d:Int) (n:Nat) (H1:Hp):Seq (Its lo d n) H1 ((List.range n).map fun i=>V.int (lo + (i:Nat) * d)) where
  go:=fun i H _ hi=>by
    rw [List.length_map,List.length_range] at hi
    exact hi
  yld:=fun i H x H' _ hi y=>by
    obtain ⟨e,hx⟩:=y
    refine ⟨e,?_⟩
    rw [List.length_map,List.length_range] at hi
    rw [List.getElem?_map,List.getElem?_range hi,hx]
    rfl
  stop:=fun H _=>by
    show n≤_
    rw [List.length_map,List.length_range]
    exact Nat.le_refl _
theorem jMY {a b d:Int} (ha:-(2 ^ 60)≤a) (ha':a < 2 ^ 60) (hb:-(2 ^ 60)≤b) (hb':b < 2 ^ 60) (hd:0 < d) (hd':d < 2 ^ 29):Builtin.Range.small a b d=true:=by
  unfold Builtin.Range.small Builtin.Range.rangeSize
  simp only [Builtin.Range.rangeFitsLong,Bool.and_eq_true,Bool.or_eq_true,decide_eq_true_eq,beq_iff_eq,show d > 0 from hd,if_true]
  by_cases h:a < b
  · have h1:(b - a - 1) / d≤b - a - 1:=Int.ediv_le_self _ (by omega)
    have h2:0≤(b - a - 1) / d:=Int.ediv_nonneg (by omega) (by omega)
    have h3:d * ((b - a - 1) / d)≤b - a - 1:=Int.mul_ediv_self_le (by omega)
    simp only [if_pos h]
    omega
  · simp only [if_neg h]
    omega
section
variable {X:Cx} {tg:Expr}
theorem jNH {pins:List (Addr×Obj)} {σ:St} {H:Hp} {s:Shared} {R:It→Hp→Prop} {E:Value→Shared→Prop} {lo hi d:Int} {t u v:Tok} {tk:Nat} (I:Inv X pins σ H s) (hs:Builtin.Range.small lo hi d=true) (h0:0≤Builtin.Range.rangeSize lo hi d)
    (q:R (Its lo d (Builtin.Range.rangeSize lo hi d).toNat) H):wpAny (model X.prog X.w) X.A (pyIter (.ref s.heap.objs.size)) (PIE X pins σ tg R) E { s with heap:=s.heap.push { cls:=.type "range",data:=.fields #[.int lo t,.int hi u,.int d v] },toks:=tk }:=by
  refine wpAny_pyIter_range (IsRange.new ..) hs ?_
  have I1:Inv X pins σ H { s with heap:=s.heap.push { cls:=.type "range",data:=.fields #[.int lo t,.int hi u,.int d v] },toks:=tk }:=I.kept fun b o e=>Heap.get?_push_of_some _ e
  refine ⟨(s.heap.push { cls:=.type "range",data:=.fields #[.int lo t,.int hi u,.int d v] }).objs.size,[(s.heap.push { cls:=.type "range",data:=.fields #[.int lo t,.int hi u,.int d v] }).objs.size],_,_,H,rfl,
    I1.kept (t':=tk) fun b o e=>Heap.get?_push_of_some _ e,jLY _ lo d _,?_,fun b hb=>?_,q⟩
  · have e1:lo + ((0:Nat):Int) * d=lo:=by simp
    have e2:(((Builtin.Range.rangeSize lo hi d).toNat:Nat):Int) - ((0:Nat):Int)=Builtin.Range.rangeSize lo hi d:=by omega
    show IsRangeIter _ _ (lo + ((0:Nat):Int) * d) ((((Builtin.Range.rangeSize lo hi d).toNat:Nat):Int) - ((0:Nat):Int)) d
    rw [e1,e2]
    exact (Heap.get?_push_size _ rfl)
  · have e:b=(s.heap.push { cls:=.type "range",data:=.fields #[.int lo t,.int hi u,.int d v] }).objs.size:=by simpa using hb
    subst e
    exact I1.fpOk (Nat.le_refl _) (I1.hok.fresh (Nat.le_refl _))
def iRng3 (ta:TA):TI:=fun σ H R=>ta σ H fun vs H1=>∃ i j d:Int,vs=[.int i,.int j,.int d]∧(-(2 ^ 60)≤i∧i < 2 ^ 60∧-(2 ^ 60)≤j∧j < 2 ^ 60∧0 < d∧d < 2 ^ 29)∧R (Its i d (if i < j then (j - i - 1) / d + 1 else 0).toNat) H1
theorem jNI {a b c:Expr} {ta:TA} {p pos:Pos} (hg:Gl X "range") (hm:X.mg "range"=none) (ha:PA X [a,b,c] ta) (hs:starEach [a,b,c] X.env=[(false,eval a X.env),(false,eval b X.env),(false,eval c X.env)]:=by rfl) (hs2:starEach [b,c] X.env=[(false,eval b X.env),(false,eval c X.env)]:=by rfl) :
    PI X tg (.Call (.Name "range" p) [a,b,c] [] pos) (iRng3 ta):=by
  intro pins s σ H R I h
  refine Call_ (jDM I hg hm boot_range (PyProof.Rows.callWith_type1 (thn (ha pos pins s σ H _ I h) fun us s1 ⟨vs,H1,I1,r1,q1⟩=>?_) (by rw [hs,hs2]) (by rw [hs2];rfl)))
  obtain ⟨i,j,d,e,⟨q1,q2,q3,q4,q5,q6⟩,q⟩:=q1
  subst e
  obtain ⟨u1,u2,u3,rfl,x1,x2,x3⟩:∃ u1 u2 u3,us=[u1,u2,u3]∧jAx (.int i) u1∧jAx (.int j) u2∧jAx (.int d) u3:=by
    cases r1 with
    | cons x1 rr =>
      cases rr with
      | cons x2 rr =>
        cases rr with
        | cons x3 rr =>
          cases rr
          exact ⟨_,_,_,rfl,x1,x2,x3⟩
  obtain ⟨t1,rfl⟩:=x1
  obtain ⟨t2,rfl⟩:=x2
  obtain ⟨t3,rfl⟩:=x3
  have er:Builtin.Range.rangeSize i j d=if i < j then (j - i - 1) / d + 1 else 0:=by
    unfold Builtin.Range.rangeSize;rw [if_pos (show d > 0 from q5)]
  refine call_range_3 (by omega) (jNH I1 (jMY q1 q2 q3 q4 q5 q6) ?_ (by rw [er];exact q)) (Or.inl (PyProof.noPylong_small (by omega)))
  rw [er]
  split
  · have:=Int.ediv_nonneg (a:=j - i - 1) (b:=d) (by omega) (by omega)
    omega
  · exact Int.le_refl _
end
end L2
namespace L2
open PySem PySem.Spec PyProof.Rows
def New (H H':Hp) (G:Hp→Prop):Prop:=∃ S:Addr→Prop,(∀ b,S b→H b=none∧∃ o,H' b=some o)∧∀ H3,(∀ b,S b→H3 b=H' b)→G H3
theorem jEz {J:It} {tc:TT} {te:TE} {σf:Option V→St} {H1:Hp} {Q:VK} {xs:List V} (S:Seq J H1 xs) (G:V→V→Hp→Prop) (hz:xs.length < sizeLine)
    (hc:∀ x∈xs,∀ (H':Hp) (R:Bool→Hp→Prop),jAo H1 H'→R true H'→tc (σf (some x)) H' R)
    (he:∀ x∈xs,∀ (H':Hp) (R:VK),jAo H1 H'→(∀ y H'',jAo H' H''→New H' H'' (G x y)→R y H'')→te (σf (some x)) H' R)
    (q:∀ D H' ys,jAo H1 H'→H1 D=none→H' D=some (.lst ys)→ys.length=xs.length→(∀ (i:Nat) x y,xs[i]?=some x→ys[i]?=some y→G x y H')→Q (.ref D) H'):jIp J tc te σf H1 Q:=by
  intro D hD
  refine ⟨fun i m ys H2=>m=xs.length - i∧i≤xs.length∧jAo H1 H2∧H2 D=some (.lst ys)∧ys.length=i∧∀ (k:Nat) x y,xs[k]?=some x→ys[k]?=some y→∃ Z:Addr→Prop,(∀ b,Z b→b≠D∧∃ o,H2 b=some o)∧∀ H3,(∀ b,Z b→H3 b=H2 b)→G x y H3,
    ⟨xs.length,rfl,Nat.zero_le _,jAk hD _,jAc,rfl,fun k x y _ e=>by simp at e⟩,?_⟩
  rintro i m ys H2 ⟨rfl,hi,sm,hD2,hl,hg⟩
  refine ⟨hD2,?_⟩
  by_cases hlt:i < xs.length
  · refine .inr ⟨S.go i H2 sm hlt,by omega,fun x H3 y=>?_⟩
    obtain ⟨e,hx⟩:=S.yld i H2 x H3 sm hlt y
    subst e
    have mem:x∈xs:=List.mem_of_getElem? hx
    refine hc x mem _ _ sm (jAP (he x mem _ _ sm fun yv H5 s5 ny=>⟨s5 _ _ hD2,xs.length - (i + 1),by omega,rfl,hlt,jCx hD (sm.trans s5) _,jAc,by rw [List.length_append,hl];rfl,fun k x' y' ex ey=>?_⟩))
    by_cases hk:k < i
    · rw [List.getElem?_append_left (by omega)] at ey
      obtain ⟨Z,z1,z2⟩:=hg k x' y' ex ey
      refine ⟨Z,fun b hb=>?_,fun H6 h6=>z2 H6 fun b hb=>?_⟩
      · obtain ⟨nb,o,ho⟩:=z1 b hb
        exact ⟨nb,o,by rw [jAj nb];exact s5 _ _ ho⟩
      · obtain ⟨nb,o,ho⟩:=z1 b hb
        rw [h6 b hb,jAj nb,s5 _ _ ho,ho]
    · have ek:k=i:=by
        have:=(List.getElem?_eq_some_iff.mp ey).1
        rw [List.length_append,hl] at this
        have:k < i + 1:=this
        omega
      subst ek
      rw [List.getElem?_append_right (by omega),hl,Nat.sub_self] at ey
      obtain rfl:yv=y':=Option.some.inj ey
      obtain rfl:x=x':=Option.some.inj (hx.symm.trans ex)
      obtain ⟨Z,z1,z2⟩:=ny
      have nD:∀ b,Z b→b≠D:=fun b hb e=>by
        have:=(z1 b hb).1
        rw [e,hD2] at this
        cases this
      refine ⟨Z,fun b hb=>?_,fun H6 h6=>z2 H6 fun b hb=>?_⟩
      · obtain ⟨_,o,ho⟩:=z1 b hb
        exact ⟨nD b hb,o,by rw [jAj (nD b hb)];exact ho⟩
      · rw [h6 b hb,jAj (nD b hb)]
  · have e:i=xs.length:=by omega
    refine .inl ⟨by rw [e];exact S.stop H2 sm,q D H2 ys sm hD hD2 (by omega) fun k x y ex ey=>?_⟩
    obtain ⟨Z,_,z2⟩:=hg k x y ex ey
    exact z2 H2 fun _ _=>rfl
end L2
namespace L2
open PySem PySem.Spec PyProof.Rows
def ofVal:Value→V
  | .bool b=>.bl b
  | .int i _=>.int i
  | .str x _=>.str x
  | .bytes b _=>.byt b
  | .float b _=>.flt b
  | .ref a=>.ref a
  | .type n=>.ty n
  | _=>.non
def rIndex:V→List V→Hp→VK→Prop:=fun x vs H Q=>∃ l xs y j,x=.ref l∧vs=[y]∧H l=some (.lst xs)∧xs.all jA1=true∧jA1 y=true∧xs.length≤1000∧j < xs.length∧eqV (xs.getD j .non) y=true∧(∀ m,m < j→eqV (xs.getD m .non) y=false)∧Q (.int (j:Nat)) H
end L2
namespace L2
open PySem PyProof.Rows PySem.Spec PySem.Calls
def rDq (K:PySem.W.Frag) (n:Nat) (b:Bool):R2:=fun x y H Q=>∃ a c xs ys,x=.ref a∧y=.ref c∧((SqL K H a xs∧SqL K H c ys)∨(SqT K H a xs∧SqT K H c ys))∧xs.length=ys.length∧(∀ j,j < xs.length→Deq K H n (xs.getD j .non) (ys.getD j .non))∧Q (.bl b) H
theorem jJ_ {A:Around} {n:Nat} (h:A.units + (n + 1) < cLine):A.in1.units + n < cLine:=by
  have:A.in1.units=A.units + 1:=by first | rfl | exact Around.units_in1 _
  omega
theorem jH4 {X:Cx} {n:Nat} (hu:X.A.units + (n + 1) < cLine):OpR X (compareOp .NotEq) (rDq X.K n false):=by
  intro pins s σ H x y v u Q I rx ry h
  obtain ⟨a,c,xs,ys,rfl,rfl,hs,hl,he,q⟩:=h
  cases rx
  cases ry
  rcases hs with ⟨h1,h2⟩ | ⟨h1,h2⟩
  · obtain ⟨its,r1,l1,_⟩:=I.list h1
    obtain ⟨jts,r2,l2,_⟩:=I.list h2
    have e1:=r1.length
    have e2:=r2.length
    have:=SeqAt.RcNeAt.lists (A:=X.A) (e:=fun _=>true) l1.isList l2.isList (by simp;omega) (by omega) (fun j q1 q2=>jGf I n X.A.in1 _ _ _ _ (jJ_ hu) (he j (by simp at q1;omega)) (jCf r1 j q1) (jCf r2 j q2))
    rw [show (List.range its.toArray.size).all (fun _=>true)=true from List.all_eq_true.mpr fun _ _=>rfl] at this
    exact this X.prog X.w _ _ ⟨.bl false,H,I,rfl,q⟩
  · obtain ⟨its,r1,l1,_⟩:=I.tuple h1
    obtain ⟨jts,r2,l2,_⟩:=I.tuple h2
    have e1:=r1.length
    have e2:=r2.length
    have:=SeqAt.RcNeAt.tuples (A:=X.A) (e:=fun _=>true) l1 l2 (by omega) (fun j q1 q2=>jGf I n X.A.in1 _ _ _ _ (jJ_ hu) (he j (by simp at q1;omega)) (jCf r1 j q1) (jCf r2 j q2))
    rw [show (List.range (min its.toArray.size jts.toArray.size)).all (fun _=>true)=true from List.all_eq_true.mpr fun _ _=>rfl,Bool.true_and,beq_iff_eq.mpr (by simp;omega)] at this
    exact this X.prog X.w _ _ ⟨.bl false,H,I,rfl,q⟩
end L2
namespace L2
open PySem PyProof.Rows PySem.Spec PySem.Calls
theorem jCr {A:Around} {k:Nat} (hr:jAV k A) (n:Nat) (h:n≤60):A.units + (n + 1) < cLine:=Nat.lt_of_le_of_lt (Nat.add_le_add_left (by omega:n + 1≤64) _) hr.units
end L2
namespace L2
open PySem PyProof.Rows PySem.Spec PySem.Calls
def inSt2 (frees:List (Str×Nat)) (σ:St) (x y:Option V):St:=x :: y :: frees.map fun p=>(σ[p.2]?).join
def CompB2 (K:PySem.W.Frag) (J:It) (tc:TT) (te:TE) (σf:Option V→Option V→St) (H1:Hp) (Q:VK):Prop:=∀ D,H1 D=none →
  ∃ W:Nat→Nat→List V→Hp→Prop,(∃ m,W 0 m [] (upd H1 D (.lst [])))∧∀ i m ys H2,W i m ys H2→H2 D=some (.lst ys) ∧
    ((J.stop i H2∧Q (.ref D) H2)∨(J.go i H2∧ys.length < sizeLine∧∀ z H3,J.yld i H2 z H3→∃ a x x2,z=.ref a∧SqT K H3 a [x,x2]∧tc (σf (some x) (some x2)) H3 fun b H4 =>
      if b=true then te (σf (some x) (some x2)) H4 fun y H5=>H5 D=some (.lst ys)∧∃ m',m' < m∧W (i + 1) m' (ys ++ [y]) (upd H5 D (.lst (ys ++ [y]))) else ∃ m',m' < m∧W (i + 1) m' ys H4))
section
variable {X:Cx} {elt iter:Expr} {x x2:Str} {px px2 tp pos:Pos} {kk:Nat} {ifs:List Expr} {scope:Scope} {frees:List (Str×Nat)} {tc:TT} {te:TE}
structure CompOk2 (X:Cx) (scope:Scope) (x x2:Str) (frees:List (Str×Nat)):Prop where
  cell:∀ y∈scope.names,y.2≠.cell
  kind:scope.kind=.function
  own:scope.names.lookup x=some .local
  own2:scope.names.lookup x2=some .local
  names:∀ y∈scope.names,y.2=.local→scope.names.lookup y.1=some .local
  fr:jEn X scope frees
  nd:(x :: x2 :: frees.map (·.1)).Nodup
  cl:∀ p∈scope.names,p.2=.free→(X.env.cells.lookup p.1).isSome=true
  calm:X.calm=true
def tComp2 (K:PySem.W.Frag) (frees:List (Str×Nat)) (tc:TT) (te:TE) (wi:TI):TE:=fun σ H Q=>wi σ H fun J H1=>CompB2 K J tc te (inSt2 frees σ) H1 Q
end
end L2
namespace L2
open PySem PySem.Spec PyProof.Rows
def jG3 (i:Int) (n:Nat):List V:=(List.range n).map fun k=>V.int (i + (k:Nat))
theorem jMB:∀ {xs:List V} {us:List Value},xs.length=us.length→(∀ (k:Nat) x u,xs[k]?=some x→us[k]?=some u→jAx x u)→jAA xs us
  | [],[],_,_=>.nil
  | x :: xs,u :: us,e,h=>.cons (h 0 x u rfl rfl) (jMB (Nat.succ.inj e) fun k y w h1 h2=>h (k + 1) y w h1 h2)
  | [],_ :: _,e,_=>nomatch e
  | _ :: _,[],e,_=>nomatch e
theorem jOn {i:Int}:∀ {n:Nat} {acc:Array Value},ItemsOf (fun k v=>∃ t,v=.int (i + (k:Nat) * 1) t) acc n→jAA (jG3 i n) acc.toList:=by
  intro n acc h
  refine jMB (by unfold jG3;rw [List.length_map,List.length_range,Array.length_toList,h.1]) fun k x u hx hu=>?_
  have hu':acc[k]?=some u:=by simpa using hu
  obtain ⟨t,rfl⟩:=h.2 k u hu'
  unfold jG3 at hx
  rw [List.getElem?_map] at hx
  obtain ⟨m,em,rfl⟩:=Option.map_eq_some_iff.mp hx
  have:m=k:=by
    obtain ⟨_,e⟩:=List.getElem?_eq_some_iff.mp em
    rw [List.getElem_range] at e
    exact e.symm
  subst this
  exact ⟨t,by rw [Int.mul_one]⟩
section
variable {X:Cx}
def tListRange (ta:TA):TE:=fun σ H Q=>ta σ H fun vs H1=>∃ i j:Int,vs=[.int i,.int j]∧(-(2 ^ 62)≤i∧i < 2 ^ 62∧-(2 ^ 62)≤j∧j < 2 ^ 62)∧(j - i).toNat≤sizeLine∧(j - i).toNat≤2 ^ 24∧∀ l,H1 l=none→Q (.ref l) (upd H1 l (.lst (jG3 i (j - i).toNat)))
end
end L2
namespace L2
open PySem PySem.Spec PyProof.Rows
def rListOf (K:PySem.W.Frag):List V→Hp→VK→Prop:=fun xs H Q=>∃ p ys,xs=[.ref p]∧(SqL K H p ys∨SqT K H p ys)∧∀ l,H l=none→Q (.ref l) (upd H l (.lst ys))
end L2
namespace PySem
open Sem (wp)
theorem jJl:typeLookup (.type "list") "keys"=pure none:=am_miss_of_fast (by decide +kernel)
theorem jLZ {prog:Program} {w:World} {A:Around} {E:Value→Shared→Prop} {s:Shared} {a:Addr} {xs:Array Value} {n:Nat} {Q:Option Value→Shared→Prop}
    (hx:s.heap.get? a=some { cls:=.type "list",dict:=none,data:=.seq xs n }) (hA:A.handled=none)
    (h:∀ h' tk,(∀ b ob,s.heap.get? b=some ob→h'.get? b=some ob)→Q none { s with heap:=h',toks:=tk }) :
    wpAny (model prog w) A (getAttr? (.ref a) "keys") Q E s:=by
  obtain ⟨hp,g,d,tk,os⟩:=s
  have hT:∀ tk',(⟨hp,g,d,tk',os⟩:Shared).TypeIs (.ref a) "list":=fun _=>⟨_,hx,rfl⟩
  have g1:=sub_AttributeError
  have g3:=F.slot_list_getattribute.lookup
  have g4:=F.slot_list_getattribute.bind (.ref a)
  have g5:=am_list_getattr_none
  unfold getAttr? getAttrBy? getAttrBy
  repeat (any_goals (first | assumption | exact hT _ | ((with_reducible show wpAny _ _ (call (Value.builtin "list.__getattribute__") _ _) _ _ _);refine call_meets F.slot_list_getattribute (hT _) am_entry_list_getattribute (F.args_list_getattribute_2 _ _) (meets_getattribute_miss_list a xs n _ "keys" _ jJl (by decide +kernel) (by size_fits)) ⟨hx,hA,fun h' tk' e hx=>?_⟩) | wp_step))
  obtain ⟨t',u',he⟩:=hx.there
  show wpAny (model prog w) A (getattributeRaised _ _ _ _ _ _ _) _ _ _
  have hTe:∀ tk',(⟨h',g,d,tk',os⟩:Shared).TypeIs (.ref e) "AttributeError":=fun _=>⟨_,he,rfl⟩
  unfold getattributeRaised
  repeat (any_goals (first | assumption | exact hTe _ | wp_step))
  exact h _ _ hx.keeps
end PySem
namespace PySem
open Sem (wp)
theorem jEA:entryFor table "dict.update.loop"=some Builtin.«dict.update.loop»:=entryFor_of_tree (by kernel_rfl)
theorem jB5:plainId "dict.update.loop"=true:=by decide +kernel
section
variable {prog:Program} {w:World} {K:Type} [DecidableEq K] {knd:KeyKind prog w K} {A:Around} {R:Result→Shared→Prop}
def jCE (ps:List (K×Value)):List (K×Value):=ps.foldl (fun acc p=>stored acc p.1 p.2) []
theorem jMZ (kvs:List (K×Value)) (k:K) (v:Value):(stored kvs k v).length≤kvs.length + 1:=by
  unfold stored
  split
  · rw [List.length_map];exact Nat.le_succ _
  · rw [List.length_append];exact Nat.le_refl _
theorem jL0 (ps:List (K×Value)) (p:K×Value):jCE (ps ++ [p])=stored (jCE ps) p.1 p.2:=by
  unfold jCE
  rw [List.foldl_append]
  rfl
theorem jKa:∀ (ps acc:List (K×Value)),(ps.foldl (fun acc p=>stored acc p.1 p.2) acc).length≤acc.length + ps.length
  | [],_=>Nat.le_refl _
  | p :: r,acc=>by
    have h1:=jKa r (stored acc p.1 p.2)
    have h2:=jMZ acc p.1 p.2
    rw [List.foldl_cons,List.length_cons]
    omega
theorem jM0 {h₀:Heap} {l it D:Addr} {items:Array Value} {ps:List (K×Value)} (hA:A.handled=none) (hl:h₀.IsList l items) (nit:h₀.get? it=none) (nD:h₀.get? D=none) (ne:it≠D)
    (hn:items.size=ps.length) (hi:∀ (i:Nat) p,ps[i]?=some p→∃ t key,items[i]?=some (.ref t)∧knd.is p.1 key=true∧h₀.IsTuple t #[key,p.2]) (hz:ps.length≤sizeLine) :
    ∀ (k i:Nat) (s:Shared) (tk:Tok),ps.length - i=k→i≤ps.length→s.heap.IsListIter it l i→(∀ b o,h₀.get? b=some o→s.heap.get? b=some o)→s.heap.DictOf knd D (jCE (ps.take i)) →
      (∀ h' tk',(∀ b o,b≠it→b≠D→s.heap.get? b=some o→h'.get? b=some o)→h'.DictOf knd D (jCE ps)→R (.ok (.ret .none)) { s with heap:=h',toks:=tk' }) →
      codeAny (model prog w) A (.builtin "dict.update.loop" ⟨[.ref D,.ref it,.int i tk,.none],[]⟩) R s:=by
  intro k
  induction k with
  | zero =>
    intro i s tk hk hi' hit kp hD hR
    have e:i=ps.length:=by omega
    subst e
    refine codeAny_builtin jEA ?_
    rw [Around.under_plainId jB5 _]
    show wpAny _ A.in1 (pyNext (.ref it) >>= _) _ _ s
    refine wpAny_bind (wpAny_pyNext_list_end (i:=ps.length) (items:=items) hA hit ?_ ?_ fun h' hx=>?_)
    · exact let ⟨o,ho,r⟩:=hl;⟨o,kp _ _ ho,r⟩
    · exact Array.getElem?_eq_none (by omega)
    · show wpAny _ A.in1 (Builtin.Dict.addKeywords D [] >>= fun _=>ret Value.none) _ _ _
      refine wpAny_bind (wpAny_pure (wpAny_pure (hR h' s.toks (fun b o nb _ e=>hx b o nb e) ?_)))
      rw [List.take_length] at hD
      exact hD.extBut hx (Ne.symm ne)
  | succ k ih =>
    intro i s tk hk hi' hit kp hD hR
    obtain ⟨p,hp⟩:∃ p,ps[i]?=some p:=⟨_,List.getElem?_eq_getElem (by omega)⟩
    obtain ⟨t,key,ht,hkey,htup⟩:=hi i p hp
    refine codeAny_builtin jEA ?_
    rw [Around.under_plainId jB5 _]
    show wpAny _ A.in1 (pyNext (.ref it) >>= _) _ _ s
    refine wpAny_bind (wpAny_pyNext_list_item (i:=i) (items:=items) hit (let ⟨o,ho,r⟩:=hl;⟨o,kp _ _ ho,r⟩) ht fun h' hit' hs=>?_)
    have kp':∀ b o,h₀.get? b=some o→h'.get? b=some o:=fun b o e=>(hs.2 b (fun z=>by rw [z,nit] at e;cases e)).trans (kp b o e)
    obtain ⟨ot,hot,hct,nt,hdt⟩:=htup
    have hot':=kp' _ _ hot
    have hT:(⟨h',s.gens,s.drawn,s.toks,s.os⟩:Shared).TypeIs (.ref t) "tuple":=⟨_,hot',hct⟩
    have tk1:ps.take (i + 1)=ps.take i ++ [p]:=by rw [List.take_add_one,hp];rfl
    have pz:(jCE (ps.take i)).length≤sizeLine:=by
      have h1:=jKa (ps.take i) []
      rw [List.length_take] at h1
      unfold jCE
      simp only [List.length_nil] at h1
      omega
    show wpAny _ A.in1 (holding [Value.ref t] _ >>= _) _ _ _
    refine wpAny_bind (wpAny_holding ?_)
    refine wpAny_bind (wpAny_tryCatch ?_)
    unfold Builtin.Dict.pairItems
    refine wpAny_bind (wpAny_typeOf hT ?_)
    rw [if_pos (by decide)]
    refine wpAny_bind (wpAny_seqItems hot' hdt (wpAny_pure ?_))
    show wpAny _ A.in1 (holding [key,p.2] (dictSet D key p.2)) _ _ _
    refine wpAny_holding ?_
    have hD':Heap.DictOf knd h' D (jCE (ps.take i)):=hD.sameBut hs (Ne.symm ne)
    refine wpAny_dictSet_pairs (s:=⟨h',s.gens,s.drawn,s.toks,s.os⟩) (hsz:=pz) hkey hD' fun h2 hD2 hs2=>?_
    rw [← jL0,← tk1] at hD2
    refine wpAny_pure ⟨plainId_quiet jB5 _,?_⟩
    have hit2:h2.IsListIter it l (i + 1):=let ⟨o,ho,r⟩:=hit';⟨o,(hs2.2 it ne).trans ho,r⟩
    refine ih (i + 1) ⟨h2,s.gens,s.drawn,s.toks + 1,s.os⟩ 0 (by omega) (by omega) hit2 (fun b o e=>(hs2.2 b (fun z=>by rw [z,nD] at e;cases e)).trans (kp' b o e)) hD2 fun h3 tk3 k3 hD3=>?_
    exact hR h3 tk3 (fun b o n1 n2 e=>k3 b o n1 n2 ((hs2.2 b n2).trans ((hs.2 b n1).trans e))) hD3
theorem jKl {E:Value→Shared→Prop} {s:Shared} {l:Addr} {items:Array Value} {n:Nat} {ps:List (K×Value)} {Q:Value→Shared→Prop} (hA:A.handled=none) (hx:s.heap.get? l=some { cls:=.type "list",dict:=none,data:=.seq items n })
    (hn:items.size=ps.length) (hi:∀ (i:Nat) p,ps[i]?=some p→∃ t key,items[i]?=some (.ref t)∧knd.is p.1 key=true∧s.heap.IsTuple t #[key,p.2]) (hz:ps.length≤sizeLine)
    (h:∀ h' tk,(∀ b o,s.heap.get? b=some o→h'.get? b=some o)→h'.DictOf knd s.heap.objs.size (jCE ps)→Q (.ref s.heap.objs.size) { s with heap:=h',toks:=tk }) :
    wpAny (model prog w) A (call (.type "dict") [.ref l]) Q E s:=by
  refine callType_codes (Q₁:=fun obj s₁=>obj=.ref s.heap.objs.size∧s₁={ s with heap:=s.heap.push { cls:=.type "dict",data:=.dict #[] } }) F.kt_called_dict (F.kt_typeCall_dict_1 _) F.entry_dict_init (kt_code_dict_new _ ⟨rfl,rfl⟩) ?_
  rintro obj s₁ ⟨rfl,rfl⟩
  have hnew:(s.heap.push { cls:=.type "dict",data:=.dict #[] }).DictOf knd s.heap.objs.size []:=Heap.DictOf.new s.heap
  have hx':(s.heap.push { cls:=.type "dict",data:=.dict #[] }).get? l=some { cls:=.type "list",dict:=none,data:=.seq items n }:=Heap.get?_push_of_some _ hx
  refine ⟨hnew.typeIs,F.args_dict_init_2 _ _,?_⟩
  unfold Builtin.«dict.__init__»
  refine wpAny_bind ?_
  unfold Builtin.Dict.selfAndRest
  refine wpAny_bind (wpAny_notOrdered_dict hnew.typeIs ?_)
  show wpAny _ _ (pure (s.heap.objs.size,[Value.ref l])) _ _ _
  refine wpAny_pure ?_
  show wpAny _ _ (Builtin.Dict.updateFrom "dict.__init__" s.heap.objs.size (.ref l) [] .none) _ _ _
  unfold Builtin.Dict.updateFrom
  refine wpAny_bind (wpAny_typeOf (T:="list") ⟨_,hx',rfl⟩ ?_)
  rw [if_pos (by decide)]
  refine wpAny_bind (jLZ hx' hA fun h1 tk1 k1=>?_)
  simp only [Option.isNone_none,if_true]
  refine wpAny_bind (wpAny_rule (wpAny_bind (wpAny_pyIter_list (items:=items) ⟨_,k1 _ _ hx',rfl,n,rfl⟩ ?_)))
  have hsz:s.heap.objs.size < h1.objs.size:=by
    obtain ⟨o,_,_,ho,_⟩:=hnew
    exact Heap.lt_size (k1 _ _ ho)
  refine wpAny_pure ⟨plainId_quiet jB5 _,?_⟩
  have keep:∀ b o,s.heap.get? b=some o→(h1.push { cls:=.type "list_iterator",data:=.fields #[.ref l,.int 0 0] }).get? b=some o:=fun b o e=>Heap.get?_push_of_some _ (k1 _ _ (Heap.get?_push_of_some _ e))
  refine jM0 (A:=A.in1) (R:=wants (fun r s₂=>r=Value.none∧Q (Value.ref s.heap.objs.size) s₂) E) (h₀:=s.heap) (l:=l) (items:=items) (ps:=ps) hA ⟨_,hx,rfl,n,rfl⟩ (Heap.get?_none_of_le (Nat.le_of_lt hsz)) (Heap.get?_none_of_le (Nat.le_refl _)) (Ne.symm (Nat.ne_of_lt hsz)) hn hi hz ps.length 0 ⟨h1.push { cls:=.type "list_iterator",data:=.fields #[.ref l,.int 0 0] },s.gens,s.drawn,tk1,s.os⟩ 0 (Nat.sub_zero _) (Nat.zero_le _) ⟨_,Heap.get?_push_size _ rfl,rfl,rfl⟩ keep ?_ fun h' tk' k' hD'=>?_
  · obtain ⟨o,es,ep,ho,r⟩:=hnew
    exact ⟨o,es,ep,Heap.get?_push_of_some _ (k1 _ _ ho),r⟩
  · refine ⟨rfl,h h' tk' (fun b o e=>k' b o ?_ ?_ (keep b o e)) hD'⟩
    · intro z
      exact absurd (Heap.lt_size e) (by rw [z];exact Nat.not_lt.mpr (Nat.le_of_lt hsz))
    · intro z
      exact absurd (Heap.lt_size e) (by rw [z];exact Nat.lt_irrefl _)
end
end PySem
namespace L2
open PySem PySem.Spec PyProof.Rows
theorem kv_mk:∀ {kvs:List (Key×V)} {us:List Value},(kvs.map (·.2)).length=us.length→(∀ (i:Nat) q u,kvs[i]?=some q→us[i]?=some u→jAx q.2 u)→∃ vs:List (Key×Value),KV kvs vs∧vs.map (·.1)=kvs.map (·.1)∧vs.map (·.2)=us
  | [],[],_,_=>⟨[],.nil,rfl,rfl⟩
  | q :: r,u :: us,e,h=>by
    obtain ⟨vs,h1,h2,h3⟩:=kv_mk (kvs:=r) (us:=us) (Nat.succ.inj e) fun i q u e1 e2=>h (i + 1) q u e1 e2
    exact ⟨(q.1,u) :: vs,.cons ⟨rfl,h 0 q u rfl rfl⟩ h1,by rw [List.map_cons,List.map_cons,h2],by rw [List.map_cons,h3]⟩
  | [],_ :: _,e,_=>nomatch e
  | _ :: _,[],e,_=>nomatch e
def jM1 (K:PySem.W.Frag):List V→Hp→VK→Prop:=fun xs H Q=>∃ p ts kvs,xs=[.ref p]∧H p=some (.lst ts)∧ts.length=kvs.length∧(∀ (i:Nat) y (q:Key×V),ts[i]?=some y→kvs[i]?=some q→∃ t,y=.ref t∧SqT K H t [kV q.1,q.2])∧(kvs.map (·.1)).Nodup ∧
  ∀ d,H d=none→Q (.ref d) (upd H d (.dK kvs))
theorem jIq {X:Cx} (hc:X.calm=true):CallR X (.type "dict") (jM1 X.K):=by
  intro pins s σ H xs us Q I r h
  obtain ⟨p,ts,kvs,rfl,hp,lt,ht,nd,q⟩:=h
  obtain ⟨u,rfl,rx⟩:=jEe r
  cases rx
  obtain ⟨hz,its,n,rv,e⟩:=Rd.ok (u:=.lst ts) (.inl hp) I.hok
  have li:=rv.length
  have at1:∀ (i:Nat) q,kvs[i]?=some q→∃ t key w',its[i]?=some (.ref t)∧jAx (kV q.1) key∧jAx q.2 w'∧s.heap.IsTuple t #[key,w']:=fun i q eq=>by
    have hi:i < kvs.length:=(List.getElem?_eq_some_iff.mp eq).1
    obtain ⟨y,ey⟩:∃ y,ts[i]?=some y:=⟨_,List.getElem?_eq_getElem (by omega)⟩
    obtain ⟨t,rfl,hq⟩:=ht i y q ey eq
    obtain ⟨u,eu,ru⟩:=jAA.get rv ey
    cases ru
    obtain ⟨jt,rj,tj,_⟩:=I.tuple hq
    cases rj with
    | cons r1 rr =>
      cases rr with
      | cons r2 rr =>
        cases rr
        exact ⟨t,_,_,eu,r1,r2,tj⟩
  obtain ⟨ws,lw,gw⟩:∃ ws:List Value,ws.length=kvs.length∧∀ (i:Nat) q u,kvs[i]?=some q→ws[i]?=some u→jAx q.2 u∧∃ t key,its[i]?=some (.ref t)∧jAx (kV q.1) key∧s.heap.IsTuple t #[key,u]:=by
    have ch:∀ i:Fin kvs.length,∃ w',jAx (kvs[i]).2 w'∧∃ t key,its[i.1]?=some (.ref t)∧jAx (kV (kvs[i]).1) key∧s.heap.IsTuple t #[key,w']:=fun i=>by
      obtain ⟨t,key,w',h1,h2,h3,h4⟩:=at1 i.1 kvs[i] (List.getElem?_eq_getElem i.2)
      exact ⟨w',h3,t,key,h1,h2,h4⟩
    refine ⟨List.ofFn fun i=>Classical.choose (ch i),List.length_ofFn,fun i q u e1 e2=>?_⟩
    obtain ⟨hi,rfl⟩:=List.getElem?_eq_some_iff.mp e1
    rw [List.getElem?_ofFn,dif_pos hi] at e2
    obtain rfl:=Option.some.inj e2
    exact Classical.choose_spec (ch ⟨i,hi⟩)
  obtain ⟨vs,kv,k1,k2⟩:=kv_mk (kvs:=kvs) (us:=ws) (by rw [List.length_map,lw]) fun i q u e1 e2=>(gw i q u e1 e2).1
  have lv:vs.length=kvs.length:=by rw [← List.length_map (f:=(·.1)),k1,List.length_map]
  refine jKl (knd:=jA_ X.prog X.w) (ps:=vs) (I.ok.hd hc) e (by rw [List.size_toArray];omega) (fun i p ep=>?_) (by omega) fun h' tk keep hd=>?_
  · have hi:i < vs.length:=(List.getElem?_eq_some_iff.mp ep).1
    have e1:kvs[i]?=some kvs[i]:=List.getElem?_eq_getElem (by omega)
    have e2:ws[i]?=some p.2:=by rw [← k2,List.getElem?_map,ep];rfl
    have e3:kvs[i].1=p.1:=by
      have h1:(vs.map (·.1))[i]?=some p.1:=by rw [List.getElem?_map,ep];rfl
      rw [k1,List.getElem?_map,e1] at h1
      exact Option.some.inj h1
    obtain ⟨_,t,key,h1,h2,h3⟩:=gw i _ _ e1 e2
    refine ⟨t,key,by rw [List.getElem?_toArray];exact h1,?_,h3⟩
    rw [← e3]
    exact jHs h2
  · rw [show jCE vs=vs from merged_nil_of_nodup vs (by rw [k1];exact nd)] at hd
    refine ⟨.ref s.heap.objs.size,_,I.laid (t':=tk) keep (Nat.le_refl _) (jGY (by omega) (beq_eq_false_iff_ne.mpr (Ne.symm (Nat.ne_of_lt I.big))) kv hd),rfl,q _ (I.hok.fresh (Nat.le_refl _))⟩
def rDictOf:List V→Hp→VK→Prop:=fun xs H Q=>∃ a kvs,xs=[.ref a]∧Rd H a (.dK kvs)∧∀ d,H d=none→Q (.ref d) (upd H d (.dK kvs))
theorem jFI {X:Cx}:CallR X (.type "dict") rDictOf:=by
  intro pins s σ H xs us Q I r h
  obtain ⟨a,kvs,rfl,e,q⟩:=h
  obtain ⟨u,rfl,rx⟩:=jEe r
  cases rx
  exact jOe I e fun p s' hp I'=>⟨.ref p,_,I',rfl,q p hp⟩
theorem jJm:bootBuiltins "dict"=some (.type "dict"):=by decide +kernel
end L2
namespace L2
open PySem PyProof.Rows PySem.Spec PySem.Calls
section
variable {X:Cx}
def rGetL:V→V→Hp→VK→Prop:=fun o i H Q=>∃ p xs k,o=.ref p∧i=.int k∧H p=some (.lst xs)∧0≤k∧k < ((xs.length:Nat):Int)∧∀ v,xs[k.toNat]?=some v→Q v H
def rEqT (K:PySem.W.Frag) (neg:Bool):R2:=fun x y H Q=>∃ p q xs ys,x=.ref p∧y=.ref q∧SqT K H p xs∧SqT K H q ys∧xs.length=ys.length∧xs.all jA1=true∧ys.all jA1=true∧Q (.bl (if neg then !jGc xs ys else jGc xs ys)) H
end
end L2
namespace L2
open PySem PySem.Spec PyProof.Rows
section
variable {X:Cx}
def tPl (K:PySem.W.Frag) (B:Addr) (ts:TS) (tr:TH):TH:=fun D σ H C ea=>PySem.W.excMk K C=true∧PySem.W.excMk K B=true∧∃ b,PySem.W.mroHas K C (.ref B)=b∧if b=true then ts D σ H else tr D σ H C ea
end
end L2
namespace L2
open PySem PyProof.Rows PySem.Spec PySem.Calls
section
variable {X:Cx}
def rNeS (K:PySem.W.Frag):R2:=fun x y H Q=>(∃ a i xs,x=.ref a∧y=.str i∧(SqL K H a xs∨SqT K H a xs)∧Q (.bl true) H)∨rNe x y H Q
end
end L2
namespace L2
open PySem PySem.Spec PyProof.Rows
end L2
namespace L2
open PySem PySem.Spec PyProof.Rows
section
variable {X:Cx}
def rListDict:List V→Hp→VK→Prop:=fun xs H Q=>∃ p kvs,xs=[.ref p]∧H p=some (.dK kvs)∧∀ l,H l=none→Q (.ref l) (upd H l (.lst (kvs.map fun q=>kV q.1)))
end
end L2
namespace L2
open PySem PySem.Spec PyProof.Rows
section
variable {X:Cx}
def rSortedL (K:PySem.W.Frag):List V→Hp→VK→Prop:=fun xs H Q=>∃ p ss,xs=[.ref p]∧SqL K H p (ss.map V.str)∧ss.length < 64∧∀ l ss',H l=none→List.Perm ss' ss→sortedS ss'=true→Q (.ref l) (upd H l (.lst (ss'.map V.str)))
end
end L2
namespace L2
open PySem PySem.Calls PyProof.Rows PyProof.V PySem.Spec PySem.W
end L2
namespace L2
open PySem PySem.Spec PyProof.Rows
section
variable {X:Cx}
def rCount:V→List V→Hp→VK→Prop:=fun x vs H Q=>∃ l xs y,x=.ref l∧vs=[y]∧H l=some (.lst xs)∧xs.all jA1=true∧jA1 y=true∧Q (.int ((xs.countP fun z=>eqV z y:Nat):Int)) H
def rSortedD:List V→Hp→VK→Prop:=fun xs H Q=>∃ p kvs ss,xs=[.ref p]∧H p=some (.dK kvs)∧kvs.map (fun q=>kV q.1)=ss.map V.str∧ss.length < 64∧∀ l ss',H l=none→List.Perm ss' ss→sortedS ss'=true→Q (.ref l) (upd H l (.lst (ss'.map V.str)))
end
end L2
namespace L2
open PySem PySem.Spec PyProof.Rows
section
variable {X:Cx}
def rSIndex:V→List V→Hp→VK→Prop:=fun x vs H Q=>∃ z y i rest,x=.str z∧vs=[.str y]∧Builtin.Str.occurrences z y 0 z.length 1=i :: rest∧Q (.int ((i:Nat):Int)) H
end
end L2
namespace L2
open PySem PyProof.Rows PySem.Spec PySem.Calls
section
variable {X:Cx}
def rSetD:V→List V→Hp→VK→Prop:=fun x vs H Q=>∃ d kvs k y,x=.ref d∧vs=[kV k,y]∧H d=some (.dK kvs)∧kvs.length < 1000∧(∀ u,jBU kvs k=some u→Q u H)∧(jBU kvs k=none→Q y (upd H d (.dK (kvs ++ [(k,y)]))))
def hasD (kb:List (Key×V)) (p:Key×V):Bool:=match jBU kb p.1 with
  | some y=>eqV p.2 y
  | none=>false
def eqD (ka kb:List (Key×V)):Bool:=ka.length == kb.length && ka.all (hasD kb)
def rEqDk (neg:Bool):R2:=fun x y H Q=>∃ a b ka kb,x=.ref a∧y=.ref b∧H a=some (.dK ka)∧H b=some (.dK kb)∧(∀ p∈ka,jA1 p.2=true)∧(∀ p∈kb,jA1 p.2=true)∧Q (.bl (if neg then !eqD ka kb else eqD ka kb)) H
def pickV (xs:List V) (lo hi st:Option Int):List V:=(sliceRange (sliceBounds lo hi st xs.length).1 (sliceBounds lo hi st xs.length).2.1 (sliceBounds lo hi st xs.length).2.2).filterMap (xs[·]?)
def tSl3 (K:PySem.W.Frag) (te:TE) (tl th ts:TO):TE:=fun σ H Q=>te σ H fun x H1=>tl σ H1 fun l H2=>th σ H2 fun u H3=>ts σ H3 fun c H4=>∃ a xs,x=.ref a∧SqL K H4 a xs∧c≠some 0∧∀ p,H4 p=none→Q (.ref p) (upd H4 p (.lst (pickV xs l u c)))
def thirds (n:Nat):List Nat:=(List.range n).filter fun k=>k % 3 == 1
end
end L2
namespace L2
open PySem PyProof.Rows PySem.Spec PySem.Calls
section
variable {X:Cx}
end
end L2
namespace L2
open PySem PySem.Spec PyProof.Rows
section
variable {X:Cx}
def jL1 (ta:TA):TE:=fun σ H Q=>ta σ H fun vs H1=>∃ j:Int,vs=[.int j]∧(-(2 ^ 62)≤j∧j < 2 ^ 62)∧j.toNat≤sizeLine∧j.toNat≤2 ^ 24∧∀ l,H1 l=none→Q (.ref l) (upd H1 l (.lst (jG3 0 j.toNat)))
theorem jKm {b:Expr} {ta:TA} {p p2 pos pos2:Pos} (hc:X.calm=true) (hl:Gl X "list") (hlm:X.mg "list"=none) (hg:Gl X "range") (hm:X.mg "range"=none) (ha:PA X [b] ta)
    (hs2:starEach [b] X.env=[(false,eval b X.env)]:=by rfl) (hb:bootBuiltins "list"=some (.type "list"):=by decide +kernel)
    (ho:starEach [Expr.Call (.Name "range" p2) [b] [] pos2] X.env=[(false,eval (.Call (.Name "range" p2) [b] [] pos2) X.env)]:=by rfl) :
    PE X (.Call (.Name "list" p) [.Call (.Name "range" p2) [b] [] pos2] [] pos) (jL1 ta):=by
  intro pins s σ H Q I h
  refine wpAny_Call_Name_kw (jDM I hl hlm hb ?_)
  refine PyProof.Rows.callWith_type1 ?_ (by rw [ho];rfl) rfl
  rw [ho]
  refine Calls.spliced_cons ?_
  refine Call_ (jDM I hg hm boot_range (PyProof.Rows.callWith_type1 (thn (ha pos2 pins s σ H _ I h) fun us s1 ⟨vs,H1,I1,r1,q1⟩=>?_) (by rw [hs2];rfl) rfl))
  obtain ⟨j,e,⟨q3,q4⟩,z1,z2,q⟩:=q1
  subst e
  cases r1 with
  | cons r rr =>
    cases rr
    obtain ⟨t',rfl⟩:=r
    refine call_range_1 ?_
    refine Calls.spliced_nil ?_
    have hn:Builtin.Range.rangeSize 0 j 1=((j.toNat:Nat):Int):=by rw [rangeSize_one];split <;> omega
    refine call_list_range (I1.ok.hd hc) (IsRange.new ..) (small_one (by decide) (by decide) q3 q4) hn z2 fun h' tk acc' c' hk hS' hacc=>?_
    have kp:∀ b o,s1.heap.get? b=some o→h'.get? b=some o:=fun b o e=>hk b o (Heap.get?_push_of_some _ e)
    refine ⟨.ref _,_,I1.laid (t':=tk) kp ?_ ?_,rfl,q _ (I1.hok.fresh ?_)⟩
    · rw [Heap.size_push];exact Nat.le_succ _
    · refine ⟨(by unfold jG3;rw [List.length_map,List.length_range];exact z1),acc'.toList,c',jOn hacc,?_⟩
      exact hS'
    · rw [Heap.size_push];exact Nat.le_succ _
end
end L2
namespace L2
open PySem PySem.Spec PyProof.Rows
section
variable {X:Cx} {a b o e:Expr} {ta tb td te:TE} {pos p pos':Pos} {i:Nat} {x:Str} {r:R2} {op:CmpOp}
theorem psA (hN:X.N.Nodup) (he:PE X e te) (hi:X.N[i]?=some x:=by rfl) (hx:Loc X.env.scope x:=by first | exact Or.inl rfl | exact Or.inr rfl) (hs:swapsWith e (some (.Name x pos')) pos.line X.env=pure false:=by rfl) (hf:X.fn x=true∨X.env.scope.names.lookup x=some .local:=by first | exact .inl rfl | exact .inr rfl | assumption):PS X (.Assign [.Name x pos'] e pos) (tAsg te (jBr i)):=ps_set hN hi hx he hs hf
theorem pgA (hN:X.N.Nodup) (hi:X.N[i]?=some x:=by rfl) (hx:Loc X.env.scope x:=by first | exact Or.inl rfl | exact Or.inr rfl) (hf:X.fn x=true∨X.env.scope.names.lookup x=some .local:=by first | exact .inl rfl | exact .inr rfl | assumption):PG X (.Name x pos) (jBr i):=jMm hN hi hx hf
theorem dgA (hu:X.A.units + 1 < cLine) (ho:PE X o td) (hi:PE X b tb) (hs:NoSl b:=by exact fun _ _=>rfl):PE X (.Subscript o b pos) (tDGet td tb):=pe_dget hu ho hi hs
theorem ixA (hr:IxR X r) (ha:PE X a ta) (hb:PE X b tb) (hs:jJg b:=by exact fun _ _=>rfl):PE X (.Subscript a b pos) (tOp r ta tb):=pe_ix hr ha hb hs
theorem ecA (ho:OpR X (compareOp op) r) (ha:PE X a ta) (hb:PE X b tb) (hm:behindInMarks op b=false:=by exact jNg _):PE X (.Compare a [op] [b] pos) (tOp r ta tb):=pe_cmpR ho ha hb hm
theorem tcA (ho:OpR X (compareOp op) r) (ha:PE X a ta) (hb:PE X b tb) (hm:behindInMarks op b=false:=by exact jNg _):PT X (.Compare a [op] [b] pos) (jKJ (tOp r ta tb)):=jMq ho ha hb hm
theorem jAV.m {j k:Nat} {A:Around} (h:jAV k A) (e:j≤k:=by decide):jAV j A:=h.mono e
theorem scM {N ps:List Str} {sc:Scope} (h:jAl N ps sc:=by exact ⟨rfl,rfl,rfl,by decide +kernel,rfl,by decide +kernel,by decide +kernel⟩):jAl N ps sc:=h
end
end L2
namespace My
open PySem L2
def fig:List Nat:=List.range' 48 10
def isnum (z:Str):Bool:=decide ((1:Int)≤(z.length:Nat)) && decide (((z.length:Nat):Int)≤9) && (z.cps.toList.all fun c=>decide (c∈fig)) && (decide (z=⟨#[48]⟩) || !decide (z.cps.toList.headD 0=48))
def val (z:Str):Int:=((NumText.digitsVal z.cps.toList:Nat):Int)
def wr (z:Str):V:=if isnum z=true then .int (val z) else .non
def jIr (z:Str) (lo hi:Int):V:=if (isnum z && decide (lo≤val z) && decide (val z≤hi))=true then .int (val z) else .non
def low:List Nat:=List.range' 97 26
def good (z:Str):Bool:=decide ((1:Int)≤(z.length:Nat)) && decide (((z.length:Nat):Int)≤12) && decide (z.cps.toList.headD 0∈low) && z.cps.toList.all fun c=>decide (c∈low ++ fig)
def lay (z:Str):Bool:=decide (z=Str.ofString "both") || (Txt.startswith z (Str.ofString "up:") && decide (¬ jIr (Txt.slice z (some 3) none) 2 16=V.non))
def goods:List V:=(((List.range 15).map fun i=>V.int (2 + ((i:Nat):Int))).filter fun _=>true).map fun v=>match v with | .int n=>V.str (Str.ofString "up:" ++ Str.ofString (toString n)) | _=>.non
def jNJ:List Str:=(List.range 15).map fun i=>Str.ofString "up:" ++ Str.ofString (toString (2 + ((i:Nat):Int)))
end My
namespace My
open PySem L2
open Blk (sg sg_inj sg_app)
def Jc (c:Nat):List (List Nat)→List Nat
  | []=>[]
  | [x]=>x
  | x :: y :: r=>x ++ c :: Jc c (y :: r)
def Cc (c:Nat):List Nat→List (List Nat)
  | []=>[[]]
  | d :: r=>if d=c then [] :: Cc c r else match Cc c r with
    | []=>[[d]]
    | p :: ps=>(d :: p) :: ps
def tn (n:Int):Str:=Str.ofString (toString n)
end My
namespace My
open PySem L2
open Blk (sg sg_inj sg_app)
inductive VO where
  | v (x:V) | pair (a b:Int)
  deriving DecidableEq
def non:VO:=.v .non
abbrev cX:Str:=Str.ofString "x"
abbrev cCol:Str:=Str.ofString "colour:"
abbrev cPap:Str:=Str.ofString "paper:"
abbrev cCov:Str:=Str.ofString "cover:"
abbrev cAft:Str:=Str.ofString "after:"
abbrev cSta:Str:=Str.ofString "staple"
abbrev cLay:Str:=Str.ofString "layout"
abbrev yZ:Str:=Str.ofString "one"
abbrev cPla:Str:=Str.ofString "plain"
abbrev cDash:Str:=Str.ofString "-"
abbrev jDU:Str:=Str.ofString " "
def rst (z p:Str):Str:=Txt.slice z (some ((p.length:Nat):Int)) none
def readCol (span:Str) (pages:Int):VO:=match Txt.split span cDash with
  | [a,b]=>(match jIr a 1 pages with
    | .int f=>(match jIr b f pages with
      | .int l=>.pair f l
      | _=>non)
    | _=>non)
  | _=>non
def jHu:List Str:=[cPap,cCov,cAft]
def four:List Str:=[cX,cCol,cPap,cCov]
def jJn (z:Str) (pages:Int):VO :=
  if z=cSta then .v (.bl true) else if lay z=true then .v (.str z) else if Txt.startswith z cX=true then .v (jIr (rst z cX) 1 99) else if Txt.startswith z cCol=true then readCol (rst z cCol) pages
  else match jHu.find? (fun p=>Txt.startswith z p && good (rst z p)) with
    | some p=>.v (.str (rst z p))
    | none=>non
def jLd (z:Str):Str:=if lay z=true then cLay else (four.find? fun p=>Txt.startswith z p).getD z
def jLe (pages:Int):List Str→Nat→List (Str×VO)→Except Nat (List (Str×VO))
  | [],_,t=>.ok t
  | w :: r,p,t=>if jJn w pages=non∨jLd w∈t.map (·.1) then .error p else jLe pages r (p + 1) (t ++ [(jLd w,jJn w pages)])
def jHv (t:List (Str×VO)) (k:Str):Option VO:=(t.find? fun p=>decide (p.1=k)).map (·.2)
structure JF where
  name:Str
  asker:Str
  pages:Int
  copies:VO
  layout:VO
  paper:VO
  cover:VO
  colour:VO
  staple:VO
  after:List VO
def jOo (ws:List Str):Except Nat Int :=
  if good (ws.getD 0 jDU)=false then .error 0 else if ws.length < 2 then .error ws.length else if good (ws.getD 1 jDU)=false then .error 1 else if ws.length < 3 then .error ws.length else
  match jIr (ws.getD 2 jDU) 1 999 with
  | .int n=>.ok n
  | _=>.error 2
def toldJob (ws:List Str) (pages:Int) (t:List (Str×VO)):JF :=
  { name:=ws.getD 0 jDU,asker:=ws.getD 1 jDU,pages:=pages,copies:=(jHv t cX).getD (.v (.int 1)),layout:=(jHv t cLay).getD (.v (.str yZ)),paper:=(jHv t cPap).getD (.v (.str cPla)),cover:=(jHv t cCov).getD non,colour:=(jHv t cCol).getD non,
    staple:=(jHv t cSta).getD (.v (.bl false)),after:=(t.filter fun p=>Txt.startswith p.1 cAft).map (·.2) }
def readJ (z:Str):Except Nat JF:=match jOo (Txt.split z jDU) with
  | .error p=>.error p
  | .ok n=>match jLe n ((Txt.split z jDU).drop 3) 3 [] with
    | .error p=>.error p
    | .ok t=>.ok (toldJob (Txt.split z jDU) n t)
structure Jb where
  name:Str
  asker:Str
  pages:Int
  copies:Int
  layout:Str
  paper:Str
  cover:Option Str
  colour:Option (Int×Int)
  staple:Bool
  after:List Str
structure Jb.Ok (j:Jb):Prop where
  name:good j.name=true
  asker:good j.asker=true
  p0:1≤j.pages
  p1:j.pages≤999
  c0:1≤j.copies
  c1:j.copies≤99
  lay:j.layout∈yZ :: Str.ofString "both" :: jNJ
  paper:good j.paper=true
  cover:∀ z,j.cover=some z→good z=true
  colour:∀ a b,j.colour=some (a,b)→1≤a∧a≤b∧b≤j.pages
  after:∀ z∈j.after,good z=true
  nd:j.after.Nodup
  few:j.after.length≤3
def Jb.jf (j:Jb):JF:={ name:=j.name,asker:=j.asker,pages:=j.pages,copies:=.v (.int j.copies),layout:=.v (.str j.layout),paper:=.v (.str j.paper),cover:=(match j.cover with | some z=>.v (.str z) | none=>non),colour:=(match j.colour with | some (a,b)=>.pair a b | none=>non),staple:=.v (.bl j.staple),after:=j.after.map fun z=>.v (.str z) }
def Jb.ents (j:Jb) (told:Bool):List (Bool×Str×Str×VO) :=
  [(!decide (j.copies=1) || told,cX ++ tn j.copies,cX,.v (.int j.copies)),(!decide (j.layout=yZ),j.layout,cLay,.v (.str j.layout)),
   (j.colour.isSome,cCol ++ tn (j.colour.getD (1,1)).1 ++ cDash ++ tn (j.colour.getD (1,1)).2,cCol,.pair (j.colour.getD (1,1)).1 (j.colour.getD (1,1)).2),
   (!decide (j.paper=cPla) || told,cPap ++ j.paper,cPap,.v (.str j.paper)),(j.cover.isSome,cCov ++ j.cover.getD cPla,cCov,.v (.str (j.cover.getD cPla))),(j.staple,cSta,cSta,.v (.bl true))]
def Jb.words (j:Jb) (told:Bool):List Str:=((j.ents told).filter (·.1)).map (·.2.1)
def Jb.afts (j:Jb):List Str:=j.after.map fun n=>cAft ++ n
end My
namespace My
open PySem L2
open Blk (sg sg_inj sg_app)
def sorts:List Str:=[cX,cLay,cCol,cPap,cCov,cSta]
def told (pages:Int) (M:List Str):List (Str×VO):=M.map fun w=>(jLd w,jJn w pages)
structure Mix (ws as M:List Str):Prop where
  perm:M.Perm (ws ++ as)
  afts:(M.filter fun w=>Txt.startswith w cAft)=as
def Jb.head (j:Jb):List Str:=[j.name,j.asker,tn j.pages]
end My
namespace My
open PySem L2
open Blk (sg sg_inj sg_app)
def jC2 (H:Hp) (x:V):VO→Prop
  | .v y=>x=y
  | .pair a b=>∃ p,x=.ref p∧H p=some (.tup [.int a,.int b])
def TR (H:Hp) (q:Key×V) (p:Str×VO):Prop:=q.1=Sum.inr p.1∧jC2 H q.2 p.2
structure Told (H:Hp) (D:Addr) (kvs:List (Key×V)) (t:List (Str×VO)):Prop where
  at_:H D=some (.dK kvs)
  rel:Paired (TR H) kvs t
  nd:(t.map (·.1)).Nodup
def luV (kvs:List (Key×V)):V→V
  | .str s=>(jBU kvs (Sum.inr s:Key)).getD .non
  | _=>.non
def afterP:V→Bool
  | .str x=>Txt.startswith x cAft
  | _=>false
def jCK (a b c d e f g h i j:V):List (Str×V):=[("name",a),("asker",b),("pages",c),("copies",d),("layout",e),("paper",f),("cover",g),("colour",h),("staple",i),("after",j)]
theorem jBH {f:Str} {v:V}:∀ {fs:List (Str×V)},¬ f∈fs.map (·.1)→jBe f v fs=fs ++ [(f,v)]
  | [],_=>rfl
  | (g,u) :: r,h=>by
    have h1:¬ g=f:=fun e=>h (by rw [← e];exact List.mem_cons_self)
    show (if g=f then _ else (g,u) :: jBe f v r)=_
    rw [if_neg h1,jBH fun m=>h (List.mem_cons_of_mem _ m)]
    rfl
structure JobAt (C:Addr) (H:Hp) (x:Addr) (f:JF):Prop where
  ex:∃ (dx pa:Addr) (d e p g h i:V) (as:List V),H x=some (.ins C dx (jCK (.str f.name) (.str f.asker) (.int f.pages) d e p g h i (.ref pa)))∧jC2 H d f.copies∧jC2 H e f.layout∧jC2 H p f.paper∧jC2 H g f.cover∧jC2 H h f.colour∧jC2 H i f.staple ∧
    H pa=some (.tup as)∧Paired (fun a o=>jC2 H a o) as f.after
theorem jLf (xs:List V) (k:Nat):jFh xs (some (k:Int)) none=xs.drop k:=by
  unfold jFh
  rw [HT.sIx_nat,HT.sIx_none]
  by_cases h:k≤xs.length
  · rw [Nat.min_eq_left h]
    exact List.take_of_length_le (by rw [List.length_drop];omega)
  · rw [Nat.min_eq_right (by omega),List.drop_of_length_le (Nat.le_refl _),List.drop_of_length_le (by omega),List.take_nil]
theorem jLg (xs:List V) (k:Nat):jFh xs none (some (k:Int))=xs.take k:=by
  unfold jFh
  rw [HT.sIx_nat,HT.sIx_none]
  by_cases h:k≤xs.length
  · rw [Nat.min_eq_left h]
    rfl
  · rw [Nat.min_eq_right (by omega),List.drop_zero,Nat.sub_zero,List.take_of_length_le (Nat.le_refl _),List.take_of_length_le (by omega)]
end My
namespace My
open PySem L2
open Blk (sg sg_inj sg_app)
def nmC (f r:Nat) (size place l:Nat):List Nat:=(f :: List.replicate (size - 1) r).set place l
def nm (f r:Nat) (size place l:Nat):Str:=⟨(nmC f r size place l).toArray⟩
def ltr (s:Nat) (j:Nat):Nat:=97 + (s + 5 * j) % 26
def nms (f r size place s:Nat) (m:Nat):List Str:=(List.range m).map fun j=>nm f r size place (ltr s j)
structure NamesOk (ns:List Str) (m:Nat):Prop where
  len:ns.length=m
  good:∀ z∈ns,good z=true
  nd:ns.Nodup
def six:List Str:=[Str.ofString "x2",Str.ofString "staple",Str.ofString "both",Str.ofString "up2",Str.ofString "plain",Str.ofString "after"]
def one (c:Nat):Str:=⟨#[c]⟩
def optV:Option Str→V
  | some z=>.str z
  | none=>.non
structure Due (H:Hp) (t:Addr) (j:Jb):Prop where
  ex:∃ (vc:V) (pa:Addr),H t=some (.tup [.str j.name,.str j.asker,.int j.pages,.int j.copies,.str j.layout,.str j.paper,optV j.cover,vc,.bl j.staple,.ref pa])∧jC2 H vc j.jf.colour∧H pa=some (.tup (j.after.map V.str))
end My
namespace My
open PySem L2
open Blk (sg sg_inj sg_app)
structure Mid (ws as:List Str) (A:Nat) (M:List Str):Prop where
  perm:M.Perm (ws ++ as)
  le:A≤M.length
  pre:((M.take A).filter fun w=>Txt.startswith w cAft)=as
  post:((M.drop A).filter fun w=>Txt.startswith w cAft)=[]
end My
namespace My
open PySem L2
inductive Ly where
  | one | both | up (n:Nat)
def Ly.Ok:Ly→Prop
  | .up n=>2≤n∧n≤16
  | _=>True
def Ly.cells:Ly→Nat
  | .up n=>n
  | _=>1
def Ly.backs:Ly→Bool
  | .one=>false
  | _=>true
def Ly.per (l:Ly):Nat:=if l.backs=true then 2 * l.cells else l.cells
def upT (n:Nat):Str:=Str.ofString "up:" ++ Str.ofString (toString (n:Int))
def Ly.text:Ly→Str
  | .one=>Str.ofString "one"
  | .both=>Str.ofString "both"
  | .up n=>upT n
def jFJ (f:Int) (m:Nat) (n:Int):List Int:=(List.range m).map fun i=>if f + (i:Nat)≤n then f + (i:Nat) else 0
def jDV (l:Ly) (n f:Int):List Int×List Int:=(jFJ f l.cells n,if l.backs=true then jFJ (f + l.cells) l.cells n else List.replicate l.cells 0)
def jBI (l:Ly) (n:Nat):Nat:=(n - 1) / l.per + 1
def jC3 (l:Ly) (n:Nat):List (List Int×List Int):=(List.range (jBI l n)).map fun i=>jDV l n (1 + (i:Nat) * (l.per:Int))
theorem Ly.cells_pos {l:Ly} (h:l.Ok):1≤l.cells∧l.cells≤16:=by
  cases l with
  | one=>exact ⟨by decide,by decide⟩
  | both=>exact ⟨by decide,by decide⟩
  | up n=>exact ⟨Nat.le_trans (by decide) h.1,h.2⟩
theorem Ly.per_pos {l:Ly} (h:l.Ok):1≤l.per∧l.per≤32:=by
  have:=Ly.cells_pos h
  unfold Ly.per
  split <;> omega
def jMC (n:Nat):Bool:=PySem.intText? (Txt.slice (upT n) (some 3) none) == some (n:Int) && decide ((Txt.slice (upT n) (some 3) none).length≤10) && decide (upT n≠Str.ofString "one") && decide (upT n≠Str.ofString "both") && decide ((upT n).length≤10)
theorem up_all:((List.range 17).drop 2).all jMC=true:=by decide +kernel
theorem jNK {n:Nat} (h1:2≤n) (h2:n≤16):PySem.intText? (Txt.slice (upT n) (some 3) none)=some (n:Int)∧(Txt.slice (upT n) (some 3) none).length≤10∧upT n≠Str.ofString "one"∧upT n≠Str.ofString "both"∧(upT n).length≤10:=by
  have:=List.all_eq_true.mp up_all n (by
    have:n=((List.range 17).drop 2)[n - 2]'(by simp;omega):=by simp;omega
    rw [this]
    exact List.getElem_mem _)
  unfold jMC at this
  simp only [Bool.and_eq_true,beq_iff_eq,decide_eq_true_eq] at this
  exact ⟨this.1.1.1.1,this.1.1.1.2,this.1.1.2,this.1.2,this.2⟩
end My
namespace My
open PySem L2
def top (i:Nat):Stmt:=PySem.Challenge.pw_spoolhall_k33_taken_over.main.body.getD i (.Pass ⟨0,0,0,0⟩)
abbrev jDn:Stmt:=jAr (top 3) 0
abbrev jDZ:Stmt:=jAr (top 4) 0
abbrev jDo:Stmt:=jAr (top 5) 0
abbrev jGi:Stmt:=jAr (top 6) 0
abbrev jFj:Stmt:=jAr (top 7) 0
abbrev jDp:Stmt:=jAr (top 8) 0
abbrev jEB:Stmt:=top 14
abbrev jD0:Stmt:=jAr (top 15) 0
abbrev jCs:Stmt:=jAr (top 15) 1
abbrev jD1:Stmt:=jAr (top 15) 2
abbrev jCh:Stmt:=jAr (top 15) 3
abbrev jGj:Stmt:=jAr (top 16) 0
abbrev jFk:Stmt:=jAr (top 17) 0
abbrev jDq:Stmt:=jAr (top 18) 0
abbrev jFl:Stmt:=top 19
abbrev jFm:Stmt:=top 22
abbrev jGk:Stmt:=top 23
abbrev jH5:Stmt:=top 24
abbrev jD2:Stmt:=top 25
abbrev jEC:Stmt:=jAr (top 30) 0
abbrev jDr:Stmt:=jAr (top 30) 1
abbrev jFn:Stmt:=jAr (top 30) 2
abbrev jED:Stmt:=jAr (top 30) 3
abbrev jD3:Stmt:=jAr (top 30) 4
abbrev jEE:Stmt:=jAr (top 30) 5
abbrev jEF:Stmt:=jAr (top 31) 0
abbrev jFo:Stmt:=jAr (top 31) 1
abbrev jD4:Stmt:=jAr (top 31) 2
abbrev jD5:Stmt:=jAr (top 32) 0
abbrev jD6:Stmt:=jAr (top 32) 1
abbrev jDs:Stmt:=jAr (top 32) 2
abbrev jFp:Stmt:=jAr (top 33) 0
abbrev jFq:Stmt:=jAr (top 33) 1
abbrev jGl:Stmt:=jAr (top 35) 0
abbrev jGm:Stmt:=jAr (top 35) 1
abbrev jFr:Stmt:=jAr (top 35) 2
abbrev jG4:Stmt:=jAr (top 35) 3
abbrev jH6:Stmt:=jAr (top 35) 4
abbrev jFs:Stmt:=jAr (top 35) 5
abbrev jGn:Stmt:=jAr (top 35) 6
abbrev jDt:Stmt:=jAr (top 35) 7
abbrev jGo:Stmt:=jAr (top 35) 8
abbrev jGp:Stmt:=jAr (top 35) 10
abbrev jG5:Stmt:=jAr (top 35) 11
abbrev jCL:Stmt:=jAr (top 35) 12
abbrev jB6:Stmt:=jAr (top 35) 13
abbrev jD7:Stmt:=jAr (top 35) 14
abbrev jG6:Stmt:=jAr (top 35) 15
abbrev jD8:Stmt:=jAr (top 35) 16
abbrev jDu:Stmt:=jAr (top 35) 17
abbrev jGq:Stmt:=jAr (top 37) 0
abbrev jEG:Stmt:=jAr (top 39) 0
abbrev jEH:Stmt:=jAr (top 39) 1
abbrev jLh:Stmt:=jAr (top 39) 2
abbrev jEI:Stmt:=jAr (top 39) 3
abbrev jCM:Stmt:=jAr (top 39) 4
abbrev jFt:Stmt:=jAr (top 39) 5
abbrev jC4:Stmt:=jAr (top 39) 6
abbrev jCN:Stmt:=jAr (top 39) 7
abbrev jDv:Stmt:=jAr (top 44) 0
abbrev jCO:Stmt:=jAr (top 44) 1
abbrev jB7:Stmt:=jAr (top 44) 3
abbrev jCP:Stmt:=jAr (top 44) 5
abbrev jDw:Stmt:=jAr (top 44) 6
abbrev jDx:Stmt:=jAr (top 44) 7
abbrev jBL:Stmt:=jAr (top 44) 8
abbrev jDy:Stmt:=jAr (top 44) 9
abbrev jDz:Stmt:=jAr (top 44) 10
abbrev jCQ:Stmt:=jAr (top 44) 11
abbrev jD9:Stmt:=jAr (top 44) 12
abbrev jC5:Stmt:=jAr (top 44) 13
abbrev jDA:Stmt:=jAr (top 44) 14
abbrev jDB:Stmt:=jAr (top 44) 15
abbrev jDC:Stmt:=top 46
abbrev jGr:Stmt:=top 47
abbrev jFu:Stmt:=top 48
abbrev jFv:Stmt:=top 49
abbrev jG7:Stmt:=top 50
abbrev jFw:Stmt:=top 51
abbrev jGs:Stmt:=top 52
abbrev jFx:Stmt:=top 53
abbrev jDD:Stmt:=top 54
abbrev jEJ:Stmt:=top 55
abbrev jFy:Stmt:=top 56
abbrev jDE:Stmt:=top 57
abbrev jGt:Stmt:=top 58
abbrev jD_:Stmt:=top 59
abbrev jFz:Stmt:=top 60
abbrev jEK:Stmt:=top 61
abbrev jEa:Stmt:=top 62
abbrev jC6:Stmt:=top 63
abbrev jHw:Stmt:=top 64
structure Txt (K:PySem.W.Frag) (mg:Str→Option Value) (yQ yZ yX yY yV yJ yW yU yK yG cQ cZ cV cK cG vQ vZ vX vY:Addr):Prop where
  ae:mg "len"=none
  ar:mg "range"=none
  aU:mg "str"=none
  aV:mg "int"=none
  bw:mg "bool"=none
  aM:mg "tuple"=none
  aW:mg "list"=none
  aB:mg "isinstance"=none
  bF:mg "max"=none
  aX:mg "dict"=none
  ck:mg "ValueError"=none
  aN:GI mg "SLIP" (-1)
  UP:GS mg "UP" (Str.ofString "up:")
  aY:GI mg "NOTHING" (0)
  bG:GI mg "FIRST_PAGE" (1)
  bH:GI mg "COVER_SHEET" (0)
  aZ:GS mg "READY" (Str.ofString "ready")
  bI:GS mg "JAMMED" (Str.ofString "jammed")
  bJ:GS mg "OFF" (Str.ofString "off")
  bb:GS mg "BLACK" (Str.ofString "black")
  bc:GS mg "COLOUR" (Str.ofString "colour")
  bK:GS mg "WITHIN" (Str.ofString "within")
  cm:Cls K yQ
  cq:mg "Layout"=some (.ref yQ)
  cr:jAu K yQ "cells"
  cu:jAu K yQ "backs"
  aH:Cls K yZ
  cw:mg "One"=some (.ref yZ)
  bd:jAu K yZ "cells"
  bf:jAu K yZ "backs"
  aI:Cls K yX
  cx:mg "Both"=some (.ref yX)
  bg:jAu K yX "cells"
  bi:jAu K yX "backs"
  aJ:Cls K yY
  cy:mg "Several"=some (.ref yY)
  bj:jAu K yY "cells"
  bn:jAu K yY "backs"
  cz:Cls K yV
  cC:mg "State"=some (.ref yV)
  cD:jAu K yV "word"
  ay:Cls K yJ
  cE:mg "Ready"=some (.ref yJ)
  aO:jAu K yJ "word"
  az:Cls K yW
  cF:mg "Jammed"=some (.ref yW)
  aP:jAu K yW "word"
  aj:Cls K yU
  cH:mg "Away"=some (.ref yU)
  aK:jAu K yU "word"
  bx:jAu K yU "jammed"
  aa:Cls K yK
  cI:mg "Run"=some (.ref yK)
  aA:jAu K yK "job"
  bo:jAu K yK "inks"
  aC:jAu K yK "passed"
  ai:jAu K yK "printer"
  aL:jAu K yK "slipped"
  bp:jAu K yK "broken"
  ad:Cls K yG
  cL:mg "Job"=some (.ref yG)
  aD:jAu K yG "name"
  bL:jAu K yG "asker"
  bz:jAu K yG "pages"
  bA:jAu K yG "copies"
  bB:jAu K yG "layout"
  aQ:jAu K yG "paper"
  bq:jAu K yG "cover"
  bC:jAu K yG "colour"
  bM:jAu K yG "staple"
  bN:jAu K yG "after"
  ah:Cls K cQ
  db:mg "Stock"=some (.ref cQ)
  bt:jAu K cQ "rooms"
  aE:jAu K cQ "amounts"
  ac:Cls K cZ
  dc:mg "Printer"=some (.ref cZ)
  bu:jAu K cZ "name"
  bO:jAu K cZ "can"
  bD:jAu K cZ "path"
  bP:jAu K cZ "rooms"
  aR:jAu K cZ "trays"
  bv:jAu K cZ "inks"
  ax:jAu K cZ "state"
  ak:jAu K cZ "inside"
  bE:PySem.W.mroHas K cK (.ref cK)=true
  bQ:PySem.W.mroHas K vZ (.ref cK)=false
  bR:PySem.W.mroHas K vZ (.ref vZ)=true
  bS:PySem.W.mroHas K vX (.ref cK)=false
  bU:PySem.W.mroHas K vX (.ref vZ)=false
  bV:PySem.W.mroHas K vX (.ref vX)=true
  bW:PySem.W.mroHas K cG (.ref cK)=false
  bX:PySem.W.mroHas K cG (.ref vZ)=false
  bY:PySem.W.mroHas K cG (.ref vX)=false
  bZ:PySem.W.mroHas K cG (.ref cG)=true
  aS:XCl K cV ["name"]
  de:mg "Unknown"=some (.ref cV)
  ag:XCl K cK ["found"]
  cb:mg "NotNow"=some (.ref cK)
  ao:XCl K cG ["name"]
  ce:mg "TooMuch"=some (.ref cG)
  aT:XCl K vQ ["name"]
  df:mg "Dry"=some (.ref vQ)
  aq:XCl K vZ ["job"]
  cf:mg "Over"=some (.ref vZ)
  au:XCl K vX ["job"]
  cg:mg "Nowhere"=some (.ref vX)
  aF:InX K vY
  aG:mg "HallError"=some (.ref vY)
  dg:jND K [cV,cK,cG,vQ,vZ,vX] vY=true
end My
seal L2.PE L2.PS L2.PSs L2.PT L2.PW L2.PA L2.PI L2.PG L2.PGs L2.PSet L2.PIfs L2.PO L2.PK L2.CallR L2.OpR L2.IxR L2.SlR L2.UnR
namespace My
open PySem L2
open Blk (sg sg_inj sg_app)
section
variable {P:Program} {w:World} {K:PySem.W.Frag} {mg:Str→Option Value} {base:Heap} {fa yQ yZ yX yY yV yJ yW yU yK yG cQ cZ cV cK cG vQ vZ vX vY:Addr} {fd:FuncData} (T:Txt K mg yQ yZ yX yY yV yJ yW yU yK yG cQ cZ cV cK cG vQ vZ vX vY)
structure Scr (K:PySem.W.Frag) (H:Hp) (a:Addr):Prop where
  ex:∃ ns:List Int,SqL K H a (ns.map V.int)∧ns.length≤63
end
end My
namespace My
open PySem L2
open Blk (sg sg_inj sg_app)
section
variable {P:Program} {w:World} {K:PySem.W.Frag} {mg:Str→Option Value} {base:Heap} {fa yQ yZ yX yY yV yJ yW yU yK yG cQ cZ cV cK cG vQ vZ vX vY:Addr} {fd:FuncData} (T:Txt K mg yQ yZ yX yY yV yJ yW yU yK yG cQ cZ cV cK cG vQ vZ vX vY)
def jJo (x:Addr) (H H':Hp):Prop:=∀ b o,b≠x→H b=some o→H' b=some o
def jBl (C:Addr) (f:Str):Sp:=fun vs H Q _=>∃ (x:Addr) (y:V),vs=[.ref x,y]∧H x=some (XO x C none)∧∀ H',jJo x H H'→XF H' x C [(f,y)]→Q .non H'
theorem jDF {H:Hp} {x dx:Addr} {o u:HO} (hd:H dx=none):jJo x H (upd (upd H dx o) x u):=fun b v hb e=>by
  rw [jAj hb,jAj (jAf e hd)];exact e
theorem jFK {H:Hp} {x dx C:Addr} {fs:List (Str×V)} (hx:dx≠x):XF (upd (upd H dx (XD dx fs)) x (XO x C (some dx))) x C fs:=⟨dx,jAc,by rw [jAj hx,jAc],hx⟩
theorem jNL {H H':Hp} {x:Addr} {o:HO} (hx:H x=none) (k:jJo x (upd H x o) H'):jAo H H':=fun b v e=>by
  have hb:b≠x:=jAf e hx
  exact k b v hb (by rw [jAj hb];exact e)
theorem jA5 {K:PySem.W.Frag} {C:Addr} {f:Str} {y:V} {H:Hp} {E:XK} (mk:PySem.W.excMk K C=true) (h:∀ ea H',jAo H H'→H ea=none→XG H' ea C [(f,y)]→E (.ref C) (some ea) H') :
    ∀ x,H x=none→jBl C f (.ref x :: [y]) (upd H x (XO x C none)) (fun v H2=>v=.non∧∃ ea C' d,V.ref x=.ref ea∧H2 ea=some (XO ea C' d)∧PySem.W.excMk K C'=true∧E (.ref C') (some ea) (upd H2 ea (XC ea C' d))) E0:=by
  intro x nx
  refine ⟨x,y,rfl,jAc,fun H' kb xf=>⟨rfl,?_⟩⟩
  obtain ⟨dx,a,g⟩:=xf.raised
  exact ⟨x,C,some dx,rfl,a,mk,h x _ (jCx nx (jNL nx kb) _) nx g⟩
theorem jFL {c A B:Prop} [Decidable c] (hc:c) (h:A):if decide c=true then A else B:=by
  rw [if_pos (decide_eq_true hc)]
  exact h
theorem jCz {c A B:Prop} [Decidable c] (hc:¬ c) (h:B):if decide c=true then A else B:=by
  rw [if_neg (by rw [decide_eq_false hc];decide)]
  exact h
theorem iteNN {c A B:Prop} [Decidable c] (hc:¬ c) (h:A):if (!decide c)=true then A else B:=by
  rw [decide_eq_false hc]
  exact h
end
end My
namespace My
open PySem L2
open Blk (sg sg_inj sg_app)
section
variable {P:Program} {w:World} {K:PySem.W.Frag} {mg:Str→Option Value} {base:Heap} {fa yQ yZ yX yY yV yJ yW yU yK yG cQ cZ cV cK cG vQ vZ vX vY:Addr} {fd:FuncData} (T:Txt K mg yQ yZ yX yY yV yJ yW yU yK yG cQ cZ cV cK cG vQ vZ vX vY)
theorem jIs:jAl ["self","name"] ["self","name"] (jAh jDn):=scM
include T in
theorem jIt (F:Fun K "__init__" "Unknown.__init__" jDn fa fd)  :
    jAq P w K mg base CX0 1 fa fd ["self","name"] (jBl cV "name"):=by
  refine F.ok jIs (fun vs H Q E h=>?_) (fun cdv A outer s H vs Q E hr h=>?_)
  · obtain ⟨x,y,rfl,_⟩:=h
    rfl
  obtain ⟨x,y,rfl,hx,q⟩:=h
  refine ⟨_,(jAb (jAJ (jDl T.aF rfl T.aG (jAa (pv 0) (jAa (pv 1) jAd)))) (jAe (jEo (pv 0) (pv 1) rfl))),?_⟩
  refine ⟨_,rfl,_,rfl,x,_,none,[y],rfl,(by simp),hx,T.aS.m,?_⟩
  refine ⟨_,rfl,_,rfl,.inl ⟨x,_,rfl,hx,T.aS.i.c,T.aS.n _ (.head _),fun dx nd ne=>?_⟩⟩
  exact q _ (jDF nd) (jFK ne)
theorem jIu:jAl ["self","name"] ["self","name"] (jAh jDo):=scM
include T in
theorem jIv (F:Fun K "__init__" "TooMuch.__init__" jDo fa fd)  :
    jAq P w K mg base CX0 1 fa fd ["self","name"] (jBl cG "name"):=by
  refine F.ok jIu (fun vs H Q E h=>?_) (fun cdv A outer s H vs Q E hr h=>?_)
  · obtain ⟨x,y,rfl,_⟩:=h
    rfl
  obtain ⟨x,y,rfl,hx,q⟩:=h
  refine ⟨_,(jAb (jAJ (jDl T.aF rfl T.aG (jAa (pv 0) (jAa (pv 1) jAd)))) (jAe (jEo (pv 0) (pv 1) rfl))),?_⟩
  refine ⟨_,rfl,_,rfl,x,_,none,[y],rfl,(by simp),hx,T.ao.m,?_⟩
  refine ⟨_,rfl,_,rfl,.inl ⟨x,_,rfl,hx,T.ao.i.c,T.ao.n _ (.head _),fun dx nd ne=>?_⟩⟩
  exact q _ (jDF nd) (jFK ne)
theorem jL2:jAl ["self","name"] ["self","name"] (jAh jGi):=scM
include T in
theorem jL3 (F:Fun K "__init__" "Dry.__init__" jGi fa fd)  :
    jAq P w K mg base CX0 1 fa fd ["self","name"] (jBl vQ "name"):=by
  refine F.ok jL2 (fun vs H Q E h=>?_) (fun cdv A outer s H vs Q E hr h=>?_)
  · obtain ⟨x,y,rfl,_⟩:=h
    rfl
  obtain ⟨x,y,rfl,hx,q⟩:=h
  refine ⟨_,(jAb (jAJ (jDl T.aF rfl T.aG (jAa (pv 0) (jAa (pv 1) jAd)))) (jAe (jEo (pv 0) (pv 1) rfl))),?_⟩
  refine ⟨_,rfl,_,rfl,x,_,none,[y],rfl,(by simp),hx,T.aT.m,?_⟩
  refine ⟨_,rfl,_,rfl,.inl ⟨x,_,rfl,hx,T.aT.i.c,T.aT.n _ (.head _),fun dx nd ne=>?_⟩⟩
  exact q _ (jDF nd) (jFK ne)
theorem jBb {f:Str} {v:V}:∀ {fs:List (Str×V)},¬ f∈fs.map (·.1)→jBe f v fs=fs ++ [(f,v)]
  | [],_=>rfl
  | (g,u) :: r,h=>by
    have h1:¬ g=f:=fun e=>h (by rw [← e];exact List.mem_cons_self)
    show (if g=f then _ else (g,u) :: jBe f v r)=_
    rw [if_neg h1,jBb fun m=>h (List.mem_cons_of_mem _ m)]
    rfl
def dI (ps:List (Str×Int)):List (Key×V):=ps.map fun p=>(Sum.inr p.1,V.int p.2)
theorem jKn {l:List Str} (h:l.Nodup):(l.map (Sum.inr:Str→Key)).Nodup:=by
  induction l with
  | nil=>exact List.nodup_nil
  | cons a r ih =>
    rw [List.nodup_cons] at h
    rw [List.map_cons,List.nodup_cons]
    refine ⟨fun m=>?_,ih h.2⟩
    obtain ⟨b,hb,e⟩:=List.mem_map.mp m
    cases e
    exact h.1 hb
def jGK (C:Addr):Sp:=fun vs H Q _=>∃ (x dx a:Addr) (rs:List (Str×Int)),vs=[.ref x,.ref a]∧H x=some (.ins C dx [])∧H a=some (.dK (dI rs))∧(rs.map (·.1)).Nodup∧rs.length≤1000 ∧
  ∀ r m H',(∀ b u,b≠x→H b=some u→H' b=some u)→H r=none→H m=none→r≠m→H' x=some (.ins C dx [("rooms",.ref r),("amounts",.ref m)])→H' r=some (.dK (dI rs))→H' m=some (.dK (dI (rs.map fun p=>(p.1,0))))→Q .non H'
theorem jKo:jAl ["self","rooms"] ["self","rooms"] (jAh jEG):=scM
include T in
theorem jKp (F:Fun K "__init__" "Stock.__init__" jEG fa fd)  :
    jAq P w K mg base CX0 1 fa fd ["self","rooms"] (jGK cQ):=by
  refine F.ok jKo (fun vs H Q E h=>?_) (fun cdv A outer s H vs Q E hr h=>?_)
  · obtain ⟨x,dx,a,rs,rfl,_⟩:=h
    rfl
  obtain ⟨x,dx,a,rs,rfl,hx,ha,nd,l1,q⟩:=h
  refine ⟨_,(jAb (jAI (pv 0) (jBQ jFI rfl T.aX jJm (jAa (pv 1) jAd)) rfl) (jAe (jAI (pv 0) (pe_frz (jBQ (jIq rfl) rfl T.aX jJm (jAa (jCg (frees:=[]) ⟨by decide +kernel,rfl,rfl,by decide +kernel,trivial,by decide +kernel,jBd rfl,rfl⟩ rfl (pi_dict (pv 1)) (fun _ _ _ _=>jCo) (fun _ _ _ _=>by exact (jAM (jAa (pv 0) (jAa jAg jAd))))) jAd))) rfl))),?_⟩
  have z2:2≤sizeLine:=small (by decide)
  refine ⟨_,rfl,a,_,rfl,.inl ha,fun r nr=>?_⟩
  have nrx:x≠r:=jAf hx nr
  have nra:a≠r:=jAf ha nr
  have nax:a≠x:=jAn ha hx (by intro z;cases z)
  refine ⟨_,rfl,x,cQ,dx,_,rfl,(by rw [jAj nrx];exact hx),T.ah,T.bt,(by show 0 < 1000;decide),?_⟩
  rw [jBb (by show ¬ ("rooms":Str)∈([]:List Str);decide +kernel),List.nil_append]
  have k1:∀ b u,b≠x→H b=some u→upd (upd H r (.dK (dI rs))) x (.ins cQ dx [("rooms",.ref r)]) b=some u:=fun b u nb e=>by rw [jAj nb,jAj (jAf e nr)];exact e
  have hr1:upd (upd H r (.dK (dI rs))) x (.ins cQ dx [("rooms",.ref r)]) r=some (.dK (dI rs)):=by rw [jAj (Ne.symm nrx),jAc]
  have hx1:upd (upd H r (.dK (dI rs))) x (.ins cQ dx [("rooms",.ref r)]) x=some (.ins cQ dx [("rooms",.ref r)]):=jAc
  generalize upd (upd H r (.dK (dI rs))) x (.ins cQ dx [("rooms",.ref r)])=H1 at k1 hr1 hx1 ⊢
  refine ⟨a,dI rs,k1 _ _ nax ha,fun o=>?_⟩
  refine ⟨_,rfl,a,o,dI rs,rfl,jAc,?_⟩
  have zr:((dI rs).map fun p=>kV p.1).length=rs.length:=by unfold dI;rw [List.length_map,List.length_map]
  refine jEz (jOg jAc) (fun n y H'=>∃ t,y=.ref t∧H' t=some (.tup [n,.int 0])) (by rw [zr];exact jAX l1) (fun x _ H' R _ rr=>rr) (fun n _ H' R _ rr=>⟨_,rfl,z2,fun t nt=>rr _ _ (jAk nt _) ⟨fun z=>z=t,fun b hb=>by subst hb;exact ⟨nt,_,jAc⟩,fun H3 h3=>⟨t,rfl,by rw [h3 t rfl];exact jAc⟩⟩⟩) (fun D H2 ys s2 nD hD ly gy=>?_)
  have k2:∀ b u,b≠a→H1 b=some u→H2 b=some u:=fun b u nb e=>s2 b u (by rw [jAj nb];exact e)
  have ha2:=s2 _ _ (jAc (H:=H1) (a:=a) (o:=.frz o (.dK (dI rs))))
  have nd':((dI (rs.map fun p=>(p.1,0))).map (·.1)).Nodup:=by
    have e:(dI (rs.map fun p=>(p.1,(0:Int)))).map (·.1)=(rs.map (·.1)).map (Sum.inr:Str→Key):=by
      unfold dI
      rw [List.map_map,List.map_map,List.map_map]
      rfl
    rw [e]
    exact jKn nd
  refine ⟨D,ys,dI (rs.map fun p=>(p.1,0)),rfl,hD,?_,fun i y kv e1 e2=>?_,nd',fun m nm=>⟨?_,?_⟩⟩
  · rw [ly,zr]
    unfold dI
    rw [List.length_map,List.length_map]
  · unfold dI at e2
    rw [List.map_map,List.getElem?_map] at e2
    obtain ⟨p,ep,rfl⟩:=Option.map_eq_some_iff.mp e2
    have ex:((dI rs).map fun p=>kV p.1)[i]?=some (.str p.1):=by
      unfold dI
      rw [List.map_map,List.getElem?_map,ep]
      rfl
    obtain ⟨t,rfl,ht⟩:=gy i _ y ex e1
    exact ⟨t,rfl,SqT.of ht⟩
  · rw [jAj (jAf ha2 nm)]
    exact ha2
  have nma:a≠m:=jAf ha2 nm
  have hx2:=k2 _ _ (Ne.symm nax) hx1
  have nmx:x≠m:=jAf hx2 nm
  have hr2:=k2 _ _ (Ne.symm nra) hr1
  have nmr:r≠m:=jAf hr2 nm
  refine ⟨_,rfl,x,cQ,dx,_,rfl,(by rw [jAj (Ne.symm nax),jAj nmx];exact hx2),T.ah,T.aE,(by show 1 < 1000;decide),?_⟩
  rw [jBb (by show ¬ ("amounts":Str)∈(["rooms"]:List Str);decide +kernel)]
  have nm1:H m=none:=by
    cases e:H m with
    | none=>rfl
    | some u =>
      have:H2 m=some u:=k2 m u (Ne.symm nma) (k1 m u (Ne.symm nmx) e)
      rw [nm] at this
      cases this
  refine q r m _ (fun b u nb e=>?_) nr nm1 nmr jAc ?_ ?_
  · rw [jAj nb]
    by_cases hb:b=a
    · subst hb
      rw [jAc]
      rw [ha] at e
      exact e
    · have e2:=k2 b u hb (k1 b u nb e)
      rw [jAj hb,jAj (jAf e2 nm)]
      exact e2
  · rw [jAj (Ne.symm nrx),jAj (Ne.symm nra),jAj nmr]
    exact hr2
  · rw [jAj (Ne.symm nmx),jAj (Ne.symm nma),jAc]
theorem jNM {rs:List (Str×Int)} {n:Str}:jBU (dI rs) (Sum.inr n:Key)=(rs.lookup n).map V.int:=by
  induction rs with
  | nil=>rfl
  | cons p r ih =>
    obtain ⟨k,v⟩:=p
    show ((((Sum.inr k:Key),V.int v) :: dI r).find? fun kv=>decide (kv.1=Sum.inr n)).map (·.2)=_
    rw [List.find?_cons,List.lookup_cons]
    by_cases h:k=n
    · subst h
      rw [decide_eq_true rfl,beq_self_eq_true]
      rfl
    · rw [decide_eq_false (show ¬ (((Sum.inr k:Key),V.int v).1=Sum.inr n) from fun z=>h (Sum.inr.inj z)),beq_eq_false_iff_ne.mpr (Ne.symm h)]
      exact ih
theorem jEq {H:Hp} {m:Addr} {am:List (Str×Int)} {n:Str} {v:Int} (e:H m=some (.dK (dI am))) (l:am.lookup n=some v):jBh H m (.str n) (some (.int v)):=by
  have:=jBh.k (k:=Sum.inr n) e
  rw [jNM,l] at this
  exact this
theorem jCY {rs:List (Str×Int)} {n:Str} {v:Int} (h:rs.lookup n=some v):n∈rs.map (·.1):=List.mem_map.mpr ⟨(n,v),PySem.mem_of_lookup h,rfl⟩
theorem jE3 {rs:List (Str×Int)} {n:Str} (h:rs.lookup n=none):¬ n∈rs.map (·.1):=by
  intro m
  obtain ⟨p,hp,e⟩:=List.mem_map.mp m
  rw [List.lookup_eq_none_iff] at h
  have:=h p hp
  rw [e] at this
  simp at this
theorem look_in {rs:List (Str×Int)} {n:Str} (h:n∈rs.map (·.1)):(rs.lookup n).isNone=false:=by
  cases e:rs.lookup n with
  | none=>exact absurd h (jE3 e)
  | some v=>rfl
theorem jOp {rs:List (Str×Int)} {n:Str} (h:¬ n∈rs.map (·.1)):(rs.lookup n).isNone=true:=by
  cases e:rs.lookup n with
  | none=>rfl
  | some v=>exact absurd (jCY e) h
def jFM (C:Addr) (H:Hp) (x:Addr) (rs am:List (Str×Int)):Prop:=∃ dx r m,H x=some (.ins C dx [("rooms",.ref r),("amounts",.ref m)])∧H r=some (.dK (dI rs))∧H m=some (.dK (dI am))∧r≠m
def jG8 (cU:Addr) (n:Str) (H:Hp) (E:XK):Prop:=∀ ea H',jAo H H'→XG H' ea cU [("name",.str n)]→E (.ref cU) (some ea) H'
def jJp (C cU:Addr):Sp:=fun vs H Q E=>∃ x rs am n,vs=[.ref x,.str n]∧jFM C H x rs am∧(n∈rs.map (·.1)→Q .non H)∧(¬ n∈rs.map (·.1)→jG8 cU n H E)
theorem jKq:jAl ["self","name"] ["self","name"] (jAh jEI):=scM
include T in
theorem jKr (F:Fun K "know" "Stock.know" jEI fa fd) (DaK:jCJ P w K mg base 1 "Unknown" cV ["self","name"] (jBl cV "name")) :
    jAq P w K mg base (CXe P w) 3 fa fd ["self","name"] (jJp cQ cV):=by
  refine F.okE jKq (fun vs H Q E h=>?_) (fun cdv A outer s H vs Q E hr h=>?_)
  · obtain ⟨x,rs,am,n,rfl,_⟩:=h
    rfl
  obtain ⟨x,rs,am,n,rfl,⟨dx,r,m,hx,hr',hm,ne⟩,q1,q2⟩:=h
  have hu:=jCr hr 0 (by decide)
  refine ⟨_,(jAe (jAC (pt_cmp (jNt hu (pv 1) (jAp (pv 0) rfl))) (jAe (jBt jBk rfl (jBj DaK hr.m rfl (jAa (pv 1) jAd)))) jAs)),?_⟩
  refine ⟨_,rfl,_,rfl,x,cQ,dx,_,_,rfl,hx,T.ah,T.bt,rfl,r,_,rfl,jBh.k (k:=Sum.inr n) hr',_,rfl,?_⟩
  rw [jNM]
  cases e:rs.lookup n with
  | some v=>exact jAK (q1 (jCY e))
  | none=>exact jAP ⟨_,rfl,jA5 T.aS.m fun ea H' sm _ g=>q2 (jE3 e) ea H' sm g⟩
def jMD (C cU:Addr):Sp:=fun vs H Q E=>∃ x rs am n,vs=[.ref x,.str n]∧jFM C H x rs am∧(∀ v,n∈rs.map (·.1)→am.lookup n=some v→Q (.int v) H)∧(n∈rs.map (·.1)→∃ v,am.lookup n=some v)∧(¬ n∈rs.map (·.1)→jG8 cU n H E)
def sp_room (C cU:Addr):Sp:=fun vs H Q E=>∃ x rs am n,vs=[.ref x,.str n]∧jFM C H x rs am∧(∀ v,rs.lookup n=some v→Q (.int v) H)∧(¬ n∈rs.map (·.1)→jG8 cU n H E)
theorem jKs:jAl ["self","name"] ["self","name"] (jAh jEH):=scM
include T in
theorem jKt (F:Fun K "held" "Stock.held" jEH fa fd) (Dan:MtE P w K mg base 3 "know" cQ ["self","name"] (jJp cQ cV)) :
    jAq P w K mg base (CXe P w) 4 fa fd ["self","name"] (jMD cQ cV):=by
  refine F.okE jKs (fun vs H Q E h=>?_) (fun cdv A outer s H vs Q E hr h=>?_)
  · obtain ⟨x,rs,am,n,rfl,_⟩:=h
    rfl
  obtain ⟨x,rs,am,n,rfl,S,q1,q0,q2⟩:=h
  have hu:=jCr hr 0 (by decide)
  obtain ⟨dx,r,m,hx,hr',hm,ne⟩:=id S
  refine ⟨_,(jAb (jAJ (jAR 3 jAw hr.m (pv 0) (jAa (pv 1) jAd))) (jAe (jAm (dgA hu (jAp (pv 0) rfl) (pv 1))))),?_⟩
  refine ⟨_,rfl,x,_,dx,_,_,_,rfl,hx,rfl,T.ah,Dan,_,rfl,x,rs,am,n,rfl,S,fun hn=>?_,q2⟩
  obtain ⟨v,ev⟩:=q0 hn
  exact ⟨_,rfl,x,cQ,dx,_,_,rfl,hx,T.ah,T.aE,rfl,_,rfl,m,_,rfl,jEq hm ev,q1 v hn ev⟩
def GiftAt (H:Hp) (y:V) (g:Str×Int):Prop:=∃ t,y=.ref t∧H t=some (.tup [.str g.1,.int g.2])
def jHx (H:Hp) (p:Addr) (ws:List (Str×Int)):Prop:=∃ ts,H p=some (.lst ts)∧ts.length=ws.length∧∀ (i:Nat) y g,ts[i]?=some y→ws[i]?=some g→GiftAt H y g
def jBq (rs ws:List (Str×Int)):Option Str:=(ws.find? fun g=>(rs.lookup g.1).isNone).map (·.1)
theorem jEi {α:Type} {f:α→Bool}:∀ {l:List α} {i:Nat} {a:α},l[i]?=some a→(∀ j b,j < i→l[j]?=some b→f b=false)→f a=true→l.find? f=some a
  | [],_,_,h,_,_=>by simp at h
  | b :: r,0,a,h,_,k=>by
    obtain rfl:b=a:=Option.some.inj h
    rw [List.find?_cons,k]
  | b :: r,i + 1,a,h,g,k=>by
    have hb:f b=false:=g 0 b (Nat.succ_pos _) rfl
    rw [List.find?_cons,hb]
    exact jEi (i:=i) h (fun j c hj e=>g (j + 1) c (Nat.succ_lt_succ hj) e) k
theorem jJq {α:Type} {f:α→Bool} {l:List α} (h:∀ (j:Nat) b,l[j]?=some b→f b=false):l.find? f=none:=by
  rw [List.find?_eq_none]
  intro x hx
  obtain ⟨j,hj⟩:=List.mem_iff_getElem?.mp hx
  rw [h j x hj]
  decide
def jFA (C cU:Addr):Sp:=fun vs H Q E=>∃ x p rs am ws,vs=[.ref x,.ref p]∧jFM C H x rs am∧jHx H p ws∧(jBq rs ws=none→Q .non H)∧(∀ n,jBq rs ws=some n→jG8 cU n H E)
theorem jEc:jAl ["self","rows","row"] ["self","rows"] (jAh jCM):=scM
include T in
theorem jHD (F:Fun K "know_all" "Stock.know_all" jCM fa fd) (Dan:MtE P w K mg base 3 "know" cQ ["self","name"] (jJp cQ cV)) :
    jAq P w K mg base (CXe P w) 4 fa fd ["self","rows"] (jFA cQ cV):=by
  refine F.okE jEc (fun vs H Q E h=>?_) (fun cdv A outer s H vs Q E hr h=>?_)
  · obtain ⟨x,p,rs,am,ws,rfl,_⟩:=h
    rfl
  obtain ⟨x,p,rs,am,ws,rfl,S,⟨ts,hp,lt,gt⟩,q1,q2⟩:=h
  have hu:=jCr hr 0 (by decide)
  obtain ⟨dx,r,m,hx,hr',hm,ne⟩:=id S
  refine ⟨_,(jAe (jB_ jEp rfl (jBF (pv 1)) (pgA (i:=2) jEc.nd) (jAe (jAJ (jAR 3 jAw hr.m (pv 0) (jAa (ixA jAE (pv 2) jAg) jAd)))))),?_⟩
  refine ⟨_,rfl,p,rfl,⟨_,SqL.of hp⟩,jCm (K:=K) (a:=p) (xs:=ts) (fun i σ H'=>H'=H∧(∀ (j:Nat) g,j < i→ws[j]?=some g→(rs.lookup g.1).isNone=false)∧∃ v,σ=[some (.ref x),some (.ref p),v]) ⟨rfl,fun j g hj=>absurd hj (Nat.not_lt_zero j),_,rfl⟩ (fun i σ H' _ z=>by rw [z.1];exact SqL.of hp) (fun i y σ H' hy z=>?_) (fun σ H' z=>?_)⟩
  · obtain ⟨rfl,kn,v,rfl⟩:=z
    obtain ⟨g,eg⟩:∃ g,ws[i]?=some g:=⟨_,List.getElem?_eq_getElem (by rw [← lt];exact (List.getElem?_eq_some_iff.mp hy).1)⟩
    obtain ⟨t,rfl,ht⟩:=gt i y g hy eg
    refine ⟨_,rfl,x,_,dx,_,_,_,rfl,hx,rfl,T.ah,Dan,?_⟩
    refine ⟨_,rfl,t,_,_,_,rfl,rfl,SqT.of ht,jAz (j:=0) rfl,x,rs,am,g.1,rfl,S,fun hn=>⟨rfl,fun j g' hj e=>?_,_,rfl⟩,fun hn=>q2 g.1 ?_⟩
    · by_cases hji:j < i
      · exact kn j g' hji e
      · have:j=i:=by omega
        subst this
        rw [eg] at e
        obtain rfl:=Option.some.inj e
        exact look_in hn
    · unfold jBq
      rw [jEi eg (fun j b hj e=>kn j b hj e) (jOp hn)]
      rfl
  · obtain ⟨rfl,kn,v,rfl⟩:=z
    refine q1 ?_
    unfold jBq
    rw [jJq fun j g e=>kn j g (by rw [lt];exact (List.getElem?_eq_some_iff.mp e).1) e]
    rfl
def jB0 (C:Addr) (H:Hp) (x r m:Addr) (rs am:List (Str×Int)):Prop:=(∃ dx,H x=some (.ins C dx [("rooms",.ref r),("amounts",.ref m)]))∧H r=some (.dK (dI rs))∧H m=some (.dK (dI am))∧r≠m
theorem jB0.at {C:Addr} {H:Hp} {x r m:Addr} {rs am:List (Str×Int)} (h:jB0 C H x r m rs am):jFM C H x rs am:=let ⟨⟨dx,e1⟩,e2,e3,n⟩:=h;⟨dx,r,m,e1,e2,e3,n⟩
def jA3 (am:List (Str×Int)) (n:Str) (v:Int):List (Str×Int):=am.map fun p=>if p.1=n then (p.1,v) else p
def jBz (s:Int) (am ws:List (Str×Int)):List (Str×Int):=ws.foldl (fun am g=>jA3 am g.1 ((am.lookup g.1).getD 0 + s * g.2)) am
theorem jG9 (am:List (Str×Int)) (n:Str) (v:Int):(jA3 am n v).map (·.1)=am.map (·.1):=by
  unfold jA3
  rw [List.map_map]
  refine List.map_congr_left fun p _=>?_
  show (if p.1=n then (p.1,v) else p).1=p.1
  split <;> rfl
theorem jNN {am:List (Str×Int)} {n:Str} {v:Int} (h:n∈am.map (·.1)):jBV (dI am) (Sum.inr n:Key) (.int v)=dI (jA3 am n v):=by
  have hany:((dI am).any fun kv=>decide (kv.1=(Sum.inr n:Key)))=true:=by
    obtain ⟨p,hp,e⟩:=List.mem_map.mp h
    refine List.any_eq_true.mpr ⟨(Sum.inr p.1,V.int p.2),List.mem_map.mpr ⟨p,hp,rfl⟩,decide_eq_true ?_⟩
    rw [e]
  unfold jBV
  rw [if_pos hany]
  unfold dI jA3
  rw [List.map_map,List.map_map]
  refine List.map_congr_left fun p _=>?_
  show (if (Sum.inr p.1:Key)=Sum.inr n then ((Sum.inr p.1:Key),V.int v) else (Sum.inr p.1,V.int p.2))=(Sum.inr (if p.1=n then (p.1,v) else p).1,V.int (if p.1=n then (p.1,v) else p).2)
  by_cases e:p.1=n
  · rw [if_pos (by rw [e]),if_pos e]
  · rw [if_neg (fun z=>e (Sum.inr.inj z)),if_neg e]
def jBN (rs am ws:List (Str×Int)):Option Str:=(ws.find? fun g=>decide ((rs.lookup g.1).getD 0 < (am.lookup g.1).getD 0 + g.2)).map (·.1)
def jBR (am ws:List (Str×Int)):Option Str:=(ws.find? fun g=>decide ((am.lookup g.1).getD 0 < g.2)).map (·.1)
def jG_ (C cU cN:Addr) (s:Int) (bad:List (Str×Int)→List (Str×Int)→List (Str×Int)→Option Str):Sp:=fun vs H Q E=>∃ x r m p rs am ws,vs=[.ref x,.ref p]∧jB0 C H x r m rs am∧am.map (·.1)=rs.map (·.1)∧am.length≤1000∧p≠m∧jHx H p ws ∧
  (∀ n,jBq rs ws=some n→jG8 cU n H E)∧(∀ n,jBq rs ws=none→bad rs am ws=some n→jG8 cN n H E) ∧
  (jBq rs ws=none→bad rs am ws=none→∀ H',(∀ b u,b≠m→H b=some u→H' b=some u)→jB0 C H' x r m rs (jBz s am ws)→Q .non H')
theorem jCF (s:Int):∀ (ws am:List (Str×Int)),(jBz s am ws).map (·.1)=am.map (·.1)
  | [],_=>rfl
  | g :: r,am=>by
    show (jBz s (jA3 am g.1 ((am.lookup g.1).getD 0 + s * g.2)) r).map (·.1)=_
    rw [jCF s r,jG9]
theorem jHO (s:Int) (am ws:List (Str×Int)) (g:Str×Int):jBz s am (ws ++ [g])=jA3 (jBz s am ws) g.1 (((jBz s am ws).lookup g.1).getD 0 + s * g.2):=by
  unfold jBz
  rw [List.foldl_append]
  rfl
theorem jE4 {rs am:List (Str×Int)} {n:Str} {v:Int} (e:am.map (·.1)=rs.map (·.1)) (h:rs.lookup n=some v):∃ w,am.lookup n=some w:=by
  cases l:am.lookup n with
  | some w=>exact ⟨w,rfl⟩
  | none=>exact absurd (e ▸ jCY h) (jE3 l)
theorem jC7 {rs ws:List (Str×Int)} (h:jBq rs ws=none) {j:Nat} {g:Str×Int} (e:ws[j]?=some g):∃ v,rs.lookup g.1=some v:=by
  unfold jBq at h
  have h1:=List.find?_eq_none.mp (Option.map_eq_none_iff.mp h) g (List.mem_of_getElem? e)
  cases l:rs.lookup g.1 with
  | some v=>exact ⟨v,rfl⟩
  | none=>rw [l] at h1;exact absurd rfl h1
theorem jBJ:jAl ["self","gifts","name","many"] ["self","gifts"] (jAh jC4):=scM
include T in
theorem jH7 (F:Fun K "put_all" "Stock.put_all" jC4 fa fd) (Dao:jCJ P w K mg base 1 "TooMuch" cG ["self","name"] (jBl cG "name")) (Dap:MtE P w K mg base 4 "know_all" cQ ["self","rows"] (jFA cQ cV)) :
    jAq P w K mg base (CXe P w) 5 fa fd ["self","gifts"] (jG_ cQ cV cG 1 jBN):=by
  refine F.okE jBJ (fun vs H Q E h=>?_) (fun cdv A outer s H vs Q E hr h=>?_)
  · obtain ⟨x,r,m,p,rs,am,ws,rfl,_⟩:=h
    rfl
  obtain ⟨x,r,m,p,rs,am,ws,rfl,S,ek,la,npm,G,q1,q2,q3⟩:=h
  have hu:=jCr hr 0 (by decide)
  obtain ⟨⟨dx,hx⟩,hr',hm,ne⟩:=id S
  obtain ⟨ts,hp,lt,gt⟩:=id G
  have nxm:x≠m:=jAn hx hm (by intro z;cases z)
  refine ⟨_,(jAb (jAJ (jAR 4 jAw hr.m (pv 0) (jAa (pv 1) jAd))) (jAb (jB_ jEp rfl (jBF (pv 1)) (jIb rfl (jCl (pgA (i:=2) jBJ.nd) (jCl (pgA (i:=3) jBJ.nd) jHo))) (jAe (jAC (tcA jKI (jAB jA2 (dgA hu (jAp (pv 0) rfl) (pv 2)) (pv 3)) (dgA hu (jAp (pv 0) rfl) (pv 2))) (jAe (jBt jBk rfl (jBj Dao hr.m rfl (jAa (pv 2) jAd)))) jAs))) (jAe (jB_ jEp rfl (jBF (pv 1)) (jIb rfl (jCl (pgA (i:=2) jBJ.nd) (jCl (pgA (i:=3) jBJ.nd) jHo))) (jAe (jMu hu (jAp (pv 0) rfl) (pv 2) (pv 3) in_add (fun _ _ _=>rfl))))))),?_⟩
  refine ⟨_,rfl,x,_,dx,_,_,_,rfl,hx,rfl,T.ah,Dap,_,rfl,x,p,rs,am,ws,rfl,S.at,G,fun kn=>?_,q1⟩
  refine ⟨_,rfl,p,rfl,⟨_,SqL.of hp⟩,jCm (K:=K) (a:=p) (xs:=ts) (fun i σ H'=>H'=H∧(∀ (j:Nat) g,j < i→ws[j]?=some g→decide ((rs.lookup g.1).getD 0 < (am.lookup g.1).getD 0 + g.2)=false)∧∃ v2 v3,σ=[some (.ref x),some (.ref p),v2,v3]) ⟨rfl,fun j g hj=>absurd hj (Nat.not_lt_zero j),_,_,rfl⟩ (fun i σ H' _ z=>by rw [z.1];exact SqL.of hp) (fun i y σ H' hy z=>?_) (fun σ H' z=>?_)⟩
  · obtain ⟨rfl,kb,v2,v3,rfl⟩:=z
    obtain ⟨g,eg⟩:∃ g,ws[i]?=some g:=⟨_,List.getElem?_eq_getElem (by rw [← lt];exact (List.getElem?_eq_some_iff.mp hy).1)⟩
    obtain ⟨t,rfl,ht⟩:=gt i y g hy eg
    obtain ⟨vr,er⟩:=jC7 kn eg
    obtain ⟨va,ea⟩:=jE4 ek er
    refine ⟨t,[.str g.1,.int g.2],rfl,SqT.of ht,rfl,.str g.1,[.int g.2],rfl,.int g.2,[],rfl,rfl,?_⟩
    refine ⟨_,rfl,x,cQ,dx,_,_,rfl,hx,T.ah,T.aE,rfl,_,rfl,m,_,rfl,jEq hm ea,_,rfl,_,_,rfl,rfl,_,rfl,x,cQ,dx,_,_,rfl,hx,T.ah,T.bt,rfl,_,rfl,r,_,rfl,jEq hr' er,_,_,rfl,rfl,decide (vr < va + g.2),rfl,?_⟩
    have eb:(decide ((rs.lookup g.1).getD 0 < (am.lookup g.1).getD 0 + g.2))=decide (vr < va + g.2):=by rw [ea,er];rfl
    cases hd:decide (vr < va + g.2) with
    | false =>
      refine jAK ⟨rfl,fun j g' hj e=>?_,_,_,rfl⟩
      by_cases hji:j < i
      · exact kb j g' hji e
      · have:j=i:=by omega
        subst this
        rw [eg] at e
        obtain rfl:=Option.some.inj e
        rw [eb,hd]
    | true =>
      refine jAP ⟨_,rfl,jA5 T.ao.m fun ea H2 sm _ gx=>q2 g.1 kn ?_ ea H2 sm gx⟩
      unfold jBN
      rw [jEi eg (fun j b hj e=>kb j b hj e) (by rw [eb,hd])]
      rfl
  · obtain ⟨rfl,kb,v2,v3,rfl⟩:=z
    have nb:jBN rs am ws=none:=by
      unfold jBN
      rw [jJq fun j g e=>kb j g (by rw [lt];exact (List.getElem?_eq_some_iff.mp e).1) e]
      rfl
    refine ⟨_,rfl,p,rfl,⟨_,SqL.of hp⟩,jCm (K:=K) (a:=p) (xs:=ts) (fun i σ H2=>(∀ b u,b≠m→H' b=some u→H2 b=some u)∧H2 m=some (.dK (dI (jBz 1 am (ws.take i))))∧∃ v2 v3,σ=[some (.ref x),some (.ref p),v2,v3]) ⟨fun b u _ e=>e,hm,_,_,rfl⟩ (fun i σ H2 _ z=>SqL.of (z.1 _ _ npm hp)) (fun i y σ H2 hy z=>?_) (fun σ H2 z=>?_)⟩
    · obtain ⟨kp,hm2,v2,v3,rfl⟩:=z
      obtain ⟨g,eg⟩:∃ g,ws[i]?=some g:=⟨_,List.getElem?_eq_getElem (by rw [← lt];exact (List.getElem?_eq_some_iff.mp hy).1)⟩
      obtain ⟨t,rfl,ht⟩:=gt i y g hy eg
      obtain ⟨vr,er⟩:=jC7 kn eg
      have ek2:(jBz 1 am (ws.take i)).map (·.1)=rs.map (·.1):=by rw [jCF,ek]
      obtain ⟨va,ea⟩:=jE4 ek2 er
      have tk:ws.take (i + 1)=ws.take i ++ [g]:=by rw [List.take_add_one,eg];rfl
      refine ⟨t,[.str g.1,.int g.2],rfl,SqT.of (kp _ _ (jAn ht hm (by intro z;cases z)) ht),rfl,.str g.1,[.int g.2],rfl,.int g.2,[],rfl,rfl,?_⟩
      have ln:(dI (jBz 1 am (ws.take i))).length < sizeLine:=by
        unfold dI
        have:=congrArg List.length (jCF 1 (ws.take i) am)
        rw [List.length_map,List.length_map] at this
        rw [List.length_map,this]
        exact jAX la
      refine ⟨_,rfl,x,cQ,dx,_,_,rfl,kp _ _ nxm hx,T.ah,T.aE,rfl,_,rfl,m,_,rfl,jEq hm2 ea,_,rfl,_,_,rfl,rfl,_,jCH.k (k:=Sum.inr g.1) hm2 ln,?_⟩
      refine ⟨fun b u nb e=>by rw [jAj nb];exact kp b u nb e,?_,_,_,rfl⟩
      rw [jAc,jNN (jCY ea),tk,jHO,ea,Option.getD_some]
      rw [Int.one_mul]
    · obtain ⟨kp,hm2,v2,v3,rfl⟩:=z
      rw [List.take_of_length_le (by omega)] at hm2
      exact q3 kn nb H2 kp ⟨⟨dx,kp _ _ nxm hx⟩,kp _ _ ne hr',hm2,ne⟩
theorem jBA:jAl ["self","wants","name","many"] ["self","wants"] (jAh jCN):=scM
include T in
theorem jHE (F:Fun K "draw_all" "Stock.draw_all" jCN fa fd) (Daq:jCJ P w K mg base 1 "Dry" vQ ["self","name"] (jBl vQ "name")) (Dap:MtE P w K mg base 4 "know_all" cQ ["self","rows"] (jFA cQ cV)) :
    jAq P w K mg base (CXe P w) 5 fa fd ["self","wants"] (jG_ cQ cV vQ (-1) (fun _ am ws=>jBR am ws)):=by
  refine F.okE jBA (fun vs H Q E h=>?_) (fun cdv A outer s H vs Q E hr h=>?_)
  · obtain ⟨x,r,m,p,rs,am,ws,rfl,_⟩:=h
    rfl
  obtain ⟨x,r,m,p,rs,am,ws,rfl,S,ek,la,npm,G,q1,q2,q3⟩:=h
  have hu:=jCr hr 0 (by decide)
  obtain ⟨⟨dx,hx⟩,hr',hm,ne⟩:=id S
  obtain ⟨ts,hp,lt,gt⟩:=id G
  have nxm:x≠m:=jAn hx hm (by intro z;cases z)
  refine ⟨_,(jAb (jAJ (jAR 4 jAw hr.m (pv 0) (jAa (pv 1) jAd))) (jAb (jB_ jEp rfl (jBF (pv 1)) (jIb rfl (jCl (pgA (i:=2) jBA.nd) (jCl (pgA (i:=3) jBA.nd) jHo))) (jAe (jAC (tcA jF9 (dgA hu (jAp (pv 0) rfl) (pv 2)) (pv 3)) (jAe (jBt jBk rfl (jBj Daq hr.m rfl (jAa (pv 2) jAd)))) jAs))) (jAe (jB_ jEp rfl (jBF (pv 1)) (jIb rfl (jCl (pgA (i:=2) jBA.nd) (jCl (pgA (i:=3) jBA.nd) jHo))) (jAe (jMu hu (jAp (pv 0) rfl) (pv 2) (pv 3) in_sub (fun _ _ _=>rfl))))))),?_⟩
  refine ⟨_,rfl,x,_,dx,_,_,_,rfl,hx,rfl,T.ah,Dap,_,rfl,x,p,rs,am,ws,rfl,S.at,G,fun kn=>?_,q1⟩
  refine ⟨_,rfl,p,rfl,⟨_,SqL.of hp⟩,jCm (K:=K) (a:=p) (xs:=ts) (fun i σ H'=>H'=H∧(∀ (j:Nat) g,j < i→ws[j]?=some g→decide ((am.lookup g.1).getD 0 < g.2)=false)∧∃ v2 v3,σ=[some (.ref x),some (.ref p),v2,v3]) ⟨rfl,fun j g hj=>absurd hj (Nat.not_lt_zero j),_,_,rfl⟩ (fun i σ H' _ z=>by rw [z.1];exact SqL.of hp) (fun i y σ H' hy z=>?_) (fun σ H' z=>?_)⟩
  · obtain ⟨rfl,kb,v2,v3,rfl⟩:=z
    obtain ⟨g,eg⟩:∃ g,ws[i]?=some g:=⟨_,List.getElem?_eq_getElem (by rw [← lt];exact (List.getElem?_eq_some_iff.mp hy).1)⟩
    obtain ⟨t,rfl,ht⟩:=gt i y g hy eg
    obtain ⟨vr,er⟩:=jC7 kn eg
    obtain ⟨va,ea⟩:=jE4 ek er
    refine ⟨t,[.str g.1,.int g.2],rfl,SqT.of ht,rfl,.str g.1,[.int g.2],rfl,.int g.2,[],rfl,rfl,?_⟩
    refine ⟨_,rfl,x,cQ,dx,_,_,rfl,hx,T.ah,T.aE,rfl,_,rfl,m,_,rfl,jEq hm ea,_,rfl,_,_,rfl,rfl,decide (va < g.2),rfl,?_⟩
    have eb:(decide ((am.lookup g.1).getD 0 < g.2))=decide (va < g.2):=by rw [ea];rfl
    cases hd:decide (va < g.2) with
    | false =>
      refine jAK ⟨rfl,fun j g' hj e=>?_,_,_,rfl⟩
      by_cases hji:j < i
      · exact kb j g' hji e
      · have:j=i:=by omega
        subst this
        rw [eg] at e
        obtain rfl:=Option.some.inj e
        rw [eb,hd]
    | true =>
      refine jAP ⟨_,rfl,jA5 T.aT.m fun ea H2 sm _ gx=>q2 g.1 kn ?_ ea H2 sm gx⟩
      show jBR am ws=some g.1
      unfold jBR
      rw [jEi eg (fun j b hj e=>kb j b hj e) (by rw [eb,hd])]
      rfl
  · obtain ⟨rfl,kb,v2,v3,rfl⟩:=z
    have nb:jBR am ws=none:=by
      unfold jBR
      rw [jJq fun j g e=>kb j g (by rw [lt];exact (List.getElem?_eq_some_iff.mp e).1) e]
      rfl
    refine ⟨_,rfl,p,rfl,⟨_,SqL.of hp⟩,jCm (K:=K) (a:=p) (xs:=ts) (fun i σ H2=>(∀ b u,b≠m→H' b=some u→H2 b=some u)∧H2 m=some (.dK (dI (jBz (-1) am (ws.take i))))∧∃ v2 v3,σ=[some (.ref x),some (.ref p),v2,v3]) ⟨fun b u _ e=>e,hm,_,_,rfl⟩ (fun i σ H2 _ z=>SqL.of (z.1 _ _ npm hp)) (fun i y σ H2 hy z=>?_) (fun σ H2 z=>?_)⟩
    · obtain ⟨kp,hm2,v2,v3,rfl⟩:=z
      obtain ⟨g,eg⟩:∃ g,ws[i]?=some g:=⟨_,List.getElem?_eq_getElem (by rw [← lt];exact (List.getElem?_eq_some_iff.mp hy).1)⟩
      obtain ⟨t,rfl,ht⟩:=gt i y g hy eg
      obtain ⟨vr,er⟩:=jC7 kn eg
      have ek2:(jBz (-1) am (ws.take i)).map (·.1)=rs.map (·.1):=by rw [jCF,ek]
      obtain ⟨va,ea⟩:=jE4 ek2 er
      have tk:ws.take (i + 1)=ws.take i ++ [g]:=by rw [List.take_add_one,eg];rfl
      refine ⟨t,[.str g.1,.int g.2],rfl,SqT.of (kp _ _ (jAn ht hm (by intro z;cases z)) ht),rfl,.str g.1,[.int g.2],rfl,.int g.2,[],rfl,rfl,?_⟩
      have ln:(dI (jBz (-1) am (ws.take i))).length < sizeLine:=by
        unfold dI
        have:=congrArg List.length (jCF (-1) (ws.take i) am)
        rw [List.length_map,List.length_map] at this
        rw [List.length_map,this]
        exact jAX la
      refine ⟨_,rfl,x,cQ,dx,_,_,rfl,kp _ _ nxm hx,T.ah,T.aE,rfl,_,rfl,m,_,rfl,jEq hm2 ea,_,rfl,_,_,rfl,rfl,_,jCH.k (k:=Sum.inr g.1) hm2 ln,?_⟩
      refine ⟨fun b u nb e=>by rw [jAj nb];exact kp b u nb e,?_,_,_,rfl⟩
      rw [jAc,jNN (jCY ea),tk,jHO,ea,Option.getD_some]
      rw [show va + -1 * g.2=va - g.2 from by omega]
    · obtain ⟨kp,hm2,v2,v3,rfl⟩:=z
      rw [List.take_of_length_le (by omega)] at hm2
      exact q3 kn nb H2 kp ⟨⟨dx,kp _ _ nxm hx⟩,kp _ _ ne hr',hm2,ne⟩
def jNO (C cU cT:Addr):Sp:=fun vs H Q E=>∃ x r m rs am n k,vs=[.ref x,.str n,.int k]∧jB0 C H x r m rs am∧am.map (·.1)=rs.map (·.1)∧am.length≤1000 ∧
  (∀ n',jBq rs [(n,k)]=some n'→jG8 cU n' H E)∧(∀ n',jBq rs [(n,k)]=none→jBN rs am [(n,k)]=some n'→jG8 cT n' H E) ∧
  (jBq rs [(n,k)]=none→jBN rs am [(n,k)]=none→∀ H',(∀ b u,b≠m→H b=some u→H' b=some u)→jB0 C H' x r m rs (jBz 1 am [(n,k)])→Q .non H')
theorem jB0.same {C:Addr} {H H':Hp} {x r m:Addr} {rs am:List (Str×Int)} (h:jB0 C H x r m rs am) (k:jAo H H'):jB0 C H' x r m rs am:=let ⟨⟨dx,e1⟩,e2,e3,n⟩:=h;⟨⟨dx,k _ _ e1⟩,k _ _ e2,k _ _ e3,n⟩
theorem jLi:jAl ["self","name","many"] ["self","name","many"] (jAh jFt):=scM
include T in
theorem jLj (F:Fun K "put" "Stock.put" jFt fa fd) (Dar:MtE P w K mg base 5 "put_all" cQ ["self","gifts"] (jG_ cQ cV cG 1 jBN)) :
    jAq P w K mg base (CXe P w) 6 fa fd ["self","name","many"] (jNO cQ cV cG):=by
  refine F.okE jLi (fun vs H Q E h=>?_) (fun cdv A outer s H vs Q E hr h=>?_)
  · obtain ⟨x,r,m,rs,am,n,k,rfl,_⟩:=h
    rfl
  obtain ⟨x,r,m,rs,am,n,k,rfl,S,ek,la,q1,q2,q3⟩:=h
  have z1:1≤sizeLine:=small (by decide)
  have z2:2≤sizeLine:=small (by decide)
  obtain ⟨⟨dx,hx⟩,hr',hm,ne⟩:=id S
  refine ⟨_,(jAe (jAJ (jAR 5 jAw hr.m (pv 0) (jAa (jAS (jAa (jAM (jAa (pv 1) (jAa (pv 2) jAd))) jAd)) jAd)))),?_⟩
  refine ⟨_,rfl,x,_,dx,_,_,_,rfl,hx,rfl,T.ah,Dar,_,rfl,_,rfl,z2,fun t nt=>⟨z1,fun p np=>?_⟩⟩
  have s1:=(jAk nt (.tup [.str n,.int k])).trans (jAk np (.lst [.ref t]))
  have ht:=jAk np (.lst [.ref t]) _ _ (jAc (H:=H) (a:=t) (o:=.tup [.str n,.int k]))
  have hp:=jAc (H:=upd H t (.tup [.str n,.int k])) (a:=p) (o:=.lst [.ref t])
  have npm:p≠m:=fun e=>by
    have:=jAk nt (.tup [.str n,.int k]) _ _ hm
    rw [← e,np] at this
    cases this
  refine ⟨x,r,m,p,rs,am,[(n,k)],rfl,S.same s1,ek,la,npm,⟨[.ref t],hp,rfl,fun i y g e1 e2=>?_⟩,fun n' h ea H' sm gx=>q1 n' h ea H' (s1.trans sm) gx,fun n' h h2 ea H' sm gx=>q2 n' h h2 ea H' (s1.trans sm) gx,fun h1 h2 H' kp S'=>q3 h1 h2 H' (fun b u nb e=>kp b u nb (s1 _ _ e)) S'⟩
  match i,e1,e2 with
  | 0,e1,e2 =>
    obtain rfl:V.ref t=y:=Option.some.inj e1
    obtain rfl:(n,k)=g:=Option.some.inj e2
    exact ⟨t,rfl,ht⟩
end
end My
namespace My
open PySem L2
open Blk (sg sg_inj sg_app)
section
variable {P:Program} {w:World} {K:PySem.W.Frag} {mg:Str→Option Value} {base:Heap} {fa yQ yZ yX yY yV yJ yW yU yK yG cQ cZ cV cK cG vQ vZ vX vY:Addr} {fd:FuncData} (T:Txt K mg yQ yZ yX yY yV yJ yW yU yK yG cQ cZ cV cK cG vQ vZ vX vY)
theorem jJr:jAl ["self","found"] ["self","found"] (jAh jDZ):=scM
include T in
theorem jJs (F:Fun K "__init__" "NotNow.__init__" jDZ fa fd)  :
    jAq P w K mg base CX0 1 fa fd ["self","found"] (jBl cK "found"):=by
  refine F.ok jJr (fun vs H Q E h=>?_) (fun cdv A outer s H vs Q E hr h=>?_)
  · obtain ⟨x,y,rfl,_⟩:=h
    rfl
  obtain ⟨x,y,rfl,hx,q⟩:=h
  refine ⟨_,(jAb (jAJ (jDl T.aF rfl T.aG (jAa (pv 0) (jAa (pv 1) jAd)))) (jAe (jEo (pv 0) (pv 1) rfl))),?_⟩
  refine ⟨_,rfl,_,rfl,x,_,none,[y],rfl,(by simp),hx,T.ag.m,?_⟩
  refine ⟨_,rfl,_,rfl,.inl ⟨x,_,rfl,hx,T.ag.i.c,T.ag.n _ (.head _),fun dx nd ne=>?_⟩⟩
  exact q _ (jDF nd) (jFK ne)
inductive S3 where
  | rd | jm | aw (b:Bool)
  deriving DecidableEq
def wd:S3→Str
  | .rd=>Str.ofString "ready"
  | .jm=>Str.ofString "jammed"
  | .aw _=>Str.ofString "off"
def jCR:S3→List (Str×V)
  | .rd=>[("word",.str (Str.ofString "ready"))]
  | .jm=>[("word",.str (Str.ofString "jammed"))]
  | .aw b=>[("word",.str (Str.ofString "off")),("jammed",.bl b)]
def clOf (cR cJ cA:Addr):S3→Addr
  | .rd=>cR
  | .jm=>cJ
  | .aw _=>cA
def jA7:Nat→S3→Option S3
  | 0,.rd=>some .jm
  | 1,.jm=>some .rd
  | 2,.rd=>some (.aw false)
  | 2,.jm=>some (.aw true)
  | 3,.aw b=>some (if b=true then .jm else .rd)
  | _,_=>none
def jEb (cR cJ cA:Addr) (H:Hp) (a:Addr) (s:S3):Prop:=∃ dx,H a=some (.ins (clOf cR cJ cA s) dx (jCR s))
theorem jEb.same {cR cJ cA:Addr} {H H':Hp} {a:Addr} {s:S3} (h:jEb cR cJ cA H a s) (k:jAo H H'):jEb cR cJ cA H' a s:=let ⟨dx,e⟩:=h;⟨dx,k _ _ e⟩
theorem jCA {H:Hp} {x dx:Addr} {o o1 o2:HO} (nx:H x=none) (nd:H dx=none):jAo H (upd (upd (upd H dx o) x o1) x o2):=by
  rw [jBE]
  exact jCx nx (jAk nd _) _
def OutS (cR cJ cA cN:Addr) (d:Nat) (s:S3) (H:Hp) (Q:VK) (E:XK):Prop:=(∀ s',jA7 d s=some s'→∀ p H',jAo H H'→H p=none→jEb cR cJ cA H' p s'→Q (.ref p) H') ∧
  (jA7 d s=none→∀ ea H',jAo H H'→XG H' ea cN [("found",.str (wd s))]→E (.ref cN) (some ea) H')
def jBm (cR cJ cA cN:Addr) (S:S3→Prop) (d:Nat):Sp:=fun vs H Q E=>∃ a s,vs=[.ref a]∧S s∧jEb cR cJ cA H a s∧OutS cR cJ cA cN d s H Q E
def jE5 (cR cJ cA:Addr):Sp:=fun vs H Q _=>∃ a s,vs=[.ref a]∧jEb cR cJ cA H a s∧Q (.str (wd s)) H
def jCa (K:PySem.W.Frag):Sp:=fun vs H Q _=>∃ x dx C y,vs=[.ref x,y]∧H x=some (.ins C dx [])∧Cls K C∧jAu K C "word"∧Q .non (upd H x (.ins C dx [("word",y)]))
def jEL (C:Addr) (fs:List (Str×V)):Sp:=fun vs H Q _=>∃ x dx,vs=[.ref x]∧H x=some (.ins C dx [])∧Q .non (upd H x (.ins C dx fs))
def jEM (C:Addr):Sp:=fun vs H Q _=>∃ x dx b,vs=[.ref x,.bl b]∧H x=some (.ins C dx [])∧Q .non (upd H x (.ins C dx (jCR (.aw b))))
theorem jKu:jAl ["self","word"] ["self","word"] (jAh jEC):=scM
include T in
theorem jKv (F:Fun K "__init__" "State.__init__" jEC fa fd)  :
    jAq P w K mg base CX0 1 fa fd ["self","word"] (jCa K):=by
  refine F.ok jKu (fun vs H Q E h=>?_) (fun cdv A outer s H vs Q E hr h=>?_)
  · obtain ⟨x,dx,C,y,rfl,_⟩:=h
    rfl
  obtain ⟨x,dx,C,y,rfl,hx,cl,n,q⟩:=h
  refine ⟨_,(jAe (jAI (pv 0) (pv 1) rfl)),?_⟩
  exact ⟨_,rfl,_,rfl,x,C,dx,_,rfl,hx,cl,n,(by decide),q⟩
theorem jIw:jAl ["self"] ["self"] (jAh jDr):=scM
include T in
theorem jIx (F:Fun K "called" "State.called" jDr fa fd)  :
    jAq P w K mg base CX0 1 fa fd ["self"] (jE5 yJ yW yU):=by
  refine F.ok jIw (fun vs H Q E h=>?_) (fun cdv A outer s H vs Q E hr h=>?_)
  · obtain ⟨a,s,rfl,_⟩:=h
    rfl
  obtain ⟨a,s,rfl,⟨dx,hx⟩,q⟩:=h
  refine ⟨_,(jAe (jAm (jAp (pv 0) rfl))),?_⟩
  cases s with
  | rd=>exact ⟨_,rfl,a,_,dx,_,_,rfl,hx,T.ay,T.aO,rfl,q⟩
  | jm=>exact ⟨_,rfl,a,_,dx,_,_,rfl,hx,T.az,T.aP,rfl,q⟩
  | aw b=>exact ⟨_,rfl,a,_,dx,_,_,rfl,hx,T.aj,T.aK,rfl,q⟩
theorem jLk:jAl ["self"] ["self"] (jAh jFn):=scM
include T in
theorem jLl (F:Fun K "jam" "State.jam" jFn fa fd) (Daa:jCJ P w K mg base 1 "NotNow" cK ["self","found"] (jBl cK "found")) :
    jAq P w K mg base (CXe P w) 3 fa fd ["self"] (jBm yJ yW yU cK (fun s=>jA7 0 s=none) 0):=by
  refine F.okE jLk (fun vs H Q E h=>?_) (fun cdv A outer s H vs Q E hr h=>?_)
  · obtain ⟨a,s,rfl,_⟩:=h
    rfl
  obtain ⟨a,s,rfl,hs,⟨dx,hx⟩,_,q⟩:=h
  refine ⟨_,(jAe (jBt jBk rfl (jBj Daa hr.m rfl (jAa (jAp (pv 0) rfl) jAd)))),?_⟩
  cases s with
  | rd=>cases hs
  | jm=>exact ⟨_,rfl,a,_,dx,_,_,rfl,hx,T.az,T.aP,rfl,jA5 T.ag.m fun ea H' sm _ g=>q hs ea H' sm g⟩
  | aw b=>exact ⟨_,rfl,a,_,dx,_,_,rfl,hx,T.aj,T.aK,rfl,jA5 T.ag.m fun ea H' sm _ g=>q hs ea H' sm g⟩
theorem jKw:jAl ["self"] ["self"] (jAh jED):=scM
include T in
theorem jKx (F:Fun K "mend" "State.mend" jED fa fd) (Daa:jCJ P w K mg base 1 "NotNow" cK ["self","found"] (jBl cK "found")) :
    jAq P w K mg base (CXe P w) 3 fa fd ["self"] (jBm yJ yW yU cK (fun s=>jA7 1 s=none) 1):=by
  refine F.okE jKw (fun vs H Q E h=>?_) (fun cdv A outer s H vs Q E hr h=>?_)
  · obtain ⟨a,s,rfl,_⟩:=h
    rfl
  obtain ⟨a,s,rfl,hs,⟨dx,hx⟩,_,q⟩:=h
  refine ⟨_,(jAe (jBt jBk rfl (jBj Daa hr.m rfl (jAa (jAp (pv 0) rfl) jAd)))),?_⟩
  cases s with
  | jm=>cases hs
  | rd=>exact ⟨_,rfl,a,_,dx,_,_,rfl,hx,T.ay,T.aO,rfl,jA5 T.ag.m fun ea H' sm _ g=>q hs ea H' sm g⟩
  | aw b=>exact ⟨_,rfl,a,_,dx,_,_,rfl,hx,T.aj,T.aK,rfl,jA5 T.ag.m fun ea H' sm _ g=>q hs ea H' sm g⟩
theorem jJt:jAl ["self"] ["self"] (jAh jD3):=scM
include T in
theorem jJu (F:Fun K "leave" "State.leave" jD3 fa fd) (Daa:jCJ P w K mg base 1 "NotNow" cK ["self","found"] (jBl cK "found")) :
    jAq P w K mg base (CXe P w) 3 fa fd ["self"] (jBm yJ yW yU cK (fun s=>jA7 2 s=none) 2):=by
  refine F.okE jJt (fun vs H Q E h=>?_) (fun cdv A outer s H vs Q E hr h=>?_)
  · obtain ⟨a,s,rfl,_⟩:=h
    rfl
  obtain ⟨a,s,rfl,hs,⟨dx,hx⟩,_,q⟩:=h
  refine ⟨_,(jAe (jBt jBk rfl (jBj Daa hr.m rfl (jAa (jAp (pv 0) rfl) jAd)))),?_⟩
  cases s with
  | jm=>cases hs
  | rd=>cases hs
  | aw b=>exact ⟨_,rfl,a,_,dx,_,_,rfl,hx,T.aj,T.aK,rfl,jA5 T.ag.m fun ea H' sm _ g=>q hs ea H' sm g⟩
theorem jKy:jAl ["self"] ["self"] (jAh jEE):=scM
include T in
theorem jKz (F:Fun K "come" "State.come" jEE fa fd) (Daa:jCJ P w K mg base 1 "NotNow" cK ["self","found"] (jBl cK "found")) :
    jAq P w K mg base (CXe P w) 3 fa fd ["self"] (jBm yJ yW yU cK (fun s=>jA7 3 s=none) 3):=by
  refine F.okE jKy (fun vs H Q E h=>?_) (fun cdv A outer s H vs Q E hr h=>?_)
  · obtain ⟨a,s,rfl,_⟩:=h
    rfl
  obtain ⟨a,s,rfl,hs,⟨dx,hx⟩,_,q⟩:=h
  refine ⟨_,(jAe (jBt jBk rfl (jBj Daa hr.m rfl (jAa (jAp (pv 0) rfl) jAd)))),?_⟩
  cases s with
  | rd=>exact ⟨_,rfl,a,_,dx,_,_,rfl,hx,T.ay,T.aO,rfl,jA5 T.ag.m fun ea H' sm _ g=>q hs ea H' sm g⟩
  | jm=>exact ⟨_,rfl,a,_,dx,_,_,rfl,hx,T.az,T.aP,rfl,jA5 T.ag.m fun ea H' sm _ g=>q hs ea H' sm g⟩
  | aw b=>cases hs
theorem jKA:jAl ["self"] ["self"] (jAh jEF):=scM
include T in
theorem jKB (F:Fun K "__init__" "Ready.__init__" jEF fa fd) (Daj:InD P w K mg base 1 "State" yV ["self","word"] (jCa K)) :
    jAq P w K mg base CX0 2 fa fd ["self"] (jEL yJ (jCR .rd)):=by
  refine F.ok jKA (fun vs H Q E h=>?_) (fun cdv A outer s H vs Q E hr h=>?_)
  · obtain ⟨x,dx,rfl,_⟩:=h
    rfl
  obtain ⟨x,dx,rfl,hx,q⟩:=h
  refine ⟨_,(jAe (jAJ (jDm Daj hr.m rfl (jAa (pv 0) (jAa (jCy T.aZ rfl) jAd))))),?_⟩
  exact ⟨_,rfl,x,dx,_,_,rfl,hx,T.ay,T.aO,q⟩
theorem jJv:jAl ["self"] ["self"] (jAh jD5):=scM
include T in
theorem jJw (F:Fun K "__init__" "Jammed.__init__" jD5 fa fd) (Daj:InD P w K mg base 1 "State" yV ["self","word"] (jCa K)) :
    jAq P w K mg base CX0 2 fa fd ["self"] (jEL yW (jCR .jm)):=by
  refine F.ok jJv (fun vs H Q E h=>?_) (fun cdv A outer s H vs Q E hr h=>?_)
  · obtain ⟨x,dx,rfl,_⟩:=h
    rfl
  obtain ⟨x,dx,rfl,hx,q⟩:=h
  refine ⟨_,(jAe (jAJ (jDm Daj hr.m rfl (jAa (pv 0) (jAa (jCy T.bI rfl) jAd))))),?_⟩
  exact ⟨_,rfl,x,dx,_,_,rfl,hx,T.az,T.aP,q⟩
theorem jLm:jAl ["self","jammed"] ["self","jammed"] (jAh jFp):=scM
include T in
theorem jLn (F:Fun K "__init__" "Away.__init__" jFp fa fd) (Daj:InD P w K mg base 1 "State" yV ["self","word"] (jCa K)) :
    jAq P w K mg base CX0 2 fa fd ["self","jammed"] (jEM yU):=by
  refine F.ok jLm (fun vs H Q E h=>?_) (fun cdv A outer s H vs Q E hr h=>?_)
  · obtain ⟨x,dx,b,rfl,_⟩:=h
    rfl
  obtain ⟨x,dx,b,rfl,hx,q⟩:=h
  refine ⟨_,(jAb (jAJ (jDm Daj hr.m rfl (jAa (pv 0) (jAa (jCy T.bJ rfl) jAd)))) (jAe (jAI (pv 0) (pv 1) rfl))),?_⟩
  refine ⟨_,rfl,x,dx,_,_,rfl,hx,T.aj,T.aK,?_⟩
  refine ⟨_,rfl,_,rfl,x,_,dx,_,rfl,jAc,T.aj,T.bx,(by decide),?_⟩
  rw [jBE]
  exact q
theorem jLo:jAl ["self"] ["self"] (jAh jFo):=scM
include T in
theorem jLp (F:Fun K "jam" "Ready.jam" jFo fa fd) (Das:MkD P w K mg base 2 "Jammed" yW ["self"] (jEL yW (jCR .jm))) :
    jAq P w K mg base CX0 4 fa fd ["self"] (jBm yJ yW yU cK (fun s=>s=.rd) 0):=by
  refine F.ok jLo (fun vs H Q E h=>?_) (fun cdv A outer s H vs Q E hr h=>?_)
  · obtain ⟨a,s,rfl,_⟩:=h
    rfl
  obtain ⟨a,s,rfl,rfl,_,q,_⟩:=h
  refine ⟨_,(jAe (jAm (jCq Das hr.m rfl))),?_⟩
  exact fun x dx nx nd ne=>⟨x,dx,rfl,jAc,rfl,q _ rfl x _ (jCA nx nd) nx ⟨dx,jAc⟩⟩
theorem jJx:jAl ["self"] ["self"] (jAh jD4):=scM
include T in
theorem jJy (F:Fun K "leave" "Ready.leave" jD4 fa fd) (Dat:MkD P w K mg base 2 "Away" yU ["self","jammed"] (jEM yU)) :
    jAq P w K mg base CX0 4 fa fd ["self"] (jBm yJ yW yU cK (fun s=>s=.rd) 2):=by
  refine F.ok jJx (fun vs H Q E h=>?_) (fun cdv A outer s H vs Q E hr h=>?_)
  · obtain ⟨a,s,rfl,_⟩:=h
    rfl
  obtain ⟨a,s,rfl,rfl,_,q,_⟩:=h
  refine ⟨_,(jAe (jAm (jCp Dat hr.m rfl (jAa jBC jAd)))),?_⟩
  exact fun x dx nx nd ne=>⟨x,dx,_,rfl,jAc,rfl,q _ rfl x _ (jCA nx nd) nx ⟨dx,jAc⟩⟩
theorem jJz:jAl ["self"] ["self"] (jAh jD6):=scM
include T in
theorem jJA (F:Fun K "mend" "Jammed.mend" jD6 fa fd) (Dak:MkD P w K mg base 2 "Ready" yJ ["self"] (jEL yJ (jCR .rd))) :
    jAq P w K mg base CX0 4 fa fd ["self"] (jBm yJ yW yU cK (fun s=>s=.jm) 1):=by
  refine F.ok jJz (fun vs H Q E h=>?_) (fun cdv A outer s H vs Q E hr h=>?_)
  · obtain ⟨a,s,rfl,_⟩:=h
    rfl
  obtain ⟨a,s,rfl,rfl,_,q,_⟩:=h
  refine ⟨_,(jAe (jAm (jCq Dak hr.m rfl))),?_⟩
  exact fun x dx nx nd ne=>⟨x,dx,rfl,jAc,rfl,q _ rfl x _ (jCA nx nd) nx ⟨dx,jAc⟩⟩
theorem jIy:jAl ["self"] ["self"] (jAh jDs):=scM
include T in
theorem jIz (F:Fun K "leave" "Jammed.leave" jDs fa fd) (Dat:MkD P w K mg base 2 "Away" yU ["self","jammed"] (jEM yU)) :
    jAq P w K mg base CX0 4 fa fd ["self"] (jBm yJ yW yU cK (fun s=>s=.jm) 2):=by
  refine F.ok jIy (fun vs H Q E h=>?_) (fun cdv A outer s H vs Q E hr h=>?_)
  · obtain ⟨a,s,rfl,_⟩:=h
    rfl
  obtain ⟨a,s,rfl,rfl,_,q,_⟩:=h
  refine ⟨_,(jAe (jAm (jCp Dat hr.m rfl (jAa jBC jAd)))),?_⟩
  exact fun x dx nx nd ne=>⟨x,dx,_,rfl,jAc,rfl,q _ rfl x _ (jCA nx nd) nx ⟨dx,jAc⟩⟩
theorem jLq:jAl ["self"] ["self"] (jAh jFq):=scM
include T in
theorem jLr (F:Fun K "come" "Away.come" jFq fa fd) (Das:MkD P w K mg base 2 "Jammed" yW ["self"] (jEL yW (jCR .jm))) (Dak:MkD P w K mg base 2 "Ready" yJ ["self"] (jEL yJ (jCR .rd))) :
    jAq P w K mg base CX0 4 fa fd ["self"] (jBm yJ yW yU cK (fun s=>∃ b,s=.aw b) 3):=by
  refine F.ok jLq (fun vs H Q E h=>?_) (fun cdv A outer s H vs Q E hr h=>?_)
  · obtain ⟨a,s,rfl,_⟩:=h
    rfl
  obtain ⟨a,s,rfl,⟨b,rfl⟩,⟨dx,hx⟩,q,_⟩:=h
  refine ⟨_,(jAe (jAm (jCk (jAN (jAp (pv 0) rfl) (fun _=>rfl)) (jCq Das hr.m rfl) (jCq Dak hr.m rfl)))),?_⟩
  refine ⟨_,rfl,a,_,dx,_,_,rfl,hx,T.aj,T.bx,rfl,b,rfl,?_⟩
  cases b with
  | true=>exact jAP fun x dx nx nd ne=>⟨x,dx,rfl,jAc,rfl,q _ rfl x _ (jCA nx nd) nx ⟨dx,jAc⟩⟩
  | false=>exact jAK fun x dx nx nd ne=>⟨x,dx,rfl,jAc,rfl,q _ rfl x _ (jCA nx nd) nx ⟨dx,jAc⟩⟩
end
end My
namespace My
open PySem L2
open Blk (sg sg_inj sg_app)
section
variable {P:Program} {w:World} {K:PySem.W.Frag} {mg:Str→Option Value} {base:Heap} {fa yQ yZ yX yY yV yJ yW yU yK yG cQ cZ cV cK cG vQ vZ vX vY:Addr} {fd:FuncData} (T:Txt K mg yQ yZ yX yY yV yJ yW yU yK yG cQ cZ cV cK cG vQ vZ vX vY)
abbrev blW:Str:=Str.ofString "black"
abbrev coW:Str:=Str.ofString "colour"
theorem blco:blW≠coW:=by decide +kernel
def jAQ (b c:Int):List (Str×Int):=[(blW,b),(coW,c)]
structure PD where
  dx:Addr
  cn:Addr
  rm:Addr
  tr:Addr
  tr1:Addr
  tr2:Addr
  ik:Addr
  ik1:Addr
  ik2:Addr
  st:Addr
  ins:Addr
  name:Str
  path:Int
  rs:List (Str×Int)
  am:List (Str×Int)
  rb:Int
  rc:Int
  b:Int
  c:Int
  tags:List V
  S:S3
def PD.fs (d:PD):List (Str×V):=[("name",.str d.name),("can",.ref d.cn),("path",.int d.path),("rooms",.ref d.rm),("trays",.ref d.tr),("inks",.ref d.ik),("state",.ref d.st),("inside",.ref d.ins)]
structure jAD (cP cS cR cJ cA:Addr) (H:Hp) (x:Addr) (d:PD):Prop where
  o:H x=some (.ins cP d.dx d.fs)
  T:jB0 cS H d.tr d.tr1 d.tr2 d.rs d.am
  I:jB0 cS H d.ik d.ik1 d.ik2 (jAQ d.rb d.rc) (jAQ d.b d.c)
  s:jEb cR cJ cA H d.st d.S
  n:H d.ins=some (.lst d.tags)
  ka:d.am.map (·.1)=d.rs.map (·.1)
  la:d.am.length≤900
  lt:d.tags.length≤900
  n22:d.tr2≠d.ik2
  n21:d.tr2≠d.ik1
  n12:d.tr1≠d.ik2
theorem jAD.same {cP cS cR cJ cA:Addr} {H H':Hp} {x:Addr} {d:PD} (h:jAD cP cS cR cJ cA H x d) (k:jAo H H'):jAD cP cS cR cJ cA H' x d :=
  { h with o:=k _ _ h.o,T:=h.T.same k,I:=h.I.same k,s:=h.s.same k,n:=k _ _ h.n }
def jBM (c:Addr) (f:Str) (v:V) (H:Hp) (E:XK):Prop:=∀ ea H',jAo H H'→XG H' ea c [(f,v)]→E (.ref c) (some ea) H'
theorem jBM.after {c:Addr} {f:Str} {v:V} {H H':Hp} {E:XK} (h:jBM c f v H E) (k:jAo H H'):jBM c f v H' E:=fun ea H2 s g=>h ea H2 (k.trans s) g
def jB1 (cP cS cR cJ cA:Addr):Sp:=fun vs H Q _=>∃ x d,vs=[.ref x]∧jAD cP cS cR cJ cA H x d∧Q (.str (wd d.S)) H
theorem jHF:jAl ["self"] ["self"] (jAh jCO):=scM
include T in
theorem jHG (F:Fun K "stands" "Printer.stands" jCO fa fd) (DaL:MtE P w K mg base 1 "called" yJ ["self"] (jE5 yJ yW yU)) (DaM:MtE P w K mg base 1 "called" yW ["self"] (jE5 yJ yW yU)) (DaN:MtE P w K mg base 1 "called" yU ["self"] (jE5 yJ yW yU)) :
    jAq P w K mg base CX0 2 fa fd ["self"] (jB1 cZ cQ yJ yW yU):=by
  refine F.ok jHF (fun vs H Q E h=>?_) (fun cdv A outer s H vs Q E hr h=>?_)
  · obtain ⟨x,d,rfl,_⟩:=h
    rfl
  obtain ⟨x,d,rfl,P,q⟩:=h
  refine ⟨_,(jAe (jAm (jAt 1 jBa hr.m (jAp (pv 0) rfl)))),?_⟩
  refine ⟨_,rfl,x,cZ,d.dx,_,_,rfl,P.o,T.ac,T.ax,rfl,?_⟩
  obtain ⟨ds,hs⟩:=id P.s
  have hs':=P.s
  cases eS:d.S with
  | rd =>
    rw [eS] at hs hs' q
    exact ⟨d.st,_,ds,_,_,_,rfl,hs,rfl,T.ay,DaL,d.st,.rd,rfl,hs',q⟩
  | jm =>
    rw [eS] at hs hs' q
    exact ⟨d.st,_,ds,_,_,_,rfl,hs,rfl,T.az,DaM,d.st,.jm,rfl,hs',q⟩
  | aw b =>
    rw [eS] at hs hs' q
    exact ⟨d.st,_,ds,_,_,_,rfl,hs,rfl,T.aj,DaN,d.st,.aw b,rfl,hs',q⟩
def jEN (cP cS cR cJ cA:Addr):Sp:=fun vs H Q _=>∃ x d n v,vs=[.ref x,.str n]∧jAD cP cS cR cJ cA H x d∧d.am.lookup n=some v∧Q (.int v) H
theorem jLs {rs am:List (Str×Int)} {n:Str} {v:Int} (e:am.map (·.1)=rs.map (·.1)) (h:am.lookup n=some v):n∈rs.map (·.1):=e ▸ jCY h
theorem jFN:jAl ["self","kind"] ["self","kind"] (jAh jB7):=scM
include T in
theorem jFO (F:Fun K "paper_left" "Printer.paper_left" jB7 fa fd) (DaO:MtE P w K mg base 4 "held" cQ ["self","name"] (jMD cQ cV)) :
    jAq P w K mg base (CXe P w) 5 fa fd ["self","kind"] (jEN cZ cQ yJ yW yU):=by
  refine F.okE jFN (fun vs H Q E h=>?_) (fun cdv A outer s H vs Q E hr h=>?_)
  · obtain ⟨x,d,n,v,rfl,_⟩:=h
    rfl
  obtain ⟨x,d,n,v,rfl,P,l,q⟩:=h
  refine ⟨_,(jAe (jAm (jAR 4 jAw hr.m (jAp (pv 0) rfl) (jAa (pv 1) jAd)))),?_⟩
  refine ⟨_,rfl,x,cZ,d.dx,_,_,rfl,P.o,T.ac,T.aR,rfl,?_⟩
  obtain ⟨⟨dt,ht⟩,_⟩:=id P.T
  have mem:=jLs P.ka l
  exact ⟨d.tr,_,dt,_,_,_,rfl,ht,rfl,T.ah,DaO,_,rfl,d.tr,d.rs,d.am,n,rfl,P.T.at,fun v' _ l'=>by rw [l] at l';obtain rfl:=Option.some.inj l';exact q,fun _=>⟨v,l⟩,fun z=>absurd mem z⟩
theorem jIA {b c:Int}:(jAQ b c).lookup blW=some b:=by
  unfold jAQ
  rw [List.lookup_cons,beq_self_eq_true]
theorem jIB {b c:Int}:(jAQ b c).lookup coW=some c:=by
  unfold jAQ
  rw [List.lookup_cons,beq_eq_false_iff_ne.mpr (Ne.symm blco),List.lookup_cons,beq_self_eq_true]
def jC8 (cP cS cR cJ cA:Addr):Sp:=fun vs H Q _=>∃ x d,vs=[.ref x]∧jAD cP cS cR cJ cA H x d∧∀ l H',jAo H H'→H l=none→H' l=some (.lst d.tags)→Q (.ref l) H'
theorem jHH:jAl ["self"] ["self"] (jAh jCP):=scM
include T in
theorem jHI (F:Fun K "within" "Printer.within" jCP fa fd)  :
    jAq P w K mg base CX0 1 fa fd ["self"] (jC8 cZ cQ yJ yW yU):=by
  refine F.ok jHH (fun vs H Q E h=>?_) (fun cdv A outer s H vs Q E hr h=>?_)
  · obtain ⟨x,d,rfl,_⟩:=h
    rfl
  obtain ⟨x,d,rfl,P,q⟩:=h
  refine ⟨_,(jAe (jAm (jBQ jK0 rfl T.aW jMv (jAa (jAp (pv 0) rfl) jAd)))),?_⟩
  refine ⟨_,rfl,x,cZ,d.dx,_,_,rfl,P.o,T.ac,T.ak,rfl,?_⟩
  exact ⟨d.ins,_,rfl,.inl (SqL.of P.n),fun l nl=>q l _ (jAk nl _) nl jAc⟩
def jGu (cN cP cS cR cJ cA:Addr):Sp:=fun vs H Q E=>∃ x d,vs=[.ref x]∧jAD cP cS cR cJ cA H x d∧(d.S=.rd→Q .non H)∧(d.S≠.rd→jBM cN "found" (.str (wd d.S)) H E)
theorem wd_rd {s:S3}:wd s=Str.ofString "ready" ↔ s=.rd:=by
  constructor
  · intro h
    cases s with
    | rd=>rfl
    | jm=>exact absurd h (by decide +kernel)
    | aw b=>exact absurd (show Str.ofString "off"=Str.ofString "ready" from h) (by decide +kernel)
  · rintro rfl
    rfl
theorem jEO:jAl ["self"] ["self"] (jAh jBL):=scM
include T in
theorem jEP (F:Fun K "must_be_ready" "Printer.must_be_ready" jBL fa fd) (Daa:jCJ P w K mg base 1 "NotNow" cK ["self","found"] (jBl cK "found")) (Dab:MtE P w K mg base 2 "stands" cZ ["self"] (jB1 cZ cQ yJ yW yU)) :
    jAq P w K mg base (CXe P w) 3 fa fd ["self"] (jGu cK cZ cQ yJ yW yU):=by
  refine F.okE jEO (fun vs H Q E h=>?_) (fun cdv A outer s H vs Q E hr h=>?_)
  · obtain ⟨x,d,rfl,_⟩:=h
    rfl
  obtain ⟨x,d,rfl,P,q,q2⟩:=h
  refine ⟨_,(jAe (jAC (tcA jCv (jAt 2 jAw hr.m (pv 0)) (jCy T.aZ rfl)) (jAe (jBt jBk rfl (jBj Daa hr.m rfl (jAa (jAt 2 jAw hr.m (pv 0)) jAd)))) jAs)),?_⟩
  refine ⟨_,rfl,x,_,d.dx,_,_,_,rfl,P.o,rfl,T.ac,Dab,x,d,rfl,P,rfl,_,rfl,?_⟩
  by_cases h:d.S=.rd
  · exact jKM (by rw [h];rfl) (q h)
  · refine iteNN (fun z=>h (wd_rd.mp (by injection z))) ?_
    exact ⟨_,rfl,x,_,d.dx,_,_,_,rfl,P.o,rfl,T.ac,Dab,x,d,rfl,P,jA5 T.ag.m fun ea H' sm _ g=>q2 h ea H' sm g⟩
theorem jHP {rs:List (Str×Int)} {n:Str} {k v:Int} (h:rs.lookup n=some v):jBq rs [(n,k)]=none:=by
  unfold jBq
  rw [List.find?_cons,show ((rs.lookup (n,k).1).isNone)=false from by rw [show (n,k).1=n from rfl,h];rfl]
  rfl
theorem jOq {rs am:List (Str×Int)} {n:Str} {k v u:Int} (h:rs.lookup n=some v) (h':am.lookup n=some u):jBN rs am [(n,k)]=if v < u + k then some n else none:=by
  unfold jBN
  rw [List.find?_cons,show (rs.lookup (n,k).1).getD 0=v from by rw [show (n,k).1=n from rfl,h];rfl,show (am.lookup (n,k).1).getD 0=u from by rw [show (n,k).1=n from rfl,h'];rfl]
  by_cases c:v < u + k
  · rw [if_pos c,decide_eq_true (show v < u + (n,k).2 from c)]
    rfl
  · rw [if_neg c,decide_eq_false (show ¬ v < u + (n,k).2 from c)]
    rfl
theorem few_one {am:List (Str×Int)} {n:Str} {k u:Int} (h':am.lookup n=some u):jBR am [(n,k)]=if u < k then some n else none:=by
  unfold jBR
  rw [List.find?_cons,show (am.lookup (n,k).1).getD 0=u from by rw [show (n,k).1=n from rfl,h'];rfl]
  by_cases c:u < k
  · rw [if_pos c,decide_eq_true (show u < (n,k).2 from c)]
    rfl
  · rw [if_neg c,decide_eq_false (show ¬ u < (n,k).2 from c)]
    rfl
theorem jME {am:List (Str×Int)} {n:Str} {s k u:Int} (h:am.lookup n=some u):jBz s am [(n,k)]=jA3 am n (u + s * k):=by
  show jA3 am n ((am.lookup n).getD 0 + s * k)=_
  rw [h]
  rfl
theorem jHQ {a b x y:Int}:jBq (jAQ a b) (jAQ x y)=none:=by
  unfold jBq
  rw [show jAQ x y=[(blW,x),(coW,y)] from rfl,List.find?_cons,show ((jAQ a b).lookup (blW,x).1).isNone=false from by rw [show (blW,x).1=blW from rfl,jIA];rfl]
  show (List.find? _ [(coW,y)]).map _=none
  rw [List.find?_cons,show ((jAQ a b).lookup (coW,y).1).isNone=false from by rw [show (coW,y).1=coW from rfl,jIB];rfl]
  rfl
theorem jOr {rb rc a b x y:Int} (h1:a + x≤rb) (h2:b + y≤rc):jBN (jAQ rb rc) (jAQ a b) (jAQ x y)=none:=by
  unfold jBN
  rw [show jAQ x y=[(blW,x),(coW,y)] from rfl,List.find?_cons,show ((jAQ rb rc).lookup (blW,x).1).getD 0=rb from by rw [show (blW,x).1=blW from rfl,jIA];rfl,show ((jAQ a b).lookup (blW,x).1).getD 0=a from by rw [show (blW,x).1=blW from rfl,jIA];rfl,decide_eq_false (show ¬ rb < a + (blW,x).2 from Int.not_lt.mpr h1)]
  show (List.find? _ [(coW,y)]).map _=none
  rw [List.find?_cons,show ((jAQ rb rc).lookup (coW,y).1).getD 0=rc from by rw [show (coW,y).1=coW from rfl,jIB];rfl,show ((jAQ a b).lookup (coW,y).1).getD 0=b from by rw [show (coW,y).1=coW from rfl,jIB];rfl,decide_eq_false (show ¬ rc < b + (coW,y).2 from Int.not_lt.mpr h2)]
  rfl
theorem ink_few {a b x y:Int} (h1:x≤a) (h2:y≤b):jBR (jAQ a b) (jAQ x y)=none:=by
  unfold jBR
  rw [show jAQ x y=[(blW,x),(coW,y)] from rfl,List.find?_cons,show ((jAQ a b).lookup (blW,x).1).getD 0=a from by rw [show (blW,x).1=blW from rfl,jIA];rfl,decide_eq_false (show ¬ a < (blW,x).2 from Int.not_lt.mpr h1)]
  show (List.find? _ [(coW,y)]).map _=none
  rw [List.find?_cons,show ((jAQ a b).lookup (coW,y).1).getD 0=b from by rw [show (coW,y).1=coW from rfl,jIB];rfl,decide_eq_false (show ¬ b < (coW,y).2 from Int.not_lt.mpr h2)]
  rfl
theorem set_b {a b v:Int}:jA3 (jAQ a b) blW v=jAQ v b:=by
  unfold jA3 jAQ
  rw [List.map_cons,List.map_cons,if_pos rfl,if_neg (Ne.symm blco)]
  rfl
theorem set_c {a b v:Int}:jA3 (jAQ a b) coW v=jAQ a v:=by
  unfold jA3 jAQ
  rw [List.map_cons,List.map_cons,if_neg blco,if_pos rfl]
  rfl
theorem jMF {s a b x y:Int}:jBz s (jAQ a b) (jAQ x y)=jAQ (a + s * x) (b + s * y):=by
  show jA3 (jA3 (jAQ a b) blW (((jAQ a b).lookup blW).getD 0 + s * x)) coW (((jA3 (jAQ a b) blW (((jAQ a b).lookup blW).getD 0 + s * x)).lookup coW).getD 0 + s * y)=_
  rw [jIA]
  show jA3 (jA3 (jAQ a b) blW (a + s * x)) coW (((jA3 (jAQ a b) blW (a + s * x)).lookup coW).getD 0 + s * y)=_
  rw [set_b,jIB]
  exact set_c
theorem jAD.trays {cP cS cR cJ cA:Addr} {H H':Hp} {x:Addr} {d:PD} {am':List (Str×Int)} (h:jAD cP cS cR cJ cA H x d) (kp:∀ b o,b≠d.tr2→H b=some o→H' b=some o) (S:jB0 cS H' d.tr d.tr1 d.tr2 d.rs am') (k:am'.map (·.1)=d.rs.map (·.1)) (l:am'.length≤900):jAD cP cS cR cJ cA H' x { d with am:=am' }:=by
  obtain ⟨⟨di,hi⟩,h1,h2,n⟩:=id h.I
  have hm:=h.T.2.2.1
  have off:∀ b o,H b=some o→(∀ kv,o≠.dK kv)→H' b=some o:=fun b o e n=>kp b o (fun z=>by rw [z,hm] at e;injection e with e;exact n _ e.symm) e
  exact { o:=off _ _ h.o (by intro kv z;cases z),T:=S,I:=⟨⟨di,off _ _ hi (by intro kv z;cases z)⟩,kp _ _ (Ne.symm h.n21) h1,kp _ _ (Ne.symm h.n22) h2,n⟩,s:=let ⟨ds,e⟩:=h.s;⟨ds,off _ _ e (by intro kv z;cases z)⟩,n:=off _ _ h.n (by intro kv z;cases z),ka:=k,la:=l,lt:=h.lt,n22:=h.n22,n21:=h.n21,n12:=h.n12 }
theorem jAD.inks {cP cS cR cJ cA:Addr} {H H':Hp} {x:Addr} {d:PD} {b' c':Int} (h:jAD cP cS cR cJ cA H x d) (kp:∀ b o,b≠d.ik2→H b=some o→H' b=some o) (S:jB0 cS H' d.ik d.ik1 d.ik2 (jAQ d.rb d.rc) (jAQ b' c')):jAD cP cS cR cJ cA H' x { d with b:=b',c:=c' }:=by
  obtain ⟨⟨di,hi⟩,h1,h2,n⟩:=id h.T
  have hm:=h.I.2.2.1
  have off:∀ b o,H b=some o→(∀ kv,o≠.dK kv)→H' b=some o:=fun b o e n=>kp b o (fun z=>by rw [z,hm] at e;injection e with e;exact n _ e.symm) e
  exact { o:=off _ _ h.o (by intro kv z;cases z),T:=⟨⟨di,off _ _ hi (by intro kv z;cases z)⟩,kp _ _ h.n12 h1,kp _ _ h.n22 h2,n⟩,I:=S,s:=let ⟨ds,e⟩:=h.s;⟨ds,off _ _ e (by intro kv z;cases z)⟩,n:=off _ _ h.n (by intro kv z;cases z),ka:=h.ka,la:=h.la,lt:=h.lt,n22:=h.n22,n21:=h.n21,n12:=h.n12 }
theorem jAD.inside {cP cS cR cJ cA:Addr} {H H':Hp} {x:Addr} {d:PD} {ts:List V} (h:jAD cP cS cR cJ cA H x d) (kp:∀ b o,b≠d.ins→H b=some o→H' b=some o) (hn:H' d.ins=some (.lst ts)) (l:ts.length≤900):jAD cP cS cR cJ cA H' x { d with tags:=ts }:=by
  have off:∀ b o,H b=some o→(∀ xs,o≠.lst xs)→H' b=some o:=fun b o e n=>kp b o (fun z=>by rw [z,h.n] at e;injection e with e;exact n _ e.symm) e
  obtain ⟨⟨di,hi⟩,h1,h2,n⟩:=id h.T
  obtain ⟨⟨di',hi'⟩,h1',h2',n'⟩:=id h.I
  exact { o:=off _ _ h.o (by intro kv z;cases z),T:=⟨⟨di,off _ _ hi (by intro kv z;cases z)⟩,off _ _ h1 (by intro kv z;cases z),off _ _ h2 (by intro kv z;cases z),n⟩,I:=⟨⟨di',off _ _ hi' (by intro kv z;cases z)⟩,off _ _ h1' (by intro kv z;cases z),off _ _ h2' (by intro kv z;cases z),n'⟩,s:=let ⟨ds,e⟩:=h.s;⟨ds,off _ _ e (by intro kv z;cases z)⟩,n:=hn,ka:=h.ka,la:=h.la,lt:=l,n22:=h.n22,n21:=h.n21,n12:=h.n12 }
def jIC (cP cS cR cJ cA:Addr):Sp:=fun vs H Q _=>∃ x d n k R A,vs=[.ref x,.str n,.int k]∧jAD cP cS cR cJ cA H x d∧d.rs.lookup n=some R∧d.am.lookup n=some A∧A + k≤R∧∀ H',(∀ b o,b≠d.tr2→H b=some o→H' b=some o)→jAD cP cS cR cJ cA H' x { d with am:=jA3 d.am n (A + k) }→Q .non H'
theorem jID:jAl ["self","kind","many"] ["self","kind","many"] (jAh jDw):=scM
include T in
theorem jIE (F:Fun K "load" "Printer.load" jDw fa fd) (DaP:MtE P w K mg base 6 "put" cQ ["self","name","many"] (jNO cQ cV cG)) :
    jAq P w K mg base (CXe P w) 7 fa fd ["self","kind","many"] (jIC cZ cQ yJ yW yU):=by
  refine F.okE jID (fun vs H Q E h=>?_) (fun cdv A outer s H vs Q E hr h=>?_)
  · obtain ⟨x,d,n,k,R,A,rfl,_⟩:=h
    rfl
  obtain ⟨x,d,n,k,R,A,rfl,P,lr,la,le,q⟩:=h
  refine ⟨_,(jAe (jAJ (jAR 6 jAw hr.m (jAp (pv 0) rfl) (jAa (pv 1) (jAa (pv 2) jAd))))),?_⟩
  obtain ⟨⟨dt,ht⟩,_⟩:=id P.T
  refine ⟨_,rfl,x,cZ,d.dx,_,_,rfl,P.o,T.ac,T.aR,rfl,?_⟩
  refine ⟨d.tr,_,dt,_,_,_,rfl,ht,rfl,T.ah,DaP,_,rfl,_,rfl,d.tr,d.tr1,d.tr2,d.rs,d.am,n,k,rfl,P.T,P.ka,by have:=P.la;omega,fun n' h ea H1 sm g=>?_,fun n' h h2 ea H1 sm g=>?_,fun h h2 H1 kp S1=>?_⟩
  · rw [jHP lr] at h
    cases h
  · rw [jOq lr la,if_neg (by omega)] at h2
    cases h2
  · rw [jME la,Int.one_mul] at S1
    exact q H1 kp (P.trays kp S1 (by rw [jG9];exact P.ka) (by unfold jA3;rw [List.length_map];exact P.la))
def jIF (cP cS cR cJ cA:Addr):Sp:=fun vs H Q _=>∃ x d y z,vs=[.ref x,.int y,.int z]∧jAD cP cS cR cJ cA H x d∧d.b + y≤d.rb∧d.c + z≤d.rc∧∀ H',(∀ b o,b≠d.ik2→H b=some o→H' b=some o)→jAD cP cS cR cJ cA H' x { d with b:=d.b + y,c:=d.c + z }→Q .non H'
theorem jKb {H:Hp} {l t1 t2:Addr} {y z:Int} (hl:H l=some (.lst [.ref t1,.ref t2])) (h1:H t1=some (.tup [.str blW,.int y])) (h2:H t2=some (.tup [.str coW,.int z])):jHx H l (jAQ y z):=by
  refine ⟨_,hl,rfl,fun i v g e1 e2=>?_⟩
  match i,e1,e2 with
  | 0,e1,e2 =>
    obtain rfl:=Option.some.inj e1
    obtain rfl:=Option.some.inj e2
    exact ⟨t1,rfl,h1⟩
  | 1,e1,e2 =>
    obtain rfl:=Option.some.inj e1
    obtain rfl:=Option.some.inj e2
    exact ⟨t2,rfl,h2⟩
theorem jIG:jAl ["self","black","coloured"] ["self","black","coloured"] (jAh jDx):=scM
include T in
theorem jIH (F:Fun K "fill" "Printer.fill" jDx fa fd) (Dar:MtE P w K mg base 5 "put_all" cQ ["self","gifts"] (jG_ cQ cV cG 1 jBN)) :
    jAq P w K mg base (CXe P w) 6 fa fd ["self","black","coloured"] (jIF cZ cQ yJ yW yU):=by
  refine F.okE jIG (fun vs H Q E h=>?_) (fun cdv A outer s H vs Q E hr h=>?_)
  · obtain ⟨x,d,y,z,rfl,_⟩:=h
    rfl
  obtain ⟨x,d,y,z,rfl,P,l1,l2,q⟩:=h
  have z2:2≤sizeLine:=small (by decide)
  refine ⟨_,(jAe (jAJ (jAR 5 jAw hr.m (jAp (pv 0) rfl) (jAa (jAS (jAa (jAM (jAa (jCy T.bb rfl) (jAa (pv 1) jAd))) (jAa (jAM (jAa (jCy T.bc rfl) (jAa (pv 2) jAd))) jAd))) jAd)))),?_⟩
  obtain ⟨⟨dt,ht⟩,_⟩:=id P.I
  refine ⟨_,rfl,x,cZ,d.dx,_,_,rfl,P.o,T.ac,T.bv,rfl,?_⟩
  refine ⟨d.ik,_,dt,_,_,_,rfl,ht,rfl,T.ah,Dar,_,rfl,z2,fun t1 nt1=>?_⟩
  have s1:=jAk nt1 (.tup [.str blW,.int y])
  have h1:upd H t1 (.tup [.str blW,.int y]) t1=some (.tup [.str blW,.int y]):=jAc
  generalize upd H t1 (.tup [.str blW,.int y])=H1 at s1 h1 ⊢
  refine ⟨_,rfl,z2,fun t2 nt2=>?_⟩
  have s2:=jAk nt2 (.tup [.str coW,.int z])
  have h2:upd H1 t2 (.tup [.str coW,.int z]) t2=some (.tup [.str coW,.int z]):=jAc
  generalize upd H1 t2 (.tup [.str coW,.int z])=H2 at s2 h2 ⊢
  refine ⟨z2,fun l nl=>?_⟩
  have s3:=jAk nl (.lst [.ref t1,.ref t2])
  have hl:upd H2 l (.lst [.ref t1,.ref t2]) l=some (.lst [.ref t1,.ref t2]):=jAc
  generalize upd H2 l (.lst [.ref t1,.ref t2])=H3 at s3 hl ⊢
  have s03:=(s1.trans s2).trans s3
  have P3:=P.same s03
  refine ⟨d.ik,d.ik1,d.ik2,l,_,_,jAQ y z,rfl,P3.I,rfl,by show 2≤1000;decide,jAn hl P3.I.2.2.1 (by intro z;cases z),jKb hl ((s2.trans s3) _ _ h1) (s3 _ _ h2),fun n h=>?_,fun n h h2=>?_,fun h h2 H4 kp S4=>?_⟩
  · rw [jHQ] at h
    cases h
  · rw [jOr l1 l2] at h2
    cases h2
  · rw [jMF,Int.one_mul,Int.one_mul] at S4
    exact q H4 (fun b o nb e=>kp b o nb (s03 _ _ e)) (P3.inks kp S4)
def jEQ (cP cS cR cJ cA:Addr):Sp:=fun vs H Q _=>∃ x d,vs=[.ref x]∧jAD cP cS cR cJ cA H x d∧∀ l H',(∀ b o,b≠d.ins→H b=some o→H' b=some o)→H l=none→H' l=some (.lst (d.tags.take 1))→jAD cP cS cR cJ cA H' x { d with tags:=d.tags.drop 1 }→Q (.ref l) H'
theorem jHJ:jAl ["self"] ["self"] (jAh jCQ):=scM
include T in
theorem jHK (F:Fun K "oldest" "Printer.oldest" jCQ fa fd)  :
    jAq P w K mg base CX0 1 fa fd ["self"] (jEQ cZ cQ yJ yW yU):=by
  refine F.ok jHJ (fun vs H Q E h=>?_) (fun cdv A outer s H vs Q E hr h=>?_)
  · obtain ⟨x,d,rfl,_⟩:=h
    rfl
  obtain ⟨x,d,rfl,P,q⟩:=h
  have z1:1≤sizeLine:=small (by decide)
  refine ⟨_,(jAe (jAm (jCk (jAN (jAp (pv 0) rfl) (fun _=>rfl)) (jAS (jAa (jKL PySem.F.plainAttrs_list PySem.F.slot_list_pop PySem.F.type_list_pop jOb (jAp (pv 0) rfl) (jAa jAg jAd)) jAd)) (jAS jAd)))),?_⟩
  refine ⟨_,rfl,x,cZ,d.dx,_,_,rfl,P.o,T.ac,T.ak,rfl,?_⟩
  cases et:d.tags with
  | nil =>
    refine ⟨false,.inl ⟨_,SqL.of P.n,by rw [et];rfl⟩,jAK ⟨Nat.zero_le _,fun l nl=>?_⟩⟩
    have s:=jAk nl (.lst [])
    refine q l _ (fun b o _ e=>s _ _ e) nl (by rw [jAc,et];rfl) ?_
    have P':=P.same s
    have e:({ d with tags:=d.tags.drop 1 }:PD)=d:=by
      rw [et]
      show ({ d with tags:=[] }:PD)=d
      rw [← et]
    rw [e]
    exact P'
  | cons t r =>
    refine ⟨true,.inl ⟨_,SqL.of P.n,by rw [et];rfl⟩,jAP ?_⟩
    refine ⟨_,rfl,x,cZ,d.dx,_,_,rfl,P.o,T.ac,T.ak,rfl,.inl ⟨rfl,_,SqL.of P.n⟩,d.ins,_,0,0,t,rfl,rfl,P.n,by decide,by decide,?_,by rw [et];rfl,z1,fun l nl=>?_⟩
    · rw [et]
      exact seqIndex_of (by decide) (by show (0:Int) < ((r.length + 1:Nat):Int);omega)
    have kp:∀ b o,b≠d.ins→H b=some o→upd H d.ins (.lst (d.tags.eraseIdx 0)) b=some o:=fun b o nb e=>by rw [jAj nb];exact e
    have hi:upd H d.ins (.lst (d.tags.eraseIdx 0)) d.ins=some (.lst r):=by rw [jAc,et];rfl
    have nl0:H l=none:=by
      have ne:l≠d.ins:=fun z=>by rw [z,hi] at nl;cases nl
      rw [jAj ne] at nl
      exact nl
    generalize upd H d.ins (.lst (d.tags.eraseIdx 0))=H1 at kp hi nl ⊢
    have s:=jAk nl (.lst [t])
    have P1:=(P.inside kp hi (by have:=P.lt;rw [et] at this;exact Nat.le_of_succ_le this)).same s
    refine q l _ (fun b o nb e=>s _ _ (kp b o nb e)) nl0 (by rw [jAc,et];rfl) ?_
    rw [et]
    exact P1
def jGv (cN cP cS cR cJ cA:Addr):Sp:=fun vs H Q E=>∃ x d,vs=[.ref x]∧jAD cP cS cR cJ cA H x d∧(d.S=.rd→∀ l H',(∀ b o,b≠d.ins→H b=some o→H' b=some o)→H l=none→H' l=some (.lst (d.tags.take 1))→jAD cP cS cR cJ cA H' x { d with tags:=d.tags.drop 1 }→Q (.ref l) H')∧(d.S≠.rd→jBM cN "found" (.str (wd d.S)) H E)
theorem jII:jAl ["self"] ["self"] (jAh jDz):=scM
include T in
theorem jIJ (F:Fun K "push" "Printer.push" jDz fa fd) (Dau:MtE P w K mg base 3 "must_be_ready" cZ ["self"] (jGu cK cZ cQ yJ yW yU)) (Dav:MtE P w K mg base 1 "oldest" cZ ["self"] (jEQ cZ cQ yJ yW yU)) :
    jAq P w K mg base (CXe P w) 4 fa fd ["self"] (jGv cK cZ cQ yJ yW yU):=by
  refine F.okE jII (fun vs H Q E h=>?_) (fun cdv A outer s H vs Q E hr h=>?_)
  · obtain ⟨x,d,rfl,_⟩:=h
    rfl
  obtain ⟨x,d,rfl,P,q,q2⟩:=h
  refine ⟨_,(jAb (jAJ (jAt 3 jAw hr.m (pv 0))) (jAe (jAm (jAt 1 jAw hr.m (pv 0))))),?_⟩
  refine ⟨_,rfl,x,_,d.dx,_,_,_,rfl,P.o,rfl,T.ac,Dau,x,d,rfl,P,fun rd=>?_,q2⟩
  exact ⟨_,rfl,x,_,d.dx,_,_,_,rfl,P.o,rfl,T.ac,Dav,x,d,rfl,P,q rd⟩
def fedD (d:PD) (n:Str) (A y z:Int) (tag:V):PD:={ d with am:=jA3 d.am n (A - 1),b:=d.b - y,c:=d.c - z,tags:=d.tags ++ [tag] }
def jIK (cN cP cS cR cJ cA:Addr):Sp:=fun vs H Q E=>∃ x d tag n y z A,vs=[.ref x,tag,.str n,.int y,.int z]∧jAD cP cS cR cJ cA H x d∧(d.S≠.rd→jBM cN "found" (.str (wd d.S)) H E)∧d.am.lookup n=some A∧1≤A∧y≤d.b∧z≤d.c∧d.tags.length≤800 ∧
  (d.S=.rd→∀ l H',(∀ b o,b≠d.ins→b≠d.tr2→b≠d.ik2→H b=some o→H' b=some o)→H l=none→H' l=some (.lst (if d.path < ((d.tags.length + 1:Nat):Int) then (d.tags ++ [tag]).take 1 else []))→jAD cP cS cR cJ cA H' x { fedD d n A y z tag with tags:=if d.path < ((d.tags.length + 1:Nat):Int) then (d.tags ++ [tag]).drop 1 else d.tags ++ [tag] }→Q (.ref l) H')
theorem jIL:jAl ["self","tag","kind","black","coloured"] ["self","tag","kind","black","coloured"] (jAh jDy):=scM
include T in
theorem jIM (F:Fun K "feed" "Printer.feed" jDy fa fd) (Daq:jCJ P w K mg base 1 "Dry" vQ ["self","name"] (jBl vQ "name")) (Dau:MtE P w K mg base 3 "must_be_ready" cZ ["self"] (jGu cK cZ cQ yJ yW yU)) (DaQ:MtE P w K mg base 5 "paper_left" cZ ["self","kind"] (jEN cZ cQ yJ yW yU)) (DaE:MtE P w K mg base 5 "draw_all" cQ ["self","wants"] (jG_ cQ cV vQ (-1) (fun _ am ws=>jBR am ws))) (Dav:MtE P w K mg base 1 "oldest" cZ ["self"] (jEQ cZ cQ yJ yW yU)) :
    jAq P w K mg base (CXe P w) 6 fa fd ["self","tag","kind","black","coloured"] (jIK cK cZ cQ yJ yW yU):=by
  refine F.okE jIL (fun vs H Q E h=>?_) (fun cdv A outer s H vs Q E hr h=>?_)
  · obtain ⟨x,d,tag,n,y,z,A,rfl,_⟩:=h
    rfl
  obtain ⟨x,d,tag,n,y,z,A,rfl,P,qn,la,A1,yb,zc,lt,q⟩:=h
  have z1:1≤sizeLine:=small (by decide)
  have z2:2≤sizeLine:=small (by decide)
  refine ⟨_,(jAb (jAJ (jAt 3 jAw hr.m (pv 0))) (jAb (jAC (tcA jF9 (jAR 5 jAw hr.m (pv 0) (jAa (pv 2) jAd)) jAg) (jAe (jBt jBk rfl (jBj Daq hr.m rfl (jAa (pv 2) jAd)))) jAs) (jAb (jAJ (jAR 5 jAw hr.m (jAp (pv 0) rfl) (jAa (jAS (jAa (jAM (jAa (jCy T.bb rfl) (jAa (pv 3) jAd))) (jAa (jAM (jAa (jCy T.bc rfl) (jAa (pv 4) jAd))) jAd))) jAd))) (jAb (jAJ (jAR 5 jAw hr.m (jAp (pv 0) rfl) (jAa (jAS (jAa (jAM (jAa (pv 2) (jAa jAg jAd))) jAd)) jAd))) (jAb (jAJ (jKL PySem.F.plainAttrs_list PySem.F.slot_list_append PySem.F.type_list_append jJZ (jAp (pv 0) rfl) (jAa (pv 1) jAd))) (jAe (jAm (jCk (tcA jKI (jAG jAF rfl T.ae PySem.boot_len (jAa (jAp (pv 0) rfl) jAd)) (jAp (pv 0) rfl)) (jAt 1 jAw hr.m (pv 0)) (jAS jAd))))))))),?_⟩
  refine ⟨_,rfl,x,_,d.dx,_,_,_,rfl,P.o,rfl,T.ac,Dau,x,d,rfl,P,fun rd=>?_,qn⟩
  replace q:=q rd
  refine ⟨_,rfl,x,_,d.dx,_,_,_,rfl,P.o,rfl,T.ac,DaQ,_,rfl,x,d,n,A,rfl,P,la,?_⟩
  refine ⟨_,_,rfl,rfl,_,rfl,jCz (by omega) ?_⟩
  obtain ⟨⟨di,hi⟩,_⟩:=id P.I
  refine ⟨_,rfl,x,cZ,d.dx,_,_,rfl,P.o,T.ac,T.bv,rfl,?_⟩
  refine ⟨d.ik,_,di,_,_,_,rfl,hi,rfl,T.ah,DaE,_,rfl,z2,fun t1 nt1=>?_⟩
  have s1:=jAk nt1 (.tup [.str blW,.int y])
  have h1:upd H t1 (.tup [.str blW,.int y]) t1=some (.tup [.str blW,.int y]):=jAc
  generalize upd H t1 (.tup [.str blW,.int y])=H1 at s1 h1 ⊢
  refine ⟨_,rfl,z2,fun t2 nt2=>?_⟩
  have s2:=jAk nt2 (.tup [.str coW,.int z])
  have h2:upd H1 t2 (.tup [.str coW,.int z]) t2=some (.tup [.str coW,.int z]):=jAc
  generalize upd H1 t2 (.tup [.str coW,.int z])=H2 at s2 h2 ⊢
  refine ⟨z2,fun l nl=>?_⟩
  have s3:=jAk nl (.lst [.ref t1,.ref t2])
  have hl:upd H2 l (.lst [.ref t1,.ref t2]) l=some (.lst [.ref t1,.ref t2]):=jAc
  generalize upd H2 l (.lst [.ref t1,.ref t2])=H3 at s3 hl ⊢
  have s03:=(s1.trans s2).trans s3
  have P3:=P.same s03
  refine ⟨d.ik,d.ik1,d.ik2,l,_,_,jAQ y z,rfl,P3.I,rfl,by show 2≤1000;decide,jAn hl P3.I.2.2.1 (by intro z;cases z),jKb hl ((s2.trans s3) _ _ h1) (s3 _ _ h2),fun n h=>?_,fun n h h2=>?_,fun h h2 H4 kp4 S4=>?_⟩
  · rw [jHQ] at h
    cases h
  · rw [show (fun _ am ws=>jBR am ws) (jAQ d.rb d.rc) (jAQ d.b d.c) (jAQ y z)=jBR (jAQ d.b d.c) (jAQ y z) from rfl,ink_few yb zc] at h2
    cases h2
  rw [jMF,show d.b + -1 * y=d.b - y by omega,show d.c + -1 * z=d.c - z by omega] at S4
  have P4:=P3.inks kp4 S4
  obtain ⟨⟨dt,ht4⟩,_⟩:=id P4.T
  refine ⟨_,rfl,x,cZ,d.dx,_,_,rfl,P4.o,T.ac,T.aR,rfl,?_⟩
  refine ⟨d.tr,_,dt,_,_,_,rfl,ht4,rfl,T.ah,DaE,_,rfl,z2,fun t3 nt3=>?_⟩
  have s5:=jAk nt3 (.tup [.str n,.int 1])
  have h5:upd H4 t3 (.tup [.str n,.int 1]) t3=some (.tup [.str n,.int 1]):=jAc
  generalize upd H4 t3 (.tup [.str n,.int 1])=H5 at s5 h5 ⊢
  refine ⟨z1,fun l2 nl2=>?_⟩
  have s6:=jAk nl2 (.lst [.ref t3])
  have hl2:upd H5 l2 (.lst [.ref t3]) l2=some (.lst [.ref t3]):=jAc
  generalize upd H5 l2 (.lst [.ref t3])=H6 at s6 hl2 ⊢
  have P6:=P4.same (s5.trans s6)
  have hm6:H6 d.tr2=some (.dK (dI d.am)):=P6.T.2.2.1
  have G6:jHx H6 l2 [(n,1)]:=by
    refine ⟨_,hl2,rfl,fun i v g e1 e2=>?_⟩
    match i,e1,e2 with
    | 0,e1,e2 =>
      obtain rfl:=Option.some.inj e1
      obtain rfl:=Option.some.inj e2
      exact ⟨t3,rfl,s6 _ _ h5⟩
  refine ⟨d.tr,d.tr1,d.tr2,l2,d.rs,d.am,[(n,1)],rfl,P6.T,P.ka,by have:=P.la;omega,jAn hl2 hm6 (by intro z;cases z),G6,fun n' h=>?_,fun n' h h2=>?_,fun h h2 H7 kp7 S7=>?_⟩
  · obtain ⟨R,eR⟩:∃ R,d.rs.lookup n=some R:=by
      cases l:d.rs.lookup n with
      | some v=>exact ⟨v,rfl⟩
      | none=>exact absurd (jLs P.ka la) (jE3 l)
    rw [jHP eR] at h
    cases h
  · rw [show (fun _ am ws=>jBR am ws) d.rs d.am [(n,1)]=jBR d.am [(n,1)] from rfl,few_one la,if_neg (by omega)] at h2
    cases h2
  rw [jME la,show A + -1 * 1=A - 1 by omega] at S7
  have P7:jAD cZ cQ yJ yW yU H7 x { d with am:=jA3 d.am n (A - 1),b:=d.b - y,c:=d.c - z }:=P6.trays kp7 S7 (by rw [jG9];exact P.ka) (by unfold jA3;rw [List.length_map];exact P.la)
  have hi7:H7 d.ins=some (.lst d.tags):=P7.n
  refine ⟨_,rfl,x,cZ,d.dx,_,_,rfl,P7.o,T.ac,T.ak,rfl,.inl ⟨rfl,_,SqL.of hi7⟩,_,rfl,d.ins,_,_,rfl,rfl,hi7,jAX (by show d.tags.length≤1000;omega),?_⟩
  have kp8:∀ b o,b≠d.ins→H7 b=some o→upd H7 d.ins (.lst (d.tags ++ [tag])) b=some o:=fun b o nb e=>by rw [jAj nb];exact e
  have hi8:upd H7 d.ins (.lst (d.tags ++ [tag])) d.ins=some (.lst (d.tags ++ [tag])):=jAc
  generalize upd H7 d.ins (.lst (d.tags ++ [tag]))=H8 at kp8 hi8 ⊢
  have P8:jAD cZ cQ yJ yW yU H8 x (fedD d n A y z tag):=P7.inside kp8 hi8 (by rw [List.length_append];show d.tags.length + 1≤900;omega)
  have fr:∀ b o,b≠d.ins→b≠d.tr2→b≠d.ik2→H b=some o→H8 b=some o:=fun b o b1 b2 b3 e=>kp8 b o b1 (kp7 b o b2 ((s5.trans s6) b o (kp4 b o b3 (s03 b o e))))
  have ll:(d.tags ++ [tag]).length=d.tags.length + 1:=by rw [List.length_append];rfl
  refine ⟨_,rfl,x,cZ,d.dx,_,_,rfl,P8.o,T.ac,T.ak,rfl,d.ins,_,rfl,.inl (SqL.of hi8),_,rfl,x,cZ,d.dx,_,_,rfl,P8.o,T.ac,T.bD,rfl,_,_,rfl,rfl,_,rfl,?_⟩
  have back:∀ l,H8 l=none→H l=none:=fun l nl=>by
    cases e:H l with
    | none=>rfl
    | some o =>
      by_cases c1:l=d.ins
      · rw [c1,hi8] at nl
        cases nl
      by_cases c2:l=d.tr2
      · rw [c2,show H8 d.tr2=_ from P8.T.2.2.1] at nl
        cases nl
      by_cases c3:l=d.ik2
      · rw [c3,show H8 d.ik2=_ from P8.I.2.2.1] at nl
        cases nl
      rw [fr l o c1 c2 c3 e] at nl
      cases nl
  refine jBp (fun c=>?_) (fun c=>?_)
  · have c':d.path < ((d.tags.length + 1:Nat):Int):=by
      have:=of_decide_eq_true c
      rwa [ll] at this
    rw [if_pos c',if_pos c'] at q
    exact ⟨_,rfl,x,_,d.dx,_,_,_,rfl,P8.o,rfl,T.ac,Dav,x,fedD d n A y z tag,rfl,P8,fun l H9 kp9 nl hl9 P9=>q l H9 (fun b o b1 b2 b3 e=>kp9 b o b1 (fr b o b1 b2 b3 e)) (back l nl) hl9 P9⟩
  · have c':¬ d.path < ((d.tags.length + 1:Nat):Int):=fun z=>c (decide_eq_true (by rw [ll];exact z))
    rw [if_neg c',if_neg c'] at q
    refine ⟨Nat.zero_le _,fun l nl=>?_⟩
    have s9:=jAk nl (.lst [])
    exact q l _ (fun b o b1 b2 b3 e=>s9 _ _ (fr b o b1 b2 b3 e)) (back l nl) jAc (P8.same s9)
end
end My
namespace My
open PySem L2
open Blk (sg sg_inj sg_app)
section
variable {P:Program} {w:World} {K:PySem.W.Frag} {mg:Str→Option Value} {base:Heap} {fa yQ yZ yX yY yV yJ yW yU yK yG cQ cZ cV cK cG vQ vZ vX vY:Addr} {fd:FuncData} (T:Txt K mg yQ yZ yX yY yV yJ yW yU yK yG cQ cZ cV cK cG vQ vZ vX vY)
abbrev wiW:Str:=Str.ofString "within"
theorem jE6 {d:PD} {st:Addr}:jBe "state" (.ref st) d.fs=({ d with st:=st }:PD).fs:=by
  unfold PD.fs
  repeat (rw [show ∀ (g:Str) (u v:V) (r:List (Str×V)),jBe "state" v ((g,u) :: r)=if g="state" then (g,v) :: r else (g,u) :: jBe "state" v r from fun _ _ _ _=>rfl];first | rw [if_pos rfl] | rw [if_neg (by decide +kernel)])
theorem jIN {d:PD} {il:Addr}:jBe "inside" (.ref il) d.fs=({ d with ins:=il }:PD).fs:=by
  unfold PD.fs
  repeat (rw [show ∀ (g:Str) (u v:V) (r:List (Str×V)),jBe "inside" v ((g,u) :: r)=if g="inside" then (g,v) :: r else (g,u) :: jBe "inside" v r from fun _ _ _ _=>rfl];first | rw [if_pos rfl] | rw [if_neg (by decide +kernel)])
theorem jAD.turned {cP cS cR cJ cA:Addr} {H H':Hp} {x st il:Addr} {S:S3} {ts:List V} {d:PD} (h:jAD cP cS cR cJ cA H x d) (kp:∀ b o,b≠x→H b=some o→H' b=some o) (ho:H' x=some (.ins cP d.dx ({ d with st:=st,ins:=il }:PD).fs)) (hs:jEb cR cJ cA H' st S) (hn:H' il=some (.lst ts)) (l:ts.length≤900):jAD cP cS cR cJ cA H' x { d with st:=st,S:=S,ins:=il,tags:=ts }:=by
  obtain ⟨⟨di,hi⟩,h1,h2,n⟩:=id h.T
  obtain ⟨⟨di',hi'⟩,h1',h2',n'⟩:=id h.I
  have off:∀ b o,H b=some o→o≠.ins cP d.dx d.fs→H' b=some o:=fun b o e n=>kp b o (jAn e h.o n) e
  have two:∀ (c e:Addr) (u v:Str×V),HO.ins c e [u,v]≠.ins cP d.dx d.fs:=fun c e u v z=>by
    injection z with _ _ z
    have:=congrArg List.length z
    rw [show d.fs.length=8 from rfl] at this
    exact absurd (show 2=8 from this) (by decide)
  exact { o:=ho,T:=⟨⟨di,off _ _ hi (two _ _ _ _)⟩,off _ _ h1 (by intro z;cases z),off _ _ h2 (by intro z;cases z),n⟩,I:=⟨⟨di',off _ _ hi' (two _ _ _ _)⟩,off _ _ h1' (by intro z;cases z),off _ _ h2' (by intro z;cases z),n'⟩,s:=hs,n:=hn,ka:=h.ka,la:=h.la,lt:=l,n22:=h.n22,n21:=h.n21,n12:=h.n12 }
theorem jHy {P:Program} {w:World} {K:PySem.W.Frag} {mg:Str→Option Value} {base:Heap} {k1 k2 k3 k i:Nat} {m:Str} {cR cJ cA cN:Addr} {S1 S2 S3':S3→Prop} {H:Hp} {a:Addr} {s:S3} {Q:VK} {E:XK} (D1:MtE P w K mg base k1 m cR ["self"] (jBm cR cJ cA cN S1 i)) (D2:MtE P w K mg base k2 m cJ ["self"] (jBm cR cJ cA cN S2 i)) (D3:MtE P w K mg base k3 m cA ["self"] (jBm cR cJ cA cN S3' i))
    (l1:k1≤k) (l2:k2≤k) (l3:k3≤k) (h1:S1 .rd) (h2:S2 .jm) (h3:∀ b,S3' (.aw b)) (c1:Cls K cR) (c2:Cls K cJ) (c3:Cls K cA) (hm:∀ s,(jCR s).lookup m=none) (hs:jEb cR cJ cA H a s) (q:OutS cR cJ cA cN i s H Q E) :
    ∃ a' C dx fs ps sp,V.ref a=.ref a'∧H a'=some (.ins C dx fs)∧fs.lookup m=none∧Cls K C∧MtE P w K mg base k m C ps sp∧sp [.ref a] H Q E:=by
  obtain ⟨ds,e⟩:=id hs
  cases s with
  | rd=>exact ⟨a,_,ds,_,_,_,rfl,e,hm _,c1,D1.mono l1,a,.rd,rfl,h1,hs,q⟩
  | jm=>exact ⟨a,_,ds,_,_,_,rfl,e,hm _,c2,D2.mono l2,a,.jm,rfl,h2,hs,q⟩
  | aw b=>exact ⟨a,_,ds,_,_,_,rfl,e,hm _,c3,D3.mono l3,a,.aw b,rfl,h3 b,hs,q⟩
theorem jIO {cP cR cJ cA:Addr} {H:Hp} {x a:Addr} {s:S3} {d:PD} (h:jEb cR cJ cA H a s) (hx:H x=some (.ins cP d.dx d.fs)):a≠x:=by
  obtain ⟨ds,e⟩:=h
  refine jAn e hx fun z=>?_
  injection z with _ _ z
  have:=congrArg List.length z
  rw [show d.fs.length=8 from rfl] at this
  cases s with
  | rd=>exact absurd (show 1=8 from this) (by decide)
  | jm=>exact absurd (show 1=8 from this) (by decide)
  | aw b=>exact absurd (show 2=8 from this) (by decide)
def jEj (i:Nat) (cN cP cS cR cJ cA:Addr):Sp:=fun vs H Q E=>∃ x d,vs=[.ref x]∧jAD cP cS cR cJ cA H x d∧(∀ s',jA7 i d.S=some s'→∀ st H',(∀ b o,b≠x→H b=some o→H' b=some o)→jAD cP cS cR cJ cA H' x { d with st:=st,S:=s' }→Q (.str (wd s')) H')∧(jA7 i d.S=none→jBM cN "found" (.str (wd d.S)) H E)
theorem jIP:jAl ["self"] ["self"] (jAh jDA):=scM
include T in
theorem jIQ (F:Fun K "mend" "Printer.mend" jDA fa fd) (DaR:MtE P w K mg base 3 "mend" yJ ["self"] (jBm yJ yW yU cK (fun s=>jA7 1 s=none) 1)) (DaS:MtE P w K mg base 4 "mend" yW ["self"] (jBm yJ yW yU cK (fun s=>s=.jm) 1)) (DaT:MtE P w K mg base 3 "mend" yU ["self"] (jBm yJ yW yU cK (fun s=>jA7 1 s=none) 1)) (Dab:MtE P w K mg base 2 "stands" cZ ["self"] (jB1 cZ cQ yJ yW yU)) :
    jAq P w K mg base (CXe P w) 5 fa fd ["self"] (jEj 1 cK cZ cQ yJ yW yU):=by
  refine F.okE jIP (fun vs H Q E h=>?_) (fun cdv A outer s H vs Q E hr h=>?_)
  · obtain ⟨x,d,rfl,_⟩:=h
    rfl
  obtain ⟨x,d,rfl,P,q,q2⟩:=h
  refine ⟨_,(jAb (jAI (pv 0) (jAt 4 jAw hr.m (jAp (pv 0) rfl)) rfl) (jAe (jAm (jAt 2 jAw hr.m (pv 0))))),?_⟩
  refine ⟨_,rfl,x,cZ,d.dx,_,_,rfl,P.o,T.ac,T.ax,rfl,?_⟩
  refine jHy DaR DaS DaT (by decide) (by decide) (by decide) rfl rfl (fun _=>rfl) T.ay T.az T.aj (fun s=>by cases s <;> rfl) P.s ⟨fun s' e p H1 sm _ sa=>?_,q2⟩
  have P1:=P.same sm
  refine ⟨_,rfl,x,cZ,d.dx,_,rfl,P1.o,T.ac,T.ax,(by show 8 < 1000;decide),?_⟩
  rw [jE6]
  have kp:∀ b o,b≠x→H b=some o→upd H1 x (.ins cZ d.dx ({ d with st:=p }:PD).fs) b=some o:=fun b o nb e=>by rw [jAj nb];exact sm _ _ e
  have P2:jAD cZ cQ yJ yW yU (upd H1 x (.ins cZ d.dx ({ d with st:=p }:PD).fs)) x { d with st:=p,S:=s' }:=by
    obtain ⟨ds,hs⟩:=sa
    exact jAD.turned (st:=p) (il:=d.ins) (S:=s') (ts:=d.tags) P kp jAc ⟨ds,by rw [jAj (jIO ⟨ds,hs⟩ P1.o)];exact hs⟩ (kp _ _ (jAn P.n P.o (by intro z;cases z)) P.n) P.lt
  exact ⟨_,rfl,x,_,d.dx,_,_,_,rfl,P2.o,rfl,T.ac,Dab,x,_,rfl,P2,q s' e p _ kp P2⟩
theorem jIR:jAl ["self"] ["self"] (jAh jDB):=scM
include T in
theorem jIS (F:Fun K "come" "Printer.come" jDB fa fd) (DaU:MtE P w K mg base 3 "come" yJ ["self"] (jBm yJ yW yU cK (fun s=>jA7 3 s=none) 3)) (DaV:MtE P w K mg base 3 "come" yW ["self"] (jBm yJ yW yU cK (fun s=>jA7 3 s=none) 3)) (DaW:MtE P w K mg base 4 "come" yU ["self"] (jBm yJ yW yU cK (fun s=>∃ b,s=.aw b) 3)) (Dab:MtE P w K mg base 2 "stands" cZ ["self"] (jB1 cZ cQ yJ yW yU)) :
    jAq P w K mg base (CXe P w) 5 fa fd ["self"] (jEj 3 cK cZ cQ yJ yW yU):=by
  refine F.okE jIR (fun vs H Q E h=>?_) (fun cdv A outer s H vs Q E hr h=>?_)
  · obtain ⟨x,d,rfl,_⟩:=h
    rfl
  obtain ⟨x,d,rfl,P,q,q2⟩:=h
  refine ⟨_,(jAb (jAI (pv 0) (jAt 4 jAw hr.m (jAp (pv 0) rfl)) rfl) (jAe (jAm (jAt 2 jAw hr.m (pv 0))))),?_⟩
  refine ⟨_,rfl,x,cZ,d.dx,_,_,rfl,P.o,T.ac,T.ax,rfl,?_⟩
  refine jHy DaU DaV DaW (by decide) (by decide) (by decide) rfl rfl (fun b=>⟨b,rfl⟩) T.ay T.az T.aj (fun s=>by cases s <;> rfl) P.s ⟨fun s' e p H1 sm _ sa=>?_,q2⟩
  have P1:=P.same sm
  refine ⟨_,rfl,x,cZ,d.dx,_,rfl,P1.o,T.ac,T.ax,(by show 8 < 1000;decide),?_⟩
  rw [jE6]
  have kp:∀ b o,b≠x→H b=some o→upd H1 x (.ins cZ d.dx ({ d with st:=p }:PD).fs) b=some o:=fun b o nb e=>by rw [jAj nb];exact sm _ _ e
  have P2:jAD cZ cQ yJ yW yU (upd H1 x (.ins cZ d.dx ({ d with st:=p }:PD).fs)) x { d with st:=p,S:=s' }:=by
    obtain ⟨ds,hs⟩:=sa
    exact jAD.turned (st:=p) (il:=d.ins) (S:=s') (ts:=d.tags) P kp jAc ⟨ds,by rw [jAj (jIO ⟨ds,hs⟩ P1.o)];exact hs⟩ (kp _ _ (jAn P.n P.o (by intro z;cases z)) P.n) P.lt
  exact ⟨_,rfl,x,_,d.dx,_,_,_,rfl,P2.o,rfl,T.ac,Dab,x,_,rfl,P2,q s' e p _ kp P2⟩
def jHR (cN cP cS cR cJ cA:Addr):Sp:=fun vs H Q E=>∃ x d,vs=[.ref x]∧jAD cP cS cR cJ cA H x d∧(∀ s',jA7 2 d.S=some s'→∀ st il H',(∀ b o,b≠x→H b=some o→H' b=some o)→H il=none→jAD cP cS cR cJ cA H' x { d with st:=st,S:=s',ins:=il,tags:=[] }→Q (.ref d.ins) H')∧(jA7 2 d.S=none→jBM cN "found" (.str (wd d.S)) H E)
theorem jER:jAl ["self","lost"] ["self"] (jAh jC5):=scM
include T in
theorem jH8 (F:Fun K "leave" "Printer.leave" jC5 fa fd) (DaX:MtE P w K mg base 4 "leave" yJ ["self"] (jBm yJ yW yU cK (fun s=>s=.rd) 2)) (DaY:MtE P w K mg base 4 "leave" yW ["self"] (jBm yJ yW yU cK (fun s=>s=.jm) 2)) (DaZ:MtE P w K mg base 3 "leave" yU ["self"] (jBm yJ yW yU cK (fun s=>jA7 2 s=none) 2)) :
    jAq P w K mg base (CXe P w) 5 fa fd ["self"] (jHR cK cZ cQ yJ yW yU):=by
  refine F.okE jER (fun vs H Q E h=>?_) (fun cdv A outer s H vs Q E hr h=>?_)
  · obtain ⟨x,d,rfl,_⟩:=h
    rfl
  obtain ⟨x,d,rfl,P,q,q2⟩:=h
  refine ⟨_,(jAb (jAI (pv 0) (jAt 4 jAw hr.m (jAp (pv 0) rfl)) rfl) (jAb (psA (i:=1) jER.nd (jAp (pv 0) rfl)) (jAb (jAI (pv 0) (jAS jAd) rfl) (jAe (jAm (pv 1)))))),?_⟩
  refine ⟨_,rfl,x,cZ,d.dx,_,_,rfl,P.o,T.ac,T.ax,rfl,?_⟩
  refine jHy DaX DaY DaZ (by decide) (by decide) (by decide) rfl rfl (fun _=>rfl) T.ay T.az T.aj (fun s=>by cases s <;> rfl) P.s ⟨fun s' e p H1 sm _ sa=>?_,q2⟩
  have P1:=P.same sm
  refine ⟨_,rfl,x,cZ,d.dx,_,rfl,P1.o,T.ac,T.ax,(by show 8 < 1000;decide),?_⟩
  rw [jE6]
  have kp:∀ b o,b≠x→H b=some o→upd H1 x (.ins cZ d.dx ({ d with st:=p }:PD).fs) b=some o:=fun b o nb e=>by rw [jAj nb];exact sm _ _ e
  have ho:upd H1 x (.ins cZ d.dx ({ d with st:=p }:PD).fs) x=some (.ins cZ d.dx ({ d with st:=p }:PD).fs):=jAc
  have hs:jEb yJ yW yU (upd H1 x (.ins cZ d.dx ({ d with st:=p }:PD).fs)) p s':=by
    obtain ⟨ds,hs⟩:=sa
    exact ⟨ds,by rw [jAj (jIO ⟨ds,hs⟩ P1.o)];exact hs⟩
  generalize upd H1 x (.ins cZ d.dx ({ d with st:=p }:PD).fs)=H2 at kp ho hs ⊢
  refine ⟨_,rfl,x,cZ,d.dx,_,_,rfl,ho,T.ac,T.ak,rfl,?_⟩
  refine ⟨Nat.zero_le _,fun il nil'=>?_⟩
  have s3:=jAk nil' (.lst [])
  have h3:upd H2 il (.lst []) il=some (.lst []):=jAc
  generalize upd H2 il (.lst [])=H3 at s3 h3 ⊢
  refine ⟨_,rfl,x,cZ,d.dx,_,rfl,s3 _ _ ho,T.ac,T.ak,(by show 8 < 1000;decide),?_⟩
  rw [jIN]
  have kp4:∀ b o,b≠x→H b=some o→upd H3 x (.ins cZ d.dx ({ d with st:=p,ins:=il }:PD).fs) b=some o:=fun b o nb e=>by rw [jAj nb];exact s3 _ _ (kp b o nb e)
  have nil0:H il=none:=by
    cases e:H il with
    | none=>rfl
    | some o =>
      by_cases c:il=x
      · rw [c,ho] at nil';cases nil'
      · rw [kp il o c e] at nil';cases nil'
  have nix:il≠x:=Ne.symm (jAf ho nil')
  refine ⟨_,rfl,q s' e p il _ kp4 nil0 (jAD.turned (st:=p) (il:=il) (S:=s') (ts:=[]) P kp4 jAc ?_ (by rw [jAj nix];exact h3) (Nat.zero_le _))⟩
  obtain ⟨ds,hs⟩:=hs
  exact ⟨ds,by rw [jAj (jIO (d:={ d with st:=p }) ⟨ds,hs⟩ ho)];exact s3 _ _ hs⟩
def jKc (cN cT cP cS cR cJ cA:Addr):Sp:=fun vs H Q E=>∃ x d k,vs=[.ref x,.int (k:Nat)]∧jAD cP cS cR cJ cA H x d∧(d.S≠.rd→jBM cN "found" (.str (wd d.S)) H E)∧(d.S=.rd→d.tags.length < k→jBM cT "name" (.str wiW) H E) ∧
  (d.S=.rd→k≤d.tags.length→∀ t l1 l2 st il H',(∀ b o,b≠x→H b=some o→H' b=some o)→H il=none→H t=none→H' t=some (.tup [.ref l1,.ref l2])→H' l1=some (.lst (d.tags.take k))→H' l2=some (.lst (d.tags.drop k))→jAD cP cS cR cJ cA H' x { d with st:=st,S:=.jm,ins:=il,tags:=[] }→Q (.ref t) H')
theorem jCB:jAl ["self","saved","jammed","out","lost"] ["self","saved"] (jAh jD9):=scM
include T in
theorem jJB (F:Fun K "jam" "Printer.jam" jD9 fa fd) (Dao:jCJ P w K mg base 1 "TooMuch" cG ["self","name"] (jBl cG "name")) (Da0:MtE P w K mg base 4 "jam" yJ ["self"] (jBm yJ yW yU cK (fun s=>s=.rd) 0)) (Da1:MtE P w K mg base 3 "jam" yW ["self"] (jBm yJ yW yU cK (fun s=>jA7 0 s=none) 0)) (Da2:MtE P w K mg base 3 "jam" yU ["self"] (jBm yJ yW yU cK (fun s=>jA7 0 s=none) 0)) :
    jAq P w K mg base (CXe P w) 5 fa fd ["self","saved"] (jKc cK cG cZ cQ yJ yW yU):=by
  refine F.okE jCB (fun vs H Q E h=>?_) (fun cdv A outer s H vs Q E hr h=>?_)
  · obtain ⟨x,d,k,rfl,_⟩:=h
    rfl
  obtain ⟨x,d,k,rfl,P,q1,q2,q⟩:=h
  refine ⟨_,(jAb (psA (i:=2) jCB.nd (jAt 4 jAw hr.m (jAp (pv 0) rfl))) (jAb (jAC (tcA jKI (pv 1) (jAG jAF rfl T.ae PySem.boot_len (jAa (jAp (pv 0) rfl) jAd))) (jAe (jBt jBk rfl (jBj Dao hr.m rfl (jAa (jCy T.bK rfl) jAd)))) jAs) (jAb (psA (i:=3) jCB.nd (jBT jFE (jAp (pv 0) rfl) jCc (jCd (pv 1)))) (jAb (psA (i:=4) jCB.nd (jBT jFE (jAp (pv 0) rfl) (jCd (pv 1)) jCc)) (jAb (jAI (pv 0) (jAS jAd) rfl) (jAb (jAI (pv 0) (pv 2) rfl) (jAe (jAm (jAM (jAa (pv 3) (jAa (pv 4) jAd))))))))))),?_⟩
  refine ⟨_,rfl,x,cZ,d.dx,_,_,rfl,P.o,T.ac,T.ax,rfl,?_⟩
  have nn:∀ s,jA7 0 s=none ↔ s≠.rd:=fun s=>by cases s with
    | rd=>exact ⟨fun z=>(by cases z),fun z=>absurd rfl z⟩
    | jm=>exact ⟨fun _ z=>(by cases z),fun _=>rfl⟩
    | aw b=>exact ⟨fun _ z=>(by cases z),fun _=>rfl⟩
  refine jHy Da0 Da1 Da2 (by decide) (by decide) (by decide) rfl rfl (fun _=>rfl) T.ay T.az T.aj (fun s=>by cases s <;> rfl) P.s ⟨fun s' e p H1 sm np sa=>?_,fun e=>q1 ((nn _).mp e)⟩
  have P1:=P.same sm
  have rd:d.S=.rd:=Classical.byContradiction fun z=>by rw [(nn _).mpr z] at e;cases e
  rw [rd] at e
  obtain rfl:=Option.some.inj e
  refine ⟨_,rfl,_,rfl,x,cZ,d.dx,_,_,rfl,P1.o,T.ac,T.ak,rfl,d.ins,_,rfl,.inl (SqL.of P1.n),_,_,rfl,rfl,_,rfl,?_⟩
  refine jBp (fun c=>jA5 T.ao.m fun ea H' s1 _ g=>q2 rd (by have:=of_decide_eq_true c;omega) ea H' (sm.trans s1) g) (fun c=>?_)
  have hk:k≤d.tags.length:=Nat.not_lt.mp fun z=>c (decide_eq_true (by omega))
  refine ⟨_,rfl,x,cZ,d.dx,_,_,rfl,P1.o,T.ac,T.ak,rfl,?_⟩
  refine ⟨_,rfl,_,rfl,d.ins,_,rfl,SqL.of P1.n,fun l1 nl1=>?_⟩
  rw [jLg]
  have s2:=jAk nl1 (.lst (d.tags.take k))
  have h2:upd H1 l1 (.lst (d.tags.take k)) l1=some (.lst (d.tags.take k)):=jAc
  generalize upd H1 l1 (.lst (d.tags.take k))=H2 at s2 h2 ⊢
  have P2:=P1.same s2
  refine ⟨_,rfl,x,cZ,d.dx,_,_,rfl,P2.o,T.ac,T.ak,rfl,?_⟩
  refine ⟨_,rfl,_,rfl,d.ins,_,rfl,SqL.of P2.n,fun l2 nl2=>?_⟩
  rw [jLf]
  have s3:=jAk nl2 (.lst (d.tags.drop k))
  have h3:upd H2 l2 (.lst (d.tags.drop k)) l2=some (.lst (d.tags.drop k)):=jAc
  generalize upd H2 l2 (.lst (d.tags.drop k))=H3 at s3 h3 ⊢
  refine ⟨Nat.zero_le _,fun il nil'=>?_⟩
  have s4:=jAk nil' (.lst [])
  have h4:upd H3 il (.lst []) il=some (.lst []):=jAc
  generalize upd H3 il (.lst [])=H4 at s4 h4 ⊢
  have s14:=(s2.trans s3).trans s4
  have P4:=P1.same s14
  refine ⟨_,rfl,x,cZ,d.dx,_,rfl,P4.o,T.ac,T.ak,(by show 8 < 1000;decide),?_⟩
  rw [jIN]
  have kp5:∀ b o,b≠x→H4 b=some o→upd H4 x (.ins cZ d.dx ({ d with ins:=il }:PD).fs) b=some o:=fun b o nb e=>by rw [jAj nb];exact e
  have ho5:upd H4 x (.ins cZ d.dx ({ d with ins:=il }:PD).fs) x=some (.ins cZ d.dx ({ d with ins:=il }:PD).fs):=jAc
  generalize upd H4 x (.ins cZ d.dx ({ d with ins:=il }:PD).fs)=H5 at kp5 ho5 ⊢
  refine ⟨_,rfl,_,rfl,x,cZ,d.dx,_,rfl,ho5,T.ac,T.ax,(by show 8 < 1000;decide),?_⟩
  rw [jE6]
  have kp6:∀ b o,b≠x→H5 b=some o→upd H5 x (.ins cZ d.dx ({ d with ins:=il,st:=p }:PD).fs) b=some o:=fun b o nb e=>by rw [jAj nb];exact e
  have ho6:upd H5 x (.ins cZ d.dx ({ d with ins:=il,st:=p }:PD).fs) x=some (.ins cZ d.dx ({ d with ins:=il,st:=p }:PD).fs):=jAc
  generalize upd H5 x (.ins cZ d.dx ({ d with ins:=il,st:=p }:PD).fs)=H6 at kp6 ho6 ⊢
  have z2:2≤sizeLine:=small (by decide)
  refine ⟨_,rfl,_,rfl,z2,fun t nt=>?_⟩
  have s7:=jAk nt (.tup [.ref l1,.ref l2])
  have h7:upd H6 t (.tup [.ref l1,.ref l2]) t=some (.tup [.ref l1,.ref l2]):=jAc
  generalize upd H6 t (.tup [.ref l1,.ref l2])=H7 at s7 h7 ⊢
  have kq:∀ b o,b≠x→H4 b=some o→H7 b=some o:=fun b o nb e=>s7 _ _ (kp6 b o nb (kp5 b o nb e))
  have nx4:∀ l ys,H4 l=some (.lst ys)→l≠x:=fun l ys e=>jAn e P4.o (by intro z;cases z)
  have e1:=(s3.trans s4) _ _ h2
  have e2:=s4 _ _ h3
  refine q rd hk t l1 l2 p il H7 (fun b o nb e=>kq b o nb (s14 _ _ (sm _ _ e))) (sm.free ((s2.trans s3).free nil')) ?_ h7 (kq _ _ (nx4 _ _ e1) e1) (kq _ _ (nx4 _ _ e2) e2) ?_
  · cases e:H t with
    | none=>rfl
    | some o =>
      by_cases c:t=x
      · rw [c,ho6] at nt;cases nt
      · rw [kp6 t o c (kp5 t o c (s14 _ _ (sm _ _ e)))] at nt;cases nt
  · refine jAD.turned (st:=p) (il:=il) (S:=.jm) (ts:=[]) P4 kq (s7 _ _ ho6) ?_ (kq _ _ (nx4 _ _ h4) h4) (Nat.zero_le _)
    obtain ⟨ds,hs⟩:=id (sa.same s14)
    exact ⟨ds,kq _ _ (jIO (sa.same s14) P4.o) hs⟩
end
end My
namespace My
open PySem L2
open Blk (sg sg_inj sg_app)
section
variable {P:Program} {w:World} {K:PySem.W.Frag} {mg:Str→Option Value} {base:Heap} {fa yQ yZ yX yY yV yJ yW yU yK yG cQ cZ cV cK cG vQ vZ vX vY:Addr} {fd:FuncData} (T:Txt K mg yQ yZ yX yY yV yJ yW yU yK yG cQ cZ cV cK cG vQ vZ vX vY)
def jIT (cP cS cR cJ cA:Addr):Sp:=fun vs H Q _=>∃ (x dx cl pp:Addr) (nm:Str) (path rb rc:Int) (cs:List V) (rs:List (Str×Int)),vs=[.ref x,.str nm,.ref cl,.int path,.ref pp,.int rb,.int rc]∧H x=some (.ins cP dx [])∧H cl=some (.lst cs)∧H pp=some (.dK (dI rs))∧(rs.map (·.1)).Nodup∧rs.length≤900 ∧
  ∀ d H',(∀ b o,b≠x→H b=some o→H' b=some o)→jAD cP cS cR cJ cA H' x d→d.name=nm→d.path=path→d.rs=rs→d.am=rs.map (fun p=>(p.1,0))→d.rb=rb→d.rc=rc→d.b=0→d.c=0→d.tags=[]→d.S=.rd→H d.tr1=none→H d.tr2=none→H d.ik1=none→H d.ik2=none→H d.ins=none→Q .non H'
theorem jIU:jAl ["self","name","can","path","papers","black","colour"] ["self","name","can","path","papers","black","colour"] (jAh jDv):=scM
include T in
theorem jIV (F:Fun K "__init__" "Printer.__init__" jDv fa fd) (DaF:MkD P w K mg base 1 "Stock" cQ ["self","rooms"] (jGK cQ)) (Dak:MkD P w K mg base 2 "Ready" yJ ["self"] (jEL yJ (jCR .rd))) :
    jAq P w K mg base CX0 4 fa fd ["self","name","can","path","papers","black","colour"] (jIT cZ cQ yJ yW yU):=by
  refine F.ok jIU (fun vs H Q E h=>?_) (fun cdv A outer s H vs Q E hr h=>?_)
  · obtain ⟨x,dx,cl,pp,nm,path,rb,rc,cs,rs,rfl,_⟩:=h
    rfl
  obtain ⟨x,dx,cl,pp,nm,path,rb,rc,cs,rs,rfl,hx,hcl,hpp,nd,lr,q⟩:=h
  refine ⟨_,(jAb (jAI (pv 0) (pv 1) rfl) (jAb (jAI (pv 0) (jBQ jKk rfl T.aM jGb (jAa (pv 2) jAd)) rfl) (jAb (jAI (pv 0) (pv 3) rfl) (jAb (jAI (pv 0) (jBQ jFI rfl T.aX jJm (jAa (pv 4) jAd)) rfl) (jAb (jAI (pv 0) (jCp DaF hr.m rfl (jAa (pv 4) jAd)) rfl) (jAb (jAI (pv 0) (jCp DaF hr.m rfl (jAa (jFG (jA6 (jCy T.bb rfl) (pv 5) (jA6 (jCy T.bc rfl) (pv 6) jFF)) rfl rfl (by decide) (by decide)) jAd)) rfl) (jAb (jAI (pv 0) (jCq Dak hr.m rfl) rfl) (jAe (jAI (pv 0) (jAS jAd) rfl))))))))),?_⟩
  have ncx:cl≠x:=jAn hcl hx (by intro z;cases z)
  have npx:pp≠x:=jAn hpp hx (by intro z;cases z)
  refine ⟨_,rfl,_,rfl,x,cZ,dx,_,rfl,hx,T.ac,T.bu,(by show 0 < 1000;decide),?_⟩
  rw [jBb (by show ¬ ("name":Str)∈([]:List Str);decide +kernel),List.nil_append]
  have k1:∀ b o,b≠x→H b=some o→upd H x (.ins cZ dx [("name",V.str nm)]) b=some o:=fun b o nb e=>by rw [jAj nb];exact e
  have hx1:upd H x (.ins cZ dx [("name",V.str nm)]) x=some (.ins cZ dx [("name",V.str nm)]):=jAc
  generalize upd H x (.ins cZ dx [("name",V.str nm)])=H1 at k1 hx1 ⊢
  refine ⟨_,rfl,cl,_,rfl,.inl ⟨SqL.of (k1 _ _ ncx hcl),fun cn ncn=>?_⟩⟩
  have s2:=jAk ncn (.tup cs)
  generalize upd H1 cn (.tup cs)=H2 at s2 ⊢
  refine ⟨_,rfl,x,cZ,dx,_,rfl,s2 _ _ hx1,T.ac,T.bO,(by show 1 < 1000;decide),?_⟩
  rw [jBb (by show ¬ ("can":Str)∈(["name"]:List Str);decide +kernel)]
  have k3:∀ b o,b≠x→H1 b=some o→upd H2 x (.ins cZ dx (([("name",V.str nm)]:List (Str×V)) ++ ([("can",V.ref cn)]:List (Str×V)))) b=some o:=fun b o nb e=>by rw [jAj nb];exact s2 _ _ e
  have hx3:upd H2 x (.ins cZ dx (([("name",V.str nm)]:List (Str×V)) ++ ([("can",V.ref cn)]:List (Str×V)))) x=some (.ins cZ dx [("name",V.str nm),("can",V.ref cn)]):=jAc
  generalize upd H2 x (.ins cZ dx (([("name",V.str nm)]:List (Str×V)) ++ ([("can",V.ref cn)]:List (Str×V))))=H3 at k3 hx3 ⊢
  refine ⟨_,rfl,_,rfl,x,cZ,dx,_,rfl,hx3,T.ac,T.bD,(by show 2 < 1000;decide),?_⟩
  rw [jBb (by show ¬ ("path":Str)∈(["name","can"]:List Str);decide +kernel)]
  have k4:∀ b o,b≠x→H3 b=some o→upd H3 x (.ins cZ dx (([("name",V.str nm),("can",V.ref cn)]:List (Str×V)) ++ ([("path",V.int path)]:List (Str×V)))) b=some o:=fun b o nb e=>by rw [jAj nb];exact e
  have hx4:upd H3 x (.ins cZ dx (([("name",V.str nm),("can",V.ref cn)]:List (Str×V)) ++ ([("path",V.int path)]:List (Str×V)))) x=some (.ins cZ dx [("name",V.str nm),("can",V.ref cn),("path",V.int path)]):=jAc
  generalize upd H3 x (.ins cZ dx (([("name",V.str nm),("can",V.ref cn)]:List (Str×V)) ++ ([("path",V.int path)]:List (Str×V))))=H4 at k4 hx4 ⊢
  have k04:∀ b o,b≠x→H b=some o→H4 b=some o:=fun b o nb e=>k4 b o nb (k3 b o nb (k1 b o nb e))
  have hpp4:=k04 _ _ npx hpp
  refine ⟨_,rfl,pp,_,rfl,.inl hpp4,fun rm nrm=>?_⟩
  have s5:=jAk nrm (.dK (dI rs))
  generalize upd H4 rm (.dK (dI rs))=H5 at s5 ⊢
  refine ⟨_,rfl,x,cZ,dx,_,rfl,s5 _ _ hx4,T.ac,T.bP,(by show 3 < 1000;decide),?_⟩
  rw [jBb (by show ¬ ("rooms":Str)∈(["name","can","path"]:List Str);decide +kernel)]
  have k6:∀ b o,b≠x→H4 b=some o→upd H5 x (.ins cZ dx (([("name",V.str nm),("can",V.ref cn),("path",V.int path)]:List (Str×V)) ++ ([("rooms",V.ref rm)]:List (Str×V)))) b=some o:=fun b o nb e=>by rw [jAj nb];exact s5 _ _ e
  have hx6:upd H5 x (.ins cZ dx (([("name",V.str nm),("can",V.ref cn),("path",V.int path)]:List (Str×V)) ++ ([("rooms",V.ref rm)]:List (Str×V)))) x=some (.ins cZ dx [("name",V.str nm),("can",V.ref cn),("path",V.int path),("rooms",V.ref rm)]):=jAc
  generalize upd H5 x (.ins cZ dx (([("name",V.str nm),("can",V.ref cn),("path",V.int path)]:List (Str×V)) ++ ([("rooms",V.ref rm)]:List (Str×V))))=H6 at k6 hx6 ⊢
  have k06:∀ b o,b≠x→H b=some o→H6 b=some o:=fun b o nb e=>k6 b o nb (k04 b o nb e)
  have free6:∀ b,H6 b=none→H b=none:=fun b nb=>by
    cases e:H b with
    | none=>rfl
    | some o =>
      by_cases c:b=x
      · rw [c,hx6] at nb;cases nb
      · rw [k06 b o c e] at nb;cases nb
  refine ⟨_,rfl,fun tr dt ntr ndt nde=>?_⟩
  have ki:∀ b o,H6 b=some o→b≠tr∧upd (upd H6 dt (.own tr)) tr (.ins cQ dt []) b=some o:=fun b o e=>by
    have b1:b≠tr:=jAf e ntr
    exact ⟨b1,by rw [jAj b1,jAj (jAf e ndt)];exact e⟩
  refine ⟨tr,dt,pp,rs,rfl,jAc,(ki _ _ (k06 _ _ npx hpp)).2,nd,by omega,fun tr1 tr2 H7 kp7 nr nm' n12 ht7 hr7 hm7=>⟨rfl,?_⟩⟩
  have s7:jAo H6 H7:=fun b o e=>kp7 b o (ki b o e).1 (ki b o e).2
  have ntr1:H6 tr1=none:=by
    cases e:H6 tr1 with
    | none=>rfl
    | some o=>rw [(ki _ _ e).2] at nr;cases nr
  have ntr2:H6 tr2=none:=by
    cases e:H6 tr2 with
    | none=>rfl
    | some o=>rw [(ki _ _ e).2] at nm';cases nm'
  refine ⟨_,rfl,x,cZ,dx,_,rfl,s7 _ _ hx6,T.ac,T.aR,(by show 4 < 1000;decide),?_⟩
  rw [jBb (by show ¬ ("trays":Str)∈(["name","can","path","rooms"]:List Str);decide +kernel)]
  have hx7:=s7 _ _ hx6
  have ntx:tr≠x:=Ne.symm (jAf hx6 ntr)
  have nt1x:tr1≠x:=Ne.symm (jAf hx6 ntr1)
  have nt2x:tr2≠x:=Ne.symm (jAf hx6 ntr2)
  have k8:∀ b o,b≠x→H7 b=some o→upd H7 x (.ins cZ dx (([("name",V.str nm),("can",V.ref cn),("path",V.int path),("rooms",V.ref rm)]:List (Str×V)) ++ ([("trays",V.ref tr)]:List (Str×V)))) b=some o:=fun b o nb e=>by rw [jAj nb];exact e
  have hx8:upd H7 x (.ins cZ dx (([("name",V.str nm),("can",V.ref cn),("path",V.int path),("rooms",V.ref rm)]:List (Str×V)) ++ ([("trays",V.ref tr)]:List (Str×V)))) x=some (.ins cZ dx [("name",V.str nm),("can",V.ref cn),("path",V.int path),("rooms",V.ref rm),("trays",V.ref tr)]):=jAc
  generalize upd H7 x (.ins cZ dx (([("name",V.str nm),("can",V.ref cn),("path",V.int path),("rooms",V.ref rm)]:List (Str×V)) ++ ([("trays",V.ref tr)]:List (Str×V))))=H8 at k8 hx8 ⊢
  have ht8:=k8 _ _ ntx ht7
  have hr8:=k8 _ _ nt1x hr7
  have hm8:=k8 _ _ nt2x hm7
  have free8:∀ b,H8 b=none→H6 b=none:=fun b nb=>by
    cases e:H6 b with
    | none=>rfl
    | some o =>
      by_cases c:b=x
      · rw [c,hx8] at nb;cases nb
      · rw [k8 b o c (s7 _ _ e)] at nb;cases nb
  refine fun ip nip=>?_
  have s9:=jAk nip (.dK [])
  have h9:upd H8 ip (.dK []) ip=some (.dK []):=jAc
  refine ⟨_,rfl,_,rfl,h9,[(Sum.inr blW,.int rb),(Sum.inr coW,.int rc)],rfl,(by show 2≤15;decide),?_⟩
  rw [jGg (ks:=[Sum.inr blW,Sum.inr coW]) rfl (by decide +kernel)]
  have s10:jAo H8 (upd (upd H8 ip (.dK [])) ip (.dK ([] ++ [((Sum.inr blW:Key),V.int rb),(Sum.inr coW,V.int rc)]))):=jCx nip s9 _
  have h10:upd (upd H8 ip (.dK [])) ip (.dK ([] ++ [((Sum.inr blW:Key),V.int rb),(Sum.inr coW,V.int rc)])) ip=some (.dK (dI (jAQ rb rc))):=jAc
  generalize upd (upd H8 ip (.dK [])) ip (.dK ([] ++ [((Sum.inr blW:Key),V.int rb),(Sum.inr coW,V.int rc)]))=H10 at s10 h10 ⊢
  refine fun ik di nik ndi ndie=>?_
  have kj:∀ b o,H10 b=some o→b≠ik∧upd (upd H10 di (.own ik)) ik (.ins cQ di []) b=some o:=fun b o e=>by
    have b1:b≠ik:=jAf e nik
    exact ⟨b1,by rw [jAj b1,jAj (jAf e ndi)];exact e⟩
  have ndk:((jAQ rb rc).map (·.1)).Nodup:=by
    show [blW,coW].Nodup
    decide +kernel
  refine ⟨ik,di,ip,jAQ rb rc,rfl,jAc,(kj _ _ h10).2,ndk,by show 2≤1000;decide,fun ik1 ik2 H11 kp11 nr1 nm1 n12' hi11 hr11 hm11=>⟨rfl,?_⟩⟩
  have s11:jAo H10 H11:=fun b o e=>kp11 b o (kj b o e).1 (kj b o e).2
  have nik1:H10 ik1=none:=by
    cases e:H10 ik1 with
    | none=>rfl
    | some o=>rw [(kj _ _ e).2] at nr1;cases nr1
  have nik2:H10 ik2=none:=by
    cases e:H10 ik2 with
    | none=>rfl
    | some o=>rw [(kj _ _ e).2] at nm1;cases nm1
  have s811:=s10.trans s11
  refine ⟨_,rfl,x,cZ,dx,_,rfl,s811 _ _ hx8,T.ac,T.bv,(by show 5 < 1000;decide),?_⟩
  rw [jBb (by show ¬ ("inks":Str)∈(["name","can","path","rooms","trays"]:List Str);decide +kernel)]
  have k12:∀ b o,b≠x→H11 b=some o→upd H11 x (.ins cZ dx (([("name",V.str nm),("can",V.ref cn),("path",V.int path),("rooms",V.ref rm),("trays",V.ref tr)]:List (Str×V)) ++ ([("inks",V.ref ik)]:List (Str×V)))) b=some o:=fun b o nb e=>by rw [jAj nb];exact e
  have hx12:upd H11 x (.ins cZ dx (([("name",V.str nm),("can",V.ref cn),("path",V.int path),("rooms",V.ref rm),("trays",V.ref tr)]:List (Str×V)) ++ ([("inks",V.ref ik)]:List (Str×V)))) x=some (.ins cZ dx [("name",V.str nm),("can",V.ref cn),("path",V.int path),("rooms",V.ref rm),("trays",V.ref tr),("inks",V.ref ik)]):=jAc
  generalize upd H11 x (.ins cZ dx (([("name",V.str nm),("can",V.ref cn),("path",V.int path),("rooms",V.ref rm),("trays",V.ref tr)]:List (Str×V)) ++ ([("inks",V.ref ik)]:List (Str×V))))=H12 at k12 hx12 ⊢
  have hx10:=s10 _ _ hx8
  have nikx:ik≠x:=Ne.symm (jAf hx10 nik)
  have nik1x:ik1≠x:=Ne.symm (jAf hx10 nik1)
  have nik2x:ik2≠x:=Ne.symm (jAf hx10 nik2)
  refine fun st ds nst nds ndse=>⟨st,ds,rfl,jAc,⟨rfl,?_⟩⟩
  have s13:jAo H12 (upd (upd (upd H12 ds (.own st)) st (.ins yJ ds [])) st (.ins yJ ds (jCR .rd))):=fun b o e=>by
    have b1:b≠st:=jAf e nst
    rw [jAj b1,jAj b1,jAj (jAf e nds)]
    exact e
  have h13:upd (upd (upd H12 ds (.own st)) st (.ins yJ ds [])) st (.ins yJ ds (jCR .rd)) st=some (.ins yJ ds (jCR .rd)):=jAc
  generalize upd (upd (upd H12 ds (.own st)) st (.ins yJ ds [])) st (.ins yJ ds (jCR .rd))=H13 at s13 h13 ⊢
  refine ⟨_,rfl,x,cZ,dx,_,rfl,s13 _ _ hx12,T.ac,T.ax,(by show 6 < 1000;decide),?_⟩
  rw [jBb (by show ¬ ("state":Str)∈(["name","can","path","rooms","trays","inks"]:List Str);decide +kernel)]
  have k14:∀ b o,b≠x→H13 b=some o→upd H13 x (.ins cZ dx (([("name",V.str nm),("can",V.ref cn),("path",V.int path),("rooms",V.ref rm),("trays",V.ref tr),("inks",V.ref ik)]:List (Str×V)) ++ ([("state",V.ref st)]:List (Str×V)))) b=some o:=fun b o nb e=>by rw [jAj nb];exact e
  have hx14:upd H13 x (.ins cZ dx (([("name",V.str nm),("can",V.ref cn),("path",V.int path),("rooms",V.ref rm),("trays",V.ref tr),("inks",V.ref ik)]:List (Str×V)) ++ ([("state",V.ref st)]:List (Str×V)))) x=some (.ins cZ dx [("name",V.str nm),("can",V.ref cn),("path",V.int path),("rooms",V.ref rm),("trays",V.ref tr),("inks",V.ref ik),("state",V.ref st)]):=jAc
  generalize upd H13 x (.ins cZ dx (([("name",V.str nm),("can",V.ref cn),("path",V.int path),("rooms",V.ref rm),("trays",V.ref tr),("inks",V.ref ik)]:List (Str×V)) ++ ([("state",V.ref st)]:List (Str×V))))=H14 at k14 hx14 ⊢
  have nstx:st≠x:=Ne.symm (jAf hx12 nst)
  refine ⟨Nat.zero_le _,fun il nil'=>?_⟩
  have s15:=jAk nil' (.lst [])
  have h15:upd H14 il (.lst []) il=some (.lst []):=jAc
  generalize upd H14 il (.lst [])=H15 at s15 h15 ⊢
  have hx15:=s15 _ _ hx14
  refine ⟨_,rfl,x,cZ,dx,_,rfl,hx15,T.ac,T.ak,(by show 7 < 1000;decide),?_⟩
  rw [jBb (by show ¬ ("inside":Str)∈(["name","can","path","rooms","trays","inks","state"]:List Str);decide +kernel)]
  have nilx:il≠x:=Ne.symm (jAf hx14 nil')
  have k16:∀ b o,b≠x→H15 b=some o→upd H15 x (.ins cZ dx (([("name",V.str nm),("can",V.ref cn),("path",V.int path),("rooms",V.ref rm),("trays",V.ref tr),("inks",V.ref ik),("state",V.ref st)]:List (Str×V)) ++ ([("inside",V.ref il)]:List (Str×V)))) b=some o:=fun b o nb e=>by rw [jAj nb];exact e
  have hx16:upd H15 x (.ins cZ dx (([("name",V.str nm),("can",V.ref cn),("path",V.int path),("rooms",V.ref rm),("trays",V.ref tr),("inks",V.ref ik),("state",V.ref st)]:List (Str×V)) ++ ([("inside",V.ref il)]:List (Str×V)))) x=some (.ins cZ dx [("name",V.str nm),("can",V.ref cn),("path",V.int path),("rooms",V.ref rm),("trays",V.ref tr),("inks",V.ref ik),("state",V.ref st),("inside",V.ref il)]):=jAc
  generalize upd H15 x (.ins cZ dx (([("name",V.str nm),("can",V.ref cn),("path",V.int path),("rooms",V.ref rm),("trays",V.ref tr),("inks",V.ref ik),("state",V.ref st)]:List (Str×V)) ++ ([("inside",V.ref il)]:List (Str×V))))=H16 at k16 hx16 ⊢
  have e12:∀ b o,b≠x→H12 b=some o→H16 b=some o:=fun b o nb e=>k16 b o nb (s15 _ _ (k14 b o nb (s13 _ _ e)))
  have e8:∀ b o,b≠x→H8 b=some o→H16 b=some o:=fun b o nb e=>e12 b o nb (k12 b o nb (s811 _ _ e))
  have e6:∀ b o,b≠x→H6 b=some o→H16 b=some o:=fun b o nb e=>e8 b o nb (k8 b o nb (s7 _ _ e))
  have f10:∀ b,H10 b=none→H6 b=none:=fun b nb=>free8 b (s10.free nb)
  have f14:∀ b,H14 b=none→H6 b=none:=fun b nb=>by
    cases e:H6 b with
    | none=>rfl
    | some o =>
      by_cases c:b=x
      · rw [c,hx14] at nb;cases nb
      · rw [k14 b o c (s13 _ _ (k12 b o c (s811 _ _ (k8 b o c (s7 _ _ e)))))] at nb;cases nb
  have hm10:=s10 _ _ hm8
  have hr10:=s10 _ _ hr8
  refine q ⟨dx,cn,rm,tr,tr1,tr2,ik,ik1,ik2,st,il,nm,path,rs,rs.map fun p=>(p.1,0),rb,rc,0,0,[],.rd⟩ H16 (fun b o nb e=>e6 b o nb (k06 b o nb e)) ?_ rfl rfl rfl rfl rfl rfl rfl rfl rfl rfl (free6 _ ntr1) (free6 _ ntr2) (free6 _ (f10 _ nik1)) (free6 _ (f10 _ nik2)) (free6 _ (f14 _ nil'))
  exact { o:=hx16,T:=⟨⟨dt,e8 _ _ ntx ht8⟩,e8 _ _ nt1x hr8,e8 _ _ nt2x hm8,n12⟩,I:=⟨⟨di,e12 _ _ nikx (k12 _ _ nikx hi11)⟩,e12 _ _ nik1x (k12 _ _ nik1x hr11),e12 _ _ nik2x (k12 _ _ nik2x hm11),n12'⟩,s:=⟨ds,k16 _ _ nstx (s15 _ _ (k14 _ _ nstx h13))⟩,n:=k16 _ _ nilx h15,ka:=by rw [List.map_map];rfl,la:=by rw [List.length_map];exact lr,lt:=Nat.zero_le _,n22:=jAf hm10 nik2,n21:=jAf hm10 nik1,n12:=jAf hr10 nik2 }
end
end My
namespace My
open PySem L2
open Blk (sg sg_inj sg_app)
section
variable {P:Program} {w:World} {K:PySem.W.Frag} {mg:Str→Option Value} {base:Heap} {fa yQ yZ yX yY yV yJ yW yU yK yG cQ cZ cV cK cG vQ vZ vX vY:Addr} {fd:FuncData} (T:Txt K mg yQ yZ yX yY yV yJ yW yU yK yG cQ cZ cV cK cG vQ vZ vX vY)
def LyC (cO cB cS:Addr):Ly→Addr
  | .one=>cO
  | .both=>cB
  | .up _=>cS
def LyAt (cO cB cS:Addr) (H:Hp) (a:Addr) (l:Ly):Prop:=∃ dx,H a=some (.ins (LyC cO cB cS l) dx [("cells",.int (l.cells:Int)),("backs",.bl l.backs)])
theorem LyAt.same {cO cB cS:Addr} {H H':Hp} {a:Addr} {l:Ly} (h:LyAt cO cB cS H a l) (k:jAo H H'):LyAt cO cB cS H' a l:=let ⟨dx,e⟩:=h;⟨dx,k _ _ e⟩
def jDG (H:Hp) (y:V) (s:List Int×List Int):Prop:=∃ t f b,y=.ref t∧H t=some (.tup [.ref f,.ref b])∧H f=some (.lst (s.1.map V.int))∧H b=some (.lst (s.2.map V.int))
def jDW (H0 H:Hp) (y:V) (s:List Int×List Int):Prop:=∃ t f b,y=.ref t∧H t=some (.tup [.ref f,.ref b])∧H f=some (.lst (s.1.map V.int))∧H b=some (.lst (s.2.map V.int))∧H0 t=none∧H0 f=none∧H0 b=none
theorem jDW.at {H0 H:Hp} {y:V} {s:List Int×List Int} (h:jDW H0 H y s):jDG H y s:=let ⟨t,f,b,e,e1,e2,e3,_⟩:=h;⟨t,f,b,e,e1,e2,e3⟩
theorem jDW.old {H0 H1 H:Hp} {y:V} {s:List Int×List Int} (h:jDW H1 H y s) (k:jAo H0 H1):jDW H0 H y s:=let ⟨t,f,b,e,e1,e2,e3,n1,n2,n3⟩:=h;⟨t,f,b,e,e1,e2,e3,k.free n1,k.free n2,k.free n3⟩
def jMG (H0 H:Hp) (p:Addr) (L:List (List Int×List Int)):Prop:=∃ ys,H p=some (.lst ys)∧ys.length=L.length∧∀ (i:Nat) y s,ys[i]?=some y→L[i]?=some s→jDW H0 H y s
def SheetsAt (H:Hp) (p:Addr) (L:List (List Int×List Int)):Prop:=∃ ys,H p=some (.lst ys)∧ys.length=L.length∧∀ (i:Nat) y s,ys[i]?=some y→L[i]?=some s→jDG H y s
theorem jDG.same {H H':Hp} {y:V} {s:List Int×List Int} (h:jDG H y s) (k:jAo H H'):jDG H' y s:=let ⟨t,f,b,e,e1,e2,e3⟩:=h;⟨t,f,b,e,k _ _ e1,k _ _ e2,k _ _ e3⟩
theorem jE7 {H:Hp} {x dx:Addr} {o o1 o2:HO} (nx:H x=none) (nd:H dx=none):jAo H (upd (upd (upd H dx o) x o1) x o2):=by
  rw [jBE]
  exact jCx nx (jAk nd _) _
def jGL (K:PySem.W.Frag):Sp:=fun vs H Q _=>∃ (f n:Int) (m:Nat),vs=[.int f,.int (m:Int),.int n]∧-(2 ^ 40)≤f∧f≤2 ^ 40∧m≤900∧∀ p H',jAo H H'→H p=none→H' p=some (.lst ((jFJ f m n).map V.int))→Q (.ref p) H'
def jB2 (K:PySem.W.Frag):Sp:=fun vs H Q _=>∃ x dx C c b,vs=[.ref x,c,b]∧H x=some (.ins C dx [])∧Cls K C∧jAu K C "cells"∧jAu K C "backs"∧Q .non (upd H x (.ins C dx [("cells",c),("backs",b)]))
def jGw (C:Addr) (fs:List (Str×V)):Sp:=fun vs H Q _=>∃ x dx,vs=[.ref x]∧H x=some (.ins C dx [])∧Q .non (upd H x (.ins C dx fs))
def jE8 (C:Addr):Sp:=fun vs H Q _=>∃ x dx c,vs=[.ref x,c]∧H x=some (.ins C dx [])∧Q .non (upd H x (.ins C dx [("cells",c),("backs",.bl true)]))
def jHa (cO cB cS:Addr):Sp:=fun vs H Q _=>∃ a l,vs=[.ref a]∧Ly.Ok l∧LyAt cO cB cS H a l∧Q (.int (l.per:Int)) H
def jCb (cO cB cS:Addr):Sp:=fun vs H Q _=>∃ a l f n,vs=[.ref a,.int f,.int n]∧Ly.Ok l∧LyAt cO cB cS H a l∧-(2 ^ 20)≤f∧f≤2 ^ 20∧∀ y H',jAo H H'→New H H' (fun H3=>jDW H H3 y (jDV l n f))→Q y H'
def jFP (cO cB cS:Addr):Sp:=fun vs H Q _=>∃ a l,∃ n:Nat,vs=[.ref a,.int (n:Int)]∧Ly.Ok l∧LyAt cO cB cS H a l∧1≤n∧n≤999∧∀ p H',jAo H H'→H p=none→jMG H H' p (jC3 l n)→Q (.ref p) H'
def jHb (cO cB cS:Addr):Sp:=fun vs H Q _=>∃ l,vs=[.str (Ly.text l)]∧Ly.Ok l∧∀ a H',jAo H H'→H a=none→LyAt cO cB cS H' a l→Q (.ref a) H'
theorem jKC:jAl ["first","many","pages"] ["first","many","pages"] (jAh jEB):=scM
include T in
theorem jKD (F:Fun K "cells_from" "cells_from" jEB fa fd)  :
    jAq P w K mg base CX0 1 fa fd ["first","many","pages"] (jGL K):=by
  refine F.ok jKC (fun vs H Q E h=>?_) (fun cdv A outer s H vs Q E hr h=>?_)
  · obtain ⟨f,n,m,rfl,_⟩:=h
    rfl
  obtain ⟨f,n,m,rfl,f0,f1,hm,q⟩:=h
  refine ⟨_,(jAe (jAm (jCg (frees:=[ ("pages",2) ]) ⟨by decide +kernel,rfl,rfl,by decide +kernel,⟨⟨rfl,rfl,rfl,by decide +kernel⟩,trivial⟩,by decide +kernel,jBd rfl,rfl⟩ rfl (jNd rfl T.ar (jAa (pv 0) (jAa (jAB jA2 (pv 0) (pv 1)) jAd))) (fun _ _ _ _=>jCo) (fun _ _ _ _=>by exact (jCk (tcA op_le (pv 0) (pv 1)) (pv 0) (jEg T.aY rfl)))))),?_⟩
  refine ⟨_,rfl,_,rfl,_,rfl,_,_,rfl,rfl,_,_,rfl,⟨by omega,by omega,by omega,by omega⟩,?_⟩
  rw [show (f + (m:Int) - f).toNat=m from by omega]
  refine jCW (jDT f m H) (fun _=>true) (fun v=>match v with | .int x=>.int (if x≤n then x else 0) | v=>v) ?_ (fun x hx H' R _ r=>r) (fun x hx H' R sm _ r=>?_) (fun D H' sm hD hH=>?_)
  · rw [List.length_map,List.length_range]
    exact jAX (by omega)
  · obtain ⟨i,_,rfl⟩:=List.mem_map.mp hx
    refine ⟨_,rfl,_,rfl,_,_,rfl,rfl,_,rfl,?_⟩
    refine jBp (fun c=>⟨_,rfl,?_⟩) (fun c=>?_)
    · have c':=of_decide_eq_true c
      dsimp only at r
      rw [if_pos c'] at r
      exact r
    · have c':¬ (f + ((i:Nat):Int)≤n):=fun z=>c (decide_eq_true z)
      dsimp only at r
      rw [if_neg c'] at r
      exact r
  · refine q D H' sm hD ?_
    rw [hH,List.filter_eq_self.mpr (fun _ _=>rfl),List.map_map]
    unfold jFJ
    rw [List.map_map]
    rfl
theorem jJC:jAl ["self","cells","backs"] ["self","cells","backs"] (jAh jD0):=scM
include T in
theorem jJD (F:Fun K "__init__" "Layout.__init__" jD0 fa fd)  :
    jAq P w K mg base CX0 1 fa fd ["self","cells","backs"] (jB2 K):=by
  refine F.ok jJC (fun vs H Q E h=>?_) (fun cdv A outer s H vs Q E hr h=>?_)
  · obtain ⟨x,dx,C,c,b,rfl,_⟩:=h
    rfl
  obtain ⟨x,dx,C,c,b,rfl,hx,cl,n1,n2,q⟩:=h
  refine ⟨_,(jAb (jAI (pv 0) (pv 1) rfl) (jAe (jAI (pv 0) (pv 2) rfl))),?_⟩
  refine ⟨_,rfl,_,rfl,x,C,dx,_,rfl,hx,cl,n1,(by decide),?_⟩
  refine ⟨_,rfl,_,rfl,x,C,dx,_,rfl,jAc,cl,n2,(by show 1 < 1000;decide),?_⟩
  rw [jBE]
  exact q
theorem jL4:jAl ["self"] ["self"] (jAh jGj):=scM
include T in
theorem jL5 (F:Fun K "__init__" "One.__init__" jGj fa fd) (Dal:InD P w K mg base 1 "Layout" yQ ["self","cells","backs"] (jB2 K)) :
    jAq P w K mg base CX0 2 fa fd ["self"] (jGw yZ [("cells",.int 1),("backs",.bl false)]):=by
  refine F.ok jL4 (fun vs H Q E h=>?_) (fun cdv A outer s H vs Q E hr h=>?_)
  · obtain ⟨x,dx,rfl,_⟩:=h
    rfl
  obtain ⟨x,dx,rfl,hx,q⟩:=h
  refine ⟨_,(jAe (jAJ (jDm Dal hr.m rfl (jAa (pv 0) (jAa jAg (jAa jBC jAd)))))),?_⟩
  exact ⟨_,rfl,x,dx,_,_,_,rfl,hx,T.aH,T.bd,T.bf,q⟩
theorem jLt:jAl ["self"] ["self"] (jAh jFk):=scM
include T in
theorem jLu (F:Fun K "__init__" "Both.__init__" jFk fa fd) (Dal:InD P w K mg base 1 "Layout" yQ ["self","cells","backs"] (jB2 K)) :
    jAq P w K mg base CX0 2 fa fd ["self"] (jGw yX [("cells",.int 1),("backs",.bl true)]):=by
  refine F.ok jLt (fun vs H Q E h=>?_) (fun cdv A outer s H vs Q E hr h=>?_)
  · obtain ⟨x,dx,rfl,_⟩:=h
    rfl
  obtain ⟨x,dx,rfl,hx,q⟩:=h
  refine ⟨_,(jAe (jAJ (jDm Dal hr.m rfl (jAa (pv 0) (jAa jAg (jAa jBC jAd)))))),?_⟩
  exact ⟨_,rfl,x,dx,_,_,_,rfl,hx,T.aI,T.bg,T.bi,q⟩
theorem jIW:jAl ["self","many"] ["self","many"] (jAh jDq):=scM
include T in
theorem jIX (F:Fun K "__init__" "Several.__init__" jDq fa fd) (Dal:InD P w K mg base 1 "Layout" yQ ["self","cells","backs"] (jB2 K)) :
    jAq P w K mg base CX0 2 fa fd ["self","many"] (jE8 yY):=by
  refine F.ok jIW (fun vs H Q E h=>?_) (fun cdv A outer s H vs Q E hr h=>?_)
  · obtain ⟨x,dx,c,rfl,_⟩:=h
    rfl
  obtain ⟨x,dx,c,rfl,hx,q⟩:=h
  refine ⟨_,(jAe (jAJ (jDm Dal hr.m rfl (jAa (pv 0) (jAa (pv 1) (jAa jBC jAd)))))),?_⟩
  exact ⟨_,rfl,_,rfl,x,dx,_,_,_,rfl,hx,T.aJ,T.bj,T.bn,q⟩
theorem jGR:jAl ["self"] ["self"] (jAh jCs):=scM
include T in
theorem jGS (F:Fun K "per_sheet" "Layout.per_sheet" jCs fa fd)  :
    jAq P w K mg base CX0 1 fa fd ["self"] (jHa yZ yX yY):=by
  refine F.ok jGR (fun vs H Q E h=>?_) (fun cdv A outer s H vs Q E hr h=>?_)
  · obtain ⟨a,l,rfl,_⟩:=h
    rfl
  obtain ⟨a,l,rfl,ok,⟨dx,hx⟩,q⟩:=h
  have hc:=Ly.cells_pos ok
  refine ⟨_,(jAe (jAm (jCk (jAN (jAp (pv 0) rfl) (fun _=>rfl)) (jAB jEv jAg (jAp (pv 0) rfl)) (jAp (pv 0) rfl)))),?_⟩
  have cl:Cls K (LyC yZ yX yY l)∧jAu K (LyC yZ yX yY l) "cells"∧jAu K (LyC yZ yX yY l) "backs":=by
    cases l with
    | one=>exact ⟨T.aH,T.bd,T.bf⟩
    | both=>exact ⟨T.aI,T.bg,T.bi⟩
    | up n=>exact ⟨T.aJ,T.bj,T.bn⟩
  refine ⟨_,rfl,a,_,dx,_,_,rfl,hx,cl.1,cl.2.2,rfl,l.backs,rfl,?_⟩
  unfold Ly.per at q
  cases hb:l.backs with
  | true =>
    rw [hb,if_pos rfl] at q
    refine jAP ⟨_,rfl,a,_,dx,_,_,rfl,hx,cl.1,cl.2.1,rfl,_,_,rfl,rfl,.inl ⟨by decide,by decide⟩,?_⟩
    have e:(2:Int) * (l.cells:Int)=((2 * l.cells:Nat):Int):=by omega
    show Q (V.int ((2:Int) * (l.cells:Int))) H
    rw [e]
    exact q
  | false =>
    rw [hb,if_neg (by decide)] at q
    exact jAK ⟨_,rfl,a,_,dx,_,_,rfl,hx,cl.1,cl.2.1,rfl,q⟩
theorem jC9:jAl ["self","first","pages","front"] ["self","first","pages"] (jAh jCh):=scM
include T in
theorem jGx (F:Fun K "sheet_from" "Layout.sheet_from" jCh fa fd) (DaG:Dfn P w K mg base 1 "cells_from" ["first","many","pages"] (jGL K)) :
    jAq P w K mg base CX0 2 fa fd ["self","first","pages"] (jCb yZ yX yY):=by
  refine F.ok jC9 (fun vs H Q E h=>?_) (fun cdv A outer s H vs Q E hr h=>?_)
  · obtain ⟨a,l,f,n,rfl,_⟩:=h
    rfl
  obtain ⟨a,l,f,n,rfl,ok,⟨dx,hx⟩,f0,f1,q⟩:=h
  have hc:=Ly.cells_pos ok
  refine ⟨_,(jAb (psA (i:=3) jC9.nd (jAv DaG hr.m rfl (jAa (pv 1) (jAa (jAp (pv 0) rfl) (jAa (pv 2) jAd))))) (jAb (jAC (jAN (jAp (pv 0) rfl) (fun _=>rfl)) (jAe (jAm (jAM (jAa (pv 3) (jAa (jAv DaG hr.m rfl (jAa (jAB jA2 (pv 1) (jAp (pv 0) rfl)) (jAa (jAp (pv 0) rfl) (jAa (pv 2) jAd)))) jAd))))) jAs) (jAe (jAm (jAM (jAa (pv 3) (jAa (jAB jK3 (jAS (jAa (jEg T.aY rfl) jAd)) (jAp (pv 0) rfl)) jAd))))))),?_⟩
  have cl:Cls K (LyC yZ yX yY l)∧jAu K (LyC yZ yX yY l) "cells"∧jAu K (LyC yZ yX yY l) "backs":=by
    cases l with
    | one=>exact ⟨T.aH,T.bd,T.bf⟩
    | both=>exact ⟨T.aI,T.bg,T.bi⟩
    | up n=>exact ⟨T.aJ,T.bj,T.bn⟩
  refine ⟨_,rfl,_,rfl,a,_,dx,_,_,rfl,hx,cl.1,cl.2.1,rfl,_,rfl,f,n,l.cells,rfl,by omega,by omega,by omega,fun p H1 s1 np hp=>?_⟩
  have hx1:=s1 _ _ hx
  refine ⟨_,rfl,a,_,dx,_,_,rfl,hx1,cl.1,cl.2.2,rfl,l.backs,rfl,?_⟩
  have fin:∀ (b:Addr) (H2:Hp) (bs:List Int),jAo H1 H2→H1 b=none→H2 b=some (.lst (bs.map V.int))→(jDV l n f).2=bs→∀ t,H2 t=none→Q (.ref t) (upd H2 t (.tup [.ref p,.ref b])):=fun b H2 bs s2 nb hb eb t nt=>by
    have hp2:=s2 _ _ hp
    refine q _ _ ((s1.trans s2).trans (jAk nt _)) ⟨fun z=>z=t∨z=p∨z=b,?_,fun H3 h3=>⟨t,p,b,rfl,?_,?_,?_,(s1.trans s2).free nt,np,s1.free nb⟩⟩
    · rintro z (rfl | rfl | rfl)
      · exact ⟨(s1.trans s2).free nt,_,jAc⟩
      · exact ⟨np,_,by rw [jAj (jAf hp2 nt)];exact hp2⟩
      · exact ⟨s1.free nb,_,by rw [jAj (jAf hb nt)];exact hb⟩
    · rw [h3 t (.inl rfl)];exact jAc
    · rw [h3 p (.inr (.inl rfl)),jAj (jAf hp2 nt)];exact hp2
    · rw [h3 b (.inr (.inr rfl)),jAj (jAf hb nt),eb];exact hb
  cases hb:l.backs with
  | true =>
    refine jAP ⟨_,rfl,_,rfl,_,rfl,a,_,dx,_,_,rfl,hx1,cl.1,cl.2.1,rfl,_,_,rfl,rfl,_,rfl,a,_,dx,_,_,rfl,hx1,cl.1,cl.2.1,rfl,_,rfl,f + (l.cells:Int),n,l.cells,rfl,by omega,by omega,by omega,fun b H2 s2 nb hb2=>⟨small (by show 2≤1000;decide),fun t nt=>?_⟩⟩
    exact fin b H2 _ s2 nb hb2 (by unfold jDV;rw [hb,if_pos rfl]) t nt
  | false =>
    refine jAK ⟨_,rfl,small (by show 1≤1000;decide),fun z nz=>⟨_,rfl,a,_,dx,_,_,rfl,(jAk nz _ _ _ hx1),cl.1,cl.2.1,rfl,z,_,_,rfl,rfl,jAc,by omega,by omega,?_,fun b nb=>⟨small (by show 2≤1000;decide),fun t nt=>?_⟩⟩⟩
    · refine Nat.le_of_lt (jAX ?_)
      show 1 * ((l.cells:Int).toNat)≤1000
      omega
    · refine fin b _ (List.replicate l.cells 0) ((jAk nz _).trans (jAk nb _)) ((jAk nz _).free nb) ?_ (by unfold jDV;rw [hb,if_neg (by decide)]) t nt
      rw [jAc]
      congr 2
      rw [Int.toNat_natCast]
      clear fin q
      induction l.cells with
      | zero=>rfl
      | succ k ih=>rw [List.replicate_succ,List.replicate_succ,List.flatten_cons,List.map_cons,ih];rfl
theorem jJE:jAl ["self","pages"] ["self","pages"] (jAh jD1):=scM
include T in
theorem jJF (F:Fun K "laid" "Layout.laid" jD1 fa fd) (Da3:MtE P w K mg base 1 "per_sheet" yZ ["self"] (jHa yZ yX yY)) (Da4:MtE P w K mg base 1 "per_sheet" yX ["self"] (jHa yZ yX yY)) (Da5:MtE P w K mg base 1 "per_sheet" yY ["self"] (jHa yZ yX yY)) (Da6:MtE P w K mg base 2 "sheet_from" yZ ["self","first","pages"] (jCb yZ yX yY)) (Da7:MtE P w K mg base 2 "sheet_from" yX ["self","first","pages"] (jCb yZ yX yY)) (Da8:MtE P w K mg base 2 "sheet_from" yY ["self","first","pages"] (jCb yZ yX yY)) :
    jAq P w K mg base CX0 3 fa fd ["self","pages"] (jFP yZ yX yY):=by
  refine F.ok jJE (fun vs H Q E h=>?_) (fun cdv A outer s H vs Q E hr h=>?_)
  · obtain ⟨a,l,n,rfl,_⟩:=h
    rfl
  obtain ⟨a,l,n,rfl,ok,hl,n0,n1,q⟩:=h
  have hp:=Ly.per_pos ok
  refine ⟨_,(jAe (jAm (jCg (frees:=[ ("pages",1) ,("self",0) ]) ⟨by decide +kernel,rfl,rfl,by decide +kernel,⟨⟨rfl,rfl,rfl,by decide +kernel⟩,⟨⟨rfl,rfl,rfl,by decide +kernel⟩,trivial⟩⟩,by decide +kernel,jBd rfl,rfl⟩ rfl (jNI rfl T.ar (jAa (jEg T.bG rfl) (jAa (jAB jA2 (pv 1) jAg) (jAa (jAt 1 jBa hr.m (pv 0)) jAd)))) (fun _ _ _ _=>jCo) (fun _ _ _ _=>by exact (jNG (P:=P) (w:=w) (K:=K) (mg:=mg) (base:=base) ⟨rfl,rfl,rfl,rfl,rfl⟩ 2 jBa hr.m (pv 2) (jAa (pv 0) (jAa (pv 1) jAd))))))),?_⟩
  obtain ⟨dx,hx⟩:=id hl
  have cl:Cls K (LyC yZ yX yY l):=by
    cases l with
    | one=>exact T.aH
    | both=>exact T.aI
    | up n=>exact T.aJ
  have D1:MtE P w K mg base 1 "per_sheet" (LyC yZ yX yY l) ["self"] (jHa yZ yX yY):=by
    cases l with
    | one=>exact Da3
    | both=>exact Da4
    | up n=>exact Da5
  have D2:MtE P w K mg base 2 "sheet_from" (LyC yZ yX yY l) ["self","first","pages"] (jCb yZ yX yY):=by
    cases l with
    | one=>exact Da6
    | both=>exact Da7
    | up n=>exact Da8
  refine ⟨_,rfl,_,_,rfl,rfl,_,rfl,a,_,dx,_,_,_,rfl,hx,rfl,cl,D1,a,l,rfl,ok,hl,_,_,_,rfl,⟨by decide,by decide,by omega,by omega,by omega,by omega⟩,?_⟩
  have hm:(n - 1) / l.per * l.per≤n - 1:=Nat.div_mul_le_self _ _
  have hm2:(n - 1) / l.per≤n - 1:=Nat.div_le_self _ _
  have ec:(if (1:Int) < (n:Int) + 1 then ((n:Int) + 1 - 1 - 1) / (l.per:Int) + 1 else 0).toNat=jBI l n:=by
    rw [if_pos (by omega),show (n:Int) + 1 - 1 - 1=((n - 1:Nat):Int) from by omega,← Int.natCast_ediv]
    unfold jBI
    generalize (n - 1) / l.per=z
    omega
  rw [ec]
  refine jEz (jMX 1 (l.per:Int) (jBI l n) H) (fun x y H3=>∃ f:Int,x=.int f∧jDW H H3 y (jDV l n f)) ?_ (fun x hx' H' R _ r=>r) (fun x hx' H' R sm r=>?_) (fun D H' ys sm hD hH hl' hg=>?_)
  · rw [List.length_map,List.length_range]
    unfold jBI
    exact jAX (by omega)
  · obtain ⟨i,hi,rfl⟩:=List.mem_map.mp hx'
    have hi':i < (n - 1) / l.per + 1:=List.mem_range.mp hi
    have hb:i * l.per≤(n - 1) / l.per * l.per:=Nat.mul_le_mul_right _ (by omega)
    have hb2:((i:Nat):Int) * (l.per:Int)=((i * l.per:Nat):Int):=by rw [Int.natCast_mul]
    refine ⟨_,rfl,a,_,dx,_,_,_,rfl,sm _ _ hx,rfl,cl,D2,_,rfl,_,rfl,a,l,_,_,rfl,ok,hl.same sm,by omega,by omega,fun y H'' s2 nw=>r y H'' s2 ?_⟩
    obtain ⟨Z,z1,z2⟩:=nw
    exact ⟨Z,z1,fun H3 h3=>⟨_,rfl,(z2 H3 h3).old sm⟩⟩
  · refine q D H' sm hD ⟨ys,hH,?_,fun i y s ey es=>?_⟩
    · rw [hl']
      unfold jC3
      simp only [List.length_range,List.length_map]
    · have hi:i < jBI l n:=by
        have:=(List.getElem?_eq_some_iff.mp ey).1
        rw [hl',List.length_map,List.length_range] at this
        exact this
      unfold jC3 at es
      rw [List.getElem?_map,List.getElem?_range hi] at es
      obtain rfl:=Option.some.inj es
      obtain ⟨f,ef,g⟩:=hg i _ y (by rw [List.getElem?_map,List.getElem?_range hi];rfl) ey
      cases ef
      exact g
theorem jLv:jAl ["text"] ["text"] (jAh jFl):=scM
include T in
theorem jLw (F:Fun K "layout_of" "layout_of" jFl fa fd) (Da9:MkD P w K mg base 2 "Several" yY ["self","many"] (jE8 yY)) (Dba:MkD P w K mg base 2 "One" yZ ["self"] (jGw yZ [("cells",.int 1),("backs",.bl false)])) (Dbb:MkD P w K mg base 2 "Both" yX ["self"] (jGw yX [("cells",.int 1),("backs",.bl true)])) :
    jAq P w K mg base CX0 4 fa fd ["text"] (jHb yZ yX yY):=by
  refine F.ok jLv (fun vs H Q E h=>?_) (fun cdv A outer s H vs Q E hr h=>?_)
  · obtain ⟨l,rfl,_⟩:=h
    rfl
  obtain ⟨l,rfl,ok,q⟩:=h
  refine ⟨_,(jAb (jAC (tcA jAZ (pv 0) jAi) (jAe (jAm (jCq Dba hr.m rfl))) jAs) (jAb (jAC (tcA jAZ (pv 0) jAi) (jAe (jAm (jCq Dbb hr.m rfl))) jAs) (jAe (jAm (jCp Da9 hr.m rfl (jAa (jBQ jGJ rfl T.aV jK7 (jAa (jBT jK_ (pv 0) (jCd (jAG jKZ rfl T.ae PySem.boot_len (jAa (jCy T.UP rfl) jAd))) jCc) jAd)) jAd)))))),?_⟩
  refine ⟨_,rfl,rfl,_,rfl,?_⟩
  cases l with
  | one=>exact jFL rfl fun x dx nx nd ne=>⟨x,dx,rfl,jAc,rfl,q x _ (jE7 nx nd) nx ⟨dx,jAc⟩⟩
  | both=>exact jCz (by decide +kernel) ⟨_,rfl,rfl,_,rfl,jFL rfl fun x dx nx nd ne=>⟨x,dx,rfl,jAc,rfl,q x _ (jE7 nx nd) nx ⟨dx,jAc⟩⟩⟩
  | up n =>
    obtain ⟨u1,u2,u3,u4,u5⟩:=jNK ok.1 ok.2
    have l3:(((Str.ofString "up:").length:Nat):Int)=3:=by decide +kernel
    refine jCz (by intro z;injection z with z;exact u3 z) ⟨_,rfl,rfl,_,rfl,jCz (by intro z;injection z with z;exact u4 z) ?_⟩
    refine ⟨_,rfl,_,rfl,(by decide +kernel),_,rfl,_,rfl,small (Nat.le_trans u5 (by decide)),?_⟩
    rw [l3]
    exact ⟨_,_,rfl,u1,Nat.le_trans u2 (by decide),fun x dx nx nd ne=>⟨x,dx,_,rfl,jAc,rfl,q x _ (jE7 nx nd) nx ⟨dx,jAc⟩⟩⟩
end
end My
namespace My
open PySem L2
open Blk (sg sg_inj sg_app)
section
variable {P:Program} {w:World} {K:PySem.W.Frag} {mg:Str→Option Value} {base:Heap} {fa yQ yZ yX yY yV yJ yW yU yK yG cQ cZ cV cK cG vQ vZ vX vY:Addr} {fd:FuncData} (T:Txt K mg yQ yZ yX yY yV yJ yW yU yK yG cQ cZ cV cK cG vQ vZ vX vY)
def jHS (C:Addr):Sp:=fun vs H Q _=>∃ (x dx:Addr) (a b c d e f g h i j:V),vs=[.ref x,a,b,c,d,e,f,g,h,i,j]∧H x=some (.ins C dx [])∧Q .non (upd H x (.ins C dx (jCK a b c d e f g h i j)))
theorem jF0 (a b c d e f g h i j:V):(jCK a b c d e f g h i j).lookup ("name":Str)=some a:=rfl
theorem jF2 (a b c d e f g h i j:V):(jCK a b c d e f g h i j).lookup ("pages":Str)=some c:=rfl
theorem jF3 (a b c d e f g h i j:V):(jCK a b c d e f g h i j).lookup ("copies":Str)=some d:=rfl
theorem jF4 (a b c d e f g h i j:V):(jCK a b c d e f g h i j).lookup ("layout":Str)=some e:=rfl
theorem jF5 (a b c d e f g h i j:V):(jCK a b c d e f g h i j).lookup ("paper":Str)=some f:=rfl
theorem jF6 (a b c d e f g h i j:V):(jCK a b c d e f g h i j).lookup ("cover":Str)=some g:=rfl
theorem jF7 (a b c d e f g h i j:V):(jCK a b c d e f g h i j).lookup ("colour":Str)=some h:=rfl
theorem jL6:jAl ["self","name","asker","pages","copies","layout","paper","cover","colour","staple","after"] ["self","name","asker","pages","copies","layout","paper","cover","colour","staple","after"] (jAh jGq):=scM
include T in
theorem jL7 (F:Fun K "__init__" "Job.__init__" jGq fa fd)  :
    jAq P w K mg base CX0 1 fa fd ["self","name","asker","pages","copies","layout","paper","cover","colour","staple","after"] (jHS yG):=by
  refine F.ok jL6 (fun vs H Q E h=>?_) (fun cdv A outer s H vs Q E hr h=>?_)
  · obtain ⟨x,dx,a,b,c,d,e,f,g,h,i,j,rfl,_⟩:=h
    rfl
  obtain ⟨x,dx,a,b,c,d,e,f,g,h,i,j,rfl,hx,q⟩:=h
  refine ⟨_,(jAb (jAI (pv 0) (pv 1) rfl) (jAb (jAI (pv 0) (pv 2) rfl) (jAb (jAI (pv 0) (pv 3) rfl) (jAb (jAI (pv 0) (pv 4) rfl) (jAb (jAI (pv 0) (pv 5) rfl) (jAb (jAI (pv 0) (pv 6) rfl) (jAb (jAI (pv 0) (pv 7) rfl) (jAb (jAI (pv 0) (pv 8) rfl) (jAb (jAI (pv 0) (pv 9) rfl) (jAe (jAI (pv 0) (pv 10) rfl))))))))))),?_⟩
  refine ⟨_,rfl,_,rfl,x,yG,dx,_,rfl,hx,T.ad,T.aD,(by show 0 < 1000;decide),?_⟩
  rw [jBH (by show ¬ ("name":Str)∈([]:List Str);decide +kernel)]
  refine ⟨_,rfl,_,rfl,x,yG,dx,_,rfl,jAc,T.ad,T.bL,(by show 1 < 1000;decide),?_⟩
  rw [jBE,jBH (by show ¬ ("asker":Str)∈(["name"]:List Str);decide +kernel)]
  refine ⟨_,rfl,_,rfl,x,yG,dx,_,rfl,jAc,T.ad,T.bz,(by show 2 < 1000;decide),?_⟩
  rw [jBE,jBH (by show ¬ ("pages":Str)∈(["name","asker"]:List Str);decide +kernel)]
  refine ⟨_,rfl,_,rfl,x,yG,dx,_,rfl,jAc,T.ad,T.bA,(by show 3 < 1000;decide),?_⟩
  rw [jBE,jBH (by show ¬ ("copies":Str)∈(["name","asker","pages"]:List Str);decide +kernel)]
  refine ⟨_,rfl,_,rfl,x,yG,dx,_,rfl,jAc,T.ad,T.bB,(by show 4 < 1000;decide),?_⟩
  rw [jBE,jBH (by show ¬ ("layout":Str)∈(["name","asker","pages","copies"]:List Str);decide +kernel)]
  refine ⟨_,rfl,_,rfl,x,yG,dx,_,rfl,jAc,T.ad,T.aQ,(by show 5 < 1000;decide),?_⟩
  rw [jBE,jBH (by show ¬ ("paper":Str)∈(["name","asker","pages","copies","layout"]:List Str);decide +kernel)]
  refine ⟨_,rfl,_,rfl,x,yG,dx,_,rfl,jAc,T.ad,T.bq,(by show 6 < 1000;decide),?_⟩
  rw [jBE,jBH (by show ¬ ("cover":Str)∈(["name","asker","pages","copies","layout","paper"]:List Str);decide +kernel)]
  refine ⟨_,rfl,_,rfl,x,yG,dx,_,rfl,jAc,T.ad,T.bC,(by show 7 < 1000;decide),?_⟩
  rw [jBE,jBH (by show ¬ ("colour":Str)∈(["name","asker","pages","copies","layout","paper","cover"]:List Str);decide +kernel)]
  refine ⟨_,rfl,_,rfl,x,yG,dx,_,rfl,jAc,T.ad,T.bM,(by show 8 < 1000;decide),?_⟩
  rw [jBE,jBH (by show ¬ ("staple":Str)∈(["name","asker","pages","copies","layout","paper","cover","colour"]:List Str);decide +kernel)]
  refine ⟨_,rfl,_,rfl,x,yG,dx,_,rfl,jAc,T.ad,T.bN,(by show 9 < 1000;decide),?_⟩
  rw [jBE,jBH (by show ¬ ("after":Str)∈(["name","asker","pages","copies","layout","paper","cover","colour","staple"]:List Str);decide +kernel)]
  exact q
end
end My
namespace My
open PySem L2
open Blk (sg sg_inj sg_app)
section
variable {P:Program} {w:World} {K:PySem.W.Frag} {mg:Str→Option Value} {base:Heap} {fa yQ yZ yX yY yV yJ yW yU yK yG cQ cZ cV cK cG vQ vZ vX vY:Addr} {fd:FuncData} (T:Txt K mg yQ yZ yX yY yV yJ yW yU yK yG cQ cZ cV cK cG vQ vZ vX vY)
structure Jv where
  n:Nat
  l:Ly
  paper:Str
  cover:Option Str
  colour:Option (Int×Int)
def Jv.Ok (j:Jv):Prop:=1≤j.n∧j.n≤999∧Ly.Ok j.l
def oV:Option Str→V
  | some z=>.str z
  | none=>.non
def jGy (H:Hp) (v:V):Option (Int×Int)→Prop
  | none=>v=.non
  | some c=>∃ t,v=.ref t∧H t=some (.tup [.int c.1,.int c.2])
theorem jGy.same {H H':Hp} {v:V} {c:Option (Int×Int)} (h:jGy H v c) (k:jAo H H'):jGy H' v c:=by
  cases c with
  | none=>exact h
  | some c=>obtain ⟨t,e,g⟩:=h;exact ⟨t,e,k _ _ g⟩
def JO (C:Addr) (H:Hp) (x:Addr) (j:Jv):Prop:=∃ dx a b d i k cv,H x=some (.ins C dx (jCK a b (.int (j.n:Int)) d (.str (Ly.text j.l)) (.str j.paper) (oV j.cover) cv i k))∧jGy H cv j.colour
def jHz (c:Option (Int×Int)) (x:Int):Bool:=match c with
  | none=>false
  | some c=>decide (c.1≤x) && decide (x≤c.2)
def jCt (s:List Int×List Int):List Int:=(s.1 ++ s.2).filter fun x=>decide (x≠0)
def inkS (s:List Int×List Int) (c:Option (Int×Int)):Int×Int:=(((jCt s).length:Int) - (((jCt s).filter (jHz c)).length:Int),(((jCt s).filter (jHz c)).length:Int))
def jHc (cJ:Addr):Sp:=fun vs H Q _=>∃ x j,vs=[.ref x]∧JO cJ H x j∧j.Ok∧∀ p H',jAo H H'→H p=none→jMG H H' p (jC3 j.l j.n)→Q (.ref p) H'
def jHT (cJ:Addr):Sp:=fun vs H Q _=>∃ x j,∃ s:Int,vs=[.ref x,.int s]∧JO cJ H x j∧Q (.str (if s=0 then j.cover.getD j.paper else j.paper)) H
def jKd (K:PySem.W.Frag):Sp:=fun vs H Q _=>∃ (t:V) (cv:V) (s:List Int×List Int) (c:Option (Int×Int)),vs=[t,cv]∧jDG H t s∧s.1.length≤100∧s.2.length≤100∧jGy H cv c∧∀ p H',jAo H H'→H p=none→H' p=some (.tup [.int (inkS s c).1,.int (inkS s c).2])→Q (.ref p) H'
def jFQ (K:PySem.W.Frag):Sp:=fun vs H Q _=>∃ (x:Int) (cv:V) (c:Option (Int×Int)),vs=[.int x,cv]∧jGy H cv c∧Q (.bl (jHz c x)) H
theorem LyD {K:PySem.W.Frag} {cO cB cS:Addr} {M:Addr→Prop} (l:Ly) (h0:M cO) (h1:M cB) (h2:M cS):M (LyC cO cB cS l):=by
  cases l with
  | one=>exact h0
  | both=>exact h1
  | up n=>exact h2
theorem jLx:jAl ["job"] ["job"] (jAh jFm):=scM
include T in
theorem jLy (F:Fun K "sheets_of" "sheets_of" jFm fa fd) (Dbc:Dfn P w K mg base 4 "layout_of" ["text"] (jHb yZ yX yY)) (Dbd:MtE P w K mg base 3 "laid" yZ ["self","pages"] (jFP yZ yX yY)) (Dbe:MtE P w K mg base 3 "laid" yX ["self","pages"] (jFP yZ yX yY)) (Dbf:MtE P w K mg base 3 "laid" yY ["self","pages"] (jFP yZ yX yY)) :
    jAq P w K mg base CX0 5 fa fd ["job"] (jHc yG):=by
  refine F.ok jLx (fun vs H Q E h=>?_) (fun cdv A outer s H vs Q E hr h=>?_)
  · obtain ⟨x,j,rfl,_⟩:=h
    rfl
  obtain ⟨x,j,rfl,⟨dx,a,b,d,i,k,cv,hx,_⟩,⟨n0,n1,ok⟩,q⟩:=h
  refine ⟨_,(jAe (jAm (jAR 3 jBa hr.m (jAv Dbc hr.m rfl (jAa (jAp (pv 0) rfl) jAd)) (jAa (jAp (pv 0) rfl) jAd)))),?_⟩
  refine ⟨_,rfl,x,yG,dx,_,_,rfl,hx,T.ad,T.bB,jF4 _ _ _ _ _ _ _ _ _ _,j.l,rfl,ok,fun y H1 s1 ny Y=>?_⟩
  obtain ⟨dy,hy⟩:=id Y
  refine ⟨y,_,dy,_,_,_,rfl,hy,rfl,LyD (K:=K) (M:=fun C=>Cls K C) j.l T.aH T.aI T.aJ,LyD (K:=K) (M:=fun C=>MtE P w K mg base 3 "laid" C ["self","pages"] (jFP yZ yX yY)) j.l Dbd Dbe Dbf,?_⟩
  exact ⟨_,rfl,x,yG,dx,_,_,rfl,s1 _ _ hx,T.ad,T.bz,jF2 _ _ _ _ _ _ _ _ _ _,y,j.l,j.n,rfl,ok,Y,n0,n1,fun p H' s2 np SF=>q p H' (s1.trans s2) (s1.free np) (let ⟨ys,e1,e2,g⟩:=SF;⟨ys,e1,e2,fun i y s h1 h2=>(g i y s h1 h2).old s1⟩)⟩
theorem jL8:jAl ["job","sheet"] ["job","sheet"] (jAh jGk):=scM
include T in
theorem jL9 (F:Fun K "paper_of" "paper_of" jGk fa fd)  :
    jAq P w K mg base CX0 1 fa fd ["job","sheet"] (jHT yG):=by
  refine F.ok jL8 (fun vs H Q E h=>?_) (fun cdv A outer s H vs Q E hr h=>?_)
  · obtain ⟨x,j,s,rfl,_⟩:=h
    rfl
  obtain ⟨x,j,s,rfl,⟨dx,a,b,d,i,k,cv,hx,_⟩,q⟩:=h
  refine ⟨_,(jAb (jAC (PW.pt (jEt (tcA jAZ (pv 1) (jEg T.bH rfl)) (jEm (tcA jHq (jAp (pv 0) rfl) jAL)))) (jAe (jAm (jAp (pv 0) rfl))) jAs) (jAe (jAm (jAp (pv 0) rfl)))),?_⟩
  refine ⟨_,rfl,rfl,_,rfl,?_⟩
  by_cases hs:s=0
  · subst hs
    rw [if_pos rfl] at q
    refine jFL rfl ?_
    refine ⟨_,rfl,x,yG,dx,_,_,rfl,hx,T.ad,T.bq,jF6 _ _ _ _ _ _ _ _ _ _,(by cases j.cover <;> rfl),_,rfl,?_⟩
    cases e:j.cover with
    | none =>
      rw [e] at q
      exact jAK ⟨_,rfl,x,yG,dx,_,_,rfl,hx,T.ad,T.aQ,jF5 _ _ _ _ _ _ _ _ _ _,q⟩
    | some z =>
      rw [e] at q hx
      exact jAP ⟨_,rfl,x,yG,dx,_,_,rfl,hx,T.ad,T.bq,jF6 _ _ _ _ _ _ _ _ _ _,q⟩
  · rw [if_neg hs] at q
    exact jCz (by intro z;injection z with z;exact hs z) (jAK ⟨_,rfl,x,yG,dx,_,_,rfl,hx,T.ad,T.aQ,jF5 _ _ _ _ _ _ _ _ _ _,q⟩)
theorem jJG:jAl ["page","colour"] ["page","colour"] (jAh jD2):=scM
include T in
theorem jJH (F:Fun K "is_coloured" "is_coloured" jD2 fa fd)  :
    jAq P w K mg base CX0 1 fa fd ["page","colour"] (jFQ K):=by
  refine F.ok jJG (fun vs H Q E h=>?_) (fun cdv A outer s H vs Q E hr h=>?_)
  · obtain ⟨x,cv,c,rfl,_⟩:=h
    rfl
  obtain ⟨x,cv,c,rfl,hc,q⟩:=h
  refine ⟨_,(jAe (jAm (jEu (ecA jHq (pv 1) jAL) (jGT (jN7 op_le op_le (ixA jAE (pv 1) jAg) (pv 0) (ixA jAE (pv 1) jAg)))))),?_⟩
  cases c with
  | none =>
    have e:cv=.non:=hc
    subst e
    exact ⟨_,rfl,rfl,false,rfl,jAK q⟩
  | some c =>
    obtain ⟨t,rfl,ht⟩:=hc
    refine ⟨_,rfl,rfl,true,rfl,jAP ?_⟩
    refine ⟨_,rfl,t,_,_,_,rfl,rfl,SqT.of ht,jAz (j:=0) rfl,_,rfl,_,_,rfl,rfl,decide (c.1≤x),rfl,?_⟩
    have e:jHz (some c) x=(decide (c.1≤x) && decide (x≤c.2)):=rfl
    rw [e] at q
    cases h1:decide (c.1≤x) with
    | false =>
      rw [h1] at q
      exact jAK q
    | true =>
      rw [h1] at q
      exact jAP ⟨_,rfl,t,_,_,_,rfl,rfl,SqT.of ht,jAz (j:=1) rfl,_,_,rfl,rfl,q⟩
theorem jLz (xs:List Int) (p:Int→Bool):(((xs.map V.int).filter fun v=>match v with | .int x=>p x | _=>false).map fun v=>v)=(xs.filter p).map V.int:=by
  rw [List.map_id']
  induction xs with
  | nil=>rfl
  | cons x r ih =>
    rw [List.map_cons,List.filter_cons,List.filter_cons]
    dsimp only
    by_cases h:p x=true
    · rw [if_pos h,if_pos h,List.map_cons,ih]
    · rw [if_neg h,if_neg h,ih]
theorem jHd:jAl ["sheet","colour","printed","coloured"] ["sheet","colour"] (jAh jH5):=scM
include T in
theorem jNP (F:Fun K "ink_of" "ink_of" jH5 fa fd) (Dbg:Dfn P w K mg base 1 "is_coloured" ["page","colour"] (jFQ K)) :
    jAq P w K mg base CX0 2 fa fd ["sheet","colour"] (jKd K):=by
  refine F.ok jHd (fun vs H Q E h=>?_) (fun cdv A outer s H vs Q E hr h=>?_)
  · obtain ⟨t,cv,s,c,rfl,_⟩:=h
    rfl
  obtain ⟨t,cv,s,c,rfl,⟨ta,fa',ba,rfl,ht,hf,hb⟩,lf,lb,hc,q⟩:=h
  refine ⟨_,(jAb (jMx (i:=2) (frees:=[]) ⟨by decide +kernel,rfl,rfl,by decide +kernel,trivial,by decide +kernel,jBd rfl,rfl⟩ jHd.nd rfl rfl rfl (jBF (jAB jK2 (ixA jAE (pv 0) jAg) (ixA jAE (pv 0) jAg))) (fun _ _ _ _=>by exact (jGe (tcA jCv (pv 0) (jEg T.aY rfl)))) (fun _ _ _ _=>by exact (pv 0))) (jAb (psA (i:=3) jHd.nd (jAG jAF rfl T.ae PySem.boot_len (jAa (jCg (frees:=[ ("colour",1) ]) ⟨by decide +kernel,rfl,rfl,by decide +kernel,⟨⟨rfl,rfl,rfl,by decide +kernel⟩,trivial⟩,by decide +kernel,jBd rfl,rfl⟩ rfl (jBF (pv 2)) (fun _ _ _ _=>by exact (jGe (jNx (K:=K) rfl (jAv Dbg hr.m rfl (jAa (pv 0) (jAa (pv 1) jAd))) (fun _=>rfl)))) (fun _ _ _ _=>by exact (pv 0))) jAd))) (jAe (jAm (jAM (jAa (jAB jGV (jAG jAF rfl T.ae PySem.boot_len (jAa (pv 2) jAd)) (pv 3)) (jAa (pv 3) jAd))))))),?_⟩
  refine ⟨_,rfl,ta,_,_,_,rfl,rfl,SqT.of ht,jAz (j:=0) rfl,_,rfl,ta,_,_,_,rfl,rfl,SqT.of ht,jAz (j:=1) rfl,fa',ba,_,_,rfl,rfl,hf,hb,(by rw [List.length_map,List.length_map];exact small (by omega)),fun pc npc=>?_⟩
  rw [← List.map_append]
  have s1:=jAk npc (.lst ((s.1 ++ s.2).map V.int))
  refine ⟨pc,rfl,⟨_,SqL.of jAc⟩,jCW (jEy (K:=K) (SqL.of jAc)) (fun v=>match v with | .int x=>decide (x≠0) | _=>false) (fun v=>v) ?_ (fun x hx H' R _ r=>?_) (fun x hx H' R sm _ r=>⟨_,rfl,r⟩) (fun D H2 s2 hD hH=>?_)⟩
  · rw [List.length_map,List.length_append]
    exact jAX (by omega)
  · obtain ⟨y,_,rfl⟩:=List.mem_map.mp hx
    refine ⟨_,rfl,rfl,_,rfl,?_⟩
    have e:(!decide (V.int y=V.int 0))=decide (y≠0):=by
      by_cases h:y=0
      · rw [decide_eq_true (by rw [h]),decide_eq_false (fun z=>z h)];rfl
      · rw [decide_eq_false (by intro z;injection z with z;exact h z),decide_eq_true h];rfl
    rw [e]
    exact r
  rw [jLz] at hH
  have hH':H2 D=some (.lst ((jCt s).map V.int)):=hH
  have lp:(jCt s).length≤200:=by
    refine Nat.le_trans (List.length_filter_le _ _) ?_
    rw [List.length_append]
    omega
  have s12:=s1.trans s2
  refine ⟨_,rfl,D,rfl,⟨_,SqL.of hH'⟩,jCW (jEy (K:=K) (SqL.of hH')) (fun v=>match v with | .int x=>jHz c x | _=>false) (fun v=>v) ?_ (fun x hx H' R sm r=>?_) (fun x hx H' R sm _ r=>⟨_,rfl,r⟩) (fun D2 H3 s3 hD2 hH3=>?_)⟩
  · rw [List.length_map]
    exact jAX (by omega)
  · obtain ⟨y,_,rfl⟩:=List.mem_map.mp hx
    exact ⟨_,rfl,_,rfl,y,cv,c,rfl,(hc.same s12).same sm,_,rfl,r⟩
  rw [jLz] at hH3
  refine ⟨D2,_,rfl,.inl (SqL.of hH3),?_⟩
  refine ⟨_,rfl,D,_,rfl,.inl (SqL.of (s3 _ _ hH')),_,rfl,_,_,rfl,rfl,_,rfl,small (by show 2≤1000;decide),fun p np=>?_⟩
  refine q p _ ((s12.trans s3).trans (jAk np _)) ((s12.trans s3).free np) ?_
  rw [jAc]
  unfold inkS
  simp only [List.length_map]
end
end My
namespace My
open PySem L2
open Blk (sg sg_inj sg_app)
section
variable {P:Program} {w:World} {K:PySem.W.Frag} {mg:Str→Option Value} {base:Heap} {fa yQ yZ yX yY yV yJ yW yU yK yG cQ cZ cV cK cG vQ vZ vX vY:Addr} {fd:FuncData} (T:Txt K mg yQ yZ yX yY yV yJ yW yU yK yG cQ cZ cV cK cG vQ vZ vX vY)
def jE9 (K:PySem.W.Frag):Sp:=fun vs H Q _=>∃ (a:Addr) (k:Int) (ns:List Int),vs=[.ref a,.int k]∧SqL K H a (ns.map V.int)∧0≤k∧Q (.int (ns.getD k.toNat 0)) H
theorem jIY:jAl ["_law_script","_law_k"] ["_law_script","_law_k"] (jAh jDC):=scM
include T in
theorem jIZ (F:Fun K "_law_cell_at" "_law_cell_at" jDC fa fd)  :
    jAq P w K mg base CX0 1 fa fd ["_law_script","_law_k"] (jE9 K):=by
  refine F.ok jIY (fun vs H Q E h=>?_) (fun cdv A outer s H vs Q E hr h=>?_)
  · obtain ⟨a,k,ns,rfl,_⟩:=h
    rfl
  obtain ⟨a,k,ns,rfl,hS,k0,q⟩:=h
  refine ⟨_,(jAb (jAC (tcA jF9 (pv 1) (jAG jAF rfl T.ae PySem.boot_len (jAa (pv 0) jAd))) (jAe (jAm (ixA jAH (pv 0) (pv 1)))) jAs) (jAe (jAm jAg))),?_⟩
  refine ⟨_,rfl,_,rfl,a,_,rfl,.inl hS,_,_,rfl,rfl,_,rfl,?_⟩
  refine jBp (fun c=>?_) (fun c=>?_)
  · refine ⟨_,rfl,_,rfl,a,_,_,rfl,rfl,hS,k0,of_decide_eq_true c,fun v hv=>?_⟩
    rw [List.getElem?_map] at hv
    obtain ⟨z,ez,rfl⟩:=Option.map_eq_some_iff.mp hv
    rw [List.getD_eq_getElem?_getD,ez] at q
    exact q
  · have c':¬ k < ((ns.map V.int).length:Int):=fun z=>c (decide_eq_true z)
    rw [List.length_map] at c'
    rw [List.getD_eq_getElem?_getD,List.getElem?_eq_none (by omega)] at q
    exact q
def jBW (c k m:Int):Int:=((c % 1000003 + 1) * (k * k + 48271)) % (([65537,64007,62003]:List Int).getD (k % 3).toNat 1) % m
theorem jC_ {c k m:Int} (h:0 < m):0≤jBW c k m:=Int.emod_nonneg _ (by omega)
theorem jES {c k m:Int} (h:0 < m):jBW c k m < m:=Int.emod_lt_of_pos _ h
def jFB (K:PySem.W.Frag):Sp:=fun vs H Q _=>∃ c k m:Int,vs=[.int c,.int k,.int m]∧0≤k∧k≤10000∧0 < m∧∀ H',jAo H H'→Q (.int (jBW c k m)) H'
theorem jL_:jAl ["_law_cell","_law_k","_law_many"] ["_law_cell","_law_k","_law_many"] (jAh jGr):=scM
include T in
theorem jMa (F:Fun K "_law_mix" "_law_mix" jGr fa fd)  :
    jAq P w K mg base CX0 1 fa fd ["_law_cell","_law_k","_law_many"] (jFB K):=by
  refine F.ok jL_ (fun vs H Q E h=>?_) (fun cdv A outer s H vs Q E hr h=>?_)
  · obtain ⟨c,k,m,rfl,_⟩:=h
    rfl
  obtain ⟨c,k,m,rfl,k0,k1,m0,q⟩:=h
  have z3:3≤sizeLine:=small (by decide)
  refine ⟨_,(jAe (jAm (jAB jBP (jAB jBP (jAB jEv (jAB jA2 (jAB jBP (pv 0) jAg) jAg) (jAB jA2 (jAB jEv (pv 1) (pv 1)) jAg)) (ixA jAH (jAS (jAa jAg (jAa jAg (jAa jAg jAd)))) (jAB jBP (pv 1) jAg))) (pv 2)))),?_⟩
  have b0:=Int.emod_nonneg c (show (1000003:Int)≠0 by decide)
  have b1:=Int.emod_lt_of_pos c (show (0:Int) < 1000003 by decide)
  have d0:=Int.emod_nonneg k (show (3:Int)≠0 by decide)
  have d1:=Int.emod_lt_of_pos k (show (0:Int) < 3 by decide)
  refine ⟨_,rfl,_,_,rfl,rfl,(by show (0:Int) < 1000003;decide),_,_,rfl,rfl,_,rfl,_,rfl,_,_,rfl,rfl,.inr ⟨by omega,by omega⟩,_,_,rfl,rfl,_,_,rfl,rfl,.inl ⟨by omega,by omega⟩,z3,fun p np=>?_⟩
  have s1:=jAk np (.lst [V.int 65537,V.int 64007,V.int 62003])
  have h1:upd H p (.lst [V.int 65537,V.int 64007,V.int 62003]) p=some (.lst (([65537,64007,62003]:List Int).map V.int)):=jAc
  generalize upd H p (.lst [V.int 65537,V.int 64007,V.int 62003])=H1 at s1 h1 ⊢
  refine ⟨_,rfl,_,_,rfl,rfl,(by show (0:Int) < 3;decide),p,_,_,rfl,rfl,SqL.of h1,d0,(by show k % 3 < 3;exact d1),fun v hv=>?_⟩
  rw [List.getElem?_map] at hv
  obtain ⟨d,ed,rfl⟩:=Option.map_eq_some_iff.mp hv
  have hd:0 < d:=by
    have hm:=List.mem_of_getElem? ed
    simp only [List.mem_cons,List.not_mem_nil,or_false] at hm
    rcases hm with rfl | rfl | rfl <;> decide
  have eg:([65537,64007,62003]:List Int).getD (k % 3).toNat 1=d:=by rw [List.getD_eq_getElem?_getD,ed];rfl
  refine ⟨_,_,rfl,rfl,hd,_,rfl,_,_,rfl,rfl,m0,?_⟩
  have:=q H1 s1
  unfold jBW at this
  rw [eg] at this
  exact this
abbrev abc:Str:=Str.ofString "abcdefghijklmnopqrstuvwxyz"
def ltr5 (j:Nat):Nat:=abc.cps.toList.getD j 0
def stp (c t:Int) (k:Nat):Int:=c / 12 + (k:Int) * (k:Int) + (if (k:Int)=c / 144 % (1 + c % 12) then t else 0)
def jDa (c t:Int) (n:Nat):List Nat:=(List.range n).map fun k=>ltr5 (stp c t k % 26).toNat
def jE_ (c t:Int) (n:Nat):Str:=⟨(jDa c t n).toArray⟩
theorem jKe {c t:Int} {i:Nat} {S:Int} {ch:Nat} (e:S=stp c t i) (h:abc.cps.toList[(S % 26).toNat]?=some ch):jE_ c t i ++ (⟨#[ch]⟩:Str)=jE_ c t (i + 1):=by
  refine Blk.sg_inj ?_
  rw [Blk.sg_app]
  show jDa c t i ++ [ch]=jDa c t (i + 1)
  unfold jDa
  rw [List.range_succ,List.map_append]
  have:ltr5 (stp c t i % 26).toNat=ch:=by
    unfold ltr5
    rw [List.getD_eq_getElem?_getD,← e,h]
    rfl
  rw [List.map_cons,List.map_nil,this]
theorem jOs {c t:Int} {n:Nat}:(jE_ c t n).length=n:=by
  show (jDa c t n).toArray.size=n
  unfold jDa
  rw [List.size_toArray,List.length_map,List.length_range]
def jDb (c:Int):Nat:=(1 + c % 12).toNat
theorem jOt:∀ a b:Nat,a < 26→b < 26→ltr5 a=ltr5 b→a=b:=by
  have h:∀ a:Fin 26,∀ b:Fin 26,ltr5 a.1=ltr5 b.1→a=b:=by decide +kernel
  intro a b ha hb e
  exact congrArg Fin.val (h ⟨a,ha⟩ ⟨b,hb⟩ e)
theorem word_ne {c t u:Int} (t0:0≤t) (t1:t < 26) (u0:0≤u) (u1:u < 26) (e:jE_ c t (jDb c)=jE_ c u (jDb c)):t=u:=by
  have m0:=Int.emod_nonneg c (show (12:Int)≠0 by decide)
  have m1:=Int.emod_lt_of_pos c (show (0:Int) < 12 by decide)
  have ez:((jDb c:Nat):Int)=1 + c % 12:=by unfold jDb;omega
  have e2:jDa c t (jDb c)=jDa c u (jDb c):=congrArg Blk.sg e
  have p0:=Int.emod_nonneg (c / 144) (show (1 + c % 12:Int)≠0 by omega)
  have p1:=Int.emod_lt_of_pos (c / 144) (show (0:Int) < 1 + c % 12 by omega)
  obtain ⟨p,hp⟩:∃ p:Nat,(p:Int)=c / 144 % (1 + c % 12):=⟨(c / 144 % (1 + c % 12)).toNat,by omega⟩
  have hk:p < jDb c:=by omega
  have e3:(jDa c t (jDb c))[p]?=(jDa c u (jDb c))[p]?:=by rw [e2]
  unfold jDa at e3
  rw [List.getElem?_map,List.getElem?_map,List.getElem?_range hk] at e3
  have e4:=Option.some.inj e3
  have a0:=Int.emod_nonneg (stp c t p) (show (26:Int)≠0 by decide)
  have a1:=Int.emod_lt_of_pos (stp c t p) (show (0:Int) < 26 by decide)
  have b0:=Int.emod_nonneg (stp c u p) (show (26:Int)≠0 by decide)
  have b1:=Int.emod_lt_of_pos (stp c u p) (show (0:Int) < 26 by decide)
  have h1:=jOt _ _ (by omega) (by omega) e4
  have h2:stp c t p % 26=stp c u p % 26:=by omega
  unfold stp at h2
  rw [if_pos hp,if_pos hp] at h2
  generalize c / 12 + (p:Int) * (p:Int)=X at h2
  omega
def jHe (K:PySem.W.Frag):Sp:=fun vs H Q _=>∃ c t:Int,vs=[.int c,.int t]∧Q (.str (jE_ c t (jDb c))) H
theorem jBv:jAl ["_law_cell","_law_turn","_law_letters","_law_size","_law_word_here","_law_k","_law_step"] ["_law_cell","_law_turn"] (jAh jFu):=scM
include T in
theorem jLA (F:Fun K "_law_word" "_law_word" jFu fa fd)  :
    jAq P w K mg base CX0 1 fa fd ["_law_cell","_law_turn"] (jHe K):=by
  refine F.ok jBv (fun vs H Q E h=>?_) (fun cdv A outer s H vs Q E hr h=>?_)
  · obtain ⟨c,t,rfl,_⟩:=h
    rfl
  obtain ⟨c,t,rfl,q⟩:=h
  refine ⟨_,(jAb (psA (i:=2) jBv.nd jAi) (jAb (psA (i:=3) jBv.nd (jAB jA2 jAg (jAB jBP (pv 0) jAg))) (jAb (psA (i:=4) jBv.nd jAi) (jAb (jB_ PassesOwn.never rfl (jB4 rfl T.ar (jAa (pv 3) jAd)) (pgA (i:=5) jBv.nd) (jAb (psA (i:=6) jBv.nd (jAB jA2 (jAB jHp (pv 0) jAg) (jAB jEv (pv 5) (pv 5)))) (jAb (jAC (tcA jAZ (pv 5) (jAB jBP (jAB jHp (pv 0) jAg) (pv 3))) (jAe (psA (i:=6) jBv.nd (jAB jA2 (pv 6) (pv 1)))) jAs) (jAe (psA (i:=4) jBv.nd (jAB jF_ (pv 4) (ixA ix_strA (pv 2) (jAB jBP (pv 6) jAg)))))))) (jAe (jAm (pv 4))))))),?_⟩
  have m0:=Int.emod_nonneg c (show (12:Int)≠0 by decide)
  have m1:=Int.emod_lt_of_pos c (show (0:Int) < 12 by decide)
  have l26:abc.length=26:=by decide +kernel
  refine ⟨_,rfl,_,_,rfl,rfl,(by show (0:Int) < 12;decide),_,_,rfl,rfl,?_⟩
  refine ⟨_,rfl,_,rfl,by omega,by omega,jE2 (lo:=0) (n:=(1 + c % 12).toNat) (fun i σ H'=>H'=H∧∃ (v5 v6:Option V),σ=[some (.int c),some (.int t),some (.str abc),some (.int (1 + c % 12)),some (.str (jE_ c t i)),v5,v6]) ⟨rfl,_,_,rfl⟩ (fun i σ H' hi z=>?_) (fun σ H' z=>?_)⟩
  · obtain ⟨rfl,v5,v6,rfl⟩:=z
    rw [Int.zero_add]
    refine ⟨_,rfl,_,_,rfl,rfl,⟨by decide,by decide⟩,_,rfl,_,rfl,_,_,rfl,rfl,.inl ⟨by omega,by omega⟩,_,_,rfl,rfl,?_⟩
    refine ⟨_,rfl,_,rfl,_,_,rfl,rfl,⟨by decide,by decide⟩,_,rfl,_,_,rfl,rfl,(by show (0:Int) < 1 + c % 12;omega),rfl,_,rfl,?_⟩
    have one:∀ ch:Nat,(⟨#[ch]⟩:Str).length=1:=fun _=>rfl
    have un:∀ {a b:Int},decide (V.int a=V.int b)=true→a=b:=fun h=>by
      have:=of_decide_eq_true h
      injection this
    have nu:∀ {a b:Int},¬ decide (V.int a=V.int b)=true→¬ a=b:=fun h e=>h (decide_eq_true (by rw [e]))
    refine jBp (fun c1=>⟨_,rfl,_,rfl,_,_,rfl,rfl,?_⟩) (fun c1=>?_)
    all_goals
      refine ⟨_,rfl,_,rfl,_,rfl,_,_,rfl,rfl,(by show (0:Int) < 26;decide),_,_,rfl,rfl,(by rw [l26];exact small (by decide)),Int.emod_nonneg _ (by decide),(by rw [l26];exact Int.emod_lt_of_pos _ (by decide)),fun ch hch=>?_⟩
      refine ⟨_,_,rfl,rfl,(by rw [one,jOs];exact small (by omega)),?_⟩
    · rw [jKe (i:=i) (by unfold stp;rw [if_pos (un c1)]) hch]
      exact ⟨rfl,_,_,rfl⟩
    · rw [jKe (i:=i) (by unfold stp;rw [if_neg (nu c1),Int.add_zero]) hch]
      exact ⟨rfl,_,_,rfl⟩
  · obtain ⟨rfl,v5,v6,rfl⟩:=z
    exact ⟨_,rfl,q⟩
end
end My
namespace My
open PySem L2
open Blk (sg sg_inj sg_app)
section
variable {P:Program} {w:World} {K:PySem.W.Frag} {mg:Str→Option Value} {base:Heap} {fa yQ yZ yX yY yV yJ yW yU yK yG cQ cZ cV cK cG vQ vZ vX vY:Addr} {fd:FuncData} (T:Txt K mg yQ yZ yX yY yV yJ yW yU yK yG cQ cZ cV cK cG vQ vZ vX vY)
theorem jLB:jAl ["self","job"] ["self","job"] (jAh jFj):=scM
include T in
theorem jLC (F:Fun K "__init__" "Over.__init__" jFj fa fd)  :
    jAq P w K mg base CX0 1 fa fd ["self","job"] (jBl vZ "job"):=by
  refine F.ok jLB (fun vs H Q E h=>?_) (fun cdv A outer s H vs Q E hr h=>?_)
  · obtain ⟨x,y,rfl,_⟩:=h
    rfl
  obtain ⟨x,y,rfl,hx,q⟩:=h
  refine ⟨_,(jAb (jAJ (jDl T.aF rfl T.aG (jAa (pv 0) (jAa (pv 1) jAd)))) (jAe (jEo (pv 0) (pv 1) rfl))),?_⟩
  refine ⟨_,rfl,_,rfl,x,_,none,[y],rfl,(by simp),hx,T.aq.m,?_⟩
  refine ⟨_,rfl,_,rfl,.inl ⟨x,_,rfl,hx,T.aq.i.c,T.aq.n _ (.head _),fun dx nd ne=>?_⟩⟩
  exact q _ (jDF nd) (jFK ne)
theorem jI0:jAl ["self","job"] ["self","job"] (jAh jDp):=scM
include T in
theorem jI1 (F:Fun K "__init__" "Nowhere.__init__" jDp fa fd)  :
    jAq P w K mg base CX0 1 fa fd ["self","job"] (jBl vX "job"):=by
  refine F.ok jI0 (fun vs H Q E h=>?_) (fun cdv A outer s H vs Q E hr h=>?_)
  · obtain ⟨x,y,rfl,_⟩:=h
    rfl
  obtain ⟨x,y,rfl,hx,q⟩:=h
  refine ⟨_,(jAb (jAJ (jDl T.aF rfl T.aG (jAa (pv 0) (jAa (pv 1) jAd)))) (jAe (jEo (pv 0) (pv 1) rfl))),?_⟩
  refine ⟨_,rfl,_,rfl,x,_,none,[y],rfl,(by simp),hx,T.au.m,?_⟩
  refine ⟨_,rfl,_,rfl,.inl ⟨x,_,rfl,hx,T.au.i.c,T.au.n _ (.head _),fun dx nd ne=>?_⟩⟩
  exact q _ (jDF nd) (jFK ne)
def prV:Option Addr→V
  | none=>.non
  | some a=>.ref a
def jGz (cJ:Addr) (H:Hp) (x:Addr) (nm:Str) (cp:Nat) (j:Jv):Prop:=∃ dx b i k cv,H x=some (.ins cJ dx (jCK (.str nm) b (.int (j.n:Int)) (.int (cp:Int)) (.str (Ly.text j.l)) (.str j.paper) (oV j.cover) cv i k))∧jGy H cv j.colour
theorem jGz.jo {cJ:Addr} {H:Hp} {x:Addr} {nm:Str} {cp:Nat} {j:Jv} (h:jGz cJ H x nm cp j):JO cJ H x j:=let ⟨dx,b,i,k,cv,e,c⟩:=h;⟨dx,_,b,_,i,k,cv,e,c⟩
theorem jGz.fr {cJ:Addr} {H H':Hp} {x:Addr} {nm:Str} {cp:Nat} {j:Jv} (h:jGz cJ H x nm cp j) (kx:∀ o,H x=some o→H' x=some o) (kt:∀ b xs,H b=some (.tup xs)→H' b=some (.tup xs)):jGz cJ H' x nm cp j:=by
  obtain ⟨dx,b,i,k,cv,e,c⟩:=h
  refine ⟨dx,b,i,k,cv,kx _ e,?_⟩
  cases hc:j.colour with
  | none=>rw [hc] at c;exact c
  | some z=>rw [hc] at c;obtain ⟨t,e1,e2⟩:=c;exact ⟨t,e1,kt _ _ e2⟩
def jHf (H:Hp) (p:Addr) (is:List (Int×Int)):Prop:=∃ ys,H p=some (.lst ys)∧ys.length=is.length∧∀ (i:Nat) y s,ys[i]?=some y→is[i]?=some s→∃ t,y=.ref t∧H t=some (.tup [.int s.1,.int s.2])
theorem jHf.fr {H H':Hp} {p:Addr} {is:List (Int×Int)} (h:jHf H p is) (kx:∀ o,H p=some o→H' p=some o) (kt:∀ b xs,H b=some (.tup xs)→H' b=some (.tup xs)):jHf H' p is:=let ⟨ys,e,l,g⟩:=h;⟨ys,kx _ e,l,fun i y s a b=>let ⟨t,e1,e2⟩:=g i y s a b;⟨t,e1,kt _ _ e2⟩⟩
structure RD where
  dx:Addr
  jb:Addr
  il:Addr
  nm:Str
  cp:Nat
  j:Jv
  inks:List (Int×Int)
  ps:Nat
  pr:Option Addr
  sl:Bool
  br:Bool
def RD.fs (r:RD):List (Str×V):=[("job",.ref r.jb),("inks",.ref r.il),("passed",.int (r.ps:Int)),("printer",prV r.pr),("slipped",.bl r.sl),("broken",.bl r.br)]
structure jAW (cR cJ:Addr) (H:Hp) (x:Addr) (r:RD):Prop where
  o:H x=some (.ins cR r.dx r.fs)
  j:jGz cJ H r.jb r.nm r.cp r.j
  i:jHf H r.il r.inks
  n:r.jb≠x
  c1:1≤r.cp
  c2:r.cp≤99
  i1:1≤r.inks.length
  i2:r.inks.length≤999
theorem jAW.fr {cR cJ:Addr} {H H':Hp} {x:Addr} {r:RD} (h:jAW cR cJ H x r) (kx:∀ b C d fs,H b=some (.ins C d fs)→H' b=some (.ins C d fs)) (kl:∀ o,H r.il=some o→H' r.il=some o) (kt:∀ b xs,H b=some (.tup xs)→H' b=some (.tup xs)):jAW cR cJ H' x r:=by
  obtain ⟨dx,b,i,k,cv,e,c⟩:=id h.j
  exact { h with o:=kx _ _ _ _ h.o,j:=h.j.fr (fun o e'=>by rw [e] at e';cases e';exact kx _ _ _ _ e) kt,i:=h.i.fr kl kt }
theorem jAW.same {cR cJ:Addr} {H H':Hp} {x:Addr} {r:RD} (h:jAW cR cJ H x r) (k:jAo H H'):jAW cR cJ H' x r:=h.fr (fun b C d fs e=>k _ _ e) (fun o e=>k _ _ e) (fun b xs e=>k _ _ e)
theorem jAW.set {cR cJ:Addr} {H:Hp} {x:Addr} {r:RD} (h:jAW cR cJ H x r) (ps:Nat) (pr:Option Addr) (sl br:Bool):jAW cR cJ (upd H x (.ins cR r.dx ({ r with ps:=ps,pr:=pr,sl:=sl,br:=br }:RD).fs)) x { r with ps:=ps,pr:=pr,sl:=sl,br:=br }:=by
  obtain ⟨ys,hy,_⟩:=id h.i
  exact { h with o:=jAc,j:=h.j.fr (fun o e=>by rw [jAj h.n];exact e) (fun b xs e=>by rw [jAj (jAn e h.o (by intro z;cases z))];exact e),i:=h.i.fr (fun o e=>by rw [jAj (jAn hy h.o (by intro z;cases z))];exact e) (fun b xs e=>by rw [jAj (jAn e h.o (by intro z;cases z))];exact e) }
def RD.tot (r:RD):Nat:=r.inks.length * r.cp
def jEk (cR cJ cP cS cY cM cW:Addr):Sp:=fun vs H Q _=>∃ x r,vs=[.ref x]∧jAW cR cJ H x r∧Q (.int (r.inks.length:Int)) H
theorem jMb:jAl ["self"] ["self"] (jAh jGm):=scM
include T in
theorem jMc (F:Fun K "each" "Run.each" jGm fa fd)  :
    jAq P w K mg base CX0 1 fa fd ["self"] (jEk yK yG cZ cQ yJ yW yU):=by
  refine F.ok jMb (fun vs H Q E h=>?_) (fun cdv A outer s H vs Q E hr h=>?_)
  · obtain ⟨x,r,rfl,_⟩:=h
    rfl
  obtain ⟨x,r,rfl,R,q⟩:=h
  refine ⟨_,(jAe (jAm (jAG jAF rfl T.ae PySem.boot_len (jAa (jAp (pv 0) rfl) jAd)))),?_⟩
  obtain ⟨ys,hy,ly,_⟩:=id R.i
  refine ⟨_,rfl,x,yK,r.dx,_,_,rfl,R.o,T.aa,T.bo,rfl,r.il,_,rfl,.inl (SqL.of hy),?_⟩
  rw [ly]
  exact q
def jFC (cR cJ cP cS cY cM cW:Addr):Sp:=fun vs H Q _=>∃ x r,vs=[.ref x]∧jAW cR cJ H x r∧Q (.int (r.tot:Int)) H
theorem jLD:jAl ["self"] ["self"] (jAh jFr):=scM
include T in
theorem jLE (F:Fun K "total" "Run.total" jFr fa fd) (Dae:MtE P w K mg base 1 "each" yK ["self"] (jEk yK yG cZ cQ yJ yW yU)) :
    jAq P w K mg base CX0 2 fa fd ["self"] (jFC yK yG cZ cQ yJ yW yU):=by
  refine F.ok jLD (fun vs H Q E h=>?_) (fun cdv A outer s H vs Q E hr h=>?_)
  · obtain ⟨x,r,rfl,_⟩:=h
    rfl
  obtain ⟨x,r,rfl,R,q⟩:=h
  refine ⟨_,(jAe (jAm (jAB jEv (jAt 1 jBa hr.m (pv 0)) (jAp (jAp (pv 0) rfl) rfl)))),?_⟩
  obtain ⟨dx,b,i,k,cv,e,c⟩:=id R.j
  have:=R.i2
  have:=R.c2
  refine ⟨_,rfl,x,_,r.dx,_,_,_,rfl,R.o,rfl,T.aa,Dae,x,r,rfl,R,_,rfl,x,yK,r.dx,_,_,rfl,R.o,T.aa,T.aA,rfl,r.jb,yG,dx,_,_,rfl,e,T.ad,T.bA,jF3 _ _ _ _ _ _ _ _ _ _,_,_,rfl,rfl,.inl ⟨by omega,by omega⟩,?_⟩
  have e2:((r.tot:Nat):Int)=(r.inks.length:Int) * (r.cp:Int):=by unfold RD.tot;rw [Int.natCast_mul]
  rw [e2] at q
  exact q
def jKf (cR cJ cP cS cY cM cW:Addr):Sp:=fun vs H Q _=>∃ x r,vs=[.ref x]∧jAW cR cJ H x r∧Q (.int (r.ps:Int)) H
theorem jM2:jAl ["self"] ["self"] (jAh jG4):=scM
include T in
theorem jM3 (F:Fun K "out" "Run.out" jG4 fa fd)  :
    jAq P w K mg base CX0 1 fa fd ["self"] (jKf yK yG cZ cQ yJ yW yU):=by
  refine F.ok jM2 (fun vs H Q E h=>?_) (fun cdv A outer s H vs Q E hr h=>?_)
  · obtain ⟨x,r,rfl,_⟩:=h
    rfl
  obtain ⟨x,r,rfl,R,q⟩:=h
  refine ⟨_,(jAe (jAm (jAp (pv 0) rfl))),?_⟩
  exact ⟨_,rfl,x,yK,r.dx,_,_,rfl,R.o,T.aa,T.aC,rfl,q⟩
def jCG (cR cJ cP cS cY cM cW:Addr):Sp:=fun vs H Q _=>∃ x r,vs=[.ref x]∧jAW cR cJ H x r∧Q (.bl (decide (r.ps=r.tot))) H
theorem jLF:jAl ["self"] ["self"] (jAh jFs):=scM
include T in
theorem jLG (F:Fun K "whole" "Run.whole" jFs fa fd) (Daw:MtE P w K mg base 2 "total" yK ["self"] (jFC yK yG cZ cQ yJ yW yU)) :
    jAq P w K mg base CX0 3 fa fd ["self"] (jCG yK yG cZ cQ yJ yW yU):=by
  refine F.ok jLF (fun vs H Q E h=>?_) (fun cdv A outer s H vs Q E hr h=>?_)
  · obtain ⟨x,r,rfl,_⟩:=h
    rfl
  obtain ⟨x,r,rfl,R,q⟩:=h
  refine ⟨_,(jAe (jAm (ecA jAZ (jAp (pv 0) rfl) (jAt 2 jBa hr.m (pv 0))))),?_⟩
  refine ⟨_,rfl,x,yK,r.dx,_,_,rfl,R.o,T.aa,T.aC,rfl,_,rfl,x,_,r.dx,_,_,_,rfl,R.o,rfl,T.aa,Daw,x,r,rfl,R,rfl,?_⟩
  have e:decide (V.int (r.ps:Int)=V.int (r.tot:Int))=decide (r.ps=r.tot):=by
    rw [Bool.eq_iff_iff,decide_eq_true_iff,decide_eq_true_iff]
    exact ⟨fun z=>by injection z with z;omega,fun z=>by rw [z]⟩
  rw [← e] at q
  exact q
def jI2 (cR cJ cP cS cY cM cW:Addr):Sp:=fun vs H Q _=>∃ x r,vs=[.ref x]∧jAW cR cJ H x r∧(r.br=false→Q .non H)∧(r.br=true→∀ t H',jAo H H'→H' t=some (.tup [.int ((r.ps:Int) / (r.inks.length:Int) + 1),.int ((r.ps:Int) % (r.inks.length:Int) + 1)])→Q (.ref t) H')
theorem jMd:jAl ["self"] ["self"] (jAh jGn):=scM
include T in
theorem jMe (F:Fun K "lack" "Run.lack" jGn fa fd) (Dae:MtE P w K mg base 1 "each" yK ["self"] (jEk yK yG cZ cQ yJ yW yU)) :
    jAq P w K mg base CX0 2 fa fd ["self"] (jI2 yK yG cZ cQ yJ yW yU):=by
  refine F.ok jMd (fun vs H Q E h=>?_) (fun cdv A outer s H vs Q E hr h=>?_)
  · obtain ⟨x,r,rfl,_⟩:=h
    rfl
  obtain ⟨x,r,rfl,R,q1,q2⟩:=h
  refine ⟨_,(jAb (jAC (jBY (jAN (jAp (pv 0) rfl) (fun _=>rfl))) (jAe (jAm jAL)) jAs) (jAe (jAm (jAM (jAa (jAB jA2 (jAB jHp (jAp (pv 0) rfl) (jAt 1 jBa hr.m (pv 0))) jAg) (jAa (jAB jA2 (jAB jBP (jAp (pv 0) rfl) (jAt 1 jBa hr.m (pv 0))) jAg) jAd)))))),?_⟩
  refine ⟨_,rfl,x,yK,r.dx,_,_,rfl,R.o,T.aa,T.bp,rfl,r.br,rfl,?_⟩
  have i1:=R.i1
  have i2:=R.i2
  cases e:r.br with
  | false=>exact jAP (q1 e)
  | true =>
    refine jAK ⟨_,rfl,x,yK,r.dx,_,_,rfl,R.o,T.aa,T.aC,rfl,_,rfl,x,_,r.dx,_,_,_,rfl,R.o,rfl,T.aa,Dae,x,r,rfl,R,_,_,rfl,rfl,⟨by omega,by omega⟩,_,_,rfl,rfl,?_⟩
    refine ⟨_,rfl,x,yK,r.dx,_,_,rfl,R.o,T.aa,T.aC,rfl,_,rfl,x,_,r.dx,_,_,_,rfl,R.o,rfl,T.aa,Dae,x,r,rfl,R,_,_,rfl,rfl,(by omega),_,_,rfl,rfl,small (by show 2≤1000;decide),fun t nt=>q2 e t _ (jAk nt _) jAc⟩
def jLH (cR cJ cP cS cY cM cW:Addr):Sp:=fun vs H Q _=>∃ x r,vs=[.ref x]∧jAW cR cJ H x r∧(r.pr=none→Q .non H)∧∀ p,r.pr=some p→∃ d,jAD cP cS cY cM cW H p d∧Q (.str d.name) H
theorem jNQ:jAl ["self"] ["self"] (jAh jH6):=scM
include T in
theorem jNR (F:Fun K "at" "Run.at" jH6 fa fd)  :
    jAq P w K mg base CX0 1 fa fd ["self"] (jLH yK yG cZ cQ yJ yW yU):=by
  refine F.ok jNQ (fun vs H Q E h=>?_) (fun cdv A outer s H vs Q E hr h=>?_)
  · obtain ⟨x,r,rfl,_⟩:=h
    rfl
  obtain ⟨x,r,rfl,R,q1,q2⟩:=h
  refine ⟨_,(jAe (jAm (jCk (tcA jC1 (jAp (pv 0) rfl) jAL) jAL (jAp (jAp (pv 0) rfl) rfl)))),?_⟩
  refine ⟨_,rfl,x,yK,r.dx,_,_,rfl,R.o,T.aa,T.ai,rfl,?_⟩
  cases hp:r.pr with
  | none=>exact ⟨rfl,true,rfl,jAP (q1 hp)⟩
  | some p =>
    obtain ⟨d,P,q⟩:=q2 p hp
    refine ⟨rfl,false,rfl,jAK ⟨_,rfl,x,yK,r.dx,_,_,rfl,R.o,T.aa,T.ai,rfl,?_⟩⟩
    rw [hp]
    exact ⟨p,cZ,d.dx,_,_,rfl,P.o,T.ac,T.bu,rfl,q⟩
end
end My
namespace My
open PySem L2
open Blk (sg sg_inj sg_app)
section
variable {P:Program} {w:World} {K:PySem.W.Frag} {mg:Str→Option Value} {base:Heap} {fa yQ yZ yX yY yV yJ yW yU yK yG cQ cZ cV cK cG vQ vZ vX vY:Addr} {fd:FuncData} (T:Txt K mg yQ yZ yX yY yV yJ yW yU yK yG cQ cZ cV cK cG vQ vZ vX vY)
def jAy (H:Hp) (nm:Str) (ts:List V) (ns:List Int):Prop:=ts.length=ns.length∧∀ (i:Nat) y n,ts[i]?=some y→ns[i]?=some n→∃ t,y=.ref t∧H t=some (.tup [.str nm,.int n])
theorem jAy.fr {H H':Hp} {nm:Str} {ts:List V} {ns:List Int} (h:jAy H nm ts ns) (kt:∀ b xs,H b=some (.tup xs)→H' b=some (.tup xs)):jAy H' nm ts ns:=⟨h.1,fun i y n a b=>let ⟨t,e,e1⟩:=h.2 i y n a b;⟨t,e,kt _ _ e1⟩⟩
theorem jAy.same {H H':Hp} {nm:Str} {ts:List V} {ns:List Int} (h:jAy H nm ts ns) (s:jAo H H'):jAy H' nm ts ns:=h.fr fun b xs e=>s _ _ e
theorem jAy.get {H:Hp} {nm:Str} {ts:List V} {ns:List Int} (h:jAy H nm ts ns) {i:Nat} {y:V} (e:ts[i]?=some y):∃ t n,y=.ref t∧ns[i]?=some n∧H t=some (.tup [.str nm,.int n]):=by
  obtain ⟨n,en⟩:∃ n,ns[i]?=some n:=⟨_,List.getElem?_eq_getElem (by rw [← h.1];exact (List.getElem?_eq_some_iff.mp e).1)⟩
  obtain ⟨t,e1,e2⟩:=h.2 i y n e en
  exact ⟨t,n,e1,en,e2⟩
theorem jAy.drop1 {H:Hp} {nm:Str} {ts:List V} {ns:List Int} (h:jAy H nm ts ns):jAy H nm (ts.drop 1) (ns.drop 1):=⟨by rw [List.length_drop,List.length_drop,h.1],fun i y n a b=>by rw [List.getElem?_drop] at a b;exact h.2 _ y n a b⟩
theorem jAy.take1 {H:Hp} {nm:Str} {ts:List V} {ns:List Int} (h:jAy H nm ts ns):jAy H nm (ts.take 1) (ns.take 1):=⟨by rw [List.length_take,List.length_take,h.1],fun i y n a b=>by
  rw [List.getElem?_take] at a b
  by_cases c:i < 1
  · rw [if_pos c] at a b;exact h.2 i y n a b
  · rw [if_neg c] at a;cases a⟩
theorem jAy.snoc {H:Hp} {nm:Str} {ts:List V} {ns:List Int} {t:Addr} {n:Int} (h:jAy H nm ts ns) (e:H t=some (.tup [.str nm,.int n])):jAy H nm (ts ++ [.ref t]) (ns ++ [n]):=⟨by rw [List.length_append,List.length_append,h.1];rfl,fun i y m a b=>by
  by_cases c:i < ts.length
  · rw [List.getElem?_append_left c] at a
    rw [List.getElem?_append_left (by rw [← h.1];exact c)] at b
    exact h.2 i y m a b
  · rw [List.getElem?_append_right (by omega)] at a
    rw [List.getElem?_append_right (by rw [← h.1];omega),← h.1] at b
    have l:=(List.getElem?_eq_some_iff.mp a).1
    have l':i - ts.length < 1:=l
    rw [show i - ts.length=0 by omega] at a b
    obtain rfl:=Option.some.inj a
    obtain rfl:=Option.some.inj b
    exact ⟨t,rfl,e⟩⟩
theorem ifs_cut {t:TT} {A B C:TS} {D:jBB} {σ:St} {H:Hp} (P:Prop) (ht:∀ Q:Bool→Hp→Prop,(P→Q true H)→(¬ P→Q false H)→t σ H Q) (hA:P→A { D with nx:=C D } σ H) (hB:¬ P→B { D with nx:=C D } σ H):jDX (tIfS t A B) C D σ H:=ht _ (fun p=>by rw [if_pos rfl];exact hA p) (fun p=>by rw [if_neg (by decide)];exact hB p)
def isSlip (H:Hp) (nm:Str) (v:V):Prop:=∃ a,v=.ref a∧H a=some (.tup [.str nm,.int (-1)])
noncomputable def jHA (H:Hp) (nm:Str) (v:V):Bool:=!@decide (isSlip H nm v) (Classical.propDecidable _)
theorem jLI {H:Hp} {nm:Str} {t:Addr} {n:Int} (h:H t=some (.tup [.str nm,.int n])):jHA H nm (.ref t)=!decide (V.int n=V.int (-1)):=by
  unfold jHA
  refine congrArg (fun c=>!c) ?_
  by_cases c:n=-1
  · exact (@decide_eq_true _ (Classical.propDecidable _) ⟨t,rfl,by rw [← c];exact h⟩).trans (decide_eq_true (by rw [c])).symm
  · refine (@decide_eq_false _ (Classical.propDecidable _) (fun ⟨a',z1,z2⟩=>?_)).trans (decide_eq_false (fun z=>c (by injection z))).symm
    cases z1
    rw [h] at z2
    injection z2 with z2
    injection z2 with z2
    injection z2 with _ z2
    injection z2 with z2 _
    injection z2 with z2
    exact c z2
def jBu (ns:List Int):Nat:=ns.countP fun n=>decide (n≠-1)
def Liv (r:RD):Prop:=r.br=false∧r.ps≠r.tot
def OvR (cO:Addr) (r:RD) (H:Hp) (E:XK):Prop:=∀ ea H',jAo H H'→H ea=none→XG H' ea cO [("job",.str r.nm)]→E (.ref cO) (some ea) H'
def jCS (cR cJ cO cP cS cY cM cW:Addr):Sp:=fun vs H Q E=>∃ x r,vs=[.ref x]∧jAW cR cJ H x r∧(Liv r→Q .non H)∧(¬ Liv r→OvR cO r H E)
theorem jHL:jAl ["self"] ["self"] (jAh jCL):=scM
include T in
theorem jHM (F:Fun K "must_go_on" "Run.must_go_on" jCL fa fd) (Dbh:jCJ P w K mg base 1 "Over" vZ ["self","job"] (jBl vZ "job")) (Dac:MtE P w K mg base 3 "whole" yK ["self"] (jCG yK yG cZ cQ yJ yW yU)) :
    jAq P w K mg base (CXe P w) 4 fa fd ["self"] (jCS yK yG vZ cZ cQ yJ yW yU):=by
  refine F.okE jHL (fun vs H Q E h=>?_) (fun cdv A outer s H vs Q E hr h=>?_)
  · obtain ⟨x,r,rfl,_⟩:=h
    rfl
  obtain ⟨x,r,rfl,R,q,q2⟩:=h
  refine ⟨_,(jAe (jAC (PW.pt (jC0 (jAN (jAp (pv 0) rfl) (fun _=>rfl)) (jDN (jAN (jAt 3 jAw hr.m (pv 0)) (fun _=>rfl))))) (jAe (jBt jBk rfl (jBj Dbh hr.m rfl (jAa (jAp (jAp (pv 0) rfl) rfl) jAd)))) jAs)),?_⟩
  obtain ⟨jx,jb,ji,jk,jc,je,_⟩:=id R.j
  refine ⟨_,rfl,x,yK,r.dx,_,_,rfl,R.o,T.aa,T.bp,rfl,r.br,rfl,?_⟩
  cases e:r.br with
  | true =>
    refine jAP (jAP ⟨_,rfl,x,yK,r.dx,_,_,rfl,R.o,T.aa,T.aA,rfl,r.jb,yG,jx,_,_,rfl,je,T.ad,T.aD,jF0 _ _ _ _ _ _ _ _ _ _,?_⟩)
    exact jA5 T.aq.m fun ea H' sm ne g=>q2 (fun z=>by rw [z.1] at e;cases e) ea H' sm ne g
  | false =>
    refine jAK ⟨_,rfl,x,_,r.dx,_,_,_,rfl,R.o,rfl,T.aa,Dac,x,r,rfl,R,decide (r.ps=r.tot),rfl,jBp (fun c=>?_) (fun c=>q ⟨e,fun z=>c (decide_eq_true z)⟩)⟩
    refine ⟨_,rfl,x,yK,r.dx,_,_,rfl,R.o,T.aa,T.aA,rfl,r.jb,yG,jx,_,_,rfl,je,T.ad,T.aD,jF0 _ _ _ _ _ _ _ _ _ _,?_⟩
    exact jA5 T.aq.m fun ea H' sm ne g=>q2 (fun z=>z.2 (of_decide_eq_true c)) ea H' sm ne g
def jB8 (cR cJ cO cX cP cS cY cM cW:Addr):Sp:=fun vs H Q E=>∃ x r,vs=[.ref x]∧jAW cR cJ H x r∧(Liv r→∀ p,r.pr=some p→Q .non H)∧(Liv r→r.pr=none→jBM cX "job" (.str r.nm) H E)∧(¬ Liv r→OvR cO r H E)
theorem jFR:jAl ["self"] ["self"] (jAh jB6):=scM
include T in
theorem jFS (F:Fun K "must_be_placed" "Run.must_be_placed" jB6 fa fd) (Dbi:jCJ P w K mg base 1 "Nowhere" vX ["self","job"] (jBl vX "job")) (Dax:MtE P w K mg base 4 "must_go_on" yK ["self"] (jCS yK yG vZ cZ cQ yJ yW yU)) :
    jAq P w K mg base (CXe P w) 5 fa fd ["self"] (jB8 yK yG vZ vX cZ cQ yJ yW yU):=by
  refine F.okE jFR (fun vs H Q E h=>?_) (fun cdv A outer s H vs Q E hr h=>?_)
  · obtain ⟨x,r,rfl,_⟩:=h
    rfl
  obtain ⟨x,r,rfl,R,q,qn,q2⟩:=h
  refine ⟨_,(jAb (jAJ (jAt 4 jAw hr.m (pv 0))) (jAe (jAC (tcA jC1 (jAp (pv 0) rfl) jAL) (jAe (jBt jBk rfl (jBj Dbi hr.m rfl (jAa (jAp (jAp (pv 0) rfl) rfl) jAd)))) jAs))),?_⟩
  refine ⟨_,rfl,x,_,r.dx,_,_,_,rfl,R.o,rfl,T.aa,Dax,x,r,rfl,R,fun lv=>?_,q2⟩
  obtain ⟨jx,jb,ji,jk,jc,je,_⟩:=id R.j
  refine ⟨_,rfl,x,yK,r.dx,_,_,rfl,R.o,T.aa,T.ai,rfl,?_⟩
  cases hp:r.pr with
  | some p=>exact ⟨rfl,false,rfl,jAK (q lv p hp)⟩
  | none =>
    refine ⟨rfl,true,rfl,jAP ⟨_,rfl,x,yK,r.dx,_,_,rfl,R.o,T.aa,T.aA,rfl,r.jb,yG,jx,_,_,rfl,je,T.ad,T.aD,jF0 _ _ _ _ _ _ _ _ _ _,?_⟩⟩
    exact jA5 T.au.m fun ea H' sm ne g=>qn lv hp ea H' sm g
theorem jKg {H:Hp} {nm:Str}:∀ {ts:List V} {ns:List Int},jAy H nm ts ns→(ts.filter (jHA H nm)).length=jBu ns
  | [],[],_=>rfl
  | [],_ :: _,h=>by have:=h.1;cases this
  | _ :: _,[],h=>by have:=h.1;cases this
  | v :: ts,n :: ns,h=>by
    have ih:=jKg (H:=H) (nm:=nm) (ts:=ts) (ns:=ns) h.drop1
    obtain ⟨t,rfl,ht⟩:=h.2 0 v n rfl rfl
    unfold jBu at ih ⊢
    rw [List.countP_cons,← ih,List.filter_cons,jLI ht]
    by_cases c:n=-1
    · rw [decide_eq_true (by rw [c]:V.int n=V.int (-1)),if_neg (by decide),decide_eq_false (by rw [c];decide),if_neg (by decide),Nat.add_zero]
    · rw [decide_eq_false (fun z=>c (by injection z):¬ V.int n=V.int (-1)),if_pos (by decide),decide_eq_true c,if_pos rfl,List.length_cons]
def jA4 (r:RD) (ns:List Int):Int:=if r.sl=false∧ns=[] then -1 else ((r.ps + jBu ns:Nat):Int)
def jDH (cR cJ cP cS cY cM cW:Addr):Sp:=fun vs H Q _=>∃ x r,vs=[.ref x]∧jAW cR cJ H x r∧(r.pr=none→Q .non H)∧∀ p,r.pr=some p→∃ d ns,jAD cP cS cY cM cW H p d∧jAy H r.nm d.tags ns ∧
  (jA4 r ns < (r.tot:Int)→∀ t H',jAo H H'→H t=none→H' t=some (.tup [.str r.nm,.int (jA4 r ns)])→Q (.ref t) H')∧(¬ jA4 r ns < (r.tot:Int)→∀ H',jAo H H'→Q .non H')
theorem jDc:jAl ["self","within","number"] ["self"] (jAh jDt):=scM
include T in
theorem jI3 (F:Fun K "upcoming" "Run.upcoming" jDt fa fd) (Daf:MtE P w K mg base 1 "within" cZ ["self"] (jC8 cZ cQ yJ yW yU)) (Daw:MtE P w K mg base 2 "total" yK ["self"] (jFC yK yG cZ cQ yJ yW yU)) :
    jAq P w K mg base CX0 3 fa fd ["self"] (jDH yK yG cZ cQ yJ yW yU):=by
  refine F.ok jDc (fun vs H Q E h=>?_) (fun cdv A outer s H vs Q E hr h=>?_)
  · obtain ⟨x,r,rfl,_⟩:=h
    rfl
  obtain ⟨x,r,rfl,R,q1,q2⟩:=h
  have z2:2≤sizeLine:=small (by decide)
  refine ⟨_,(jAb (jAC (tcA jC1 (jAp (pv 0) rfl) jAL) (jAe (jAm jAL)) jAs) (jAb (psA (i:=1) jDc.nd (jAt 1 jBa hr.m (jAp (pv 0) rfl))) (jAb (jAC (PW.pt (jEt (jBY (jAN (jAp (pv 0) rfl) (fun _=>rfl))) (jEm (jBY (jAN (pv 1) (fun _=>rfl)))))) (jAe (jAm (jAM (jAa (jAp (jAp (pv 0) rfl) rfl) (jAa (jEg T.aN rfl) jAd))))) jAs) (jAb (psA (i:=2) jDc.nd (jAB jA2 (jAp (pv 0) rfl) (jAG jAF rfl T.ae PySem.boot_len (jAa (jCg (frees:=[]) ⟨by decide +kernel,rfl,rfl,by decide +kernel,trivial,by decide +kernel,jBd rfl,rfl⟩ rfl (jBF (pv 1)) (fun _ _ _ _=>by exact (jGe (tcA jCv (jFH (K:=K) (r:=rIxT) rfl jAE (pv 0) jAg (fun _ _=>rfl)) (jEg T.aN rfl)))) (fun _ _ _ _=>by exact (pv 0))) jAd)))) (jAe (jAm (jCk (tcA jF9 (pv 2) (jAt 2 jBa hr.m (pv 0))) (jAM (jAa (jAp (jAp (pv 0) rfl) rfl) (jAa (pv 2) jAd))) jAL))))))),?_⟩
  refine ⟨_,rfl,x,yK,r.dx,_,_,rfl,R.o,T.aa,T.ai,rfl,?_⟩
  cases hp:r.pr with
  | none=>exact ⟨rfl,true,rfl,jAP (q1 hp)⟩
  | some p =>
  obtain ⟨d,ns,P,tg,k1,k2⟩:=q2 p hp
  refine ⟨rfl,false,rfl,jAK ?_⟩
  refine ⟨_,rfl,x,yK,r.dx,_,_,rfl,R.o,T.aa,T.ai,rfl,?_⟩
  rw [hp]
  refine ⟨p,_,d.dx,_,_,_,rfl,P.o,rfl,T.ac,Daf,p,d,rfl,P,fun l H1 s1 nl hl=>?_⟩
  have R1:=R.same s1
  obtain ⟨jx,jb,ji,jk,jc,je,_⟩:=id R1.j
  have tg1:=tg.same s1
  have lw:d.tags=[] ↔ ns=[]:=by
    rw [← List.length_eq_zero_iff,← List.length_eq_zero_iff,tg.1]
  dsimp only [jBr]
  refine ifs_cut (r.sl=false∧ns=[]) (fun W qt qf=>?_) (fun c=>?_) (fun c=>?_)
  · refine ⟨_,rfl,x,yK,r.dx,_,_,rfl,R1.o,T.aa,T.aL,rfl,r.sl,rfl,?_⟩
    cases hs:r.sl with
    | true=>exact jAK (qf (fun z=>by rw [hs] at z;cases z.1))
    | false =>
      refine jAP ⟨_,rfl,!d.tags.isEmpty,.inl ⟨_,SqL.of hl,rfl⟩,?_⟩
      by_cases c:ns=[]
      · rw [lw.mpr c]
        exact qt ⟨hs,c⟩
      · have:d.tags.isEmpty=false:=by rw [List.isEmpty_eq_false_iff];exact fun z=>c (lw.mp z)
        rw [this]
        exact qf (fun z=>c z.2)
  · have en:jA4 r ns=-1:=by unfold jA4;rw [if_pos c]
    refine ⟨_,rfl,x,yK,r.dx,_,_,rfl,R1.o,T.aa,T.aA,rfl,r.jb,yG,jx,_,_,rfl,je,T.ad,T.aD,jF0 _ _ _ _ _ _ _ _ _ _,z2,fun t nt=>?_⟩
    refine k1 (by rw [en];omega) t _ (s1.trans (jAk nt _)) (s1.free nt) ?_
    rw [en]
    exact jAc
  have en:jA4 r ns=((r.ps + jBu ns:Nat):Int):=by unfold jA4;rw [if_neg c]
  have lt9:=P.lt
  refine ⟨_,rfl,x,yK,r.dx,_,_,rfl,R1.o,T.aa,T.aC,rfl,_,rfl,l,rfl,⟨_,SqL.of hl⟩,?_⟩
  refine jCW (jEy (K:=K) (SqL.of hl)) (jHA H1 r.nm) id (jAX (by omega)) (fun y hy H' W sm rr=>?_) (fun y hy H' W sm py rr=>⟨_,rfl,rr⟩) (fun D H2 s2 nD hD=>?_)
  · obtain ⟨i,ei⟩:=List.mem_iff_getElem?.mp hy
    obtain ⟨t,n,rfl,_,ht⟩:=tg1.get ei
    refine ⟨_,rfl,t,_,_,_,rfl,rfl,SqT.of (sm _ _ ht),jAz (j:=1) rfl,rfl,_,?_,rr⟩
    rw [jLI ht]
  rw [List.map_id] at hD
  have R2:=R1.same s2
  refine ⟨D,_,rfl,.inl (SqL.of hD),_,_,rfl,rfl,?_⟩
  rw [jKg tg1]
  dsimp only [jBr]
  rw [show (r.ps:Int) + ((jBu ns:Nat):Int)=jA4 r ns by rw [en];omega]
  have s12:=s1.trans s2
  obtain ⟨jx2,jb2,ji2,jk2,jc2,je2,_⟩:=id R2.j
  refine ⟨_,rfl,_,rfl,x,_,r.dx,_,_,_,rfl,R2.o,rfl,T.aa,Daw,x,r,rfl,R2,_,_,rfl,rfl,_,rfl,jBp (fun cc=>?_) (fun cc=>?_)⟩
  · refine ⟨_,rfl,x,yK,r.dx,_,_,rfl,R2.o,T.aa,T.aA,rfl,r.jb,yG,jx2,_,_,rfl,je2,T.ad,T.aD,jF0 _ _ _ _ _ _ _ _ _ _,_,rfl,z2,fun t nt=>?_⟩
    exact k1 (of_decide_eq_true cc) t _ (s12.trans (jAk nt _)) (s12.free nt) jAc
  · exact k2 (fun z=>cc (decide_eq_true z)) _ s12
end
end My
namespace My
open PySem L2
open Blk (sg sg_inj sg_app)
section
variable {P:Program} {w:World} {K:PySem.W.Frag} {mg:Str→Option Value} {base:Heap} {fa yQ yZ yX yY yV yJ yW yU yK yG cQ cZ cV cK cG vQ vZ vX vY:Addr} {fd:FuncData} (T:Txt K mg yQ yZ yX yY yV yJ yW yU yK yG cQ cZ cV cK cG vQ vZ vX vY)
def papR (j:Jv) (i:Nat):Str:=if i=0 then j.cover.getD j.paper else j.paper
def jBf (r:RD) (n:Int):Str×Int×Int:=if n=-1 then (r.j.paper,0,0) else (papR r.j (n.toNat % r.inks.length),r.inks.getD (n.toNat % r.inks.length) (0,0))
def jGM (cR cJ cP cS cY cM cW:Addr):Sp:=fun vs H Q _=>∃ x r tg n,vs=[.ref x,.ref tg]∧jAW cR cJ H x r∧H tg=some (.tup [.str r.nm,.int n])∧-1≤n∧∀ t H',jAo H H'→H' t=some (.tup [.str (jBf r n).1,.int (jBf r n).2.1,.int (jBf r n).2.2])→Q (.ref t) H'
theorem jDI:jAl ["self","tag","sheet","ink"] ["self","tag"] (jAh jD7):=scM
include T in
theorem jJI (F:Fun K "used_by" "Run.used_by" jD7 fa fd) (Dbj:Dfn P w K mg base 1 "paper_of" ["job","sheet"] (jHT yG)) (Dae:MtE P w K mg base 1 "each" yK ["self"] (jEk yK yG cZ cQ yJ yW yU)) :
    jAq P w K mg base CX0 2 fa fd ["self","tag"] (jGM yK yG cZ cQ yJ yW yU):=by
  refine F.ok jDI (fun vs H Q E h=>?_) (fun cdv A outer s H vs Q E hr h=>?_)
  · obtain ⟨x,r,tg,n,rfl,_⟩:=h
    rfl
  obtain ⟨x,r,tg,n,rfl,R,ht,n1,q⟩:=h
  have z3:3≤sizeLine:=small (by decide)
  refine ⟨_,(jAb (jAC (tcA jAZ (ixA jAE (pv 1) jAg) (jEg T.aN rfl)) (jAe (jAm (jAM (jAa (jAp (jAp (pv 0) rfl) rfl) (jAa jAg (jAa jAg jAd)))))) jAs) (jAb (psA (i:=2) jDI.nd (jAB jBP (ixA jAE (pv 1) jAg) (jAt 1 jBa hr.m (pv 0)))) (jAb (psA (i:=3) jDI.nd (ixA jAH (jAp (pv 0) rfl) (pv 2))) (jAe (jAm (jAM (jAa (jAv Dbj hr.m rfl (jAa (jAp (pv 0) rfl) (jAa (pv 2) jAd))) (jAa (ixA jAE (pv 3) jAg) (jAa (ixA jAE (pv 3) jAg) jAd))))))))),?_⟩
  obtain ⟨jx,jb,ji,jk,jc,je,_⟩:=id R.j
  have i1:=R.i1
  refine ⟨_,rfl,tg,_,_,_,rfl,rfl,SqT.of ht,jAz (j:=1) rfl,rfl,?_⟩
  by_cases c:n=-1
  · have eu:jBf r n=(r.j.paper,0,0):=by unfold jBf;rw [if_pos c]
    rw [eu] at q
    exact ⟨true,by rw [c];rfl,jAP ⟨_,rfl,x,yK,r.dx,_,_,rfl,R.o,T.aa,T.aA,rfl,r.jb,yG,jx,_,_,rfl,je,T.ad,T.aQ,jF5 _ _ _ _ _ _ _ _ _ _,z3,fun t nt=>q t _ (jAk nt _) jAc⟩⟩
  have eu:jBf r n=(papR r.j (n.toNat % r.inks.length),r.inks.getD (n.toNat % r.inks.length) (0,0)):=by unfold jBf;rw [if_neg c]
  rw [eu] at q
  refine ⟨false,by rw [decide_eq_false (fun z=>c (by injection z))],jAK ?_⟩
  refine ⟨_,rfl,tg,_,_,_,rfl,rfl,SqT.of ht,jAz (j:=1) rfl,_,rfl,x,_,r.dx,_,_,_,rfl,R.o,rfl,T.aa,Dae,x,r,rfl,R,_,_,rfl,rfl,by omega,?_⟩
  have em:n % (r.inks.length:Int)=((n.toNat % r.inks.length:Nat):Int):=by
    rw [Int.natCast_emod,Int.toNat_of_nonneg (by omega)]
  have lm:n.toNat % r.inks.length < r.inks.length:=Nat.mod_lt _ (by omega)
  dsimp only [jBr]
  rw [em]
  generalize n.toNat % r.inks.length=i at lm q ⊢
  obtain ⟨ys,hy,ly,gy⟩:=id R.i
  have ey:ys[i]?=some ys[i]:=List.getElem?_eq_getElem (by omega)
  have es:r.inks[i]?=some r.inks[i]:=List.getElem?_eq_getElem lm
  obtain ⟨t,et,ht2⟩:=gy i _ _ ey es
  rw [et] at ey
  rw [List.getD_eq_getElem?_getD,es,Option.getD_some] at q
  generalize r.inks[i]=s at ht2 q
  refine ⟨_,rfl,x,yK,r.dx,_,_,rfl,R.o,T.aa,T.bo,rfl,_,rfl,r.il,_,_,rfl,rfl,SqL.of hy,by omega,by omega,fun v hv=>?_⟩
  rw [Int.toNat_natCast,ey] at hv
  obtain rfl:=Option.some.inj hv
  refine ⟨_,rfl,x,yK,r.dx,_,_,rfl,R.o,T.aa,T.aA,rfl,_,rfl,r.jb,r.j,(i:Int),rfl,R.j.jo,?_⟩
  refine ⟨_,rfl,t,_,_,_,rfl,rfl,SqT.of ht2,jAz (j:=0) rfl,_,rfl,t,_,_,_,rfl,rfl,SqT.of ht2,jAz (j:=1) rfl,z3,fun t' nt'=>q t' _ (jAk nt' _) ?_⟩
  have ep:(if (i:Int)=0 then r.j.cover.getD r.j.paper else r.j.paper)=papR r.j i:=by
    unfold papR
    by_cases c0:i=0
    · rw [if_pos c0,if_pos (by omega)]
    · rw [if_neg c0,if_neg (by omega)]
  rw [ep]
  exact jAc
def feedD (d:PD) (n:Str) (A y z:Int) (tag:V):PD:={ fedD d n A y z tag with tags:=if d.path < ((d.tags.length + 1:Nat):Int) then (d.tags ++ [tag]).drop 1 else d.tags ++ [tag] }
def jKh (cR cJ cN cP cS cY cM cW:Addr):Sp:=fun vs H Q E=>∃ x r tg n p d A,vs=[.ref x,.ref tg]∧jAW cR cJ H x r∧H tg=some (.tup [.str r.nm,.int n])∧-1≤n∧r.pr=some p∧jAD cP cS cY cM cW H p d∧(d.S≠.rd→jBM cN "found" (.str (wd d.S)) H E)∧d.am.lookup (jBf r n).1=some A∧1≤A∧(jBf r n).2.1≤d.b∧(jBf r n).2.2≤d.c∧d.tags.length≤800 ∧
  (d.S=.rd→∀ l H',(∀ b o,b≠d.ins→b≠d.tr2→b≠d.ik2→H b=some o→H' b=some o)→H l=none→H' l=some (.lst (if d.path < ((d.tags.length + 1:Nat):Int) then (d.tags ++ [V.ref tg]).take 1 else []))→jAD cP cS cY cM cW H' p (feedD d (jBf r n).1 A (jBf r n).2.1 (jBf r n).2.2 (.ref tg))→Q (.ref l) H')
theorem jI4:jAl ["self","tag","used"] ["self","tag"] (jAh jG6):=scM
include T in
theorem jM4 (F:Fun K "fed" "Run.fed" jG6 fa fd) (Dbk:MtE P w K mg base 2 "used_by" yK ["self","tag"] (jGM yK yG cZ cQ yJ yW yU)) (Dbl:MtE P w K mg base 6 "feed" cZ ["self","tag","kind","black","coloured"] (jIK cK cZ cQ yJ yW yU)) :
    jAq P w K mg base (CXe P w) 7 fa fd ["self","tag"] (jKh yK yG cK cZ cQ yJ yW yU):=by
  refine F.okE jI4 (fun vs H Q E h=>?_) (fun cdv A outer s H vs Q E hr h=>?_)
  · obtain ⟨x,r,tg,n,p,d,A,rfl,_⟩:=h
    rfl
  obtain ⟨x,r,tg,n,p,d,A,rfl,R,ht,n1,hp,P,qn,la,a1,ub,uc,lt,q⟩:=h
  refine ⟨_,(jAb (psA (i:=2) jI4.nd (jAR 2 jAw hr.m (pv 0) (jAa (pv 1) jAd))) (jAe (jAm (jAR 6 jAw hr.m (jAp (pv 0) rfl) (jAa (pv 1) (jAa (ixA jAE (pv 2) jAg) (jAa (ixA jAE (pv 2) jAg) (jAa (ixA jAE (pv 2) jAg) jAd)))))))),?_⟩
  refine ⟨_,rfl,x,_,r.dx,_,_,_,rfl,R.o,rfl,T.aa,Dbk,_,rfl,x,r,tg,n,rfl,R,ht,n1,fun t H1 s1 h1=>?_⟩
  have R1:=R.same s1
  have P1:=P.same s1
  refine ⟨_,rfl,x,yK,r.dx,_,_,rfl,R1.o,T.aa,T.ai,rfl,?_⟩
  rw [hp]
  refine ⟨p,_,d.dx,_,_,_,rfl,P1.o,rfl,T.ac,Dbl,_,rfl,_,rfl,t,_,_,_,rfl,rfl,SqT.of h1,jAz (j:=0) rfl,_,rfl,t,_,_,_,rfl,rfl,SqT.of h1,jAz (j:=1) rfl,_,rfl,t,_,_,_,rfl,rfl,SqT.of h1,jAz (j:=2) rfl,p,d,V.ref tg,_,_,_,A,rfl,P1,fun z=>(qn z).after s1,la,a1,ub,uc,lt,fun eS l H2 k2 nl hl P2=>?_⟩
  exact q eS l H2 (fun b o e1 e2 e3 e=>k2 b o e1 e2 e3 (s1 _ _ e)) (s1.free nl) hl P2
theorem jJJ (r:RD) (b:Bool):jBe "slipped" (.bl b) r.fs=({ r with sl:=b }:RD).fs:=by first | rfl | decide +kernel
theorem putR_ps (r:RD) (n:Nat):jBe "passed" (.int (n:Int)) r.fs=({ r with ps:=n }:RD).fs:=by first | rfl | decide +kernel
theorem jJK (r:RD) (p:Option Addr):jBe "printer" (prV p) r.fs=({ r with pr:=p }:RD).fs:=by first | rfl | decide +kernel
def jFa (sl:Bool) (ns:List Int):Bool:=sl || ns.any fun n=>decide (n=-1)
def jA0 (r:RD) (ns:List Int):RD:={ r with ps:=r.ps + jBu ns,sl:=jFa r.sl ns }
def jA8 (r:RD) (ns:List Int):RD:=if (jA0 r ns).ps=r.tot then { jA0 r ns with pr:=none } else jA0 r ns
theorem jH9 (r:RD):jA0 r []=r:=by
  cases r
  unfold jA0 jBu jFa
  simp
theorem jNS (r:RD) (ns:List Int) (n:Int):jA0 r (ns ++ [n])=if n=-1 then { jA0 r ns with sl:=true } else { jA0 r ns with ps:=(jA0 r ns).ps + 1 }:=by
  unfold jA0 jBu jFa
  rw [List.countP_append,List.any_append]
  by_cases c:n=-1
  · rw [if_pos c]
    simp [c]
  · rw [if_neg c]
    simp [c]
    omega
def jCC (cR cJ cP cS cY cM cW:Addr):Sp:=fun vs H Q _=>∃ x r l ts ns,vs=[.ref x,.ref l]∧jAW cR cJ H x r∧H l=some (.lst ts)∧jAy H r.nm ts ns∧∀ H',(∀ b o,b≠x→H b=some o→H' b=some o)→jAW cR cJ H' x (jA8 r ns)→Q (.ref l) H'
theorem jFb:jAl ["self","tags","tag"] ["self","tags"] (jAh jDu):=scM
include T in
theorem jI5 (F:Fun K "note_out" "Run.note_out" jDu fa fd) (Dac:MtE P w K mg base 3 "whole" yK ["self"] (jCG yK yG cZ cQ yJ yW yU)) :
    jAq P w K mg base CX0 4 fa fd ["self","tags"] (jCC yK yG cZ cQ yJ yW yU):=by
  refine F.ok jFb (fun vs H Q E h=>?_) (fun cdv A outer s H vs Q E hr h=>?_)
  · obtain ⟨x,r,l,ts,ns,rfl,_⟩:=h
    rfl
  obtain ⟨x,r,l,ts,ns,rfl,R,hl,tg,q⟩:=h
  refine ⟨_,(jAb (jB_ PassesOwn.never rfl (jBF (pv 1)) (pgA (i:=2) jFb.nd) (jAe (jAC (tcA jAZ (ixA jAE (pv 2) jAg) (jEg T.aN rfl)) (jAe (jAI (pv 0) jBC rfl)) (jAe (jNi (pv 0) jAg ip_add))))) (jAb (jAC (jAN (jAt 3 jBa hr.m (pv 0)) (fun _=>rfl)) (jAe (jAI (pv 0) jAL rfl)) jAs) (jAe (jAm (pv 1))))),?_⟩
  have nlx:l≠x:=jAn hl R.o (by intro z;cases z)
  refine ⟨_,rfl,l,rfl,⟨_,SqL.of hl⟩,jCm (K:=K) (a:=l) (xs:=ts) (fun i σ G=>∃ v2:Option V,σ=[some (.ref x),some (.ref l),v2]∧jAW yK yG G x (jA0 r (ns.take i))∧∀ b o,b≠x→H b=some o→G b=some o) ⟨_,rfl,by rw [List.take_zero,jH9];exact R,fun b o _ e=>e⟩ (fun i σ G _ z=>by obtain ⟨v2,_,_,k⟩:=z;exact SqL.of (k _ _ nlx hl)) (fun i y σ G hy z=>?_) (fun σ G z=>?_)⟩
  · obtain ⟨v2,rfl,RG,k⟩:=z
    obtain ⟨t,n,rfl,en,ht⟩:=tg.get hy
    have htG:=k _ _ (jAn ht R.o (by intro z;cases z)) ht
    have et:ns.take (i + 1)=ns.take i ++ [n]:=by rw [List.take_add_one,en];rfl
    rw [et,jNS]
    refine ⟨_,rfl,t,_,_,_,rfl,rfl,SqT.of htG,jAz (j:=1) rfl,rfl,?_⟩
    by_cases c:n=-1
    · rw [if_pos c]
      refine ⟨true,by rw [c];rfl,jAP ⟨_,rfl,x,yK,_,_,rfl,RG.o,T.aa,T.aL,(by show 6 < 1000;decide),?_⟩⟩
      rw [jJJ]
      exact ⟨_,rfl,RG.set _ _ true _,fun b o nb e=>by rw [jAj nb];exact k b o nb e⟩
    · rw [if_neg c]
      refine ⟨false,by rw [decide_eq_false (fun z=>c (by injection z))],jAK ?_⟩
      refine ⟨_,rfl,x,yK,_,_,_,rfl,RG.o,T.aa,T.aC,rfl,_,_,rfl,rfl,_,_,RG.o,(by show 6 < 1000;decide),?_⟩
      have ep:jBe "passed" (.int (((jA0 r (ns.take i)).ps:Int) + 1)) (jA0 r (ns.take i)).fs=({ jA0 r (ns.take i) with ps:=(jA0 r (ns.take i)).ps + 1 }:RD).fs:=by
        rw [show ((jA0 r (ns.take i)).ps:Int) + 1=(((jA0 r (ns.take i)).ps + 1:Nat):Int) by omega]
        exact putR_ps _ _
      rw [ep]
      exact ⟨_,rfl,RG.set _ _ _ _,fun b o nb e=>by rw [jAj nb];exact k b o nb e⟩
  · obtain ⟨v2,rfl,RG,k⟩:=z
    rw [List.take_of_length_le (by rw [tg.1];exact Nat.le_refl _)] at RG
    refine ⟨_,rfl,x,_,r.dx,_,_,_,rfl,RG.o,rfl,T.aa,Dac,x,_,rfl,RG,?_⟩
    by_cases c:(jA0 r ns).ps=r.tot
    · refine ⟨true,(by show true=decide ((jA0 r ns).ps=r.tot);rw [decide_eq_true c]),jAP ⟨_,rfl,x,yK,_,_,rfl,RG.o,T.aa,T.ai,(by show 6 < 1000;decide),?_⟩⟩
      rw [show (V.non)=prV none from rfl,jJK]
      refine ⟨_,rfl,q _ (fun b o nb e=>by rw [jAj nb];exact k b o nb e) ?_⟩
      have:=RG.set (jA0 r ns).ps none (jA0 r ns).sl (jA0 r ns).br
      unfold jA8
      rw [if_pos c]
      exact this
    · refine ⟨false,(by show false=decide ((jA0 r ns).ps=r.tot);rw [decide_eq_false c]),jAK ⟨_,rfl,q _ k ?_⟩⟩
      unfold jA8
      rw [if_neg c]
      exact RG
end
end My
namespace My
open PySem L2
open Blk (sg sg_inj sg_app)
section
variable {P:Program} {w:World} {K:PySem.W.Frag} {mg:Str→Option Value} {base:Heap} {fa yQ yZ yX yY yV yJ yW yU yK yG cQ cZ cV cK cG vQ vZ vX vY:Addr} {fd:FuncData} (T:Txt K mg yQ yZ yX yY yV yJ yW yU yK yG cQ cZ cV cK cG vQ vZ vX vY)
theorem jAD.off {cP cS cY cM cW:Addr} {H H':Hp} {p x C dx:Addr} {fs:List (Str×V)} {d:PD} (P:jAD cP cS cY cM cW H p d) (hx:H x=some (.ins C dx fs)) (k:∀ b o,b≠x→H b=some o→H' b=some o) (n1:p≠x) (n2:d.tr≠x) (n3:d.ik≠x) (n4:d.st≠x):jAD cP cS cY cM cW H' p d:=by
  obtain ⟨⟨dt,t1⟩,t2,t3,t4⟩:=P.T
  obtain ⟨⟨di,i1⟩,i2,i3,i4⟩:=P.I
  exact { P with o:=k _ _ n1 P.o,T:=⟨⟨dt,k _ _ n2 t1⟩,k _ _ (jAn t2 hx (by intro z;cases z)) t2,k _ _ (jAn t3 hx (by intro z;cases z)) t3,t4⟩,I:=⟨⟨di,k _ _ n3 i1⟩,k _ _ (jAn i2 hx (by intro z;cases z)) i2,k _ _ (jAn i3 hx (by intro z;cases z)) i3,i4⟩,s:=(let ⟨ds,hs⟩:=P.s;⟨ds,k _ _ n4 hs⟩),n:=k _ _ (jAn P.n hx (by intro z;cases z)) P.n }
structure Wd (cR cJ cP cS cY cM cW:Addr) (H:Hp) (x:Addr) (r:RD) (p:Addr) (d:PD) (ns:List Int):Prop where
  R:jAW cR cJ H x r
  P:jAD cP cS cY cM cW H p d
  tg:jAy H r.nm d.tags ns
  n1:p≠x
  n2:d.tr≠x
  n3:d.ik≠x
  n4:d.st≠x
  n5:r.il≠d.ins
theorem Wd.same {cR cJ cP cS cY cM cW:Addr} {H H':Hp} {x:Addr} {r:RD} {p:Addr} {d:PD} {ns:List Int} (w:Wd cR cJ cP cS cY cM cW H x r p d ns) (s:jAo H H'):Wd cR cJ cP cS cY cM cW H' x r p d ns:={ w with R:=w.R.same s,P:=w.P.same s,tg:=w.tg.same s }
theorem jAW.prn {cR cJ cP cS cY cM cW:Addr} {H H':Hp} {x:Addr} {r:RD} {p:Addr} {d:PD} (R:jAW cR cJ H x r) (P:jAD cP cS cY cM cW H p d) (n5:r.il≠d.ins) (k:∀ b o,b≠d.ins→b≠d.tr2→b≠d.ik2→H b=some o→H' b=some o):jAW cR cJ H' x r:=by
  have h1:=P.n
  have h2:=P.T.2.2.1
  have h3:=P.I.2.2.1
  obtain ⟨ys,hy,_⟩:=id R.i
  refine R.fr (fun b C dd fs e=>k _ _ (jAn e h1 (by intro z;cases z)) (jAn e h2 (by intro z;cases z)) (jAn e h3 (by intro z;cases z)) e) (fun o e=>k _ _ n5 (jAn hy h2 (by intro z;cases z)) (jAn hy h3 (by intro z;cases z)) e) (fun b xs e=>k _ _ (jAn e h1 (by intro z;cases z)) (jAn e h2 (by intro z;cases z)) (jAn e h3 (by intro z;cases z)) e)
theorem jJL (r:RD) (ns:List Int):(jA8 r ns).nm=r.nm:=by unfold jA8;split <;> rfl
theorem jFT (r:RD) (ns:List Int):(jA8 r ns).il=r.il:=by unfold jA8;split <;> rfl
theorem jI6 (a b:List Int):jBu (a ++ b)=jBu a + jBu b:=List.countP_append
theorem jOu (r:RD) (a b:List Int):jA0 (jA0 r a) b=jA0 r (a ++ b):=by
  unfold jA0 jFa
  rw [jI6,List.any_append]
  dsimp only
  rw [Nat.add_assoc,Bool.or_assoc]
theorem jOv (r:RD) (a b:List Int):jA8 (jA0 r a) b=jA8 r (a ++ b):=by
  unfold jA8
  rw [jOu]
  rfl
theorem jNT {r:RD} {ns:List Int} (h:(jA0 r ns).ps≠r.tot):jA8 r ns=jA0 r ns:=by
  unfold jA8
  rw [if_neg h]
theorem jAy.app {H:Hp} {nm:Str} {ts us:List V} {ns ms:List Int} (h:jAy H nm ts ns) (g:jAy H nm us ms):jAy H nm (ts ++ us) (ns ++ ms):=⟨by rw [List.length_append,List.length_append,h.1,g.1],fun i y n a b=>by
  by_cases c:i < ts.length
  · rw [List.getElem?_append_left c] at a
    rw [List.getElem?_append_left (by rw [← h.1];exact c)] at b
    exact h.2 i y n a b
  · rw [List.getElem?_append_right (by omega)] at a
    rw [List.getElem?_append_right (by rw [← h.1];omega),← h.1] at b
    exact g.2 _ y n a b⟩
theorem Wd.list {cR cJ cP cS cY cM cW:Addr} {H:Hp} {x:Addr} {r:RD} {p:Addr} {d:PD} {ns:List Int} {l:Addr} {ts us:List V} (w:Wd cR cJ cP cS cY cM cW H x r p d ns) (hl:H l=some (.lst ts)) (n1:l≠d.ins) (n2:r.il≠l):Wd cR cJ cP cS cY cM cW (upd H l (.lst us)) x r p d ns:=by
  have off:∀ b o,H b=some o→(∀ zs,o≠.lst zs)→upd H l (.lst us) b=some o:=fun b o e n=>by
    rw [jAj (fun z=>by rw [z,hl] at e;injection e with e;exact n _ e.symm)]
    exact e
  obtain ⟨⟨dt,t1⟩,t2,t3,t4⟩:=w.P.T
  obtain ⟨⟨di,i1⟩,i2,i3,i4⟩:=w.P.I
  refine { w with R:=w.R.fr (fun b C dd fs e=>off _ _ e (by intro zs z;cases z)) (fun o e=>by rw [jAj n2];exact e) (fun b xs e=>off _ _ e (by intro zs z;cases z)),P:=?_,tg:=w.tg.fr fun b xs e=>off _ _ e (by intro zs z;cases z) }
  exact { w.P with o:=off _ _ w.P.o (by intro zs z;cases z),T:=⟨⟨dt,off _ _ t1 (by intro zs z;cases z)⟩,off _ _ t2 (by intro zs z;cases z),off _ _ t3 (by intro zs z;cases z),t4⟩,I:=⟨⟨di,off _ _ i1 (by intro zs z;cases z)⟩,off _ _ i2 (by intro zs z;cases z),off _ _ i3 (by intro zs z;cases z),i4⟩,s:=(let ⟨ds,hs⟩:=w.P.s;⟨ds,off _ _ hs (by intro zs z;cases z)⟩),n:=by rw [jAj (Ne.symm n1)];exact w.P.n }
def NW (r:RD) (ns:List Int):Prop:=∀ i,i < ns.length→(jA0 r (ns.take i)).ps≠r.tot
structure Emp (cR cJ cP cS cY cM cW:Addr) (H H':Hp) (x:Addr) (r:RD) (p:Addr) (d:PD) (l:Addr) (ns:List Int):Prop where
  fr:∀ b o,b≠x→b≠d.ins→H b=some o→H' b=some o
  nl:H l=none
  l:∃ ts,H' l=some (.lst ts)∧jAy H' r.nm ts ns
  w:Wd cR cJ cP cS cY cM cW H' x (jA8 r ns) p { d with tags:=[] } []
def jGN (cR cJ cP cS cY cM cW:Addr):Sp:=fun vs H Q _=>∃ x r,vs=[.ref x]∧jAW cR cJ H x r∧(r.pr=none→∀ l H',jAo H H'→H l=none→H' l=some (.lst [])→Q (.ref l) H') ∧
  ∀ p,r.pr=some p→∃ d ns,Wd cR cJ cP cS cY cM cW H x r p d ns∧(ns≠[]→d.S=.rd)∧NW r ns∧r.ps≠r.tot∧∀ l H',Emp cR cJ cP cS cY cM cW H H' x r p d l ns→Q (.ref l) H'
theorem jFU:jAl ["self","came"] ["self"] (jAh jD8):=scM
include T in
theorem jJM (F:Fun K "emptied" "Run.emptied" jD8 fa fd) (Daf:MtE P w K mg base 1 "within" cZ ["self"] (jC8 cZ cQ yJ yW yU)) (Day:MtE P w K mg base 4 "push" cZ ["self"] (jGv cK cZ cQ yJ yW yU)) (Dag:MtE P w K mg base 4 "note_out" yK ["self","tags"] (jCC yK yG cZ cQ yJ yW yU)) :
    jAq P w K mg base (CXe P w) 5 fa fd ["self"] (jGN yK yG cZ cQ yJ yW yU):=by
  refine F.okE jFU (fun vs H Q E h=>?_) (fun cdv A outer s H vs Q E hr h=>?_)
  · obtain ⟨x,r,rfl,_⟩:=h
    rfl
  obtain ⟨x,r,rfl,R,q1,q2⟩:=h
  refine ⟨_,(jAb (psA (i:=1) jFU.nd (jAS jAd)) (jAb (jN6 jEp (PW.pt (jEt (tcA jHq (jAp (pv 0) rfl) jAL) (jEm (jAN (jAt 1 jAw hr.m (jAp (pv 0) rfl)) (fun _=>rfl))))) (jAe (jAJ (jKL PySem.F.plainAttrs_list PySem.F.slot_list_extend PySem.F.type_list_extend jNp (pv 1) (jAa (jAR 4 jAw hr.m (pv 0) (jAa (jAt 4 jAw hr.m (jAp (pv 0) rfl)) jAd)) jAd))))) (jAe (jAm (pv 1))))),?_⟩
  refine ⟨small (Nat.zero_le _),fun l nl=>?_⟩
  have s1:=jAk nl (.lst [])
  have hl:upd H l (.lst []) l=some (.lst []):=jAc
  generalize upd H l (.lst [])=H1 at s1 hl ⊢
  cases hp:r.pr with
  | none =>
    refine ⟨fun m σ G=>m=0∧G=H1∧σ=[some (.ref x),some (.ref l)],⟨0,rfl,rfl,rfl⟩,?_⟩
    rintro m σ G ⟨rfl,rfl,rfl⟩
    refine ⟨_,rfl,x,yK,r.dx,_,_,rfl,(R.same s1).o,T.aa,T.ai,rfl,?_⟩
    rw [hp]
    exact ⟨rfl,false,rfl,jAK (jAK ⟨_,rfl,q1 hp l _ s1 nl hl⟩)⟩
  | some p =>
  obtain ⟨d,ns,W,hS,nw,n0,q⟩:=q2 p hp
  have lt9:=W.P.lt
  have ltn:=W.tg.1
  refine ⟨fun m σ G=>∃ i ts,m + i=ns.length∧(∀ b o,b≠x→b≠d.ins→H b=some o→G b=some o)∧G l=some (.lst ts)∧jAy G r.nm ts (ns.take i)∧Wd yK yG cZ cQ yJ yW yU G x (jA8 r (ns.take i)) p { d with tags:=d.tags.drop i } (ns.drop i)∧σ=[some (.ref x),some (.ref l)],⟨ns.length,0,[],rfl,fun b o _ _ e=>s1 _ _ e,hl,⟨rfl,fun i y n a=>by cases a⟩,?_,rfl⟩,?_⟩
  · rw [List.take_zero,jNT (by rw [jH9];exact n0),jH9,List.drop_zero,List.drop_zero]
    exact W.same s1
  rintro m σ G ⟨i,ts,mi,fr,hl,tg,WG,rfl⟩
  have lts:=tg.1
  rw [List.length_take] at lts
  have nlx:l≠x:=jAn hl WG.R.o (by intro z;cases z)
  have done:∀ H',i=ns.length→jAo G H'→Q (.ref l) H':=fun H' ei s'=>by
    subst ei
    rw [List.take_length] at tg WG
    rw [List.drop_length] at WG
    have W2:=WG.same s'
    rw [show d.tags.drop ns.length=[] by rw [← ltn,List.drop_length]] at W2
    exact q l H' ⟨fun b o b1 b2 e=>s' _ _ (fr b o b1 b2 e),nl,⟨ts,s' _ _ hl,tg.same s'⟩,W2⟩
  refine ⟨_,rfl,x,yK,_,_,_,rfl,WG.R.o,T.aa,T.ai,rfl,?_⟩
  have hpi:i < ns.length→(jA8 r (ns.take i))=jA0 r (ns.take i):=fun z=>jNT (nw i z)
  by_cases ci:i < ns.length
  · have er:=hpi ci
    rw [er] at WG
    rw [er,show (jA0 r (ns.take i)).pr=some p from hp]
    refine ⟨rfl,true,rfl,jAP ?_⟩
    refine ⟨_,rfl,x,yK,_,_,_,rfl,WG.R.o,T.aa,T.ai,rfl,?_⟩
    rw [show (jA0 r (ns.take i)).pr=some p from hp]
    refine ⟨p,_,d.dx,_,_,_,rfl,WG.P.o,rfl,T.ac,Daf,p,_,rfl,WG.P,fun wl G1 sg nwl hwl=>?_⟩
    have lne:(d.tags.drop i).isEmpty=false:=by
      rw [List.isEmpty_eq_false_iff]
      intro z
      have:=congrArg List.length z
      rw [List.length_drop] at this
      have:d.tags.length - i=0:=this
      omega
    refine ⟨!(d.tags.drop i).isEmpty,.inl ⟨_,SqL.of hwl,rfl⟩,?_⟩
    rw [lne]
    refine jAP ⟨fun σ' G'=>∃ ts,(∀ b o,b≠x→b≠d.ins→H b=some o→G' b=some o)∧G' l=some (.lst ts)∧jAy G' r.nm ts (ns.take (i + 1))∧Wd yK yG cZ cQ yJ yW yU G' x (jA8 r (ns.take (i + 1))) p { d with tags:=d.tags.drop (i + 1) } (ns.drop (i + 1))∧σ'=[some (.ref x),some (.ref l)],fun σ' G' ⟨ts,h1,h2,h3,h4,h5⟩=>⟨m - 1,by omega,i + 1,ts,by omega,h1,h2,h3,h4,h5⟩,?_⟩
    have W1:=WG.same sg
    have hl1:=sg _ _ hl
    refine ⟨_,rfl,.inl ⟨rfl,_,SqL.of hl1⟩,_,rfl,x,_,_,_,_,_,rfl,W1.R.o,rfl,T.aa,Dag,_,rfl,x,yK,_,_,_,rfl,W1.R.o,T.aa,T.ai,rfl,?_⟩
    rw [show (jA0 r (ns.take i)).pr=some p from hp]
    refine ⟨p,_,d.dx,_,_,_,rfl,W1.P.o,rfl,T.ac,Day,p,_,rfl,W1.P,fun _ l1 G2 k2 nl1 hl2 P2=>?_,fun z=>absurd (hS (fun z=>by rw [z] at ci;cases ci)) z⟩
    have k2':∀ b o,b≠d.ins→b≠d.tr2→b≠d.ik2→G1 b=some o→G2 b=some o:=fun b o e1 _ _ e=>k2 b o e1 e
    have tg2:jAy G2 r.nm (d.tags.drop i) (ns.drop i):=W1.tg.fr fun b xs e=>k2 _ _ (jAn e W1.P.n (by intro z;cases z)) e
    have R2:=W1.R.prn W1.P W1.n5 k2'
    refine ⟨x,_,l1,_,(ns.drop i).take 1,rfl,R2,hl2,tg2.take1,fun G3 k3 R3=>?_⟩
    have e1:ns.take i ++ (ns.drop i).take 1=ns.take (i + 1):=by
      rw [List.take_add]
    rw [jOv,e1] at R3
    have kt3:∀ b xs,G2 b=some (.tup xs)→G3 b=some (.tup xs):=fun b xs e=>k3 _ _ (jAn e R2.o (by intro z;cases z)) e
    have nli:l≠d.ins:=fun z=>by
      have h1:=W.P.n
      rw [← z] at h1
      rw [nl] at h1
      cases h1
    have hl3:G3 l=some (.lst ts):=k3 _ _ nlx (k2 _ _ nli hl1)
    have nl1x:l1≠x:=fun z=>by rw [z,W1.R.o] at nl1;cases nl1
    have hl13:=k3 _ _ nl1x hl2
    have tgt:jAy G3 r.nm (ts ++ (d.tags.drop i).take 1) (ns.take (i + 1)):=by
      have a1:=((tg.same sg).fr fun b xs e=>k2 _ _ (jAn e W1.P.n (by intro z;cases z)) e).fr kt3
      have a2:=tg2.take1.fr kt3
      rw [← e1]
      exact a1.app a2
    refine ⟨l,l1,_,_,rfl,rfl,hl3,hl13,?_,_,?_,jAc,tgt.fr ?_,?_,rfl⟩
    · have:((d.tags.drop i).take 1).length≤1:=by rw [List.length_take];exact Nat.min_le_left _ _
      show ts.length + ((d.tags.drop i).take 1).length≤sizeLine
      exact small (by omega)
    · intro b o b1 b2 e
      have b3:b≠l:=fun z=>by rw [z,nl] at e;cases e
      rw [jAj b3]
      exact k3 _ _ b1 (k2 _ _ b2 (sg _ _ (fr b o b1 b2 e)))
    · intro b xs e
      rw [jAj (jAn e hl3 (by intro z;cases z))]
      exact e
    · have P3:=P2.off R2.o k3 W.n1 W.n2 W.n3 W.n4
      have hl3':=hl3
      rw [List.drop_drop] at P3
      have W3:Wd yK yG cZ cQ yJ yW yU G3 x (jA8 r (ns.take (i + 1))) p { d with tags:=d.tags.drop (i + 1) } (ns.drop (i + 1)):=⟨R3,P3,by rw [jJL];have:=tg2.drop1.fr kt3;rw [List.drop_drop,List.drop_drop] at this;exact this,W.n1,W.n2,W.n3,W.n4,by rw [jFT];exact W.n5⟩
      have nil':r.il≠l:=fun z=>by
        obtain ⟨ys,hy,_⟩:=id R.i
        rw [z,nl] at hy
        cases hy
      exact W3.list hl3 nli (by rw [jFT];exact nil')
  · have ei:i=ns.length:=by omega
    cases hpe:(jA8 r (ns.take i)).pr with
    | none =>
      exact ⟨rfl,false,rfl,jAK (jAK ⟨_,rfl,done G ei (jAo.refl _)⟩)⟩
    | some p' =>
      have ep:p'=p:=by
        unfold jA8 at hpe
        split at hpe
        · cases hpe
        · have:r.pr=some p':=hpe
          rw [hp] at this
          exact (Option.some.inj this).symm
      subst ep
      refine ⟨rfl,true,rfl,jAP ?_⟩
      refine ⟨_,rfl,x,yK,_,_,_,rfl,WG.R.o,T.aa,T.ai,rfl,?_⟩
      rw [hpe]
      refine ⟨p',_,d.dx,_,_,_,rfl,WG.P.o,rfl,T.ac,Daf,p',_,rfl,WG.P,fun wl G1 sg nwl hwl=>?_⟩
      refine ⟨!(d.tags.drop i).isEmpty,.inl ⟨_,SqL.of hwl,rfl⟩,?_⟩
      rw [show d.tags.drop i=[] by rw [ei,← ltn,List.drop_length]]
      exact jAK ⟨_,rfl,done G1 ei sg⟩
end
end My
namespace My
open PySem L2
open Blk (sg sg_inj sg_app)
section
variable {P:Program} {w:World} {K:PySem.W.Frag} {mg:Str→Option Value} {base:Heap} {fa yQ yZ yX yY yV yJ yW yU yK yG cQ cZ cV cK cG vQ vZ vX vY:Addr} {fd:FuncData} (T:Txt K mg yQ yZ yX yY yV yJ yW yU yK yG cQ cZ cV cK cG vQ vZ vX vY)
theorem jAy.takeN {H:Hp} {nm:Str} {ts:List V} {ns:List Int} (h:jAy H nm ts ns) (k:Nat):jAy H nm (ts.take k) (ns.take k):=⟨by rw [List.length_take,List.length_take,h.1],fun i y n a b=>by
  rw [List.getElem?_take] at a b
  by_cases c:i < k
  · rw [if_pos c] at a b;exact h.2 i y n a b
  · rw [if_neg c] at a;cases a⟩
def jEl (r:RD) (p:Addr):RD:=if r.ps=r.tot then r else { r with pr:=some p,sl:=false }
theorem Wd.run {cR cJ cP cS cY cM cW:Addr} {H H':Hp} {x:Addr} {r r':RD} {p:Addr} {d:PD} {ns:List Int} (w:Wd cR cJ cP cS cY cM cW H x r p d ns) (k:∀ b o,b≠x→H b=some o→H' b=some o) (R:jAW cR cJ H' x r') (en:r'.nm=r.nm) (ei:r'.il=r.il):Wd cR cJ cP cS cY cM cW H' x r' p d ns:=⟨R,w.P.off w.R.o k w.n1 w.n2 w.n3 w.n4,by rw [en];exact w.tg.fr fun b xs eo=>k _ _ (jAn eo w.R.o (by intro z;cases z)) eo,w.n1,w.n2,w.n3,w.n4,by rw [ei];exact w.n5⟩
def jGA (cR cJ cO cN cP cS cY cM cW:Addr):Sp:=fun vs H Q E=>∃ x r p2 d2,vs=[.ref x,.ref p2]∧jAW cR cJ H x r∧jAD cP cS cY cM cW H p2 d2∧(¬ Liv r→OvR cO r H E)∧(Liv r→d2.S≠.rd→jBM cN "found" (.str (wd d2.S)) H E) ∧
  (Liv r→d2.S=.rd→(r.pr=none→∀ l H',(∀ b o,b≠x→H b=some o→H' b=some o)→H l=none→H' l=some (.lst [])→jAW cR cJ H' x (jEl r p2)→Q (.ref l) H') ∧
    ∀ p,r.pr=some p→∃ d ns,Wd cR cJ cP cS cY cM cW H x r p d ns∧(ns≠[]→d.S=.rd)∧NW r ns∧∀ l H',(∀ b o,b≠x→b≠d.ins→H b=some o→H' b=some o)→H l=none→(∃ ts,H' l=some (.lst ts)∧jAy H' r.nm ts ns)→Wd cR cJ cP cS cY cM cW H' x (jEl (jA8 r ns) p2) p { d with tags:=[] } []→Q (.ref l) H')
theorem jHU:jAl ["self","printer","came"] ["self","printer"] (jAh jGo):=scM
include T in
theorem jMf (F:Fun K "take" "Run.take" jGo fa fd) (Daa:jCJ P w K mg base 1 "NotNow" cK ["self","found"] (jBl cK "found")) (Dax:MtE P w K mg base 4 "must_go_on" yK ["self"] (jCS yK yG vZ cZ cQ yJ yW yU)) (Dab:MtE P w K mg base 2 "stands" cZ ["self"] (jB1 cZ cQ yJ yW yU)) (Dbm:MtE P w K mg base 5 "emptied" yK ["self"] (jGN yK yG cZ cQ yJ yW yU)) (Dac:MtE P w K mg base 3 "whole" yK ["self"] (jCG yK yG cZ cQ yJ yW yU)) :
    jAq P w K mg base (CXe P w) 6 fa fd ["self","printer"] (jGA yK yG vZ cK cZ cQ yJ yW yU):=by
  refine F.okE jHU (fun vs H Q E h=>?_) (fun cdv A outer s H vs Q E hr h=>?_)
  · obtain ⟨x,r,p,d,rfl,_⟩:=h
    rfl
  obtain ⟨x,r,p2,d2,rfl,R,P,qo,qn,qg⟩:=h
  refine ⟨_,(jAb (jAJ (jAt 4 jAw hr.m (pv 0))) (jAb (jAC (tcA jCv (jAt 2 jAw hr.m (pv 1)) (jCy T.aZ rfl)) (jAe (jBt jBk rfl (jBj Daa hr.m rfl (jAa (jAt 2 jAw hr.m (pv 1)) jAd)))) jAs) (jAb (psA (i:=2) jHU.nd (jAt 5 jAw hr.m (pv 0))) (jAb (jAC (jBY (jAN (jAt 3 jAw hr.m (pv 0)) (fun _=>rfl))) (jAb (jAI (pv 0) (pv 1) rfl) (jAe (jAI (pv 0) jBC rfl))) jAs) (jAe (jAm (pv 2))))))),?_⟩
  refine ⟨_,rfl,x,_,r.dx,_,_,_,rfl,R.o,rfl,T.aa,Dax,x,r,rfl,R,fun lv=>?_,qo⟩
  refine ⟨_,rfl,p2,_,d2.dx,_,_,_,rfl,P.o,rfl,T.ac,Dab,p2,d2,rfl,P,rfl,_,rfl,?_⟩
  by_cases eS:d2.S=.rd
  rotate_left
  · refine iteNN (fun z=>eS (wd_rd.mp (by injection z))) ?_
    exact ⟨_,rfl,p2,_,d2.dx,_,_,_,rfl,P.o,rfl,T.ac,Dab,p2,d2,rfl,P,jA5 T.ag.m fun ea H' sm _ g=>qn lv eS ea H' sm g⟩
  refine jKM (by rw [eS];rfl) ?_
  obtain ⟨q1,q2⟩:=qg lv eS
  refine ⟨_,rfl,x,_,r.dx,_,_,_,rfl,R.o,rfl,T.aa,Dbm,x,r,rfl,R,fun hp l H1 s1 nl hl=>?_,fun p hp=>?_⟩
  · have R1:=R.same s1
    refine ⟨_,rfl,x,_,_,_,_,_,rfl,R1.o,rfl,T.aa,Dac,x,r,rfl,R1,false,(by show false=decide (r.ps=r.tot);rw [decide_eq_false lv.2]),jAP ?_⟩
    refine ⟨_,rfl,_,rfl,x,yK,_,_,rfl,R1.o,T.aa,T.ai,(by show 6 < 1000;decide),?_⟩
    rw [show V.ref p2=prV (some p2) from rfl,jJK]
    have R2:=R1.set r.ps (some p2) r.sl r.br
    refine ⟨_,rfl,x,yK,_,_,rfl,R2.o,T.aa,T.aL,(by show 6 < 1000;decide),?_⟩
    rw [jJJ]
    have nlx:l≠x:=fun z=>by rw [z,R.o] at nl;cases nl
    refine ⟨_,rfl,q1 hp l _ (fun b o nb e=>by rw [jAj nb,jAj nb];exact s1 _ _ e) nl (by rw [jAj nlx,jAj nlx];exact hl) ?_⟩
    unfold jEl
    rw [if_neg lv.2]
    exact R2.set r.ps (some p2) false r.br
  · obtain ⟨d,ns,W,hS,nw,q⟩:=q2 p hp
    refine ⟨d,ns,W,hS,nw,lv.2,fun l H1 em=>?_⟩
    have R1:=em.w.R
    obtain ⟨ts,hl,tl⟩:=em.l
    refine ⟨_,rfl,x,_,_,_,_,_,rfl,R1.o,rfl,T.aa,Dac,x,_,rfl,R1,_,rfl,?_⟩
    by_cases c:(jA8 r ns).ps=(jA8 r ns).tot
    · rw [decide_eq_true c]
      refine jAK ⟨_,rfl,q l H1 em.fr em.nl ⟨ts,hl,tl⟩ ?_⟩
      unfold jEl
      rw [if_pos c]
      exact em.w
    · rw [decide_eq_false c]
      refine jAP ?_
      refine ⟨_,rfl,_,rfl,x,yK,_,_,rfl,R1.o,T.aa,T.ai,(by show 6 < 1000;decide),?_⟩
      rw [show V.ref p2=prV (some p2) from rfl,jJK]
      have R2:=R1.set (jA8 r ns).ps (some p2) (jA8 r ns).sl (jA8 r ns).br
      refine ⟨_,rfl,x,yK,_,_,rfl,R2.o,T.aa,T.aL,(by show 6 < 1000;decide),?_⟩
      rw [jJJ]
      have R3:=R2.set (jA8 r ns).ps (some p2) false (jA8 r ns).br
      have k3:∀ b o,b≠x→H1 b=some o→upd (upd H1 x (.ins yK (jA8 r ns).dx ({ jA8 r ns with pr:=some p2 }:RD).fs)) x (.ins yK (jA8 r ns).dx ({ jA8 r ns with pr:=some p2,sl:=false }:RD).fs) b=some o:=fun b o nb e=>by rw [jAj nb,jAj nb];exact e
      refine ⟨_,rfl,q l _ (fun b o b1 b2 e=>k3 _ _ b1 (em.fr b o b1 b2 e)) em.nl ⟨ts,k3 _ _ (jAn hl R1.o (by intro z;cases z)) hl,tl.fr fun b xs eo=>k3 _ _ (jAn eo R1.o (by intro z;cases z)) eo⟩ (em.w.run k3 ?_ ?_ ?_)⟩
      · unfold jEl
        rw [if_neg c]
        exact R3
      · unfold jEl
        rw [if_neg c]
      · unfold jEl
        rw [if_neg c]
theorem jNU {cR cJ cY cM cW:Addr} {H:Hp} {x st:Addr} {s:S3} {r:RD} (h:jEb cY cM cW H st s) (R:jAW cR cJ H x r):st≠x:=by
  obtain ⟨ds,e⟩:=h
  refine jAn e R.o fun z=>?_
  injection z with _ _ z
  have:=congrArg List.length z
  rw [show r.fs.length=6 from rfl] at this
  cases s with
  | rd=>exact absurd (show 1=6 from this) (by decide)
  | jm=>exact absurd (show 1=6 from this) (by decide)
  | aw b=>exact absurd (show 2=6 from this) (by decide)
theorem jAW.turn {cR cJ cP cS cY cM cW:Addr} {H H':Hp} {x:Addr} {r:RD} {p:Addr} {d:PD} (R:jAW cR cJ H x r) (P:jAD cP cS cY cM cW H p d) (n1:p≠x) (kp:∀ b o,b≠p→H b=some o→H' b=some o):jAW cR cJ H' x r:=by
  have kt:∀ b xs,H b=some (.tup xs)→H' b=some (.tup xs):=fun b xs e=>kp _ _ (jAn e P.o (by intro z;cases z)) e
  obtain ⟨ys,hy,_⟩:=id R.i
  obtain ⟨jx,jb,ji,jk,jc,je,_⟩:=id R.j
  have fs8:∀ (C dx C' dx':Addr) (fs:List (Str×V)),fs.length≠8→HO.ins C dx fs≠.ins C' dx' d.fs:=fun C dx C' dx' fs n z=>by
    injection z with _ _ z
    exact n (by rw [z];rfl)
  exact { R with o:=kp _ _ (Ne.symm n1) R.o,j:=R.j.fr (fun o e=>kp _ _ (jAn je P.o (fs8 _ _ _ _ _ (by show 10≠8;decide))) e) kt,i:=R.i.fr (fun o e=>kp _ _ (jAn hy P.o (by intro z;cases z)) e) kt }
def jHg (cR cJ cO cX cN cT cP cS cY cM cW:Addr):Sp:=fun vs H Q E=>∃ x r,∃ k:Nat,vs=[.ref x,.int (k:Int)]∧jAW cR cJ H x r∧(¬ Liv r→OvR cO r H E) ∧
  (Liv r→r.pr=none→jBM cX "job" (.str r.nm) H E) ∧
  (Liv r→∀ p,r.pr=some p→∃ d ns,Wd cR cJ cP cS cY cM cW H x r p d ns∧(d.S≠.rd→jBM cN "found" (.str (wd d.S)) H E)∧(d.S=.rd→ns.length < k→jBM cT "name" (.str wiW) H E) ∧
    (d.S=.rd→k≤ns.length→∀ t l1 l2 st il H',(∀ b o,b≠x→b≠p→H b=some o→H' b=some o)→H il=none→H' t=some (.tup [.ref l1,.ref l2])→(∃ ts,H' l1=some (.lst ts)∧jAy H' r.nm ts (ns.take k))→(∃ ts,H' l2=some (.lst ts)∧jAy H' r.nm ts (ns.drop k))→Wd cR cJ cP cS cY cM cW H' x (jA8 r (ns.take k)) p { d with st:=st,S:=.jm,ins:=il,tags:=[] } []→Q (.ref t) H'))
theorem jAy.dropN {H:Hp} {nm:Str} {ts:List V} {ns:List Int} (h:jAy H nm ts ns) (k:Nat):jAy H nm (ts.drop k) (ns.drop k):=⟨by rw [List.length_drop,List.length_drop,h.1],fun i y n a b=>by rw [List.getElem?_drop] at a b;exact h.2 _ y n a b⟩
theorem jI7:jAl ["self","saved","told"] ["self","saved"] (jAh jG5):=scM
include T in
theorem jM5 (F:Fun K "jam" "Run.jam" jG5 fa fd) (Daz:MtE P w K mg base 5 "must_be_placed" yK ["self"] (jB8 yK yG vZ vX cZ cQ yJ yW yU)) (Dbn:MtE P w K mg base 5 "jam" cZ ["self","saved"] (jKc cK cG cZ cQ yJ yW yU)) (Dag:MtE P w K mg base 4 "note_out" yK ["self","tags"] (jCC yK yG cZ cQ yJ yW yU)) :
    jAq P w K mg base (CXe P w) 6 fa fd ["self","saved"] (jHg yK yG vZ vX cK cG cZ cQ yJ yW yU):=by
  refine F.okE jI7 (fun vs H Q E h=>?_) (fun cdv A outer s H vs Q E hr h=>?_)
  · obtain ⟨x,r,k,rfl,_⟩:=h
    rfl
  obtain ⟨x,r,k,rfl,R,qo,qx,qg⟩:=h
  refine ⟨_,(jAb (jAJ (jAt 5 jAw hr.m (pv 0))) (jAb (psA (i:=2) jI7.nd (jAR 5 jAw hr.m (jAp (pv 0) rfl) (jAa (pv 1) jAd))) (jAb (jAJ (jAR 4 jAw hr.m (pv 0) (jAa (ixA jAE (pv 2) jAg) jAd))) (jAe (jAm (pv 2)))))),?_⟩
  refine ⟨_,rfl,x,_,r.dx,_,_,_,rfl,R.o,rfl,T.aa,Daz,x,r,rfl,R,fun lv p hp=>?_,qx,qo⟩
  obtain ⟨d,ns,W,qn,qt,q⟩:=qg lv p hp
  refine ⟨_,rfl,x,yK,r.dx,_,_,rfl,R.o,T.aa,T.ai,rfl,?_⟩
  rw [hp]
  have ltn:=W.tg.1
  refine ⟨p,_,d.dx,_,_,_,rfl,W.P.o,rfl,T.ac,Dbn,_,rfl,p,d,k,rfl,W.P,qn,fun e1 e2=>qt e1 (by omega),fun eS kn t l1 l2 st il H1 kp nil' nt ht hl1 hl2 P1=>?_⟩
  have kt:∀ b xs,H b=some (.tup xs)→H1 b=some (.tup xs):=fun b xs e=>kp _ _ (jAn e W.P.o (by intro z;cases z)) e
  have R1:=R.turn W.P W.n1 kp
  have tg1:jAy H1 r.nm (d.tags.take k) (ns.take k):=(W.tg.fr kt).takeN k
  have tg2:jAy H1 r.nm (d.tags.drop k) (ns.drop k):=(W.tg.fr kt).dropN k
  refine ⟨_,rfl,x,_,r.dx,_,_,_,rfl,R1.o,rfl,T.aa,Dag,_,rfl,t,_,_,_,rfl,rfl,SqT.of ht,jAz (j:=0) rfl,x,r,l1,_,ns.take k,rfl,R1,hl1,tg1,fun H2 k2 R2=>?_⟩
  have nstx:st≠x:=jNU P1.s R1
  have P2:=P1.off R1.o k2 W.n1 W.n2 W.n3 nstx
  have kt2:∀ b xs,H1 b=some (.tup xs)→H2 b=some (.tup xs):=fun b xs e=>k2 _ _ (jAn e R1.o (by intro z;cases z)) e
  refine ⟨_,rfl,q eS (by omega) t l1 l2 st il H2 (fun b o b1 b2 e=>k2 _ _ b1 (kp _ _ b2 e)) nil' (kt2 _ _ ht) ⟨_,k2 _ _ (jAn hl1 R1.o (by intro z;cases z)) hl1,tg1.fr kt2⟩ ⟨_,k2 _ _ (jAn hl2 R1.o (by intro z;cases z)) hl2,tg2.fr kt2⟩ ⟨R2,P2,⟨rfl,fun i y n a=>by cases a⟩,W.n1,W.n2,W.n3,nstx,?_⟩⟩
  rw [jFT]
  intro z
  have z':r.il=il:=z
  obtain ⟨ys,hy,_⟩:=id R.i
  rw [← z',hy] at nil'
  cases nil'
end
end My
namespace My
open PySem L2
open Blk (sg sg_inj sg_app)
section
variable {P:Program} {w:World} {K:PySem.W.Frag} {mg:Str→Option Value} {base:Heap} {fa yQ yZ yX yY yV yJ yW yU yK yG cQ cZ cV cK cG vQ vZ vX vY:Addr} {fd:FuncData} (T:Txt K mg yQ yZ yX yY yV yJ yW yU yK yG cQ cZ cV cK cG vQ vZ vX vY)
def jI8 (over:Bool) (ns:List Int):List Int:=if over=true then ns.take 1 else []
def jKS (over:Bool) (ns:List Int):List Int:=if over=true then ns.drop 1 else ns
structure Stp (cR cJ cP cS cY cM cW:Addr) (H H':Hp) (x:Addr) (r:RD) (p:Addr) (d d':PD) (l:Addr) (outs ns:List Int):Prop where
  fr:∀ b o,b≠x→b≠d.ins→b≠d.tr2→b≠d.ik2→H b=some o→H' b=some o
  nl:H l=none
  l:∃ ts,H' l=some (.lst ts)∧jAy H' r.nm ts outs
  w:Wd cR cJ cP cS cY cM cW H' x (jA8 r outs) p d' ns
theorem take_if {α:Type} {c:Prop} [Decidable c] {over:Bool} (e:decide c=over) (l:List α):(if c then l.take 1 else [])=if over=true then l.take 1 else []:=by
  subst e
  by_cases h:c
  · rw [if_pos h,if_pos (decide_eq_true h)]
  · rw [if_neg h,if_neg (fun z=>h (of_decide_eq_true z))]
theorem drop_if {α:Type} {c:Prop} [Decidable c] {over:Bool} (e:decide c=over) (l:List α):(if c then l.drop 1 else l)=if over=true then l.drop 1 else l:=by
  subst e
  by_cases h:c
  · rw [if_pos h,if_pos (decide_eq_true h)]
  · rw [if_neg h,if_neg (fun z=>h (of_decide_eq_true z))]
theorem jAy.outs {H:Hp} {nm:Str} {ts:List V} {ns:List Int} (h:jAy H nm ts ns) (over:Bool):jAy H nm (if over=true then ts.take 1 else []) (jI8 over ns):=by
  unfold jI8
  cases over with
  | true=>rw [if_pos rfl,if_pos rfl];exact h.take1
  | false=>rw [if_neg (by decide),if_neg (by decide)];exact ⟨rfl,fun i y n a=>by simp at a⟩
theorem jAy.rest {H:Hp} {nm:Str} {ts:List V} {ns:List Int} (h:jAy H nm ts ns) (over:Bool):jAy H nm (if over=true then ts.drop 1 else ts) (jKS over ns):=by
  unfold jKS
  cases over with
  | true=>rw [if_pos rfl,if_pos rfl];exact h.drop1
  | false=>rw [if_neg (by decide),if_neg (by decide)];exact h
theorem next_lo (r:RD) (ns:List Int):-1≤jA4 r ns:=by
  unfold jA4
  split <;> omega
def jGB (cR cJ cO cX cN cP cS cY cM cW:Addr):Sp:=fun vs H Q E=>∃ x r,vs=[.ref x]∧jAW cR cJ H x r∧(¬ Liv r→OvR cO r H E)∧(Liv r→r.pr=none→jBM cX "job" (.str r.nm) H E)∧(Liv r→∀ p,r.pr=some p→∃ d ns,Wd cR cJ cP cS cY cM cW H x r p d ns∧(d.S≠.rd→jBM cN "found" (.str (wd d.S)) H E) ∧
  (jA4 r ns < (r.tot:Int)→d.tags.length≤800∧∃ A,d.am.lookup (jBf r (jA4 r ns)).1=some A∧1≤A∧(jBf r (jA4 r ns)).2.1≤d.b∧(jBf r (jA4 r ns)).2.2≤d.c∧(d.S=.rd→∀ l H' ts over,over=decide (d.path < ((ns.length + 1:Nat):Int)) →
    Stp cR cJ cP cS cY cM cW H H' x r p d { d with am:=jA3 d.am (jBf r (jA4 r ns)).1 (A - 1),b:=d.b - (jBf r (jA4 r ns)).2.1,c:=d.c - (jBf r (jA4 r ns)).2.2,tags:=ts } l (jI8 over (ns ++ [jA4 r ns])) (jKS over (ns ++ [jA4 r ns]))→Q (.ref l) H')) ∧
  (¬ jA4 r ns < (r.tot:Int)→d.S=.rd→∀ l H' ts,Stp cR cJ cP cS cY cM cW H H' x r p d { d with tags:=ts } l (ns.take 1) (ns.drop 1)→Q (.ref l) H'))
theorem jHV:jAl ["self","tag"] ["self"] (jAh jGp):=scM
include T in
theorem jMg (F:Fun K "step" "Run.step" jGp fa fd) (Daz:MtE P w K mg base 5 "must_be_placed" yK ["self"] (jB8 yK yG vZ vX cZ cQ yJ yW yU)) (DaA:MtE P w K mg base 3 "upcoming" yK ["self"] (jDH yK yG cZ cQ yJ yW yU)) (Day:MtE P w K mg base 4 "push" cZ ["self"] (jGv cK cZ cQ yJ yW yU)) (Dbo:MtE P w K mg base 7 "fed" yK ["self","tag"] (jKh yK yG cK cZ cQ yJ yW yU)) (Dag:MtE P w K mg base 4 "note_out" yK ["self","tags"] (jCC yK yG cZ cQ yJ yW yU)) :
    jAq P w K mg base (CXe P w) 8 fa fd ["self"] (jGB yK yG vZ vX cK cZ cQ yJ yW yU):=by
  refine F.okE jHV (fun vs H Q E h=>?_) (fun cdv A outer s H vs Q E hr h=>?_)
  · obtain ⟨x,r,rfl,_⟩:=h
    rfl
  obtain ⟨x,r,rfl,R0,qo,qx,qg⟩:=h
  refine ⟨_,(jAb (jAJ (jAt 5 jAw hr.m (pv 0))) (jAb (psA (i:=1) jHV.nd (jAt 3 jAw hr.m (pv 0))) (jAe (jAm (jAR 4 jAw hr.m (pv 0) (jAa (jCk (tcA jC1 (pv 1) jAL) (jAt 4 jAw hr.m (jAp (pv 0) rfl)) (jAR 7 jAw hr.m (pv 0) (jAa (pv 1) jAd))) jAd)))))),?_⟩
  refine ⟨_,rfl,x,_,r.dx,_,_,_,rfl,R0.o,rfl,T.aa,Daz,x,r,rfl,R0,fun lv p hp=>?_,qx,qo⟩
  obtain ⟨d,ns,W,qn,q1,q2⟩:=qg lv p hp
  refine ⟨_,rfl,x,_,r.dx,_,_,_,rfl,W.R.o,rfl,T.aa,DaA,x,r,rfl,W.R,(fun z=>by rw [hp] at z;cases z),fun p' hp'=>?_⟩
  obtain rfl:p=p':=by rw [hp] at hp';exact Option.some.inj hp'
  refine ⟨d,ns,W.P,W.tg,fun cn t H1 s1 nt ht=>?_,fun cn H1 s1=>?_⟩
  · obtain ⟨lt8,A,la,a1,ub,uc,q⟩:=q1 cn
    have W1:=W.same s1
    refine ⟨_,rfl,x,_,r.dx,_,_,_,rfl,W1.R.o,rfl,T.aa,Dag,_,rfl,rfl,false,rfl,jAK ?_⟩
    refine ⟨_,rfl,x,_,r.dx,_,_,_,rfl,W1.R.o,rfl,T.aa,Dbo,_,rfl,x,r,t,_,p,d,A,rfl,W1.R,ht,next_lo _ _,hp,W1.P,fun z=>(qn z).after s1,la,a1,ub,uc,lt8,fun eS l H2 k2 nl hl P2=>?_⟩
    have elen:=W.tg.1
    have tg1:=W1.tg.snoc ht
    have h1:=W1.P.n
    have h2:=W1.P.T.2.2.1
    have h3:=W1.P.I.2.2.1
    have tg2:jAy H2 r.nm (d.tags ++ [V.ref t]) (ns ++ [jA4 r ns]):=tg1.fr fun b xs e=>k2 _ _ (jAn e h1 (by intro z;cases z)) (jAn e h2 (by intro z;cases z)) (jAn e h3 (by intro z;cases z)) e
    have R2:=W1.R.prn W1.P W1.n5 k2
    generalize hov:decide (d.path < ((d.tags.length + 1:Nat):Int))=over at hl
    rw [take_if hov] at hl
    refine ⟨x,r,l,_,jI8 over (ns ++ [jA4 r ns]),rfl,R2,hl,tg2.outs over,fun H3 k3 R3=>?_⟩
    have nlx:l≠x:=fun z=>by rw [z,W1.R.o] at nl;cases nl
    have kt3:∀ b xs,H2 b=some (.tup xs)→H3 b=some (.tup xs):=fun b xs e=>k3 _ _ (jAn e R2.o (by intro z;cases z)) e
    refine q eS l H3 (if over=true then (d.tags ++ [V.ref t]).drop 1 else d.tags ++ [V.ref t]) over (by rw [← hov,elen]) ⟨fun b o e1 e2 e3 e4 e=>k3 _ _ e1 (k2 _ _ e2 e3 e4 (s1 _ _ e)),s1.free nl,⟨_,k3 _ _ nlx hl,(tg2.outs over).fr kt3⟩,?_⟩
    have P3:=P2.off R2.o k3 W.n1 W.n2 W.n3 W.n4
    have ed:feedD d (jBf r (jA4 r ns)).1 A (jBf r (jA4 r ns)).2.1 (jBf r (jA4 r ns)).2.2 (V.ref t)={ d with am:=jA3 d.am (jBf r (jA4 r ns)).1 (A - 1),b:=d.b - (jBf r (jA4 r ns)).2.1,c:=d.c - (jBf r (jA4 r ns)).2.2,tags:=if over=true then (d.tags ++ [V.ref t]).drop 1 else d.tags ++ [V.ref t] }:=by
      unfold feedD fedD
      rw [drop_if hov]
    rw [ed] at P3
    exact ⟨R3,P3,by rw [jJL];exact (tg2.rest over).fr kt3,W.n1,W.n2,W.n3,W.n4,by rw [jFT];exact W.n5⟩
  · have W1:=W.same s1
    refine ⟨_,rfl,x,_,r.dx,_,_,_,rfl,W1.R.o,rfl,T.aa,Dag,_,rfl,rfl,true,rfl,jAP ?_⟩
    refine ⟨_,rfl,x,yK,r.dx,_,_,rfl,W1.R.o,T.aa,T.ai,rfl,?_⟩
    rw [hp]
    refine ⟨p,_,d.dx,_,_,_,rfl,W1.P.o,rfl,T.ac,Day,p,d,rfl,W1.P,fun eS l H2 k2 nl hl P2=>?_,fun z=>(qn z).after s1⟩
    have k2':∀ b o,b≠d.ins→b≠d.tr2→b≠d.ik2→H1 b=some o→H2 b=some o:=fun b o e1 _ _ e=>k2 b o e1 e
    have tg2:jAy H2 r.nm d.tags ns:=W1.tg.fr fun b xs e=>k2 _ _ (jAn e W1.P.n (by intro z;cases z)) e
    have R2:=W1.R.prn W1.P W1.n5 k2'
    refine ⟨x,r,l,_,ns.take 1,rfl,R2,hl,tg2.take1,fun H3 k3 R3=>?_⟩
    have nlx:l≠x:=fun z=>by rw [z,W1.R.o] at nl;cases nl
    have kt3:∀ b xs,H2 b=some (.tup xs)→H3 b=some (.tup xs):=fun b xs e=>k3 _ _ (jAn e R2.o (by intro z;cases z)) e
    refine q2 cn eS l H3 (d.tags.drop 1) ⟨fun b o e1 e2 e3 e4 e=>k3 _ _ e1 (k2 _ _ e2 (s1 _ _ e)),s1.free nl,⟨_,k3 _ _ nlx hl,tg2.take1.fr kt3⟩,?_⟩
    exact ⟨R3,P2.off R2.o k3 W.n1 W.n2 W.n3 W.n4,by rw [jJL];exact tg2.drop1.fr kt3,W.n1,W.n2,W.n3,W.n4,by rw [jFT];exact W.n5⟩
end
end My
namespace My
open PySem L2
open Blk (sg sg_inj sg_app)
section
variable {P:Program} {w:World} {K:PySem.W.Frag} {mg:Str→Option Value} {base:Heap} {fa yQ yZ yX yY yV yJ yW yU yK yG cQ cZ cV cK cG vQ vZ vX vY:Addr} {fd:FuncData} (T:Txt K mg yQ yZ yX yY yV yJ yW yU yK yG cQ cZ cV cK cG vQ vZ vX vY)
def jDd (j:Jv):List (Int×Int):=(jC3 j.l j.n).map fun s=>inkS s j.colour
def newR (dx jb il:Addr) (nm:Str) (cp:Nat) (j:Jv):RD:=⟨dx,jb,il,nm,cp,j,jDd j,0,none,false,false⟩
theorem jM6 {l:Ly} {n:Nat} (ok:Ly.Ok l) {i:Nat} {s:List Int×List Int} (h:(jC3 l n)[i]?=some s):s.1.length≤100∧s.2.length≤100:=by
  have c:=Ly.cells_pos ok
  unfold jC3 at h
  rw [List.getElem?_map] at h
  obtain ⟨k,_,rfl⟩:=Option.map_eq_some_iff.mp h
  unfold jDV jFJ
  refine ⟨by rw [List.length_map,List.length_range];omega,?_⟩
  dsimp only
  split
  · rw [List.length_map,List.length_range];omega
  · rw [List.length_replicate];omega
theorem jLJ (l:Ly) (n:Nat):(jC3 l n).length=jBI l n:=by unfold jC3;rw [List.length_map,List.length_range]
theorem jLK {l:Ly} {n:Nat} (h:1≤n):jBI l n≤n:=by
  unfold jBI
  have:=Nat.div_le_self (n - 1) l.per
  omega
def jI9 (cR cJ:Addr):Sp:=fun vs H Q _=>∃ (x dx jb:Addr) (nm:Str) (cp:Nat) (j:Jv),vs=[.ref x,.ref jb]∧H x=some (.ins cR dx [])∧jGz cJ H jb nm cp j∧j.Ok∧1≤cp∧cp≤99∧jb≠x ∧
  ∀ il H',(∀ b o,b≠x→H b=some o→H' b=some o)→H il=none→jAW cR cJ H' x (newR dx jb il nm cp j)→Q .non H'
theorem jMh:jAl ["self","job"] ["self","job"] (jAh jGl):=scM
include T in
theorem jMi (F:Fun K "__init__" "Run.__init__" jGl fa fd) (Dbp:Dfn P w K mg base 2 "ink_of" ["sheet","colour"] (jKd K)) (Dbq:Dfn P w K mg base 5 "sheets_of" ["job"] (jHc yG)) :
    jAq P w K mg base CX0 6 fa fd ["self","job"] (jI9 yK yG):=by
  refine F.ok jMh (fun vs H Q E h=>?_) (fun cdv A outer s H vs Q E hr h=>?_)
  · obtain ⟨x,dx,jb,nm,cp,j,rfl,_⟩:=h
    rfl
  obtain ⟨x,dx,jb,nm,cp,j,rfl,hx,J,ok,c1,c2,njx,q⟩:=h
  refine ⟨_,(jAb (jAI (pv 0) (pv 1) rfl) (jAb (jAI (pv 0) (jCg (frees:=[ ("job",1) ]) ⟨by decide +kernel,rfl,rfl,by decide +kernel,⟨⟨rfl,rfl,rfl,by decide +kernel⟩,trivial⟩,by decide +kernel,jBd rfl,rfl⟩ rfl (jBF (jAv Dbq hr.m rfl (jAa (pv 1) jAd))) (fun _ _ _ _=>jCo) (fun _ _ _ _=>by exact (jAv Dbp hr.m rfl (jAa (pv 0) (jAa (pe_fldK (K:=K) rfl (pv 1) rfl) jAd))))) rfl) (jAb (jAI (pv 0) jAg rfl) (jAb (jAI (pv 0) jAL rfl) (jAb (jAI (pv 0) jBC rfl) (jAe (jAI (pv 0) jBC rfl))))))),?_⟩
  refine ⟨_,rfl,_,rfl,x,yK,dx,_,rfl,hx,T.aa,T.aA,(by show 0 < 1000;decide),?_⟩
  rw [jBb (by show ¬ ("job":Str)∈([]:List Str);decide +kernel),List.nil_append]
  have hx1:upd H x (.ins yK dx [("job",V.ref jb)]) x=some (.ins yK dx [("job",V.ref jb)]):=jAc
  have k1:∀ b o,b≠x→H b=some o→upd H x (.ins yK dx [("job",V.ref jb)]) b=some o:=fun b o nb e=>by rw [jAj nb];exact e
  generalize upd H x (.ins yK dx [("job",V.ref jb)])=H1 at hx1 k1 ⊢
  have J1:jGz yG H1 jb nm cp j:=J.fr (fun o e=>k1 _ _ njx e) (fun b xs e=>k1 _ _ (jAn e hx (by intro z;cases z)) e)
  obtain ⟨jx,jb',ji,jk,jc,je,jcol⟩:=id J1
  refine ⟨_,rfl,jb,j,rfl,J1.jo,ok,fun pl H2 s2 npl SF=>?_⟩
  obtain ⟨ys,hpl,ly,gy⟩:=SF
  have lc:=jLJ j.l j.n
  have ch:=jLK (l:=j.l) ok.1
  have n9:=ok.2.1
  refine ⟨pl,rfl,⟨_,SqL.of hpl⟩,?_⟩
  refine jEz (jEy (K:=K) (SqL.of hpl)) (fun y z H3=>∀ s,jDG H2 y s→∃ t,z=.ref t∧H3 t=some (.tup [.int (inkS s j.colour).1,.int (inkS s j.colour).2])) (jAX (by omega)) (fun y hy H' R _ rr=>rr) (fun y hy H' R sm rr=>?_) (fun il H3 zs s3 nil' hil lz gz=>?_)
  · obtain ⟨i,ei⟩:=List.mem_iff_getElem?.mp hy
    obtain ⟨s,es⟩:∃ s,(jC3 j.l j.n)[i]?=some s:=⟨_,List.getElem?_eq_getElem (by rw [← ly];exact (List.getElem?_eq_some_iff.mp ei).1)⟩
    have sa:=(gy i y s ei es).at
    obtain ⟨l1,l2⟩:=jM6 ok.2.2 es
    refine ⟨_,rfl,_,rfl,jb,yG,jx,_,_,rfl,(s2.trans sm) _ _ je,T.ad,T.bC,jF7 _ _ _ _ _ _ _ _ _ _,y,jc,s,j.colour,rfl,sa.same sm,l1,l2,jcol.same (s2.trans sm),fun t H'' s'' nt ht=>?_⟩
    refine rr _ _ s'' ⟨fun b=>b=t,fun b hb=>by subst hb;exact ⟨nt,_,ht⟩,fun H3 h3 s' sa'=>⟨t,rfl,?_⟩⟩
    rw [h3 t rfl,ht]
    obtain ⟨t1,f1,b1,e1,g1,g2,g3⟩:=sa
    obtain ⟨t2,f2,b2,e2,g4,g5,g6⟩:=sa'
    rw [e1] at e2
    cases e2
    rw [g1] at g4
    cases g4
    rw [g2] at g5
    rw [g3] at g6
    have q1:s.1=s'.1:=by injection g5 with g5;injection g5 with g5;exact (List.map_inj_right (fun a b z=>by injection z)).mp g5
    have q2:s.2=s'.2:=by injection g6 with g6;injection g6 with g6;exact (List.map_inj_right (fun a b z=>by injection z)).mp g6
    rw [show s=s' from Prod.ext q1 q2]
  have s13:=s2.trans s3
  have hx3:=s13 _ _ hx1
  have nilx:il≠x:=jAn hil hx3 (by intro z;cases z)
  have kk:∀ b o,b≠x→H b=some o→H3 b=some o:=fun b o nb e=>s13 _ _ (k1 b o nb e)
  have I3:jHf H3 il (jDd j):=by
    refine ⟨zs,hil,by unfold jDd;rw [List.length_map,lz,ly],fun i z s e1 e2=>?_⟩
    unfold jDd at e2
    rw [List.getElem?_map] at e2
    obtain ⟨sh,es,rfl⟩:=Option.map_eq_some_iff.mp e2
    obtain ⟨y,ey⟩:∃ y,ys[i]?=some y:=⟨_,List.getElem?_eq_getElem (by rw [ly];exact (List.getElem?_eq_some_iff.mp es).1)⟩
    exact gz i y z ey e1 sh (gy i y sh ey es).at
  have J3:=J1.fr (fun o e=>s13 _ _ e) (fun b xs e=>s13 _ _ e)
  have k1':=k1
  clear gz gy hx1 k1 J1
  refine ⟨_,rfl,x,yK,dx,_,rfl,hx3,T.aa,T.bo,(by show 1 < 1000;decide),?_⟩
  rw [jBb (by show ¬ ("inks":Str)∈(["job"]:List Str);decide +kernel)]
  have hx4:upd H3 x (.ins yK dx (([("job",V.ref jb)]:List (Str×V)) ++ ([("inks",V.ref il)]:List (Str×V)))) x=some (.ins yK dx [("job",V.ref jb),("inks",V.ref il)]):=jAc
  have e4:∀ b o,b≠x→H3 b=some o→upd H3 x (.ins yK dx (([("job",V.ref jb)]:List (Str×V)) ++ ([("inks",V.ref il)]:List (Str×V)))) b=some o:=fun b o nb e=>by rw [jAj nb];exact e
  generalize upd H3 x (.ins yK dx (([("job",V.ref jb)]:List (Str×V)) ++ ([("inks",V.ref il)]:List (Str×V))))=H4 at hx4 e4 ⊢
  refine ⟨_,rfl,x,yK,dx,_,rfl,hx4,T.aa,T.aC,(by show 2 < 1000;decide),?_⟩
  rw [jBb (by show ¬ ("passed":Str)∈(["job","inks"]:List Str);decide +kernel)]
  have hx5:upd H4 x (.ins yK dx (([("job",V.ref jb),("inks",V.ref il)]:List (Str×V)) ++ ([("passed",V.int 0)]:List (Str×V)))) x=some (.ins yK dx [("job",V.ref jb),("inks",V.ref il),("passed",V.int 0)]):=jAc
  have e5:∀ b o,b≠x→H4 b=some o→upd H4 x (.ins yK dx (([("job",V.ref jb),("inks",V.ref il)]:List (Str×V)) ++ ([("passed",V.int 0)]:List (Str×V)))) b=some o:=fun b o nb e=>by rw [jAj nb];exact e
  generalize upd H4 x (.ins yK dx (([("job",V.ref jb),("inks",V.ref il)]:List (Str×V)) ++ ([("passed",V.int 0)]:List (Str×V))))=H5 at hx5 e5 ⊢
  refine ⟨_,rfl,x,yK,dx,_,rfl,hx5,T.aa,T.ai,(by show 3 < 1000;decide),?_⟩
  rw [jBb (by show ¬ ("printer":Str)∈(["job","inks","passed"]:List Str);decide +kernel)]
  have hx6:upd H5 x (.ins yK dx (([("job",V.ref jb),("inks",V.ref il),("passed",V.int 0)]:List (Str×V)) ++ ([("printer",V.non)]:List (Str×V)))) x=some (.ins yK dx [("job",V.ref jb),("inks",V.ref il),("passed",V.int 0),("printer",V.non)]):=jAc
  have e6:∀ b o,b≠x→H5 b=some o→upd H5 x (.ins yK dx (([("job",V.ref jb),("inks",V.ref il),("passed",V.int 0)]:List (Str×V)) ++ ([("printer",V.non)]:List (Str×V)))) b=some o:=fun b o nb e=>by rw [jAj nb];exact e
  generalize upd H5 x (.ins yK dx (([("job",V.ref jb),("inks",V.ref il),("passed",V.int 0)]:List (Str×V)) ++ ([("printer",V.non)]:List (Str×V))))=H6 at hx6 e6 ⊢
  refine ⟨_,rfl,x,yK,dx,_,rfl,hx6,T.aa,T.aL,(by show 4 < 1000;decide),?_⟩
  rw [jBb (by show ¬ ("slipped":Str)∈(["job","inks","passed","printer"]:List Str);decide +kernel)]
  have hx7:upd H6 x (.ins yK dx (([("job",V.ref jb),("inks",V.ref il),("passed",V.int 0),("printer",V.non)]:List (Str×V)) ++ ([("slipped",V.bl false)]:List (Str×V)))) x=some (.ins yK dx [("job",V.ref jb),("inks",V.ref il),("passed",V.int 0),("printer",V.non),("slipped",V.bl false)]):=jAc
  have e7:∀ b o,b≠x→H6 b=some o→upd H6 x (.ins yK dx (([("job",V.ref jb),("inks",V.ref il),("passed",V.int 0),("printer",V.non)]:List (Str×V)) ++ ([("slipped",V.bl false)]:List (Str×V)))) b=some o:=fun b o nb e=>by rw [jAj nb];exact e
  generalize upd H6 x (.ins yK dx (([("job",V.ref jb),("inks",V.ref il),("passed",V.int 0),("printer",V.non)]:List (Str×V)) ++ ([("slipped",V.bl false)]:List (Str×V))))=H7 at hx7 e7 ⊢
  refine ⟨_,rfl,x,yK,dx,_,rfl,hx7,T.aa,T.bp,(by show 5 < 1000;decide),?_⟩
  rw [jBb (by show ¬ ("broken":Str)∈(["job","inks","passed","printer","slipped"]:List Str);decide +kernel)]
  have hx8:upd H7 x (.ins yK dx (([("job",V.ref jb),("inks",V.ref il),("passed",V.int 0),("printer",V.non),("slipped",V.bl false)]:List (Str×V)) ++ ([("broken",V.bl false)]:List (Str×V)))) x=some (.ins yK dx [("job",V.ref jb),("inks",V.ref il),("passed",V.int 0),("printer",V.non),("slipped",V.bl false),("broken",V.bl false)]):=jAc
  have e8:∀ b o,b≠x→H7 b=some o→upd H7 x (.ins yK dx (([("job",V.ref jb),("inks",V.ref il),("passed",V.int 0),("printer",V.non),("slipped",V.bl false)]:List (Str×V)) ++ ([("broken",V.bl false)]:List (Str×V)))) b=some o:=fun b o nb e=>by rw [jAj nb];exact e
  generalize upd H7 x (.ins yK dx (([("job",V.ref jb),("inks",V.ref il),("passed",V.int 0),("printer",V.non),("slipped",V.bl false)]:List (Str×V)) ++ ([("broken",V.bl false)]:List (Str×V))))=H8 at hx8 e8 ⊢
  have e38:∀ b o,b≠x→H3 b=some o→H8 b=some o:=fun b o nb e=>e8 b o nb (e7 b o nb (e6 b o nb (e5 b o nb (e4 b o nb e))))
  have kt:∀ b xs,H3 b=some (.tup xs)→H8 b=some (.tup xs):=fun b xs e=>e38 _ _ (jAn e hx3 (by intro z;cases z)) e
  have il0:H il=none:=by
    cases e:H il with
    | none=>rfl
    | some u =>
      rw [s2 _ _ (k1' _ _ nilx e)] at nil'
      cases nil'
  exact q il H8 (fun b o nb e=>e38 _ _ nb (kk b o nb e)) il0 { o:=hx8,j:=J3.fr (fun o e=>e38 _ _ njx e) kt,i:=I3.fr (fun o e=>e38 _ _ nilx e) kt,n:=njx,c1:=c1,c2:=c2,i1:=by unfold newR jDd;rw [List.length_map,lc];unfold jBI;exact Nat.le_add_left 1 _,i2:=by unfold newR jDd;rw [List.length_map,lc];omega }
end
end My
namespace My
open PySem L2
open Blk (sg sg_inj sg_app)
section
variable {P:Program} {w:World} {K:PySem.W.Frag} {mg:Str→Option Value} {base:Heap} {fa yQ yZ yX yY yV yJ yW yU yK yG cQ cZ cV cK cG vQ vZ vX vY:Addr} {fd:FuncData} (T:Txt K mg yQ yZ yX yY yV yJ yW yU yK yG cQ cZ cV cK cG vQ vZ vX vY)
theorem jAU {a rest:TS} {D:jBB} {σ:St} {H:Hp} (P:St→Hp→Prop) (h1:∀ R:St→Hp→Prop,(∀ σ H,P σ H→R σ H)→a { D with nx:=R } σ H) (h2:∀ σ H,P σ H→rest D σ H):jDX a rest D σ H:=h1 _ h2
theorem jBc {a rest:TS} {D:jBB} {σ:St} {H:Hp} (P:St→Hp→Prop) (h1:∀ R:St→Hp→Prop,(∀ σ H,P σ H→R σ H)→a { D with nx:=R } σ H) (h2:∀ (X:Prop) (σ:St) (H:Hp),(rest D σ H→X)→P σ H→X):jDX a rest D σ H:=h1 _ fun σ H p=>h2 _ σ H id p
theorem jOw {a rest:TS} {D:jBB} {σ:St} {H:Hp} (h:∀ T,T=rest→jDX a T D σ H):jDX a rest D σ H:=h rest rfl
theorem jBS {T a rest:TS} (e:T=jDX a rest):∃ T',T'=rest∧T=jDX a T':=⟨rest,rfl,e⟩
theorem via {T T' a:TS} {D:jBB} {σ:St} {H:Hp} (e:T=jDX a T') (h:jDX a T' D σ H):T D σ H:=by rw [e];exact h
def jGC (_K:PySem.W.Frag):Sp:=fun vs H Q _=>∃ n:Int,vs=[.int n,.int n]∧Q (.bl true) H
theorem jM7:jAl ["_law_num","_law_due_here"] ["_law_num","_law_due_here"] (jAh jG7):=scM
include T in
theorem jM8 (F:Fun K "_law_is" "_law_is" jG7 fa fd)  :
    jAq P w K mg base CX0 1 fa fd ["_law_num","_law_due_here"] (jGC K):=by
  refine F.ok jM7 (fun vs H Q E h=>?_) (fun cdv A outer s H vs Q E hr h=>?_)
  · obtain ⟨n,rfl,_⟩:=h
    rfl
  obtain ⟨n,rfl,q⟩:=h
  refine ⟨_,(jAe (jAm (jEu (jAG jCn rfl T.aB jDQ (jAa (pv 0) (jAa (jCV rfl T.aV jK7 (jDR _)) jAd))) (jEu (pe_not (jAG jCn rfl T.aB jDQ (jAa (pv 0) (jAa (jCV rfl T.bw jMw (jDR _)) jAd)))) (jGT (ecA jAZ (pv 0) (pv 1))))))),?_⟩
  refine ⟨_,rfl,_,_,_,true,rfl,jBx.int _,jCI _,true,rfl,jAP ?_⟩
  refine ⟨_,rfl,_,_,_,false,rfl,jBx.int _,jLa _,false,rfl,true,rfl,jAP ?_⟩
  refine ⟨_,rfl,_,rfl,rfl,?_⟩
  rw [decide_eq_true rfl]
  exact q
def jET (_K:PySem.W.Frag):Sp:=fun vs H Q _=>∃ (a b:Addr) (nm:Str) (ts us:List V) (ns:List Int),vs=[.ref a,.ref b]∧H a=some (.lst ts)∧H b=some (.lst us)∧jAy H nm ts ns∧jAy H nm us ns∧ns.length≤900∧Q (.bl true) H
theorem jHh:jAl ["_law_told","_law_due_here","_law_k"] ["_law_told","_law_due_here"] (jAh jFw):=scM
include T in
theorem jLL (F:Fun K "_law_tags" "_law_tags" jFw fa fd) (DaB:Dfn P w K mg base 1 "_law_is" ["_law_num","_law_due_here"] (jGC K)) :
    jAq P w K mg base CX0 2 fa fd ["_law_told","_law_due_here"] (jET K):=by
  refine F.ok jHh (fun vs H Q E h=>?_) (fun cdv A outer s H vs Q E hr h=>?_)
  · obtain ⟨a,b,nm,ts,us,ns,rfl,_⟩:=h
    rfl
  obtain ⟨a,b,nm,ts,us,ns,rfl,ha,hb,ta,tb,l9,q⟩:=h
  have hu:=jCr hr 0 (by decide)
  refine ⟨_,(jAb (jAC (PW.pt (jC0 (jBY (jAN (jAG jCn rfl T.aB jDQ (jAa (pv 0) (jAa (jCV rfl T.aW jMv (jDR _)) jAd))) (fun _=>rfl))) (jDN (tcA jCv (jAG jAF rfl T.ae PySem.boot_len (jAa (pv 0) jAd)) (jAG jAF rfl T.ae PySem.boot_len (jAa (pv 1) jAd)))))) (jAe (jAm jBC)) jAs) (jAb (jB_ PassesOwn.never rfl (jB4 rfl T.ar (jAa (jAG jAF rfl T.ae PySem.boot_len (jAa (pv 1) jAd)) jAd)) (pgA (i:=2) jHh.nd) (jAe (jAC (PW.pt (jC0 (jBY (jAN (jAG jCn rfl T.aB jDQ (jAa (ixA jAH (pv 0) (pv 2)) (jAa (jCV rfl T.aM jGb (jDR _)) jAd))) (fun _=>rfl))) (jC0 (tcA (jH4 (n:=0) hu) (ixA jAH (pv 0) (pv 2)) (ixA jAH (pv 1) (pv 2))) (jDN (jBY (jAN (jAv DaB hr.m rfl (jAa (ixA jAE (ixA jAH (pv 0) (pv 2)) jAg) (jAa (ixA jAE (ixA jAH (pv 1) (pv 2)) jAg) jAd))) (fun _=>rfl))))))) (jAe (jAm jBC)) jAs))) (jAe (jAm jBC)))),?_⟩
  have e1:=ta.1
  have e2:=tb.1
  refine ⟨_,rfl,_,_,_,true,rfl,jBx.lst ha,jCI _,true,rfl,jAK ?_⟩
  refine ⟨_,rfl,a,_,rfl,.inl (SqL.of ha),_,rfl,b,_,rfl,.inl (SqL.of hb),rfl,false,by rw [e1,e2,decide_eq_true rfl];rfl,jAK ?_⟩
  refine ⟨_,rfl,b,_,rfl,.inl (SqL.of hb),_,rfl,by omega,by omega,?_⟩
  rw [Int.toNat_natCast]
  refine jE2 (lo:=0) (n:=us.length) (fun i σ G=>G=H∧∃ v2:Option V,σ=[some (.ref a),some (.ref b),v2]) ⟨rfl,_,rfl⟩ (fun i σ G hi z=>?_) (fun σ G z=>?_)
  · obtain ⟨rfl,v2,rfl⟩:=z
    obtain ⟨n,en⟩:∃ n,ns[i]?=some n:=⟨_,List.getElem?_eq_getElem (by omega)⟩
    obtain ⟨ya,ea⟩:∃ y,ts[i]?=some y:=⟨_,List.getElem?_eq_getElem (by omega)⟩
    obtain ⟨yb,eb⟩:∃ y,us[i]?=some y:=⟨_,List.getElem?_eq_getElem (by omega)⟩
    obtain ⟨t,rfl,ht⟩:=ta.2 i ya n ea en
    obtain ⟨u,rfl,hu'⟩:=tb.2 i yb n eb en
    have ix:((0:Int) + (i:Int)).toNat=i:=by omega
    have gA:∀ {v:V},ts[((0:Int) + (i:Int)).toNat]?=some v→v=.ref t:=fun hv=>by rw [ix,ea] at hv;exact (Option.some.inj hv).symm
    have gB:∀ {v:V},us[((0:Int) + (i:Int)).toNat]?=some v→v=.ref u:=fun hv=>by rw [ix,eb] at hv;exact (Option.some.inj hv).symm
    refine ⟨_,rfl,_,rfl,a,_,_,rfl,rfl,SqL.of ha,by omega,by omega,fun v hv=>?_⟩
    obtain rfl:=gA hv
    refine ⟨_,_,_,true,rfl,jBx.tup ht,jCI _,true,rfl,jAK ?_⟩
    refine ⟨_,rfl,_,rfl,a,_,_,rfl,rfl,SqL.of ha,by omega,by omega,fun v hv=>?_⟩
    obtain rfl:=gA hv
    refine ⟨_,rfl,_,rfl,b,_,_,rfl,rfl,SqL.of hb,by omega,by omega,fun v hv=>?_⟩
    obtain rfl:=gB hv
    refine ⟨t,u,_,_,rfl,rfl,.inr ⟨SqT.of ht,SqT.of hu'⟩,rfl,fun k hk=>?_,false,rfl,jAK ?_⟩
    · have:k=0∨k=1:=by have:k < 2:=hk;omega
      rcases this with rfl | rfl <;> exact ⟨rfl,rfl⟩
    refine ⟨_,rfl,_,rfl,a,_,_,rfl,rfl,SqL.of ha,by omega,by omega,fun v hv=>?_⟩
    obtain rfl:=gA hv
    refine ⟨t,_,_,_,rfl,rfl,SqT.of ht,jAz (j:=1) rfl,?_⟩
    refine ⟨_,rfl,_,rfl,b,_,_,rfl,rfl,SqL.of hb,by omega,by omega,fun v hv=>?_⟩
    obtain rfl:=gB hv
    exact ⟨u,_,_,_,rfl,rfl,SqT.of hu',jAz (j:=1) rfl,n,rfl,true,rfl,jAK ⟨rfl,_,rfl⟩⟩
  · obtain ⟨rfl,_⟩:=z
    exact q
theorem up_head {n:Nat} (h1:2≤n) (h2:n≤16):Txt.slice (Ly.text (.up n)) none (some 3)=Str.ofString "up:"∧(Ly.text (.up n)).length≤20:=by
  have all:∀ n:Fin 17,2≤n.val→Txt.slice (Ly.text (.up n.val)) none (some 3)=Str.ofString "up:"∧(Ly.text (.up n.val)).length≤20:=by decide +kernel
  exact all ⟨n,by omega⟩ h1
def jHi (_K:PySem.W.Frag):Sp:=fun vs H Q _=>∃ (n:Nat) (l:Ly),vs=[.int (n:Int),.str (Ly.text l)]∧Ly.Ok l∧1≤n∧n≤999∧Q (.int ((jBI l n:Nat):Int)) H
theorem jDe:jAl ["_law_pages","_law_layout","_law_per"] ["_law_pages","_law_layout"] (jAh jFv):=scM
include T in
theorem jLM (F:Fun K "_law_each" "_law_each" jFv fa fd)  :
    jAq P w K mg base CX0 1 fa fd ["_law_pages","_law_layout"] (jHi K):=by
  refine F.ok jDe (fun vs H Q E h=>?_) (fun cdv A outer s H vs Q E hr h=>?_)
  · obtain ⟨n,l,rfl,_⟩:=h
    rfl
  obtain ⟨n,l,rfl,ok,n1,n9,q⟩:=h
  refine ⟨_,(jAb (psA (i:=2) jDe.nd jAg) (jAb (jAC (tcA jAZ (pv 1) jAi) (jAe (psA (i:=2) jDe.nd jAg)) jAs) (jAb (jAC (tcA jAZ (jBT jK_ (pv 1) jCc (jCd jAg)) jAi) (jAe (psA (i:=2) jDe.nd (jAB jEv jAg (jBQ jGJ rfl T.aV jK7 (jAa (jBT jK_ (pv 1) (jCd jAg) jCc) jAd))))) jAs) (jAe (jAm (jAB jHp (jAB jGV (jAB jA2 (pv 0) (pv 2)) jAg) (pv 2))))))),?_⟩
  have hp:=Ly.per_pos ok
  have fin:∀ k:Int,k=(l.per:Int)→Q (.int (((n:Int) + k - 1) / k)) H:=fun k ek=>by
    have e:((n:Int) + (l.per:Int) - 1) / (l.per:Int)=((jBI l n:Nat):Int):=by
      rw [show (n:Int) + (l.per:Int) - 1=((n - 1 + l.per:Nat):Int) from by omega,← Int.natCast_ediv,Nat.add_div_right _ (by omega)]
      rfl
    rw [ek,e]
    exact q
  have tail:∀ k:Int,k=(l.per:Int)→k < 1000→0 < k→tRet (tOp (rI CDiv fun i j=>.int (i / j)) (tOp (rI0 fun i j=>.int (i - j)) (tOp (rI0 fun i j=>.int (i + j)) (tVar 0) (tVar 2)) (tC (.int 1))) (tVar 2)) { nx:=fun _ H'=>Q .non H',rt:=Q } [some (.int (n:Int)),some (.str (Ly.text l)),some (.int k)] H:=fun k ek k1 k0=>⟨_,rfl,_,rfl,_,_,rfl,rfl,_,_,rfl,rfl,_,rfl,_,_,rfl,rfl,⟨k0,by omega⟩,fin k ek⟩
  refine ⟨_,rfl,rfl,_,rfl,?_⟩
  cases l with
  | one =>
    refine jCz (by decide +kernel) ⟨_,rfl,_,rfl,_,rfl,(by decide +kernel),rfl,_,rfl,jCz (by decide +kernel) ?_⟩
    exact tail 1 rfl (by decide) (by decide)
  | both =>
    refine jFL rfl ⟨_,rfl,_,rfl,_,rfl,(by decide +kernel),rfl,_,rfl,jCz (by decide +kernel) ?_⟩
    exact tail 2 rfl (by decide) (by decide)
  | up n' =>
    obtain ⟨u1,u2,u3,u4,u5⟩:=jNK ok.1 ok.2
    obtain ⟨h1,h2⟩:=up_head ok.1 ok.2
    have n6:n'≤16:=ok.2
    have n2:2≤n':=ok.1
    refine jCz (by intro z;injection z with z;exact u4 z) ⟨_,rfl,_,rfl,_,rfl,small (by omega),rfl,_,rfl,?_⟩
    rw [h1]
    refine jFL rfl ⟨_,rfl,_,rfl,_,rfl,small (by omega),_,_,rfl,u1,Nat.le_trans u2 (by decide),_,_,rfl,rfl,.inl ⟨by decide,by decide⟩,?_⟩
    refine tail (2 * (n':Int)) ?_ (by omega) (by omega)
    show _=((2 * n':Nat):Int)
    omega
def itm (b j:Nat):Int:=if j=0 then -1 else ((b + j - 1:Nat):Int)
def win (b a f:Nat):List Int:=(List.range (f - a)).map fun i=>itm b (a + i)
theorem jBw (b a f:Nat):(win b a f).length=f - a:=by unfold win;rw [List.length_map,List.length_range]
theorem jBi (b a:Nat):win b a a=[]:=by unfold win;rw [Nat.sub_self];rfl
theorem jGD {b a f:Nat} (h:a≤f):win b a f ++ [itm b f]=win b a (f + 1):=by
  unfold win
  rw [show f + 1 - a=(f - a) + 1 by omega,List.range_succ,List.map_append]
  show _=_ ++ [itm b (a + (f - a))]
  rw [show a + (f - a)=f by omega]
theorem jEU {b a f k:Nat} (h:a + k≤f):(win b a f).take k=win b a (a + k):=by
  unfold win
  rw [← List.map_take,List.take_range,show min k (f - a)=a + k - a by omega]
theorem jLN {b a f:Nat} (h:a < f):win b a f=itm b a :: win b (a + 1) f:=by
  unfold win
  rw [show f - a=(f - (a + 1)) + 1 by omega,List.range_succ_eq_map,List.map_cons,List.map_map]
  congr 1
  refine List.map_congr_left fun i _=>?_
  show itm b (a + (i + 1))=itm b (a + 1 + i)
  rw [show a + (i + 1)=a + 1 + i by omega]
def shN (b a f:Nat):Nat:=if a=0 then f - 1 else f - a
theorem itm_ne {b j:Nat} (h:j≠0):itm b j≠-1:=by
  unfold itm
  rw [if_neg h]
  omega
theorem jGE (b a:Nat):∀ k,jBu (win b a (a + k))=shN b a (a + k)
  | 0=>by
    rw [Nat.add_zero,jBi]
    unfold shN
    split
    · next h=>rw [h];rfl
    · rw [Nat.sub_self];rfl
  | k + 1=>by
    have ih:=jGE b a k
    rw [← Nat.add_assoc,← jGD (by omega),jI6,ih]
    by_cases c:a + k=0
    · have e1:itm b (a + k)=-1:=by unfold itm;rw [if_pos c]
      rw [e1]
      unfold shN
      rw [if_pos (by omega),if_pos (by omega),c]
      rfl
    · have e1:jBu [itm b (a + k)]=1:=by
        unfold jBu
        rw [List.countP_cons,decide_eq_true (itm_ne c)]
        rfl
      rw [e1]
      unfold shN
      split <;> omega
def R5 (r:RD) (pr:Option Addr) (b a:Nat):RD:={ r with ps:=b + (a - 1),sl:=decide (1≤a),pr:=pr }
theorem jGF {r:RD} {p:Option Addr} {b a f:Nat} (h:a≤f):jA4 (R5 r p b a) (win b a f)=itm b f:=by
  have es:=jGE b a (f - a)
  rw [show a + (f - a)=f by omega] at es
  unfold jA4
  by_cases c:(R5 r p b a).sl=false∧win b a f=[]
  · rw [if_pos c]
    have h1:¬ 1≤a:=of_decide_eq_false c.1
    have h2:=congrArg List.length c.2
    rw [jBw] at h2
    have h3:f - a=0:=h2
    unfold itm
    rw [if_pos (by omega)]
  · rw [if_neg c,es]
    have h4:f≠0:=fun z=>c ⟨decide_eq_false (by omega),by rw [z,show a=0 by omega];exact jBi b 0⟩
    unfold itm shN
    rw [if_neg h4]
    show ((b + (a - 1) + (if a=0 then f - 1 else f - a):Nat):Int)=_
    split <;> omega
theorem jOx {sl:Bool} {b a f:Nat} (h:a < f) (e:sl=decide (1≤a)):jFa sl (win b a f)=decide (1≤f):=by
  unfold jFa
  rw [decide_eq_true (show 1≤f by omega),e]
  by_cases c:1≤a
  · rw [decide_eq_true c];rfl
  · rw [jLN h,List.any_cons,show itm b a=-1 by unfold itm;rw [if_pos (by omega)]]
    simp
theorem jLO {r:RD} {p:Option Addr} {b a f:Nat} (h:a≤f):(jA0 (R5 r p b a) (win b a f)).ps=b + (f - 1)∧(jA0 (R5 r p b a) (win b a f)).sl=decide (1≤f):=by
  have es:=jGE b a (f - a)
  rw [show a + (f - a)=f by omega] at es
  refine ⟨?_,?_⟩
  · show b + (a - 1) + jBu (win b a f)=_
    rw [es]
    unfold shN
    split <;> omega
  · show jFa (decide (1≤a)) (win b a f)=_
    by_cases c:a < f
    · exact jOx c rfl
    · rw [show f=a by omega,jBi]
      unfold jFa
      simp
theorem jJN {r:RD} {p:Addr} {b a f:Nat} (hb:b < r.tot) (h:a≤f):jA8 (R5 r (some p) b a) (win b a f)=R5 r (if b + f=r.tot + 1 then none else some p) b f:=by
  obtain ⟨e1,e2⟩:=jLO (r:=r) (p:=some p) (b:=b) h
  have et:(R5 r (some p) b a).tot=r.tot:=rfl
  have full:jA0 (R5 r (some p) b a) (win b a f)={ R5 r (some p) b a with ps:=b + (f - 1),sl:=decide (1≤f) }:=by
    have g:jA0 (R5 r (some p) b a) (win b a f)={ R5 r (some p) b a with ps:=(jA0 (R5 r (some p) b a) (win b a f)).ps,sl:=(jA0 (R5 r (some p) b a) (win b a f)).sl }:=rfl
    rw [g,e1,e2]
  unfold jA8
  rw [et,e1,full]
  unfold R5
  by_cases c:b + f=r.tot + 1
  · rw [if_pos (by omega),if_pos c]
  · rw [if_neg (by omega),if_neg c]
theorem liv_5 {r:RD} {p:Option Addr} {b a:Nat} (hb:r.br=false) (h2:b < r.tot) (h:b + a≠r.tot + 1):Liv (R5 r p b a):=⟨hb,by show b + (a - 1)≠r.tot;omega⟩
theorem jEV {r:RD} {p:Option Addr} {b a:Nat} (h2:b < r.tot) (lv:Liv (R5 r p b a)):b + a≠r.tot + 1:=by
  have:b + (a - 1)≠r.tot:=lv.2
  omega
theorem nliv {r:RD} {p:Option Addr} {b a:Nat} (hb:r.br=false) (h2:b < r.tot) (n:¬ Liv (R5 r p b a)):b + a=r.tot + 1:=Classical.byContradiction fun z=>n (liv_5 hb h2 z)
theorem jEW {b a f:Nat}:∀ k,a + k≤f→(win b a f).drop k=win b (a + k) f
  | 0,_=>rfl
  | k + 1,h=>by
    rw [← List.drop_drop,jEW k (by omega),jLN (by omega)]
    rfl
theorem nw_win {r:RD} {p:Option Addr} {b a f:Nat} (h2:b < r.tot) (hf:b + f≤r.tot + 1):NW (R5 r p b a) (win b a f):=fun i hi=>by
  rw [jBw] at hi
  rw [jEU (by omega),(jLO (by omega)).1]
  show b + (a + i - 1)≠r.tot
  omega
theorem jOy:∀ u:Nat,u < 17→((u:Int)).natAbs.log2 < 1920∧(Str.ofString "up:").length + (Str.ofString (toString (u:Int))).length≤1000:=by decide +kernel
theorem jOz {H H':Hp} {G:Prop} (g:G):New H H' (fun _=>G):=⟨fun _=>False,fun _ z=>z.elim,fun _ _=>g⟩
end
end My
namespace My
open PySem L2
open Blk (sg sg_inj sg_app)
section
variable {P:Program} {w:World} {K:PySem.W.Frag} {mg:Str→Option Value} {base:Heap} {fa yQ yZ yX yY yV yJ yW yU yK yG cQ cZ cV cK cG vQ vZ vX vY:Addr} {fd:FuncData} (T:Txt K mg yQ yZ yX yY yV yJ yW yU yK yG cQ cZ cV cK cG vQ vZ vX vY)
abbrev kw (w:String):Key:=Sum.inr (Str.ofString w)
def l3 (g:Nat→V):List V:=[g 0,g 1,g 2]
theorem jBg {g:Nat→V} {i:Nat} {v:V} (h:i < 3) (e:(l3 g)[((i:Nat):Int).toNat]?=some v):v=g i:=by
  rw [Int.toNat_natCast] at e
  have:i=0∨i=1∨i=2:=by omega
  rcases this with rfl | rfl | rfl <;> exact (Option.some.inj e).symm
theorem jI_ {g:Nat→V} {i:Nat} (v:V) (h:i < 3):(l3 g).set i v=l3 fun j=>if j=i then v else g j:=by
  have:i=0∨i=1∨i=2:=by omega
  rcases this with rfl | rfl | rfl <;> rfl
theorem ix3 {i:Nat} (h:i < 3):ixN 3 (i:Int)=some i:=by
  unfold ixN
  rw [if_pos (by omega),if_pos (by omega),Int.toNat_natCast]
structure Zs where
  ap:Option Nat
  b:Nat
  a:Nat
  f:Nat
  S:Nat→S3
def atV:Option Nat→V
  | none=>.non
  | some i=>.int (i:Int)
def jBy (S:Nat→S3) (i:Nat) (s:S3):Nat→S3:=fun j=>if j=i then s else S j
def jA9 (T:Nat) (z:Zs) (k:Nat):Zs:={ z with a:=z.a + k,ap:=if z.b + (z.a + k)=T + 1 then none else z.ap }
structure MD where
  nm:Str
  T:Nat
  pl:Addr
  wl:Addr
  al:Addr
  wi:Addr
  ca:Int
  fi:Int
  ou:Addr
  ov:Bool
  av:V
  P:Nat→Nat
  A:Nat→Str
def MD.kv (m:MD):List (Key×V):=[(kw "name",.str m.nm),(kw "total",.int (m.T:Int)),(kw "paths",.ref m.pl),(kw "words",.ref m.wl),(kw "was",.ref m.al),(kw "within",.ref m.wi),(kw "came",.int m.ca),(kw "first",.int m.fi),(kw "outs",.ref m.ou),(kw "over",.bl m.ov),(kw "at",m.av)]
theorem jDf {H:Hp} {a:Addr} {kvs:List (Key×V)} {w:String} {v:V} (h:H a=some (.dK kvs)) (l:jBU kvs (kw w)=some v):jBh H a (.str (Str.ofString w)) (some v):=by
  have:=jBh.k (k:=kw w) h
  rw [l] at this
  exact this
section
variable {H:Hp} {d:Addr} {m:MD} (h:H d=some (.dK m.kv))
include h
theorem jLP:jBh H d (.str (Str.ofString "name")) (some (.str m.nm)):=jDf h (by kernel_rfl)
theorem jMH:jBh H d (.str (Str.ofString "total")) (some (.int (m.T:Int))):=jDf h (by kernel_rfl)
theorem g_paths:jBh H d (.str (Str.ofString "paths")) (some (.ref m.pl)):=jDf h (by kernel_rfl)
theorem jBO:jBh H d (.str (Str.ofString "words")) (some (.ref m.wl)):=jDf h (by kernel_rfl)
theorem g_was:jBh H d (.str (Str.ofString "was")) (some (.ref m.al)):=jDf h (by kernel_rfl)
theorem jBX:jBh H d (.str (Str.ofString "within")) (some (.ref m.wi)):=jDf h (by kernel_rfl)
theorem jNV:jBh H d (.str (Str.ofString "came")) (some (.int m.ca)):=jDf h (by kernel_rfl)
theorem g_first:jBh H d (.str (Str.ofString "first")) (some (.int m.fi)):=jDf h (by kernel_rfl)
theorem jFV:jBh H d (.str (Str.ofString "outs")) (some (.ref m.ou)):=jDf h (by kernel_rfl)
theorem jJa:jBh H d (.str (Str.ofString "over")) (some (.bl m.ov)):=jDf h (by kernel_rfl)
theorem jHj:jBh H d (.str (Str.ofString "at")) (some (m.av)):=jDf h (by kernel_rfl)
theorem sput {w:String} {v:V} {m':MD} (e:jBV m.kv (kw w) v=m'.kv):jCH H d (.str (Str.ofString w)) v (upd H d (.dK m'.kv)):=by
  have:=jCH.k (k:=kw w) (v:=v) h (show m.kv.length < sizeLine from jAX (by show 11≤1000;decide))
  rw [e] at this
  exact this
theorem jH_ (w:Addr):jCH H d (.str (Str.ofString "within")) (.ref w) (upd H d (.dK ({ m with wi:=w }:MD).kv)):=sput h (by kernel_rfl)
theorem jNW (w:Int):jCH H d (.str (Str.ofString "came")) (.int w) (upd H d (.dK ({ m with ca:=w }:MD).kv)):=sput h (by kernel_rfl)
theorem p_first (w:Int):jCH H d (.str (Str.ofString "first")) (.int w) (upd H d (.dK ({ m with fi:=w }:MD).kv)):=sput h (by kernel_rfl)
theorem p_outs (w:Addr):jCH H d (.str (Str.ofString "outs")) (.ref w) (upd H d (.dK ({ m with ou:=w }:MD).kv)):=sput h (by kernel_rfl)
theorem p_over (w:Bool):jCH H d (.str (Str.ofString "over")) (.bl w) (upd H d (.dK ({ m with ov:=w }:MD).kv)):=sput h (by kernel_rfl)
theorem p_at (w:V):jCH H d (.str (Str.ofString "at")) (w) (upd H d (.dK ({ m with av:=w }:MD).kv)):=sput h (by kernel_rfl)
end
def Kd (d:Addr) (H H':Hp):Prop:=∀ b o,b≠d→H b=some o→H' b=some o
theorem Kd.trans {d:Addr} {H H1 H2:Hp} (a:Kd d H H1) (b:Kd d H1 H2):Kd d H H2:=fun c o n e=>b c o n (a c o n e)
theorem jCZ {d:Addr} {H H':Hp} (s:jAo H H'):Kd d H H':=fun b o _ e=>s _ _ e
theorem jB3 {d:Addr} {H:Hp} (o:HO):Kd d H (upd H d o):=fun b u n e=>by rw [jAj n];exact e
theorem Kd.free {d b:Addr} {H H':Hp} {kv:List (Key×V)} (k:Kd d H H') (hd:H d=some (.dK kv)) (hd':∃ o,H' d=some o) (n:H' b=none):H b=none:=by
  cases e:H b with
  | none=>rfl
  | some o =>
    by_cases c:b=d
    · obtain ⟨u,hu⟩:=hd'
      rw [c,hu] at n
      cases n
    · rw [k b o c e] at n
      cases n
theorem Kd.lst {d b:Addr} {H H':Hp} {kv:List (Key×V)} {ts:List V} (k:Kd d H H') (hd:H d=some (.dK kv)) (e:H b=some (.lst ts)):H' b=some (.lst ts):=k _ _ (jAn e hd (by intro z;cases z)) e
theorem Kd.tup {d:Addr} {H H':Hp} {kv:List (Key×V)} (k:Kd d H H') (hd:H d=some (.dK kv)):∀ b ts,H b=some (.tup ts)→H' b=some (.tup ts):=fun b ts e=>k _ _ (jAn e hd (by intro z;cases z)) e
structure TL (H:Hp) (nm:Str) (l:Addr) (ns:List Int):Prop where
  ex:∃ us,H l=some (.lst us)∧jAy H nm us ns
theorem TL.kd {d:Addr} {H H':Hp} {kv:List (Key×V)} {nm:Str} {l:Addr} {ns:List Int} (t:TL H nm l ns) (k:Kd d H H') (hd:H d=some (.dK kv)):TL H' nm l ns:=by
  obtain ⟨us,h1,h2⟩:=t.ex
  exact ⟨us,k.lst hd h1,h2.fr (k.tup hd)⟩
theorem TL.same {H H':Hp} {nm:Str} {l:Addr} {ns:List Int} (t:TL H nm l ns) (s:jAo H H'):TL H' nm l ns:=by
  obtain ⟨us,h1,h2⟩:=t.ex
  exact ⟨us,s _ _ h1,h2.same s⟩
def jCD (n:Nat):List V:=(List.range n).map fun i:Nat=>V.int (i:Int)
theorem jOA (n:Nat):jCD (n + 1)=jCD n ++ [V.int (n:Int)]:=by
  unfold jCD
  rw [List.range_succ,List.map_append]
  rfl
theorem jEr (n:Nat):(jCD n).length=n:=by unfold jCD;rw [List.length_map,List.length_range]
def jGG (n:Int):Bool:=decide (0≤n)
theorem jLQ (b a:Nat):∀ k,jCD (b + (a - 1)) ++ ((win b a (a + k)).filter jGG).map V.int=jCD (b + (a + k - 1))
  | 0=>by rw [Nat.add_zero,jBi];exact List.append_nil _
  | k + 1=>by
    have ih:=jLQ b a k
    rw [← Nat.add_assoc,← jGD (by omega),List.filter_append,List.map_append,← List.append_assoc,ih]
    by_cases c:a + k=0
    · rw [show itm b (a + k)=-1 by unfold itm;rw [if_pos c]]
      rw [show b + (a + k + 1 - 1)=b + (a + k - 1) by omega]
      exact List.append_nil _
    · have e1:itm b (a + k)=((b + (a + k - 1):Nat):Int):=by unfold itm;rw [if_neg c];omega
      rw [e1,show b + (a + k + 1 - 1)=b + (a + k - 1) + 1 by omega,jOA]
      have:jGG ((b + (a + k - 1):Nat):Int)=true:=decide_eq_true (by omega)
      rw [List.filter_cons,this]
      rfl
def gN (H:Hp):V→V
  | .ref t=>match H t with
    | some (.tup [_,n])=>n
    | _=>.non
  | _=>.non
theorem gN_at {H:Hp} {t:Addr} {nm:Str} {n:Int} (h:H t=some (.tup [.str nm,.int n])):gN H (.ref t)=.int n:=by
  show (match H t with
    | some (.tup [_,n])=>n
    | _=>V.non)=_
  rw [h]
def isN (H:Hp) (v:V):Bool:=match gN H v with
  | .int n=>jGG n
  | _=>false
theorem jNX {H:Hp} {t:Addr} {nm:Str} {n:Int} (h:H t=some (.tup [.str nm,.int n])):isN H (.ref t)=jGG n:=by
  unfold isN
  rw [gN_at h]
theorem jKi {H:Hp} {nm:Str}:∀ {ts:List V} {ns:List Int},jAy H nm ts ns→(ts.filter (isN H)).map (gN H)=(ns.filter jGG).map V.int
  | [],[],_=>rfl
  | [],_ :: _,h=>by have:=h.1;cases this
  | _ :: _,[],h=>by have:=h.1;cases this
  | v :: ts,n :: ns,h=>by
    have ih:=jKi (H:=H) (nm:=nm) (ts:=ts) (ns:=ns) h.drop1
    obtain ⟨t,rfl,ht⟩:=h.2 0 v n rfl rfl
    rw [List.filter_cons,List.filter_cons,jNX ht]
    cases jGG n with
    | true=>rw [if_pos rfl,if_pos rfl,List.map_cons,List.map_cons,ih,gN_at ht]
    | false=>rw [if_neg (by decide),if_neg (by decide),ih]
structure Bk (H:Hp) (d:Addr) (m:MD) (z:Zs):Prop where
  d:H d=some (.dK m.kv)
  p:H m.pl=some (.lst (l3 fun i=>.int (m.P i:Int)))
  s:H m.wl=some (.lst (l3 fun i=>.str (wd (z.S i))))
  h:H m.al=some (.lst (l3 fun i=>.str (m.A i)))
  w:TL H m.nm m.wi (win z.b z.a z.f)
  o:H m.ou=some (.lst (jCD (z.b + (z.a - 1))))
  n1:m.wl≠m.al
  n2:m.pl≠m.wl
  n3:m.pl≠m.al
  n4:m.wi≠m.wl
  n5:m.wi≠m.al
  n6:m.ou≠m.wl
  n7:m.ou≠m.al
  ca:m.ca=(z.a:Int)
  fi:m.fi=(z.b:Int)
  ov:m.ov=decide (z.b + z.a=m.T + 1)
  av:m.av=atV z.ap
  wa:∀ i b,z.S i=.aw b→m.A i=wd (if b=true then .jm else .rd)
  bT:z.b < m.T
  af:z.a≤z.f
  fT:z.b + z.f≤m.T + 1
  T9:m.T≤90
theorem Bk.same {H H':Hp} {d:Addr} {m:MD} {z:Zs} (h:Bk H d m z) (s:jAo H H'):Bk H' d m z:={ h with d:=s _ _ h.d,p:=s _ _ h.p,s:=s _ _ h.s,h:=s _ _ h.h,w:=h.w.same s,o:=s _ _ h.o }
structure Go (m m':MD) (H:Hp):Prop where
  nm:m'.nm=m.nm
  T:m'.T=m.T
  P:m'.P=m.P
  pl:m'.pl=m.pl
  wl:m'.wl=m.wl
  al:m'.al=m.al
  wi:m'.wi=m.wi∨H m'.wi=none
  ou:m'.ou=m.ou∨H m'.ou=none
theorem jMI (m:MD) (H:Hp):Go m m H:=⟨rfl,rfl,rfl,rfl,rfl,rfl,.inl rfl,.inl rfl⟩
def mO (m:MD) (wi ou:Addr) (z:Zs):MD:={ m with wi:=wi,ca:=(z.a:Int),ou:=ou,ov:=decide (z.b + z.a=m.T + 1),av:=atV z.ap }
def jDL (K:PySem.W.Frag):Sp:=fun vs H Q _=>∃ d m z k,vs=[.ref d,.int (k:Nat)]∧Bk H d m z∧z.a + k≤z.f∧z.b + z.a≠m.T + 1 ∧
  ∀ l wi ou H',Kd d H H'→H l=none→H wi=none→H ou=none→TL H' m.nm l (win z.b z.a (z.a + k))→Bk H' d (mO m wi ou (jA9 m.T z k)) (jA9 m.T z k)→Q (.ref l) H'
theorem jHW:jAl ["_law_m","_law_many","_law_tags_here"] ["_law_m","_law_many"] (jAh jGs):=scM
include T in
theorem jMj (F:Fun K "_law_out" "_law_out" jGs fa fd)  :
    jAq P w K mg base CX0 1 fa fd ["_law_m","_law_many"] (jDL K):=by
  refine F.ok jHW (fun vs H Q E h=>?_) (fun cdv A outer s H vs Q E hr h=>?_)
  · obtain ⟨d,m,z,k,rfl,_⟩:=h
    rfl
  obtain ⟨d,m,z,k,rfl,M,hk,nov,q⟩:=h
  have hu:=jCr hr 0 (by decide)
  refine ⟨_,(jAb (psA (i:=2) jHW.nd (jBT jFE (dgA hu (pv 0) jAi) jCc (jCd (pv 1)))) (jAb (jCe hu (pv 0) jAi (jBT jFE (dgA hu (pv 0) jAi) (jCd (pv 1)) jCc) rfl) (jAb (jCe hu (pv 0) jAi (jAB jA2 (dgA hu (pv 0) jAi) (jAG jAF rfl T.ae PySem.boot_len (jAa (pv 2) jAd))) rfl) (jAb (jCe hu (pv 0) jAi (jAB jK2 (dgA hu (pv 0) jAi) (jCg (frees:=[]) ⟨by decide +kernel,rfl,rfl,by decide +kernel,trivial,by decide +kernel,jBd rfl,rfl⟩ rfl (jBF (pv 2)) (fun _ _ _ _=>by exact (jGe (tcA op_ge (jFH (K:=K) (r:=rIxT) rfl jAE (pv 0) jAg (fun _ _=>rfl)) jAg))) (fun _ _ _ _=>by exact (jFH (K:=K) (r:=rIxT) rfl jAE (pv 0) jAg (fun _ _=>rfl))))) rfl) (jAb (jAC (tcA jAZ (jAG jAF rfl T.ae PySem.boot_len (jAa (dgA hu (pv 0) jAi) jAd)) (dgA hu (pv 0) jAi)) (jAb (jCe hu (pv 0) jAi jBC rfl) (jAe (jCe hu (pv 0) jAi jAL rfl))) jAs) (jAe (jAm (pv 2)))))))),?_⟩
  obtain ⟨ws,hw,tw⟩:=M.w.ex
  have ho:=M.o
  have lw:=tw.1
  rw [jBw] at lw
  have fT:=M.fT
  have T9:=M.T9
  have af:=M.af
  have bT:=M.bT
  have ca:=M.ca
  refine ⟨_,rfl,d,_,rfl,jBX M.d,_,rfl,_,rfl,m.wi,_,rfl,SqL.of hw,fun l nl=>?_⟩
  rw [jLg]
  have s1:=jAk nl (.lst (ws.take k))
  have hl:upd H l (.lst (ws.take k)) l=some (.lst (ws.take k)):=jAc
  generalize upd H l (.lst (ws.take k))=H1 at s1 hl ⊢
  refine ⟨_,rfl,d,_,rfl,jBX (s1 _ _ M.d),_,rfl,_,rfl,m.wi,_,rfl,SqL.of (s1 _ _ hw),fun wi nwi=>?_⟩
  rw [jLf]
  have s2:=jAk nwi (.lst (ws.drop k))
  have hwi:upd H1 wi (.lst (ws.drop k)) wi=some (.lst (ws.drop k)):=jAc
  generalize upd H1 wi (.lst (ws.drop k))=H2 at s2 hwi ⊢
  have s12:=s1.trans s2
  have d2:=s12 _ _ M.d
  refine ⟨_,rfl,d,_,rfl,jH_ d2 wi,?_⟩
  have k3:Kd d H2 (upd H2 d (.dK ({ m with wi:=wi }:MD).kv)):=jB3 _
  have d3:upd H2 d (.dK ({ m with wi:=wi }:MD).kv) d=some (.dK ({ m with wi:=wi }:MD).kv):=jAc
  generalize upd H2 d (.dK ({ m with wi:=wi }:MD).kv)=H3 at k3 d3 ⊢
  have hl3:=k3.lst d2 (s2 _ _ hl)
  have lt:(ws.take k).length=k:=by rw [List.length_take,lw];omega
  refine ⟨_,rfl,d,_,rfl,jNV d3,_,rfl,l,_,rfl,.inl (SqL.of hl3),_,_,rfl,rfl,_,rfl,d,_,rfl,jNW d3 _,?_⟩
  rw [lt,show ({ m with wi:=wi }:MD).ca + (k:Int)=((z.a + k:Nat):Int) by show m.ca + (k:Int)=_;rw [ca];omega]
  have k4:Kd d H3 (upd H3 d (.dK ({ m with wi:=wi,ca:=((z.a + k:Nat):Int) }:MD).kv)):=jB3 _
  have d4:upd H3 d (.dK ({ m with wi:=wi,ca:=((z.a + k:Nat):Int) }:MD).kv) d=some (.dK ({ m with wi:=wi,ca:=((z.a + k:Nat):Int) }:MD).kv):=jAc
  generalize upd H3 d (.dK ({ m with wi:=wi,ca:=((z.a + k:Nat):Int) }:MD).kv)=H4 at k4 d4 ⊢
  have k04:=(jCZ (d:=d) s12).trans (k3.trans k4)
  have hl4:=k4.lst d3 hl3
  have ho4:=k04.lst M.d ho
  have tk4:jAy H4 m.nm (ws.take k) (win z.b z.a (z.a + k)):=by
    rw [← jEU hk]
    exact (tw.fr (k04.tup M.d)).takeN k
  refine ⟨_,rfl,d,_,rfl,jFV d4,_,rfl,l,rfl,⟨_,SqL.of hl4⟩,?_⟩
  refine jCW (jEy (K:=K) (SqL.of hl4)) (isN H4) (gN H4) (jAX (by omega)) (fun y hy H' W sm rr=>?_) (fun y hy H' W sm py rr=>?_) (fun c H5 s5 nc hc=>?_)
  · obtain ⟨i,ei⟩:=List.mem_iff_getElem?.mp hy
    obtain ⟨t,n,rfl,_,ht⟩:=tk4.get ei
    rw [jNX ht] at rr
    exact ⟨_,rfl,t,_,_,_,rfl,rfl,SqT.of (sm _ _ ht),jAz (j:=1) rfl,_,_,rfl,rfl,_,rfl,rr⟩
  · obtain ⟨i,ei⟩:=List.mem_iff_getElem?.mp hy
    obtain ⟨t,n,rfl,_,ht⟩:=tk4.get ei
    rw [gN_at ht] at rr
    exact ⟨_,rfl,t,_,_,_,rfl,rfl,SqT.of (sm _ _ ht),jAz (j:=1) rfl,rr⟩
  rw [jKi tk4] at hc
  have lc:(((win z.b z.a (z.a + k)).filter jGG).map V.int).length≤k:=by
    rw [List.length_map]
    refine Nat.le_trans (List.length_filter_le _ _) ?_
    rw [jBw]
    omega
  refine ⟨m.ou,c,_,_,rfl,rfl,s5 _ _ ho4,hc,small (by rw [jEr];omega),fun ou nou=>?_⟩
  rw [jLQ]
  have s6:=jAk nou (.lst (jCD (z.b + (z.a + k - 1))))
  have hou:upd H5 ou (.lst (jCD (z.b + (z.a + k - 1)))) ou=some (.lst (jCD (z.b + (z.a + k - 1)))):=jAc
  generalize upd H5 ou (.lst (jCD (z.b + (z.a + k - 1))))=H6 at s6 hou ⊢
  have s46:=s5.trans s6
  have d6:=s46 _ _ d4
  refine ⟨_,rfl,d,_,rfl,p_outs d6 ou,?_⟩
  have k7:Kd d H6 (upd H6 d (.dK ({ m with wi:=wi,ca:=((z.a + k:Nat):Int),ou:=ou }:MD).kv)):=jB3 _
  have d7:upd H6 d (.dK ({ m with wi:=wi,ca:=((z.a + k:Nat):Int),ou:=ou }:MD).kv) d=some (.dK ({ m with wi:=wi,ca:=((z.a + k:Nat):Int),ou:=ou }:MD).kv):=jAc
  generalize upd H6 d (.dK ({ m with wi:=wi,ca:=((z.a + k:Nat):Int),ou:=ou }:MD).kv)=H7 at k7 d7 ⊢
  have hou7:=k7.lst d6 hou
  have ovf:m.ov=false:=by rw [M.ov];exact decide_eq_false nov
  dsimp only
  refine jAU (fun σ G=>Kd d H7 G∧G d=some (.dK (mO m wi ou (jA9 m.T z k)).kv)∧σ=[some (.ref d),some (.int (k:Int)),some (.ref l)]) (fun R hR=>?_) ?_
  · refine ⟨_,rfl,d,_,rfl,jFV d7,ou,_,rfl,.inl (SqL.of hou7),_,rfl,d,_,rfl,jMH d7,rfl,_,rfl,jBp (fun c=>?_) (fun c=>?_)⟩
    · have c':=of_decide_eq_true c
      injection c' with c'
      rw [jEr] at c'
      have c2:z.b + (z.a + k)=m.T + 1:=by
        have:((z.b + (z.a + k - 1):Nat):Int)=(m.T:Int):=c'
        omega
      refine ⟨_,rfl,d,_,rfl,p_over d7 true,?_⟩
      have k8:Kd d H7 (upd H7 d (.dK ({ m with wi:=wi,ca:=((z.a + k:Nat):Int),ou:=ou,ov:=true }:MD).kv)):=jB3 _
      have d8:upd H7 d (.dK ({ m with wi:=wi,ca:=((z.a + k:Nat):Int),ou:=ou,ov:=true }:MD).kv) d=some (.dK ({ m with wi:=wi,ca:=((z.a + k:Nat):Int),ou:=ou,ov:=true }:MD).kv):=jAc
      generalize upd H7 d (.dK ({ m with wi:=wi,ca:=((z.a + k:Nat):Int),ou:=ou,ov:=true }:MD).kv)=H8 at k8 d8 ⊢
      refine ⟨_,rfl,d,_,rfl,p_at d8 .non,hR _ _ ⟨k8.trans (jB3 _),?_,rfl⟩⟩
      have e:({ m with wi:=wi,ca:=((z.a + k:Nat):Int),ou:=ou,ov:=true,av:=.non }:MD)=mO m wi ou (jA9 m.T z k):=by
        unfold mO jA9
        dsimp only
        rw [if_pos c2,decide_eq_true c2]
        rfl
      rw [← e]
      exact jAc
    · have c2:z.b + (z.a + k)≠m.T + 1:=fun e=>c (decide_eq_true (congrArg V.int (by rw [jEr];show ((z.b + (z.a + k - 1):Nat):Int)=(m.T:Int);omega)))
      have e:({ m with wi:=wi,ca:=((z.a + k:Nat):Int),ou:=ou }:MD)=mO m wi ou (jA9 m.T z k):=by
        unfold mO jA9
        dsimp only
        rw [if_neg c2,decide_eq_false c2,← M.av,← ovf]
      rw [e] at d7
      exact hR _ _ ⟨fun b o _ eo=>eo,d7,rfl⟩
  rintro σ H8 ⟨k8,d8,rfl⟩
  have k48:=(jCZ (d:=d) s46).trans (k7.trans k8)
  have kk:=k04.trans k48
  have h2:∀ {b o},(∀ kv,o≠HO.dK kv)→H b=some o→H8 b=some o:=fun n e=>kk _ _ (fun zz=>by rw [zz,M.d] at e;exact n _ (Option.some.inj e).symm) e
  have fr:∀ b,H6 b=none→H b=none:=fun b nb=>k04.free M.d ⟨_,d4⟩ (s46.free nb)
  have nwi':H wi=none:=s1.free nwi
  have nou':H ou=none:=k04.free M.d ⟨_,d4⟩ (s5.free nou)
  refine ⟨_,rfl,q l wi ou H8 kk nl nwi' nou' ⟨_,k48.lst d4 hl4,tk4.fr (k48.tup d4)⟩ ⟨d8,h2 (by intro kv z;cases z) M.p,h2 (by intro kv z;cases z) M.s,h2 (by intro kv z;cases z) M.h,⟨_,((k3.trans k4).trans k48).lst d2 hwi,?_⟩,(k7.trans k8).lst d6 hou,M.n1,M.n2,M.n3,(jAf M.s nwi').symm,(jAf M.h nwi').symm,(jAf M.s nou').symm,(jAf M.h nou').symm,rfl,M.fi,rfl,rfl,M.wa,bT,hk,fT,T9⟩⟩
  have:=(tw.fr (kk.tup M.d)).dropN k
  rw [jEW k hk] at this
  exact this
def jEX (K:PySem.W.Frag):Sp:=fun vs H Q _=>∃ d m z,vs=[.ref d]∧Bk H d m z∧((z.ap=none∨z.b + z.f=m.T + 1)→Q .non H)∧(z.ap≠none→z.b + z.f≠m.T + 1→∀ t H',jAo H H'→H t=none→H' t=some (.tup [.str m.nm,.int (itm z.b z.f)])→Q (.ref t) H')
theorem jDg:jAl ["_law_m","_law_place","_law_number"] ["_law_m"] (jAh jFx):=scM
include T in
theorem jLR (F:Fun K "_law_next" "_law_next" jFx fa fd)  :
    jAq P w K mg base CX0 1 fa fd ["_law_m"] (jEX K):=by
  refine F.ok jDg (fun vs H Q E h=>?_) (fun cdv A outer s H vs Q E hr h=>?_)
  · obtain ⟨d,m,z,rfl,_⟩:=h
    rfl
  obtain ⟨d,m,z,rfl,M,q1,q2⟩:=h
  have hu:=jCr hr 0 (by decide)
  refine ⟨_,(jAb (jAC (tcA jC1 (dgA hu (pv 0) jAi) jAL) (jAe (jAm jAL)) jAs) (jAb (psA (i:=1) jDg.nd (jAB jA2 (dgA hu (pv 0) jAi) (jAG jAF rfl T.ae PySem.boot_len (jAa (dgA hu (pv 0) jAi) jAd)))) (jAb (psA (i:=2) jDg.nd (jAB jGV (jAB jA2 (dgA hu (pv 0) jAi) (pv 1)) jAg)) (jAb (jAC (tcA jAZ (pv 1) jAg) (jAe (psA (i:=2) jDg.nd (pe_un un_neg jAg))) jAs) (jAb (jAC (tcA jAZ (pv 2) (dgA hu (pv 0) jAi)) (jAe (jAm jAL)) jAs) (jAe (jAm (jAM (jAa (dgA hu (pv 0) jAi) (jAa (pv 2) jAd)))))))))),?_⟩
  obtain ⟨ws,hw,tw⟩:=M.w.ex
  have lw:=tw.1
  rw [jBw] at lw
  have fT:=M.fT
  have af:=M.af
  have bT:=M.bT
  have ca:=M.ca
  have fi:=M.fi
  refine jAU (fun σ G=>G=H∧z.ap≠none∧σ=[some (.ref d),none,none]) (fun R hR=>⟨_,rfl,d,_,rfl,jHj M.d,rfl,_,rfl,jBp (fun c=>q1 ?_) (fun c=>hR _ _ ⟨rfl,?_,rfl⟩)⟩) ?_
  · have c':=of_decide_eq_true c
    rw [M.av] at c'
    cases e:z.ap with
    | none=>exact .inl rfl
    | some i=>rw [e] at c';cases c'
  · intro e
    exact c (decide_eq_true (by rw [M.av,e];rfl))
  rintro σ G ⟨rfl,na,rfl⟩
  refine ⟨_,rfl,d,_,rfl,jNV M.d,_,rfl,d,_,rfl,jBX M.d,m.wi,_,rfl,.inl (SqL.of hw),_,_,rfl,rfl,?_⟩
  dsimp only [jBr]
  rw [show m.ca + (ws.length:Int)=(z.f:Int) by rw [ca,lw];omega]
  refine ⟨_,rfl,d,_,rfl,g_first M.d,_,rfl,_,_,rfl,rfl,_,_,rfl,rfl,?_⟩
  dsimp only [jBr]
  rw [fi]
  refine jAU (fun σ G'=>G'=G∧σ=[some (.ref d),some (.int (z.f:Int)),some (.int (itm z.b z.f))]) (fun R hR=>⟨_,rfl,rfl,_,rfl,jBp (fun c=>?_) (fun c=>?_)⟩) ?_
  · have c':=of_decide_eq_true c
    injection c' with c'
    refine ⟨_,rfl,hR _ _ ⟨rfl,?_⟩⟩
    rw [show itm z.b z.f=-1 by unfold itm;rw [if_pos (by omega)]]
    rfl
  · have c':z.f≠0:=fun e=>c (decide_eq_true (congrArg V.int (by rw [e];rfl)))
    refine hR _ _ ⟨rfl,?_⟩
    rw [show itm z.b z.f=(z.b:Int) + (z.f:Int) - 1 by unfold itm;rw [if_neg c'];omega]
    rfl
  rintro σ G1 ⟨rfl,rfl⟩
  have ei:itm z.b z.f=(m.T:Int) ↔ z.b + z.f=m.T + 1:=by
    unfold itm
    split <;> omega
  refine ⟨_,rfl,_,rfl,d,_,rfl,jMH M.d,rfl,_,rfl,jBp (fun c=>?_) (fun c=>?_)⟩
  · have c':=of_decide_eq_true c
    injection c' with c'
    exact q1 (.inr (ei.mp c'))
  · exact ⟨_,rfl,d,_,rfl,jLP M.d,_,rfl,small (show 2≤1000 by decide),fun t nt=>q2 na (fun e=>c (decide_eq_true (congrArg V.int (ei.mpr e)))) t _ (jAk nt _) nt jAc⟩
end
end My
namespace My
open PySem L2
open Blk (sg sg_inj sg_app)
section
variable {P:Program} {w:World} {K:PySem.W.Frag} {mg:Str→Option Value} {base:Heap} {fa yQ yZ yX yY yV yJ yW yU yK yG cQ cZ cV cK cG vQ vZ vX vY:Addr} {fd:FuncData} (T:Txt K mg yQ yZ yX yY yV yJ yW yU yK yG cQ cZ cV cK cG vQ vZ vX vY)
def stK (T P b a f:Nat):Nat:=if b + f=T + 1 then 1 else if P < f + 1 - a then 1 else 0
def stF (T b f:Nat):Nat:=if b + f=T + 1 then f else f + 1
def stZ (T P:Nat) (z:Zs):Zs:=jA9 T { z with f:=stF T z.b z.f } (stK T P z.b z.a z.f)
theorem Go.mO {m:MD} {H:Hp} {wi ou:Addr} (z:Zs) (h1:H wi=none) (h2:H ou=none):Go m (mO m wi ou z) H:=⟨rfl,rfl,rfl,rfl,rfl,rfl,.inr h1,.inr h2⟩
theorem Bk.kd {H H':Hp} {d:Addr} {m:MD} {z:Zs} (M:Bk H d m z) (k:Kd d H H') {wi:Addr} {f:Nat} (hd:H' d=some (.dK ({ m with wi:=wi }:MD).kv)) (hw:TL H' m.nm wi (win z.b z.a f)) (nw:wi=m.wi∨H wi=none) (h1:z.a≤f) (h2:z.b + f≤m.T + 1):Bk H' d { m with wi:=wi } { z with f:=f }:=by
  have h3:∀ {b ts},H b=some (.lst ts)→H' b=some (.lst ts):=fun e=>k.lst M.d e
  have n4:wi≠m.wl:=by rcases nw with rfl | e;exact M.n4;exact (jAf M.s e).symm
  have n5:wi≠m.al:=by rcases nw with rfl | e;exact M.n5;exact (jAf M.h e).symm
  exact { M with d:=hd,p:=h3 M.p,s:=h3 M.s,h:=h3 M.h,w:=hw,o:=h3 M.o,n4:=n4,n5:=n5,af:=h1,fT:=h2 }
def jFc (K:PySem.W.Frag):Sp:=fun vs H Q _=>∃ d m z i,vs=[.ref d]∧Bk H d m z∧z.ap=some i∧i < 3∧z.b + z.a≠m.T + 1∧z.f - z.a≤m.P i∧m.P i≤10 ∧
  ∀ l m' H',Kd d H H'→H l=none→TL H' m.nm l (win z.b z.a (z.a + stK m.T (m.P i) z.b z.a z.f))→Bk H' d m' (stZ m.T (m.P i) z)→Go m m' H→Q (.ref l) H'
theorem jFd:jAl ["_law_m","_law_tag"] ["_law_m"] (jAh jDD):=scM
include T in
theorem jJb (F:Fun K "_law_stepped" "_law_stepped" jDD fa fd) (DaC:Dfn P w K mg base 1 "_law_next" ["_law_m"] (jEX K)) (Dah:Dfn P w K mg base 1 "_law_out" ["_law_m","_law_many"] (jDL K)) :
    jAq P w K mg base CX0 2 fa fd ["_law_m"] (jFc K):=by
  refine F.ok jFd (fun vs H Q E h=>?_) (fun cdv A outer s H vs Q E hr h=>?_)
  · obtain ⟨d,m,z,i,rfl,_⟩:=h
    rfl
  obtain ⟨d,m,z,i,rfl,M,hi,i3,nov,fp,p10,q⟩:=h
  have hu:=jCr hr 0 (by decide)
  refine ⟨_,(jAb (psA (i:=1) jFd.nd (jAv DaC hr.m rfl (jAa (pv 0) jAd))) (jAb (jAC (tcA jC1 (pv 1) jAL) (jAe (jAm (jAv Dah hr.m rfl (jAa (pv 0) (jAa jAg jAd))))) jAs) (jAb (jCe hu (pv 0) jAi (jAB jK2 (dgA hu (pv 0) jAi) (jAS (jAa (pv 1) jAd))) rfl) (jAe (jAm (jAv Dah hr.m rfl (jAa (pv 0) (jAa (jAG (jNh rfl) rfl T.bF bt_max (jAa jAg (jAa (jAB jGV (jAG jAF rfl T.ae PySem.boot_len (jAa (dgA hu (pv 0) jAi) jAd)) (ixA jAH (dgA hu (pv 0) jAi) (dgA hu (pv 0) jAi))) jAd))) jAd)))))))),?_⟩
  have fT:=M.fT
  have af:=M.af
  have T9:=M.T9
  refine ⟨_,rfl,d,m,z,rfl,M,fun c=>?_,fun na c t H1 s1 nt ht=>?_⟩
  · have c:z.b + z.f=m.T + 1:=c.resolve_left fun e=>by rw [hi] at e;cases e
    refine ⟨_,rfl,rfl,_,rfl,jAP ⟨_,rfl,d,m,z,1,rfl,M,by omega,nov,fun l wi ou H2 k2 nl nwi nou tl M2=>?_⟩⟩
    have q':=q l (mO m wi ou (jA9 m.T z 1)) H2 k2 nl
    unfold stZ stK stF at q'
    rw [if_pos c,if_pos c] at q'
    exact q' tl M2 (.mO _ nwi nou)
  · refine ⟨_,rfl,rfl,_,rfl,jAK ?_⟩
    have M1:=M.same s1
    obtain ⟨ws,hw,tw⟩:=M1.w.ex
    have lw:=tw.1
    rw [jBw] at lw
    refine ⟨_,rfl,d,_,rfl,jBX M1.d,_,rfl,small (show 1≤1000 by decide),fun u nu=>?_⟩
    have s3:=jAk nu (.lst [V.ref t])
    have hu3:upd H1 u (.lst [V.ref t]) u=some (.lst [V.ref t]):=jAc
    generalize upd H1 u (.lst [V.ref t])=H3 at s3 hu3 ⊢
    refine ⟨m.wi,u,_,_,rfl,rfl,s3 _ _ hw,hu3,small (by rw [lw];show z.f - z.a + 1≤1000;omega),fun w2 nw2=>?_⟩
    have s4:=jAk nw2 (.lst (ws ++ [V.ref t]))
    have hw4:upd H3 w2 (.lst (ws ++ [V.ref t])) w2=some (.lst (ws ++ [V.ref t])):=jAc
    generalize upd H3 w2 (.lst (ws ++ [V.ref t]))=H4 at s4 hw4 ⊢
    have s14:=s3.trans s4
    have d4:=s14 _ _ M1.d
    refine ⟨_,rfl,d,_,rfl,jH_ d4 w2,?_⟩
    have k5:Kd d H4 (upd H4 d (.dK ({ m with wi:=w2 }:MD).kv)):=jB3 _
    have d5:upd H4 d (.dK ({ m with wi:=w2 }:MD).kv) d=some (.dK ({ m with wi:=w2 }:MD).kv):=jAc
    generalize upd H4 d (.dK ({ m with wi:=w2 }:MD).kv)=H5 at k5 d5 ⊢
    have k15:=(jCZ (d:=d) s14).trans k5
    have hw5:=k5.lst d4 hw4
    have ht5:=k15.tup M1.d _ _ ht
    have M5:Bk H5 d { m with wi:=w2 } { z with f:=z.f + 1 }:=M1.kd k15 d5 ⟨_,hw5,by rw [← jGD af];exact (tw.fr (k15.tup M1.d)).snoc ht5⟩ (.inr (s3.free nw2)) (by omega) (by omega)
    have k05:=(jCZ (d:=d) s1).trans k15
    have n5:∀ b,H5 b=none→H b=none:=fun b nb=>k05.free M.d ⟨_,d5⟩ nb
    obtain ⟨k,ek,hk⟩:∃ k:Nat,stK m.T (m.P i) z.b z.a z.f=k∧(if ((ws ++ [V.ref t]).length:Int) - (m.P i:Int) > 0 then ((ws ++ [V.ref t]).length:Int) - (m.P i:Int) else 0)=(k:Int):=by
      unfold stK
      rw [if_neg c,List.length_append,lw]
      by_cases co:m.P i < z.f + 1 - z.a
      · refine ⟨1,by rw [if_pos co],?_⟩
        rw [if_pos (by show ((z.f - z.a + 1:Nat):Int) - (m.P i:Int) > 0;omega)]
        show ((z.f - z.a + 1:Nat):Int) - (m.P i:Int)=1
        omega
      · refine ⟨0,by rw [if_neg co],?_⟩
        rw [if_neg (by show ¬ ((z.f - z.a + 1:Nat):Int) - (m.P i:Int) > 0;omega)]
        rfl
    have k1:k≤1:=by
      unfold stK at ek
      rw [if_neg c] at ek
      split at ek <;> omega
    have eav:m.av=.int (i:Int):=by rw [M.av,hi];rfl
    refine ⟨_,rfl,_,rfl,d,_,rfl,jBX d5,w2,_,rfl,.inl (SqL.of hw5),_,rfl,d,_,rfl,g_paths d5,_,rfl,d,_,rfl,jHj d5,m.pl,_,_,rfl,eav,SqL.of M5.p,by omega,(by show (i:Int) < 3;omega),fun v hv=>?_⟩
    obtain rfl:=jBg i3 hv
    refine ⟨_,_,rfl,rfl,_,_,rfl,d,_,{ z with f:=z.f + 1 },k,congrArg (fun z=>[V.ref d,V.int z]) hk,M5,by show z.a + k≤z.f + 1;omega,nov,fun l wi ou H6 k6 nl nwi nou tl M6=>?_⟩
    refine q l (mO { m with wi:=w2 } wi ou (jA9 m.T { z with f:=z.f + 1 } k)) H6 (k05.trans k6) (n5 _ nl) (by rw [ek];exact tl) ?_ ⟨rfl,rfl,rfl,rfl,rfl,rfl,.inr (n5 _ nwi),.inr (n5 _ nou)⟩
    unfold stZ stF
    rw [ek,if_neg c]
    exact M6
def tkZ (T:Nat) (z:Zs) (p:Nat):Zs:=if z.b + z.f=T + 1 then jA9 T z (z.f - z.a) else ⟨some p,z.b + (z.f - 1),0,0,z.S⟩
def jGO (K:PySem.W.Frag):Sp:=fun vs H Q _=>∃ d m z p,vs=[.ref d,.int (p:Nat)]∧Bk H d m z∧z.b + z.a≠m.T + 1 ∧
  ∀ l m' H',Kd d H H'→H l=none→TL H' m.nm l (win z.b z.a z.f)→Bk H' d m' (tkZ m.T z p)→Go m m' H→Q (.ref l) H'
theorem jGP:jAl ["_law_m","_law_p","_law_tags_here"] ["_law_m","_law_p"] (jAh jEJ):=scM
include T in
theorem jKE (F:Fun K "_law_taken" "_law_taken" jEJ fa fd) (Dah:Dfn P w K mg base 1 "_law_out" ["_law_m","_law_many"] (jDL K)) :
    jAq P w K mg base CX0 2 fa fd ["_law_m","_law_p"] (jGO K):=by
  refine F.ok jGP (fun vs H Q E h=>?_) (fun cdv A outer s H vs Q E hr h=>?_)
  · obtain ⟨d,m,z,p,rfl,_⟩:=h
    rfl
  obtain ⟨d,m,z,p,rfl,M,nov,q⟩:=h
  have hu:=jCr hr 0 (by decide)
  refine ⟨_,(jAb (psA (i:=2) jGP.nd (jAv Dah hr.m rfl (jAa (pv 0) (jAa (jAG jAF rfl T.ae PySem.boot_len (jAa (dgA hu (pv 0) jAi) jAd)) jAd)))) (jAb (jAC (jBY (jAN (dgA hu (pv 0) jAi) (fun _=>rfl))) (jAb (jCe hu (pv 0) jAi (pv 1) rfl) (jAb (jCe hu (pv 0) jAi (jAG jAF rfl T.ae PySem.boot_len (jAa (dgA hu (pv 0) jAi) jAd)) rfl) (jAe (jCe hu (pv 0) jAi jAg rfl)))) jAs) (jAe (jAm (pv 2))))),?_⟩
  obtain ⟨ws,hw,tw⟩:=M.w.ex
  have lw:=tw.1
  rw [jBw] at lw
  have fT:=M.fT
  have af:=M.af
  have bT:=M.bT
  refine ⟨_,rfl,_,rfl,d,_,rfl,jBX M.d,m.wi,_,rfl,.inl (SqL.of hw),d,m,z,z.f - z.a,congrArg (fun n:Nat=>[V.ref d,V.int (n:Int)]) lw,M,by omega,nov,fun l wi ou H1 k1 nl nwi nou tl M1=>?_⟩
  have ea:z.a + (z.f - z.a)=z.f:=by omega
  rw [ea] at tl
  dsimp only [jBr]
  refine jAU (fun σ G=>Kd d H G∧TL G m.nm l (win z.b z.a z.f)∧(∃ m',Bk G d m' (tkZ m.T z p)∧Go m m' H)∧σ=[some (.ref d),some (.int (p:Int)),some (.ref l)]) (fun R hR=>?_) ?_
  · have ov1:(mO m wi ou (jA9 m.T z (z.f - z.a))).ov=decide (z.b + z.f=m.T + 1):=by
      show decide (z.b + (z.a + (z.f - z.a))=m.T + 1)=_
      rw [ea]
    by_cases c:z.b + z.f=m.T + 1
    · rw [decide_eq_true c] at ov1
      refine ⟨_,rfl,d,_,rfl,jJa M1.d,true,ov1.symm,jAK (hR _ _ ⟨k1,tl,⟨mO m wi ou (jA9 m.T z (z.f - z.a)),?_,.mO _ nwi nou⟩,rfl⟩)⟩
      unfold tkZ
      rw [if_pos c]
      exact M1
    · rw [decide_eq_false c] at ov1
      refine ⟨_,rfl,d,_,rfl,jJa M1.d,false,ov1.symm,jAP ?_⟩
      have d1:=M1.d
      have ho1:=M1.o
      generalize hm1:mO m wi ou (jA9 m.T z (z.f - z.a))=m1 at M1 d1 ho1 ov1
      refine ⟨_,rfl,_,rfl,d,_,rfl,p_at d1 _,?_⟩
      have k2:Kd d H1 (upd H1 d (.dK ({ m1 with av:=.int (p:Int) }:MD).kv)):=jB3 _
      have d2:upd H1 d (.dK ({ m1 with av:=.int (p:Int) }:MD).kv) d=some (.dK ({ m1 with av:=.int (p:Int) }:MD).kv):=jAc
      generalize upd H1 d (.dK ({ m1 with av:=.int (p:Int) }:MD).kv)=H2 at k2 d2 ⊢
      have eo:(jA9 m.T z (z.f - z.a)).b + ((jA9 m.T z (z.f - z.a)).a - 1)=z.b + (z.f - 1):=by
        show z.b + (z.a + (z.f - z.a) - 1)=_
        rw [ea]
      rw [eo] at ho1
      refine ⟨_,rfl,d,_,rfl,jFV d2,_,_,rfl,.inl (SqL.of (k2.lst d1 ho1)),_,rfl,d,_,rfl,p_first d2 _,?_⟩
      rw [jEr]
      have k3:Kd d H2 (upd H2 d (.dK ({ m1 with av:=.int (p:Int),fi:=((z.b + (z.f - 1):Nat):Int) }:MD).kv)):=jB3 _
      have d3:upd H2 d (.dK ({ m1 with av:=.int (p:Int),fi:=((z.b + (z.f - 1):Nat):Int) }:MD).kv) d=some (.dK ({ m1 with av:=.int (p:Int),fi:=((z.b + (z.f - 1):Nat):Int) }:MD).kv):=jAc
      generalize upd H2 d (.dK ({ m1 with av:=.int (p:Int),fi:=((z.b + (z.f - 1):Nat):Int) }:MD).kv)=H3 at k3 d3 ⊢
      have k4:Kd d H3 (upd H3 d (.dK ({ m1 with av:=.int (p:Int),fi:=((z.b + (z.f - 1):Nat):Int),ca:=0 }:MD).kv)):=jB3 _
      have k14:=(k2.trans k3).trans k4
      have h3:∀ {b ts},H1 b=some (.lst ts)→upd H3 d (.dK ({ m1 with av:=.int (p:Int),fi:=((z.b + (z.f - 1):Nat):Int),ca:=0 }:MD).kv) b=some (.lst ts):=fun e=>k14.lst d1 e
      refine ⟨_,rfl,d,_,rfl,jNW d3 0,hR _ _ ⟨k1.trans k14,tl.kd k14 d1,⟨{ m1 with av:=.int (p:Int),fi:=((z.b + (z.f - 1):Nat):Int),ca:=0 },?_,?_⟩,rfl⟩⟩
      · have ew:win (jA9 m.T z (z.f - z.a)).b (jA9 m.T z (z.f - z.a)).a (jA9 m.T z (z.f - z.a)).f=win (z.b + (z.f - 1)) 0 0:=by
          show win z.b (z.a + (z.f - z.a)) z.f=_
          rw [ea,jBi,jBi]
        have mw:=M1.w
        rw [ew] at mw
        have em:m1.T=m.T:=by rw [← hm1];rfl
        unfold tkZ
        rw [if_neg c]
        refine ⟨jAc,h3 M1.p,h3 M1.s,h3 M1.h,mw.kd k14 d1,h3 ho1,M1.n1,M1.n2,M1.n3,M1.n4,M1.n5,M1.n6,M1.n7,rfl,rfl,?_,rfl,M1.wa,?_,Nat.le_refl _,?_,M1.T9⟩
        · show m1.ov=_
          rw [ov1]
          exact (decide_eq_false (by show ¬ z.b + (z.f - 1) + 0=m1.T + 1;omega)).symm
        · show z.b + (z.f - 1) < m1.T
          omega
        · show z.b + (z.f - 1) + 0≤m1.T + 1
          omega
      · rw [← hm1]
        exact ⟨rfl,rfl,rfl,rfl,rfl,rfl,.inr nwi,.inr nou⟩
  rintro σ G ⟨kk,tl2,⟨m',M2,g⟩,rfl⟩
  exact ⟨_,rfl,q l m' G kk nl tl2 M2 g⟩
def lsZ (z:Zs) (p:Nat) (s:S3):Zs:={ z with f:=if z.ap=some p then z.a else z.f,S:=jBy z.S p s }
def Kb (d:Addr) (m:MD) (H H':Hp):Prop:=∀ b o,b≠d→b≠m.wl→b≠m.al→H b=some o→H' b=some o
theorem Kd.kb {d:Addr} {m:MD} {H H':Hp} (k:Kd d H H'):Kb d m H H':=fun b o n _ _ e=>k b o n e
theorem Kb.trans {d:Addr} {m:MD} {H H1 H2:Hp} (a:Kb d m H H1) (b:Kb d m H1 H2):Kb d m H H2:=fun c o n1 n2 n3 e=>b c o n1 n2 n3 (a c o n1 n2 n3 e)
theorem TL.kb {d:Addr} {H H':Hp} {m:MD} {kv:List (Key×V)} {x1 x2:List V} {nm:Str} {l:Addr} {ns:List Int} (t:TL H nm l ns) (k:Kb d m H H') (hd:H d=some (.dK kv)) (h1:H m.wl=some (.lst x1)) (h2:H m.al=some (.lst x2)) (n1:l≠m.wl) (n2:l≠m.al):TL H' nm l ns:=by
  obtain ⟨us,e1,e2⟩:=t.ex
  exact ⟨us,k _ _ (jAn e1 hd (by intro z;cases z)) n1 n2 e1,e2.fr fun b xs e=>k _ _ (jAn e hd (by intro z;cases z)) (jAn e h1 (by intro z;cases z)) (jAn e h2 (by intro z;cases z)) e⟩
theorem jNY {d:Addr} {m:MD} {H:Hp} {b:Addr} (h:b=m.wl∨b=m.al) (o:HO):Kb d m H (upd H b o):=fun c u _ n2 n3 e=>by
  rw [jAj (by rcases h with rfl | rfl <;> assumption)]
  exact e
def jEY (K:PySem.W.Frag):Sp:=fun vs H Q _=>∃ d m z p s',vs=[.ref d,.int (p:Nat),.str (wd s')]∧Bk H d m z∧p < 3∧(∀ b,s'=.aw b→wd (z.S p)=wd (if b=true then .jm else .rd)) ∧
  ∀ l m' H',Kb d m H H'→(l=m.wi∨H l=none)→TL H' m.nm l (win z.b z.a (if z.ap=some p then z.f else z.a))→Bk H' d m' (lsZ z p s')→Go m m' H→Q (.ref l) H'
theorem jEZ:jAl ["_law_m","_law_p","_law_word_here","_law_tags_here"] ["_law_m","_law_p","_law_word_here"] (jAh jFy):=scM
include T in
theorem jLS (F:Fun K "_law_lost" "_law_lost" jFy fa fd)  :
    jAq P w K mg base CX0 1 fa fd ["_law_m","_law_p","_law_word_here"] (jEY K):=by
  refine F.ok jEZ (fun vs H Q E h=>?_) (fun cdv A outer s H vs Q E hr h=>?_)
  · obtain ⟨d,m,z,p,s',rfl,_⟩:=h
    rfl
  obtain ⟨d,m,z,p,s',rfl,M,p3,hs,q⟩:=h
  have hu:=jCr hr 0 (by decide)
  refine ⟨_,(jAb (psA (i:=3) jEZ.nd (jAS jAd)) (jAb (jAC (tcA jAZ (pv 1) (dgA hu (pv 0) jAi)) (jAb (psA (i:=3) jEZ.nd (dgA hu (pv 0) jAi)) (jAe (jCe hu (pv 0) jAi (jAS jAd) rfl))) jAs) (jAb (jId (ixA jAH (dgA hu (pv 0) jAi) (pv 1)) (jIc (dgA hu (pv 0) jAi) (pv 1) jGa)) (jAb (jId (pv 2) (jIc (dgA hu (pv 0) jAi) (pv 1) jGa)) (jAe (jAm (pv 3))))))),?_⟩
  have fT:=M.fT
  have af:=M.af
  refine ⟨small (Nat.zero_le _),fun e ne=>?_⟩
  have s1:=jAk ne (.lst [])
  have he:upd H e (.lst []) e=some (.lst []):=jAc
  generalize upd H e (.lst [])=H1 at s1 he ⊢
  have M1:=M.same s1
  dsimp only [jBr]
  have nil:∀ {G:Hp} {l:Addr} {n:Nat},G l=some (.lst [])→TL G m.nm l (win z.b n n):=fun h=>⟨[],h,by rw [jBi];exact ⟨rfl,fun i y n a=>by cases a⟩⟩
  refine jAU (fun σ G=>Kd d H G∧∃ l wi,G d=some (.dK ({ m with wi:=wi }:MD).kv)∧(l=m.wi∨H l=none)∧TL G m.nm l (win z.b z.a (if z.ap=some p then z.f else z.a))∧Bk G d { m with wi:=wi } { z with f:=if z.ap=some p then z.a else z.f }∧(wi=m.wi∨H wi=none)∧σ=[some (.ref d),some (.int (p:Int)),some (.str (wd s')),some (.ref l)]) (fun R hR=>?_) ?_
  · refine ⟨_,rfl,_,rfl,d,_,rfl,jHj M1.d,(by rw [M.av];cases z.ap <;> rfl),_,rfl,?_⟩
    rw [M.av]
    by_cases c:z.ap=some p
    · rw [if_pos c,if_pos c] at hR
      refine jFL (by rw [c];rfl) ⟨_,rfl,d,_,rfl,jBX M1.d,small (Nat.zero_le _),fun wi nwi=>?_⟩
      have s2:=jAk nwi (.lst [])
      have hwi:upd H1 wi (.lst []) wi=some (.lst []):=jAc
      dsimp only [jBr]
      generalize upd H1 wi (.lst [])=H2 at s2 hwi ⊢
      have d2:=s2 _ _ M1.d
      have k3:Kd d H2 (upd H2 d (.dK ({ m with wi:=wi }:MD).kv)):=jB3 _
      have kk:=(jCZ (d:=d) (s1.trans s2)).trans k3
      exact ⟨_,rfl,d,_,rfl,jH_ d2 wi,hR _ _ ⟨kk,m.wi,wi,jAc,.inl rfl,M.w.kd kk M.d,M.kd kk jAc (nil (k3.lst d2 hwi)) (.inr (s1.free nwi)) (Nat.le_refl _) (by omega),.inr (s1.free nwi),rfl⟩⟩
    · rw [if_neg c,if_neg c] at hR
      exact jCz (fun x=>c (by cases ea:z.ap with
        | none=>rw [ea] at x;cases x
        | some i=>rw [ea] at x;injection x with x;rw [show p=i by omega])) (hR _ _ ⟨jCZ s1,e,m.wi,M1.d,.inr ne,nil he,M1,.inl rfl,rfl⟩)
  rintro σ G ⟨k0,l,wi,hd,hl,tl,MG,hwi,rfl⟩
  -- was
  refine ⟨_,rfl,d,_,rfl,jBO hd,_,rfl,m.wl,_,_,rfl,rfl,SqL.of MG.s,by omega,(by show (p:Int) < 3;omega),fun v hv=>?_⟩
  obtain rfl:=jBg p3 hv
  refine ⟨_,rfl,d,_,rfl,g_was hd,_,rfl,m.al,_,_,p,rfl,rfl,MG.h,ix3 p3,?_⟩
  rw [jI_ _ p3]
  have x1:(fun j=>if j=p then V.str (wd (z.S p)) else V.str (m.A j))=fun j=>V.str (if j=p then wd (z.S p) else m.A j):=funext fun j=>by split <;> rfl
  have x2:(fun j=>if j=p then V.str (wd s') else V.str (wd (z.S j)))=fun j=>V.str (wd (jBy z.S p s' j)):=funext fun j=>by unfold jBy;split <;> rfl
  rw [show (fun j=>if j=p then V.str (wd (({ z with f:=if z.ap=some p then z.a else z.f }:Zs).S p)) else V.str (({ m with wi:=wi }:MD).A j))=fun j=>V.str (if j=p then wd (z.S p) else m.A j) from x1]
  have k1:Kb d m G (upd G m.al (.lst (l3 fun j=>V.str (if j=p then wd (z.S p) else m.A j)))):=jNY (.inr rfl) _
  have ha:upd G m.al (.lst (l3 fun j=>V.str (if j=p then wd (z.S p) else m.A j))) m.al=some (.lst (l3 fun j=>V.str (if j=p then wd (z.S p) else m.A j))):=jAc
  have dG1:upd G m.al (.lst (l3 fun j=>V.str (if j=p then wd (z.S p) else m.A j))) d=some (.dK ({ m with wi:=wi }:MD).kv):=by rw [jAj (jAn hd MG.h (by intro z;cases z))];exact hd
  have wG1:upd G m.al (.lst (l3 fun j=>V.str (if j=p then wd (z.S p) else m.A j))) m.wl=some (.lst (l3 fun i=>.str (wd (z.S i)))):=by rw [jAj M.n1];exact MG.s
  generalize upd G m.al (.lst (l3 fun j=>V.str (if j=p then wd (z.S p) else m.A j)))=G1 at k1 ha dG1 wG1 ⊢
  refine ⟨_,rfl,_,rfl,d,_,rfl,jBO dG1,_,rfl,m.wl,_,_,p,rfl,rfl,wG1,ix3 p3,?_⟩
  rw [jI_ _ p3,x2]
  have k2:Kb d m G1 (upd G1 m.wl (.lst (l3 fun j=>V.str (wd (jBy z.S p s' j))))):=jNY (.inl rfl) _
  have hw2:upd G1 m.wl (.lst (l3 fun j=>V.str (wd (jBy z.S p s' j)))) m.wl=some (.lst (l3 fun j=>V.str (wd (jBy z.S p s' j)))):=jAc
  have dG2:upd G1 m.wl (.lst (l3 fun j=>V.str (wd (jBy z.S p s' j)))) d=some (.dK ({ m with wi:=wi }:MD).kv):=by rw [jAj (jAn dG1 wG1 (by intro z;cases z))];exact dG1
  have aG2:upd G1 m.wl (.lst (l3 fun j=>V.str (wd (jBy z.S p s' j)))) m.al=some (.lst (l3 fun j=>V.str (if j=p then wd (z.S p) else m.A j))):=by rw [jAj M.n1.symm];exact ha
  generalize upd G1 m.wl (.lst (l3 fun j=>V.str (wd (jBy z.S p s' j))))=G2 at k2 hw2 dG2 aG2 ⊢
  have k12:=k1.trans k2
  have kk:Kb d m H G2:=(k0.kb).trans k12
  have ln:l≠m.wl∧l≠m.al:=by
    rcases hl with rfl | h
    · exact ⟨M.n4,M.n5⟩
    · exact ⟨(jAf M.s h).symm,(jAf M.h h).symm⟩
  have h3:∀ {b ts},b≠m.wl→b≠m.al→G b=some (.lst ts)→G2 b=some (.lst ts):=fun n1 n2 e=>k12 _ _ (jAn e hd (by intro z;cases z)) n1 n2 e
  refine ⟨_,rfl,q l { m with wi:=wi,A:=fun j=>if j=p then wd (z.S p) else m.A j } G2 kk hl (tl.kb k12 hd MG.s MG.h ln.1 ln.2) ?_ ⟨rfl,rfl,rfl,rfl,rfl,rfl,hwi,.inl rfl⟩⟩
  refine { MG with d:=dG2,p:=h3 M.n2 M.n3 MG.p,s:=hw2,h:=aG2,w:=MG.w.kb k12 hd MG.s MG.h MG.n4 MG.n5,o:=h3 MG.n6 MG.n7 MG.o,wa:=fun i b ei=>?_ }
  show (if i=p then wd (z.S p) else m.A i)=_
  have ei':(if i=p then s' else z.S i)=.aw b:=ei
  by_cases c:i=p
  · rw [if_pos c] at ei' ⊢
    exact hs b ei'
  · rw [if_neg c] at ei' ⊢
    exact M.wa i b ei'
end
end My
namespace My
open PySem L2
open Blk (sg sg_inj sg_app)
section
variable {P:Program} {w:World} {K:PySem.W.Frag} {mg:Str→Option Value} {base:Heap} {fa yQ yZ yX yY yV yJ yW yU yK yG cQ cZ cV cK cG vQ vZ vX vY:Addr} {fd:FuncData} (T:Txt K mg yQ yZ yX yY yV yJ yW yU yK yG cQ cZ cV cK cG vQ vZ vX vY)
inductive Dd where
  | take (p:Nat) | step | jam (k:Nat) | leave (p:Nat) | come (p:Nat) | mend (p:Nat)
def wN:Nat→Str
  | 0=>Str.ofString "take"
  | 1=>Str.ofString "step"
  | 2=>Str.ofString "jam"
  | 3=>Str.ofString "leave"
  | 4=>Str.ofString "come"
  | _=>Str.ofString "mend"
theorem wN_inj:∀ i j:Fin 6,wN i.val=wN j.val→i=j:=by decide +kernel
def dN:Dd→Nat
  | .take _=>0
  | .step=>1
  | .jam _=>2
  | .leave _=>3
  | .come _=>4
  | .mend _=>5
def ddV (D:Dd):List V:=.str (wN (dN D)) :: match D with
  | .take p=>[.int (p:Int)]
  | .step=>[]
  | .jam k=>[.int (k:Int)]
  | .leave p=>[.int (p:Int)]
  | .come p=>[.int (p:Int)]
  | .mend p=>[.int (p:Int)]
def Dd.Ok:Dd→Prop
  | .take p=>p < 3
  | .leave p=>p < 3
  | .come p=>p < 3
  | .mend p=>p < 3
  | _=>True
theorem dN_lt (D:Dd):dN D < 6:=by cases D <;> simp [dN]
theorem dd0 (D:Dd):(ddV D)[0]?=some (.str (wN (dN D))):=rfl
theorem jE0 (D:Dd) {k:Nat} (h:k < 6):decide (V.str (wN (dN D))=V.str (wN k))=decide (dN D=k):=by
  by_cases c:dN D=k
  · rw [decide_eq_true c,c,decide_eq_true rfl]
  · rw [decide_eq_false c,decide_eq_false fun z=>c (by injection z with z;exact congrArg Fin.val (wN_inj ⟨_,dN_lt D⟩ ⟨k,h⟩ z))]
theorem in_run (D:Dd):inV (.str (wN (dN D))) [.str (wN 0),.str (wN 1),.str (wN 2)]=decide (dN D < 3):=by
  cases D with
  | take p=>show inV (.str (wN 0)) _=true;decide +kernel
  | step=>show inV (.str (wN 1)) _=true;decide +kernel
  | jam p=>show inV (.str (wN 2)) _=true;decide +kernel
  | leave p=>show inV (.str (wN 3)) _=false;decide +kernel
  | come p=>show inV (.str (wN 4)) _=false;decide +kernel
  | mend p=>show inV (.str (wN 5)) _=false;decide +kernel
inductive RV where
  | non | tags (b a f:Nat) | two (b a c f:Nat) | wrd (s:Str)
def IsR (H:Hp) (nm:Str) (N:Addr→Prop) (v:V):RV→Prop
  | .non=>v=.non
  | .tags b a f=>∃ l,v=.ref l∧N l∧TL H nm l (win b a f)
  | .two b a c f=>∃ t l1 l2,v=.ref t∧H t=some (.tup [.ref l1,.ref l2])∧N l1∧N l2∧TL H nm l1 (win b a c)∧TL H nm l2 (win b c f)
  | .wrd s=>v=.str s
theorem IsR.same {H H':Hp} {nm:Str} {N:Addr→Prop} {v:V} {r:RV} (h:IsR H nm N v r) (s:jAo H H'):IsR H' nm N v r:=by
  cases r with
  | non=>exact h
  | wrd=>exact h
  | tags b a f=>obtain ⟨l,e,n,t⟩:=h;exact ⟨l,e,n,t.same s⟩
  | two b a c f=>obtain ⟨t,l1,l2,e,h1,n1,n2,h2,h3⟩:=h;exact ⟨t,l1,l2,e,s _ _ h1,n1,n2,h2.same s,h3.same s⟩
structure Rs where
  kd:Str
  wo:V
  rv:RV
  z:Zs
def nowR (s:S3) (z:Zs):Rs:=⟨Str.ofString "now",.str (wd s),.non,z⟩
def rdR (s:S3) (z:Zs) (R:Rs):Rs:=match s with
  | .rd=>R
  | s=>nowR s z
def runR (nm:Str) (T:Nat) (z:Zs) (i:Option Nat) (g:Nat→Rs):Rs :=
  if z.b + z.a=T + 1 then ⟨Str.ofString "over",.str nm,.non,z⟩ else match i with
  | none=>⟨Str.ofString "nowhere",.str nm,.non,z⟩
  | some p=>rdR (z.S p) z (g p)
def jDh (i p:Nat) (z:Zs) (g:S3→Rs):Rs:=match jA7 i (z.S p) with
  | none=>nowR (z.S p) z
  | some s=>g s
def jCi (v:RV) (z:Zs):Rs:=⟨Str.ofString "",.non,v,z⟩
def jamR (T:Nat) (z:Zs) (k i:Nat):Rs:=if z.f - z.a < k then ⟨Str.ofString "much",.str (Str.ofString "within"),.non,z⟩ else jCi (.two z.b z.a (z.a + k) z.f) (lsZ (jA9 T z k) i .jm)
def dPl (z:Zs):Dd→Option Nat
  | .take p=>some p
  | _=>z.ap
def goR (T:Nat) (P:Nat→Nat) (z:Zs) (D:Dd) (i:Nat):Rs:=match D with
  | .take _=>jCi (.tags z.b z.a z.f) (tkZ T z i)
  | .step=>jCi (.tags z.b z.a (z.a + stK T (P i) z.b z.a z.f)) (stZ T (P i) z)
  | .jam k=>jamR T z k i
  | _=>nowR .rd z
def nx (nm:Str) (T:Nat) (P:Nat→Nat) (z:Zs) (D:Dd):Rs:=match D with
  | .leave p=>jDh 2 p z fun s=>jCi (.tags z.b z.a (if z.ap=some p then z.f else z.a)) (lsZ z p s)
  | .come p=>jDh 3 p z fun s=>jCi (.wrd (wd s)) { z with S:=jBy z.S p s }
  | .mend p=>jDh 1 p z fun s=>jCi (.wrd (wd s)) { z with S:=jBy z.S p s }
  | D=>runR nm T z (dPl z D) (goR T P z D)
section
variable {nm:Str} {T:Nat} {P:Nat→Nat} {z:Zs} {D:Dd}
theorem jJc (h:dN D < 3):nx nm T P z D=runR nm T z (dPl z D) (goR T P z D):=by
  cases D with
  | leave p=>exact absurd (show 3 < 3 from h) (by decide)
  | come p=>exact absurd (show 4 < 3 from h) (by decide)
  | mend p=>exact absurd (show 5 < 3 from h) (by decide)
  | _=>rfl
theorem jMJ (h:dN D < 3) (c:z.b + z.a=T + 1):nx nm T P z D=⟨Str.ofString "over",.str nm,.non,z⟩:=by rw [jJc h];exact if_pos c
theorem jMK (h:dN D < 3) (c:z.b + z.a≠T + 1) (e:dPl z D=none):nx nm T P z D=⟨Str.ofString "nowhere",.str nm,.non,z⟩:=by rw [jJc h,e];exact if_neg c
theorem jNZ (h:dN D < 3) (c:z.b + z.a≠T + 1) {i:Nat} (e:dPl z D=some i) (n:z.S i≠.rd):nx nm T P z D=nowR (z.S i) z:=by
  rw [jJc h,e]
  refine (if_neg c).trans ?_
  show rdR (z.S i) z _=_
  cases eS:z.S i with
  | rd=>exact absurd eS n
  | jm=>rfl
  | aw b=>rfl
theorem jHB (h:dN D < 3) (c:z.b + z.a≠T + 1) {i:Nat} (e:dPl z D=some i) (n:z.S i=.rd):nx nm T P z D=goR T P z D i:=by
  rw [jJc h,e]
  refine (if_neg c).trans ?_
  show rdR (z.S i) z _=_
  rw [n]
  rfl
theorem jML {i p:Nat} {g:S3→Rs} (e:jA7 i (z.S p)=none):jDh i p z g=nowR (z.S p) z:=by unfold jDh;rw [e]
theorem jDJ {i p:Nat} {g:S3→Rs} {s:S3} (e:jA7 i (z.S p)=some s):jDh i p z g=g s:=by unfold jDh;rw [e]
end
def jGH (H:Hp) (d:Addr) (m:MD) (z:Zs) (D:Dd) (Q:VK):Prop:=∀ R,nx m.nm m.T m.P z D=R→∀ u v m' H',Kb d m H H'→H' u=some (.tup [.str R.kd,R.wo,v])→IsR H' m.nm (fun l=>l=m.wi∨H l=none) v R.rv→Bk H' d m' R.z→Go m m' H→Q (.ref u) H'
structure Zr (m:MD) (z:Zs):Prop where
  at3:∀ i,z.ap=some i→i < 3∧z.f - z.a≤m.P i
  p10:∀ i,m.P i≤10
theorem jGH.tell {H G:Hp} {d:Addr} {m:MD} {z:Zs} {D:Dd} {Q:VK} (q:jGH H d m z D Q) (M:Bk H d m z) (s:jAo H G) {k:Str} {w':V} (e:nx m.nm m.T m.P z D=⟨k,w',.non,z⟩) {u:Addr} (nu:G u=none):Q (.ref u) (upd G u (.tup [.str k,w',.non])):=by
  have s2:=jAk nu (.tup [V.str k,w',.non])
  exact q _ e u .non m _ (jCZ (s.trans s2)).kb jAc rfl (M.same (s.trans s2)) (jMI m H)
theorem jGH.good {H G:Hp} {d:Addr} {m m':MD} {z z':Zs} {D:Dd} {Q:VK} (q:jGH H d m z D Q) {v:V} {rv:RV} (e:nx m.nm m.T m.P z D=jCi rv z') (k:Kb d m H G) (hv:IsR G m.nm (fun l=>l=m.wi∨H l=none) v rv) (M:Bk G d m' z') (g:Go m m' H) {u:Addr} (nu:G u=none):Q (.ref u) (upd G u (.tup [.str (Str.ofString ""),.non,v])):=by
  have s2:=jAk nu (.tup [V.str (Str.ofString ""),.non,v])
  exact q _ e u v m' _ (fun b o n1 n2 n3 eo=>s2 _ _ (k b o n1 n2 n3 eo)) jAc (hv.same s2) (M.same s2) g
def jFe (K:PySem.W.Frag):Sp:=fun vs H Q _=>∃ d m z D t,vs=[.ref d,.ref t]∧H t=some (.tup (ddV D))∧dN D < 3∧D.Ok∧Bk H d m z∧Zr m z∧jGH H d m z D Q
theorem jCj:jAl ["_law_m","_law_deed","_law_p","_law_tags_here"] ["_law_m","_law_deed"] (jAh jDE):=scM
include T in
theorem jJd (F:Fun K "_law_due_run" "_law_due_run" jDE fa fd) (Dah:Dfn P w K mg base 1 "_law_out" ["_law_m","_law_many"] (jDL K)) (Dbr:Dfn P w K mg base 2 "_law_taken" ["_law_m","_law_p"] (jGO K)) (Dbs:Dfn P w K mg base 2 "_law_stepped" ["_law_m"] (jFc K)) (DaD:Dfn P w K mg base 1 "_law_lost" ["_law_m","_law_p","_law_word_here"] (jEY K)) :
    jAq P w K mg base CX0 3 fa fd ["_law_m","_law_deed"] (jFe K):=by
  refine F.ok jCj (fun vs H Q E h=>?_) (fun cdv A outer s H vs Q E hr h=>?_)
  · obtain ⟨d,m,z,D,t,rfl,_⟩:=h
    rfl
  obtain ⟨d,m,z,D,t,rfl,ht,d3,dok,M,zr,q⟩:=h
  have hu:=jCr hr 0 (by decide)
  refine ⟨_,(jAb (jAC (jAN (dgA hu (pv 0) jAi) (fun _=>rfl)) (jAe (jAm (jAM (jAa jAi (jAa (dgA hu (pv 0) jAi) (jAa jAL jAd)))))) jAs) (jAb (psA (i:=2) jCj.nd (dgA hu (pv 0) jAi)) (jAb (jAC (tcA jAZ (ixA jAE (pv 1) jAg) jAi) (jAe (psA (i:=2) jCj.nd (ixA jAE (pv 1) jAg))) jAs) (jAb (jAC (tcA jC1 (pv 2) jAL) (jAe (jAm (jAM (jAa jAi (jAa (dgA hu (pv 0) jAi) (jAa jAL jAd)))))) jAs) (jAb (jAC (tcA jCv (ixA jAH (dgA hu (pv 0) jAi) (pv 2)) jAi) (jAe (jAm (jAM (jAa jAi (jAa (ixA jAH (dgA hu (pv 0) jAi) (pv 2)) (jAa jAL jAd)))))) jAs) (jAb (jAC (tcA jAZ (ixA jAE (pv 1) jAg) jAi) (jAe (jAm (jAM (jAa jAi (jAa jAL (jAa (jAv Dbr hr.m rfl (jAa (pv 0) (jAa (pv 2) jAd))) jAd)))))) jAs) (jAb (jAC (tcA jAZ (ixA jAE (pv 1) jAg) jAi) (jAe (jAm (jAM (jAa jAi (jAa jAL (jAa (jAv Dbs hr.m rfl (jAa (pv 0) jAd)) jAd)))))) jAs) (jAb (jAC (tcA jKI (ixA jAE (pv 1) jAg) (jAG jAF rfl T.ae PySem.boot_len (jAa (dgA hu (pv 0) jAi) jAd))) (jAe (jAm (jAM (jAa jAi (jAa jAi (jAa jAL jAd)))))) jAs) (jAb (psA (i:=3) jCj.nd (jAv Dah hr.m rfl (jAa (pv 0) (jAa (ixA jAE (pv 1) jAg) jAd)))) (jAe (jAm (jAM (jAa jAi (jAa jAL (jAa (jAM (jAa (pv 3) (jAa (jAv DaD hr.m rfl (jAa (pv 0) (jAa (pv 2) (jAa jAi jAd)))) jAd))) jAd))))))))))))))),?_⟩
  have fT:=M.fT
  have af:=M.af
  have z3:3≤sizeLine:=small (by decide)
  -- over
  refine jAU (fun σ G=>G=H∧z.b + z.a≠m.T + 1∧σ=[some (.ref d),some (.ref t),none,none]) (fun R hR=>⟨_,rfl,d,_,rfl,jJa M.d,_,rfl,jBp (fun c=>?_) (fun c=>?_)⟩) ?_
  · rw [M.ov] at c
    exact ⟨_,rfl,d,_,rfl,jLP M.d,z3,fun u nu=>q.tell M (jAo.refl _) (jMJ d3 (of_decide_eq_true c)) nu⟩
  · rw [M.ov] at c
    exact hR _ _ ⟨rfl,fun e=>c (decide_eq_true e),rfl⟩
  rintro σ G ⟨rfl,nov,rfl⟩
  refine ⟨_,rfl,d,_,rfl,jHj M.d,?_⟩
  dsimp only [jBr]
  -- where
  refine jAU (fun σ G'=>G'=G∧σ=[some (.ref d),some (.ref t),some (atV (dPl z D)),none]) (fun R hR=>⟨_,rfl,t,_,_,_,rfl,rfl,SqT.of ht,jAz (j:=0) (dd0 D),rfl,decide (dN D=0),congrArg V.bl (jE0 D (k:=0) (by decide)),jBp (fun c=>?_) (fun c=>?_)⟩) ?_
  · have c':=of_decide_eq_true c
    cases D with
    | take p=>exact ⟨_,rfl,t,_,_,_,rfl,rfl,SqT.of ht,jAz (j:=1) rfl,hR _ _ ⟨rfl,rfl⟩⟩
    | _=>cases c'
  · refine hR _ _ ⟨rfl,?_⟩
    rw [M.av]
    cases D with
    | take p=>exact absurd (decide_eq_true rfl) c
    | _=>rfl
  rintro σ G1 ⟨rfl,rfl⟩
  -- nowhere
  cases hi:dPl z D with
  | none=>exact ⟨_,rfl,rfl,true,rfl,jAP ⟨_,rfl,d,_,rfl,jLP M.d,z3,fun u nu=>q.tell M (jAo.refl _) (jMK d3 nov hi) nu⟩⟩
  | some i =>
  refine ⟨_,rfl,rfl,false,rfl,jAK ?_⟩
  dsimp only [tNext]
  have i3:i < 3:=by
    cases D with
    | take p=>cases hi;exact dok
    | step=>exact (zr.at3 i hi).1
    | jam k=>exact (zr.at3 i hi).1
    | leave p=>exact absurd (show 3 < 3 from d3) (by decide)
    | come p=>exact absurd (show 4 < 3 from d3) (by decide)
    | mend p=>exact absurd (show 5 < 3 from d3) (by decide)
  have rdw:∀ {Q':VK},Q' (.str (wd (z.S i))) G1→∀ v,(l3 fun i=>V.str (wd (z.S i)))[((i:Nat):Int).toNat]?=some v→Q' v G1:=fun h v hv=>by rw [jBg i3 hv];exact h
  have i3':((i:Nat):Int) < 3:=by omega
  have i0':0≤((i:Nat):Int):=by omega
  -- ready
  refine jAU (fun σ G'=>G'=G1∧z.S i=.rd∧σ=[some (.ref d),some (.ref t),some (.int (i:Int)),none]) (fun R hR=>⟨_,rfl,d,_,rfl,jBO M.d,_,rfl,m.wl,_,_,rfl,rfl,SqL.of M.s,i0',i3',fun v hv=>?_⟩) ?_
  · obtain rfl:=jBg i3 hv
    refine ⟨rfl,_,rfl,?_⟩
    by_cases c:z.S i=.rd
    · exact jKM (by rw [c];rfl) (hR _ _ ⟨rfl,c,rfl⟩)
    · refine iteNN (fun e=>c (wd_rd.mp (by injection e))) ⟨_,rfl,d,_,rfl,jBO M.d,_,rfl,m.wl,_,_,rfl,rfl,SqL.of M.s,i0',i3',fun v hv=>?_⟩
      obtain rfl:=jBg i3 hv
      exact ⟨z3,fun u nu=>q.tell M (jAo.refl _) (jNZ d3 nov hi c) nu⟩
  rintro σ G2 ⟨rfl,rd,rfl⟩
  have go:=jHB (nm:=m.nm) (T:=m.T) (P:=m.P) d3 nov hi rd
  -- taken
  refine jAU (fun σ G'=>G'=G2∧dN D≠0∧σ=[some (.ref d),some (.ref t),some (.int (i:Int)),none]) (fun R hR=>⟨_,rfl,t,_,_,_,rfl,rfl,SqT.of ht,jAz (j:=0) (dd0 D),rfl,decide (dN D=0),congrArg V.bl (jE0 D (k:=0) (by decide)),jBp (fun c=>?_) (fun c=>hR _ _ ⟨rfl,fun e=>c (decide_eq_true e),rfl⟩)⟩) ?_
  · have c':=of_decide_eq_true c
    cases D with
    | take p=>exact ⟨_,rfl,_,rfl,d,m,z,i,rfl,M,nov,fun l m' H1 k1 nl tl M1 g=>⟨z3,fun u nu=>q.good go k1.kb ⟨l,rfl,.inr nl,tl⟩ M1 g nu⟩⟩
    | _=>cases c'
  rintro σ G3 ⟨rfl,n0,rfl⟩
  have hi':z.ap=some i:=by cases D with
    | take p=>exact absurd rfl n0
    | _=>exact hi
  -- stepped
  refine jAU (fun σ G'=>G'=G3∧dN D≠1∧σ=[some (.ref d),some (.ref t),some (.int (i:Int)),none]) (fun R hR=>⟨_,rfl,t,_,_,_,rfl,rfl,SqT.of ht,jAz (j:=0) (dd0 D),rfl,decide (dN D=1),congrArg V.bl (jE0 D (k:=1) (by decide)),jBp (fun c=>?_) (fun c=>hR _ _ ⟨rfl,fun e=>c (decide_eq_true e),rfl⟩)⟩) ?_
  · have c':=of_decide_eq_true c
    cases D with
    | step=>exact ⟨_,rfl,d,m,z,i,rfl,M,hi',i3,nov,(zr.at3 i hi').2,zr.p10 i,fun l m' H1 k1 nl tl M1 g=>⟨z3,fun u nu=>q.good go k1.kb ⟨l,rfl,.inr nl,tl⟩ M1 g nu⟩⟩
    | _=>cases c'
  rintro σ G4 ⟨rfl,n1,rfl⟩
  obtain ⟨k,rfl⟩:∃ k,D=.jam k:=by cases D with
    | take p=>exact absurd rfl n0
    | step=>exact absurd rfl n1
    | jam k=>exact ⟨k,rfl⟩
    | leave p=>exact absurd (show 3 < 3 from d3) (by decide)
    | come p=>exact absurd (show 4 < 3 from d3) (by decide)
    | mend p=>exact absurd (show 5 < 3 from d3) (by decide)
  obtain ⟨ws,hw,tw⟩:=M.w.ex
  have lw:=tw.1
  rw [jBw] at lw
  refine jAU (fun σ G'=>G'=G4∧k≤z.f - z.a∧σ=[some (.ref d),some (.ref t),some (.int (i:Int)),none]) (fun R hR=>⟨_,rfl,t,_,_,_,rfl,rfl,SqT.of ht,jAz (j:=1) rfl,_,rfl,d,_,rfl,jBX M.d,m.wi,_,rfl,.inl (SqL.of hw),_,_,rfl,rfl,_,rfl,jBp (fun c=>?_) (fun c=>hR _ _ ⟨rfl,?_,rfl⟩)⟩) ?_
  · have c':=of_decide_eq_true c
    rw [lw] at c'
    exact ⟨z3,fun u nu=>q.tell M (jAo.refl _) (go.trans (if_pos (by omega))) nu⟩
  · have c':¬ ((k:Int) > (ws.length:Int)):=fun e=>c (decide_eq_true e)
    rw [lw] at c'
    omega
  rintro σ G5 ⟨rfl,hk,rfl⟩
  have go2:nx m.nm m.T m.P z (.jam k)=jCi (.two z.b z.a (z.a + k) z.f) (lsZ (jA9 m.T z k) i .jm):=go.trans (if_neg (by omega))
  refine ⟨_,rfl,_,rfl,t,_,_,_,rfl,rfl,SqT.of ht,jAz (j:=1) rfl,d,m,z,k,rfl,M,by omega,nov,fun l wi ou H1 k1 nl nwi nou tl M1=>?_⟩
  dsimp only [jBr]
  have g1:Go m (mO m wi ou (jA9 m.T z k)) G5:=.mO _ nwi nou
  generalize mO m wi ou (jA9 m.T z k)=m1 at M1 g1
  refine ⟨_,rfl,_,rfl,_,rfl,d,m1,jA9 m.T z k,i,.jm,rfl,M1,i3,(fun b e=>by cases e),fun l2 m2 H2 k2 hl2 tl2 M2 g2=>?_⟩
  have k2':Kb d m H1 H2:=fun b o n1 n2 n3 e=>k2 b o n1 (by rw [g1.wl];exact n2) (by rw [g1.al];exact n3) e
  have f1:∀ b,H1 b=none→G5 b=none:=fun b nb=>k1.free M.d ⟨_,M1.d⟩ nb
  have n2:l≠m.wl∧l≠m.al:=⟨(jAf M.s nl).symm,(jAf M.h nl).symm⟩
  have e3:win (jA9 m.T z k).b (jA9 m.T z k).a (if (jA9 m.T z k).ap=some i then (jA9 m.T z k).f else (jA9 m.T z k).a)=win z.b (z.a + k) z.f:=by
    show win z.b (z.a + k) (if (if z.b + (z.a + k)=m.T + 1 then none else z.ap)=some i then z.f else z.a + k)=_
    by_cases c:z.b + (z.a + k)=m.T + 1
    · rw [if_pos c,if_neg (by intro e;cases e),show z.f=z.a + k by omega]
    · rw [if_neg c,if_pos hi']
  rw [e3,g1.nm] at tl2
  refine ⟨small (show 2≤1000 by decide),fun u2 nu2=>?_⟩
  have s6:=jAk nu2 (.tup [V.ref l,.ref l2])
  have h6:upd H2 u2 (.tup [V.ref l,.ref l2]) u2=some (.tup [V.ref l,.ref l2]):=jAc
  generalize upd H2 u2 (.tup [V.ref l,.ref l2])=H3 at s6 h6 ⊢
  have hwi:m1.wi=m.wi∨G5 m1.wi=none:=g1.wi
  have nl2:l2=m.wi∨G5 l2=none:=by
    rcases hl2 with rfl | h
    · exact hwi
    · exact .inr (f1 _ h)
  have wi2:m2.wi=m.wi∨G5 m2.wi=none:=by
    rcases g2.wi with h | h
    · rw [h];exact hwi
    · exact .inr (f1 _ h)
  have ou2:m2.ou=m.ou∨G5 m2.ou=none:=by
    rcases g2.ou with h | h
    · rw [h];exact g1.ou
    · exact .inr (f1 _ h)
  have h1w:=M1.s
  have h1a:=M1.h
  rw [g1.wl] at h1w
  rw [g1.al] at h1a
  exact ⟨z3,fun u nu=>q.good go2 (fun b o n1 n2 n3 e=>s6 _ _ (k2' b o n1 n2 n3 (k1 b o n1 e))) ⟨u2,l,l2,rfl,h6,.inr nl,nl2,(tl.kb k2' M1.d h1w h1a n2.1 n2.2).same s6,tl2.same s6⟩ (M2.same s6) ⟨g2.nm.trans g1.nm,g2.T.trans g1.T,g2.P.trans g1.P,g2.pl.trans g1.pl,g2.wl.trans g1.wl,g2.al.trans g1.al,wi2,ou2⟩ nu⟩
end
end My
namespace My
open PySem L2
open Blk (sg sg_inj sg_app)
section
variable {P:Program} {w:World} {K:PySem.W.Frag} {mg:Str→Option Value} {base:Heap} {fa yQ yZ yX yY yV yJ yW yU yK yG cQ cZ cV cK cG vQ vZ vX vY:Addr} {fd:FuncData} (T:Txt K mg yQ yZ yX yY yV yJ yW yU yK yG cQ cZ cV cK cG vQ vZ vX vY)
theorem IsR.mono {H:Hp} {nm:Str} {N N':Addr→Prop} {v:V} {r:RV} (h:IsR H nm N v r) (n:∀ l,N l→N' l):IsR H nm N' v r:=by
  cases r with
  | non=>exact h
  | wrd=>exact h
  | tags b a f=>obtain ⟨l,e,n1,t⟩:=h;exact ⟨l,e,n _ n1,t⟩
  | two b a c f=>obtain ⟨t,l1,l2,e,h1,n1,n2,h2,h3⟩:=h;exact ⟨t,l1,l2,e,h1,n _ n1,n _ n2,h2,h3⟩
theorem jGH.same {H G:Hp} {d:Addr} {m:MD} {z:Zs} {D:Dd} {Q:VK} (q:jGH H d m z D Q) (s:jAo H G):jGH G d m z D Q:=fun R e u v m' H' k hu hv M g=>q R e u v m' H' (fun b o n1 n2 n3 eo=>k b o n1 n2 n3 (s _ _ eo)) hu (hv.mono fun l h=>h.imp id s.free) M { g with wi:=g.wi.imp id s.free,ou:=g.ou.imp id s.free }
def dX:Dd→Nat
  | .leave _=>2
  | .come _=>3
  | _=>1
def isNo (D:Dd) (s:S3):Bool:=match D with
  | .leave _=>decide (V.str (wd s)=V.str (Str.ofString "off"))
  | .come _=>!decide (V.str (wd s)=V.str (Str.ofString "off"))
  | _=>!decide (V.str (wd s)=V.str (Str.ofString "jammed"))
theorem is_no (D:Dd) (s:S3):isNo D s=(jA7 (dX D) s).isNone:=by
  have h1:∀ s:S3,decide (V.str (wd s)=V.str (Str.ofString "off"))=(jA7 2 s).isNone:=fun s=>by cases s <;> first | (rename_i b;cases b <;> decide +kernel) | decide +kernel
  have h2:∀ s:S3,(!decide (V.str (wd s)=V.str (Str.ofString "off")))=(jA7 3 s).isNone:=fun s=>by cases s <;> first | (rename_i b;cases b <;> decide +kernel) | decide +kernel
  have h3:∀ s:S3,(!decide (V.str (wd s)=V.str (Str.ofString "jammed")))=(jA7 1 s).isNone:=fun s=>by cases s <;> first | (rename_i b;cases b <;> decide +kernel) | decide +kernel
  cases D with
  | leave p=>exact h1 s
  | come p=>exact h2 s
  | _=>exact h3 s
theorem Bk.words {H H':Hp} {d:Addr} {m:MD} {z:Zs} {p:Nat} {s':S3} (M:Bk H d m z) (k:∀ b o,b≠m.wl→H b=some o→H' b=some o) (hw:H' m.wl=some (.lst (l3 fun j=>.str (wd (jBy z.S p s' j))))) (hs:∀ b,s'≠.aw b):Bk H' d m { z with S:=jBy z.S p s' }:=by
  obtain ⟨us,e1,e2⟩:=M.w.ex
  refine { M with d:=k _ _ (jAn M.d M.s (by intro z;cases z)) M.d,p:=k _ _ M.n2 M.p,s:=hw,h:=k _ _ M.n1.symm M.h,w:=⟨us,k _ _ M.n4 e1,e2.fr fun b xs e=>k _ _ (jAn e M.s (by intro z;cases z)) e⟩,o:=k _ _ M.n6 M.o,wa:=fun i b ei=>?_ }
  have ei':(if i=p then s' else z.S i)=.aw b:=ei
  by_cases c:i=p
  · rw [if_pos c] at ei'
    exact absurd ei' (hs b)
  · rw [if_neg c] at ei'
    exact M.wa i b ei'
def jHX (K:PySem.W.Frag):Sp:=fun vs H Q _=>∃ d m z D t,vs=[.ref d,.ref t]∧H t=some (.tup (ddV D))∧D.Ok∧Bk H d m z∧Zr m z∧jGH H d m z D Q
theorem jFD:jAl ["_law_m","_law_deed","_law_p","_law_word_here"] ["_law_m","_law_deed"] (jAh jGt):=scM
include T in
theorem jMk (F:Fun K "_law_due" "_law_due" jGt fa fd) (Dbt:Dfn P w K mg base 3 "_law_due_run" ["_law_m","_law_deed"] (jFe K)) (DaD:Dfn P w K mg base 1 "_law_lost" ["_law_m","_law_p","_law_word_here"] (jEY K)) :
    jAq P w K mg base CX0 4 fa fd ["_law_m","_law_deed"] (jHX K):=by
  refine F.ok jFD (fun vs H Q E h=>?_) (fun cdv A outer s H vs Q E hr h=>?_)
  · obtain ⟨d,m,z,D,t,rfl,_⟩:=h
    rfl
  obtain ⟨d,m,z,D,t,rfl,ht,dok,M,zr,q⟩:=h
  have hu:=jCr hr 0 (by decide)
  refine ⟨_,(jAb (jAC (jMq jNo (ixA jAE (pv 1) jAg) (jAS (jAa jAi (jAa jAi (jAa jAi jAd)))) rfl) (jAe (jAm (jAv Dbt hr.m rfl (jAa (pv 0) (jAa (pv 1) jAd))))) jAs) (jAb (psA (i:=2) jFD.nd (ixA jAE (pv 1) jAg)) (jAb (psA (i:=3) jFD.nd (ixA jAH (dgA hu (pv 0) jAi) (pv 2))) (jAb (jAC (jAN (dgA hu (jFG (jA6 jAi (ecA jAZ (pv 3) jAi) (jA6 jAi (ecA jCv (pv 3) jAi) (jA6 jAi (ecA jCv (pv 3) jAi) jFF))) rfl rfl (by decide) (by decide)) (ixA jAE (pv 1) jAg)) (fun _=>rfl)) (jAe (jAm (jAM (jAa jAi (jAa (pv 3) (jAa jAL jAd)))))) jAs) (jAb (jAC (tcA jAZ (ixA jAE (pv 1) jAg) jAi) (jAe (jAm (jAM (jAa jAi (jAa jAL (jAa (jAv DaD hr.m rfl (jAa (pv 0) (jAa (pv 2) (jAa jAi jAd)))) jAd)))))) jAs) (jAb (jId jAi (jIc (dgA hu (pv 0) jAi) (pv 2) jGa)) (jAb (jAC (tcA jAZ (ixA jAE (pv 1) jAg) jAi) (jAe (jId (ixA jAH (dgA hu (pv 0) jAi) (pv 2)) (jIc (dgA hu (pv 0) jAi) (pv 2) jGa))) jAs) (jAe (jAm (jAM (jAa jAi (jAa jAL (jAa (ixA jAH (dgA hu (pv 0) jAi) (pv 2)) jAd))))))))))))),?_⟩
  have z3:3≤sizeLine:=small (by decide)
  refine jAU (fun σ G=>jAo H G∧3≤dN D∧σ=[some (.ref d),some (.ref t),none,none]) (fun R hR=>⟨_,rfl,t,_,_,_,rfl,rfl,SqT.of ht,jAz (j:=0) (dd0 D),z3,fun p np=>⟨p,_,rfl,.inl (SqL.of jAc),rfl,rfl,decide (dN D < 3),congrArg V.bl (in_run D),jBp (fun c=>?_) (fun c=>?_)⟩⟩) ?_
  · have s1:=jAk np (.lst [V.str (wN 0),V.str (wN 1),V.str (wN 2)])
    exact ⟨_,rfl,_,rfl,d,m,z,D,t,rfl,s1 _ _ ht,of_decide_eq_true c,dok,M.same s1,zr,q.same s1⟩
  · exact hR _ _ ⟨jAk np _,Nat.le_of_not_lt fun e=>c (decide_eq_true e),rfl⟩
  rintro σ G ⟨s0,d3,rfl⟩
  replace ht:=s0 _ _ ht
  replace M:=M.same s0
  replace q:=q.same s0
  clear s0
  obtain ⟨p,e1,p3,hD⟩:∃ p:Nat,(ddV D)[1]?=some (.int (p:Int))∧p < 3∧(D=.leave p∨D=.come p∨D=.mend p):=by
    cases D with
    | leave p=>exact ⟨p,rfl,dok,.inl rfl⟩
    | come p=>exact ⟨p,rfl,dok,.inr (.inl rfl)⟩
    | mend p=>exact ⟨p,rfl,dok,.inr (.inr rfl)⟩
    | take p=>exact absurd (show 3≤0 from d3) (by decide)
    | step=>exact absurd (show 3≤1 from d3) (by decide)
    | jam p=>exact absurd (show 3≤2 from d3) (by decide)
  have i3':((p:Nat):Int) < 3:=by omega
  have i0':0≤((p:Nat):Int):=by omega
  refine ⟨_,rfl,t,_,_,_,rfl,rfl,SqT.of ht,jAz (j:=1) e1,?_⟩
  dsimp only [jBr]
  refine ⟨_,rfl,d,_,rfl,jBO M.d,_,rfl,m.wl,_,_,rfl,rfl,SqL.of M.s,i0',i3',fun v hv=>?_⟩
  obtain rfl:=jBg p3 hv
  dsimp only [jBr]
  -- not now
  refine jAU (fun σ G'=>jAo G G'∧(∃ s',jA7 (dX D) (z.S p)=some s')∧σ=[some (.ref d),some (.ref t),some (.int (p:Int)),some (.str (wd (z.S p)))]) (fun R hR=>fun a na=>?_) ?_
  · have s1:=jAk na (.dK [])
    refine ⟨_,rfl,rfl,_,rfl,rfl,_,rfl,rfl,jAc,[(kw "leave",.bl (decide (V.str (wd (z.S p))=V.str (Str.ofString "off")))),(kw "come",.bl (!decide (V.str (wd (z.S p))=V.str (Str.ofString "off")))),(kw "mend",.bl (!decide (V.str (wd (z.S p))=V.str (Str.ofString "jammed"))))],rfl,(by show 3≤15;decide),?_⟩
    generalize hb1:decide (V.str (wd (z.S p))=V.str (Str.ofString "off"))=b1
    generalize hb2:decide (V.str (wd (z.S p))=V.str (Str.ofString "jammed"))=b2
    rw [show jBZ [] [(kw "leave",V.bl b1),(kw "come",.bl (!b1)),(kw "mend",.bl (!b2))]=[(kw "leave",V.bl b1),(kw "come",.bl (!b1)),(kw "mend",.bl (!b2))] by kernel_rfl]
    have s2:jAo G (upd (upd G a (.dK [])) a (.dK [(kw "leave",V.bl b1),(kw "come",.bl (!b1)),(kw "mend",.bl (!b2))])):=jCx na s1 _
    have ha:upd (upd G a (.dK [])) a (.dK [(kw "leave",V.bl b1),(kw "come",.bl (!b1)),(kw "mend",.bl (!b2))]) a=some (.dK [(kw "leave",V.bl b1),(kw "come",.bl (!b1)),(kw "mend",.bl (!b2))]):=jAc
    generalize upd (upd G a (.dK [])) a (.dK [(kw "leave",V.bl b1),(kw "come",.bl (!b1)),(kw "mend",.bl (!b2))])=G1 at s2 ha ⊢
    have gg:jBh G1 a (.str (wN (dN D))) (some (.bl (isNo D (z.S p)))):=by
      rcases hD with rfl | rfl | rfl
      · show jBh G1 a (.str (Str.ofString "leave")) (some (.bl (decide (V.str (wd (z.S p))=V.str (Str.ofString "off")))))
        rw [hb1]
        exact jDf ha (by kernel_rfl)
      · show jBh G1 a (.str (Str.ofString "come")) (some (.bl (!decide (V.str (wd (z.S p))=V.str (Str.ofString "off")))))
        rw [hb1]
        exact jDf ha (by kernel_rfl)
      · show jBh G1 a (.str (Str.ofString "mend")) (some (.bl (!decide (V.str (wd (z.S p))=V.str (Str.ofString "jammed")))))
        rw [hb2]
        exact jDf ha (by kernel_rfl)
    refine ⟨_,rfl,t,_,_,_,rfl,rfl,SqT.of (s2 _ _ ht),jAz (j:=0) (dd0 D),a,_,rfl,gg,_,rfl,?_⟩
    rw [is_no]
    cases en:jA7 (dX D) (z.S p) with
    | none =>
      refine jAP ⟨_,rfl,z3,fun u nu=>q.tell M s2 ?_ nu⟩
      rcases hD with rfl | rfl | rfl <;> exact jML en
    | some s'=>exact jAK (hR _ _ ⟨s2,⟨s',en⟩,rfl⟩)
  rintro σ G1 ⟨s1,⟨s',en⟩,rfl⟩
  replace ht:=s1 _ _ ht
  replace M:=M.same s1
  replace q:=q.same s1
  clear s1
  -- leaving
  refine jAU (fun σ G'=>G'=G1∧dN D≠3∧σ=[some (.ref d),some (.ref t),some (.int (p:Int)),some (.str (wd (z.S p)))]) (fun R hR=>⟨_,rfl,t,_,_,_,rfl,rfl,SqT.of ht,jAz (j:=0) (dd0 D),rfl,decide (dN D=3),congrArg V.bl (jE0 D (k:=3) (by decide)),jBp (fun c=>?_) (fun c=>hR _ _ ⟨rfl,fun e=>c (decide_eq_true e),rfl⟩)⟩) ?_
  · have c':=of_decide_eq_true c
    obtain rfl:D=.leave p:=by
      rcases hD with rfl | rfl | rfl
      · rfl
      · cases c'
      · cases c'
    obtain ⟨b,rfl,hs⟩:∃ b,s'=.aw b∧∀ b',S3.aw b=.aw b'→wd (z.S p)=wd (if b'=true then .jm else .rd):=by
      cases eS:z.S p with
      | rd=>rw [eS] at en;cases en;exact ⟨false,rfl,fun b' e=>by cases e;rfl⟩
      | jm=>rw [eS] at en;cases en;exact ⟨true,rfl,fun b' e=>by cases e;rfl⟩
      | aw b=>rw [eS] at en;cases en
    exact ⟨_,rfl,_,rfl,d,m,z,p,.aw b,rfl,M,p3,hs,fun l m' H1 k1 hl tl M1 g=>⟨z3,fun u nu=>q.good (jDJ en) k1 ⟨l,rfl,hl,tl⟩ M1 g nu⟩⟩
  rintro σ G2 ⟨rfl,n3,rfl⟩
  have hs:∀ b,s'≠.aw b:=fun b e=>by
    subst e
    rcases hD with rfl | rfl | rfl
    · exact n3 rfl
    · cases eS:z.S p with
      | aw b2=>rw [eS] at en;cases b2 <;> cases en
      | _=>rw [eS] at en;cases en
    · cases eS:z.S p with
      | jm=>rw [eS] at en;cases en
      | _=>rw [eS] at en;cases en
  have eg:nx m.nm m.T m.P z D=jCi (.wrd (wd s')) { z with S:=jBy z.S p s' }:=by
    rcases hD with rfl | rfl | rfl
    · exact absurd rfl n3
    · exact jDJ en
    · exact jDJ en
  -- the word
  refine ⟨_,rfl,d,_,rfl,jBO M.d,_,rfl,m.wl,_,_,p,rfl,rfl,M.s,ix3 p3,?_⟩
  rw [jI_ _ p3]
  have x1:∀ w:Str,(fun j=>if j=p then V.str w else V.str (wd (z.S j)))=fun j=>V.str (if j=p then w else wd (z.S j)):=fun w=>funext fun j=>by split <;> rfl
  have x2:∀ w:Str,w=wd s'→(fun j=>V.str (if j=p then w else wd (z.S j)))=fun j=>V.str (wd (jBy z.S p s' j)):=fun w e=>funext fun j=>by unfold jBy;split <;> first | rw [e] | rfl
  rw [x1]
  have k1:∀ b o,b≠m.wl→G2 b=some o→upd G2 m.wl (.lst (l3 fun j=>V.str (if j=p then Str.ofString "ready" else wd (z.S j)))) b=some o:=fun b o n e=>by rw [jAj n];exact e
  have w1:upd G2 m.wl (.lst (l3 fun j=>V.str (if j=p then Str.ofString "ready" else wd (z.S j)))) m.wl=some (.lst (l3 fun j=>V.str (if j=p then Str.ofString "ready" else wd (z.S j)))):=jAc
  generalize upd G2 m.wl (.lst (l3 fun j=>V.str (if j=p then Str.ofString "ready" else wd (z.S j))))=G3 at k1 w1 ⊢
  have d1:=k1 _ _ (jAn M.d M.s (by intro z;cases z)) M.d
  have h1:=k1 _ _ M.n1.symm M.h
  have ht1:=k1 _ _ (jAn ht M.s (by intro z;cases z)) ht
  dsimp only
  refine jAU (fun σ G'=>(∀ b o,b≠m.wl→G2 b=some o→G' b=some o)∧G' m.wl=some (.lst (l3 fun j=>.str (wd (jBy z.S p s' j))))∧σ=[some (.ref d),some (.ref t),some (.int (p:Int)),some (.str (wd (z.S p)))]) (fun R hR=>⟨_,rfl,t,_,_,_,rfl,rfl,SqT.of ht1,jAz (j:=0) (dd0 D),rfl,decide (dN D=4),congrArg V.bl (jE0 D (k:=4) (by decide)),jBp (fun c=>?_) (fun c=>?_)⟩) ?_
  · have c':=of_decide_eq_true c
    obtain rfl:D=.come p:=by
      rcases hD with rfl | rfl | rfl
      · cases c'
      · rfl
      · cases c'
    have ea:m.A p=wd s':=by
      cases eS:z.S p with
      | aw b=>rw [eS] at en;rw [M.wa p b eS];exact congrArg wd (Option.some.inj en)
      | _=>rw [eS] at en;cases en
    refine ⟨_,rfl,d,_,rfl,g_was d1,_,rfl,m.al,_,_,rfl,rfl,SqL.of h1,i0',i3',fun v hv=>?_⟩
    obtain rfl:=jBg p3 hv
    refine ⟨_,rfl,d,_,rfl,jBO d1,_,rfl,m.wl,_,_,p,rfl,rfl,w1,ix3 p3,hR _ _ ⟨fun b o n e=>by rw [jAj n];exact k1 b o n e,?_,rfl⟩⟩
    rw [jI_ _ p3,jAc]
    refine congrArg (fun g=>some (HO.lst (l3 g))) (funext fun j=>?_)
    unfold jBy
    split
    · rw [ea]
    · rfl
  · obtain rfl:D=.mend p:=by
      rcases hD with rfl | rfl | rfl
      · exact absurd rfl n3
      · exact absurd (decide_eq_true rfl) c
      · rfl
    have es:wd s'=Str.ofString "ready":=by
      cases eS:z.S p with
      | jm=>rw [eS] at en;cases en;rfl
      | _=>rw [eS] at en;cases en
    rw [x2 _ es.symm] at w1
    exact hR _ _ ⟨k1,w1,rfl⟩
  rintro σ G4 ⟨k4,w4,rfl⟩
  have M4:=M.words k4 w4 hs
  refine ⟨_,rfl,d,_,rfl,jBO M4.d,_,rfl,m.wl,_,_,rfl,rfl,SqL.of w4,i0',i3',fun v hv=>?_⟩
  obtain rfl:=jBg p3 hv
  refine ⟨z3,fun u nu=>q.good eg (fun b o _ n _ e=>k4 b o n e) ?_ M4 (jMI m _) nu⟩
  show V.str (wd (jBy z.S p s' p))=V.str (wd s')
  unfold jBy
  rw [if_pos rfl]
end
end My
namespace My
open PySem L2
open Blk (sg sg_inj sg_app)
section
variable {P:Program} {w:World} {K:PySem.W.Frag} {mg:Str→Option Value} {base:Heap} {fa yQ yZ yX yY yV yJ yW yU yK yG cQ cZ cV cK cG vQ vZ vX vY:Addr} {fd:FuncData} (T:Txt K mg yQ yZ yX yY yV yJ yW yU yK yG cQ cZ cV cK cG vQ vZ vX vY)
theorem jCT {H:Hp} {b c C dx:Addr} {fs:List (Str×V)} {kv:List (Key×V)} (h:H b=some (.ins C dx fs)) (g:H c=some (.dK kv)):b≠c:=jAn h g (by intro z;cases z)
theorem jDK {H:Hp} {b c C dx:Addr} {fs:List (Str×V)} {ts:List V} (h:H b=some (.ins C dx fs)) (g:H c=some (.lst ts)):b≠c:=jAn h g (by intro z;cases z)
def Stk (d:PD) (k0 k1:Str) (fe:Nat):Prop:=∃ A B:Int,d.am=[(k0,A),(k1,B)]∧999≤A + (fe:Int)∧999≤B + (fe:Int)∧9999≤d.b + 32 * (fe:Int)∧9999≤d.c + 32 * (fe:Int)
theorem Stk.mono {d:PD} {k0 k1:Str} {fe fe':Nat} (h:Stk d k0 k1 fe) (l:fe≤fe'):Stk d k0 k1 fe':=by
  obtain ⟨A,B,e,h2,h3,h4,h5⟩:=h
  exact ⟨A,B,e,by omega,by omega,by omega,by omega⟩
structure Rk (r:RD) (k0 k1:Str):Prop where
  k:k0≠k1
  pp:r.j.paper=k0
  cv:r.j.cover=none∨r.j.cover=some k1
  ik:∀ s∈r.inks,s.1≤32∧s.2≤32
  hb:r.br=false
  T1:1≤r.tot
  T9:r.tot≤90
theorem use_k {r:RD} {k0 k1:Str} (h:Rk r k0 k1) (n:Int):((jBf r n).1=k0∨(jBf r n).1=k1)∧(jBf r n).2.1≤32∧(jBf r n).2.2≤32:=by
  unfold jBf
  by_cases c:n=-1
  · rw [if_pos c]
    exact ⟨.inl h.pp,by show (0:Int)≤32;decide,by show (0:Int)≤32;decide⟩
  · rw [if_neg c]
    refine ⟨?_,?_⟩
    · show papR r.j _=k0∨papR r.j _=k1
      unfold papR
      split
      · rcases h.cv with e | e
        · rw [e];exact .inl h.pp
        · rw [e];exact .inr rfl
      · exact .inl h.pp
    · dsimp only
      rw [List.getD_eq_getElem?_getD]
      cases e:r.inks[n.toNat % r.inks.length]? with
      | none=>exact ⟨by show (0:Int)≤32;decide,by show (0:Int)≤32;decide⟩
      | some s=>exact h.ik s (List.mem_of_getElem? e)
theorem Stk.use {d:PD} {k0 k1 n:Str} {fe:Nat} (k:k0≠k1) (h:Stk d k0 k1 fe) (hn:n=k0∨n=k1) (f:fe≤240):∃ A,d.am.lookup n=some A∧1≤A∧32≤d.b∧32≤d.c∧∀ d':PD,∀ u v:Int,d'.am=jA3 d.am n (A - 1)→u≤32→v≤32→d'.b=d.b - u→d'.c=d.c - v→Stk d' k0 k1 (fe + 1):=by
  obtain ⟨A,B,e,h2,h3,h4,h5⟩:=h
  rcases hn with rfl | rfl
  · refine ⟨A,by rw [e,List.lookup_cons,beq_self_eq_true],by omega,by omega,by omega,fun d' u v ea hu hv eb ec=>⟨A - 1,B,?_,by omega,by omega,by omega,by omega⟩⟩
    rw [ea,e]
    unfold jA3
    simp only [List.map_cons,List.map_nil]
    rw [if_pos trivial,if_neg (Ne.symm k)]
  · refine ⟨B,by rw [e,List.lookup_cons,show (n == k0)=false from Bool.eq_false_iff.mpr fun z=>k (eq_of_beq z).symm,List.lookup_cons,beq_self_eq_true],by omega,by omega,by omega,fun d' u v ea hu hv eb ec=>⟨A,B - 1,?_,by omega,by omega,by omega,by omega⟩⟩
    rw [ea,e]
    unfold jA3
    simp only [List.map_cons,List.map_nil]
    rw [if_neg k,if_pos trivial]
structure Sp2 (p q:Addr) (d e:PD):Prop where
  pq:p≠q
  ii:d.ins≠e.ins
  a1:d.tr2≠e.tr1
  a2:d.tr2≠e.tr2
  a3:d.tr2≠e.ik1
  a4:d.tr2≠e.ik2
  b1:d.ik2≠e.tr1
  b2:d.ik2≠e.tr2
  b3:d.ik2≠e.ik1
  b4:d.ik2≠e.ik2
def Kp (x p:Addr) (d:PD) (H H':Hp):Prop:=∀ b o,b≠x→b≠p→b≠d.ins→b≠d.tr2→b≠d.ik2→H b=some o→H' b=some o
theorem jAo.kp {x p:Addr} {d:PD} {H H':Hp} (s:jAo H H'):Kp x p d H H':=fun b o _ _ _ _ _ e=>s _ _ e
structure Gp (d d':PD) (H:Hp):Prop where
  i:d'.ins=d.ins∨H d'.ins=none
  t:d'.tr2=d.tr2
  k:d'.ik2=d.ik2
  t1:d'.tr1=d.tr1
  k1:d'.ik1=d.ik1
theorem jJO (d:PD) (H:Hp):Gp d d H:=⟨.inl rfl,rfl,rfl,rfl,rfl⟩
theorem jHC {C C' dx dx':Addr} {fs:List (Str×V)} {d:PD} (h:fs.length≠8):HO.ins C dx fs≠.ins C' dx' d.fs:=fun z=>by
  injection z with _ _ z
  exact h (by rw [z];rfl)
theorem jLT (s:S3):(jCR s).length≠8:=by cases s with
  | rd=>show 1≠8;decide
  | jm=>show 1≠8;decide
  | aw b=>show 2≠8;decide
structure Px (cP cS cY cM cW:Addr) (H:Hp) (x p:Addr) (r:RD) (d:PD) (k0 k1:Str) (pth:Nat) (S0:S3) (fe:Nat) (nm0:Str) (ns:List Int):Prop where
  P:jAD cP cS cY cM cW H p d
  tg:jAy H r.nm d.tags ns
  n1:p≠x
  n2:d.tr≠x
  n3:d.ik≠x
  n4:d.st≠x
  n5:r.il≠d.ins
  S:d.S=S0
  pa:d.path=((pth:Nat):Int)
  nm:d.name=nm0
  st:Stk d k0 k1 fe
def nsZ (z:Zs) (i:Nat):List Int:=if z.ap=some i then win z.b z.a z.f else []
def pn (i:Nat):Str:=Str.ofString "p" ++ Str.ofString (toString (i:Int))
structure Zo (T:Nat) (P:Nat→Nat) (z:Zs):Prop where
  bT:z.b < T
  af:z.a≤z.f
  fT:z.b + z.f≤T + 1
  at3:∀ i,z.ap=some i→i < 3∧z.b + z.a≠T + 1∧z.f - z.a≤P i∧(z.a < z.f→z.S i=.rd)
  an:z.ap=none→z.a=z.f
def jBD (ds:Nat→PD) (i:Nat) (d:PD):Nat→PD:=fun j=>if j=i then d else ds j
structure Pz (cR cJ cP cS cY cM cW:Addr) (H:Hp) (x:Addr) (ps:Nat→Addr) (r:RD) (ds:Nat→PD) (k0 k1:Str) (P:Nat→Nat) (z:Zs) (fe:Nat):Prop where
  R:jAW cR cJ H x (R5 r (z.ap.map ps) z.b z.a)
  W:∀ i,i < 3→Px cP cS cY cM cW H x (ps i) r (ds i) k0 k1 (P i) (z.S i) fe (pn i) (nsZ z i)
  A:∀ i j,i < 3→j < 3→i≠j→Sp2 (ps i) (ps j) (ds i) (ds j)
  ok:Zo r.tot P z
section
variable {cR cJ cO cX cN cT cP cS cY cM cW:Addr} {H H':Hp} {Q:VK} {E:XK} {x p q:Addr} {ps:Nat→Addr} {r:RD} {d d' e:PD} {ds:Nat→PD} {k0 k1:Str} {P:Nat→Nat} {z z':Zs} {i fe fe':Nat} {D:Dd}
theorem jKT (h:z.ap=some i∨z.a=z.f):nsZ z i=win z.b z.a z.f:=by
  unfold nsZ
  split
  · rfl
  · next c=>rw [h.resolve_left c,jBi]
theorem jAD.kp (U:jAD cP cS cY cM cW H q e) {C dx:Addr} {fs:List (Str×V)} (hx:H x=some (.ins C dx fs)) (hp:jAD cP cS cY cM cW H p d) (s:Sp2 p q d e) (n1:q≠x) (n2:e.tr≠x) (n3:e.ik≠x) (n4:e.st≠x) (k:Kp x p d H H'):jAD cP cS cY cM cW H' q e:=by
  obtain ⟨⟨dt,t1⟩,t2,t3,t4⟩:=U.T
  obtain ⟨⟨di,i1⟩,i2,i3,i4⟩:=U.I
  obtain ⟨dst,hs⟩:=U.s
  have hn:=hp.n
  have h2:=hp.T.2.2.1
  have h3:=hp.I.2.2.1
  have ko:∀ {b C dx:Addr} {fs:List (Str×V)},H b=some (.ins C dx fs)→b≠x→b≠p→H' b=some (.ins C dx fs):=fun e c1 c2=>k _ _ c1 c2 (jDK e hn) (jCT e h2) (jCT e h3) e
  have kd:∀ {b:Addr} {kv:List (Key×V)},H b=some (.dK kv)→b≠d.tr2→b≠d.ik2→H' b=some (.dK kv):=fun e c1 c2=>k _ _ (jCT hx e).symm (jCT hp.o e).symm (jAn e hn (by intro z;cases z)) c1 c2 e
  exact { U with o:=ko U.o n1 s.pq.symm,T:=⟨⟨dt,ko t1 n2 (jAn t1 hp.o (jHC (by show 2≠8;decide)))⟩,kd t2 s.a1.symm s.b1.symm,kd t3 s.a2.symm s.b2.symm,t4⟩,I:=⟨⟨di,ko i1 n3 (jAn i1 hp.o (jHC (by show 2≠8;decide)))⟩,kd i2 s.a3.symm s.b3.symm,kd i3 s.a4.symm s.b4.symm,i4⟩,s:=⟨dst,ko hs n4 (jAn hs hp.o (jHC (jLT _)))⟩,n:=k _ _ (jDK hx U.n).symm (jDK hp.o U.n).symm s.ii.symm (jAn U.n h2 (by intro z;cases z)) (jAn U.n h3 (by intro z;cases z)) U.n }
theorem jJe {C dx:Addr} {fs:List (Str×V)} (hx:H x=some (.ins C dx fs)) (hp:jAD cP cS cY cM cW H p d) (k:Kp x p d H H'):∀ b xs,H b=some (.tup xs)→H' b=some (.tup xs):=fun b xs e=>k _ _ (jAn e hx (by intro z;cases z)) (jAn e hp.o (by intro z;cases z)) (jAn e hp.n (by intro z;cases z)) (jAn e hp.T.2.2.1 (by intro z;cases z)) (jAn e hp.I.2.2.1 (by intro z;cases z)) e
theorem jHk {C dx:Addr} {fs:List (Str×V)} (hx:H x=some (.ins C dx fs)) (hp:jAD cP cS cY cM cW H p d) (k:Kp x p d H H') {l:Addr} {ts:List V} (n:l≠d.ins) (e:H l=some (.lst ts)):H' l=some (.lst ts):=k _ _ (jDK hx e).symm (jDK hp.o e).symm n (jAn e hp.T.2.2.1 (by intro z;cases z)) (jAn e hp.I.2.2.1 (by intro z;cases z)) e
theorem Sp2.left (s:Sp2 p q d e) (g:Gp d d' H) (U:jAD cP cS cY cM cW H q e):Sp2 p q d' e:=by
  refine ⟨s.pq,?_,by rw [g.t];exact s.a1,by rw [g.t];exact s.a2,by rw [g.t];exact s.a3,by rw [g.t];exact s.a4,by rw [g.k];exact s.b1,by rw [g.k];exact s.b2,by rw [g.k];exact s.b3,by rw [g.k];exact s.b4⟩
  rcases g.i with h | h
  · rw [h];exact s.ii
  · exact (jAf U.n h).symm
theorem Sp2.right (s:Sp2 q p e d) (g:Gp d d' H) (U:jAD cP cS cY cM cW H q e):Sp2 q p e d':=by
  refine ⟨s.pq,?_,by rw [g.t1];exact s.a1,by rw [g.t];exact s.a2,by rw [g.k1];exact s.a3,by rw [g.k];exact s.a4,by rw [g.t1];exact s.b1,by rw [g.t];exact s.b2,by rw [g.k1];exact s.b3,by rw [g.k];exact s.b4⟩
  rcases g.i with h | h
  · rw [h];exact s.ii
  · exact jAf U.n h
theorem Pz.same (Z:Pz cR cJ cP cS cY cM cW H x ps r ds k0 k1 P z fe) (s:jAo H H'):Pz cR cJ cP cS cY cM cW H' x ps r ds k0 k1 P z fe:=⟨Z.R.same s,fun i i3=>{ Z.W i i3 with P:=(Z.W i i3).P.same s,tg:=(Z.W i i3).tg.same s },Z.A,Z.ok⟩
theorem Pz.deed (Z:Pz cR cJ cP cS cY cM cW H x ps r ds k0 k1 P z fe) (i3:i < 3) (k:Kp x (ps i) (ds i) H H') (R':jAW cR cJ H' x (R5 r (z'.ap.map ps) z'.b z'.a)) (W':Px cP cS cY cM cW H' x (ps i) r d' k0 k1 (P i) (z'.S i) fe' (pn i) (nsZ z' i)) (g:Gp (ds i) d' H) (hj:∀ j,j≠i→z'.S j=z.S j∧nsZ z' j=nsZ z j) (hf:fe≤fe') (ok:Zo r.tot P z'):Pz cR cJ cP cS cY cM cW H' x ps r (jBD ds i d') k0 k1 P z' fe':=by
  refine ⟨R',fun j j3=>?_,fun a b a3 b3 ab=>?_,ok⟩
  · by_cases c:j=i
    · subst c
      rw [show jBD ds j d' j=d' from if_pos rfl]
      exact W'
    · rw [show jBD ds i d' j=ds j from if_neg c,(hj j c).1,(hj j c).2]
      have U:=Z.W j j3
      exact { U with P:=U.P.kp Z.R.o (Z.W i i3).P (Z.A i j i3 j3 (Ne.symm c)) U.n1 U.n2 U.n3 U.n4 k,tg:=U.tg.fr (jJe Z.R.o (Z.W i i3).P k),st:=U.st.mono hf }
  · unfold jBD
    by_cases c:a=i
    · subst c
      rw [if_pos rfl,if_neg (Ne.symm ab)]
      exact (Z.A a b a3 b3 ab).left g (Z.W b b3).P
    · rw [if_neg c]
      by_cases c2:b=i
      · subst c2
        rw [if_pos rfl]
        exact (Z.A a b a3 b3 ab).right g (Z.W a a3).P
      · rw [if_neg c2]
        exact Z.A a b a3 b3 ab
theorem Pz.wd (Z:Pz cR cJ cP cS cY cM cW H x ps r ds k0 k1 P z fe) (i3:i < 3) (hi:z.ap=some i):Wd cR cJ cP cS cY cM cW H x (R5 r (some (ps i)) z.b z.a) (ps i) (ds i) (win z.b z.a z.f):=by
  have W:=Z.W i i3
  have R:=Z.R
  rw [hi] at R
  have tg:=W.tg
  rw [jKT (.inl hi)] at tg
  exact ⟨R,W.P,tg,W.n1,W.n2,W.n3,W.n4,W.n5⟩
theorem jHl (h:z.ap.map ps=some p):∃ i,z.ap=some i∧p=ps i:=by
  cases e:z.ap with
  | none=>rw [e] at h;cases h
  | some i=>rw [e] at h;exact ⟨i,rfl,(Option.some.inj h).symm⟩
theorem jCU (h:z.ap.map ps=none):z.ap=none:=by
  cases e:z.ap with
  | none=>rfl
  | some i=>rw [e] at h;cases h
structure Cl (cR cJ cO cX cN cT cP cS cY cM cW:Addr) (H:Hp) (Q:VK) (E:XK) (x:Addr) (ps:Nat→Addr) (r:RD) (ds:Nat→PD) (k0 k1:Str) (P:Nat→Nat) (z:Zs) (fe:Nat) (D:Dd):Prop where
  ov:dN D < 3→z.b + z.a=r.tot + 1→OvR cO r H E
  no:dN D < 3→z.b + z.a≠r.tot + 1→dPl z D=none→jBM cX "job" (.str r.nm) H E
  nw:dN D < 3→z.b + z.a≠r.tot + 1→∀ i,dPl z D=some i→z.S i≠.rd→jBM cN "found" (.str (wd (z.S i))) H E
  nt:∀ p,(D=.leave p∨D=.come p∨D=.mend p)→jA7 (dX D) (z.S p)=none→jBM cN "found" (.str (wd (z.S p))) H E
  mu:∀ k i,D=.jam k→z.ap=some i→z.S i=.rd→z.b + z.a≠r.tot + 1→z.f - z.a < k→jBM cT "name" (.str wiW) H E
  ok:∀ rv z',nx r.nm r.tot P z D=jCi rv z'→∀ i v d' H',i < 3→Kp x (ps i) (ds i) H H'→IsR H' r.nm (fun _=>True) v rv→Pz cR cJ cP cS cY cM cW H' x ps r (jBD ds i d') k0 k1 P z' (fe + 1)→Gp (ds i) d' H→Q v H'
theorem Pz.step (Z:Pz cR cJ cP cS cY cM cW H x ps r ds k0 k1 P z fe) (k:Rk r k0 k1) (f2:fe≤240) (c:Cl cR cJ cO cX cN cT cP cS cY cM cW H Q E x ps r ds k0 k1 P z fe .step):jGB cR cJ cO cX cN cP cS cY cM cW [.ref x] H Q E:=by
  have bT:=Z.ok.bT
  have af:=Z.ok.af
  have fT:=Z.ok.fT
  have T9:=k.T9
  refine ⟨x,_,rfl,Z.R,fun n=>c.ov (by decide) (nliv k.hb bT n),fun lv hp=>c.no (by decide) (jEV bT lv) (jCU hp),fun lv p hp=>?_⟩
  have nov:=jEV bT lv
  obtain ⟨i,hi,rfl⟩:=jHl hp
  obtain ⟨i3,_,fp,rdf⟩:=Z.ok.at3 i hi
  have W:=Z.W i i3
  have Wd0:=Z.wd i3 hi
  have tl:=Wd0.tg.1
  have wl:=jBw z.b z.a z.f
  have er:R5 r (z.ap.map ps) z.b z.a=R5 r (some (ps i)) z.b z.a:=by rw [hi];rfl
  rw [er]
  have fin:∀ (d':PD) (l:Addr) (H':Hp) (ws:List Int),(∀ b o,b≠x→b≠(ds i).ins→b≠(ds i).tr2→b≠(ds i).ik2→H b=some o→H' b=some o)→ws=win z.b z.a (z.a + stK r.tot (P i) z.b z.a z.f)→(∃ ts,H' l=some (.lst ts)∧jAy H' r.nm ts ws)→∀ us,us=win z.b (z.a + stK r.tot (P i) z.b z.a z.f) (stF r.tot z.b z.f)→Wd cR cJ cP cS cY cM cW H' x (jA8 (R5 r (some (ps i)) z.b z.a) ws) (ps i) d' us→d'.S=.rd→d'.path=(ds i).path→d'.name=(ds i).name→Stk d' k0 k1 (fe + 1)→Gp (ds i) d' H→(ds i).S=.rd→Q (.ref l) H':=by
    intro d' l H' ws fr ews hl us eus w eS ep en st g eR
    rw [W.S] at eR
    subst ews
    subst eus
    have go:nx r.nm r.tot P z .step=jCi (.tags z.b z.a (z.a + stK r.tot (P i) z.b z.a z.f)) (stZ r.tot (P i) z):=jHB (nm:=r.nm) (T:=r.tot) (P:=P) (z:=z) (D:=.step) (by decide) nov hi eR
    have hK:stK r.tot (P i) z.b z.a z.f≤1∧z.a + stK r.tot (P i) z.b z.a z.f≤stF r.tot z.b z.f∧z.b + stF r.tot z.b z.f≤r.tot + 1∧stF r.tot z.b z.f - (z.a + stK r.tot (P i) z.b z.a z.f)≤P i:=by
      unfold stK stF
      split
      · exact ⟨by omega,by omega,by omega,by omega⟩
      · split
        · exact ⟨by omega,by omega,by omega,by omega⟩
        · exact ⟨by omega,by omega,by omega,by omega⟩
    obtain ⟨K1,K2,K3,K4⟩:=hK
    have ez:stZ r.tot (P i) z=⟨if z.b + (z.a + stK r.tot (P i) z.b z.a z.f)=r.tot + 1 then none else z.ap,z.b,z.a + stK r.tot (P i) z.b z.a z.f,stF r.tot z.b z.f,z.S⟩:=rfl
    generalize stK r.tot (P i) z.b z.a z.f=kk at *
    generalize stF r.tot z.b z.f=ff at *
    rw [jJN bT (by omega)] at w
    have kp:Kp x (ps i) (ds i) H H':=fun b o n1 _ n3 n4 n5 e=>fr b o n1 n3 n4 n5 e
    have e2:(stZ r.tot (P i) z).ap=some i∨(stZ r.tot (P i) z).a=(stZ r.tot (P i) z).f:=by
      rw [ez]
      show (if z.b + (z.a + kk)=r.tot + 1 then none else z.ap)=some i∨z.a + kk=ff
      split
      · right;omega
      · left;exact hi
    refine c.ok (.tags z.b z.a (z.a + kk)) (stZ r.tot (P i) z) go i (.ref l) d' H' i3 kp ⟨l,rfl,trivial,⟨hl⟩⟩ (Z.deed i3 kp ?_ ⟨w.P,?_,w.n1,w.n2,w.n3,w.n4,w.n5,eS.trans eR.symm,ep.trans W.pa,en.trans W.nm,st⟩ g (fun j c=>⟨rfl,?_⟩) (by omega) ?_) g
    · have:=w.R
      rw [ez]
      dsimp only
      rw [show (if z.b + (z.a + kk)=r.tot + 1 then none else z.ap).map ps=if z.b + (z.a + kk)=r.tot + 1 then none else some (ps i) by split;rfl;rw [hi];rfl]
      exact this
    · have:=w.tg
      rw [jKT e2,ez]
      exact this
    · unfold nsZ
      rw [ez]
      dsimp only
      rw [hi,if_neg (by split <;> (intro e;cases e <;> exact c rfl)),if_neg (fun e=>c (Option.some.inj e).symm)]
    · rw [ez]
      refine ⟨bT,K2,K3,fun j hj=>?_,fun hn=>?_⟩
      · dsimp only at hj ⊢
        by_cases co:z.b + (z.a + kk)=r.tot + 1
        · rw [if_pos co] at hj;cases hj
        · rw [if_neg co,hi] at hj
          cases hj
          exact ⟨i3,co,K4,fun _=>eR⟩
      · dsimp only at hn ⊢
        by_cases co:z.b + (z.a + kk)=r.tot + 1
        · omega
        · rw [if_neg co,hi] at hn
          cases hn
  refine ⟨ds i,_,Wd0,fun n=>by rw [W.S] at n ⊢;exact c.nw (by decide) nov i hi n,fun cn=>?_,fun cn eR l H' ts st=>?_⟩
  · rw [jGF af] at cn ⊢
    have fl:z.b + z.f≠r.tot + 1:=by
      have c':itm z.b z.f < ((r.tot:Nat):Int):=cn
      unfold itm at c'
      split at c' <;> omega
    obtain ⟨u1,u2,u3⟩:=use_k (r:=R5 r (some (ps i)) z.b z.a) (k0:=k0) (k1:=k1) ⟨k.k,k.pp,k.cv,k.ik,k.hb,k.T1,k.T9⟩ (itm z.b z.f)
    obtain ⟨A,la,a1,b8,c8,sk⟩:=W.st.use k.k u1 f2
    refine ⟨by rw [tl,wl];omega,A,la,a1,by omega,by omega,fun eR l H' ts over eo st=>?_⟩
    rw [wl,W.pa] at eo
    rw [jGD af] at st
    have eF:stF r.tot z.b z.f=z.f + 1:=by unfold stF;rw [if_neg fl]
    obtain ⟨d',ed⟩:∃ d':PD,d'={ ds i with am:=jA3 (ds i).am (jBf (R5 r (some (ps i)) z.b z.a) (itm z.b z.f)).1 (A - 1),b:=(ds i).b - (jBf (R5 r (some (ps i)) z.b z.a) (itm z.b z.f)).2.1,c:=(ds i).c - (jBf (R5 r (some (ps i)) z.b z.a) (itm z.b z.f)).2.2,tags:=ts }:=⟨_,rfl⟩
    rw [← ed] at st
    refine fin d' l H' _ st.fr ?_ st.l _ ?_ st.w (by rw [ed];exact eR) (by rw [ed]) (by rw [ed]) (sk d' _ _ (by rw [ed]) u2 u3 (by rw [ed]) (by rw [ed])) ⟨.inl (by rw [ed]),by rw [ed],by rw [ed],by rw [ed],by rw [ed]⟩ eR
    · unfold jI8 stK
      rw [if_neg fl]
      by_cases co:P i < z.f + 1 - z.a
      · rw [show over=true by rw [eo];exact decide_eq_true (by omega),if_pos rfl,if_pos co,jEU (by omega)]
      · rw [show over=false by rw [eo];exact decide_eq_false (by omega),if_neg (by decide),if_neg co]
        exact (jBi _ _).symm
    · unfold jKS stK
      rw [if_neg fl,eF]
      by_cases co:P i < z.f + 1 - z.a
      · rw [show over=true by rw [eo];exact decide_eq_true (by omega),if_pos rfl,if_pos co,jEW 1 (by omega)]
      · rw [show over=false by rw [eo];exact decide_eq_false (by omega),if_neg (by decide),if_neg co]
        rfl
  · rw [jGF af] at cn
    have fl:z.b + z.f=r.tot + 1:=by
      have c':¬ itm z.b z.f < ((r.tot:Nat):Int):=cn
      unfold itm at c'
      split at c' <;> omega
    have eK:stK r.tot (P i) z.b z.a z.f=1:=by unfold stK;rw [if_pos fl]
    have eF:stF r.tot z.b z.f=z.f:=by unfold stF;rw [if_pos fl]
    exact fin { ds i with tags:=ts } l H' _ st.fr (by rw [eK];exact jEU (by omega)) st.l _ (by rw [eK,eF];exact jEW 1 (by omega)) st.w eR rfl rfl (W.st.mono (Nat.le_succ _)) ⟨.inl rfl,rfl,rfl,rfl,rfl⟩ eR
end
end
end My
namespace My
open PySem L2
open Blk (sg sg_inj sg_app)
section
variable {P:Program} {w:World} {K:PySem.W.Frag} {mg:Str→Option Value} {base:Heap} {fa yQ yZ yX yY yV yJ yW yU yK yG cQ cZ cV cK cG vQ vZ vX vY:Addr} {fd:FuncData} (T:Txt K mg yQ yZ yX yY yV yJ yW yU yK yG cQ cZ cV cK cG vQ vZ vX vY)
section
variable {cR cJ cO cX cN cT cP cS cY cM cW:Addr} {H H':Hp} {Q:VK} {E:XK} {x:Addr} {ps:Nat→Addr} {r:RD} {d d' e:PD} {ds:Nat→PD} {k0 k1:Str} {P:Nat→Nat} {z z':Zs} {i p fe fe':Nat} {D:Dd}
theorem jFW {G:Hp} {nm:Str}:jAy G nm [] []:=⟨rfl,fun i y n a=>by cases a⟩
theorem ns_nil (h:z.a=z.f):nsZ z i=[]:=by
  rw [jKT (.inr h),h,jBi]
theorem Pz.jam {j:Nat} (Z:Pz cR cJ cP cS cY cM cW H x ps r ds k0 k1 P z fe) (k:Rk r k0 k1) (c:Cl cR cJ cO cX cN cT cP cS cY cM cW H Q E x ps r ds k0 k1 P z fe (.jam j)):jHg cR cJ cO cX cN cT cP cS cY cM cW [.ref x,.int (j:Int)] H Q E:=by
  have bT:=Z.ok.bT
  have af:=Z.ok.af
  have fT:=Z.ok.fT
  refine ⟨x,_,j,rfl,Z.R,fun n=>c.ov (by show 2 < 3;decide) (nliv k.hb bT n),fun lv hp=>c.no (by show 2 < 3;decide) (jEV bT lv) (jCU hp),fun lv p hp=>?_⟩
  have nov:=jEV bT lv
  obtain ⟨i,hi,rfl⟩:=jHl hp
  obtain ⟨i3,_,fp,rdf⟩:=Z.ok.at3 i hi
  have W:=Z.W i i3
  have Wd0:=Z.wd i3 hi
  have wl:=jBw z.b z.a z.f
  have er:R5 r (z.ap.map ps) z.b z.a=R5 r (some (ps i)) z.b z.a:=by rw [hi];rfl
  rw [er]
  refine ⟨ds i,_,Wd0,fun n=>by rw [W.S] at n ⊢;exact c.nw (by show 2 < 3;decide) nov i hi n,fun eR g=>?_,fun eR g t l1 l2 st il H' kk nil' ht tl1 tl2 w=>?_⟩
  · rw [W.S] at eR
    rw [wl] at g
    exact c.mu j i rfl hi eR nov g
  rw [W.S] at eR
  rw [wl] at g
  have go:nx r.nm r.tot P z (.jam j)=jCi (.two z.b z.a (z.a + j) z.f) (lsZ (jA9 r.tot z j) i .jm):=(jHB (D:=.jam j) (by show 2 < 3;decide) nov hi eR).trans (if_neg (by omega))
  rw [jEU (by omega)] at tl1 w
  rw [jEW j (by omega)] at tl2
  rw [jJN bT (by omega)] at w
  have kp:Kp x (ps i) (ds i) H H':=fun b o n1 n2 _ _ _ e=>kk b o n1 n2 e
  have ez:lsZ (jA9 r.tot z j) i .jm=⟨if z.b + (z.a + j)=r.tot + 1 then none else z.ap,z.b,z.a + j,z.a + j,jBy z.S i .jm⟩:=by
    unfold lsZ jA9
    dsimp only
    by_cases co:z.b + (z.a + j)=r.tot + 1
    · rw [if_pos co,if_neg (by intro e;cases e),show z.f=z.a + j by omega]
    · rw [if_neg co,if_pos hi]
  have hw:∀ i',nsZ (lsZ (jA9 r.tot z j) i .jm) i'=[]:=fun i'=>by
    rw [ez]
    exact ns_nil rfl
  refine c.ok _ _ go i (.ref t) _ H' i3 kp ⟨t,l1,l2,rfl,ht,trivial,trivial,⟨tl1⟩,⟨tl2⟩⟩ (Z.deed i3 kp ?_ ⟨w.P,by rw [hw];exact w.tg,w.n1,w.n2,w.n3,w.n4,w.n5,?_,W.pa,W.nm,W.st.mono (Nat.le_succ _)⟩ ⟨.inr nil',rfl,rfl,rfl,rfl⟩ (fun j' c=>⟨?_,?_⟩) (by omega) ?_) ⟨.inr nil',rfl,rfl,rfl,rfl⟩
  · have:=w.R
    rw [ez]
    dsimp only
    rw [show (if z.b + (z.a + j)=r.tot + 1 then none else z.ap).map ps=if z.b + (z.a + j)=r.tot + 1 then none else some (ps i) by split;rfl;rw [hi];rfl]
    exact this
  · rw [ez]
    exact (if_pos rfl).symm
  · rw [ez]
    exact if_neg c
  · rw [hw]
    unfold nsZ
    rw [hi,if_neg (fun e=>c (Option.some.inj e).symm)]
  · rw [ez]
    refine ⟨bT,Nat.le_refl _,by show z.b + (z.a + j)≤_;omega,fun j' hj=>?_,fun _=>rfl⟩
    dsimp only at hj ⊢
    by_cases co:z.b + (z.a + j)=r.tot + 1
    · rw [if_pos co] at hj;cases hj
    · rw [if_neg co,hi] at hj
      cases hj
      exact ⟨i3,co,by omega,fun e=>absurd e (by omega)⟩
theorem jKU (af:z.a≤z.f) (T i:Nat):nsZ (tkZ T z p) i=[]:=by
  unfold tkZ
  split
  · next c =>
    unfold nsZ jA9
    dsimp only
    rw [show z.a + (z.f - z.a)=z.f by omega,if_pos c,if_neg (by intro e;cases e)]
  · unfold nsZ
    split
    · exact jBi _ _
    · rfl
theorem tk_S (T:Nat):(tkZ T z p).S=z.S:=by
  unfold tkZ
  split <;> rfl
theorem tk_ok (h:Zo r.tot P z) (p3:p < 3) (eR:z.S p=.rd):Zo r.tot P (tkZ r.tot z p):=by
  have bT:=h.bT
  have af:=h.af
  have fT:=h.fT
  unfold tkZ
  split
  · next c =>
    refine ⟨bT,by show z.a + (z.f - z.a)≤z.f;omega,fT,fun i hi=>?_,fun _=>by show z.a + (z.f - z.a)=z.f;omega⟩
    unfold jA9 at hi
    dsimp only at hi
    rw [show z.a + (z.f - z.a)=z.f by omega,if_pos c] at hi
    cases hi
  · next c =>
    refine ⟨by show z.b + (z.f - 1) < r.tot;omega,Nat.le_refl _,by show z.b + (z.f - 1) + 0≤r.tot + 1;omega,fun i hi=>?_,fun e=>by cases e⟩
    cases hi
    exact ⟨p3,by show z.b + (z.f - 1) + 0≠r.tot + 1;omega,Nat.zero_le _,fun _=>eR⟩
theorem jN0 {pr:Option Addr} (bT:z.b < r.tot) (af:z.a≤z.f) (hp:z.b + z.f=r.tot + 1→pr=none):jEl (R5 r pr z.b z.f) (ps p)=R5 r ((tkZ r.tot z p).ap.map ps) (tkZ r.tot z p).b (tkZ r.tot z p).a:=by
  unfold jEl tkZ
  by_cases c:z.b + z.f=r.tot + 1
  · rw [if_pos c,if_pos (by show z.b + (z.f - 1)=r.tot;omega),hp c]
    unfold jA9
    dsimp only
    rw [show z.a + (z.f - z.a)=z.f by omega,if_pos c]
    rfl
  · rw [if_neg c,if_neg (by show z.b + (z.f - 1)≠r.tot;omega)]
    rfl
theorem Pz.take (Z:Pz cR cJ cP cS cY cM cW H x ps r ds k0 k1 P z fe) (k:Rk r k0 k1) (p3:p < 3) (c:Cl cR cJ cO cX cN cT cP cS cY cM cW H Q E x ps r ds k0 k1 P z fe (.take p)):jGA cR cJ cO cN cP cS cY cM cW [.ref x,.ref (ps p)] H Q E:=by
  have bT:=Z.ok.bT
  have af:=Z.ok.af
  have fT:=Z.ok.fT
  have W:=Z.W p p3
  refine ⟨x,_,ps p,ds p,rfl,Z.R,W.P,fun n=>c.ov (by show 0 < 3;decide) (nliv k.hb bT n),fun lv n=>by rw [W.S] at n ⊢;exact c.nw (by show 0 < 3;decide) (jEV bT lv) p rfl n,fun lv eR=>⟨fun hp l H' kx nl hl R'=>?_,fun p' hp=>?_⟩⟩
  · rw [W.S] at eR
    have nov:=jEV bT lv
    have ha:=Z.ok.an (jCU hp)
    have go:nx r.nm r.tot P z (.take p)=jCi (.tags z.b z.a z.f) (tkZ r.tot z p):=jHB (D:=.take p) (by show 0 < 3;decide) nov rfl eR
    have kp:Kp x (ps p) (ds p) H H':=fun b o n1 _ _ _ _ e=>kx b o n1 e
    have kt:∀ b xs,H b=some (.tup xs)→H' b=some (.tup xs):=fun b xs e=>kx _ _ (jAn e Z.R.o (by intro z;cases z)) e
    have n0:∀ j,nsZ z j=[]:=fun j=>by unfold nsZ;rw [jCU hp,if_neg (by intro e;cases e)]
    have tg:=W.tg
    rw [n0] at tg
    refine c.ok _ _ go p (.ref l) (ds p) H' p3 kp ⟨l,rfl,trivial,⟨[],hl,by rw [ha,jBi];exact jFW⟩⟩ (Z.deed p3 kp ?_ ⟨W.P.off Z.R.o kx W.n1 W.n2 W.n3 W.n4,by rw [jKU af];exact tg.fr kt,W.n1,W.n2,W.n3,W.n4,W.n5,by rw [tk_S];exact W.S,W.pa,W.nm,W.st.mono (Nat.le_succ _)⟩ (jJO _ _) (fun j _=>⟨by rw [tk_S],by rw [jKU af,n0]⟩) (by omega) (tk_ok Z.ok p3 eR)) (jJO _ _)
    rw [jCU hp] at R'
    rw [← jN0 (pr:=none) bT af (fun _=>rfl),← ha]
    exact R'
  · have nov:=jEV bT lv
    obtain ⟨i,hi,rfl⟩:=jHl hp
    obtain ⟨i3,_,fp,rdf⟩:=Z.ok.at3 i hi
    have U:=Z.W i i3
    have er:R5 r (z.ap.map ps) z.b z.a=R5 r (some (ps i)) z.b z.a:=by rw [hi];rfl
    rw [er]
    refine ⟨ds i,_,Z.wd i3 hi,fun n=>?_,nw_win bT fT,fun l H' fr nl hl w=>?_⟩
    · rw [U.S]
      exact rdf (Nat.lt_of_not_le fun e=>n (by rw [show z.f=z.a by omega,jBi]))
    rw [W.S] at eR
    have go:nx r.nm r.tot P z (.take p)=jCi (.tags z.b z.a z.f) (tkZ r.tot z p):=jHB (D:=.take p) (by show 0 < 3;decide) nov rfl eR
    have kp:Kp x (ps i) (ds i) H H':=fun b o n1 _ n3 _ _ e=>fr b o n1 n3 e
    rw [jJN bT af,jN0 bT af (fun c=>if_pos c)] at w
    exact c.ok _ _ go i (.ref l) _ H' i3 kp ⟨l,rfl,trivial,⟨hl⟩⟩ (Z.deed i3 kp w.R ⟨w.P,by rw [jKU af];exact w.tg,w.n1,w.n2,w.n3,w.n4,U.n5,by rw [tk_S];exact U.S,U.pa,U.nm,U.st.mono (Nat.le_succ _)⟩ ⟨.inl rfl,rfl,rfl,rfl,rfl⟩ (fun j cj=>⟨by rw [tk_S],by rw [jKU af];unfold nsZ;rw [hi,if_neg (fun e=>cj (Option.some.inj e).symm)]⟩) (by omega) (tk_ok Z.ok p3 eR)) ⟨.inl rfl,rfl,rfl,rfl,rfl⟩
theorem Pz.turned {st il:Addr} {s':S3} {ts:List V} {f':Nat} (Z:Pz cR cJ cP cS cY cM cW H x ps r ds k0 k1 P z fe) (p3:p < 3) (kk:∀ b o,b≠ps p→H b=some o→H' b=some o) (P':jAD cP cS cY cM cW H' (ps p) { ds p with st:=st,S:=s',ins:=il,tags:=ts }) (hi:il=(ds p).ins∨H il=none) (ht:jAy H' r.nm ts (nsZ { z with f:=f',S:=jBy z.S p s' } p)) (h1:z.a≤f') (h2:z.ap≠some p→f'=z.f) (h3:f'≤z.f) (h4:z.ap=some p→z.a < f'→s'=.rd):Pz cR cJ cP cS cY cM cW H' x ps r (jBD ds p { ds p with st:=st,S:=s',ins:=il,tags:=ts }) k0 k1 P { z with f:=f',S:=jBy z.S p s' } (fe + 1)∧Kp x (ps p) (ds p) H H'∧Gp (ds p) { ds p with st:=st,S:=s',ins:=il,tags:=ts } H:=by
  have W:=Z.W p p3
  have R':=Z.R.turn W.P W.n1 kk
  have kp:Kp x (ps p) (ds p) H H':=fun b o _ n _ _ _ e=>kk b o n e
  have g:Gp (ds p) { ds p with st:=st,S:=s',ins:=il,tags:=ts } H:=⟨hi,rfl,rfl,rfl,rfl⟩
  have fT:=Z.ok.fT
  refine ⟨Z.deed p3 kp R' ⟨P',ht,W.n1,W.n2,W.n3,jNU P'.s R',?_,(if_pos rfl).symm,W.pa,W.nm,W.st.mono (Nat.le_succ _)⟩ g (fun j c=>⟨if_neg c,?_⟩) (by omega) ⟨Z.ok.bT,h1,by show z.b + f'≤_;omega,fun i hi=>?_,fun e=>(Z.ok.an e).trans (h2 (by rw [show z.ap=none from e];intro z;cases z)).symm⟩,kp,g⟩
  · rcases hi with e | e
    · show r.il≠il
      rw [e]
      exact W.n5
    · intro z
      obtain ⟨ys,hy,_⟩:=id Z.R.i
      rw [show il=r.il from z.symm,show H r.il=some (.lst ys) from hy] at e
      cases e
  · unfold nsZ
    dsimp only
    split
    · next e=>rw [h2 (by rw [e];exact fun z=>c (Option.some.inj z))]
    · rfl
  · have hi':z.ap=some i:=hi
    obtain ⟨a1,a2,a3,a4⟩:=Z.ok.at3 i hi'
    refine ⟨a1,a2,by show f' - z.a≤P i;omega,fun lt=>?_⟩
    show jBy z.S p s' i=.rd
    unfold jBy
    split
    · next e=>exact h4 (by rw [hi',e]) lt
    · exact a4 (Nat.lt_of_lt_of_le lt h3)
end
def jFX (cR cJ cO cX cN cT cP cS cY cM cW:Addr):Sp:=fun vs H Q E=>∃ x pl t ps r ds k0 k1 P z fe D,vs=[.ref x,.ref pl,.ref t]∧H t=some (.tup (ddV D))∧H pl=some (.lst (l3 fun i=>.ref (ps i)))∧D.Ok∧Rk r k0 k1∧Pz cR cJ cP cS cY cM cW H x ps r ds k0 k1 P z fe∧fe≤240∧Cl cR cJ cO cX cN cT cP cS cY cM cW H Q E x ps r ds k0 k1 P z fe D
theorem jJP:jAl ["_law_run","_law_printers","_law_deed"] ["_law_run","_law_printers","_law_deed"] (jAh jD_):=scM
include T in
theorem jJQ (F:Fun K "_law_called" "_law_called" jD_ fa fd) (Dbu:MtE P w K mg base 6 "take" yK ["self","printer"] (jGA yK yG vZ cK cZ cQ yJ yW yU)) (Dbv:MtE P w K mg base 8 "step" yK ["self"] (jGB yK yG vZ vX cK cZ cQ yJ yW yU)) (Dbw:MtE P w K mg base 6 "jam" yK ["self","saved"] (jHg yK yG vZ vX cK cG cZ cQ yJ yW yU)) (Dbx:MtE P w K mg base 5 "leave" cZ ["self"] (jHR cK cZ cQ yJ yW yU)) (Dby:MtE P w K mg base 5 "come" cZ ["self"] (jEj 3 cK cZ cQ yJ yW yU)) (Dbz:MtE P w K mg base 5 "mend" cZ ["self"] (jEj 1 cK cZ cQ yJ yW yU)) :
    jAq P w K mg base (CXe P w) 9 fa fd ["_law_run","_law_printers","_law_deed"] (jFX yK yG vZ vX cK cG cZ cQ yJ yW yU):=by
  refine F.okE jJP (fun vs H Q E h=>?_) (fun cdv A outer s H vs Q E hr h=>?_)
  · obtain ⟨x,pl,t,ps,r,ds,k0,k1,P,z,fe,D,rfl,_⟩:=h
    rfl
  obtain ⟨x,pl,t,ps,r,ds,k0,k1,P',z,fe,D,rfl,ht,hpl,dok,k,Z,f2,c⟩:=h
  refine ⟨_,(jAb (jAC (tcA jAZ (ixA jAE (pv 2) jAg) jAi) (jAe (jAm (jAR 6 jAw hr.m (pv 0) (jAa (ixA jAH (pv 1) (ixA jAE (pv 2) jAg)) jAd)))) jAs) (jAb (jAC (tcA jAZ (ixA jAE (pv 2) jAg) jAi) (jAe (jAm (jAt 8 jAw hr.m (pv 0)))) jAs) (jAb (jAC (tcA jAZ (ixA jAE (pv 2) jAg) jAi) (jAe (jAm (jAR 6 jAw hr.m (pv 0) (jAa (ixA jAE (pv 2) jAg) jAd)))) jAs) (jAb (jAC (tcA jAZ (ixA jAE (pv 2) jAg) jAi) (jAe (jAm (jAt 5 jAw hr.m (ixA jAH (pv 1) (ixA jAE (pv 2) jAg))))) jAs) (jAb (jAC (tcA jAZ (ixA jAE (pv 2) jAg) jAi) (jAe (jAm (jAt 5 jAw hr.m (ixA jAH (pv 1) (ixA jAE (pv 2) jAg))))) jAs) (jAe (jAm (jAt 5 jAw hr.m (ixA jAH (pv 1) (ixA jAE (pv 2) jAg)))))))))),?_⟩
  have no:∀ {A B C:TS} {DD:jBB} {j:Nat} (_:j < 6) (_:dN D≠j),(∀ G,G=H→B { DD with nx:=C DD } [some (.ref x),some (.ref pl),some (.ref t)] G→jDX (tIfS (jKJ (tOp rEq (tOp (rIxT K) (tVar 2) (tC (V.int 0))) (tC (V.str (wN j))))) A B) C DD [some (.ref x),some (.ref pl),some (.ref t)] G):=fun {A B C DD j} hj nj G e hB=>by
    subst e
    exact ⟨_,rfl,t,_,_,_,rfl,rfl,SqT.of ht,jAz (j:=0) (dd0 D),rfl,false,congrArg V.bl ((jE0 D hj).trans (decide_eq_false nj)),jAK hB⟩
  have yes:∀ {A B C:TS} {DD:jBB} {j:Nat} (_:j < 6) (_:dN D=j),(∀ G,G=H→A { DD with nx:=C DD } [some (.ref x),some (.ref pl),some (.ref t)] G→jDX (tIfS (jKJ (tOp rEq (tOp (rIxT K) (tVar 2) (tC (V.int 0))) (tC (V.str (wN j))))) A B) C DD [some (.ref x),some (.ref pl),some (.ref t)] G):=fun {A B C DD j} hj nj G e hB=>by
    subst e
    exact ⟨_,rfl,t,_,_,_,rfl,rfl,SqT.of ht,jAz (j:=0) (dd0 D),rfl,true,congrArg V.bl ((jE0 D hj).trans (decide_eq_true nj)),jAP hB⟩
  have nrd:∀ {s':S3} {i:Nat},i=1∨i=3→∀ {q:Nat},jA7 i (z.S q)=some s'→z.ap=some q→¬ z.a < z.f:=fun hi q e ea lt=>by
    rw [(Z.ok.at3 q ea).2.2.2 lt] at e
    rcases hi with rfl | rfl <;> cases e
  cases D with
  | take p =>
    have p3:p < 3:=dok
    refine yes (j:=0) (by decide) rfl _ rfl ⟨_,rfl,x,_,_,_,_,_,rfl,Z.R.o,rfl,T.aa,Dbu,_,rfl,_,rfl,t,_,_,_,rfl,rfl,SqT.of ht,jAz (j:=1) rfl,pl,_,_,rfl,rfl,SqL.of hpl,by omega,(by show ((p:Nat):Int) < 3;omega),fun v hv=>?_⟩
    obtain rfl:=jBg p3 hv
    exact Z.take k p3 c
  | step =>
    refine no (j:=0) (by decide) (by decide) _ rfl (yes (j:=1) (by decide) rfl _ rfl ⟨_,rfl,x,_,_,_,_,_,rfl,Z.R.o,rfl,T.aa,Dbv,?_⟩)
    exact Z.step k f2 c
  | jam j =>
    refine no (j:=0) (by decide) (show 2≠0 by decide) _ rfl (no (j:=1) (by decide) (show 2≠1 by decide) _ rfl (yes (j:=2) (by decide) rfl _ rfl ⟨_,rfl,x,_,_,_,_,_,rfl,Z.R.o,rfl,T.aa,Dbw,_,rfl,t,_,_,_,rfl,rfl,SqT.of ht,jAz (j:=1) rfl,?_⟩))
    exact Z.jam k c
  | leave p =>
    have p3:p < 3:=dok
    have W:=Z.W p p3
    refine no (j:=0) (by decide) (show 3≠0 by decide) _ rfl (no (j:=1) (by decide) (show 3≠1 by decide) _ rfl (no (j:=2) (by decide) (show 3≠2 by decide) _ rfl (yes (j:=3) (by decide) rfl _ rfl ⟨_,rfl,_,rfl,t,_,_,_,rfl,rfl,SqT.of ht,jAz (j:=1) rfl,pl,_,_,rfl,rfl,SqL.of hpl,by omega,(by show ((p:Nat):Int) < 3;omega),fun v hv=>?_⟩)))
    obtain rfl:=jBg p3 hv
    refine ⟨ps p,_,_,_,_,_,rfl,W.P.o,rfl,T.ac,Dbx,ps p,ds p,rfl,W.P,fun s' e st il H' kk nil' P1=>?_,fun e=>?_⟩
    · rw [W.S] at e
      have af:=Z.ok.af
      have tg:=W.tg.fr fun b xs e=>kk _ _ (jAn e W.P.o (by intro z;cases z)) e
      have e1:nsZ z p=win z.b z.a (if z.ap=some p then z.f else z.a):=by
        unfold nsZ
        split
        · rfl
        · exact (jBi _ _).symm
      obtain ⟨Z1,kp,g⟩:=Z.turned (f':=if z.ap=some p then z.a else z.f) p3 kk P1 (.inr nil') (by unfold nsZ;dsimp only;split;(rw [jBi];exact jFW);exact jFW) (by split <;> omega) (fun e=>if_neg e) (by split <;> omega) (fun e lt=>by rw [if_pos e] at lt;omega)
      exact c.ok _ _ (jDJ e) p _ _ H' p3 kp ⟨(ds p).ins,rfl,trivial,⟨_,kk _ _ (jAn W.P.n W.P.o (by intro z;cases z)) W.P.n,by rw [← e1];exact tg⟩⟩ Z1 g
    · rw [W.S] at e ⊢
      exact c.nt p (.inl rfl) e
  | come p =>
    have p3:p < 3:=dok
    have W:=Z.W p p3
    refine no (j:=0) (by decide) (show 4≠0 by decide) _ rfl (no (j:=1) (by decide) (show 4≠1 by decide) _ rfl (no (j:=2) (by decide) (show 4≠2 by decide) _ rfl (no (j:=3) (by decide) (show 4≠3 by decide) _ rfl (yes (j:=4) (by decide) rfl _ rfl ⟨_,rfl,_,rfl,t,_,_,_,rfl,rfl,SqT.of ht,jAz (j:=1) rfl,pl,_,_,rfl,rfl,SqL.of hpl,by omega,(by show ((p:Nat):Int) < 3;omega),fun v hv=>?_⟩))))
    obtain rfl:=jBg p3 hv
    refine ⟨ps p,_,_,_,_,_,rfl,W.P.o,rfl,T.ac,Dby,ps p,ds p,rfl,W.P,fun s' e st H' kk P1=>?_,fun e=>?_⟩
    · rw [W.S] at e
      have tg:=W.tg.fr fun b xs e=>kk _ _ (jAn e W.P.o (by intro z;cases z)) e
      obtain ⟨Z1,kp,g⟩:=Z.turned (f':=z.f) p3 kk P1 (.inl rfl) tg Z.ok.af (fun _=>rfl) (Nat.le_refl _) (fun ea lt=>absurd lt (nrd (.inr rfl) e ea))
      exact c.ok _ _ (jDJ e) p _ _ H' p3 kp rfl Z1 g
    · rw [W.S] at e ⊢
      exact c.nt p (.inr (.inl rfl)) e
  | mend p =>
    have p3:p < 3:=dok
    have W:=Z.W p p3
    refine no (j:=0) (by decide) (show 5≠0 by decide) _ rfl (no (j:=1) (by decide) (show 5≠1 by decide) _ rfl (no (j:=2) (by decide) (show 5≠2 by decide) _ rfl (no (j:=3) (by decide) (show 5≠3 by decide) _ rfl (no (j:=4) (by decide) (show 5≠4 by decide) _ rfl ⟨_,rfl,_,rfl,t,_,_,_,rfl,rfl,SqT.of ht,jAz (j:=1) rfl,pl,_,_,rfl,rfl,SqL.of hpl,by omega,(by show ((p:Nat):Int) < 3;omega),fun v hv=>?_⟩))))
    obtain rfl:=jBg p3 hv
    refine ⟨ps p,_,_,_,_,_,rfl,W.P.o,rfl,T.ac,Dbz,ps p,ds p,rfl,W.P,fun s' e st H' kk P1=>?_,fun e=>?_⟩
    · rw [W.S] at e
      have tg:=W.tg.fr fun b xs e=>kk _ _ (jAn e W.P.o (by intro z;cases z)) e
      obtain ⟨Z1,kp,g⟩:=Z.turned (f':=z.f) p3 kk P1 (.inl rfl) tg Z.ok.af (fun _=>rfl) (Nat.le_refl _) (fun ea lt=>absurd lt (nrd (.inl rfl) e ea))
      exact c.ok _ _ (jDJ e) p _ _ H' p3 kp rfl Z1 g
    · rw [W.S] at e ⊢
      exact c.nt p (.inr (.inr rfl)) e
end
end My
namespace My
open PySem L2
open Blk (sg sg_inj sg_app)
section
variable {P:Program} {w:World} {K:PySem.W.Frag} {mg:Str→Option Value} {base:Heap} {fa yQ yZ yX yY yV yJ yW yU yK yG cQ cZ cV cK cG vQ vZ vX vY:Addr} {fd:FuncData} (T:Txt K mg yQ yZ yX yY yV yJ yW yU yK yG cQ cZ cV cK cG vQ vZ vX vY)
section
variable {cR cJ cO cX cN cT cP cS cY cM cW:Addr} {H H':Hp} {x:Addr} {ps:Nat→Addr} {r:RD} {ds:Nat→PD} {k0 k1:Str} {P:Nat→Nat} {z:Zs} {i fe fe':Nat}
theorem jN1 (ds:Nat→PD) (i:Nat):jBD ds i (ds i)=ds:=funext fun j=>by
  unfold jBD
  split
  · next e=>rw [e]
  · rfl
theorem Pz.mono (Z:Pz cR cJ cP cS cY cM cW H x ps r ds k0 k1 P z fe) (h:fe≤fe'):Pz cR cJ cP cS cY cM cW H x ps r ds k0 k1 P z fe':=⟨Z.R,fun i i3=>{ Z.W i i3 with st:=(Z.W i i3).st.mono h },Z.A,Z.ok⟩
end
def jHm (cR cJ cO cX cN cT cP cS cY cM cW:Addr):Sp:=fun vs H Q _=>∃ x pl t ps r ds k0 k1 P z fe D,vs=[.ref x,.ref pl,.ref t]∧H t=some (.tup (ddV D))∧H pl=some (.lst (l3 fun i=>.ref (ps i)))∧D.Ok∧Rk r k0 k1∧Pz cR cJ cP cS cY cM cW H x ps r ds k0 k1 P z fe∧fe≤240 ∧
  ∀ R,nx r.nm r.tot P z D=R→∀ u v i d' H',i < 3→Kp x (ps i) (ds i) H H'→H' u=some (.tup [.str R.kd,R.wo,v])→IsR H' r.nm (fun _=>True) v R.rv→Pz cR cJ cP cS cY cM cW H' x ps r (jBD ds i d') k0 k1 P R.z (fe + 1)→Gp (ds i) d' H→Q (.ref u) H'
theorem jAO:jAl ["_law_run","_law_printers","_law_deed","_law_found","_law_kind","_law_word_here","e"] ["_law_run","_law_printers","_law_deed"] (jAh jFz):=scM
include T in
theorem jLU (F:Fun K "_law_done" "_law_done" jFz fa fd) (DbA:DfE P w K mg base 9 "_law_called" ["_law_run","_law_printers","_law_deed"] (jFX yK yG vZ vX cK cG cZ cQ yJ yW yU)) :
    jAq P w K mg base CX0 10 fa fd ["_law_run","_law_printers","_law_deed"] (jHm yK yG vZ vX cK cG cZ cQ yJ yW yU):=by
  refine F.ok jAO (fun vs H Q E h=>?_) (fun cdv A outer s H vs Q E hr h=>?_)
  · obtain ⟨x,pl,t,ps,r,ds,k0,k1,P,z,fe,D,rfl,_⟩:=h
    rfl
  obtain ⟨x,pl,t,ps,r,ds,k0,k1,P',z,fe,D,rfl,ht,hpl,dok,k,Z,f2,q⟩:=h
  refine ⟨_,(jAb (psA (i:=3) jAO.nd jAL) (jAb (psA (i:=4) jAO.nd jAi) (jAb (psA (i:=5) jAO.nd jAL) (jAb (ps_try top_nox (fun _ _ _ hP hO=>by exact (jAe (psA (i:=3) jAO.nd (jOm DbA hP (hr.mono (show 9≤9 by decide)) rfl (jAa (pv 0) (jAa (pv 1) (jAa (pv 2) jAd))))))) (jKR (i:=6) rfl T.cb jAO.nd rfl rfl (fun _=>by exact (jAb (psA (i:=4) jAO.nd jAi) (jAe (psA (i:=5) jAO.nd (jGh (K:=K) rfl (pv 6) rfl))))) (jKR (i:=6) rfl T.cf jAO.nd rfl rfl (fun _=>by exact (jAb (psA (i:=4) jAO.nd jAi) (jAe (psA (i:=5) jAO.nd (jGh (K:=K) rfl (pv 6) rfl))))) (jKR (i:=6) rfl T.cg jAO.nd rfl rfl (fun _=>by exact (jAb (psA (i:=4) jAO.nd jAi) (jAe (psA (i:=5) jAO.nd (jGh (K:=K) rfl (pv 6) rfl))))) (jKR (i:=6) rfl T.ce jAO.nd rfl rfl (fun _=>by exact (jAb (psA (i:=4) jAO.nd jAi) (jAe (psA (i:=5) jAO.nd (jGh (K:=K) rfl (pv 6) rfl))))) ph_nil))))) (jAe (jAm (jAM (jAa (pv 4) (jAa (pv 5) (jAa (pv 3) jAd)))))))))),?_⟩
  have ref:∀ (kd:Str) (w':V) (H1:Hp),jAo H H1→nx r.nm r.tot P' z D=⟨kd,w',.non,z⟩→∀ u,H1 u=none→Q (.ref u) (upd H1 u (.tup [.str kd,w',.non])):=fun kd w' H1 s1 e u nu=>by
    have s2:=jAk nu (.tup [V.str kd,w',.non])
    exact q _ e u .non 0 (ds 0) _ (by decide) (jAo.kp (s1.trans s2)) jAc rfl (by rw [jN1];exact (Z.same (s1.trans s2)).mono (Nat.le_succ _)) (jJO _ _)
  have z3:3≤sizeLine:=small (by decide)
  refine ⟨_,rfl,_,rfl,_,rfl,x,pl,t,ps,r,ds,k0,k1,P',z,fe,D,rfl,ht,hpl,dok,k,Z,f2,⟨fun h1 h2 ea H1 s1 _ g=>?_,fun h1 h2 h3 ea H1 s1 g=>?_,fun h1 h2 i h3 h4 ea H1 s1 g=>?_,fun p h1 h2 ea H1 s1 g=>?_,fun j i h1 h2 h3 h4 h5 ea H1 s1 g=>?_,fun rv z' e i v d' H1 i3 kk hv Z1 G=>?_⟩⟩
  · have cc:jDk K vZ∧jAu K vZ "job":=⟨T.aq.i.c,T.aq.n _ (.head _)⟩
    refine ⟨vZ,ea,rfl,rfl,T.aq.m,T.ag.m,false,T.bQ,jAK ⟨T.aq.m,T.aq.m,true,T.bR,jAP ⟨_,rfl,ea,_,_,_,rfl,g,cc.1,cc.2,rfl,?_⟩⟩⟩
    exact ⟨_,rfl,_,rfl,_,rfl,z3,fun u nu=>ref _ _ H1 s1 (jMJ h1 h2) u nu⟩
  · have cc:jDk K vX∧jAu K vX "job":=⟨T.au.i.c,T.au.n _ (.head _)⟩
    refine ⟨vX,ea,rfl,rfl,T.au.m,T.ag.m,false,T.bS,jAK ⟨T.au.m,T.aq.m,false,T.bU,jAK ⟨T.au.m,T.au.m,true,T.bV,jAP ⟨_,rfl,ea,_,_,_,rfl,g,cc.1,cc.2,rfl,?_⟩⟩⟩⟩
    exact ⟨_,rfl,_,rfl,_,rfl,z3,fun u nu=>ref _ _ H1 s1 (jMK h1 h2 h3) u nu⟩
  · have cc:jDk K cK∧jAu K cK "found":=⟨T.ag.i.c,T.ag.n _ (.head _)⟩
    refine ⟨cK,ea,rfl,rfl,T.ag.m,T.ag.m,true,T.bE,jAP ⟨_,rfl,ea,_,_,_,rfl,g,cc.1,cc.2,rfl,?_⟩⟩
    exact ⟨_,rfl,_,rfl,_,rfl,z3,fun u nu=>ref _ _ H1 s1 (jNZ h1 h2 h3 h4) u nu⟩
  · have cc:jDk K cK∧jAu K cK "found":=⟨T.ag.i.c,T.ag.n _ (.head _)⟩
    refine ⟨cK,ea,rfl,rfl,T.ag.m,T.ag.m,true,T.bE,jAP ⟨_,rfl,ea,_,_,_,rfl,g,cc.1,cc.2,rfl,?_⟩⟩
    refine ⟨_,rfl,_,rfl,_,rfl,z3,fun u nu=>ref _ _ H1 s1 ?_ u nu⟩
    rcases h1 with rfl | rfl | rfl <;> exact jML h2
  · have cc:jDk K cG∧jAu K cG "name":=⟨T.ao.i.c,T.ao.n _ (.head _)⟩
    refine ⟨cG,ea,rfl,rfl,T.ao.m,T.ag.m,false,T.bW,jAK ⟨T.ao.m,T.aq.m,false,T.bX,jAK ⟨T.ao.m,T.au.m,false,T.bY,jAK ⟨T.ao.m,T.ao.m,true,T.bZ,jAP ⟨_,rfl,ea,_,_,_,rfl,g,cc.1,cc.2,rfl,?_⟩⟩⟩⟩⟩
    refine ⟨_,rfl,_,rfl,_,rfl,z3,fun u nu=>ref _ _ H1 s1 ?_ u nu⟩
    subst h1
    exact (jHB (D:=.jam j) (show 2 < 3 by decide) h4 h2 h3).trans (if_pos h5)
  · refine ⟨_,rfl,_,rfl,_,rfl,z3,fun u nu=>?_⟩
    have s2:=jAk nu (.tup [V.str (Str.ofString ""),.non,v])
    exact q _ e u v i d' _ i3 (fun b o n1 n2 n3 n4 n5 eo=>s2 _ _ (kk b o n1 n2 n3 n4 n5 eo)) jAc (hv.same s2) (Z1.same s2) G
theorem kit_LT {K:PySem.W.Frag}:PySem.W.kitOne K (.type "list") (.type "tuple")=some false:=jGZ (by decide +kernel) (by decide +kernel) (by decide +kernel)
theorem kit_LS {K:PySem.W.Frag}:PySem.W.kitOne K (.type "list") (.type "str")=some false:=jGZ (by decide +kernel) (by decide +kernel) (by decide +kernel)
theorem kit_TS {K:PySem.W.Frag}:PySem.W.kitOne K (.type "tuple") (.type "str")=some false:=jGZ (by decide +kernel) (by decide +kernel) (by decide +kernel)
def jGQ (K:PySem.W.Frag):Sp:=fun vs H Q _=>∃ u v nm N N' rv,vs=[u,v]∧IsR H nm N u rv∧IsR H nm N' v rv∧(∀ b a f,rv=.tags b a f→f≤100)∧(∀ b a c f,rv=.two b a c f→c≤100∧f≤100)∧Q (.bl true) H
theorem jKF:jAl ["_law_found","_law_due_here"] ["_law_found","_law_due_here"] (jAh jEK):=scM
include T in
theorem jKG (F:Fun K "_law_alike" "_law_alike" jEK fa fd) (Dam:Dfn P w K mg base 2 "_law_tags" ["_law_told","_law_due_here"] (jET K)) :
    jAq P w K mg base CX0 3 fa fd ["_law_found","_law_due_here"] (jGQ K):=by
  refine F.ok jKF (fun vs H Q E h=>?_) (fun cdv A outer s H vs Q E hr h=>?_)
  · obtain ⟨u,v,nm,N,N',rv,rfl,_⟩:=h
    rfl
  obtain ⟨u,v,nm,N,N',rv,rfl,h1,h2,z1,z2,q⟩:=h
  refine ⟨_,(jAb (jAC (PW.pt (jC0 (tcA jC1 (pv 1) jAL) (jDN (jAN (jAG jCn rfl T.aB jDQ (jAa (pv 1) (jAa (jCV rfl T.aU jK6 (jDR _)) jAd))) (fun _=>rfl))))) (jAe (jAm (ecA jAZ (pv 0) (pv 1)))) jAs) (jAb (jAC (jAN (jAG jCn rfl T.aB jDQ (jAa (pv 1) (jAa (jCV rfl T.aM jGb (jDR _)) jAd))) (fun _=>rfl)) (jAb (jAC (PW.pt (jC0 (jBY (jAN (jAG jCn rfl T.aB jDQ (jAa (pv 0) (jAa (jCV rfl T.aM jGb (jDR _)) jAd))) (fun _=>rfl))) (jDN (tcA jCv (jAG jAF rfl T.ae PySem.boot_len (jAa (pv 0) jAd)) jAg)))) (jAe (jAm jBC)) jAs) (jAe (jAm (jEu (jAv Dam hr.m rfl (jAa (ixA jAE (pv 0) jAg) (jAa (ixA jAE (pv 1) jAg) jAd))) (jGT (jAv Dam hr.m rfl (jAa (ixA jAE (pv 0) jAg) (jAa (ixA jAE (pv 1) jAg) jAd)))))))) jAs) (jAe (jAm (jAv Dam hr.m rfl (jAa (pv 0) (jAa (pv 1) jAd))))))),?_⟩
  cases rv with
  | non =>
    cases h1
    cases h2
    refine ⟨_,rfl,rfl,_,rfl,jAP (jAP ⟨_,rfl,_,rfl,rfl,?_⟩)⟩
    rw [decide_eq_true rfl]
    exact q
  | wrd s' =>
    cases h1
    cases h2
    refine ⟨_,rfl,rfl,_,rfl,jCz (by intro z;cases z) ⟨_,rfl,_,_,_,true,rfl,jBx.str _,jCI _,true,rfl,jAP ⟨_,rfl,_,rfl,rfl,?_⟩⟩⟩
    rw [decide_eq_true rfl]
    exact q
  | tags b a f =>
    obtain ⟨l1,rfl,_,t1⟩:=h1
    obtain ⟨l2,rfl,_,t2⟩:=h2
    obtain ⟨u1,h1,g1⟩:=t1.ex
    obtain ⟨u2,h2,g2⟩:=t2.ex
    refine ⟨_,rfl,rfl,_,rfl,jCz (by intro z;cases z) ⟨_,rfl,_,_,_,false,rfl,jBx.lst h2,kit_LS,false,rfl,jAK ?_⟩⟩
    refine ⟨_,rfl,_,_,_,false,rfl,jBx.lst h2,kit_LT,false,rfl,jAK ?_⟩
    exact ⟨_,rfl,_,rfl,l1,l2,nm,_,_,_,rfl,h1,h2,g1,g2,by rw [jBw];have:=z1 b a f rfl;omega,q⟩
  | two b a c f =>
    obtain ⟨t1,l1,l2,rfl,e1,_,_,a1,b1⟩:=h1
    obtain ⟨t2,l3,l4,rfl,e2,_,_,a2,b2⟩:=h2
    obtain ⟨u1,h1,g1⟩:=a1.ex
    obtain ⟨u2,h2,g2⟩:=a2.ex
    obtain ⟨u3,h3,g3⟩:=b1.ex
    obtain ⟨u4,h4,g4⟩:=b2.ex
    obtain ⟨z3,z4⟩:=z2 b a c f rfl
    refine ⟨_,rfl,rfl,_,rfl,jCz (by intro z;cases z) ⟨_,rfl,_,_,_,false,rfl,jBx.tup e2,kit_TS,false,rfl,jAK ?_⟩⟩
    refine ⟨_,rfl,_,_,_,true,rfl,jBx.tup e2,jCI _,true,rfl,jAP ?_⟩
    refine ⟨_,rfl,_,_,_,true,rfl,jBx.tup e1,jCI _,true,rfl,jAK ⟨_,rfl,t1,_,rfl,.inr (SqT.of e1),rfl,false,rfl,jAK ?_⟩⟩
    refine ⟨_,rfl,t1,_,_,_,rfl,rfl,SqT.of e1,jAz (j:=0) rfl,_,rfl,t2,_,_,_,rfl,rfl,SqT.of e2,jAz (j:=0) rfl,l1,l3,nm,_,_,_,rfl,h1,h2,g1,g2,by rw [jBw];omega,true,rfl,jAP ?_⟩
    exact ⟨_,rfl,t1,_,_,_,rfl,rfl,SqT.of e1,jAz (j:=1) rfl,_,rfl,t2,_,_,_,rfl,rfl,SqT.of e2,jAz (j:=1) rfl,l2,l4,nm,_,_,_,rfl,h3,h4,g3,g4,by rw [jBw];omega,q⟩
end
end My
namespace My
open PySem L2
open Blk (sg sg_inj sg_app)
section
variable {P:Program} {w:World} {K:PySem.W.Frag} {mg:Str→Option Value} {base:Heap} {fa yQ yZ yX yY yV yJ yW yU yK yG cQ cZ cV cK cG vQ vZ vX vY:Addr} {fd:FuncData} (T:Txt K mg yQ yZ yX yY yV yJ yW yU yK yG cQ cZ cV cK cG vQ vZ vX vY)
def Tst (tt:TT) (σ:St) (H:Hp) (b:Bool):Prop:=∀ H1,jAo H H1→∀ Q:Bool→Hp→Prop,(∀ H',jAo H1 H'→Q b H')→tt σ H1 Q
theorem Tst.or {t u:TT} {σ:St} {H:Hp} {b c:Bool} (h:Tst t σ H b) (g:Tst u σ H c):Tst (tOr t u) σ H (b || c):=fun H1 s1 Q q=>h H1 s1 _ fun H2 s2=>by
  cases b with
  | true=>exact jAP (q H2 s2)
  | false=>exact jAK (g H2 (s1.trans s2) Q fun H3 s3=>q H3 (s2.trans s3))
theorem Tst.iff {tt:TT} {A B:TS} {D:jBB} {σ:St} {H:Hp} {b:Bool} (h:Tst tt σ H b) (h1:b=true→∀ H',jAo H H'→A D σ H') (h2:b=false→∀ H',jAo H H'→B D σ H'):tIfS tt A B D σ H:=h H (jAo.refl _) _ fun H' s=>by
  cases b with
  | true=>exact jAP (h1 rfl H' s)
  | false=>exact jAK (h2 rfl H' s)
def atn (z:Zs) (n:Nat):V:=match z.ap with
  | some j=>if j < n then .str (pn j) else .non
  | none=>.non
theorem jOB {z:Zs} {i:Nat} (h:z.ap=some i):atn z (i + 1)=.str (pn i):=by
  unfold atn
  rw [h]
  exact if_pos (Nat.lt_succ_self _)
theorem jOC {z:Zs} {i:Nat} (h:z.ap≠some i):atn z (i + 1)=atn z i:=by
  unfold atn
  cases e:z.ap with
  | none=>rfl
  | some j =>
    dsimp only
    have:j≠i:=fun c=>h (by rw [e,c])
    by_cases c:j < i
    · rw [if_pos c,if_pos (by omega)]
    · rw [if_neg c,if_neg (by omega)]
theorem at_dec {z:Zs} {i:Nat}:decide (V.int (i:Int)=atV z.ap)=decide (z.ap=some i):=by
  by_cases c:z.ap=some i
  · rw [decide_eq_true c,c];exact decide_eq_true rfl
  · rw [decide_eq_false c]
    refine decide_eq_false fun e=>c ?_
    cases ea:z.ap with
    | none=>rw [ea] at e;cases e
    | some j=>rw [ea] at e;injection e with e;rw [show j=i by omega]
theorem at_scal {z:Zs} {i:Int}:scal (.int i) (atV z.ap)=true:=by cases z.ap <;> rfl
def jFY (cR cJ cO cX cN cT cP cS cY cM cW:Addr):Sp:=fun vs H Q _=>∃ x pl dm ps r ds m k0 k1 z fe,vs=[.ref x,.ref pl,.ref dm]∧H pl=some (.lst (l3 fun i=>.ref (ps i)))∧Rk r k0 k1∧Pz cR cJ cP cS cY cM cW H x ps r ds k0 k1 m.P z fe∧Bk H dm m z∧m.nm=r.nm∧m.T=r.tot∧∀ H',jAo H H'→Q (.bl true) H'
theorem jBG:jAl ["_law_run","_law_printers","_law_m","_law_at","_law_p","_law_due_here"] ["_law_run","_law_printers","_law_m"] (jAh jEa):=scM
include T in
theorem jJR (F:Fun K "_law_stands" "_law_stands" jEa fa fd) (DaC:Dfn P w K mg base 1 "_law_next" ["_law_m"] (jEX K)) (DaB:Dfn P w K mg base 1 "_law_is" ["_law_num","_law_due_here"] (jGC K)) (Dam:Dfn P w K mg base 2 "_law_tags" ["_law_told","_law_due_here"] (jET K)) (Dab:MtE P w K mg base 2 "stands" cZ ["self"] (jB1 cZ cQ yJ yW yU)) (Daf:MtE P w K mg base 1 "within" cZ ["self"] (jC8 cZ cQ yJ yW yU)) (DbB:MtE P w K mg base 1 "at" yK ["self"] (jLH yK yG cZ cQ yJ yW yU)) (DaA:MtE P w K mg base 3 "upcoming" yK ["self"] (jDH yK yG cZ cQ yJ yW yU)) (DbC:MtE P w K mg base 1 "out" yK ["self"] (jKf yK yG cZ cQ yJ yW yU)) (Dac:MtE P w K mg base 3 "whole" yK ["self"] (jCG yK yG cZ cQ yJ yW yU)) (DbD:MtE P w K mg base 2 "lack" yK ["self"] (jI2 yK yG cZ cQ yJ yW yU)) :
    jAq P w K mg base CX0 4 fa fd ["_law_run","_law_printers","_law_m"] (jFY yK yG vZ vX cK cG cZ cQ yJ yW yU):=by
  refine F.ok jBG (fun vs H Q E h=>?_) (fun cdv A outer s H vs Q E hr h=>?_)
  · obtain ⟨x,pl,dm,ps,r,ds,m,k0,k1,z,fe,rfl,_⟩:=h
    rfl
  obtain ⟨x,pl,dm,ps,r,ds,m,k0,k1,z,fe,rfl,hpl,k,Z,M,en,eT,q⟩:=h
  have hu:=jCr hr 0 (by decide)
  refine ⟨_,(jAb (psA (i:=3) jBG.nd jAL) (jAb (jB_ PassesOwn.never rfl (jB4 rfl T.ar (jAa jAg jAd)) (pgA (i:=4) jBG.nd) (jAb (psA (i:=5) jBG.nd (jAS jAd)) (jAb (jAC (tcA jAZ (pv 4) (dgA hu (pv 2) jAi)) (jAb (psA (i:=3) jBG.nd (jAp (ixA jAH (pv 1) (pv 4)) rfl)) (jAe (psA (i:=5) jBG.nd (dgA hu (pv 2) jAi)))) jAs) (jAe (jAC (PW.pt (jC0 (tcA jCv (jAt 2 jBa hr.m (ixA jAH (pv 1) (pv 4))) (ixA jAH (dgA hu (pv 2) jAi) (pv 4))) (jDN (jBY (jAN (jAv Dam hr.m rfl (jAa (jAt 1 jBa hr.m (ixA jAH (pv 1) (pv 4))) (jAa (pv 5) jAd))) (fun _=>rfl)))))) (jAe (jAm jBC)) jAs))))) (jAb (jAC (PW.pt (jC0 (tcA jCv (jAt 1 jBa hr.m (pv 0)) (pv 3)) (jC0 (tcA (jCv.or (jH4 (n:=0) hu)) (jAt 3 jBa hr.m (pv 0)) (jAv DaC hr.m rfl (jAa (pv 2) jAd))) (jDN (jBY (jAN (jAv DaB hr.m rfl (jAa (jAt 1 jBa hr.m (pv 0)) (jAa (jAG jAF rfl T.ae PySem.boot_len (jAa (dgA hu (pv 2) jAi) jAd)) jAd))) (fun _=>rfl))))))) (jAe (jAm jBC)) jAs) (jAe (jAm (jEu (jAG jCn rfl T.aB jDQ (jAa (jAt 3 jBa hr.m (pv 0)) (jAa (jCV rfl T.bw jMw (jDR _)) jAd))) (jEu (ecA jAZ (jAt 3 jBa hr.m (pv 0)) (dgA hu (pv 2) jAi)) (jGT (ecA jC1 (jAt 2 jBa hr.m (pv 0)) jAL))))))))),?_⟩
  have T1:=k.T1
  have T9:=k.T9
  have af:=M.af
  have fT:=M.fT
  have bT:=M.bT
  refine jAU (fun σ G=>G=H∧σ=[some (.ref x),some (.ref pl),some (.ref dm),some .non,none,none]) (fun R hR=>hR _ _ ⟨rfl,rfl⟩) ?_
  rintro σ G ⟨rfl,rfl⟩
  refine jAU (fun σ H=>jAo G H∧∃ v4 v5:Option V,σ=[some (.ref x),some (.ref pl),some (.ref dm),some (atn z 3),v4,v5]) (fun R hR=>?_) ?_
  · refine ⟨3,rfl,by decide,by decide,jE2 (lo:=0) (n:=3) (fun i σ H=>jAo G H∧∃ v4 v5:Option V,σ=[some (.ref x),some (.ref pl),some (.ref dm),some (atn z i),v4,v5]) ⟨jAo.refl _,none,none,?_⟩ (fun i σ G0 hi zz=>?_) (fun σ G0 zz=>hR _ _ zz)⟩
    · rw [show atn z 0=.non by unfold atn;split;exact if_neg (Nat.not_lt_zero _);rfl]
      all_goals rfl
    obtain ⟨s0,v4,v5,rfl⟩:=zz
    rw [show (0:Int) + (i:Int)=(i:Int) from Int.zero_add _]
    have i0:0≤((i:Nat):Int):=by omega
    have i3:((i:Nat):Int) < 3:=by omega
    dsimp only [jBr]
    refine ⟨small (Nat.zero_le _),fun e ne=>?_⟩
    have s1:=jAk ne (.lst [])
    have he:upd G0 e (.lst []) e=some (.lst []):=jAc
    generalize upd G0 e (.lst [])=G1 at s1 he ⊢
    have s01:=s0.trans s1
    have Z1:=Z.same s01
    have M1:=M.same s01
    have hp1:=s01 _ _ hpl
    have W:=Z1.W i hi
    dsimp only [jBr]
    refine jAU (fun σ G'=>G'=G1∧∃ dl us,G1 dl=some (.lst us)∧jAy G1 r.nm us (nsZ z i)∧σ=[some (.ref x),some (.ref pl),some (.ref dm),some (atn z (i + 1)),some (.int (i:Int)),some (.ref dl)]) (fun R hR=>⟨_,rfl,_,rfl,dm,_,rfl,jHj M1.d,by rw [M.av];exact at_scal,decide (z.ap=some i),by rw [M.av,at_dec],jBp (fun c=>?_) (fun c=>?_)⟩) ?_
    · have c:=of_decide_eq_true c
      refine ⟨_,rfl,_,rfl,pl,_,_,rfl,rfl,SqL.of hp1,i0,i3,fun v hv=>?_⟩
      obtain rfl:=jBg hi hv
      refine ⟨ps i,cZ,_,_,_,rfl,W.P.o,T.ac,T.bu,rfl,?_⟩
      dsimp only [jBr]
      obtain ⟨ws,hw,tw⟩:=M1.w.ex
      rw [en] at tw
      refine ⟨_,rfl,dm,_,rfl,jBX M1.d,hR _ _ ⟨rfl,m.wi,ws,hw,by rw [jKT (.inl c)];exact tw,?_⟩⟩
      rw [jOB c,W.nm]
      rfl
    · have c:z.ap≠some i:=fun e=>c (decide_eq_true e)
      refine hR _ _ ⟨rfl,e,[],he,by unfold nsZ;rw [if_neg c];exact jFW,?_⟩
      rw [jOC c]
      rfl
    rintro σ G2 ⟨rfl,dl,us,hus,tus,rfl⟩
    refine ⟨_,rfl,_,rfl,pl,_,_,rfl,rfl,SqL.of hp1,i0,i3,fun v hv=>?_⟩
    obtain rfl:=jBg hi hv
    refine ⟨ps i,_,_,_,_,_,rfl,W.P.o,rfl,T.ac,Dab,ps i,ds i,rfl,W.P,_,rfl,dm,_,rfl,jBO M1.d,_,rfl,m.wl,_,_,rfl,rfl,SqL.of M1.s,i0,i3,fun v hv=>?_⟩
    obtain rfl:=jBg hi hv
    refine ⟨rfl,_,rfl,jKM (by rw [W.S]) ?_⟩
    refine ⟨_,rfl,_,rfl,pl,_,_,rfl,rfl,SqL.of hp1,i0,i3,fun v hv=>?_⟩
    obtain rfl:=jBg hi hv
    refine ⟨ps i,_,_,_,_,_,rfl,W.P.o,rfl,T.ac,Daf,ps i,ds i,rfl,W.P,fun l H1 s2 _ hl=>?_⟩
    exact ⟨_,rfl,l,dl,r.nm,_,_,_,rfl,hl,s2 _ _ hus,W.tg.same s2,tus.same s2,(by unfold nsZ;split;(rw [jBw];omega);(show 0≤900;decide)),true,rfl,jAK ⟨s01.trans s2,_,_,rfl⟩⟩
  rintro σ G ⟨s0,v4,v5,rfl⟩
  replace Z:=Z.same s0
  replace M:=M.same s0
  have nb:(R5 r (z.ap.map ps) z.b z.a).br≠true:=fun e=>by rw [show (R5 r (z.ap.map ps) z.b z.a).br=r.br from rfl,k.hb] at e;cases e
  refine jAU (fun σ G'=>jAo G G'∧σ=[some (.ref x),some (.ref pl),some (.ref dm),some (atn z 3),v4,v5]) (fun R hR=>Tst.iff (b:=false || (false || false)) (Tst.or (fun G1 s1 Q' q'=>?_) (Tst.or (fun G1 s1 Q' q'=>?_) (fun G1 s1 Q' q'=>?_))) (fun e=>by cases e) (fun _ G' s'=>hR _ _ ⟨s',rfl⟩)) ?_
  · -- where it is
    have Z1:=Z.same s1
    refine ⟨_,rfl,x,_,_,_,_,_,rfl,Z1.R.o,rfl,T.aa,DbB,x,_,rfl,Z1.R,fun hp=>?_,fun p hp=>?_⟩
    · refine ⟨_,rfl,?_⟩
      rw [show atn z 3=.non by unfold atn;rw [jCU hp]]
      exact ⟨rfl,false,rfl,q' _ (jAo.refl _)⟩
    · obtain ⟨i,hi,rfl⟩:=jHl hp
      have i3:=(Z1.ok.at3 i hi).1
      have W:=Z1.W i i3
      refine ⟨ds i,W.P,_,rfl,?_⟩
      rw [show atn z 3=.str (pn i) by unfold atn;rw [hi];exact if_pos i3,W.nm]
      exact ⟨rfl,false,by rw [decide_eq_true rfl];rfl,q' _ (jAo.refl _)⟩
  · -- what comes next
    have Z1:=Z.same s1
    have M1:=M.same s1
    refine ⟨_,rfl,x,_,_,_,_,_,rfl,Z1.R.o,rfl,T.aa,DaA,x,_,rfl,Z1.R,fun hp=>?_,fun p hp=>?_⟩
    · refine ⟨_,rfl,dm,m,z,rfl,M1,fun _=>?_,fun e=>absurd (jCU hp) e⟩
      exact .inl ⟨rfl,false,rfl,q' _ (jAo.refl _)⟩
    · obtain ⟨i,hi,rfl⟩:=jHl hp
      have i3:=(Z1.ok.at3 i hi).1
      have Wd1:=Z1.wd i3 hi
      refine ⟨ds i,_,Wd1.P,Wd1.tg,fun cn t G2 s2 nt ht=>?_,fun cn G2 s2=>?_⟩
      · rw [jGF af] at cn ht
        have fl:z.b + z.f≠m.T + 1:=fun e=>by
          have c':itm z.b z.f < ((r.tot:Nat):Int):=cn
          unfold itm at c'
          split at c' <;> omega
        refine ⟨_,rfl,dm,m,z,rfl,M1.same s2,fun e=>?_,fun _ _ u G3 s3 nu hu2=>?_⟩
        · rcases e with e | e
          · rw [hi] at e;cases e
          · exact absurd e fl
        rw [en] at hu2
        refine .inr ⟨t,u,_,_,rfl,rfl,.inr ⟨SqT.of (s3 _ _ ht),SqT.of hu2⟩,rfl,fun j hj=>?_,false,rfl,q' _ (s2.trans s3)⟩
        have:j=0∨j=1:=by have:j < 2:=hj;omega
        rcases this with rfl | rfl <;> exact ⟨rfl,rfl⟩
      · rw [jGF af] at cn
        have fl:z.b + z.f=m.T + 1:=by
          have c':¬ itm z.b z.f < ((r.tot:Nat):Int):=cn
          unfold itm at c'
          split at c' <;> omega
        exact ⟨_,rfl,dm,m,z,rfl,M1.same s2,fun _=>.inl ⟨rfl,false,rfl,q' _ s2⟩,fun _ e=>absurd fl e⟩
  · -- how many are out
    have Z1:=Z.same s1
    have M1:=M.same s1
    exact ⟨_,rfl,x,_,_,_,_,_,rfl,Z1.R.o,rfl,T.aa,DbC,x,_,rfl,Z1.R,_,rfl,dm,_,rfl,jFV M1.d,m.ou,_,rfl,.inl (SqL.of M1.o),_,congrArg (fun n:Nat=>[V.int (((R5 r (z.ap.map ps) z.b z.a).ps:Nat):Int),V.int (n:Int)]) (jEr _),true,rfl,q' _ (jAo.refl _)⟩
  rintro σ G1 ⟨s1,rfl⟩
  replace Z:=Z.same s1
  replace M:=M.same s1
  have ew:decide ((R5 r (z.ap.map ps) z.b z.a).ps=(R5 r (z.ap.map ps) z.b z.a).tot)=m.ov:=by
    rw [M.ov]
    have bT:=M.bT
    show decide (z.b + (z.a - 1)=r.tot)=_
    by_cases c:z.b + z.a=m.T + 1
    · rw [decide_eq_true c,decide_eq_true (by omega)]
    · rw [decide_eq_false c,decide_eq_false (by omega)]
  refine ⟨_,rfl,x,_,_,_,_,_,rfl,Z.R.o,rfl,T.aa,Dac,x,_,rfl,Z.R,_,_,_,true,rfl,jBx.bl _,jCI _,true,rfl,jAP ?_⟩
  refine ⟨_,rfl,x,_,_,_,_,_,rfl,Z.R.o,rfl,T.aa,Dac,x,_,rfl,Z.R,_,rfl,dm,_,rfl,jJa M.d,rfl,true,(by rw [ew,decide_eq_true rfl]),jAP ?_⟩
  exact ⟨_,rfl,x,_,_,_,_,_,rfl,Z.R.o,rfl,T.aa,DbD,x,_,rfl,Z.R,fun _=>⟨rfl,q _ (s0.trans s1)⟩,fun e=>absurd e nb⟩
end
end My
namespace My
open PySem L2
open Blk (sg sg_inj sg_app)
section
variable {P:Program} {w:World} {K:PySem.W.Frag} {mg:Str→Option Value} {base:Heap} {fa yQ yZ yX yY yV yJ yW yU yK yG cQ cZ cV cK cG vQ vZ vX vY:Addr} {fd:FuncData} (T:Txt K mg yQ yZ yX yY yV yJ yW yU yK yG cQ cZ cV cK cG vQ vZ vX vY)
structure DL (H:Hp) (l:Addr) (us:List V):Prop where
  l:H l=some (.lst us)
  u:∀ (i:Nat) y,us[i]?=some y→∃ t D,y=.ref t∧H t=some (.tup (ddV D))∧D.Ok
  n:us.length≤5
theorem dl_one {H:Hp} {l t:Addr} {D:Dd} (ok:D.Ok) (ht:H t=some (.tup (ddV D))) (hl:H l=some (.lst [V.ref t])):DL H l [V.ref t]:=by
  refine ⟨hl,fun i y e=>?_,by show 1≤5;decide⟩
  obtain rfl:V.ref t=y:=List.mem_singleton.mp (List.mem_of_getElem? e) |>.symm
  exact ⟨t,D,rfl,ht,ok⟩
def jE1 (K:PySem.W.Frag):Sp:=fun vs H Q _=>∃ (c:Int) (k:Nat) (dm:Addr) (m:MD) (z:Zs),vs=[.int c,.int (0 + (k:Int)),.ref dm]∧k≤100∧Bk H dm m z∧Zr m z∧∀ l us H',jAo H H'→H l=none→DL H' l us→Q (.ref l) H'
theorem jB9:jAl ["_law_cell","_law_k","_law_m","_law_way","_law_p"] ["_law_cell","_law_k","_law_m"] (jAh jC6):=scM
include T in
theorem jIa (F:Fun K "_law_deeds_by" "_law_deeds_by" jC6 fa fd) (Dad:Dfn P w K mg base 1 "_law_mix" ["_law_cell","_law_k","_law_many"] (jFB K)) :
    jAq P w K mg base CX0 2 fa fd ["_law_cell","_law_k","_law_m"] (jE1 K):=by
  refine F.ok jB9 (fun vs H Q E h=>?_) (fun cdv A outer s H vs Q E hr h=>?_)
  · obtain ⟨c,k,dm,m,z,rfl,_⟩:=h
    rfl
  obtain ⟨c,k,dm,m,z,rfl,k1,M,zr,q⟩:=h
  have hu:=jCr hr 0 (by decide)
  refine ⟨_,(jAb (psA (i:=3) jB9.nd (jAv Dad hr.m rfl (jAa (pv 0) (jAa (pv 1) (jAa jAg jAd))))) (jAb (psA (i:=4) jB9.nd (jAv Dad hr.m rfl (jAa (pv 0) (jAa (jAB jA2 (pv 1) jAg) (jAa jAg jAd))))) (jAb (jAC (PW.pt (jEt (tcA jHq (dgA hu (pv 2) jAi) jAL) (jEt (tcA jCv (ixA jAH (dgA hu (pv 2) jAi) (dgA hu (pv 2) jAi)) jAi) (jEm (tcA jAZ (jAB jBP (pv 3) jAg) jAg))))) (jAe (psA (i:=4) jB9.nd (dgA hu (pv 2) jAi))) jAs) (jAb (jAC (PW.pt (jEt (tcA jAZ (ixA jAH (dgA hu (pv 2) jAi) (pv 4)) jAi) (jEm (tcA jAZ (jAB jBP (pv 3) jAg) jAg)))) (jAe (jAm (jAS (jAa (jAM (jAa jAi (jAa (pv 4) jAd))) jAd)))) jAs) (jAb (jAC (PW.pt (jEt (tcA jAZ (ixA jAH (dgA hu (pv 2) jAi) (pv 4)) jAi) (jEm (tcA jAZ (jAB jBP (pv 3) jAg) jAg)))) (jAe (jAm (jAS (jAa (jAM (jAa jAi (jAa (pv 4) jAd))) jAd)))) jAs) (jAb (jAC (tcA jF9 (pv 3) jAg) (jAe (jAm (jCg (frees:=[]) ⟨by decide +kernel,rfl,rfl,by decide +kernel,trivial,by decide +kernel,jBd rfl,rfl⟩ rfl (jB4 rfl T.ar (jAa (jAB jA2 jAg (jAv Dad hr.m rfl (jAa (pv 0) (jAa (jAB jA2 (pv 1) jAg) (jAa jAg jAd))))) jAd)) (fun _ _ _ _=>jCo) (fun _ _ _ _=>by exact (jAM (jAa jAi jAd)))))) jAs) (jAb (jAC (tcA jF9 (pv 3) jAg) (jAe (jAm (jAS (jAa (jAM (jAa jAi (jAa (pv 4) jAd))) jAd)))) jAs) (jAb (jAC (tcA jF9 (pv 3) jAg) (jAe (jAm (jAS (jAa (jAM (jAa jAi (jAa (jAv Dad hr.m rfl (jAa (pv 0) (jAa (jAB jA2 (pv 1) jAg) (jAa (jAB jA2 (jAG jAF rfl T.ae PySem.boot_len (jAa (dgA hu (pv 2) jAi) jAd)) jAg) jAd)))) jAd))) jAd)))) jAs) (jAe (jAm (ixA jAH (jAS (jAa (jAS (jAa (jAM (jAa jAi (jAa (pv 4) jAd))) jAd)) (jAa (jAS (jAa (jAM (jAa jAi (jAa (pv 4) jAd))) jAd)) (jAa (jAS (jAa (jAM (jAa jAi (jAa (pv 4) jAd))) jAd)) jAd)))) (jAB jGV (pv 3) jAg)))))))))))),?_⟩
  have z1:1≤sizeLine:=small (by decide)
  have z2:2≤sizeLine:=small (by decide)
  -- a list of one deed
  have jHu:∀ (D:Dd) (G:Hp),D.Ok→jAo H G→∀ t,G t=none→∀ l,upd G t (.tup (ddV D)) l=none→jAo H (upd (upd G t (.tup (ddV D))) l (.lst [V.ref t]))∧H l=none∧DL (upd (upd G t (.tup (ddV D))) l (.lst [V.ref t])) l [V.ref t]:=fun D G ok sG t nt l nl=>by
    have s1:=jAk nt (.tup (ddV D))
    have s2:=jAk nl (.lst [V.ref t])
    exact ⟨(sG.trans s1).trans s2,sG.free (s1.free nl),dl_one ok (s2 _ _ jAc) jAc⟩
  have one:∀ (D:Dd) (G:Hp),D.Ok→jAo H G→∀ t,G t=none→∀ l,upd G t (.tup (ddV D)) l=none→Q (.ref l) (upd (upd G t (.tup (ddV D))) l (.lst [V.ref t])):=fun D G ok sG t nt l nl=>let ⟨h1,h2,h3⟩:=jHu D G ok sG t nt l nl;q l _ _ h1 h2 h3
  refine jAU (fun σ G=>jAo H G∧∃ w':Int,0≤w'∧w' < 16∧σ=[some (.int c),some (.int (0 + (k:Int))),some (.ref dm),some (.int w'),none]) (fun R hR=>⟨_,rfl,_,rfl,c,_,16,rfl,by omega,by omega,by decide,fun G s1=>hR _ _ ⟨s1,_,jC_ (by decide),jES (by decide),rfl⟩⟩) ?_
  rintro σ G ⟨s0,w',w0,w16,rfl⟩
  replace M:=M.same s0
  refine jAU (fun σ G'=>jAo G G'∧∃ p:Nat,p < 3∧σ=[some (.int c),some (.int (0 + (k:Int))),some (.ref dm),some (.int w'),some (.int (p:Int))]) (fun R hR=>⟨_,rfl,_,rfl,_,_,rfl,rfl,c,_,3,rfl,by omega,by omega,by decide,fun G1 s1=>hR _ _ ⟨s1,(jBW c (0 + (k:Int) + 32) 3).toNat,?_,?_⟩⟩) ?_
  · have:=jC_ (c:=c) (k:=0 + (k:Int) + 32) (show (0:Int) < 3 by decide)
    have:=jES (c:=c) (k:=0 + (k:Int) + 32) (show (0:Int) < 3 by decide)
    omega
  · rw [Int.toNat_of_nonneg (jC_ (by decide))]
    rfl
  rintro σ G1 ⟨s1,p0,p30,rfl⟩
  replace s0:=s0.trans s1
  replace M:=M.same s1
  clear s1
  refine jAU (fun σ G'=>G'=G1∧∃ p:Nat,p < 3∧σ=[some (.int c),some (.int (0 + (k:Int))),some (.ref dm),some (.int w'),some (.int (p:Int))]) (fun R hR=>⟨_,rfl,dm,_,rfl,jHj M.d,rfl,?_⟩) ?_
  · rw [M.av]
    have keep:=hR [some (.int c),some (.int (0 + (k:Int))),some (.ref dm),some (.int w'),some (.int (p0:Int))] G1 ⟨rfl,p0,p30,rfl⟩
    cases hi:z.ap with
    | none=>exact ⟨false,rfl,jAK (jAK keep)⟩
    | some i =>
      have i3:=(zr.at3 i hi).1
      have eav:m.av=.int (i:Int):=by rw [M.av,hi];rfl
      refine ⟨true,rfl,jAP ⟨_,rfl,dm,_,rfl,jBO M.d,_,rfl,dm,_,rfl,jHj M.d,m.wl,_,_,rfl,eav,SqL.of M.s,by omega,(by show (i:Int) < 3;omega),fun v hv=>?_⟩⟩
      obtain rfl:=jBg i3 hv
      refine ⟨rfl,_,rfl,jBp (fun _=>?_) (fun _=>jAK keep)⟩
      refine ⟨_,rfl,_,_,rfl,rfl,(by show (0:Int) < 2;decide),rfl,_,rfl,jBp (fun _=>?_) (fun _=>keep)⟩
      refine ⟨_,rfl,dm,_,rfl,jHj M.d,hR _ _ ⟨rfl,i,i3,?_⟩⟩
      rw [eav]
      rfl
  rintro σ G2 ⟨rfl,p,p3,rfl⟩
  have p0':0≤((p:Nat):Int):=by omega
  have p3':((p:Nat):Int) < 3:=by omega
  clear p30
  refine jAU (fun σ G'=>G'=G2∧σ=[some (.int c),some (.int (0 + (k:Int))),some (.ref dm),some (.int w'),some (.int (p:Int))]) (fun R hR=>⟨_,rfl,dm,_,rfl,jBO M.d,_,rfl,m.wl,_,_,rfl,rfl,SqL.of M.s,p0',p3',fun v hv=>?_⟩) ?_
  · obtain rfl:=jBg p3 hv
    refine ⟨rfl,_,rfl,jBp (fun _=>⟨_,rfl,_,_,rfl,rfl,(by show (0:Int) < 4;decide),rfl,_,rfl,jBp (fun _=>?_) (fun _=>hR _ _ ⟨rfl,rfl⟩)⟩) (fun _=>jAK (hR _ _ ⟨rfl,rfl⟩))⟩
    exact ⟨_,rfl,z2,fun t nt=>⟨z1,fun l nl=>one (.mend p) G2 p3 s0 t nt l nl⟩⟩
  rintro σ G3 ⟨rfl,rfl⟩
  refine jAU (fun σ G'=>G'=G3∧σ=[some (.int c),some (.int (0 + (k:Int))),some (.ref dm),some (.int w'),some (.int (p:Int))]) (fun R hR=>⟨_,rfl,dm,_,rfl,jBO M.d,_,rfl,m.wl,_,_,rfl,rfl,SqL.of M.s,p0',p3',fun v hv=>?_⟩) ?_
  · obtain rfl:=jBg p3 hv
    refine ⟨rfl,_,rfl,jBp (fun _=>⟨_,rfl,_,_,rfl,rfl,(by show (0:Int) < 4;decide),rfl,_,rfl,jBp (fun _=>?_) (fun _=>hR _ _ ⟨rfl,rfl⟩)⟩) (fun _=>jAK (hR _ _ ⟨rfl,rfl⟩))⟩
    exact ⟨_,rfl,z2,fun t nt=>⟨z1,fun l nl=>one (.come p) G3 p3 s0 t nt l nl⟩⟩
  rintro σ G4 ⟨rfl,rfl⟩
  -- steps
  refine jAU (fun σ G'=>G'=G4∧σ=[some (.int c),some (.int (0 + (k:Int))),some (.ref dm),some (.int w'),some (.int (p:Int))]) (fun R hR=>⟨_,rfl,_,_,rfl,rfl,_,rfl,jBp (fun _=>?_) (fun c=>hR _ _ ⟨rfl,rfl⟩)⟩) ?_
  · obtain ⟨j,ej,j5⟩:∃ j:Nat,jBW c (0 + (k:Int) + 64) 5=(j:Int)∧j < 5:=by
      have:=jC_ (c:=c) (k:=0 + (k:Int) + 64) (show (0:Int) < 5 by decide)
      have:=jES (c:=c) (k:=0 + (k:Int) + 64) (show (0:Int) < 5 by decide)
      exact ⟨(jBW c (0 + (k:Int) + 64) 5).toNat,by omega,by omega⟩
    refine ⟨_,rfl,_,rfl,_,_,rfl,rfl,c,_,5,rfl,by omega,by omega,by decide,fun G5 s3=>⟨_,_,rfl,rfl,?_⟩⟩
    refine ⟨_,rfl,by show -2 ^ 62≤1 + jBW c (0 + (k:Int) + 64) 5;rw [ej];omega,by show 1 + jBW c (0 + (k:Int) + 64) 5 < 2 ^ 62;rw [ej];omega,?_⟩
    have jl:(1 + jBW c (0 + (k:Int) + 64) 5).toNat=j + 1:=by rw [ej];omega
    refine jEz (jDT 0 (1 + jBW c (0 + (k:Int) + 64) 5).toNat G5) (fun _ y H3=>∃ t,y=.ref t∧H3 t=some (.tup (ddV .step))) (by rw [List.length_map,List.length_range,jl];exact jAX (by omega)) (fun x hx' H' R _ r=>r) (fun x hx' H' R sm rr=>⟨z1,fun t nt=>rr _ _ (jAk nt _) ⟨fun b=>b=t,fun b e=>by rw [e];exact ⟨nt,_,jAc⟩,fun H3 g=>⟨t,rfl,by rw [g t rfl];exact jAc⟩⟩⟩) (fun l H5 us s5 nl hl l5 hg=>?_)
    rw [List.length_map,List.length_range,jl] at l5
    have s35:=s3.trans s5
    refine q l us H5 (s0.trans s35) (s0.free (s3.free nl)) ⟨hl,fun i y e=>?_,by omega⟩
    obtain ⟨x,ex⟩:∃ x,((List.range (1 + jBW c (0 + (k:Int) + 64) 5).toNat).map fun i=>V.int (0 + (i:Nat)))[i]?=some x:=⟨_,List.getElem?_eq_getElem (by rw [List.length_map,List.length_range,jl,← l5];exact (List.getElem?_eq_some_iff.mp e).1)⟩
    obtain ⟨t,e1,e2⟩:=hg i x y ex e
    exact ⟨t,.step,e1,e2,trivial⟩
  rintro σ G5 ⟨rfl,rfl⟩
  refine jAU (fun σ G'=>G'=G5∧σ=[some (.int c),some (.int (0 + (k:Int))),some (.ref dm),some (.int w'),some (.int (p:Int))]) (fun R hR=>⟨_,rfl,_,_,rfl,rfl,_,rfl,jBp (fun _=>?_) (fun c=>hR _ _ ⟨rfl,rfl⟩)⟩) ?_
  · exact ⟨_,rfl,z2,fun t nt=>⟨z1,fun l nl=>one (.take p) G5 p3 s0 t nt l nl⟩⟩
  rintro σ G6 ⟨rfl,rfl⟩
  obtain ⟨ws,hw,tw⟩:=M.w.ex
  refine jAU (fun σ G'=>G'=G6∧13≤w'∧σ=[some (.int c),some (.int (0 + (k:Int))),some (.ref dm),some (.int w'),some (.int (p:Int))]) (fun R hR=>⟨_,rfl,_,_,rfl,rfl,_,rfl,jBp (fun _=>?_) (fun c=>hR _ _ ⟨rfl,by have c':¬ w' < 13:=fun z=>c (decide_eq_true z);omega,rfl⟩)⟩) ?_
  · have lw:(ws.length:Int) + 2 > 0:=by omega
    obtain ⟨v,ev⟩:∃ v:Nat,jBW c (0 + (k:Int) + 128) ((ws.length:Int) + 2)=(v:Int):=⟨_,(Int.toNat_of_nonneg (jC_ lw)).symm⟩
    refine ⟨_,rfl,_,rfl,_,_,rfl,rfl,_,rfl,dm,_,rfl,jBX M.d,m.wi,_,rfl,.inl (SqL.of hw),_,_,rfl,rfl,c,_,_,rfl,by omega,by omega,lw,fun G7 s7=>?_⟩
    rw [ev]
    exact ⟨z2,fun t nt=>⟨z1,fun l nl=>one (.jam v) G7 trivial (s0.trans s7) t nt l nl⟩⟩
  rintro σ G7 ⟨rfl,w13,rfl⟩
  have ds:∀ {G G':Hp} {l:Addr} {us:List V},DL G l us→jAo G G'→DL G' l us:=fun d s'=>⟨s' _ _ d.l,fun i y e=>let ⟨t,D,e1,e2,e3⟩:=d.u i y e;⟨t,D,e1,s' _ _ e2,e3⟩,d.n⟩
  refine ⟨_,rfl,z2,fun t1 n1=>⟨z1,fun l1 m1=>?_⟩⟩
  obtain ⟨s1,f1,d1⟩:=jHu (.leave p) G7 p3 s0 t1 n1 l1 m1
  generalize hG5:upd (upd G7 t1 (.tup (ddV (.leave p)))) l1 (.lst [V.ref t1])=F5 at s1 d1
  rw [show upd (upd G7 t1 (.tup [V.str (Str.ofString "leave"),.int (p:Int)])) l1 (.lst [V.ref t1])=F5 from hG5]
  refine ⟨_,rfl,z2,fun t2 n2=>⟨z1,fun l2 m2=>?_⟩⟩
  obtain ⟨s2,f2,d2⟩:=jHu (.come p) F5 p3 s1 t2 n2 l2 m2
  have v2:jAo F5 (upd (upd F5 t2 (.tup (ddV (.come p)))) l2 (.lst [V.ref t2])):=(jAk n2 _).trans (jAk m2 _)
  generalize hG6:upd (upd F5 t2 (.tup (ddV (.come p)))) l2 (.lst [V.ref t2])=F6 at s2 d2 v2
  rw [show upd (upd F5 t2 (.tup [V.str (Str.ofString "come"),.int (p:Int)])) l2 (.lst [V.ref t2])=F6 from hG6]
  refine ⟨_,rfl,z2,fun t3 n3=>⟨z1,fun l3' m3=>?_⟩⟩
  obtain ⟨s3,f3,d3⟩:=jHu (.mend p) F6 p3 s2 t3 n3 l3' m3
  have v3:jAo F6 (upd (upd F6 t3 (.tup (ddV (.mend p)))) l3' (.lst [V.ref t3])):=(jAk n3 _).trans (jAk m3 _)
  generalize hG7:upd (upd F6 t3 (.tup (ddV (.mend p)))) l3' (.lst [V.ref t3])=F7 at s3 d3 v3
  rw [show upd (upd F6 t3 (.tup [V.str (Str.ofString "mend"),.int (p:Int)])) l3' (.lst [V.ref t3])=F7 from hG7]
  refine ⟨small (show 3≤1000 by decide),fun l n=>?_⟩
  have s4:=jAk n (.lst [V.ref l1,.ref l2,.ref l3'])
  refine ⟨_,rfl,_,_,rfl,rfl,l,_,_,rfl,rfl,SqL.of jAc,by omega,by show w' - 13 < 3;omega,fun v hv=>?_⟩
  have hm:=List.mem_of_getElem? hv
  simp only [List.mem_cons,List.not_mem_nil,or_false] at hm
  have s04:=s3.trans s4
  rcases hm with rfl | rfl | rfl
  · exact q l1 _ _ s04 f1 (ds (ds (ds d1 v2) v3) s4)
  · exact q l2 _ _ s04 f2 (ds (ds d2 v3) s4)
  · exact q l3' _ _ s04 f3 (ds d3 s4)
end
end My
namespace My
open PySem L2
open Blk (sg sg_inj sg_app)
section
variable {P:Program} {w:World} {K:PySem.W.Frag} {mg:Str→Option Value} {base:Heap} {fa yQ yZ yX yY yV yJ yW yU yK yG cQ cZ cV cK cG vQ vZ vX vY:Addr} {fd:FuncData} (T:Txt K mg yQ yZ yX yY yV yJ yW yU yK yG cQ cZ cV cK cG vQ vZ vX vY)
section
variable {cR cJ cP cS cY cM cW:Addr} {H0 H H':Hp} {x p q:Addr} {ps:Nat→Addr} {r:RD} {d d' e:PD} {ds:Nat→PD} {k0 k1:Str} {P:Nat→Nat} {z:Zs} {i n fe:Nat}
structure Pn (cP cS cY cM cW:Addr) (H0 H:Hp) (p:Addr) (d:PD) (nm0:Str) (P0:Nat) (k0 k1:Str):Prop where
  P:jAD cP cS cY cM cW H p d
  nm:d.name=nm0
  pa:d.path=(P0:Int)
  rs:d.rs=[(k0,999),(k1,999)]
  rb:d.rb=9999
  rc:d.rc=9999
  tg:d.tags=[]
  S:d.S=.rd
  np:H0 p=none
  ni:H0 d.ins=none
  n1:H0 d.tr1=none
  n2:H0 d.tr2=none
  n3:H0 d.ik1=none
  n4:H0 d.ik2=none
def Am0 (k0 k1:Str) (d:PD):Prop:=d.am=[(k0,0),(k1,0)]∧d.b=0∧d.c=0
structure P3 (cP cS cY cM cW:Addr) (H0 H:Hp) (D:Addr) (ps:Nat→Addr) (ds:Nat→PD) (n f:Nat) (P:Nat→Nat) (k0 k1:Str):Prop where
  a:∀ i,i < n→Pn cP cS cY cM cW H0 H (ps i) (ds i) (pn i) (P i) k0 k1∧D≠(ds i).ins
  s:∀ i j,i < n→j < n→i≠j→Sp2 (ps i) (ps j) (ds i) (ds j)
  f:∀ i,i < n→(i < f→Stk (ds i) k0 k1 0)∧(f≤i→Am0 k0 k1 (ds i))
theorem Pn.same {nm0:Str} {P0:Nat} (h:Pn cP cS cY cM cW H0 H p d nm0 P0 k0 k1) (s:jAo H H'):Pn cP cS cY cM cW H0 H' p d nm0 P0 k0 k1:={ h with P:=h.P.same s }
theorem jMM {nm0:Str} {P0:Nat} (U:jAD cP cS cY cM cW H p d) (N:Pn cP cS cY cM cW H H' q e nm0 P0 k0 k1):Sp2 p q d e∧Sp2 q p e d:=by
  obtain ⟨⟨dt,t1⟩,t2,t3,_⟩:=U.T
  obtain ⟨⟨di,i1⟩,i2,i3,_⟩:=U.I
  exact ⟨⟨jAf U.o N.np,jAf U.n N.ni,jAf t3 N.n1,jAf t3 N.n2,jAf t3 N.n3,jAf t3 N.n4,jAf i3 N.n1,jAf i3 N.n2,jAf i3 N.n3,jAf i3 N.n4⟩,⟨(jAf U.o N.np).symm,(jAf U.n N.ni).symm,(jAf t2 N.n2).symm,(jAf t3 N.n2).symm,(jAf i2 N.n2).symm,(jAf i3 N.n2).symm,(jAf t2 N.n4).symm,(jAf t3 N.n4).symm,(jAf i2 N.n4).symm,(jAf i3 N.n4).symm⟩⟩
def jHn (ps:Nat→Addr) (i:Nat) (x:Addr):Nat→Addr:=fun j=>if j=i then x else ps j
def tkN (n:Nat) (ps:Nat→Addr):List V:=(List.range n).map fun j=>V.ref (ps j)
theorem jOD (n:Nat) (ps:Nat→Addr) (x:Addr):tkN n ps ++ [.ref x]=tkN (n + 1) (jHn ps n x):=by
  unfold tkN
  rw [List.range_succ,List.map_append]
  congr 1
  · refine List.map_congr_left fun j hj=>?_
    have:=List.mem_range.mp hj
    unfold jHn
    rw [if_neg (by omega)]
  · show _=[V.ref (jHn ps n x n)]
    unfold jHn
    rw [if_pos rfl]
theorem jAD.upl {l:Addr} {ts us:List V} (U:jAD cP cS cY cM cW H q e) (hl:H l=some (.lst ts)) (n1:l≠e.ins):jAD cP cS cY cM cW (upd H l (.lst us)) q e:=by
  have off:∀ b o,H b=some o→(∀ zs,o≠.lst zs)→upd H l (.lst us) b=some o:=fun b o e n=>by
    rw [jAj (fun z=>by rw [z,hl] at e;injection e with e;exact n _ e.symm)]
    exact e
  obtain ⟨⟨dt,t1⟩,t2,t3,t4⟩:=U.T
  obtain ⟨⟨di,i1⟩,i2,i3,i4⟩:=U.I
  obtain ⟨dst,hs⟩:=U.s
  exact { U with o:=off _ _ U.o (by intro zs z;cases z),T:=⟨⟨dt,off _ _ t1 (by intro zs z;cases z)⟩,off _ _ t2 (by intro zs z;cases z),off _ _ t3 (by intro zs z;cases z),t4⟩,I:=⟨⟨di,off _ _ i1 (by intro zs z;cases z)⟩,off _ _ i2 (by intro zs z;cases z),off _ _ i3 (by intro zs z;cases z),i4⟩,s:=⟨dst,off _ _ hs (by intro zs z;cases z)⟩,n:=by rw [jAj (Ne.symm n1)];exact U.n }
theorem P3.add {D:Addr} {G:Hp} {ts us:List V} (h:P3 cP cS cY cM cW H0 H D ps ds n 0 P k0 k1) (sm:jAo H0 H) (s:jAo H G) (N:Pn cP cS cY cM cW H G x d (pn n) (P n) k0 k1) (am:Am0 k0 k1 d) (hD:H D=some (.lst ts)):P3 cP cS cY cM cW H0 (upd G D (.lst us)) D (jHn ps n x) (jBD ds n d) (n + 1) 0 P k0 k1:=by
  have hDG:=s _ _ hD
  have nD:D≠d.ins:=jAf hD N.ni
  have e0:jHn ps n x n=x∧jBD ds n d n=d:=⟨if_pos rfl,if_pos rfl⟩
  have e1:∀ i,i≠n→jHn ps n x i=ps i∧jBD ds n d i=ds i:=fun i c=>⟨if_neg c,if_neg c⟩
  refine ⟨fun i hi=>?_,fun i j hi hj ij=>?_,fun i hi=>⟨fun z=>absurd z (Nat.not_lt_zero _),fun _=>?_⟩⟩
  · by_cases c:i=n
    · subst c
      rw [e0.1,e0.2]
      exact ⟨{ N with P:=N.P.upl hDG nD,np:=sm.free N.np,ni:=sm.free N.ni,n1:=sm.free N.n1,n2:=sm.free N.n2,n3:=sm.free N.n3,n4:=sm.free N.n4 },nD⟩
    · rw [(e1 i c).1,(e1 i c).2]
      obtain ⟨a1,a2⟩:=h.a i (by omega)
      exact ⟨{ a1.same s with P:=(a1.same s).P.upl hDG a2 },a2⟩
  · by_cases c:i=n
    · subst c
      rw [e0.1,e0.2,(e1 j (Ne.symm ij)).1,(e1 j (Ne.symm ij)).2]
      exact (jMM (h.a j (by omega)).1.P N).2
    · by_cases c2:j=n
      · subst c2
        rw [e0.1,e0.2,(e1 i c).1,(e1 i c).2]
        exact (jMM (h.a i (by omega)).1.P N).1
      · rw [(e1 i c).1,(e1 i c).2,(e1 j c2).1,(e1 j c2).2]
        exact h.s i j (by omega) (by omega) ij
  · by_cases c:i=n
    · subst c;rw [e0.2];exact am
    · rw [(e1 i c).2];exact (h.f i (by omega)).2 (Nat.zero_le _)
theorem P3.fill {D f:Nat} (h:P3 cP cS cY cM cW H0 H D ps ds n f P k0 k1) (hf:f < n) (k:∀ b o,b≠(ds f).tr2→b≠(ds f).ik2→H b=some o→H' b=some o) (N:Pn cP cS cY cM cW H0 H' (ps f) d' (pn f) (P f) k0 k1) (st:Stk d' k0 k1 0) (g:d'.ins=(ds f).ins∧d'.tr1=(ds f).tr1∧d'.tr2=(ds f).tr2∧d'.ik1=(ds f).ik1∧d'.ik2=(ds f).ik2):P3 cP cS cY cM cW H0 H' D ps (jBD ds f d') n (f + 1) P k0 k1:=by
  obtain ⟨g1,g2,g3,g4,g5⟩:=g
  have gp:Gp (ds f) d' H:=⟨.inl g1,g3,g5,g2,g4⟩
  have e0:jBD ds f d' f=d':=if_pos rfl
  have e1:∀ i,i≠f→jBD ds f d' i=ds i:=fun i c=>if_neg c
  have kp:Kp (ps f) (ps f) (ds f) H H':=fun b o _ _ _ n1 n2 e=>k b o n1 n2 e
  have Wf:=(h.a f hf).1.P
  refine ⟨fun i hi=>?_,fun i j hi hj ij=>?_,fun i hi=>⟨fun zz=>?_,fun zz=>?_⟩⟩
  · by_cases c:i=f
    · subst c
      rw [e0]
      exact ⟨N,by rw [g1];exact (h.a i hi).2⟩
    · rw [e1 i c]
      obtain ⟨a1,a2⟩:=h.a i hi
      obtain ⟨⟨dt,t1⟩,_⟩:=id a1.P.T
      obtain ⟨⟨di,i1⟩,_⟩:=id a1.P.I
      obtain ⟨dst,hs⟩:=id a1.P.s
      have sp:=h.s f i hf hi (Ne.symm c)
      exact ⟨{ a1 with P:=a1.P.kp Wf.o Wf sp sp.pq.symm (jAn t1 Wf.o (jHC (by show 2≠8;decide))) (jAn i1 Wf.o (jHC (by show 2≠8;decide))) (jAn hs Wf.o (jHC (jLT _))) kp },a2⟩
  · by_cases c:i=f
    · subst c
      rw [e0,e1 j (Ne.symm ij)]
      exact (h.s i j hi hj ij).left gp (h.a j hj).1.P
    · by_cases c2:j=f
      · subst c2
        rw [e0,e1 i c]
        exact (h.s i j hi hj ij).right gp (h.a i hi).1.P
      · rw [e1 i c,e1 j c2]
        exact h.s i j hi hj ij
  · by_cases c:i=f
    · subst c;rw [e0];exact st
    · rw [e1 i c];exact (h.f i hi).1 (by omega)
  · rw [e1 i (by omega)];exact (h.f i hi).2 (by omega)
structure Da (dm:Addr) (d:PD):Prop where
  t1:dm≠d.tr1
  t2:dm≠d.tr2
  k1:dm≠d.ik1
  k2:dm≠d.ik2
theorem Da.gp {dm:Addr} (h:Da dm d) (g:Gp d d' H):Da dm d':=⟨by rw [g.t1];exact h.t1,by rw [g.t];exact h.t2,by rw [g.k1];exact h.k1,by rw [g.k];exact h.k2⟩
theorem da_new {dm:Addr} (U:jAD cP cS cY cM cW H p d) (n:H dm=none):Da dm d:=⟨(jAf U.T.2.1 n).symm,(jAf U.T.2.2.1 n).symm,(jAf U.I.2.1 n).symm,(jAf U.I.2.2.1 n).symm⟩
theorem Pz.kb {dm:Addr} {m:MD} {z':Zs} (Z:Pz cR cJ cP cS cY cM cW H x ps r ds k0 k1 P z fe) (M:Bk H dm m z') (k:Kb dm m H H') (da:∀ i,i < 3→Da dm (ds i)) (n1:∀ i,i < 3→m.wl≠(ds i).ins) (n2:∀ i,i < 3→m.al≠(ds i).ins) (n3:r.il≠m.wl) (n4:r.il≠m.al):Pz cR cJ cP cS cY cM cW H' x ps r ds k0 k1 P z fe:=by
  have ko:∀ {b C dx:Addr} {fs:List (Str×V)},H b=some (.ins C dx fs)→H' b=some (.ins C dx fs):=fun e=>k _ _ (jCT e M.d) (jDK e M.s) (jDK e M.h) e
  have kt:∀ b xs,H b=some (.tup xs)→H' b=some (.tup xs):=fun b xs e=>k _ _ (jAn e M.d (by intro z;cases z)) (jAn e M.s (by intro z;cases z)) (jAn e M.h (by intro z;cases z)) e
  have kd:∀ {b:Addr} {kv:List (Key×V)},b≠dm→H b=some (.dK kv)→H' b=some (.dK kv):=fun n e=>k _ _ n (jAn e M.s (by intro z;cases z)) (jAn e M.h (by intro z;cases z)) e
  refine ⟨Z.R.fr (fun b C dx fs e=>ko e) (fun o e=>?_) kt,fun i i3=>?_,Z.A,Z.ok⟩
  · obtain ⟨ys,hy,_⟩:=id Z.R.i
    rw [hy] at e
    cases e
    exact k _ _ (jAn hy M.d (by intro z;cases z)) n3 n4 hy
  · have W:=Z.W i i3
    have a:=da i i3
    obtain ⟨⟨dt,t1⟩,t2,t3,t4⟩:=W.P.T
    obtain ⟨⟨di,i1⟩,i2,i3',i4⟩:=W.P.I
    obtain ⟨dst,hs⟩:=W.P.s
    exact { W with P:={ W.P with o:=ko W.P.o,T:=⟨⟨dt,ko t1⟩,kd a.t1.symm t2,kd a.t2.symm t3,t4⟩,I:=⟨⟨di,ko i1⟩,kd a.k1.symm i2,kd a.k2.symm i3',i4⟩,s:=⟨dst,ko hs⟩,n:=k _ _ (jAn W.P.n M.d (by intro z;cases z)) (n1 i i3).symm (n2 i i3).symm W.P.n },tg:=W.tg.fr kt }
theorem Bk.kp {dm:Addr} {m:MD} {z':Zs} (M:Bk H dm m z') {C dx:Addr} {fs:List (Str×V)} (hx:H x=some (.ins C dx fs)) (U:jAD cP cS cY cM cW H p d) (k:Kp x p d H H') (da:Da dm d) (n:∀ l,l=m.pl∨l=m.wl∨l=m.al∨l=m.wi∨l=m.ou→l≠d.ins):Bk H' dm m z':=by
  have kl:∀ {l:Addr} {ts:List V},l≠d.ins→H l=some (.lst ts)→H' l=some (.lst ts):=fun c e=>jHk hx U k c e
  obtain ⟨us,e1,e2⟩:=M.w.ex
  exact { M with d:=k _ _ (jCT hx M.d).symm (jCT U.o M.d).symm (jAn M.d U.n (by intro z;cases z)) da.t2 da.k2 M.d,p:=kl (n _ (.inl rfl)) M.p,s:=kl (n _ (.inr (.inl rfl))) M.s,h:=kl (n _ (.inr (.inr (.inl rfl)))) M.h,w:=⟨us,kl (n _ (.inr (.inr (.inr (.inl rfl))))) e1,e2.fr (jJe hx U k)⟩,o:=kl (n _ (.inr (.inr (.inr (.inr rfl))))) M.o }
theorem IsR.kp {nm:Str} {N:Addr→Prop} {v:V} {rv:RV} {C dx:Addr} {fs:List (Str×V)} (hx:H x=some (.ins C dx fs)) (U:jAD cP cS cY cM cW H p d) (k:Kp x p d H H') (n:∀ l,N l→l≠d.ins) (i:IsR H nm N v rv):IsR H' nm N v rv:=by
  have kt:=jJe hx U k
  have tl:∀ {l:Addr} {ns:List Int},N l→TL H nm l ns→TL H' nm l ns:=fun hn t=>let ⟨us,h1,h2⟩:=t.ex;⟨us,jHk hx U k (n _ hn) h1,h2.fr kt⟩
  cases rv with
  | non=>exact i
  | wrd=>exact i
  | tags b a f=>obtain ⟨l,e,hn,t⟩:=i;exact ⟨l,e,hn,tl hn t⟩
  | two b a c f=>obtain ⟨t,l1,l2,e,h1,n1,n2,h2,h3⟩:=i;exact ⟨t,l1,l2,e,kt _ _ h1,n1,n2,tl n1 h2,tl n2 h3⟩
end
end
end My
namespace My
open PySem L2
open Blk (sg sg_inj sg_app)
section
variable {P:Program} {w:World} {K:PySem.W.Frag} {mg:Str→Option Value} {base:Heap} {fa yQ yZ yX yY yV yJ yW yU yK yG cQ cZ cV cK cG vQ vZ vX vY:Addr} {fd:FuncData} (T:Txt K mg yQ yZ yX yY yV yJ yW yU yK yG cQ cZ cV cK cG vQ vZ vX vY)
def sg (l:List V):St:=l.map some ++ List.replicate (17 - l.length) none
def sg2 (l:List V) (v:Option V) (r:List V) (o:List (Option V)):St:=l.map some ++ v :: (r.map some ++ o)
def Off (ds:Nat→PD) (l:Addr):Prop:=∀ i,i < 3→l≠(ds i).ins
structure Lw (cR cJ cP cS cY cM cW:Addr) (H:Hp) (x pl dm sm:Addr) (ps:Nat→Addr) (r:RD) (ds:Nat→PD) (m:MD) (k0 k1:Str) (z:Zs) (fe:Nat) (cs:List V):Prop where
  Z:Pz cR cJ cP cS cY cM cW H x ps r ds k0 k1 m.P z fe
  M:Bk H dm m z
  en:m.nm=r.nm
  eT:m.T=r.tot
  p10:∀ i,m.P i≤10
  da:∀ i,i < 3→Da dm (ds i)
  of:∀ l,l=m.pl∨l=m.wl∨l=m.al∨l=m.wi∨l=m.ou∨l=sm∨l=pl→Off ds l
  hs:H sm=some (.lst cs)
  hp:H pl=some (.lst (l3 fun i=>.ref (ps i)))
  s1:sm≠m.wl
  s2:sm≠m.al
  l1:pl≠m.wl
  l2:pl≠m.al
  i1:r.il≠m.wl
  i2:r.il≠m.al
section
variable {cR cJ cP cS cY cM cW:Addr} {H H':Hp} {x pl dm sm:Addr} {ps:Nat→Addr} {r:RD} {ds:Nat→PD} {d':PD} {m m':MD} {k0 k1:Str} {z:Zs} {fe i:Nat} {cs:List V}
theorem Lw.same (h:Lw cR cJ cP cS cY cM cW H x pl dm sm ps r ds m k0 k1 z fe cs) (s:jAo H H'):Lw cR cJ cP cS cY cM cW H' x pl dm sm ps r ds m k0 k1 z fe cs:={ h with Z:=h.Z.same s,M:=h.M.same s,hs:=s _ _ h.hs,hp:=s _ _ h.hp }
theorem Lw.zr (h:Lw cR cJ cP cS cY cM cW H x pl dm sm ps r ds m k0 k1 z fe cs):Zr m z:=⟨fun i hi=>⟨(h.Z.ok.at3 i hi).1,(h.Z.ok.at3 i hi).2.2.1⟩,h.p10⟩
theorem jN2 {l:Addr} {o:HO} (h:Off ds l) (g:Gp (ds i) d' H) (e:H l=some o):Off (jBD ds i d') l:=fun j j3=>by
  unfold jBD
  split
  · next c =>
    subst c
    rcases g.i with q | q
    · rw [q];exact h j j3
    · exact jAf e q
  · exact h j j3
theorem go_ne {G:Hp} {l l':Addr} (W:∀ i,i < 3→∃ ts,G (ds i).ins=some (.lst ts)) (n:Off ds l) (g:l'=l∨G l'=none):Off ds l':=by
  rcases g with rfl | g
  · exact n
  · exact fun i i3=>let ⟨_,e⟩:=W i i3;(jAf e g).symm
theorem nx_flat {nm:Str} {T:Nat} {P:Nat→Nat} {D:Dd}:jA1 (nx nm T P z D).wo=true:=by
  have trn:∀ i p (g:S3→Rs),(∀ s,jA1 (g s).wo=true)→jA1 (jDh i p z g).wo=true:=fun i p g h=>by
    unfold jDh
    split
    · rfl
    · exact h _
  have run:∀ o (g:Nat→Rs),(∀ i,jA1 (g i).wo=true)→jA1 (runR nm T z o g).wo=true:=fun o g h=>by
    unfold runR
    split
    · rfl
    · split
      · rfl
      · unfold rdR
        split
        · exact h _
        · rfl
  cases D with
  | leave p=>exact trn _ _ _ fun _=>rfl
  | come p=>exact trn _ _ _ fun _=>rfl
  | mend p=>exact trn _ _ _ fun _=>rfl
  | take p=>exact run _ _ fun _=>rfl
  | step=>exact run _ _ fun _=>rfl
  | jam k=>exact run _ _ fun i=>by show jA1 (jamR T z k i).wo=true;unfold jamR;split <;> rfl
theorem jOE {nm:Str} {T:Nat} {P:Nat→Nat} {D:Dd} (af:z.a≤z.f) (fT:z.b + z.f≤T + 1) (T9:T≤90):(∀ b a f,(nx nm T P z D).rv=.tags b a f→f≤100)∧(∀ b a c f,(nx nm T P z D).rv=.two b a c f→c≤100∧f≤100):=by
  let G:RV→Prop:=fun v=>(∀ b a f,v=.tags b a f→f≤100)∧(∀ b a c f,v=.two b a c f→c≤100∧f≤100)
  have non:G .non:=⟨(fun b a f e=>by cases e),(fun b a c f e=>by cases e)⟩
  have wrd:∀ s,G (.wrd s):=fun s=>⟨(fun b a f e=>by cases e),(fun b a c f e=>by cases e)⟩
  have tgs:∀ b a f,f≤100→G (.tags b a f):=fun b a f h=>⟨(fun b a f e=>by cases e;exact h),(fun b a c f e=>by cases e)⟩
  have trn:∀ i p (g:S3→Rs),(∀ s,G (g s).rv)→G (jDh i p z g).rv:=fun i p g h=>by
    unfold jDh
    split
    · exact non
    · exact h _
  have run:∀ o (g:Nat→Rs),(∀ i,G (g i).rv)→G (runR nm T z o g).rv:=fun o g h=>by
    unfold runR
    split
    · exact non
    · split
      · exact non
      · unfold rdR
        split
        · exact h _
        · exact non
  cases D with
  | leave p=>exact trn _ _ _ fun _=>tgs _ _ _ (by split <;> omega)
  | come p=>exact trn _ _ _ fun _=>wrd _
  | mend p=>exact trn _ _ _ fun _=>wrd _
  | take p=>exact run _ _ fun _=>tgs _ _ _ (by omega)
  | step=>exact run _ _ fun _=>tgs _ _ _ (by unfold stK;split <;> (try split) <;> omega)
  | jam k =>
    refine run _ _ fun i=>?_
    show G (jamR T z k i).rv
    unfold jamR
    split
    · exact non
    · exact ⟨(fun b a f e=>by cases e),(fun b a c f e=>by cases e;exact ⟨by omega,by omega⟩)⟩
end
theorem jN3 {J:It} {tc:TT} {te:TE} {σf:Option V→St} {H1:Hp} {Q:VK} {xs:List V} (S:Seq J H1 xs) (Pv:Addr→Nat→List V→Hp→Prop) (hz:xs.length < sizeLine)
    (h0:∀ D,H1 D=none→Pv D 0 [] (upd H1 D (.lst [])))
    (hD:∀ D i ys H,Pv D i ys H→jAo H1 H∧H D=some (.lst ys)∧ys.length≤i)
    (hs:∀ D i x ys H (N:List V→Hp→Prop),xs[i]?=some x→H1 D=none→Pv D i ys H→(∀ ys' H',Pv D (i + 1) ys' H'→N ys' H')→tc (σf (some x)) H fun b H4=>if b=true then te (σf (some x)) H4 fun y H5=>H5 D=some (.lst ys)∧N (ys ++ [y]) (upd H5 D (.lst (ys ++ [y]))) else N ys H4)
    (q:∀ D ys H,H1 D=none→Pv D xs.length ys H→Q (.ref D) H):jIp J tc te σf H1 Q:=by
  intro D hD1
  refine ⟨fun i m ys H2=>m=xs.length - i∧i≤xs.length∧Pv D i ys H2,⟨xs.length,rfl,Nat.zero_le _,h0 D hD1⟩,?_⟩
  rintro i m ys H2 ⟨rfl,hi,p⟩
  obtain ⟨d0,d1,d2⟩:=hD D i ys H2 p
  refine ⟨d1,?_⟩
  by_cases hlt:i < xs.length
  · refine .inr ⟨S.go i H2 d0 hlt,by omega,fun x H3 y=>?_⟩
    obtain ⟨rfl,hx⟩:=S.yld i H2 x H3 d0 hlt y
    exact hs D i x ys _ (fun ys' H'=>∃ m',m' < xs.length - i∧(m'=xs.length - (i + 1)∧i + 1≤xs.length∧Pv D (i + 1) ys' H')) hx hD1 p fun ys' H' z=>⟨xs.length - (i + 1),by omega,rfl,hlt,z⟩
  · have e:i=xs.length:=by omega
    subst e
    exact .inl ⟨S.stop H2 d0,q D ys H2 hD1 p⟩
theorem jOF {us:List V} (h:us.length=3) (g:∀ (i:Nat) y,us[i]?=some y→∃ P:Nat,y=.int (P:Int)∧1≤P∧P≤4):∃ P:Nat→Nat,us=l3 (fun i=>.int (P i:Int))∧∀ i,1≤P i∧P i≤4:=by
  match us,h,g with
  | [u0,u1,u2],_,g =>
    obtain ⟨a,rfl,a1,a2⟩:=g 0 u0 rfl
    obtain ⟨b,rfl,b1,b2⟩:=g 1 u1 rfl
    obtain ⟨c,rfl,c1,c2⟩:=g 2 u2 rfl
    refine ⟨fun i=>if i=0 then a else if i=1 then b else c,rfl,fun i=>?_⟩
    dsimp only
    split
    · exact ⟨a1,a2⟩
    · split
      · exact ⟨b1,b2⟩
      · exact ⟨c1,c2⟩
theorem ink_32 {j:Jv} (ok:j.Ok):∀ s∈jDd j,s.1≤32∧s.2≤32:=fun s hs=>by
  unfold jDd at hs
  obtain ⟨t,ht,rfl⟩:=List.mem_map.mp hs
  obtain ⟨i,hi⟩:=List.mem_iff_getElem?.mp ht
  obtain ⟨l1,l2⟩:t.1.length≤16∧t.2.length≤16:=by
    have c:=Ly.cells_pos ok.2.2
    unfold jC3 at hi
    rw [List.getElem?_map] at hi
    obtain ⟨k,_,rfl⟩:=Option.map_eq_some_iff.mp hi
    unfold jDV jFJ
    refine ⟨by rw [List.length_map,List.length_range];omega,?_⟩
    dsimp only
    split
    · rw [List.length_map,List.length_range];omega
    · rw [List.length_replicate];omega
  have h1:(jCt t).length≤32:=by
    unfold jCt
    have:=List.length_filter_le (fun x=>decide (x≠0)) (t.1 ++ t.2)
    rw [List.length_append] at this
    omega
  have h2:=List.length_filter_le (jHz j.colour) (jCt t)
  unfold inkS
  dsimp only
  constructor <;> omega
def sp_law (K:PySem.W.Frag):Sp:=fun vs H Q _=>∃ a:Addr,vs=[.ref a]∧Scr K H a∧∀ H',Q (.bl true) H'
theorem jBs:jAl ["_law_script","_law_pages","_law_layout","_law_copies","_law_kinds","_law_cover","_law_name","_law_paths","_law_printers","_law_printer","_law_run","_law_m","_law_some","_law_k","_law_deed","_law_due_here","_law_told"] ["_law_script"] (jAh jHw):=scM
include T in
theorem ok_law (F:Fun K "law" "law" jHw fa fd) (DaH:Dfn P w K mg base 1 "_law_word" ["_law_cell","_law_turn"] (jHe K)) (DbE:MkD P w K mg base 6 "Run" yK ["self","job"] (jI9 yK yG)) (Dad:Dfn P w K mg base 1 "_law_mix" ["_law_cell","_law_k","_law_many"] (jFB K)) (Dai:Dfn P w K mg base 1 "_law_cell_at" ["_law_script","_law_k"] (jE9 K)) (DbF:MkD P w K mg base 4 "Printer" cZ ["self","name","can","path","papers","black","colour"] (jIT cZ cQ yJ yW yU)) (DbG:MkD P w K mg base 1 "Job" yG ["self","name","asker","pages","copies","layout","paper","cover","colour","staple","after"] (jHS yG)) (DbH:Dfn P w K mg base 2 "_law_deeds_by" ["_law_cell","_law_k","_law_m"] (jE1 K)) (DaI:Dfn P w K mg base 4 "_law_stands" ["_law_run","_law_printers","_law_m"] (jFY yK yG vZ vX cK cG cZ cQ yJ yW yU)) (DbI:Dfn P w K mg base 1 "_law_each" ["_law_pages","_law_layout"] (jHi K)) (DbJ:Dfn P w K mg base 4 "_law_due" ["_law_m","_law_deed"] (jHX K)) (DbK:Dfn P w K mg base 10 "_law_done" ["_law_run","_law_printers","_law_deed"] (jHm yK yG vZ vX cK cG cZ cQ yJ yW yU)) (DbL:Dfn P w K mg base 3 "_law_alike" ["_law_found","_law_due_here"] (jGQ K)) (DaJ:MtE P w K mg base 7 "load" cZ ["self","kind","many"] (jIC cZ cQ yJ yW yU)) (DbM:MtE P w K mg base 6 "fill" cZ ["self","black","coloured"] (jIF cZ cQ yJ yW yU)) :
    jAq P w K mg base CX0 11 fa fd ["_law_script"] (sp_law K):=by
  refine F.ok jBs (fun vs H Q E h=>?_) (fun cdv A outer s H vs Q E hr h=>?_)
  · obtain ⟨a,rfl,_⟩:=h
    rfl
  obtain ⟨a,rfl,S0,q⟩:=h
  have hu:=jCr hr 0 (by decide)
  have hu1:=jCr hr 1 (by decide)
  have hu0:=hr.units0
  have z0:0≤sizeLine:=Nat.zero_le _
  have z4:4≤sizeLine:=small (by decide)
  refine ⟨_,(jAb (psA (i:=1) jBs.nd (jAB jA2 jAg (jAB jBP (jAv Dai hr.m rfl (jAa (pv 0) (jAa jAg jAd))) jAg))) (jAb (psA (i:=2) jBs.nd (jAS (jAa jAi (jAa jAi (jAa jAi (jAa (jAB jF_ jAi (jBQ jGW rfl T.aU jK6 (jAa (jAB jA2 jAg (jAv Dad hr.m rfl (jAa (jAv Dai hr.m rfl (jAa (pv 0) (jAa jAg jAd))) (jAa jAg (jAa jAg jAd))))) jAd))) jAd)))))) (jAb (psA (i:=2) jBs.nd (ixA jAH (pv 2) (jAv Dad hr.m rfl (jAa (jAv Dai hr.m rfl (jAa (pv 0) (jAa jAg jAd))) (jAa jAg (jAa jAg jAd)))))) (jAb (psA (i:=3) jBs.nd (jAB jA2 jAg (jAv Dad hr.m rfl (jAa (jAv Dai hr.m rfl (jAa (pv 0) (jAa jAg jAd))) (jAa jAg (jAa jAg jAd)))))) (jAb (psA (i:=4) jBs.nd (jCg (frees:=[ ("_law_script",0) ]) ⟨by decide +kernel,rfl,rfl,by decide +kernel,⟨⟨rfl,rfl,rfl,by decide +kernel⟩,trivial⟩,by decide +kernel,jBd rfl,rfl⟩ rfl (jB4 rfl T.ar (jAa jAg jAd)) (fun _ _ _ _=>jCo) (fun _ _ _ _=>by exact (jAv DaH hr.m rfl (jAa (jAv Dai hr.m rfl (jAa (pv 1) (jAa jAg jAd))) (jAa (pv 0) jAd)))))) (jAb (psA (i:=5) jBs.nd (ixA jAH (jAS (jAa jAL (jAa (ixA jDi (pv 4) jAg) jAd))) (jAB jBP (jAv Dai hr.m rfl (jAa (pv 0) (jAa jAg jAd))) jAg))) (jAb (psA (i:=6) jBs.nd (jAv DaH hr.m rfl (jAa (jAv Dai hr.m rfl (jAa (pv 0) (jAa jAg jAd))) (jAa jAg jAd)))) (jAb (psA (i:=7) jBs.nd (jCg (frees:=[ ("_law_script",0) ]) ⟨by decide +kernel,rfl,rfl,by decide +kernel,⟨⟨rfl,rfl,rfl,by decide +kernel⟩,trivial⟩,by decide +kernel,jBd rfl,rfl⟩ rfl (jB4 rfl T.ar (jAa jAg jAd)) (fun _ _ _ _=>jCo) (fun _ _ _ _=>by exact (jAB jA2 jAg (jAv Dad hr.m rfl (jAa (jAv Dai hr.m rfl (jAa (pv 1) (jAa jAg jAd))) (jAa (pv 0) (jAa jAg jAd)))))))) (jAb (jMx (i:=8) (frees:=[ ("_law_paths",7) ,("_law_kinds",4) ]) ⟨by decide +kernel,rfl,rfl,by decide +kernel,⟨⟨rfl,rfl,rfl,by decide +kernel⟩,⟨⟨rfl,rfl,rfl,by decide +kernel⟩,trivial⟩⟩,by decide +kernel,jBd rfl,rfl⟩ jBs.nd rfl rfl rfl (jB4 rfl T.ar (jAa jAg jAd)) (fun _ _ _ _=>jCo) (fun _ _ _ _=>by exact (jCp DbF hr.m rfl (jAa (jAB jF_ jAi (jBQ jGW rfl T.aU jK6 (jAa (pv 0) jAd))) (jAa (jAS (jAa jAi jAd)) (jAa (jFH (K:=K) (r:=rIxLA) rfl jAH (pv 1) (pv 0) (fun _ _=>rfl)) (jAa (jFG (jA6 (jFH (K:=K) (r:=rIxL) rfl jDi (pv 2) jAg (fun _ _=>rfl)) jAg (jA6 (jFH (K:=K) (r:=rIxL) rfl jDi (pv 2) jAg (fun _ _=>rfl)) jAg jFF)) rfl rfl (by decide) (by decide)) (jAa jAg (jAa jAg jAd))))))))) (jAb (jB_ PassesOwn.never rfl (jBF (pv 8)) (pgA (i:=9) jBs.nd) (jAb (jAJ (jAR 7 jBa hr.m (pv 9) (jAa (ixA jDi (pv 4) jAg) (jAa jAg jAd)))) (jAb (jAJ (jAR 7 jBa hr.m (pv 9) (jAa (ixA jDi (pv 4) jAg) (jAa jAg jAd)))) (jAe (jAJ (jAR 6 jBa hr.m (pv 9) (jAa jAg (jAa jAg jAd)))))))) (jAb (psA (i:=10) jBs.nd (jCp DbE hr.m rfl (jAa (jCp DbG hr.m rfl (jAa (pv 6) (jAa jAi (jAa (pv 1) (jAa (pv 3) (jAa (pv 2) (jAa (ixA jDi (pv 4) jAg) (jAa (pv 5) (jAa jAL (jAa jBC (jAa (jAM jAd) jAd))))))))))) jAd))) (jAb (psA (i:=11) jBs.nd (jFG (jA6 jAi (pv 6) (jA6 jAi (jAB jEv (pv 3) (jAv DbI hr.m rfl (jAa (pv 1) (jAa (pv 2) jAd)))) (jA6 jAi (pv 7) (jA6 jAi (jAB jK3 (jAS (jAa jAi jAd)) jAg) jFF)))) rfl rfl (by decide) (by decide))) (jAb (jAJ (jKL PySem.F.plainAttrs_dict PySem.F.slot_dict_update PySem.F.type_dict_update jNC (pv 11) (jAa (jFG (jA6 jAi (jAB jK3 (jAS (jAa jAi jAd)) jAg) (jA6 jAi (jAS jAd) (jA6 jAi jAg (jA6 jAi jAg (jA6 jAi (jAS jAd) (jA6 jAi jBC (jA6 jAi jAL jFF))))))) rfl rfl (by decide) (by decide)) jAd))) (jAb (psA (i:=12) jBs.nd (jBT jFE (pv 0) jCc (jCd jAg))) (jAb (jB_ PassesOwn.never rfl (jB4 rfl T.ar (jAa (jAG jAF rfl T.ae PySem.boot_len (jAa (pv 12) jAd)) jAd)) (pgA (i:=13) jBs.nd) (jAe (jB_ PassesOwn.never rfl (jBF (jAv DbH hr.m rfl (jAa (ixA jAH (pv 12) (pv 13)) (jAa (pv 13) (jAa (pv 11) jAd))))) (pgA (i:=14) jBs.nd) (jAb (psA (i:=15) jBs.nd (jAv DbJ hr.m rfl (jAa (pv 11) (jAa (pv 14) jAd)))) (jAb (psA (i:=16) jBs.nd (jAv DbK hr.m rfl (jAa (pv 10) (jAa (pv 8) (jAa (pv 14) jAd))))) (jAe (jAC (PW.pt (jC0 (tcA (jH4 (n:=0) hu) (jBT jNm (pv 16) jCc (jCd jAg)) (jBT jNm (pv 15) jCc (jCd jAg))) (jC0 (jBY (jAN (jAv DbL hr.m rfl (jAa (ixA jAE (pv 16) jAg) (jAa (ixA jAE (pv 15) jAg) jAd))) (fun _=>rfl))) (jDN (jBY (jAN (jAv DaI hr.m rfl (jAa (pv 10) (jAa (pv 8) (jAa (pv 11) jAd)))) (fun _=>rfl))))))) (jAe (jAm jBC)) jAs))))))) (jAe (jAm (jEu (jAv DaI hr.m rfl (jAa (pv 10) (jAa (pv 8) (jAa (pv 11) jAd)))) (jGT (ecA (jMV hu0) (dgA hu (pv 11) jAi) (jKm rfl rfl T.aW rfl T.ar (jAa (jAG jAF rfl T.ae PySem.boot_len (jAa (dgA hu (pv 11) jAi) jAd)) jAd)))))))))))))))))))))),?_⟩
  refine jOw fun T1 e1=>?_
  obtain ⟨T2,e2,e1⟩:=jBS e1
  obtain ⟨T3,e3,e2⟩:=jBS e2
  obtain ⟨T4,e4,e3⟩:=jBS e3
  obtain ⟨T5,e5,e4⟩:=jBS e4
  obtain ⟨T6,e6,e5⟩:=jBS e5
  obtain ⟨T7,e7,e6⟩:=jBS e6
  obtain ⟨T8,e8,e7⟩:=jBS e7
  obtain ⟨T9,e9,e8⟩:=jBS e8
  obtain ⟨T10,e10,e9⟩:=jBS e9
  obtain ⟨T11,e11,e10⟩:=jBS e10
  obtain ⟨T12,e12,e11⟩:=jBS e11
  obtain ⟨T13,e13,e12⟩:=jBS e12
  obtain ⟨T14,e14,e13⟩:=jBS e13
  obtain ⟨T15,e15,e14⟩:=jBS e14
  obtain ⟨ns,hS,h63⟩:=id S0.ex
  -- pages, layout, copies
  obtain ⟨n,en,n1,n9⟩:∃ n:Nat,1 + ns.getD (0:Int).toNat 0 % 8=(n:Int)∧1≤n∧n≤8:=by
    have:=Int.emod_nonneg (ns.getD (0:Int).toNat 0) (show (8:Int)≠0 by decide)
    have:=Int.emod_lt_of_pos (ns.getD (0:Int).toNat 0) (show (0:Int) < 8 by decide)
    exact ⟨(1 + ns.getD (0:Int).toNat 0 % 8).toNat,by omega,by omega,by omega⟩
  refine jBc (fun σ G=>H=G∧σ=sg [.ref a,.int (n:Int)]) (fun R hR=>⟨_,rfl,a,0,ns,rfl,hS,by decide,_,_,rfl,rfl,(by show (0:Int) < 8;decide),_,_,rfl,rfl,hR _ _ ⟨rfl,by rw [← en];rfl⟩⟩) ?_
  intro X σ G hX
  rintro ⟨rfl,rfl⟩
  obtain ⟨u,eu,u1,u2⟩:∃ u:Nat,2 + jBW (ns.getD (0:Int).toNat 0) 2 15=(u:Int)∧2≤u∧u≤16:=by
    have:=jC_ (c:=(ns.getD (0:Int).toNat 0)) (k:=2) (show (0:Int) < 15 by decide)
    have:=jES (c:=(ns.getD (0:Int).toNat 0)) (k:=2) (show (0:Int) < 15 by decide)
    exact ⟨(2 + jBW (ns.getD (0:Int).toNat 0) 2 15).toNat,by omega,by omega,by omega⟩
  have us:=jOy u (by omega)
  refine hX (via e1 ?_)
  refine jBc (fun σ G=>jAo H G∧∃ ll,G ll=some (.lst [V.str (Str.ofString "one"),.str (Str.ofString "one"),.str (Str.ofString "both"),.str (Ly.text (.up u))])∧σ=sg [.ref a,.int (n:Int),.ref ll]) (fun R hR=>⟨_,rfl,a,0,ns,rfl,hS,by decide,(ns.getD (0:Int).toNat 0),2,15,rfl,by decide,by decide,by decide,fun H1 s1=>⟨_,_,rfl,rfl,_,rfl,(by show (2 + jBW (ns.getD (0:Int).toNat 0) 2 15).natAbs.log2 < 1920;rw [eu];exact us.1),_,_,rfl,rfl,(by show (Str.ofString "up:").length + (Str.ofString (toString (2 + jBW (ns.getD (0:Int).toNat 0) 2 15))).length≤sizeLine;rw [eu];exact small us.2),z4,fun ll nll=>?_⟩⟩) ?_
  · dsimp only [jBr]
    rw [eu]
    exact hR _ _ ⟨s1.trans (jAk nll _),ll,jAc,rfl⟩
  intro X σ H2 hX
  rintro ⟨t2,ll,hll,rfl⟩
  refine hX (via e2 ?_)
  refine jBc (fun σ G=>jAo H G∧∃ ly:Ly,ly.Ok∧σ=sg [.ref a,.int (n:Int),.str (Ly.text ly)]) (fun R hR=>⟨_,rfl,_,rfl,a,0,ns,rfl,t2.seq hS,by decide,(ns.getD (0:Int).toNat 0),1,4,rfl,by decide,by decide,by decide,fun H3 s3=>⟨ll,_,_,rfl,rfl,SqL.of (s3 _ _ hll),jC_ (by decide),jES (by decide),fun v hv=>?_⟩⟩) ?_
  · obtain ⟨ly,rfl,okl⟩:∃ ly:Ly,v=.str (Ly.text ly)∧ly.Ok:=by
      have hm:=List.mem_of_getElem? hv
      simp only [List.mem_cons,List.not_mem_nil,or_false] at hm
      rcases hm with rfl | rfl | rfl | rfl
      · exact ⟨.one,rfl,trivial⟩
      · exact ⟨.one,rfl,trivial⟩
      · exact ⟨.both,rfl,trivial⟩
      · exact ⟨.up u,rfl,u1,u2⟩
    exact hR _ _ ⟨t2.trans s3,ly,okl,rfl⟩
  intro X σ H3 hX
  rintro ⟨t3,ly,okl,rfl⟩
  obtain ⟨cp,ec,c1,c3⟩:∃ cp:Nat,1 + jBW (ns.getD (0:Int).toNat 0) 3 3=(cp:Int)∧1≤cp∧cp≤3:=by
    have:=jC_ (c:=(ns.getD (0:Int).toNat 0)) (k:=3) (show (0:Int) < 3 by decide)
    have:=jES (c:=(ns.getD (0:Int).toNat 0)) (k:=3) (show (0:Int) < 3 by decide)
    exact ⟨(1 + jBW (ns.getD (0:Int).toNat 0) 3 3).toNat,by omega,by omega,by omega⟩
  refine hX (via e3 ?_)
  refine jBc (fun σ G=>jAo H G∧σ=sg [.ref a,.int (n:Int),.str (Ly.text ly),.int (cp:Int)]) (fun R hR=>⟨_,rfl,a,0,ns,rfl,t3.seq hS,by decide,(ns.getD (0:Int).toNat 0),3,3,rfl,by decide,by decide,by decide,fun H4 s4=>⟨_,_,rfl,rfl,hR _ _ ⟨t3.trans s4,by rw [← ec];rfl⟩⟩⟩) ?_
  clear t2 hll
  intro X σ H4 hX
  rintro ⟨t4,rfl⟩
  -- the kinds
  refine hX (via e4 ?_)
  refine jBc (fun σ G=>jAo H G∧∃ kl k0 k1,G kl=some (.lst [.str k0,.str k1])∧k0≠k1∧σ=sg [.ref a,.int (n:Int),.str (Ly.text ly),.int (cp:Int),.ref kl]) (fun R hR=>⟨_,rfl,by decide,by decide,?_⟩) ?_
  · generalize hc1:ns.getD (1:Int).toNat 0=c1'
    refine jCW (jDT 0 2 H4) (fun _=>true) (fun v=>match v with | .int t=>.str (jE_ c1' t (jDb c1')) | _=>.non) (by rw [List.length_map,List.length_range];exact jAX (by decide)) (fun x _ H' R _ rr=>rr) (fun x hx H' R sG _ rr=>?_) (fun kl H1 s1 nkl hkl0=>?_)
    · obtain ⟨t,ht,rfl⟩:=List.mem_map.mp hx
      rw [← hc1] at rr
      exact ⟨_,rfl,a,1,ns,rfl,(t4.trans sG).seq hS,by decide,_,rfl,_,_,rfl,rr⟩
    exact hR _ _ ⟨t4.trans s1,kl,_,_,hkl0,fun z=>absurd (word_ne (by decide) (by decide) (by decide) (by decide) z) (by decide),rfl⟩
  intro X σ H5 hX
  rintro ⟨t5,kl,k0,k1,hkl,k01,rfl⟩
  -- the cover
  refine hX (via e5 ?_)
  refine jBc (fun σ G=>jAo H5 G∧∃ cv:V,(cv=.non∨cv=.str k1)∧σ=sg [.ref a,.int (n:Int),.str (Ly.text ly),.int (cp:Int),.ref kl,cv]) (fun R hR=>⟨_,rfl,kl,_,_,_,rfl,rfl,SqL.of hkl,jAz (j:=1) rfl,small (show 2≤1000 by decide),fun cl ncl=>?_⟩) ?_
  · have s1:=jAk ncl (.lst [V.non,.str k1])
    have y0:=Int.emod_nonneg (ns.getD (2:Int).toNat 0) (show (2:Int)≠0 by decide)
    have y1:=Int.emod_lt_of_pos (ns.getD (2:Int).toNat 0) (show (0:Int) < 2 by decide)
    refine ⟨_,rfl,a,2,ns,rfl,(t5.trans s1).seq hS,by decide,_,_,rfl,rfl,(by show (0:Int) < 2;decide),cl,_,_,rfl,rfl,SqL.of jAc,y0,y1,fun v hv=>?_⟩
    have hm:=List.mem_of_getElem? hv
    simp only [List.mem_cons,List.not_mem_nil,or_false] at hm
    exact hR _ _ ⟨s1,v,hm,rfl⟩
  intro X σ H6 hX
  rintro ⟨s6,cv,hcv,rfl⟩
  have t6:=t5.trans s6
  replace hkl:=s6 _ _ hkl
  refine hX (via e6 ?_)
  refine jBc (fun σ G=>H6=G∧∃ nm,σ=sg [.ref a,.int (n:Int),.str (Ly.text ly),.int (cp:Int),.ref kl,cv,.str nm]) (fun R hR=>⟨_,rfl,a,3,ns,rfl,t6.seq hS,by decide,_,_,rfl,hR _ _ ⟨rfl,_,rfl⟩⟩) ?_
  intro X σ G hX
  rintro ⟨rfl,nm,rfl⟩
  -- the paths
  refine hX (via e7 ?_)
  refine jBc (fun σ G=>jAo H6 G∧∃ (ph:Addr) (Pf:Nat→Nat),G ph=some (.lst (l3 fun i=>.int (Pf i:Int)))∧(∀ i,1≤Pf i∧Pf i≤4)∧H6 ph=none∧σ=sg [.ref a,.int (n:Int),.str (Ly.text ly),.int (cp:Int),.ref kl,cv,.str nm,.ref ph]) (fun R hR=>⟨_,rfl,by decide,by decide,?_⟩) ?_
  · refine jEz (jDT 0 (3:Int).toNat H6) (fun x y H3=>∃ P:Nat,y=.int (P:Int)∧1≤P∧P≤4) (by rw [List.length_map,List.length_range];exact jAX (by decide)) (fun x hx' H' R _ r=>r) (fun x hx' H' R sm rr=>?_) (fun ph H7 us s7 nph hph hl hg=>?_)
    · obtain ⟨j,hj,rfl⟩:=List.mem_map.mp hx'
      have j3:j < 3:=List.mem_range.mp hj
      obtain ⟨P,eP,P1,P4⟩:∃ P:Nat,1 + jBW (ns.getD (4:Int).toNat 0) (0 + (j:Int)) 4=(P:Int)∧1≤P∧P≤4:=by
        have:=jC_ (c:=ns.getD (4:Int).toNat 0) (k:=0 + (j:Int)) (show (0:Int) < 4 by decide)
        have:=jES (c:=ns.getD (4:Int).toNat 0) (k:=0 + (j:Int)) (show (0:Int) < 4 by decide)
        exact ⟨(1 + jBW (ns.getD (4:Int).toNat 0) (0 + (j:Int)) 4).toNat,by omega,by omega,by omega⟩
      refine ⟨_,rfl,a,4,ns,rfl,(t6.trans sm).seq hS,by decide,_,rfl,_,_,4,rfl,by omega,by omega,by decide,fun H8 s8=>⟨_,_,rfl,rfl,?_⟩⟩
      exact rr _ _ s8 (jOz ⟨P,congrArg V.int eP,P1,P4⟩)
    rw [List.length_map,List.length_range] at hl
    obtain ⟨Pf,rfl,hPf⟩:=jOF hl (fun i y e=>by
      obtain ⟨x,ex⟩:∃ x,((List.range (3:Int).toNat).map fun i=>V.int (0 + (i:Nat)))[i]?=some x:=⟨_,List.getElem?_eq_getElem (by rw [List.length_map,List.length_range,← hl];exact (List.getElem?_eq_some_iff.mp e).1)⟩
      exact hg i x y ex e)
    exact hR _ _ ⟨s7,ph,Pf,hph,hPf,nph,rfl⟩
  intro X σ H7 hX
  rintro ⟨s7,ph,Pf,hph,hPf,nph,rfl⟩
  have t7:=t6.trans s7
  have hk7:=s7 _ _ hkl
  -- the printers
  refine hX (via e8 ?_)
  refine jBc (fun σ G=>jAo H7 G∧∃ (pl:Addr) (ps:Nat→Addr) (ds:Nat→PD),H7 pl=none∧G pl=some (.lst (l3 fun i=>.ref (ps i)))∧P3 cZ cQ yJ yW yU H7 G pl ps ds 3 0 Pf k0 k1∧σ=sg [.ref a,.int (n:Int),.str (Ly.text ly),.int (cp:Int),.ref kl,cv,.str nm,.ref ph,.ref pl]) (fun R hR=>⟨_,rfl,by decide,by decide,?_⟩) ?_
  · have nm3:∀ i:Nat,i < 3→((0 + (i:Int)).natAbs.log2 < 1920∧(Str.ofString "p").length + (Str.ofString (toString (0 + (i:Int)))).length≤1000∧Str.ofString "p" ++ Str.ofString (toString (0 + (i:Int)))=pn i):=by decide +kernel
    refine jN3 (jDT 0 (3:Int).toNat H7) (fun D i ys G=>jAo H7 G∧H7 D=none∧G D=some (.lst ys)∧∃ ps ds,ys=tkN i ps∧P3 cZ cQ yJ yW yU H7 G D ps ds i 0 Pf k0 k1) (by rw [List.length_map,List.length_range];exact jAX (by decide)) (fun D nD=>⟨jAk nD _,nD,jAc,fun _=>0,fun _=>⟨0,0,0,0,0,0,0,0,0,0,0,Str.empty,0,[],[],0,0,0,0,[],.rd⟩,rfl,(fun i hi=>absurd hi (Nat.not_lt_zero _)),(fun i j hi=>absurd hi (Nat.not_lt_zero _)),(fun i hi=>absurd hi (Nat.not_lt_zero _))⟩) (fun D i ys G z=>⟨z.1,z.2.2.1,by obtain ⟨_,_,_,ps,ds,rfl,_⟩:=z;unfold tkN;rw [List.length_map,List.length_range];exact Nat.le_refl _⟩) (fun D i x ys G N hx nD z nx=>?_) (fun pl ys G npl z=>?_)
    · obtain ⟨sm,_,hD,ps,ds,rfl,Q3⟩:=z
      have i3:i < 3:=by
        have:=(List.getElem?_eq_some_iff.mp hx).1
        rw [List.length_map,List.length_range] at this
        exact this
      rw [List.getElem?_map,show (3:Int).toNat=3 from rfl,List.getElem?_range i3] at hx
      obtain rfl:=Option.some.inj hx
      obtain ⟨g1,g2,g3⟩:=nm3 i i3
      refine jAP ⟨_,rfl,_,rfl,g1,_,_,rfl,rfl,small g2,small (show 1≤1000 by decide),fun cl ncl=>?_⟩
      rw [g3]
      have s1:=jAk ncl (.lst [V.str (Str.ofString "both")])
      have hcl:upd G cl (.lst [V.str (Str.ofString "both")]) cl=some (.lst [V.str (Str.ofString "both")]):=jAc
      generalize upd G cl (.lst [V.str (Str.ofString "both")])=G1 at s1 hcl ⊢
      have sm1:=sm.trans s1
      refine ⟨_,rfl,_,rfl,ph,_,_,rfl,rfl,SqL.of (sm1 _ _ hph),by omega,by show 0 + (i:Int) < 3;omega,fun v hv=>?_⟩
      rw [show (0 + (i:Int)).toNat=((i:Nat):Int).toNat by omega] at hv
      obtain rfl:=jBg i3 hv
      refine fun rd nrd=>?_
      have s2:=jAk nrd (.dK [])
      have hrd1:upd G1 rd (.dK []) rd=some (.dK []):=jAc
      have hk2:=s2 _ _ (sm1 _ _ hk7)
      refine ⟨_,rfl,kl,_,_,_,rfl,rfl,SqL.of hk2,jAz (j:=0) rfl,_,rfl,kl,_,_,_,rfl,rfl,SqL.of hk2,jAz (j:=1) rfl,hrd1,[(Sum.inr k0,.int 999),(Sum.inr k1,.int 999)],rfl,(by show 2≤15;decide),?_⟩
      have ndk:[(Sum.inr k0:Key),Sum.inr k1].Nodup:=by
        rw [List.nodup_cons]
        exact ⟨fun hm=>k01 (Sum.inr.inj (List.mem_singleton.mp hm)),List.nodup_cons.mpr ⟨List.not_mem_nil,List.nodup_nil⟩⟩
      rw [jGg (ks:=[Sum.inr k0,Sum.inr k1]) rfl ndk]
      have s3:jAo G1 (upd (upd G1 rd (.dK [])) rd (.dK ([] ++ [((Sum.inr k0:Key),V.int 999),(Sum.inr k1,V.int 999)]))):=jCx nrd s2 _
      have hrd:upd (upd G1 rd (.dK [])) rd (.dK ([] ++ [((Sum.inr k0:Key),V.int 999),(Sum.inr k1,V.int 999)])) rd=some (.dK (dI [(k0,999),(k1,999)])):=jAc
      generalize upd (upd G1 rd (.dK [])) rd (.dK ([] ++ [((Sum.inr k0:Key),V.int 999),(Sum.inr k1,V.int 999)]))=G3 at s3 hrd ⊢
      refine fun x dx nx' ndx nxd=>?_
      have ki:∀ b o,G3 b=some o→b≠x∧upd (upd G3 dx (.own x)) x (.ins cZ dx []) b=some o:=fun b o e=>by
        have b1:b≠x:=jAf e nx'
        exact ⟨b1,by rw [jAj b1,jAj (jAf e ndx)];exact e⟩
      have fk:∀ b,upd (upd G3 dx (.own x)) x (.ins cZ dx []) b=none→G3 b=none:=fun b nb=>by
        cases e:G3 b with
        | none=>rfl
        | some o=>rw [(ki b o e).2] at nb;cases nb
      have ndr:(([(k0,999),(k1,999)]:List (Str×Int)).map (·.1)).Nodup:=by
        show [k0,k1].Nodup
        rw [List.nodup_cons]
        exact ⟨fun hm=>k01 (List.mem_singleton.mp hm),List.nodup_cons.mpr ⟨List.not_mem_nil,List.nodup_nil⟩⟩
      refine ⟨x,dx,cl,rd,pn i,(Pf i:Int),9999,9999,_,[(k0,999),(k1,999)],rfl,jAc,(ki _ _ (s3 _ _ hcl)).2,(ki _ _ hrd).2,ndr,by show 2≤900;decide,fun d G4 kp4 P4' enm ep ers eam erb erc eb ec etg eS n1' n2' n3' n4' n5'=>⟨rfl,?_⟩⟩
      have s4:jAo G3 G4:=fun b o e=>kp4 b o (ki b o e).1 (ki b o e).2
      have s13:=s1.trans s3
      have s14:=s13.trans s4
      refine ⟨s14 _ _ hD,nx _ _ ⟨jCx nD (sm.trans s14) _,nD,jAc,jHn ps i x,jBD ds i d,jOD i ps x,?_⟩⟩
      exact Q3.add sm s14 ⟨P4',enm,ep,ers,erb,erc,etg,eS,s13.free nx',s13.free (fk _ n5'),s13.free (fk _ n1'),s13.free (fk _ n2'),s13.free (fk _ n3'),s13.free (fk _ n4')⟩ ⟨eam,eb,ec⟩ hD
    · obtain ⟨sm,_,hD,ps,ds,rfl,Q3⟩:=z
      exact hR _ _ ⟨sm,pl,ps,ds,npl,hD,Q3,rfl⟩
  intro X σ H8 hX
  rintro ⟨s8,pl,ps,ds0,npl,hpl,Q0,rfl⟩
  have l0:∀ v w':Int,([(k0,v),(k1,w')]:List (Str×Int)).lookup k0=some v:=fun v w'=>by rw [List.lookup_cons,beq_self_eq_true]
  have l1:∀ v w':Int,([(k0,v),(k1,w')]:List (Str×Int)).lookup k1=some w':=fun v w'=>by rw [List.lookup_cons,show (k1 == k0)=false from Bool.eq_false_iff.mpr fun z=>k01 (eq_of_beq z).symm,List.lookup_cons,beq_self_eq_true]
  -- filled
  refine hX (via e9 ?_)
  refine jBc (fun σ G=>jAo H7 G∧G pl=some (.lst (l3 fun i=>.ref (ps i)))∧∃ ds,P3 cZ cQ yJ yW yU H7 G pl ps ds 3 3 Pf k0 k1∧∃ v9,σ=sg2 [.ref a,.int (n:Int),.str (Ly.text ly),.int (cp:Int),.ref kl,cv,.str nm,.ref ph,.ref pl] v9 [] (List.replicate 7 none)) (fun R hR=>⟨_,rfl,pl,rfl,⟨_,SqL.of hpl⟩,jCm (K:=K) (a:=pl) (xs:=l3 fun i=>.ref (ps i)) (fun i σ G=>jAo H7 G∧G pl=some (.lst (l3 fun i=>.ref (ps i)))∧∃ ds,P3 cZ cQ yJ yW yU H7 G pl ps ds 3 i Pf k0 k1∧∃ v9,σ=sg2 [.ref a,.int (n:Int),.str (Ly.text ly),.int (cp:Int),.ref kl,cv,.str nm,.ref ph,.ref pl] v9 [] (List.replicate 7 none)) ⟨s8,hpl,ds0,Q0,none,rfl⟩ (fun i σ G _ zz=>SqL.of zz.2.1) (fun i y σ G hy zz=>?_) (fun σ G zz=>hR _ _ zz)⟩) ?_
  · obtain ⟨sG,hG,ds,Q3,v9,rfl⟩:=zz
    have i3:i < 3:=(List.getElem?_eq_some_iff.mp hy).1
    obtain rfl:=jBg i3 (show (l3 _)[((i:Nat):Int).toNat]?=some y by rw [Int.toNat_natCast];exact hy)
    obtain ⟨Pp,nD⟩:=Q3.a i i3
    obtain ⟨eam,eb,ec⟩:=(Q3.f i i3).2 (Nat.le_refl _)
    have hkG:=sG _ _ hk7
    refine ⟨_,rfl,ps i,_,_,_,_,_,rfl,Pp.P.o,rfl,T.ac,DaJ,_,rfl,kl,_,_,_,rfl,rfl,SqL.of hkG,jAz (j:=0) rfl,ps i,ds i,k0,999,999,0,rfl,Pp.P,by rw [Pp.rs];exact l0 _ _,by rw [eam];exact l0 _ _,by decide,fun G1 kp1 P1=>?_⟩
    have ea1:jA3 (ds i).am k0 (0 + 999)=[(k0,999),(k1,0)]:=by
      rw [eam]
      unfold jA3
      simp only [List.map_cons,List.map_nil]
      rw [if_pos trivial,if_neg (Ne.symm k01)]
      rfl
    have hk1:G1 kl=some (.lst [.str k0,.str k1]):=kp1 _ _ (jAn hkG Pp.P.T.2.2.1 (by intro z;cases z)) hkG
    refine ⟨_,rfl,ps i,_,_,_,_,_,rfl,P1.o,rfl,T.ac,DaJ,_,rfl,kl,_,_,_,rfl,rfl,SqL.of hk1,jAz (j:=1) rfl,ps i,_,k1,999,999,0,rfl,P1,by rw [show ({ ds i with am:=jA3 (ds i).am k0 (0 + 999) }:PD).rs=(ds i).rs from rfl,Pp.rs];exact l1 _ _,by rw [show ({ ds i with am:=jA3 (ds i).am k0 (0 + 999) }:PD).am=jA3 (ds i).am k0 (0 + 999) from rfl,ea1];exact l1 _ _,by decide,fun G2 kp2 P2=>?_⟩
    have ea2:jA3 (jA3 (ds i).am k0 (0 + 999)) k1 (0 + 999)=[(k0,999),(k1,999)]:=by
      rw [ea1]
      unfold jA3
      simp only [List.map_cons,List.map_nil]
      rw [if_neg k01,if_pos trivial]
      rfl
    refine ⟨_,rfl,ps i,_,_,_,_,_,rfl,P2.o,rfl,T.ac,DbM,ps i,_,9999,9999,rfl,P2,by show (ds i).b + 9999≤(ds i).rb;rw [eb,Pp.rb];decide,by show (ds i).c + 9999≤(ds i).rc;rw [ec,Pp.rc];decide,fun G3' kp3 P3'=>?_⟩
    have kk:∀ b o,b≠(ds i).tr2→b≠(ds i).ik2→G b=some o→G3' b=some o:=fun b o b1 b2 e=>kp3 _ _ b2 (kp2 _ _ b1 (kp1 _ _ b1 e))
    refine ⟨fun b o e=>kk b o (jAf e Pp.n2) (jAf e Pp.n4) (sG _ _ e),kk _ _ (jAn hG Pp.P.T.2.2.1 (by intro z;cases z)) (jAn hG Pp.P.I.2.2.1 (by intro z;cases z)) hG,_,Q3.fill i3 kk { Pp with P:=P3' } ⟨999,999,ea2,by decide,by decide,by show (9999:Int)≤(ds i).b + 9999 + 32 * 0;rw [eb];decide,by show (9999:Int)≤(ds i).c + 9999 + 32 * 0;rw [ec];decide⟩ ⟨rfl,rfl,rfl,rfl,rfl⟩,_,rfl⟩
  clear Q0 hpl s8 l0 l1
  intro X σ H10 hX
  rintro ⟨s710,hpl,ds,Q3,v9,rfl⟩
  have s10:jAo H6 H10:=s7.trans s710
  -- the run
  obtain ⟨cvo,rfl,hco⟩:∃ cvo:Option Str,cv=oV cvo∧(cvo=none∨cvo=some k1):=by
    rcases hcv with rfl | rfl
    · exact ⟨none,rfl,.inl rfl⟩
    · exact ⟨some k1,rfl,.inr rfl⟩
  clear hcv
  have hk10:=s10 _ _ hkl
  refine hX (via e10 ?_)
  refine jBc (fun σ G=>jAo H10 G∧∃ rx r,jAW yK yG G rx r∧Rk r k0 k1∧r.nm=nm∧R5 r none 0 0=r∧r.tot=jBI ly n * cp∧H10 rx=none∧H10 r.il=none∧σ=sg2 [.ref a,.int (n:Int),.str (Ly.text ly),.int (cp:Int),.ref kl,oV cvo,.str nm,.ref ph,.ref pl] v9 [.ref rx] (List.replicate 6 none)) (fun R hR=>⟨_,rfl,_,rfl,_,rfl,_,rfl,_,rfl,kl,_,_,_,rfl,rfl,SqL.of hk10,jAz (j:=0) rfl,_,rfl,z0,fun tp ntp=>?_⟩) ?_
  · have l5:=jAk ntp (.tup [])
    generalize upd H10 tp (.tup [])=G11 at l5 ⊢
    refine fun jx jdx njx njdx njxd=>⟨jx,jdx,_,_,_,_,_,_,_,_,_,_,rfl,jAc,⟨rfl,?_⟩⟩
    dsimp only
    have l6:jAo G11 (upd (upd (upd G11 jdx (.own jx)) jx (.ins yG jdx [])) jx (.ins yG jdx (jCK (.str nm) (.str (Str.ofString "ann")) (.int (n:Int)) (.int (cp:Int)) (.str (Ly.text ly)) (.str k0) (oV cvo) .non (.bl false) (.ref tp)))):=jE7 njx njdx
    have hj:upd (upd (upd G11 jdx (.own jx)) jx (.ins yG jdx [])) jx (.ins yG jdx (jCK (.str nm) (.str (Str.ofString "ann")) (.int (n:Int)) (.int (cp:Int)) (.str (Ly.text ly)) (.str k0) (oV cvo) .non (.bl false) (.ref tp))) jx=some (.ins yG jdx (jCK (.str nm) (.str (Str.ofString "ann")) (.int (n:Int)) (.int (cp:Int)) (.str (Ly.text ly)) (.str k0) (oV cvo) .non (.bl false) (.ref tp))):=jAc
    generalize upd (upd (upd G11 jdx (.own jx)) jx (.ins yG jdx [])) jx (.ins yG jdx (jCK (.str nm) (.str (Str.ofString "ann")) (.int (n:Int)) (.int (cp:Int)) (.str (Ly.text ly)) (.str k0) (oV cvo) .non (.bl false) (.ref tp)))=G12 at l6 hj ⊢
    have l46:=l5.trans l6
    obtain ⟨j,ej⟩:∃ j:Jv,j=⟨n,ly,k0,cvo,none⟩:=⟨_,rfl⟩
    have jok:j.Ok:=by rw [ej];exact ⟨n1,by show n≤999;omega,okl⟩
    have J12:jGz yG G12 jx nm cp j:=⟨jdx,_,_,_,.non,by rw [ej];exact hj,by rw [ej];rfl⟩
    refine fun rx rdx nrx nrdx nrxd=>?_
    have kr:∀ b o,G12 b=some o→b≠rx∧upd (upd G12 rdx (.own rx)) rx (.ins yK rdx []) b=some o:=fun b o e=>by
      have b1:b≠rx:=jAf e nrx
      exact ⟨b1,by rw [jAj b1,jAj (jAf e nrdx)];exact e⟩
    refine ⟨rx,rdx,jx,nm,cp,j,rfl,jAc,J12.fr (fun o e=>(kr _ _ e).2) (fun b xs e=>(kr _ _ e).2),jok,c1,by omega,(kr _ _ hj).1,fun il G13 k13 nil' R13=>⟨rfl,?_⟩⟩
    have l7:jAo G12 G13:=fun b o e=>k13 b o (kr b o e).1 (kr b o e).2
    have nil12:H10 il=none:=by
      cases e:H10 il with
      | none=>rfl
      | some o=>rw [(kr il o (l46 _ _ e)).2] at nil';cases nil'
    have elen:(jDd j).length=jBI ly n:=by unfold jDd;rw [List.length_map,jLJ,ej]
    have tot:(newR rdx jx il nm cp j).tot=jBI ly n * cp:=by show (jDd j).length * cp=_;rw [elen]
    have cn1:1≤jBI ly n:=by unfold jBI;exact Nat.le_add_left 1 _
    have cn9:jBI ly n≤n:=jLK n1
    refine hR _ _ ⟨l46.trans l7,rx,newR rdx jx il nm cp j,R13,⟨k01,by show j.paper=_;rw [ej],by show j.cover=_∨_;rw [ej];exact hco,ink_32 jok,rfl,?_,?_⟩,rfl,rfl,tot,l46.free nrx,nil12,rfl⟩
    · rw [tot];exact Nat.mul_le_mul cn1 c1
    · rw [tot];exact Nat.le_trans (Nat.mul_le_mul (Nat.le_trans cn9 n9) c3) (by decide)
  intro X σ H11 hX
  rintro ⟨s11,rx,r,R,k,rnm,er5,rtot,nrx,nil',rfl⟩
  have T1:=k.T1
  have T9:=k.T9
  -- the book
  refine hX (via e11 ?_)
  refine jBc (fun σ G=>jAo H11 G∧∃ dm wl,H11 dm=none∧H11 wl=none∧G wl=some (.lst (l3 fun _=>.str (wd .rd)))∧G dm=some (.dK [(kw "name",.str nm),(kw "total",.int (r.tot:Int)),(kw "paths",.ref ph),(kw "words",.ref wl)])∧σ=sg2 [.ref a,.int (n:Int),.str (Ly.text ly),.int (cp:Int),.ref kl,oV cvo,.str nm,.ref ph,.ref pl] v9 [.ref rx,.ref dm] (List.replicate 5 none)) (fun R' hR=>?_) ?_
  · refine fun dm ndm=>?_
    have s1:=jAk ndm (.dK [])
    have hd1:upd H11 dm (.dK []) dm=some (.dK []):=jAc
    generalize upd H11 dm (.dK [])=G1 at s1 hd1 ⊢
    have ev:(cp:Int) * ((jBI ly n:Nat):Int)=(r.tot:Int):=by rw [rtot,Int.natCast_mul,Int.mul_comm]
    have cn9:jBI ly n≤n:=jLK n1
    refine ⟨_,rfl,_,rfl,_,rfl,_,rfl,n,ly,rfl,okl,n1,by omega,_,_,rfl,rfl,.inl ⟨by omega,by omega⟩,_,rfl,small (show 1≤1000 by decide),fun l nl=>?_⟩
    have s2:=jAk nl (.lst [V.str (Str.ofString "ready")])
    have hl2:upd G1 l (.lst [V.str (Str.ofString "ready")]) l=some (.lst [V.str (Str.ofString "ready")]):=jAc
    generalize upd G1 l (.lst [V.str (Str.ofString "ready")])=G2 at s2 hl2 ⊢
    refine ⟨l,3,_,rfl,rfl,hl2,by decide,by decide,small (show 1 * 3≤1000 by decide),fun wl nwl=>?_⟩
    have s3:=jAk nwl (.lst (l3 fun _=>.str (wd .rd)))
    have hw3:upd G2 wl (.lst (l3 fun _=>.str (wd .rd))) wl=some (.lst (l3 fun _=>.str (wd .rd))):=jAc
    have hd3:upd G2 wl (.lst (l3 fun _=>.str (wd .rd))) dm=some (.dK []):=s3 _ _ (s2 _ _ hd1)
    refine ⟨hd3,[(kw "name",.str nm),(kw "total",.int ((cp:Int) * ((jBI ly n:Nat):Int))),(kw "paths",.ref ph),(kw "words",.ref wl)],rfl,(by show 4≤15;decide),?_⟩
    rw [show jBZ [] [(kw "name",V.str nm),(kw "total",.int ((cp:Int) * ((jBI ly n:Nat):Int))),(kw "paths",.ref ph),(kw "words",.ref wl)]=[(kw "name",V.str nm),(kw "total",.int ((cp:Int) * ((jBI ly n:Nat):Int))),(kw "paths",.ref ph),(kw "words",.ref wl)] by kernel_rfl,ev]
    have k4:=jB3 (d:=dm) (H:=upd G2 wl (.lst (l3 fun _=>.str (wd .rd)))) (.dK [(kw "name",V.str nm),(kw "total",.int (r.tot:Int)),(kw "paths",.ref ph),(kw "words",.ref wl)])
    exact hR _ _ ⟨fun b o e=>k4 _ _ (jAf e ndm) (s3 _ _ (s2 _ _ (s1 _ _ e))),dm,wl,ndm,s1.free (s2.free nwl),k4.lst hd3 hw3,jAc,rfl⟩
  intro X σ H12 hX
  rintro ⟨s12,dm,wl,ndm,nwl,hwl,hdm,rfl⟩
  refine hX (via e12 ?_)
  refine jBc (fun σ G=>Kd dm H12 G∧∃ al wi ou,H12 al=none∧H12 wi=none∧H12 ou=none∧wi≠al∧ou≠al∧G al=some (.lst (l3 fun _=>.str (Str.ofString "ready")))∧G wi=some (.lst [])∧G ou=some (.lst [])∧G dm=some (.dK (⟨nm,r.tot,ph,wl,al,wi,0,0,ou,false,.non,Pf,fun _=>Str.ofString "ready"⟩:MD).kv)∧σ=sg2 [.ref a,.int (n:Int),.str (Ly.text ly),.int (cp:Int),.ref kl,oV cvo,.str nm,.ref ph,.ref pl] v9 [.ref rx,.ref dm] (List.replicate 5 none)) (fun R' hR=>?_) ?_
  · refine ⟨_,rfl,.inr (.inr (.inl ⟨rfl,.inl ⟨_,hdm⟩⟩)),fun d2 nd2=>?_⟩
    have s1:=jAk nd2 (.dK [])
    have h1:upd H12 d2 (.dK []) d2=some (.dK []):=jAc
    have n2:dm≠d2:=jAf hdm nd2
    generalize upd H12 d2 (.dK [])=G1 at s1 h1 ⊢
    refine ⟨small (show 1≤1000 by decide),fun l nl=>?_⟩
    have s2:=jAk nl (.lst [V.str (Str.ofString "ready")])
    have hl2:upd G1 l (.lst [V.str (Str.ofString "ready")]) l=some (.lst [V.str (Str.ofString "ready")]):=jAc
    generalize upd G1 l (.lst [V.str (Str.ofString "ready")])=G2 at s2 hl2 ⊢
    refine ⟨l,3,_,rfl,rfl,hl2,by decide,by decide,small (show 1 * 3≤1000 by decide),fun al nal=>?_⟩
    have s3:=jAk nal (.lst (l3 fun _=>.str (Str.ofString "ready")))
    have h3:upd G2 al (.lst (l3 fun _=>.str (Str.ofString "ready"))) al=some (.lst (l3 fun _=>.str (Str.ofString "ready"))):=jAc
    rw [show (List.replicate (3:Int).toNat [V.str (Str.ofString "ready")]).flatten=l3 fun _=>.str (Str.ofString "ready") from rfl]
    generalize upd G2 al (.lst (l3 fun _=>.str (Str.ofString "ready")))=G3 at s3 h3 ⊢
    refine ⟨z0,fun wi nwi=>?_⟩
    have s4:=jAk nwi (.lst [])
    have h4:upd G3 wi (.lst []) wi=some (.lst []):=jAc
    generalize upd G3 wi (.lst [])=G4 at s4 h4 ⊢
    refine ⟨z0,fun ou nou=>?_⟩
    have s5:=jAk nou (.lst [])
    have h5:upd G4 ou (.lst []) ou=some (.lst []):=jAc
    generalize upd G4 ou (.lst [])=G5 at s5 h5 ⊢
    have hd5:=s5 _ _ (s4 _ _ (s3 _ _ (s2 _ _ h1)))
    refine ⟨hd5,[(kw "was",.ref al),(kw "within",.ref wi),(kw "came",.int 0),(kw "first",.int 0),(kw "outs",.ref ou),(kw "over",.bl false),(kw "at",.non)],rfl,(by show 7≤15;decide),?_⟩
    rw [show jBZ [] ([(kw "was",.ref al),(kw "within",.ref wi),(kw "came",.int 0),(kw "first",.int 0),(kw "outs",.ref ou),(kw "over",.bl false),(kw "at",.non)]:List (Key×V))=[(kw "was",.ref al),(kw "within",.ref wi),(kw "came",.int 0),(kw "first",.int 0),(kw "outs",.ref ou),(kw "over",.bl false),(kw "at",.non)] by kernel_rfl]
    have k6:=jB3 (d:=d2) (H:=G5) (.dK [(kw "was",.ref al),(kw "within",.ref wi),(kw "came",.int 0),(kw "first",.int 0),(kw "outs",.ref ou),(kw "over",.bl false),(kw "at",.non)])
    have h6:upd G5 d2 (.dK [(kw "was",.ref al),(kw "within",.ref wi),(kw "came",.int 0),(kw "first",.int 0),(kw "outs",.ref ou),(kw "over",.bl false),(kw "at",.non)]) d2=some (.dK [(kw "was",.ref al),(kw "within",.ref wi),(kw "came",.int 0),(kw "first",.int 0),(kw "outs",.ref ou),(kw "over",.bl false),(kw "at",.non)]):=jAc
    generalize upd G5 d2 (.dK [(kw "was",.ref al),(kw "within",.ref wi),(kw "came",.int 0),(kw "first",.int 0),(kw "outs",.ref ou),(kw "over",.bl false),(kw "at",.non)])=G6 at k6 h6 ⊢
    have s05:jAo H12 G5:=fun b o e=>s5 _ _ (s4 _ _ (s3 _ _ (s2 _ _ (s1 _ _ e))))
    have s06:jAo H12 G6:=fun b o e=>k6 _ _ (jAf e nd2) (s05 _ _ e)
    refine ⟨dm,d2,_,_,rfl,rfl,s06 _ _ hdm,h6,n2,(by show 11≤1000;decide),?_⟩
    rw [show jBZ [(kw "name",V.str nm),(kw "total",.int (r.tot:Int)),(kw "paths",.ref ph),(kw "words",.ref wl)] [(kw "was",.ref al),(kw "within",.ref wi),(kw "came",.int 0),(kw "first",.int 0),(kw "outs",.ref ou),(kw "over",.bl false),(kw "at",.non)]=(⟨nm,r.tot,ph,wl,al,wi,0,0,ou,false,.non,Pf,fun _=>Str.ofString "ready"⟩:MD).kv by kernel_rfl]
    have k7:=jB3 (d:=dm) (H:=G6) (.dK (⟨nm,r.tot,ph,wl,al,wi,0,0,ou,false,.non,Pf,fun _=>Str.ofString "ready"⟩:MD).kv)
    have hd6:=s06 _ _ hdm
    have f3:∀ b,G2 b=none→H12 b=none:=fun b nb=>s1.free (s2.free nb)
    exact hR _ _ ⟨(jCZ s06).trans k7,al,wi,ou,f3 _ nal,f3 _ (s3.free nwi),f3 _ (s3.free (s4.free nou)),(jAf h3 nwi).symm,(jAf (s4 _ _ h3) nou).symm,k7.lst hd6 (k6.lst hd5 (s5 _ _ (s4 _ _ h3))),k7.lst hd6 (k6.lst hd5 (s5 _ _ h4)),k7.lst hd6 (k6.lst hd5 h5),jAc,rfl⟩
  intro X σ H13 hX
  rintro ⟨k13,al,wi,ou,nal,nwi,nou,wial,oual,hal,hwi,hou,hm,rfl⟩
  have s1113:jAo H11 H13:=fun b o e=>k13 _ _ (jAf e ndm) (s12 _ _ e)
  have s1013:=s11.trans s1113
  have t13:=t6.trans (s10.trans s1013)
  -- the cells
  refine hX (via e13 ?_)
  refine jBc (fun σ G=>∃ (sm:Addr) (cs:List Int),jAo H13 G∧H13 sm=none∧G sm=some (.lst (cs.map V.int))∧cs.length≤40∧σ=sg2 [.ref a,.int (n:Int),.str (Ly.text ly),.int (cp:Int),.ref kl,oV cvo,.str nm,.ref ph,.ref pl] v9 [.ref rx,.ref dm,.ref sm] (List.replicate 4 none)) (fun R' hR=>⟨_,rfl,_,rfl,a,_,rfl,t13.seq hS,fun sm nsm=>?_⟩) ?_
  · rw [show (some (40:Int))=some ((40:Nat):Int) from rfl,jLg,← List.map_take]
    exact hR _ _ ⟨sm,ns.take 40,jAk nsm _,nsm,jAc,by rw [List.length_take];omega,rfl⟩
  intro X σ H14 hX
  rintro ⟨sm,cs,s14,nsm,hsm,hcs,rfl⟩
  have nr:∀ b o,H10 b=some o→b≠rx:=fun b o e=>jAf e nrx
  obtain ⟨ys,hys,_⟩:=id R.i
  have hwl13:H13 wl=some (.lst (l3 fun _=>.str (wd .rd))):=k13.lst hdm hwl
  have hph13:=s1013 _ _ (s710 _ _ hph)
  have hpl13:=s1013 _ _ hpl
  have in0:∀ i,i < 3→∃ ts,H10 (ds i).ins=some (.lst ts):=fun i i3=>⟨_,(Q3.a i i3).1.P.n⟩
  have Z0:Pz yK yG cZ cQ yJ yW yU H13 rx ps r ds k0 k1 Pf ⟨none,0,0,0,fun _=>.rd⟩ 0:=by
    refine ⟨?_,fun i i3=>?_,Q3.s,⟨T1,Nat.le_refl _,Nat.zero_le _,(fun i hi=>by cases hi),fun _=>rfl⟩⟩
    · show jAW yK yG H13 rx (R5 r none 0 0)
      rw [er5]
      exact R.same s1113
    · obtain ⟨N,_⟩:=Q3.a i i3
      obtain ⟨⟨dt,tt1⟩,_⟩:=id N.P.T
      obtain ⟨⟨di,ii1⟩,_⟩:=id N.P.I
      obtain ⟨dst,hst⟩:=id N.P.s
      exact ⟨N.P.same s1013,by rw [N.tg];exact jFW,nr _ _ N.P.o,nr _ _ tt1,nr _ _ ii1,nr _ _ hst,(jAf N.P.n nil').symm,N.S,N.pa,N.nm,(Q3.f i i3).1 i3⟩
  have M0:Bk H13 dm ⟨nm,r.tot,ph,wl,al,wi,0,0,ou,false,.non,Pf,fun _=>Str.ofString "ready"⟩ ⟨none,0,0,0,fun _=>.rd⟩:=⟨hm,hph13,hwl13,hal,⟨[],hwi,jFW⟩,hou,jAf hwl nal,jAf (s11 _ _ (s710 _ _ hph)) nwl,jAf (s12 _ _ (s11 _ _ (s710 _ _ hph))) nal,(jAf hwl nwi).symm,wial,(jAf hwl nou).symm,oual,rfl,rfl,(decide_eq_false (by show ¬ 0 + 0=r.tot + 1;omega)).symm,rfl,(fun i b e=>by cases e),T1,Nat.le_refl _,Nat.zero_le _,T9⟩
  have fresh:∀ {G:Hp} {l:Addr},jAo H10 G→G l=none→Off ds l:=fun sG nl i i3=>let ⟨_,e⟩:=in0 i i3;(jAf (sG _ _ e) nl).symm
  have L0:Lw yK yG cZ cQ yJ yW yU H14 rx pl dm sm ps r ds ⟨nm,r.tot,ph,wl,al,wi,0,0,ou,false,.non,Pf,fun _=>Str.ofString "ready"⟩ k0 k1 ⟨none,0,0,0,fun _=>.rd⟩ 0 (cs.map V.int):=by
    refine ⟨Z0.same s14,M0.same s14,rnm.symm,rfl,fun i=>Nat.le_trans (hPf i).2 (by decide),fun i i3=>da_new ((Q3.a i i3).1.P.same s11) ndm,?_,hsm,s14 _ _ hpl13,(jAf hwl13 nsm).symm,(jAf hal nsm).symm,jAf (s11 _ _ hpl) nwl,jAf (s12 _ _ (s11 _ _ hpl)) nal,jAf hys nwl,jAf (s12 _ _ hys) nal⟩
    rintro l (rfl | rfl | rfl | rfl | rfl | rfl | rfl)
    · exact fun i i3=>jAf hph (Q3.a i i3).1.ni
    · exact fresh s11 nwl
    · exact fresh (s11.trans s12) nal
    · exact fresh (s11.trans s12) nwi
    · exact fresh (s11.trans s12) nou
    · exact fresh s1013 nsm
    · exact fun i i3=>(Q3.a i i3).2
  clear Z0 M0 fresh in0 hwl13 hph13 hpl13 nr hys hm hou hwi hal k13 s1113 s1013 hdm hwl s12 s11 R Q3 hpl
  -- the deeds
  refine hX (via e14 ?_)
  refine jBc (fun σ G=>∃ (ds:Nat→PD) (m:MD) (z:Zs) (fe:Nat) (o:List (Option V)),Lw yK yG cZ cQ yJ yW yU G rx pl dm sm ps r ds m k0 k1 z fe (cs.map V.int)∧σ=sg2 [.ref a,.int (n:Int),.str (Ly.text ly),.int (cp:Int),.ref kl,oV cvo,.str nm,.ref ph,.ref pl] v9 [.ref rx,.ref dm,.ref sm] o) (fun R' hR=>⟨_,rfl,sm,_,rfl,.inl (SqL.of L0.hs),_,rfl,by rw [List.length_map];omega,by rw [List.length_map];omega,?_⟩) ?_
  · rw [List.length_map,Int.toNat_natCast]
    refine jE2 (lo:=0) (n:=cs.length) (fun i σ G=>∃ (ds:Nat→PD) (m:MD) (z:Zs) (fe:Nat) (v13 v14 v15 v16:Option V),Lw yK yG cZ cQ yJ yW yU G rx pl dm sm ps r ds m k0 k1 z fe (cs.map V.int)∧fe≤5 * i∧σ=sg2 [.ref a,.int (n:Int),.str (Ly.text ly),.int (cp:Int),.ref kl,oV cvo,.str nm,.ref ph,.ref pl] v9 [.ref rx,.ref dm,.ref sm] [v13,v14,v15,v16]) ⟨ds,_,_,0,none,none,none,none,L0,Nat.zero_le _,rfl⟩ (fun i σ G hi zz=>?_) (fun σ G zz=>?_)
    rotate_left
    · obtain ⟨ds,m,z,fe,v13,v14,v15,v16,L,hf,rfl⟩:=zz
      exact hR _ _ ⟨ds,m,z,fe,_,L,rfl⟩
    clear L0
    obtain ⟨ds,m,z,fe,v13,v14,v15,v16,L,hf,rfl⟩:=zz
    obtain ⟨c,ec'⟩:∃ c,cs[i]?=some c:=⟨_,List.getElem?_eq_getElem hi⟩
    refine ⟨_,rfl,_,rfl,sm,_,_,rfl,rfl,SqL.of L.hs,by omega,by rw [List.length_map];omega,fun v hv=>?_⟩
    obtain rfl:V.int c=v:=by
      rw [show ((0:Int) + (i:Int)).toNat=i by omega,List.getElem?_map,ec'] at hv
      exact Option.some.inj hv
    refine ⟨_,rfl,_,rfl,c,i,dm,m,z,rfl,by omega,L.M,L.zr,fun l us G1 s1 nl dl=>?_⟩
    have W0:∀ i,i < 3→∃ ts,G (ds i).ins=some (.lst ts):=fun i i3=>⟨_,(L.Z.W i i3).P.n⟩
    have nld:Off ds l:=fun i i3=>let ⟨_,e⟩:=W0 i i3;(jAf e nl).symm
    have nlw:l≠m.wl∧l≠m.al:=⟨(jAf L.M.s nl).symm,(jAf L.M.h nl).symm⟩
    refine ⟨l,rfl,⟨_,SqL.of dl.l⟩,jCm (K:=K) (a:=l) (xs:=us) (fun i2 σ G=>∃ (ds:Nat→PD) (m:MD) (z:Zs) (fe2:Nat) (v14 v15 v16:Option V),Lw yK yG cZ cQ yJ yW yU G rx pl dm sm ps r ds m k0 k1 z fe2 (cs.map V.int)∧G l=some (.lst us)∧Off ds l∧(l≠m.wl∧l≠m.al)∧(∀ (j:Nat) y,us[j]?=some y→∃ t D,y=.ref t∧G t=some (.tup (ddV D))∧D.Ok)∧fe2≤fe + i2∧σ=sg2 [.ref a,.int (n:Int),.str (Ly.text ly),.int (cp:Int),.ref kl,oV cvo,.str nm,.ref ph,.ref pl] v9 [.ref rx,.ref dm,.ref sm] [some (.int (0 + (i:Int))),v14,v15,v16]) ⟨ds,m,z,fe,v14,v15,v16,L.same s1,dl.l,nld,nlw,dl.u,Nat.le_refl _,rfl⟩ (fun i2 σ G _ zz=>?_) (fun i2 y σ G hy zz=>?_) (fun σ G zz=>?_)⟩
    · obtain ⟨ds,m,z,fe2,v14,v15,v16,_,hl,_⟩:=zz
      exact SqL.of hl
    rotate_left
    · obtain ⟨ds,m,z,fe2,v14,v15,v16,L,_,_,_,_,hf2,rfl⟩:=zz
      have:=dl.n
      exact ⟨ds,m,z,fe2,_,v14,v15,v16,L,by omega,rfl⟩
    have us5:=dl.n
    clear nld nl s1 dl L nlw W0
    obtain ⟨ds,m,z,fe2,v14,v15,v16,L,hl,nld,nlw,du,hf2,rfl⟩:=zz
    have i25:i2 < us.length:=(List.getElem?_eq_some_iff.mp hy).1
    obtain ⟨t,D,rfl,ht,dok⟩:=du _ _ hy
    refine jBc (fun σ G2=>∃ R u v1 m',nx r.nm r.tot m.P z D=R∧Kb dm m G G2∧G2 u=some (.tup [.str R.kd,R.wo,v1])∧IsR G2 r.nm (fun l=>l=m.wi∨G l=none) v1 R.rv∧Bk G2 dm m' R.z∧Go m m' G∧σ=sg2 [.ref a,.int (n:Int),.str (Ly.text ly),.int (cp:Int),.ref kl,oV cvo,.str nm,.ref ph,.ref pl] v9 [.ref rx,.ref dm,.ref sm] [some (.int (0 + (i:Int))),some (.ref t),some (.ref u),v16]) (fun R hR=>⟨_,rfl,_,rfl,dm,m,z,D,t,rfl,ht,dok,L.M,L.zr,fun R1 eR u v m' G2 kb h i M go=>?_⟩) ?_
    · rw [L.en,L.eT] at eR
      rw [L.en] at i
      exact hR _ _ ⟨R1,u,v,m',eR,kb,h,i,M,go,rfl⟩
    intro X σ G2 hX
    rintro ⟨R,u,v1,m',eR,kb,h1,i1,M1,go,rfl⟩
    have Z1:=L.Z.kb L.M kb L.da (L.of _ (.inr (.inl rfl))) (L.of _ (.inr (.inr (.inl rfl)))) L.i1 L.i2
    have kt:∀ b xs,G b=some (.tup xs)→G2 b=some (.tup xs):=fun b xs e=>kb _ _ (jAn e L.M.d (by intro z;cases z)) (jAn e L.M.s (by intro z;cases z)) (jAn e L.M.h (by intro z;cases z)) e
    have klx:∀ {b:Addr} {ts:List V},b≠m.wl→b≠m.al→G b=some (.lst ts)→G2 b=some (.lst ts):=fun n1 n2 e=>kb _ _ (jAn e L.M.d (by intro z;cases z)) n1 n2 e
    have W0:∀ i,i < 3→∃ ts,G (ds i).ins=some (.lst ts):=fun i i3=>⟨_,(L.Z.W i i3).P.n⟩
    have sml:=jOE (nm:=r.nm) (P:=m.P) (D:=D) L.Z.ok.af L.Z.ok.fT T9
    have flt:=nx_flat (nm:=r.nm) (T:=r.tot) (P:=m.P) (z:=z) (D:=D)
    have hp2:=klx L.l1 L.l2 L.hp
    refine hX ?_
    refine jBc (fun σ G3=>∃ u2 v2 i' d',i' < 3∧Kp rx (ps i') (ds i') G2 G3∧G3 u2=some (.tup [.str R.kd,R.wo,v2])∧IsR G3 r.nm (fun _=>True) v2 R.rv∧Pz yK yG cZ cQ yJ yW yU G3 rx ps r (jBD ds i' d') k0 k1 m.P R.z (fe2 + 1)∧Gp (ds i') d' G2∧σ=sg2 [.ref a,.int (n:Int),.str (Ly.text ly),.int (cp:Int),.ref kl,oV cvo,.str nm,.ref ph,.ref pl] v9 [.ref rx,.ref dm,.ref sm] [some (.int (0 + (i:Int))),some (.ref t),some (.ref u),some (.ref u2)]) (fun R' hR=>⟨_,rfl,_,rfl,_,rfl,rx,pl,t,ps,r,ds,k0,k1,m.P,z,fe2,D,rfl,kt _ _ ht,hp2,dok,k,Z1,by omega,fun R2 eR2 u2 v2 j d' G3 j3 kp h2 iv2 Z2 gp=>?_⟩) ?_
    · obtain rfl:=eR.symm.trans eR2
      exact hR _ _ ⟨u2,v2,j,d',j3,kp,h2,iv2,Z2,gp,rfl⟩
    intro X σ G3 hX
    rintro ⟨u2,v2,j,d',j3,kp,h2,iv2,Z2,gp,rfl⟩
    rw [eR] at sml flt
    have hx:=Z1.R.o
    have Uj:=(Z1.W j j3).P
    have kt3:=jJe hx Uj kp
    have h13:=kt3 _ _ h1
    have ofw:Off ds m'.wi:=go_ne W0 (L.of _ (.inr (.inr (.inr (.inl rfl))))) go.wi
    have ofo:Off ds m'.ou:=go_ne W0 (L.of _ (.inr (.inr (.inr (.inr (.inl rfl)))))) go.ou
    have i13:=IsR.kp hx Uj kp (fun l hl=>(go_ne W0 (L.of _ (.inr (.inr (.inr (.inl rfl))))) hl) j j3) i1
    have ofm:∀ l,l=m'.pl∨l=m'.wl∨l=m'.al∨l=m'.wi∨l=m'.ou∨l=sm∨l=pl→Off ds l:=by
      rintro l (rfl | rfl | rfl | rfl | rfl | rfl | rfl)
      · rw [go.pl];exact L.of _ (.inl rfl)
      · rw [go.wl];exact L.of _ (.inr (.inl rfl))
      · rw [go.al];exact L.of _ (.inr (.inr (.inl rfl)))
      · exact ofw
      · exact ofo
      · exact L.of _ (.inr (.inr (.inr (.inr (.inr (.inl rfl))))))
      · exact L.of _ (.inr (.inr (.inr (.inr (.inr (.inr rfl))))))
    have M3:Bk G3 dm m' R.z:=M1.kp hx Uj kp (L.da j j3) fun l hl=>ofm l (by rcases hl with h | h | h | h | h;exact .inl h;exact .inr (.inl h);exact .inr (.inr (.inl h));exact .inr (.inr (.inr (.inl h)));exact .inr (.inr (.inr (.inr (.inl h))))) j j3
    have hs2:=klx L.s1 L.s2 L.hs
    obtain ⟨ws,hw,_⟩:=M1.w.ex
    have ex2:∀ l,l=m'.pl∨l=m'.wl∨l=m'.al∨l=m'.wi∨l=m'.ou∨l=sm∨l=pl→∃ o,G2 l=some o:=by
      rintro l (rfl | rfl | rfl | rfl | rfl | rfl | rfl)
      · exact ⟨_,M1.p⟩
      · exact ⟨_,M1.s⟩
      · exact ⟨_,M1.h⟩
      · exact ⟨_,hw⟩
      · exact ⟨_,M1.o⟩
      · exact ⟨_,hs2⟩
      · exact ⟨_,hp2⟩
    have L3:Lw yK yG cZ cQ yJ yW yU G3 rx pl dm sm ps r (jBD ds j d') m' k0 k1 R.z (fe2 + 1) (cs.map V.int):=by
      refine ⟨by rw [go.P];exact Z2,M3,go.nm.trans L.en,go.T.trans L.eT,by rw [go.P];exact L.p10,fun i i3=>?_,fun l hl=>let ⟨_,e⟩:=ex2 l hl;jN2 (ofm l hl) gp e,jHk hx Uj kp (ofm _ (.inr (.inr (.inr (.inr (.inr (.inl rfl)))))) j j3) hs2,jHk hx Uj kp (ofm _ (.inr (.inr (.inr (.inr (.inr (.inr rfl)))))) j j3) hp2,by rw [go.wl];exact L.s1,by rw [go.al];exact L.s2,by rw [go.wl];exact L.l1,by rw [go.al];exact L.l2,by rw [go.wl];exact L.i1,by rw [go.al];exact L.i2⟩
      unfold jBD
      split
      · next c=>subst c;exact (L.da _ i3).gp gp
      · exact L.da _ i3
    have hl2:=klx nlw.1 nlw.2 hl
    have hl3:=jHk hx Uj kp (nld j j3) hl2
    have nl3:Off (jBD ds j d') l:=jN2 nld gp hl2
    have nlw3:l≠m'.wl∧l≠m'.al:=by rw [go.wl,go.al];exact nlw
    have du3:∀ (j:Nat) y,us[j]?=some y→∃ t D,y=.ref t∧G3 t=some (.tup (ddV D))∧D.Ok:=fun j y e=>let ⟨t,D,e1,e2,e3⟩:=du j y e;⟨t,D,e1,kt3 _ _ (kt _ _ e2),e3⟩
    clear L Z1 kb kp ht i1 h1 hw hl nld du M3 M1 Z2 ofw ofo ofm ex2 hs2 hp2 kt kt3 klx W0 hx Uj nlw hl2
    refine hX ?_
    refine (Tst.or (b:=false) (c:=false) (fun F1 f1 Q' q'=>?_) (Tst.or (b:=false) (c:=false) (fun F1 f1 Q' q'=>?_) (fun F1 f1 Q' q'=>?_))).iff (fun c=>absurd c (by decide)) (fun _ F1 f1=>?_)
    · refine ⟨_,rfl,_,rfl,u2,_,rfl,SqT.of (f1 _ _ h2),(fun z=>absurd z.2 (show ¬ HT.sIx 3 3 (some 2)=3 by decide)),fun p1 np1=>?_⟩
      have s1:=jAk np1 (.tup [V.str R.kd,R.wo])
      refine ⟨_,rfl,_,rfl,u,_,rfl,SqT.of (s1 _ _ (f1 _ _ h13)),(fun z=>absurd z.2 (show ¬ HT.sIx 3 3 (some 2)=3 by decide)),fun p2 np2=>?_⟩
      have s2:=jAk np2 (.tup [V.str R.kd,R.wo])
      refine ⟨p1,p2,[V.str R.kd,R.wo],[V.str R.kd,R.wo],rfl,rfl,.inr ⟨SqT.of (s2 _ _ jAc),SqT.of jAc⟩,rfl,fun j hj=>?_,false,rfl,q' _ (s1.trans s2)⟩
      have:j=0∨j=1:=by have:j < 2:=hj;omega
      rcases this with rfl | rfl
      · exact ⟨rfl,rfl⟩
      · exact ⟨rfl,flt⟩
    · exact ⟨_,rfl,u2,_,_,_,rfl,rfl,SqT.of (f1 _ _ h2),jAz (j:=2) rfl,_,rfl,u,_,_,_,rfl,rfl,SqT.of (f1 _ _ h13),jAz (j:=2) rfl,v2,v1,r.nm,_,_,R.rv,rfl,iv2.same f1,i13.same f1,sml.1,sml.2,true,rfl,q' _ (jAo.refl _)⟩
    · have L4:=L3.same f1
      exact ⟨_,rfl,_,rfl,_,rfl,rx,pl,dm,ps,r,jBD ds j d',m',k0,k1,_,_,rfl,L4.hp,k,L4.Z,L4.M,L4.en,L4.eT,fun G4 s4=>⟨true,rfl,q' _ s4⟩⟩
    · exact ⟨jBD ds j d',m',R.z,fe2 + 1,_,_,_,L3.same f1,f1 _ _ hl3,nl3,nlw3,fun j y e=>let ⟨t,D,e1,e2,e3⟩:=du3 j y e;⟨t,D,e1,f1 _ _ e2,e3⟩,by omega,rfl⟩
  -- all that came out
  intro X σ G hX
  rintro ⟨ds,m,z,fe,o,L,rfl⟩
  refine hX ?_
  rw [e15]
  refine ⟨_,rfl,_,rfl,_,rfl,rx,pl,dm,ps,r,ds,m,k0,k1,z,fe,rfl,L.hp,k,L.Z,L.M,L.en,L.eT,fun G1 s1=>⟨true,rfl,jAP ?_⟩⟩
  have M1:=L.M.same s1
  have fT:=M1.fT
  have af:=M1.af
  have T9':=M1.T9
  refine ⟨_,rfl,dm,_,rfl,jFV M1.d,_,rfl,dm,_,rfl,jFV M1.d,m.ou,_,rfl,.inl (SqL.of M1.o),_,rfl,?_⟩
  rw [jEr,Int.toNat_natCast]
  refine ⟨⟨by omega,by omega⟩,small (by omega),Nat.le_trans (show z.b + (z.a - 1)≤1000 by omega) (by decide),fun l nl=>?_⟩
  have en:jG3 0 (z.b + (z.a - 1))=jCD (z.b + (z.a - 1)):=by
    unfold jG3 jCD
    refine List.map_congr_left fun k _=>?_
    rw [Int.zero_add]
  rw [en]
  have s2:=jAk nl (.lst (jCD (z.b + (z.a - 1))))
  have fl:(jCD (z.b + (z.a - 1))).all jA1=true:=by
    rw [List.all_eq_true]
    intro v hv
    obtain ⟨_,_,rfl⟩:=List.mem_map.mp hv
    rfl
  refine ⟨m.ou,l,_,_,rfl,rfl,SqL.of (s2 _ _ M1.o),SqL.of jAc,fl,fl,?_⟩
  rw [if_neg (by decide),jNu fl]
  exact q _
end
end My
namespace PySem.W.Fast
noncomputable def tw8625407232508175564:PySem.Program:=PySem.Challenge.pw_spoolhall_k33_taken_over
theorem te8625407232508175564:PySem.Challenge.pw_spoolhall_k33_taken_over=tw8625407232508175564:=rfl
def tw6292502754434319851:=0
def tw18440188104686529337:=0
def tw3997369727626133236:=0
def tw14000737201718257525:=0
def tw16838136076824691231:=0
def tw16048387007251031414:=0
def tw1200885242263145823:=0
def tw4833168152263317981:=0
def tw252641172836305218:=0
def tw12914013067740070903:=0
def tw2477433144930207094:=0
def tw9248284537032099450:=0
def tw12042704410508446914:=0
def tw2332644853721362360:=0
def tw4108298947216906117:=0
def tw912791242258829137:=0
def tw5712176830805404930:=0
def tw6120773899129225339:=0
def tw10649672861781580047:=0
def tw5356074757560348010:=0
def tw6505643200947349394:=0
def tw6925483372964682451:=0
def tw6547983350945615504:=0
def tw9909046219383047788:=0
def tw10482490464829064173:=0
def tw7231425346887698785:=0
def tw14041688411154606799:=0
def tw13429982736998425153:=0
def tw13452526509024729446:=0
def tw13997623399802634943:=0
def tw7714860493435388491:=0
def tw135323468218698195:=0
def tw9922731455932447738:=0
def tw8632093304329853343:=0
def tw8245515164694753141:=0
def tw17440322371757398355:=0
def tw15426107582792930609:=0
def tw13812198697338986032:=0
def tw3727171101180115023:=0
def tw7557750330437371950:=0
def tw13615468781640879884:=0
def tw5117607543027760162:=0
def tw14005208817998071190:=0
def tw14194241027987463391:=0
def tw2452784651974970427:=0
def tw7447862719678625469:=0
def tw16116085534462614678:=0
def tw4018380275427772982:=0
def tw12550836864798466951:=0
def tw6335852173203864351:=0
def tw13760534648613810790:=0
def tw17098323704106000402:=0
def tw11764582307189360908:=0
def tw8523146179849997514:=0
def tw446061835218777084:=0
def tw17911159870191528881:=0
def tw5109557613614468274:=0
def tw1982049800161995115:=0
def tw17766346982658925780:=0
def tw1634120856043827221:=0
def tw4704382861178541131:=0
def tw244328774791367177:=0
def tw9168710667857240934:=0
def tw2682919844924469452:=0
def tw1747176340695188136:=0
def tw695136055243426462:=0
def tw15374278139182441419:=0
def tw4642568273937573986:=0
def tw8028234877417624373:=0
def tw4132150160555229420:=0
def tw8385761505325859545:=0
def tw8553709528735833552:=0
def tw8243574742034792656:=0
def tw17513835867263989979:=0
def tw4761307358703295877:=0
def tw8427443401152308933:=0
def tw15788096416414614537:=0
def tw16505096908627573208:=0
def tw17685323654896438933:=0
def tw685129884023250874:=0
def tw4020148329560816349:=0
def tw4199658706402256687:=0
def tw9137923925442482700:=0
def tw11934782428207966165:=0
def tw11556223077788367598:=0
def tw17276972977742182691:=0
def tw5129418516020683544:=0
def tw11502602410982969570:=0
def tw6066515420914495476:=0
def tw17283297331636633973:=0
def tw13544787851090478168:=0
def tw1765056741516733912:=0
def tw5872995314936417981:=0
def tw9755390935330561115:=0
def tw11049534042564361646:=0
def tw10705748731153508081:=0
def tw8998798168125624902:=0
def tw8581314947898948871:=0
def tw8007123548139647708:=0
def tw3446235822734725296:=0
def tw15870890823316819042:=0
def tw18373327748297487832:=0
def tw1092963341920886691:=0
def tw10903021318228135028:=0
def tw13948192527702376034:=0
def tw4725274801992621823:=0
def tw3223235415308997056:=0
def tw12713517223535236498:=0
def tw13873838816724045055:=0
def tw11324305131108620302:=0
def tw3798905250197407192:=0
def tw12877200336546754014:=0
def tw10763974636985142121:=0
def tw9820939348060362620:=0
def tw17584653200368721918:=0
def tw6666376296792743209:=0
def tw6050496007496858588:=0
def tw14939279904476227107:=0
def tw16336741111002510125:=0
def tw15211939699920708597:=0
def tw11626286793302731804:=0
def tw5160631658227986730:=0
def tw16596944613473918080:=0
def tw13357920909830153285:=0
def tw13695836207306461005:=0
def tw5271273965666220155:=0
def tw18010577587932824483:=0
def tw16097154988637213302:=0
def tw13962187215161978561:=0
def tw5725323362030355626:=0
def tw11290876403014346592:=0
def tw16565692511160455008:=0
def tw7192937170253207991:=0
def tw14533828355175237713:=0
def tw6483530304751290153:=0
def tw6126540139592221900:=0
def tw10102308470915083661:=0
def tw3382519682798561367:=0
def tw10125225794102902737:=0
def tw6025025786260611341:=0
def tw5829067399633386398:=0
def tw14065293660983062384:=0
def tw13476789044342483449:=0
def tw18259039378047165762:=0
def tw17159848056958098262:=0
def tw17182962560649623005:=0
def tw11341627958904331860:=0
def tw9576395487800847517:=0
def tw16037596047887201495:=0
def tw9939931247947136967:=0
def tw10769396990749596401:=0
def tw15083955671329656297:=0
def tw7301582840661364921:=0
def tw5611888824686186005:=0
def tw14759256718844904159:=0
def tw3550557511260653940:=0
def tw9194070250122097749:=0
def tw1841785089858018099:=0
def tw12506233210344966683:=0
def tw17935775952944479615:=0
def tw1239851815497848023:=0
def tw8200128145024732973:=0
def tw3740482311388660506:=0
def tw8518918384778267357:=0
def tw2546017421337989024:=0
def tw4652823657364058734:=0
def tw18064886544485195705:=0
def tw13180917978009603725:=0
def tw2058109093710943882:=0
def tw10914399404976046089:=0
def tw2301768032702959983:=0
def tw17836301950274253785:=0
def tw5743277544431928425:=0
def tw2081498517889719091:=0
def tw17844993678879949713:=0
def tw1721824992371347772:=0
def tw10978696077501627389:=0
def tw2786900373485416447:=0
def tw5273062345144252090:=0
def tw1467121598374729404:=0
def tw15628883878222086973:=0
def tw1155139854828779498:=0
def tw7346790140608357565:=0
def tw6052428061744451876:=0
def tw2585905848014084184:=0
def tw5019296508922391358:=0
def tw12956718616496090164:=0
def tw9118073198011098483:=0
def tw16844498205257607110:=0
def tw12496427833756184996:=0
def tw8127747866581031208:=0
def tw85371422460058508:=0
def tw3738029377878407561:=0
def tw18384358764971406830:=0
def tw192460176848587743:=0
def tw13704540300374666364:=0
def tw12573049893455012061:=0
def tw8243100455868966769:=0
def tw7003544342110759723:=0
def tw10007359345844869167:=0
def tw1450760405897896487:=0
def tw6092598509861407491:=0
def tw18279130515303942341:=0
def tw9104798757785330081:=0
def tw4118574897608015129:=0
def tw12883770527294383279:=0
def tw13221010922308495574:=0
def tw781618529656087993:=0
def tw9570737698410258485:=0
def tw3241861373707713341:=0
def tw14934309629890716241:=0
def tw4762291369640825359:=0
def tw17347664035131374715:=0
def tw2039559564300357740:=0
def tw18044718307698701241:=0
def tw17291741506453812890:=0
def tw17186760304985860438:=0
def tw7841702791029527968:=0
def tw11741538254636932895:=0
def tw8695917603017957072:=0
def tw17224831276597630793:=0
def tw16456084474150854765:=0
def tw8370032479358412799:=0
def tw4670681807568360909:=0
def tw12912539379792378903:=0
def tw6507895481444711441:=0
def tw1236170203968288875:=0
def tw7244545641957280057:=0
def tw4525299183494826764:=0
def tw321445587883585169:=0
def tw897777003356294395:=0
def tw5940071438359576959:=0
def tw16950960838150836924:=0
def tw16778175389040946047:=0
def tw1146132901830492850:=0
def tw13735150707943762955:=0
def tw16321468723174738349:=0
def tw5839690462089687838:=0
def tw4528791197054810336:=0
def tw3802835627286072554:=0
def tw2958655071108452919:=0
def tw9796056856006375084:=0
def tw399852072890051558:=0
def tw2902654799830748066:=0
def tw6377192428958285065:=0
def tw17029634211086345615:=0
def tw842147673814773750:=0
def tw17890051900594095564:=0
def tw14564336572579853670:=0
def tw2301586540456496428:=0
def tw1990762012603206983:=0
def tw17300485237440962492:=0
def tw11878640297778794100:=0
def tw660256821423178178:=0
def tw11974972480977619593:=0
def tw4191658067587712546:=0
def tw7023352603778870282:=0
def tw16022100147214586217:=0
def tw13249220292239045175:=0
def tw3460993824031425533:=0
def tw8449653288448219916:=0
def tw7400593112437684650:=0
def tw2018748651607739671:=0
def tw7308431278223301201:=0
def tw6608505862603930227:=0
def tw13206936172873522894:=0
def tw14236936689296938418:=0
def tw17883021836721876015:=0
def tw13772142297537258241:=0
def tw16759553649167863028:=0
def tw18188331175944921271:=0
def tw10716437800450992235:=0
def tw6641749809669191687:=0
def tw9709222165260504981:=0
def tw6879598972945355930:=0
def tw17932755185795583555:=0
def tw14561767858066298022:=0
def tw9167296306987071576:=0
def tw6560967577458221253:=0
def tw6273546091987849454:=0
def tw10806805511202581153:=0
def tw16112934434920625009:=0
def tw13457024681828958600:=0
def tw11072112843821262663:=0
def tw18118896698672595687:=0
def tw14048920596613959205:=0
def tw17081951356734784174:=0
def tw4988812392221554027:=0
def tw3881840366582429131:=0
def tw17875763453107129836:=0
def tw10521293485742258175:=0
def tw14604891549017218774:=0
def tw6698563442526467632:=0
def tw12804003116198502662:=0
def tw4352812394430739206:=0
def tw11071326140278855529:=0
def tw897677696977127887:=0
def tw8554667904802500969:=0
def tw5267530373533343231:=0
def tw12323659812508018328:=0
def tw4012318026827792930:=0
def tw9639580391150179963:=0
def tw7099243915836244165:=0
def tw5164375876112341000:=0
def tw2335194371391099491:=0
def tw2314387515016136269:=0
def tw11030008890219202362:=0
def tw7954063518951684589:=0
def tw9038538543759869542:=0
def tw4858053014365807895:=0
def tw12718293021670574784:=0
def tw3802585817395694491:=0
def tw12869199937756443511:=0
def tw2214166132758989543:=0
def tw319174199565669098:=0
def tw7158508859174934767:=0
def tw17823709306255431549:=0
def tw17552836656595311128:=0
def tw17317851403907836034:=0
def tw17185075102522172875:=0
def tw11052608272778488285:=0
def tw2036374084960319421:=0
def tw10446425332884101238:=0
def tw14389307848965776:=0
def tw5328232119028034634:=0
def tw15380761571901099891:=0
def tw4205787685937838399:=0
def tw8318090297983940569:=0
def tw15107077442939238696:=0
def tw8799932862714222842:=0
def tw17392120737952999371:=0
def tw17149453492541974940:=0
def tw16411606810391874901:=0
def tw8705883596400329777:=0
def tw8013752702510668477:=0
def tw7626583988501065746:=0
def tw5682133924927248655:=0
def tw14412418539341758255:=0
def tw9970353999375801998:=0
def tw1369982930330674634:=0
def tw8614858208275824403:=0
def tw6018890333522284089:=0
def tw1249174755815263410:=0
def tw11878612989289245265:=0
def tw15692324435023349093:=0
def tw3016233247054297480:=0
def tw17784118111686274571:=0
def tw1344673093457030943:=0
def tw300532688065115038:=0
def tw64192986469856217:=0
def tw5285558523827856952:=0
def tw4916964121619696546:=0
def tw18367470423959827758:=0
def tw14901799579354909625:=0
def tw8876669547250875247:=0
def tw8749298627302690139:=0
def tw14627351529235660790:=0
def tw10330131581419867479:=0
def tw10130119917285346033:=0
def tw10005476752384819347:=0
def tw10246453393351514443:=0
def tw9091586363660587862:=0
def tw8754350826456892752:=0
def tw1932125715723947319:=0
def tw16794445887351404918:=0
def tw10660366953694859116:=0
def tw5503449259990931839:=0
def tw7878466903140969206:=0
def tw3032011091633416919:=0
def tw2590416443719719024:=0
def tw6926525989496374560:=0
def tw6551620405975287805:=0
def tw5734660342345010208:=0
def tw541088888767916768:=0
def tw3523013470795448691:=0
def tw1695195023371636305:=0
def tw16469501143980207605:=0
def tw13002591289562128337:=0
def tw9294173629931051712:=0
def tw5640225967789391414:=0
def tw16555392690370650128:=0
def tw8492075038625276577:=0
def tw4284685881174391864:=0
def tw3989769029387968504:=0
def tw16858947148381947529:=0
def tw12789112845244460417:=0
def tw11391266123305753324:=0
def tw10985096523719430422:=0
def tw10159309242655538204:=0
def tw3253539075514571059:=0
def tw8710273591495486070:=0
def tw2504083112686401162:=0
def tw5488683299990899646:=0
def tw17907548680841038635:=0
def tw17618466094988595839:=0
def tw17148037736837709287:=0
def tw16961106710465338064:=0
def tw15242136551758547549:=0
def tw12678448882205306616:=0
def tw5118865117695578013:=0
end PySem.W.Fast
namespace My
open PySem L2
theorem bn1 {p:List Value→Prop} (h:∀ a0:Value,p [a0]) (us:List Value) (l:us.length=1):p us:=match us,l with | [a0],_=>h a0
theorem bn2 {p:List Value→Prop} (h:∀ a0 a1:Value,p [a0,a1]) (us:List Value) (l:us.length=2):p us:=match us,l with | [a0,a1],_=>h a0 a1
theorem bn3 {p:List Value→Prop} (h:∀ a0 a1 a2:Value,p [a0,a1,a2]) (us:List Value) (l:us.length=3):p us:=match us,l with | [a0,a1,a2],_=>h a0 a1 a2
theorem bn5 {p:List Value→Prop} (h:∀ a0 a1 a2 a3 a4:Value,p [a0,a1,a2,a3,a4]) (us:List Value) (l:us.length=5):p us:=match us,l with | [a0,a1,a2,a3,a4],_=>h a0 a1 a2 a3 a4
theorem bn7 {p:List Value→Prop} (h:∀ a0 a1 a2 a3 a4 a5 a6:Value,p [a0,a1,a2,a3,a4,a5,a6]) (us:List Value) (l:us.length=7):p us:=match us,l with | [a0,a1,a2,a3,a4,a5,a6],_=>h a0 a1 a2 a3 a4 a5 a6
theorem bn11 {p:List Value→Prop} (h:∀ a0 a1 a2 a3 a4 a5 a6 a7 a8 a9 a10:Value,p [a0,a1,a2,a3,a4,a5,a6,a7,a8,a9,a10]) (us:List Value) (l:us.length=11):p us:=match us,l with | [a0,a1,a2,a3,a4,a5,a6,a7,a8,a9,a10],_=>h a0 a1 a2 a3 a4 a5 a6 a7 a8 a9 a10
def Fi (K:PySem.W.Frag) (C:Addr) (n:Str) (f:Addr):Prop:=PySem.W.findIn K (.ref C) n=some (some (.ref f))
def Ng (K:PySem.W.Frag) (n:Str) (v:Option Value):Prop:=PySem.W.nsIn K mainGlobals n=some v
structure MP (K:PySem.W.Frag) (C:Addr) (n q:Str) (st:Stmt) (f:Addr):Prop where
  a:Fi K C n f
  i:PySem.W.isFn K (.ref f)=true
  F:∃ fd,Fun K n q st f fd
structure GP (K:PySem.W.Frag) (n:Str) (st:Stmt) (f:Addr):Prop where
  a:Ng K n (some (.ref f))
  F:∃ fd,Fun K n n st f fd
def cpB (K:PySem.W.Frag) (C:Addr) (fs:List Str):Bool:=PySem.W.plainGet K C Str.empty && PySem.W.hasDictIn K C && PySem.W.plainOver K C && PySem.W.findIn K (.ref C) "__setattr__" == some (some (.builtin "object.__setattr__")) && PySem.W.makesIn K C && PySem.W.keepIn K (.ref C) && fs.all fun f=>PySem.W.findIn K (.ref C) f == some none
structure CP (K:PySem.W.Frag) (n:Str) (C:Addr) (fs:List Str):Prop where
  a:Ng K n (some (.ref C))
  c:Cls K C
  m:PySem.W.makesIn K C=true
  k:PySem.W.keepIn K (.ref C)=true
  n:∀ (i:Nat) {f:Str},fs[i]?=some f→jAu K C f
structure XP (K:PySem.W.Frag) (n:Str) (C:Addr) (fs:List Str):Prop where
  a:Ng K n (some (.ref C))
  x:xcls K C fs=true
  m:PySem.W.excMk K C=true
  k:PySem.W.keepIn K (.ref C)=true
def GsP (K:PySem.W.Frag) (n z:Str):Prop:=∃ t,Ng K n (some (.str z t))
def GiP (K:PySem.W.Frag) (n:Str) (z:Int):Prop:=∃ t,Ng K n (some (.int z t))
section
variable {K:PySem.W.Frag} {C f:Addr} {n q:Str} {st:Stmt} {oc kV doc pm cdv ct:Value} {od an:Option Addr} {osl:Array (Option Value)} {fs:List Str}
theorem MP.of (a:PySem.W.findIn K (.ref C) n=some (some (.ref f))) (i:PySem.W.isFn K (.ref f)=true) (l:K.lookup f=some ⟨oc,od,.func (PySem.W.fnOf n q (jDj st) (jCw st) (jAh st) .none kV doc pm an cdv ct),osl⟩) (c:PySem.W.codeIn K cdv q=true) (k:PySem.W.keepIn K (.ref f)=true):MP K C n q st f:=⟨a,i,_,jNs l c k⟩
theorem GP.of (a:PySem.W.nsIn K mainGlobals n=some (some (.ref f))) (l:K.lookup f=some ⟨oc,od,.func (PySem.W.fnOf n n (jDj st) (jCw st) (jAh st) .none kV doc pm an cdv ct),osl⟩) (c:PySem.W.codeIn K cdv n=true) (k:PySem.W.keepIn K (.ref f)=true):GP K n st f:=⟨a,_,jNs l c k⟩
theorem CP.of (a:PySem.W.nsIn K mainGlobals n=some (some (.ref C))) (b:cpB K C fs=true):CP K n C fs:=by
  unfold cpB at b
  simp only [Bool.and_eq_true,beq_iff_eq,List.all_eq_true] at b
  obtain ⟨⟨⟨⟨⟨⟨h1,h2⟩,h3⟩,h4⟩,h5⟩,h6⟩,h7⟩:=b
  exact ⟨a,⟨h1,h2,h3,h4⟩,h5,h6,fun i f e=>h7 f (List.mem_of_getElem? e)⟩
theorem XP.of (a:PySem.W.nsIn K mainGlobals n=some (some (.ref C))) (x:xcls K C fs=true) (m:PySem.W.excMk K C=true) (k:PySem.W.keepIn K (.ref C)=true):XP K n C fs:=⟨a,x,m,k⟩
theorem GsP.of {x z:Str} {t:Tok} (g:PySem.W.nsIn K mainGlobals n=some (some (.str x t))) (e:x=z):GsP K n z:=⟨t,e ▸ g⟩
theorem GiP.of {x z:Int} {t:Tok} (g:PySem.W.nsIn K mainGlobals n=some (some (.int x t))) (e:x=z):GiP K n z:=⟨t,e ▸ g⟩
variable {P:Program} {w:World} {mg:Str→Option Value} {base h:Heap} {k:Nat} {fd:FuncData} {ps:List Str} {sp:Sp} {x:Str}
theorem mtE (a:Fi K C n f) (i:PySem.W.isFn K (.ref f)=true) (F:Fun K x q st f fd) (o:jAq P w K mg base (CXe P w) k f fd ps sp) (b:jBo K fd ps []):MtE P w K mg base k n C ps sp:=⟨_,_,⟨a,i,F.kp⟩,o,b⟩
theorem dfN (X:K.In h) (G:h.Ns mainGlobals mg) (p:GP K n st f) (F:Fun K n n st f fd) (o:jAq P w K mg base CX0 k f fd ps sp) (b:jBo K fd ps []):Dfn P w K mg base k n ps sp:=⟨_,_,o,b,F.kp,PySem.W.mg_of X G p.a⟩
theorem dfX (X:K.In h) (G:h.Ns mainGlobals mg) (p:GP K n st f) (F:Fun K n n st f fd) (o:jAq P w K mg base (CXe P w) k f fd ps sp) (b:jBo K fd ps []):DfE P w K mg base k n ps sp:=⟨_,_,o,b,F.kp,PySem.W.mg_of X G p.a⟩
theorem mkD (X:K.In h) (G:h.Ns mainGlobals mg) (c:CP K n C fs) (p:MP K C "__init__" q st f) (o:jAq P w K mg base CX0 k f fd ps sp) (b:jBo K fd ps []):MkD P w K mg base k n C ps sp:=⟨_,_,⟨c.m,p.a,p.i,c.k⟩,o,b,PySem.W.mg_of X G c.a⟩
theorem mkX (X:K.In h) (G:h.Ns mainGlobals mg) (c:XP K n C fs) (p:MP K C "__init__" q st f) (o:jAq P w K mg base CX0 k f fd ps sp) (b:jBo K fd ps []) (e:ps.length≤1000:=by decide):jCJ P w K mg base k n C ps sp:=⟨⟨_,_,⟨c.m,p.a,p.i,c.k⟩,o,b,PySem.W.mg_of X G c.a⟩,e⟩
end
theorem all_mk {l:PySem.W.OpenLaw} {w:World} {K:PySem.W.Frag} {h:Heap} {mg:Str→Option Value} {fa yQ yZ yX yY yV yJ yW yU yK yG cQ cZ cV cK cG vQ vZ vX vY f0 f1 f2 f3 f4 f5 f6 f7 f8 f9 f10 f11 f12 f13 f14 f15 f16 f17 f18 f19 f20 f21 f22 f23 f24 f25 f26 f27 f28 f29 f30 f31 f32 f33 f34 f35 f36 f37 f38 f39 f40 f41 f42 f43 f44 f45 f46 f47 f48 f49 f50 f51 f52 f53 f54 f55 f56 f57 f58 f59 f60 f61 f62 f63 f64 f65 f66 f67 f68 f69 f70 f71 f72 f73 f74 f75 f76 f77 f78 f79 f80 f81 f82 f83 f84 f85 f86 f87 f88 f89 f90 f91:Addr} (X:K.In h) (G:h.Ns mainGlobals mg) (hfa:mg "law"=some (.ref fa))
    (qaa:CP K "Layout" yQ ["cells","backs"])
    (qab:CP K "One" yZ ["cells","backs"])
    (qac:CP K "Both" yX ["cells","backs"])
    (qad:CP K "Several" yY ["cells","backs"])
    (qae:CP K "State" yV ["word"])
    (qaf:CP K "Ready" yJ ["word"])
    (qag:CP K "Jammed" yW ["word"])
    (qah:CP K "Away" yU ["word","jammed"])
    (qai:CP K "Run" yK ["job","inks","passed","printer","slipped","broken"])
    (qaj:CP K "Job" yG ["name","asker","pages","copies","layout","paper","cover","colour","staple","after"])
    (qak:CP K "Stock" cQ ["rooms","amounts"])
    (qal:CP K "Printer" cZ ["name","can","path","rooms","trays","inks","state","inside"])
    (qam:XP K "Unknown" cV ["name"])
    (qan:XP K "NotNow" cK ["found"])
    (qao:XP K "TooMuch" cG ["name"])
    (qap:XP K "Dry" vQ ["name"])
    (qaq:XP K "Over" vZ ["job"])
    (qar:XP K "Nowhere" vX ["job"])
    (qas:PySem.W.nsIn K mainGlobals "HallError"=some (some (.ref vY)))
    (p0:MP K cV "__init__" "Unknown.__init__" jDn f0)
    (p1:MP K cK "__init__" "NotNow.__init__" jDZ f1)
    (p2:MP K cG "__init__" "TooMuch.__init__" jDo f2)
    (p3:MP K vQ "__init__" "Dry.__init__" jGi f3)
    (p4:MP K vZ "__init__" "Over.__init__" jFj f4)
    (p5:MP K vX "__init__" "Nowhere.__init__" jDp f5)
    (p6:GP K "cells_from" jEB f6)
    (p7:MP K yQ "__init__" "Layout.__init__" jD0 f7)
    (p8:MP K yQ "per_sheet" "Layout.per_sheet" jCs f8)
    (p9:MP K yQ "laid" "Layout.laid" jD1 f9)
    (p10:MP K yQ "sheet_from" "Layout.sheet_from" jCh f10)
    (p11:MP K yZ "__init__" "One.__init__" jGj f11)
    (p12:MP K yX "__init__" "Both.__init__" jFk f12)
    (p13:MP K yY "__init__" "Several.__init__" jDq f13)
    (p14:GP K "layout_of" jFl f14)
    (p15:GP K "sheets_of" jFm f15)
    (p16:GP K "paper_of" jGk f16)
    (p17:GP K "ink_of" jH5 f17)
    (p18:GP K "is_coloured" jD2 f18)
    (p19:MP K yV "__init__" "State.__init__" jEC f19)
    (p20:MP K yV "called" "State.called" jDr f20)
    (p21:MP K yV "jam" "State.jam" jFn f21)
    (p22:MP K yV "mend" "State.mend" jED f22)
    (p23:MP K yV "leave" "State.leave" jD3 f23)
    (p24:MP K yV "come" "State.come" jEE f24)
    (p25:MP K yJ "__init__" "Ready.__init__" jEF f25)
    (p26:MP K yJ "jam" "Ready.jam" jFo f26)
    (p27:MP K yJ "leave" "Ready.leave" jD4 f27)
    (p28:MP K yW "__init__" "Jammed.__init__" jD5 f28)
    (p29:MP K yW "mend" "Jammed.mend" jD6 f29)
    (p30:MP K yW "leave" "Jammed.leave" jDs f30)
    (p31:MP K yU "__init__" "Away.__init__" jFp f31)
    (p32:MP K yU "come" "Away.come" jFq f32)
    (p33:MP K yK "__init__" "Run.__init__" jGl f33)
    (p34:MP K yK "each" "Run.each" jGm f34)
    (p35:MP K yK "total" "Run.total" jFr f35)
    (p36:MP K yK "out" "Run.out" jG4 f36)
    (p37:MP K yK "at" "Run.at" jH6 f37)
    (p38:MP K yK "whole" "Run.whole" jFs f38)
    (p39:MP K yK "lack" "Run.lack" jGn f39)
    (p40:MP K yK "upcoming" "Run.upcoming" jDt f40)
    (p41:MP K yK "take" "Run.take" jGo f41)
    (p42:MP K yK "step" "Run.step" jGp f42)
    (p43:MP K yK "jam" "Run.jam" jG5 f43)
    (p44:MP K yK "must_go_on" "Run.must_go_on" jCL f44)
    (p45:MP K yK "must_be_placed" "Run.must_be_placed" jB6 f45)
    (p46:MP K yK "used_by" "Run.used_by" jD7 f46)
    (p47:MP K yK "fed" "Run.fed" jG6 f47)
    (p48:MP K yK "emptied" "Run.emptied" jD8 f48)
    (p49:MP K yK "note_out" "Run.note_out" jDu f49)
    (p50:MP K yG "__init__" "Job.__init__" jGq f50)
    (p51:MP K cQ "__init__" "Stock.__init__" jEG f51)
    (p52:MP K cQ "held" "Stock.held" jEH f52)
    (p53:MP K cQ "room" "Stock.room" jLh f53)
    (p54:MP K cQ "know" "Stock.know" jEI f54)
    (p55:MP K cQ "know_all" "Stock.know_all" jCM f55)
    (p56:MP K cQ "put" "Stock.put" jFt f56)
    (p57:MP K cQ "put_all" "Stock.put_all" jC4 f57)
    (p58:MP K cQ "draw_all" "Stock.draw_all" jCN f58)
    (p59:MP K cZ "__init__" "Printer.__init__" jDv f59)
    (p60:MP K cZ "stands" "Printer.stands" jCO f60)
    (p61:MP K cZ "paper_left" "Printer.paper_left" jB7 f61)
    (p62:MP K cZ "within" "Printer.within" jCP f62)
    (p63:MP K cZ "load" "Printer.load" jDw f63)
    (p64:MP K cZ "fill" "Printer.fill" jDx f64)
    (p65:MP K cZ "must_be_ready" "Printer.must_be_ready" jBL f65)
    (p66:MP K cZ "feed" "Printer.feed" jDy f66)
    (p67:MP K cZ "push" "Printer.push" jDz f67)
    (p68:MP K cZ "oldest" "Printer.oldest" jCQ f68)
    (p69:MP K cZ "jam" "Printer.jam" jD9 f69)
    (p70:MP K cZ "leave" "Printer.leave" jC5 f70)
    (p71:MP K cZ "mend" "Printer.mend" jDA f71)
    (p72:MP K cZ "come" "Printer.come" jDB f72)
    (p73:GP K "_law_cell_at" jDC f73)
    (p74:GP K "_law_mix" jGr f74)
    (p75:GP K "_law_word" jFu f75)
    (p76:GP K "_law_each" jFv f76)
    (p77:GP K "_law_is" jG7 f77)
    (p78:GP K "_law_tags" jFw f78)
    (p79:GP K "_law_out" jGs f79)
    (p80:GP K "_law_next" jFx f80)
    (p81:GP K "_law_stepped" jDD f81)
    (p82:GP K "_law_taken" jEJ f82)
    (p83:GP K "_law_lost" jFy f83)
    (p84:GP K "_law_due_run" jDE f84)
    (p85:GP K "_law_due" jGt f85)
    (p86:GP K "_law_called" jD_ f86)
    (p87:GP K "_law_done" jFz f87)
    (p88:GP K "_law_alike" jEK f88)
    (p89:GP K "_law_stands" jEa f89)
    (p90:GP K "_law_deeds_by" jC6 f90)
    (p91:GP K "law" jHw f91)
    (qat:PySem.W.findIn K (.ref yZ) "per_sheet"=some (some (.ref f8)))
    (qau:PySem.W.findIn K (.ref yX) "per_sheet"=some (some (.ref f8)))
    (qav:PySem.W.findIn K (.ref yY) "per_sheet"=some (some (.ref f8)))
    (qaw:PySem.W.findIn K (.ref yZ) "sheet_from"=some (some (.ref f10)))
    (qax:PySem.W.findIn K (.ref yX) "sheet_from"=some (some (.ref f10)))
    (qay:PySem.W.findIn K (.ref yY) "sheet_from"=some (some (.ref f10)))
    (qaz:PySem.W.findIn K (.ref yZ) "laid"=some (some (.ref f9)))
    (qaA:PySem.W.findIn K (.ref yX) "laid"=some (some (.ref f9)))
    (qaB:PySem.W.findIn K (.ref yY) "laid"=some (some (.ref f9)))
    (qaC:PySem.W.findIn K (.ref yJ) "called"=some (some (.ref f20)))
    (qaD:PySem.W.findIn K (.ref yW) "called"=some (some (.ref f20)))
    (qaE:PySem.W.findIn K (.ref yU) "called"=some (some (.ref f20)))
    (qaF:PySem.W.findIn K (.ref yW) "jam"=some (some (.ref f21)))
    (qaG:PySem.W.findIn K (.ref yU) "jam"=some (some (.ref f21)))
    (qaH:PySem.W.findIn K (.ref yU) "leave"=some (some (.ref f23)))
    (qaI:PySem.W.findIn K (.ref yJ) "mend"=some (some (.ref f22)))
    (qaJ:PySem.W.findIn K (.ref yU) "mend"=some (some (.ref f22)))
    (qaK:PySem.W.findIn K (.ref yJ) "come"=some (some (.ref f24)))
    (qaL:PySem.W.findIn K (.ref yW) "come"=some (some (.ref f24)))
    (qaM:PySem.W.specialIn K (.ref yQ) "__getattribute__"=some (some (.builtin "type.__getattribute__")))
    (qaN:PySem.W.readsIn K yQ (.type "type")=true)
    (qaO:PySem.W.findCls K (.ref yQ) (.type "type") "__init__"=some (.val (.ref f7)))
    (qaP:PySem.W.specialIn K (.ref yV) "__getattribute__"=some (some (.builtin "type.__getattribute__")))
    (qaQ:PySem.W.readsIn K yV (.type "type")=true)
    (qaR:PySem.W.findCls K (.ref yV) (.type "type") "__init__"=some (.val (.ref f19)))
    (qaS:PySem.W.mroHas K cK (.ref cK)=true)
    (qaT:PySem.W.mroHas K vZ (.ref cK)=false)
    (qaU:PySem.W.mroHas K vZ (.ref vZ)=true)
    (qaV:PySem.W.mroHas K vX (.ref cK)=false)
    (qaW:PySem.W.mroHas K vX (.ref vZ)=false)
    (qaX:PySem.W.mroHas K vX (.ref vX)=true)
    (qaY:PySem.W.mroHas K cG (.ref cK)=false)
    (qaZ:PySem.W.mroHas K cG (.ref vZ)=false)
    (qa0:PySem.W.mroHas K cG (.ref vX)=false)
    (qa1:PySem.W.mroHas K cG (.ref cG)=true)
    (xcn:PySem.W.specialIn K (.builtin "object.__class__") "__get__"=some (some (.builtin "getset_descriptor.__get__")))
    (xct:PySem.W.takesIn K (.builtin "object.__class__")=some true)
    (xb1:PySem.W.specialIn K (.ref vY) "__getattribute__"=some (some (.builtin "type.__getattribute__")))
    (xb2:PySem.W.readsIn K vY (.type "type")=true)
    (xb3:PySem.W.findCls K (.ref vY) (.type "type") "__init__"=some (.val (.builtin "ValueError.__init__")))
    (xkt:jND K [cV,cK,cG,vQ,vZ,vX] vY=true)
    (qa2:GiP K "SLIP" (-1))
    (gUP:GsP K "UP" (Str.ofString "up:"))
    (qa3:GiP K "NOTHING" (0))
    (qa4:GiP K "FIRST_PAGE" (1))
    (qa5:GiP K "COVER_SHEET" (0))
    (qa6:GsP K "READY" (Str.ofString "ready"))
    (qa7:GsP K "JAMMED" (Str.ofString "jammed"))
    (qa8:GsP K "OFF" (Str.ofString "off"))
    (qa9:GsP K "BLACK" (Str.ofString "black"))
    (qba:GsP K "COLOUR" (Str.ofString "colour"))
    (qbb:GsP K "WITHIN" (Str.ofString "within"))
    (qbc:PySem.W.nsIn K mainGlobals "len"=some none)
    (qbd:PySem.W.nsIn K mainGlobals "range"=some none)
    (qbe:PySem.W.nsIn K mainGlobals "str"=some none)
    (qbf:PySem.W.nsIn K mainGlobals "int"=some none)
    (qbg:PySem.W.nsIn K mainGlobals "bool"=some none)
    (qbh:PySem.W.nsIn K mainGlobals "tuple"=some none)
    (qbi:PySem.W.nsIn K mainGlobals "list"=some none)
    (qbj:PySem.W.nsIn K mainGlobals "isinstance"=some none)
    (qbk:PySem.W.nsIn K mainGlobals "max"=some none)
    (qbl:PySem.W.nsIn K mainGlobals "dict"=some none)
    (qbm:PySem.W.nsIn K mainGlobals "ValueError"=some none)
    : ∃ fd:FuncData,(∀ (s:Shared) (v:Value),BindsTo s fd ⟨[v],[]⟩ [("_law_script",v)])∧∀ base:Heap,K.In base→base.Ns mainGlobals mg→jAq l.prog w K mg base CX0 11 fa fd ["_law_script"] (sp_law K):=by
  have e:=hfa.symm.trans (PySem.W.mg_of X G p91.a)
  cases e
  obtain ⟨d0,F0⟩:=p0.F
  obtain ⟨d1,F1⟩:=p1.F
  obtain ⟨d2,F2⟩:=p2.F
  obtain ⟨d3,F3⟩:=p3.F
  obtain ⟨d4,F4⟩:=p4.F
  obtain ⟨d5,F5⟩:=p5.F
  obtain ⟨d6,F6⟩:=p6.F
  obtain ⟨d7,F7⟩:=p7.F
  obtain ⟨d8,F8⟩:=p8.F
  obtain ⟨d9,F9⟩:=p9.F
  obtain ⟨d10,F10⟩:=p10.F
  obtain ⟨d11,F11⟩:=p11.F
  obtain ⟨d12,F12⟩:=p12.F
  obtain ⟨d13,F13⟩:=p13.F
  obtain ⟨d14,F14⟩:=p14.F
  obtain ⟨d15,F15⟩:=p15.F
  obtain ⟨d16,F16⟩:=p16.F
  obtain ⟨d17,F17⟩:=p17.F
  obtain ⟨d18,F18⟩:=p18.F
  obtain ⟨d19,F19⟩:=p19.F
  obtain ⟨d20,F20⟩:=p20.F
  obtain ⟨d21,F21⟩:=p21.F
  obtain ⟨d22,F22⟩:=p22.F
  obtain ⟨d23,F23⟩:=p23.F
  obtain ⟨d24,F24⟩:=p24.F
  obtain ⟨d25,F25⟩:=p25.F
  obtain ⟨d26,F26⟩:=p26.F
  obtain ⟨d27,F27⟩:=p27.F
  obtain ⟨d28,F28⟩:=p28.F
  obtain ⟨d29,F29⟩:=p29.F
  obtain ⟨d30,F30⟩:=p30.F
  obtain ⟨d31,F31⟩:=p31.F
  obtain ⟨d32,F32⟩:=p32.F
  obtain ⟨d33,F33⟩:=p33.F
  obtain ⟨d34,F34⟩:=p34.F
  obtain ⟨d35,F35⟩:=p35.F
  obtain ⟨d36,F36⟩:=p36.F
  obtain ⟨d37,F37⟩:=p37.F
  obtain ⟨d38,F38⟩:=p38.F
  obtain ⟨d39,F39⟩:=p39.F
  obtain ⟨d40,F40⟩:=p40.F
  obtain ⟨d41,F41⟩:=p41.F
  obtain ⟨d42,F42⟩:=p42.F
  obtain ⟨d43,F43⟩:=p43.F
  obtain ⟨d44,F44⟩:=p44.F
  obtain ⟨d45,F45⟩:=p45.F
  obtain ⟨d46,F46⟩:=p46.F
  obtain ⟨d47,F47⟩:=p47.F
  obtain ⟨d48,F48⟩:=p48.F
  obtain ⟨d49,F49⟩:=p49.F
  obtain ⟨d50,F50⟩:=p50.F
  obtain ⟨d51,F51⟩:=p51.F
  obtain ⟨d52,F52⟩:=p52.F
  obtain ⟨d53,F53⟩:=p53.F
  obtain ⟨d54,F54⟩:=p54.F
  obtain ⟨d55,F55⟩:=p55.F
  obtain ⟨d56,F56⟩:=p56.F
  obtain ⟨d57,F57⟩:=p57.F
  obtain ⟨d58,F58⟩:=p58.F
  obtain ⟨d59,F59⟩:=p59.F
  obtain ⟨d60,F60⟩:=p60.F
  obtain ⟨d61,F61⟩:=p61.F
  obtain ⟨d62,F62⟩:=p62.F
  obtain ⟨d63,F63⟩:=p63.F
  obtain ⟨d64,F64⟩:=p64.F
  obtain ⟨d65,F65⟩:=p65.F
  obtain ⟨d66,F66⟩:=p66.F
  obtain ⟨d67,F67⟩:=p67.F
  obtain ⟨d68,F68⟩:=p68.F
  obtain ⟨d69,F69⟩:=p69.F
  obtain ⟨d70,F70⟩:=p70.F
  obtain ⟨d71,F71⟩:=p71.F
  obtain ⟨d72,F72⟩:=p72.F
  obtain ⟨d73,F73⟩:=p73.F
  obtain ⟨d74,F74⟩:=p74.F
  obtain ⟨d75,F75⟩:=p75.F
  obtain ⟨d76,F76⟩:=p76.F
  obtain ⟨d77,F77⟩:=p77.F
  obtain ⟨d78,F78⟩:=p78.F
  obtain ⟨d79,F79⟩:=p79.F
  obtain ⟨d80,F80⟩:=p80.F
  obtain ⟨d81,F81⟩:=p81.F
  obtain ⟨d82,F82⟩:=p82.F
  obtain ⟨d83,F83⟩:=p83.F
  obtain ⟨d84,F84⟩:=p84.F
  obtain ⟨d85,F85⟩:=p85.F
  obtain ⟨d86,F86⟩:=p86.F
  obtain ⟨d87,F87⟩:=p87.F
  obtain ⟨d88,F88⟩:=p88.F
  obtain ⟨d89,F89⟩:=p89.F
  obtain ⟨d90,F90⟩:=p90.F
  obtain ⟨d91,F91⟩:=p91.F
  have T:Txt K mg yQ yZ yX yY yV yJ yW yU yK yG cQ cZ cV cK cG vQ vZ vX vY:=⟨PySem.W.mg_none_of X G qbc,PySem.W.mg_none_of X G qbd,PySem.W.mg_none_of X G qbe,PySem.W.mg_none_of X G qbf,PySem.W.mg_none_of X G qbg,PySem.W.mg_none_of X G qbh,PySem.W.mg_none_of X G qbi,PySem.W.mg_none_of X G qbj,PySem.W.mg_none_of X G qbk,PySem.W.mg_none_of X G qbl,PySem.W.mg_none_of X G qbm,(let ⟨t,e⟩:=qa2;⟨⟨t,PySem.W.mg_of X G e⟩⟩),(let ⟨t,e⟩:=gUP;⟨⟨t,PySem.W.mg_of X G e⟩⟩),(let ⟨t,e⟩:=qa3;⟨⟨t,PySem.W.mg_of X G e⟩⟩),(let ⟨t,e⟩:=qa4;⟨⟨t,PySem.W.mg_of X G e⟩⟩),(let ⟨t,e⟩:=qa5;⟨⟨t,PySem.W.mg_of X G e⟩⟩),(let ⟨t,e⟩:=qa6;⟨⟨t,PySem.W.mg_of X G e⟩⟩),(let ⟨t,e⟩:=qa7;⟨⟨t,PySem.W.mg_of X G e⟩⟩),(let ⟨t,e⟩:=qa8;⟨⟨t,PySem.W.mg_of X G e⟩⟩),(let ⟨t,e⟩:=qa9;⟨⟨t,PySem.W.mg_of X G e⟩⟩),(let ⟨t,e⟩:=qba;⟨⟨t,PySem.W.mg_of X G e⟩⟩),(let ⟨t,e⟩:=qbb;⟨⟨t,PySem.W.mg_of X G e⟩⟩),qaa.c,PySem.W.mg_of X G qaa.a,qaa.n 0 rfl,qaa.n 1 rfl,qab.c,PySem.W.mg_of X G qab.a,qab.n 0 rfl,qab.n 1 rfl,qac.c,PySem.W.mg_of X G qac.a,qac.n 0 rfl,qac.n 1 rfl,qad.c,PySem.W.mg_of X G qad.a,qad.n 0 rfl,qad.n 1 rfl,qae.c,PySem.W.mg_of X G qae.a,qae.n 0 rfl,qaf.c,PySem.W.mg_of X G qaf.a,qaf.n 0 rfl,qag.c,PySem.W.mg_of X G qag.a,qag.n 0 rfl,qah.c,PySem.W.mg_of X G qah.a,qah.n 0 rfl,qah.n 1 rfl,qai.c,PySem.W.mg_of X G qai.a,qai.n 0 rfl,qai.n 1 rfl,qai.n 2 rfl,qai.n 3 rfl,qai.n 4 rfl,qai.n 5 rfl,qaj.c,PySem.W.mg_of X G qaj.a,qaj.n 0 rfl,qaj.n 1 rfl,qaj.n 2 rfl,qaj.n 3 rfl,qaj.n 4 rfl,qaj.n 5 rfl,qaj.n 6 rfl,qaj.n 7 rfl,qaj.n 8 rfl,qaj.n 9 rfl,qak.c,PySem.W.mg_of X G qak.a,qak.n 0 rfl,qak.n 1 rfl,qal.c,PySem.W.mg_of X G qal.a,qal.n 0 rfl,qal.n 1 rfl,qal.n 2 rfl,qal.n 3 rfl,qal.n 4 rfl,qal.n 5 rfl,qal.n 6 rfl,qal.n 7 rfl,qaS,qaT,qaU,qaV,qaW,qaX,qaY,qaZ,qa0,qa1,XCl.of qam.x qam.m xcn xct,PySem.W.mg_of X G qam.a,XCl.of qan.x qan.m xcn xct,PySem.W.mg_of X G qan.a,XCl.of qao.x qao.m xcn xct,PySem.W.mg_of X G qao.a,XCl.of qap.x qap.m xcn xct,PySem.W.mg_of X G qap.a,XCl.of qaq.x qaq.m xcn xct,PySem.W.mg_of X G qaq.a,XCl.of qar.x qar.m xcn xct,PySem.W.mg_of X G qar.a,⟨xb1,xb2,xb3⟩,PySem.W.mg_of X G qas,xkt⟩
  obtain ⟨oc,od,kV,doc,pm,an,cdv,ct,osl,rfl,lk,hcd⟩:=id F91.ex
  refine ⟨PySem.W.fnOf "law" "law" (jDj jHw) (jCw jHw) (jAh jHw) .none kV doc pm an cdv ct,fun s v=>.of_eq rfl,fun base _ _=>?_⟩
  have okk75:=jLA (P:=l.prog) (w:=w) (base:=base) T F75
  have DaH:=dfN X G p75 F75 okk75 (F75.binds fun _ _ _ _ _ _=>bn2 fun _ _=>rfl)
  have okk18:=jJH (P:=l.prog) (w:=w) (base:=base) T F18
  have Dbg:=dfN X G p18 F18 okk18 (F18.binds fun _ _ _ _ _ _=>bn2 fun _ _=>rfl)
  have okk17:=jNP T F17 Dbg
  have Dbp:=dfN X G p17 F17 okk17 (F17.binds fun _ _ _ _ _ _=>bn2 fun _ _=>rfl)
  have okk7:=jJD (P:=l.prog) (w:=w) (base:=base) T F7
  have DbN:=mkD X G qaa p7 okk7 (F7.binds fun _ _ _ _ _ _=>bn3 fun _ _ _=>rfl)
  have Dal:InD l.prog w K mg base 1 "Layout" yQ ["self","cells","backs"] (jB2 K):=⟨_,_,⟨qaM,qaN,qaO⟩,okk7,(F7.binds fun _ _ _ _ _ _=>bn3 fun _ _ _=>rfl),F7.kp,PySem.W.mg_of X G qaa.a⟩
  have okk13:=jIX T F13 Dal
  have Da9:=mkD X G qad p13 okk13 (F13.binds fun _ _ _ _ _ _=>bn2 fun _ _=>rfl)
  have okk11:=jL5 T F11 Dal
  have Dba:=mkD X G qab p11 okk11 (F11.binds fun _ _ _ _ _ _=>bn1 fun _=>rfl)
  have okk12:=jLu T F12 Dal
  have Dbb:=mkD X G qac p12 okk12 (F12.binds fun _ _ _ _ _ _=>bn1 fun _=>rfl)
  have okk14:=jLw T F14 Da9 Dba Dbb
  have Dbc:=dfN X G p14 F14 okk14 (F14.binds fun _ _ _ _ _ _=>bn1 fun _=>rfl)
  have okk8:=jGS (P:=l.prog) (w:=w) (base:=base) T F8
  have okk6:=jKD (P:=l.prog) (w:=w) (base:=base) T F6
  have DaG:=dfN X G p6 F6 okk6 (F6.binds fun _ _ _ _ _ _=>bn3 fun _ _ _=>rfl)
  have okk10:=jGx T F10 DaG
  have Da3:=mtE (n:="per_sheet") qat p8.i F8 okk8.lift (F8.binds fun _ _ _ _ _ _=>bn1 fun _=>rfl)
  have Da4:=mtE (n:="per_sheet") qau p8.i F8 okk8.lift (F8.binds fun _ _ _ _ _ _=>bn1 fun _=>rfl)
  have Da5:=mtE (n:="per_sheet") qav p8.i F8 okk8.lift (F8.binds fun _ _ _ _ _ _=>bn1 fun _=>rfl)
  have Da6:=mtE (n:="sheet_from") qaw p10.i F10 okk10.lift (F10.binds fun _ _ _ _ _ _=>bn3 fun _ _ _=>rfl)
  have Da7:=mtE (n:="sheet_from") qax p10.i F10 okk10.lift (F10.binds fun _ _ _ _ _ _=>bn3 fun _ _ _=>rfl)
  have Da8:=mtE (n:="sheet_from") qay p10.i F10 okk10.lift (F10.binds fun _ _ _ _ _ _=>bn3 fun _ _ _=>rfl)
  have okk9:=jJF T F9 Da3 Da4 Da5 Da6 Da7 Da8
  have Dbd:=mtE (n:="laid") qaz p9.i F9 okk9.lift (F9.binds fun _ _ _ _ _ _=>bn2 fun _ _=>rfl)
  have Dbe:=mtE (n:="laid") qaA p9.i F9 okk9.lift (F9.binds fun _ _ _ _ _ _=>bn2 fun _ _=>rfl)
  have Dbf:=mtE (n:="laid") qaB p9.i F9 okk9.lift (F9.binds fun _ _ _ _ _ _=>bn2 fun _ _=>rfl)
  have okk15:=jLy T F15 Dbc Dbd Dbe Dbf
  have Dbq:=dfN X G p15 F15 okk15 (F15.binds fun _ _ _ _ _ _=>bn1 fun _=>rfl)
  have okk33:=jMi T F33 Dbp Dbq
  have DbE:=mkD X G qai p33 okk33 (F33.binds fun _ _ _ _ _ _=>bn2 fun _ _=>rfl)
  have okk74:=jMa (P:=l.prog) (w:=w) (base:=base) T F74
  have Dad:=dfN X G p74 F74 okk74 (F74.binds fun _ _ _ _ _ _=>bn3 fun _ _ _=>rfl)
  have okk73:=jIZ (P:=l.prog) (w:=w) (base:=base) T F73
  have Dai:=dfN X G p73 F73 okk73 (F73.binds fun _ _ _ _ _ _=>bn2 fun _ _=>rfl)
  have okk51:=jKp (P:=l.prog) (w:=w) (base:=base) T F51
  have DaF:=mkD X G qak p51 okk51 (F51.binds fun _ _ _ _ _ _=>bn2 fun _ _=>rfl)
  have okk19:=jKv (P:=l.prog) (w:=w) (base:=base) T F19
  have DbO:=mkD X G qae p19 okk19 (F19.binds fun _ _ _ _ _ _=>bn2 fun _ _=>rfl)
  have Daj:InD l.prog w K mg base 1 "State" yV ["self","word"] (jCa K):=⟨_,_,⟨qaP,qaQ,qaR⟩,okk19,(F19.binds fun _ _ _ _ _ _=>bn2 fun _ _=>rfl),F19.kp,PySem.W.mg_of X G qae.a⟩
  have okk25:=jKB T F25 Daj
  have Dak:=mkD X G qaf p25 okk25 (F25.binds fun _ _ _ _ _ _=>bn1 fun _=>rfl)
  have okk59:=jIV T F59 DaF Dak
  have DbF:=mkD X G qal p59 okk59 (F59.binds fun _ _ _ _ _ _=>bn7 fun _ _ _ _ _ _ _=>rfl)
  have okk50:=jL7 (P:=l.prog) (w:=w) (base:=base) T F50
  have DbG:=mkD X G qaj p50 okk50 (F50.binds fun _ _ _ _ _ _=>bn11 fun _ _ _ _ _ _ _ _ _ _ _=>rfl)
  have okk90:=jIa T F90 Dad
  have DbH:=dfN X G p90 F90 okk90 (F90.binds fun _ _ _ _ _ _=>bn3 fun _ _ _=>rfl)
  have okk80:=jLR (P:=l.prog) (w:=w) (base:=base) T F80
  have DaC:=dfN X G p80 F80 okk80 (F80.binds fun _ _ _ _ _ _=>bn1 fun _=>rfl)
  have okk77:=jM8 (P:=l.prog) (w:=w) (base:=base) T F77
  have DaB:=dfN X G p77 F77 okk77 (F77.binds fun _ _ _ _ _ _=>bn2 fun _ _=>rfl)
  have okk78:=jLL T F78 DaB
  have Dam:=dfN X G p78 F78 okk78 (F78.binds fun _ _ _ _ _ _=>bn2 fun _ _=>rfl)
  have okk20:=jIx (P:=l.prog) (w:=w) (base:=base) T F20
  have DaL:=mtE (n:="called") qaC p20.i F20 okk20.lift (F20.binds fun _ _ _ _ _ _=>bn1 fun _=>rfl)
  have DaM:=mtE (n:="called") qaD p20.i F20 okk20.lift (F20.binds fun _ _ _ _ _ _=>bn1 fun _=>rfl)
  have DaN:=mtE (n:="called") qaE p20.i F20 okk20.lift (F20.binds fun _ _ _ _ _ _=>bn1 fun _=>rfl)
  have okk60:=jHG T F60 DaL DaM DaN
  have okk62:=jHI (P:=l.prog) (w:=w) (base:=base) T F62
  have okk37:=jNR (P:=l.prog) (w:=w) (base:=base) T F37
  have okk34:=jMc (P:=l.prog) (w:=w) (base:=base) T F34
  have Dae:=mtE p34.a p34.i F34 okk34.lift (F34.binds fun _ _ _ _ _ _=>bn1 fun _=>rfl)
  have okk35:=jLE T F35 Dae
  have Daf:=mtE p62.a p62.i F62 okk62.lift (F62.binds fun _ _ _ _ _ _=>bn1 fun _=>rfl)
  have Daw:=mtE p35.a p35.i F35 okk35.lift (F35.binds fun _ _ _ _ _ _=>bn1 fun _=>rfl)
  have okk40:=jI3 T F40 Daf Daw
  have okk36:=jM3 (P:=l.prog) (w:=w) (base:=base) T F36
  have okk38:=jLG T F38 Daw
  have okk39:=jMe T F39 Dae
  have Dab:=mtE p60.a p60.i F60 okk60.lift (F60.binds fun _ _ _ _ _ _=>bn1 fun _=>rfl)
  have DbB:=mtE p37.a p37.i F37 okk37.lift (F37.binds fun _ _ _ _ _ _=>bn1 fun _=>rfl)
  have DaA:=mtE p40.a p40.i F40 okk40.lift (F40.binds fun _ _ _ _ _ _=>bn1 fun _=>rfl)
  have DbC:=mtE p36.a p36.i F36 okk36.lift (F36.binds fun _ _ _ _ _ _=>bn1 fun _=>rfl)
  have Dac:=mtE p38.a p38.i F38 okk38.lift (F38.binds fun _ _ _ _ _ _=>bn1 fun _=>rfl)
  have DbD:=mtE p39.a p39.i F39 okk39.lift (F39.binds fun _ _ _ _ _ _=>bn1 fun _=>rfl)
  have okk89:=jJR T F89 DaC DaB Dam Dab Daf DbB DaA DbC Dac DbD
  have DaI:=dfN X G p89 F89 okk89 (F89.binds fun _ _ _ _ _ _=>bn3 fun _ _ _=>rfl)
  have okk76:=jLM (P:=l.prog) (w:=w) (base:=base) T F76
  have DbI:=dfN X G p76 F76 okk76 (F76.binds fun _ _ _ _ _ _=>bn2 fun _ _=>rfl)
  have okk79:=jMj (P:=l.prog) (w:=w) (base:=base) T F79
  have Dah:=dfN X G p79 F79 okk79 (F79.binds fun _ _ _ _ _ _=>bn2 fun _ _=>rfl)
  have okk82:=jKE T F82 Dah
  have Dbr:=dfN X G p82 F82 okk82 (F82.binds fun _ _ _ _ _ _=>bn2 fun _ _=>rfl)
  have okk81:=jJb T F81 DaC Dah
  have Dbs:=dfN X G p81 F81 okk81 (F81.binds fun _ _ _ _ _ _=>bn1 fun _=>rfl)
  have okk83:=jLS (P:=l.prog) (w:=w) (base:=base) T F83
  have DaD:=dfN X G p83 F83 okk83 (F83.binds fun _ _ _ _ _ _=>bn3 fun _ _ _=>rfl)
  have okk84:=jJd T F84 Dah Dbr Dbs DaD
  have Dbt:=dfN X G p84 F84 okk84 (F84.binds fun _ _ _ _ _ _=>bn2 fun _ _=>rfl)
  have okk85:=jMk T F85 Dbt DaD
  have DbJ:=dfN X G p85 F85 okk85 (F85.binds fun _ _ _ _ _ _=>bn2 fun _ _=>rfl)
  have okk1:=jJs (P:=l.prog) (w:=w) (base:=base) T F1
  have Daa:=mkX X G qan p1 okk1 (F1.binds fun _ _ _ _ _ _=>bn2 fun _ _=>rfl)
  have okk4:=jLC (P:=l.prog) (w:=w) (base:=base) T F4
  have Dbh:=mkX X G qaq p4 okk4 (F4.binds fun _ _ _ _ _ _=>bn2 fun _ _=>rfl)
  have okk44:=jHM T F44 Dbh Dac
  have okk65:=jEP T F65 Daa Dab
  have okk68:=jHK (P:=l.prog) (w:=w) (base:=base) T F68
  have Dau:=mtE p65.a p65.i F65 okk65 (F65.binds fun _ _ _ _ _ _=>bn1 fun _=>rfl)
  have Dav:=mtE p68.a p68.i F68 okk68.lift (F68.binds fun _ _ _ _ _ _=>bn1 fun _=>rfl)
  have okk67:=jIJ T F67 Dau Dav
  have okk49:=jI5 T F49 Dac
  have Day:=mtE p67.a p67.i F67 okk67 (F67.binds fun _ _ _ _ _ _=>bn1 fun _=>rfl)
  have Dag:=mtE p49.a p49.i F49 okk49.lift (F49.binds fun _ _ _ _ _ _=>bn2 fun _ _=>rfl)
  have okk48:=jJM T F48 Daf Day Dag
  have Dax:=mtE p44.a p44.i F44 okk44 (F44.binds fun _ _ _ _ _ _=>bn1 fun _=>rfl)
  have Dbm:=mtE p48.a p48.i F48 okk48 (F48.binds fun _ _ _ _ _ _=>bn1 fun _=>rfl)
  have okk41:=jMf T F41 Daa Dax Dab Dbm Dac
  have okk5:=jI1 (P:=l.prog) (w:=w) (base:=base) T F5
  have Dbi:=mkX X G qar p5 okk5 (F5.binds fun _ _ _ _ _ _=>bn2 fun _ _=>rfl)
  have okk45:=jFS T F45 Dbi Dax
  have okk16:=jL9 (P:=l.prog) (w:=w) (base:=base) T F16
  have Dbj:=dfN X G p16 F16 okk16 (F16.binds fun _ _ _ _ _ _=>bn2 fun _ _=>rfl)
  have okk46:=jJI T F46 Dbj Dae
  have okk3:=jL3 (P:=l.prog) (w:=w) (base:=base) T F3
  have Daq:=mkX X G qap p3 okk3 (F3.binds fun _ _ _ _ _ _=>bn2 fun _ _=>rfl)
  have okk0:=jIt (P:=l.prog) (w:=w) (base:=base) T F0
  have DaK:=mkX X G qam p0 okk0 (F0.binds fun _ _ _ _ _ _=>bn2 fun _ _=>rfl)
  have okk54:=jKr T F54 DaK
  have Dan:=mtE p54.a p54.i F54 okk54 (F54.binds fun _ _ _ _ _ _=>bn2 fun _ _=>rfl)
  have okk52:=jKt T F52 Dan
  have DaO:=mtE p52.a p52.i F52 okk52 (F52.binds fun _ _ _ _ _ _=>bn2 fun _ _=>rfl)
  have okk61:=jFO T F61 DaO
  have okk55:=jHD T F55 Dan
  have Dap:=mtE p55.a p55.i F55 okk55 (F55.binds fun _ _ _ _ _ _=>bn2 fun _ _=>rfl)
  have okk58:=jHE T F58 Daq Dap
  have DaQ:=mtE p61.a p61.i F61 okk61 (F61.binds fun _ _ _ _ _ _=>bn2 fun _ _=>rfl)
  have DaE:=mtE p58.a p58.i F58 okk58 (F58.binds fun _ _ _ _ _ _=>bn2 fun _ _=>rfl)
  have okk66:=jIM T F66 Daq Dau DaQ DaE Dav
  have Dbk:=mtE p46.a p46.i F46 okk46.lift (F46.binds fun _ _ _ _ _ _=>bn2 fun _ _=>rfl)
  have Dbl:=mtE p66.a p66.i F66 okk66 (F66.binds fun _ _ _ _ _ _=>bn5 fun _ _ _ _ _=>rfl)
  have okk47:=jM4 T F47 Dbk Dbl
  have Daz:=mtE p45.a p45.i F45 okk45 (F45.binds fun _ _ _ _ _ _=>bn1 fun _=>rfl)
  have Dbo:=mtE p47.a p47.i F47 okk47 (F47.binds fun _ _ _ _ _ _=>bn2 fun _ _=>rfl)
  have okk42:=jMg T F42 Daz DaA Day Dbo Dag
  have okk2:=jIv (P:=l.prog) (w:=w) (base:=base) T F2
  have Dao:=mkX X G qao p2 okk2 (F2.binds fun _ _ _ _ _ _=>bn2 fun _ _=>rfl)
  have okk28:=jJw T F28 Daj
  have Das:=mkD X G qag p28 okk28 (F28.binds fun _ _ _ _ _ _=>bn1 fun _=>rfl)
  have okk26:=jLp T F26 Das
  have okk21:=jLl T F21 Daa
  have Da0:=mtE p26.a p26.i F26 okk26.lift (F26.binds fun _ _ _ _ _ _=>bn1 fun _=>rfl)
  have Da1:=mtE (n:="jam") qaF p21.i F21 okk21 (F21.binds fun _ _ _ _ _ _=>bn1 fun _=>rfl)
  have Da2:=mtE (n:="jam") qaG p21.i F21 okk21 (F21.binds fun _ _ _ _ _ _=>bn1 fun _=>rfl)
  have okk69:=jJB T F69 Dao Da0 Da1 Da2
  have Dbn:=mtE p69.a p69.i F69 okk69 (F69.binds fun _ _ _ _ _ _=>bn2 fun _ _=>rfl)
  have okk43:=jM5 T F43 Daz Dbn Dag
  have okk31:=jLn T F31 Daj
  have Dat:=mkD X G qah p31 okk31 (F31.binds fun _ _ _ _ _ _=>bn2 fun _ _=>rfl)
  have okk27:=jJy T F27 Dat
  have okk30:=jIz T F30 Dat
  have okk23:=jJu T F23 Daa
  have DaX:=mtE p27.a p27.i F27 okk27.lift (F27.binds fun _ _ _ _ _ _=>bn1 fun _=>rfl)
  have DaY:=mtE p30.a p30.i F30 okk30.lift (F30.binds fun _ _ _ _ _ _=>bn1 fun _=>rfl)
  have DaZ:=mtE (n:="leave") qaH p23.i F23 okk23 (F23.binds fun _ _ _ _ _ _=>bn1 fun _=>rfl)
  have okk70:=jH8 T F70 DaX DaY DaZ
  have okk24:=jKz T F24 Daa
  have okk32:=jLr T F32 Das Dak
  have DaU:=mtE (n:="come") qaK p24.i F24 okk24 (F24.binds fun _ _ _ _ _ _=>bn1 fun _=>rfl)
  have DaV:=mtE (n:="come") qaL p24.i F24 okk24 (F24.binds fun _ _ _ _ _ _=>bn1 fun _=>rfl)
  have DaW:=mtE p32.a p32.i F32 okk32.lift (F32.binds fun _ _ _ _ _ _=>bn1 fun _=>rfl)
  have okk72:=jIS T F72 DaU DaV DaW Dab
  have okk22:=jKx T F22 Daa
  have okk29:=jJA T F29 Dak
  have DaR:=mtE (n:="mend") qaI p22.i F22 okk22 (F22.binds fun _ _ _ _ _ _=>bn1 fun _=>rfl)
  have DaS:=mtE p29.a p29.i F29 okk29.lift (F29.binds fun _ _ _ _ _ _=>bn1 fun _=>rfl)
  have DaT:=mtE (n:="mend") qaJ p22.i F22 okk22 (F22.binds fun _ _ _ _ _ _=>bn1 fun _=>rfl)
  have okk71:=jIQ T F71 DaR DaS DaT Dab
  have Dbu:=mtE p41.a p41.i F41 okk41 (F41.binds fun _ _ _ _ _ _=>bn2 fun _ _=>rfl)
  have Dbv:=mtE p42.a p42.i F42 okk42 (F42.binds fun _ _ _ _ _ _=>bn1 fun _=>rfl)
  have Dbw:=mtE p43.a p43.i F43 okk43 (F43.binds fun _ _ _ _ _ _=>bn2 fun _ _=>rfl)
  have Dbx:=mtE p70.a p70.i F70 okk70 (F70.binds fun _ _ _ _ _ _=>bn1 fun _=>rfl)
  have Dby:=mtE p72.a p72.i F72 okk72 (F72.binds fun _ _ _ _ _ _=>bn1 fun _=>rfl)
  have Dbz:=mtE p71.a p71.i F71 okk71 (F71.binds fun _ _ _ _ _ _=>bn1 fun _=>rfl)
  have okk86:=jJQ T F86 Dbu Dbv Dbw Dbx Dby Dbz
  have DbA:=dfX X G p86 F86 okk86 (F86.binds fun _ _ _ _ _ _=>bn3 fun _ _ _=>rfl)
  have okk87:=jLU T F87 DbA
  have DbK:=dfN X G p87 F87 okk87 (F87.binds fun _ _ _ _ _ _=>bn3 fun _ _ _=>rfl)
  have okk88:=jKG T F88 Dam
  have DbL:=dfN X G p88 F88 okk88 (F88.binds fun _ _ _ _ _ _=>bn2 fun _ _=>rfl)
  have okk57:=jH7 T F57 Dao Dap
  have Dar:=mtE p57.a p57.i F57 okk57 (F57.binds fun _ _ _ _ _ _=>bn2 fun _ _=>rfl)
  have okk56:=jLj T F56 Dar
  have DaP:=mtE p56.a p56.i F56 okk56 (F56.binds fun _ _ _ _ _ _=>bn3 fun _ _ _=>rfl)
  have okk63:=jIE T F63 DaP
  have okk64:=jIH T F64 Dar
  have DaJ:=mtE p63.a p63.i F63 okk63 (F63.binds fun _ _ _ _ _ _=>bn3 fun _ _ _=>rfl)
  have DbM:=mtE p64.a p64.i F64 okk64 (F64.binds fun _ _ _ _ _ _=>bn3 fun _ _ _=>rfl)
  exact ok_law T F91 DaH DbE Dad Dai DbF DbG DbH DaI DbI DbJ DbK DbL DaJ DbM
theorem walk {l:PySem.W.OpenLaw} {q:Program} {loose:List Str} {XP:(Str→Option Value)→Heap→Prop} {YP:World→Heap→Prop} {d:DefRec} {K:Params→PySem.W.Frag} (hn:l.most=some 63) (hdf:d.params.defaults=[])
    (hY:∀ (w:World) (h:Heap),YP w h→(K w.params).In h)
    (F:∀ (w:World) (mg:Str→Option Value) (fa:Addr) (h:Heap),(K w.params).In h→h.Ns mainGlobals mg→mg d.name=some (.ref fa) →
      ∃ fd:FuncData,(∀ (s:Shared) (u:Value),BindsTo s fd ⟨[u],[]⟩ [("_law_script",u)])∧∀ base:Heap,(K w.params).In base→base.Ns mainGlobals mg→jAq l.prog w (K w.params) mg base CX0 11 fa fd ["_law_script"] (sp_law (K w.params))) :
    PySem.W.WalkO q loose XP YP l.row.toRowW d [] (fun f vs=>PySem.call f vs) :=
  L2.walk_of (n:=63) (k:=11) (x:="_law_script") (CX:=fun _=>CX0) (sp:=fun w=>sp_law (K w.params)) hn (by decide) hdf ⟨rfl,by decide,by decide⟩ hY F (fun _ _ a ns hl _ hS=>⟨a,rfl,⟨⟨ns,hS,hl⟩⟩,fun _=>rfl⟩) fun _ _ _ _ _ z=>z
end My
open PySem PySem.W PyProof.Rows
set_option maxRecDepth 100000 in
set_option maxHeartbeats 0 in
theorem PySem.Challenge.cw_spoolhall_k33_taken_over_holds : PySem.Challenge.rw_spoolhall_k33_taken_over.Holds := by
  w_on;o_law;k_head;(case hw=>w_witness2)
  k_fill
  refine My.walk (l:=PySem.Challenge.rw_spoolhall_k33_taken_over) rfl rfl (fun w h Y=>PySem.W.kIn_of Y) ?F
  case F =>
    intro w mg fa h KX G hmg
    refine' My.all_mk KX G hmg ?qaa ?qab ?qac ?qad ?qae ?qaf ?qag ?qah ?qai ?qaj ?qak ?qal ?qam ?qan ?qao ?qap ?qaq ?qar ?qas ?p0 ?p1 ?p2 ?p3 ?p4 ?p5 ?p6 ?p7 ?p8 ?p9 ?p10 ?p11 ?p12 ?p13 ?p14 ?p15 ?p16 ?p17 ?p18 ?p19 ?p20 ?p21 ?p22 ?p23 ?p24 ?p25 ?p26 ?p27 ?p28 ?p29 ?p30 ?p31 ?p32 ?p33 ?p34 ?p35 ?p36 ?p37 ?p38 ?p39 ?p40 ?p41 ?p42 ?p43 ?p44 ?p45 ?p46 ?p47 ?p48 ?p49 ?p50 ?p51 ?p52 ?p53 ?p54 ?p55 ?p56 ?p57 ?p58 ?p59 ?p60 ?p61 ?p62 ?p63 ?p64 ?p65 ?p66 ?p67 ?p68 ?p69 ?p70 ?p71 ?p72 ?p73 ?p74 ?p75 ?p76 ?p77 ?p78 ?p79 ?p80 ?p81 ?p82 ?p83 ?p84 ?p85 ?p86 ?p87 ?p88 ?p89 ?p90 ?p91 ?qat ?qau ?qav ?qaw ?qax ?qay ?qaz ?qaA ?qaB ?qaC ?qaD ?qaE ?qaF ?qaG ?qaH ?qaI ?qaJ ?qaK ?qaL ?qaM ?qaN ?qaO ?qaP ?qaQ ?qaR ?qaS ?qaT ?qaU ?qaV ?qaW ?qaX ?qaY ?qaZ ?qa0 ?qa1 ?xcn ?xct ?xb1 ?xb2 ?xb3 ?xkt ?qa2 ?gUP ?qa3 ?qa4 ?qa5 ?qa6 ?qa7 ?qa8 ?qa9 ?qba ?qbb ?qbc ?qbd ?qbe ?qbf ?qbg ?qbh ?qbi ?qbj ?qbk ?qbl ?qbm
    (case qaa|qab|qac|qad|qae|qaf|qag|qah|qai|qaj|qak|qal=>(refine' My.CP.of ?a ?b;(case a=>k_is);(case b=>kernel_rfl)))
    (case qam|qan|qao|qap|qaq|qar=>(refine' My.XP.of ?a ?x ?m ?k;(case a=>k_is);(case x|m=>kernel_rfl);(case k=>k_is)))
    (case qas=>k_is)
    (case p0|p1|p2|p3|p4|p5=>(refine' My.MP.of ?a ?i ?l ?c ?k;(case a|i|l|c|k=>k_is)))
    (case p6=>(refine' My.GP.of ?a ?l ?c ?k;(case a|l|c|k=>k_is)))
    (case p7|p8|p9|p10|p11|p12|p13=>(refine' My.MP.of ?a ?i ?l ?c ?k;(case a|i|l|c|k=>k_is)))
    (case p14|p15|p16|p17|p18=>(refine' My.GP.of ?a ?l ?c ?k;(case a|l|c|k=>k_is)))
    (case p19|p20|p21|p22|p23|p24|p25|p26|p27|p28|p29|p30|p31|p32|p33|p34|p35|p36|p37|p38|p39|p40|p41|p42|p43|p44|p45|p46|p47|p48|p49|p50|p51|p52|p53|p54|p55|p56|p57|p58|p59|p60|p61|p62|p63|p64|p65|p66|p67|p68|p69|p70|p71|p72=>(refine' My.MP.of ?a ?i ?l ?c ?k;(case a|i|l|c|k=>k_is)))
    (case p73|p74|p75|p76|p77|p78|p79|p80|p81|p82|p83|p84|p85|p86|p87|p88|p89|p90|p91=>(refine' My.GP.of ?a ?l ?c ?k;(case a|l|c|k=>k_is)))
    (case qat|qau|qav|qaw|qax|qay|qaz|qaA|qaB|qaC|qaD|qaE|qaF|qaG|qaH|qaI|qaJ|qaK|qaL|qaM|qaN|qaO|qaP|qaQ|qaR=>k_is)
    (case qaS|qaT|qaU|qaV|qaW|qaX|qaY|qaZ|qa0|qa1=>kernel_rfl)
    (case xcn|xct|xb1|xb2|xb3=>k_is)
    (case xkt=>kernel_rfl)
    (case qa2=>(refine' My.GiP.of ?a ?b;(case a=>k_is);(case b=>rfl)))
    (case gUP=>(refine' My.GsP.of ?a ?b;(case a=>k_is);(case b=>first | rfl | decide +kernel)))
    (case qa3|qa4|qa5=>(refine' My.GiP.of ?a ?b;(case a=>k_is);(case b=>rfl)))
    (case qa6|qa7|qa8|qa9|qba|qbb=>(refine' My.GsP.of ?a ?b;(case a=>k_is);(case b=>first | rfl | decide +kernel)))
    (case qbc|qbd|qbe|qbf|qbg|qbh|qbi|qbj|qbk|qbl|qbm=>k_is)
#print axioms PySem.Challenge.cw_spoolhall_k33_taken_over_holds
