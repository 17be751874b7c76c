import PyProof.Rows.All
import Wide.All
import OpenK.AllK
import Wide.FinOn
import Lean
import PyProof.EqAt
import PyProof.EqKinds
import PyProof.TupleCall
import PySem.Challenge.RW_leasttariff_k06_answers_by_hand
import PyProof.Rows.SortRunsK
import KE.KSortTup
import KE.KSortKey
import KE.KLam
import KE.KItemsList
set_option Elab.async false
set_option linter.all false
set_option maxRecDepth 100000
set_option maxHeartbeats 8000000
namespace L2
open PySem PySem.Spec PyProof.Rows
abbrev Key:=Sum Int Str
def V9:Key→Value→Bool
 | .inl k,v=>Value.isInt k v
 | .inr x,v=>Value.isStrOf x v
def afV (w:World):Key→Int
 | .inl k=>hashInt k
 | .inr x=>hashStr w x
theorem eN:∀ {k:Key} {v:Value},V9 k v=true→(∃ i t,k=Sum.inl i∧v=Value.int i t)∨(∃ x t,k=Sum.inr x∧v=Value.str x t)
 | .inl i,v,h=>by
  obtain⟨t,e⟩:=Value.isInt_shape (k:=i) (v:=v) h
  exact .inl ⟨i,t,rfl,e⟩
 | .inr x,v,h=>by
  obtain⟨t,e⟩:=Value.isStrOf_shape (x:=x) (v:=v) h
  exact .inr ⟨x,t,rfl,e⟩
theorem W5 (a b:Int):decide ((Sum.inl a:Key)=Sum.inl b)=(a == b):=by
 by_cases e:a=b
 ·subst e;simp
 ·have h:¬ (Sum.inl a:Key)=Sum.inl b:=fun q=>e (Sum.inl.inj q)
  rw[decide_eq_false h]
  exact (beq_eq_false_iff_ne.mpr e).symm
theorem W6 (a b:Str):decide ((Sum.inr a:Key)=Sum.inr b)=decide (a=b):=by
 by_cases e:a=b
 ·subst e;simp
 ·have h:¬ (Sum.inr a:Key)=Sum.inr b:=fun q=>e (Sum.inr.inj q)
  rw[decide_eq_false h,decide_eq_false e]
theorem W7 (a:Int)(b:Str):decide ((Sum.inl a:Key)=Sum.inr b)=false:=decide_eq_false (fun q=>nomatch q)
theorem W8 (a:Str)(b:Int):decide ((Sum.inr a:Key)=Sum.inl b)=false:=decide_eq_false (fun q=>nomatch q)
def Ms (prog:Program)(w:World):PySem.KeyKind prog w Key where
 is:=V9
 hash:=afV w
 inj:=fun v a b ha hb=>by
  rcases eN ha with⟨i,t,rfl,rfl⟩|⟨x,t,rfl,rfl⟩
  ·rcases eN hb with⟨j,u,rfl,e⟩|⟨y,u,rfl,e⟩
   ·injection e with e1 _;rw[e1]
   ·exact nomatch e
  ·rcases eN hb with⟨j,u,rfl,e⟩|⟨y,u,rfl,e⟩
   ·exact nomatch e
   ·injection e with e1 _;rw[e1]
 byValue:=fun k v h=>by
  rcases eN h with⟨i,t,rfl,rfl⟩|⟨x,t,rfl,rfl⟩<;>rfl
 pyHash:=fun hv h=>by
  rcases eN hv with⟨i,t,rfl,rfl⟩|⟨x,t,rfl,rfl⟩
  ·exact wpAny_pyHash_int h
  ·exact wpAny_pyHash_str h
 eqBool:=fun hu hv h=>by
  rcases eN hu with⟨i,t,rfl,rfl⟩|⟨x,t,rfl,rfl⟩
  ·rcases eN hv with⟨j,u,rfl,rfl⟩|⟨y,u,rfl,rfl⟩
   ·rw[W5] at h;exact wpAny_eqBool_int h
   ·rw[W7] at h;exact SeqAt.EqAt.int_str i t y u _ _ _ _ h
  ·rcases eN hv with⟨j,u,rfl,rfl⟩|⟨y,u,rfl,rfl⟩
   ·rw[W8] at h;exact SeqAt.EqAt.str_int x t j u _ _ _ _ h
   ·rw[W6] at h;exact wpAny_eqBool_str h
 «strs»:=fun k x t v h=>by
  rcases eN h with⟨i,u,rfl,e⟩|⟨y,u,rfl,e⟩
  ·exact nomatch e
  ·injection e with e1 _
   subst e1
   cases v<;>rfl
inductive V where
 | non|bl (b:Bool)|int (i:Int)|str (x:Str)|Qn (b:Array UInt8)|flt (b:UInt64)|ref (a:Addr)|ty (n:String)
 deriving DecidableEq
def RelV:V→Value→Prop
 | .non,u=>u=Value.none
 | .bl b,u=>u=Value.bool b
 | .int i,u=>∃ t,u=Value.int i t
 | .str x,u=>∃ t,u=Value.str x t
 | .Qn b,u=>∃ t,u=Value.bytes b t
 | .flt b,u=>∃ t,u=Value.float b t
 | .ref a,u=>u=Value.ref a
 | .ty n,u=>u=Value.type n
abbrev Vals:List V→List Value→Prop:=Paired RelV
theorem Vals.length {xs:List V}{us:List Value}(r:Vals xs us):xs.length=us.length:=Paired.length r
theorem Vals.get:∀ {xs:List V} {us:List Value} {i:Nat} {x:V},Vals xs us→xs[i]?=some x→∃ u,us[i]?=some u∧RelV x u
 | _,_,_,_,.nil,e=>by simp at e
 | _,_,0,_,.cons r _,e=>by simp at e;subst e;exact⟨_,rfl,r⟩
 | _,_,i+1,x,.cons _ t,e=>by
  obtain⟨u,h1,h2⟩:=Vals.get (i:=i) (x:=x) t (by simpa using e)
  exact⟨u,by simpa using h1,h2⟩
theorem Vals.set {x:V}{u:Value}(r:RelV x u):∀ {xs:List V} {us:List Value} (i:Nat),Vals xs us→Vals (xs.set i x) (us.set i u)
 | _,_,_,.nil=>.nil
 | _,_,0,.cons _ t=>.cons r t
 | _,_,i+1,.cons q t=>.cons q (Vals.set r i t)
theorem Vals.append:∀ {xs ys:List V} {us ws:List Value},Vals xs us→Vals ys ws→Vals (xs++ys) (us++ws)
 | _,_,_,_,.nil,s=>s
 | _,_,_,_,.cons r t,s=>.cons r (Vals.append t s)
theorem Vals.take:∀ {xs:List V} {us:List Value} (n:Nat),Vals xs us→Vals (xs.take n) (us.take n)
 | _,_,0,_=>.nil
 | _,_,_+1,.nil=>.nil
 | _,_,n+1,.cons r t=>.cons r (Vals.take n t)
theorem Vals.drop:∀ {xs:List V} {us:List Value} (n:Nat),Vals xs us→Vals (xs.drop n) (us.drop n)
 | _,_,0,r=>r
 | _,_,_+1,.nil=>.nil
 | _,_,n+1,.cons _ t=>Vals.drop n t
theorem Vals.none_of:∀ {xs:List V} {us:List Value} {i:Nat},Vals xs us→xs[i]?=none→us[i]?=none:=fun {xs us i} r e=>by
 have h1:=r.length
 have h2:xs.length≤i:=List.getElem?_eq_none_iff.mp e
 exact List.getElem?_eq_none_iff.mpr (by omega)
def Dh:Option V→Option Value→Prop
 | some v,some u=>RelV v u
 | none,none=>True
 | _,_=>False
def KV {κ:Type}:List (κ×V)→List (κ×Value)→Prop:=Paired fun (p:κ×V) (q:κ×Value)=>p.1=q.1∧RelV p.2 q.2
def kV:Key→V
 | .inl i=>.int i
 | .inr x=>.str x
inductive HO where
 | lst (xs:List V)
 | tup (xs:List V)
 | dK (kvs:List (Key×V))|dT (kvs:List (List Key×V))
 | set (S:Int→Bool) (n:Nat)
 | ins (C dx:Addr) (fs:List (Str×V))
 | own (x:Addr)
 | xd (fs:List (Str×V))
 | met (f x:Addr)
 | rng (lo hi:Int)
 | Mt (o:Obj) (u:HO)
 | IW (ps:Array Value)
 | ext (φ:Heap→Prop)
abbrev Hp:=Addr→Option HO
def upd (H:Hp)(a:Addr)(o:HO):Hp:=fun b=>if b=a then some o else H b
theorem ak {H:Hp}{a:Addr}{o:HO}:upd H a o a=some o:=by unfold upd;rw[if_pos rfl]
theorem aJ {H:Hp}{a b:Addr}{o:HO}(h:b≠a):upd H a o b=H b:=by unfold upd;rw[if_neg h]
theorem eO {H:Hp}{a:Addr}{o u:HO}:upd (upd H a o) a u=upd H a u:=by
 funext b;unfold upd;split<;>rfl
theorem Zo {H:Hp}{a b:Addr}{o u:HO}(h:H a=some o)(h':H b=some u)(d:o≠u):a≠b:=by
 intro e;subst e;rw[h] at h';exact d (Option.some.inj h')
theorem aM {H:Hp}{a b:Addr}{o:HO}(h:H a=some o)(h':H b=none):a≠b:=by
 intro e;subst e;rw[h] at h';cases h'
section
variable(P:Program)(w:World)
def dG (H:Hp)(h:Heap)(a:Addr):HO→Prop
 | .lst xs=>xs.length≤sizeLine∧∃ (its:List Value) (n:Nat),Vals xs its∧h.get? a=some { cls:=.type "list",data:=.seq its.toArray n }
 | .tup xs=>xs.length≤sizeLine∧∃ its:List Value,Vals xs its∧IsTup h a its.toArray
 | .dK kvs=>kvs.length≤sizeLine∧(a == sysModules)=false∧∃ vs,KV kvs vs∧h.DictOf (Ms P w) a vs
 | .dT kvs=>kvs.length≤sizeLine∧(a == sysModules)=false∧∃ xs:List (List Key×Addr×Value),
   Paired (fun (p:List Key×V) (q:List Key×Addr×Value)=>p.1=q.1∧H q.2.1=some (.tup (p.1.map kV))∧RelV p.2 q.2.2) kvs xs ∧
   ∃ o es ep,h.get? a=some o∧o.ExactDict∧o.data=.dict es ep∧es.toList=xs.map (entryOfKey (tupleKind (Ms P w)))∧(xs.map (·.1)).Nodup
 | .set S n=>h.SetOf (intKind P w) a S n
 | .ins C dx fs=>H dx=some (.own a)∧fs.length≤1000∧dx≠a∧h.get? a=some (PySem.W.instObj C dx) ∧
   ∃ mA,h.Ns1 dx mA∧(∀ f,Dh (fs.lookup f) (mA f))∧PySem.Within mA (fs.map (·.1))
 | .own _=>∃ o,h.get? a=some o
 | .xd fs=>∃ mA,h.Ns1 a mA∧∀ f,Dh (fs.lookup f) (mA f)
 | .rng lo hi=>∃ t u v,h.get? a=some { cls:=.type "range",data:=.fields #[.int lo t,.int hi u,.int 1 v] }
 | .Mt o u=>h.get? a=some o∧dG H h a u
 | .IW ps=>h.get? a=some { cls:=.none,data:=.fields ps }
 | .met f x=>h.get? a=some (PySem.W.methodObj (.ref f) (.ref x))
 | .ext φ=>φ h∧(∃ o,h.get? a=some o)∧∀ h1 h2:Heap,φ h1→(∀ o,h1.get? a=some o→h2.get? a=some o)→φ h2
def uE (H:Hp)(h:Heap):Prop:=∀ a o,H a=some o→dG P w H h a o
end
section
variable{P:Program}{w:World}{H H':Hp}{h h':Heap}{a:Addr}{o:HO}
theorem dG.lt (x:dG P w H h a o):a<h.objs.size:=by
 cases o with
 | lst xs=>obtain⟨_,_,_,_,e⟩:=x;exact Heap.lt_size e
 | tup xs=>obtain⟨_,_,_,p⟩:=x;exact p.lt
 | dK kvs=>obtain⟨_,_,_,_,o,_,_,e,_⟩:=x;exact Heap.lt_size e
 | dT kvs=>obtain⟨_,_,_,_,o,_,_,e,_⟩:=x;exact Heap.lt_size e
 | set S n=>obtain⟨o,_,_,_,e,_⟩:=x;exact Heap.lt_size e
 | ins C dx fs=>obtain⟨_,_,_,e,_⟩:=x;exact Heap.lt_size e
 | own y=>obtain⟨_,e⟩:=x;exact Heap.lt_size e
 | xd fs=>obtain⟨_,⟨_,_,_,e,_⟩,_⟩:=x;exact Heap.lt_size e
 | rng lo hi=>obtain⟨_,_,_,e⟩:=x;exact Heap.lt_size e
 | Mt ob u=>obtain⟨e,_⟩:=x;exact Heap.lt_size e
 | IW ps=>exact Heap.lt_size (show h.get? a=some _ from x)
 | met f y=>exact Heap.lt_size (show h.get? a=some _ from x)
 | ext φ=>obtain⟨_,⟨_,e⟩,_⟩:=x;exact Heap.lt_size e
theorem Paired.Jc {α β:Type}{F G:α→β→Prop}:∀ {l₁:List α} {l₂:List β},Paired F l₁ l₂→(∀ a b,F a b→G a b)→Paired G l₁ l₂
 | _,_,.nil,_=>.nil
 | _,_,.cons r t,f=>.cons (f _ _ r) (Paired.Jc t f)
theorem Paired.imp' {α β:Type}{F G:α→β→Prop}(f:∀ a b,F a b→G a b){l₁:List α}{l₂:List β}(r:Paired F l₁ l₂):Paired G l₁ l₂:=Paired.Jc r f
theorem dG.stay (x:dG P w H h a o)(k:∀ b u,(b=a∨H b=some (.own a))→h.get? b=some u→h'.get? b=some u)
  (ho:∀ b,H b=some (.own a)→H' b=some (.own a)) (ht:∀ b xs,H b=some (.tup xs)→H' b=some (.tup xs)):dG P w H' h' a o:=by
 induction o with
 | lst xs=>obtain⟨z,its,n,r,e⟩:=x;exact⟨z,its,n,r,k _ _ (.inl rfl) e⟩
 | tup xs=>obtain⟨z,its,r,ob,e,c⟩:=x;exact⟨z,its,r,ob,k _ _ (.inl rfl) e,c⟩
 | dK kvs=>obtain⟨z,y,vs,r,ob,es,ep,e,c⟩:=x;exact⟨z,y,vs,r,ob,es,ep,k _ _ (.inl rfl) e,c⟩
 | dT kvs =>
  obtain⟨z,y,xs,r,ob,es,ep,e,c⟩:=x
  exact⟨z,y,xs,Paired.Jc r fun p q z=>⟨z.1,ht _ _ z.2.1,z.2.2⟩,ob,es,ep,k _ _ (.inl rfl) e,c⟩
 | set S n=>obtain⟨ob,es,ep,t,e,c⟩:=x;exact⟨ob,es,ep,t,k _ _ (.inl rfl) e,c⟩
 | ins C dx fs =>
  obtain⟨d,z,ne,e,mA,⟨od,es,ep,e2,c⟩,r⟩:=x
  exact⟨ho _ d,z,ne,k _ _ (.inl rfl) e,mA,⟨od,es,ep,k _ _ (.inr d) e2,c⟩,r⟩
 | own y=>obtain⟨ob,e⟩:=x;exact⟨ob,k _ _ (.inl rfl) e⟩
 | xd fs=>obtain⟨mA,⟨od,es,ep,e,c⟩,r⟩:=x;exact⟨mA,⟨od,es,ep,k _ _ (.inl rfl) e,c⟩,r⟩
 | rng lo hi=>obtain⟨t,u,v,e⟩:=x;exact⟨t,u,v,k _ _ (.inl rfl) e⟩
 | Mt ob u ih=>obtain⟨e,q⟩:=x;exact⟨k _ _ (.inl rfl) e,ih q⟩
 | IW ps =>
  have e:h.get? a=some { cls:=.none,data:=.fields ps }:=x
  show h'.get? a=some { cls:=.none,data:=.fields ps }
  exact k a _ (.inl rfl) e
 | met f y =>
  have e:h.get? a=some (PySem.W.methodObj (.ref f) (.ref y)):=x
  show h'.get? a=some (PySem.W.methodObj (.ref f) (.ref y))
  exact k a _ (.inl rfl) e
 | ext φ=>obtain⟨p,⟨o,e⟩,st⟩:=x;exact⟨st _ _ p fun o q=>k _ _ (.inl rfl) q,⟨o,k _ _ (.inl rfl) e⟩,st⟩
theorem uE.lt (x:uE P w H h)(e:H a=some o):a<h.objs.size:=(x a o e).lt
theorem uE.fresh (x:uE P w H h)(e:h.objs.size≤a):H a=none:=by
 cases q:H a with
 | none=>rfl
 | some u=>exact absurd (Nat.lt_of_lt_of_le (x.lt q) e) (Nat.lt_irrefl _)
theorem uE.kept (x:uE P w H h)(k:∀ b u,h.get? b=some u→h'.get? b=some u):uE P w H h':=fun a o e =>
 (x a o e).stay (fun b u _ q=>k b u q) (fun _ q=>q) fun _ _ q=>q
theorem uE.laid (x:uE P w H h)(k:∀ b u,h.get? b=some u→h'.get? b=some u)(hp:h.objs.size≤a)(new:dG P w (upd H a o) h' a o):uE P w (upd H a o) h':=fun b u e=>by
 have hn:=x.fresh hp
 by_cases hb:b=a
 ·subst hb;rw[ak] at e;cases e;exact new
 ·rw[aJ hb] at e
  exact (x b u e).stay (fun c v _ q=>k c v q) (fun c q=>by rw[aJ (aM q hn)];exact q) fun c xs q=>by rw[aJ (aM q hn)];exact q
end
def Rd (H:Hp)(a:Addr)(u:HO):Prop:=H a=some u∨∃ o,H a=some (.Mt o u)
theorem Rd.ok {P:Program}{w:World}{H:Hp}{h:Heap}{a:Addr}{u:HO}(r:Rd H a u)(x:uE P w H h):dG P w H h a u:=by
 rcases r with r|⟨o,r⟩
 ·exact x a u r
 ·obtain⟨_,q⟩:=x a _ r
  exact q
def Mut:Option HO→Prop
 | some (.lst _)=>True
 | some (.dK _)=>True
 | some (.dT _)=>True
 | some (.set _ _)=>True
 | some (.ins _ _ _)=>True
 | some (.ext _)=>True
 | _=>False
section
variable{P:Program}{w:World}{H:Hp}{h h':Heap}{x e:Addr}{o':HO}
theorem uE.write (ok:uE P w H h)(mu:Mut (H x))(he:e=x∨H e=some (.own x))(k:∀ b u,b≠e→h.get? b=some u→h'.get? b=some u)(heo:∃ u,h'.get? e=some u)
  (new:dG P w (upd H x o') h' x o'):uE P w (upd H x o') h':=fun b u q=>by
 have Zq:∀ c y,H c=some (.own y)→c≠x:=fun c y r z=>by subst z;rw[r] at mu;exact mu
 have afW:∀ c xs,H c=some (.tup xs)→c≠x:=fun c xs r z=>by subst z;rw[r] at mu;exact mu
 by_cases hb:b=x
 ·subst hb;rw[ak] at q;cases q;exact new
 ·rw[aJ hb] at q
  by_cases hbe:b=e
  ·have q':H b=some (.own x):=by
    rcases he with z|z
    ·exact absurd (hbe.trans z) hb
    ·rw[hbe];exact z
   rw[q] at q';cases q'
   obtain⟨v,hv⟩:=heo
   exact⟨v,by rw[hbe];exact hv⟩
  ·refine (ok b u q).stay (fun c v hc r=>k c v ?_ r) (fun c r=>by rw[aJ (Zq c b r)];exact r) fun c xs r=>by rw[aJ (afW c xs r)];exact r
   rcases hc with rfl|hc
   ·exact hbe
   ·rintro rfl
    rcases he with z|z
    ·exact Zq c b hc z
    ·rw[hc] at z;cases z;exact hb rfl
end
structure Un (fs ex:List Addr)(H H':Hp)(h h':Heap):Prop where
 keep:∀ b o,h.get? b=some o→H b=none→b∉fs→b∉ex→h'.get? b=some o
 slot:∀ b o,h.get? b=some o→H b=none→b∈fs→b∉ex→∃ sl,h'.get? b=some { o with slots:=sl }
 free:∀ b o,h.get? b=some o→H b=none→b∉ex→H' b=none
 there:∀ b o,h.get? b=some o→b∉ex→∃ o',h'.get? b=some o'
 tups:∀ b xs,H b=some (.tup xs)→H' b=some (.tup xs)
 zX:∀ b o u,H b=some (.Mt o u)→H' b=some (.Mt o u)
 zY:∀ b ps,H b=some (.IW ps)→∃ more,H' b=some (.IW (ps++more))
section
variable{fs fs' ex ex':List Addr}{H H1 H2:Hp}{h h1 h2 h':Heap}{a x e:Addr}{o:HO}
theorem Un.any (u:Un fs ex H H1 h h1){b:Addr}{ob:Obj}(q:h.get? b=some ob)(n:H b=none)(hx:b∉ex):∃ sl,h1.get? b=some { ob with slots:=sl }:=by
 by_cases hb:b∈fs
 ·exact u.slot b ob q n hb hx
 ·exact⟨ob.slots,u.keep b ob q n hb hx⟩
theorem Un.kept (k:∀ b u,h.get? b=some u→h'.get? b=some u):Un fs ex H H h h' :=
 ⟨fun b ob q _ _ _=>k b ob q,fun b ob q _ _ _=>⟨ob.slots,k b ob q⟩,fun _ _ _ n _=>n,fun b ob q _=>⟨ob,k b ob q⟩,fun _ _ q=>q,fun _ _ _ q=>q,fun _ ps q=>⟨#[],by rw[q];simp⟩⟩
theorem Un.refl:Un fs ex H H h h:=Un.kept fun _ _ q=>q
theorem Un.laid (k:∀ b u,h.get? b=some u→h'.get? b=some u)(hp:h.objs.size≤a)(hn:H a=none):Un fs ex H (upd H a o) h h' where
 keep:=fun b u q _ _ _=>k b u q
 slot:=fun b u q _ _ _=>⟨u.slots,k b u q⟩
 free:=fun b u q n _=>by rw[aJ (Nat.ne_of_lt (Nat.lt_of_lt_of_le (Heap.lt_size q) hp))];exact n
 there:=fun b u q _=>⟨u,k b u q⟩
 tups:=fun b xs q=>by rw[aJ (aM q hn)];exact q
 zX:=fun b u xs q=>by rw[aJ (aM q hn)];exact q
 zY:=fun b ps q=>⟨#[],by rw[aJ (aM q hn),q];simp⟩
theorem Un.write (mu:Mut (H x))(he:e=x∨H e=some (.own x))(k:∀ b u,b≠e→h.get? b=some u→h'.get? b=some u)(heo:∃ u,h'.get? e=some u):Un fs ex H (upd H x o) h h':=by
 have hx:∀ b,H b=none→b≠x:=fun b n z=>by subst z;rw[n] at mu;exact mu
 have hb:∀ b,H b=none→b≠e:=fun b n z=>by
  subst z
  rcases he with r|r
  ·exact hx b n r
  ·rw[n] at r;cases r
 have hm:∀ b u,H b=some u→¬ Mut (some u)→b≠x:=fun b u q nm z=>by subst z;rw[q] at mu;exact nm mu
 refine⟨fun b u q n _ _=>k b u (hb b n) q,fun b u q n _ _=>⟨u.slots,k b u (hb b n) q⟩,fun b u q n _=>by rw[aJ (hx b n)];exact n,fun b u q _=>?_,
  fun b xs q=>by rw[aJ (hm b _ q fun z=>z)];exact q,fun b u xs q=>by rw[aJ (hm b _ q fun z=>z)];exact q,fun b ps q=>⟨#[],by rw[aJ (hm b _ q fun z=>z),q];simp⟩⟩
 by_cases hbe:b=e
 ·subst hbe;exact heo
 ·exact⟨u,k b u hbe q⟩
end
def trk (h:Heap)(H:Hp):List Addr:=(List.range h.objs.size).filter fun a=>(H a).isSome
def Gi (h:Heap)(H:Hp):Heap:=PySem.W.hideAll h (trk h H)
theorem Oe (h:Heap)(H:Hp):(Gi h H).objs.size=h.objs.size:=PySem.W.hideAll_size _ _
theorem Qs {h:Heap}{H:Hp}{b:Addr}{o:Obj}(e:h.get? b=some o)(n:H b=none):(Gi h H).get? b=some o :=
 PySem.W.hideAll_get _ e fun hm=>by
  have q:(H b).isSome=true:=(List.mem_filter.mp hm).2
  rw[n] at q;simp at q
theorem Ue {h:Heap}{H:Hp}{b:Addr}{o:Obj}(e:(Gi h H).get? b=some o):h.get? b=some o∧H b=none:=by
 have e':h.get? b=some o:=PySem.W.of_hideAll (trk h H) e
 refine⟨e',?_⟩
 cases q:H b with
 | none=>rfl
 | some x =>
  have hm:b∈trk h H:=List.mem_filter.mpr ⟨List.mem_range.mpr (Heap.lt_size e'),by simp[q]⟩
  have z:(Gi h H).get? b=none:=PySem.W.hideAll_none (trk h H) hm
  rw[z] at e;cases e
structure Mod (K:PySem.W.Frag)(mg:Str→Option Value)(base:Heap):Prop where
 Zr:K.In base
 glob:base.Ns mainGlobals mg
 blt:∃ mb,base.Ns builtinsNs mb∧∀ x:Str,x ≠ "__name__" → mb x=bootBuiltins x
 nolimit:base.NoLimit
structure Cx where
 prog:Program
 w:World
 K:PySem.W.Frag
 mg:Str→Option Value
 base:Heap
 A:Around
 N:List Str
 s₀:Shared
 H₀:Hp
 env:Env
 outer:List Env
 stack:List Env
 ex:List Addr
 fn:Str→Bool
 calm:Bool
 pn:List (Addr×Obj)
 xe:Value→Shared→Prop
def frs (l:List Env):List Addr:=l.filterMap (·.frame)
abbrev Cx.fs (X:Cx):List Addr:=frs X.outer
def Vis (sc:Scope)(x:Str):Prop:=sc.names.lookup x=some .local∨sc.names.lookup x=some .cell∨sc.names.lookup x=some .free
def Loc (sc:Scope)(x:Str):Prop:=sc.names.lookup x=some .local∨sc.names.lookup x=some .cell
def Look (env:Env)(h:Heap)(m:Str→Option Value)(x:Str)(u:Value):Prop :=
 (env.kindOf x=some .local∧m x=some u)∨((env.kindOf x=some .cell∨env.kindOf x=some .free)∧∃ c,env.cells.lookup x=some c∧h.IsCell c (some u))
structure Cx.Ok (X:Cx):Prop where
 mod:Mod X.K X.mg X.base
 kind:X.env.scope.kind=.function
 glob:X.env.globals=mainGlobals
 blt:X.env.builtins=builtinsNs
 above:X.s₀.heap.objs.size≤X.env.locals
 inj:∀ x y c,X.env.cells.lookup x=some c→X.env.cells.lookup y=some c→x=y
 has:∀ x,(X.env.kindOf x=some .cell∨X.env.kindOf x=some .free)→∃ c,X.env.cells.lookup x=some c
 cab:∀ x c,X.fn x=true→X.env.cells.lookup x=some c→X.s₀.heap.objs.size≤c
 hd:X.calm=true→X.A.handled=none
 frames:X.A.frames=some X.stack
 stk:X.stack=X.outer∨(X.stack=X.env::X.outer∧X.env.frame=some X.env.locals)
 exf:∀ b∈X.ex,b≠X.env.locals∧∀ x c,X.env.cells.lookup x=some c→c≠b
 bs:∀ b o,X.base.get? b=some o→X.s₀.heap.get? b=some o∧X.H₀ b=none
 Qt:X.base.objs.size≤X.s₀.heap.objs.size
 Og:∀ b o,X.base.get? b=some o→b∉X.ex
 Qu:∀ b∈X.ex,b∉X.fs
 wO:X.s₀.heap.FunFrames X.base X.outer
 Wa:∀ b∈X.fs,X.H₀ b=none
structure Inv (X:Cx)(pins:List (Addr×Obj))(σ:List (Option V))(H:Hp)(s:Shared):Prop where
 ok:X.Ok
 os:s.os=X.s₀.os
 bare:AllBare s.gens
 base:Un X.fs X.ex X.H₀ H X.s₀.heap s.heap
 loc:∃ m,s.heap.Ns X.env.locals m∧∀ (i:Nat) (x:Str) (v:V),X.N[i]?=some x→σ[i]?=some (some v)→Vis X.env.scope x→∃ u,RelV v u∧Look X.env s.heap m x u
 cell:∀ x c,X.env.cells.lookup x=some c→∃ v,s.heap.IsCell c v
 free:H X.env.locals=none
 qp:∀ x c,X.env.cells.lookup x=some c→H c=none
 pin:∀ p∈X.pn++pins,s.heap.get? p.1=some p.2∧H p.1=none∧p.1≠X.env.locals∧p.1∉X.fs∧∀ v,p.2.data≠.cell v
 hok:uE X.prog X.w H s.heap
 len:σ.length=X.N.length
section
variable{X:Cx}{pins:List (Addr×Obj)}{σ:List (Option V)}{H H':Hp}{s:Shared}{h':Heap}
theorem Cx.Ok.afZ (ok:X.Ok){b:Addr}{o:Obj}(e:X.base.get? b=some o):b∉X.fs:=fun hb=>by
 have:=(ok.wO.mem hb).1
 rw[e] at this;cases this
theorem Inv.bs (I:Inv X pins σ H s):∀ b o,X.base.get? b=some o→s.heap.get? b=some o∧H b=none:=fun b o e =>
 ⟨I.base.keep b o (I.ok.bs b o e).1 (I.ok.bs b o e).2 (I.ok.afZ e) (I.ok.Og b o e),I.base.free b o (I.ok.bs b o e).1 (I.ok.bs b o e).2 (I.ok.Og b o e)⟩
theorem Inv.bk (I:Inv X pins σ H s):∀ b o,X.base.get? b=some o→s.heap.get? b=some o:=fun b o e=>(I.bs b o e).1
theorem Inv.mod (I:Inv X pins σ H s):Mod X.K X.mg X.base:=I.ok.mod
theorem Inv.uc (I:Inv X pins σ H s):X.K.In s.heap:=I.ok.mod.Zr.keeps I.bk
theorem Inv.nolimit (I:Inv X pins σ H s):s.heap.NoLimit:=I.ok.mod.nolimit.keeps I.bk
theorem Inv.fr (I:Inv X pins σ H s):∃ m,Fr X.base X.env.locals s.heap m :=
 let ⟨m,hn,_⟩:=I.loc
 ⟨m,hn,I.bk,Nat.le_trans I.ok.Qt I.ok.above⟩
theorem Inv.lt (I:Inv X pins σ H s):X.env.locals<s.heap.objs.size:=let ⟨_,hn,_⟩:=I.loc;hn.lt
theorem Inv.sz (I:Inv X pins σ H s):X.s₀.heap.objs.size≤s.heap.objs.size:=Nat.le_trans I.ok.above (Nat.le_of_lt I.lt)
theorem Inv.W9 (I:Inv X pins σ H s){a:Addr}(h:s.heap.objs.size≤a):a∉X.fs:=fun hb=>by
 obtain⟨_,o,ho,_⟩:=I.ok.wO.mem hb
 exact absurd (Nat.lt_of_lt_of_le (Heap.lt_size ho) (Nat.le_trans I.sz h)) (Nat.lt_irrefl _)
theorem Inv.Ug (I:Inv X pins σ H s):∀ x c,X.env.cells.lookup x=some c→c≠X.env.locals:=fun x c e z=>by
 obtain⟨v,o,ho,hd⟩:=I.cell x c e
 obtain⟨m,⟨o',es,ep,ho',hd',_⟩,_⟩:=I.loc
 rw[z,ho'] at ho;cases ho;rw[hd'] at hd;cases hd
theorem Inv.wO (I:Inv X pins σ H s):s.heap.FunFrames X.base X.outer:=by
 have all:∀ (l:List Env),(∀ b∈frs l,b∈X.fs)→X.s₀.heap.FunFrames X.base l→s.heap.FunFrames X.base l:=by
  intro l
  induction l with
  | nil=>intro _ _;trivial
  | cons env r ih =>
   intro hs hl
   obtain⟨hk,⟨L,o,hf,hn,ho,hd⟩,hr⟩:=hl
   have hL:L∈X.fs:=hs L (by unfold frs;rw[List.filterMap_cons,hf];exact List.mem_cons_self)
   obtain⟨sl,e⟩:=I.base.slot L o ho (I.ok.Wa L hL) hL fun z=>I.ok.Qu L z hL
   exact⟨hk,⟨L,_,hf,hn,e,hd⟩,ih (fun b hb=>hs b (by unfold frs;rw[List.filterMap_cons,hf];exact List.mem_cons_of_mem _ hb)) hr⟩
 exact all X.outer (fun _ hb=>hb) I.ok.wO
theorem Inv.stack (I:Inv X pins σ H s):s.heap.FunFrames X.base X.stack:=by
 rcases I.ok.stk with e|⟨e,hf⟩
 ·rw[e];exact I.wO
 ·rw[e]
  obtain⟨m,hn,_⟩:=I.loc
  refine .cons (by rw[I.ok.kind];decide) hf hn ?_ I.wO
  exact Heap.get?_none_of_le (Nat.le_trans I.ok.Qt I.ok.above)
theorem Inv.zZ (I:Inv X pins σ H s):∀ b∈frs X.stack,b∈X.env.locals::X.fs:=fun b hb=>by
 rcases I.ok.stk with e|⟨e,hf⟩
 ·rw[e] at hb;exact List.mem_cons_of_mem _ hb
 ·rw[e] at hb
  unfold frs at hb
  rw[List.filterMap_cons,hf] at hb
  exact hb
theorem Inv.Gj (I:Inv X pins σ H s):∀ b∈frs X.stack,H b=none:=fun b hb=>by
 rcases List.mem_cons.mp (I.zZ b hb) with e|hb
 ·rw[e];exact I.free
 ·obtain⟨_,o,ho,_⟩:=I.ok.wO.mem hb
  exact I.base.free b o ho (I.ok.Wa b hb) fun z=>I.ok.Qu b z hb
theorem Inv.step {g':Array GenState}{t':Nat}{d':Drawn}{ch:List Addr}(I:Inv X pins σ H s)
  (hch:∀ b∈ch,(b∈X.ex∨X.s₀.heap.objs.size≤b)∧b≠X.env.locals∧(∀ x c,X.env.cells.lookup x=some c→c≠b)∧∀ p∈X.pn++pins,p.1≠b)
  (keep:∀ b o,b≠X.env.locals→b∉X.fs→b∉ch→s.heap.get? b=some o→H b=none→h'.get? b=some o)
  (slot:∀ b o,b≠X.env.locals→b∈X.fs→b∉ch→s.heap.get? b=some o→H b=none→∃ sl,h'.get? b=some { o with slots:=sl }) (free:∀ b o,b∉ch→s.heap.get? b=some o→H b=none→H' b=none)
  (there:∀ b o,b∉ch→s.heap.get? b=some o→∃ o',h'.get? b=some o')
  (tups:∀ b xs,H b=some (.tup xs)→H' b=some (.tup xs)) (zX:∀ b o u,H b=some (.Mt o u)→H' b=some (.Mt o u)) (zY:∀ b ps,H b=some (.IW ps)→∃ more,H' b=some (.IW (ps++more)))
  (ns:∀ m,s.heap.Ns X.env.locals m→h'.Ns X.env.locals m) (hok:uE X.prog X.w H' h') (hg:AllBare g') :
  Inv X pins σ H' { s with heap:=h',gens:=g',drawn:=d',toks:=t' }:=by
 have neL:∀ b o,X.s₀.heap.get? b=some o→b≠X.env.locals:=fun b o e=>Nat.ne_of_lt (Nat.lt_of_lt_of_le (Heap.lt_size e) I.ok.above)
 have neC:∀ b o,X.s₀.heap.get? b=some o→b∉X.ex→b∉ch:=fun b o e hx hb=>by
  rcases (hch b hb).1 with z|z
  ·exact hx z
  ·exact absurd (Nat.lt_of_lt_of_le (Heap.lt_size e) z) (Nat.lt_irrefl _)
 have cellK:∀ x c,X.env.cells.lookup x=some c→∀ v,s.heap.IsCell c v→h'.IsCell c v:=fun x c e v ⟨o,ho,hd⟩=>by
  have Zt:c∉ch:=fun z=>(hch c z).2.2.1 x c e rfl
  by_cases hc:c∈X.fs
  ·obtain⟨sl,q⟩:=slot c o (I.Ug x c e) hc Zt ho (I.qp x c e)
   exact⟨_,q,hd⟩
  ·exact⟨o,keep c o (I.Ug x c e) hc Zt ho (I.qp x c e),hd⟩
 refine⟨I.ok,I.os,hg,⟨fun b o e n hb hx=>?_,fun b o e n hb hx=>?_,fun b o e n hx=>?_,fun b o e hx=>?_,fun b xs e=>tups b xs (I.base.tups b xs e),fun b o xs e=>zX b o xs (I.base.zX b o xs e),fun b ps e=>?_⟩,?_,fun x c e=>?_,?_,fun x c e=>?_,fun p hp=>?_,hok,I.len⟩
 ·exact keep b o (neL b o e) hb (neC b o e hx) (I.base.keep b o e n hb hx) (I.base.free b o e n hx)
 ·obtain⟨sl,e1⟩:=I.base.slot b o e n hb hx
  obtain⟨sl',e2⟩:=slot b _ (neL b o e) hb (neC b o e hx) e1 (I.base.free b o e n hx)
  exact⟨sl',e2⟩
 ·obtain⟨o',e1⟩:=I.base.there b o e hx
  exact free b o' (neC b o e hx) e1 (I.base.free b o e n hx)
 ·obtain⟨o',e1⟩:=I.base.there b o e hx
  exact there b o' (neC b o e hx) e1
 ·obtain⟨m1,e1⟩:=I.base.zY b ps e
  obtain⟨m2,e2⟩:=zY b _ e1
  exact⟨m1++m2,by rw[e2,Array.append_assoc]⟩
 ·obtain⟨m,hn,hl⟩:=I.loc
  refine⟨m,ns m hn,fun i x v e1 e2 e3=>?_⟩
  obtain⟨u,r,l⟩:=hl i x v e1 e2 e3
  refine⟨u,r,?_⟩
  rcases l with l|⟨k,c,e,z⟩
  ·exact .inl l
  ·exact .inr ⟨k,c,e,cellK x c e _ z⟩
 ·obtain⟨v,z⟩:=I.cell x c e
  exact⟨v,cellK x c e v z⟩
 ·obtain⟨m,⟨o,_,_,ho,_⟩,_⟩:=I.loc
  exact free _ o (fun z=>(hch _ z).2.1 rfl) ho I.free
 ·obtain⟨v,o,ho,hd⟩:=I.cell x c e
  exact free c o (fun z=>(hch c z).2.2.1 x c e rfl) ho (I.qp x c e)
 ·obtain⟨e,n,ne,nf,d⟩:=I.pin p hp
  have Zt:p.1∉ch:=fun z=>(hch p.1 z).2.2.2 p hp rfl
  exact⟨keep p.1 p.2 ne nf Zt e n,free p.1 p.2 Zt e n,ne,nf,d⟩
theorem Inv.un {t':Nat}(I:Inv X pins σ H s)(u:Un X.fs [] H H' s.heap h')(hok:uE X.prog X.w H' h'):Inv X pins σ H' { s with heap:=h',toks:=t' }:=by
 obtain⟨m,⟨o,es,ep,ho,r⟩,_⟩:=id I.loc
 obtain⟨sl,hL⟩:=u.any ho I.free (by simp)
 exact I.step (g':=s.gens) (d':=s.drawn) (ch:=[]) (fun _ z=>nomatch z) (fun b o _ hb _ e n=>u.keep b o e n hb (by simp)) (fun b o _ hb _ e n=>u.slot b o e n hb (by simp)) (fun b o _ e n=>u.free b o e n (by simp)) (fun b o _ e=>u.there b o e (by simp)) u.tups u.zX u.zY (fun m' hm=>by
  obtain⟨o',es',ep',ho',r'⟩:=hm
  rw[ho] at ho';cases ho'
  exact⟨_,es',ep',hL,r'⟩) hok I.bare
theorem Inv.call {g':Array GenState}{t':Nat}{d':Drawn}{ch:List Addr}(I:Inv X pins σ H s)(u:Un (frs X.stack) ch H H' s.heap h')(hok:uE X.prog X.w H' h')(hg:AllBare g')
  (hch:∀ b∈ch,(b∈X.ex∨X.s₀.heap.objs.size≤b)∧b≠X.env.locals∧(∀ x c,X.env.cells.lookup x=some c→c≠b)∧∀ p∈X.pn++pins,p.1≠b) :
  Inv X pins σ H' { s with heap:=h',gens:=g',drawn:=d',toks:=t' }:=by
 obtain⟨m,⟨o,es,ep,ho,r⟩,_⟩:=id I.loc
 obtain⟨sl,hL⟩:=u.any ho I.free fun z=>(hch _ z).2.1 rfl
 exact I.step (ch:=ch) hch (fun b o hL hb hc e n=>u.keep b o e n (fun z=>(List.mem_cons.mp (I.zZ b z)).elim hL hb) hc) (fun b o _ _ hc e n=>u.any e n hc) (fun b o hc e n=>u.free b o e n hc) (fun b o hc e=>u.there b o e hc) u.tups u.zX u.zY (fun m' hm=>by
  obtain⟨o',es',ep',ho',r'⟩:=hm
  rw[ho] at ho';cases ho'
  exact⟨_,es',ep',hL,r'⟩) hok hg
theorem Inv.turned {t':Nat}{it:Addr}(I:Inv X pins σ H s)(k:∀ b o,b≠it→s.heap.get? b=some o→h'.get? b=some o)(hn:H it=none)(hL:it≠X.env.locals)
  (h1:it∈X.ex∨X.s₀.heap.objs.size≤it) (h2:∀ x c,X.env.cells.lookup x=some c→c≠it) (h3:∀ p∈X.pn++pins,p.1≠it):Inv X pins σ H { s with heap:=h',toks:=t' }:=by
 have Zu:∀ b u,H b=some u→b≠it:=fun b u e z=>by rw[z,hn] at e;cases e
 refine I.step (g':=s.gens) (d':=s.drawn) (ch:=[it]) (fun b hb=>?_) (fun b o _ _ hc e _=>k b o (fun z=>hc (by simp[z])) e) (fun b o _ _ hc e _=>⟨o.slots,k b o (fun z=>hc (by simp[z])) e⟩) (fun _ _ _ _ n=>n)
  (fun b o hc e=>⟨o,k b o (fun z=>hc (by simp[z])) e⟩) (fun _ _ e=>e) (fun _ _ _ e=>e) (fun b ps e=>⟨#[],by rw[e];simp⟩) (fun m hm=>?_) (fun b u e=>?_) I.bare
 ·have e:b=it:=by simpa using hb
  subst e
  exact⟨h1,hL,h2,h3⟩
 ·obtain⟨o,es,ep,ho,r⟩:=hm
  exact⟨o,es,ep,k _ o (Ne.symm hL) ho,r⟩
 ·refine (I.hok b u e).stay (fun c v hc q=>k c v ?_ q) (fun _ q=>q) fun _ _ q=>q
  rcases hc with z|z
  ·rw[z];exact Zu b u e
  ·exact Zu c _ z
theorem Inv.tok (I:Inv X pins σ H s)(t:Nat):Inv X pins σ H { s with toks:=t }:=I.un (h':=s.heap) (t':=t) Un.refl I.hok
theorem Inv.kept {t':Nat}(I:Inv X pins σ H s)(k:∀ b u,s.heap.get? b=some u→h'.get? b=some u):Inv X pins σ H { s with heap:=h',toks:=t' }:=I.un (Un.kept k) (I.hok.kept k)
theorem Inv.laid {a:Addr}{o:HO}{t':Nat}(I:Inv X pins σ H s)(k:∀ b u,s.heap.get? b=some u→h'.get? b=some u)(hp:s.heap.objs.size≤a)(new:dG X.prog X.w (upd H a o) h' a o):
  Inv X pins σ (upd H a o) { s with heap:=h',toks:=t' }:=I.un (Un.laid k hp (I.hok.fresh hp)) (I.hok.laid k hp new)
theorem Inv.write {x e:Addr}{o:HO}{t':Nat}(I:Inv X pins σ H s)(mu:Mut (H x))(he:e=x∨H e=some (.own x))(k:∀ b u,b≠e→s.heap.get? b=some u→h'.get? b=some u)(heo:∃ u,h'.get? e=some u)
  (new:dG X.prog X.w (upd H x o) h' x o):Inv X pins σ (upd H x o) { s with heap:=h',toks:=t' }:=I.un (Un.write mu he k heo) (I.hok.write mu he k heo new)
theorem Inv.weak {σ':List (Option V)}(I:Inv X pins σ H s)(hl:σ'.length=σ.length)(w:∀ (i:Nat) v,σ'[i]?=some (some v)→σ[i]?=some (some v)):Inv X pins σ' H s :=
 ⟨I.ok,I.os,I.bare,I.base,let ⟨m,hn,hl'⟩:=I.loc;⟨m,hn,fun i x v e1 e2 e3=>hl' i x v e1 (w i v e2) e3⟩,I.cell,I.free,I.qp,I.pin,I.hok,hl.trans I.len⟩
theorem Inv.sY {Ew:List (Addr×Obj)}(I:Inv X pins σ H s)(h:∀ p∈Ew,s.heap.get? p.1=some p.2∧H p.1=none∧p.1≠X.env.locals∧p.1∉X.fs∧∀ v,p.2.data≠.cell v):Inv X Ew σ H s :=
 ⟨I.ok,I.os,I.bare,I.base,I.loc,I.cell,I.free,I.qp,fun p hp=>(List.mem_append.mp hp).elim (fun z=>I.pin p (List.mem_append_left _ z)) (h p),I.hok,I.len⟩
theorem Jd {N:List Str}(hN:N.Nodup){i j:Nat}{x:Str}(a:N[i]?=some x)(b:N[j]?=some x):i=j:=by
 obtain⟨h1,e1⟩:=List.getElem?_eq_some_iff.mp a
 obtain⟨h2,e2⟩:=List.getElem?_eq_some_iff.mp b
 exact (List.getElem_inj hN).mp (e1.trans e2.symm)
theorem Ey {M:Model}{A:Around}{E:Value→Shared→Prop}{i:Nat}{x:Str}{v:V}{u:Value}{Q:Unit→Shared→Prop}(I:Inv X pins σ H s)(hN:X.N.Nodup)(hi:X.N[i]?=some x)(hx:Loc X.env.scope x)(r:RelV v u)
  (h:∀ s',Inv X pins (σ.set i (some v)) H s'→(∃ a,Heap.SameBut a s.heap s'.heap∧(a=X.env.locals∨X.env.cells.lookup x=some a))→Q () s') (hf:X.fn x=true∨X.env.scope.names.lookup x=some .local:=by first|exact .inl rfl|exact .inr rfl|assumption):wpAny M A (storeName X.env x u) Q E s:=by
 obtain⟨m,hn,hl⟩:=id I.loc
 have hcls:(X.env.scope.kind == .class || (X.env.scope.kind == .module && X.env.locals != X.env.globals))=false:=by rw[I.ok.kind];rfl
 have hiσ:i<σ.length:=by rw[I.len];exact (List.getElem?_eq_some_iff.mp hi).1
 have Ug:=I.Ug
 have tracked:∀ {a:Addr} {h':Heap},(∃ o,s.heap.get? a=some o∧H a=none)→Heap.SameBut a s.heap h'→uE X.prog X.w H h':=fun {a h'} ha hs b ob e=>by
  obtain⟨_,_,hfree⟩:=ha
  refine (I.hok b ob e).stay (fun c w' hc q=>(hs.2 c ?_).trans q) (fun _ q=>q) fun _ _ q=>q
  rintro rfl
  rcases hc with rfl|hc
  ·rw[hfree] at e;cases e
  ·rw[hfree] at hc;cases hc
 rcases hx with hk|hk
 ·refine wpAny_storeName_local hk hn (fun h' hn' hs=>?_) hcls
  obtain⟨oL,_,_,hoL,_⟩:=id hn
  refine h _ ⟨I.ok,I.os,I.bare,⟨fun b o e n hb hx=>?_,fun b o e n hb hx=>?_,I.base.free,fun b o e hx=>?_,I.base.tups,I.base.zX,I.base.zY⟩,⟨_,hn',fun j y v' e1 e2 e3=>?_⟩,fun y c e=>?_,I.free,I.qp,fun p hp=>?_,tracked ⟨oL,hoL,I.free⟩ hs,by simpa using I.len⟩ ⟨_,hs,.inl rfl⟩
  ·exact (hs.2 b (Nat.ne_of_lt (Nat.lt_of_lt_of_le (Heap.lt_size e) I.ok.above))).trans (I.base.keep b o e n hb hx)
  ·obtain⟨sl,e1⟩:=I.base.slot b o e n hb hx
   exact⟨sl,(hs.2 b (Nat.ne_of_lt (Nat.lt_of_lt_of_le (Heap.lt_size e) I.ok.above))).trans e1⟩
  ·obtain⟨o',e1⟩:=I.base.there b o e hx
   exact⟨o',(hs.2 b (Nat.ne_of_lt (Nat.lt_of_lt_of_le (Heap.lt_size e) I.ok.above))).trans e1⟩
  ·by_cases hj:j=i
   ·subst hj
    rw[hi] at e1;cases e1
    rw[List.getElem?_set_self hiσ] at e2
    cases e2
    exact⟨u,r,.inl ⟨hk,by simp⟩⟩
   ·rw[List.getElem?_set_ne (Ne.symm hj)] at e2
    obtain⟨u',r',q⟩:=hl j y v' e1 e2 e3
    refine⟨u',r',?_⟩
    rcases q with⟨k,e⟩|⟨k,c,e,z⟩
    ·refine .inl ⟨k,?_⟩
     have:y≠x:=fun e=>hj (Jd hN e1 (e ▸ hi))
     simp[this,e]
    ·exact .inr ⟨k,c,e,z.sameBut hs (Ug y c e)⟩
  ·obtain⟨w',z⟩:=I.cell y c e
   exact⟨w',z.sameBut hs (Ug y c e)⟩
  ·obtain⟨e,n,ne,nf,d⟩:=I.pin p hp
   exact⟨(hs.2 p.1 ne).trans e,n,ne,nf,d⟩
 ·have hfn:X.fn x=true:=by
   rcases hf with z|z
   ·exact z
   ·rw[z] at hk;cases hk
  obtain⟨c,hc⟩:=I.ok.has x (.inl hk)
  obtain⟨w',z⟩:=I.cell x c hc
  refine wpAny_storeName_cell I.ok.kind hk hc z (fun h' hc' hs=>?_)
  obtain⟨oc,hoc,af0⟩:=id z
  refine h { s with heap:=h' } ⟨I.ok,I.os,I.bare,⟨fun b o e n hb hx=>?_,fun b o e n hb hx=>?_,I.base.free,fun b o e hx=>?_,I.base.tups,I.base.zX,I.base.zY⟩,⟨m,hn.sameBut hs (Ne.symm (Ug x c hc)),fun j y v' e1 e2 e3=>?_⟩,fun y c' e=>?_,I.free,I.qp,fun p hp=>?_,tracked ⟨oc,hoc,I.qp x c hc⟩ hs,by simpa using I.len⟩ ⟨c,hs,.inr hc⟩
  ·exact (hs.2 b (Nat.ne_of_lt (Nat.lt_of_lt_of_le (Heap.lt_size e) (I.ok.cab x c hfn hc)))).trans (I.base.keep b o e n hb hx)
  ·obtain⟨sl,e1⟩:=I.base.slot b o e n hb hx
   exact⟨sl,(hs.2 b (Nat.ne_of_lt (Nat.lt_of_lt_of_le (Heap.lt_size e) (I.ok.cab x c hfn hc)))).trans e1⟩
  ·obtain⟨o',e1⟩:=I.base.there b o e hx
   exact⟨o',(hs.2 b (Nat.ne_of_lt (Nat.lt_of_lt_of_le (Heap.lt_size e) (I.ok.cab x c hfn hc)))).trans e1⟩
  ·by_cases hj:j=i
   ·subst hj
    rw[hi] at e1;cases e1
    rw[List.getElem?_set_self hiσ] at e2
    cases e2
    exact⟨u,r,.inr ⟨.inl hk,c,hc,hc'⟩⟩
   ·rw[List.getElem?_set_ne (Ne.symm hj)] at e2
    obtain⟨u',r',q⟩:=hl j y v' e1 e2 e3
    refine⟨u',r',?_⟩
    rcases q with q|⟨k,c',e,z'⟩
    ·exact .inl q
    ·refine .inr ⟨k,c',e,z'.sameBut hs ?_⟩
     rintro rfl
     exact hj (Jd hN e1 (I.ok.inj _ _ _ e hc ▸ hi))
  ·by_cases hcc:c'=c
   ·subst hcc;exact⟨_,hc'⟩
   ·obtain⟨w2,z2⟩:=I.cell y c' e
    exact⟨w2,z2.sameBut hs hcc⟩
  ·obtain⟨e,n,ne,nf,d⟩:=I.pin p hp
   refine⟨(hs.2 p.1 ?_).trans e,n,ne,nf,d⟩
   intro q
   rw[q,hoc] at e
   have q':oc=p.2:=Option.some.inj e
   exact d w' (by rw[←q'];exact af0)
theorem vq {M:Model}{A:Around}{E:Value→Shared→Prop}{i:Nat}{x:Str}{v:V}{u:Value}{Q:Unit→Shared→Prop}(I:Inv X pins σ H s)(hN:X.N.Nodup)(hi:X.N[i]?=some x)(hx:Loc X.env.scope x)(r:RelV v u)
  (h:∀ s',Inv X pins (σ.set i (some v)) H s'→Q () s') (hf:X.fn x=true∨X.env.scope.names.lookup x=some .local:=by first|exact .inl rfl|exact .inr rfl|assumption):wpAny M A (storeName X.env x u) Q E s :=
 Ey I hN hi hx r (fun s' I' _=>h s' I') hf
theorem Inv.call' {s':Shared}{ch:List Addr}(I:Inv X pins σ H s)(ho:s'.os=s.os)(u:Un (frs X.stack) ch H H' s.heap s'.heap)(hok:uE X.prog X.w H' s'.heap)(hg:AllBare s'.gens)
  (hch:∀ b∈ch,(b∈X.ex∨X.s₀.heap.objs.size≤b)∧b≠X.env.locals∧(∀ x c,X.env.cells.lookup x=some c→c≠b)∧∀ p∈X.pn++pins,p.1≠b):Inv X pins σ H' s':=by
 obtain⟨h',g',d',t',o'⟩:=s'
 have e:o'=s.os:=ho
 subst e
 exact I.call (g':=g') (t':=t') (d':=d') u hok hg hch
end
abbrev XK:=Value→Option Addr→Hp→Prop
abbrev St:=List (Option V)
abbrev VK:=V→Hp→Prop
abbrev TE:=St→Hp→VK→Prop
abbrev TT:=St→Hp→(Bool→Hp→Prop)→Prop
abbrev TA:=St→Hp→(List V→Hp→Prop)→Prop
structure Ends where
 nx:St→Hp→Prop
 rt:VK
 bk:St→Hp→Prop:=fun _ _=>False
 ct:St→Hp→Prop:=fun _ _=>False
abbrev TS:=Ends→St→Hp→Prop
def EP (X:Cx)(pins:List (Addr×Obj))(σ:St)(Q:VK)(u:Value)(s':Shared):Prop:=∃ v H',Inv X pins σ H' s'∧RelV v u∧Q v H'
def TP (X:Cx)(pins:List (Addr×Obj))(σ:St)(Q:Bool→Hp→Prop)(b:Bool)(s':Shared):Prop:=∃ H',Inv X pins σ H' s'∧Q b H'
def AP (X:Cx)(pins:List (Addr×Obj))(σ:St)(Q:List V→Hp→Prop)(us:List Value)(s':Shared):Prop:=∃ vs H',Inv X pins σ H' s'∧Vals vs us∧Q vs H'
def SP (X:Cx)(pins:List (Addr×Obj))(D:Ends)(f:Flow)(s':Shared):Prop :=
 match f with
 | .next=>∃ σ' H',Inv X pins σ' H' s'∧D.nx σ' H'
 | .brk=>∃ σ' H',Inv X pins σ' H' s'∧D.bk σ' H'
 | .cont=>∃ σ' H',Inv X pins σ' H' s'∧D.ct σ' H'
 | .ret u=>∃ v σ' H',Inv X pins σ' H' s'∧RelV v u∧D.rt v H'
def PE (X:Cx)(e:Expr)(t:TE):Prop :=
 ∀ (pins:List (Addr×Obj)) (s:Shared) (σ:St) (H:Hp) (Q:VK),Inv X pins σ H s→t σ H Q→wpAny (model X.prog X.w) X.A (eval e X.env) (EP X pins σ Q) X.xe s
def PT (X:Cx)(e:Expr)(t:TT):Prop :=
 ∀ (pins:List (Addr×Obj)) (s:Shared) (σ:St) (H:Hp) (Q:Bool→Hp→Prop),Inv X pins σ H s→t σ H Q→wpAny (model X.prog X.w) X.A (isTrue e X.env (eval e X.env)) (TP X pins σ Q) X.xe s
def PW (X:Cx)(e:Expr)(t:TT):Prop :=
 ∀ (whole:Sem Value) (pins:List (Addr×Obj)) (s:Shared) (σ:St) (H:Hp) (Q:Bool→Hp→Prop),Inv X pins σ H s→t σ H Q→wpAny (model X.prog X.w) X.A (isTrue e X.env whole) (TP X pins σ Q) X.xe s
theorem PW.pt {X:Cx}{e:Expr}{t:TT}(h:PW X e t):PT X e t:=h _
def PA (X:Cx)(es:List Expr)(t:TA):Prop :=
 ∀ (pos:Pos) (pins:List (Addr×Obj)) (s:Shared) (σ:St) (H:Hp) (Q:List V→Hp→Prop),Inv X pins σ H s→t σ H Q→wpAny (model X.prog X.w) X.A (spliced (backTo pos (starEach es X.env))) (AP X pins σ Q) X.xe s
def PS (X:Cx)(st:Stmt)(t:TS):Prop :=
 ∀ (pins:List (Addr×Obj)) (s:Shared) (σ:St) (H:Hp) (D:Ends),Inv X pins σ H s→t D σ H→wpAny (model X.prog X.w) X.A (exec st X.env) (SP X pins D) X.xe s
def KY (X:Cx)(st:List Stmt)(t:TS):Prop :=
 ∀ (pins:List (Addr×Obj)) (s:Shared) (σ:St) (H:Hp) (D:Ends),Inv X pins σ H s→t D σ H→wpAny (model X.prog X.w) X.A (execs st X.env) (SP X pins D) X.xe s
theorem eE {α:Type}{t:Sem α}{Q Q':α→Shared→Prop}{M:Model}{A:Around}{E:Value→Shared→Prop}{s:Shared}(h:wpAny M A t Q E s)(hQ:∀ a s,Q a s→Q' a s):wpAny M A t Q' E s:=wpAny_mono h hQ fun _ _ x=>x
section
variable{X:Cx}
theorem bin {a b:Expr}{ta tb:TE}(ha:PE X a ta)(hb:PE X b tb){pins:List (Addr×Obj)}{s:Shared}{σ:St}{H:Hp}{R:V→V→Hp→Prop}(I:Inv X pins σ H s)(h:ta σ H fun x H1=>tb σ H1 fun y H2=>R x y H2)
  {α:Type} {Q:α→Shared→Prop} {f:Value→Value→Sem α}
  (hf:∀ v u s2 x y H2,Inv X pins σ H2 s2→RelV x v→RelV y u→R x y H2→wpAny (model X.prog X.w) X.A (f v u) Q X.xe s2) :
  wpAny (model X.prog X.w) X.A (eval a X.env) (fun v s₁=>wpAny (model X.prog X.w) X.A (eval b X.env) (fun u s₂=>wpAny (model X.prog X.w) X.A (f v u) Q X.xe s₂) X.xe s₁) X.xe s:=by
 refine eE (ha pins s σ H _ I h) fun v s1 ⟨x,H1,I1,r1,q1⟩=>?_
 refine eE (hb pins s1 σ H1 _ I1 q1) fun u s2 ⟨y,H2,I2,r2,q2⟩=>?_
 exact hf v u s2 x y H2 I2 r1 r2 q2
def Gk (i:Nat):TE:=fun σ H Q=>∃ v,σ[i]?=some (some v)∧Q v H
def tC (v:V):TE:=fun _ H Q=>Q v H
theorem Xa {i:Nat}{x:Str}{pos:Pos}(hN:X.N[i]?=some x)(hv:Vis X.env.scope x)(hd:(x == ("__debug__" : Str))=false:=by decide)(hcd:(x == ("__classdict__" : Str))=false:=by decide):PE X (.Name x pos) (Gk i):=by
 intro pins s σ H Q I h
 obtain⟨v,e,h⟩:=h
 obtain⟨m,hn,hl⟩:=I.loc
 obtain⟨u,r,l⟩:=hl i x v hN e hv
 have fin:EP X pins σ Q u s:=⟨v,H,I,r,h⟩
 rcases l with⟨hk,hm⟩|⟨hk,c,hc,hcell⟩
 ·exact wpAny_Name (wpAny_loadName_local I.ok.kind hk hn hm fin) hd
 ·rcases hk with hk|hk
  ·exact wpAny_Name (wpAny_loadName_cell I.ok.kind hk hc hcell fin) hd
  ·exact wpAny_Name (wpAny_loadName_free I.ok.kind hk hc hcell fin hcd) hd
theorem aA {i j pos}:PE X (.Constant (.int i) j pos) (tC (.int i)):=fun _ _ _ H _ I h=>wpAny_Constant_int ⟨.int i,H,I.tok _,⟨_,rfl⟩,h⟩
theorem cM {b j pos}:PE X (.Constant (.bool b) j pos) (tC (.bl b)):=fun _ _ _ H _ I h=>Constant_bool ⟨.bl b,H,I,rfl,h⟩
theorem Qv {j pos}:PE X (.Constant .none j pos) (tC .non):=fun _ _ _ H _ I h=>Constant_none ⟨.non,H,I,rfl,h⟩
def Gl (X:Cx)(x:Str):Prop:=X.env.kindOf x=some .globalImplicit
theorem vC {E:Value→Shared→Prop}{pins:List (Addr×Obj)}{s:Shared}{σ:St}{H:Hp}{x:Str}{u:Value}{pos:Pos}{Q:Value→Shared→Prop}(I:Inv X pins σ H s)(hg:Gl X x)(hm:X.mg x=some u)(h:Q u s)
  (hd:(x == ("__debug__" : Str))=false:=by decide):wpAny (model X.prog X.w) X.A (eval (.Name x pos) X.env) Q E s :=
 Calls.Name_function_global I.ok.kind hg (Calls.loadGlobal_global (by rw[I.ok.glob];exact I.mod.glob.keeps I.bk) hm h) hd
theorem pI {E:Value→Shared→Prop}{pins:List (Addr×Obj)}{s:Shared}{σ:St}{H:Hp}{x:Str}{u:Value}{pos:Pos}{Q:Value→Shared→Prop}(I:Inv X pins σ H s)(hg:Gl X x)(hm:X.mg x=none)(hv:bootBuiltins x=some u)(h:Q u s)
  (hn:x ≠ "__name__" := by decide) (hd:(x == ("__debug__" : Str))=false:=by decide):wpAny (model X.prog X.w) X.A (eval (.Name x pos) X.env) Q E s:=by
 obtain⟨mb,h1,h2⟩:=I.mod.blt
 exact Calls.Name_function_global I.ok.kind hg (Calls.loadGlobal_builtin (by rw[I.ok.glob];exact I.mod.glob.keeps I.bk) hm (by rw[I.ok.blt];exact h1.keeps I.bk) ((h2 x hn).trans hv) h) hd
theorem Uh {x:Str}{v:V}{u:Value}{pos:Pos}(hg:Gl X x)(hm:X.mg x=some u)(r:RelV v u)(hd:(x == ("__debug__" : Str))=false:=by decide):PE X (.Name x pos) (tC v) :=
 fun _ _ _ H _ I h=>vC I hg hm ⟨v,H,I,r,h⟩ hd
theorem tu {x:Str}{v:V}{u:Value}{pos:Pos}(hg:Gl X x)(hm:X.mg x=none)(hv:bootBuiltins x=some u)(r:RelV v u)(hn:x ≠ "__name__" := by decide)(hd:(x == ("__debug__" : Str))=false:=by decide):PE X (.Name x pos) (tC v) :=
 fun _ _ _ H _ I h=>pI I hg hm hv ⟨v,H,I,r,h⟩ hn hd
variable{a b:Expr}{ta tb:TE}{pos:Pos}
def PC (X:Cx)(op:CmpOp)(a b:Expr)(t:TE):Prop :=
 ∀ (pins:List (Addr×Obj)) (s:Shared) (σ:St) (H:Hp) (Q:VK),Inv X pins σ H s→t σ H Q →
  wpAny (model X.prog X.w) X.A (eval a X.env) (fun v s₁=>wpAny (model X.prog X.w) X.A (eval b X.env) (fun u s₂=>wpAny (model X.prog X.w) X.A (compareOp op v u) (EP X pins σ Q) X.xe s₂) X.xe s₁) X.xe s
def tB (t:TE):TT:=fun σ H Q=>t σ H fun x H1=>∃ c,x=.bl c∧Q c H1
theorem af2 {op:CmpOp}{t:TE}(h:PC X op a b t)(h1:behindInMarks op b=false:=by first|exact Zv _ (by decide) (by decide)|rfl):PT X (.Compare a [op] [b] pos) (tB t):=by
 intro pins s σ H Q I hw
 refine wpAny_isTrue_Compare1 (eE (h pins s σ H _ I hw) fun v s1 h1=>eE h1 fun u s2 h2=>eE h2 fun c s3 ⟨x,H1,I1,r1,q1⟩=>?_) h1
 obtain⟨d,rfl,q⟩:=q1
 cases r1
 exact wpAny_truthy_bool ⟨H1,I1,q⟩
theorem cR {e:Expr}{t:TE}(h:PE X e t)(he:∀ whole,isTrue e X.env whole=(do let v ←whole;standAt e.pos;holding [v] (truthy v)):=by intro _;rfl):PT X e (tB t):=by
 intro pins s σ H Q I hw
 refine isTrue_plain (eE (h pins s σ H _ I hw) fun v s1 ⟨x,H1,I1,r1,q1⟩=>?_) (he _)
 obtain⟨d,rfl,q⟩:=q1
 cases r1
 exact wpAny_truthy_bool ⟨H1,I1,q⟩
variable{tA tB':TT}{rest:List Expr}
def af3 (t u:TT):TT:=fun σ H Q=>t σ H fun c H1=>if c=true then u σ H1 Q else Q false H1
def tOr (t u:TT):TT:=fun σ H Q=>t σ H fun c H1=>if c=true then Q true H1 else u σ H1 Q
def af4 (t:TT):TT:=fun σ H Q=>t σ H fun c H1=>Q (!c) H1
theorem pw_and1 (ha:PT X a tA):PW X (.BoolOp .And [a] pos) tA:=by
 intro wh pins s σ H Q I h
 refine isTrue_and (eE (ha pins s σ H Q I h) fun c s1 e=>?_)
 cases c with
 | true=>exact isTrue_and_nil e
 | false=>exact e
theorem pw_or1 (ha:PT X a tA):PW X (.BoolOp .Or [a] pos) tA:=by
 intro wh pins s σ H Q I h
 refine isTrue_or (eE (ha pins s σ H Q I h) fun c s1 e=>?_)
 cases c with
 | false=>exact isTrue_or_nil e
 | true=>exact e
theorem pw_and (ha:PT X a tA)(hb:PW X (.BoolOp .And (b::rest) pos) tB'):PW X (.BoolOp .And (a::b::rest) pos) (af3 tA tB'):=by
 intro wh pins s σ H Q I h
 refine isTrue_and (eE (ha pins s σ H _ I h) fun c s1 ⟨H1,I1,q1⟩=>?_)
 cases c with
 | true=>exact hb wh pins s1 σ H1 Q I1 q1
 | false=>exact⟨H1,I1,q1⟩
theorem pw_or (ha:PT X a tA)(hb:PW X (.BoolOp .Or (b::rest) pos) tB'):PW X (.BoolOp .Or (a::b::rest) pos) (tOr tA tB'):=by
 intro wh pins s σ H Q I h
 refine isTrue_or (eE (ha pins s σ H _ I h) fun c s1 ⟨H1,I1,q1⟩=>?_)
 cases c with
 | true=>exact⟨H1,I1,q1⟩
 | false=>exact hb wh pins s1 σ H1 Q I1 q1
theorem dh (ha:PT X a tA):PT X (.UnaryOp .Not a pos) (af4 tA):=by
 intro pins s σ H Q I h
 exact isTrue_not (ha pins s σ H (fun c H1=>Q (!c) H1) I h)
def Zw (ta tb:TE):TE:=fun σ H Q=>ta σ H fun x H1=>∃ c,x=.bl c∧if c=true then tb σ H1 Q else Q (.bl false) H1
def Zx (ta:TE):TE:=fun σ H Q=>ta σ H fun x H1=>∃ c,x=.bl c∧Q (.bl (!c)) H1
theorem iT {op}{t:TE}(h:PE X a t):PE X (.BoolOp op [a] pos) t:=fun pins s σ H Q I hw=>BoolOp_one (h pins s σ H Q I hw)
theorem eF (ha:PE X a ta)(hb:PE X (.BoolOp .And (b::rest) pos) tb):PE X (.BoolOp .And (a::b::rest) pos) (Zw ta tb):=by
 intro pins s σ H Q I h
 refine BoolOp_and (eE (ha pins s σ H _ I h) fun v s1 ⟨x,H1,I1,r1,q1⟩=>?_)
 obtain⟨c,rfl,q1⟩:=q1
 cases r1
 refine wpAny_truthy_bool ?_
 cases c with
 | true=>exact hb pins s1 σ H1 Q I1 q1
 | false=>exact⟨.bl false,H1,I1,rfl,q1⟩
theorem KZ (ha:PE X a ta):PE X (.UnaryOp .Not a pos) (Zx ta):=by
 intro pins s σ H Q I h
 refine UnaryOp_ (eE (ha pins s σ H _ I h) fun v s1 ⟨x,H1,I1,r1,q1⟩=>?_)
 obtain⟨c,rfl,q1⟩:=q1
 cases r1
 exact not_of (wpAny_truthy_bool ⟨.bl (!c),H1,I1,rfl,q1⟩)
def tIf (t:TT)(ta tb:TE):TE:=fun σ H Q=>t σ H fun c H1=>if c=true then ta σ H1 Q else tb σ H1 Q
theorem Je {c:Expr}(hc:PT X c tA)(ha:PE X a ta)(hb:PE X b tb):PE X (.IfExp c a b pos) (tIf tA ta tb):=by
 intro pins s σ H Q I h
 refine wpAny_IfExp (eE (hc pins s σ H _ I h) fun d s1 ⟨H1,I1,q1⟩=>?_)
 cases d with
 | true=>exact ha pins s1 σ H1 Q I1 q1
 | false=>exact hb pins s1 σ H1 Q I1 q1
end
def aQ (K:PySem.W.Frag)(H:Hp)(a:Addr)(xs:List V):Prop :=
 Rd H a (.lst xs) ∨
  ∃ (o:Obj) (its:Array Value) (n:Nat),K.lookup a=some o∧o.cls=.type "list" ∧ o.dict=none∧o.data=.seq its n∧its.size≤sizeLine∧Vals xs its.toList
def cT (K:PySem.W.Frag)(H:Hp)(a:Addr)(xs:List V):Prop :=
 Rd H a (.tup xs) ∨
  ∃ (o:Obj) (its:Array Value) (n:Nat),K.lookup a=some o∧o.cls=.type "tuple" ∧ o.data=.seq its n∧its.size≤sizeLine∧Vals xs its.toList
def af5:Value→Option V
 | .none=>some .non
 | .bool b=>some (.bl b)
 | .int i _=>some (.int i)
 | .str x _=>some (.str x)
 | .bytes b _=>some (.Qn b)
 | .float b _=>some (.flt b)
 | .ref a=>some (.ref a)
 | .type n=>some (.ty n)
 | _=>none
theorem RelV.abs {x:V}{u:Value}(r:RelV x u):af5 u=some x:=by
 cases x with
 | non=>cases r;rfl
 | bl _=>cases r;rfl
 | int _=>obtain⟨t,rfl⟩:=r;rfl
 | str _=>obtain⟨t,rfl⟩:=r;rfl
 | Qn _=>obtain⟨t,rfl⟩:=r;rfl
 | flt _=>obtain⟨t,rfl⟩:=r;rfl
 | ref _=>cases r;rfl
 | ty _=>cases r;rfl
theorem RelV.inj {x y:V}{u:Value}(r:RelV x u)(q:RelV y u):x=y:=Option.some.inj (r.abs.symm.trans q.abs)
theorem Vals.inj:∀ {xs ys:List V} {us:List Value},Vals xs us→Vals ys us→xs=ys
 | _,_,_,.nil,.nil=>rfl
 | _,_,_,.cons r t,.cons r' t'=>by rw[r.inj r',Vals.inj t t']
section
variable{X:Cx}{pins:List (Addr×Obj)}{σ:St}{H:Hp}{s:Shared}{a:Addr}{xs ys:List V}
theorem aQ.of {K:PySem.W.Frag}(h:H a=some (.lst xs)):aQ K H a xs:=.inl (.inl h)
theorem cT.of {K:PySem.W.Frag}(h:H a=some (.tup xs)):cT K H a xs:=.inl (.inl h)
theorem Inv.list (I:Inv X pins σ H s)(h:aQ X.K H a xs):∃ its:List Value,Vals xs its∧PlainL s.heap a its.toArray∧xs.length≤sizeLine:=by
 rcases h with h|⟨o,its,n,hk,hc,hd,hs,hz,r⟩
 ·obtain⟨z,its,n,r,e⟩:=h.ok I.hok
  exact⟨its,r,⟨_,n,e,rfl,rfl,rfl⟩,z⟩
 ·refine⟨its.toList,r,⟨o,n,I.uc a o hk,hc,hd,by simpa using hs⟩,?_⟩
  have e:=r.length
  simp only[Array.length_toList] at e
  omega
theorem Inv.tuple (I:Inv X pins σ H s)(h:cT X.K H a xs):∃ its:List Value,Vals xs its∧IsTup s.heap a its.toArray∧xs.length≤sizeLine:=by
 rcases h with h|⟨o,its,n,hk,hc,hs,hz,r⟩
 ·obtain⟨z,its,r,p⟩:=h.ok I.hok
  exact⟨its,r,p,z⟩
 ·refine⟨its.toList,r,⟨o,I.uc a o hk,hc,n,by simpa using hs⟩,?_⟩
  have e:=r.length
  simp only[Array.length_toList] at e
  omega
theorem Inv.vD (I:Inv X pins σ H s)(h:aQ X.K H a xs)(h':aQ X.K H a ys):xs=ys:=by
 obtain⟨its,r,⟨o,n,e,_,_,d⟩,_⟩:=I.list h
 obtain⟨its',r',⟨o',n',e',_,_,d'⟩,_⟩:=I.list h'
 rw[e] at e';cases e'
 rw[d] at d'
 injection d' with d1 _
 have:its=its':=by simpa using congrArg Array.toList d1
 subst this
 exact r.inj r'
end
abbrev Cx.wish (X:Cx)(E:Value→Shared→Prop):Cx:={ X with xe:=E }
abbrev Cx.YS (X:Cx):Cx:=X.wish fun _ _=>False
theorem Cx.Ok.wish {X:Cx}(ok:X.Ok)(E:Value→Shared→Prop):(X.wish E).Ok :=
 ⟨ok.mod,ok.kind,ok.glob,ok.blt,ok.above,ok.inj,ok.has,ok.cab,ok.hd,ok.frames,ok.stk,ok.exf,ok.bs,ok.Qt,ok.Og,ok.Qu,ok.wO,ok.Wa⟩
theorem Cx.Ok.qP {X:Cx}{E:Value→Shared→Prop}(ok:(X.wish E).Ok):X.Ok :=
 ⟨ok.mod,ok.kind,ok.glob,ok.blt,ok.above,ok.inj,ok.has,ok.cab,ok.hd,ok.frames,ok.stk,ok.exf,ok.bs,ok.Qt,ok.Og,ok.Qu,ok.wO,ok.Wa⟩
section
variable{X:Cx}{pins:List (Addr×Obj)}{σ:St}{H:Hp}{s:Shared}{E:Value→Shared→Prop}
theorem Inv.wish (I:Inv X pins σ H s)(E:Value→Shared→Prop):Inv (X.wish E) pins σ H s:=⟨I.ok.wish E,I.os,I.bare,I.base,I.loc,I.cell,I.free,I.qp,I.pin,I.hok,I.len⟩
theorem Inv.qP (I:Inv (X.wish E) pins σ H s):Inv X pins σ H s:=⟨I.ok.qP,I.os,I.bare,I.base,I.loc,I.cell,I.free,I.qp,I.pin,I.hok,I.len⟩
theorem SP.qP {D:Ends}{f:Flow}{s':Shared}(h:SP (X.wish E) pins D f s'):SP X pins D f s':=by
 cases f with
 | next=>obtain⟨σ',H',I,q⟩:=h;exact⟨σ',H',I.qP,q⟩
 | brk=>obtain⟨σ',H',I,q⟩:=h;exact⟨σ',H',I.qP,q⟩
 | cont=>obtain⟨σ',H',I,q⟩:=h;exact⟨σ',H',I.qP,q⟩
 | ret u=>obtain⟨v,σ',H',I,r,q⟩:=h;exact⟨v,σ',H',I.qP,r,q⟩
theorem KY.YS {st:List Stmt}{t:TS}(h:KY X.YS st t):KY X st t:=fun pins s σ H D I hw =>
 wpAny_mono (h pins s σ H D (I.wish _) hw) (fun _ _ q=>q.qP) fun _ _ z=>False.elim z
end
section
variable{X:Cx}{st:Stmt}{rest:List Stmt}{t u:TS}{e:Expr}{te:TE}{pos:Pos}
def Zy:TS:=fun D σ H=>D.nx σ H
def Qw (t u:TS):TS:=fun D σ H=>t { D with nx:=u D } σ H
theorem bw:KY X [] Zy:=fun _ _ σ H _ I h=>wpAny_execs_nil ⟨σ,H,I,h⟩
theorem aB (h1:PS X st t)(h2:KY X rest u):KY X (st::rest) (Qw t u):=by
 intro pins s σ H D I h
 refine wpAny_execs_cons (eE (h1 pins s σ H { D with nx:=u D } I h) fun f s1 q=>?_)
 cases f with
 | next =>
  obtain⟨σ',H',I',q⟩:=q
  exact h2 pins s1 σ' H' D I' q
 | ret v=>exact q
 | brk=>exact q
 | cont=>exact q
theorem aD (h1:PS X st t):KY X [st] t:=by
 intro pins s σ H D I h
 refine wpAny_execs_cons (eE (h1 pins s σ H D I h) fun f s1 q=>?_)
 cases f with
 | next=>exact wpAny_execs_nil q
 | ret v=>exact q
 | brk=>exact q
 | cont=>exact q
theorem Inv.quiet {pins:List (Addr×Obj)}{σ:St}{H:Hp}{s:Shared}(I:Inv X pins σ H s):interactive X.env=false:=by simp[interactive,I.ok.kind]
def Zz (te:TE):TS:=fun D σ H=>te σ H fun _ H1=>D.nx σ H1
theorem iU (he:PE X e te)(hs:swapsWith e none pos.line X.env=pure false:=by rfl):PS X (.Expr e pos) (Zz te):=by
 intro pins s σ H D I h
 exact wpAny_Expr_any (eE (he pins s σ H _ I h) fun v s1 ⟨x,H1,I1,r1,q1⟩=>⟨σ,H1,I1,q1⟩) I.quiet hs
def af6 (te:TE):TS:=fun D σ H=>te σ H D.rt
theorem aN (he:PE X e te):PS X (.Return (some e) pos) (af6 te):=by
 intro pins s σ H D I h
 exact wpAny_Return_some (eE (he pins s σ H _ I h) fun v s1 ⟨x,H1,I1,r1,q1⟩=>⟨x,σ,H1,I1,r1,q1⟩)
def af7 (c:TT)(t u:TS):TS:=fun D σ H=>c σ H fun b H1=>if b=true then t D σ H1 else u D σ H1
theorem bY {c:Expr}{a b:List Stmt}{tc:TT}(hc:PT X c tc)(ha:KY X a t)(hb:KY X b u):PS X (.If c a b pos) (af7 tc t u):=by
 intro pins s σ H D I h
 refine wpAny_If (eE (hc pins s σ H _ I h) fun d s1 ⟨H1,I1,q1⟩=>?_)
 cases d with
 | true=>exact ha pins s1 σ H1 D I1 q1
 | false=>exact hb pins s1 σ H1 D I1 q1
def Xb:TS:=fun _ _ _=>False
theorem Ez {sts:List Stmt}:KY X sts Xb:=fun _ _ _ _ _ _ h=>h.elim
end
abbrev TG:=V→St→Hp→(St→Hp→Prop)→Prop
abbrev Qx:=List V→St→Hp→(St→Hp→Prop)→Prop
def PG (X:Cx)(target:Expr)(t:TG):Prop :=
 ∀ (pins:List (Addr×Obj)) (s:Shared) (σ:St) (H:Hp) (v:V) (u:Value) (Q:St→Hp→Prop),Inv X pins σ H s→RelV v u→t v σ H Q →
  wpAny (model X.prog X.w) X.A (assign target X.env u) (fun _ s'=>∃ σ' H',Inv X pins σ' H' s'∧Q σ' H') X.xe s
def ZC (X:Cx)(ts:List Expr)(t:Qx):Prop :=
 ∀ (pins:List (Addr×Obj)) (s:Shared) (σ:St) (H:Hp) (vs:List V) (us:List Value) (Q:St→Hp→Prop),Inv X pins σ H s→Vals vs us→t vs σ H Q →
  wpAny (model X.prog X.w) X.A (assignInOrder ((assignEach ts X.env).map (·.2)) us) (fun _ s'=>∃ σ' H',Inv X pins σ' H' s'∧Q σ' H') X.xe s
abbrev Xc:=V→V→V→Hp→(Hp→Prop)→Prop
def ZD (X:Cx)(t:Xc):Prop :=
 ∀ (pins:List (Addr×Obj)) (s:Shared) (σ:St) (H:Hp) (o i v:V) (ov iv u:Value) (Q:Hp→Prop),Inv X pins σ H s→RelV o ov→RelV i iv→RelV v u→t o i v H Q →
  wpAny (model X.prog X.w) X.A (setItem ov iv u) (fun _ s'=>∃ H',Inv X pins σ H' s'∧Q H') X.xe s
section
variable{X:Cx}{pos:Pos}
def yg (i:Nat):TG:=fun v σ H Q=>Q (σ.set i (some v)) H
theorem aZ {i:Nat}{x:Str}(hN:X.N.Nodup)(hi:X.N[i]?=some x)(hx:Loc X.env.scope x)(hf:X.fn x=true∨X.env.scope.names.lookup x=some .local:=by first|exact .inl rfl|exact .inr rfl|assumption):PG X (.Name x pos) (yg i):=by
 intro pins s σ H v u Q I r h
 exact wpAny_assign_Name (vq I hN hi hx r (fun s' I'=>⟨_,H,I',h⟩) hf)
def ZF:Qx:=fun vs σ H Q=>vs=[]∧Q σ H
def Wb (t:TG)(u:Qx):Qx:=fun vs σ H Q=>∃ v r,vs=v::r∧t v σ H fun σ' H'=>u r σ' H' Q
theorem gk:ZC X [] ZF:=by
 intro pins s σ H vs us Q I r h
 obtain⟨e,h⟩:=h
 subst e
 cases r
 exact assignInOrder_nil ⟨σ,H,I,h⟩
theorem bO {e:Expr}{es:List Expr}{t:TG}{u:Qx}(h1:PG X e t)(h2:ZC X es u)
  (hs:(assignEach (e::es) X.env).map (·.2)=assign e X.env::(assignEach es X.env).map (·.2):=by rfl):ZC X (e::es) (Wb t u):=by
 intro pins s σ H vs us Q I r h
 obtain⟨v,vr,e1,h⟩:=h
 subst e1
 cases r with
 | cons r rr =>
  rw[hs]
  refine assignInOrder_cons (eE (h1 pins s σ H _ _ _ I r h) fun _ s1 ⟨σ1,H1,I1,q1⟩=>?_)
  exact h2 pins s1 σ1 H1 _ _ Q I1 rr q1
def Xd (K:PySem.W.Frag)(n:Nat)(t:Qx):TG:=fun v σ H Q=>∃ a xs,v=.ref a∧cT K H a xs∧xs.length=n∧t xs σ H Q
theorem Xe {es:List Expr}{k:Nat}{t:Qx}{n:Nat}(hc:X.calm=true)(h:ZC X es t)
  (hn:(assignEach es X.env).length=n:=by rfl) (hst:(assignEach es X.env).findIdx? (·.1)=none:=by rfl):PG X (.Tuple es k pos) (Xd X.K n t):=by
 intro pins s σ H v u Q I r hw
 obtain⟨a,xs,e1,hq,hl,hw⟩:=hw
 subst e1
 cases r
 obtain⟨its,rv,ht,hz⟩:=I.tuple hq
 refine assign_Tuple_tuple (I.ok.hd hc) ht (by simp[hn,←hl,rv.length]) hst fun h' hx=>?_
 have I1:Inv X pins σ H { s with heap:=h' }:=I.kept (t':=s.toks) fun b o e=>hx b o (Nat.ne_of_lt (Heap.lt_size e)) e
 exact h pins _ σ H xs _ Q I1 (by simpa using rv) hw
def af8 (to ti:TE)(t:Xc):TG:=fun v σ H Q=>to σ H fun o H1=>ti σ H1 fun i H2=>t o i v H2 fun H3=>Q σ H3
theorem Qy {o i:Expr}{to ti:TE}{t:Xc}(ho:PE X o to)(hi:PE X i ti)(hs:ZD X t)
  (ha:∀ v,assign (.Subscript o i pos) X.env v=(do
    let ov ←holding [v] (eval o X.env)
    let iv ←holding [v,ov] (eval i X.env)
    standAt pos
    holding [v,ov,iv] (setItem ov iv v)
    release [v,ov,iv] []):=by intro _;rfl):PG X (.Subscript o i pos) (af8 to ti t):=by
 intro pins s σ H v u Q I r h
 rw[ha]
 refine wpAny_bind (wpAny_holding (eE (ho pins s σ H _ I h) fun ov s1 ⟨x,H1,I1,r1,q1⟩=>?_))
 refine wpAny_bind (wpAny_holding (eE (hi pins s1 σ H1 _ I1 q1) fun iv s2 ⟨y,H2,I2,r2,q2⟩=>?_))
 refine wpAny_bind (wpAny_standAt (wpAny_bind (wpAny_holding (eE (hs pins s2 σ H2 x y v ov iv u _ I2 r1 r2 r q2) fun _ s3 ⟨H3,I3,q3⟩=>?_))))
 exact wpAny_release ⟨σ,H3,I3,q3⟩
def Oh (te:TE)(g:TG):TS:=fun D σ H=>te σ H fun x H1=>g x σ H1 D.nx
theorem Qz {tg e:Expr}{te:TE}{g:TG}(he:PE X e te)(hg:PG X tg g)(hs:swapsWithSole [tg] e pos.line X.env=pure false:=by rfl)(hw:swappedStores [tg] e X.env=pure none:=by rfl)
  (h1:(assignEach [tg] X.env).map (·.2)=[assign tg X.env]:=by rfl):PS X (.Assign [tg] e pos) (Oh te g):=by
 intro pins s σ H D I h
 refine wpAny_Assign_stores (eE (he pins s σ H _ I h) fun v s1 ⟨x,H1,I1,r1,q1⟩=>?_) hs hw
 rw[h1]
 exact eE (hg pins s1 σ H1 x v _ I1 r1 q1) fun _ s2 q=>q
theorem aW {i:Nat}{x:Str}{e:Expr}{te:TE}{pos':Pos}(hN:X.N.Nodup)(hi:X.N[i]?=some x)(hx:Loc X.env.scope x)(he:PE X e te)(hs:swapsWith e (some (.Name x pos')) pos.line X.env=pure false:=by rfl)(hf:X.fn x=true∨X.env.scope.names.lookup x=some .local:=by first|exact .inl rfl|exact .inr rfl|assumption):
  PS X (.Assign [.Name x pos'] e pos) (Oh te (yg i)):=by
 intro pins s σ H D I h
 refine wpAny_Assign_Name (eE (he pins s σ H _ I h) fun v s1 ⟨y,H1,I1,r1,q1⟩=>?_) hs
 exact vq I1 hN hi hx r1 (fun s2 I2=>⟨_,H1,I2,q1⟩) hf
def af9 (i j:Nat)(ta:TA):TS:=fun D σ H=>ta σ H fun vs H1=>∃ v w,vs=[v,w]∧D.nx ((σ.set i (some v)).set j (some w)) H1
theorem z6 {i j:Nat}{x y:Str}{a b:Expr}{ta:TA}{px py pt:Pos}{kt k2 pt2}(hc:X.calm=true)(hN:X.N.Nodup)(hi:X.N[i]?=some x)(hj:X.N[j]?=some y)(hij:i≠j)
  (hx:X.env.scope.names.lookup x=some .local) (hy:X.env.scope.names.lookup y=some .local) (ha:PA X [a,b] ta)
  (hw:swappedStores [.Tuple [.Name x px,.Name y py] kt pt] (.Tuple [a,b] k2 pt2) X.env=pure (some [x,y]))
  (hs:swapsWithSole [.Tuple [.Name x px,.Name y py] kt pt] (.Tuple [a,b] k2 pt2) pos.line X.env=pure false:=by rfl) :
  PS X (.Assign [.Tuple [.Name x px,.Name y py] kt pt] (.Tuple [a,b] k2 pt2) pos) (af9 i j ta):=by
 intro pins s σ H D I h
 rw[exec_Assign_arm]
 refine wpAny_bind (wpAny_standAt ?_)
 rw[hs]
 refine wpAny_bind (wpAny_pure ?_)
 rw[if_neg (by decide)]
 refine wpAny_bind (Tuple_ (eE (ha _ pins s σ H _ I h) fun us s1 ⟨vs,H1,I1,r1,q1⟩=>?_))
 obtain⟨v,w,e1,q1⟩:=q1
 subst e1
 obtain⟨u1,u2,rfl,rv,T4⟩:∃ u1 u2,us=[u1,u2]∧RelV v u1∧RelV w u2:=by
  cases r1 with
  | cons p q =>
   cases q with
   | cons p' q' =>
    cases q'
    exact⟨_,_,rfl,p,p'⟩
 refine wpAny_newObj_type ?_ (by show 2≤sizeLine;decide)
 have I2:Inv X pins σ H1 { s1 with heap:=s1.heap.push { cls:=.type "tuple",data:=.seq [u1,u2].toArray } }:=I1.kept (t':=s1.toks) fun b o e=>Heap.get?_push_of_some _ e
 rw[hw]
 refine wpAny_bind (wpAny_pure ?_)
 show wpAny (model X.prog X.w) X.A (do rule "assign.swapped-stores";let items ←unpackItems (.ref s1.heap.objs.size) 2 none;assignInOrder [fun v=>bindName X.env y v,fun v=>bindName X.env x v] items.reverse;pure Flow.next) _ _ _
 refine wpAny_bind (wpAny_rule (wpAny_bind (unpackItems_tuple (items:=#[u1,u2]) (I.ok.hd hc) (IsTup.new s1.heap _) fun h' hx'=>?_)))
 have I3:=I2.kept (h':=h') (t':=s1.toks) fun b o e=>hx' b o (Nat.ne_of_lt (Heap.lt_size e)) e
 show wpAny _ _ (assignInOrder [fun v=>bindName X.env y v,fun v=>bindName X.env x v] [u2,u1] >>= fun _=>pure Flow.next) _ _ _
 refine wpAny_bind (assignInOrder_cons (wpAny_bindName (vq I3 hN hj (.inl hy) T4 (fun s2 I4=>?_) (.inr hy))))
 refine assignInOrder_cons (wpAny_bindName (vq I4 hN hi (.inl hx) rv (fun s3 I5=>assignInOrder_nil (wpAny_pure ?_)) (.inr hx)))
 rw[List.set_comm _ _ (Ne.symm hij)] at I5
 exact⟨_,H1,I5,q1⟩
end
section
variable{X:Cx}{pos:Pos}
def QB (c:TT)(tb:TS):TS:=fun D σ H=>∃ W:Nat→St→Hp→Prop,(∃ m,W m σ H)∧∀ m σ H,W m σ H →
 c σ H fun b H1=>if b=true then ∃ N:St→Hp→Prop,(∀ σ' H',N σ' H'→∃ m',m'<m∧W m' σ' H')∧tb { D with nx:=N,ct:=N,bk:=D.nx } σ H1 else D.nx σ H1
theorem vG {c:Expr}{body:List Stmt}{tc:TT}{tb:TS}(hp:PassesOwn (model X.prog X.w) X.A X.env X.xe)(hc:PT X c tc)(hb:KY X body tb):PS X (.While c body [] pos) (QB tc tb):=by
 intro pins s σ H D I h
 obtain⟨W,⟨m0,w0⟩,turn⟩:=h
 refine wpAny_While (codeAny_whileLoop (fun n s'=>∃ σ' H',Inv X pins σ' H' s'∧W n σ' H') ?_ m0 ⟨σ,H,I,w0⟩)
 rintro n s1 ⟨σ1,H1,I1,w1⟩
 refine wpAny_passesOwn hp (eE (hc pins s1 σ1 H1 _ I1 (turn n σ1 H1 w1)) fun b s2 ⟨H2,I2,q2⟩=>?_)
 cases b with
 | true =>
  obtain⟨N,hN,q2⟩:=q2
  rw[if_pos rfl]
  refine wpAny_passesOwn hp (eE (hb pins s2 σ1 H2 _ I2 q2) fun f s3 q3=>?_)
  cases f with
  | next =>
   obtain⟨σ3,H3,I3,n3⟩:=q3
   obtain⟨m',hm,w3⟩:=hN σ3 H3 n3
   exact⟨m',hm,σ3,H3,I3,w3⟩
  | cont =>
   obtain⟨σ3,H3,I3,n3⟩:=q3
   obtain⟨m',hm,w3⟩:=hN σ3 H3 n3
   exact⟨m',hm,σ3,H3,I3,w3⟩
  | brk=>exact q3
  | ret v=>exact q3
 | false =>
  rw[if_neg Bool.false_ne_true]
  exact wpAny_execs_nil ⟨σ1,H2,I2,q2⟩
end
structure It where
 go:Nat→Hp→Prop
 Ui:Nat→Hp→V→Hp→Prop
 stop:Nat→Hp→Prop
def wQ (X:Cx)(pins:List (Addr×Obj))(H:Hp)(b:Addr):Prop :=
 H b=none∧b≠X.env.locals∧b∉X.fs∧(b∈X.ex∨X.s₀.heap.objs.size≤b)∧(∀ x c,X.env.cells.lookup x=some c→c≠b)∧∀ p∈X.pn++pins,p.1≠b
theorem Inv.QC {X:Cx}{pins:List (Addr×Obj)}{σ:St}{H H':Hp}{s:Shared}{b:Addr}(I:Inv X pins σ H s)(hb:s.heap.objs.size≤b)(hn:H' b=none):wQ X pins H' b:=by
 refine⟨hn,Nat.ne_of_gt (Nat.lt_of_lt_of_le I.lt hb),I.W9 hb,.inr (Nat.le_trans I.sz hb),fun x c e z=>?_,fun p hp z=>?_⟩
 ·obtain⟨v,q⟩:=I.cell x c e
  exact absurd (Nat.lt_of_lt_of_le q.lt (by rw[z];exact hb)) (Nat.lt_irrefl _)
 ·exact absurd (Nat.lt_of_lt_of_le (Heap.lt_size (I.pin p hp).1) (by rw[z];exact hb)) (Nat.lt_irrefl _)
structure Turn (P:Program)(w:World)(K:PySem.W.Frag)(tg:Expr)(J:It)(fp:List Addr)(it:Addr)(tn:Nat→Heap→Prop):Prop where
 mem:it∈fp
 obj:∀ i h,tn i h→∀ b∈fp,∃ o,h.get? b=some o∧∀ v,o.data≠.cell v
 keep:∀ i h h',tn i h→(∀ b∈fp,∀ o,h.get? b=some o→h'.get? b=some o)→tn i h'
 item:∀ (X:Cx),X.prog=P→X.w=w→X.K=K→X.calm=true→∀ (i:Nat) (pins:List (Addr×Obj)) (s:Shared) (σ:St) (H:Hp) (E:Value→Shared→Prop),Inv X pins σ H s→(∀ b∈fp,wQ X pins H b)→tn i s.heap→J.go i H →
  wpAny (model P w) X.A (pyNext (.ref it)) (fun r s1=>∃ u,r=some u ∧
   wpAny (model P w) X.A (letOwnedTupleGo tg (.ref it) u) (fun _ s2=>∃ x H',Inv X pins σ H' s2∧RelV x u∧J.Ui i H x H'∧tn (i+1) s2.heap∧∀ b∈fp,H' b=none) E s1) E s
 done:∀ (X:Cx),X.prog=P→X.w=w→X.K=K→X.calm=true→∀ (i:Nat) (pins:List (Addr×Obj)) (s:Shared) (σ:St) (H:Hp) (E:Value→Shared→Prop),Inv X pins σ H s→(∀ b∈fp,wQ X pins H b)→tn i s.heap→J.stop i H →
  wpAny (model P w) X.A (pyNext (.ref it)) (fun r s1=>r=none∧Inv X pins σ H s1) E s
 self:∀ (A:Around) (i:Nat) (s:Shared) (Q:Value→Shared→Prop) (E:Value→Shared→Prop),tn i s.heap→Q (.ref it) s→wpAny (model P w) A (pyIter (.ref it)) Q E s
abbrev TI:=St→Hp→(It→Hp→Prop)→Prop
def PIE (X:Cx)(pins:List (Addr×Obj))(σ:St)(tg:Expr)(R:It→Hp→Prop)(itv:Value)(s2:Shared):Prop :=
 ∃ (it:Addr) (fp:List Addr) (tn:Nat→Heap→Prop) (J:It) (H':Hp),itv=.ref it∧Inv X pins σ H' s2∧Turn X.prog X.w X.K tg J fp it tn∧tn 0 s2.heap∧(∀ b∈fp,wQ X pins H' b)∧R J H'
def PI (X:Cx)(tg iter:Expr)(wi:TI):Prop :=
 ∀ (pins:List (Addr×Obj)) (s:Shared) (σ:St) (H:Hp) (R:It→Hp→Prop),Inv X pins σ H s→wi σ H R →
  wpAny (model X.prog X.w) X.A (eval iter X.env) (fun v s1=>wpAny (model X.prog X.w) X.A (pyIter v) (PIE X pins σ tg R) X.xe s1) X.xe s
theorem Wc {M:Model}{A:Around}{E:Value→Shared→Prop}{s:Shared}{tg:Expr}{it:Addr}{u:Value}{o:Obj}{n:String}{vs:Array Value}{Q:Unit→Shared→Prop}(ho:s.heap.get? it=some o)(hc:o.cls=.type n)(hd:o.data=.fields vs)
  (hn:["enumerate", "zip", "dict_itemiterator", "dict_reverseitemiterator", "odict_iterator", "itertools.zip_longest", "itertools.pairwise"].contains n=false) (hQ:Q () s):wpAny M A (letOwnedTupleGo tg (.ref it) u) Q E s:=by
 unfold letOwnedTupleGo
 cases tg<;>first
  | exact wpAny_pure hQ
  | (cases u<;>first
      | exact wpAny_pure hQ
      | (refine wpAny_bind (wpAny_load ho ?_)
         rw[hc,hd]
         show wpAny M A (if (["enumerate", "zip", "dict_itemiterator", "dict_reverseitemiterator", "odict_iterator", "itertools.zip_longest", "itertools.pairwise"].contains n && vs[0]? == some (rawInt _))=true then _ else _) Q E s
         rw[if_neg (by intro h;rw[hn,Bool.false_and] at h;cases h)]
         exact wpAny_pure hQ))
def YT (K:PySem.W.Frag)(a:Addr):It :=
 ⟨fun i H=>∃ xs x,aQ K H a xs∧xs[i]?=some x,fun i H x H'=>H'=H∧∀ xs,aQ K H a xs→xs[i]?=some x,fun i H=>∃ xs,aQ K H a xs∧xs.length≤i⟩
def Xf (lo:Int)(n:Nat):It:=⟨fun i _=>i<n,fun i H x H'=>H'=H∧x=.int (lo+i),fun i _=>n≤i⟩
theorem Oi {P:Program}{w:World}{K:PySem.W.Frag}{tg:Expr}(a it:Addr):Turn P w K tg (YT K a) [it] it (fun i h=>h.IsListIter it a i) where
 mem:=by simp
 obj:=fun i h st b hb=>by
  have e:b=it:=by simpa using hb
  subst e
  obtain⟨o,e,c,d⟩:=st
  exact⟨o,e,fun v z=>by rw[d] at z;cases z⟩
 keep:=fun i h h' st k=>st.at fun o e=>k it (by simp) o e
 item:=by
  intro X hP hw hK hc i pins s σ H E I hf st hg
  subst hP hw hK
  obtain⟨xs,x,hq,hx⟩:=hg
  obtain⟨its,rv,p,hz⟩:=I.list hq
  obtain⟨u,hu,ru⟩:=rv.get hx
  obtain⟨f0,f1,f2,f3,f4,f5⟩:=hf it (by simp)
  refine wpAny_pyNext_list_item st p.isList (x:=u) (by simpa using hu) fun h' st' sb=>?_
  have I1:Inv X pins σ H { s with heap:=h' }:=I.turned (t':=s.toks) (fun b o hb e=>(sb.2 b hb).trans e) f0 f1 f3 f4 f5
  obtain⟨o,e,c,d⟩:=id st'
  exact⟨u,rfl,Wc (s:={ s with heap:=h' }) e c d (by decide) ⟨x,H,I1,ru,⟨rfl,fun ys hy=>by rw[I.vD hy hq];exact hx⟩,st',fun b hb=>(hf b hb).1⟩⟩
 done:=by
  intro X hP hw hK hc i pins s σ H E I hf st hg
  subst hP hw hK
  obtain⟨xs,hq,hx⟩:=hg
  obtain⟨its,rv,p,hz⟩:=I.list hq
  obtain⟨f0,f1,f2,f3,f4,f5⟩:=hf it (by simp)
  have hl:=rv.length
  exact wpAny_pyNext_list_end (I.ok.hd hc) st p.isList (by simp;omega) fun h' eb=>⟨rfl,I.turned (t':=s.toks) (fun b o hb e=>eb b o hb e) f0 f1 f3 f4 f5⟩
 self:=fun _ _ _ _ _ st h=>wpAny_pyIter_listiter st h
theorem K1 {P:Program}{w:World}{K:PySem.W.Frag}{tg:Expr}(it:Addr)(lo:Int)(n:Nat):Turn P w K tg (Xf lo n) [it] it (fun i h=>IsRangeIter h it (lo+(i:Nat)*1) ((n:Int)-(i:Nat)) 1) where
 mem:=by simp
 obj:=fun i h st b hb=>by
  have e:b=it:=by simpa using hb
  subst e
  exact⟨_,st,fun v z=>by
   have z':Data.fields _=Data.cell v:=z
   cases z'⟩
 keep:=fun i h h' st k=>k it (by simp) _ st
 item:=by
  intro X hP hw hK hc i pins s σ H E I hf st hg
  subst hP hw hK
  obtain⟨f0,f1,f2,f3,f4,f5⟩:=hf it (by simp)
  have W:=Walks.range (prog:=X.prog) (w:=X.w) (I.ok.hd hc) it lo 1 n
  refine W.item i s _ _ hg st fun v h' tk hv st' kk=>?_
  obtain⟨t,rfl⟩:=hv
  have I1:Inv X pins σ H { s with heap:=h',toks:=tk }:=I.turned (fun b o hb e=>kk b o (by simpa using hb) e) f0 f1 f3 f4 f5
  refine⟨_,rfl,Wc (s:={ s with heap:=h',toks:=tk }) (n := "range_iterator") st' rfl rfl (by decide) ⟨.int (lo+i),H,I1,⟨t,?_⟩,⟨rfl,rfl⟩,st',fun b hb=>(hf b hb).1⟩⟩
  rw[Int.mul_one]
 done:=by
  intro X hP hw hK hc i pins s σ H E I hf st hg
  subst hP hw hK
  obtain⟨f0,f1,f2,f3,f4,f5⟩:=hf it (by simp)
  exact wpAny_pyNext_range_end (I.ok.hd hc) st (by have:n≤i:=hg;omega) fun h' eb=>⟨rfl,I.turned (t':=s.toks) (fun b o hb e=>eb b o hb e) f0 f1 f3 f4 f5⟩
 self:=fun _ _ _ _ _ st h=>wpAny_pyIter_rangeiter st h
section
variable{X:Cx}{tg:Expr}
def Wd (K:PySem.W.Frag)(tl:TE):TI:=fun σ H R=>tl σ H fun x H1=>∃ a,x=.ref a∧(∃ xs,aQ K H1 a xs)∧R (YT K a) H1
theorem Uj {l:Expr}{tl:TE}(hl:PE X l tl):PI X tg l (Wd X.K tl):=by
 intro pins s σ H R I h
 refine eE (hl pins s σ H _ I h) fun v s1 ⟨x,H1,I1,r1,q1⟩=>?_
 obtain⟨a,e,⟨xs,hq⟩,q⟩:=q1
 subst e
 cases r1
 obtain⟨its,rv,p,hz⟩:=I1.list hq
 refine wpAny_pyIter_list p.isList ?_
 refine⟨s1.heap.objs.size,[s1.heap.objs.size],_,_,H1,rfl,I1.kept (t':=s1.toks) fun b o e=>Heap.get?_push_of_some _ e,Oi a _,⟨_,Heap.get?_push_size _ rfl,rfl,rfl⟩,fun b hb=>?_,q⟩
 have e:b=s1.heap.objs.size:=by simpa using hb
 subst e
 exact I1.QC (Nat.le_refl _) (I1.hok.fresh (Nat.le_refl _))
theorem QD {pins:List (Addr×Obj)}{σ:St}{H:Hp}{s:Shared}{R:It→Hp→Prop}{E:Value→Shared→Prop}{lo hi:Int}{t u v:Tok}{tk:Nat}(I:Inv X pins σ H s)(h1 : -(2 ^ 62)≤lo)(h2:lo<2 ^ 62)(h3 : -(2 ^ 62)≤hi)(h4:hi<2 ^ 62)
  (q:R (Xf lo (hi-lo).toNat) H):wpAny (model X.prog X.w) X.A (pyIter (.ref s.heap.objs.size)) (PIE X pins σ tg R) E { s with heap:=s.heap.push { cls:=.type "range",data:=.fields #[.int lo t,.int hi u,.int 1 v] },toks:=tk }:=by
 refine wpAny_pyIter_range (IsRange.new ..) (small_one h1 h2 h3 h4) ?_
 have I1:Inv X pins σ H { s with heap:=s.heap.push { cls:=.type "range",data:=.fields #[.int lo t,.int hi u,.int 1 v] },toks:=tk }:=I.kept fun b o e=>Heap.get?_push_of_some _ e
 refine⟨(s.heap.push { cls:=.type "range",data:=.fields #[.int lo t,.int hi u,.int 1 v] }).objs.size,[(s.heap.push { cls:=.type "range",data:=.fields #[.int lo t,.int hi u,.int 1 v] }).objs.size],_,_,H,rfl,
  I1.kept (t':=tk) fun b o e=>Heap.get?_push_of_some _ e,K1 _ lo (hi-lo).toNat,?_,fun b hb=>?_,q⟩
 ·have e1:lo+((0:Nat):Int)*1=lo:=by simp
  have e2:(((hi-lo).toNat:Nat):Int)-((0:Nat):Int)=Builtin.Range.rangeSize lo hi 1:=by rw[rangeSize_one];split<;>omega
  show IsRangeIter _ _ (lo+((0:Nat):Int)*1) ((((hi-lo).toNat:Nat):Int)-((0:Nat):Int)) 1
  rw[e1,e2]
  exact Heap.get?_push_size _ rfl
 ·have e:b=(s.heap.push { cls:=.type "range",data:=.fields #[.int lo t,.int hi u,.int 1 v] }).objs.size:=by simpa using hb
  subst e
  exact I1.QC (Nat.le_refl _) (I1.hok.fresh (Nat.le_refl _))
def ZG (ta:TA):TI:=fun σ H R=>ta σ H fun vs H1=>∃ j:Int,vs=[.int j]∧-(2 ^ 62)≤j∧j<2 ^ 62∧R (Xf 0 j.toNat) H1
theorem wR {a:Expr}{ta:TA}{p pos:Pos}(hg:Gl X "range")(hm:X.mg "range" = none)(ha:PA X [a] ta)(hs:starEach [a] X.env=[(false,eval a X.env)]:=by rfl):PI X tg (.Call (.Name "range" p) [a] [] pos) (ZG ta):=by
 intro pins s σ H R I h
 refine Call_ (pI I hg hm boot_range (PyProof.Rows.callWith_type1 (eE (ha pos pins s σ H _ I h) fun us s1 ⟨vs,H1,I1,r1,q1⟩=>?_) hs rfl))
 obtain⟨j,e,q1,q2,q⟩:=q1
 subst e
 cases r1 with
 | cons r rr =>
  cases rr
  obtain⟨t,rfl⟩:=r
  exact call_range_1 (QD I1 (by omega) (by omega) q1 q2 (by simpa using q))
def agb (wi:TI)(g:TG)(tb:TS):TS:=fun D σ H=>wi σ H fun J H1=>∃ W:Nat→Nat→St→Hp→Prop,(∃ m,W 0 m σ H1)∧∀ i m σ H,W i m σ H →
 (J.stop i H∧D.nx σ H)∨(J.go i H∧∃ N:St→Hp→Prop,(∀ σ' H',N σ' H'→∃ m',m'<m∧W (i+1) m' σ' H')∧∀ x H',J.Ui i H x H'→g x σ H' fun σ2 H2=>tb { D with nx:=N,ct:=N,bk:=D.nx } σ2 H2)
def z7 (fp:List Addr)(h:Heap):List (Addr×Obj):=fp.filterMap fun b=>(h.get? b).map fun o=>(b,o)
theorem uG {fp:List Addr}{h:Heap}{b:Addr}{o:Obj}(hb:b∈fp)(e:h.get? b=some o):(b,o)∈z7 fp h:=List.mem_filterMap.mpr ⟨b,hb,by rw[e];rfl⟩
theorem Oj {fp:List Addr}{h:Heap}{p:Addr×Obj}(hp:p∈z7 fp h):p.1∈fp∧h.get? p.1=some p.2:=by
 obtain⟨b,hb,e⟩:=List.mem_filterMap.mp hp
 cases q:h.get? b with
 | none=>rw[q] at e;cases e
 | some o =>
  rw[q] at e
  have e':(b,o)=p:=Option.some.inj e
  subst e'
  exact⟨hb,q⟩
theorem Inv.pinned {pins:List (Addr×Obj)}{σ:St}{H:Hp}{s:Shared}{fp:List Addr}(I:Inv X pins σ H s)(hf:∀ b∈fp,wQ X pins H b)(ho:∀ b∈fp,∃ o,s.heap.get? b=some o∧∀ v,o.data≠.cell v):Inv X (pins++z7 fp s.heap) σ H s :=
 I.sY fun p hp=>(List.mem_append.mp hp).elim (fun z=>I.pin p (List.mem_append_right _ z)) fun z=>by
  obtain⟨hb,e⟩:=Oj z
  obtain⟨f0,f1,f2,_⟩:=hf p.1 hb
  obtain⟨o,e',d⟩:=ho p.1 hb
  rw[e] at e';cases e'
  exact⟨e,f0,f1,f2,d⟩
theorem Inv.z8 {pins pl:List (Addr×Obj)}{σ:St}{H:Hp}{s:Shared}(I:Inv X (pins++pl) σ H s):Inv X pins σ H s:=I.sY fun p hp=>I.pin p (List.mem_append_right _ (List.mem_append_left _ hp))
theorem jP {iter:Expr}{body:List Stmt}{wi:TI}{g:TG}{tb:TS}{pos:Pos}(hp:PassesOwn (model X.prog X.w) X.A X.env X.xe)(hc:X.calm=true)(hi:PI X tg iter wi)(hg:PG X tg g)(hb:KY X body tb)
  (hs:∀ x,foldedSetIterable iter X.env x=pure x:=by intro _;rfl):PS X (.For tg iter body [] pos) (agb wi g tb):=by
 intro pins s σ H D I h
 refine wpAny_For (eE (hi pins s σ H _ I h) fun v s1 h1=>eE h1 fun itv s2 h2=>?_) hs
 obtain⟨it,fp,tn,J,H2,e,I2,T,st2,f2,W,⟨m0,w0⟩,turn⟩:=h2
 subst e
 have stat:∀ {H':Hp},(∀ b∈fp,H' b=none)→∀ b∈fp,wQ X pins H' b:=fun hn b hb=>⟨hn b hb,(f2 b hb).2⟩
 refine codeAny_forLoop_any (fun n s'=>∃ i σ' H',Inv X pins σ' H' s'∧tn i s'.heap∧(∀ b∈fp,H' b=none)∧W i n σ' H') ?_ m0 ⟨0,σ,H2,I2,st2,fun b hb=>(f2 b hb).1,w0⟩
 rintro n s3 ⟨i,σ3,H3,I3,st3,fr3,w3⟩
 rcases turn i n σ3 H3 w3 with⟨stop,qn⟩|⟨go,N,hN,step⟩
 ·refine wpAny_passesOwn hp (eE (T.done X rfl rfl rfl hc i pins s3 σ3 H3 X.xe I3 (stat fr3) st3 stop) fun r s4 ⟨hr,I4⟩=>?_)
  subst hr
  exact wpAny_execs_nil ⟨σ3,H3,I4,qn⟩
 ·refine wpAny_passesOwn hp (eE (T.item X rfl rfl rfl hc i pins s3 σ3 H3 X.xe I3 (stat fr3) st3 go) fun r s4 ⟨u,hr,h4⟩=>?_)
  subst hr
  refine wpAny_passesOwn hp (eE h4 fun _ s5 ⟨x,H5,I5,r5,y5,Xg,fr5⟩=>?_)
  have I5':=I5.pinned (stat fr5) (T.obj _ _ Xg)
  refine wpAny_passesOwn hp (eE (hg _ s5 σ3 H5 x u _ I5' r5 (step x H5 y5)) fun _ s6 ⟨σ6,H6,I6,q6⟩=>?_)
  refine wpAny_passesOwn hp (eE (hb _ s6 σ6 H6 _ I6 q6) fun f s7 q7=>?_)
  have again:∀ {σ7:St} {H7:Hp},Inv X (pins++z7 fp s5.heap) σ7 H7 s7→N σ7 H7→∃ m,m<n∧∃ i σ' H',Inv X pins σ' H' s7∧tn i s7.heap∧(∀ b∈fp,H' b=none)∧W i m σ' H':=fun {σ7 H7} I7 n7=>by
   obtain⟨m',hm,w7⟩:=hN σ7 H7 n7
   refine⟨m',hm,i+1,σ7,H7,I7.z8,T.keep _ _ _ Xg fun b hb o e=>(I7.pin (b,o) (List.mem_append_right _ (List.mem_append_right _ (uG hb e)))).1,fun b hb=>?_,w7⟩
   obtain⟨o,e,d⟩:=T.obj _ _ Xg b hb
   exact (I7.pin (b,o) (List.mem_append_right _ (List.mem_append_right _ (uG hb e)))).2.1
  cases f with
  | next=>obtain⟨σ7,H7,I7,n7⟩:=q7;exact again I7 n7
  | cont=>obtain⟨σ7,H7,I7,n7⟩:=q7;exact again I7 n7
  | brk=>obtain⟨σ7,H7,I7,q7⟩:=q7;exact⟨σ7,H7,I7.z8,q7⟩
  | ret v=>obtain⟨x7,σ7,H7,I7,r7,q7⟩:=q7;exact⟨x7,σ7,H7,I7.z8,r7,q7⟩
end
theorem ig {K:PySem.W.Frag}{a:Addr}{xs:List V}{g:TG}{tb:TS}{D:Ends}{σ:St}{H:Hp}(Pv:Nat→St→Hp→Prop)(h0:Pv 0 σ H)(hl:∀ i σ H,i≤xs.length→Pv i σ H→aQ K H a xs)
  (hs:∀ i x σ H,xs[i]?=some x→Pv i σ H→g x σ H fun σ2 H2=>tb { D with nx:=Pv (i+1),ct:=Pv (i+1),bk:=D.nx } σ2 H2) (hd:∀ σ H,Pv xs.length σ H→D.nx σ H) :
  ∃ W:Nat→Nat→St→Hp→Prop,(∃ m,W 0 m σ H)∧∀ i m σ H,W i m σ H →
   ((YT K a).stop i H∧D.nx σ H)∨((YT K a).go i H∧∃ N:St→Hp→Prop,(∀ σ' H',N σ' H'→∃ m',m'<m∧W (i+1) m' σ' H')∧∀ x H',(YT K a).Ui i H x H'→g x σ H' fun σ2 H2=>tb { D with nx:=N,ct:=N,bk:=D.nx } σ2 H2):=by
 refine⟨fun i m σ H=>m=xs.length-i∧i≤xs.length∧Pv i σ H,⟨xs.length,by simp,Nat.zero_le _,h0⟩,?_⟩
 rintro i m σ H ⟨rfl,hi,p⟩
 have q:=hl i σ H hi p
 by_cases hlt:i<xs.length
 ·refine .inr ⟨⟨xs,xs[i],q,by simp[hlt]⟩,Pv (i+1),fun σ' H' p'=>⟨xs.length-(i+1),by omega,rfl,hlt,p'⟩,fun x H' y=>?_⟩
  obtain⟨e,y⟩:=y
  subst e
  exact hs i x σ _ (y xs q) p
 ·have e:i=xs.length:=by omega
  subst e
  exact .inl ⟨⟨xs,q,Nat.le_refl _⟩,hd σ H p⟩
theorem Ol {lo:Int}{n:Nat}{g:TG}{tb:TS}{D:Ends}{σ:St}{H:Hp}(Pv:Nat→St→Hp→Prop)(h0:Pv 0 σ H)
  (hs:∀ i σ H,i<n→Pv i σ H→g (.int (lo+i)) σ H fun σ2 H2=>tb { D with nx:=Pv (i+1),ct:=Pv (i+1),bk:=D.nx } σ2 H2) (hd:∀ σ H,Pv n σ H→D.nx σ H) :
  ∃ W:Nat→Nat→St→Hp→Prop,(∃ m,W 0 m σ H)∧∀ i m σ H,W i m σ H →
   ((Xf lo n).stop i H∧D.nx σ H)∨((Xf lo n).go i H∧∃ N:St→Hp→Prop,(∀ σ' H',N σ' H'→∃ m',m'<m∧W (i+1) m' σ' H')∧∀ x H',(Xf lo n).Ui i H x H'→g x σ H' fun σ2 H2=>tb { D with nx:=N,ct:=N,bk:=D.nx } σ2 H2):=by
 refine⟨fun i m σ H=>m=n-i∧i≤n∧Pv i σ H,⟨n,by simp,Nat.zero_le _,h0⟩,?_⟩
 rintro i m σ H ⟨rfl,hi,p⟩
 by_cases hlt:i<n
 ·refine .inr ⟨hlt,Pv (i+1),fun σ' H' p'=>⟨n-(i+1),by omega,rfl,hlt,p'⟩,fun x H' y=>?_⟩
  obtain⟨e,y⟩:=y
  subst e y
  exact hs i σ _ hlt p
 ·have e:i=n:=by omega
  subst e
  exact .inl ⟨Nat.le_refl _,hd σ H p⟩
theorem Jf {c:TT}{tb:TS}{D:Ends}{σ:St}{H:Hp}(Pv:St→Hp→Prop)(μ:St→Hp→Nat)(h0:Pv σ H)
  (hs:∀ σ H,Pv σ H→c σ H fun b H1=>if b=true then tb { D with nx:=fun σ' H'=>Pv σ' H'∧μ σ' H'<μ σ H,ct:=fun σ' H'=>Pv σ' H'∧μ σ' H'<μ σ H,bk:=D.nx } σ H1 else D.nx σ H1)
  (mono:∀ σ H Q Q',(∀ b H1,Q b H1→Q' b H1)→c σ H Q→c σ H Q'):QB c tb D σ H:=by
 refine⟨fun m σ H=>m=μ σ H∧Pv σ H,⟨_,rfl,h0⟩,?_⟩
 rintro m σ H ⟨rfl,p⟩
 refine mono σ H _ _ (fun b H1 q=>?_) (hs σ H p)
 cases b with
 | true=>exact⟨_,fun σ' H' ⟨p',l⟩=>⟨_,l,rfl,p'⟩,q⟩
 | false=>exact q
abbrev R2:=V→V→Hp→VK→Prop
def vp (X:Cx)(f:Value→Value→Sem Value)(r:R2):Prop :=
 ∀ (pins:List (Addr×Obj)) (s:Shared) (σ:St) (H:Hp) (x y:V) (v u:Value) (Q:VK),Inv X pins σ H s→RelV x v→RelV y u→r x y H Q →
  wpAny (model X.prog X.w) X.A (f v u) (EP X pins σ Q) X.xe s
def UnR (X:Cx)(f:Value→Sem Value)(r:V→Hp→VK→Prop):Prop :=
 ∀ (pins:List (Addr×Obj)) (s:Shared) (σ:St) (H:Hp) (x:V) (v:Value) (Q:VK),Inv X pins σ H s→RelV x v→r x H Q →
  wpAny (model X.prog X.w) X.A (f v) (EP X pins σ Q) X.xe s
def iu (X:Cx)(f:Value)(r:List V→Hp→VK→Prop):Prop :=
 ∀ (pins:List (Addr×Obj)) (s:Shared) (σ:St) (H:Hp) (xs:List V) (us:List Value) (Q:VK),Inv X pins σ H s→Vals xs us→r xs H Q →
  wpAny (model X.prog X.w) X.A (call f us) (EP X pins σ Q) X.xe s
def ZJ (r:R2)(ta tb:TE):TE:=fun σ H Q=>ta σ H fun x H1=>tb σ H1 fun y H2=>r x y H2 Q
def tUn (r:V→Hp→VK→Prop)(ta:TE):TE:=fun σ H Q=>ta σ H fun x H1=>r x H1 Q
def rI (C:Int→Int→Prop)(g:Int→Int→V):R2:=fun x y H Q=>∃ i j,x=.int i∧y=.int j∧C i j∧Q (g i j) H
def Wf (g:Int→Int→V):R2:=fun x y H Q=>∃ i j,x=.int i∧y=.int j∧Q (g i j) H
def rU (g:Int→V):V→Hp→VK→Prop:=fun x H Q=>∃ i,x=.int i∧Q (g i) H
section
variable{X:Cx}{a b c:Expr}{ta tb tc:TE}{pos:Pos}
theorem Xh (ha:PE X a ta)(hb:PE X b tb){pins:List (Addr×Obj)}{s:Shared}{σ:St}{H:Hp}{R:V→V→Hp→Prop}(I:Inv X pins σ H s)
  (h:ta σ H fun x H1=>tb σ H1 fun y H2=>R x y H2) {Q:Value→Shared→Prop} {f:Value→Value→Sem Value}
  (hf:∀ v u s2 x y H2,Inv X pins σ H2 s2→RelV x v→RelV y u→R x y H2→wpAny (model X.prog X.w) X.A (f v u) Q X.xe s2) :
  wpAny (model X.prog X.w) X.A (eval a X.env) (fun v s₁=>wpAny (model X.prog X.w) X.A (eval b X.env) (fun u s₂=>wpAny (model X.prog X.w) X.A (f v u) Q X.xe s₂) X.xe s₁) X.xe s:=by
 refine eE (ha pins s σ H _ I h) fun v s1 ⟨x,H1,I1,r1,q1⟩=>?_
 refine eE (hb pins s1 σ H1 _ I1 q1) fun u s2 ⟨y,H2,I2,r2,q2⟩=>?_
 exact hf v u s2 x y H2 I2 r1 r2 q2
theorem aF {op:Operator}{r:R2}(ho:vp X (binaryOp op) r)(ha:PE X a ta)(hb:PE X b tb):PE X (.BinOp a op b pos) (ZJ r ta tb):=by
 intro pins s σ H Q I h
 exact wpAny_BinOp (Xh ha hb I h fun v u s2 x y H2 I2 rx ry q=>ho pins s2 σ H2 x y v u Q I2 rx ry q)
theorem oX {op:UnaryOp}{r:V→Hp→VK→Prop}(ho:UnR X (unaryOp op) r)(ha:PE X a ta):PE X (.UnaryOp op a pos) (tUn r ta):=by
 intro pins s σ H Q I h
 exact UnaryOp_ (eE (ha pins s σ H _ I h) fun v s1 ⟨x,H1,I1,r1,q1⟩=>ho pins s1 σ H1 x v Q I1 r1 q1)
theorem ZK {f:Value→Value→Sem Value}{C:Int→Int→Prop}{g:Int→Int→Int}
  (rule:∀ (i j:Int) (t u:Tok) (s:Shared) (Q:Value→Shared→Prop) (E:Value→Shared→Prop),C i j→Q (.int (g i j) s.toks) { s with toks:=s.toks+1 }→wpAny (model X.prog X.w) X.A (f (.int i t) (.int j u)) Q E s) :
  vp X f (rI C fun i j=>.int (g i j)):=by
 intro pins s σ H x y v u Q I rx ry h
 obtain⟨i,j,rfl,rfl,hc,q⟩:=h
 obtain⟨t,rfl⟩:=rx
 obtain⟨t',rfl⟩:=ry
 exact rule i j t t' s _ _ hc ⟨.int (g i j),H,I.tok _,⟨_,rfl⟩,q⟩
theorem ZL {f:Value→Value→Sem Value}{g:Int→Int→Int}
  (rule:∀ (i j:Int) (t u:Tok) (s:Shared) (Q:Value→Shared→Prop) (E:Value→Shared→Prop),Q (.int (g i j) s.toks) { s with toks:=s.toks+1 }→wpAny (model X.prog X.w) X.A (f (.int i t) (.int j u)) Q E s) :
  vp X f (Wf fun i j=>.int (g i j)):=by
 intro pins s σ H x y v u Q I rx ry h
 obtain⟨i,j,rfl,rfl,q⟩:=h
 obtain⟨t,rfl⟩:=rx
 obtain⟨t',rfl⟩:=ry
 exact rule i j t t' s _ _ ⟨.int (g i j),H,I.tok _,⟨_,rfl⟩,q⟩
theorem Uk {f:Value→Value→Sem Value}{g:Int→Int→Bool}
  (rule:∀ (i j:Int) (t u:Tok) (s:Shared) (Q:Value→Shared→Prop) (E:Value→Shared→Prop),Q (.bool (g i j)) s→wpAny (model X.prog X.w) X.A (f (.int i t) (.int j u)) Q E s) :
  vp X f (Wf fun i j=>.bl (g i j)):=by
 intro pins s σ H x y v u Q I rx ry h
 obtain⟨i,j,rfl,rfl,q⟩:=h
 obtain⟨t,rfl⟩:=rx
 obtain⟨t',rfl⟩:=ry
 exact rule i j t t' s _ _ ⟨.bl (g i j),H,I,rfl,q⟩
def agg (i j:Int):Prop:=0≤j∧j≤1000000∧i.natAbs<2 ^ 64
def Xi (i j:Int):Prop:=(-(2 ^ 64)<i∧i<2 ^ 64)∨(-(2 ^ 64)<j∧j<2 ^ 64)
theorem Xi.ok {i j:Int}(h:Xi i j):IntMulOk i j:=by
 rcases h with⟨h1,h2⟩|⟨h1,h2⟩
 ·exact .of_left (intBits_le_64 h1 h2)
 ·exact .of_right (intBits_le_64 h1 h2)
theorem dj:vp X (binaryOp .Add) (Wf fun i j=>.int (i+j)):=ZL fun _ _ _ _ _ _ _ q=>add_int q
theorem gb:vp X (binaryOp .Sub) (Wf fun i j=>.int (i-j)):=ZL fun _ _ _ _ _ _ _ q=>sub_int q
theorem Gm:vp X (binaryOp .Mult) (rI Xi fun i j=>.int (i*j)):=ZK fun _ _ _ _ _ _ _ hc q=>mul_int q hc.ok
theorem cO:vp X (binaryOp .Mod) (rI (fun _ j=>0<j) fun i j=>.int (i % j)):=ZK fun i j _ _ _ _ _ hc q=>by
 have h1:(0:Int)<j:=hc
 exact mod_int' (by omega) (by rw[Int.fmod_eq_emod_of_nonneg i (by omega)];exact q)
theorem Gn:vp X (binaryOp .Pow) (rI agg fun i j=>.int (i ^ j.toNat)):=ZK fun _ _ _ _ _ _ _ hc q=>pow_int_small hc.1 hc.2.1 hc.2.2 q
theorem unI {f:Value→Sem Value}{g:Int→Int}
  (rule:∀ (i:Int) (t:Tok) (s:Shared) (Q:Value→Shared→Prop) (E:Value→Shared→Prop),Q (.int (g i) s.toks) { s with toks:=s.toks+1 }→wpAny (model X.prog X.w) X.A (f (.int i t)) Q E s) :
  UnR X f (rU fun i=>.int (g i)):=by
 intro pins s σ H x v Q I rx h
 obtain⟨i,rfl,q⟩:=h
 obtain⟨t,rfl⟩:=rx
 exact rule i t s _ _ ⟨.int (g i),H,I.tok _,⟨_,rfl⟩,q⟩
theorem jl:UnR X (unaryOp .USub) (rU fun i=>.int (-i)):=unI fun _ _ _ _ _ q=>neg_int q
end
def ZM:V→V→Bool
 | .non,.non=>true | .non,.int _=>true | .int _,.non=>true | .non,.bl _=>true | .bl _,.non=>true | .non,.str _=>true | .str _,.non=>true
 | .int _,.int _=>true | .bl _,.bl _=>true | .str _,.str _=>true | .Qn _,.Qn _=>true
 | .int _,.str _=>true | .str _,.int _=>true | .bl _,.str _=>true | .str _,.bl _=>true
 | _,_=>false
def rEq:R2:=fun x y H Q=>ZM x y=true∧Q (.bl (decide (x=y))) H
def rNe:R2:=fun x y H Q=>ZM x y=true∧Q (.bl (!decide (x=y))) H
theorem Mu {i j:Int}:decide (V.int i=V.int j)=(i == j):=by
 rw[Bool.eq_iff_iff]
 simp
theorem QF {i j:Bool}:decide (V.bl i=V.bl j)=(i == j):=by
 rw[Bool.eq_iff_iff]
 simp
theorem Mv {i j:Str}:decide (V.str i=V.str j)=(i == j):=by
 rw[Bool.eq_iff_iff]
 simp
theorem Mw {i j:Array UInt8}:decide (V.Qn i=V.Qn j)=(i.toList == j.toList):=by
 rw[Bool.eq_iff_iff]
 cases i
 cases j
 simp
section
variable{X:Cx}{a b c:Expr}{ta tb tc:TE}{pos:Pos}
theorem cU {pins:List (Addr×Obj)}{σ:St}{H:Hp}{s:Shared}{Q:VK}{k k':Bool}(I:Inv X pins σ H s)(q:Q (.bl k) H)(e:k=k'):EP X pins σ Q (.bool k') s:=by
 subst e
 exact⟨.bl k,H,I,rfl,q⟩
theorem iM:vp X (compareOp .Eq) rEq:=by
 intro pins s σ H x y v u Q I rx ry h
 obtain⟨hs,q⟩:=h
 cases x with
 | non =>
  cases rx
  cases y with
  | non=>cases ry;exact PySem.EqNone.eq_none_none (cU I q (by simp))
  | bl j=>cases ry;exact PySem.EqNone.eq_none_bool (cU I q (by simp))
  | int j=>obtain⟨t',rfl⟩:=ry;exact PySem.EqNone.eq_none_int (cU I q (by simp))
  | str j=>obtain⟨t',rfl⟩:=ry;exact PySem.EqNone.eq_none_str (cU I q (by simp))
  | _=>exact absurd (show false=true from hs) Bool.false_ne_true
 | bl i =>
  cases rx
  cases y with
  | non=>cases ry;exact PySem.EqNone.eq_bool_none (cU I q (by simp))
  | bl j=>cases ry;exact eq_bool (cU I q QF)
  | str j=>obtain⟨t',rfl⟩:=ry;exact PySem.EqMixed.eq_bool_str (cU I q (by simp))
  | _=>exact absurd (show false=true from hs) Bool.false_ne_true
 | int i =>
  obtain⟨t,rfl⟩:=rx
  cases y with
  | non=>cases ry;exact PySem.EqNone.eq_int_none (cU I q (by simp))
  | int j=>obtain⟨t',rfl⟩:=ry;exact eq_int (cU I q Mu)
  | str j=>obtain⟨t',rfl⟩:=ry;exact PySem.EqMixed.eq_int_str (cU I q (by simp))
  | _=>exact absurd (show false=true from hs) Bool.false_ne_true
 | str i =>
  obtain⟨t,rfl⟩:=rx
  cases y with
  | non=>cases ry;exact PySem.EqNone.eq_str_none (cU I q (by simp))
  | bl j=>cases ry;exact PySem.EqMixed.eq_str_bool (cU I q (by simp))
  | int j=>obtain⟨t',rfl⟩:=ry;exact PySem.EqMixed.eq_str_int (cU I q (by simp))
  | str j=>obtain⟨t',rfl⟩:=ry;exact eq_str (cU I q Mv)
  | _=>exact absurd (show false=true from hs) Bool.false_ne_true
 | Qn i =>
  obtain⟨t,rfl⟩:=rx
  cases y with
  | Qn j=>obtain⟨t',rfl⟩:=ry;exact PySem.W.eq_bytes (cU I q Mw)
  | _=>exact absurd (show false=true from hs) Bool.false_ne_true
 | _=>cases y<;>exact absurd (show false=true from hs) Bool.false_ne_true
theorem mR:vp X (compareOp .NotEq) rNe:=by
 intro pins s σ H x y v u Q I rx ry h
 obtain⟨hs,q⟩:=h
 cases x with
 | non =>
  cases rx
  cases y with
  | non=>cases ry;exact PySem.EqNone.ne_none_none (cU I q (by simp))
  | bl j=>cases ry;exact PySem.EqNone.ne_none_bool (cU I q (by simp))
  | int j=>obtain⟨t',rfl⟩:=ry;exact PySem.EqNone.ne_none_int (cU I q (by simp))
  | str j=>obtain⟨t',rfl⟩:=ry;exact PySem.EqNone.ne_none_str (cU I q (by simp))
  | _=>exact absurd (show false=true from hs) Bool.false_ne_true
 | bl i =>
  cases rx
  cases y with
  | non=>cases ry;exact PySem.EqNone.ne_bool_none (cU I q (by simp))
  | bl j=>cases ry;exact ne_bool (cU I q (congrArg not QF))
  | str j=>obtain⟨t',rfl⟩:=ry;exact PySem.EqMixed.ne_bool_str (cU I q (by simp))
  | _=>exact absurd (show false=true from hs) Bool.false_ne_true
 | int i =>
  obtain⟨t,rfl⟩:=rx
  cases y with
  | non=>cases ry;exact PySem.EqNone.ne_int_none (cU I q (by simp))
  | int j=>obtain⟨t',rfl⟩:=ry;exact ne_int (cU I q (congrArg not Mu))
  | str j=>obtain⟨t',rfl⟩:=ry;exact PySem.EqMixed.ne_int_str (cU I q (by simp))
  | _=>exact absurd (show false=true from hs) Bool.false_ne_true
 | str i =>
  obtain⟨t,rfl⟩:=rx
  cases y with
  | non=>cases ry;exact PySem.EqNone.ne_str_none (cU I q (by simp))
  | bl j=>cases ry;exact PySem.EqMixed.ne_str_bool (cU I q (by simp))
  | int j=>obtain⟨t',rfl⟩:=ry;exact PySem.EqMixed.ne_str_int (cU I q (by simp))
  | str j=>obtain⟨t',rfl⟩:=ry;exact ne_str (cU I q (congrArg not Mv))
  | _=>exact absurd (show false=true from hs) Bool.false_ne_true
 | Qn i =>
  obtain⟨t,rfl⟩:=rx
  cases y with
  | Qn j=>obtain⟨t',rfl⟩:=ry;exact PySem.W.ne_bytes (cU I q (congrArg not Mw))
  | _=>exact absurd (show false=true from hs) Bool.false_ne_true
 | _=>cases y<;>exact absurd (show false=true from hs) Bool.false_ne_true
theorem qt:vp X (compareOp .Lt) (Wf fun i j=>.bl (decide (i<j))):=Uk fun _ _ _ _ _ _ _ q=>lt_int q
theorem qQ:vp X (compareOp .LtE) (Wf fun i j=>.bl (decide (i≤j))):=Uk fun _ _ _ _ _ _ _ q=>le_int q
theorem iQ:vp X (compareOp .Gt) (Wf fun i j=>.bl (decide (j<i))):=Uk fun _ _ _ _ _ _ _ q=>gt_int q
theorem QG:vp X (compareOp .GtE) (Wf fun i j=>.bl (decide (j≤i))):=Uk fun _ _ _ _ _ _ _ q=>ge_int q
theorem Ul:vp X (compareOp .IsNot) (fun x y H Q=>y=.non∧Q (.bl (!decide (x=.non))) H):=by
 intro pins s σ H x y v u Q I rx ry h
 obtain⟨rfl,q⟩:=h
 cases ry
 refine isnot_none_gen (cU I q ?_)
 cases x<;>first
  | (cases rx;rfl)
  | (obtain⟨t,rfl⟩:=rx;rfl)
theorem aU (b:Expr){op:CmpOp}(h:op≠.In:=by decide)(h2:op≠.NotIn:=by decide):behindInMarks op b=false:=by
 have e1:(op == CmpOp.In)=false:=by cases op<;>first|rfl|exact absurd rfl h
 have e2:(op == CmpOp.NotIn)=false:=by cases op<;>first|rfl|exact absurd rfl h2
 cases b<;>simp[behindInMarks,e1,e2]
theorem bW {op:CmpOp}{r:R2}(ho:vp X (compareOp op) r)(ha:PE X a ta)(hb:PE X b tb)(hm:behindInMarks op b=false):PE X (.Compare a [op] [b] pos) (ZJ r ta tb):=by
 intro pins s σ H Q I h
 exact wpAny_Compare1 (Xh ha hb I h fun v u s2 x y H2 I2 rx ry q=>ho pins s2 σ H2 x y v u Q I2 rx ry q) hm
def Wg (t:TE):TT:=fun σ H Q=>t σ H fun x H'=>∃ k,x=.bl k∧Q k H'
theorem bB {op:CmpOp}{r:R2}(ho:vp X (compareOp op) r)(ha:PE X a ta)(hb:PE X b tb)(hm:behindInMarks op b=false):PT X (.Compare a [op] [b] pos) (Wg (ZJ r ta tb)):=by
 intro pins s σ H Q I h
 refine wpAny_isTrue_Compare1 (eE (ha pins s σ H _ I h) fun v s1 ⟨x,H1,I1,r1,q1⟩=>eE (hb pins s1 σ H1 _ I1 q1) fun u s2 ⟨y,H2,I2,r2,q2⟩ =>
  eE (ho pins s2 σ H2 x y v u _ I2 r1 r2 q2) fun c s3 ⟨z,H3,I3,r3,k,e,q3⟩=>?_) hm
 subst e
 cases r3
 exact wpAny_truthy_bool ⟨H3,I3,q3⟩
def QH (r r':R2)(ta tb tc:TE):TE:=fun σ H Q=>ta σ H fun x H1=>tb σ H1 fun y H2=>r x y H2 fun z H3=>∃ k,z=.bl k ∧
 (if k=true then tc σ H3 fun w' H4=>r' y w' H4 Q else Q (.bl false) H3)
theorem z9 {op op':CmpOp}{r r':R2}(ho:vp X (compareOp op) r)(ho':vp X (compareOp op') r')(ha:PE X a ta)(hb:PE X b tb)(hc:PE X c tc)
  (hm:lastMarks [op,op'] [b,c]=false:=by with_unfolding_all rfl):PE X (.Compare a [op,op'] [b,c] pos) (QH r r' ta tb tc):=by
 intro pins s σ H Q I h
 refine Compare_chain (eE (ha pins s σ H _ I h) fun v s1 ⟨x,H1,I1,r1,q1⟩=>chain_link (eE (hb pins s1 σ H1 _ I1 q1) fun u s2 ⟨y,H2,I2,r2,q2⟩ =>
  eE (ho pins s2 σ H2 x y v u _ I2 r1 r2 q2) fun d s3 ⟨z,H3,I3,r3,k,e,q3⟩=>?_)) hm
 subst e
 cases r3
 refine wpAny_truthy_bool ?_
 cases k with
 | false=>exact ite_ff ⟨.bl false,H3,I3,rfl,q3⟩
 | true=>exact ite_tt (chain_last (eE (hc pins s3 σ H3 _ I3 q3) fun w' s4 ⟨z',H4,I4,r4,q4⟩=>ho' pins s4 σ H4 y z' u w' Q I4 r2 r4 q4))
theorem QJ {op op':CmpOp}{r r':R2}(ho:vp X (compareOp op) r)(ho':vp X (compareOp op') r')(ha:PE X a ta)(hb:PE X b tb)(hc:PE X c tc)
  (hm:lastMarks [op,op'] [b,c]=false:=by with_unfolding_all rfl):PT X (.Compare a [op,op'] [b,c] pos) (Wg (QH r r' ta tb tc)):=by
 intro pins s σ H Q I h
 refine isTrue_chain (eE (ha pins s σ H _ I h) fun v s1 ⟨x,H1,I1,r1,q1⟩=>test_link (eE (hb pins s1 σ H1 _ I1 q1) fun u s2 ⟨y,H2,I2,r2,q2⟩ =>
  eE (ho pins s2 σ H2 x y v u _ I2 r1 r2 q2) fun d s3 ⟨z,H3,I3,r3,k,e,q3⟩=>?_)) hm
 subst e
 cases r3
 refine wpAny_truthy_bool ?_
 cases k with
 | false =>
  obtain⟨k',e',q'⟩:=q3
  cases e'
  exact ite_ff ⟨H3,I3,q'⟩
 | true =>
  refine ite_tt (test_last (eE (hc pins s3 σ H3 _ I3 q3) fun w' s4 ⟨z',H4,I4,r4,q4⟩=>eE (ho' pins s4 σ H4 y z' u w' _ I4 r2 r4 q4) fun d' s5 ⟨z2,H5,I5,r5,k2,e2,q5⟩=>?_))
  subst e2
  cases r5
  exact wpAny_truthy_bool ⟨H5,I5,q5⟩
theorem Gp:(sizeLine:Nat)<2 ^ 63:=by rw[sizeLine_eq];decide
theorem vals1 {x:V}{us:List Value}(r:Vals [x] us):∃ u,us=[u]∧RelV x u:=by
 cases r with
 | cons r1 r2=>cases r2;exact⟨_,rfl,r1⟩
theorem vals2 {x y:V}{us:List Value}(r:Vals [x,y] us):∃ u w',us=[u,w']∧RelV x u∧RelV y w':=by
 cases r with
 | cons r1 r2 =>
  cases r2 with
  | cons r3 r4=>cases r4;exact⟨_,_,rfl,r1,r3⟩
theorem Om (hc:X.calm=true):iu X (.builtin "max") (fun xs H Q=>∃ i j,xs=[.int i,.int j]∧Q (.int (if j > i then j else i)) H):=by
 intro pins s σ H xs us Q I r h
 obtain⟨i,j,rfl,q⟩:=h
 obtain⟨u,w',rfl,⟨t,rfl⟩,⟨t',rfl⟩⟩:=vals2 r
 refine max_two_ints (I.ok.hd hc) fun h' tk k=>⟨_,H,I.kept k,?_,q⟩
 by_cases hj:j > i
 ·rw[if_pos hj,if_pos hj];exact⟨_,rfl⟩
 ·rw[if_neg hj,if_neg hj];exact⟨_,rfl⟩
end
structure K3 (h:Heap)(x dx C:Addr)(mA:Str→Option Value):Prop where
 obj:h.get? x=some (PySem.W.instObj C dx)
 ns:h.Ns1 dx mA
 ne:dx≠x
theorem Oo {h:Heap}{dx:Addr}{mA:Str→Option Value}(n:h.Ns1 dx mA):∃ od,h.get? dx=some od∧∀ name,PySem.W.lookIn name od=some (mA name):=by
 obtain⟨o,es,ep,ho,hd,hk,_,hm⟩:=n
 refine⟨o,ho,fun name=>?_⟩
 have e:=hm name
 unfold nsFind findBy at e
 rw[←Array.find?_toList] at e
 unfold PySem.W.lookIn
 rw[hd]
 dsimp only
 split
 ·rename_i y q
  rw[q] at e
  exact congrArg some e
 ·rename_i q
  rw[q] at e
  have a:es.toList.any (·.refKey)=false:=by
   rw[List.any_eq_false]
   intro y hy
   obtain⟨z,t,hkey⟩:=hk y (Array.mem_toList_iff.mp hy)
   simp[DictEntry.refKey,hkey]
  have a':¬ es.toList.any (·.refKey)=true:=by rw[a];exact Bool.false_ne_true
  rw[if_neg a']
  exact congrArg some e
theorem K3.look {h:Heap}{x dx C:Addr}{mA:Str→Option Value}(I:K3 h x dx C mA):∃ od,PySem.W.InstAt h x (PySem.W.instObj C dx) C (some od)∧∀ name,PySem.W.lookIn name od=some (mA name) :=
 let ⟨od,ho,hl⟩:=Oo I.ns
 ⟨od,⟨I.obj,rfl,rfl,ho⟩,hl⟩
section
variable{prog:Program}{w:World}{A:Around}{E:Value→Shared→Prop}{s:Shared}{K:PySem.W.Frag}{x dx C f:Addr}{mA:Str→Option Value}{name:Str}{v:Value}
theorem get_map {expr:Bool}{Q:Value→Shared→Prop}(X:K.In s.heap)(I:K3 s.heap x dx C mA)(hg:PySem.W.plainGet K C name=true)(hh:PySem.W.hasDictIn K C=true)
  (ha:PySem.W.findIn K (.ref C) name=some none) (hv:mA name=some v) (hv':PySem.W.handedIn v=true) (h:Q v { s with toks:=s.toks+1 }) :
  wpAny (model prog w) A (getAttr (.ref x) name expr) Q E s:=by
 obtain⟨od,J,hl⟩:=I.look
 exact PySem.W.get_value X J (PySem.W.plainGet_of hg).1 (PySem.W.findObj_own hh ha rfl (by rw[hl,hv])) hv' h
theorem QK {pl:Sem Bool}{Q:Value×List Value→Shared→Prop}(X:K.In s.heap)(I:K3 s.heap x dx C mA)(hg:PySem.W.plainGet K C name=true)
  (hf:PySem.W.findIn K (.ref C) name=some (some (.ref f))) (ht:PySem.W.isFn K (.ref f)=true) (hv:mA name=none) (h:Q (.ref f,[.ref x]) s) :
  wpAny (model prog w) A (getMethod (.ref x) name pl) Q E s:=by
 obtain⟨od,J,hl⟩:=I.look
 exact PySem.W.method_fn X J (PySem.W.plainGet_of hg).1 (PySem.W.plainGet_of hg).2 hf (beq_iff_eq.mp ht) (by show (PySem.W.lookIn name od).map (·.isSome)=some false;rw[hl,hv];rfl) h
theorem Um {ns:List Str}{Q:Unit→Shared→Prop}(X:K.In s.heap)(I:K3 s.heap x dx C mA)
  (hs:PySem.W.findIn K (.ref C) "__setattr__" = some (some (.builtin "object.__setattr__"))) (hp:PySem.W.plainOver K C=true) (ht:PySem.W.takerIn K C name=some none) (hh:PySem.W.hasDictIn K C=true)
  (hw:PySem.Within mA ns) (hsz:ns.length≤sizeLine)
  (h:∀ h',K3 h' x dx C (fun y=>if y=name then some v else mA y)→Heap.SameBut dx s.heap h'→Q () { s with heap:=h',toks:=s.toks+2 }) :
  wpAny (model prog w) A (setAttr (.ref x) name v) Q E s:=by
 obtain⟨od,J,hl⟩:=I.look
 refine PySem.W.set_plain X J hs (PySem.W.osa_open (s:={ s with toks:=s.toks+1 }) (r:=none) X J hp ht fun b=>?_)
 obtain⟨cd,hc,hd'⟩:=PySem.W.any_some hh
 have hx:s.heap.get? x=some ⟨.ref C,some dx,.plain,#[]⟩:=I.obj
 refine wpAny_bind (wpAny_pure (wpAny_bind (wpAny_bind (wpAny_loadPart hx (wpAny_bind (PySem.W.Looks.here (s:={ s with toks:=s.toks+1 }) (PySem.W.looks_clsIn X hc) ?_))))))
 rw[hd']
 refine wpAny_pure (a:=some dx) (wpAny_bind (wpAny_pure (wpAny_bind ?_)))
 refine wpAny_nsSet1 (s:={ s with toks:=s.toks+1 }) I.ns fun h' hn2 hs2=>?_
 obtain⟨oD,esD,epD,hoD,hdD,hcD⟩:=hn2.count (PySem.Within.cons name v hw)
 refine wpAny_bind (wpAny_lookBehind hoD (by rw[hdD];exact pastItsLine_dict (Nat.le_trans hcD (by rw[List.length_cons];omega))) ?_)
 exact wpAny_pure (h _ ⟨(hs2.2 _ (Ne.symm I.ne)).trans I.obj,hn2,I.ne⟩ hs2)
theorem QL {R:Result→Shared→Prop}{vs:List Value}{kw:List (Str×Value)}(X:K.In s.heap)(hm:PySem.W.makesIn K C=true)
  (hi:PySem.W.findIn K (.ref C) "__init__" = some (some (.ref f))) (hf:PySem.W.typeIn K (.ref f)=some (.type "function"))
  (h:codeAny (model prog w) (A.under (.builtin "type.__call__" ⟨.ref C::vs,kw⟩)) (.call (.ref f) ⟨.ref (s.heap.objs.size+1)::vs,kw⟩) (PySem.W.InitBack (s.heap.objs.size+1) R)
    { s with heap:=(s.heap.push PySem.W.emptyDict).push (PySem.W.instObj C s.heap.objs.size) }) :
  codeAny (model prog w) A (.call (.ref C) ⟨vs,kw⟩) R s:=by
 obtain⟨hh,g,d,t,os⟩:=s
 exact PySem.W.make_core (PySem.W.makes_of X hm) (PySem.W.looks_findIn X hi) (fun self=>PySem.W.bind_fn X self hf) (.inl rfl) h
theorem Oq {R:Result→Shared→Prop}(X:K.In s.heap)(hm:PySem.W.makesIn K C=true)
  (hi:PySem.W.findIn K (.ref C) "__init__" = some (some (.builtin "object.__init__")))
  (hb:∀ self,PySem.W.Looks (model prog w) s.heap (bindSpecial (.builtin "object.__init__") self) (.builtin "object.__init__",[self]))
  (h:codeAny (model prog w) (A.under (.builtin "type.__call__" ⟨[.ref C],[]⟩)) (.call (.builtin "object.__init__") ⟨[.ref (s.heap.objs.size+1)],[]⟩) (PySem.W.InitBack (s.heap.objs.size+1) R)
    { s with heap:=(s.heap.push PySem.W.emptyDict).push (PySem.W.instObj C s.heap.objs.size) }) :
  codeAny (model prog w) A (.call (.ref C) ⟨[],[]⟩) R s:=by
 obtain⟨hh,g,d,t,os⟩:=s
 exact PySem.W.make_core (PySem.W.makes_of X hm) (PySem.W.looks_findIn X hi) hb (.inr ⟨rfl,rfl⟩) h
end
def iC (f:Str)(v:V):List (Str×V)→List (Str×V)
 | []=>[(f,v)]
 | (g,x)::r=>if g=f then (g,v)::r else (g,x)::iC f v r
theorem eU (f g:Str)(v:V):∀ fs:List (Str×V),(iC f v fs).lookup g=if g=f then some v else fs.lookup g
 | []=>by
  show List.lookup g [(f,v)]=_
  by_cases h:g=f
  ·have hb:(g == f)=true:=beq_iff_eq.mpr h
   simp only[List.lookup,hb,if_pos h]
  ·have hb:(g == f)=false:=beq_eq_false_iff_ne.mpr h
   simp only[List.lookup,hb,if_neg h]
 | (k,x)::r=>by
  have ih:=eU f g v r
  rw[show iC f v ((k,x)::r)=(if k=f then (k,v)::r else (k,x)::iC f v r) from rfl]
  by_cases hk:k=f
  ·rw[if_pos hk]
   by_cases h:g=k
   ·have hb:(g == k)=true:=beq_iff_eq.mpr h
    simp only[List.lookup,hb,if_pos (h.trans hk)]
   ·have hb:(g == k)=false:=beq_eq_false_iff_ne.mpr h
    simp only[List.lookup,hb,if_neg (fun e:g=f=>h (e.trans hk.symm))]
  ·rw[if_neg hk]
   by_cases h:g=k
   ·have hb:(g == k)=true:=beq_iff_eq.mpr h
    simp only[List.lookup,hb,if_neg (fun e:g=f=>hk (h.symm.trans e))]
   ·have hb:(g == k)=false:=beq_eq_false_iff_ne.mpr h
    simp only[List.lookup,hb]
    exact ih
theorem wU (f:Str)(v:V):∀ fs:List (Str×V),f∈(iC f v fs).map (·.1)∧∀ g,g∈fs.map (·.1)→g∈(iC f v fs).map (·.1)
 | []=>⟨by simp[iC],fun g h=>by simp at h⟩
 | (k,x)::r=>by
  obtain⟨i1,i2⟩:=wU f v r
  rw[show iC f v ((k,x)::r)=(if k=f then (k,v)::r else (k,x)::iC f v r) from rfl]
  by_cases hk:k=f
  ·rw[if_pos hk]
   subst hk
   exact⟨by simp,fun g h=>by simpa using h⟩
  ·rw[if_neg hk]
   refine⟨?_,fun g h=>?_⟩
   ·rw[List.map_cons]
    exact List.mem_cons_of_mem _ i1
   ·rw[List.map_cons] at h ⊢
    rcases List.mem_cons.mp h with e|e
    ·exact List.mem_cons.mpr (.inl e)
    ·exact List.mem_cons_of_mem _ (i2 g e)
theorem yh (f:Str)(v:V):∀ fs:List (Str×V),(iC f v fs).length≤fs.length+1
 | []=>by simp[iC]
 | (k,x)::r=>by
  have ih:=yh f v r
  rw[show iC f v ((k,x)::r)=(if k=f then (k,v)::r else (k,x)::iC f v r) from rfl]
  by_cases hk:k=f
  ·rw[if_pos hk,List.length_cons,List.length_cons];omega
  ·rw[if_neg hk,List.length_cons,List.length_cons];omega
theorem Dh.some_of {v:V}{o:Option Value}(r:Dh (some v) o):∃ u,o=some u∧RelV v u:=by
 cases o with
 | none=>exact (show False from r).elim
 | some u=>exact⟨u,rfl,r⟩
theorem Dh.none_of {o:Option Value}(r:Dh none o):o=none:=by
 cases o with
 | none=>rfl
 | some u=>exact (show False from r).elim
theorem Ot {v:V}{u:Value}(r:RelV v u):PySem.W.handedIn u=true:=by
 cases v with
 | non=>cases (show u=Value.none from r);rfl
 | bl b=>cases (show u=Value.bool b from r);rfl
 | int i=>obtain⟨t,e⟩:=(show ∃ t,u=Value.int i t from r);cases e;rfl
 | str x=>obtain⟨t,e⟩:=(show ∃ t,u=Value.str x t from r);cases e;rfl
 | Qn b=>obtain⟨t,e⟩:=(show ∃ t,u=Value.bytes b t from r);cases e;rfl
 | flt b=>obtain⟨t,e⟩:=(show ∃ t,u=Value.float b t from r);cases e;rfl
 | ref a=>cases (show u=Value.ref a from r);rfl
 | ty n=>cases (show u=Value.type n from r);rfl
section
variable{P:Program}{w:World}{H H':Hp}{h h':Heap}{a C dx:Addr}{fs fs':List (Str×V)}
theorem zA (hok:uE P w H h)(e:H a=some (.ins C dx fs)):∃ mA,K3 h a dx C mA∧(∀ f,Dh (fs.lookup f) (mA f))∧PySem.Within mA (fs.map (·.1))∧fs.length≤1000∧H dx=some (.own a):=by
 obtain⟨d,z,ne,ob,mA,n,r,q⟩:=(show dG P w H h a (.ins C dx fs) from hok a _ e)
 exact⟨mA,⟨ob,n,ne⟩,r,q,z,d⟩
end
structure Cls (K:PySem.W.Frag)(C:Addr):Prop where
 pg:PySem.W.plainGet K C Str.empty=true
 hd:PySem.W.hasDictIn K C=true
 po:PySem.W.plainOver K C=true
 sa:PySem.W.findIn K (.ref C) "__setattr__" = some (some (.builtin "object.__setattr__"))
theorem Cls.get {K:PySem.W.Frag}{C:Addr}(c:Cls K C)(f:Str):PySem.W.plainGet K C f=true:=c.pg
def gj (K:PySem.W.Frag)(C:Addr)(f:Str):Prop:=PySem.W.findIn K (.ref C) f=some none
theorem gj.taker {K:PySem.W.Frag}{C:Addr}{f:Str}(n:gj K C f):PySem.W.takerIn K C f=some none:=by
 unfold PySem.W.takerIn
 rw[show PySem.W.findIn K (.ref C) f=some none from n]
 rfl
structure Meth (K:PySem.W.Frag)(C:Addr)(m:Str)(f:Addr):Prop where
 at_:PySem.W.findIn K (.ref C) m=some (some (.ref f))
 fn:PySem.W.isFn K (.ref f)=true
 kp:PySem.W.keepIn K (.ref f)=true
section
variable{X:Cx}{pins:List (Addr×Obj)}{σ:St}{H:Hp}{s:Shared}{a C dx:Addr}{fs:List (Str×V)}{f:Str}{v:V}{A:Around}{E:Value→Shared→Prop}
theorem K4 {b:Bool}{Q:Value→Shared→Prop}(I:Inv X pins σ H s)(e:H a=some (.ins C dx fs))(c:Cls X.K C)(n:gj X.K C f)(l:fs.lookup f=some v)
  (h:∀ u s',Inv X pins σ H s'→RelV v u→Q u s'):wpAny (model X.prog X.w) A (getAttr (.ref a) f b) Q E s:=by
 obtain⟨mA,O,r,_,_,_⟩:=zA I.hok e
 obtain⟨u,hu,ru⟩:=Dh.some_of (v:=v) (o:=mA f) (by rw[←l];exact r f)
 exact get_map I.uc O (c.get f) c.hd n hu (Ot ru) (h u _ (I.tok _) ru)
theorem Aa {m:Str}{g:Addr}{pl:Sem Bool}{Q:Value×List Value→Shared→Prop}(I:Inv X pins σ H s)(e:H a=some (.ins C dx fs))(c:Cls X.K C)(k:Meth X.K C m g)(l:fs.lookup m=none)
  (h:Q (.ref g,[.ref a]) s):wpAny (model X.prog X.w) A (getMethod (.ref a) m pl) Q E s:=by
 obtain⟨mA,O,r,_,_,_⟩:=zA I.hok e
 have hn:mA m=none:=Dh.none_of (by rw[←l];exact r m)
 exact QK I.uc O (c.get m) k.at_ k.fn hn h
theorem K5 {y:V}{u:Value}{Q:Unit→Shared→Prop}(I:Inv X pins σ H s)(e:H a=some (.ins C dx fs))(c:Cls X.K C)(n:gj X.K C f)(hl:fs.length<1000)(ry:RelV y u)
  (h:∀ s',Inv X pins σ (upd H a (.ins C dx (iC f y fs))) s'→Q () s'):wpAny (model X.prog X.w) A (setAttr (.ref a) f u) Q E s:=by
 obtain⟨mA,O,r,wi,_,ho⟩:=zA I.hok e
 have hz:(fs.map (·.1)).length≤sizeLine:=by rw[List.length_map,sizeLine_eq];omega
 refine Um I.uc O c.sa c.po n.taker c.hd wi hz fun h' O' sb=>h _ ?_
 have hd:∃ o,h'.get? dx=some o:=let ⟨o,_,_,e',_⟩:=O'.ns;⟨o,e'⟩
 refine I.write (x:=a) (e:=dx) (by rw[e];exact True.intro) (.inr ho) (fun b q hb z=>(sb.2 b hb).trans z) hd ?_
 refine⟨by rw[aJ O.ne];exact ho,?_,O.ne,O'.obj,_,O'.ns,fun g=>?_,fun g hg=>?_⟩
 ·have:=yh f y fs;omega
 ·show Dh ((iC f y fs).lookup g) (if g=f then some u else mA g)
  rw[eU]
  by_cases q:g=f
  ·rw[if_pos q,if_pos q];exact ry
  ·rw[if_neg q,if_neg q];exact r g
 ·by_cases q:g=f
  ·rw[q];exact (wU f y fs).1
  ·refine (wU f y fs).2 g (wi g fun z=>hg ?_)
   show (if g=f then some u else mA g)=none
   rw[if_neg q];exact z
theorem Inv.made (I:Inv X pins σ H s):Inv X pins σ (upd (upd H s.heap.objs.size (.own (s.heap.objs.size+1))) (s.heap.objs.size+1) (.ins C s.heap.objs.size []))
  { s with heap:=(s.heap.push PySem.W.emptyDict).push (PySem.W.instObj C s.heap.objs.size) }:=by
 have e1:(s.heap.push PySem.W.emptyDict).get? s.heap.objs.size=some PySem.W.emptyDict:=Heap.get?_push_size s.heap rfl
 have e2:((s.heap.push PySem.W.emptyDict).push (PySem.W.instObj C s.heap.objs.size)).get? (s.heap.objs.size+1)=some (PySem.W.instObj C s.heap.objs.size):=by
  have:=Heap.get?_push_size (s.heap.push PySem.W.emptyDict) (o:=PySem.W.instObj C s.heap.objs.size) rfl
  rwa [Heap.size_push] at this
 have e3:(s.heap.push PySem.W.emptyDict).Ns s.heap.objs.size (fun _=>none):=⟨PySem.W.emptyDict,#[],_,e1,rfl,(fun e he=>absurd he (by simp)),fun _=>rfl⟩
 have I1:=I.laid (a:=s.heap.objs.size) (o:=.own (s.heap.objs.size+1)) (h':=s.heap.push PySem.W.emptyDict) (t':=s.toks) (fun b u q=>Heap.get?_push_of_some _ q) (Nat.le_refl _) ⟨_,e1⟩
 refine I1.laid (a:=s.heap.objs.size+1) (o:=.ins C s.heap.objs.size []) (t':=s.toks) (fun b u q=>Heap.get?_push_of_some _ q) (Nat.le_of_eq (Heap.size_push _ _)) ?_
 have ne:s.heap.objs.size≠s.heap.objs.size+1:=Nat.ne_of_lt (Nat.lt_succ_self _)
 refine⟨by rw[aJ ne,ak],Nat.zero_le _,ne,e2,fun _=>none,(Heap.Ns1.of_empty e3).at fun o q=>Heap.get?_push_of_some _ q,fun _=>True.intro,fun y hy=>absurd rfl hy⟩
theorem Uo {prog:Program}{w:World}{env:Env}{e:Expr}{f:Str}{pos:Pos}{s:Shared}{Q:Value→Shared→Prop}(hb:attributeBase e f env (eval e env)=eval e env)
  (h:wpAny (model prog w) A (eval e env) (fun o s₁=>wpAny (model prog w) A (getAttr o f true) Q E s₁) E s):wpAny (model prog w) A (eval (.Attribute e f pos) env) Q E s :=
 Attribute_any_ h (by rw[arm_eval_Attribute,hb])
end
def ZP (K:PySem.W.Frag)(ta:TE)(f:Str):TE:=fun σ H Q=>ta σ H fun x H1=>∃ a C dx fs v,x=.ref a∧H1 a=some (.ins C dx fs)∧Cls K C∧gj K C f∧fs.lookup f=some v∧Q v H1
def agh (K:PySem.W.Frag)(ta tv:TE)(f:Str):TS:=fun D σ H=>tv σ H fun y H1=>ta σ H1 fun x H2=>∃ a C dx fs,x=.ref a∧H2 a=some (.ins C dx fs)∧Cls K C∧gj K C f∧fs.length<1000 ∧
 D.nx σ (upd H2 a (.ins C dx (iC f y fs)))
section
variable{X:Cx}{o e value:Expr}{f:Str}{pos pos' tpos:Pos}{ta tv:TE}
theorem Xj (he:PE X e ta)(hb:attributeBase e f X.env (eval e X.env)=eval e X.env):PE X (.Attribute e f pos) (ZP X.K ta f):=by
 intro pins s σ H Q I h
 refine Uo hb (eE (he pins s σ H _ I h) fun u s1 ⟨x,H1,I1,rx,a,C,dx,fs,v,ex,ea,c,n,l,q⟩=>?_)
 subst ex
 obtain rfl:u=Value.ref a:=rx
 exact K4 I1 ea c n l fun u' s2 I2 ru=>⟨v,H1,I2,ru,q⟩
theorem jQ (ha:PE X o ta)(hv:PE X value tv)(hs:swapsWith value (some (.Attribute o f pos')) pos.line X.env=pure false):PS X (.Assign [.Attribute o f pos'] value pos) (agh X.K ta tv f):=by
 intro pins s σ H D I h
 refine plainObj_wpAny_Assign_Attribute (eE (hv pins s σ H _ I h) fun u s1 ⟨y,H1,I1,ry,q⟩=>eE (ha pins s1 σ H1 _ I1 q) fun ov s2 ⟨x,H2,I2,rx,a,C,dx,fs,ex,ea,c,n,l,q2⟩=>?_) hs
 subst ex
 obtain rfl:ov=Value.ref a:=rx
 exact K5 I2 ea c n l ry fun s3 I3=>⟨σ,_,I3,q2⟩
theorem Wh {pl:Sem Bool}{m:Str}{apos:Pos}{args:List Expr}{pins:List (Addr×Obj)}{s:Shared}{σ:St}{H:Hp}{Q:Value→Shared→Prop}{te:TE}(he:PE X e te)(I:Inv X pins σ H s)
  (h:te σ H fun x H1=>∃ a C dx fs g,x=.ref a∧H1 a=some (.ins C dx fs)∧Cls X.K C∧Meth X.K C m g∧fs.lookup m=none ∧
    ∀ s1,Inv X pins σ H1 s1→wpAny (model X.prog X.w) X.A (callWith pos (.ref g) [.ref a] (backTo pos (starEach args X.env)) (backToKw pos (keywordEach [] X.env))) Q X.xe s1)
  (ht:eval (.Call (.Attribute e m apos) args [] pos) X.env=(do
    let ov ←eval e X.env
    standAt apos.atName
    let (f,first) ←holding [ov] (getMethod ov m pl)
    callWith pos f first (backTo pos (starEach args X.env)) (backToKw pos (keywordEach [] X.env)))) :
  wpAny (model X.prog X.w) X.A (eval (.Call (.Attribute e m apos) args [] pos) X.env) Q X.xe s:=by
 refine PySem.W.methodCall_KW (pl:=pl) (eE (he pins s σ H _ I h) fun u s1 ⟨x,H1,I1,rx,a,C,dx,fs,g,ex,ea,c,k,l,q⟩=>?_) ht
 subst ex
 obtain rfl:u=Value.ref a:=rx
 exact Aa I1 ea c k l (q s1 I1)
end
section
variable{X:Cx}{pins:List (Addr×Obj)}{σ:St}{H:Hp}{s:Shared}{A:Around}{E:Value→Shared→Prop}{Q:Value→Shared→Prop}{c:Value}{b:Bool}
inductive uH (K:PySem.W.Frag)(H:Hp):V→Value→Prop where
 | non:uH K H .non (.type "NoneType")
 | bl (x:Bool):uH K H (.bl x) (.type "bool")
 | int (i:Int):uH K H (.int i) (.type "int")
 | str (x:Str):uH K H (.str x) (.type "str")
 | flt (x:UInt64):uH K H (.flt x) (.type "float")
 | lst {a:Addr} {xs:List V} (e:H a=some (.lst xs)):uH K H (.ref a) (.type "list")
 | Mt {a:Addr} {o:Obj} {xs:List V} (e:H a=some (.Mt o (.lst xs))):uH K H (.ref a) (.type "list")
 | tup {a:Addr} {xs:List V} (e:H a=some (.tup xs)):uH K H (.ref a) (.type "tuple")
 | dK {a:Addr} {kvs:List (Key×V)} (e:H a=some (.dK kvs)):uH K H (.ref a) (.type "dict")
 | dT {a:Addr} {kvs:List (List Key×V)} (e:H a=some (.dT kvs)):uH K H (.ref a) (.type "dict")
 | ins {a C dx:Addr} {fs:List (Str×V)} (e:H a=some (.ins C dx fs)) (cl:Cls K C) (ha:PySem.W.findIn K (.ref C) "__class__" = some (some (.builtin "object.__class__")))
   (hn:PySem.W.specialIn K (.builtin "object.__class__") "__get__" = some (some (.builtin "getset_descriptor.__get__"))) (htk:PySem.W.takesIn K (.builtin "object.__class__")=some true)
   (hm:PySem.W.mroIn K C (.type "object")=some true):uH K H (.ref a) (.ref C)
theorem EY {x:V}{u t:Value}(I:Inv X pins σ H s)(rx:RelV x u)(ty:uH X.K H x t)(e:PySem.W.kitOne X.K t c=some b)(h:∀ tk,Q (.bool b) { s with toks:=tk }):
  wpAny (model X.prog X.w) A (call (.builtin "isinstance") [u,c]) Q E s:=by
 cases ty with
 | non=>cases (show u=Value.none from rx);exact PySem.W.kia_one PySem.W.kitx_none I.uc True.intro e (fun z=>nomatch z) h
 | bl y=>cases (show u=Value.bool y from rx);exact PySem.W.kia_one PySem.W.kitx_bool I.uc True.intro e (fun z=>nomatch z) h
 | int i=>obtain⟨t,q⟩:=(show ∃ t,u=Value.int i t from rx);cases q;exact PySem.W.kia_one PySem.W.kitx_int I.uc True.intro e (fun z=>nomatch z) h
 | str y=>obtain⟨t,q⟩:=(show ∃ t,u=Value.str y t from rx);cases q;exact PySem.W.kia_one PySem.W.kitx_str I.uc True.intro e (fun z=>nomatch z) h
 | flt y=>obtain⟨t,q⟩:=(show ∃ t,u=Value.float y t from rx);cases q;exact PySem.W.kia_one PySem.W.kitx_float I.uc True.intro e (fun z=>nomatch z) h
 | @lst a xs ea =>
  cases (show u=Value.ref a from rx)
  obtain⟨_,_,n,_,h1⟩:=(show dG X.prog X.w H s.heap a (.lst xs) from I.hok a _ ea)
  exact PySem.W.kia_one PySem.W.kitx_list I.uc ⟨_,h1,rfl⟩ e (fun z=>nomatch z) h
 | @Mt a ob xs ea =>
  cases (show u=Value.ref a from rx)
  obtain⟨_,_,_,n,_,h1⟩:=(show dG X.prog X.w H s.heap a (.Mt ob (.lst xs)) from I.hok a _ ea)
  exact PySem.W.kia_one PySem.W.kitx_list I.uc ⟨_,h1,rfl⟩ e (fun z=>nomatch z) h
 | @tup a xs ea =>
  cases (show u=Value.ref a from rx)
  obtain⟨_,_,_,p⟩:=(show dG X.prog X.w H s.heap a (.tup xs) from I.hok a _ ea)
  obtain⟨o,h1,h2,_⟩:=p
  exact PySem.W.kia_one PySem.W.kitx_tuple I.uc ⟨o,h1,h2⟩ e (fun z=>nomatch z) h
 | @dK a kvs ea =>
  cases (show u=Value.ref a from rx)
  obtain⟨_,_,vs,_,p⟩:=(show dG X.prog X.w H s.heap a (.dK kvs) from I.hok a _ ea)
  obtain⟨o,es,ep,h1,h2,_⟩:=p
  exact PySem.W.kia_one PySem.W.kitx_dict I.uc ⟨o,h1,h2.1⟩ e (fun z=>nomatch z) h
 | @dT a kvs ea =>
  cases (show u=Value.ref a from rx)
  obtain⟨_,_,xs,_,o,es,ep,h1,h2,_⟩:=(show dG X.prog X.w H s.heap a (.dT kvs) from I.hok a _ ea)
  exact PySem.W.kia_one PySem.W.kitx_dict I.uc ⟨o,h1,h2.1⟩ e (fun z=>nomatch z) h
 | @ins a C dx fs ea cl ha hn htk hm =>
  cases (show u=Value.ref a from rx)
  obtain⟨mA,O,_⟩:=zA I.hok ea
  obtain⟨od,J,_⟩:=O.look
  exact PySem.W.kia_one (PySem.W.kitx_own (cl.get _) cl.hd ha hn htk hm) I.uc J e (fun z=>nomatch z) h
end
structure iD (k:Nat)(A:Around):Prop where
 hd:A.handled=none
 dp:A.depth+3*k+5<recursionLimit
 un:A.units+16*k+200<cLine
theorem iD.mono {j k:Nat}{A:Around}(r:iD k A)(h:j≤k):iD j A:=⟨r.hd,by have:=r.dp;omega,by have:=r.un;omega⟩
theorem iD.deeper {k:Nat}{A:Around}(r:iD (k+1) A)(env:Env):iD k (A.deeper env) :=
 ⟨r.hd,by have:=r.dp;show A.depth+1+3*k+5<_;omega,by have:=r.un;show A.units+3+16*k+200<_;omega⟩
theorem K6 {A:Around}{C:Addr}{us:List Value}{kw:List (Str×Value)}:(A.under (.builtin "type.__call__" ⟨.ref C::us,kw⟩)).depth=A.depth+1:=by
 first|rfl|simp[Around.under,Code.weight,Code.isCreation,Code.isGuard,Code.isCaller,Code.frames,Code.isFrame,guardIds]
theorem K7 {A:Around}{C:Addr}{us:List Value}{kw:List (Str×Value)}:(A.under (.builtin "type.__call__" ⟨.ref C::us,kw⟩)).units=A.units+1:=by
 first|rfl|simp[Around.under,Code.cUnits,Code.frames,Code.isFrame]
theorem iD.make {k:Nat}{A:Around}(r:iD (k+1) A)(C:Addr)(us:List Value)(kw:List (Str×Value)):iD k (A.under (.builtin "type.__call__" ⟨.ref C::us,kw⟩)) :=
 ⟨r.hd,by have:=r.dp;rw[K6];omega,by have:=r.un;rw[K7];omega⟩
theorem iD.depth {k:Nat}{A:Around}(r:iD k A):A.depth<recursionLimit:=by have:=r.dp;omega
theorem iD.units {k:Nat}{A:Around}(r:iD k A):A.units+64<cLine:=by have:=r.un;omega
def nR:TA:=fun _ H Q=>Q [] H
def dM (ta:TE)(tr:TA):TA:=fun σ H Q=>ta σ H fun x H1=>tr σ H1 fun xs H2=>Q (x::xs) H2
section
variable{X:Cx}{e:Expr}{es:List Expr}{te:TE}{t:TA}{pos:Pos}
theorem ao:PA X [] nR:=fun _ _ _ _ H Q I h=>Calls.spliced_nil ⟨[],H,I,.nil,h⟩
theorem aj (ha:PE X e te)(hr:PA X es t)(hs:starEach (e::es) X.env=(false,eval e X.env)::starEach es X.env:=by rfl):PA X (e::es) (dM te t):=by
 intro pos pins s σ H Q I h
 rw[hs]
 show wpAny _ _ (spliced ((false,eval e X.env)::backTo pos (starEach es X.env))) _ _ s
 refine Calls.spliced_cons (eE (ha pins s σ H _ I h) fun u s1 ⟨x,H1,I1,r1,q1⟩=>?_)
 exact eE (hr pos pins s1 σ H1 _ I1 q1) fun us s2 ⟨xs,H2,I2,r2,q2⟩=>⟨x::xs,H2,I2,.cons r1 r2,q2⟩
def Gq (t:TA):TE:=fun σ H Q=>t σ H fun xs H1=>xs.length≤sizeLine∧∀ p,H1 p=none→Q (.ref p) (upd H1 p (.tup xs))
def Ab (t:TA):TE:=fun σ H Q=>t σ H fun xs H1=>xs.length≤sizeLine∧∀ p,H1 p=none→Q (.ref p) (upd H1 p (.lst xs))
theorem bN {x1}(h:PA X es t):PE X (.Tuple es x1 pos) (Gq t):=by
 intro pins s σ H Q I hq
 refine wpAny_Tuple_spliced (eE (h pos pins s σ H _ I hq) fun us s1 ⟨xs,H1,I1,r,z,q⟩=>⟨by rw[←r.length];exact z,?_⟩)
 have hf:H1 s1.heap.objs.size=none:=I1.hok.fresh (Nat.le_refl _)
 refine⟨.ref s1.heap.objs.size,upd H1 s1.heap.objs.size (.tup xs),I1.laid (t':=s1.toks) (fun b u e=>Heap.get?_push_of_some _ e) (Nat.le_refl _) ?_,rfl,q _ hf⟩
 exact⟨z,us,r,⟨_,Heap.get?_push_size _ rfl,rfl,_,rfl⟩⟩
theorem bF (h:PA X es t):PE X (.List es pos) (Ab t):=by
 intro pins s σ H Q I hq
 refine wpAny_List_spliced (eE (h pos pins s σ H _ I hq) fun us s1 ⟨xs,H1,I1,r,z,q⟩=>⟨by rw[←r.length];exact z,?_⟩)
 have hf:H1 s1.heap.objs.size=none:=I1.hok.fresh (Nat.le_refl _)
 refine⟨.ref s1.heap.objs.size,upd H1 s1.heap.objs.size (.lst xs),I1.laid (t':=s1.toks) (fun b u e=>Heap.get?_push_of_some _ e) (Nat.le_refl _) ?_,rfl,q _ hf⟩
 exact⟨z,us,0,r,Heap.get?_push_size _ rfl⟩
end
abbrev Sp:=List V→Hp→VK→XK→Prop
abbrev QM:=List Env→Hp→Shared→XK→Value→Shared→Prop
structure K8 (P:Program)(w:World)(K:PySem.W.Frag)(mg:Str→Option Value)(base:Heap)(A:Around)(outer:List Env)(s:Shared)(H:Hp):Prop where
 frames:A.frames=some outer
 mod:Mod K mg base
 bs:∀ b o,base.get? b=some o→s.heap.get? b=some o∧H b=none
 Qt:base.objs.size≤s.heap.objs.size
 wO:s.heap.FunFrames base outer
 Wa:∀ b∈frs outer,H b=none
 hok:uE P w H s.heap
 bare:AllBare s.gens
def CE (outer:List Env)(P:Program)(w:World)(H:Hp)(s:Shared)(Q:VK)(u:Value)(s':Shared):Prop :=
 ∃ v H',s'.os=s.os∧AllBare s'.gens∧Un (frs outer) [] H H' s.heap s'.heap∧uE P w H' s'.heap∧RelV v u∧Q v H'
def CR (CX:QM)(outer:List Env)(P:Program)(w:World)(H:Hp)(s:Shared)(Q:VK)(E:XK)(r:Result)(s':Shared):Prop :=
 match r with
 | .ok (.ret u)=>CE outer P w H s Q u s'
 | .ok _=>False
 | .error e=>CX outer H s E e s'
structure cA (P:Program)(w:World)(K:PySem.W.Frag)(mg:Str→Option Value)(base:Heap)(CX:QM)(k:Nat)(f:Addr)(fd:FuncData)(ps:List Str)(sp:Sp):Prop where
 len:∀ vs H Q E,sp vs H Q E→vs.length=ps.length
 run:∀ (A:Around) (outer:List Env) (s:Shared) (H:Hp) (args:Args) (us:List Value) (vs:List V) (Q:VK) (E:XK),iD k A→K8 P w K mg base A outer s H→BindsTo s fd args (ps.zip us)→Vals vs us→sp vs H Q E →
  codeAny (model P w) A (.call (.ref f) args) (CR CX outer P w H s Q E) s
theorem K8.make {P:Program}{w:World}{K:PySem.W.Frag}{mg:Str→Option Value}{base:Heap}{A:Around}{outer:List Env}{s:Shared}{H:Hp}(e:K8 P w K mg base A outer s H)(C:Addr)(us:List Value)(kw:List (Str×Value)):
  K8 P w K mg base (A.under (.builtin "type.__call__" ⟨.ref C::us,kw⟩)) outer s H:=⟨by first|exact e.frames|(simpa[Around.under,Code.envs,Code.isFrame,pushEnvs] using e.frames),e.mod,e.bs,e.Qt,e.wO,e.Wa,e.hok,e.bare⟩
section
variable{X:Cx}{pins:List (Addr×Obj)}{σ:St}{H:Hp}{s s':Shared}
theorem Inv.env0 (I:Inv X pins σ H s):K8 X.prog X.w X.K X.mg X.base X.A X.stack s H :=
 ⟨I.ok.frames,I.ok.mod,I.bs,Nat.le_trans I.ok.Qt I.sz,I.stack,I.Gj,I.hok,I.bare⟩
theorem Inv.after {Q:VK}{u:Value}(I:Inv X pins σ H s)(h:CE X.stack X.prog X.w H s Q u s'):EP X pins σ Q u s':=by
 obtain⟨v,H',os,bare,un,hok,r,q⟩:=h
 obtain⟨hh,g,d,t,os'⟩:=s'
 obtain rfl:os'=s.os:=os
 exact⟨v,H',I.call (h':=hh) (g':=g) (d':=d) (t':=t) (ch:=[]) un hok bare (fun b z=>absurd z (by simp)),r,q⟩
end
def Mx (sp:Sp)(Di:List V)(E:XK)(t:TA):TE:=fun σ H Q=>t σ H fun vs H1=>sp (vs++Di) H1 Q E
def qu (C:Addr)(m:Str)(sp:Sp)(Di:List V)(E:XK)(ta:TE)(t:TA):TE:=fun σ H Q=>ta σ H fun x H1=>∃ a dx fs,x=.ref a∧H1 a=some (.ins C dx fs)∧fs.lookup m=none ∧
 t σ H1 fun vs H2=>sp (x::(vs++Di)) H2 Q E
def qR (C:Addr)(sp:Sp)(Di:List V)(E:XK)(t:TA):TE:=fun σ H Q=>t σ H fun vs H1=>∀ x dx,H1 x=none→H1 dx=none→dx≠x →
 sp (.ref x::(vs++Di)) (upd (upd H1 dx (.own x)) x (.ins C dx [])) (fun v H2=>v=.non∧Q (.ref x) H2) E
def Binds (K:PySem.W.Frag)(fd:FuncData)(ps:List Str)(ds:List Value):Prop :=
 ∀ (s:Shared) (us:List Value),K.In s.heap→(us++ds).length=ps.length→BindsTo s fd ⟨us,[]⟩ (ps.zip (us++ds))
theorem Binds.all {K:PySem.W.Frag}{fd:FuncData}{ps:List Str}(h:∀ us:List Value,us.length=ps.length→bindArgs fd ⟨us,[]⟩=pure (ps.zip us)):Binds K fd ps []:=fun s us _ hl=>by
 rw[List.append_nil] at hl ⊢
 exact .of_eq (h us hl)
def Passes (CX:QM)(X:Cx)(E:XK):Prop:=∀ (pins:List (Addr×Obj)) (σ:St) (H:Hp) (s:Shared) (e:Value) (s':Shared),Inv X pins σ H s→CX X.stack H s E e s'→X.xe e s'
section
variable{X:Cx}{CX:QM}{k:Nat}{f C:Addr}{fd:FuncData}{ps:List Str}{sp:Sp}{Di:List V}{ds:List Value}{E:XK}{x m:Str}{p pos apos:Pos}{e o:Expr}{es:List Expr}{ta:TE}{t:TA}
theorem K9 {pins:List (Addr×Obj)}{σ:St}{H:Hp}{s:Shared}{Q:VK}{us:List Value}{vs:List V}(F:cA X.prog X.w X.K X.mg X.base CX k f fd ps sp)(hr:iD k X.A)(hb:Binds X.K fd ps ds)(hd:Vals Di ds)(hx:Passes CX X E)
  (I:Inv X pins σ H s) (r:Vals vs us) (h:sp (vs++Di) H Q E):wpAny (model X.prog X.w) X.A (call (.ref f) us) (EP X pins σ Q) X.xe s:=by
 have r2:Vals (vs++Di) (us++ds):=r.append hd
 have hl:(us++ds).length=ps.length:=by rw[←r2.length];exact F.len _ _ _ _ h
 refine wpAny_call (codeAny_mono (F.run X.A X.stack s H ⟨us,[]⟩ (us++ds) (vs++Di) Q E hr I.env0 (hb s us I.uc hl) r2 h) fun r s' hq=>?_)
 cases r with
 | error e=>exact hx pins σ H s e s' I hq
 | ok fl =>
  cases fl with
  | ret u=>exact I.after hq
  | next=>exact False.elim hq
  | brk=>exact False.elim hq
  | cont=>exact False.elim hq
theorem Uq (F:cA X.prog X.w X.K X.mg X.base CX k f fd ps sp)(hr:iD k X.A)(hg:Gl X x)(hm:X.mg x=some (.ref f))(hk:PySem.W.keepIn X.K (.ref f)=true)(hb:Binds X.K fd ps ds)(hd:Vals Di ds)(hx:Passes CX X E)
  (ha:PA X (e::es) t) (hdb:(x == ("__debug__" : Str))=false:=by decide) (he:starEach (e::es) X.env=(false,eval e X.env)::starEach es X.env:=by rfl) (hpl:(backTo pos (starEach es X.env)).any (·.1)=false:=by rfl) :
  PE X (.Call (.Name x p) (e::es) [] pos) (Mx sp Di E t):=by
 intro pins s σ H Q I h
 refine wpAny_Call_Name_kw (vC I hg hm ?_ hdb)
 refine PySem.W.callWith_K (h₀:=X.base) I.ok.mod.Zr hk (eE (ha pos pins s σ H _ I h) fun us s1 ⟨vs,H1,I1,r,q⟩=>⟨I1.uc,?_⟩) he hpl
 exact K9 F hr hb hd hx I1 r q
theorem QS (F:cA X.prog X.w X.K X.mg X.base CX k f fd ps sp)(hr:iD k X.A)(hg:Gl X x)(hm:X.mg x=some (.ref f))(hk:PySem.W.keepIn X.K (.ref f)=true)(hb:Binds X.K fd ps ds)(hd:Vals Di ds)(hx:Passes CX X E)
  (hdb:(x == ("__debug__" : Str))=false:=by decide):PE X (.Call (.Name x p) [] [] pos) (Mx sp Di E nR):=by
 intro pins s σ H Q I h
 refine wpAny_Call_Name_kw (vC I hg hm ?_ hdb)
 exact PySem.W.callWith_K0 I.uc hk (K9 (us:=[]) F hr hb hd hx I .nil h)
theorem Ur {pl:Sem Bool}(he:PE X o ta)(c:Cls X.K C)(hm:Meth X.K C m f)(F:cA X.prog X.w X.K X.mg X.base CX k f fd ps sp)(hr:iD k X.A)(hb:Binds X.K fd ps ds)(hd:Vals Di ds)(hx:Passes CX X E)(ha:PA X (e::es) t)
  (hst:starEach (e::es) X.env=(false,eval e X.env)::starEach es X.env:=by rfl) (hpl:(backTo pos (starEach es X.env)).any (·.1)=false:=by rfl)
  (ht:eval (.Call (.Attribute o m apos) (e::es) [] pos) X.env=(do
    let ov ←eval o X.env
    standAt apos.atName
    let (f,first) ←holding [ov] (getMethod ov m pl)
    callWith pos f first (backTo pos (starEach (e::es) X.env)) (backToKw pos (keywordEach [] X.env))):=by rfl) :
  PE X (.Call (.Attribute o m apos) (e::es) [] pos) (qu C m sp Di E ta t):=by
 intro pins s σ H Q I h
 refine PySem.W.methodCall_KW (pl:=pl) (eE (he pins s σ H _ I h) fun u s1 ⟨x,H1,I1,rx,a,dx,fs,ex,ea,l,q⟩=>?_) ht
 subst ex
 obtain rfl:u=Value.ref a:=rx
 refine Aa I1 ea c hm l ?_
 refine PySem.W.callWith_K (first:=[.ref a]) (h₀:=X.base) I.ok.mod.Zr hm.kp (eE (ha pos pins s1 σ H1 _ I1 q) fun us s2 ⟨vs,H2,I2,r,q2⟩=>⟨I2.uc,?_⟩) hst hpl
 exact K9 (us:=.ref a::us) (vs:=.ref a::vs) F hr hb hd hx I2 (.cons rfl r) q2
structure Mk (K:PySem.W.Frag)(C f:Addr):Prop where
 makes:PySem.W.makesIn K C=true
 init:PySem.W.findIn K (.ref C) "__init__" = some (some (.ref f))
 fn:PySem.W.isFn K (.ref f)=true
 kp:PySem.W.keepIn K (.ref C)=true
theorem QT {pins:List (Addr×Obj)}{σ:St}{H:Hp}{s:Shared}{Q:VK}{us:List Value}{vs:List V}(M:Mk X.K C f)(F:cA X.prog X.w X.K X.mg X.base CX k f fd ps sp)(hr:iD (k+1) X.A)(hb:Binds X.K fd ps ds)(hd:Vals Di ds)
  (hx:Passes CX X E) (I:Inv X pins σ H s) (r:Vals vs us)
  (h:∀ x dx,H x=none→H dx=none→dx≠x→sp (.ref x::(vs++Di)) (upd (upd H dx (.own x)) x (.ins C dx [])) (fun v H2=>v=.non∧Q (.ref x) H2) E) :
  wpAny (model X.prog X.w) X.A (call (.ref C) us) (EP X pins σ Q) X.xe s:=by
 have hq:=h (s.heap.objs.size+1) s.heap.objs.size (I.hok.fresh (Nat.le_succ _)) (I.hok.fresh (Nat.le_refl _)) (Nat.ne_of_lt (Nat.lt_succ_self _))
 have I2:=Inv.made (C:=C) I
 have r2:Vals (V.ref (s.heap.objs.size+1)::(vs++Di)) (Value.ref (s.heap.objs.size+1)::(us++ds)):=.cons rfl (r.append hd)
 have hl:(Value.ref (s.heap.objs.size+1)::us++ds).length=ps.length:=by
  have e:=r2.length
  rw[F.len _ _ _ _ hq] at e
  exact e.symm
 refine wpAny_call (QL (f:=f) I.uc M.makes M.init (beq_iff_eq.mp M.fn) (codeAny_mono (F.run _ X.stack _ _ ⟨Value.ref (s.heap.objs.size+1)::us,[]⟩ (Value.ref (s.heap.objs.size+1)::(us++ds)) _ _ E (hr.make C us [])
  (I2.env0.make C us []) (hb _ (Value.ref (s.heap.objs.size+1)::us) I2.uc hl) r2 hq) fun r s' hq'=>?_))
 cases r with
 | error e=>exact hx pins σ _ _ e s' I2 hq'
 | ok fl =>
  cases fl with
  | ret u =>
   obtain⟨v,H',I3,rv,ev,q3⟩:=I2.after hq'
   subst ev
   exact⟨rv,⟨V.ref (s.heap.objs.size+1),H',I3,rfl,q3⟩⟩
  | next=>exact False.elim hq'
  | brk=>exact False.elim hq'
  | cont=>exact False.elim hq'
theorem Us (M:Mk X.K C f)(F:cA X.prog X.w X.K X.mg X.base CX k f fd ps sp)(hr:iD (k+1) X.A)(hg:Gl X x)(hm:X.mg x=some (.ref C))(hb:Binds X.K fd ps ds)(hd:Vals Di ds)(hx:Passes CX X E)
  (ha:PA X (e::es) t) (hdb:(x == ("__debug__" : Str))=false:=by decide) (he:starEach (e::es) X.env=(false,eval e X.env)::starEach es X.env:=by rfl) (hpl:(backTo pos (starEach es X.env)).any (·.1)=false:=by rfl) :
  PE X (.Call (.Name x p) (e::es) [] pos) (qR C sp Di E t):=by
 intro pins s σ H Q I h
 refine wpAny_Call_Name_kw (vC I hg hm ?_ hdb)
 refine PySem.W.callWith_K (h₀:=X.base) I.ok.mod.Zr M.kp (eE (ha pos pins s σ H _ I h) fun us s1 ⟨vs,H1,I1,r,q⟩=>⟨I1.uc,?_⟩) he hpl
 exact QT M F hr hb hd hx I1 r q
end
section
variable{X:Cx}{CX:QM}{k:Nat}{f C:Addr}{fd:FuncData}{ps ks:List Str}{sp:Sp}{E:XK}{x m:Str}{p pos apos kpos:Pos}{e o:Expr}{es:List Expr}{kws:List Keyword}{te ta:TE}{t tk:TA}{nm:Option Str}
variable{g:List Value→List Value→List Value}{gV:List V→List V→List V}
end
structure aY (N P:List Str)(sc:Scope):Prop where
 kind:sc.kind=.function
 co:sc.isCoroutine=false
 gen:sc.isGenerator=false
 nd:N.Nodup
 pre:N.take P.length=P
 par:∀ x∈P,sc.names.lookup x=some .local∨sc.names.lookup x=some .cell
 Xk:∀ y∈sc.names,y.2≠.free
theorem Fb {kindOf:Str→Option NameKind}{x:Str}:∀ {binds:List (Str×Value)} {m:Str→Option Value},(∀ v,(x,v)∉binds)→bindL kindOf binds m x=m x
 | [],_,_=>rfl
 | (n,v)::r,m,h=>by
  unfold bindL
  rw[Fb fun w hw=>h w (List.mem_cons_of_mem _ hw)]
  split
  ·have:x≠n:=by rintro rfl;exact h v List.mem_cons_self
   simp[this]
  ·rfl
theorem Fe {kindOf:Str→Option NameKind}{x:Str}:∀ {binds:List (Str×Value)} {m:Str→Option Value},(∀ v,(x,v)∉binds)→bindC kindOf binds m x=m x
 | [],_,_=>rfl
 | (n,v)::r,m,h=>by
  unfold bindC
  rw[Fe fun w hw=>h w (List.mem_cons_of_mem _ hw)]
  split
  ·rfl
  ·have:x≠n:=by rintro rfl;exact h v List.mem_cons_self
   simp[this]
theorem Fg {kindOf:Str→Option NameKind}{x:Str}{v:Value}:∀ {P:List Str} {vs:List Value} {i:Nat} {m:Str→Option Value},P.Nodup→P[i]?=some x→vs[i]?=some v→kindOf x=some .local →
  bindL kindOf (P.zip vs) m x=some v
 | [],_,_,_,_,h,_,_=>by simp at h
 | _::_,[],_,_,_,_,h,_=>by simp at h
 | p::P,w::vs,0,m,nd,h1,h2,hk=>by
  simp at h1 h2;subst h1;subst h2
  show bindL kindOf ((p,w)::P.zip vs) m p=_
  unfold bindL
  rw[Fb fun v hv=>(List.nodup_cons.mp nd).1 (List.of_mem_zip hv).1,if_pos hk]
  simp
 | p::P,w::vs,i+1,m,nd,h1,h2,hk=>by
  show bindL kindOf ((p,w)::P.zip vs) m x=_
  unfold bindL
  exact Fg (i:=i) (List.nodup_cons.mp nd).2 (by simpa using h1) (by simpa using h2) hk
theorem Fi {kindOf:Str→Option NameKind}{x:Str}{v:Value}:∀ {P:List Str} {vs:List Value} {i:Nat} {m:Str→Option Value},P.Nodup→P[i]?=some x→vs[i]?=some v→kindOf x≠some .local →
  bindC kindOf (P.zip vs) m x=some v
 | [],_,_,_,_,h,_,_=>by simp at h
 | _::_,[],_,_,_,_,h,_=>by simp at h
 | p::P,w::vs,0,m,nd,h1,h2,hk=>by
  simp at h1 h2;subst h1;subst h2
  show bindC kindOf ((p,w)::P.zip vs) m p=_
  unfold bindC
  rw[Fe fun v hv=>(List.nodup_cons.mp nd).1 (List.of_mem_zip hv).1,if_neg hk]
  simp
 | p::P,w::vs,i+1,m,nd,h1,h2,hk=>by
  show bindC kindOf ((p,w)::P.zip vs) m x=_
  unfold bindC
  exact Fi (i:=i) (List.nodup_cons.mp nd).2 (by simpa using h1) (by simpa using h2) hk
def start (N:List Str)(vs:List V):St:=vs.map some++List.replicate (N.length-vs.length) none
def La (CX:QM)(P:Program)(w:World)(K:PySem.W.Frag)(mg:Str→Option Value)(base:Heap)(N:List Str)(qual:Str)(scope:Scope)(f:Addr)(cd:Value)(A:Around)(outer:List Env)(s:Shared)(H:Hp)(E:XK):Cx where
 prog:=P
 w:=w
 K:=K
 mg:=mg
 base:=base
 A:=A.deeper (envOfC qual scope s.heap.objs.size f cd)
 N:=N
 s₀:=s
 H₀:=H
 env:=envOfC qual scope s.heap.objs.size f cd
 outer:=outer
 stack:=envOfC qual scope s.heap.objs.size f cd::outer
 ex:=[]
 calm:=true
 fn:=fun _=>true
 pn:=[]
 xe:=fun e s'=>wpAny (model P w) (A.deeper (envOfC qual scope s.heap.objs.size f cd)) (leaving (envOfC qual scope s.heap.objs.size f cd) e) (fun _ s''=>CX outer H s E e s'') (fun e' s''=>CX outer H s E e' s'') s'
theorem Jg {sc:Scope}{n:Nat}{x:Str}(h:sc.names.lookup x=some .cell):∃ c,(cellsFrom n sc.names []).lookup x=some c:=by
 have q:=PySem.W.cellsFrom_some sc.names n [] (.inl h)
 exact Option.isSome_iff_exists.mp q
theorem Ou {CX:QM}{P:Program}{w:World}{K:PySem.W.Frag}{mg:Str→Option Value}{base:Heap}{N ps:List Str}{qual:Str}{scope:Scope}{f:Addr}{cd:Value}{A:Around}{outer:List Env}{s s1:Shared}{H:Hp}{E:XK}{us:List Value}{vs:List V}
  (S:aY N ps scope) (hd:A.handled=none) (e0:K8 P w K mg base A outer s H) (hl:vs.length=ps.length) (r:Vals vs us)
  (x:InCallC s s.heap.objs.size (bindL (envOfC qual scope s.heap.objs.size f cd).kindOf (ps.zip us) fun _=>none) (cellsFrom (s.heap.objs.size+1) scope.names []) (bindC (envOfC qual scope s.heap.objs.size f cd).kindOf (ps.zip us) fun _=>none) s1) :
  Inv (La CX P w K mg base N qual scope f cd A outer s H E) [] (start N vs) H s1:=by
 have hpl:ps.length≤N.length:=by have:=congrArg List.length S.pre;rw[List.length_take] at this;omega
 obtain⟨h1,tk,rfl,hk⟩:=x.done
 have ZQ:∀ b:Addr,b∉(La CX P w K mg base N qual scope f cd A outer s H E).ex:=fun b z=>absurd (show b∈([]:List Addr) from z) (by simp)
 refine⟨⟨e0.mod,S.kind,rfl,rfl,Nat.le_refl _,fun y z c h1 h2=>?_,fun y hy=>?_,fun y c _ h=>?_,fun _=>hd,Around.frames_deeper e0.frames,.inr ⟨rfl,rfl⟩,fun b z=>absurd z (ZQ b),e0.bs,e0.Qt,fun b _ _=>ZQ b,fun b z=>absurd z (ZQ b),e0.wO,e0.Wa⟩,
  rfl,e0.bare,Un.kept hk,⟨_,x.toInCall.ns,fun i y v h1 h2 h3=>?_⟩,fun y c h=>⟨_,x.cell y c h⟩,e0.hok.fresh (Nat.le_refl _),fun y c h=>?_,fun p hp=>absurd (show p∈([]:List (Addr×Obj)) from hp) (by simp),e0.hok.kept hk,?_⟩
 ·exact name_of_addr x.apart (PySem.mem_of_lookup h1) (PySem.mem_of_lookup h2)
 ·have hy:scope.names.lookup y=some .cell∨scope.names.lookup y=some .free:=hy
  rcases hy with hy|hy
  ·exact Jg hy
  ·exact absurd rfl (S.Xk _ (PySem.mem_of_lookup hy))
 ·exact Nat.le_of_lt (x.above y c (PySem.mem_of_lookup h))
 ·have hi:i<vs.length:=by
   unfold start at h2
   by_cases hi:i<vs.length
   ·exact hi
   ·rw[List.getElem?_append_right (by simpa using hi)] at h2
    rw[List.getElem?_replicate] at h2
    split at h2<;>cases h2
  have ha:vs[i]?=some v:=by
   unfold start at h2
   rw[List.getElem?_append_left (by simpa using hi),List.getElem?_map] at h2
   cases e:vs[i]? with
   | none=>rw[e] at h2;cases h2
   | some a=>rw[e] at h2;cases h2;rfl
  obtain⟨u,hu,rv⟩:=r.get ha
  have hp:ps[i]?=some y:=by
   rw[←S.pre,List.getElem?_take_of_lt (by omega)];exact h1
  have ndP:ps.Nodup:=by rw[←S.pre];exact S.nd.sublist (List.take_sublist _ _)
  refine⟨u,rv,?_⟩
  rcases S.par y (List.mem_of_getElem? hp) with k|k
  ·exact .inl ⟨k,Fg ndP hp hu k⟩
  ·obtain⟨c,e⟩:=Jg (n:=s.heap.objs.size+1) k
   refine .inr ⟨.inl k,c,e,?_⟩
   have q:=x.cell y c e
   rw[Fi ndP hp hu (by show scope.names.lookup y≠_;rw[k];decide)] at q
   exact q
 ·exact e0.hok.fresh (Nat.le_of_lt (x.above y c (PySem.mem_of_lookup h)))
 ·unfold start
  show _=N.length
  rw[List.length_append,List.length_map,List.length_replicate]
  omega
theorem Wi {CX:QM}{P:Program}{w:World}{K:PySem.W.Frag}{mg:Str→Option Value}{base:Heap}{k:Nat}{f:Addr}{name qual:Str}{params:Arguments}{body:List Stmt}{scope:Scope}{dV kV doc pm cdv ct oc:Value}{an od:Option Addr}
  {osl:Array (Option Value)} {N ps:List Str} {sp:Sp} (lk:K.lookup f=some ⟨oc,od,.func (PySem.W.fnOf name qual params body scope dV kV doc pm an cdv ct),osl⟩) (hcd:PySem.W.codeIn K cdv qual=true) (S:aY N ps scope)
  (len:∀ vs H Q E,sp vs H Q E→vs.length=ps.length)
  (hbody:∀ (A:Around) (outer:List Env) (s:Shared) (H:Hp) (vs:List V) (Q:VK) (E:XK),iD k (A.deeper (envOfC qual scope s.heap.objs.size f cdv))→sp vs H Q E →
    ∃ t,KY (La CX P w K mg base N qual scope f cdv A outer s H E) body t∧t { nx:=fun _ H'=>Q .non H',rt:=Q } (start N vs) H) :
  cA P w K mg base CX (k+1) f (PySem.W.fnOf name qual params body scope dV kV doc pm an cdv ct) ps sp:=by
 refine⟨len,fun A outer s H args us vs Q E hr e0 hb r hsp=>?_⟩
 have hl:=len _ _ _ _ hsp
 have KX:K.In s.heap:=e0.mod.Zr.keeps fun b o e=>(e0.bs b o e).1
 have lim:s.heap.NoLimit:=e0.mod.nolimit.keeps fun b o e=>(e0.bs b o e).1
 have hkind:∀ y∈ps.zip us,scope.names.lookup y.1=some .local∨(scope.names.lookup y.1=some .cell∧((cellsFrom (s.heap.objs.size+1) scope.names []).lookup y.1).isSome=true):=fun⟨n,v⟩ hy=>by
  rcases S.par n (List.of_mem_zip hy).1 with q|q
  ·exact .inl q
  ·exact .inr ⟨q,PySem.W.cellsFrom_some _ _ _ (.inl q)⟩
 refine codeAny_call_function hr.depth (KX _ _ lk) rfl S.co S.gen rfl (PySem.W.codeRec_of KX hcd) (hb _ _ _ _ ?_)
 refine wpAny_newFunctionEnv_cells S.kind hkind fun env he s1 x=>?_
 subst he
 refine⟨lim.keeps x.toInCall.keep,codeAny_func ?_⟩
 obtain⟨t,ht,hq⟩:=hbody A outer s H vs Q E (hr.deeper _) hsp
 have I:Inv (La CX P w K mg base N qual scope f cdv A outer s H E) [] (start N vs) H s1:=Ou S hr.hd e0 hl r x
 refine wpAny_mono (ht [] s1 (start N vs) H _ I hq) (fun fl s' hs=>?_) fun e s' hs=>hs
 have fin:∀ {σ':St} {H':Hp} {v:V} {u:Value},Inv (La CX P w K mg base N qual scope f cdv A outer s H E) [] σ' H' s'→RelV v u→Q v H'→CE outer P w H s Q u s' :=
  fun {σ' H' v u} J rv q=>⟨v,H',J.os,J.bare,J.base,J.hok,rv,q⟩
 cases fl with
 | ret u =>
  obtain⟨v,σ',H',J,rv,q⟩:=hs
  exact fin J rv q
 | next =>
  obtain⟨σ',H',J,q⟩:=hs
  exact fin (v:=V.non) (u:=Value.none) J rfl q
 | brk =>
  obtain⟨_,_,_,q⟩:=hs
  exact False.elim q
 | cont =>
  obtain⟨_,_,_,q⟩:=hs
  exact False.elim q
section
variable{X:Cx}{x:Str}{p pos:Pos}{e:Expr}{es:List Expr}{t:TA}{id T:String}{r:List V→Hp→VK→Prop}
def tCB (r:List V→Hp→VK→Prop)(t:TA):TE:=fun σ H Q=>t σ H fun vs H1=>r vs H1 Q
theorem aK (hc:iu X (.builtin id) r)(hg:Gl X x)(hm:X.mg x=none)(hv:bootBuiltins x=some (.builtin id))(ha:PA X (e::es) t)(hn:x ≠ "__name__" := by decide)(hdb:(x == ("__debug__" : Str))=false:=by decide)
  (he:starEach (e::es) X.env=(false,eval e X.env)::starEach es X.env:=by rfl) (hpl:(backTo pos (starEach es X.env)).any (·.1)=false:=by rfl):PE X (.Call (.Name x p) (e::es) [] pos) (tCB r t):=by
 intro pins s σ H Q I h
 refine wpAny_Call_Name_kw (pI I hg hm hv ?_ hn hdb)
 exact PyProof.Rows.callWith_builtin1 (eE (ha pos pins s σ H _ I h) fun us s1 ⟨vs,H1,I1,r1,q1⟩=>hc pins s1 σ H1 vs us Q I1 r1 q1) he hpl
theorem fJ (hc:iu X (.type T) r)(hg:Gl X x)(hm:X.mg x=none)(hv:bootBuiltins x=some (.type T))(ha:PA X (e::es) t)(hn:x ≠ "__name__" := by decide)(hdb:(x == ("__debug__" : Str))=false:=by decide)
  (he:starEach (e::es) X.env=(false,eval e X.env)::starEach es X.env:=by rfl) (hpl:(backTo pos (starEach es X.env)).any (·.1)=false:=by rfl):PE X (.Call (.Name x p) (e::es) [] pos) (tCB r t):=by
 intro pins s σ H Q I h
 refine wpAny_Call_Name_kw (pI I hg hm hv ?_ hn hdb)
 exact PyProof.Rows.callWith_type1 (eE (ha pos pins s σ H _ I h) fun us s1 ⟨vs,H1,I1,r1,q1⟩=>hc pins s1 σ H1 vs us Q I1 r1 q1) he hpl
end
end L2
namespace HT
open PySem PyProof.Rows
section
open PySem.SeqAt
open PySem.AutoSeq1 (wpAny_loadPart')
open PySem.MeetsSeq PySem.MeetsSeq2 PySem.MeetsSeq3
end
section
variable{prog:Program}{w:World}{A:Around}{E:Value→Shared→Prop}{s:Shared}
def Jh (n d:Nat):Option Int→Nat
 | none=>d
 | some v=>if v<0 then (v+(n:Int)).toNat else min v.toNat n
theorem Ac (n d:Nat):Jh n d none=d:=rfl
theorem tD (n d k:Nat):Jh n d (some (k:Int))=min k n:=by
 show (if (k:Int)<0 then ((k:Int)+(n:Int)).toNat else min (k:Int).toNat n)=min k n
 rw[if_neg (by omega),Int.toNat_natCast]
end
end HT
namespace L2
open PySem PySem.Spec PyProof.Rows
abbrev TO:=St→Hp→(Option Int→Hp→Prop)→Prop
def PO (X:Cx)(e:Option Expr)(t:TO):Prop :=
 ∀ (pins:List (Addr×Obj)) (s:Shared) (σ:St) (H:Hp) (Q:Option Int→Hp→Prop),Inv X pins σ H s→t σ H Q →
  wpAny (model X.prog X.w) X.A (evalPart e X.env) (fun u s'=>∃ o H',Inv X pins σ H' s'∧IsPart u o∧Q o H') X.xe s
def Ut:TO:=fun _ H Q=>Q none H
def ZR (t:TE):TO:=fun σ H Q=>t σ H fun x H1=>∃ i,x=.int i∧Q (some i) H1
theorem intsAre_of {ns:List Int}:∀ {us:List Value},Vals (ns.map V.int) us→IntsAre us ns:=by
 induction ns with
 | nil=>intro us r;rw[List.map_nil] at r;cases r;exact .nil
 | cons n ns ih =>
  intro us r
  rw[List.map_cons] at r
  cases r with
  | cons r1 r2 =>
   obtain⟨t,e⟩:=r1
   subst e
   exact .cons n t (ih r2)
section
variable{X:Cx}{e:Expr}{te:TE}{lo hi:Option Expr}{tl th:TO}{pos p2:Pos}
theorem cZ:PO X none Ut:=by
 intro pins s σ H Q I h
 rw[evalPart_none]
 exact wpAny_pure ⟨none,H,I,.none,h⟩
theorem cH (h:PE X e te):PO X (some e) (ZR te):=by
 intro pins s σ H Q I hw
 rw[evalPart_some]
 refine eE (h pins s σ H _ I hw) fun u s1 ⟨x,H1,I1,r1,q1⟩=>?_
 obtain⟨i,rfl,q⟩:=q1
 obtain⟨t,rfl⟩:=r1
 exact⟨some i,H1,I1,.int i t,q⟩
def SlR (X:Cx)(r:V→Option Int→Option Int→Hp→VK→Prop):Prop :=
 ∀ (pins:List (Addr×Obj)) (s:Shared) (σ:St) (H:Hp) (x:V) (v vl vu:Value) (lo hi:Option Int) (sl:Addr) (Q:VK),Inv X pins σ H s→RelV x v→s.heap.IsSliceOf sl vl vu .none→IsPart vl lo→IsPart vu hi→r x lo hi H Q →
  ∃ T id,typeLookup (.type T) "__getitem__" = pure (some (.builtin id))∧s.TypeIs v T∧wpAny (model X.prog X.w) X.A (getItem v (.ref sl)) (EP X pins σ Q) X.xe s
def tSl (r:V→Option Int→Option Int→Hp→VK→Prop)(te:TE)(tl th:TO):TE:=fun σ H Q=>te σ H fun x H1=>tl σ H1 fun l H2=>th σ H2 fun u H3=>r x l u H3 Q
theorem QV {r:V→Option Int→Option Int→Hp→VK→Prop}(hr:SlR X r)(he:PE X e te)(hl:PO X lo tl)(hu:PO X hi th):PE X (.Subscript e (.Slice lo hi none p2) pos) (tSl r te tl th):=by
 intro pins s σ H Q I h
 refine Subscript_ (eE (he pins s σ H _ I h) fun v s1 ⟨x,H1,I1,r1,q1⟩=>?_)
 refine wpAny_Slice (eE (hl pins s1 σ H1 _ I1 q1) fun vl s2 ⟨l,H2,I2,pl,q2⟩=>eE (hu pins s2 σ H2 _ I2 q2) fun vu s3 ⟨u,H3,I3,pu,q3⟩=>?_)
 rw[evalPart_none]
 refine wpAny_pure ?_
 have I4:Inv X pins σ H3 { s3 with heap:=s3.heap.push { cls:=.type "slice",data:=.fields #[vl,vu,.none] } }:=I3.kept (t':=s3.toks) fun b ob q=>Heap.get?_push_of_some _ q
 obtain⟨T,id,hT,ht,hg⟩:=hr pins { s3 with heap:=s3.heap.push { cls:=.type "slice",data:=.fields #[vl,vu,.none] } } σ H3 x v vl vu l u s3.heap.objs.size Q I4 r1 (Heap.IsSliceOf.new ..) pl pu q3
 show wpAny (model X.prog X.w) X.A (subscriptTail e (.Slice lo hi none p2) v (.ref s3.heap.objs.size)) (EP X pins σ Q) X.xe { s3 with heap:=s3.heap.push { cls:=.type "slice",data:=.fields #[vl,vu,.none] } }
 exact tail_any (ops:=[.ref s3.heap.objs.size,v]) ht hT hg (by with_unfolding_all rfl)
def fV (xs:List V)(lo hi:Option Int):List V:=(xs.drop (HT.Jh xs.length 0 lo)).take (HT.Jh xs.length xs.length hi-HT.Jh xs.length 0 lo)
theorem dD (xs:List V)(lo hi:Option Int):(fV xs lo hi).length≤xs.length:=by
 unfold fV
 rw[List.length_take,List.length_drop]
 omega
end
def QW (n:Nat)(i:Int):Option Nat:=if 0≤i then (if i<n then some i.toNat else none) else if -(n:Int)≤i then some (i+n).toNat else none
def Ja {α:Type}(xs:List α)(i:Int):Option α:=(QW xs.length i).bind fun j=>xs[j]?
theorem Mz {n:Nat}{i:Int}{j:Nat}(h:QW n i=some j):seqIndex? i n=some j∧j<n∧-(n:Int)≤i∧i<n:=by
 unfold QW at h
 by_cases h0:0≤i
 ·rw[if_pos h0] at h
  by_cases h1:i<n
  ·rw[if_pos h1] at h
   have e:i.toNat=j:=Option.some.inj h
   exact⟨by rw[seqIndex_of h0 h1,e],by omega,by omega,h1⟩
  ·rw[if_neg h1] at h;cases h
 ·rw[if_neg h0] at h
  by_cases h1 : -(n:Int)≤i
  ·rw[if_pos h1] at h
   have e:(i+n).toNat=j:=Option.some.inj h
   exact⟨by rw[seqIndex_neg (by omega) h1,e],by omega,h1,by omega⟩
  ·rw[if_neg h1] at h;cases h
theorem MF {α:Type}{xs:List α}{i:Int}{v:α}(h:Ja xs i=some v):∃ j,seqIndex? i xs.length=some j∧xs[j]?=some v∧j<xs.length∧-(xs.length:Int)≤i∧i<xs.length:=by
 unfold Ja at h
 cases e:QW xs.length i with
 | none=>rw[e] at h;cases h
 | some j =>
  rw[e] at h
  obtain⟨h1,h2,h3,h4⟩:=Mz e
  exact⟨j,h1,h,h2,h3,h4⟩
theorem Uu {α:Type}{xs:List α}{j:Nat}{v:α}(h:xs[j]?=some v):Ja xs (j:Int)=some v:=by
 have hj:j<xs.length:=(List.getElem?_eq_some_iff.mp h).1
 have e:QW xs.length (j:Int)=some j:=by
  unfold QW
  rw[if_pos (by omega),if_pos (by omega)];simp
 unfold Ja;rw[e];exact h
def Uv (b:Expr):Prop:=∀ o i,subscripted b false o i=operate [o,i] (getItem o i)
def ZS (X:Cx)(r:R2):Prop :=
 ∀ (value slice:Expr) (pins:List (Addr×Obj)) (s:Shared) (σ:St) (H:Hp) (x y:V) (v u:Value) (Q:VK),Inv X pins σ H s→RelV x v→RelV y u→r x y H Q →
  subscripted slice false v u=operate [v,u] (getItem v u)→wpAny (model X.prog X.w) X.A (subscriptTail value slice v u) (EP X pins σ Q) X.xe s
def MtR (X:Cx)(id:String)(r:V→List V→Hp→VK→Prop):Prop :=
 ∀ (pins:List (Addr×Obj)) (s:Shared) (σ:St) (H:Hp) (x:V) (xs:List V) (v:Value) (us:List Value) (Q:VK),Inv X pins σ H s→RelV x v→Vals xs us→r x xs H Q →
  wpAny (model X.prog X.w) X.A (call (.builtin id) (v::us)) (EP X pins σ Q) X.xe s
section
variable{X:Cx}{a b:Expr}{ta tb:TE}{pos:Pos}
theorem aH {r:R2}(hr:ZS X r)(ha:PE X a ta)(hb:PE X b tb)(hs:Uv b):PE X (.Subscript a b pos) (ZJ r ta tb):=by
 intro pins s σ H Q I h
 exact Subscript_ (Xh ha hb I h fun v u s2 x y H2 I2 rx ry q=>hr a b pins s2 σ H2 x y v u Q I2 rx ry q (hs _ _))
def ZV (K:PySem.W.Frag):R2:=fun x y H Q=>∃ p xs i v,x=.ref p∧y=.int i∧aQ K H p xs∧Ja xs i=some v∧Q v H
def ZW (K:PySem.W.Frag):R2:=fun x y H Q=>∃ p xs i v,x=.ref p∧y=.int i∧cT K H p xs∧Ja xs i=some v∧Q v H
theorem Uw:ZS X (ZV X.K):=by
 intro value slice pins s σ H x y v u Q I rx ry h hs
 obtain⟨p,xs,i,z,rfl,rfl,hq,he,q⟩:=h
 cases rx
 obtain⟨t,rfl⟩:=ry
 obtain⟨its,r,pl,hz⟩:=I.list hq
 obtain⟨j,h1,h2,h3,h4,h5⟩:=MF he
 obtain⟨w,ew,T4⟩:=r.get h2
 have hl:=r.length
 have hn:=Gp
 have fin:EP X pins σ Q w s:=⟨z,H,I,T4,q⟩
 by_cases h0:0≤i
 ·have hj:i.toNat=j:=by
   rw[seqIndex_of h0 h5] at h1
   exact Option.some.inj h1
  exact item_listR pl.isList h0 (by omega) (by rw[hj];simpa using ew) fin hs
 ·have hj:(i+(its.toArray.size:Int)).toNat=j:=by
   rw[seqIndex_neg (by omega) h4] at h1
   rw[List.size_toArray,←hl]
   exact Option.some.inj h1
  exact subscriptTail_builtinR (x:=w) pl.isList.typeIs slot_list_getitem.lookup
   (wpAny_getItem_list_neg (Q:=fun r s'=>r=w∧EP X pins σ Q r s') pl.isList (by omega) (by rw[List.size_toArray]<;>omega) (by omega) (by rw[hj];simpa using ew) ⟨rfl,fin⟩) hs
theorem Xl:ZS X (ZW X.K):=by
 intro value slice pins s σ H x y v u Q I rx ry h hs
 obtain⟨p,xs,i,z,rfl,rfl,hq,he,q⟩:=h
 cases rx
 obtain⟨t,rfl⟩:=ry
 obtain⟨its,r,pl,hz⟩:=I.tuple hq
 obtain⟨j,h1,h2,h3,h4,h5⟩:=MF he
 obtain⟨w,ew,T4⟩:=r.get h2
 have hl:=r.length
 have hn:=Gp
 have fin:EP X pins σ Q w s:=⟨z,H,I,T4,q⟩
 exact subscriptTail_builtinR (x:=w) pl.typeIs slot_tuple_getitem.lookup
  (getItem_tuple (j:=j) (Q:=fun r s'=>r=w∧EP X pins σ Q r s') pl (by omega) (by omega) (by rw[List.size_toArray,←hl];exact h1) (by simpa using ew) ⟨rfl,fin⟩) hs
theorem Lb (its:List Value)(n j:Nat)(u:Value):Obj.mapSeq (·.setIfInBounds j u) { cls:=.type "list",data:=.seq its.toArray n }={ cls:=.type "list",data:=.seq (its.set j u).toArray n }:=by
 simp[Obj.mapSeq]
theorem Inv.lst {pins:List (Addr×Obj)}{σ:St}{H:Hp}{s:Shared}{p:Addr}{xs:List V}(I:Inv X pins σ H s)(h:H p=some (.lst xs)):
  ∃ (its:List Value) (n:Nat),Vals xs its∧s.heap.get? p=some { cls:=.type "list",data:=.seq its.toArray n }∧xs.length≤sizeLine:=by
 obtain⟨z,its,n,r,e⟩:=I.hok p _ h
 exact⟨its,n,r,e,z⟩
theorem Inv.Xm {pins:List (Addr×Obj)}{σ:St}{H:Hp}{s:Shared}{p:Addr}{xs ys:List V}{its its':List Value}{n n':Nat}{f:Obj→Obj}(I:Inv X pins σ H s)(h:H p=some (.lst xs))
  (ho:s.heap.get? p=some { cls:=.type "list",data:=.seq its.toArray n }) (hf:f { cls:=.type "list",data:=.seq its.toArray n }={ cls:=.type "list",data:=.seq its'.toArray n' }) (r:Vals ys its') (hz:ys.length≤sizeLine) (t:Nat) :
  Inv X pins σ (upd H p (.lst ys)) { s with heap:=s.heap.update p f,toks:=t }:=by
 have e:(s.heap.update p f).get? p=some { cls:=.type "list",data:=.seq its'.toArray n' }:=by
  rw[Heap.get?_update_self f ho (by rw[hf]<;>rfl),hf]
 refine I.write (x:=p) (e:=p) (by rw[h];trivial) (.inl rfl) (fun b u hb q=>(Heap.get?_update_other _ _ (Ne.symm hb)).trans q) ⟨_,e⟩ ?_
 exact⟨hz,its',n',r,e⟩
def ZX:V→V→V→Hp→(Hp→Prop)→Prop:=fun o i v H Q=>∃ p xs k j,o=.ref p∧i=.int k∧H p=some (.lst xs)∧QW xs.length k=some j∧Q (upd H p (.lst (xs.set j v)))
theorem set_list:ZD X ZX:=by
 intro pins s σ H o i v ov iv u Q I ro ri rv h
 obtain⟨p,xs,k,j,rfl,rfl,hp,hj,q⟩:=h
 cases ro
 obtain⟨t,rfl⟩:=ri
 obtain⟨its,n,r,ho,hz⟩:=I.lst hp
 obtain⟨h1,h2,h3,h4⟩:=Mz hj
 have hl:=r.length
 have hn:=Gp
 have I':Inv X pins σ (upd H p (.lst (xs.set j v))) { s with heap:=s.heap.update p (Obj.mapSeq (·.setIfInBounds j u)) } :=
  I.Xm hp ho (Lb its n j u) (r.set rv j) (by rw[List.length_set];exact hz) s.toks
 by_cases h0:0≤k
 ·have hk:k.toNat=j:=by
   rw[seqIndex_of h0 h4] at h1
   exact Option.some.inj h1
  exact PySem.W.ki_setAt ho h0 (by omega) (by rw[List.size_toArray,←hl];exact h4) (by rw[hk];exact⟨_,I',q⟩)
 ·have hk:(k+(its.toArray.size:Int)).toNat=j:=by
   rw[seqIndex_neg (by omega) h3] at h1
   rw[List.size_toArray,←hl]
   exact Option.some.inj h1
  exact PySem.W.ki_setBack ho (by omega) (by rw[List.size_toArray,←hl];exact h3) (by omega) (by rw[hk];exact⟨_,I',q⟩)
theorem Gs (lo hi:Option Int)(n:Nat):(sliceBounds lo hi none n).1=((HT.Jh n 0 lo:Nat):Int)∧(sliceBounds lo hi none n).2.1=((HT.Jh n n hi:Nat):Int)∧(sliceBounds lo hi none n).2.2=1:=by
 refine⟨?_,?_,rfl⟩
 ·cases lo with
  | none=>simp[sliceBounds,HT.Jh]
  | some i =>
   simp only[sliceBounds,HT.Jh,Option.getD_none,show (1:Int) > 0 by decide,if_true]
   by_cases h:i<0
   ·simp only[h,if_true]<;>omega
   ·simp only[h,if_false]<;>omega
 ·cases hi with
  | none=>simp[sliceBounds,HT.Jh]
  | some i =>
   simp only[sliceBounds,HT.Jh,Option.getD_none,show (1:Int) > 0 by decide,if_true]
   by_cases h:i<0
   ·simp only[h,if_true]<;>omega
   ·simp only[h,if_false]<;>omega
theorem Dj (its:List Value)(lo hi:Option Int):slicePick its.toArray lo hi none=((its.drop (HT.Jh its.length 0 lo)).take (HT.Jh its.length its.length hi-HT.Jh its.length 0 lo)).toArray:=by
 obtain⟨h1,h2,h3⟩:=Gs lo hi its.toArray.size
 unfold slicePick
 rw[h1,h2,h3]
 simp only[sliceRange_one,pick_run,List.size_toArray]<;>rfl
def Z0 (K:PySem.W.Frag):V→Option Int→Option Int→Hp→VK→Prop:=fun x lo hi H Q=>∃ a xs,x=.ref a∧aQ K H a xs∧∀ p,H p=none→Q (.ref p) (upd H p (.lst (fV xs lo hi)))
theorem Ux:SlR X (Z0 X.K):=by
 intro pins s σ H x v vl vu lo hi sl Q I rx hs pl pu h
 obtain⟨a,xs,rfl,hx,q⟩:=h
 cases rx
 obtain⟨its,r,ht,hz⟩:=I.list hx
 have hlen:=r.length
 refine⟨"list",_,slot_list_getitem.lookup,ht.isList.typeIs,?_⟩
 refine wpAny_getItem_list_slice ht.isList hs pl pu .none (by simp) ?_ (by rw[List.size_toArray]<;>omega)
 rw[Dj,←hlen]
 refine⟨.ref s.heap.objs.size,_,I.laid (t':=s.toks) (o:=.lst (fV xs lo hi)) (fun b ob q=>Heap.get?_push_of_some _ q) (Nat.le_refl _) ?_,rfl,q _ (I.hok.fresh (Nat.le_refl _))⟩
 exact⟨Nat.le_trans (dD xs lo hi) hz,_,0,(r.drop (HT.Jh xs.length 0 lo)).take (HT.Jh xs.length xs.length hi-HT.Jh xs.length 0 lo),Heap.get?_push_size _ rfl⟩
theorem Gu:iu X (.builtin "len") (fun xs H Q=>∃ p ys,xs=[.ref p]∧(aQ X.K H p ys∨cT X.K H p ys)∧Q (.int ys.length) H):=by
 intro pins s σ H xs us Q I r h
 obtain⟨p,ys,rfl,hq,q⟩:=h
 obtain⟨u,rfl,rx⟩:=vals1 r
 cases rx
 have hn:=Gp
 rcases hq with hq|hq
 ·obtain⟨its,r',pl,hz⟩:=I.list hq
  have hlen:=r'.length
  exact Calls.call_len_list pl.isList (by simp only[List.size_toArray]<;>omega) ⟨.int ys.length,H,I.tok _,⟨s.toks+1,by rw[List.size_toArray,hlen]⟩,q⟩
 ·obtain⟨its,r',pl,hz⟩:=I.tuple hq
  have hlen:=r'.length
  exact len_tuple pl (by simp only[List.size_toArray]<;>omega) ⟨.int ys.length,H,I.tok _,⟨s.toks+1,by rw[List.size_toArray,hlen]⟩,q⟩
theorem Gv:iu X (.type "list") (fun xs H Q=>∃ p ys,xs=[.ref p]∧(aQ X.K H p ys∨cT X.K H p ys)∧∀ l,H l=none→Q (.ref l) (upd H l (.lst ys))):=by
 intro pins s σ H xs us Q I r h
 obtain⟨p,ys,rfl,hq,q⟩:=h
 obtain⟨u,rfl,rx⟩:=vals1 r
 cases rx
 have fin:∀ (its:List Value),Vals ys its→ys.length≤sizeLine→∀ (h':Heap) (c':Nat),(∀ b o',s.heap.get? b=some o'→h'.get? b=some o') →
   h'.get? s.heap.objs.size=some { cls:=.type "list",dict:=none,data:=.seq its.toArray c',slots:=#[] }→EP X pins σ Q (.ref s.heap.objs.size) { s with heap:=h' }:=fun its r' hz h' c' kp e =>
  ⟨.ref s.heap.objs.size,_,I.laid (t':=s.toks) kp (Nat.le_refl _) (show dG X.prog X.w _ h' _ (.lst ys) from ⟨hz,its,c',r',e⟩),rfl,q _ (I.hok.fresh (Nat.le_refl _))⟩
 rcases hq with hq|hq
 ·obtain⟨its,r',pl,hz⟩:=I.list hq
  have hlen:=r'.length
  obtain⟨o,ho,hc,n,hd⟩:=pl.isList
  exact call_list_seq p (.inl rfl) ho hc hd (fun h' c' kp e=>fin its r' hz h' c' kp e) (by simp only[List.size_toArray]<;>omega)
 ·obtain⟨its,r',pl,hz⟩:=I.tuple hq
  have hlen:=r'.length
  obtain⟨o,ho,hc,n,hd⟩:=pl
  exact call_list_seq p (.inr rfl) ho hc hd (fun h' c' kp e=>fin its r' hz h' c' kp e) (by simp only[List.size_toArray]<;>omega)
def tyV (K:PySem.W.Frag)(T:String)(x:V)(H:Hp):Prop:=match x with
 | .str _=>T = "str"
 | .int _=>T = "int"
 | .ref p=>(T = "list" ∧ ∃ xs,aQ K H p xs)∨(T = "tuple" ∧ ∃ o,K.lookup p=some o∧o.cls=.type "tuple" ∧ o.dict=none) ∨
   (T = "dict" ∧ ((∃ kvs,H p=some (.dK kvs))∨∃ kvs,H p=some (.dT kvs)))∨(T = "set" ∧ ∃ S n,H p=some (.set S n))
 | _=>False
theorem QX {pins:List (Addr×Obj)}{σ:St}{H:Hp}{s:Shared}{T:String}{x:V}{v:Value}(I:Inv X pins σ H s)(r:RelV x v)(ty:tyV X.K T x H):
  s.TypeIs v T∧∀ a,v=.ref a→∃ ob,s.heap.get? a=some ob∧ob.dict=none:=by
 cases x with
 | str z =>
  obtain⟨t,rfl⟩:=r
  cases (show T = "str" from ty)
  exact⟨typeIs_str s z t,fun _ e=>nomatch e⟩
 | int i =>
  obtain⟨t,rfl⟩:=r
  cases (show T = "int" from ty)
  exact⟨typeIs_int s i t,fun _ e=>nomatch e⟩
 | ref p =>
  cases r
  rcases ty with⟨rfl,xs,hq⟩|⟨rfl,o,hk,hc,hd⟩|⟨rfl,hk⟩|⟨rfl,S,n,hk⟩
  ·obtain⟨its,_,pl,_⟩:=I.list hq
   refine⟨pl.isList.typeIs,fun a e=>?_⟩
   cases e
   obtain⟨o,n,e,c,hd,_⟩:=pl
   exact⟨o,e,hd⟩
  ·refine⟨⟨o,I.uc p o hk,hc⟩,fun a e=>?_⟩
   cases e
   exact⟨o,I.uc _ o hk,hd⟩
  ·have z:∃ o,s.heap.get? p=some o∧o.ExactDict:=by
    rcases hk with⟨kvs,hk⟩|⟨kvs,hk⟩
    ·obtain⟨_,_,_,_,o,_,_,e,ex,_⟩:=I.hok p _ hk
     exact⟨o,e,ex⟩
    ·obtain⟨_,_,_,_,o,_,_,e,ex,_⟩:=I.hok p _ hk
     exact⟨o,e,ex⟩
   obtain⟨o,e,ex⟩:=z
   refine⟨⟨o,e,ex.1⟩,fun a e2=>?_⟩
   cases e2
   exact⟨o,e,ex.2.1⟩
  ·obtain⟨o,_,_,_,e,ex,_⟩:=I.hok p _ hk
   refine⟨⟨o,e,ex.1⟩,fun a e2=>?_⟩
   cases e2
   exact⟨o,e,ex.2.1⟩
 | _=>exact False.elim ty
def agj (K:PySem.W.Frag)(T:String)(r:V→List V→Hp→VK→Prop)(to:TE):TE:=fun σ H Q=>to σ H fun x H1=>tyV K T x H1∧r x [] H1 Q
def tBM (K:PySem.W.Frag)(T:String)(r:V→List V→Hp→VK→Prop)(to:TE)(t:TA):TE:=fun σ H Q=>to σ H fun x H1=>tyV K T x H1∧t σ H1 fun xs H2=>r x xs H2 Q
variable{o e:Expr}{es:List Expr}{to:TE}{t:TA}{name:Str}{apos cpos:Pos}{T id:String}{r:V→List V→Hp→VK→Prop}
theorem QZ (pa:PlainAttrs T)(slot:Slot T name id)(hty:typeOf (.builtin id)=pure (.type "method_descriptor"))(hm:MtR X id r)(ho:PE X o to)
  (hbase:attributeBase o name X.env (eval o X.env)=eval o X.env:=by rfl) (hline:(apos.endLine == cpos.line)=true:=by rfl):PE X (.Call (.Attribute o name apos) [] [] cpos) (agj X.K T r to):=by
 intro pins s σ H Q I h
 refine wpAny_Call_method0_late hbase hline (eE (ho pins s σ H _ I h) fun v s1 ⟨x,H1,I1,r1,ty,q1⟩=>?_)
 obtain⟨h1,h2⟩:=QX I1 r1 ty
 exact⟨T,id,pa,slot,hty,h1,h2,Calls.callWith_builtin rfl (PySem.evalArgs_none (hm pins s1 σ H1 x [] v [] Q I1 r1 .nil q1))⟩
theorem Fj (pa:PlainAttrs T)(slot:Slot T name id)(hty:typeOf (.builtin id)=pure (.type "method_descriptor"))(hm:MtR X id r)(ho:PE X o to)(ha:PA X (e::es) t)
  (hbase:attributeBase o name X.env (eval o X.env)=eval o X.env:=by rfl)
  (hfew:((backTo cpos (starEach (e::es) X.env)).all (fun x=>!x.1) && (backToKw cpos (keywordEach [] X.env)).all (fun x=>x.1.isSome)
    && decide ((e::es).length+([]:List Keyword).length+(if ([]:List Keyword).isEmpty then 0 else 1)<30))=true:=by rfl)
  (hline:(apos.endLine == cpos.line)=true:=by rfl) (hs:starEach (e::es) X.env=(false,eval e X.env)::starEach es X.env:=by rfl) (hplain:(backTo cpos (starEach es X.env)).any (·.1)=false:=by rfl) :
  PE X (.Call (.Attribute o name apos) (e::es) [] cpos) (tBM X.K T r to t):=by
 intro pins s σ H Q I h
 refine wpAny_Call_method_late hbase hfew hline rfl (eE (ho pins s σ H _ I h) fun v s1 ⟨x,H1,I1,r1,ty,q1⟩=>?_)
 obtain⟨h1,h2⟩:=QX I1 r1 ty
 refine⟨T,id,pa,slot,hty,h1,h2,?_⟩
 have hA:=ha cpos pins s1 σ H1 _ I1 q1
 rw[hs] at hA ⊢
 refine Calls.callWith_builtin (by show (false || (backTo cpos (starEach es X.env)).any (·.1))=false;rw[hplain]<;>rfl) (Calls.evalArgs_plain ?_)
 exact eE hA fun us s2 ⟨vs,H2,I2,r2,q2⟩=>hm pins s2 σ H2 x vs v us Q I2 r1 r2 q2
end
def MtM (X:Cx)(id:String)(r:V→List V→Hp→VK→Prop):Prop :=
 ∀ (pins:List (Addr×Obj)) (s:Shared) (σ:St) (H:Hp) (x:V) (xs:List V) (v:Value) (us:List Value) (Q:VK),Inv X pins σ H s→RelV x v→Vals xs us→r x xs H Q →
  wpAny (model X.prog X.w) X.A (call (.builtin id) (v::us)) (EP X pins σ Q) X.xe s
theorem Vals.one:∀ {x:V} {us:List Value},Vals [x] us→∃ u,us=[u]∧RelV x u
 | _,_,.cons r .nil=>⟨_,rfl,r⟩
theorem Vals.zero:∀ {us:List Value},Vals [] us→us=[]
 | _,.nil=>rfl
theorem Vals.dropLast {xs:List V}{us:List Value}(h:Vals xs us):Vals xs.dropLast us.dropLast:=by
 induction h with
 | nil=>exact .nil
 | cons r t ih =>
  cases t with
  | nil=>exact .nil
  | cons q t'=>exact .cons r ih
theorem Ld {α:Type}(l:List α):l.eraseIdx (l.length-1)=l.dropLast:=by
 induction l with
 | nil=>rfl
 | cons a r ih =>
  cases r with
  | nil=>rfl
  | cons b r =>
   have e:(a::b::r).length-1=((b::r).length-1)+1:=by
    have h1:(a::b::r).length=r.length+2:=rfl
    have h2:(b::r).length=r.length+1:=rfl
    omega
   rw[e,List.eraseIdx_cons_succ,ih]
   all_goals rfl
section
variable{X:Cx}{pins:List (Addr×Obj)}{σ:St}{H:Hp}{s:Shared}{l b:Addr}{xs ys zs:List V}
theorem Inv.Z1 {its its':List Value}{n:Nat}{f:Array Value→Array Value}{t':Nat}(I:Inv X pins σ H s)(hH:H l=some (.lst xs))
  (e:s.heap.get? l=some { cls:=.type "list",data:=.seq its.toArray n }) (hf:f its.toArray=its'.toArray) (hv:Vals ys its') (hz:ys.length≤sizeLine) :
  Inv X pins σ (upd H l (.lst ys)) { s with heap:=s.heap.update l (Obj.mapSeq f),toks:=t' }:=by
 have q:=PySem.IsL.update e f
 rw[hf] at q
 refine I.write (x:=l) (e:=l) (by rw[hH];exact trivial) (.inl rfl) (fun b' u hb hu=>(Heap.get?_update_other s.heap (Obj.mapSeq f) (Ne.symm hb)).trans hu) ⟨_,q⟩ ?_
 exact⟨hz,its',_,hv,q⟩
theorem Inv.Z2 {its:List Value}{t':Nat}(I:Inv X pins σ H s)(hv:Vals ys its)(hz:ys.length≤sizeLine):
  Inv X pins σ (upd H s.heap.objs.size (.lst ys)) { s with heap:=s.heap.push { cls:=.type "list",data:=.seq its.toArray },toks:=t' } :=
 I.laid (fun _ _ q=>Heap.get?_push_of_some _ q) (Nat.le_refl _) ⟨hz,its,0,hv,Heap.get?_push_size _ rfl⟩
theorem Inv.fresh (I:Inv X pins σ H s):H s.heap.objs.size=none:=I.hok.fresh (Nat.le_refl _)
theorem Inv.Z4 (I:Inv X pins σ H s)(hH:H l=some (.lst xs)):xs.length≤sizeLine∧∃ (its:List Value) (n:Nat),Vals xs its∧xs.length=its.length∧s.heap.get? l=some { cls:=.type "list",data:=.seq its.toArray n }:=by
 obtain⟨z,its,n,r,e⟩:=I.hok l _ hH
 exact⟨z,its,n,r,r.length,e⟩
end
section
variable{X:Cx}
def Uy:V→List V→Hp→VK→Prop:=fun x vs H Q=>∃ l xs y,x=.ref l∧vs=[y]∧H l=some (.lst xs)∧xs.length<sizeLine∧Q .non (upd H l (.lst (xs++[y])))
theorem kY:MtM X "list.append" Uy:=by
 intro pins s σ H x vs v us Q I rx rv h
 obtain⟨l,xs,y,rfl,rfl,hH,hz,q⟩:=h
 cases rx
 obtain⟨u,rfl,ru⟩:=rv.one
 obtain⟨z,its,n,r,hl,e⟩:=I.Z4 hH
 refine call_meets F.slot_list_append ⟨_,e,rfl⟩ F.entry_list_append (F.args_list_append_2 _ _) (PySem.list_append l its.toArray n u (by rw[List.size_toArray];omega)) ⟨e,?_⟩
 refine⟨.non,_,I.Z1 (its':=its++[u]) hH e (by simp) (r.append (.cons ru .nil)) ?_,rfl,q⟩
 rw[List.length_append,List.length_singleton]
 omega
def agk:V→List V→Hp→VK→Prop:=fun x vs H Q=>∃ l xs y,x=.ref l∧vs=[]∧H l=some (.lst xs)∧xs[xs.length-1]?=some y∧Q y (upd H l (.lst xs.dropLast))
theorem Q0:MtM X "list.pop" agk:=by
 intro pins s σ H x vs v us Q I rx rv h
 obtain⟨l,xs,y,rfl,rfl,hH,hy,q⟩:=h
 cases rx
 have hus:=rv.zero
 subst hus
 obtain⟨z,its,n,r,hl,e⟩:=I.Z4 hH
 obtain⟨u,hu,ru⟩:=r.get hy
 have hy':its.toArray[its.toArray.size-1]?=some u:=by
  show its.toArray[its.length-1]?=some u
  rw[←Array.getElem?_toList,←hl]
  exact hu
 refine call_meets F.slot_list_pop ⟨_,e,rfl⟩ F.entry_list_pop (F.args_list_pop_1 _) (MeetsSeq.list_pop_last l its.toArray n u hy' (by rw[List.size_toArray];omega)) ⟨e,?_⟩
 refine⟨y,_,I.Z1 (its':=its.dropLast) hH e ?_ r.dropLast ?_,ru,q⟩
 ·show its.toArray.eraseIdxIfInBounds (its.toArray.size-1)=its.dropLast.toArray
  rw[List.size_toArray,List.eraseIdxIfInBounds_toArray,Ld]
 ·rw[List.length_dropLast]
  omega
end
section
variable{prog:Program}{w:World}{A:Around}{E:Value→Shared→Prop}{s:Shared}
end
section
variable{X:Cx}
end
end L2
namespace Att
open PySem PySem.W PySem.Calls PyProof.Rows
theorem yM {P:Params}{h:Heap}:∀ (ns:List Int) (vs:List Value),WellAll P h vs (ns.map WData.int)→IntsAre vs ns:=by
 intro ns
 induction ns with
 | nil =>
  intro vs w
  rw[List.map_nil] at w
  cases w
  exact .nil
 | cons n ns ih =>
  intro vs w
  rw[List.map_cons] at w
  cases w with
  | cons a b =>
   cases a
   exact .cons _ _ (ih _ b)
theorem Ov {l:OpenLaw}{n:Nat}(hn:l.most=some n){P:Params}{h:Heap}{args:List WData}{vals:List Value}
  (hpre:l.row.toRowW.claim.pre args=true) (hwl:WellAll P h vals args) :
  ∃ a vs ns,vals=[Value.ref a]∧args=[WData.list (ns.map WData.int)]∧h.get? a=some { cls:=.type "list",data:=.seq vs.toArray }∧IntsAre vs ns∧ns.length≤n:=by
 have hsh:WShape.hasAll [] args [.list .int]=true:=(pre_splitW hpre).1
 have hc:l.pre.holds [] { args:=args }=true:=(pre_splitW hpre).2
 obtain⟨d,r,rfl,h1,h2⟩:=hasAllW_cons hsh
 obtain rfl:=hasAllW_nil h2
 obtain⟨xs,rfl,h3⟩:=hasW_list h1
 obtain⟨ns,rfl⟩:=items_int h3
 have hlen:ns.length≤n:=by
  unfold OpenLaw.pre at hc
  have h4:(WTm.not (.lt (.lit (.int (n:Int))) (.len (.arg 0)))).holds [] { args:=[.list (ns.map .int)] }=true:=by
   have h4:=(holds_andW hc).1
   rw[hn] at h4
   exact h4
  have h5:=condW_of h4 (w_not (w_lt w_lit (w_len_list (w_arg rfl))))
  rw[List.length_map] at h5
  refine Nat.le_of_not_lt fun q=>?_
  have q':(n:Int)<((ns.length:Nat):Int):=by omega
  first
   | (rw[decide_eq_true q'] at h5;exact absurd h5 (by decide))
   | (simp at h5;omega)
 cases hwl with
 | cons w1 w2 =>
  cases w2
  cases w1 with
  | list ho hall=>exact⟨_,_,ns,rfl,rfl,ho,yM ns _ hall,hlen⟩
theorem Ow (l:OpenLaw)(args:List WData):l.row.toRowW.claim.post args (.bool true) args=true :=
 postW_of (r:=l.row.toRowW) (X:=(true == true))
  (show WShape.has [] (.bool true) .bool=true by first|rfl|decide|simp[WShape.has,WShape.arms,WShape.armsAll])
  (show (WTm.eq .res (.lit (.bool true))).value [] { args:=args,res:=some (.bool true),after:=args }=some (.bool (true == true)) from w_eq_bool (w_res rfl) w_lit) rfl
theorem Ji {l:OpenLaw}{n:Nat}{q:Program}{loose:List Str}{XP:(Str→Option Value)→Heap→Prop}{YP:World→Heap→Prop}{d:DefRec}
  (hn:l.most=some n) (hdf:d.params.defaults=[])
  (call:∀ (w:World) (s₀ s₁:Shared) (mg mb:Str→Option Value) (fa:Addr) (o:Obj) (pm cd doc:Value) (a:Addr) (vs:List Value) (ns:List Int),
    Ground q loose [] XP w s₀ mg mb s₁.heap→YP w s₁.heap →
    s₁.heap.get? fa=some o→o.data=.func (docDef d.name d.params d.body d.scope pm cd doc)→s₁.heap.CodeRec cd d.name→mg d.name=some (.ref fa) →
    s₁.heap.get? a=some { cls:=.type "list",data:=.seq vs.toArray }→IntsAre vs ns→ns.length≤n→s₁.gens = #[] →
    codeAny (model l.prog w) callerA (.call (.ref fa) ⟨[.ref a],[]⟩) (fun r s'=>r=.ok (.ret (.bool true))∧OldK s₁.heap s'.heap∧s'.os=s₁.os∧AllBare s'.gens) s₁) :
  WalkO q loose XP YP l.row.toRowW d [] (fun f vs=>PySem.call f vs):=by
 intro w s₀ s₁ mg mb G Y fa o pm cd doc dV kV ho hd hcd hD hmg hg args vals as hpre hlay hrd hwl hlo
 obtain rfl:dV=.none:=Dflts.none hD hdf
 obtain rfl:kV=.none:=Dflts.noKw hD
 obtain⟨a,vs,ns,rfl,rfl,hobj,hints,hlen⟩:=Ov hn hpre hwl
 refine enter_call (codeAny_mono (call w s₀ s₁ mg mb fa o pm cd doc a vs ns G Y ho (fd_plain hd) hcd hmg hobj hints hlen hg) fun r s' hq=>?_)
 obtain⟨rfl,h2,h3,h4⟩:=hq
 exact⟨.inl ⟨.bool true,.bool true,[],rfl,fun _=>rfl,.bool true,Ow l _,fun _=>⟨List.Pairwise.nil,fun _ hm=>(nomatch hm)⟩⟩,h2,h3,h4⟩
section
variable{prog:Program}{w:World}{A:Around}{E:Value→Shared→Prop}{s:Shared}{K:Frag}
end
end Att
namespace L2
open PySem PySem.Spec PyProof.Rows
theorem Fl:∀ {vs:List Value} {ns:List Int},IntsAre vs ns→Vals (ns.map V.int) vs
 | _,_,.nil=>.nil
 | _,_,.cons n t h=>.cons ⟨t,rfl⟩ (Fl h)
def inClass (s:Stmt)(j:Nat):Stmt:=match s with
 | .ClassDef _ _ _ body _ _ _ _ _ _ _=>body.getD j (.Pass ⟨0,0,0,0⟩)
 | _=>.Pass ⟨0,0,0,0⟩
def aV (s:Stmt):Arguments:=match s with
 | .FunctionDef _ a _ _ _ _ _ _ _ _=>a
 | _=>{ posonlyargs:=[],args:=[],vararg:=none,kwonlyargs:=[],kw_defaults:=[],kwarg:=none,defaults:=[] }
def aR (s:Stmt):List Stmt:=match s with
 | .FunctionDef _ _ b _ _ _ _ _ _ _=>b
 | _=>[]
def aC (s:Stmt):Scope:=match s with
 | .FunctionDef _ _ _ _ _ _ sc _ _ _=>sc
 | _=>{ kind:=.function,names:=[],isGenerator:=false,isCoroutine:=false }
abbrev gB:QM:=fun _ _ _ _ _ _=>False
abbrev E0:XK:=fun _ _ _=>False
theorem MJ {X:Cx}:Passes gB X E0:=fun _ _ _ _ _ _ _ h=>h.elim
structure gY (K:PySem.W.Frag)(x qual:Str)(st:Stmt)(f:Addr)(fd:FuncData):Prop where
 ex:∃ (oc:Value) (od:Option Addr) (kV doc pm:Value) (an:Option Addr) (cdv ct:Value) (osl:Array (Option Value)),
  fd=PySem.W.fnOf x qual (aV st) (aR st) (aC st) .none kV doc pm an cdv ct∧K.lookup f=some ⟨oc,od,.func fd,osl⟩∧PySem.W.codeIn K cdv qual=true
 kp:PySem.W.keepIn K (.ref f)=true
section
variable{P:Program}{w:World}{K:PySem.W.Frag}{mg:Str→Option Value}{base:Heap}
theorem gY.ok {x qual:Str}{st:Stmt}{f:Addr}{fd:FuncData}{N ps:List Str}{k:Nat}{sp:Sp}(F:gY K x qual st f fd)(S:aY N ps (aC st))(len:∀ vs H Q E,sp vs H Q E→vs.length=ps.length)
  (hbody:∀ (cdv:Value) (A:Around) (outer:List Env) (s:Shared) (H:Hp) (vs:List V) (Q:VK) (E:XK),iD k (A.deeper (envOfC qual (aC st) s.heap.objs.size f cdv))→sp vs H Q E →
    ∃ t,KY (La gB P w K mg base N qual (aC st) f cdv A outer s H E).YS (aR st) t∧t { nx:=fun _ H'=>Q .non H',rt:=Q } (start N vs) H):cA P w K mg base gB (k+1) f fd ps sp:=by
 obtain⟨oc,od,kV,doc,pm,an,cdv,ct,osl,rfl,lk,hcd⟩:=F.ex
 refine Wi lk hcd S len fun A outer s H vs Q E hr hsp=>?_
 obtain⟨t,h,q⟩:=hbody cdv A outer s H vs Q E hr hsp
 exact⟨t,h.YS,q⟩
theorem gY.binds {x qual:Str}{st:Stmt}{f:Addr}{fd:FuncData}{ps:List Str}(F:gY K x qual st f fd)
  (h:∀ (kV doc pm:Value) (an:Option Addr) (cdv ct:Value) (us:List Value),us.length=ps.length→bindArgs (PySem.W.fnOf x qual (aV st) (aR st) (aC st) .none kV doc pm an cdv ct) ⟨us,[]⟩=pure (ps.zip us)):Binds K fd ps []:=by
 obtain⟨oc,od,kV,doc,pm,an,cdv,ct,osl,rfl,lk,hcd⟩:=F.ex
 exact .all (h kV doc pm an cdv ct)
theorem Q5 {x qual:Str}{st:Stmt}{f:Addr}{oc:Value}{od an:Option Addr}{osl:Array (Option Value)}{kV doc pm cdv ct:Value}(l:K.lookup f=some ⟨oc,od,.func (PySem.W.fnOf x qual (aV st) (aR st) (aC st) .none kV doc pm an cdv ct),osl⟩)
  (c:PySem.W.codeIn K cdv qual=true) (k:PySem.W.keepIn K (.ref f)=true):gY K x qual st f (PySem.W.fnOf x qual (aV st) (aR st) (aC st) .none kV doc pm an cdv ct):=⟨⟨oc,od,kV,doc,pm,an,cdv,ct,osl,rfl,l,c⟩,k⟩
end
theorem bQ {n:Nat}(h:n≤1000):n<sizeLine:=Nat.lt_of_le_of_lt h (by decide)
section
variable{X:Cx}
theorem pv (i:Nat){x:Str}{pos:Pos}(hN:X.N[i]?=some x:=by rfl)(hv:Vis X.env.scope x:=by first|exact Or.inl rfl|exact Or.inr (Or.inl rfl)|exact Or.inr (Or.inr rfl))(hd:(x == ("__debug__" : Str))=false:=by decide)
  (hcd:(x == ("__classdict__" : Str))=false:=by decide):PE X (.Name x pos) (Gk i):=Xa hN hv hd hcd
end
theorem dz {A B:Prop}(h:B):if false=true then A else B:=by
 rw[if_neg Bool.false_ne_true]
 exact h
theorem fH {A B:Prop}(h:A):if true=true then A else B:=by
 rw[if_pos rfl]
 exact h
theorem Q6 {c A B:Prop}[Decidable c](h1:c→A)(h2:¬ c→B):if c then A else B:=by
 by_cases h:c
 ·rw[if_pos h]
  exact h1 h
 ·rw[if_neg h]
  exact h2 h
def Same (H H':Hp):Prop:=∀ b o,H b=some o→H' b=some o
theorem Same.refl (H:Hp):Same H H:=fun _ _ h=>h
theorem Same.trans {H H1 H2:Hp}(a:Same H H1)(b:Same H1 H2):Same H H2:=fun c o h=>b c o (a c o h)
theorem Same.free {H H':Hp}(e:Same H H'){l:Addr}(h:H' l=Option.none):H l=Option.none:=by
 cases q:H l with
 | none=>rfl
 | some o =>
  rw[e l o q] at h
  cases h
theorem Same.seq {K:PySem.W.Frag}{H H':Hp}{a:Addr}{xs:List V}(e:Same H H')(h:aQ K H a xs):aQ K H' a xs:=by
 rcases h with (h|⟨o,h⟩)|h
 ·exact .inl (.inl (e _ _ h))
 ·exact .inl (.inr ⟨o,e _ _ h⟩)
 ·exact .inr h
end L2
namespace My
open PySem PySem.W PySem.Calls PyProof.Rows
def vH (tb:String→Option Builtin)(p:Program)(w:World)(m:Nat)(ann:Option Value):Nat→SharedT→Thread→Option SharedT
 | 0,_,_=>none
 | n+1,s,t=>match through t with
  | true=>some s
  | false=>match stepOk m ann t with
   | false=>none
   | true=>match stepT (denote tb) p w s t with
    | some (s',t')=>vH tb p w m ann n s' t'
    | none=>none
theorem Ad {tb:String→Option Builtin}{p:Program}{w:World}{m:Nat}{ann:Option Value}:∀ {n:Nat} {s s':SharedT} {t:Thread},vH tb p w m ann n s t=some s'→topRun tb p w m ann n s.abs t=some s'.abs
 | 0,_,_,_,h=>by cases h
 | n+1,s,s',t,h=>by
  unfold vH at h
  unfold topRun
  cases he:through t with
  | true=>rw[he] at h;cases h;rfl
  | false =>
   rw[he] at h
   cases hk:stepOk m ann t with
   | false=>rw[hk] at h;cases h
   | true =>
    rw[hk] at h
    cases hs:stepT (denote tb) p w s t with
    | none=>rw[hs] at h;cases h
    | some r=>obtain⟨s₂,t₂⟩:=r;rw[hs] at h;rw[stepT_spec hs];exact Ad h
def Uz (l:List Obj):BT:=(l.foldl (fun (x:BT×Nat) o=>(x.1.ins x.2 o,x.2+1)) (BT.nil,0)).1
def Lf {α:Type}(p q:Program)(loose:List Str)(Xt:Shared→Bool)(Yf:Shared→α)(h0:Heap)(s:Shared):=
 (staticsOk (importedModules p.main.body) h0 s.heap && namesBound p s.heap && gensDone s && laidKept h0 s.heap,openSeen q loose (importedModules p.main.body) Xt true s,Yf s)
theorem Gw {p q:Program}{loose:List Str}{Xt:Shared→Bool}{α:Type}{Yf:Shared→α}{Ya:World→α}{N:Nat}{m:Nat}{ann:Option Value}
  (open_:∀ w:World,(fencedOpening treeTable p w N).map (fun s=>(s.heap,s.gens,s.drawn,s.toks))=some (boot_heap w.params,Array.mk [],boot_drawn,boot_toks))
  (size:∀ P:Params,((boot_heap P).isNs mainGlobals,(boot_heap P).objs.size,(boot_heap P).nsMap mainGlobals "__annotations__")=(true,m,ann))
  (hT:∀ P:Params,absHeap (Uz (boot_heap P).objs.toList) m (boot_heap P).life=boot_heap P)
  (run:∀ (w:World) (os:OsState),(vH treeTable p w m ann N ⟨Uz (boot_heap w.params).objs.toList,m,(boot_heap w.params).life,Array.mk [],boot_drawn,boot_toks,os⟩ (topStub p)).map
     (fun s=>Lf p q loose Xt Yf (boot_heap w.params) s.abs)=some (true,openGood q loose,Ya w)):LeftO p q loose Xt Yf Ya N true:=fun w=>by
 obtain⟨⟨h,gs,d,k,os⟩,e,e'⟩:=Option.map_eq_some_iff.mp (open_ w)
 obtain⟨rfl,rfl,rfl,rfl⟩:h=boot_heap w.params∧gs=Array.mk []∧d=boot_drawn∧k=boot_toks:=by simpa using e'
 obtain⟨z1,z2,z3⟩:_∧_∧_:=by simpa only [Prod.mk.injEq] using size w.params
 obtain⟨s₁,r,l⟩:=Option.map_eq_some_iff.mp (run w os)
 obtain⟨l1,l2,l3⟩:_∧_∧_:=by simpa only [Lf,Prod.mk.injEq] using l
 have r:=Ad r
 have ea:SharedT.abs ⟨Uz (boot_heap w.params).objs.toList,m,(boot_heap w.params).life,Array.mk [],boot_drawn,boot_toks,os⟩=⟨boot_heap w.params,Array.mk [],boot_drawn,boot_toks,os⟩:=by
  unfold SharedT.abs
  rw[hT w.params]
 rw[ea] at r
 have t:topFrom treeTable p w N ⟨boot_heap w.params,Array.mk [],boot_drawn,boot_toks,os⟩=some s₁.abs:=by
  unfold topFrom
  dsimp only
  rw[z1,z2,z3,r]
  show (match staticsOk (importedModules p.main.body) (boot_heap w.params) s₁.abs.heap && namesBound p s₁.abs.heap && gensDone s₁.abs && laidKept (boot_heap w.params) s₁.abs.heap with|true=>_|false=>_)=_
  rw[l1]
 unfold openEnds
 rw[e]
 show (topFrom treeTable p w N _).map _=_
 rw[t]
 exact congrArg some (Prod.ext l2 l3)
end My
namespace L2
open PySem PySem.Spec PyProof.Rows
theorem Ae {α β:Type}{f:α→β→Sem (ForInStep β)}{g:β→α→β}:∀ {l:List α} (c:β),(∀ x∈l,∀ c,f x c=pure (.yield (g c x)))→forIn l c f=pure (l.foldl g c)
 | [],_,_=>rfl
 | x::l,c,h=>by
  rw[List.forIn_cons,h x List.mem_cons_self,pure_bind]
  exact Ae (g c x) fun y hy=>h y (List.mem_cons_of_mem _ hy)
def lq (env:Env)(cs:List (Str×Addr))(x:Str×NameKind):List (Str×Addr) :=
 if (x.2 == NameKind.free)=true then (x.1,(env.cells.lookup x.1).getD 0)::cs else cs
theorem Gx {scope:Scope}{env:Env}(h:∀ x∈scope.names,x.2=.free→∃ c,env.cells.lookup x.1=some c):
  closureFor scope env=pure (scope.names.foldl (lq env) []):=by
 simp only[closureFor]
 rw[Ae (g:=lq env) [] (fun x hx c=>by
  obtain⟨n,k⟩:=x
  by_cases hk:k=NameKind.free
  ·subst hk
   obtain⟨c',e⟩:=h _ hx rfl
   have e:env.cells.lookup n=some c':=e
   simp[lq,cellOf,e]
  ·have hb:(k == NameKind.free)=false:=by simpa using hk
   simp[lq,hb])]
 rfl
theorem Fo {env:Env}{x:Str}{c:Addr}:∀ {ns:List (Str×NameKind)} {cs:List (Str×Addr)},(ns.foldl (lq env) cs).lookup x=some c →
  cs.lookup x=some c∨((∃ p∈ns,p.1=x∧p.2=NameKind.free)∧c=(env.cells.lookup x).getD 0)
 | [],cs,h=>.inl h
 | p::ns,cs,h=>by
  rcases Fo (ns:=ns) (cs:=lq env cs p) h with q|⟨⟨p',hp,q⟩,e⟩
  ·unfold lq at q
   split at q
   ·rename_i hk
    rw[List.lookup_cons] at q
    split at q
    ·rename_i hx
     have hx:x=p.1:=by simpa using hx
     subst hx
     exact .inr ⟨⟨p,List.mem_cons_self,rfl,by simpa using hk⟩,(Option.some.inj q).symm⟩
    ·exact .inl q
   ·exact .inl q
  ·exact .inr ⟨⟨p',List.mem_cons_of_mem _ hp,q⟩,e⟩
theorem Af {env:Env}{x:Str}:∀ {ns:List (Str×NameKind)} {cs:List (Str×Addr)},((x,NameKind.free)∈ns∨∃ c,cs.lookup x=some c)→∃ c,(ns.foldl (lq env) cs).lookup x=some c
 | [],cs,h=>by
  rcases h with h|h
  ·cases h
  ·exact h
 | p::ns,cs,h=>by
  refine Af (ns:=ns) (cs:=lq env cs p) ?_
  rcases h with h|⟨c,h⟩
  ·rcases List.mem_cons.mp h with h|h
   ·refine .inr ⟨(env.cells.lookup x).getD 0,?_⟩
    subst h
    simp[lq]
   ·exact .inl h
  ·right
   unfold lq
   split
   ·rw[List.lookup_cons]
    split
    ·exact⟨_,rfl⟩
    ·exact⟨c,h⟩
   ·exact⟨c,h⟩
theorem Lg {scope:Scope}{env:Env}(h:∀ x∈scope.names,x.2=.free→∃ c,env.cells.lookup x.1=some c):
  ∃ cl,closureFor scope env=pure cl∧(∀ x c,cl.lookup x=some c→env.cells.lookup x=some c)∧∀ x,(x,NameKind.free)∈scope.names→∃ c,cl.lookup x=some c:=by
 refine⟨_,Gx h,fun x c e=>?_,fun x hx=>Af (.inl hx)⟩
 rcases Fo e with q|⟨⟨p,hp,e1,e2⟩,ec⟩
 ·simp at q
 ·obtain⟨c',q⟩:=h p hp e2
  rw[e1] at q
  rw[q] at ec
  rw[q,ec]
  rfl
theorem uI {env:Env}{x:Str}{k':NameKind}:∀ {names:List (Str×NameKind)},(names.map fun (n,k)=>if (k == NameKind.free && env.scope.kind == .function && env.kindOf n == some .cell) then (n,NameKind.cell) else (n,k)).lookup x=some k' →
  ∃ k,(x,k)∈names∧(k'=k∨(k=NameKind.free∧k'=NameKind.cell))
 | [],h=>by simp at h
 | (n,k)::r,h=>by
  rw[List.map_cons] at h
  by_cases hc:(k == NameKind.free && env.scope.kind == .function && env.kindOf n == some .cell)=true
  ·simp only[hc,if_true] at h
   rw[List.lookup_cons] at h
   split at h
   ·rename_i hx
    have hx:x=n:=by simpa using hx
    subst hx
    have hk:k=NameKind.free:=by
     have:=(Bool.and_eq_true_iff.mp (Bool.and_eq_true_iff.mp hc).1).1
     simpa using this
    exact⟨k,List.mem_cons_self,.inr ⟨hk,(Option.some.inj h).symm⟩⟩
   ·obtain⟨k2,h1,h2⟩:=uI h
    exact⟨k2,List.mem_cons_of_mem _ h1,h2⟩
  ·simp only[hc] at h
   rw[if_neg (by simp),List.lookup_cons] at h
   split at h
   ·rename_i hx
    have hx:x=n:=by simpa using hx
    subst hx
    exact⟨k,List.mem_cons_self,.inl (Option.some.inj h).symm⟩
   ·obtain⟨k2,h1,h2⟩:=uI h
    exact⟨k2,List.mem_cons_of_mem _ h1,h2⟩
theorem Gy {κ:Type}{x n:Str}{k:κ}{r:List (Str×κ)}:((n,k)::r).lookup x=if x=n then some k else r.lookup x:=by
 rw[List.lookup_cons]
 by_cases h:x=n
 ·subst h
  simp
 ·have hb:(x == n)=false:=by simpa using h
  rw[if_neg h]
  simp only[hb]
theorem pJ {env:Env}{x:Str}:∀ {names:List (Str×NameKind)},names.lookup x=some NameKind.free →
  (names.map fun (n,k)=>if (k == NameKind.free && env.scope.kind == .function && env.kindOf n == some .cell) then (n,NameKind.cell) else (n,k)).lookup x=some NameKind.cell ∨
  (names.map fun (n,k)=>if (k == NameKind.free && env.scope.kind == .function && env.kindOf n == some .cell) then (n,NameKind.cell) else (n,k)).lookup x=some NameKind.free
 | [],h=>by simp at h
 | (n,k)::r,h=>by
  rw[List.map_cons]
  rw[Gy] at h
  by_cases hc:(k == NameKind.free && env.scope.kind == .function && env.kindOf n == some .cell)=true
  ·simp only[hc,if_true]
   rw[Gy]
   by_cases hx:x=n
   ·rw[if_pos hx]
    exact Or.inl rfl
   ·rw[if_neg hx]
    rw[if_neg hx] at h
    exact pJ h
  ·simp only[hc]
   rw[if_neg (by simp),Gy]
   by_cases hx:x=n
   ·rw[if_pos hx]
    rw[if_pos hx] at h
    exact Or.inr h
   ·rw[if_neg hx]
    rw[if_neg hx] at h
    exact pJ h
def Cx.comp (X:Cx)(N':List Str)(scope:Scope)(cl:List (Str×Addr))(C:Addr)(s:Shared)(H:Hp)(fp:List Addr):Cx :=
 { X with N:=N',s₀:=s,H₀:=H,env:=compEnvC scope cl C X.env,outer:=X.stack,ex:=fp,fn:=fun _=>false,pn:=[],xe:=fun _ _=>False }
structure lA (X:Cx)(N':List Str)(k:Nat)(js:List Nat)(scope:Scope):Prop where
 kind:scope.kind=.function
 Q7:∀ y∈scope.names,y.2≠.cell
 names:∀ y∈scope.names,y.2=.local→scope.names.lookup y.1=some .local
 free:(scope.names.all fun y=>y.2 != NameKind.free || (X.env.kindOf y.1 == some .cell || X.env.kindOf y.1 == some .free))=true
 cap:((List.range js.length).all fun i=>N'[k+i]? == X.N[js.getD i 0]? && ((N'[k+i]?).any fun x=>scope.names.lookup x == some NameKind.free))=true
 len:N'.length=k+js.length
def gC (k:Nat)(js:List Nat)(σ:St):St:=List.replicate k none++js.map fun (j:Nat)=>(σ[j]?).getD none
section
variable{X:Cx}{N':List Str}{k:Nat}{js:List Nat}{scope:Scope}
theorem lA.fr (S:lA X N' k js scope):∀ y∈scope.names,y.2=.free→X.env.kindOf y.1=some .cell∨X.env.kindOf y.1=some .free:=fun y hy hf=>by
 have h:=List.all_eq_true.mp S.free y hy
 rw[hf] at h
 have h:(X.env.kindOf y.1 == some .cell || X.env.kindOf y.1 == some .free)=true:=by simpa using h
 rcases Bool.or_eq_true_iff.mp h with h|h
 ·exact .inl (by simpa using h)
 ·exact .inr (by simpa using h)
theorem lA.at (S:lA X N' k js scope){i:Nat}{x:Str}{σ:St}{v:V}(h1:N'[i]?=some x)(h2:(gC k js σ)[i]?=some (some v)):
  ∃ j:Nat,X.N[j]?=some x∧σ[j]?=some (some v)∧scope.names.lookup x=some .free:=by
 unfold gC at h2
 by_cases hi:i<k
 ·rw[List.getElem?_append_left (by simpa using hi),List.getElem?_replicate,if_pos hi] at h2
  cases h2
 ·obtain⟨i',rfl⟩:∃ i',i=k+i':=⟨i-k,by lia⟩
  rw[List.getElem?_append_right (by simp),List.length_replicate,Nat.add_sub_cancel_left,List.getElem?_map] at h2
  cases e:js[i']? with
  | none=>rw[e] at h2;cases h2
  | some j =>
   rw[e] at h2
   have h2:(σ[j]?).getD none=some v:=Option.some.inj h2
   have hj:σ[j]?=some (some v):=by
    cases q:σ[j]? with
    | none=>rw[q] at h2;cases h2
    | some o=>rw[q] at h2;exact congrArg some h2
   have hl:i'<js.length:=(List.getElem?_eq_some_iff.mp e).1
   have c:=List.all_eq_true.mp S.cap i' (List.mem_range.mpr hl)
   have ej:js.getD i' 0=j:=by rw[List.getD_eq_getElem?_getD,e];rfl
   rw[ej,h1] at c
   obtain⟨c1,c2⟩:=Bool.and_eq_true_iff.mp c
   refine⟨j,?_,hj,?_⟩
   ·have c1:some x=X.N[j]?:=by simpa using c1
    exact c1.symm
   ·simpa using c2
theorem Lh (σ:St):(gC k js σ).length=k+js.length:=by
 unfold gC
 rw[List.length_append,List.length_replicate,List.length_map]
theorem Cx.Ok.comp {pins:List (Addr×Obj)}{σ:St}{H:Hp}{s:Shared}{cl:List (Str×Addr)}{C:Addr}{fp:List Addr}(S:lA X N' k js scope)(I:Inv X pins σ H s)(hf:∀ b∈fp,wQ X pins H b)(ho:∀ b∈fp,∃ o,s.heap.get? b=some o)
  (h1:∀ x c,cl.lookup x=some c→X.env.cells.lookup x=some c) (h2:∀ x,(x,NameKind.free)∈scope.names→∃ c,cl.lookup x=some c) (hC:s.heap.objs.size≤C):(X.comp N' scope cl C s H fp).Ok where
 mod:=I.ok.mod
 kind:=S.kind
 glob:=I.ok.glob
 blt:=I.ok.blt
 above:=hC
 inj:=fun x y c e1 e2=>I.ok.inj x y c (h1 x c e1) (h1 y c e2)
 has:=fun x hx=>by
  have hx:(relabel scope X.env).names.lookup x=some .cell∨(relabel scope X.env).names.lookup x=some .free:=hx
  have key:∀ k',(relabel scope X.env).names.lookup x=some k'→k'=.cell∨k'=.free→∃ c,cl.lookup x=some c:=fun k' e hk=>by
   obtain⟨k0,hm,q⟩:=uI e
   have:k0=.free:=by
    rcases q with q|⟨q,_⟩
    ·rcases hk with z|z
     ·exact absurd (q.symm.trans z) (S.Q7 _ hm)
     ·exact q.symm.trans z
    ·exact q
   subst this
   exact h2 x hm
  rcases hx with e|e
  ·exact key _ e (.inl rfl)
  ·exact key _ e (.inr rfl)
 cab:=fun x c e _=>by cases e
 hd:=I.ok.hd
 frames:=I.ok.frames
 stk:=.inl rfl
 exf:=fun b hb=>⟨fun z=>by
  obtain⟨o,e⟩:=ho b hb
  exact absurd (Nat.lt_of_lt_of_le (Heap.lt_size e) (show s.heap.objs.size≤b by rw[z];exact hC)) (Nat.lt_irrefl _),fun x c e=>(hf b hb).2.2.2.2.1 x c (h1 x c e)⟩
 bs:=I.bs
 Qt:=Nat.le_trans I.ok.Qt I.sz
 Og:=fun b o e hb=>by
  rcases (hf b hb).2.2.2.1 with z|z
  ·exact I.ok.Og b o e z
  ·exact absurd (Nat.lt_of_lt_of_le (Heap.lt_size (I.ok.bs b o e).1) z) (Nat.lt_irrefl _)
 Qu:=fun b hb z=>by
  rcases List.mem_cons.mp (I.zZ b z) with q|q
  ·exact (hf b hb).2.1 q
  ·exact (hf b hb).2.2.1 q
 wO:=I.stack
 Wa:=I.Gj
theorem Inv.comp {pins:List (Addr×Obj)}{σ:St}{H:Hp}{s:Shared}{cl:List (Str×Addr)}{C:Addr}{fp:List Addr}{h':Heap}{t':Nat}{m':Str→Option Value}(S:lA X N' k js scope)(I:Inv X pins σ H s)(hf:∀ b∈fp,wQ X pins H b)(ho:∀ b∈fp,∃ o,s.heap.get? b=some o)
  (h1:∀ x c,cl.lookup x=some c→X.env.cells.lookup x=some c) (h2:∀ x,(x,NameKind.free)∈scope.names→∃ c,cl.lookup x=some c) (hC:s.heap.objs.size≤C) (hk:∀ b o,s.heap.get? b=some o→h'.get? b=some o) (hn:h'.Ns C m') :
  Inv (X.comp N' scope cl C s H fp) [] (gC k js σ) H { s with heap:=h',toks:=t' }:=by
 have cellK:∀ x c,cl.lookup x=some c→∀ v,s.heap.IsCell c v→h'.IsCell c v:=fun x c e v ⟨o,ho,hd⟩=>⟨o,hk c o ho,hd⟩
 refine⟨Cx.Ok.comp S I hf ho h1 h2 hC,rfl,I.bare,Un.kept hk,⟨m',hn,fun i x v e1 e2 _=>?_⟩,fun x c e=>?_,I.hok.fresh hC,fun x c e=>I.qp x c (h1 x c e),fun p hp=>absurd (show p∈([]:List (Addr×Obj)) from hp) (by simp),I.hok.kept hk,?_⟩
 ·obtain⟨j,q1,q2,q3⟩:=S.at e1 e2
  obtain⟨m,_,hl⟩:=I.loc
  have hm:=PySem.mem_of_lookup q3
  have ko:=S.fr _ hm rfl
  obtain⟨u,r,l⟩:=hl j x v q1 q2 (ko.elim (fun z=>.inr (.inl z)) fun z=>.inr (.inr z))
  refine⟨u,r,.inr ⟨pJ q3,?_⟩⟩
  rcases l with⟨z,_⟩|⟨_,c,e,z⟩
  ·exfalso
   have z:X.env.kindOf x=some .local:=z
   rcases ko with ko|ko
   ·have ko:X.env.kindOf x=some .cell:=ko
    rw[z] at ko;cases ko
   ·have ko:X.env.kindOf x=some .free:=ko
    rw[z] at ko;cases ko
  ·obtain⟨c',e'⟩:=h2 x hm
   have:=h1 x c' e'
   rw[e] at this
   cases this
   exact⟨c,e',cellK x c e' _ z⟩
 ·obtain⟨v,z⟩:=I.cell x c (h1 x c e)
  exact⟨v,cellK x c e v z⟩
 ·rw[Lh];exact S.len.symm
end
def Ox (k:Nat)(g:TG):Prop:=∀ x σ H (Q Q':St→Hp→Prop),(∀ σ' H',σ'.length=σ.length→σ'.drop k=σ.drop k→Q σ' H'→Q' σ' H')→g x σ H Q→g x σ H Q'
def MK (k:Nat)(g:Qx):Prop:=∀ xs σ H (Q Q':St→Hp→Prop),(∀ σ' H',σ'.length=σ.length→σ'.drop k=σ.drop k→Q σ' H'→Q' σ' H')→g xs σ H Q→g xs σ H Q'
theorem bI {k i:Nat}(h:i<k):Ox k (yg i):=fun x σ H Q Q' f q=>f _ _ (by simp) (by rw[List.drop_set_of_lt h]) q
theorem mU {k:Nat}:MK k ZF:=fun xs σ H Q Q' f ⟨e,q⟩=>⟨e,f _ _ rfl rfl q⟩
theorem dN {k:Nat}{t:TG}{u:Qx}(a:Ox k t)(b:MK k u):MK k (Wb t u):=fun xs σ H Q Q' f ⟨v,r,e,q⟩ =>
 ⟨v,r,e,a v σ H _ _ (fun σ1 H1 l1 d1 q=>b r σ1 H1 _ _ (fun σ2 H2 l2 d2 q=>f σ2 H2 (l2.trans l1) (d2.trans d1) q) q) q⟩
theorem qT {K:PySem.W.Frag}{k n:Nat}{t:Qx}(b:MK k t):Ox k (Xd K n t):=fun x σ H Q Q' f ⟨a,xs,e,hq,hl,q⟩=>⟨a,xs,e,hq,hl,b xs σ H _ _ f q⟩
theorem Q8 {k:Nat}{js:List Nat}{σ σ6:St}(l:σ6.length=(gC k js σ).length)(d:σ6.drop k=(gC k js σ).drop k):∀ (i:Nat) v,(gC k js σ)[i]?=some (some v)→σ6[i]?=some (some v):=fun i v e=>by
 by_cases hi:i<k
 ·unfold gC at e
  rw[List.getElem?_append_left (by simpa using hi),List.getElem?_replicate,if_pos hi] at e
  cases e
 ·obtain⟨i',rfl⟩:∃ i',i=k+i':=⟨i-k,by lia⟩
  rw[←List.getElem?_drop,←d,List.getElem?_drop] at e
  exact e
def Z5 (X:Cx)(ifs:List Expr)(t:TT):Prop :=
 ∀ (pins:List (Addr×Obj)) (s:Shared) (σ:St) (H:Hp) (Q:Bool→Hp→Prop),Inv X pins σ H s→t σ H Q →
  wpAny (model X.prog X.w) X.A (forIn ifs true fun c r=>if r=true then do let ok ←isTrue c X.env (eval c X.env);pure (ForInStep.yield ok) else pure (ForInStep.yield r)) (TP X pins σ Q) X.xe s
def Xn:TT:=fun _ H Q=>Q true H
theorem cD {X:Cx}:Z5 X [] Xn:=fun _ _ _ H _ I h=>wpAny_tests_nil ⟨H,I,h⟩
theorem zE {X:Cx}{c:Expr}{t:TT}(h:PT X c t):Z5 X [c] t:=fun pins s σ H Q I hw=>wpAny_tests_one (h pins s σ H Q I hw)
theorem Gz {prog:Program}{w:World}{A:Around}{R:Result→Shared→Prop}{s:Shared}{elt target iter:Expr}{ifs:List Expr}{scope:Scope}{pos:Pos}{it acc:Value}{env:Env}(I:Nat→Shared→Prop)
  (turn:∀ n s,I n s→wpAny (model prog w) A (pyNext it) (fun r s₁=>match r with
    | none=>R (.ok .next) s₁
    | some v=>wpAny (model prog w) A (letOwnedTupleGo target it v) (fun _ s₁'=>wpAny (model prog w) A (assign target env v) (fun _ s₂ =>
      wpAny (model prog w) A (forIn ifs true fun c r=>if r=true then do let ok ←isTrue c env (eval c env);pure (ForInStep.yield ok) else pure (ForInStep.yield r)) (fun ok s₃ =>
       if ok=true then wpAny (model prog w) A (eval elt env) (fun x s₄ =>
        wpAny (model prog w) A (call (.builtin "list.append") [acc,x]) (fun _ s₅=>∃ m,m<n∧I m s₅) (fun _ _=>False) s₄) (fun _ _=>False) s₃
       else ∃ m,m<n∧I m s₃) (fun _ _=>False) s₂) (fun _ _=>False) s₁') (fun _ _=>False) s₁) (fun _ _=>False) s)
  (n:Nat) (h:I n s):codeAny (model prog w) A (.compLoop (.ListComp elt [⟨target,iter,ifs,0⟩] scope pos) 0 it acc env) R s:=by
 refine codeAny_loop rfl I (fun n s hI=>?_) n h
 show wpAny _ A ((compTurn (.ListComp elt [⟨target,iter,ifs,0⟩] scope pos) 0 it acc env).onRaise (fun x=>do noteFrame x env;theTreesLotGoes x)) _ _ s
 refine wpAny_noted ?_
 rw[compTurn_list]
 refine wpAny_bind (wpAny_standAt (wpAny_bind (wpAny_mono (turn n s hI) (fun r s₁ h₁=>?_) fun _ _ h'=>h'.elim)))
 cases r with
 | none=>exact wpAny_pure h₁
 | some v =>
  refine wpAny_bind (wpAny_mono h₁ (fun _ s₁' h₁'=>?_) fun _ _ h'=>h'.elim)
  refine wpAny_bind (wpAny_mono h₁' (fun _ s₂ h₂=>wpAny_bind (wpAny_mono h₂ (fun ok s₃ h₃=>?_) fun _ _ h'=>h'.elim)) fun _ _ h'=>h'.elim)
  cases ok with
  | false=>exact wpAny_pure ⟨rfl,h₃⟩
  | true =>
   exact wpAny_bind (wpAny_bind (wpAny_mono h₃ (fun x s₄ h₄=>wpAny_bind (wpAny_mono h₄ (fun _ s₅ h₅=>wpAny_pure (wpAny_pure ⟨rfl,h₅⟩)) fun _ _ h'=>h'.elim)) fun _ _ h'=>h'.elim))
theorem uE.adopt {P:Program}{w:World}{H:Hp}{h:Heap}{a:Addr}{o:HO}(x:uE P w H h)(hn:H a=none)(new:dG P w (upd H a o) h a o):uE P w (upd H a o) h:=fun b u e=>by
 by_cases hb:b=a
 ·subst hb;rw[ak] at e;cases e;exact new
 ·rw[aJ hb] at e
  exact (x b u e).stay (fun c v _ q=>q) (fun c q=>by rw[aJ (aM q hn)];exact q) fun c xs q=>by rw[aJ (aM q hn)];exact q
def Wj (wi:TI)(g:TG)(tt:TT)(te:TE)(k:Nat)(js:List Nat):TE:=fun σ H Q=>wi σ H fun J H1 =>
 ∃ W:Nat→Nat→List V→Hp→Prop,(∃ m,W 0 m [] H1)∧∀ i m ys H,W i m ys H→ys.length<sizeLine ∧
  ((J.stop i H∧∀ D,H D=none→Q (.ref D) (upd H D (.lst ys))) ∨
   (J.go i H∧∃ N:List V→Hp→Prop,(∀ ys' H',N ys' H'→∃ m',m'<m∧W (i+1) m' ys' H') ∧
     ∀ x H',J.Ui i H x H'→g x (gC k js σ) H' fun σ2 H2=>tt σ2 H2 fun c H3=>if c=true then te σ2 H3 fun y H4=>N (ys++[y]) H4 else N ys H3))
section
variable{X:Cx}{N':List Str}{k:Nat}{js:List Nat}{scope:Scope}{elt tg iter:Expr}{ifs:List Expr}{g:TG}{tt:TT}{te:TE}{pos:Pos}
theorem Ag {pins:List (Addr×Obj)}{σ:St}{s₂:Shared}{H2:Hp}{cl:List (Str×Addr)}{it:Addr}{fp:List Addr}{tn:Nat→Heap→Prop}{J:It}{Q:VK}{E:Value→Shared→Prop}{RR:Value→Addr→Result→Shared→Prop}{W:Nat→Nat→List V→Hp→Prop}
  (S:lA X N' k js scope) (hc:X.calm=true) (I2:Inv X pins σ H2 s₂) (T:Turn X.prog X.w X.K tg J fp it tn) (st:tn 0 s₂.heap) (hf:∀ b∈fp,wQ X pins H2 b)
  (h1:∀ x c,cl.lookup x=some c→X.env.cells.lookup x=some c) (h2:∀ x,(x,NameKind.free)∈scope.names→∃ c,cl.lookup x=some c)
  (hg:∀ cl C s H fp,PG (X.comp N' scope cl C s H fp) tg g) (go:Ox k g) (ht:∀ cl C s H fp,Z5 (X.comp N' scope cl C s H fp) ifs tt) (he:∀ cl C s H fp,PE (X.comp N' scope cl C s H fp) elt te)
  (w0:∃ m,W 0 m [] H2) (turn:∀ i m ys H,W i m ys H→ys.length<sizeLine ∧
    ((J.stop i H∧∀ D,H D=none→Q (.ref D) (upd H D (.lst ys))) ∨
     (J.go i H∧∃ N:List V→Hp→Prop,(∀ ys' H',N ys' H'→∃ m',m'<m∧W (i+1) m' ys' H') ∧
       ∀ x H',J.Ui i H x H'→g x (gC k js σ) H' fun σ2 H2=>tt σ2 H2 fun c H3=>if c=true then te σ2 H3 fun y H4=>N (ys++[y]) H4 else N ys H3)))
  (hRR:∀ D C m' H' s',s₂.heap.objs.size≤C→s₂.heap.objs.size≤D→C≠D→Inv X pins σ H' s'→s'.heap.Ns C m'→H' C=none→Q (.ref D) H'→RR (.ref D) C (.ok .next) s') :
  wpAny (model X.prog X.w) X.A (newList []) (fun acc s₃=>wpAny (model X.prog X.w) X.A (newFunctionEnv scope X.env.globals cl [] X.env.qual none .none (some X.env)) (fun cenv s₄ =>
   codeAny (model X.prog X.w) X.A (.compStart (.ListComp elt [⟨tg,iter,ifs,0⟩] scope pos) 0 (.ref it) acc { cenv with scope:=relabel scope X.env }) (RR acc cenv.locals) s₄) E s₃) E s₂:=by
 refine wpAny_newObj_type (wpAny_newFunctionEnv S.Q7 (by intro y hy;simp at hy) (fun h₁ hns₁ hsb₁=>?_) S.kind)
 dsimp only at hns₁ hsb₁ ⊢
 generalize hH2:s₂.heap.push { cls:=.type "list",dict:=none,data:=.seq ([]:List Value).toArray }=P2 at hns₁ hsb₁ ⊢
 have hC:P2.objs.size=s₂.heap.objs.size+1:=by rw[←hH2,Heap.size_push]
 have hDC:s₂.heap.objs.size≠P2.objs.size:=by rw[hC];exact Nat.ne_of_lt (Nat.lt_succ_self _)
 have hCle:s₂.heap.objs.size≤P2.objs.size:=by rw[hC];exact Nat.le_succ _
 have below:∀ b,b<s₂.heap.objs.size→b≠P2.objs.size∧b≠s₂.heap.objs.size:=fun b hb=>⟨by rw[hC];exact Nat.ne_of_lt (Nat.lt_succ_of_lt hb),Nat.ne_of_lt hb⟩
 have old:∀ b o,s₂.heap.get? b=some o→h₁.get? b=some o:=fun b o e=>hsb₁.extBut b o (below b (Heap.lt_size e)).1 (Heap.get?_push_of_some _ (hH2 ▸ Heap.get?_push_of_some _ e))
 have hacc:h₁.PlainList s₂.heap.objs.size #[]:=⟨_,hsb₁.extBut _ _ hDC (Heap.get?_push_of_some _ (hH2 ▸ Heap.get?_push_size _ rfl))⟩
 have ho:∀ b∈fp,∃ o,s₂.heap.get? b=some o:=fun b hb=>let ⟨o,e,_⟩:=T.obj _ _ st b hb;⟨o,e⟩
 generalize eC:P2.objs.size=C at *
 generalize eD:s₂.heap.objs.size=D at *
 have hD2:H2 D=none:=by rw[←eD];exact I2.hok.fresh (Nat.le_refl _)
 have DnF:D∉fp:=fun z=>by
  obtain⟨o,e⟩:=ho D z
  have:=Heap.lt_size e
  rw[eD] at this
  exact Nat.lt_irrefl _ this
 have CnF:∀ b∈fp,b≠C:=fun b hb=>by
  obtain⟨o,e⟩:=ho b hb
  exact (below b (by rw[←eD];exact Heap.lt_size e)).1
 have DnS:D∉frs X.stack:=fun z=>by
  rcases List.mem_cons.mp (I2.zZ D z) with q|q
  ·have:=I2.lt
   rw[←q,eD] at this
   exact Nat.lt_irrefl _ this
  ·exact I2.W9 (by rw[eD];exact Nat.le_refl _) q
 have fpS:∀ b∈fp,b∉frs X.stack:=fun b hb z=>by
  rcases List.mem_cons.mp (I2.zZ b z) with q|q
  ·exact (hf b hb).2.1 q
  ·exact (hf b hb).2.2.1 q
 have stat:∀ {Ew:List (Addr×Obj)} {Hh:Hp},(∀ b∈fp,Hh b=none)→(∀ p∈Ew,p.1∉fp)→∀ b∈fp,wQ (X.comp N' scope cl C s₂ H2 fp) Ew Hh b:=fun hn hp b hb =>
  ⟨hn b hb,CnF b hb,fpS b hb,.inl hb,fun x c e=>(hf b hb).2.2.2.2.1 x c (h1 x c e),fun p hp' z=>hp p (show p∈_ from hp') (z ▸ hb)⟩
 have loop:∀ s₃:Shared,s₃={ s₂ with heap:=h₁,toks:=s₂.toks+([]:List (Str×Value)).length } →
   codeAny (model X.prog X.w) X.A (.compLoop (.ListComp elt [⟨tg,iter,ifs,0⟩] scope pos) 0 (.ref it) (.ref D) (compEnvC scope cl C X.env)) (RR (.ref D) C) s₃:=by
  rintro s₃ rfl
  have I0:Inv (X.comp N' scope cl C s₂ H2 fp) [] (gC k js σ) H2 { s₂ with heap:=h₁,toks:=s₂.toks+([]:List (Str×Value)).length }:=Inv.comp S I2 hf ho h1 h2 (by rw[eD];exact hCle) old hns₁
  obtain⟨m0,w0⟩:=w0
  refine Gz (fun n s'=>∃ i ys its H',Inv (X.comp N' scope cl C s₂ H2 fp) [] (gC k js σ) H' s'∧tn i s'.heap∧(∀ b∈fp,H' b=none)∧H' D=none∧s'.heap.PlainList D its∧Vals ys its.toList∧W i n ys H') ?_ m0
   ⟨0,[],#[],H2,I0,T.keep _ _ _ st (fun b hb o e=>old b o e),fun b hb=>(hf b hb).1,hD2,hacc,.nil,w0⟩
  rintro n s' ⟨i,ys,its,H',I',st',fr',d',⟨nn,pl⟩,rv,wn⟩
  obtain⟨hz,hw⟩:=turn i n ys H' wn
  have DC:D≠C:=hDC
  have I1:Inv (X.comp N' scope cl C s₂ H2 fp) [(D,{ cls:=.type "list",data:=.seq its nn })] (gC k js σ) H' s':=I'.sY fun p hp=>by
   have e:p=(D,{ cls:=.type "list",data:=.seq its nn }):=by simpa using hp
   subst e
   exact⟨pl,d',DC,DnS,fun v z=>by cases z⟩
  have pF:∀ p∈[((D,{ cls:=.type "list",data:=.seq its nn }):Addr×Obj)],p.1∉fp:=fun p hp=>by
   have e:p=(D,{ cls:=.type "list",data:=.seq its nn }):=by simpa using hp
   subst e
   exact DnF
  rcases hw with⟨stop,q⟩|⟨go1,N,hN,step⟩
  ·refine eE (T.done (X.comp N' scope cl C s₂ H2 fp) rfl rfl rfl hc i _ s' _ H' _ I1 (stat fr' pF) st' stop) fun r s1 ⟨hr,I4⟩=>?_
   subst hr
   obtain⟨m',hn',_⟩:=I4.loc
   have pin:s1.heap.get? D=some { cls:=.type "list",data:=.seq its nn }:=(I4.pin _ (List.mem_append_right _ (List.mem_singleton.mpr rfl))).1
   have base:Un (frs X.stack) fp H2 H' s₂.heap s1.heap:=I4.base
   have hok:uE X.prog X.w H' s1.heap:=I4.hok
   have neD:∀ b o,H2 b=some o→b≠D:=fun b o e=>aM e hD2
   have agm:∀ b o,s₂.heap.get? b=some o→b≠D:=fun b o e=>by rw[←eD];exact Nat.ne_of_lt (Heap.lt_size e)
   have J:Inv X pins σ (upd H' D (.lst ys)) s1:=I2.call' (ch:=fp) I4.os
    ⟨base.keep,base.slot,fun b o e n hx=>by rw[aJ (agm b o e)];exact base.free b o e n hx,base.there,fun b xs e=>by rw[aJ (neD b _ e)];exact base.tups b xs e,fun b o u e=>by rw[aJ (neD b _ e)];exact base.zX b o u e,fun b ps e=>by rw[aJ (neD b _ e)];exact base.zY b ps e⟩
    (hok.adopt d' ⟨Nat.le_of_lt hz,its.toList,nn,rv,by rw[Array.toArray_toList];exact pin⟩) I4.bare
    fun b hb=>⟨(hf b hb).2.2.2.1,(hf b hb).2.1,(hf b hb).2.2.2.2.1,(hf b hb).2.2.2.2.2⟩
   have HC:(upd H' D (.lst ys)) C=none:=by rw[aJ (Ne.symm DC)];exact I4.free
   exact hRR D C m' _ s1 hCle (Nat.le_refl _) (Ne.symm DC) J hn' HC (q D d')
  ·refine eE (T.item (X.comp N' scope cl C s₂ H2 fp) rfl rfl rfl hc i _ s' _ H' _ I1 (stat fr' pF) st' go1) fun r s1 ⟨u,hr,h4⟩=>?_
   subst hr
   refine eE h4 fun _ s2 ⟨x,H5,I5,r5,y5,Xg,fr5⟩=>?_
   have I5':=I5.pinned (stat fr5 pF) (T.obj _ _ Xg)
   refine eE (hg cl C s₂ H2 fp _ s2 (gC k js σ) H5 x u _ I5' r5 (go x _ H5 _ _ (fun σ' H' l d q=>And.intro l (And.intro d q)) (step x H5 y5))) fun _ s3 ⟨σ6,H6,I6,l6,d6,q6⟩=>?_
   refine eE (ht cl C s₂ H2 fp _ s3 σ6 H6 _ I6 q6) fun ok s4 ⟨H7,I7,q7⟩=>?_
   have again:∀ {H8:Hp} {s8:Shared},Inv (X.comp N' scope cl C s₂ H2 fp) ([(D,{ cls:=.type "list",data:=.seq its nn })]++z7 fp s2.heap) σ6 H8 s8 →
     Inv (X.comp N' scope cl C s₂ H2 fp) [] (gC k js σ) H8 s8∧tn (i+1) s8.heap∧(∀ b∈fp,H8 b=none)∧H8 D=none∧s8.heap.get? D=some { cls:=.type "list",data:=.seq its nn }:=fun {H8 s8} I8=>by
    have pD:=I8.pin (D,{ cls:=.type "list",data:=.seq its nn }) (List.mem_append_right _ (List.mem_append_left _ (List.mem_singleton.mpr rfl)))
    have pb:∀ b∈fp,∀ o,s2.heap.get? b=some o→s8.heap.get? b=some o∧H8 b=none:=fun b hb o e=>by
     have:=I8.pin (b,o) (List.mem_append_right _ (List.mem_append_right _ (uG hb e)))
     exact⟨this.1,this.2.1⟩
    refine⟨(I8.sY (Ew:=[]) fun p hp=>by simp at hp).weak l6.symm (Q8 l6 d6),T.keep _ _ _ Xg fun b hb o e=>(pb b hb o e).1,fun b hb=>?_,pD.2.1,pD.1⟩
    obtain⟨o,e,d⟩:=T.obj _ _ Xg b hb
    exact (pb b hb o e).2
   cases ok with
   | false =>
    rw[if_neg (by simp)] at q7
    obtain⟨a1,a2,a3,a4,a5⟩:=again I7
    obtain⟨m',hm,w7⟩:=hN _ _ q7
    rw[if_neg (by simp)]
    exact⟨m',hm,i+1,ys,its,H7,a1,a2,a3,a4,⟨nn,a5⟩,rv,w7⟩
   | true =>
    rw[if_pos rfl] at q7
    rw[if_pos rfl]
    refine eE (he cl C s₂ H2 fp _ s4 σ6 H7 _ I7 q7) fun y s5 ⟨yv,H8,I8,r8,q8⟩=>?_
    obtain⟨a1,a2,a3,a4,a5⟩:=again I8
    obtain⟨m',hm,w8⟩:=hN _ _ q8
    have esz:its.size≤sizeLine:=by
     have:=rv.length
     have e:its.toList.length=its.size:=by simp
     lia
    refine wpAny_list_append_plain (hsz:=esz) ⟨nn,a5⟩ fun h' pl' sb=>?_
    have I9:Inv (X.comp N' scope cl C s₂ H2 fp) [] (gC k js σ) H8 { s5 with heap:=h' }:=a1.turned (t':=s5.toks) (it:=D) (fun b o hb e=>(sb.2 b hb).trans e) a4 DC (.inr (by rw[←eD];exact Nat.le_refl _))
     (fun x c e z=>by
       obtain⟨v,o,e2,_⟩:=I2.cell x c (h1 x c e)
       rw[z] at e2
       have:=Heap.lt_size e2
       rw[eD] at this
       exact Nat.lt_irrefl _ this) (fun p hp=>absurd (show p∈([]:List (Addr×Obj)) from hp) (by simp))
    refine⟨m',hm,i+1,ys++[yv],its.push y,H8,I9,T.keep _ _ _ a2 fun b hb o e=>(sb.2 b (fun z=>DnF (z ▸ hb))).trans e,a3,a4,pl',?_,w8⟩
    rw[Array.toList_push]
    exact Vals.append rv (.cons r8 .nil)
 exact codeAny_compStart_list (loop _ rfl) (T.self _ 0 _ _ _ (T.keep _ _ _ st fun b hb o e=>old b o e) (loop _ rfl))
theorem lA.closure (S:lA X N' k js scope)(ok:X.Ok):∃ cl,closureFor scope X.env=pure cl∧(∀ x c,cl.lookup x=some c→X.env.cells.lookup x=some c)∧∀ x,(x,NameKind.free)∈scope.names→∃ c,cl.lookup x=some c :=
 Lg fun x hx hf=>ok.has x.1 (S.fr x hx hf)
theorem cF {wi:TI}(S:lA X N' k js scope)(hc:X.calm=true)(hi:PI X tg iter wi)(hg:∀ cl C s H fp,PG (X.comp N' scope cl C s H fp) tg g)(go:Ox k g)(ht:∀ cl C s H fp,Z5 (X.comp N' scope cl C s H fp) ifs tt)
  (he:∀ cl C s H fp,PE (X.comp N' scope cl C s H fp) elt te) (hs:∀ x,foldedSetIterable iter X.env x=pure x:=by intro _;rfl):PE X (.ListComp elt [⟨tg,iter,ifs,0⟩] scope pos) (Wj wi g tt te k js):=by
 intro pins s σ H Q I h
 obtain⟨cl,hcl,h1,h2⟩:=S.closure I.ok
 rw[eval_ListComp]
 refine wpAny_comprehension_free (use:=none) rfl hs hcl S.kind S.names (eE (hi pins s σ H _ I h) fun v s1 q1=>eE q1 fun itv s2 q2=>?_)
 obtain⟨it,fp,tn,J,H2,e,I2,T,st2,f2,W,w0,turn⟩:=q2
 subst e
 refine Ag (RR:=fun acc C=>compPost (model X.prog X.w) X.A X.xe none (EP X pins σ Q) acc C) S hc I2 T st2 f2 h1 h2 hg go ht he w0 turn fun D C m' H' s' hC hD hCD I' hn hHC q=>?_
 refine⟨m',hn,fun h' sb=>⟨.ref D,H',?_,rfl,q⟩⟩
 have hCL:C≠X.env.locals:=fun z=>by
  have:=I2.lt
  rw[←z] at this
  exact absurd (Nat.lt_of_lt_of_le this hC) (Nat.lt_irrefl _)
 refine I'.turned (t':=s'.toks) (it:=C) (fun b o hb e=>(sb.2 b hb).trans e) hHC hCL (.inr (Nat.le_trans I2.sz hC)) (fun x c e z=>?_) fun p hp z=>?_
 ·obtain⟨v,o,e2,_⟩:=I2.cell x c e
  rw[z] at e2
  exact absurd (Nat.lt_of_lt_of_le (Heap.lt_size e2) hC) (Nat.lt_irrefl _)
 ·have:=(I2.pin p hp).1
  rw[z] at this
  exact absurd (Nat.lt_of_lt_of_le (Heap.lt_size this) hC) (Nat.lt_irrefl _)
theorem pK {wi:TI}{i:Nat}{x:Str}{pos' spos:Pos}(S:lA X N' k js scope)(hc:X.calm=true)(hN:X.N.Nodup)(hi':X.N[i]?=some x)(hx:X.env.scope.names.lookup x=some .local)(hi:PI X tg iter wi)(hg:∀ cl C s H fp,PG (X.comp N' scope cl C s H fp) tg g)(go:Ox k g)
  (ht:∀ cl C s H fp,Z5 (X.comp N' scope cl C s H fp) ifs tt) (he:∀ cl C s H fp,PE (X.comp N' scope cl C s H fp) elt te) (hs:∀ x,foldedSetIterable iter X.env x=pure x:=by intro _;rfl)
  (hsw:swapsWith (.ListComp elt [⟨tg,iter,ifs,0⟩] scope pos) (some (.Name x pos')) spos.line X.env=pure true:=by rfl) :
  PS X (.Assign [.Name x pos'] (.ListComp elt [⟨tg,iter,ifs,0⟩] scope pos) spos) (Oh (Wj wi g tt te k js) (yg i)):=by
 intro pins s σ H D0 I h
 obtain⟨cl,hcl,h1,h2⟩:=S.closure I.ok
 rw[exec_Assign_Name_used _ _ _ _ hsw]
 refine wpAny_bind (wpAny_standAt (wpAny_bind ?_))
 show wpAny _ X.A (do let _ ←comprehension (.ListComp elt [⟨tg,iter,ifs,0⟩] scope pos) scope X.env _ (newList []) false (eval iter X.env) (some (assign (.Name x pos') X.env))) _ _ s
 refine wpAny_bind (wpAny_mono (wpAny_comprehension_free (use:=some (assign (.Name x pos') X.env)) (Q:=fun _ s'=>SP X pins D0 .next s') rfl hs hcl S.kind S.names
  (eE (hi pins s σ H _ I h) fun v s1 q1=>eE q1 fun itv s2 q2=>?_)) (fun _ s' hq=>wpAny_pure (wpAny_pure hq)) fun _ _ e=>e)
 obtain⟨it,fp,tn,J,H2,e,I2,T,st2,f2,W,w0,turn⟩:=q2
 subst e
 refine Ag (Q:=fun x H1=>yg i x σ H1 D0.nx) (RR:=fun acc C=>compPost (model X.prog X.w) X.A X.xe (some (assign (.Name x pos') X.env)) (fun _ s'=>SP X pins D0 .next s') acc C) S hc I2 T st2 f2 h1 h2 hg go ht he w0 turn fun D C m' H' s' hC hD hCD I' hn hHC q=>?_
 have hCL:C≠X.env.locals:=fun z=>by
  have:=I2.lt
  rw[←z] at this
  exact absurd (Nat.lt_of_lt_of_le this hC) (Nat.lt_irrefl _)
 have hCc:∀ x c,X.env.cells.lookup x=some c→c≠C:=fun x c e z=>by
  obtain⟨v,o,e2,_⟩:=I2.cell x c e
  rw[z] at e2
  exact absurd (Nat.lt_of_lt_of_le (Heap.lt_size e2) hC) (Nat.lt_irrefl _)
 show wpAny _ X.A (assign (.Name x pos') X.env (.ref D)) _ _ _
 refine wpAny_assign_Name (Ey I' hN hi' (.inl hx) (v:=.ref D) rfl (fun s3 I3 ⟨a,sb3,ha⟩=>?_) (.inr hx))
 have haC:C≠a:=by
  rcases ha with z|z
  ·rw[z];exact hCL
  ·exact Ne.symm (hCc _ _ z)
 refine⟨m',hn.sameBut sb3 haC,fun h' sb=>⟨_,H',?_,q⟩⟩
 refine I3.turned (t':=s3.toks) (it:=C) (fun b o hb e=>(sb.2 b hb).trans e) hHC hCL (.inr (Nat.le_trans I2.sz hC)) hCc fun p hp z=>?_
 have:=(I2.pin p hp).1
 rw[z] at this
 exact absurd (Nat.lt_of_lt_of_le (Heap.lt_size this) hC) (Nat.lt_irrefl _)
end
section
variable{X:Cx}{pins:List (Addr×Obj)}{σ:St}{H:Hp}{s:Shared}{h':Heap}
theorem Inv.turns {t':Nat}{ch:List Addr}(I:Inv X pins σ H s)(hf:∀ b∈ch,wQ X pins H b)(k:∀ b o,b∉ch→s.heap.get? b=some o→h'.get? b=some o):Inv X pins σ H { s with heap:=h',toks:=t' }:=by
 have Zu:∀ b u,H b=some u→b∉ch:=fun b u e z=>by rw[(hf b z).1] at e;cases e
 refine I.step (g':=s.gens) (d':=s.drawn) (ch:=ch) (fun b hb=>⟨(hf b hb).2.2.2.1,(hf b hb).2.1,(hf b hb).2.2.2.2.1,(hf b hb).2.2.2.2.2⟩) (fun b o _ _ hc e _=>k b o hc e) (fun b o _ _ hc e _=>⟨o.slots,k b o hc e⟩) (fun _ _ _ _ n=>n)
  (fun b o hc e=>⟨o,k b o hc e⟩) (fun _ _ e=>e) (fun _ _ _ e=>e) (fun b ps e=>⟨#[],by rw[e];simp⟩) (fun m hm=>?_) (fun b u e=>?_) I.bare
 ·obtain⟨o,es,ep,ho,r⟩:=hm
  exact⟨o,es,ep,k _ o (fun z=>(hf _ z).2.1 rfl) ho,r⟩
 ·refine (I.hok b u e).stay (fun c v hc q=>k c v ?_ q) (fun _ q=>q) fun _ _ q=>q
  rcases hc with z|z
  ·rw[z];exact Zu b u e
  ·exact Zu c _ z
theorem Inv.adopt {a:Addr}{o:HO}(I:Inv X pins σ H s)(hf:wQ X pins H a)(new:dG X.prog X.w (upd H a o) s.heap a o):Inv X pins σ (upd H a o) s:=by
 have ne:∀ b u,H b=some u→b≠a:=fun b u e=>aM e hf.1
 refine I.step (h':=s.heap) (g':=s.gens) (d':=s.drawn) (t':=s.toks) (ch:=[a]) (fun b hb=>?_) (fun b o _ _ _ e _=>e) (fun b o _ _ _ e _=>⟨o.slots,e⟩) (fun b _ hc _ n=>by rw[aJ (fun z=>hc (by simp[z]))];exact n)
  (fun b o _ e=>⟨o,e⟩) (fun b xs e=>by rw[aJ (ne b _ e)];exact e) (fun b ob u e=>by rw[aJ (ne b _ e)];exact e) (fun b ps e=>⟨#[],by rw[aJ (ne b _ e),e];simp⟩) (fun m hm=>hm) (I.hok.adopt hf.1 new) I.bare
 have e:b=a:=by simpa using hb
 subst e
 exact⟨hf.2.2.2.1,hf.2.1,hf.2.2.2.2.1,hf.2.2.2.2.2⟩
theorem Inv.Jj {t':Nat}{ch:List Addr}{p:Addr}{o:HO}(I:Inv X pins σ H s)(hf:∀ b∈ch,wQ X pins H b)(k:∀ b o,b∉ch→s.heap.get? b=some o→h'.get? b=some o)(hp:s.heap.objs.size≤p)
  (new:dG X.prog X.w (upd H p o) h' p o):Inv X pins σ (upd H p o) { s with heap:=h',toks:=t' }:=by
 have I1:Inv X pins σ H { s with heap:=h',toks:=t' }:=I.turns hf k
 exact I1.adopt (I.QC hp (I.hok.fresh hp)) new
end
def Itz (K:PySem.W.Frag)(a b:Addr):It :=
 ⟨fun i H=>∃ xs ys x y,aQ K H a xs∧aQ K H b ys∧xs[i]?=some x∧ys[i]?=some y,
  fun i H v H'=>∃ p,H p=none∧v=.ref p∧∀ xs ys x y,aQ K H a xs→aQ K H b ys→xs[i]?=some x→ys[i]?=some y→H'=upd H p (.tup [x,y]),
  fun i H=>∃ xs ys,aQ K H a xs∧aQ K H b ys∧(xs.length≤i∨ys.length≤i)⟩
theorem cI:2≤sizeLine:=by decide
theorem Q9 {P:Program}{w:World}{K:PySem.W.Frag}{es:List Expr}{k:Nat}{pos:Pos}(l1 l2 z TI TO i1 i2:Addr)(D:ZipApart z TI TO i1 i2 l1 l2):
  Turn P w K (.Tuple es k pos) (Itz K l1 l2) [z,TI,TO,i1,i2] z (fun i h=>IsZip h z TI TO .none∧IsPair h TI (.ref i1) (.ref i2)∧(∃ a b,IsPair h TO a b)∧h.IsListIter i1 l1 i∧h.IsListIter i2 l2 i) where
 mem:=by simp
 obj:=fun i h st b hb=>by
  obtain⟨hz,hTI,⟨a,c,hTO⟩,h1,h2⟩:=st
  simp only[List.mem_cons,List.not_mem_nil,or_false] at hb
  rcases hb with rfl|rfl|rfl|rfl|rfl
  ·exact⟨_,hz,fun v z=>by cases z⟩
  ·exact⟨_,hTI,fun v z=>by cases z⟩
  ·exact⟨_,hTO,fun v z=>by cases z⟩
  ·obtain⟨o,e,_,d⟩:=h1
   exact⟨o,e,fun v z=>by rw[d] at z;cases z⟩
  ·obtain⟨o,e,_,d⟩:=h2
   exact⟨o,e,fun v z=>by rw[d] at z;cases z⟩
 keep:=fun i h h' st k=>by
  obtain⟨hz,hTI,⟨a,c,hTO⟩,h1,h2⟩:=st
  exact⟨k z (by simp) _ hz,k TI (by simp) _ hTI,⟨a,c,k TO (by simp) _ hTO⟩,h1.at fun o e=>k i1 (by simp) o e,h2.at fun o e=>k i2 (by simp) o e⟩
 item:=by
  intro X hP hw hK hc i pins s σ H E I hf st hg
  subst hP hw hK
  obtain⟨xs,ys,x,y,Oz,YW,hx,hy⟩:=hg
  obtain⟨hz,hTI,⟨a,c,hTO⟩,h1,h2⟩:=st
  obtain⟨its,rv,p,_⟩:=I.list Oz
  obtain⟨jts,T4,p',_⟩:=I.list YW
  obtain⟨u,hu,ru⟩:=rv.get hx
  obtain⟨v,hv,rv'⟩:=T4.get hy
  refine wpAny_pyNext_zip_item D hz hTI hTO h1 h2 p.isList p'.isList (x:=u) (y:=v) (by simpa using hu) (by simpa using hv) fun h' hz' ago h1' h2' hT hsz hk=>?_
  refine⟨.ref s.heap.objs.size,rfl,wpAny_letOwnedTupleGo_zip hz' fun h'' hz'' sb=>?_⟩
  have ltz:z<s.heap.objs.size:=Heap.lt_size hz
  have neT:s.heap.objs.size≠z:=Nat.ne_of_gt ltz
  have hT':IsPair h'' s.heap.objs.size u v:=(sb.2 _ neT).trans hT
  have I1:Inv X pins σ (upd H s.heap.objs.size (.tup [x,y])) { s with heap:=h'' }:=I.Jj (t':=s.toks) (ch:=[z,TI,TO,i1,i2]) hf (fun b o hb e=>by
    simp only[List.mem_cons,List.not_mem_nil,or_false,not_or] at hb
    exact (sb.2 b hb.1).trans (hk b o hb.1 hb.2.2.1 hb.2.2.2.1 hb.2.2.2.2 e)) (Nat.le_refl _) ⟨cI,[u,v],.cons ru (.cons rv' .nil),⟨_,hT',rfl,_,rfl⟩⟩
  refine⟨.ref s.heap.objs.size,_,I1,rfl,⟨_,I.hok.fresh (Nat.le_refl _),rfl,fun xs' ys' x' y' q1 q2 e1 e2=>?_⟩,⟨hz'',?_,⟨u,v,(sb.2 _ D.TOz).trans ago⟩,?_,?_⟩,fun b hb=>?_⟩
  ·rw[I.vD q1 Oz,hx] at e1
   rw[I.vD q2 YW,hy] at e2
   cases e1;cases e2;rfl
  ·exact (sb.2 _ D.TIz).trans (hk _ _ D.TIz D.TITO D.TIi1 D.TIi2 hTI)
  ·exact h1'.at fun o e=>(sb.2 _ D.i1z).trans e
  ·exact h2'.at fun o e=>(sb.2 _ D.i2z).trans e
  ·have hb':=(hf b hb).1
   have:b≠s.heap.objs.size:=by
    have hlt:b<s.heap.objs.size:=by
     simp only[List.mem_cons,List.not_mem_nil,or_false] at hb
     rcases hb with rfl|rfl|rfl|rfl|rfl
     ·exact ltz
     ·exact Heap.lt_size hTI
     ·exact Heap.lt_size hTO
     ·obtain⟨o,e,_⟩:=h1;exact Heap.lt_size e
     ·obtain⟨o,e,_⟩:=h2;exact Heap.lt_size e
    exact Nat.ne_of_lt hlt
   rw[aJ this]
   exact hb'
 done:=by
  intro X hP hw hK hc i pins s σ H E I hf st hg
  subst hP hw hK
  obtain⟨xs,ys,Oz,YW,he⟩:=hg
  obtain⟨hz,hTI,⟨a,c,hTO⟩,h1,h2⟩:=st
  obtain⟨its,rv,p,_⟩:=I.list Oz
  obtain⟨jts,T4,p',_⟩:=I.list YW
  have l1:=rv.length
  have l2:=T4.length
  refine wpAny_pyNext_zip_end (I.ok.hd hc) D hz hTI hTO h1 h2 p.isList p'.isList ?_ fun h' hk=>⟨rfl,I.turns (t':=s.toks) (ch:=[z,TI,TO,i1,i2]) hf fun b o hb e=>?_⟩
  ·rcases he with he|he
   ·exact .inl (by simp;lia)
   ·exact .inr (by simp;lia)
  ·simp only[List.mem_cons,List.not_mem_nil,or_false,not_or] at hb
   exact hk b o hb.1 hb.2.2.1 hb.2.2.2.1 hb.2.2.2.2 e
 self:=fun _ _ _ _ _ st h=>wpAny_pyIter_zip st.1 h
section
variable{X:Cx}{es:List Expr}{k:Nat}{tpos:Pos}
def Z6 (K:PySem.W.Frag)(ta:TA):TI:=fun σ H R=>ta σ H fun vs H1=>∃ a b,vs=[.ref a,.ref b]∧(∃ xs,aQ K H1 a xs)∧(∃ ys,aQ K H1 b ys)∧R (Itz K a b) H1
theorem Xo {a b:Expr}{ta:TA}{p pos:Pos}(hg:Gl X "zip")(hm:X.mg "zip" = none)(ha:PA X [a,b] ta)(hs:starEach [a,b] X.env=[(false,eval a X.env),(false,eval b X.env)]:=by rfl)(hs2:starEach [b] X.env=[(false,eval b X.env)]:=by rfl):
  PI X (.Tuple es k tpos) (.Call (.Name "zip" p) [a,b] [] pos) (Z6 X.K ta):=by
 intro pins s σ H R I h
 refine Call_ (pI I hg hm boot_zip (PyProof.Rows.callWith_type1 (eE (ha pos pins s σ H _ I h) fun us s1 ⟨vs,H1,I1,r1,q1⟩=>?_) (by rw[hs,hs2]) (by rw[hs2];rfl)))
 obtain⟨l1,l2,e,⟨xs,Oz⟩,⟨ys,YW⟩,q⟩:=q1
 subst e
 obtain⟨u,v,rfl,r1,r2⟩:=vals2 r1
 cases r1;cases r2
 obtain⟨its,rv,p1,_⟩:=I1.list Oz
 obtain⟨jts,T4,p2,_⟩:=I1.list YW
 refine call_zip_2 p1.isList p2.isList fun h' hz hTI hTO h1 h2 hsz hk=>?_
 have I2:Inv X pins σ H1 { s1 with heap:=h' }:=I1.kept (t':=s1.toks) hk
 have D:=zipApart_new (n:=s1.heap.objs.size) p1.lt p2.lt
 refine wpAny_pyIter_zip hz ?_
 refine⟨_,_,_,_,H1,rfl,I2,Q9 l1 l2 _ _ _ _ _ D,⟨hz,hTI,⟨_,_,hTO⟩,h1,h2⟩,fun b hb=>?_,q⟩
 have hle:s1.heap.objs.size≤b:=by
  simp only[List.mem_cons,List.not_mem_nil,or_false] at hb
  rcases hb with rfl|rfl|rfl|rfl|rfl
  ·exact Nat.le_add_right _ 4
  ·exact Nat.le_add_right _ 2
  ·exact Nat.le_add_right _ 3
  ·exact Nat.le_refl _
  ·exact Nat.le_add_right _ 1
 exact I1.QC hle (I1.hok.fresh hle)
end
def Ite (K:PySem.W.Frag)(a:Addr):It :=
 ⟨fun i H=>∃ xs x,aQ K H a xs∧xs[i]?=some x,
  fun i H v H'=>∃ p,H p=none∧v=.ref p∧∀ xs x,aQ K H a xs→xs[i]?=some x→H'=upd H p (.tup [.int i,x]),
  fun i H=>∃ xs,aQ K H a xs∧xs.length≤i⟩
theorem OD {P:Program}{w:World}{K:PySem.W.Frag}{es:List Expr}{k:Nat}{pos:Pos}(l e it:Addr)(hne:e≠it):
  Turn P w K (.Tuple es k pos) (Ite K l) [e,it] e (fun i h=>(∃ old,IsEnum h e it i old)∧h.IsListIter it l i) where
 mem:=by simp
 obj:=fun i h st b hb=>by
  obtain⟨⟨old,he⟩,h1⟩:=st
  simp only[List.mem_cons,List.not_mem_nil,or_false] at hb
  rcases hb with rfl|rfl
  ·exact⟨_,he,fun v z=>by cases z⟩
  ·obtain⟨o,e,_,d⟩:=h1
   exact⟨o,e,fun v z=>by rw[d] at z;cases z⟩
 keep:=fun i h h' st k=>by
  obtain⟨⟨old,he⟩,h1⟩:=st
  exact⟨⟨old,k e (by simp) _ he⟩,h1.at fun o q=>k it (by simp) o q⟩
 item:=by
  intro X hP hw hK hc i pins s σ H E I hf st hg
  subst hP hw hK
  obtain⟨xs,x,Oz,hx⟩:=hg
  obtain⟨⟨old,he⟩,h1⟩:=st
  obtain⟨its,rv,p,_⟩:=I.list Oz
  obtain⟨u,hu,ru⟩:=rv.get hx
  refine wpAny_pyNext_enum_item he h1 p.isList (x:=u) (by simpa using hu) hne fun h' he' h1' hT hsz hk=>?_
  refine⟨.ref s.heap.objs.size,rfl,wpAny_letOwnedTupleGo_enum he' fun h'' Z7 sb=>?_⟩
  have lte:e<s.heap.objs.size:=Heap.lt_size he
  have hT':h''.get? s.heap.objs.size=some { cls:=.type "tuple",data:=.seq #[.int i s.toks,u] }:=(sb.2 _ (Nat.ne_of_gt lte)).trans hT
  have I1:Inv X pins σ (upd H s.heap.objs.size (.tup [.int i,x])) { s with heap:=h'',toks:=s.toks+1 }:=I.Jj (t':=s.toks+1) (ch:=[e,it]) hf (fun b o hb q=>by
    simp only[List.mem_cons,List.not_mem_nil,or_false,not_or] at hb
    exact (sb.2 b hb.1).trans (hk b o hb.1 hb.2 q)) (Nat.le_refl _) ⟨cI,[.int i s.toks,u],.cons ⟨_,rfl⟩ (.cons ru .nil),⟨_,hT',rfl,_,rfl⟩⟩
  refine⟨.ref s.heap.objs.size,_,I1,rfl,⟨_,I.hok.fresh (Nat.le_refl _),rfl,fun xs' x' q1 e1=>?_⟩,⟨⟨u,?_⟩,h1'.at fun o q=>(sb.2 _ (Ne.symm hne)).trans q⟩,fun b hb=>?_⟩
  ·rw[I.vD q1 Oz,hx] at e1
   cases e1;rfl
  ·have e2:((i:Int)+1)=((i+1:Nat):Int):=by push_cast;rfl
   rw[e2] at Z7
   exact Z7
  ·have hb':=(hf b hb).1
   have:b≠s.heap.objs.size:=by
    have hlt:b<s.heap.objs.size:=by
     simp only[List.mem_cons,List.not_mem_nil,or_false] at hb
     rcases hb with rfl|rfl
     ·exact lte
     ·obtain⟨o,e,_⟩:=h1;exact Heap.lt_size e
    exact Nat.ne_of_lt hlt
   rw[aJ this]
   exact hb'
 done:=by
  intro X hP hw hK hc i pins s σ H E I hf st hg
  subst hP hw hK
  obtain⟨xs,Oz,hl⟩:=hg
  obtain⟨⟨old,he⟩,h1⟩:=st
  obtain⟨its,rv,p,_⟩:=I.list Oz
  have l1:=rv.length
  refine wpAny_pyNext_enum_end (I.ok.hd hc) he h1 p.isList (by simp;lia) fun h' hk=>⟨rfl,I.turns (t':=s.toks) (ch:=[e,it]) hf fun b o hb q=>?_⟩
  simp only[List.mem_cons,List.not_mem_nil,or_false,not_or] at hb
  exact hk b o hb.2 q
 self:=fun A i s Q E st h=>by
  obtain⟨⟨old,he⟩,_⟩:=st
  exact wpAny_pyIter_enum he h
section
variable{X:Cx}{es:List Expr}{k:Nat}{tpos:Pos}
def Wk (K:PySem.W.Frag)(ta:TA):TI:=fun σ H R=>ta σ H fun vs H1=>∃ a,vs=[.ref a]∧(∃ xs,aQ K H1 a xs)∧R (Ite K a) H1
theorem UG {a:Expr}{ta:TA}{p pos:Pos}(hg:Gl X "enumerate")(hm:X.mg "enumerate" = none)(ha:PA X [a] ta)(hs:starEach [a] X.env=[(false,eval a X.env)]:=by rfl):
  PI X (.Tuple es k tpos) (.Call (.Name "enumerate" p) [a] [] pos) (Wk X.K ta):=by
 intro pins s σ H R I h
 refine Call_ (pI I hg hm boot_enumerate (PyProof.Rows.callWith_type1 (eE (ha pos pins s σ H _ I h) fun us s1 ⟨vs,H1,I1,r1,q1⟩=>?_) hs rfl))
 obtain⟨l1,e,⟨xs,Oz⟩,q⟩:=q1
 subst e
 obtain⟨u,rfl,ru⟩:=vals1 r1
 cases ru
 obtain⟨its,rv,p1,_⟩:=I1.list Oz
 refine call_enumerate_list p1.isList fun h' he h1 hsz hk=>?_
 have I2:Inv X pins σ H1 { s1 with heap:=h' }:=I1.kept (t':=s1.toks) hk
 refine wpAny_pyIter_enum he ?_
 refine⟨_,_,_,_,H1,rfl,I2,OD l1 _ _ (Nat.ne_of_gt (Nat.lt_succ_self _)),⟨⟨_,he⟩,h1⟩,fun b hb=>?_,q⟩
 have hle:s1.heap.objs.size≤b:=by
  simp only[List.mem_cons,List.not_mem_nil,or_false] at hb
  rcases hb with rfl|rfl
  ·exact Nat.le_add_right _ 1
  ·exact Nat.le_refl _
 exact I1.QC hle (I1.hok.fresh hle)
end
def jm (i:Int):Prop:=i.natAbs<2 ^ 1024
theorem jm.log {i:Int}(h:jm i):i.natAbs.log2<1024:=by
 by_cases h0:i.natAbs=0
 ·rw[h0];decide +kernel
 ·exact (Nat.log2_lt h0).mpr h
theorem fit_le {i:Int}(B:Nat)(h:i.natAbs≤B)(hB:B<2 ^ 1024):jm i:=Nat.lt_of_le_of_lt h hB
theorem jm.mono {i j:Int}(h:jm j)(k:i.natAbs≤j.natAbs):jm i:=Nat.lt_of_le_of_lt k h
theorem jm.bits {i:Int}(h:jm i):Builtin.Int.intBits i≤2 ^ 20:=by
 unfold Builtin.Int.intBits
 split
 ·exact Nat.zero_le _
 ·have h:=h.log
  have e:(2:Nat) ^ 20=1048576:=by decide
  lia
section
variable{X:Cx}
theorem dR:vp X (binaryOp .Mult) (rI (fun i j=>jm i∧jm j) fun i j=>.int (i*j)):=ZK fun _ _ _ _ _ _ _ hc q=>mul_int q (.of_bits hc.1.bits hc.2.bits)
theorem bU:vp X (binaryOp .FloorDiv) (rI (fun _ j=>0<j∧jm j) fun i j=>.int (i / j)):=ZK fun i j _ _ _ _ _ hc q=>by
 have h1:(0:Int)<j:=hc.1
 have h2:=hc.2.log
 exact floordiv_int (by lia) (by rw[Int.fdiv_eq_ediv_of_nonneg i (by lia)];exact q) (.inl (PyProof.noPylong_of_log2 (by lia)))
def Z8 (K:PySem.W.Frag)(n:String):List V→Hp→VK→Prop:=fun xs H Q=>∃ x t b,xs=[x,.ty n]∧uH K H x t∧PySem.W.kitOne K t (.type n)=some b∧Q (.bl b) H
def Z9 (K:PySem.W.Frag)(C:Addr):List V→Hp→VK→Prop:=fun xs H Q=>∃ x t b,xs=[x,.ref C]∧uH K H x t∧PySem.W.kitOne K t (.ref C)=some b∧Q (.bl b) H
theorem Ra {n:String}:iu X (.builtin "isinstance") (Z8 X.K n):=by
 intro pins s σ H xs us Q I r h
 obtain⟨x,t,b,rfl,ty,e,q⟩:=h
 obtain⟨u,v,rfl,rx,rc⟩:=vals2 r
 cases rc
 exact EY I rx ty e fun tk=>⟨.bl b,H,I.tok tk,rfl,q⟩
theorem Rb {C:Addr}:iu X (.builtin "isinstance") (Z9 X.K C):=by
 intro pins s σ H xs us Q I r h
 obtain⟨x,t,b,rfl,ty,e,q⟩:=h
 obtain⟨u,v,rfl,rx,rc⟩:=vals2 r
 cases rc
 exact EY I rx ty e fun tk=>⟨.bl b,H,I.tok tk,rfl,q⟩
end
theorem qU {K:PySem.W.Frag}{t:Value}:PySem.W.kitOne K t t=some true:=by
 unfold PySem.W.kitOne
 rw[if_pos (by simp)]
section
variable{K:PySem.W.Frag}
theorem GC:PySem.W.kitOne K (.type "int") (.type "bool")=some false:=by kernel_rfl
end
section
variable{X:Cx}
theorem ints_of {ns:List Int}{its:List Value}(r:Vals (ns.map V.int) its):∃ xs:Array (Int×Tok),its.toArray=intItems xs∧xs.toList.map (·.1)=ns:=by
 have hi:=intsAre_of r
 obtain⟨xs,e⟩:=hi.allInts.items
 refine⟨xs,e,?_⟩
 have q:numsOf its.toArray.toList=ns:=hi.numsOf
 rw[e,nums_intItems] at q
 exact q
def Wm (K:PySem.W.Frag):List V→Hp→VK→Prop:=fun xs H Q=>∃ (a:Addr) (ns:List Int),xs=[.ref a]∧aQ K H a (ns.map V.int)∧Q (.int ns.sum) H
theorem OJ (hc:X.calm=true):iu X (.builtin "sum") (Wm X.K):=by
 intro pins s σ H xs us Q I r h
 obtain⟨a,ns,rfl,hq,q⟩:=h
 obtain⟨u,rfl,rx⟩:=vals1 r
 cases rx
 obtain⟨its,rv,p,_⟩:=I.list hq
 obtain⟨ys,e,en⟩:=ints_of rv
 refine sum_intListG (I.ok.hd hc) (by rw[←e];exact p.isList) fun h' tk t' hk=>⟨.int ns.sum,H,I.kept hk,⟨t',?_⟩,q⟩
 rw[preSum_eq,List.take_of_length_le (by simp),en]
def Wn (K:PySem.W.Frag):List V→Hp→VK→Prop:=fun xs H Q=>∃ (a:Addr) (ns:List Int),xs=[.ref a]∧aQ K H a (ns.map V.int)∧ns≠[]∧∀ m,m∈ns→(∀ b∈ns,m≤b)→Q (.int m) H
theorem O1 (hc:X.calm=true):iu X (.builtin "min") (Wn X.K):=by
 intro pins s σ H xs us Q I r h
 obtain⟨a,ns,rfl,hq,hne,q⟩:=h
 obtain⟨u,rfl,rx⟩:=vals1 r
 cases rx
 obtain⟨its,rv,p,_⟩:=I.list hq
 obtain⟨ys,e,en⟩:=ints_of rv
 have hl:s.heap.IsList a (intItems ys):=by rw[←e];exact p.isList
 have hsz:0<ys.size:=by
  have h3:0<ns.length:=List.length_pos_iff.mpr hne
  rw[←en,List.length_map,Array.length_toList] at h3;exact h3
 refine min_intList (I.ok.hd hc) hl hsz fun v h' tk hv hk=>?_
 obtain⟨t,rfl⟩:=intItems_at hv
 obtain⟨h1,h2⟩:=argBest_lt (numAt ys) (ys.size-1)
 refine⟨.int _,H,I.kept hk,⟨t,rfl⟩,q _ ?_ fun b hb=>?_⟩
 ·rw[←en,numAt_eq];exact getD_mem (by rw[List.length_map,Array.length_toList];lia)
 ·rw[←en] at hb
  obtain⟨j,hj,rfl⟩:=mem_getD hb
  rw[List.length_map,Array.length_toList] at hj
  rw[←numAt_eq];exact h2 j (by lia)
theorem Jk {bs:List Bool}:∀ {its:List Value},Vals (bs.map V.bl) its→LSm.BoolsAre its bs:=by
 induction bs with
 | nil=>intro its r;cases r;exact .nil
 | cons b bs ih =>
  intro its r
  cases r with
  | cons r1 r2 =>
   cases r1
   exact .cons b (ih r2)
theorem MN {s:Shared}{h':Heap}{o:Obj}(hk:∀ b x,b∉[s.heap.objs.size]→(s.heap.push o).get? b=some x→h'.get? b=some x):∀ b x,s.heap.get? b=some x→h'.get? b=some x :=
 fun b x e=>hk b x (fun hm=>by rw[List.mem_singleton.mp hm] at e;exact Nat.lt_irrefl _ (Heap.lt_size e)) (Heap.get?_push_of_some _ e)
def Wo (K:PySem.W.Frag):List V→Hp→VK→Prop:=fun xs H Q=>∃ (a:Addr) (bs:List Bool),xs=[.ref a]∧aQ K H a (bs.map V.bl)∧Q (.bl (bs.all id)) H
theorem O2 (hc:X.calm=true):iu X (.builtin "all") (Wo X.K):=by
 intro pins s σ H xs us Q I r h
 obtain⟨a,bs,rfl,hq,q⟩:=h
 obtain⟨u,rfl,rx⟩:=vals1 r
 cases rx
 obtain⟨its,rv,p,_⟩:=I.list hq
 have hb:=Jk rv
 have hl:=p.isList
 have hlt:a<s.heap.objs.size:=p.lt
 refine call_all_walk (wpAny_pyIter_list hl ?_)
 refine⟨s.heap.objs.size,[s.heap.objs.size,a],[s.heap.objs.size],its.toArray.size,_,_,fun i=>(bs[i]?).getD true,rfl,Walks.list (A:=X.A.in1) (I.ok.hd hc) _ a (Nat.ne_of_lt hlt) its.toArray,
  ⟨⟨_,Heap.get?_push_size _ rfl,rfl,rfl⟩,hl.push _⟩,fun i v s' Q' E' hP hQ=>?_,fun h' tk hk=>?_⟩
 ·obtain⟨b,e,rfl⟩:=hb.get i v (by simpa using hP)
  simp only[e,Option.getD_some] at hQ
  exact wpAny_truthy_bool hQ
 ·have e:((List.range its.toArray.size).all fun i=>(bs[i]?).getD true)=bs.all id:=by
   rw[List.size_toArray,hb.length];exact LSm.range_all bs
  rw[e]
  exact⟨.bl _,H,I.kept (MN hk),rfl,q⟩
def Wq (K:PySem.W.Frag):List V→Hp→VK→Prop:=fun xs H Q=>∃ (a:Addr) (bs:List Bool),xs=[.ref a]∧aQ K H a (bs.map V.bl)∧Q (.bl (bs.any id)) H
theorem O4 (hc:X.calm=true):iu X (.builtin "any") (Wq X.K):=by
 intro pins s σ H xs us Q I r h
 obtain⟨a,bs,rfl,hq,q⟩:=h
 obtain⟨u,rfl,rx⟩:=vals1 r
 cases rx
 obtain⟨its,rv,p,_⟩:=I.list hq
 have hb:=Jk rv
 have hl:=p.isList
 have hlt:a<s.heap.objs.size:=p.lt
 refine call_any_walk (wpAny_pyIter_list hl ?_)
 refine⟨s.heap.objs.size,[s.heap.objs.size,a],[s.heap.objs.size],its.toArray.size,_,_,fun i=>(bs[i]?).getD false,rfl,Walks.list (A:=X.A.in1) (I.ok.hd hc) _ a (Nat.ne_of_lt hlt) its.toArray,
  ⟨⟨_,Heap.get?_push_size _ rfl,rfl,rfl⟩,hl.push _⟩,fun i v s' Q' E' hP hQ=>?_,fun h' tk hk=>?_⟩
 ·obtain⟨b,e,rfl⟩:=hb.get i v (by simpa using hP)
  simp only[e,Option.getD_some] at hQ
  exact wpAny_truthy_bool hQ
 ·have e:((List.range its.toArray.size).any fun i=>(bs[i]?).getD false)=bs.any id:=by
   rw[List.size_toArray,hb.length];exact LSm.range_any bs
  rw[e]
  exact⟨.bl _,H,I.kept (MN hk),rfl,q⟩
def Rc (K:PySem.W.Frag):R2:=fun x y H Q=>∃ l b xs zs,x=.ref l∧y=.ref b∧aQ K H l xs∧aQ K H b zs∧xs.length+zs.length≤sizeLine∧∀ p,H p=none→Q (.ref p) (upd H p (.lst (xs++zs)))
theorem UJ:vp X (binaryOp .Add) (Rc X.K):=by
 intro pins s σ H x y v u Q I rx ry h
 obtain⟨l,b,xs,zs,rfl,rfl,hH,hB,hz,q⟩:=h
 cases rx
 cases ry
 obtain⟨its,r,p,_⟩:=I.list hH
 obtain⟨jts,r2,p2,_⟩:=I.list hB
 obtain⟨⟨cls,dd,data,sl⟩,ho,hc,n,hd⟩:=p.isList
 obtain⟨⟨cls2,dd2,data2,sl2⟩,ho2,hc2,n2,hd2⟩:=p2.isList
 simp only at hc hd hc2 hd2
 subst hc hd hc2 hd2
 have l1:=r.length
 have l2:=r2.length
 have e:its.toArray++jts.toArray=(its++jts).toArray:=by simp
 refine concat_meets ⟨_,ho,rfl⟩ ⟨_,ho2,rfl⟩ noFill_list_add seq_list_add PySem.F.slot_list_add PySem.F.entry_list_add (PySem.F.args_list_add_2 _ _) (list_addW l b its.toArray jts.toArray n n2 dd dd2 sl sl2 (by rw[List.size_toArray,List.size_toArray];lia)) ⟨ho,ho2,?_⟩
 rw[e]
 exact⟨.ref _,_,I.Z2 (t':=s.toks) (r.append r2) (by rw[List.length_append];lia),rfl,q _ I.fresh⟩
end
mutual
inductive Dr (K:PySem.W.Frag)(H:Hp):V→PyData→Prop where
 | non:Dr K H .non .none
 | bl (b:Bool):Dr K H (.bl b) (.bool b)
 | int (i:Int):Dr K H (.int i) (.int i)
 | str (x:Str) (h:PyData.strOk x=true):Dr K H (.str x) (.str x)
 | lst {a:Addr} {xs:List V} {ds:List PyData} (h:aQ K H a xs) (r:MP K H xs ds):Dr K H (.ref a) (.list ds)
 | tup {a:Addr} {xs:List V} {ds:List PyData} (h:cT K H a xs) (r:MP K H xs ds):Dr K H (.ref a) (.tuple ds)
inductive MP (K:PySem.W.Frag)(H:Hp):List V→List PyData→Prop where
 | nil:MP K H [] []
 | cons {x:V} {d:PyData} {xs:List V} {ds:List PyData} (h:Dr K H x d) (r:MP K H xs ds):MP K H (x::xs) (d::ds)
end
section
variable{X:Cx}{pins:List (Addr×Obj)}{σ:St}{H:Hp}{s:Shared}
mutual
theorem Dr.reads (I:Inv X pins σ H s):∀ {x:V} {d:PyData} {u:Value},Dr X.K H x d→RelV x u→∃ as,Reads s.heap u d as
 | _,_,_,.non,r=>by cases r;exact⟨_,.none⟩
 | _,_,_,.bl b,r=>by cases r;exact⟨_,.bool b⟩
 | _,_,_,.int i,r=>by obtain⟨t,rfl⟩:=r;exact⟨_,.int i t⟩
 | _,_,_,.str x _,r=>by obtain⟨t,rfl⟩:=r;exact⟨_,.str x t⟩
 | _,_,_,.lst h rs,r=>by
  cases r
  obtain⟨its,rv,p,_⟩:=I.list h
  obtain⟨o,ho,hc,n,hd⟩:=p.isList
  obtain⟨as,q⟩:=MP.reads I rs rv
  exact⟨_,.list ho hc hd (by simpa using q)⟩
 | _,_,_,.tup h rs,r=>by
  cases r
  obtain⟨its,rv,p,_⟩:=I.tuple h
  obtain⟨o,ho,hc,n,hd⟩:=p
  obtain⟨as,q⟩:=MP.reads I rs rv
  exact⟨_,.tuple ho hc hd (by simpa using q)⟩
theorem MP.reads (I:Inv X pins σ H s):∀ {xs:List V} {ds:List PyData} {us:List Value},MP X.K H xs ds→Vals xs us→∃ as,ReadsAll s.heap us ds as
 | _,_,_,.nil,r=>by cases r;exact⟨_,.nil⟩
 | _,_,_,.cons h hs,r=>by
  cases r with
  | cons r1 r2 =>
   obtain⟨as,q⟩:=Dr.reads I h r1
   obtain⟨bs,q'⟩:=MP.reads I hs r2
   exact⟨_,.cons q q'⟩
end
end
section
variable{X:Cx}
def UL (K:PySem.W.Frag)(neg:Bool):R2:=fun x y H Q=>∃ d e,Dr K H x d∧Dr K H y e∧SeqAt.shaped d=true∧SeqAt.shaped e=true∧Q (.bl (if neg then !PyData.eqv d e else PyData.eqv d e)) H
theorem Xp (hu:X.A.units+64<cLine):vp X (compareOp .Eq) (UL X.K false):=by
 intro pins s σ H x y v u Q I rx ry h
 obtain⟨d,e,hd,he,sd,se,q⟩:=h
 obtain⟨as,ra⟩:=hd.reads I rx
 obtain⟨bs,rb⟩:=he.reads I ry
 exact SeqAt.compareEq_shaped ra rb sd se hu ⟨.bl _,H,I,rfl,q⟩
theorem Xq (hu:X.A.units+64<cLine):vp X (compareOp .NotEq) (UL X.K true):=by
 intro pins s σ H x y v u Q I rx ry h
 obtain⟨d,e,hd,he,sd,se,q⟩:=h
 obtain⟨as,ra⟩:=hd.reads I rx
 obtain⟨bs,rb⟩:=he.reads I ry
 exact SeqAt.compareNe_shaped ra rb sd se hu ⟨.bl _,H,I,rfl,q⟩
def lB (xs:List V)(lo hi st:Option Int):List V :=
 (sliceRange (sliceBounds lo hi st xs.length).1 (sliceBounds lo hi st xs.length).2.1 (sliceBounds lo hi st xs.length).2.2).filterMap (xs[·]?)
theorem lD {xs:List V}{its:List Value}(r:Vals xs its):∀ ks:List Nat,Vals (ks.filterMap (xs[·]?)) (ks.filterMap (its[·]?))
 | []=>.nil
 | k::ks=>by
  have ih:=lD r ks
  cases e:xs[k]? with
  | none =>
   have e':=r.none_of e
   rw[List.filterMap_cons_none e,List.filterMap_cons_none e']
   exact ih
  | some x =>
   obtain⟨u,e',ru⟩:=r.get e
   rw[List.filterMap_cons_some e,List.filterMap_cons_some e']
   exact .cons ru ih
def agp (K:PySem.W.Frag):V→Option Int→Option Int→Option Int→Hp→VK→Prop:=fun x lo hi st H Q=>∃ a xs,x=.ref a∧aQ K H a xs∧st≠some 0∧((lB xs lo hi st).length≤xs.length→∀ p,H p=none→Q (.ref p) (upd H p (.lst (lB xs lo hi st))))
def aac (K:PySem.W.Frag)(te:TE)(tl th ts:TO):TE:=fun σ H Q=>te σ H fun x H1=>tl σ H1 fun l H2=>th σ H2 fun u H3=>ts σ H3 fun st H4=>agp K x l u st H4 Q
theorem O5 {e st:Expr}{te:TE}{lo hi:Option Expr}{tl th ts:TO}{pos p2:Pos}(he:PE X e te)(hl:PO X lo tl)(hu:PO X hi th)(hst:PO X (some st) ts):PE X (.Subscript e (.Slice lo hi (some st) p2) pos) (aac X.K te tl th ts):=by
 intro pins s σ H Q I h
 refine Subscript_ (eE (he pins s σ H _ I h) fun v s1 ⟨x,H1,I1,r1,q1⟩=>?_)
 refine wpAny_Slice (eE (hl pins s1 σ H1 _ I1 q1) fun vl s2 ⟨l,H2,I2,pl,q2⟩=>eE (hu pins s2 σ H2 _ I2 q2) fun vu s3 ⟨u,H3,I3,pu,q3⟩=>eE (hst pins s3 σ H3 _ I3 q3) fun vs s4 ⟨st',H4,I4,ps,q4⟩=>?_)
 obtain⟨a,xs,rfl,hx,h0,q⟩:=q4
 cases r1
 have I5:Inv X pins σ H4 { s4 with heap:=s4.heap.push { cls:=.type "slice",data:=.fields #[vl,vu,vs] } }:=I4.kept (t':=s4.toks) fun b ob q=>Heap.get?_push_of_some _ q
 obtain⟨its,r,ht,hz⟩:=I5.list hx
 have hlen:=r.length
 show wpAny (model X.prog X.w) X.A (subscriptTail e (.Slice lo hi (some st) p2) (.ref a) (.ref s4.heap.objs.size)) (EP X pins σ Q) X.xe { s4 with heap:=s4.heap.push { cls:=.type "slice",data:=.fields #[vl,vu,vs] } }
 refine tail_any (ops:=[.ref a,.ref s4.heap.objs.size]) ht.isList.typeIs slot_list_getitem.lookup ?_ (by with_unfolding_all rfl)
 refine wpAny_getItem_list_slice ht.isList (Heap.IsSliceOf.new ..) pl pu ps h0 ?_ (by rw[List.size_toArray]<;>lia)
 have e1:slicePick its.toArray l u st'=((sliceRange (sliceBounds l u st' xs.length).1 (sliceBounds l u st' xs.length).2.1 (sliceBounds l u st' xs.length).2.2).filterMap (its[·]?)).toArray:=by
  unfold slicePick
  rw[List.size_toArray,hlen]
  simp
 have hsz:(lB xs l u st').length≤xs.length:=by
  have h1:=slicePick_size_le its.toArray l u st'
  rw[e1,List.size_toArray,List.size_toArray] at h1
  have h2:=(lD r (sliceRange (sliceBounds l u st' xs.length).1 (sliceBounds l u st' xs.length).2.1 (sliceBounds l u st' xs.length).2.2)).length
  have h3:(lB xs l u st').length=_:=h2
  lia
 rw[e1]
 exact⟨.ref _,_,I5.Z2 (t':=s4.toks) (lD r _) (Nat.le_trans hsz hz),rfl,q hsz _ I5.fresh⟩
end
section
variable(K:PySem.W.Frag){X:Cx}(hK:X.K=K:=by rfl)
include hK
theorem O6 {n:String}:iu X (.builtin "isinstance") (Z8 K n):=by subst hK;exact Ra
theorem agq {C:Addr}:iu X (.builtin "isinstance") (Z9 K C):=by subst hK;exact Rb
theorem aG:ZS X (ZW K):=by subst hK;exact Xl
theorem aP:ZS X (ZV K):=by subst hK;exact Uw
def aad (K:PySem.W.Frag):List V→Hp→VK→Prop:=fun xs H Q=>∃ p ys,xs=[.ref p]∧(aQ K H p ys∨cT K H p ys)∧Q (.int ys.length) H
theorem iV:iu X (.builtin "len") (aad K):=by subst hK;exact Gu
theorem sumK (hc:X.calm=true):iu X (.builtin "sum") (Wm K):=by subst hK;exact OJ hc
theorem O7 (hc:X.calm=true):iu X (.builtin "min") (Wn K):=by subst hK;exact O1 hc
theorem tM (hc:X.calm=true):iu X (.builtin "all") (Wo K):=by subst hK;exact O2 hc
theorem UW (hc:X.calm=true):iu X (.builtin "any") (Wq K):=by subst hK;exact O4 hc
theorem jF:vp X (binaryOp .Add) (Rc K):=by subst hK;exact UJ
theorem eqK (hu:X.A.units+64<cLine):vp X (compareOp .Eq) (UL K false):=by subst hK;exact Xp hu
theorem Wr (hu:X.A.units+64<cLine):vp X (compareOp .NotEq) (UL K true):=by subst hK;exact Xq hu
theorem gn {es:List Expr}{k:Nat}{t:Qx}{n:Nat}{pos:Pos}(hc:X.calm=true)(h:ZC X es t)
  (hn:(assignEach es X.env).length=n:=by rfl) (hst:(assignEach es X.env).findIdx? (·.1)=none:=by rfl):PG X (.Tuple es k pos) (Xd K n t):=by subst hK;exact Xe hc h hn hst
theorem bM {tg l:Expr}{tl:TE}(hl:PE X l tl):PI X tg l (Wd K tl):=by subst hK;exact Uj hl
end
theorem Rf {σ:St}{H:Hp}{A B:Hp→Prop}(h:A H):Xn σ H fun c H3=>if c=true then A H3 else B H3:=by
 show (if true=true then A H else B H)
 exact fH h
theorem dg {i:Nat}{v:V}{σ:St}{H:Hp}{A B:St→Hp→Prop}(h:A (σ.set i (some v)) H):yg i v σ H fun σ2 H2=>Xn σ2 H2 fun c H3=>if c=true then A σ2 H3 else B σ2 H3:=by
 show (if true=true then A (σ.set i (some v)) H else B (σ.set i (some v)) H)
 exact fH h
abbrev Fp (J:It)(g:TG)(tt:TT)(te:TE)(σc:St)(Fn:List V→Hp→Prop)(H:Hp):Prop :=
 ∃ W:Nat→Nat→List V→Hp→Prop,(∃ m,W 0 m [] H)∧∀ i m ys H,W i m ys H→ys.length<sizeLine ∧
  ((J.stop i H∧Fn ys H) ∨
   (J.go i H∧∃ N:List V→Hp→Prop,(∀ ys' H',N ys' H'→∃ m',m'<m∧W (i+1) m' ys' H') ∧
     ∀ x H',J.Ui i H x H'→g x σc H' fun σ2 H2=>tt σ2 H2 fun c H3=>if c=true then te σ2 H3 fun y H4=>N (ys++[y]) H4 else N ys H3))
section
variable{K:PySem.W.Frag}{g:TG}{tt:TT}{te:TE}{σc:St}{Fn:List V→Hp→Prop}{H:Hp}
theorem vI {J:It}(n:Nat)(Pv:Nat→List V→Hp→Prop)(h0:Pv 0 [] H)(hz:∀ i ys H,i≤n→Pv i ys H→ys.length<sizeLine)(hg:∀ i ys H,i<n→Pv i ys H→J.go i H)
  (hs:∀ i ys H x H',i<n→Pv i ys H→J.Ui i H x H'→g x σc H' fun σ2 H2=>tt σ2 H2 fun c H3=>if c=true then te σ2 H3 fun y H4=>Pv (i+1) (ys++[y]) H4 else Pv (i+1) ys H3)
  (hd:∀ ys H,Pv n ys H→J.stop n H∧Fn ys H):Fp J g tt te σc Fn H:=by
 refine⟨fun i m ys H=>m=n-i∧i≤n∧Pv i ys H,⟨n,by simp,Nat.zero_le _,h0⟩,?_⟩
 rintro i m ys H ⟨rfl,hi,p⟩
 refine⟨hz i ys H hi p,?_⟩
 by_cases hlt:i<n
 ·exact .inr ⟨hg i ys H hlt p,Pv (i+1),fun ys' H' p'=>⟨n-(i+1),by lia,rfl,hlt,p'⟩,fun x H' y=>hs i ys H x H' hlt p y⟩
 ·have e:i=n:=by lia
  subst e
  exact .inl (hd ys H p)
theorem bV {a:Addr}{xs:List V}(Pv:Nat→List V→Hp→Prop)(h0:Pv 0 [] H)(hl:∀ i ys H,i≤xs.length→Pv i ys H→aQ K H a xs∧ys.length<sizeLine)
  (hs:∀ i x ys H,xs[i]?=some x→Pv i ys H→g x σc H fun σ2 H2=>tt σ2 H2 fun c H3=>if c=true then te σ2 H3 fun y H4=>Pv (i+1) (ys++[y]) H4 else Pv (i+1) ys H3)
  (hd:∀ ys H,Pv xs.length ys H→Fn ys H):Fp (YT K a) g tt te σc Fn H :=
 vI xs.length Pv h0 (fun i ys H hi p=>(hl i ys H hi p).2) (fun i ys H hi p=>⟨xs,xs[i],(hl i ys H (Nat.le_of_lt hi) p).1,by simp[hi]⟩)
  (fun i ys H x H' hi p y=>by obtain⟨rfl,y⟩:=y;exact hs i x ys _ (y xs (hl i ys _ (Nat.le_of_lt hi) p).1) p)
  fun ys H p=>⟨⟨xs,(hl _ ys H (Nat.le_refl _) p).1,Nat.le_refl _⟩,hd ys H p⟩
theorem Ah {lo:Int}{n:Nat}(Pv:Nat→List V→Hp→Prop)(h0:Pv 0 [] H)(hz:∀ i ys H,i≤n→Pv i ys H→ys.length<sizeLine)
  (hs:∀ i ys H,i<n→Pv i ys H→g (.int (lo+i)) σc H fun σ2 H2=>tt σ2 H2 fun c H3=>if c=true then te σ2 H3 fun y H4=>Pv (i+1) (ys++[y]) H4 else Pv (i+1) ys H3)
  (hd:∀ ys H,Pv n ys H→Fn ys H):Fp (Xf lo n) g tt te σc Fn H :=
 vI n Pv h0 hz (fun i ys H hi p=>hi) (fun i ys H x H' hi p y=>by obtain⟨rfl,rfl⟩:=y;exact hs i ys _ hi p) fun ys H p=>⟨Nat.le_refl _,hd ys H p⟩
theorem vJ {a b:Addr}{xs ys:List V}(he:xs.length=ys.length)(Pv:Nat→List V→Hp→Prop)(h0:Pv 0 [] H)(hl:∀ i zs H,i≤xs.length→Pv i zs H→aQ K H a xs∧aQ K H b ys∧zs.length<sizeLine)
  (hs:∀ i x y zs H p,xs[i]?=some x→ys[i]?=some y→Pv i zs H→H p=none→g (.ref p) σc (upd H p (.tup [x,y])) fun σ2 H2=>tt σ2 H2 fun c H3=>if c=true then te σ2 H3 fun z H4=>Pv (i+1) (zs++[z]) H4 else Pv (i+1) zs H3)
  (hd:∀ zs H,Pv xs.length zs H→Fn zs H):Fp (Itz K a b) g tt te σc Fn H :=
 vI xs.length Pv h0 (fun i ys H hi p=>(hl i ys H hi p).2.2)
  (fun i zs H hi p=>⟨xs,ys,xs[i],ys[i]'(by lia),(hl i zs H (Nat.le_of_lt hi) p).1,(hl i zs H (Nat.le_of_lt hi) p).2.1,by simp[hi],by simp[show i<ys.length by lia]⟩)
  (fun i zs H x H' hi p y=>by
    obtain⟨q,hq,rfl,y⟩:=y
    have ex:xs[i]?=some xs[i]:=by simp[hi]
    have ey:ys[i]?=some (ys[i]'(by lia)):=by simp[show i<ys.length by lia]
    rw[y xs ys _ _ (hl i zs H (Nat.le_of_lt hi) p).1 (hl i zs H (Nat.le_of_lt hi) p).2.1 ex ey]
    exact hs i _ _ zs H q ex ey p hq)
  fun zs H p=>⟨⟨xs,ys,(hl _ zs H (Nat.le_refl _) p).1,(hl _ zs H (Nat.le_refl _) p).2.1,.inl (Nat.le_refl _)⟩,hd zs H p⟩
theorem Fq {a:Addr}{xs:List V}(Pv:Nat→List V→Hp→Prop)(h0:Pv 0 [] H)(hl:∀ i zs H,i≤xs.length→Pv i zs H→aQ K H a xs∧zs.length<sizeLine)
  (hs:∀ (i:Nat) x zs H p,xs[i]?=some x→Pv i zs H→H p=none→g (.ref p) σc (upd H p (.tup [.int i,x])) fun σ2 H2=>tt σ2 H2 fun c H3=>if c=true then te σ2 H3 fun z H4=>Pv (i+1) (zs++[z]) H4 else Pv (i+1) zs H3)
  (hd:∀ zs H,Pv xs.length zs H→Fn zs H):Fp (Ite K a) g tt te σc Fn H :=
 vI xs.length Pv h0 (fun i ys H hi p=>(hl i ys H hi p).2) (fun i zs H hi p=>⟨xs,xs[i],(hl i zs H (Nat.le_of_lt hi) p).1,by simp[hi]⟩)
  (fun i zs H x H' hi p y=>by
    obtain⟨q,hq,rfl,y⟩:=y
    have ex:xs[i]?=some xs[i]:=by simp[hi]
    rw[y xs _ (hl i zs H (Nat.le_of_lt hi) p).1 ex]
    exact hs i _ zs H q ex p hq)
  fun zs H p=>⟨⟨xs,(hl _ zs H (Nat.le_refl _) p).1,Nat.le_refl _⟩,hd zs H p⟩
end
theorem Jl {K:PySem.W.Frag}{a:Addr}{xs:List V}{g:TG}{tb:TS}{D:Ends}{σ:St}{H:Hp}(Pv:Nat→St→Hp→Prop)(h0:Pv 0 σ H)(hl:∀ i σ H,i≤xs.length→Pv i σ H→aQ K H a xs)
  (hs:∀ (i:Nat) x σ H p,xs[i]?=some x→Pv i σ H→H p=none→g (.ref p) σ (upd H p (.tup [.int i,x])) fun σ2 H2=>tb { D with nx:=Pv (i+1),ct:=Pv (i+1),bk:=D.nx } σ2 H2) (hd:∀ σ H,Pv xs.length σ H→D.nx σ H) :
  ∃ W:Nat→Nat→St→Hp→Prop,(∃ m,W 0 m σ H)∧∀ i m σ H,W i m σ H →
   ((Ite K a).stop i H∧D.nx σ H)∨((Ite K a).go i H∧∃ N:St→Hp→Prop,(∀ σ' H',N σ' H'→∃ m',m'<m∧W (i+1) m' σ' H')∧∀ x H',(Ite K a).Ui i H x H'→g x σ H' fun σ2 H2=>tb { D with nx:=N,ct:=N,bk:=D.nx } σ2 H2):=by
 refine⟨fun i m σ H=>m=xs.length-i∧i≤xs.length∧Pv i σ H,⟨xs.length,by simp,Nat.zero_le _,h0⟩,?_⟩
 rintro i m σ H ⟨rfl,hi,p⟩
 have q:=hl i σ H hi p
 by_cases hlt:i<xs.length
 ·refine .inr ⟨⟨xs,xs[i],q,by simp[hlt]⟩,Pv (i+1),fun σ' H' p'=>⟨xs.length-(i+1),by lia,rfl,hlt,p'⟩,fun x H' y=>?_⟩
  obtain⟨r,hr,rfl,y⟩:=y
  have ex:xs[i]?=some xs[i]:=by simp[hlt]
  rw[y xs _ q ex]
  exact hs i _ σ H r ex p hr
 ·have e:i=xs.length:=by lia
  subst e
  exact .inl ⟨⟨xs,q,Nat.le_refl _⟩,hd σ H p⟩
theorem cG {α:Type}{xs:List α}{k:Int}{v:α}(h0:0≤k)(h:xs[k.toNat]?=some v):Ja xs k=some v:=by
 have e:k=((k.toNat:Nat):Int):=by lia
 rw[e]
 exact Uu h
section
variable{X:Cx}
structure MkN (K:PySem.W.Frag)(C:Addr):Prop where
 makes:PySem.W.makesIn K C=true
 init:PySem.W.findIn K (.ref C) "__init__" = some (some (.builtin "object.__init__"))
 kp:PySem.W.keepIn K (.ref C)=true
def Rg (C:Addr):TE:=fun _ H Q=>∀ x dx,H x=none→H dx=none→dx≠x→Q (.ref x) (upd (upd H dx (.own x)) x (.ins C dx []))
theorem O8 {pins:List (Addr×Obj)}{σ:St}{H:Hp}{s:Shared}{Q:VK}{C:Addr}(M:MkN X.K C)(I:Inv X pins σ H s)
  (h:∀ x dx,H x=none→H dx=none→dx≠x→Q (.ref x) (upd (upd H dx (.own x)) x (.ins C dx []))) :
  wpAny (model X.prog X.w) X.A (call (.ref C) []) (EP X pins σ Q) X.xe s:=by
 have hq:=h (s.heap.objs.size+1) s.heap.objs.size (I.hok.fresh (Nat.le_succ _)) (I.hok.fresh (Nat.le_refl _)) (Nat.ne_of_lt (Nat.lt_succ_self _))
 have I2:=Inv.made (C:=C) I
 have Y:=PySem.W.makes_of (M:=model X.prog X.w) I.uc M.makes
 refine wpAny_call (Oq I.uc M.makes M.init (fun self=>PySem.W.Looks.of_pure (PySem.W.oi_bind self)) ?_)
 have e2:((s.heap.push PySem.W.emptyDict).push (PySem.W.instObj C s.heap.objs.size)).get? (s.heap.objs.size+1)=some (PySem.W.instObj C s.heap.objs.size):=by
  have:=Heap.get?_push_size (s.heap.push PySem.W.emptyDict) (o:=PySem.W.instObj C s.heap.objs.size) rfl
  rwa [Heap.size_push] at this
 have t1:PySem.W.Looks (model X.prog X.w) ((s.heap.push PySem.W.emptyDict).push (PySem.W.instObj C s.heap.objs.size)) (typeOf (.ref (s.heap.objs.size+1))) (.ref C):=(PySem.W.Looks.ld e2).andThen .now
 have t2:PySem.W.Looks (model X.prog X.w) ((s.heap.push PySem.W.emptyDict).push (PySem.W.instObj C s.heap.objs.size)) (isInstance (.ref (s.heap.objs.size+1)) (.type "object")) true :=
  t1.andThen (Y.top.keeps fun b o e=>Heap.get?_push_of_some _ (Heap.get?_push_of_some _ e))
 refine codeAny_call_builtin PySem.W.oi_plain PySem.W.entry_oi (@PySem.W.check_slot (model X.prog X.w) _ _ _ "object.__init__" "object" "__init__" (.ref (s.heap.objs.size+1)) [] [] _ PySem.W.oi_kind PySem.W.oi_split t2 (PySem.W.oi_args (.ref (s.heap.objs.size+1))) ?_)
 rw[PySem.W.oi_run]
 exact wpAny_pure (And.intro rfl ⟨V.ref (s.heap.objs.size+1),_,I2,rfl,hq⟩)
theorem Ai {C:Addr}{x:Str}{p pos:Pos}{k:Nat}(M:MkN X.K C)(hr:iD k X.A)(hg:Gl X x)(hm:X.mg x=some (.ref C))(hdb:(x == ("__debug__" : Str))=false:=by decide):
  PE X (.Call (.Name x p) [] [] pos) (Rg C):=by
 intro pins s σ H Q I h
 refine wpAny_Call_Name_kw (vC I hg hm ?_ hdb)
 exact PySem.W.callWith_K0 I.uc M.kp (O8 M I h)
end
section
variable(K:PySem.W.Frag){X:Cx}(hK:X.K=K:=by rfl)
include hK
theorem bK {e:Expr}{f:Str}{ta:TE}{pos:Pos}(he:PE X e ta)(hb:attributeBase e f X.env (eval e X.env)=eval e X.env):PE X (.Attribute e f pos) (ZP K ta f):=by subst hK;exact Xj he hb
def U0 (K:PySem.W.Frag):List V→Hp→VK→Prop:=fun xs H Q=>∃ p ys,xs=[.ref p]∧(aQ K H p ys∨cT K H p ys)∧∀ l,H l=none→Q (.ref l) (upd H l (.lst ys))
theorem Aj:iu X (.type "list") (U0 K):=by subst hK;exact Gv
theorem cB {e:Expr}{te:TE}{lo hi:Option Expr}{tl th:TO}{pos p2:Pos}(he:PE X e te)(hl:PO X lo tl)(hu:PO X hi th):PE X (.Subscript e (.Slice lo hi none p2) pos) (tSl (Z0 K) te tl th):=by subst hK;exact QV Ux he hl hu
theorem uJ {e st:Expr}{te:TE}{lo hi:Option Expr}{tl th ts:TO}{pos p2:Pos}(he:PE X e te)(hl:PO X lo tl)(hu:PO X hi th)(hst:PO X (some st) ts):PE X (.Subscript e (.Slice lo hi (some st) p2) pos) (aac K te tl th ts):=by subst hK;exact O5 he hl hu hst
theorem tE {es:List Expr}{k:Nat}{tpos:Pos}{a b:Expr}{ta:TA}{p pos:Pos}(hg:Gl X "zip")(hm:X.mg "zip" = none)(ha:PA X [a,b] ta)(hs:starEach [a,b] X.env=[(false,eval a X.env),(false,eval b X.env)]:=by rfl)(hs2:starEach [b] X.env=[(false,eval b X.env)]:=by rfl):
  PI X (.Tuple es k tpos) (.Call (.Name "zip" p) [a,b] [] pos) (Z6 K ta):=by subst hK;exact Xo hg hm ha hs hs2
theorem vK {es:List Expr}{k:Nat}{tpos:Pos}{a:Expr}{ta:TA}{p pos:Pos}(hg:Gl X "enumerate")(hm:X.mg "enumerate" = none)(ha:PA X [a] ta)(hs:starEach [a] X.env=[(false,eval a X.env)]:=by rfl):
  PI X (.Tuple es k tpos) (.Call (.Name "enumerate" p) [a] [] pos) (Wk K ta):=by subst hK;exact UG hg hm ha hs
end
theorem lE (xs:List V){k:Int}(h:0≤k):fV xs none (some k)=xs.take k.toNat:=by
 unfold fV
 rw[HT.Ac]
 show List.take ((if k<0 then (k+(xs.length:Int)).toNat else min k.toNat xs.length)-0) (xs.drop 0)=_
 rw[if_neg (by lia),List.drop_zero,Nat.sub_zero]
 by_cases hk:k.toNat≤xs.length
 ·rw[Nat.min_eq_left hk]
 ·rw[Nat.min_eq_right (by lia),List.take_of_length_le (by lia),List.take_of_length_le (by lia)]
section
variable{X:Cx}
def ags:List V→Hp→VK→Prop:=fun xs H Q=>∃ n:Int,xs=[.int n]∧∀ r,H r=none→Q (.ref r) (upd H r (.rng 0 n))
theorem Ft:iu X (.type "range") ags:=by
 intro pins s σ H xs us Q I r h
 obtain⟨n,rfl,q⟩:=h
 obtain⟨u,rfl,t,rfl⟩:=vals1 r
 exact call_range_1 ⟨.ref s.heap.objs.size,_,I.laid (a:=s.heap.objs.size) (o:=.rng 0 n) (fun _ _ q=>Heap.get?_push_of_some _ q) (Nat.le_refl _)
  (show dG X.prog X.w _ _ _ (.rng 0 n) from ⟨_,_,_,Heap.get?_push_size _ rfl⟩),rfl,q _ (I.hok.fresh (Nat.le_refl _))⟩
def Rh:List V→Hp→VK→Prop:=fun xs H Q=>∃ (r:Addr) (n:Nat),xs=[.ref r]∧H r=some (.rng 0 n)∧n≤1000∧∀ l,H l=none→Q (.ref l) (upd H l (.lst ((List.range n).map fun k=>V.int (k:Nat))))
theorem Li {n:Nat}{acc:Array Value}(h:ItemsOf (fun i v=>∃ t,v=Value.int (0+(i:Int)*1) t) acc n):Vals ((List.range n).map fun k=>V.int (k:Nat)) acc.toList:=by
 obtain⟨h1,h2⟩:=h
 have gen:∀ (l:List Value) (k:Nat),(∀ j v,l[j]?=some v→∃ t,v=Value.int ((k+j:Nat):Int) t)→Vals ((List.range' k l.length).map fun k=>V.int (k:Nat)) l:=by
  intro l
  induction l with
  | nil=>intro k _;exact .nil
  | cons v l ih =>
   intro k hk
   obtain⟨t,e⟩:=hk 0 v rfl
   subst e
   refine .cons ⟨t,rfl⟩ (ih (k+1) fun j u hj=>?_)
   obtain⟨t',e⟩:=hk (j+1) u (by simpa using hj)
   exact⟨t',by rw[e];congr 1;omega⟩
 have g:=gen acc.toList 0 fun j v hj=>by
  obtain⟨t,e⟩:=h2 j v (by simpa using hj)
  exact⟨t,by rw[e];congr 1;omega⟩
 rw[Array.length_toList,h1] at g
 rw[List.range_eq_range']
 exact g
theorem ud (hc:X.calm=true):iu X (.type "list") Rh:=by
 intro pins s σ H xs us Q I r h
 obtain⟨p,n,rfl,hp,hn,q⟩:=h
 obtain⟨u,rfl,rx⟩:=vals1 r
 cases rx
 obtain⟨t,u,v,e⟩:=(show dG X.prog X.w H s.heap p (.rng 0 n) from I.hok p _ hp)
 refine call_list_range (a:=0) (b:=n) (c:=1) (n:=n) (I.ok.hd hc) (show IsRange s.heap p 0 n 1 t u v from e) ?_ ?_ (Nat.le_trans hn (by decide)) fun h' tk acc' c' hk he hi=>?_
 ·unfold Builtin.Range.small
  have f:∀ i:Int,-1000≤i→i≤2000→Builtin.Range.rangeFitsLong i=true:=fun i h1 h2=>by
   unfold Builtin.Range.rangeFitsLong
   have e:(2:Int) ^ 63=9223372036854775808:=by decide
   rw[e,decide_eq_true (show -9223372036854775808≤i by omega),decide_eq_true (show i<9223372036854775808 by omega)]
   rfl
  have e2:Builtin.Range.rangeSize 0 (n:Int) 1=(n:Int):=by rw[rangeSize_nat];simp
  rw[e2,f 0 (by omega) (by omega),f n (by omega) (by omega),f 1 (by omega) (by omega),if_pos (by decide),f ((n:Int)+(1-1)) (by omega) (by omega)]
  simp
 ·rw[rangeSize_nat]
  simp
 ·refine⟨.ref s.heap.objs.size,_,I.laid (a:=s.heap.objs.size) (o:=.lst ((List.range n).map fun k=>V.int (k:Nat))) hk (Nat.le_refl _) ?_,rfl,q _ (I.hok.fresh (Nat.le_refl _))⟩
  refine (show dG X.prog X.w _ h' _ (.lst _) from ⟨?_,acc'.toList,c',Li hi,by rw[he]⟩)
  rw[List.length_map,List.length_range]
  exact Nat.le_trans hn (by decide)
end
end L2
namespace Lj
open PySem PyProof.Rows
structure qW (M:Model)(A:Around)(E:Value→Shared→Prop)(s:Shared)(κ:SortKind)(lt:Keyed→Keyed→Bool)(ok:Keyed→Prop):Prop where
 run:∀ (st:SortSt) (Q:Option Bool→SortSt→Prop) (x y:Keyed),kindOf st=κ→ok x→ok y→Q (some (lt x y)) st→wpS M A E s (lt' x y) Q st
 jG:∀ x y,lt x y=true→lt y x=false
 trans:∀ x y z,lt y x=false→lt z y=false→lt z x=false
abbrev jO (κ:SortKind)(a:Array Keyed)(p:Array (Nat×Nat×Nat))(g:Nat):SortSt:=SortSt.mk' κ a p g none
section
variable{M:Model}{A:Around}{E:Value→Shared→Prop}{s:Shared}{κ:SortKind}{lt:Keyed→Keyed→Bool}{ok:Keyed→Prop}
theorem qW.refl (C:qW M A E s κ lt ok)(x:Keyed):lt x x=false:=by
 cases h:lt x x with
 | false=>rfl
 | true=>rw[←h];exact C.jG x x h
def fW (ok:Keyed→Prop)(a:Array Keyed):Prop:=∀ (i:Nat) x,a[i]?=some x→ok x
theorem aX {arr:Array Keyed}{i:Nat}{x:Keyed}{st:SortSt}{Q:Keyed→SortSt→Prop}(h:arr[i]?=some x)(q:Q x st):wpS M A E s (elem' arr i) Q st:=by
 rw[elem'_eq,h]
 exact wpS_pure q
theorem Ak (C:qW M A E s κ lt ok){a:Array Keyed}{p:Array (Nat×Nat×Nat)}{g:Nat}{i j:Nat}{Q:Option Bool→SortSt→Prop}(ho:fW ok a){x y:Keyed}(hi:a[i]?=some x)(hj:a[j]?=some y)
  (q:Q (some (lt x y)) (jO κ a p g)):wpS M A E s (ltAt' i j) Q (jO κ a p g):=by
 rw[ltAt'_eq]
 refine wpS_bind (wpS_get ?_)
 refine wpS_bind (aX hi (wpS_bind (aX hj ?_)))
 exact C.run _ _ x y rfl (ho i x hi) (ho j y hj) q
def Up (lt:Keyed→Keyed→Bool)(a:Array Keyed)(lo hi:Nat):Prop:=∀ (i j:Nat) x y,lo≤i→i≤j→j<hi→a[i]?=some x→a[j]?=some y→lt y x=false
def Down (lt:Keyed→Keyed→Bool)(a:Array Keyed)(lo hi:Nat):Prop:=∀ (i j:Nat) x y,lo≤i→i≤j→j<hi→a[i]?=some x→a[j]?=some y→lt x y=false
theorem Up.one (C:qW M A E s κ lt ok)(a:Array Keyed)(lo:Nat):Up lt a lo (lo+1):=fun i j x y h1 h2 h3 e1 e2=>by
 have:i=j:=by lia
 subst this
 rw[e1] at e2
 cases e2
 exact C.refl x
theorem uf {a:Array Keyed}{i:Nat}(h:i<a.size):∃ x,a[i]?=some x:=⟨a[i],by simp[h]⟩
theorem Up.snoc (C:qW M A E s κ lt ok){a:Array Keyed}{lo hi:Nat}(h:Up lt a lo hi)(h1:lo<hi)(hz:hi<a.size)(n:∀ x y,a[hi-1]?=some x→a[hi]?=some y→lt y x=false):Up lt a lo (hi+1):=fun i j x y a1 a2 a3 e1 e2=>by
 by_cases c:j<hi
 ·exact h i j x y a1 a2 c e1 e2
 ·have:j=hi:=by lia
  subst this
  by_cases c2:i=j
  ·subst c2
   rw[e1] at e2
   cases e2
   exact C.refl x
  ·obtain⟨z,Ws⟩:=uf (a:=a) (i:=j-1) (by lia)
   exact C.trans x z y (h i (j-1) x z a1 (by lia) (by lia) e1 Ws) (n z y Ws e2)
theorem Down.snoc (C:qW M A E s κ lt ok){a:Array Keyed}{lo hi:Nat}(h:Down lt a lo hi)(h1:lo<hi)(hz:hi<a.size)(n:∀ x y,a[hi-1]?=some x→a[hi]?=some y→lt x y=false):Down lt a lo (hi+1):=fun i j x y a1 a2 a3 e1 e2=>by
 by_cases c:j<hi
 ·exact h i j x y a1 a2 c e1 e2
 ·have:j=hi:=by lia
  subst this
  by_cases c2:i=j
  ·subst c2
   rw[e1] at e2
   cases e2
   exact C.refl x
  ·obtain⟨z,Ws⟩:=uf (a:=a) (i:=j-1) (by lia)
   exact C.trans y z x (n z y Ws e2) (h i (j-1) x z a1 (by lia) (by lia) e1 Ws)
abbrev rev (a:Array Keyed)(i j:Nat):Array Keyed:=mirror a i j ((j-i) / 2)
theorem j7 {a:Array Keyed}{i j:Nat}(hj:j≤a.size)(k:Nat):(rev a i j)[k]?=if i≤k∧k<j then a[i+j-1-k]? else a[k]?:=getElem?_mirror_all hj k
theorem Down.rev {a:Array Keyed}{lo hi:Nat}(h:Down lt a lo hi)(hz:hi≤a.size):Up lt (rev a lo hi) lo hi:=fun i j x y a1 a2 a3 e1 e2=>by
 rw[j7 hz,if_pos ⟨a1,by lia⟩] at e1
 rw[j7 hz,if_pos ⟨by lia,a3⟩] at e2
 exact h _ _ y x (by lia) (by lia) (by lia) e2 e1
theorem Down.Ri (C:qW M A E s κ lt ok){a:Array Keyed}{lo m hi:Nat}(h:Down lt a lo hi)(hz:hi≤a.size)(hm:lo≤m)(hmh:m<hi)(e:∀ (i:Nat) x y,m≤i→i<hi→a[i]?=some x→a[hi-1]?=some y→lt y x=false):Down lt (Lj.rev a m hi) lo hi:=by
 have eq:∀ (i j:Nat) x y,m≤i→i<hi→m≤j→j<hi→a[i]?=some x→a[j]?=some y→lt x y=false:=fun i j x y i1 i2 j1 j2 ex ey=>by
  obtain⟨z,Ws⟩:=uf (a:=a) (i:=hi-1) (by lia)
  exact C.trans y z x (e j y z j1 j2 ey Ws) (h i (hi-1) x z (by lia) (by lia) (by lia) ex Ws)
 intro i j x y a1 a2 a3 e1 e2
 rw[j7 hz] at e1 e2
 by_cases c1:m≤i∧i<hi
 ·rw[if_pos c1] at e1
  rw[if_pos ⟨by lia,by lia⟩] at e2
  exact eq _ _ x y (by lia) (by lia) (by lia) (by lia) e1 e2
 ·rw[if_neg c1] at e1
  by_cases c2:m≤j∧j<hi
  ·rw[if_pos c2] at e2
   exact h i _ x y a1 (by lia) (by lia) e1 e2
  ·rw[if_neg c2] at e2
   exact h i j x y a1 a2 a3 e1 e2
theorem fW.perm {a b:Array Keyed}(h:fW ok a)(p:b.Perm a):fW ok b:=fun i x e=>by
 have hm:x∈a:=p.mem_iff.mp (Array.mem_of_getElem? e)
 obtain⟨j,hj⟩:=Array.getElem?_of_mem hm
 exact h j x hj
structure Within (a b:Array Keyed)(lo hi:Nat):Prop where
 perm:b.Perm a
 out:∀ k:Nat,(k<lo∨hi≤k)→b[k]?=a[k]?
theorem Within.refl (a:Array Keyed)(lo hi:Nat):Within a a lo hi:=⟨Array.Perm.refl _,fun _ _=>rfl⟩
theorem Within.trans {a b c:Array Keyed}{lo hi:Nat}(h1:Within a b lo hi)(h2:Within b c lo hi):Within a c lo hi:=⟨h2.perm.trans h1.perm,fun k hk=>(h2.out k hk).trans (h1.out k hk)⟩
theorem Within.mono {a b:Array Keyed}{lo hi lo' hi':Nat}(h:Within a b lo hi)(h1:lo'≤lo)(h2:hi≤hi'):Within a b lo' hi':=⟨h.perm,fun k hk=>h.out k (by lia)⟩
theorem Within.rev {a:Array Keyed}{lo hi:Nat}(hz:hi≤a.size):Within a (Lj.rev a lo hi) lo hi:=⟨mirror_perm _ _ _ _,fun k hk=>by rw[j7 hz,if_neg (by lia)]⟩
theorem Within.size {a b:Array Keyed}{lo hi:Nat}(h:Within a b lo hi):b.size=a.size:=h.perm.size_eq
theorem mV {a:Array Keyed}{p:Array (Nat×Nat×Nat)}{g i j:Nat}{Q:Unit→SortSt→Prop}(h:Q () (jO κ (rev a i j) p g)):wpS M A E s (reverseSlice' i j) Q (jO κ a p g):=by
 rw[reverseSlice'_eq]
 exact wpS_modify h
end
section
variable{M:Model}{A:Around}{E:Value→Shared→Prop}{s:Shared}{κ:SortKind}{lt:Keyed→Keyed→Bool}{ok:Keyed→Prop}
theorem qX (C:qW M A E s κ lt ok){a:Array Keyed}{p:Array (Nat×Nat×Nat)}{g lo nrem n0:Nat}{Q:Option (Option Nat)×Nat→SortSt→Prop}{f:Nat→Option (Option Nat)×Nat→StateT SortSt Sem (ForInStep (Option (Option Nat)×Nat))}(ho:fW ok a)(hz:lo+nrem≤a.size)(h1:1≤n0)(h2:n0≤nrem)(up:Up lt a lo (lo+n0))
  (hf:∀ (i n:Nat) (st:SortSt) (R:ForInStep (Option (Option Nat)×Nat)→SortSt→Prop),wpS M A E s (ltAt' (lo+n) (lo+n-1)) (fun r st'=>match r with|some true=>R (.done (none,n)) st'|some false=>R (.yield (none,n+1)) st'|none=>R (.done (some none,n)) st') st→wpS M A E s (f i (none,n)) R st)
  (q:∀ n,n0≤n→n≤nrem→Up lt a lo (lo+n)→(n<nrem→∀ x y,a[lo+n-1]?=some x→a[lo+n]?=some y→lt y x=true)→Q (none,n) (jO κ a p g)) :
  wpS M A E s (forIn [n0:nrem] ((none,n0):Option (Option Nat)×Nat) f) Q (jO κ a p g):=by
 refine wpS_forRange (fun i c st=>st=jO κ a p g∧c=(none,i)∧n0≤i∧i≤nrem∧Up lt a lo (lo+i)) ?_ ?_ ⟨rfl,rfl,Nat.le_refl _,h2,up⟩
 ·rintro i c st _ hi ⟨rfl,rfl,i1,i2,u⟩
  obtain⟨x,hx⟩:=uf (a:=a) (i:=lo+i) (by lia)
  obtain⟨y,hy⟩:=uf (a:=a) (i:=lo+i-1) (by lia)
  refine hf i i _ _ (Ak C ho hx hy ?_)
  cases hb:lt x y with
  | true =>
   refine q i i1 i2 u fun _ x' y' e1 e2=>?_
   rw[hy] at e1;rw[hx] at e2;cases e1;cases e2
   exact hb
  | false =>
   refine⟨rfl,rfl,by lia,by lia,?_⟩
   show Up lt a lo (lo+i+1)
   refine Up.snoc C u (by lia) (by lia) fun x' y' e1 e2=>?_
   rw[hy] at e1;rw[hx] at e2;cases e1;cases e2
   exact hb
 ·rintro c st ⟨rfl,rfl,i1,i2,u⟩
  have e:max n0 nrem=nrem:=by lia
  rw[e] at i1 u ⊢
  exact q nrem i1 (Nat.le_refl _) u fun h=>absurd h (Nat.lt_irrefl _)
theorem Jm (C:qW M A E s κ lt ok){a:Array Keyed}{p:Array (Nat×Nat×Nat)}{g lo nrem n0:Nat}{Q:Option (Option Nat)×Nat×Nat→SortSt→Prop}{f:Nat→Option (Option Nat)×Nat×Nat→StateT SortSt Sem (ForInStep (Option (Option Nat)×Nat×Nat))}(ho:fW ok a)(hz:lo+nrem≤a.size)(h1:1≤n0)(h2:n0≤nrem)(dn:Down lt a lo (lo+n0))
  (hf:∀ (i n e:Nat) (st:SortSt) (R:ForInStep (Option (Option Nat)×Nat×Nat)→SortSt→Prop),wpS M A E s (ltAt' (lo+n) (lo+n-1)) (fun r st'=>match r with
    | some true=>if e > 0 then wpS M A E s (reverseSlice' (lo+n-(e+1)) (lo+n)) (fun _ st2=>R (.yield (none,n+1,0)) st2) st' else R (.yield (none,n+1,0)) st'
    | some false=>wpS M A E s (ltAt' (lo+n-1) (lo+n)) (fun r2 st2=>match r2 with|some true=>R (.done (none,n,e)) st2|some false=>R (.yield (none,n+1,e+1)) st2|none=>R (.done (some none,n,e)) st2) st'
    | none=>R (.done (some none,n,e)) st') st→wpS M A E s (f i (none,n,e)) R st)
  (q:∀ n e a',n0≤n→n≤nrem→e<n→Within a a' lo (lo+nrem)→Down lt a' lo (lo+n)→(∀ (i:Nat) x y,lo+n-(e+1)≤i→i<lo+n→a'[i]?=some x→a'[lo+n-1]?=some y→lt y x=false)→Q (none,n,e) (jO κ a' p g)) :
  wpS M A E s (forIn [n0:nrem] ((none,n0,0):Option (Option Nat)×Nat×Nat) f) Q (jO κ a p g):=by
 refine wpS_forRange (fun i c st=>∃ a' e,st=jO κ a' p g∧c=(none,i,e)∧n0≤i∧i≤nrem∧e<i∧Within a a' lo (lo+nrem)∧Down lt a' lo (lo+i)∧∀ (j:Nat) x y,lo+i-(e+1)≤j→j<lo+i→a'[j]?=some x→a'[lo+i-1]?=some y→lt y x=false) ?_ ?_
  ⟨a,0,rfl,rfl,Nat.le_refl _,h2,by lia,Within.refl _ _ _,dn,fun j x y j1 j2 ex ey=>?_⟩
 ·rintro i c st _ hi ⟨a',e,rfl,rfl,i1,i2,ei,w,d,eq⟩
  have hz':lo+nrem≤a'.size:=by rw[w.size];exact hz
  have ho':=ho.perm w.perm
  obtain⟨x,hx⟩:=uf (a:=a') (i:=lo+i) (by lia)
  obtain⟨y,hy⟩:=uf (a:=a') (i:=lo+i-1) (by lia)
  refine hf i i e _ _ (Ak C ho' hx hy ?_)
  cases hb:lt x y with
  | true =>
   have asy:=C.jG x y hb
   have one:∀ (b:Array Keyed) (j:Nat) u v,lo+(i+1)-(0+1)≤j→j<lo+(i+1)→b[j]?=some u→b[lo+(i+1)-1]?=some v→lt v u=false:=fun b j u v j1 j2 ex ey=>by
    have:j=lo+(i+1)-1:=by lia
    subst this
    rw[ex] at ey
    cases ey
    exact C.refl u
   by_cases he:e > 0
   ·refine (if_pos he).mpr (mV ?_)
    have dn3:=d.Ri C (m:=lo+i-(e+1)) (by lia) (by lia) (by lia) eq
    have wr:=Within.rev (a:=a') (lo:=lo+i-(e+1)) (hi:=lo+i) (by lia)
    refine⟨_,0,rfl,rfl,by lia,by lia,by lia,w.trans (wr.mono (by lia) (by lia)),?_,one _⟩
    show Down lt _ lo (lo+i+1)
    refine Down.snoc C dn3 (by lia) (by rw[wr.size];lia) fun u v eu ev=>?_
    rw[wr.out _ (Or.inr (Nat.le_refl _)),hx] at ev
    cases ev
    rw[j7 (by lia),if_pos ⟨by lia,by lia⟩] at eu
    have key:∀ j:Nat,lo≤j→j≤lo+i-1→a'[j]?=some u→lt u x=false:=fun j j1 j2 ej=>C.trans x y u asy (d j (lo+i-1) u y j1 j2 (by lia) ej hy)
    exact key _ (by lia) (by lia) eu
   ·refine (if_neg he).mpr ⟨a',0,rfl,rfl,by lia,by lia,by lia,w,?_,one _⟩
    show Down lt _ lo (lo+i+1)
    refine Down.snoc C d (by lia) (by lia) fun u v eu ev=>?_
    rw[hy] at eu;rw[hx] at ev;cases eu;cases ev
    exact asy
  | false =>
   refine Ak C ho' hy hx ?_
   cases hb2:lt y x with
   | true=>exact q i e a' i1 i2 ei w d eq
   | false =>
    refine⟨a',e+1,rfl,rfl,by lia,by lia,by lia,w,?_,fun j u v j1 j2 eu ev=>?_⟩
    ·show Down lt _ lo (lo+i+1)
     refine Down.snoc C d (by lia) (by lia) fun u v eu ev=>?_
     rw[hy] at eu;rw[hx] at ev;cases eu;cases ev
     exact hb2
    ·have e1:lo+(i+1)-1=lo+i:=by lia
     rw[e1,hx] at ev
     cases ev
     by_cases cj:j=lo+i
     ·subst cj
      rw[hx] at eu
      cases eu
      exact C.refl x
     ·exact C.trans u y x (eq j u y (by lia) (by lia) eu hy) hb
 ·rintro c st ⟨a',e,rfl,rfl,i1,i2,ei,w,d,eq⟩
  have e1:max n0 nrem=nrem:=by lia
  rw[e1] at i1 ei d eq ⊢
  exact q nrem e a' i1 (Nat.le_refl _) ei w d eq
 ·have:j=lo+n0-1:=by lia
  subst this
  rw[ex] at ey
  cases ey
  exact C.refl x
theorem Up.rev {a:Array Keyed}{lo hi:Nat}(h:Up lt a lo hi)(hz:hi≤a.size):Down lt (Lj.rev a lo hi) lo hi:=fun i j x y a1 a2 a3 e1 e2=>by
 rw[j7 hz,if_pos ⟨a1,by lia⟩] at e1
 rw[j7 hz,if_pos ⟨by lia,a3⟩] at e2
 exact h _ _ y x (by lia) (by lia) (by lia) e2 e1
theorem O9 (C:qW M A E s κ lt ok){a:Array Keyed}{p:Array (Nat×Nat×Nat)}{g lo nrem:Nat}{Q:Option Nat→SortSt→Prop}(ho:fW ok a)(hz:lo+nrem≤a.size)(h1:1≤nrem)
  (q:∀ n a',1≤n→n≤nrem→Within a a' lo (lo+nrem)→Up lt a' lo (lo+n)→Q (some n) (jO κ a' p g)):wpS M A E s (countRun' lo nrem) Q (jO κ a p g):=by
 rw[countRun'_eq]
 dsimp only
 refine wpS_bind (qX C ho hz (Nat.le_refl 1) h1 (Up.one C a lo) (fun i n st R h=>wpS_bind (wpS_mono h fun r st' hr=>?_)) fun n n1 n2 up stop=>?_)
 ·cases r with
  | none=>exact wpS_pure hr
  | some c=>cases c with
   | true=>exact wpS_pure hr
   | false=>exact wpS_pure hr
 ·dsimp only
  by_cases hn:n=nrem
  ·rw[if_pos (by simp[hn])]
   exact wpS_pure (q n a n1 n2 (Within.refl _ _ _) up)
  ·rw[if_neg (by simpa using hn)]
   obtain⟨x,hx⟩:=uf (a:=a) (i:=lo) (by lia)
   obtain⟨y,hy⟩:=uf (a:=a) (i:=lo+n-1) (by lia)
   obtain⟨v,hv⟩:=uf (a:=a) (i:=lo+n) (by lia)
   have hvy:=stop (by lia) y v hy hv
   by_cases hg:n > 1
   ·rw[if_pos hg]
    refine wpS_bind (Ak C ho hx hy ?_)
    dsimp only
    cases hb:lt x y with
    | true =>
     rw[if_pos rfl]
     exact wpS_pure (q n a n1 n2 (Within.refl _ _ _) up)
    | false =>
     rw[if_neg Bool.false_ne_true]
     refine wpS_bind (mV ?_)
     have w1:=(Within.rev (a:=a) (lo:=lo) (hi:=lo+n) (by lia)).mono (Nat.le_refl lo) (show lo+n≤lo+nrem by lia)
     have dn:Down lt (rev a lo (lo+n)) lo (lo+(n+1)):=by
      refine Down.snoc C (hi:=lo+n) (up.rev (by lia)) (by lia) (by rw[w1.size];lia) fun u w eu ew=>?_
      rw[j7 (by lia),if_pos ⟨by lia,by lia⟩] at eu
      have e2:lo+(lo+n)-1-(lo+n-1)=lo:=by lia
      rw[e2,hx] at eu
      rw[j7 (by lia),if_neg (by lia),hv] at ew
      cases eu;cases ew
      exact C.trans _ _ _ (C.jG _ _ hvy) hb
     refine wpS_bind (wpS_lift (wpAny_rule ⟨rfl,?_⟩))
     refine wpS_bind (Jm C (ho.perm w1.perm) (by rw[w1.size];exact hz) (by lia) (by lia) dn (fun i k e st R h=>wpS_bind (wpS_mono h fun r st' hr=>?_)) fun m e a2 m1 m2 em w2 dn2 eq2=>?_)
     ·cases r with
      | none=>exact wpS_pure hr
      | some c=>cases c with
       | true =>
        by_cases he:e > 0
        ·have hr':=(if_pos he).mp hr
         dsimp only
         rw[if_pos rfl,if_pos he]
         exact wpS_bind (wpS_mono hr' fun _ _ z=>wpS_pure z)
        ·have hr':=(if_neg he).mp hr
         dsimp only
         rw[if_pos rfl,if_neg he]
         exact wpS_pure hr'
       | false =>
        dsimp only
        rw[if_neg Bool.false_ne_true]
        refine wpS_bind (wpS_mono hr fun r2 st2 hr2=>?_)
        cases r2 with
        | none=>exact wpS_pure hr2
        | some c2=>cases c2 with
         | true=>exact wpS_pure hr2
         | false=>exact wpS_pure hr2
     ·dsimp only
      have hz2:lo+m≤a2.size:=by rw[w2.size,w1.size];lia
      by_cases he:e > 0
      ·rw[if_pos he]
       refine wpS_bind (mV (wpS_bind (mV ?_)))
       have dn3:=dn2.Ri C (m:=lo+m-(e+1)) hz2 (by lia) (by lia) (fun i x y i1 i2 ex ey=>eq2 i x y (by lia) i2 ex ey)
       have wr:=Within.rev (a:=a2) (lo:=lo+m-(e+1)) (hi:=lo+m) hz2
       have Xr:=dn3.rev (by rw[wr.size];exact hz2)
       have w3:=(w1.trans w2).trans ((wr.mono (by lia) (by lia)).trans ((Within.rev (lo:=lo) (hi:=lo+m) (by rw[wr.size];exact hz2)).mono (Nat.le_refl _) (by lia)))
       refine wpS_bind (qX C (ho.perm w3.perm) (by rw[w3.size];exact hz) (by lia) m2 Xr (fun i k st R h=>wpS_bind (wpS_mono h fun r st' hr=>?_)) fun k k1 k2 up stop=>?_)
       ·cases r with
        | none=>exact wpS_pure hr
        | some c=>cases c with
         | true=>exact wpS_pure hr
         | false=>exact wpS_pure hr
       ·dsimp only
        exact wpS_pure (q k _ (by lia) k2 w3 up)
      ·rw[if_neg he]
       refine wpS_bind (mV ?_)
       have Xr:=dn2.rev hz2
       have w3:=(w1.trans w2).trans ((Within.rev (a:=a2) (lo:=lo) (hi:=lo+m) hz2).mono (Nat.le_refl _) (by lia))
       refine wpS_bind (qX C (ho.perm w3.perm) (by rw[w3.size];exact hz) (by lia) m2 Xr (fun i k st R h=>wpS_bind (wpS_mono h fun r st' hr=>?_)) fun k k1 k2 up stop=>?_)
       ·cases r with
        | none=>exact wpS_pure hr
        | some c=>cases c with
         | true=>exact wpS_pure hr
         | false=>exact wpS_pure hr
       ·dsimp only
        exact wpS_pure (q k _ (by lia) k2 w3 up)
   ·rw[if_neg hg]
    have e1:n=1:=by lia
    subst e1
    have w1:=Within.refl a lo (lo+nrem)
    have dn:Down lt a lo (lo+(1+1)):=by
     refine Down.snoc C (hi:=lo+1) (fun i j u w i1 i2 i3 eu ew=>?_) (by lia) (by lia) fun u w eu ew=>?_
     ·have:i=j:=by lia
      subst this
      rw[eu] at ew
      cases ew
      exact C.refl u
     ·have e2:lo+1-1=lo:=by lia
      rw[e2] at eu hy
      rw[hy] at eu;rw[hv] at ew;cases eu;cases ew
      exact C.jG _ _ hvy
    refine wpS_bind (wpS_lift (wpAny_rule ⟨rfl,?_⟩))
    refine wpS_bind (Jm C (ho.perm w1.perm) (by rw[w1.size];exact hz) (by lia) (by lia) dn (fun i k e st R h=>wpS_bind (wpS_mono h fun r st' hr=>?_)) fun m e a2 m1 m2 em w2 dn2 eq2=>?_)
    ·cases r with
     | none=>exact wpS_pure hr
     | some c=>cases c with
      | true =>
       by_cases he:e > 0
       ·have hr':=(if_pos he).mp hr
        dsimp only
        rw[if_pos rfl,if_pos he]
        exact wpS_bind (wpS_mono hr' fun _ _ z=>wpS_pure z)
       ·have hr':=(if_neg he).mp hr
        dsimp only
        rw[if_pos rfl,if_neg he]
        exact wpS_pure hr'
      | false =>
       dsimp only
       rw[if_neg Bool.false_ne_true]
       refine wpS_bind (wpS_mono hr fun r2 st2 hr2=>?_)
       cases r2 with
       | none=>exact wpS_pure hr2
       | some c2=>cases c2 with
        | true=>exact wpS_pure hr2
        | false=>exact wpS_pure hr2
    ·dsimp only
     have hz2:lo+m≤a2.size:=by rw[w2.size,w1.size];lia
     by_cases he:e > 0
     ·rw[if_pos he]
      refine wpS_bind (mV (wpS_bind (mV ?_)))
      have dn3:=dn2.Ri C (m:=lo+m-(e+1)) hz2 (by lia) (by lia) (fun i x y i1 i2 ex ey=>eq2 i x y (by lia) i2 ex ey)
      have wr:=Within.rev (a:=a2) (lo:=lo+m-(e+1)) (hi:=lo+m) hz2
      have Xr:=dn3.rev (by rw[wr.size];exact hz2)
      have w3:=(w1.trans w2).trans ((wr.mono (by lia) (by lia)).trans ((Within.rev (lo:=lo) (hi:=lo+m) (by rw[wr.size];exact hz2)).mono (Nat.le_refl _) (by lia)))
      refine wpS_bind (qX C (ho.perm w3.perm) (by rw[w3.size];exact hz) (by lia) m2 Xr (fun i k st R h=>wpS_bind (wpS_mono h fun r st' hr=>?_)) fun k k1 k2 up stop=>?_)
      ·cases r with
       | none=>exact wpS_pure hr
       | some c=>cases c with
        | true=>exact wpS_pure hr
        | false=>exact wpS_pure hr
      ·dsimp only
       exact wpS_pure (q k _ (by lia) k2 w3 up)
     ·rw[if_neg he]
      refine wpS_bind (mV ?_)
      have Xr:=dn2.rev hz2
      have w3:=(w1.trans w2).trans ((Within.rev (a:=a2) (lo:=lo) (hi:=lo+m) hz2).mono (Nat.le_refl _) (by lia))
      refine wpS_bind (qX C (ho.perm w3.perm) (by rw[w3.size];exact hz) (by lia) m2 Xr (fun i k st R h=>wpS_bind (wpS_mono h fun r st' hr=>?_)) fun k k1 k2 up stop=>?_)
      ·cases r with
       | none=>exact wpS_pure hr
       | some c=>cases c with
        | true=>exact wpS_pure hr
        | false=>exact wpS_pure hr
      ·dsimp only
       exact wpS_pure (q k _ (by lia) k2 w3 up)
end
def ga (a:Array Keyed)(i:Nat):Keyed:=(a[i]?).getD (Value.none,Value.none)
theorem aO {a:Array Keyed}{i:Nat}(h:i<a.size):a[i]?=some (ga a i):=by
 unfold ga
 rw[Array.getElem?_eq_getElem h]
 rfl
theorem ug {a:Array Keyed}{i:Nat}{x:Keyed}(h:a[i]?=some x):ga a i=x:=by unfold ga;rw[h];rfl
section
variable{M:Model}{A:Around}{E:Value→Shared→Prop}{s:Shared}{κ:SortKind}{lt:Keyed→Keyed→Bool}{ok:Keyed→Prop}
theorem bisect {β:Type}{f:Nat→Option β×Nat×Nat→StateT SortSt Sem (ForInStep (Option β×Nat×Nat))}{st:SortSt}{P:Nat→Bool}{l0 r0 N:Nat}{Q:Option β×Nat×Nat→SortSt→Prop}
  (hf:∀ (i l r:Nat) (R:ForInStep (Option β×Nat×Nat)→SortSt→Prop),l<r→l0≤l→r≤r0→(∀ m,l≤m→m<r→(P m=true→R (.yield (none,m+1,r)) st)∧(P m=false→R (.yield (none,l,m)) st))→wpS M A E s (f i (none,l,r)) R st)
  (hd:∀ (i l r:Nat) (R:ForInStep (Option β×Nat×Nat)→SortSt→Prop),¬ l<r→R (.done (none,l,r)) st→wpS M A E s (f i (none,l,r)) R st)
  (mono:∀ i j,l0≤i→i≤j→j<r0→P j=true→P i=true) (hN:r0-l0≤N) (h0:l0≤r0)
  (q:∀ k,l0≤k→k≤r0→(∀ j,l0≤j→j<k→P j=true)→(∀ j,k≤j→j<r0→P j=false)→Q (none,k,k) st):wpS M A E s (forIn [0:N] ((none,l0,r0):Option β×Nat×Nat) f) Q st:=by
 refine wpS_forRange (fun i c st'=>∃ l r,st'=st∧c=(none,l,r)∧l0≤l∧l≤r∧r≤r0∧(i≤N→r-l≤N-i)∧(∀ j,l0≤j→j<l→P j=true)∧(∀ j,r≤j→j<r0→P j=false)) ?_ ?_
  ⟨l0,r0,rfl,rfl,Nat.le_refl _,h0,Nat.le_refl _,fun _=>by lia,fun j j1 j2=>by lia,fun j j1 j2=>by lia⟩
 ·rintro i c st' _ hi ⟨l,r,rfl,rfl,a1,a2,a3,a4,a5,a6⟩
  by_cases hlr:l<r
  ·refine hf i l r _ hlr a1 a3 fun m m1 m2=>⟨fun hp=>?_,fun hp=>?_⟩
   ·refine⟨m+1,r,rfl,rfl,by lia,by lia,a3,fun _=>by have:=a4 (by lia);lia,fun j j1 j2=>?_,a6⟩
    exact mono j m j1 (by lia) (by lia) hp
   ·refine⟨l,m,rfl,rfl,a1,m1,by lia,fun _=>by have:=a4 (by lia);lia,a5,fun j j1 j2=>?_⟩
    cases hj:P j with
    | false=>rfl
    | true=>rw[mono m j (by lia) j1 j2 hj] at hp;exact hp
  ·have e:l=r:=by lia
   subst e
   exact hd i l l _ hlr (q l a1 a3 a5 a6)
 ·rintro c st' ⟨l,r,rfl,rfl,a1,a2,a3,a4,a5,a6⟩
  have e:l=r:=by
   have:=a4 (by lia)
   lia
  subst e
  exact q l a1 a3 a5 a6
theorem M4 {a:Array Keyed}{src d:Nat}(hs:src<a.size)(hd:d≤src)(k:Nat):(bubble a src d)[k]?=if k=src-d then a[src]? else if src-d<k∧k≤src then a[k-1]? else a[k]?:=getElem?_bubble hs d hd k
theorem Rj {a:Array Keyed}{p:Array (Nat×Nat×Nat)}{g i j:Nat}{Q:Unit→SortSt→Prop}(h:Q () (jO κ (bubble a i (i-j)) p g)):wpS M A E s (moveDown' i j) Q (jO κ a p g):=by
 rw[moveDown'_eq]
 exact wpS_modify h
theorem U3 (C:qW M A E s κ lt ok){a:Array Keyed}{p:Array (Nat×Nat×Nat)}{g lo n m:Nat}{Q:Bool→SortSt→Prop}(ho:fW ok a)(hz:lo+n≤a.size)(h1:1≤m)(hm:m≤n)(up:Up lt a lo (lo+m))
  (q:∀ a',Within a a' lo (lo+n)→Up lt a' lo (lo+n)→Q true (jO κ a' p g)):wpS M A E s (binarySort' lo n m) Q (jO κ a p g):=by
 rw[binarySort'_eq]
 dsimp only
 refine wpS_bind (wpS_mono (wpS_forRange (fun k c st=>c=(none,())∧k≤max m n∧∃ a',st=jO κ a' p g∧Within a a' lo (lo+n)∧Up lt a' lo (lo+k)) (Q:=fun c st=>c=(none,())∧∃ a',st=jO κ a' p g∧Within a a' lo (lo+n)∧Up lt a' lo (lo+n)) ?_ ?_ ⟨rfl,by lia,a,rfl,Within.refl _ _ _,by rw[Nat.max_eq_left h1];exact up⟩) ?_)
 ·rintro k c st k1 k2 ⟨rfl,_,a',rfl,w,u⟩
  have ho':=ho.perm w.perm
  have hz':lo+n≤a'.size:=by rw[w.size];exact hz
  have hk1:1≤k:=by lia
  have hx:=aO (a:=a') (i:=lo+k) (by lia)
  refine wpS_bind (bisect (P:=fun j=>!lt (ga a' (lo+k)) (ga a' (lo+j))) (l0:=0) (r0:=k) (fun i l r R hlr _ hr h=>?_) (fun i l r R hlr h=>?_) (fun i j _ hij hj hp=>?_) (by lia) (Nat.zero_le _) fun t _ t2 before after=>?_)
  ·dsimp only
   rw[if_neg (by lia)]
   have hm':=h ((l+r) / 2) (by lia) (by lia)
   refine wpS_bind (Ak C ho' hx (aO (i:=lo+(l+r) / 2) (by lia)) ?_)
   dsimp only
   cases hb:lt (ga a' (lo+k)) (ga a' (lo+(l+r) / 2)) with
   | true=>exact wpS_pure (hm'.2 (by rw[hb];rfl))
   | false=>exact wpS_pure (hm'.1 (by rw[hb];rfl))
  ·dsimp only
   rw[if_pos (by lia)]
   exact wpS_pure h
  ·have e1:lt (ga a' (lo+k)) (ga a' (lo+j))=false:=by simpa using hp
   have e2:=u (lo+i) (lo+j) _ _ (by lia) (by lia) (by lia) (aO (by lia)) (aO (by lia))
   rw[C.trans _ _ _ e2 e1]
   rfl
  ·dsimp only
   refine wpS_bind (Rj (wpS_pure ⟨rfl,by lia,_,rfl,w.trans ⟨bubble_perm _ _ _,fun j hj=>?_⟩,?_⟩))
   ·rw[M4 (by lia) (by lia),if_neg (by lia),if_neg (by lia)]
   ·have e0:lo+k-(lo+k-(lo+t))=lo+t:=by lia
    have KH:∀ j,j<t→lt (ga a' (lo+k)) (ga a' (lo+j))=false:=fun j hj=>by simpa using before j (Nat.zero_le _) hj
    have Pa:∀ j,t≤j→j<k→lt (ga a' (lo+j)) (ga a' (lo+k))=false:=fun j j1 j2=>C.jG _ _ (by simpa using after j j1 j2)
    intro i j x y a1 a2 a3 e1 e2
    rw[M4 (by lia) (by lia),e0] at e1 e2
    have gx:∀ r:Nat,a'[r]?=some x→ga a' r=x:=fun r=>ug
    have gy:∀ r:Nat,a'[r]?=some y→ga a' r=y:=fun r=>ug
    by_cases ci:i=lo+t
    ·rw[if_pos ci] at e1
     by_cases cj:j=lo+t
     ·rw[if_pos cj,e1] at e2
      cases e2
      exact C.refl x
     ·rw[if_neg cj,if_pos ⟨by lia,by lia⟩] at e2
      have:=Pa (j-1-lo) (by lia) (by lia)
      rw[show lo+(j-1-lo)=j-1 by lia,gy _ e2,gx _ e1] at this
      exact this
    ·rw[if_neg ci] at e1
     by_cases cj:j=lo+t
     ·rw[if_pos cj] at e2
      rw[if_neg (by lia)] at e1
      have:=KH (i-lo) (by lia)
      rw[show lo+(i-lo)=i by lia,gy _ e2,gx _ e1] at this
      exact this
     ·rw[if_neg cj] at e2
      by_cases c1:lo+t<i∧i≤lo+k
      ·rw[if_pos c1] at e1
       rw[if_pos ⟨by lia,by lia⟩] at e2
       exact u _ _ x y (by lia) (by lia) (by lia) e1 e2
      ·rw[if_neg c1] at e1
       by_cases c2:lo+t<j∧j≤lo+k
       ·rw[if_pos c2] at e2
        exact u _ _ x y a1 (by lia) (by lia) e1 e2
       ·rw[if_neg c2] at e2
        exact u _ _ x y a1 a2 (by lia) e1 e2
 ·rintro c st ⟨rfl,_,a',rfl,w,u⟩
  have e:max (max m 1) n=n:=by lia
  rw[e] at u
  exact⟨rfl,a',rfl,w,u⟩
 ·rintro c st ⟨rfl,a',rfl,w,u⟩
  exact wpS_pure (q a' w u)
end
def gal:Bool→Keyed→Array Keyed→Nat→Nat→Nat→StateT SortSt Sem (Option Nat):=sortPriv% PySem.Builtin.gallop
section
variable{M:Model}{A:Around}{E:Value→Shared→Prop}{s:Shared}{κ:SortKind}{lt:Keyed→Keyed→Bool}{ok:Keyed→Prop}
def before (lt:Keyed→Keyed→Bool)(left:Bool)(key x:Keyed):Bool:=if left=true then lt x key else !lt key x
theorem vL (C:qW M A E s κ lt ok){left:Bool}{key:Keyed}{arr:Array Keyed}{i:Nat}{st:SortSt}{R:Option Bool→SortSt→Prop}(hk:kindOf st=κ)(Pb:ok key)(hi:i<arr.size)(ho:fW ok arr)
  (h:R (some (before lt left key (ga arr i))) st):wpS M A E s (elem' arr i >>= fun x=>if left=true then lt' x key else (lt' key x >>= fun r=>pure (Option.map (fun b=>!b) r))) R st:=by
 have hx:=aO hi
 refine wpS_bind (aX hx ?_)
 unfold before at h
 cases left with
 | true =>
  rw[if_pos rfl] at h ⊢
  exact C.run _ _ _ _ hk (ho _ _ hx) Pb h
 | false =>
  rw[if_neg Bool.false_ne_true] at h ⊢
  exact wpS_bind (C.run _ _ _ _ hk Pb (ho _ _ hx) (wpS_pure h))
theorem steps {f:Nat→Option (Option Nat)×Nat×Nat→StateT SortSt Sem (ForInStep (Option (Option Nat)×Nat×Nat))}{st:SortSt}{G:Nat→Bool}{top N:Nat}{Q:Option (Option Nat)×Nat×Nat→SortSt→Prop}
  (hd:∀ (i l o:Nat) (R:ForInStep (Option (Option Nat)×Nat×Nat)→SortSt→Prop),top≤o→R (.done (none,l,o)) st→wpS M A E s (f i (none,l,o)) R st)
  (hf:∀ (i l o:Nat) (R:ForInStep (Option (Option Nat)×Nat×Nat)→SortSt→Prop),o<top→(G o=false→R (.done (none,l,o)) st)→(G o=true→R (.yield (none,o,2*o+1)) st)→wpS M A E s (f i (none,l,o)) R st)
  (hN:top≤N) (g0:G 0=true) (ht:0<top)
  (q:∀ l o,l<o→l<top→G l=true→(top≤o∨G o=false)→Q (none,l,o) st):wpS M A E s (forIn [0:N] ((none,0,1):Option (Option Nat)×Nat×Nat) f) Q st:=by
 refine wpS_forRange (fun i c st'=>∃ l o,st'=st∧c=(none,l,o)∧l<o∧l<top∧G l=true∧i+1≤o) ?_ ?_ ⟨0,1,rfl,rfl,by omega,ht,g0,Nat.le_refl _⟩
 ·rintro i c st' _ hi ⟨l,o,rfl,rfl,a1,a2,a3,a4⟩
  by_cases ho:top≤o
  ·exact hd i l o _ ho (q l o a1 a2 a3 (.inl ho))
  ·refine hf i l o _ (by omega) (fun hg=>q l o a1 a2 a3 (.inr hg)) fun hg=>⟨o,2*o+1,rfl,rfl,by omega,by omega,hg,by omega⟩
 ·rintro c st' ⟨l,o,rfl,rfl,a1,a2,a3,a4⟩
  exact q l o a1 a2 a3 (.inl (by omega))
theorem gq (C:qW M A E s κ lt ok){left:Bool}{key:Keyed}{arr:Array Keyed}{base n hint:Nat}{st:SortSt}{Q:Option Nat→SortSt→Prop}(hk:kindOf st=κ)(Pb:ok key)(ho:fW ok arr)(hb:base+n≤arr.size)(hh:hint<n)
  (mono:∀ i j,i≤j→j<n→before lt left key (ga arr (base+j))=true→before lt left key (ga arr (base+i))=true)
  (q:∀ k,k≤n→(∀ j,j<k→before lt left key (ga arr (base+j))=true)→(∀ j,k≤j→j<n→before lt left key (ga arr (base+j))=false)→Q (some k) st):wpS M A E s (gal left key arr base n hint) Q st:=by
 have fls:∀ i j,i≤j→j<n→before lt left key (ga arr (base+i))=false→before lt left key (ga arr (base+j))=false:=fun i j h1 h2 h3=>by
  cases h:before lt left key (ga arr (base+j)) with
  | false=>rfl
  | true=>rw[mono i j h1 h2 h] at h3;exact h3
 refine wpS_bind (vL C hk Pb (by omega) ho ?_)
 dsimp only
 cases h0:before lt left key (ga arr (base+hint)) with
 | true =>
  rw[if_pos rfl]
  refine wpS_bind (steps (G:=fun o=>before lt left key (ga arr (base+(hint+o)))) (top:=n-hint) (fun i l o R h1 h2=>?_) (fun i l o R h1 h2 h3=>?_) (by omega) h0 (by omega) fun l o a1 a2 a3 a4=>?_)
  ·dsimp only
   rw[if_pos h1]
   exact wpS_pure h2
  ·dsimp only
   rw[if_neg (by omega)]
   refine wpS_bind (vL C hk Pb (by omega) ho ?_)
   dsimp only
   cases hg:before lt left key (ga arr (base+(hint+o))) with
   | true=>exact wpS_pure (h3 hg)
   | false=>exact wpS_pure (h2 hg)
  ·dsimp only
   refine wpS_bind (bisect (P:=fun j=>before lt left key (ga arr (base+j))) (fun i l' r R b1 b2 b3 h=>?_) (fun i l' r R b1 h=>?_) (fun i j b1 b2 b3 hp=>mono i j b2 (by omega) hp) (by omega) (by omega) fun k k1 k2 KH Pa=>?_)
   ·dsimp only
    rw[if_neg (by omega)]
    have hm':=h (l'+(r-l') / 2) (by omega) (by omega)
    refine wpS_bind (vL C hk Pb (by omega) ho ?_)
    dsimp only
    cases hg:before lt left key (ga arr (base+(l'+(r-l') / 2))) with
    | true=>exact wpS_pure (hm'.1 hg)
    | false=>exact wpS_pure (hm'.2 hg)
   ·dsimp only
    rw[if_pos (by omega)]
    exact wpS_pure h
   ·dsimp only
    refine wpS_pure (q k (by omega) (fun j hj=>?_) fun j j1 j2=>?_)
    ·by_cases c:j<hint+l+1
     ·exact mono j (hint+l) (by omega) (by omega) a3
     ·exact KH j (by omega) hj
    ·by_cases c:j<hint+min o (n-hint)
     ·exact Pa j j1 c
     ·rcases a4 with a4|a4
      ·omega
      ·exact fls (hint+o) j (by omega) j2 a4
 | false =>
  rw[if_neg Bool.false_ne_true]
  refine wpS_bind (steps (G:=fun o=>!before lt left key (ga arr (base+(hint-o)))) (top:=hint+1) (fun i l o R h1 h2=>?_) (fun i l o R h1 h2 h3=>?_) (by omega) (by show (!before lt left key (ga arr (base+hint)))=true;rw[h0];rfl) (by omega) fun l o a1 a2 a3 a4=>?_)
  ·dsimp only
   rw[if_pos h1]
   exact wpS_pure h2
  ·dsimp only
   rw[if_neg (by omega)]
   refine wpS_bind (vL C hk Pb (by omega) ho ?_)
   dsimp only
   cases hg:before lt left key (ga arr (base+(hint-o))) with
   | true=>exact wpS_pure (h2 (by rw[hg];rfl))
   | false=>exact wpS_pure (h3 (by rw[hg];rfl))
  ·dsimp only
   have a3':before lt left key (ga arr (base+(hint-l)))=false:=by simpa using a3
   refine wpS_bind (bisect (P:=fun j=>before lt left key (ga arr (base+j))) (fun i l' r R b1 b2 b3 h=>?_) (fun i l' r R b1 h=>?_) (fun i j b1 b2 b3 hp=>mono i j b2 (by omega) hp) (by omega) (by omega) fun k k1 k2 KH Pa=>?_)
   ·dsimp only
    rw[if_neg (by omega)]
    have hm':=h (l'+(r-l') / 2) (by omega) (by omega)
    refine wpS_bind (vL C hk Pb (by omega) ho ?_)
    dsimp only
    cases hg:before lt left key (ga arr (base+(l'+(r-l') / 2))) with
    | true=>exact wpS_pure (hm'.1 hg)
    | false=>exact wpS_pure (hm'.2 hg)
   ·dsimp only
    rw[if_pos (by omega)]
    exact wpS_pure h
   ·dsimp only
    refine wpS_pure (q k (by omega) (fun j hj=>?_) fun j j1 j2=>?_)
    ·by_cases c:j<hint+1-min o (hint+1)
     ·rcases a4 with a4|a4
      ·omega
      ·have a4':before lt left key (ga arr (base+(hint-o)))=true:=by simpa using a4
       exact mono j (hint-o) (by omega) (by omega) a4'
     ·exact KH j (by omega) hj
    ·by_cases c:j<hint-l
     ·exact Pa j j1 c
     ·exact fls (hint-l) j (by omega) j2 a3'
end
section
variable{M:Model}{A:Around}{E:Value→Shared→Prop}{s:Shared}{κ:SortKind}{lt:Keyed→Keyed→Bool}{ok:Keyed→Prop}
abbrev fj (lt:Keyed→Keyed→Bool)(l:List Keyed):Prop:=l.Pairwise fun x y=>lt y x=false
structure MI (lt:Keyed→Keyed→Bool)(a b out:List Keyed)(ia ib:Nat):Prop where
 sa:fj lt (out++a.drop ia)
 sb:fj lt (out++b.drop ib)
 pm:out.Perm (a.take ia++b.take ib)
theorem MI.Al {a b out:List Keyed}{ia ib:Nat}(h:MI lt a b out ia ib)(k:Nat)(hle:∀ x∈(a.drop ia).take k,∀ y∈b.drop ib,lt y x=false):MI lt a b (out++(a.drop ia).take k) (ia+k) ib:=by
 have e:out++(a.drop ia).take k++a.drop (ia+k)=out++a.drop ia:=by rw[List.append_assoc,←List.drop_drop,List.take_append_drop]
 refine⟨by rw[e];exact h.sa,?_,?_⟩
 ·have s1:fj lt (out++(a.drop ia).take k):=by
   have:=h.sa
   rw[←e] at this
   exact (List.pairwise_append.mp this).1
  refine List.pairwise_append.mpr ⟨s1,(List.pairwise_append.mp h.sb).2.1,fun x hx y hy=>?_⟩
  rcases List.mem_append.mp hx with hx|hx
  ·exact (List.pairwise_append.mp h.sb).2.2 x hx y hy
  ·exact hle x hx y hy
 ·rw[List.take_add]
  refine (h.pm.append_right _).trans ?_
  rw[List.append_assoc,List.append_assoc]
  exact (List.perm_append_comm).append_left _
theorem MI.Ao {a b out:List Keyed}{ia ib:Nat}(h:MI lt a b out ia ib)(k:Nat)(hle:∀ x∈(b.drop ib).take k,∀ y∈a.drop ia,lt y x=false):MI lt a b (out++(b.drop ib).take k) ia (ib+k):=by
 have e:out++(b.drop ib).take k++b.drop (ib+k)=out++b.drop ib:=by rw[List.append_assoc,←List.drop_drop,List.take_append_drop]
 refine⟨?_,by rw[e];exact h.sb,?_⟩
 ·have s1:fj lt (out++(b.drop ib).take k):=by
   have:=h.sb
   rw[←e] at this
   exact (List.pairwise_append.mp this).1
  refine List.pairwise_append.mpr ⟨s1,(List.pairwise_append.mp h.sa).2.1,fun x hx y hy=>?_⟩
  rcases List.mem_append.mp hx with hx|hx
  ·exact (List.pairwise_append.mp h.sa).2.2 x hx y hy
  ·exact hle x hx y hy
 ·rw[List.take_add,←List.append_assoc]
  exact h.pm.append_right _
theorem drop_one {l:List Keyed}{i:Nat}(h:i<l.length):(l.drop i).take 1=[l[i]]:=by
 rw[List.drop_eq_getElem_cons h,List.take_succ_cons,List.take_zero]
theorem MI.aag {a b out:List Keyed}{ia ib:Nat}(C:qW M A E s κ lt ok)(h:MI lt a b out ia ib)(h1:ia<a.length)(h2:ib<b.length)(hle:lt b[ib] a[ia]=false):MI lt a b (out++[a[ia]]) (ia+1) ib:=by
 have:=h.Al 1 fun x hx y hy=>by
  rw[drop_one h1] at hx
  have e:x=a[ia]:=by simpa using hx
  subst e
  have sb:fj lt (b.drop ib):=(List.pairwise_append.mp h.sb).2.1
  rw[List.drop_eq_getElem_cons h2] at sb hy
  rcases List.mem_cons.mp hy with rfl|hy
  ·exact hle
  ·exact C.trans _ _ _ hle ((List.pairwise_cons.mp sb).1 y hy)
 rwa [drop_one h1] at this
theorem MI.aah {a b out:List Keyed}{ia ib:Nat}(C:qW M A E s κ lt ok)(h:MI lt a b out ia ib)(h1:ia<a.length)(h2:ib<b.length)(hle:lt a[ia] b[ib]=false):MI lt a b (out++[b[ib]]) ia (ib+1):=by
 have:=h.Ao 1 fun x hx y hy=>by
  rw[drop_one h2] at hx
  have e:x=b[ib]:=by simpa using hx
  subst e
  have sa:fj lt (a.drop ia):=(List.pairwise_append.mp h.sa).2.1
  rw[List.drop_eq_getElem_cons h1] at sa hy
  rcases List.mem_cons.mp hy with rfl|hy
  ·exact hle
  ·exact C.trans _ _ _ hle ((List.pairwise_cons.mp sa).1 y hy)
 rwa [drop_one h2] at this
def Good (lt:Keyed→Keyed→Bool)(a b:List Keyed)(r:Array Keyed):Prop:=fj lt r.toList∧r.toList.Perm (a++b)
theorem MI.agt {a b out:List Keyed}{ia ib:Nat}(h:MI lt a b out ia ib)(hb:ib=b.length){r:Array Keyed}(e:r.toList=out++a.drop ia++b.drop ib):Good lt a b r:=by
 subst hb
 rw[List.drop_length,List.append_nil] at e
 refine⟨by rw[e];exact h.sa,?_⟩
 rw[e]
 refine (h.pm.append_right _).trans ?_
 rw[List.take_length,List.append_assoc]
 refine ((List.perm_append_comm (l₁:=b) (l₂:=a.drop ia)).append_left _).trans ?_
 rw[←List.append_assoc,List.take_append_drop]
theorem MI.agu {a b out:List Keyed}{ia ib:Nat}(h:MI lt a b out ia ib)(ha:ia+1=a.length)(big:∀ y∈b,lt (a[ia]'(by lia)) y=false){r:Array Keyed}(e:r.toList=out++b.drop ib++a.drop ia):Good lt a b r:=by
 have hd:a.drop ia=[a[ia]'(by lia)]:=by
  rw[List.drop_eq_getElem_cons (by lia),List.drop_eq_nil_of_le (by lia)]
 refine⟨?_,?_⟩
 ·rw[e]
  refine List.pairwise_append.mpr ⟨h.sb,(List.pairwise_append.mp h.sa).2.1,fun x hx y hy=>?_⟩
  rcases List.mem_append.mp hx with hx|hx
  ·exact (List.pairwise_append.mp h.sa).2.2 x hx y hy
  ·rw[hd] at hy
   have e2:y=a[ia]'(by lia):=by simpa using hy
   rw[e2]
   exact big x (List.mem_of_mem_drop hx)
 ·rw[e]
  refine ((h.pm.append_right _).append_right _).trans ?_
  rw[List.append_assoc,List.append_assoc]
  have e3:b.take ib++(b.drop ib++a.drop ia)=b++a.drop ia:=by rw[←List.append_assoc,List.take_append_drop]
  rw[e3]
  refine ((List.perm_append_comm (l₁:=b) (l₂:=a.drop ia)).append_left _).trans ?_
  rw[←List.append_assoc,List.take_append_drop]
theorem d8 {a:Array Keyed}{i:Nat}(h:i<a.toList.length):ga a i=a.toList[i]:=by
 have h':i<a.size:=by simpa using h
 unfold ga
 rw[Array.getElem?_eq_getElem h']
 simp
theorem lF (a:Array Keyed)(i j:Nat):(a.extract i j).toList=(a.toList.drop i).take (j-i):=by
 rw[Array.toList_extract,List.extract_eq_drop_take]
theorem zG (a:Array Keyed)(i:Nat):(a.extract i a.size).toList=a.toList.drop i:=by
 rw[lF,List.take_of_length_le (by rw[List.length_drop,Array.length_toList];lia)]
end
def mLo:Array Keyed→Array Keyed→StateT SortSt Sem (Array Keyed):=sortPriv% PySem.Builtin.mergeLo
section
variable{M:Model}{A:Around}{E:Value→Shared→Prop}{s:Shared}{κ:SortKind}{lt:Keyed→Keyed→Bool}{ok:Keyed→Prop}{x y out:Array Keyed}{ia ib:Nat}
abbrev MA (lt:Keyed→Keyed→Bool)(x y out:Array Keyed)(ia ib:Nat):Prop:=MI lt x.toList y.toList out.toList ia ib
theorem uK {a:Array Keyed}{i:Nat}(h:i<a.size):ga a i∈a.toList:=by
 rw[d8 (by simpa using h)]
 exact List.getElem_mem _
theorem nU {a:Array Keyed}{i k:Nat}{u:Keyed}(h:u∈(a.toList.drop i).take k):∃ j,j<k∧i+j<a.size∧u=ga a (i+j):=by
 obtain⟨j,hj,e⟩:=List.mem_iff_getElem.mp h
 rw[List.length_take,List.length_drop,Array.length_toList] at hj
 refine⟨j,by lia,by lia,?_⟩
 rw[d8 (by rw[Array.length_toList];lia),←e,List.getElem_take,List.getElem_drop]
theorem Jo {a:Array Keyed}{i:Nat}{u:Keyed}(h:u∈a.toList.drop i):∃ j,i≤j∧j<a.size∧u=ga a j:=by
 obtain⟨j,hj,e⟩:=List.mem_iff_getElem.mp h
 rw[List.length_drop,Array.length_toList] at hj
 refine⟨i+j,by lia,by lia,?_⟩
 rw[d8 (by rw[Array.length_toList];lia),←e,List.getElem_drop]
theorem fj.ga (C:qW M A E s κ lt ok){a:Array Keyed}(h:fj lt a.toList){i j:Nat}(hij:i≤j)(hj:j<a.size):lt (Lj.ga a j) (Lj.ga a i)=false:=by
 by_cases e:i=j
 ·subst e
  exact C.refl _
 ·rw[d8 (by rw[Array.length_toList];lia),d8 (by rw[Array.length_toList];lia)]
  exact List.pairwise_iff_getElem.mp h i j _ _ (by lia)
theorem MI.Fv (C:qW M A E s κ lt ok)(h:MA lt x y out ia ib)(h1:ia<x.size)(h2:ib<y.size)(hle:lt (ga y ib) (ga x ia)=false):MA lt x y (out.push (ga x ia)) (ia+1) ib:=by
 rw[d8 (a:=y) (by simpa using h2),d8 (a:=x) (by simpa using h1)] at hle
 have:=MI.aag C h (by simpa using h1) (by simpa using h2) hle
 show MI lt _ _ (out.push (ga x ia)).toList _ _
 rw[Array.toList_push,d8 (a:=x) (by simpa using h1)]
 exact this
theorem MI.Rk (C:qW M A E s κ lt ok)(h:MA lt x y out ia ib)(h1:ia<x.size)(h2:ib<y.size)(hle:lt (ga x ia) (ga y ib)=false):MA lt x y (out.push (ga y ib)) ia (ib+1):=by
 rw[d8 (a:=y) (by simpa using h2),d8 (a:=x) (by simpa using h1)] at hle
 have:=MI.aah C h (by simpa using h1) (by simpa using h2) hle
 show MI lt _ _ (out.push (ga y ib)).toList _ _
 rw[Array.toList_push,d8 (a:=y) (by simpa using h2)]
 exact this
theorem MI.bkA (C:qW M A E s κ lt ok)(h:MA lt x y out ia ib){k:Nat}(ry:fj lt y.toList)(h2:ib<y.size)(hle:∀ j,j<k→lt (ga y ib) (ga x (ia+j))=false):MA lt x y (out++x.extract ia (ia+k)) (ia+k) ib:=by
 have:=MI.Al h k fun u hu v hv=>by
  obtain⟨j,j1,_,rfl⟩:=nU hu
  obtain⟨j',j2,j3,rfl⟩:=Jo hv
  exact C.trans _ _ _ (hle j j1) (fj.ga C ry j2 j3)
 show MI lt _ _ (out++x.extract ia (ia+k)).toList _ _
 rw[Array.toList_append,lF,Nat.add_sub_cancel_left]
 exact this
theorem MI.U4 (C:qW M A E s κ lt ok)(h:MA lt x y out ia ib){k:Nat}(rx:fj lt x.toList)(h1:ia<x.size)(hle:∀ j,j<k→lt (ga x ia) (ga y (ib+j))=false):MA lt x y (out++y.extract ib (ib+k)) ia (ib+k):=by
 have:=MI.Ao h k fun u hu v hv=>by
  obtain⟨j,j1,_,rfl⟩:=nU hu
  obtain⟨j',j2,j3,rfl⟩:=Jo hv
  exact C.trans _ _ _ (hle j j1) (fj.ga C rx j2 j3)
 show MI lt _ _ (out++y.extract ib (ib+k)).toList _ _
 rw[Array.toList_append,lF,Nat.add_sub_cancel_left]
 exact this
abbrev mW (lt:Keyed→Keyed→Bool)(x y r:Array Keyed):Prop:=Good lt x.toList y.toList r
theorem MI.Aq (h:MA lt x y out ia ib)(hb:ib=y.size):mW lt x y (out++x.extract ia x.size++y.extract ib y.size) :=
 MI.agt h (by simpa using hb) (by rw[Array.toList_append,Array.toList_append,zG,zG])
theorem MI.Av (h:MA lt x y out ia ib)(ha:ia+1=x.size)(big:∀ v∈y.toList,lt (ga x (x.size-1)) v=false):mW lt x y (out++y.extract ib y.size++x.extract ia x.size) :=
 MI.agu h (by simpa using ha) (fun v hv=>by
  have:=big v hv
  rw[show x.size-1=ia by lia,d8 (by rw[Array.length_toList];lia)] at this
  exact this) (by rw[Array.toList_append,Array.toList_append,zG,zG])
theorem bZ {c:Prop}[Decidable c]{α:Type}{a b:StateT SortSt Sem α}{Q:α→SortSt→Prop}{st:SortSt}(h1:c→wpS M A E s a Q st)(h2:¬ c→wpS M A E s b Q st):wpS M A E s (if c then a else b) Q st:=by
 by_cases h:c
 ·rw[if_pos h]
  exact h1 h
 ·rw[if_neg h]
  exact h2 h
theorem eV (C:qW M A E s κ lt ok){u v w:Keyed}(h1:lt v u=false)(h2:lt v w=true):lt u w=true:=by
 cases h:lt u w with
 | true=>rfl
 | false=>rw[C.trans w u v h h1] at h2;exact h2
theorem U5 (C:qW M A E s κ lt ok){arr:Array Keyed}{p:Array (Nat×Nat×Nat)}{g:Nat}{Q:Array Keyed→SortSt→Prop}(hox:fW ok x)(Lk:fW ok y)(hx:0<x.size)(hy:0<y.size)(rx:fj lt x.toList)(ry:fj lt y.toList)
  (first:∀ u∈x.toList,lt u (ga y 0)=false) (big:∀ v∈y.toList,lt v (ga x (x.size-1))=true) (q:∀ r g',mW lt x y r→Q r (jO κ arr p g')):wpS M A E s (mLo x y) Q (jO κ arr p g):=by
 have yN:∀ v∈y.toList,lt (ga x (x.size-1)) v=false:=fun v hv=>C.jG _ _ (big v hv)
 refine wpS_bind (wpS_lift (wpAny_rule ⟨rfl,?_⟩))
 dsimp only
 refine wpS_bind (aX (aO hy) ?_)
 have Xu:MA lt x y #[ga y 0] 0 1:=by
  have e0:ga y 0=y.toList[0]'(by simpa using hy):=d8 _
  have ey:y.toList=ga y 0::y.toList.drop 1:=by
   rw[e0,←List.drop_eq_getElem_cons (by simpa using hy)]
   rfl
  refine⟨List.pairwise_cons.mpr ⟨fun u hu=>first u (by simpa using hu),by simpa using rx⟩,?_,?_⟩
  ·show fj lt (ga y 0::y.toList.drop 1)
   rw[←ey]
   exact ry
  ·show [ga y 0].Perm ([]++y.toList.take 1)
   rw[ey]
   exact List.Perm.refl _
 by_cases h1:1=y.size
 ·rw[if_pos (by simpa using h1)]
  exact wpS_pure (q _ _ (MI.Aq Xu h1))
 ·rw[if_neg (by simpa using h1)]
  by_cases h2:0+1=x.size
  ·rw[if_pos (by simpa using h2)]
   exact wpS_pure (q _ _ (MI.Av Xu h2 yN))
  ·rw[if_neg (by simpa using h2)]
   refine wpS_bind (wpS_get ?_)
   refine wpS_bind (wpS_mono (wpS_forRange (fun i c st=>∃ g' out ia ib mg,st=jO κ arr p g'∧c=(none,out,ia,ib,mg)∧MA lt x y out ia ib∧ia+1<x.size∧ib<y.size∧i+1≤ia+ib) (Q:=fun c st=>∃ g' r rest,st=jO κ arr p g'∧c=(some r,rest)∧mW lt x y r)
    ?_ ?_ ⟨g,_,_,_,_,rfl,rfl,Xu,by lia,by lia,Nat.le_refl _⟩) ?_)
   ·rintro i c st _ hi ⟨g',out,ia,ib,mg,rfl,rfl,mi,b1,b2,b3⟩
    dsimp only
    refine wpS_bind (wpS_mono (wpS_forRange (fun j c st=>∃ out Jp KJ ac bc,st=jO κ arr p g'∧c=(none,out,Jp,KJ,ac,bc)∧MA lt x y out Jp KJ∧Jp+1<x.size∧KJ<y.size∧ia+ib+j≤Jp+KJ)
     (Q:=fun c st=>(∃ r rest,st=jO κ arr p g'∧c=(some r,rest)∧mW lt x y r)∨∃ out Jp KJ ac bc,st=jO κ arr p g'∧c=(none,out,Jp,KJ,ac,bc)∧MA lt x y out Jp KJ∧Jp+1<x.size∧KJ<y.size∧ia+ib+1≤Jp+KJ)
     ?_ ?_ ⟨_,_,_,_,_,rfl,rfl,mi,b1,b2,Nat.le_refl _⟩) ?_)
    ·rintro j c st _ hj ⟨out,Jp,KJ,ac,bc,rfl,rfl,mi,b1,b2,b4⟩
     dsimp only
     refine wpS_bind (aX (aO b2) (wpS_bind (aX (aO (by lia)) (wpS_bind (C.run _ _ _ _ rfl (Lk _ _ (aO b2)) (hox _ _ (aO (show Jp<x.size by lia))) ?_)))))
     dsimp only
     cases hb:lt (ga y KJ) (ga x Jp) with
     | true =>
      rw[if_pos rfl]
      refine wpS_bind (aX (aO b2) ?_)
      have wV:=MI.Rk C mi (by lia) b2 (C.jG _ _ hb)
      by_cases hl:KJ+1=y.size
      ·rw[if_pos (by simpa using hl)]
       exact wpS_pure (.inl ⟨_,_,rfl,rfl,MI.Aq wV hl⟩)
      ·rw[if_neg (by simpa using hl)]
       refine bZ (fun e6=>?_) fun e6=>?_
       ·exact wpS_pure (.inr ⟨_,_,_,_,_,rfl,rfl,wV,by lia,by lia,by lia⟩)
       ·exact wpS_pure ⟨_,_,_,_,_,rfl,rfl,wV,by lia,by lia,by lia⟩
     | false =>
      rw[if_neg Bool.false_ne_true]
      refine wpS_bind (aX (aO (by lia)) ?_)
      have wV:=MI.Fv C mi (by lia) b2 hb
      by_cases hl:Jp+1+1=x.size
      ·rw[if_pos (by simpa using hl)]
       exact wpS_pure (.inl ⟨_,_,rfl,rfl,MI.Av wV hl yN⟩)
      ·rw[if_neg (by simpa using hl)]
       refine bZ (fun e6=>?_) fun e6=>?_
       ·exact wpS_pure (.inr ⟨_,_,_,_,_,rfl,rfl,wV,by lia,by lia,by lia⟩)
       ·exact wpS_pure ⟨_,_,_,_,_,rfl,rfl,wV,by lia,by lia,by lia⟩
    ·rintro c st ⟨out,Jp,KJ,ac,bc,rfl,rfl,mi,b1,b2,b4⟩
     exact .inr ⟨_,_,_,_,_,rfl,rfl,mi,b1,b2,by lia⟩
    ·rintro c st (⟨r,rest,rfl,rfl,gd⟩|⟨out,Jp,KJ,ac,bc,rfl,rfl,mi,b1,b2,b4⟩)
     ·dsimp only
      exact wpS_pure ⟨_,_,_,rfl,rfl,gd⟩
     ·dsimp only
      refine wpS_bind (wpS_lift (wpAny_rule ⟨rfl,?_⟩))
      refine wpS_bind (wpS_mono (wpS_forRange (fun j c st=>∃ g2 out Rm Rn Pg ac bc,st=jO κ arr p g2∧c=(none,out,Rm,Rn,Pg,ac,bc)∧MA lt x y out Rm Rn∧Rm+1<x.size∧Rn<y.size∧Jp+KJ≤Rm+Rn)
       (Q:=fun c st=>∃ g2,(∃ r rest,st=jO κ arr p g2∧c=(some r,rest)∧mW lt x y r)∨∃ out Rm Rn Pg ac bc,st=jO κ arr p g2∧c=(none,out,Rm,Rn,Pg,ac,bc)∧MA lt x y out Rm Rn∧Rm+1<x.size∧Rn<y.size∧Jp+KJ≤Rm+Rn)
       ?_ ?_ ⟨_,_,_,_,_,_,_,rfl,rfl,mi,b1,b2,Nat.le_refl _⟩) ?_)
      ·clear mi b1 b2 b3 b4
       rintro j c st _ hj ⟨g2,out,ia,ib,Pg,ac,bc,rfl,rfl,mi,b1,b2,b5⟩
       dsimp only
       refine bZ (fun e7=>?_) fun e7=>?_
       ·refine wpS_bind (wpS_modify ?_)
        refine wpS_bind (aX (aO b2) ?_)
        refine wpS_bind (gq C (left:=false) (base:=ia) (n:=x.size-ia) (hint:=0) rfl (Lk _ _ (aO b2)) hox (by lia) (by lia) (fun i j hij hj hp=>?_) fun k k1 KH Pa=>?_)
        ·have hp':lt (ga y ib) (ga x (ia+j))=false:=by simpa[before] using hp
         show (!lt (ga y ib) (ga x (ia+i)))=true
         rw[C.trans _ _ _ (fj.ga C rx (show ia+i≤ia+j by lia) (by lia)) hp']
         rfl
        ·dsimp only
         have Aw:∀ j,j<k→lt (ga y ib) (ga x (ia+j))=false:=fun j hj=>by simpa[before] using KH j hj
         have GD:∀ j,k≤j→j<x.size-ia→lt (ga y ib) (ga x (ia+j))=true:=fun j j1 j2=>by simpa[before] using Pa j j1 j2
         have kl:k<x.size-ia:=by
          by_cases c:k<x.size-ia
          ·exact c
          ·have h1:=Aw (x.size-ia-1) (by lia)
           have h2:=big _ (uK b2)
           rw[show ia+(x.size-ia-1)=x.size-1 by lia,h2] at h1
           cases h1
         by_cases hk:k > 0
         ·rw[if_pos hk]
          have wV:=MI.bkA C mi (k:=k) ry b2 Aw
          by_cases e1:ia+k+1=x.size
          ·rw[if_pos (by simpa using e1)]
           exact wpS_pure ⟨_,.inl ⟨_,_,rfl,rfl,MI.Av wV e1 yN⟩⟩
          ·rw[if_neg (by simpa using e1),if_neg (by simp;lia)]
           refine wpS_bind (aX (aO b2) ?_)
           have uL:=MI.Rk C wV (by lia) b2 (C.jG _ _ (GD k (Nat.le_refl _) kl))
           by_cases e3:ib+1=y.size
           ·rw[if_pos (by simpa using e3)]
            exact wpS_pure ⟨_,.inl ⟨_,_,rfl,rfl,MI.Aq uL e3⟩⟩
           ·rw[if_neg (by simpa using e3)]
            refine wpS_bind (aX (aO (by lia)) ?_)
            refine wpS_bind (gq C (left:=true) (base:=ib+1) (n:=y.size-(ib+1)) (hint:=0) rfl (hox _ _ (aO (by lia))) Lk (by lia) (by lia) (fun i j hij hj hp=>?_) fun k2 Ro uM uN=>?_)
            ·have hp':lt (ga y (ib+1+j)) (ga x (ia+k))=true:=hp
             show lt (ga y (ib+1+i)) (ga x (ia+k))=true
             exact eV C (fj.ga C ry (by lia) (by lia)) hp'
            ·dsimp only
             have iW:∀ j,j<k2→lt (ga x (ia+k)) (ga y (ib+1+j))=false:=fun j hj=>C.jG _ _ (uM j hj)
             have gD:∀ j,k2≤j→j<y.size-(ib+1)→lt (ga y (ib+1+j)) (ga x (ia+k))=false:=fun j j1 j2=>uN j j1 j2
             by_cases hk2:k2 > 0
             ·rw[if_pos hk2]
              have Ax:=MI.U4 C uL (k:=k2) rx (by lia) iW
              by_cases e4:ib+1+k2=y.size
              ·rw[if_pos (by simpa using e4)]
               exact wpS_pure ⟨_,.inl ⟨_,_,rfl,rfl,MI.Aq Ax e4⟩⟩
              ·rw[if_neg (by simpa using e4)]
               refine wpS_bind (aX (aO (by lia)) ?_)
               have iG:=MI.Fv C Ax (by lia) (by lia) (gD k2 (Nat.le_refl _) (by lia))
               by_cases e5:ia+k+1+1=x.size
               ·rw[if_pos (by simpa using e5)]
                exact wpS_pure ⟨_,.inl ⟨_,_,rfl,rfl,MI.Av iG (by lia) yN⟩⟩
               ·rw[if_neg (by simpa using e5)]
                refine bZ (fun e6=>?_) fun e6=>?_
                ·exact wpS_pure ⟨_,.inr ⟨_,_,_,_,_,_,rfl,rfl,iG,by lia,by lia,by lia⟩⟩
                ·exact wpS_pure ⟨_,_,_,_,_,_,_,rfl,rfl,iG,by lia,by lia,by lia⟩
             ·rw[if_neg hk2]
              have k0:k2=0:=by lia
              refine wpS_bind (aX (aO (by lia)) ?_)
              have iG:=MI.Fv C uL (by lia) (by lia) (by have:=gD 0 (by lia) (by lia);exact this)
              by_cases e5:ia+k+1+1=x.size
              ·rw[if_pos (by simpa using e5)]
               exact wpS_pure ⟨_,.inl ⟨_,_,rfl,rfl,MI.Av iG (by lia) yN⟩⟩
              ·rw[if_neg (by simpa using e5)]
               refine bZ (fun e6=>?_) fun e6=>?_
               ·exact wpS_pure ⟨_,.inr ⟨_,_,_,_,_,_,rfl,rfl,iG,by lia,by lia,by lia⟩⟩
               ·exact wpS_pure ⟨_,_,_,_,_,_,_,rfl,rfl,iG,by lia,by lia,by lia⟩
         ·rw[if_neg hk]
          have k0:k=0:=by lia
          refine wpS_bind (aX (aO b2) ?_)
          have uL:=MI.Rk C mi (by lia) b2 (C.jG _ _ (by have:=GD 0 (by lia) (by lia);exact this))
          by_cases e3:ib+1=y.size
          ·rw[if_pos (by simpa using e3)]
           exact wpS_pure ⟨_,.inl ⟨_,_,rfl,rfl,MI.Aq uL e3⟩⟩
          ·rw[if_neg (by simpa using e3)]
           refine wpS_bind (aX (aO (by lia)) ?_)
           refine wpS_bind (gq C (left:=true) (base:=ib+1) (n:=y.size-(ib+1)) (hint:=0) rfl (hox _ _ (aO (by lia))) Lk (by lia) (by lia) (fun i j hij hj hp=>?_) fun k2 Ro uM uN=>?_)
           ·have hp':lt (ga y (ib+1+j)) (ga x (ia))=true:=hp
            show lt (ga y (ib+1+i)) (ga x (ia))=true
            exact eV C (fj.ga C ry (by lia) (by lia)) hp'
           ·dsimp only
            have iW:∀ j,j<k2→lt (ga x (ia)) (ga y (ib+1+j))=false:=fun j hj=>C.jG _ _ (uM j hj)
            have gD:∀ j,k2≤j→j<y.size-(ib+1)→lt (ga y (ib+1+j)) (ga x (ia))=false:=fun j j1 j2=>uN j j1 j2
            by_cases hk2:k2 > 0
            ·rw[if_pos hk2]
             have Ax:=MI.U4 C uL (k:=k2) rx (by lia) iW
             by_cases e4:ib+1+k2=y.size
             ·rw[if_pos (by simpa using e4)]
              exact wpS_pure ⟨_,.inl ⟨_,_,rfl,rfl,MI.Aq Ax e4⟩⟩
             ·rw[if_neg (by simpa using e4)]
              refine wpS_bind (aX (aO (by lia)) ?_)
              have iG:=MI.Fv C Ax (by lia) (by lia) (gD k2 (Nat.le_refl _) (by lia))
              by_cases e5:ia+1+1=x.size
              ·rw[if_pos (by simpa using e5)]
               exact wpS_pure ⟨_,.inl ⟨_,_,rfl,rfl,MI.Av iG (by lia) yN⟩⟩
              ·rw[if_neg (by simpa using e5)]
               refine bZ (fun e6=>?_) fun e6=>?_
               ·exact wpS_pure ⟨_,.inr ⟨_,_,_,_,_,_,rfl,rfl,iG,by lia,by lia,by lia⟩⟩
               ·exact wpS_pure ⟨_,_,_,_,_,_,_,rfl,rfl,iG,by lia,by lia,by lia⟩
            ·rw[if_neg hk2]
             have k0:k2=0:=by lia
             refine wpS_bind (aX (aO (by lia)) ?_)
             have iG:=MI.Fv C uL (by lia) (by lia) (by have:=gD 0 (by lia) (by lia);exact this)
             by_cases e5:ia+1+1=x.size
             ·rw[if_pos (by simpa using e5)]
              exact wpS_pure ⟨_,.inl ⟨_,_,rfl,rfl,MI.Av iG (by lia) yN⟩⟩
             ·rw[if_neg (by simpa using e5)]
              refine bZ (fun e6=>?_) fun e6=>?_
              ·exact wpS_pure ⟨_,.inr ⟨_,_,_,_,_,_,rfl,rfl,iG,by lia,by lia,by lia⟩⟩
              ·exact wpS_pure ⟨_,_,_,_,_,_,_,rfl,rfl,iG,by lia,by lia,by lia⟩
       ·refine wpS_bind (wpS_modify ?_)
        refine wpS_bind (aX (aO b2) ?_)
        refine wpS_bind (gq C (left:=false) (base:=ia) (n:=x.size-ia) (hint:=0) rfl (Lk _ _ (aO b2)) hox (by lia) (by lia) (fun i j hij hj hp=>?_) fun k k1 KH Pa=>?_)
        ·have hp':lt (ga y ib) (ga x (ia+j))=false:=by simpa[before] using hp
         show (!lt (ga y ib) (ga x (ia+i)))=true
         rw[C.trans _ _ _ (fj.ga C rx (show ia+i≤ia+j by lia) (by lia)) hp']
         rfl
        ·dsimp only
         have Aw:∀ j,j<k→lt (ga y ib) (ga x (ia+j))=false:=fun j hj=>by simpa[before] using KH j hj
         have GD:∀ j,k≤j→j<x.size-ia→lt (ga y ib) (ga x (ia+j))=true:=fun j j1 j2=>by simpa[before] using Pa j j1 j2
         have kl:k<x.size-ia:=by
          by_cases c:k<x.size-ia
          ·exact c
          ·have h1:=Aw (x.size-ia-1) (by lia)
           have h2:=big _ (uK b2)
           rw[show ia+(x.size-ia-1)=x.size-1 by lia,h2] at h1
           cases h1
         by_cases hk:k > 0
         ·rw[if_pos hk]
          have wV:=MI.bkA C mi (k:=k) ry b2 Aw
          by_cases e1:ia+k+1=x.size
          ·rw[if_pos (by simpa using e1)]
           exact wpS_pure ⟨_,.inl ⟨_,_,rfl,rfl,MI.Av wV e1 yN⟩⟩
          ·rw[if_neg (by simpa using e1),if_neg (by simp;lia)]
           refine wpS_bind (aX (aO b2) ?_)
           have uL:=MI.Rk C wV (by lia) b2 (C.jG _ _ (GD k (Nat.le_refl _) kl))
           by_cases e3:ib+1=y.size
           ·rw[if_pos (by simpa using e3)]
            exact wpS_pure ⟨_,.inl ⟨_,_,rfl,rfl,MI.Aq uL e3⟩⟩
           ·rw[if_neg (by simpa using e3)]
            refine wpS_bind (aX (aO (by lia)) ?_)
            refine wpS_bind (gq C (left:=true) (base:=ib+1) (n:=y.size-(ib+1)) (hint:=0) rfl (hox _ _ (aO (by lia))) Lk (by lia) (by lia) (fun i j hij hj hp=>?_) fun k2 Ro uM uN=>?_)
            ·have hp':lt (ga y (ib+1+j)) (ga x (ia+k))=true:=hp
             show lt (ga y (ib+1+i)) (ga x (ia+k))=true
             exact eV C (fj.ga C ry (by lia) (by lia)) hp'
            ·dsimp only
             have iW:∀ j,j<k2→lt (ga x (ia+k)) (ga y (ib+1+j))=false:=fun j hj=>C.jG _ _ (uM j hj)
             have gD:∀ j,k2≤j→j<y.size-(ib+1)→lt (ga y (ib+1+j)) (ga x (ia+k))=false:=fun j j1 j2=>uN j j1 j2
             by_cases hk2:k2 > 0
             ·rw[if_pos hk2]
              have Ax:=MI.U4 C uL (k:=k2) rx (by lia) iW
              by_cases e4:ib+1+k2=y.size
              ·rw[if_pos (by simpa using e4)]
               exact wpS_pure ⟨_,.inl ⟨_,_,rfl,rfl,MI.Aq Ax e4⟩⟩
              ·rw[if_neg (by simpa using e4)]
               refine wpS_bind (aX (aO (by lia)) ?_)
               have iG:=MI.Fv C Ax (by lia) (by lia) (gD k2 (Nat.le_refl _) (by lia))
               by_cases e5:ia+k+1+1=x.size
               ·rw[if_pos (by simpa using e5)]
                exact wpS_pure ⟨_,.inl ⟨_,_,rfl,rfl,MI.Av iG (by lia) yN⟩⟩
               ·rw[if_neg (by simpa using e5)]
                refine bZ (fun e6=>?_) fun e6=>?_
                ·exact wpS_pure ⟨_,.inr ⟨_,_,_,_,_,_,rfl,rfl,iG,by lia,by lia,by lia⟩⟩
                ·exact wpS_pure ⟨_,_,_,_,_,_,_,rfl,rfl,iG,by lia,by lia,by lia⟩
             ·rw[if_neg hk2]
              have k0:k2=0:=by lia
              refine wpS_bind (aX (aO (by lia)) ?_)
              have iG:=MI.Fv C uL (by lia) (by lia) (by have:=gD 0 (by lia) (by lia);exact this)
              by_cases e5:ia+k+1+1=x.size
              ·rw[if_pos (by simpa using e5)]
               exact wpS_pure ⟨_,.inl ⟨_,_,rfl,rfl,MI.Av iG (by lia) yN⟩⟩
              ·rw[if_neg (by simpa using e5)]
               refine bZ (fun e6=>?_) fun e6=>?_
               ·exact wpS_pure ⟨_,.inr ⟨_,_,_,_,_,_,rfl,rfl,iG,by lia,by lia,by lia⟩⟩
               ·exact wpS_pure ⟨_,_,_,_,_,_,_,rfl,rfl,iG,by lia,by lia,by lia⟩
         ·rw[if_neg hk]
          have k0:k=0:=by lia
          refine wpS_bind (aX (aO b2) ?_)
          have uL:=MI.Rk C mi (by lia) b2 (C.jG _ _ (by have:=GD 0 (by lia) (by lia);exact this))
          by_cases e3:ib+1=y.size
          ·rw[if_pos (by simpa using e3)]
           exact wpS_pure ⟨_,.inl ⟨_,_,rfl,rfl,MI.Aq uL e3⟩⟩
          ·rw[if_neg (by simpa using e3)]
           refine wpS_bind (aX (aO (by lia)) ?_)
           refine wpS_bind (gq C (left:=true) (base:=ib+1) (n:=y.size-(ib+1)) (hint:=0) rfl (hox _ _ (aO (by lia))) Lk (by lia) (by lia) (fun i j hij hj hp=>?_) fun k2 Ro uM uN=>?_)
           ·have hp':lt (ga y (ib+1+j)) (ga x (ia))=true:=hp
            show lt (ga y (ib+1+i)) (ga x (ia))=true
            exact eV C (fj.ga C ry (by lia) (by lia)) hp'
           ·dsimp only
            have iW:∀ j,j<k2→lt (ga x (ia)) (ga y (ib+1+j))=false:=fun j hj=>C.jG _ _ (uM j hj)
            have gD:∀ j,k2≤j→j<y.size-(ib+1)→lt (ga y (ib+1+j)) (ga x (ia))=false:=fun j j1 j2=>uN j j1 j2
            by_cases hk2:k2 > 0
            ·rw[if_pos hk2]
             have Ax:=MI.U4 C uL (k:=k2) rx (by lia) iW
             by_cases e4:ib+1+k2=y.size
             ·rw[if_pos (by simpa using e4)]
              exact wpS_pure ⟨_,.inl ⟨_,_,rfl,rfl,MI.Aq Ax e4⟩⟩
             ·rw[if_neg (by simpa using e4)]
              refine wpS_bind (aX (aO (by lia)) ?_)
              have iG:=MI.Fv C Ax (by lia) (by lia) (gD k2 (Nat.le_refl _) (by lia))
              by_cases e5:ia+1+1=x.size
              ·rw[if_pos (by simpa using e5)]
               exact wpS_pure ⟨_,.inl ⟨_,_,rfl,rfl,MI.Av iG (by lia) yN⟩⟩
              ·rw[if_neg (by simpa using e5)]
               refine bZ (fun e6=>?_) fun e6=>?_
               ·exact wpS_pure ⟨_,.inr ⟨_,_,_,_,_,_,rfl,rfl,iG,by lia,by lia,by lia⟩⟩
               ·exact wpS_pure ⟨_,_,_,_,_,_,_,rfl,rfl,iG,by lia,by lia,by lia⟩
            ·rw[if_neg hk2]
             have k0:k2=0:=by lia
             refine wpS_bind (aX (aO (by lia)) ?_)
             have iG:=MI.Fv C uL (by lia) (by lia) (by have:=gD 0 (by lia) (by lia);exact this)
             by_cases e5:ia+1+1=x.size
             ·rw[if_pos (by simpa using e5)]
              exact wpS_pure ⟨_,.inl ⟨_,_,rfl,rfl,MI.Av iG (by lia) yN⟩⟩
             ·rw[if_neg (by simpa using e5)]
              refine bZ (fun e6=>?_) fun e6=>?_
              ·exact wpS_pure ⟨_,.inr ⟨_,_,_,_,_,_,rfl,rfl,iG,by lia,by lia,by lia⟩⟩
              ·exact wpS_pure ⟨_,_,_,_,_,_,_,rfl,rfl,iG,by lia,by lia,by lia⟩
      ·rintro c st ⟨g2,out,Rm,Rn,Pg,ac,bc,rfl,rfl,mi,b1,b2,b5⟩
       exact⟨_,.inr ⟨_,_,_,_,_,_,rfl,rfl,mi,b1,b2,b5⟩⟩
      ·rintro c st ⟨g2,⟨r,rest,rfl,rfl,gd⟩|⟨out,Rm,Rn,Pg,ac,bc,rfl,rfl,mi,b1,b2,b5⟩⟩
       ·dsimp only
        exact wpS_pure ⟨_,_,_,rfl,rfl,gd⟩
       ·dsimp only
        refine wpS_bind (wpS_modify (wpS_pure ⟨_,_,_,_,_,rfl,rfl,mi,b1,b2,by lia⟩))
   ·rintro c st ⟨g',out,ia,ib,mg,rfl,rfl,mi,b1,b2,b3⟩
    exfalso
    lia
   ·rintro c st ⟨g',r,rest,rfl,rfl,gd⟩
    dsimp only
    exact wpS_pure (q r g' gd)
end
def mHi:Array Keyed→Array Keyed→StateT SortSt Sem (Array Keyed):=sortPriv% PySem.Builtin.mergeHi
section
variable{M:Model}{A:Around}{E:Value→Shared→Prop}{s:Shared}{κ:SortKind}{lt:Keyed→Keyed→Bool}{ok:Keyed→Prop}{x y out:Array Keyed}{na nb:Nat}
structure MH (lt:Keyed→Keyed→Bool)(a b out:List Keyed)(na nb:Nat):Prop where
 sa:fj lt (a.take na++out.reverse)
 sb:fj lt (b.take nb++out.reverse)
 pm:out.Perm (a.drop na++b.drop nb)
theorem oY {a:List Keyed}{k n:Nat}(h:k≤n)(hn:n≤a.length):a.drop k=(a.take n).drop k++a.drop n:=by
 have e:(a.take n++a.drop n).drop k=(a.take n).drop k++a.drop n:=List.drop_append_of_le_length (by rw[List.length_take];lia)
 rw[List.take_append_drop] at e
 exact e
theorem lE {a:List Keyed}{k n:Nat}(h:k≤n):a.take n=a.take k++(a.take n).drop k:=by
 have e:=List.take_append_drop k (a.take n)
 rw[List.take_take,Nat.min_eq_left h] at e
 exact e.symm
theorem MH.Al {a b out:List Keyed}{na nb:Nat}(h:MH lt a b out na nb){k:Nat}(hk:k≤na)(hn:na≤a.length)(hle:∀ u∈(a.take na).drop k,∀ v∈b.take nb,lt u v=false):MH lt a b (out++((a.take na).drop k).reverse) k nb:=by
 have er:(out++((a.take na).drop k).reverse).reverse=(a.take na).drop k++out.reverse:=by rw[List.reverse_append,List.reverse_reverse]
 have e:a.take k++((a.take na).drop k++out.reverse)=a.take na++out.reverse:=by rw[←List.append_assoc,←lE hk]
 refine⟨by rw[er,e];exact h.sa,?_,?_⟩
 ·rw[er]
  have sa:=h.sa
  rw[←e] at sa
  refine List.pairwise_append.mpr ⟨(List.pairwise_append.mp h.sb).1,(List.pairwise_append.mp sa).2.1,fun v hv u hu=>?_⟩
  rcases List.mem_append.mp hu with hu|hu
  ·exact hle u hu v hv
  ·exact (List.pairwise_append.mp h.sb).2.2 v hv u hu
 ·rw[oY hk hn]
  refine (h.pm.append (List.reverse_perm _)).trans ?_
  refine List.perm_append_comm.trans ?_
  rw[←List.append_assoc]
theorem MH.Ao {a b out:List Keyed}{na nb:Nat}(h:MH lt a b out na nb){k:Nat}(hk:k≤nb)(hn:nb≤b.length)(hle:∀ u∈(b.take nb).drop k,∀ v∈a.take na,lt u v=false):MH lt a b (out++((b.take nb).drop k).reverse) na k:=by
 have er:(out++((b.take nb).drop k).reverse).reverse=(b.take nb).drop k++out.reverse:=by rw[List.reverse_append,List.reverse_reverse]
 have e:b.take k++((b.take nb).drop k++out.reverse)=b.take nb++out.reverse:=by rw[←List.append_assoc,←lE hk]
 refine⟨?_,by rw[er,e];exact h.sb,?_⟩
 ·rw[er]
  have sb:=h.sb
  rw[←e] at sb
  refine List.pairwise_append.mpr ⟨(List.pairwise_append.mp h.sa).1,(List.pairwise_append.mp sb).2.1,fun v hv u hu=>?_⟩
  rcases List.mem_append.mp hu with hu|hu
  ·exact hle u hu v hv
  ·exact (List.pairwise_append.mp h.sa).2.2 v hv u hu
 ·rw[oY hk hn]
  refine (h.pm.append (List.reverse_perm _)).trans ?_
  rw[List.append_assoc]
  exact List.perm_append_comm.append_left _
abbrev MB (lt:Keyed→Keyed→Bool)(x y out:Array Keyed)(na nb:Nat):Prop:=MH lt x.toList y.toList out.toList na nb
theorem jA {a:Array Keyed}{n k:Nat}{u:Keyed}(h:u∈(a.toList.take n).drop k):∃ j,k≤j∧j<n∧j<a.size∧u=ga a j:=by
 obtain⟨j,hj,e⟩:=List.mem_iff_getElem.mp h
 rw[List.length_drop,List.length_take,Array.length_toList] at hj
 refine⟨k+j,by lia,by lia,by lia,?_⟩
 rw[d8 (by rw[Array.length_toList];lia),←e,List.getElem_drop,List.getElem_take]
theorem qY {a:Array Keyed}{n:Nat}{u:Keyed}(h:u∈a.toList.take n):∃ j,j<n∧j<a.size∧u=ga a j:=by
 obtain⟨j,hj,e⟩:=List.mem_iff_getElem.mp h
 rw[List.length_take,Array.length_toList] at hj
 refine⟨j,by lia,by lia,?_⟩
 rw[d8 (by rw[Array.length_toList];lia),←e,List.getElem_take]
theorem GF (a:Array Keyed)(k n:Nat):(a.extract k n).toList=(a.toList.take n).drop k:=by rw[lF,List.drop_take]
theorem MH.bkA (C:qW M A E s κ lt ok)(h:MB lt x y out na nb){k:Nat}(hk:k≤na)(hn:na≤x.size)(ry:fj lt y.toList)(h1:1≤nb)(h2:nb≤y.size)(hle:∀ j,k≤j→j<na→lt (ga x j) (ga y (nb-1))=false):MB lt x y (out++(x.extract k na).reverse) k nb:=by
 have:=MH.Al h hk (by simpa using hn) fun u hu v hv=>by
  obtain⟨j,j1,j2,_,rfl⟩:=jA hu
  obtain⟨j',j3,j4,rfl⟩:=qY hv
  exact C.trans _ _ _ (fj.ga C ry (show j'≤nb-1 by lia) (by lia)) (hle j j1 j2)
 show MH lt _ _ (out++(x.extract k na).reverse).toList _ _
 rw[Array.toList_append,Array.toList_reverse,GF]
 exact this
theorem MH.U4 (C:qW M A E s κ lt ok)(h:MB lt x y out na nb){k:Nat}(hk:k≤nb)(hn:nb≤y.size)(rx:fj lt x.toList)(h1:1≤na)(h2:na≤x.size)(hle:∀ j,k≤j→j<nb→lt (ga y j) (ga x (na-1))=false):MB lt x y (out++(y.extract k nb).reverse) na k:=by
 have:=MH.Ao h hk (by simpa using hn) fun u hu v hv=>by
  obtain⟨j,j1,j2,_,rfl⟩:=jA hu
  obtain⟨j',j3,j4,rfl⟩:=qY hv
  exact C.trans _ _ _ (fj.ga C rx (show j'≤na-1 by lia) (by lia)) (hle j j1 j2)
 show MH lt _ _ (out++(y.extract k nb).reverse).toList _ _
 rw[Array.toList_append,Array.toList_reverse,GF]
 exact this
theorem M5 {a:Array Keyed}{n:Nat}(h1:1≤n)(h2:n≤a.size):(a.toList.take n).drop (n-1)=[ga a (n-1)]:=by
 rw[List.drop_take,show n-(n-1)=1 by lia,drop_one (by rw[Array.length_toList];lia),d8]
theorem MH.Fv (C:qW M A E s κ lt ok)(h:MB lt x y out na nb)(h1:1≤na)(hn:na≤x.size)(ry:fj lt y.toList)(h2:1≤nb)(h3:nb≤y.size)(hle:lt (ga x (na-1)) (ga y (nb-1))=false):MB lt x y (out.push (ga x (na-1))) (na-1) nb:=by
 have:=MH.Al h (k:=na-1) (by lia) (by simpa using hn) fun u hu v hv=>by
  obtain⟨j,j1,j2,_,rfl⟩:=jA hu
  obtain⟨j',j3,j4,rfl⟩:=qY hv
  have:j=na-1:=by lia
  subst this
  exact C.trans _ _ _ (fj.ga C ry (show j'≤nb-1 by lia) (by lia)) hle
 rw[M5 h1 hn] at this
 show MH lt _ _ (out.push (ga x (na-1))).toList _ _
 rw[Array.toList_push]
 exact this
theorem MH.Rk (C:qW M A E s κ lt ok)(h:MB lt x y out na nb)(h1:1≤nb)(hn:nb≤y.size)(rx:fj lt x.toList)(h2:1≤na)(h3:na≤x.size)(hle:lt (ga y (nb-1)) (ga x (na-1))=false):MB lt x y (out.push (ga y (nb-1))) na (nb-1):=by
 have:=MH.Ao h (k:=nb-1) (by lia) (by simpa using hn) fun u hu v hv=>by
  obtain⟨j,j1,j2,_,rfl⟩:=jA hu
  obtain⟨j',j3,j4,rfl⟩:=qY hv
  have:j=nb-1:=by lia
  subst this
  exact C.trans _ _ _ (fj.ga C rx (show j'≤na-1 by lia) (by lia)) hle
 rw[M5 h1 hn] at this
 show MH lt _ _ (out.push (ga y (nb-1))).toList _ _
 rw[Array.toList_push]
 exact this
theorem U6 (a:Array Keyed)(n:Nat):(a.extract 0 n).toList=a.toList.take n:=by rw[GF,List.drop_zero]
theorem MH.Aq (h:MB lt x y out na nb)(ha:na=0):mW lt x y (x.extract 0 na++y.extract 0 nb++out.reverse):=by
 subst ha
 have e:(x.extract 0 0++y.extract 0 nb++out.reverse).toList=y.toList.take nb++out.toList.reverse:=by
  rw[Array.toList_append,Array.toList_append,U6,U6,Array.toList_reverse,List.take_zero,List.nil_append]
 refine⟨by rw[e];exact h.sb,?_⟩
 rw[e]
 refine (((List.reverse_perm _).trans h.pm).append_left _).trans ?_
 rw[List.drop_zero]
 refine (List.perm_append_comm (l₁:=y.toList.take nb)).trans ?_
 rw[List.append_assoc]
 refine List.Perm.append_left _ ?_
 refine List.perm_append_comm.trans ?_
 rw[List.take_append_drop]
theorem MH.Av (C:qW M A E s κ lt ok)(h:MB lt x y out na nb)(hb:nb=1)(hy:0<y.size)(first:∀ u∈x.toList,lt u (ga y 0)=false):mW lt x y (y.extract 0 nb++x.extract 0 na++out.reverse):=by
 subst hb
 have e:(y.extract 0 1++x.extract 0 na++out.reverse).toList=y.toList.take 1++(x.toList.take na++out.toList.reverse):=by
  rw[Array.toList_append,Array.toList_append,U6,U6,Array.toList_reverse,List.append_assoc]
 refine⟨?_,?_⟩
 ·rw[e]
  refine List.pairwise_append.mpr ⟨(List.pairwise_append.mp h.sb).1,h.sa,fun u hu v hv=>?_⟩
  rcases List.mem_append.mp hv with hv|hv
  ·obtain⟨j,j1,_,rfl⟩:=qY hu
   have:j=0:=by lia
   subst this
   exact first v (List.mem_of_mem_take hv)
  ·exact (List.pairwise_append.mp h.sb).2.2 u hu v hv
 ·rw[e]
  refine ((((List.reverse_perm _).trans h.pm).append_left _).append_left _).trans ?_
  have e2:x.toList.take na++(x.toList.drop na++y.toList.drop 1)=x.toList++y.toList.drop 1:=by rw[←List.append_assoc,List.take_append_drop]
  rw[e2]
  refine List.perm_append_comm.trans ?_
  rw[List.append_assoc]
  refine List.Perm.append_left _ ?_
  refine List.perm_append_comm.trans ?_
  rw[List.take_append_drop]
theorem U7 (C:qW M A E s κ lt ok){arr:Array Keyed}{p:Array (Nat×Nat×Nat)}{g:Nat}{Q:Array Keyed→SortSt→Prop}(hox:fW ok x)(Lk:fW ok y)(hx:0<x.size)(hy:0<y.size)(rx:fj lt x.toList)(ry:fj lt y.toList)
  (first:∀ u∈x.toList,lt (ga y 0) u=true) (big:∀ v∈y.toList,lt (ga x (x.size-1)) v=false) (q:∀ r g',mW lt x y r→Q r (jO κ arr p g')):wpS M A E s (mHi x y) Q (jO κ arr p g):=by
 have nW:∀ u∈x.toList,lt u (ga y 0)=false:=fun u hu=>C.jG _ _ (first u hu)
 refine wpS_bind (wpS_lift (wpAny_rule ⟨rfl,?_⟩))
 dsimp only
 refine wpS_bind (aX (aO (show x.size-1<x.size by lia)) ?_)
 have Xu:MB lt x y #[ga x (x.size-1)] (x.size-1) y.size:=by
  have base:MB lt x y #[] x.size y.size:=by
   refine⟨?_,?_,?_⟩
   ·show fj lt (x.toList.take x.size++[])
    rw[List.append_nil,List.take_of_length_le (by simp)]
    exact rx
   ·show fj lt (y.toList.take y.size++[])
    rw[List.append_nil,List.take_of_length_le (by simp)]
    exact ry
   ·show ([]:List Keyed).Perm _
    rw[List.drop_eq_nil_of_le (by simp),List.drop_eq_nil_of_le (by simp)]
    exact List.Perm.refl _
  exact MH.Fv C base (by lia) (Nat.le_refl _) ry (by lia) (Nat.le_refl _) (big _ (uK (by lia)))
 by_cases h1:x.size-1=0
 ·rw[if_pos (by simpa using h1)]
  exact wpS_pure (q _ _ (MH.Aq Xu h1))
 ·rw[if_neg (by simpa using h1)]
  by_cases h2:y.size=1
  ·rw[if_pos (by simpa using h2)]
   exact wpS_pure (q _ _ (MH.Av C Xu h2 hy nW))
  ·rw[if_neg (by simpa using h2)]
   refine wpS_bind (wpS_get ?_)
   refine wpS_bind (wpS_mono (wpS_forRange (fun i c st=>∃ g' out na nb mg,st=jO κ arr p g'∧c=(none,na,nb,out,mg)∧MB lt x y out na nb∧1≤na∧na≤x.size∧2≤nb∧nb≤y.size∧i+1+na+nb≤x.size+y.size) (Q:=fun c st=>∃ g' r rest,st=jO κ arr p g'∧c=(some r,rest)∧mW lt x y r)
    ?_ ?_ ⟨g,_,_,_,_,rfl,rfl,Xu,by lia,by lia,by lia,Nat.le_refl _,by lia⟩) ?_)
   ·rintro i c st _ hi ⟨g',out,na,nb,mg,rfl,rfl,mi,b1,Jq,b2,Ln,b3⟩
    dsimp only
    refine wpS_bind (wpS_mono (wpS_forRange (fun j c st=>∃ out GJ GK ac bc,st=jO κ arr p g'∧c=(none,GJ,GK,out,ac,bc)∧MB lt x y out GJ GK∧1≤GJ∧GJ≤x.size∧2≤GK∧GK≤y.size∧j+GJ+GK≤na+nb)
     (Q:=fun c st=>(∃ r rest,st=jO κ arr p g'∧c=(some r,rest)∧mW lt x y r)∨∃ out GJ GK ac bc,st=jO κ arr p g'∧c=(none,GJ,GK,out,ac,bc)∧MB lt x y out GJ GK∧1≤GJ∧GJ≤x.size∧2≤GK∧GK≤y.size∧1+GJ+GK≤na+nb)
     ?_ ?_ ⟨_,_,_,_,_,rfl,rfl,mi,b1,Jq,b2,Ln,by lia⟩) ?_)
    ·rintro j c st _ hj ⟨out,GJ,GK,ac,bc,rfl,rfl,mi,b1,Jq,b2,Ln,b4⟩
     dsimp only
     refine wpS_bind (aX (aO (by lia)) (wpS_bind (aX (aO (by lia)) (wpS_bind (C.run _ _ _ _ rfl (Lk _ _ (aO (show GK-1<y.size by lia))) (hox _ _ (aO (show GJ-1<x.size by lia))) ?_)))))
     dsimp only
     cases hb:lt (ga y (GK-1)) (ga x (GJ-1)) with
     | true =>
      rw[if_pos rfl]
      refine wpS_bind (aX (aO (by lia)) ?_)
      have wV:=MH.Fv C mi (by lia) (by lia) ry (by lia) (by lia) (C.jG _ _ hb)
      by_cases hl:GJ-1=0
      ·rw[if_pos (by simpa using hl)]
       exact wpS_pure (.inl ⟨_,_,rfl,rfl,MH.Aq wV hl⟩)
      ·rw[if_neg (by simpa using hl)]
       refine bZ (fun e6=>?_) fun e6=>?_
       ·exact wpS_pure (.inr ⟨_,_,_,_,_,rfl,rfl,wV,by lia,by lia,by lia,by lia,by lia⟩)
       ·exact wpS_pure ⟨_,_,_,_,_,rfl,rfl,wV,by lia,by lia,by lia,by lia,by lia⟩
     | false =>
      rw[if_neg Bool.false_ne_true]
      refine wpS_bind (aX (aO (by lia)) ?_)
      have wV:=MH.Rk C mi (by lia) (by lia) rx (by lia) (by lia) hb
      by_cases hl:GK-1=1
      ·rw[if_pos (by simpa using hl)]
       exact wpS_pure (.inl ⟨_,_,rfl,rfl,MH.Av C wV hl hy nW⟩)
      ·rw[if_neg (by simpa using hl)]
       refine bZ (fun e6=>?_) fun e6=>?_
       ·exact wpS_pure (.inr ⟨_,_,_,_,_,rfl,rfl,wV,by lia,by lia,by lia,by lia,by lia⟩)
       ·exact wpS_pure ⟨_,_,_,_,_,rfl,rfl,wV,by lia,by lia,by lia,by lia,by lia⟩
    ·rintro c st ⟨out,GJ,GK,ac,bc,rfl,rfl,mi,b1,Jq,b2,Ln,b4⟩
     exact .inr ⟨_,_,_,_,_,rfl,rfl,mi,b1,Jq,b2,Ln,by lia⟩
    ·rintro c st (⟨r,rest,rfl,rfl,gd⟩|⟨out,GJ,GK,ac,bc,rfl,rfl,mi,b1,Jq,b2,Ln,b4⟩)
     ·dsimp only
      exact wpS_pure ⟨_,_,_,rfl,rfl,gd⟩
     ·dsimp only
      refine wpS_bind (wpS_lift (wpAny_rule ⟨rfl,?_⟩))
      refine wpS_bind (wpS_mono (wpS_forRange (fun j c st=>∃ g2 out Ph Pj Pg ac bc,st=jO κ arr p g2∧c=(none,Ph,Pj,out,Pg,ac,bc)∧MB lt x y out Ph Pj∧1≤Ph∧Ph≤x.size∧2≤Pj∧Pj≤y.size∧Ph+Pj≤GJ+GK)
       (Q:=fun c st=>∃ g2,(∃ r rest,st=jO κ arr p g2∧c=(some r,rest)∧mW lt x y r)∨∃ out Ph Pj Pg ac bc,st=jO κ arr p g2∧c=(none,Ph,Pj,out,Pg,ac,bc)∧MB lt x y out Ph Pj∧1≤Ph∧Ph≤x.size∧2≤Pj∧Pj≤y.size∧Ph+Pj≤GJ+GK)
       ?_ ?_ ⟨_,_,_,_,_,_,_,rfl,rfl,mi,b1,Jq,b2,Ln,Nat.le_refl _⟩) ?_)
      ·clear mi b1 Jq b2 Ln b3 b4
       rintro j c st _ hj ⟨g2,out,na,nb,Pg,ac,bc,rfl,rfl,mi,b1,Jq,b2,Ln,b5⟩
       dsimp only
       refine bZ (fun e7=>?_) fun e7=>?_
       ·refine wpS_bind (wpS_modify ?_)
        refine wpS_bind (aX (aO (by lia)) ?_)
        refine wpS_bind (gq C (left:=false) (base:=0) (n:=na) (hint:=na-1) rfl (Lk _ _ (aO (by lia))) hox (by lia) (by lia) (fun i j hij hj hp=>?_) fun k k1 KH Pa=>?_)
        ·have hp':lt (ga y (nb-1)) (ga x (0+j))=false:=by simpa[before] using hp
         show (!lt (ga y (nb-1)) (ga x (0+i)))=true
         rw[C.trans _ _ _ (fj.ga C rx (show 0+i≤0+j by lia) (by lia)) hp']
         rfl
        ·dsimp only
         have Aw:∀ j,j<k→lt (ga y (nb-1)) (ga x j)=false:=fun j hj=>by simpa[before] using KH j hj
         have GD:∀ j,k≤j→j<na→lt (ga x j) (ga y (nb-1))=false:=fun j j1 j2=>C.jG _ _ (by simpa[before] using Pa j j1 j2)
         by_cases hk:na-k > 0
         ·rw[if_pos hk]
          have wV:=MH.bkA C mi (k:=k) k1 (by lia) ry (by lia) (by lia) GD
          by_cases e1:k=0
          ·rw[if_pos (by simpa using e1)]
           exact wpS_pure ⟨_,.inl ⟨_,_,rfl,rfl,MH.Aq wV e1⟩⟩
          ·rw[if_neg (by simpa using e1)]
           refine wpS_bind (aX (aO (by lia)) ?_)
           have uL:=MH.Rk C wV (by lia) (by lia) rx (by lia) (by lia) (Aw (k-1) (by lia))
           by_cases e3:nb-1=1
           ·rw[if_pos (by simpa using e3)]
            exact wpS_pure ⟨_,.inl ⟨_,_,rfl,rfl,MH.Av C uL e3 hy nW⟩⟩
           ·rw[if_neg (by simpa using e3)]
            refine wpS_bind (aX (aO (by lia)) ?_)
            refine wpS_bind (gq C (left:=true) (base:=0) (n:=nb-1) (hint:=nb-1-1) rfl (hox _ _ (aO (by lia))) Lk (by lia) (by lia) (fun i j hij hj hp=>?_) fun k2 Ro uM uN=>?_)
            ·have hp':lt (ga y (0+j)) (ga x (k-1))=true:=hp
             show lt (ga y (0+i)) (ga x (k-1))=true
             exact eV C (fj.ga C ry (by lia) (by lia)) hp'
            ·dsimp only
             have iW:∀ j,j<k2→lt (ga x (k-1)) (ga y j)=false:=fun j hj=>by
              have:=C.jG _ _ (uM j hj)
              rwa [Nat.zero_add] at this
             have gD:∀ j,k2≤j→j<nb-1→lt (ga y j) (ga x (k-1))=false:=fun j j1 j2=>by
              have:=uN j j1 j2
              rw[Nat.zero_add] at this
              exact this
             have kp:1≤k2:=by
              by_cases c:1≤k2
              ·exact c
              ·have h1:=gD 0 (by lia) (by lia)
               have h2:=first _ (uK (a:=x) (i:=k-1) (by lia))
               rw[h2] at h1
               cases h1
             by_cases hk2:nb-1-k2 > 0
             ·rw[if_pos hk2]
              have Ax:=MH.U4 C uL (k:=k2) Ro (by lia) rx (by lia) (by lia) gD
              by_cases e4:k2=1
              ·rw[if_pos (by simpa using e4)]
               exact wpS_pure ⟨_,.inl ⟨_,_,rfl,rfl,MH.Av C Ax e4 hy nW⟩⟩
              ·rw[if_neg (by simpa using e4),if_neg (by simp;lia)]
               refine wpS_bind (aX (aO (by lia)) ?_)
               have iG:=MH.Fv C Ax (by lia) (by lia) ry (by lia) (by lia) (iW (k2-1) (by lia))
               by_cases e5:k-1=0
               ·rw[if_pos (by simpa using e5)]
                exact wpS_pure ⟨_,.inl ⟨_,_,rfl,rfl,MH.Aq iG e5⟩⟩
               ·rw[if_neg (by simpa using e5)]
                refine bZ (fun e6=>?_) fun e6=>?_
                ·exact wpS_pure ⟨_,.inr ⟨_,_,_,_,_,_,rfl,rfl,iG,by lia,by lia,by lia,by lia,by lia⟩⟩
                ·exact wpS_pure ⟨_,_,_,_,_,_,_,rfl,rfl,iG,by lia,by lia,by lia,by lia,by lia⟩
             ·rw[if_neg hk2]
              have k0:k2=nb-1:=by lia
              refine wpS_bind (aX (aO (by lia)) ?_)
              have iG:=MH.Fv C uL (by lia) (by lia) ry (by lia) (by lia) (iW (nb-1-1) (by lia))
              by_cases e5:k-1=0
              ·rw[if_pos (by simpa using e5)]
               exact wpS_pure ⟨_,.inl ⟨_,_,rfl,rfl,MH.Aq iG e5⟩⟩
              ·rw[if_neg (by simpa using e5)]
               refine bZ (fun e6=>?_) fun e6=>?_
               ·exact wpS_pure ⟨_,.inr ⟨_,_,_,_,_,_,rfl,rfl,iG,by lia,by lia,by lia,by lia,by lia⟩⟩
               ·exact wpS_pure ⟨_,_,_,_,_,_,_,rfl,rfl,iG,by lia,by lia,by lia,by lia,by lia⟩
         ·rw[if_neg hk]
          have k0:k=na:=by lia
          refine wpS_bind (aX (aO (by lia)) ?_)
          have uL:=MH.Rk C mi (by lia) (by lia) rx (by lia) (by lia) (Aw (na-1) (by lia))
          by_cases e3:nb-1=1
          ·rw[if_pos (by simpa using e3)]
           exact wpS_pure ⟨_,.inl ⟨_,_,rfl,rfl,MH.Av C uL e3 hy nW⟩⟩
          ·rw[if_neg (by simpa using e3)]
           refine wpS_bind (aX (aO (by lia)) ?_)
           refine wpS_bind (gq C (left:=true) (base:=0) (n:=nb-1) (hint:=nb-1-1) rfl (hox _ _ (aO (by lia))) Lk (by lia) (by lia) (fun i j hij hj hp=>?_) fun k2 Ro uM uN=>?_)
           ·have hp':lt (ga y (0+j)) (ga x (na-1))=true:=hp
            show lt (ga y (0+i)) (ga x (na-1))=true
            exact eV C (fj.ga C ry (by lia) (by lia)) hp'
           ·dsimp only
            have iW:∀ j,j<k2→lt (ga x (na-1)) (ga y j)=false:=fun j hj=>by
             have:=C.jG _ _ (uM j hj)
             rwa [Nat.zero_add] at this
            have gD:∀ j,k2≤j→j<nb-1→lt (ga y j) (ga x (na-1))=false:=fun j j1 j2=>by
             have:=uN j j1 j2
             rw[Nat.zero_add] at this
             exact this
            have kp:1≤k2:=by
             by_cases c:1≤k2
             ·exact c
             ·have h1:=gD 0 (by lia) (by lia)
              have h2:=first _ (uK (a:=x) (i:=na-1) (by lia))
              rw[h2] at h1
              cases h1
            by_cases hk2:nb-1-k2 > 0
            ·rw[if_pos hk2]
             have Ax:=MH.U4 C uL (k:=k2) Ro (by lia) rx (by lia) (by lia) gD
             by_cases e4:k2=1
             ·rw[if_pos (by simpa using e4)]
              exact wpS_pure ⟨_,.inl ⟨_,_,rfl,rfl,MH.Av C Ax e4 hy nW⟩⟩
             ·rw[if_neg (by simpa using e4),if_neg (by simp;lia)]
              refine wpS_bind (aX (aO (by lia)) ?_)
              have iG:=MH.Fv C Ax (by lia) (by lia) ry (by lia) (by lia) (iW (k2-1) (by lia))
              by_cases e5:na-1=0
              ·rw[if_pos (by simpa using e5)]
               exact wpS_pure ⟨_,.inl ⟨_,_,rfl,rfl,MH.Aq iG e5⟩⟩
              ·rw[if_neg (by simpa using e5)]
               refine bZ (fun e6=>?_) fun e6=>?_
               ·exact wpS_pure ⟨_,.inr ⟨_,_,_,_,_,_,rfl,rfl,iG,by lia,by lia,by lia,by lia,by lia⟩⟩
               ·exact wpS_pure ⟨_,_,_,_,_,_,_,rfl,rfl,iG,by lia,by lia,by lia,by lia,by lia⟩
            ·rw[if_neg hk2]
             have k0:k2=nb-1:=by lia
             refine wpS_bind (aX (aO (by lia)) ?_)
             have iG:=MH.Fv C uL (by lia) (by lia) ry (by lia) (by lia) (iW (nb-1-1) (by lia))
             by_cases e5:na-1=0
             ·rw[if_pos (by simpa using e5)]
              exact wpS_pure ⟨_,.inl ⟨_,_,rfl,rfl,MH.Aq iG e5⟩⟩
             ·rw[if_neg (by simpa using e5)]
              refine bZ (fun e6=>?_) fun e6=>?_
              ·exact wpS_pure ⟨_,.inr ⟨_,_,_,_,_,_,rfl,rfl,iG,by lia,by lia,by lia,by lia,by lia⟩⟩
              ·exact wpS_pure ⟨_,_,_,_,_,_,_,rfl,rfl,iG,by lia,by lia,by lia,by lia,by lia⟩
       ·refine wpS_bind (wpS_modify ?_)
        refine wpS_bind (aX (aO (by lia)) ?_)
        refine wpS_bind (gq C (left:=false) (base:=0) (n:=na) (hint:=na-1) rfl (Lk _ _ (aO (by lia))) hox (by lia) (by lia) (fun i j hij hj hp=>?_) fun k k1 KH Pa=>?_)
        ·have hp':lt (ga y (nb-1)) (ga x (0+j))=false:=by simpa[before] using hp
         show (!lt (ga y (nb-1)) (ga x (0+i)))=true
         rw[C.trans _ _ _ (fj.ga C rx (show 0+i≤0+j by lia) (by lia)) hp']
         rfl
        ·dsimp only
         have Aw:∀ j,j<k→lt (ga y (nb-1)) (ga x j)=false:=fun j hj=>by simpa[before] using KH j hj
         have GD:∀ j,k≤j→j<na→lt (ga x j) (ga y (nb-1))=false:=fun j j1 j2=>C.jG _ _ (by simpa[before] using Pa j j1 j2)
         by_cases hk:na-k > 0
         ·rw[if_pos hk]
          have wV:=MH.bkA C mi (k:=k) k1 (by lia) ry (by lia) (by lia) GD
          by_cases e1:k=0
          ·rw[if_pos (by simpa using e1)]
           exact wpS_pure ⟨_,.inl ⟨_,_,rfl,rfl,MH.Aq wV e1⟩⟩
          ·rw[if_neg (by simpa using e1)]
           refine wpS_bind (aX (aO (by lia)) ?_)
           have uL:=MH.Rk C wV (by lia) (by lia) rx (by lia) (by lia) (Aw (k-1) (by lia))
           by_cases e3:nb-1=1
           ·rw[if_pos (by simpa using e3)]
            exact wpS_pure ⟨_,.inl ⟨_,_,rfl,rfl,MH.Av C uL e3 hy nW⟩⟩
           ·rw[if_neg (by simpa using e3)]
            refine wpS_bind (aX (aO (by lia)) ?_)
            refine wpS_bind (gq C (left:=true) (base:=0) (n:=nb-1) (hint:=nb-1-1) rfl (hox _ _ (aO (by lia))) Lk (by lia) (by lia) (fun i j hij hj hp=>?_) fun k2 Ro uM uN=>?_)
            ·have hp':lt (ga y (0+j)) (ga x (k-1))=true:=hp
             show lt (ga y (0+i)) (ga x (k-1))=true
             exact eV C (fj.ga C ry (by lia) (by lia)) hp'
            ·dsimp only
             have iW:∀ j,j<k2→lt (ga x (k-1)) (ga y j)=false:=fun j hj=>by
              have:=C.jG _ _ (uM j hj)
              rwa [Nat.zero_add] at this
             have gD:∀ j,k2≤j→j<nb-1→lt (ga y j) (ga x (k-1))=false:=fun j j1 j2=>by
              have:=uN j j1 j2
              rw[Nat.zero_add] at this
              exact this
             have kp:1≤k2:=by
              by_cases c:1≤k2
              ·exact c
              ·have h1:=gD 0 (by lia) (by lia)
               have h2:=first _ (uK (a:=x) (i:=k-1) (by lia))
               rw[h2] at h1
               cases h1
             by_cases hk2:nb-1-k2 > 0
             ·rw[if_pos hk2]
              have Ax:=MH.U4 C uL (k:=k2) Ro (by lia) rx (by lia) (by lia) gD
              by_cases e4:k2=1
              ·rw[if_pos (by simpa using e4)]
               exact wpS_pure ⟨_,.inl ⟨_,_,rfl,rfl,MH.Av C Ax e4 hy nW⟩⟩
              ·rw[if_neg (by simpa using e4),if_neg (by simp;lia)]
               refine wpS_bind (aX (aO (by lia)) ?_)
               have iG:=MH.Fv C Ax (by lia) (by lia) ry (by lia) (by lia) (iW (k2-1) (by lia))
               by_cases e5:k-1=0
               ·rw[if_pos (by simpa using e5)]
                exact wpS_pure ⟨_,.inl ⟨_,_,rfl,rfl,MH.Aq iG e5⟩⟩
               ·rw[if_neg (by simpa using e5)]
                refine bZ (fun e6=>?_) fun e6=>?_
                ·exact wpS_pure ⟨_,.inr ⟨_,_,_,_,_,_,rfl,rfl,iG,by lia,by lia,by lia,by lia,by lia⟩⟩
                ·exact wpS_pure ⟨_,_,_,_,_,_,_,rfl,rfl,iG,by lia,by lia,by lia,by lia,by lia⟩
             ·rw[if_neg hk2]
              have k0:k2=nb-1:=by lia
              refine wpS_bind (aX (aO (by lia)) ?_)
              have iG:=MH.Fv C uL (by lia) (by lia) ry (by lia) (by lia) (iW (nb-1-1) (by lia))
              by_cases e5:k-1=0
              ·rw[if_pos (by simpa using e5)]
               exact wpS_pure ⟨_,.inl ⟨_,_,rfl,rfl,MH.Aq iG e5⟩⟩
              ·rw[if_neg (by simpa using e5)]
               refine bZ (fun e6=>?_) fun e6=>?_
               ·exact wpS_pure ⟨_,.inr ⟨_,_,_,_,_,_,rfl,rfl,iG,by lia,by lia,by lia,by lia,by lia⟩⟩
               ·exact wpS_pure ⟨_,_,_,_,_,_,_,rfl,rfl,iG,by lia,by lia,by lia,by lia,by lia⟩
         ·rw[if_neg hk]
          have k0:k=na:=by lia
          refine wpS_bind (aX (aO (by lia)) ?_)
          have uL:=MH.Rk C mi (by lia) (by lia) rx (by lia) (by lia) (Aw (na-1) (by lia))
          by_cases e3:nb-1=1
          ·rw[if_pos (by simpa using e3)]
           exact wpS_pure ⟨_,.inl ⟨_,_,rfl,rfl,MH.Av C uL e3 hy nW⟩⟩
          ·rw[if_neg (by simpa using e3)]
           refine wpS_bind (aX (aO (by lia)) ?_)
           refine wpS_bind (gq C (left:=true) (base:=0) (n:=nb-1) (hint:=nb-1-1) rfl (hox _ _ (aO (by lia))) Lk (by lia) (by lia) (fun i j hij hj hp=>?_) fun k2 Ro uM uN=>?_)
           ·have hp':lt (ga y (0+j)) (ga x (na-1))=true:=hp
            show lt (ga y (0+i)) (ga x (na-1))=true
            exact eV C (fj.ga C ry (by lia) (by lia)) hp'
           ·dsimp only
            have iW:∀ j,j<k2→lt (ga x (na-1)) (ga y j)=false:=fun j hj=>by
             have:=C.jG _ _ (uM j hj)
             rwa [Nat.zero_add] at this
            have gD:∀ j,k2≤j→j<nb-1→lt (ga y j) (ga x (na-1))=false:=fun j j1 j2=>by
             have:=uN j j1 j2
             rw[Nat.zero_add] at this
             exact this
            have kp:1≤k2:=by
             by_cases c:1≤k2
             ·exact c
             ·have h1:=gD 0 (by lia) (by lia)
              have h2:=first _ (uK (a:=x) (i:=na-1) (by lia))
              rw[h2] at h1
              cases h1
            by_cases hk2:nb-1-k2 > 0
            ·rw[if_pos hk2]
             have Ax:=MH.U4 C uL (k:=k2) Ro (by lia) rx (by lia) (by lia) gD
             by_cases e4:k2=1
             ·rw[if_pos (by simpa using e4)]
              exact wpS_pure ⟨_,.inl ⟨_,_,rfl,rfl,MH.Av C Ax e4 hy nW⟩⟩
             ·rw[if_neg (by simpa using e4),if_neg (by simp;lia)]
              refine wpS_bind (aX (aO (by lia)) ?_)
              have iG:=MH.Fv C Ax (by lia) (by lia) ry (by lia) (by lia) (iW (k2-1) (by lia))
              by_cases e5:na-1=0
              ·rw[if_pos (by simpa using e5)]
               exact wpS_pure ⟨_,.inl ⟨_,_,rfl,rfl,MH.Aq iG e5⟩⟩
              ·rw[if_neg (by simpa using e5)]
               refine bZ (fun e6=>?_) fun e6=>?_
               ·exact wpS_pure ⟨_,.inr ⟨_,_,_,_,_,_,rfl,rfl,iG,by lia,by lia,by lia,by lia,by lia⟩⟩
               ·exact wpS_pure ⟨_,_,_,_,_,_,_,rfl,rfl,iG,by lia,by lia,by lia,by lia,by lia⟩
            ·rw[if_neg hk2]
             have k0:k2=nb-1:=by lia
             refine wpS_bind (aX (aO (by lia)) ?_)
             have iG:=MH.Fv C uL (by lia) (by lia) ry (by lia) (by lia) (iW (nb-1-1) (by lia))
             by_cases e5:na-1=0
             ·rw[if_pos (by simpa using e5)]
              exact wpS_pure ⟨_,.inl ⟨_,_,rfl,rfl,MH.Aq iG e5⟩⟩
             ·rw[if_neg (by simpa using e5)]
              refine bZ (fun e6=>?_) fun e6=>?_
              ·exact wpS_pure ⟨_,.inr ⟨_,_,_,_,_,_,rfl,rfl,iG,by lia,by lia,by lia,by lia,by lia⟩⟩
              ·exact wpS_pure ⟨_,_,_,_,_,_,_,rfl,rfl,iG,by lia,by lia,by lia,by lia,by lia⟩
      ·rintro c st ⟨g2,out,Ph,Pj,Pg,ac,bc,rfl,rfl,mi,b1,Jq,b2,Ln,b5⟩
       exact⟨_,.inr ⟨_,_,_,_,_,_,rfl,rfl,mi,b1,Jq,b2,Ln,b5⟩⟩
      ·rintro c st ⟨g2,⟨r,rest,rfl,rfl,gd⟩|⟨out,Ph,Pj,Pg,ac,bc,rfl,rfl,mi,b1,Jq,b2,Ln,b5⟩⟩
       ·dsimp only
        exact wpS_pure ⟨_,_,_,rfl,rfl,gd⟩
       ·dsimp only
        refine wpS_bind (wpS_modify (wpS_pure ⟨_,_,_,_,_,rfl,rfl,mi,b1,Jq,b2,Ln,by lia⟩))
   ·rintro c st ⟨g',out,na,nb,mg,rfl,rfl,mi,b1,Jq,b2,Ln,b3⟩
    exfalso
    lia
   ·rintro c st ⟨g',r,rest,rfl,rfl,gd⟩
    dsimp only
    exact wpS_pure (q r g' gd)
end
def wr (a:Array Keyed)(s:Nat)(m:List Keyed)(k:Nat):Array Keyed:=(m.zipIdx k).foldl (fun a (q:Keyed×Nat)=>a.setIfInBounds (s+q.2) q.1) a
theorem Lp (s:Nat):∀ (m:List Keyed) (k:Nat) (a:Array Keyed) (i:Nat),s+k+m.length≤a.size→(wr a s m k)[i]?=if s+k≤i∧i<s+k+m.length then m[i-(s+k)]? else a[i]?
 | [],k,a,i,_=>by
  rw[if_neg (by simp)]
  rfl
 | x::m,k,a,i,h=>by
  have e:wr a s (x::m) k=wr (a.setIfInBounds (s+k) x) s m (k+1):=by
   unfold wr
   rw[List.zipIdx_cons,List.foldl_cons]
  rw[List.length_cons] at h
  rw[e,Lp s m (k+1) _ i (by rw[Array.size_setIfInBounds];lia)]
  by_cases c:i=s+k
  ·subst c
   rw[if_neg (by lia),if_pos ⟨Nat.le_refl _,by rw[List.length_cons];lia⟩,Nat.sub_self,Array.getElem?_setIfInBounds,if_pos rfl,if_pos (by lia)]
   rfl
  ·by_cases c2:s+k≤i∧i<s+k+(m.length+1)
   ·rw[if_pos (by lia),if_pos (by rw[List.length_cons];exact c2)]
    obtain⟨d,hd⟩:∃ d,i-(s+k)=d+1:=⟨i-(s+k)-1,by lia⟩
    rw[hd,List.getElem?_cons_succ]
    congr 1
    lia
   ·rw[if_neg (by lia),if_neg (by rw[List.length_cons];exact c2),Array.getElem?_setIfInBounds,if_neg (by lia)]
section
variable{M:Model}{A:Around}{E:Value→Shared→Prop}{s:Shared}{κ:SortKind}{lt:Keyed→Keyed→Bool}{ok:Keyed→Prop}
theorem U8 {a:Array Keyed}{s:Nat}{m:Array Keyed}(h:s+m.size≤a.size):(wr a s m.toList 0).toList=a.toList.take s++m.toList++a.toList.drop (s+m.size):=by
 apply List.ext_getElem?
 intro i
 have hl:m.toList.length=m.size:=Array.length_toList
 rw[Array.getElem?_toList,Lp s m.toList 0 a i (by rw[hl];lia),Nat.add_zero,hl]
 by_cases c1:i<s
 ·rw[if_neg (by lia),List.append_assoc,List.getElem?_append_left (by rw[List.length_take,Array.length_toList];lia),List.getElem?_take,if_pos c1,Array.getElem?_toList]
 ·by_cases c2:i<s+m.size
  ·rw[if_pos ⟨by lia,c2⟩,List.append_assoc,List.getElem?_append_right (by rw[List.length_take,Array.length_toList];lia),List.length_take,Array.length_toList,Nat.min_eq_left (by lia),List.getElem?_append_left (by rw[hl];lia)]
  ·rw[if_neg (by lia),List.getElem?_append_right (by rw[List.length_append,List.length_take,Array.length_toList,hl];lia),List.length_append,List.length_take,Array.length_toList,hl,Nat.min_eq_left (by lia),List.getElem?_drop,Array.getElem?_toList]
   congr 1
   lia
theorem U9 {a:Array Keyed}{s:Nat}{m:Array Keyed}(h:s+m.size≤a.size)(hp:m.toList.Perm ((a.toList.drop s).take m.size)):(wr a s m.toList 0).Perm a:=by
 refine Array.perm_iff_toList_perm.mpr ?_
 rw[U8 h]
 have e:a.toList=a.toList.take s++(a.toList.drop s).take m.size++a.toList.drop (s+m.size):=by
  rw[List.append_assoc,←List.drop_drop,List.take_append_drop,List.take_append_drop]
 conv=>rhs;rw[e]
 exact (hp.append_left _).append_right _
theorem qw {a:Array Keyed}{lo hi:Nat}(h:Up lt a lo hi)(hz:hi≤a.size){i j:Nat}(h1:lo≤i)(h2:i≤j)(h3:j<hi):lt (ga a j) (ga a i)=false:=h i j _ _ h1 h2 h3 (aO (by lia)) (aO (by lia))
theorem GP {a:Array Keyed}{i j k:Nat}(hj:j≤a.size)(hk:k<j-i):ga (a.extract i j) k=ga a (i+k):=by
 unfold ga
 rw[Array.getElem?_extract,if_pos (by lia)]
theorem vM {a:Array Keyed}{lo hi:Nat}(h:Up lt a lo hi)(hz:hi≤a.size){i j:Nat}(h1:lo≤i)(h2:j≤hi):fj lt (a.extract i j).toList:=by
 refine List.pairwise_iff_getElem.mpr fun k l hk hl hkl=>?_
 have sz:(a.extract i j).size=min j a.size-i:=by simp
 have e1:(a.extract i j).toList[k]=ga a (i+k):=by
  rw[←d8,GP (by lia)]
  rw[Array.length_toList,sz] at hk
  lia
 have e2:(a.extract i j).toList[l]=ga a (i+l):=by
  rw[←d8,GP (by lia)]
  rw[Array.length_toList,sz] at hl
  lia
 rw[e1,e2]
 rw[Array.length_toList,sz] at hl
 exact qw h hz (by lia) (by lia) (by lia)
theorem zH {a:Array Keyed}{i j:Nat}{u:Keyed}(hj:j≤a.size)(h:u∈(a.extract i j).toList):∃ k,i≤k∧k<j∧u=ga a k:=by
 rw[lF] at h
 obtain⟨k,k1,k2,rfl⟩:=nU h
 exact⟨i+k,by lia,by lia,rfl⟩
theorem fW.ext {a:Array Keyed}(h:fW ok a)(i j:Nat):fW ok (a.extract i j):=fun k x e=>by
 rw[Array.getElem?_extract] at e
 split at e
 ·exact h _ x e
 ·cases e
theorem Pk (C:qW M A E s κ lt ok){a r:Array Keyed}{sa sm sb sn se:Nat}(h1:sa≤sm)(h2:sm<sb)(h3:sb<sn)(h4:sn≤se)(hz:se≤a.size)(ua:Up lt a sa sb)(ub:Up lt a sb se)
  (lo:∀ i,sa≤i→i<sm→lt (ga a sb) (ga a i)=false) (hi:∀ j,sn≤j→j<se→lt (ga a j) (ga a (sb-1))=false) (hr:mW lt (a.extract sm sb) (a.extract sb sn) r) :
  Within a (wr a sm r.toList 0) sa se∧Up lt (wr a sm r.toList 0) sa se:=by
 obtain⟨rise,perm⟩:=hr
 have rs:r.size=sn-sm:=by
  have e:=perm.length_eq
  rw[List.length_append,Array.length_toList,Array.length_toList,Array.length_toList,Array.size_extract,Array.size_extract,Nat.min_eq_left (by lia),Nat.min_eq_left (by lia)] at e
  lia
 have hin:sm+r.size≤a.size:=by lia
 have get:∀ i,(wr a sm r.toList 0)[i]?=if sm≤i∧i<sn then r[i-sm]? else a[i]?:=fun i=>by
  rw[Lp sm r.toList 0 a i (by rw[Array.length_toList];lia),Nat.add_zero,Array.length_toList,show sm+r.size=sn by lia]
  rw[Array.getElem?_toList]
 have mid:∀ i x,sm≤i→i<sn→(wr a sm r.toList 0)[i]?=some x→∃ k,sm≤k∧k<sn∧x=ga a k:=fun i x b1 b2 e=>by
  rw[get,if_pos ⟨b1,b2⟩] at e
  have m:x∈r.toList:=by
   rw[←Array.getElem?_toList] at e
   exact List.mem_of_getElem? e
  rcases List.mem_append.mp (perm.mem_iff.mp m) with m|m
  ·obtain⟨k,k1,k2,rfl⟩:=zH (by lia) m
   exact⟨k,k1,by lia,rfl⟩
  ·obtain⟨k,k1,k2,rfl⟩:=zH (by lia) m
   exact⟨k,by lia,k2,rfl⟩
 refine⟨⟨U9 hin ?_,fun k hk=>by rw[get,if_neg (by lia)]⟩,?_⟩
 ·refine perm.trans ?_
  rw[lF,lF,rs]
  have e:(a.toList.drop sm).take (sn-sm)=(a.toList.drop sm).take (sb-sm)++(a.toList.drop sb).take (sn-sb):=by
   rw[show sn-sm=(sb-sm)+(sn-sb) by lia,List.take_add,List.drop_drop,show sm+(sb-sm)=sb by lia]
  rw[e]
 ·intro i j x y b1 b2 b3 e1 e2
  have low:∀ k,sa≤k→k<sm→∀ k',sm≤k'→k'<se→lt (ga a k') (ga a k)=false:=fun k c1 c2 k' c3 c4=>by
   by_cases c:k'<sb
   ·exact qw ua (by lia) c1 (by lia) c
   ·exact C.trans _ _ _ (lo k c1 c2) (qw ub hz (Nat.le_refl _) (by lia) c4)
  have high:∀ k,sm≤k→k<sn→∀ k',sn≤k'→k'<se→lt (ga a k') (ga a k)=false:=fun k c1 c2 k' c3 c4=>by
   by_cases c:k<sb
   ·exact C.trans _ _ _ (qw ua (by lia) (by lia) (by lia) (by lia)) (hi k' c3 c4)
   ·exact qw ub hz (by lia) (by lia) c4
  by_cases i1:i<sm
  ·rw[get,if_neg (by lia)] at e1
   obtain rfl:=ug e1
   by_cases j1:j<sm
   ·rw[get,if_neg (by lia)] at e2
    obtain rfl:=ug e2
    exact qw ua (by lia) b1 b2 (by lia)
   ·by_cases j2:j<sn
    ·obtain⟨k,k1,k2,rfl⟩:=mid j y (by lia) j2 e2
     exact low i b1 i1 k k1 (by lia)
    ·rw[get,if_neg (by lia)] at e2
     obtain rfl:=ug e2
     exact low i b1 i1 j (by lia) b3
  ·by_cases i2:i<sn
   ·by_cases j2:j<sn
    ·rw[get,if_pos (by lia)] at e1 e2
     by_cases ij:i=j
     ·subst ij
      rw[e1] at e2
      cases e2
      exact C.refl x
     ·have r1:i-sm<r.toList.length:=by rw[Array.length_toList];lia
      have r2:j-sm<r.toList.length:=by rw[Array.length_toList];lia
      have:=List.pairwise_iff_getElem.mp rise (i-sm) (j-sm) r1 r2 (by lia)
      rw[←Array.getElem?_toList,List.getElem?_eq_getElem r1] at e1
      rw[←Array.getElem?_toList,List.getElem?_eq_getElem r2] at e2
      cases e1
      cases e2
      exact this
    ·obtain⟨k,k1,k2,rfl⟩:=mid i x (by lia) i2 e1
     rw[get,if_neg (by lia)] at e2
     obtain rfl:=ug e2
     exact high k k1 k2 j (by lia) b3
   ·rw[get,if_neg (by lia)] at e1 e2
    obtain rfl:=ug e1
    obtain rfl:=ug e2
    exact qw ub hz (by lia) b2 b3
theorem Va (C:qW M A E s κ lt ok){a:Array Keyed}{sa sb se:Nat}(Xv:sb≤a.size)(hz:se≤a.size)(ua:Up lt a sa sb)(ub:Up lt a sb se)(h:∀ i,sa≤i→i<sb→lt (ga a sb) (ga a i)=false):Up lt a sa se:=by
 intro i j x y b1 b2 b3 e1 e2
 obtain rfl:=ug e1
 obtain rfl:=ug e2
 by_cases c:j<sb
 ·exact qw ua Xv b1 b2 c
 ·by_cases d:i<sb
  ·exact C.trans _ _ _ (h i b1 d) (qw ub hz (Nat.le_refl _) (by lia) b3)
  ·exact qw ub hz (by lia) b2 b3
theorem fW.ga {a:Array Keyed}(h:fW ok a){i:Nat}(hi:i<a.size):ok (Lj.ga a i):=h i _ (aO hi)
theorem Pn (C:qW M A E s κ lt ok){a:Array Keyed}{p:Array (Nat×Nat×Nat)}{g i sa na sb nb pw pw2:Nat}{Q:Bool→SortSt→Prop}(ho:fW ok a)(hp1:p[i]?=some (sa,na,pw))(hp2:p[i+1]?=some (sb,nb,pw2))(hs:sb=sa+na)(hna:1≤na)(hnb:1≤nb)
  (hz:sb+nb≤a.size) (ua:Up lt a sa sb) (ub:Up lt a sb (sb+nb))
  (q:∀ a' g',Within a a' sa (sb+nb)→Up lt a' sa (sb+nb)→Q true (jO κ a' ((p.setIfInBounds i (sa,na+nb,pw)).eraseIdxIfInBounds (i+1)) g')):wpS M A E s (mergeAt' i) Q (jO κ a p g):=by
 have Xv:sb≤a.size:=by lia
 refine wpS_bind (wpS_get ?_)
 show wpS M A E s (match (p[i]?,p[i+1]?) with|(some (sa,na,power),some (sb,nb,_))=>_|_=>_) Q _
 rw[hp1,hp2]
 dsimp only
 refine wpS_bind (wpS_modify (f:=fun _=>jO κ a ((p.setIfInBounds i (sa,na+nb,pw)).eraseIdxIfInBounds (i+1)) g) ?_)
 refine wpS_bind (aX (aO (show sb<a.size by lia)) ?_)
 refine wpS_bind (gq C (left:=false) (key:=Lj.ga a sb) (arr:=a) (base:=sa) (n:=na) (hint:=0) rfl (ho.ga (by lia)) ho (by lia) (by lia) (fun i j h1 h2 h3=>?_) fun k hk kl kr=>?_)
 ·have h3:(!lt (ga a sb) (ga a (sa+j)))=true:=h3
  show (!lt (ga a sb) (ga a (sa+i)))=true
  rw[Bool.not_eq_true'] at h3 ⊢
  exact C.trans _ _ _ (qw ua Xv (i:=sa+i) (j:=sa+j) (by lia) (by lia) (by lia)) h3
 have kl:∀ j,j<k→lt (ga a sb) (ga a (sa+j))=false:=fun j hj=>by
  have:(!lt (ga a sb) (ga a (sa+j)))=true:=kl j hj
  simpa using this
 have kr:∀ j,k≤j→j<na→lt (ga a sb) (ga a (sa+j))=true:=fun j h1 h2=>by
  have:(!lt (ga a sb) (ga a (sa+j)))=false:=kr j h1 h2
  simpa using this
 dsimp only
 by_cases hk0:na-k=0
 ·rw[if_pos (by simp[hk0])]
  refine wpS_pure (q a g (Within.refl _ _ _) (Va C Xv hz ua ub fun i h1 h2=>?_))
  have:=kl (i-sa) (by lia)
  rwa [show sa+(i-sa)=i by lia] at this
 rw[if_neg (by simp[hk0])]
 refine wpS_bind (aX (aO (show sa+k+(na-k)-1<a.size by lia)) ?_)
 rw[show sa+k+(na-k)-1=sb-1 by lia]
 refine wpS_bind (gq C (left:=true) (key:=Lj.ga a (sb-1)) (arr:=a) (base:=sb) (n:=nb) (hint:=nb-1) rfl (ho.ga (by lia)) ho (by lia) (by lia) (fun i j h1 h2 h3=>?_) fun m hm ml mr=>?_)
 ·have h3:lt (ga a (sb+j)) (ga a (sb-1))=true:=h3
  show lt (ga a (sb+i)) (ga a (sb-1))=true
  exact eV C (qw ub hz (i:=sb+i) (j:=sb+j) (by lia) (by lia) (by lia)) h3
 have ml:∀ j,j<m→lt (ga a (sb+j)) (ga a (sb-1))=true:=ml
 have mr:∀ j,m≤j→j<nb→lt (ga a (sb+j)) (ga a (sb-1))=false:=mr
 dsimp only
 have hm0:m≠0:=by
  rintro rfl
  have h1:=mr 0 (Nat.le_refl _) hnb
  have h2:=kr (na-1) (by lia) (by lia)
  rw[show sa+(na-1)=sb-1 by lia] at h2
  rw[Nat.add_zero,h2] at h1
  cases h1
 rw[if_neg (by simp[hm0])]
 have sx:(a.extract (sa+k) sb).size=na-k:=by rw[Array.size_extract];lia
 have sy:(a.extract sb (sb+m)).size=m:=by rw[Array.size_extract];lia
 have y0:ga (a.extract sb (sb+m)) 0=ga a sb:=by rw[GP (by lia) (by lia),Nat.add_zero]
 have xl:ga (a.extract (sa+k) sb) ((a.extract (sa+k) sb).size-1)=ga a (sb-1):=by rw[sx,GP (by lia) (by lia)];congr 1;lia
 have fst:∀ u∈(a.extract (sa+k) sb).toList,lt (ga (a.extract sb (sb+m)) 0) u=true:=fun u hu=>by
  obtain⟨j,j1,j2,rfl⟩:=zH Xv hu
  rw[y0]
  have:=kr (j-sa) (by lia) (by lia)
  rwa [show sa+(j-sa)=j by lia] at this
 have lst:∀ v∈(a.extract sb (sb+m)).toList,lt v (ga (a.extract (sa+k) sb) ((a.extract (sa+k) sb).size-1))=true:=fun v hv=>by
  obtain⟨j,j1,j2,rfl⟩:=zH (by lia) hv
  rw[xl]
  have:=ml (j-sb) (by lia)
  rwa [show sb+(j-sb)=j by lia] at this
 have fin:∀ r,mW lt (a.extract (sa+k) sb) (a.extract sb (sb+m)) r→Within a (wr a (sa+k) r.toList 0) sa (sb+nb)∧Up lt (wr a (sa+k) r.toList 0) sa (sb+nb):=fun r hr =>
  Pk C (by lia) (by lia) (by lia) (by lia) hz ua ub (fun i h1 h2=>by
   have:=kl (i-sa) (by lia)
   rwa [show sa+(i-sa)=i by lia] at this) (fun j h1 h2=>by
   have:=mr (j-sb) (by lia) (by lia)
   rwa [show sb+(j-sb)=j by lia] at this) hr
 by_cases hc:na-k≤m
 ·rw[if_pos hc]
  refine wpS_bind (U5 C (ho.ext _ _) (ho.ext _ _) (by lia) (by lia) (vM ua Xv (by lia) (Nat.le_refl _)) (vM ub hz (Nat.le_refl _) (by lia)) (fun u hu=>C.jG _ _ (fst u hu)) lst fun r g' hr=>?_)
  refine wpS_bind (wpS_modify ?_)
  refine wpS_bind (wpS_get ?_)
  exact wpS_pure (q _ g' (fin r hr).1 (fin r hr).2)
 ·rw[if_neg hc]
  refine wpS_bind (U7 C (ho.ext _ _) (ho.ext _ _) (by lia) (by lia) (vM ua Xv (by lia) (Nat.le_refl _)) (vM ub hz (Nat.le_refl _) (by lia)) fst (fun v hv=>C.jG _ _ (lst v hv)) fun r g' hr=>?_)
  refine wpS_bind (wpS_modify ?_)
  refine wpS_bind (wpS_get ?_)
  exact wpS_pure (q _ g' (fin r hr).1 (fin r hr).2)
end
section
variable{M:Model}{A:Around}{E:Value→Shared→Prop}{s:Shared}{κ:SortKind}{lt:Keyed→Keyed→Bool}{ok:Keyed→Prop}
def d9 (lt:Keyed→Keyed→Bool)(a:Array Keyed):List (Nat×Nat×Nat)→Nat→Nat→Prop
 | [],b,e=>b=e
 | x::r,b,e=>x.1=b∧1≤x.2.1∧Up lt a b (b+x.2.1)∧d9 lt a r (b+x.2.1) e
theorem d9.le {a:Array Keyed}:∀ {l:List (Nat×Nat×Nat)} {b e:Nat},d9 lt a l b e→b+l.length≤e
 | [],b,e,h=>by
  obtain rfl:b=e:=h
  exact Nat.le_refl _
 | x::r,b,e,⟨_,h1,_,h2⟩=>by
  have:=h2.le
  rw[List.length_cons]
  lia
theorem Up.same {a a':Array Keyed}{lo hi:Nat}(h:Up lt a lo hi)(e:∀ k,lo≤k→k<hi→a'[k]?=a[k]?):Up lt a' lo hi:=fun i j x y b1 b2 b3 e1 e2 =>
 h i j x y b1 b2 b3 ((e i b1 (by lia)).symm.trans e1) ((e j (by lia) b3).symm.trans e2)
theorem d9.same {a a':Array Keyed}:∀ {l:List (Nat×Nat×Nat)} {b e:Nat},d9 lt a l b e→(∀ k,b≤k→k<e→a'[k]?=a[k]?)→d9 lt a' l b e
 | [],_,_,h,_=>h
 | x::r,b,e,⟨h0,h1,h2,h3⟩,q=>⟨h0,h1,h2.same fun k c1 c2=>q k c1 (by have:=h3.le;lia),h3.same fun k c1 c2=>q k (by lia) c2⟩
theorem d9.app {a:Array Keyed}:∀ {l l':List (Nat×Nat×Nat)} {b e:Nat},d9 lt a (l++l') b e↔∃ m,d9 lt a l b m∧d9 lt a l' m e
 | [],l',b,e=>⟨fun h=>⟨b,rfl,h⟩,fun⟨m,h1,h2⟩=>by obtain rfl:b=m:=h1;exact h2⟩
 | x::r,l',b,e=>⟨fun⟨h0,h1,h2,h3⟩=>let ⟨m,k1,k2⟩:=d9.app.mp h3;⟨m,⟨h0,h1,h2,k1⟩,k2⟩,fun⟨m,⟨h0,h1,h2,k1⟩,k2⟩=>⟨h0,h1,h2,d9.app.mpr ⟨m,k1,k2⟩⟩⟩
theorem Pq {p:Array (Nat×Nat×Nat)}{i:Nat}(h:i+1<p.size):∃ x y,p[i]?=some x∧p[i+1]?=some y∧p.toList=p.toList.take i++x::y::p.toList.drop (i+2):=by
 have h1:i<p.toList.length:=by rw[Array.length_toList];lia
 have h2:i+1<p.toList.length:=by rw[Array.length_toList];lia
 refine⟨p.toList[i],p.toList[i+1],?_,?_,?_⟩
 ·rw[←Array.getElem?_toList,List.getElem?_eq_getElem h1]
 ·rw[←Array.getElem?_toList,List.getElem?_eq_getElem h2]
 ·conv=>lhs;rw[←List.take_append_drop i p.toList]
  rw[List.drop_eq_getElem_cons h1,List.drop_eq_getElem_cons h2]
theorem Jr {p:Array (Nat×Nat×Nat)}{i:Nat}(h:i+1<p.size)(z:Nat×Nat×Nat):((p.setIfInBounds i z).eraseIdxIfInBounds (i+1)).toList=p.toList.take i++z::p.toList.drop (i+2):=by
 have hl:p.toList.length=p.size:=Array.length_toList
 have hz:i+1<(p.setIfInBounds i z).size:=by rw[Array.size_setIfInBounds];exact h
 have e:((p.setIfInBounds i z).eraseIdxIfInBounds (i+1)).toList=(p.toList.set i z).eraseIdx (i+1):=by
  unfold Array.eraseIdxIfInBounds
  rw[dif_pos hz]
  simp
 rw[e]
 apply List.ext_getElem?
 intro k
 rw[List.getElem?_eraseIdx]
 by_cases c:k<i+1
 ·rw[if_pos c]
  by_cases d:k=i
  ·subst d
   rw[List.getElem?_set_self (by lia),List.getElem?_append_right (by rw[List.length_take];lia),List.length_take,Nat.min_eq_left (by lia),Nat.sub_self]
   rfl
  ·rw[List.getElem?_set_ne (by lia),List.getElem?_append_left (by rw[List.length_take];lia),List.getElem?_take,if_pos (by lia)]
 ·rw[if_neg c,List.getElem?_set_ne (by lia),List.getElem?_append_right (by rw[List.length_take];lia),List.length_take,Nat.min_eq_left (by lia)]
  obtain⟨d,hd⟩:∃ d,k-i=d+1:=⟨k-i-1,by lia⟩
  rw[hd,List.getElem?_cons_succ,List.getElem?_drop]
  congr 1
  lia
theorem Ay (C:qW M A E s κ lt ok){a:Array Keyed}{p:Array (Nat×Nat×Nat)}{g i e:Nat}{Q:Bool→SortSt→Prop}(ho:fW ok a)(t:d9 lt a p.toList 0 e)(he:e≤a.size)(hi:i+1<p.size)
  (q:∀ a' p' g',Within a a' 0 e→d9 lt a' p'.toList 0 e→p'.size+1=p.size→Q true (jO κ a' p' g')):wpS M A E s (mergeAt' i) Q (jO κ a p g):=by
 obtain⟨⟨sa,na,pa⟩,⟨sb,nb,pb⟩,e1,e2,el⟩:=Pq hi
 rw[el] at t
 obtain⟨m,t1,h0,h1,h2,k0,k1,k2,t2⟩:=d9.app.mp t
 dsimp only at h0 h1 h2 k0 k1 k2 t2
 subst h0 k0
 have l1:=t1.le
 have l2:=t2.le
 refine Pn C ho e1 e2 rfl h1 k1 (by lia) h2 k2 fun a' g' w u=>?_
 have ml:=Jr hi (sa,na+nb,pa)
 refine q a' _ g' (w.mono (Nat.zero_le _) (by lia)) ?_ ?_
 ·rw[ml]
  refine d9.app.mpr ⟨sa,t1.same fun k _ c=>w.out k (.inl c),rfl,by show 1≤na+nb;lia,?_,?_⟩
  ·show Up lt a' sa (sa+(na+nb))
   rwa [←Nat.add_assoc]
  ·show d9 lt a' _ (sa+(na+nb)) e
   rw[←Nat.add_assoc]
   exact t2.same fun k c _=>w.out k (.inr c)
 ·have n1:=congrArg List.length ml
  have n2:=congrArg List.length el
  rw[List.length_append,List.length_cons,Array.length_toList] at n1
  rw[List.length_append,List.length_cons,List.length_cons,Array.length_toList] at n2
  lia
theorem Lq {a:Array Keyed}{p:Array (Nat×Nat×Nat)}{b e pw:Nat}(t:d9 lt a p.toList b e):d9 lt a (p.modify (p.size-1) fun x=>(x.1,x.2.1,pw)).toList b e:=by
 have gen:∀ (l:List (Nat×Nat×Nat)) (k b e:Nat),d9 lt a l b e→d9 lt a (l.modify k fun x=>(x.1,x.2.1,pw)) b e:=by
  intro l
  induction l with
  | nil=>intro k b e h;cases k<;>exact h
  | cons x r ih =>
   intro k b e h
   obtain⟨h0,h1,h2,h3⟩:=h
   cases k with
   | zero=>exact⟨h0,h1,h2,h3⟩
   | succ k=>exact⟨h0,h1,h2,ih k _ _ h3⟩
 rw[Array.toList_modify]
 exact gen _ _ _ _ t
end
section
variable{M:Model}{A:Around}{E:Value→Shared→Prop}{s:Shared}{κ:SortKind}{lt:Keyed→Keyed→Bool}{ok:Keyed→Prop}
def wW (κ:SortKind)(lt:Keyed→Keyed→Bool)(a₀:Array Keyed)(lo:Nat)(st:SortSt):Prop:=∃ a p g,st=jO κ a p g∧a.Perm a₀∧d9 lt a p.toList 0 lo∧lo≤a₀.size
def Fw (size lo n:Nat):StateT SortSt Sem (ForInStep (Option Unit×Nat)):=do
 let d ←get
 match (pendingOf d).back? with
 | some (s1,n1,_)=>do
  let r ←forIn [:size] ((none:Option Unit),()) fun _ _=>do
   let d ←get
   match (if (pendingOf d).size > 1 then (pendingOf d)[(pendingOf d).size-2]? else none) with
   | some (_,_,older) =>
    if older≤power' size (2*s1+n1) (2*s1+n1+n1+n) size then pure (ForInStep.done (none,()))
    else do
     let b ←mergeAt' ((pendingOf d).size-2)
     if (!b)=true then pure (ForInStep.done (some (),())) else pure (ForInStep.yield (none,()))
   | _=>pure (ForInStep.done (none,()))
  match r.fst with
  | some r=>pure (ForInStep.done (some r,lo))
  | none=>do
   modify fun s=>setPending s ((pendingOf s).modify ((pendingOf s).size-1) fun x=>(x.fst,x.2.fst,power' size (2*s1+n1) (2*s1+n1+n1+n) size))
   modify fun s=>setPending s ((pendingOf s).push (lo,n,0))
   pure (ForInStep.yield (none,lo+n))
 | _=>do
  modify fun s=>setPending s ((pendingOf s).push (lo,n,0))
  pure (ForInStep.yield (none,lo+n))
theorem Js (C:qW M A E s κ lt ok){a₀ a:Array Keyed}{p:Array (Nat×Nat×Nat)}{g lo n:Nat}{Q:ForInStep (Option Unit×Nat)→SortSt→Prop}(ho:fW ok a₀)(hp:a.Perm a₀)(t:d9 lt a p.toList 0 lo)(h1:1≤n)(hz:lo+n≤a₀.size)(u:Up lt a lo (lo+n))
  (q:∀ st,wW κ lt a₀ (lo+n) st→Q (.yield (none,lo+n)) st):wpS M A E s (Fw a₀.size lo n) Q (jO κ a p g):=by
 have push:∀ (a:Array Keyed) (p:Array (Nat×Nat×Nat)) (g:Nat),a.Perm a₀→d9 lt a p.toList 0 lo→Up lt a lo (lo+n)→wW κ lt a₀ (lo+n) (jO κ a (p.push (lo,n,0)) g):=fun a p g hp t u =>
  ⟨a,_,g,rfl,hp,by rw[Array.toList_push];exact d9.app.mpr ⟨lo,t,rfl,h1,u,rfl⟩,hz⟩
 unfold Fw
 refine wpS_bind (wpS_get ?_)
 show wpS M A E s (match p.back? with|some (s1,n1,_)=>_|_=>_) Q _
 cases hb:p.back? with
 | none=>exact wpS_bind (wpS_modify (wpS_pure (q _ (push a p g hp t u))))
 | some x =>
  obtain⟨s1,n1,pw1⟩:=x
  dsimp only
  refine wpS_bind (wpS_mono (wpS_forRange (I:=fun _ c st=>c=(none,())∧∃ a p g,st=jO κ a p g∧a.Perm a₀∧d9 lt a p.toList 0 lo∧Up lt a lo (lo+n))
   (Q:=fun c st=>c=(none,())∧∃ a p g,st=jO κ a p g∧a.Perm a₀∧d9 lt a p.toList 0 lo∧Up lt a lo (lo+n)) ?_ (fun _ _ h=>h) ⟨rfl,a,p,g,rfl,hp,t,u⟩) ?_)
  ·rintro x c st _ _ ⟨rfl,a,p,g,rfl,hp,t,u⟩
   refine wpS_bind (wpS_get ?_)
   show wpS M A E s (match (if p.size > 1 then p[p.size-2]? else none) with|some (_,_,older)=>_|_=>_) _ _
   by_cases c:p.size > 1
   ·rw[if_pos c]
    cases hg:p[p.size-2]? with
    | none=>exact wpS_pure ⟨rfl,a,p,g,rfl,hp,t,u⟩
    | some y =>
     obtain⟨y1,y2,y3⟩:=y
     dsimp only
     by_cases d:y3≤power' a₀.size (2*s1+n1) (2*s1+n1+n1+n) a₀.size
     ·rw[if_pos d]
      exact wpS_pure ⟨rfl,a,p,g,rfl,hp,t,u⟩
     ·rw[if_neg d]
      refine wpS_bind (Ay C (ho.perm hp) t (by have:=hp.size_eq;lia) (i:=p.size-2) (by lia) fun a' p' g' w t' _=>?_)
      exact wpS_pure ⟨rfl,a',p',g',rfl,w.perm.trans hp,t',u.same fun k c _=>w.out k (.inr c)⟩
   ·rw[if_neg c]
    exact wpS_pure ⟨rfl,a,p,g,rfl,hp,t,u⟩
  ·rintro c st ⟨rfl,a,p,g,rfl,hp,t,u⟩
   dsimp only
   refine wpS_bind (wpS_modify (wpS_bind (wpS_modify (wpS_pure (q _ (push a _ g hp (Lq t) u))))))
theorem Rp (C:qW M A E s κ lt ok){a₀:Array Keyed}{g:Nat}{Q:Unit→SortSt→Prop}(ho:fW ok a₀)(h2:2≤a₀.size)
  (q:∀ a p g,a.Perm a₀→Up lt a 0 a₀.size→Q () (jO κ a p g)):wpS M A E s sortRuns' Q (jO κ a₀ #[] g):=by
 rw[sortRuns'_eq]
 refine wpS_bind (wpS_get ?_)
 dsimp only
 refine wpS_bind (wpS_mono (wpS_forRange
  (I:=fun x c st=>∃ lo,c=(none,lo)∧wW κ lt a₀ lo st∧(x≤lo∨lo=a₀.size))
  (Q:=fun c st=>c=(none,a₀.size)∧wW κ lt a₀ a₀.size st) ?step ?fin ⟨0,rfl,⟨a₀,#[],g,rfl,.refl _,rfl,Nat.zero_le _⟩,.inl (Nat.le_refl _)⟩) ?post)
 case fin =>
  rintro c st ⟨lo,rfl,R,h⟩
  have e:lo=a₀.size:=by
   obtain⟨a,p,g,_,_,_,hl⟩:=R
   have h:max 0 a₀.size≤lo∨lo=a₀.size:=h
   rcases h with h|h
   ·lia
   ·exact h
  subst e
  exact⟨rfl,R⟩
 case step =>
  rintro x c st _ hx ⟨lo,rfl,R,hlo⟩
  dsimp only
  have hx:x<a₀.size:=hx
  by_cases hl:a₀.size≤lo
  ·rw[if_pos hl]
   have e:lo=a₀.size:=by
    obtain⟨a,p,g,_,_,_,hl⟩:=R
    lia
   subst e
   exact wpS_pure ⟨rfl,R⟩
  rw[if_neg hl]
  obtain⟨a,p,g,rfl,hp,t,_⟩:=R
  have sz:a.size=a₀.size:=hp.size_eq
  have oa:fW ok a:=ho.perm hp
  show wpS M A E s (countRun' lo (a₀.size-lo) >>= _) _ _
  refine wpS_bind (O9 C oa (by lia) (by lia) fun n a' n1 n2 w u=>?_)
  have t':d9 lt a' p.toList 0 lo:=t.same fun k _ c=>w.out k (.inl c)
  have hp':=w.perm.trans hp
  have sz':a'.size=a₀.size:=hp'.size_eq
  dsimp only
  have done:∀ m st,1≤m→wW κ lt a₀ (lo+m) st→∃ lo',((none:Option Unit),lo+m)=(none,lo')∧wW κ lt a₀ lo' st∧(x+1≤lo'∨lo'=a₀.size):=fun m st hm R=>⟨lo+m,rfl,R,by
   rcases hlo with h|h
   ·left;lia
   ·lia⟩
  by_cases hm:n<minRun' a₀.size a₀.size 0
  ·rw[if_pos hm]
   refine wpS_bind (wpS_lift (wpAny_rule ⟨rfl,?_⟩))
   have m1:1≤min (a₀.size-lo) (minRun' a₀.size a₀.size 0):=by lia
   refine wpS_bind (U3 C (ho.perm hp') (n:=min (a₀.size-lo) (minRun' a₀.size a₀.size 0)) (by lia) n1 (by lia) u fun a2 w2 u2=>?_)
   simp only[Bool.not_true,Bool.false_eq_true,if_false]
   refine Eq.mpr (congrArg (fun m=>wpS M A E s m _ _) (by
    unfold Fw
    congr 1
    funext d
    cases (pendingOf d).back? with
    | none=>rfl
    | some x =>
     obtain⟨s1,n1,w1⟩:=x
     dsimp only
     congr 1
     funext r
     obtain⟨r1,r2⟩:=r
     cases r1<;>rfl:_=Fw a₀.size lo (min (a₀.size-lo) (minRun' a₀.size a₀.size 0)))) ?_
   exact Js C ho (w2.perm.trans hp') (t'.same fun k _ c=>w2.out k (.inl c)) m1 (by lia) u2 fun st R=>done _ st m1 R
  ·rw[if_neg hm]
   refine Eq.mpr (congrArg (fun m=>wpS M A E s m _ _) (by
    unfold Fw
    congr 1
    funext d
    cases (pendingOf d).back? with
    | none=>rfl
    | some x =>
     obtain⟨s1,n1,w1⟩:=x
     dsimp only
     congr 1
     funext r
     obtain⟨r1,r2⟩:=r
     cases r1<;>rfl:_=Fw a₀.size lo n)) ?_
   exact Js C ho hp' t' n1 (by lia) u fun st R=>done _ st n1 R
 case post =>
  rintro c st ⟨rfl,R⟩
  dsimp only
  refine wpS_bind (wpS_mono (wpS_forRange (I:=fun x c st=>c=(none,())∧∃ a p g,st=jO κ a p g∧a.Perm a₀∧d9 lt a p.toList 0 a₀.size∧(p.size≤1∨p.size+x≤a₀.size))
   (Q:=fun c st=>c=(none,())∧∃ a p g,st=jO κ a p g∧a.Perm a₀∧d9 lt a p.toList 0 a₀.size∧p.size≤1) ?_ ?_ ?_) ?_)
  ·rintro x c st _ hx ⟨rfl,a,p,g,rfl,hp,t,hn⟩
   refine wpS_bind (wpS_get ?_)
   by_cases hc:p.size≤1
   ·rw[if_pos hc]
    exact wpS_pure ⟨rfl,a,p,g,rfl,hp,t,hc⟩
   ·rw[if_neg hc]
    have hi:∀ (b:Prop) [Decidable b],(if b then p.size-2-1 else p.size-2)+1<p.size:=fun b _=>by split<;>lia
    refine wpS_bind (Ay C (ho.perm hp) t (by have:=hp.size_eq;lia) (hi _) fun a' p' g' w t' hs=>?_)
    exact wpS_pure ⟨rfl,a',p',g',rfl,w.perm.trans hp,t',.inr (by lia)⟩
  ·rintro c st ⟨rfl,a,p,g,rfl,hp,t,hn⟩
   have hn:p.size≤1∨p.size+max 0 a₀.size≤a₀.size:=hn
   exact⟨rfl,a,p,g,rfl,hp,t,by lia⟩
  ·obtain⟨a,p,g,rfl,hp,t,_⟩:=R
   have:=t.le
   rw[Array.length_toList] at this
   exact⟨rfl,a,p,g,rfl,hp,t,.inr (by lia)⟩
  ·rintro c st ⟨rfl,a,p,g,rfl,hp,t,h1⟩
   dsimp only
   refine wpS_pure (q a p g hp ?_)
   have hl:p.toList.length≤1:=by rw[Array.length_toList];exact h1
   match hm:p.toList,hl,t with
   | [],_,t =>
    have t:0=a₀.size:=t
    lia
   | [x],_,⟨_,_,u,e⟩ =>
    have e:0+x.2.1=a₀.size:=e
    rw[←e]
    exact u
end
end Lj
namespace Lj
open PySem PyProof.Rows PySem.W
def lG (h:Heap)(v:Value)(k:Int×Int×Int):Prop:=∃ a o n t u w,v=.ref a∧h.get? a=some o∧o.cls=.type "tuple" ∧ o.data=.seq #[.int k.1 t,.int k.2.1 u,.int k.2.2 w] n
theorem lG.one {h:Heap}{v:Value}{k k':Int×Int×Int}(x:lG h v k)(y:lG h v k'):k=k':=by
 obtain⟨a,o,n,t,u,w,rfl,e,c,d⟩:=x
 obtain⟨a',o',n',t',u',w',ea,e',c',d'⟩:=y
 cases ea
 rw[e] at e';cases e'
 rw[d] at d'
 simp only[Data.seq.injEq,Array.mk.injEq,List.cons.injEq,Value.int.injEq] at d'
 obtain⟨⟨⟨h1,_⟩,⟨h2,_⟩,⟨h3,_⟩,_⟩,_⟩:=d'
 exact Prod.ext h1 (Prod.ext h2 h3)
open Classical in
noncomputable def keyOf (h:Heap)(v:Value):Int×Int×Int:=if e:∃ k,lG h v k then e.choose else (0,0,0)
theorem vN {h:Heap}{v:Value}{k:Int×Int×Int}(x:lG h v k):keyOf h v=k:=by
 unfold keyOf
 rw[dif_pos ⟨k,x⟩]
 exact lG.one (Exists.choose_spec (⟨k,x⟩:∃ k,lG h v k)) x
def lex (a b:Int×Int×Int):Bool:=decide (a.1<b.1∨(a.1=b.1∧(a.2.1<b.2.1∨(a.2.1=b.2.1∧a.2.2<b.2.2))))
theorem zJ {a b:Int×Int×Int}:lex a b=true↔(a.1<b.1∨(a.1=b.1∧(a.2.1<b.2.1∨(a.2.1=b.2.1∧a.2.2<b.2.2)))):=decide_eq_true_iff
theorem tG {a b:Int×Int×Int}:lex a b=false↔¬ (a.1<b.1∨(a.1=b.1∧(a.2.1<b.2.1∨(a.2.1=b.2.1∧a.2.2<b.2.2)))):=decide_eq_false_iff_not
theorem agv {prog:Program}{w:World}{A:Around}{E:Value→Shared→Prop}{s:Shared}:qW (model prog w) A E s (tuples' true) (fun x y=>lex (keyOf s.heap x.1) (keyOf s.heap y.1)) (fun x=>∃ k,lG s.heap x.1 k) where
 run:=fun st Q x y hk ⟨kx,ax⟩ ⟨ky,ay⟩ q=>by
  rw[vN ax,vN ay] at q
  rw[lt'_eq]
  refine wpS_bind (wpS_get ?_)
  rw[hk]
  obtain⟨a,o,n,t,u,v,e1,e2,e3,e4⟩:=ax
  obtain⟨a',o',n',t',u',v',f1,f2,f3,f4⟩:=ay
  rw[e1,f1]
  refine wpS_bind (wpS_lift (wpAny_attempt (kat_lt e2 e4 f2 f4 ?_)))
  obtain⟨x1,x2,x3⟩:=kx
  obtain⟨y1,y2,y3⟩:=ky
  have fin:∀ c:Bool,c=lex (x1,x2,x3) (y1,y2,y3)→(s=s∧wpS (model prog w) A E s (pure (some c)) Q st):=fun c e=>⟨rfl,wpS_pure (e ▸ q)⟩
  refine kat_cons (wpAny_eqBool_int (kat_go (fun h=>kat_yes ?_) fun h=>kat_no (oneLt_int (fin _ ?_))))
  ·have h1:x1=y1:=by simpa using h
   refine kat_cons (wpAny_eqBool_int (kat_go (fun h=>kat_yes ?_) fun h=>kat_no (kat_one _ _ (lt_int (fin _ ?_)))))
   ·have h2:x2=y2:=by simpa using h
    refine kat_cons (wpAny_eqBool_int (kat_go (fun h=>kat_yes (kat_nil (fin _ ?_))) fun h=>kat_no (kat_one _ _ (lt_int (fin _ ?_)))))
    ·have h3:x3=y3:=by simpa using h
     refine Eq.trans (by simp) (tG.mpr ?_).symm
     dsimp only
     omega
    ·have h3:x3≠y3:=by simpa using h
     rw[Bool.eq_iff_iff,zJ,decide_eq_true_iff]
     dsimp only
     omega
   ·have h2:x2≠y2:=by simpa using h
    rw[Bool.eq_iff_iff,zJ,decide_eq_true_iff]
    dsimp only
    omega
  ·have h1:x1≠y1:=by simpa using h
   rw[Bool.eq_iff_iff,zJ,decide_eq_true_iff]
   dsimp only
   omega
 jG:=fun x y h=>by
  have h:=zJ.mp h
  exact tG.mpr (by omega)
 trans:=fun x y z h1 h2=>by
  have h1:=tG.mp h1
  have h2:=tG.mp h2
  exact tG.mpr (by omega)
end Lj
namespace L2
open PySem PySem.Spec PyProof.Rows Lj
def qZ (a:Addr)(o:Obj):HO:=.ext fun h=>h.get? a=some o
theorem Az {P:Program}{w:World}{H:Hp}{h:Heap}{a:Addr}{o:Obj}(e:h.get? a=some o):dG P w H h a (qZ a o):=⟨e,⟨o,e⟩,fun _ _ p k=>k o p⟩
section
variable{X:Cx}{pins:List (Addr×Obj)}{σ:List (Option V)}{H:Hp}{s:Shared}{h':Heap}
theorem Inv.exo (I:Inv X pins σ H s){a:Addr}{o:Obj}(e:H a=some (qZ a o)):s.heap.get? a=some o:=by
 have z:dG X.prog X.w H s.heap a (qZ a o):=I.hok a _ e
 exact z.1
theorem Inv.put {a:Addr}{o:Obj}{u:HO}{t':Nat}(I:Inv X pins σ H s)(e:H a=some (qZ a o))(sb:Heap.SameBut a s.heap h')(th:∃ o,h'.get? a=some o)(new:dG X.prog X.w (upd H a u) h' a u):
  Inv X pins σ (upd H a u) { s with heap:=h',toks:=t' } :=
 I.write (x:=a) (e:=a) (by rw[e];trivial) (.inl rfl) (fun b o hb q=>(sb.2 b hb).trans q) th new
def Dk (H H':Hp)(cs:List Addr):Prop:=∀ c o,c∉cs→H c=some o→H' c=some o
def iY (H:Hp)(kf:Int→Int×Int×Int):List Value→List Int→Prop:=Paired fun v n=>∃ r,v=.ref r∧H r=some (.tup [.int (kf n).1,.int (kf n).2.1,.int (kf n).2.2])
theorem iY.len {kf:Int→Int×Int×Int}:∀ {vs:List Value} {ns:List Int},iY H kf vs ns→vs.length=ns.length
 | _,_,.nil=>rfl
 | _,_,.cons _ t=>congrArg (· + 1) (iY.len t)
theorem iY.imp {H H':Hp}{kf:Int→Int×Int×Int}{vs:List Value}{ns:List Int}(k:iY H kf vs ns)(h:∀ r xs,H r=some (.tup xs)→H' r=some (.tup xs)):iY H' kf vs ns :=
 Paired.imp' (fun _ _ ⟨r,e1,e2⟩=>⟨r,e1,h _ _ e2⟩) k
theorem iY.snoc {kf:Int→Int×Int×Int}{v:Value}{n:Int}:∀ {vs:List Value} {ns:List Int},iY H kf vs ns→(∃ r,v=.ref r∧H r=some (.tup [.int (kf n).1,.int (kf n).2.1,.int (kf n).2.2]))→iY H kf (vs++[v]) (ns++[n])
 | _,_,.nil,e=>.cons e .nil
 | _,_,.cons x t,e=>.cons x (iY.snoc t e)
theorem Jt {P:Program}{w:World}{h:Heap}{kf:Int→Int×Int×Int}{v:Value}{n:Int}(hok:uE P w H h)(k:∃ r,v=.ref r∧H r=some (.tup [.int (kf n).1,.int (kf n).2.1,.int (kf n).2.2])):lG h v (kf n):=by
 obtain⟨r,rfl,e⟩:=k
 obtain⟨its,rv,o,e1,e2,m,e3⟩:=(show dG P w H h r (.tup _) from hok r _ e).2
 cases rv with
 | cons r1 rv =>
  cases rv with
  | cons r2 rv =>
   cases rv with
   | cons r3 rv =>
    cases rv
    obtain⟨t,rfl⟩:=r1
    obtain⟨u,rfl⟩:=r2
    obtain⟨v,rfl⟩:=r3
    exact⟨r,o,m,t,u,v,rfl,e1,e2,e3⟩
theorem Ba {P:Program}{w:World}{h:Heap}{kf:Int→Int×Int×Int}(hok:uE P w H h):∀ {vs:List Value} {ns:List Int},iY H kf vs ns→∃ fs,PySem.W.KatTups h vs fs∧fs.length=ns.length∧∀ v∈fs,∃ i t,v=Value.int i t
 | _,_,.nil=>⟨[],.nil,rfl,by simp⟩
 | _,_,.cons x t=>by
  obtain⟨fs,h1,h2,h3⟩:=Ba hok t
  obtain⟨a,o,n,t,u,w,rfl,e1,e2,e3⟩:=Jt hok x
  refine⟨_::fs,.cons e1 e2 e3 rfl h1,by simp[h2],fun v hv=>?_⟩
  rcases List.mem_cons.mp hv with rfl|hv
  ·exact⟨_,_,rfl⟩
  ·exact h3 v hv
end
section
variable{X:Cx}{pins:List (Addr×Obj)}{σ:List (Option V)}{H:Hp}{s:Shared}{A:Around}{E:Value→Shared→Prop}{a kS:Addr}{keys:Array Value}{e e1:Nat}{P:PySem.Fin→Shared→Prop}{vs:List Value}{ns:List Int}{kf:Int→Int×Int×Int}
theorem zK {h:Heap}{a:Addr}{xs:Array Value}{n:Nat}(g:Array Value→Array Value)(ho:h.get? a=some (seqObj "list" xs n)):∃ c,(h.update a (Obj.mapSeq g)).get? a=some (seqObj "list" (g xs) c):=⟨_,get?_update_seq ho g⟩
theorem Pu {st:SortSt}{xs:List V}(I:Inv X pins σ H s)(ha:H a=some (qZ a (seqObj "list" #[] e1)))(hk:H kS=some (qZ kS (seqObj "list" keys e)))(hka:kS≠a)(hz:keys.size≤sizeLine)(hfl:failedOf st=none)
  (hx:Vals xs ((arrOf st).map (·.2)).reverse.toList) (hxz:xs.length≤sizeLine)
  (h:∀ H' s',Dk H H' [a,kS]→H' a=some (.lst xs)→Inv X pins σ H' s'→P (.done (.ret .none)) s') :
  wpAny (model X.prog X.w) A (ksk_tail a true e1 (.ref kS) st) P E s:=by
 have hk0:=I.exo hk
 have ha0:=I.exo ha
 have sbk:=Heap.SameBut.update s.heap kS (Obj.mapSeq fun _=>(#[]:Array Value))
 obtain⟨c1,hc1⟩:=zK (fun _=>(#[]:Array Value)) hk0
 have I1:=I.put (t':=s.toks) (u:=qZ kS (seqObj "list" #[] c1)) hk sbk ⟨_,hc1⟩ (Az hc1)
 have ha1:(upd H kS (qZ kS (seqObj "list" #[] c1))) a=some (qZ a (seqObj "list" #[] e1)):=by rw[aJ hka.symm];exact ha
 have ha2:=I1.exo ha1
 have s2:=Heap.SameBut.update (s.heap.update kS (Obj.mapSeq fun _=>(#[]:Array Value))) a (Obj.mapSeq fun _=>((arrOf st).map (·.2)).reverse)
 obtain⟨c2,hc2⟩:=zK (fun _=>((arrOf st).map (·.2)).reverse) (show (s.heap.update kS (Obj.mapSeq fun _=>(#[]:Array Value))).get? a=_ from ha2)
 have hlen:xs.length=((arrOf st).map (·.2)).reverse.size:=hx.length.trans Array.length_toList
 have I2:=I1.put (t':=s.toks) (u:=.lst xs) ha1 s2 ⟨_,hc2⟩ (show dG X.prog X.w _ _ a (.lst xs) from ⟨hxz,_,c2,hx,by rw[hc2,Array.toArray_toList]⟩)
 unfold ksk_tail
 try dsimp only
 refine wpAny_bind (listUpdate_at hk0 rfl ?_ hz (Nat.zero_le _))
 refine wpAny_bind (wpAny_letGo ?_)
 refine wpAny_bind (seqEpoch_at ha2 rfl ?_)
 refine wpAny_bind (listUpdate_at ha2 rfl ?_ (Nat.zero_le _) (by
  show ((arrOf st).map (·.2)).reverse.size≤_
  lia))
 rw[hfl]
 simp only[if_false,Bool.false_eq_true,bne_self_eq_false]
 refine wpAny_pure (h _ _ ?_ ak I2)
 intro c o hc q
 rw[aJ (fun z=>hc (by simp[z])),aJ (fun z=>hc (by simp[z]))]
 exact q
theorem Vb {α β:Type}{R:α→β→Prop}{l l':List α}(hp:l.Perm l'):∀ {ns:List β},Paired R l' ns→∃ ms,ms.Perm ns∧Paired R l ms:=by
 induction hp with
 | nil=>intro ns b;exact⟨ns,.refl _,b⟩
 | cons x _ ih =>
  intro ns b
  cases b with
  | cons r b =>
   obtain⟨ms,h1,h2⟩:=ih b
   exact⟨_::ms,h1.cons _,.cons r h2⟩
 | swap x y l =>
  intro ns b
  cases b with
  | cons r b =>
   cases b with
   | cons r' b=>exact⟨_::_::_,.swap _ _ _,.cons r' (.cons r b)⟩
 | trans _ _ ih1 ih2 =>
  intro ns b
  obtain⟨ms,h1,h2⟩:=ih2 b
  obtain⟨ms',h3,h4⟩:=ih1 h2
  exact⟨ms',h3.trans h1,h4⟩
theorem Rq {h:Heap}:∀ {ks us:List Value} {ns:List Int},Paired (fun v n=>lG h v (kf n)) ks ns→Vals (ns.map V.int) us→Paired (fun (p:Value×Value) n=>lG h p.1 (kf n)∧RelV (.int n) p.2) (ks.zip us) ns
 | _,_,_,.nil,.nil=>.nil
 | _,_,_,.cons x t,.cons r u=>.cons ⟨x,r⟩ (Rq t u)
theorem Rr {α β:Type}{R:α→β→Prop}:∀ {l:List α} {ns:List β},Paired R l ns→Paired R l.reverse ns.reverse
 | _,_,.nil=>.nil
 | _,_,.cons x t=>by
  rw[List.reverse_cons,List.reverse_cons]
  exact Paired.snoc (Rr t) x
theorem Rt {h:Heap}:∀ {l:List (Value×Value)} {ns:List Int},Paired (fun (p:Value×Value) n=>lG h p.1 (kf n)∧RelV (.int n) p.2) l ns→Vals (ns.map V.int) (l.map (·.2))
 | _,_,.nil=>.nil
 | _,_,.cons x t=>.cons x.2 (Rt t)
theorem M6 {α β:Type}{R:α→β→Prop}:∀ {l:List α} {ns:List β},Paired R l ns→∀ (i:Nat) n,ns[i]?=some n→∃ x,l[i]?=some x∧R x n
 | _,_,.nil,i,n,e=>by simp at e
 | _,_,.cons x t,0,n,e=>by simp at e;subst e;exact⟨_,rfl,x⟩
 | _,_,.cons x t,i+1,n,e=>by
  obtain⟨y,h1,h2⟩:=M6 t i n (by simpa using e)
  exact⟨y,by simpa using h1,h2⟩
theorem sorted_out {s:Shared}{st:SortSt}{h:Heap}(hp:(arrOf st).Perm (keys.zip vs.toArray))(hu:∀ (i j:Nat) x y,i<j→(arrOf st)[i]?=some x→(arrOf st)[j]?=some y→lex (keyOf h y.1) (keyOf h x.1)=false)
  (hK:Paired (fun v n=>lG h v (kf n)) keys.toList ns) (hv:Vals (ns.map V.int) vs) :
  ∃ ns':List Int,ns'.Perm ns∧ns'.Pairwise (fun x y=>lex (kf x) (kf y)=false)∧Vals (ns'.map V.int) ((arrOf st).map (·.2)).reverse.toList:=by
 have hl:(arrOf st).toList.Perm (keys.toList.zip vs):=by rw[←ksk_zip];exact Array.perm_iff_toList_perm.mp hp
 obtain⟨ms,h1,h2⟩:=Vb hl (Rq hK hv)
 refine⟨ms.reverse,(List.reverse_perm _).trans h1,?_,?_⟩
 ·rw[List.pairwise_reverse,List.pairwise_iff_getElem]
  intro i j hi hj hij
  obtain⟨x,e1,e2⟩:=M6 h2 i _ (List.getElem?_eq_getElem hi)
  obtain⟨y,f1,f2⟩:=M6 h2 j _ (List.getElem?_eq_getElem hj)
  have q:=hu i j x y hij (by simpa using e1) (by simpa using f1)
  rw[vN e2.1,vN f2.1] at q
  exact q
 ·rw[Array.toList_reverse,Array.toList_map,←List.map_reverse]
  exact Rt (Rr h2)
theorem Ru (I:Inv X pins σ H s)(ha:H a=some (qZ a (seqObj "list" #[] e1)))(hk:H kS=some (qZ kS (seqObj "list" keys e)))(hka:kS≠a)(hK:iY H kf keys.toList ns)(hv:Vals (ns.map V.int) vs)(hn:ns.length≤1000)
  (h:∀ H' s' (ns':List Int),Dk H H' [a,kS]→H' a=some (.lst (ns'.map V.int))→ns'.Perm ns→ns'.Pairwise (fun x y=>lex (kf x) (kf y)=false)→Inv X pins σ H' s'→P (.done (.ret .none)) s') :
  wpAny (model X.prog X.w) A (ksk_end a true vs.toArray e1 (.ref kS) keys) P E s:=by
 have hK':Paired (fun v n=>lG s.heap v (kf n)) keys.toList ns:=Paired.imp' (fun _ _ z=>Jt I.hok z) hK
 have hz:keys.size=ns.length:=by rw[←hK.len,Array.length_toList]
 have hvl:vs.length=ns.length:=by rw[←hv.length,List.length_map]
 have hzs:(keys.zip vs.toArray).size=ns.length:=by rw[Array.size_zip,hz,List.size_toArray,hvl,Nat.min_self]
 have fin:∀ st:SortSt,(arrOf st).Perm (keys.zip vs.toArray)→failedOf st=none→(∀ (i j:Nat) x y,i<j→(arrOf st)[i]?=some x→(arrOf st)[j]?=some y→lex (keyOf s.heap y.1) (keyOf s.heap x.1)=false) →
   wpAny (model X.prog X.w) A (ksk_tail a true e1 (.ref kS) st) P E s:=fun st hp hf hu=>by
  obtain⟨ns',o1,o2,o3⟩:=sorted_out (s:=s) hp hu hK' hv
  have hl':(ns'.map V.int).length≤1000:=by rw[List.length_map,o1.length_eq];exact hn
  exact Pu I ha hk hka (Nat.le_trans (by lia) (show 1000≤sizeLine by decide)) hf o3 (Nat.le_trans hl' (show 1000≤sizeLine by decide)) fun H' s' k1 k2 k3=>h H' s' ns' k1 k2 o1 o2 k3
 have hstart:((keys.zip vs.toArray).reverse).Perm (keys.zip vs.toArray):=Array.perm_iff_toList_perm.mpr (by rw[Array.toList_reverse];exact List.reverse_perm _)
 unfold ksk_end
 try dsimp only
 rw[if_pos rfl]
 refine wpAny_bind (wpAny_rule ?_)
 by_cases few:vs.toArray.size<2
 ·rw[if_pos few,if_pos few]
  refine wpAny_bind (wpAny_pure ?_)
  rw[StateT.run_pure]
  refine wpAny_bind (wpAny_pure ?_)
  refine fin (SortSt.mk' general' (keys.zip vs.toArray).reverse #[] 7 none) hstart rfl fun i j x y hij ex ey=>?_
  have h3:j<(keys.zip vs.toArray).reverse.size:=(Array.getElem?_eq_some_iff.mp ey).1
  rw[List.size_toArray] at few
  rw[Array.size_reverse] at h3
  lia
 ·rw[if_neg few,if_neg few]
  rw[List.size_toArray] at few
  obtain⟨fs,t1,t2,t3⟩:=Ba I.hok hK
  have ek:keys=keys.toList.toArray:=Array.toArray_toList.symm
  rw[show keyKind' keys=keyKind' keys.toList.toArray by rw[←ek]]
  refine wpAny_bind (PySem.W.kat_kind (T:=.type "int") t1 (by lia) (fun v hv=>?_) rfl ?_)
  ·obtain⟨i,t,rfl⟩:=t3 v hv
   exact PySem.W.Looks.of_pure rfl
  ·have e3:((Value.type "int") != Value.type "tuple")=true:=by decide
   rw[e3]
   have hal:fW (fun x:Keyed=>∃ k,lG s.heap x.1 k) (keys.zip vs.toArray).reverse:=fun i x ex=>by
    have m1:x∈(keys.zip vs.toArray).reverse.toList:=Array.mem_toList_iff.mpr (Array.mem_of_getElem? ex)
    rw[Array.toList_reverse,List.mem_reverse,ksk_zip] at m1
    obtain⟨x1,x2⟩:=x
    obtain⟨i,hi⟩:=List.getElem?_of_mem (List.of_mem_zip m1).1
    have hi':i<ns.length:=by rw[←hK.len];exact (List.getElem?_eq_some_iff.mp hi).1
    obtain⟨y,q1,q2⟩:=M6 hK' i _ (List.getElem?_eq_getElem hi')
    rw[hi] at q1;cases q1
    exact⟨_,q2⟩
   refine wpAny_bind (wpAny_mono (Rp (agv (s:=s)) (g:=7) (a₀:=(keys.zip vs.toArray).reverse)
    (Q:=fun _ st'=>(arrOf st').Perm (keys.zip vs.toArray)∧failedOf st'=none∧(∀ (i j:Nat) x y,i<j→(arrOf st')[i]?=some x→(arrOf st')[j]?=some y→lex (keyOf s.heap y.1) (keyOf s.heap x.1)=false))
    hal (by rw[Array.size_reverse,hzs];lia) fun a' p' g' hp' hu'=>⟨hp'.trans hstart,rfl,fun i j x y hij ex ey=>hu' i j x y (Nat.zero_le _) (Nat.le_of_lt hij) (by rw[←hp'.size_eq];exact (Array.getElem?_eq_some_iff.mp ey).1) ex ey⟩) ?_ fun _ _ e=>e)
   rintro⟨⟨⟩,st2⟩ s' ⟨rfl,o1,o2,o3⟩
   exact fin st2 o1 o2 o3
theorem Ju {H:Hp}{cs:List Addr}:Dk H H cs:=fun _ _ _ q=>q
theorem Dk.trans {H H' Xw:Hp}{cs:List Addr}(x:Dk H H' cs)(y:Dk H' Xw cs):Dk H Xw cs:=fun c o hc q=>y c o hc (x c o hc q)
theorem jB {H:Hp}{cs:List Addr}{a:Addr}{u:HO}(h:a∈cs∨H a=none):Dk H (upd H a u) cs:=fun c o hc q=>by
 rw[aJ (fun z=>?_)]
 ·exact q
 ·rcases h with h|h
  ·exact hc (z ▸ h)
  ·rw[z,h] at q;cases q
theorem Px {q:Value}(I:Inv X pins σ H s)(ha:H a=some (qZ a (seqObj "list" #[] e1)))(hk:H kS=some (qZ kS (seqObj "list" #[] 0)))(hka:kS≠a)(hv:Vals (ns.map V.int) vs)(hn:ns.length≤1000)
  (turn:∀ (n:Int) (t:Tok) (H':Hp) (s':Shared),n∈ns→Dk H H' [a,kS]→Inv X pins σ H' s' →
    wpAny (model X.prog X.w) A (call q [.int n t]) (fun v s''=>∃ r,v=.ref r∧H' r=none∧Inv X pins σ (upd H' r (.tup [.int (kf n).1,.int (kf n).2.1,.int (kf n).2.2])) s'') (fun _ _=>False) s')
  (h:∀ H' s' (ns':List Int),Dk H H' [a,kS]→H' a=some (.lst (ns'.map V.int))→ns'.Perm ns→ns'.Pairwise (fun x y=>lex (kf x) (kf y)=false)→Inv X pins σ H' s'→P (.done (.ret .none)) s') :
  wpAny (model X.prog X.w) A (ksk_rest a q true vs.toArray e1 (.ref kS)) P E s:=by
 have hvl:vs.length=ns.length:=by rw[←hv.length,List.length_map]
 unfold ksk_rest
 refine wpAny_bind (wpAny_rule ?_)
 rw[List.forIn_toArray]
 refine wpAny_bind (ksk_fold (fun i s'=>∃ H' kA c,Inv X pins σ H' s'∧Dk H H' [a,kS]∧H' a=some (qZ a (seqObj "list" #[] e1))∧H' kS=some (qZ kS (seqObj "list" kA c))∧iY H' kf kA.toList (ns.take i)) vs 0 s
  ⟨H,#[],0,I,Ju,ha,hk,by rw[List.take_zero];exact .nil⟩ ?step ?done)
 case step =>
  rintro j x s' hx ⟨H',kA,c,I',u',ha',hk',hK⟩
  simp only[Nat.zero_add] at hK ⊢
  have jlt:j<vs.length:=(List.getElem?_eq_some_iff.mp hx).1
  obtain⟨n,hnj⟩:∃ n,ns[j]?=some n:=⟨ns[j]'(by lia),List.getElem?_eq_getElem (by lia)⟩
  obtain⟨x',e1',e2⟩:=hv.get (i:=j) (x:=V.int n) (by rw[List.getElem?_map,hnj];rfl)
  rw[hx] at e1';cases e1'
  obtain⟨t,rfl⟩:=e2
  refine wpAny_bind (wpAny_attempt (wpAny_mono (turn n t H' s' (List.mem_of_getElem? hnj) u' I') (fun v s'' he=>?_) fun _ _ hF=>hF.elim))
  obtain⟨r,rfl,hr,I2⟩:=he
  have nra:a≠r:=fun z=>by rw[←z,ha'] at hr;cases hr
  have nrk:kS≠r:=fun z=>by rw[←z,hk'] at hr;cases hr
  have hk2:(upd H' r (.tup [.int (kf n).1,.int (kf n).2.1,.int (kf n).2.2])) kS=some (qZ kS (seqObj "list" kA c)):=by rw[aJ nrk];exact hk'
  have ha2:(upd H' r (.tup [.int (kf n).1,.int (kf n).2.1,.int (kf n).2.2])) a=some (qZ a (seqObj "list" #[] e1)):=by rw[aJ nra];exact ha'
  have u2:Dk H' (upd H' r (.tup [.int (kf n).1,.int (kf n).2.1,.int (kf n).2.2])) [a,kS]:=jB (.inr hr)
  have hr2:(upd H' r (.tup [.int (kf n).1,.int (kf n).2.1,.int (kf n).2.2])) r=some (.tup [.int (kf n).1,.int (kf n).2.1,.int (kf n).2.2]):=ak
  have hK2:iY (upd H' r (.tup [.int (kf n).1,.int (kf n).2.1,.int (kf n).2.2])) kf kA.toList (ns.take j):=hK.imp fun b xs q=>by rw[aJ (aM q hr)];exact q
  generalize upd H' r (.tup [.int (kf n).1,.int (kf n).2.1,.int (kf n).2.2])=H2 at I2 hk2 ha2 u2 hr2 hK2
  have hk0:=I2.exo hk2
  have hz:kA.size≤1000:=by
   have hlen:=hK.len
   rw[List.length_take,Array.length_toList] at hlen
   lia
  have s1:=Heap.SameBut.update s''.heap kS (Obj.mapSeq (·.push (.ref r)))
  obtain⟨c2,hc2⟩:=zK (·.push (.ref r)) hk0
  have I3:=I2.put (t':=s''.toks) (u:=qZ kS (seqObj "list" (kA.push (.ref r)) c2)) hk2 s1 ⟨_,hc2⟩ (Az hc2)
  try dsimp only
  refine wpAny_bind (listUpdate_at hk0 rfl ?_ (Nat.le_trans hz (show 1000≤sizeLine by decide)) (Nat.le_trans (Nat.le_of_eq (Array.size_push ..)) (Nat.succ_le_succ (Nat.le_trans hz (show 1000≤sizeLine by decide)))))
  have ek:ns.take (j+1)=ns.take j++[n]:=by rw[List.take_add_one,hnj];rfl
  have ea:(kA.push (Value.ref r)).toList=kA.toList++[Value.ref r]:=by simp
  refine wpAny_pure ⟨rfl,_,kA.push (.ref r),c2,I3,(u'.trans u2).trans (jB (.inl (by simp))),?_,ak,?_⟩
  ·rw[aJ hka.symm];exact ha2
  ·rw[ea,ek]
   refine (hK2.snoc ⟨r,rfl,hr2⟩).imp fun b xs q=>?_
   rw[aJ (fun z=>by rw[z,hk2] at q;cases q)]
   exact q
 case done =>
  rintro s' ⟨H',kA,c,I',u',ha',hk',hK⟩
  have e3:ns.take (0+vs.length)=ns:=List.take_of_length_le (by lia)
  rw[e3] at hK
  try dsimp only
  refine wpAny_bind (listItems_at (I'.exo hk') rfl ?_)
  exact Ru I' ha' hk' hka hK hv hn fun H2 s2 ns' k1 k2 k3 k4 k5=>h H2 s2 ns' (u'.trans k1) k2 k3 k4 k5
end
theorem grown (h:Heap)(o₁ o₂:Obj)(g:Obj→Obj)(hf:o₂.isFreed=false):(∀ b o,h.get? b=some o→(((h.push o₁).update h.objs.size g).push o₂).get? b=some o) ∧
  (((h.push o₁).update h.objs.size g).push o₂).get? (h.objs.size+1)=some o₂∧((h.push o₁).update h.objs.size g).objs.size=h.objs.size+1:=by
 have z:((h.push o₁).update h.objs.size g).objs.size=h.objs.size+1:=(Heap.size_update ..).trans (Heap.size_push ..)
 refine⟨fun b o e=>Heap.get?_push_of_some _ ?_,?_,z⟩
 ·exact (Heap.get?_update_ne _ _ _ _ (Nat.ne_of_lt (Heap.lt_size e))).trans (Heap.get?_push_of_some _ e)
 ·rw[←z]
  exact Heap.get?_push_size _ hf
theorem aak {X:Cx}{pins:List (Addr×Obj)}{σ:List (Option V)}{H:Hp}{s:Shared}{Q E:Value→Shared→Prop}{l q:Addr}{ns:List Int}{kf:Int→Int×Int×Int}(I:Inv X pins σ H s)(hl:H l=some (.lst (ns.map V.int)))(hn:ns.length≤1000)
  (turn:∀ (n:Int) (t:Tok) (H':Hp) (s':Shared),n∈ns→(∀ c o,H c=some o→H' c=some o)→Inv X pins σ H' s' →
    wpAny (model X.prog X.w) X.A.in1.in1 (call (.ref q) [.int n t]) (fun v s''=>∃ r,v=.ref r∧H' r=none∧Inv X pins σ (upd H' r (.tup [.int (kf n).1,.int (kf n).2.1,.int (kf n).2.2])) s'') (fun _ _=>False) s')
  (done:∀ (D:Addr) (H':Hp) (s':Shared) (ns':List Int),(∀ c o,H c=some o→H' c=some o)→H' D=some (.lst (ns'.map V.int))→H D=none→ns'.Perm ns→ns'.Pairwise (fun x y=>lex (kf x) (kf y)=false)→Inv X pins σ H' s'→Q (.ref D) s') :
  wpAny (model X.prog X.w) X.A (call (.builtin "sorted") [.ref l] [(Str.ofString "key",.ref q),(Str.ofString "reverse",.bool true)]) Q E s:=by
 obtain⟨vs,n0,rv,hL⟩:=(show dG X.prog X.w H s.heap l (.lst _) from I.hok l _ hl).2
 have hvl:vs.length=ns.length:=by rw[←rv.length,List.length_map]
 have hsL:vs.length≤sizeLine:=Nat.le_trans (by lia) (show 1000≤sizeLine by decide)
 refine call_function_entry_kw kind_sorted plain_sorted entry_sorted (ksk_s2 _ _ _) ?_
 unfold Builtin.«sorted»
 refine wpAny_bind (wpAny_pure (α:=Unit) (a:=()) (M:=model X.prog X.w) ?_)
 refine wpAny_bind (collect_list (vs:=vs) ⟨_,hL,rfl,_,rfl⟩ ?_ hsL)
 refine wpAny_bind (wpAny_newList ?_ hsL)
 obtain⟨keep,hoL,hsz⟩:=grown s.heap (seqObj "list" #[] 0) (seqObj "list" vs.toArray 0) (Obj.mapSeq (· ++ vs.toArray)) rfl
 show wpAny _ _ _ _ _ { s with heap:=((s.heap.push (seqObj "list" #[] 0)).update s.heap.objs.size (Obj.mapSeq (· ++ vs.toArray))).push (seqObj "list" vs.toArray 0) }
 rw[hsz]
 generalize ((s.heap.push (seqObj "list" #[] 0)).update s.heap.objs.size (Obj.mapSeq (· ++ vs.toArray))).push (seqObj "list" vs.toArray 0)=h1 at keep hoL ⊢
 have hD:H (s.heap.objs.size+1)=none:=I.hok.fresh (Nat.le_succ _)
 have I1:=I.laid (a:=s.heap.objs.size+1) (o:=qZ (s.heap.objs.size+1) (seqObj "list" vs.toArray 0)) (t':=s.toks) keep (Nat.le_succ _) (Az hoL)
 generalize s.heap.objs.size+1=D at hoL hD I1 ⊢
 have hH1:(upd H D (qZ D (seqObj "list" vs.toArray 0))) D=some (qZ D (seqObj "list" vs.toArray 0)):=ak
 have u1:∀ c o,H c=some o→(upd H D (qZ D (seqObj "list" vs.toArray 0))) c=some o:=fun c o q=>by rw[aJ (aM q hD)];exact q
 generalize upd H D (qZ D (seqObj "list" vs.toArray 0))=H1 at I1 hH1 u1
 have hs1:({ s with heap:=h1,toks:=s.toks }:Shared).heap=h1:=rfl
 refine wpAny_bind (wpAny_holding (wpAny_call_entry_kw slot_list_sort ⟨_,hoL,rfl⟩ entry_list_sort ?body (ksk_l2 _ _ _)))
 case body =>
  show wpAny (model X.prog X.w) X.A.in1.in1 (Builtin.«list.sort» ⟨[.ref D],[(Str.ofString "key",.ref q),(Str.ofString "reverse",.bool true)]⟩) _ _ _
  rw[ksk_t2]
  unfold ksk_tree
  have s1:=Heap.SameBut.update h1 D (Obj.mapSeq fun _=>(#[]:Array Value))
  obtain⟨e1,ho1⟩:=zK (fun _=>(#[]:Array Value)) hoL
  have I2:=I1.put (t':=s.toks) (u:=qZ D (seqObj "list" #[] e1)) hH1 s1 ⟨_,ho1⟩ (Az ho1)
  have hH2:(upd H1 D (qZ D (seqObj "list" #[] e1))) D=some (qZ D (seqObj "list" #[] e1)):=ak
  have u2:∀ c o,H c=some o→(upd H1 D (qZ D (seqObj "list" #[] e1))) c=some o:=fun c o q=>by rw[aJ (aM q hD)];exact u1 c o q
  generalize upd H1 D (qZ D (seqObj "list" #[] e1))=H2 at I2 hH2 u2
  refine wpAny_bind (listItems_at hoL rfl ?_)
  refine wpAny_bind (listUpdate_at hoL rfl ?_ (by rw[List.size_toArray];exact hsL) (Nat.zero_le _))
  refine wpAny_bind (seqEpoch_at ho1 rfl ?_)
  refine wpAny_bind (wpAny_newTuple ?_ hsL)
  refine wpAny_bind (wpAny_newList ?_ (Nat.zero_le _))
  refine wpAny_holding ?_
  generalize h1.update D (Obj.mapSeq fun _=>(#[]:Array Value))=h2 at I2 ⊢
  have I3:=(I2.kept (t':=s.toks) (h':=h2.push (seqObj "tuple" vs.toArray 0)) fun b u e=>Heap.get?_push_of_some _ e).laid (a:=(h2.push (seqObj "tuple" vs.toArray 0)).objs.size) (o:=qZ (h2.push (seqObj "tuple" vs.toArray 0)).objs.size (seqObj "list" #[] 0)) (t':=s.toks)
   (h':=(h2.push (seqObj "tuple" vs.toArray 0)).push (seqObj "list" #[] 0)) (fun b u e=>Heap.get?_push_of_some _ e) (Nat.le_refl _) (Az (Heap.get?_push_size _ rfl))
  have hkn:H2 (h2.push (seqObj "tuple" vs.toArray 0)).objs.size=none:=I2.hok.fresh (by show h2.objs.size≤_;rw[Heap.size_push];lia)
  show wpAny _ _ (ksk_rest D (.ref q) true vs.toArray e1 (.ref (h2.push (seqObj "tuple" vs.toArray 0)).objs.size)) _ _ { s with heap:=(h2.push (seqObj "tuple" vs.toArray 0)).push (seqObj "list" #[] 0),toks:=s.toks }
  generalize (h2.push (seqObj "tuple" vs.toArray 0)).objs.size=kS at I3 hkn ⊢
  have hkD:kS≠D:=fun z=>by rw[z,hH2] at hkn;cases hkn
  have hH3:(upd H2 kS (qZ kS (seqObj "list" #[] 0))) D=some (qZ D (seqObj "list" #[] e1)):=by rw[aJ hkD.symm];exact hH2
  have hK3:(upd H2 kS (qZ kS (seqObj "list" #[] 0))) kS=some (qZ kS (seqObj "list" #[] 0)):=ak
  have u3:∀ c o,H c=some o→(upd H2 kS (qZ kS (seqObj "list" #[] 0))) c=some o:=fun c o q=>by rw[aJ (aM (u2 c o q) hkn)];exact u2 c o q
  generalize upd H2 kS (qZ kS (seqObj "list" #[] 0))=H3 at I3 hH3 hK3 u3
  have nk:∀ c o,H c=some o→c∉[D,kS]:=fun c o q hc=>by
   rcases List.mem_cons.mp hc with z|hc
   ·exact aM q hD z
   ·exact aM (u2 c o q) hkn (by simpa using hc)
  refine Px I3 hH3 hK3 hkD rv hn (fun n t H' s' h1 h2 h3=>turn n t H' s' h1 (fun c o q=>h2 c o (nk c o q) (u3 c o q)) h3) fun H' s' ns' k1 k2 k3 k4 k5=>⟨_,rfl,?_⟩
  exact wpAny_pure ⟨_,rfl,done D H' s' ns' (fun c o q=>k1 c o (nk c o q) (u3 c o q)) k2 hD k3 k4 k5⟩
def Xx (c:Addr)(qual:Str):HO:=.ext fun h=>h.CodeRec (.ref c) qual
theorem Xy {P:Program}{w:World}{H:Hp}{h:Heap}{c:Addr}{qual:Str}(e:h.CodeRec (.ref c) qual):dG P w H h c (Xx c qual):=by
 refine⟨e,?_,fun h1 h2 p k=>?_⟩
 ·obtain⟨c',o,vs,t,e1,e2,_⟩:=e
  cases e1
  exact⟨o,e2⟩
 ·obtain⟨c',o,vs,t,e1,e2,r⟩:=p
  cases e1
  exact⟨_,o,vs,t,rfl,k o e2,r⟩
def TabOk (P:Addr)(pos:Pos)(qual:Str)(H:Hp):Prop:=∃ ps,H P=some (.IW ps)∧(ps = #[]∨∃ c,ps = #[rawInt pos.line,rawInt pos.col,.ref c]∧H c=some (Xx c qual))
structure Jv (K:PySem.W.Frag)(mg:Str→Option Value)(cdv:Value)(P:Addr):Prop where
 hd:∃ c,cdv=.ref c∧∀ h,K.In h→PySem.W.CodeHd h c P
 blt:∀ h,K.In h→h.BuiltinsAt mg P
 nP:mainGlobals≠P
def M7 (P:Addr)(H H':Hp):Prop:=∀ c o,c≠P→H c=some o→H' c=some o
section
variable{X:Cx}{pins:List (Addr×Obj)}{σ:List (Option V)}{H:Hp}{s:Shared}
theorem TabOk.ne {P:Addr}{pos:Pos}{qual:Str}(t:TabOk P pos qual H){c:Addr}{o:HO}(e:H c=some o)(n:∀ ps,o≠.IW ps):c≠P:=fun z=>by
 obtain⟨ps,h,_⟩:=t
 rw[z,h] at e
 cases e
 exact n ps rfl
theorem TabOk.same {P:Addr}{pos:Pos}{qual:Str}{H H':Hp}(t:TabOk P pos qual H)(s:Same H H'):TabOk P pos qual H':=by
 obtain⟨ps,h,r⟩:=t
 refine⟨ps,s _ _ h,?_⟩
 rcases r with r|⟨c,r1,r2⟩
 ·exact .inl r
 ·exact .inr ⟨c,r1,s _ _ r2⟩
theorem Inv.Wt {o:Obj}{h':Heap}{t':Nat}(I:Inv X pins σ H { s with heap:=h',toks:=t' })(hd:∀ v,o.data≠.cell v)(hfr:o.isFreed=false):
  (H h'.objs.size=none)∧Inv X ((h'.objs.size,o)::pins) σ H { s with heap:=h'.push o,toks:=t' }:=by
 have hf:H h'.objs.size=none:=I.hok.fresh (Nat.le_refl _)
 have J:=I.kept (t':=t') (h':=h'.push o) fun b u e=>Heap.get?_push_of_some _ e
 refine⟨hf,J.sY fun p hp=>?_⟩
 rcases List.mem_cons.mp hp with rfl|hp
 ·refine⟨Heap.get?_push_size _ hfr,hf,?_,I.W9 (Nat.le_refl _),hd⟩
  exact Nat.ne_of_gt I.lt
 ·exact J.pin p (List.mem_append_right _ hp)
theorem Xz {A:Around}{E Q:Value→Shared→Prop}{params:Arguments}{body:Expr}{scope:Scope}{pos:Pos}{clos:List (Str×Addr)}{P:Addr}(I:Inv X pins σ H s)(L:Jv X.K X.mg X.env.code P)(T:TabOk P pos (X.env.qual ++ "<lambda>") H)
  (hcl:closureFor scope X.env=pure clos) (hdf:defaultsOf params X.env=([],[]))
  (h:∀ f c' ctv pm H' s',M7 P H H'→TabOk P pos (X.env.qual ++ "<lambda>") H'→H' c'=some (Xx c' (X.env.qual ++ "<lambda>")) →
    Inv X ((f,PySem.W.kla_obj "<lambda>" (X.env.qual ++ "<lambda>") params body scope clos pm c' ctv)::pins) σ H' s'→Q (.ref f) s') :
  wpAny (model X.prog X.w) A (eval (.Lambda params body scope pos) X.env) Q E s:=by
 refine PySem.W.kla_eval hdf ?_
 obtain⟨ps,hP,r⟩:=T
 obtain⟨c,hc,Wu⟩:=L.hd
 have gP:s.heap.get? P=some (PySem.W.tabObj ps):=I.hok P _ hP
 have hg:s.heap.Ns mainGlobals X.mg:=I.ok.mod.glob.keeps I.bk
 rcases r with rfl|⟨c',rfl,hc'⟩
 ·refine PySem.W.kla_makeFunction (mg:=X.mg) hcl I.ok.glob hg hc (Wu _ I.uc) gP trivial rfl L.nP (L.blt _ I.uc) fun c' ctv h' tk hx hge hlt hrec htb=>?_
  have htb':h'.get? P=some (PySem.W.tabObj #[rawInt pos.line,rawInt pos.col,.ref c']):=htb
  have hnP:∀ b u,H b=some u→(∀ ps,u≠.IW ps)→b≠P:=fun b u e n z=>by rw[z,hP] at e;cases e;exact n _ rfl
  have hnN:∀ b,H b=none→b≠P:=fun b e z=>by rw[z,hP] at e;cases e
  have hfc:H c'=none:=I.hok.fresh hge
  have hcP:P≠c':=(hnN c' hfc).symm
  have u:Un X.fs [] H (upd (upd H P (.IW #[rawInt pos.line,rawInt pos.col,.ref c'])) c' (Xx c' (X.env.qual ++ "<lambda>"))) s.heap h' :=
   { keep:=fun b o e n _ _=>hx b o (hnN b n) e
     slot:=fun b o e n _ _=>⟨o.slots,hx b o (hnN b n) e⟩
     free:=fun b o e n _=>by rw[aJ (Nat.ne_of_lt (Nat.lt_of_lt_of_le (Heap.lt_size e) hge)),aJ (hnN b n)];exact n
     there:=fun b o e _=>by
      by_cases z:b=P
      ·rw[z];exact⟨_,htb'⟩
      ·exact⟨o,hx b o z e⟩
     tups:=fun b xs e=>by rw[aJ (aM e hfc),aJ (hnP b _ e (fun _ z=>by cases z))];exact e
     zX:=fun b o xs e=>by rw[aJ (aM e hfc),aJ (hnP b _ e (fun _ z=>by cases z))];exact e
     zY:=fun b qs e=>by
      by_cases z:b=P
      ·subst z
       rw[hP] at e;cases e
       exact⟨#[rawInt pos.line,rawInt pos.col,.ref c'],by rw[aJ hcP,ak];simp⟩
      ·exact⟨#[],by rw[aJ (aM e hfc),aJ z,e];simp⟩ }
  have hok:uE X.prog X.w (upd (upd H P (.IW #[rawInt pos.line,rawInt pos.col,.ref c'])) c' (Xx c' (X.env.qual ++ "<lambda>"))) h':=fun b o e=>by
   by_cases z:b=c'
   ·subst z
    rw[ak] at e;cases e
    exact Xy hrec
   ·rw[aJ z] at e
    by_cases z2:b=P
    ·subst z2
     rw[ak] at e;cases e
     exact htb'
    ·rw[aJ z2] at e
     refine (I.hok b o e).stay (fun d v hd q=>hx d v ?_ q) (fun d q=>?_) fun d xs q=>?_
     ·rcases hd with rfl|hd
      ·exact z2
      ·exact hnP d _ hd (fun _ z=>by cases z)
     ·rw[aJ (aM q hfc),aJ (hnP d _ q (fun _ z=>by cases z))];exact q
     ·rw[aJ (aM q hfc),aJ (hnP d _ q (fun _ z=>by cases z))];exact q
  have I1:=I.un (t':=tk) u hok
  obtain⟨_,I2⟩:=I1.Wt (o:=PySem.W.kla_obj "<lambda>" (X.env.qual ++ "<lambda>") params body scope clos ((X.mg "__name__").getD .none) c' ctv) (fun v z=>by cases z) rfl
  refine h _ c' ctv _ _ _ (fun b o n e=>?_) ⟨_,?_,.inr ⟨c',rfl,ak⟩⟩ ak I2
  ·rw[aJ (aM e hfc),aJ n];exact e
  ·rw[aJ hcP,ak]
 ·have hf:codeAmong pos (#[rawInt pos.line,rawInt pos.col,Value.ref c']:Array Value).toList=some (.ref c'):=by
   simp[codeAmong,rawInt]
  refine PySem.W.kla_makeFunctionHit (mg:=X.mg) hcl I.ok.glob hg hc (Wu _ I.uc) gP trivial hf (L.blt _ I.uc) fun ctv h' tk hk hsz=>?_
  have I1:=I.kept (t':=tk) hk
  obtain⟨_,I2⟩:=I1.Wt (o:=PySem.W.kla_obj "<lambda>" (X.env.qual ++ "<lambda>") params body scope clos ((X.mg "__name__").getD .none) c' ctv) (fun v z=>by cases z) rfl
  exact h _ c' ctv _ _ _ (fun b o n e=>e) ⟨_,hP,.inr ⟨c',rfl,hc'⟩⟩ hc' I2
def cxL (X:Cx)(A:Around)(s:Shared)(H:Hp)(N:List Str)(env:Env):Cx :=
 { prog:=X.prog,w:=X.w,K:=X.K,mg:=X.mg,base:=X.base,A:=A.deeper env,N:=N,s₀:=s,H₀:=H,env:=env,outer:=X.stack,stack:=env::X.stack,ex:=[],fn:=fun _=>false,calm:=true,pn:=[],xe:=fun _ _=>False }
theorem Rv {A:Around}{E Q:Value→Shared→Prop}{Q':VK}{f c c':Addr}{name qual:Str}{params:Arguments}{body:Expr}{scope:Scope}{pm ctv:Value}{x y:Str}{u ub:Value}{v vb:V}{t:TE}
  (I:Inv X pins σ H s) (hp:(f,PySem.W.kla_obj name qual params body scope [(y,c)] pm c' ctv)∈X.pn++pins) (hc:H c'=some (Xx c' qual)) (hA:A.frames=some X.stack) (hh:A.handled=none) (hroom:A.depth<recursionLimit)
  (hc1:X.env.cells.lookup y=some c) (hcu:s.heap.IsCell c (some ub)) (rb:RelV vb ub) (rv:RelV v u) (hsc:scope.names=[(x,.local),(y,.free)]) (hk:scope.kind=.function) (hco:scope.isCoroutine=false) (hgen:scope.isGenerator=false) (hxy:x≠y)
  (hbind:bindArgs (PySem.W.kla_fn name qual params body scope [(y,c)] pm (.ref c') ctv) ⟨[u],[]⟩=pure [(x,u)])
  (hb:PE (cxL X A s H [x,y] (PySem.W.envX qual scope s.heap.objs.size f (.ref c') [(y,c)])) body t) (ht:t [some v,some vb] H Q')
  (q:∀ u' s' v' H',Inv X pins σ H' s'→RelV v' u'→Q' v' H'→Q u' s'):wpAny (model X.prog X.w) A (call (.ref f) [u]) Q E s:=by
 have hfo:=(I.pin _ hp).1
 have hrec:s.heap.CodeRec (.ref c') qual:=(show dG X.prog X.w H s.heap c' (Xx c' qual) from I.hok c' _ hc).1
 refine wpAny_call (PySem.W.kla_callFunE hroom hfo rfl hco hgen rfl hrec ?_)
 rw[hbind]
 have lx:scope.names.lookup x=some .local:=by rw[hsc];simp
 have ly:scope.names.lookup y=some .free:=by rw[hsc,List.lookup_cons,show (y == x)=false from beq_eq_false_iff_ne.mpr (Ne.symm hxy)];simp
 refine wpAny_pure (wpAny_newFunctionEnv (fun z hz=>?_) (fun z hz=>?_) (fun h₁ hns hsb=>?_) hk)
 ·rw[hsc] at hz
  rcases List.mem_cons.mp hz with rfl|hz
  ·exact fun z=>by cases z
  ·rw[List.mem_singleton.mp hz];exact fun z=>by cases z
 ·rw[List.mem_singleton.mp hz];exact lx
 ·have hk₁:∀ b o,s.heap.get? b=some o→h₁.get? b=some o:=fun b o e=>hsb.extBut b o (Nat.ne_of_lt (Heap.lt_size e)) (Heap.get?_push_of_some _ e)
  refine⟨I.nolimit.keeps hk₁,?_⟩
  show codeAny _ _ (.expr body (PySem.W.envX qual scope s.heap.objs.size f (.ref c') [(y,c)])) _ _
  refine PySem.W.kla_codeExpr ?_
  have cellK:h₁.IsCell c (some ub):=let ⟨o,e1,e2⟩:=hcu;⟨o,hk₁ _ _ e1,e2⟩
  have lk:∀ z d,([(y,c)]:List (Str×Addr)).lookup z=some d→z=y∧d=c:=fun z d e=>by
   rw[List.lookup_cons] at e
   cases hz:z == y with
   | true=>rw[hz] at e;cases e;exact⟨eq_of_beq hz,rfl⟩
   | false=>rw[hz] at e;cases e
  have J:Inv (cxL X A s H [x,y] (PySem.W.envX qual scope s.heap.objs.size f (.ref c') [(y,c)])) [] [some v,some vb] H { s with heap:=h₁,toks:=s.toks+1 }:=by
   refine⟨⟨I.ok.mod,hk,rfl,rfl,Nat.le_refl _,fun z1 z2 d e1 e2=>(lk _ _ e1).1.trans (lk _ _ e2).1.symm,fun z hz=>?_,fun z d e=>(by cases e),fun _=>hh,Around.frames_deeper hA,.inr ⟨rfl,rfl⟩,fun b z=>absurd (show b∈([]:List Addr) from z) (by simp),I.bs,Nat.le_trans I.ok.Qt I.sz,fun b o _ z=>absurd (show b∈([]:List Addr) from z) (by simp),fun b z=>absurd (show b∈([]:List Addr) from z) (by simp),I.stack,I.Gj⟩,
    rfl,I.bare,Un.kept hk₁,⟨_,hns,fun i z w e1 e2 e3=>?_⟩,fun z d e=>?_,I.hok.fresh (Nat.le_refl _),fun z d e=>?_,fun p hp=>absurd (show p∈([]:List (Addr×Obj)) from hp) (by simp),I.hok.kept hk₁,rfl⟩
   ·have hz':scope.names.lookup z=some .cell∨scope.names.lookup z=some .free:=hz
    rw[hsc,List.lookup_cons] at hz'
    cases q1:z == x with
    | true=>rw[q1] at hz';rcases hz' with z|z<;>cases z
    | false =>
     rw[q1,List.lookup_cons] at hz'
     cases q2:z == y with
     | true=>exact⟨c,by show ([(y,c)]:List (Str×Addr)).lookup z=some c;rw[List.lookup_cons,q2]⟩
     | false=>rw[q2] at hz';rcases hz' with z|z<;>cases z
   ·match i,e1,e2 with
    | 0,e1,e2 =>
     have e1':some x=some z:=e1
     have e2':some (some v)=some (some w):=e2
     cases e1';cases e2'
     exact⟨u,rv,.inl ⟨lx,by simp⟩⟩
    | 1,e1,e2 =>
     have e1':some y=some z:=e1
     have e2':some (some vb)=some (some w):=e2
     cases e1';cases e2'
     exact⟨ub,rb,.inr ⟨.inr ly,c,by show ([(y,c)]:List (Str×Addr)).lookup y=some c;simp,cellK⟩⟩
    | n+2,e1,e2=>simp[cxL] at e1
   ·obtain⟨rfl,rfl⟩:=lk z d e
    exact⟨_,cellK⟩
   ·obtain⟨rfl,rfl⟩:=lk z d e
    exact I.qp _ _ hc1
  refine wpAny_mono (hb [] _ _ H _ J ht) (fun u' s' hs=>?_) fun e s' hs=>hs.elim
  obtain⟨v',H',J',r',q'⟩:=hs
  exact q u' s' v' H' (I.call' (ch:=[]) J'.os J'.base J'.hok J'.bare fun b z=>absurd z (by simp)) r' q'
end
def Rx (P:Addr)(wX:Pos)(qual:Str)(j:Nat)(tb:TE)(σ:St)(Q:VK)(xl:V)(H1:Hp):Prop:=∃ (l:Addr) (ns:List Int) (vb:V) (kf:Int→Int×Int×Int),xl=.ref l∧H1 l=some (.lst (ns.map V.int))∧ns.length≤1000∧σ[j]?=some (some vb)∧TabOk P wX qual H1 ∧
 (∀ n∈ns,∀ H',M7 P H1 H'→tb [some (.int n),some vb] H' (fun v Xw=>∃ r,v=.ref r∧H' r=none∧Xw=upd H' r (.tup [.int (kf n).1,.int (kf n).2.1,.int (kf n).2.2]))) ∧
 (∀ (D:Addr) (H':Hp) (ns':List Int),M7 P H1 H'→TabOk P wX qual H'→H' D=some (.lst (ns'.map V.int))→H1 D=none→ns'.Perm ns→ns'.Pairwise (fun x y=>lex (kf x) (kf y)=false)→Q (.ref D) H')
def XC (P:Addr)(wX:Pos)(qual:Str)(j:Nat)(tb ta:TE):TE:=fun σ H Q=>ta σ H (Rx P wX qual j tb σ Q)
theorem Ry {X:Cx}{k j:Nat}{P c:Addr}{x y:Str}{e:Expr}{ta tb:TE}{params:Arguments}{body:Expr}{scope:Scope}{p pos wX kpos rpos cpos:Pos}{ck:Nat}(L:Jv X.K X.mg X.env.code P)(hr:iD k X.A)
  (hg:Gl X "sorted") (hm:X.mg "sorted" = none) (hv:bootBuiltins "sorted" = some (.builtin "sorted")) (ha:PA X [e] (dM ta nR))
  (hcl:closureFor scope X.env=pure [(y,c)]) (hce:X.env.cells.lookup y=some c) (hky:X.env.kindOf y=some .cell) (hj:X.N[j]?=some y) (hdf:defaultsOf params X.env=([],[]))
  (hsc:scope.names=[(x,.local),(y,.free)]) (hk:scope.kind=.function) (hco:scope.isCoroutine=false) (hgen:scope.isGenerator=false) (hxy:x≠y)
  (hbind:∀ (pm ctv u:Value) (c':Addr),bindArgs (PySem.W.kla_fn "<lambda>" (X.env.qual ++ "<lambda>") params body scope [(y,c)] pm (.ref c') ctv) ⟨[u],[]⟩=pure [(x,u)])
  (hb:∀ (A:Around) (s:Shared) (H:Hp) (l f c':Addr),PE (cxL X A s H [x,y] (PySem.W.envX (X.env.qual ++ "<lambda>") scope l f (.ref c') [(y,c)])) body tb)
  (he:starEach [e] X.env=(false,eval e X.env)::starEach [] X.env:=by rfl) :
  PE X (.Call (.Name "sorted" p) [e] [⟨some "key",.Lambda params body scope wX,kpos⟩,⟨some "reverse",.Constant (.bool true) ck cpos,rpos⟩] pos) (XC P wX (X.env.qual ++ "<lambda>") j tb ta):=by
 intro pins s σ H Q I h
 refine wpAny_Call_Name_kw (pI I hg hm hv ?_)
 refine callWith_kw (eE (ha pos pins s σ H (fun xs H1=>match xs with | [xl]=>Rx P wX (X.env.qual ++ "<lambda>") j tb σ Q xl H1|_=>False) I h) ?_) (by rw[he];rfl) (by rw[he];rfl)
 ·rintro us s1 ⟨vs,H1,I1,r1,hvs⟩
  obtain⟨xl,rfl⟩:∃ xl,vs=[xl]:=by
   match vs,hvs with
   | [xl],_=>exact⟨xl,rfl⟩
  obtain⟨l,ns,vb,kf,rfl,hl,hn,hσ,hT,hbody,hq⟩:=hvs
  obtain⟨ul,rfl,rl⟩:=vals1 r1
  cases rl
  show wpAny _ _ (evalAll [(do let v ←eval (.Lambda params body scope wX) X.env;standAt pos;pure v),(do let v ←eval (.Constant (.bool true) ck cpos) X.env;standAt pos;pure v)]) _ _ s1
  refine wpAny_evalAll_cons (wpAny_bind (Xz I1 L hT hcl hdf fun f c' ctv pm H2 s2 sb hT2 hc2 I2=>wpAny_bind (wpAny_standAt (wpAny_pure ?_))))
  refine wpAny_evalAll_cons (wpAny_bind (Constant_bool (wpAny_bind (wpAny_standAt (wpAny_pure (wpAny_evalAll_nil ?_))))))
  show wpAny _ _ (call (.builtin "sorted") [.ref l] [(Str.ofString "key",.ref f),(Str.ofString "reverse",.bool true)]) _ _ _
  have hl2:H2 l=some (.lst (ns.map V.int)):=sb _ _ (hT.ne hl fun _ z=>by cases z) hl
  refine aak I2 hl2 hn (kf:=kf) (fun n t H' s' hns same I'=>?_) fun D H' s' ns' same hD Rz hp ho I'=>?_
  ·obtain⟨m,hns',hloc⟩:=I'.loc
   obtain⟨ub,rb,hlk⟩:=hloc j y vb hj hσ (.inr (.inl hky))
   have hcu:s'.heap.IsCell c (some ub):=by
    rcases hlk with⟨z,_⟩|⟨_,d,e1,e2⟩
    ·rw[hky] at z;cases z
    ·rw[hce] at e1;cases e1;exact e2
   have hfr:=I'.ok.frames
   refine Rv (Q':=fun v Xw=>∃ r,v=.ref r∧H' r=none∧Xw=upd H' r (.tup [.int (kf n).1,.int (kf n).2.1,.int (kf n).2.2])) I' (List.mem_append_right _ (.head _)) (same _ _ hc2) (by show X.A.frames=_;exact hfr) (show X.A.handled=none from hr.hd) (show X.A.depth<recursionLimit from hr.depth) hce hcu rb (v:=.int n) ⟨t,rfl⟩ hsc hk hco hgen hxy (hbind _ _ _ _) (hb _ _ _ _ _ _)
    (hbody n hns H' fun b o hb' q=>same _ _ (sb b o hb' q)) ?_
   rintro u' s'' v' Xw I'' rv' ⟨r,rfl,hr0,rfl⟩
   cases rv'
   exact⟨r,rfl,hr0,I''⟩
  ·have hD1:H1 D=none:=by
    cases z:H1 D with
    | none=>rfl
    | some o =>
     by_cases zP:D=P
     ·obtain⟨ps,h1,_⟩:=hT2
      rw[zP,h1] at Rz;cases Rz
     ·rw[sb D o zP z] at Rz;cases Rz
   refine⟨.ref D,H',?_,rfl,hq D H' ns' (fun b o hb' q=>same _ _ (sb b o hb' q)) (hT2.same same) hD hD1 hp ho⟩
   exact I'.sY fun q hq=>I'.pin q (List.mem_append_right _ (.tail _ hq))
theorem gY.okc {P:Program}{w:World}{K:PySem.W.Frag}{mg:Str→Option Value}{base:Heap}{x qual:Str}{st:Stmt}{f:Addr}{fd:FuncData}{N ps:List Str}{k:Nat}{sp:Sp}(F:gY K x qual st f fd)(S:aY N ps (aC st))(len:∀ vs H Q E,sp vs H Q E→vs.length=ps.length)
  (hbody:∀ (cdv:Value) (A:Around) (outer:List Env) (s:Shared) (H:Hp) (vs:List V) (Q:VK) (E:XK),fd.code=cdv→iD k (A.deeper (envOfC qual (aC st) s.heap.objs.size f cdv))→sp vs H Q E →
    ∃ t,KY (La gB P w K mg base N qual (aC st) f cdv A outer s H E).YS (aR st) t∧t { nx:=fun _ H'=>Q .non H',rt:=Q } (start N vs) H):cA P w K mg base gB (k+1) f fd ps sp:=by
 obtain⟨oc,od,kV,doc,pm,an,cdv,ct,osl,rfl,lk,hcd⟩:=F.ex
 refine Wi lk hcd S len fun A outer s H vs Q E hr hsp=>?_
 obtain⟨t,h,q⟩:=hbody cdv A outer s H vs Q E rfl hr hsp
 exact⟨t,h.YS,q⟩
theorem Py {P:Program}{w:World}{K:PySem.W.Frag}{mg mb:Str→Option Value}{CX:QM}{k:Nat}{fa a T c:Addr}{fd:FuncData}{x:Str}{sp:Sp}{s₁:Shared}{vs:List Value}{ns:List Int}
  (KX:K.In s₁.heap) (hns:s₁.heap.Ns mainGlobals mg) (hb:s₁.heap.Ns builtinsNs mb) (hbb:∀ x:Str,x ≠ "__name__" → mb x=bootBuiltins x) (hlim:s₁.heap.NoLimit) (hg:s₁.gens = #[])
  (ha:s₁.heap.get? a=some { cls:=.type "list",data:=.seq vs.toArray }) (hi:IntsAre vs ns) (hl:ns.length≤sizeLine) (hr:iD k callerA)
  (hT:s₁.heap.get? T=some (PySem.W.tabObj #[])) (Wu:PySem.W.CodeHd s₁.heap c T)
  (F:∀ base:Heap,K.In base→base.Ns mainGlobals mg→cA P w K mg base CX k fa fd [x] sp) (hbind:∀ (s:Shared) (u:Value),BindsTo s fd ⟨[u],[]⟩ [(x,u)]) (hKT:K.lookup T=none)
  (hsp:∀ H:Hp,H T=some (.IW #[])→aQ K H a (ns.map V.int)→sp [.ref a] H (fun v _=>v=.bl true) fun _ _ _=>False)
  (hCX:∀ H e s',CX [] H s₁ (fun _ _ _=>False) e s'→False) :
  codeAny (model P w) callerA (.call (.ref fa) ⟨[.ref a],[]⟩) (fun r s'=>r=.ok (.ret (.bool true))∧OldK s₁.heap s'.heap∧s'.os=s₁.os∧AllBare s'.gens) s₁:=by
 have rv:=Fl hi
 have lenV:=hi.length
 have naT:a≠T:=fun z=>by rw[z,hT] at ha;cases ha
 have core:∀ H:Hp,H T=some (.IW #[])→(∀ b,b≠T→H b=none∨b=a∧∃ o xs,H b=some (.Mt o (.lst xs)))→aQ K H a (ns.map V.int)→uE P w H s₁.heap→(H a≠none→K.lookup a=none) →
   codeAny (model P w) callerA (.call (.ref fa) ⟨[.ref a],[]⟩) (fun r s'=>r=.ok (.ret (.bool true))∧OldK s₁.heap s'.heap∧s'.os=s₁.os∧AllBare s'.gens) s₁:=by
  intro H hHT hO hS hok hK
  have M8:∀ {b:Addr} {o:Obj},s₁.heap.get? b=some o→H b=none→(Gi s₁.heap H).get? b=some o:=fun e n=>Qs e n
  have ZQ:∀ {b:Addr} {o:Obj} {es:Array DictEntry} {ep:Nat},s₁.heap.get? b=some o→o.data=.dict es ep→H b=none:=fun {b o es ep} e d=>by
   by_cases zT:b=T
   ·rw[zT,hT] at e;cases e;cases d
   ·rcases hO b zT with z|⟨z,_⟩
    ·exact z
    ·subst z
     rw[ha] at e;cases e
     have d':Data.seq vs.toArray _=Data.dict es ep:=d
     cases d'
  have nsK:∀ {b:Addr} {m:Str→Option Value},s₁.heap.Ns b m→(Gi s₁.heap H).Ns b m:=fun {b m} ⟨o,es,ep,e,d,r⟩=>⟨o,es,ep,M8 e (ZQ e d),d,r⟩
  have hKb:K.In (Gi s₁.heap H):=fun b o e=>M8 (KX b o e) (by
   have zT:b≠T:=fun z=>by rw[z,hKT] at e;cases e
   rcases hO b zT with z|⟨z,o',xs,z2⟩
   ·exact z
   ·subst z
    rw[hK (by rw[z2];simp)] at e;cases e)
  have hM:Mod K mg (Gi s₁.heap H):=⟨hKb,nsK hns,⟨mb,nsK hb,hbb⟩,let ⟨mc,h1,h2⟩:=hlim;⟨mc,nsK h1,h2⟩⟩
  have e0:K8 P w K mg (Gi s₁.heap H) callerA [] s₁ H:=⟨rfl,hM,fun b o e=>Ue e,Nat.le_of_eq (Oe _ _),trivial,fun b hb=>absurd (show b∈([]:List Addr) from hb) (by simp),hok,.of_eq hg⟩
  refine codeAny_mono ((F _ hKb (nsK hns)).run callerA [] s₁ H ⟨[.ref a],[]⟩ [.ref a] [.ref a] _ _ hr e0 (hbind s₁ (.ref a)) (.cons rfl .nil) (hsp H hHT hS)) fun r s' h=>?_
  cases r with
  | error e=>exact (hCX H e s' h).elim
  | ok fl =>
   cases fl with
   | next=>exact False.elim h
   | brk=>exact False.elim h
   | cont=>exact False.elim h
   | ret u =>
    obtain⟨v,H',os,bare,un,hok',r',q⟩:=h
    have q':v=.bl true:=q
    subst q'
    obtain rfl:u=Value.bool true:=r'
    have kept:∀ b o,b≠T→s₁.heap.get? b=some o→s'.heap.get? b=some o:=fun b o zT e=>by
     rcases hO b zT with z|⟨_,ob,xs,z⟩
     ·exact un.keep b o e z (fun q=>absurd (show b∈([]:List Addr) from q) (by simp)) (by simp)
     ·have z2:=un.zX b ob _ z
      obtain⟨e1,_⟩:=hok b _ z
      obtain⟨e2,_⟩:=hok' b _ z2
      rw[e] at e1;cases e1
      exact e2
    obtain⟨more,hm⟩:=un.zY T #[] hHT
    have hT':s'.heap.get? T=some (PySem.W.tabObj (#[]++more)):=hok' T _ hm
    refine⟨rfl,⟨fun b o e=>?_,fun b o e=>?_⟩,os,bare⟩
    ·by_cases zT:b=T
     ·subst zT
      rw[hT] at e;cases e
      exact .inr (.inl ⟨(Wu.tab hT).isCodeTable,rfl,#[],more,rfl,hT'⟩)
     ·exact .inl (kept b o zT e)
    ·by_cases zT:b=T
     ·rw[zT];exact⟨_,hT'⟩
     ·exact⟨o,kept b o zT e⟩
 cases hk:K.lookup a with
 | some o =>
  have e:=KX a o hk
  rw[ha] at e
  cases e
  refine core (fun b=>if b=T then some (.IW #[]) else none) (if_pos rfl) (fun b z=>.inl (if_neg z)) (.inr ⟨_,vs.toArray,_,hk,rfl,rfl,rfl,by rw[List.size_toArray,lenV];exact hl,by simpa using rv⟩) (fun b u z=>?_) (fun z=>absurd (if_neg naT) z)
  by_cases hb:b=T
  ·have z':=(if_pos hb).symm.trans z
   cases z'
   subst hb
   exact hT
  ·have z':=(if_neg hb).symm.trans z
   cases z'
 | none =>
  refine core (fun b=>if b=T then some (.IW #[]) else if b=a then some (.Mt { cls:=.type "list",data:=.seq vs.toArray } (.lst (ns.map V.int))) else none) (if_pos rfl) (fun b zT=>?_) (.inl (.inr ⟨{ cls:=.type "list",data:=.seq vs.toArray },(if_neg naT).trans (if_pos rfl)⟩)) (fun b u z=>?_) fun _=>hk
  ·by_cases hb:b=a
   ·exact .inr ⟨hb,_,_,(if_neg zT).trans (if_pos hb)⟩
   ·exact .inl ((if_neg zT).trans (if_neg hb))
  ·by_cases zT:b=T
   ·have z':=(if_pos zT).symm.trans z
    cases z'
    subst zT
    exact hT
   ·by_cases hb:b=a
    ·have z':=((if_neg zT).trans (if_pos hb)).symm.trans z
     cases z'
     subst hb
     exact⟨ha,by rw[List.length_map];exact hl,vs,_,rv,ha⟩
    ·have z':=((if_neg zT).trans (if_neg hb)).symm.trans z
     cases z'
theorem RB {l:PySem.W.OpenLaw}{n k:Nat}{q:Program}{loose:List Str}{XP:(Str→Option Value)→Heap→Prop}{YP:World→Heap→Prop}{d:DefRec}{K:Params→PySem.W.Frag}{CX:World→QM}{sp:World→Sp}{x:Str}{T c:Addr}
  (hn:l.most=some n) (hn2:n≤sizeLine) (hdf:d.params.defaults=[]) (hr:iD k callerA)
  (hY:∀ (w:World) (h:Heap),YP w h→(K w.params).In h∧h.get? T=some (PySem.W.tabObj #[])) (Wu:∀ (w:World) (h:Heap),(K w.params).In h→PySem.W.CodeHd h c T) (hKT:∀ w:World,(K w.params).lookup T=none)
  (F:∀ (w:World) (mg:Str→Option Value) (fa:Addr) (h:Heap),(K w.params).In h→h.Ns mainGlobals mg→mg d.name=some (.ref fa) →
    ∃ fd:FuncData,(∀ (s:Shared) (u:Value),BindsTo s fd ⟨[u],[]⟩ [(x,u)]) ∧
     ∀ base:Heap,(K w.params).In base→base.Ns mainGlobals mg→cA l.prog w (K w.params) mg base (CX w) k fa fd [x] (sp w))
  (hsp:∀ (w:World) (H:Hp) (a:Addr) (ns:List Int),ns.length≤n→H T=some (.IW #[])→aQ (K w.params) H a (ns.map V.int)→sp w [.ref a] H (fun v _=>v=.bl true) fun _ _ _=>False)
  (hCX:∀ (w:World) (H:Hp) (s:Shared) (e:Value) (s':Shared),CX w [] H s (fun _ _ _=>False) e s'→False) :
  PySem.W.WalkO q loose XP YP l.row.toRowW d [] (fun f vs=>PySem.call f vs):=by
 refine Att.Ji hn hdf fun w s₀ s₁ mg mb fa o pm cd doc a vs ns G Y ho hd hcd hmg hobj hints hlen hg=>?_
 obtain⟨KX,hT⟩:=hY w _ Y
 obtain⟨fd,hb,hF⟩:=F w mg fa _ KX G.T.g hmg
 exact Py KX G.T.g G.T.b G.T.builtins G.T.nolimit hg hobj hints (Nat.le_trans hlen hn2) hr hT (Wu w _ KX) hF hb (hKT w) (fun H hO hS=>hsp w H a ns hlen hO hS) fun H e s'=>hCX w H s₁ e s'
end L2
namespace L2
open PySem PySem.Spec PyProof.Rows
abbrev yj (h:Heap)(e it:Addr)(i:Int)(u:Value)(a:Addr)(f:Bool):Prop :=
 h.get? e=some { cls:=.type "enumerate",dict:=none,data:=.fields #[rawInt a,.bool f,.ref it,rawInt i,.none,u],slots:=#[] }
theorem vO {a b N:Nat}(h:N≤a)(k:b<N):a≠b:=fun e=>Nat.lt_irrefl b (Nat.lt_of_lt_of_le k (e ▸ h))
theorem XD:(1001:Nat)≤sizeLine:=by decide
section
variable{P:Program}{w:World}{A:Around}{E:Value→Shared→Prop}{s:Shared}
theorem Pz {e it l a:Addr}{f:Bool}{oa:Obj}{i:Nat}{its:Array Value}{x u:Value}{Q:Option Value→Shared→Prop}(he:yj s.heap e it i u a f)(ha:s.heap.get? a=some oa)(nae:a≠e)(nai:a≠it)(hit:s.heap.IsListIter it l i)(hl:s.heap.IsList l its)(hx:its[i]?=some x)(ne:e≠it)
  (hQ:∀ h',yj h' e it ((i+1:Nat):Int) u a true→h'.IsListIter it l (i+1)→h'.get? s.heap.objs.size=some { cls:=.type "tuple",data:=.seq #[.int i s.toks,x] } →
    (∀ b o,b≠e→b≠it→s.heap.get? b=some o→h'.get? b=some o)→Q (some (.ref s.heap.objs.size)) { s with heap:=h',toks:=s.toks+1 }) :
  wpAny (model P w) A (pyNext (.ref e)) Q E s:=by
 have ht:s.TypeIs (.ref e) "enumerate" := ⟨_,he,rfl⟩
 unfold pyNext
 refine wpAny_bind (wpAny_attempt (wpAny_callSpecial?_slot (name:=Str.ofString "__next__") ht F.slot_enumerate_next (wpAny_call_entry F.slot_enumerate_next ht F.entry_enumerate_next ?_ (F.args_enumerate_next_1 _))))
 obtain⟨hp,gs,dr,tk,os⟩:=s
 show wpAny _ _ (field (.ref e) 2 >>= fun _=>_) _ _ _
 refine wpAny_bind (wpAny_field he rfl (x:=.ref it) rfl (wpAny_bind (wpAny_nextOf_list_item hit hl hx fun g1 hit1 b1=>?_)))
 replace b1:Heap.SameBut it hp g1:=b1
 have he1:yj g1 e it i u a f:=(b1.2 e ne).trans he
 show wpAny _ _ (field (.ref e) 3 >>= fun _=>_) _ _ ⟨g1,gs,dr,tk,os⟩
 refine wpAny_bind (wpAny_field he1 rfl (x:=rawInt i) rfl ?_)
 show wpAny _ _ (field (.ref e) 4 >>= fun _=>_) _ _ ⟨g1,gs,dr,tk,os⟩
 refine wpAny_bind (wpAny_field he1 rfl (x:=.none) rfl ?_)
 show wpAny _ _ (mkInt i >>= fun _=>_) _ _ ⟨g1,gs,dr,tk,os⟩
 refine wpAny_bind (wpAny_mkInt ?_)
 show wpAny _ _ (setField (.ref e) 3 (rawInt ((i:Int)+1)) >>= fun _=>_) _ _ ⟨g1,gs,dr,tk+1,os⟩
 refine wpAny_bind (wpAny_setField_rec he1 (by simp) fun g2 he2 b2=>?_)
 replace b2:Heap.SameBut e g1 g2:=b2
 replace he2:yj g2 e it ((i:Int)+1) u a f:=he2
 show wpAny _ _ (setField (.ref e) 4 .none >>= fun _=>_) _ _ ⟨g2,gs,dr,tk+1,os⟩
 refine wpAny_bind (wpAny_setField_rec he2 (by simp) fun g3 he3 b3=>?_)
 replace b3:Heap.SameBut e g2 g3:=b3
 replace he3:yj g3 e it ((i:Int)+1) u a f:=he3
 show wpAny _ _ (newTuple [.int i tk,x] >>= fun _=>_) _ _ ⟨g3,gs,dr,tk+1,os⟩
 refine wpAny_bind (wpAny_newTuple ?_)
 have he4:yj (g3.push { cls:=.type "tuple",data:=.seq #[.int i tk,x] }) e it ((i:Int)+1) u a f:=Heap.get?_push_of_some _ he3
 have z3:g3.objs.size=hp.objs.size:=by rw[b3.1,b2.1,b1.1]
 have le:e<hp.objs.size:=Heap.lt_size he
 have t4:(g3.push { cls:=.type "tuple",data:=.seq #[.int i tk,x] }).get? hp.objs.size=some { cls:=.type "tuple",data:=.seq #[.int i tk,x] }:=by rw[←z3];exact Heap.get?_push_size _ rfl
 have k4:∀ b o,b≠e→b≠it→hp.get? b=some o→(g3.push { cls:=.type "tuple",data:=.seq #[.int i tk,x] }).get? b=some o:=fun b o n1 n2 q=>Heap.get?_push_of_some _ (b3.extBut b o n1 (b2.extBut b o n1 (b1.extBut b o n2 q)))
 have i4:(g3.push { cls:=.type "tuple",data:=.seq #[.int i tk,x] }).IsListIter it l (i+1):=((hit1.extBut b2.extBut ne.symm).extBut b3.extBut ne.symm).at fun o q=>Heap.get?_push_of_some _ q
 generalize g3.push { cls:=.type "tuple",data:=.seq #[.int i tk,x] }=g4 at he4 t4 k4 i4
 rw[z3]
 show wpAny _ _ (Builtin.SmallTypes.ownedTupleIsFree (.ref e) >>= fun _=>_) _ _ ⟨g4,gs,dr,tk+1,os⟩
 clear he1 he2 he3 b1 b2 b3 hit1 z3 g1 g2 g3
 refine wpAny_bind ?_
 unfold Builtin.SmallTypes.ownedTupleIsFree
 refine wpAny_bind (wpAny_field he4 rfl (x:=rawInt a) rfl ?_)
 show wpAny _ _ (loadIfAlive ((a:Nat):Int).toNat >>= fun _=>_) _ _ _
 rw[Int.toNat_natCast]
 refine wpAny_bind (PySem.W.kdx_alive (k4 a oa nae nai ha) ?_)
 show wpAny _ _ (field (.ref e) 1 >>= fun _=>_) _ _ _
 refine wpAny_bind (wpAny_field he4 rfl (x:=.bool f) rfl ?_)
 have last:∀ g5,yj g5 e it ((i:Int)+1) u a true→Heap.SameBut e g4 g5→Q (some (.ref hp.objs.size)) ⟨g5,gs,dr,tk+1,os⟩:=fun g5 h5 b5 =>
  hQ g5 (by have z:((i+1:Nat):Int)=(i:Int)+1:=by lia
            rw[z];exact h5) (i4.extBut b5.extBut ne.symm) (b5.extBut _ _ (Nat.ne_of_gt le) t4) fun b o n1 n2 q=>b5.extBut b o n1 (k4 b o n1 n2 q)
 cases f with
 | true =>
  show wpAny _ _ (pure false) _ _ _
  refine wpAny_pure ?_
  show wpAny _ _ (ret (.ref hp.objs.size)) _ _ _
  exact wpAny_pure ⟨_,rfl,wpAny_pure (last g4 he4 ⟨rfl,fun _ _=>rfl⟩)⟩
 | false =>
  show wpAny _ _ (setField (.ref e) 1 (.bool true) >>= fun _=>_) _ _ _
  refine wpAny_bind (wpAny_setField_rec he4 (by simp) fun g5 he5 b5=>?_)
  show wpAny _ _ (pure false) _ _ _
  refine wpAny_pure ?_
  show wpAny _ _ (ret (.ref hp.objs.size)) _ _ _
  exact wpAny_pure ⟨_,rfl,wpAny_pure (last g5 he5 b5)⟩
theorem PB {e it l:Addr}{i:Nat}{its:Array Value}{c0 c1 u:Value}{Q:Option Value→Shared→Prop}(hh:A.handled=none)(he:s.heap.get? e=some { cls:=.type "enumerate",dict:=none,data:=.fields #[c0,c1,.ref it,rawInt i,.none,u],slots:=#[] })
  (hit:s.heap.IsListIter it l i) (hl:s.heap.IsList l its) (hx:its[i]?=none) (hQ:∀ h',Heap.ExtBut it s.heap h'→Q none { s with heap:=h' }):wpAny (model P w) A (pyNext (.ref e)) Q E s:=by
 have ht:s.TypeIs (.ref e) "enumerate" := ⟨_,he,rfl⟩
 unfold pyNext
 refine wpAny_bind (wpAny_attempt (wpAny_callSpecial?_slot (name:=Str.ofString "__next__") ht F.slot_enumerate_next (wpAny_call_entry F.slot_enumerate_next ht F.entry_enumerate_next ?_ (F.args_enumerate_next_1 _))))
 show wpAny _ _ (field (.ref e) 2 >>= fun _=>_) _ _ _
 refine wpAny_bind (wpAny_field he rfl (x:=.ref it) rfl (wpAny_bind (wpAny_nextOf_list_end hh hit hl hx fun h' x q ⟨o,ho,hc⟩=>?_)))
 exact wpAny_bind (wpAny_isInstance (T := "StopIteration") (b:=true) ⟨o,ho,hc⟩ isSubtype_stop (wpAny_pure (hQ _ q)))
def En (N:Nat)(h:Heap)(e it:Addr)(i:Nat):Prop:=(∃ u,IsEnum h e it i u)∨∃ u a f oa,yj h e it i u a f∧h.get? a=some oa∧N≤a
theorem En.keep {N:Nat}{h h':Heap}{e it:Addr}{i:Nat}(x:En N h e it i)(k1:∀ o,h.get? e=some o→h'.get? e=some o)(k2:∀ a o,N≤a→h.get? a=some o→h'.get? a=some o):En N h' e it i:=by
 rcases x with⟨u,x⟩|⟨u,a,f,oa,x,y,n⟩
 ·exact .inl ⟨u,k1 _ x⟩
 ·exact .inr ⟨u,a,f,oa,k1 _ x,k2 _ _ n y,n⟩
theorem Vc {N:Nat}{e it l:Addr}{i:Nat}{its:Array Value}{x:Value}{Q:Option Value→Shared→Prop}(he:En N s.heap e it i)(le:e<N)(li:it<N)(hN:N≤s.heap.objs.size)(hit:s.heap.IsListIter it l i)(hl:s.heap.IsList l its)(hx:its[i]?=some x)(ne:e≠it)
  (hQ:∀ h',En N h' e it (i+1)→h'.IsListIter it l (i+1)→h'.get? s.heap.objs.size=some { cls:=.type "tuple",data:=.seq #[.int i s.toks,x] } →
    (∀ b o,b≠e→b≠it→s.heap.get? b=some o→h'.get? b=some o)→Q (some (.ref s.heap.objs.size)) { s with heap:=h',toks:=s.toks+1 }) :
  wpAny (model P w) A (pyNext (.ref e)) Q E s:=by
 rcases he with⟨u,he⟩|⟨u,a,f,oa,he,ha,na⟩
 ·refine wpAny_pyNext_enum_item he hit hl hx ne fun h' a1 a2 a3 _ a5=>hQ h' (.inr ⟨x,s.heap.objs.size,false,_,?_,a3,hN⟩) a2 a3 a5
  have z:((i+1:Nat):Int)=(i:Int)+1:=by lia
  rw[z]
  exact a1
 ·exact Pz he ha (vO na le) (vO na li) hit hl hx ne fun h' a1 a2 a3 a5=>hQ h' (.inr ⟨u,a,true,oa,a1,a5 a oa (vO na le) (vO na li) ha,na⟩) a2 a3 a5
theorem Vd {N:Nat}{e it l:Addr}{i:Nat}{its:Array Value}{Q:Option Value→Shared→Prop}(hh:A.handled=none)(he:En N s.heap e it i)(hit:s.heap.IsListIter it l i)(hl:s.heap.IsList l its)(hx:its[i]?=none)
  (hQ:∀ h',Heap.ExtBut it s.heap h'→Q none { s with heap:=h' }):wpAny (model P w) A (pyNext (.ref e)) Q E s:=by
 rcases he with⟨u,he⟩|⟨u,a,f,oa,he,_⟩<;>exact PB hh he hit hl hx hQ
def Dl (N:Nat)(its:Array Value)(h:Heap)(acc:Array Value)(i:Nat):Prop:=acc.size=i∧∀ (j:Nat) (v:Value),acc[j]?=some v→∃ (T:Addr) (t:Tok) (x:Value),v=.ref T∧N≤T∧h.get? T=some { cls:=.type "tuple",data:=.seq #[.int j t,x] }∧its[j]?=some x
theorem Dl.keep {N:Nat}{its:Array Value}{h h':Heap}{acc:Array Value}{i:Nat}(x:Dl N its h acc i)(k:∀ a o,N≤a→h.get? a=some o→h'.get? a=some o):Dl N its h' acc i :=
 ⟨x.1,fun j v q=>let ⟨T,t,y,h1,h2,h3,h4⟩:=x.2 j v q;⟨T,t,y,h1,h2,k _ _ h2 h3,h4⟩⟩
theorem Dl.push {N:Nat}{its:Array Value}{h:Heap}{acc:Array Value}{i:Nat}{T:Addr}{t:Tok}{x:Value}(y:Dl N its h acc i)(n:N≤T)(hT:h.get? T=some { cls:=.type "tuple",data:=.seq #[.int i t,x] })(hx:its[i]?=some x):Dl N its h (acc.push (.ref T)) (i+1):=by
 refine⟨by rw[Array.size_push,y.1],fun j v hj=>?_⟩
 rw[Array.getElem?_push] at hj
 by_cases q:j=acc.size
 ·rw[if_pos q] at hj
  cases hj
  rw[y.1] at q
  subst q
  exact⟨T,t,x,rfl,n,hT,hx⟩
 ·rw[if_neg q] at hj
  exact y.2 j v hj
theorem PJ {N:Nat}{S e it l:Addr}{its:Array Value}{R:Result→Shared→Prop}{res:Value}(hh:A.in1.handled=none)(hn:its.size≤1000)(ne:e≠it)(YX:S≠e)(YZ:S≠it)(nle:l≠e)(nli:l≠it)(nlS:l≠S)(le:e<N)(li:it<N)(lS:S<N):
  ∀ (k i:Nat) (s:Shared) (acc:Array Value) (c:Nat),its.size-i=k→i≤its.size→En N s.heap e it i→s.heap.IsListIter it l i→s.heap.IsList l its→N≤s.heap.objs.size →
   s.heap.get? S=some { cls:=.type "list",dict:=none,data:=.seq acc c,slots:=#[] }→Dl N its s.heap acc i →
   (∀ h' tk acc' c',(∀ b o,b≠S→b≠e→b≠it→s.heap.get? b=some o→h'.get? b=some o)→h'.get? S=some { cls:=.type "list",dict:=none,data:=.seq acc' c',slots:=#[] }→Dl N its h' acc' its.size→R (.ok (.ret res)) { s with heap:=h',toks:=tk }) →
   codeAny (model P w) A (.builtin "list.extend.loop" ⟨[.ref S,.ref e,res],[]⟩) R s:=by
 intro k
 induction k with
 | zero =>
  intro i s acc c hk hi hen hit hl hN hS hacc hR
  obtain rfl:i=its.size:=by lia
  refine codeAny_builtin (R:=R) F.entry_extend_loop ?_
  rw[Around.under_plainId F.plain_extend_loop ⟨[.ref S,.ref e,res],[]⟩]
  show wpAny _ A.in1 (pyNext (.ref e) >>= fun _=>_) _ _ s
  refine wpAny_bind (Vd hh hen hit hl (by simp) fun h' q=>?_)
  exact wpAny_pure (hR h' s.toks acc c (fun b o _ _ n q'=>q b o n q') (q _ _ YZ hS) (hacc.keep fun a o n q'=>q a o (vO n li) q'))
 | succ k ih =>
  intro i s acc c hk hi hen hit hl hN hS hacc hR
  have hlt:i<its.size:=by lia
  obtain⟨x,hx⟩:∃ x,its[i]?=some x:=⟨its[i],by simp[hlt]⟩
  refine codeAny_builtin (R:=R) F.entry_extend_loop ?_
  rw[Around.under_plainId F.plain_extend_loop ⟨[.ref S,.ref e,res],[]⟩]
  show wpAny _ A.in1 (pyNext (.ref e) >>= fun _=>_) _ _ s
  refine wpAny_bind (Vc hen le li hN hit hl hx ne fun h' en' hit' hT hk'=>?_)
  have hS':=hk' S _ YX YZ hS
  have hl':h'.IsList l its:=hl.at fun o q=>hk' l o nle nli q
  have hacc':=(hacc.keep fun a o n q=>hk' a o (vO n le) (vO n li) q).push hN hT hx
  have hN':N≤h'.objs.size:=Nat.le_trans hN (Nat.le_of_lt (Heap.lt_size hT))
  show wpAny _ A.in1 (updateSeq S (·.push (.ref s.heap.objs.size)) >>= fun _=>_) _ _ _
  have up:∀ b o,b≠S→h'.get? b=some o→(h'.update S (Obj.mapSeq (·.push (.ref s.heap.objs.size)))).get? b=some o:=fun b o n q=>(Heap.get?_update_other _ _ (Ne.symm n)).trans q
  have ln:=XD
  refine wpAny_bind (wpAny_updateSeq hS' rfl (wpAny_pure ⟨plainId_quiet F.plain_extend_loop _,ih (i+1) _ (acc.push (.ref s.heap.objs.size)) _ (by lia) hlt (en'.keep (fun o q=>up e o YX.symm q) fun a o n q=>up a o (vO n lS) q) (hit'.at fun o q=>up it o YZ.symm q) (hl'.at fun o q=>up l o nlS q) ?_ (Heap.get?_update_self _ hS' rfl) (hacc'.keep fun a o n q=>up a o (vO n lS) q) fun h2 tk agy c2 g1 g2 g3=>?_⟩)
   (by rw[hacc.1];lia) (by show (acc.push (.ref s.heap.objs.size)).size≤sizeLine+1;rw[Array.size_push,hacc.1];lia))
  ·show N≤(h'.update S _).objs.size
   rw[Heap.size_update]
   exact hN'
  ·exact hR h2 tk agy c2 (fun b o n1 n2 n3 q=>g1 b o n1 n2 n3 (up b o n1 (hk' b o n2 n3 q))) g2 g3
theorem RD:typeLookup (.type "enumerate") "__len__" = pure none:=by rw[typeLookup_type,builtinLookup_eq_fast];kernel_rfl
theorem PK:typeLookup (.type "enumerate") "__length_hint__" = pure none:=by rw[typeLookup_type,builtinLookup_eq_fast];kernel_rfl
theorem Jw {N:Nat}{S e it l:Addr}{its:Array Value}{R:Result→Shared→Prop}{res:Value}{c:Nat}(hh:A.in1.handled=none)(hn:its.size≤1000)(ne:e≠it)(YX:S≠e)(YZ:S≠it)(nle:l≠e)(nli:l≠it)(nlS:l≠S)(le:e<N)(li:it<N)(lS:S<N)(hen:IsEnum s.heap e it 0 .none)(hit:s.heap.IsListIter it l 0)(hl:s.heap.IsList l its)(hN:N≤s.heap.objs.size)
  (hS:s.heap.get? S=some { cls:=.type "list",data:=.seq #[] c })
  (hR:∀ h' tk acc' c',(∀ b o,b≠S→b≠e→b≠it→s.heap.get? b=some o→h'.get? b=some o)→h'.get? S=some { cls:=.type "list",dict:=none,data:=.seq acc' c',slots:=#[] }→Dl N its h' acc' its.size→R (.ok (.ret res)) { s with heap:=h',toks:=tk }) :
  wpAny (model P w) A.in1 (Builtin.List.listExtendWith (.ref S) (.ref e) res) (fun fin s'=>match fin with | .done f=>R (.ok f) s' | .again c'=>c'.quiet=true∧codeAny (model P w) A c' R s') (fun e s'=>R (.error e) s') s:=by
 have ht:s.TypeIs (.ref e) "enumerate" := ⟨_,hen,rfl⟩
 unfold Builtin.List.listExtendWith
 refine wpAny_bind (wpAny_typeOf ht ?_)
 simp only[show Builtin.List.listSameRef (.ref S) (.ref e)=false by simp[Builtin.List.listSameRef,YX],show (Value.type "enumerate" == Value.type "list")=false by decide,show (Value.type "enumerate" == Value.type "tuple")=false by decide,Bool.or_false,Bool.false_eq_true,if_false]
 refine wpAny_bind (wpAny_pyIter_enum hen (wpAny_bind (wpAny_holding ?_)))
 unfold Builtin.List.listLengthHint
 refine wpAny_bind (wpAny_specialOf ht RD ?_)
 show wpAny _ A.in1 (specialOf (Value.ref e) (Str.ofString "__length_hint__") >>= fun _=>_) _ _ _
 refine wpAny_bind (wpAny_specialOf ht PK (wpAny_pure ?_))
 show wpAny _ A.in1 (rule "list.extend.makes-room" >>= fun _=>Builtin.List.listTouch (.ref S) >>= fun _=>again (.builtin "list.extend.loop" ⟨[.ref S,.ref e,res],[]⟩)) _ _ _
 refine wpAny_bind (wpAny_rule (wpAny_bind ?_))
 show wpAny _ A.in1 (updateSeq S (·.push .none) >>= fun _=>updateSeq S fun a=>a.pop) _ _ _
 refine wpAny_bind (wpAny_updateSeq hS rfl ?_)
 have h2:=Heap.get?_update_self (Obj.mapSeq fun a=>a.push Value.none) hS rfl
 refine wpAny_updateSeq (hz:=by seq_fits) h2 rfl ?_
 have h3:=Heap.get?_update_self (Obj.mapSeq fun a=>a.pop) h2 rfl
 have up:∀ b o,b≠S→s.heap.get? b=some o→((s.heap.update S (Obj.mapSeq fun a=>a.push Value.none)).update S (Obj.mapSeq fun a=>a.pop)).get? b=some o:=fun b o n q=>(Heap.get?_update_other _ _ (Ne.symm n)).trans ((Heap.get?_update_other _ _ (Ne.symm n)).trans q)
 refine wpAny_pure ⟨plainId_quiet F.plain_extend_loop _,PJ hh hn ne YX YZ nle nli nlS le li lS its.size 0 _ _ _ rfl (Nat.zero_le _) (.inl ⟨_,up _ _ YX.symm hen⟩) (hit.at fun o q=>up it o YZ.symm q) (hl.at fun o q=>up l o nlS q) ?_ h3 ⟨rfl,fun j v q=>by simp at q⟩ fun h' tk acc' c' g1 g2 g3=>?_⟩
 ·show N≤(Heap.update _ _ _).objs.size
  rw[Heap.size_update,Heap.size_update]
  exact hN
 ·exact hR h' tk acc' c' (fun b o n1 n2 n3 q=>g1 b o n1 n2 n3 (up b o n1 q)) g2 g3
end
section
variable{P:Program}{w:World}{A:Around}{E:Value→Shared→Prop}{s:Shared}
theorem Bb {e it l:Addr}{its:Array Value}{Q:Value→Shared→Prop}(hh:A.handled=none)(hn:its.size≤1000)(ne:e≠it)(nle:l≠e)(nli:l≠it)(hen:IsEnum s.heap e it 0 .none)(hit:s.heap.IsListIter it l 0)(hl:s.heap.IsList l its)
  (hQ:∀ h' tk acc c,(∀ b o,b≠e→b≠it→s.heap.get? b=some o→h'.get? b=some o)→h'.get? s.heap.objs.size=some { cls:=.type "list",dict:=none,data:=.seq acc c,slots:=#[] }→Dl (s.heap.objs.size+1) its h' acc its.size→Q (.ref s.heap.objs.size) { s with heap:=h',toks:=tk }) :
  wpAny (model P w) A (call (.type "list") [.ref e]) Q E s:=by
 refine callType_codes (Q₁:=fun obj s1=>obj=.ref s.heap.objs.size∧s1={ s with heap:=s.heap.push { cls:=.type "list",data:=.seq #[] } }) F.called_list (F.typeCall_list_1 _) F.entry_list_init (code_list_new _ ⟨rfl,rfl⟩) ?_
 rintro obj s1 ⟨rfl,rfl⟩
 have hS:(s.heap.push { cls:=.type "list",data:=.seq #[] }).get? s.heap.objs.size=some { cls:=.type "list",data:=.seq #[] }:=Heap.get?_push_size _ rfl
 have pu:∀ b o,s.heap.get? b=some o→(s.heap.push { cls:=.type "list",data:=.seq #[] }).get? b=some o:=fun b o q=>Heap.get?_push_of_some _ q
 refine⟨⟨_,hS,rfl⟩,F.args_list_init_2 _ _,?_⟩
 have lt:∀ {b:Addr} {o:Obj},s.heap.get? b=some o→b<s.heap.objs.size:=fun q=>Heap.lt_size q
 obtain⟨oi,hoi,_⟩:=id hit
 obtain⟨ol,hol,_⟩:=id hl
 have ltE:=lt hen
 have ltI:=lt hoi
 have ltL:=lt hol
 have z1:(s.heap.push { cls:=.type "list",data:=.seq #[] }).objs.size=s.heap.objs.size+1:=Heap.size_push ..
 have aaq:=pu _ _ hen
 have hit':(s.heap.push { cls:=.type "list",data:=.seq #[] }).IsListIter it l 0:=hit.at fun o q=>pu it o q
 have hl':(s.heap.push { cls:=.type "list",data:=.seq #[] }).IsList l its:=hl.at fun o q=>pu l o q
 generalize hg:s.heap.push { cls:=.type "list",data:=.seq #[] }=g at hS pu aaq hit' hl' z1
 clear hg
 show wpAny _ _ (do let old ←Builtin.List.listItems (.ref s.heap.objs.size);Builtin.List.listUpdate (.ref s.heap.objs.size) (fun _=>#[]);letGo old.toList.reverse;Builtin.List.listExtendWith (.ref s.heap.objs.size) (.ref e) .none) _ _ { s with heap:=g }
 refine wpAny_bind ?_
 unfold Builtin.List.listItems
 refine wpAny_bind (wpAny_seqItems hS rfl (wpAny_pure ?_))
 show wpAny _ _ (updateSeq s.heap.objs.size (fun _=>#[]) >>= fun _=>letGo (#[]:Array Value).toList.reverse >>= fun _=>Builtin.List.listExtendWith (.ref s.heap.objs.size) (.ref e) .none) _ _ _
 refine wpAny_bind (wpAny_updateSeq hS rfl (wpAny_bind (wpAny_letGo ?_)))
 have h2:=Heap.get?_update_self (Obj.mapSeq fun _=>(#[]:Array Value)) hS rfl
 have up:∀ b o,b≠s.heap.objs.size→g.get? b=some o→(g.update s.heap.objs.size (Obj.mapSeq fun _=>(#[]:Array Value))).get? b=some o:=fun b o n q=>(Heap.get?_update_other _ _ (Ne.symm n)).trans q
 have nE:e≠s.heap.objs.size:=Nat.ne_of_lt ltE
 have nI:it≠s.heap.objs.size:=Nat.ne_of_lt ltI
 have nL:l≠s.heap.objs.size:=Nat.ne_of_lt ltL
 refine Jw (N:=s.heap.objs.size+1) hh hn ne nE.symm nI.symm nle nli nL (Nat.lt_succ_of_lt ltE) (Nat.lt_succ_of_lt ltI) (Nat.lt_succ_self _) (up _ _ nE aaq) (hit'.at fun o q=>up it o nI q) (hl'.at fun o q=>up l o nL q) ?_ h2 fun h' tk acc c g1 g2 g3=>⟨rfl,hQ h' tk acc c (fun b o n1 n2 q=>g1 b o (Nat.ne_of_lt (lt q)) n1 n2 (up b o (Nat.ne_of_lt (lt q)) (pu b o q))) g2 g3⟩
 show s.heap.objs.size+1≤(Heap.update _ _ _).objs.size
 rw[Heap.size_update,z1]
 exact Nat.le_refl _
end
section
variable{X:Cx}{pins:List (Addr×Obj)}{σ:List (Option V)}{H H':Hp}{s:Shared}{h':Heap}
theorem Inv.aar {t':Nat}(I:Inv X pins σ H s)(k:∀ b u,s.heap.get? b=some u→h'.get? b=some u)(ext:∀ b o,H b=some o→H' b=some o)(new:∀ b o,H' b=some o→H b=some o∨(s.heap.objs.size≤b∧dG X.prog X.w H' h' b o)):Inv X pins σ H' { s with heap:=h',toks:=t' }:=by
 refine I.un ⟨fun b u q _ _ _=>k b u q,fun b u q _ _ _=>⟨u.slots,k b u q⟩,fun b u q n _=>?_,fun b u q _=>⟨u,k b u q⟩,fun b xs q=>ext _ _ q,fun b u xs q=>ext _ _ q,fun b ps q=>⟨#[],by rw[ext _ _ q];simp⟩⟩ fun b o q=>?_
 ·cases e:H' b with
  | none=>rfl
  | some o =>
   rcases new b o e with z|⟨z,_⟩
   ·rw[n] at z;cases z
   ·exact absurd (Heap.lt_size q) (Nat.not_lt_of_le z)
 ·rcases new b o q with z|⟨_,z⟩
  ·exact (I.hok b o z).stay (fun c v _ q=>k c v q) (fun c q=>ext _ _ q) fun c xs q=>ext _ _ q
  ·exact z
theorem RG {n m:Nat}(h:n=m)(k:m≤1000):n≤sizeLine:=Nat.le_trans (by lia) (show (1000:Nat)≤sizeLine by decide)
theorem Fx:∀ us:List Value,(∀ u∈us,∃ T,u=Value.ref T)→∃ ys,Vals ys us∧∀ (j:Nat) y,ys[j]?=some y→∃ T,y=V.ref T∧us[j]?=some (.ref T)
 | [],_=>⟨[],.nil,fun j y q=>by simp at q⟩
 | u::us,h=>by
  obtain⟨ys,h1,h2⟩:=Fx us fun v hv=>h v (List.mem_cons_of_mem _ hv)
  obtain⟨T,rfl⟩:=h u (List.mem_cons_self ..)
  refine⟨.ref T::ys,.cons rfl h1,fun j y q=>?_⟩
  cases j with
  | zero=>cases q;exact⟨T,rfl,rfl⟩
  | succ j=>exact h2 j y (by simpa using q)
end
section
variable{X:Cx}
def PL (K:PySem.W.Frag)(ta:TA):TE:=fun σ H Q=>ta σ H fun vs H1=>∃ (a:Addr) (xs:List V),vs=[.ref a]∧aQ K H1 a xs∧xs.length≤1000∧∀ (l:Addr) (ys:List V) (H':Hp),Same H1 H'→H' l=some (.lst ys)→ys.length=xs.length→(∀ (j:Nat) y,ys[j]?=some y→∃ (T:Addr) (x:V),y=.ref T∧H' T=some (.tup [.int j,x])∧xs[j]?=some x)→Q (.ref l) H'
theorem Jx {K:PySem.W.Frag}{a:Expr}{ta:TA}{p p2 pos pos2:Pos}(hc:X.calm=true)(hK:X.K=K)(hg1:Gl X "list")(hm1:X.mg "list" = none)(hg2:Gl X "enumerate")(hm2:X.mg "enumerate" = none)(ha:PA X [a] ta)(hs:starEach [a] X.env=[(false,eval a X.env)]:=by rfl):
  PE X (.Call (.Name "list" p) [.Call (.Name "enumerate" p2) [a] [] pos2] [] pos) (PL K ta):=by
 subst hK
 intro pins s σ H Q I h
 refine wpAny_Call_Name_kw (pI I hg1 hm1 boot_list ?_)
 refine PyProof.Rows.callWith_type1 ?_ rfl rfl
 show wpAny _ _ (spliced ((false,eval (.Call (.Name "enumerate" p2) [a] [] pos2) X.env)::backTo pos (starEach [] X.env))) _ _ s
 refine Calls.spliced_cons (wpAny_Call_Name_kw (pI I hg2 hm2 boot_enumerate ?_))
 refine PyProof.Rows.callWith_type1 (eE (ha pos2 pins s σ H _ I h) fun us s1 ⟨vs,H1,I1,r1,q1⟩=>?_) hs rfl
 obtain⟨a1,xs,e,hq,hlen,q⟩:=q1
 subst e
 obtain⟨u,rfl,ru⟩:=vals1 r1
 cases ru
 obtain⟨its,rv,p1,_⟩:=I1.list hq
 have hli:=rv.length
 refine call_enumerate_list p1.isList fun g1 he h1 hsz hk=>?_
 show wpAny _ _ (spliced []) _ _ _
 refine Calls.spliced_nil ?_
 have la:a1<s1.heap.objs.size:=by
  obtain⟨o,ho,_⟩:=id p1.isList
  exact Heap.lt_size ho
 refine Bb (I1.ok.hd hc) (its:=its.toArray) (by rw[List.size_toArray];lia) (Nat.ne_of_gt (Nat.lt_succ_self _)) (Nat.ne_of_lt (Nat.lt_succ_of_lt la)) (Nat.ne_of_lt la) he h1 (p1.isList.at fun o z=>hk _ _ z) fun hF tk acc c k2 hS hacc=>?_
 have zg:g1.objs.size=s1.heap.objs.size+2:=hsz
 have kF:∀ b o,s1.heap.get? b=some o→hF.get? b=some o:=fun b o z=>k2 b o (Nat.ne_of_lt (Nat.lt_succ_of_lt (Heap.lt_size z))) (Nat.ne_of_lt (Heap.lt_size z)) (hk b o z)
 obtain⟨ha0,ha1⟩:=hacc
 obtain⟨ys,hv,hy⟩:=Fx acc.toList fun u hu=>by
  obtain⟨j,hj⟩:=List.getElem?_of_mem hu
  obtain⟨T,_,_,e,_⟩:=ha1 j u (by simpa using hj)
  exact⟨T,e⟩
 have hly:ys.length=xs.length:=by rw[hv.length,Array.length_toList,ha0,List.size_toArray,hli]
 have at1:∀ (j:Nat) T,acc[j]?=some (.ref T)→∃ (t:Tok) (u:Value) (x:V),g1.objs.size+1≤T∧hF.get? T=some { cls:=.type "tuple",data:=.seq #[.int j t,u] }∧xs[j]?=some x∧RelV x u:=fun j T z=>by
  obtain⟨T',t,u,e,n,hT,hu⟩:=ha1 j _ z
  cases e
  have hj:j<xs.length:=by
   have:=(Array.getElem?_eq_some_iff.mp hu).1
   rw[List.size_toArray] at this
   lia
  obtain⟨u',hu',ru⟩:=rv.get (List.getElem?_eq_getElem hj)
  have:its[j]?=some u:=by simpa using hu
  rw[this] at hu'
  cases hu'
  exact⟨t,u,_,n,hT,List.getElem?_eq_getElem hj,ru⟩
 let Pr:Addr→Nat→V→Prop:=fun T j x=>acc[j]?=some (.ref T)∧xs[j]?=some x
 have one:∀ {T j x j' x'},Pr T j x→Pr T j' x'→j=j'∧x=x':=fun {T j x j' x'} z z'=>by
  obtain⟨t,u,y,_,h1,_⟩:=at1 j T z.1
  obtain⟨t',u',y',_,h2,_⟩:=at1 j' T z'.1
  rw[h1] at h2
  have:(j:Int)=(j':Int):=by
   injection h2 with h2
   injection h2 with _ _ h2
   injection h2 with h2
   simp at h2
   lia
  have e:j=j':=by lia
  subst e
  have:=z.2.symm.trans z'.2
  cases this
  exact⟨rfl,rfl⟩
 classical
 let HF:Hp:=fun b=>if b=g1.objs.size then some (.lst ys) else if w:∃ jx:Nat×V,Pr b jx.1 jx.2 then some (.tup [.int w.choose.1,w.choose.2]) else H1 b
 have nS:∀ b o,H1 b=some o→b≠g1.objs.size:=fun b o z e=>by
  have:=I1.hok.fresh (a:=b) (by rw[e,zg];exact Nat.le_add_right _ 2)
  rw[z] at this;cases this
 have ext:∀ b o,H1 b=some o→HF b=some o:=fun b o z=>by
  have n2:¬ ∃ jx:Nat×V,Pr b jx.1 jx.2:=fun⟨jx,w,_⟩=>by
   obtain⟨_,_,_,n,_⟩:=at1 _ _ w
   have:=I1.hok.fresh (a:=b) (by lia)
   rw[z] at this;cases this
  show (if b=g1.objs.size then _ else if w:_ then _ else _)=_
  rw[if_neg (nS b o z),dif_neg n2]
  exact z
 have hTF:∀ j T x,Pr T j x→HF T=some (.tup [.int j,x]):=fun j T x z=>by
  obtain⟨_,_,_,n,_⟩:=at1 _ _ z.1
  have w:∃ jx:Nat×V,Pr T jx.1 jx.2:=⟨(j,x),z⟩
  show (if T=g1.objs.size then _ else if w:_ then _ else _)=_
  rw[if_neg (Nat.ne_of_gt n),dif_pos w]
  obtain⟨e1,e2⟩:=one z w.choose_spec
  rw[←e1,←e2]
 have hSF:HF g1.objs.size=some (.lst ys):=if_pos rfl
 refine⟨.ref g1.objs.size,HF,I1.aar (t':=tk) kF ext fun b o z=>?_,rfl,q g1.objs.size ys HF ext hSF hly fun j y hj=>?_⟩
 ·by_cases e:b=g1.objs.size
  ·subst e
   rw[hSF] at z
   cases z
   exact .inr ⟨by lia,RG hly hlen,acc.toList,c,hv,by simpa using hS⟩
  ·by_cases w:∃ jx:Nat×V,Pr b jx.1 jx.2
   ·obtain⟨⟨j,x⟩,w⟩:=w
    rw[hTF j b x w] at z
    cases z
    obtain⟨t,u,x',n,hT,hx,ru⟩:=at1 j b w.1
    have:=w.2.symm.trans hx
    cases this
    exact .inr ⟨by lia,cI,[.int j t,u],.cons ⟨_,rfl⟩ (.cons ru .nil),⟨_,hT,rfl,_,rfl⟩⟩
   ·have:HF b=H1 b:=by
     show (if b=g1.objs.size then _ else if w:_ then _ else _)=_
     rw[if_neg e,dif_neg w]
    rw[this] at z
    exact .inl z
 ·obtain⟨T,rfl,hT⟩:=hy j y hj
  have hT':acc[j]?=some (.ref T):=by simpa using hT
  obtain⟨_,_,x,_,_,hx,_⟩:=at1 j T hT'
  exact⟨T,x,rfl,hTF j T x ⟨hT',hx⟩,hx⟩
end
end L2
namespace My
open PySem PySem.W PySem.Calls PyProof.Rows
noncomputable section
noncomputable def top (i:Nat):Stmt:=PySem.Challenge.pw_leasttariff_k06_answers_by_hand.main.body.getD i (.Pass ⟨0,0,0,0⟩)
noncomputable def de (P:Params)(x:Str)(t:Nat)(v:Value):DictEntry:=⟨PyData.keyHash P x,.str x t,v⟩
noncomputable def o2:Obj:=⟨.none,none,(.dict #[] 0),#[]⟩
noncomputable def o3 (P:Params):Obj:=⟨(.type "dict"),none,(.dict #[de P "__name__" 165 (.str "law_leasttariff_k06_answers_by_hand" 708),de P "__doc__" 166 .none,de P "__package__" 167 .none,de P "__loader__" 168 (.builtin "__main__.__loader__#opaque"),de P "__spec__" 169 .none,de P "__annotations__" 170 (.ref 6),de P "__builtins__" 171 (.ref 4),de P "__file__" 173 (.str "/claim/cut.py" 172),de P "__cached__" 174 .none,de P "TariffError" 206 (.ref 24),de P "BadBook" 222 (.ref 37),de P "is_whole" 231 (.ref 46),de P "is_whole_pair" 238 (.ref 53),de P "common_divisor" 247 (.ref 60),de P "is_amount" 254 (.ref 67),de P "is_place" 262 (.ref 74),de P "check_book" 270 (.ref 81),de P "lowest_terms" 281 (.ref 88),de P "top_of_cost" 289 (.ref 95),de P "tops_of_cost" 297 (.ref 100),de P "is_weighing" 305 (.ref 107),de P "is_mixture" 319 (.ref 114),de P "is_less" 327 (.ref 121),de P "are_begins" 333 (.ref 126),de P "are_places_in_turn" 339 (.ref 131),de P "are_least_at_both_ends" 352 (.ref 138),de P "Answer" 372 (.ref 148),de P "Alone" 403 (.ref 174),de P "Needless" 444 (.ref 200),de P "Ranges" 477 (.ref 224),de P "Under" 508 (.ref 248),de P "Over" 542 (.ref 274),de P "Most" 575 (.ref 298),de P "Endless" 610 (.ref 324),de P "Dear" 632 (.ref 341),de P "by_falling_piece" 643 (.ref 350),de P "least_in_turn" 657 (.ref 357),de P "turn_for" 669 (.ref 364),de P "amount_below" 683 (.ref 371),de P "mixture_for" 695 (.ref 378),de P "ranges" 701 (.ref 383),de P "under" 707 (.ref 388),de P "_law_book" 715 (.ref 393),de P "_law_lowest" 725 (.ref 400),de P "_law_amount" 732 (.ref 407),de P "_law_cost" 740 (.ref 414),de P "_law_mixture" 746 (.ref 419),de P "_law_alone" 752 (.ref 424),de P "_law_needless" 761 (.ref 431),de P "_law_ranges" 767 (.ref 436),de P "_law_under" 773 (.ref 441),de P "_law_over" 779 (.ref 446),de P "_law_most" 785 (.ref 451),de P "_law_endless" 794 (.ref 458),de P "_law_says" 802 (.ref 465),de P "_law_bent" 814 (.ref 472),de P "_law_one_right" 825 (.ref 479),de P "_law_ranges_right" 842 (.ref 486),de P "_law_books_right" 848 (.ref 491),de P "_law_money_right" 854 (.ref 496),de P "_law_outright" 860 (.ref 501),de P "law" 866 (.ref 506)] 62),#[]⟩
noncomputable def o4:Obj:=⟨(.type "module"),(some 0),.plain,#[]⟩
noncomputable def o15:Obj:=⟨(.type "tuple"),none,(.seq #[(.type "ValueError")] 0),#[]⟩
noncomputable def o22:Obj:=⟨(.type "tuple"),none,(.seq #[] 0),#[]⟩
noncomputable def o23 (P:Params):Obj:=⟨(.type "dict"),none,(.dict #[de P "__module__" 196 (.str "leasttariff.errors" 187),de P "__firstlineno__" 200 (.int 2 199),de P "__static_attributes__" 201 (.ref 22),de P "__weakref__" 203 (.ref 25),de P "__doc__" 204 .none] 3),#[]⟩
noncomputable def o24:Obj:=⟨(.type "type"),none,(.cls ⟨"TariffError",[(.type "ValueError")],[(.ref 24),(.type "ValueError"),(.type "Exception"),(.type "BaseException"),(.type "object")],23, "TariffError",true,[],[(.ref 37)],false,none,false⟩),#[some (.ref 15),none,some (.str "TariffError" 189),some (.str "TariffError" 197),some (.builtin "ValueError.__new__"),some (.bool true)]⟩
noncomputable def o25:Obj:=⟨(.type "getset_descriptor"),none,(.fields #[(.str "__weakref__" 202),(.ref 24),(.builtin "ExceptionGroup.__weakref__"),.none]),#[]⟩
noncomputable def o28:Obj:=⟨(.type "tuple"),none,(.seq #[(.ref 24)] 0),#[]⟩
noncomputable def o35:Obj:=⟨(.type "tuple"),none,(.seq #[] 0),#[]⟩
noncomputable def o36 (P:Params):Obj:=⟨(.type "dict"),none,(.dict #[de P "__module__" 214 (.str "leasttariff.errors" 187),de P "__firstlineno__" 218 (.int 4 217),de P "__static_attributes__" 219 (.ref 35),de P "__doc__" 220 .none] 2),#[]⟩
noncomputable def o37:Obj:=⟨(.type "type"),none,(.cls ⟨"BadBook",[(.ref 24)],[(.ref 37),(.ref 24),(.type "ValueError"),(.type "Exception"),(.type "BaseException"),(.type "object")],36, "BadBook",true,[],[],false,none,false⟩),#[some (.ref 28),none,some (.str "BadBook" 207),some (.str "BadBook" 215),some (.builtin "ValueError.__new__"),some (.bool true)]⟩
noncomputable def o40:Obj:=⟨(.type "tuple"),none,(.seq #[] 0),#[]⟩
noncomputable def o42:Obj:=⟨(.type "tuple"),none,(.seq #[(.str "value" 228)] 0),#[]⟩
noncomputable def o43:Obj:=⟨(.type "tuple"),none,(.seq #[] 0),#[]⟩
noncomputable def o45:Obj:=⟨(.type "code"),none,(.fields #[(.str "is_whole" 225),(.str "is_whole" 226),(.str "/claim/cut.py" 227),(.int 7 0),(.int 1 0),(.int 0 0),(.int 0 0),(.int 3 0),(.ref 40),(.bool true),(.int 181 0),(.ref 41),.none,(.ref 42),(.ref 43),(.ref 44),(.int 229 0),(.int 7 0),(.str "/claim/cut.py" 230)]),#[]⟩
noncomputable def o46:Obj:=⟨(.type "function"),none,(.func (fnOf "is_whole" "is_whole" (L2.aV (top 4)) (L2.aR (top 4)) (L2.aC (top 4)) .none .none .none (.str "leasttariff.kinds" 223) none (.ref 45) .none)),#[]⟩
noncomputable def o47:Obj:=⟨(.type "tuple"),none,(.seq #[] 0),#[]⟩
noncomputable def o49:Obj:=⟨(.type "tuple"),none,(.seq #[(.str "value" 235)] 0),#[]⟩
noncomputable def o50:Obj:=⟨(.type "tuple"),none,(.seq #[] 0),#[]⟩
noncomputable def o52:Obj:=⟨(.type "code"),none,(.fields #[(.str "is_whole_pair" 232),(.str "is_whole_pair" 233),(.str "/claim/cut.py" 234),(.int 9 0),(.int 1 0),(.int 0 0),(.int 0 0),(.int 3 0),(.ref 47),(.bool true),(.int 181 0),(.ref 48),.none,(.ref 49),(.ref 50),(.ref 51),(.int 236 0),(.int 9 0),(.str "/claim/cut.py" 237)]),#[]⟩
noncomputable def o53:Obj:=⟨(.type "function"),none,(.func (fnOf "is_whole_pair" "is_whole_pair" (L2.aV (top 5)) (L2.aR (top 5)) (L2.aC (top 5)) .none .none .none (.str "leasttariff.kinds" 223) none (.ref 52) .none)),#[]⟩
noncomputable def o54:Obj:=⟨(.type "tuple"),none,(.seq #[] 0),#[]⟩
noncomputable def o56:Obj:=⟨(.type "tuple"),none,(.seq #[(.str "one" 242),(.str "other" 243),(.str "rest" 244)] 0),#[]⟩
noncomputable def o57:Obj:=⟨(.type "tuple"),none,(.seq #[] 0),#[]⟩
noncomputable def o59:Obj:=⟨(.type "code"),none,(.fields #[(.str "common_divisor" 239),(.str "common_divisor" 240),(.str "/claim/cut.py" 241),(.int 11 0),(.int 2 0),(.int 0 0),(.int 0 0),(.int 3 0),(.ref 54),(.bool true),(.int 181 0),(.ref 55),.none,(.ref 56),(.ref 57),(.ref 58),(.int 245 0),(.int 11 0),(.str "/claim/cut.py" 246)]),#[]⟩
noncomputable def o60:Obj:=⟨(.type "function"),none,(.func (fnOf "common_divisor" "common_divisor" (L2.aV (top 6)) (L2.aR (top 6)) (L2.aC (top 6)) .none .none .none (.str "leasttariff.kinds" 223) none (.ref 59) .none)),#[]⟩
noncomputable def o61:Obj:=⟨(.type "tuple"),none,(.seq #[] 0),#[]⟩
noncomputable def o63:Obj:=⟨(.type "tuple"),none,(.seq #[(.str "value" 251)] 0),#[]⟩
noncomputable def o64:Obj:=⟨(.type "tuple"),none,(.seq #[] 0),#[]⟩
noncomputable def o66:Obj:=⟨(.type "code"),none,(.fields #[(.str "is_amount" 248),(.str "is_amount" 249),(.str "/claim/cut.py" 250),(.int 17 0),(.int 1 0),(.int 0 0),(.int 0 0),(.int 3 0),(.ref 61),(.bool true),(.int 181 0),(.ref 62),.none,(.ref 63),(.ref 64),(.ref 65),(.int 252 0),(.int 17 0),(.str "/claim/cut.py" 253)]),#[]⟩
noncomputable def o67:Obj:=⟨(.type "function"),none,(.func (fnOf "is_amount" "is_amount" (L2.aV (top 7)) (L2.aR (top 7)) (L2.aC (top 7)) .none .none .none (.str "leasttariff.kinds" 223) none (.ref 66) .none)),#[]⟩
noncomputable def o68:Obj:=⟨(.type "tuple"),none,(.seq #[] 0),#[]⟩
noncomputable def o70:Obj:=⟨(.type "tuple"),none,(.seq #[(.str "book" 258),(.str "value" 259)] 0),#[]⟩
noncomputable def o71:Obj:=⟨(.type "tuple"),none,(.seq #[] 0),#[]⟩
noncomputable def o73:Obj:=⟨(.type "code"),none,(.fields #[(.str "is_place" 255),(.str "is_place" 256),(.str "/claim/cut.py" 257),(.int 19 0),(.int 2 0),(.int 0 0),(.int 0 0),(.int 3 0),(.ref 68),(.bool true),(.int 181 0),(.ref 69),.none,(.ref 70),(.ref 71),(.ref 72),(.int 260 0),(.int 19 0),(.str "/claim/cut.py" 261)]),#[]⟩
noncomputable def o74:Obj:=⟨(.type "function"),none,(.func (fnOf "is_place" "is_place" (L2.aV (top 8)) (L2.aR (top 8)) (L2.aC (top 8)) .none .none .none (.str "leasttariff.kinds" 223) none (.ref 73) .none)),#[]⟩
noncomputable def o75:Obj:=⟨(.type "tuple"),none,(.seq #[] 0),#[]⟩
noncomputable def o77:Obj:=⟨(.type "tuple"),none,(.seq #[(.str "book" 266),(.str "tariff" 267)] 0),#[]⟩
noncomputable def o78:Obj:=⟨(.type "tuple"),none,(.seq #[] 0),#[]⟩
noncomputable def o80:Obj:=⟨(.type "code"),none,(.fields #[(.str "check_book" 263),(.str "check_book" 264),(.str "/claim/cut.py" 265),(.int 21 0),(.int 1 0),(.int 0 0),(.int 0 0),(.int 3 0),(.ref 75),(.bool true),(.int 181 0),(.ref 76),.none,(.ref 77),(.ref 78),(.ref 79),(.int 268 0),(.int 21 0),(.str "/claim/cut.py" 269)]),#[]⟩
noncomputable def o81:Obj:=⟨(.type "function"),none,(.func (fnOf "check_book" "check_book" (L2.aV (top 9)) (L2.aR (top 9)) (L2.aC (top 9)) .none .none .none (.str "leasttariff.kinds" 223) none (.ref 80) .none)),#[]⟩
noncomputable def o82:Obj:=⟨(.type "tuple"),none,(.seq #[] 0),#[]⟩
noncomputable def o84:Obj:=⟨(.type "tuple"),none,(.seq #[(.str "top" 276),(.str "bottom" 277),(.str "divisor" 278)] 0),#[]⟩
noncomputable def o85:Obj:=⟨(.type "tuple"),none,(.seq #[] 0),#[]⟩
noncomputable def o87:Obj:=⟨(.type "code"),none,(.fields #[(.str "lowest_terms" 273),(.str "lowest_terms" 274),(.str "/claim/cut.py" 275),(.int 28 0),(.int 2 0),(.int 0 0),(.int 0 0),(.int 3 0),(.ref 82),(.bool true),(.int 181 0),(.ref 83),.none,(.ref 84),(.ref 85),(.ref 86),(.int 279 0),(.int 28 0),(.str "/claim/cut.py" 280)]),#[]⟩
noncomputable def o88:Obj:=⟨(.type "function"),none,(.func (fnOf "lowest_terms" "lowest_terms" (L2.aV (top 11)) (L2.aR (top 11)) (L2.aC (top 11)) .none .none .none (.str "leasttariff.books" 271) none (.ref 87) .none)),#[]⟩
noncomputable def o89:Obj:=⟨(.type "tuple"),none,(.seq #[] 0),#[]⟩
noncomputable def o91:Obj:=⟨(.type "tuple"),none,(.seq #[(.str "tariff" 285),(.str "amount" 286)] 0),#[]⟩
noncomputable def o92:Obj:=⟨(.type "tuple"),none,(.seq #[] 0),#[]⟩
noncomputable def o94:Obj:=⟨(.type "code"),none,(.fields #[(.str "top_of_cost" 282),(.str "top_of_cost" 283),(.str "/claim/cut.py" 284),(.int 31 0),(.int 2 0),(.int 0 0),(.int 0 0),(.int 3 0),(.ref 89),(.bool true),(.int 181 0),(.ref 90),.none,(.ref 91),(.ref 92),(.ref 93),(.int 287 0),(.int 31 0),(.str "/claim/cut.py" 288)]),#[]⟩
noncomputable def o95:Obj:=⟨(.type "function"),none,(.func (fnOf "top_of_cost" "top_of_cost" (L2.aV (top 12)) (L2.aR (top 12)) (L2.aC (top 12)) .none .none .none (.str "leasttariff.books" 271) none (.ref 94) .none)),#[]⟩
noncomputable def o96:Obj:=⟨(.type "tuple"),none,(.seq #[] 0),#[]⟩
noncomputable def o99:Obj:=⟨(.type "code"),none,(.fields #[(.str "tops_of_cost" 292),(.str "tops_of_cost" 293),(.str "/claim/cut.py" 294),(.int 34 0),(.int 2 0),(.int 0 0),(.int 0 0),(.int 3 0),(.ref 96),(.bool true),(.int 181 0),(.ref 97),.none,.none,.none,(.ref 98),(.int 295 0),(.int 34 0),(.str "/claim/cut.py" 296)]),#[]⟩
noncomputable def o100:Obj:=⟨(.type "function"),none,(.func (fnOf "tops_of_cost" "tops_of_cost" (L2.aV (top 14)) (L2.aR (top 14)) (L2.aC (top 14)) .none .none .none (.str "leasttariff.answers" 290) none (.ref 99) .none)),#[]⟩
noncomputable def aas:Obj:=⟨(.type "tuple"),none,(.seq #[] 0),#[]⟩
noncomputable def aat:Obj:=⟨(.type "tuple"),none,(.seq #[(.str "book" 301),(.str "row" 302)] 0),#[]⟩
noncomputable def aau:Obj:=⟨(.type "tuple"),none,(.seq #[] 0),#[]⟩
noncomputable def aav:Obj:=⟨(.type "code"),none,(.fields #[(.str "is_weighing" 298),(.str "is_weighing" 299),(.str "/claim/cut.py" 300),(.int 36 0),(.int 2 0),(.int 0 0),(.int 0 0),(.int 3 0),(.ref 101),(.bool true),(.int 181 0),(.ref 102),.none,(.ref 103),(.ref 104),(.ref 105),(.int 303 0),(.int 36 0),(.str "/claim/cut.py" 304)]),#[]⟩
noncomputable def aaw:Obj:=⟨(.type "function"),none,(.func (fnOf "is_weighing" "is_weighing" (L2.aV (top 15)) (L2.aR (top 15)) (L2.aC (top 15)) .none .none .none (.str "leasttariff.answers" 290) none (.ref 106) .none)),#[]⟩
noncomputable def aax:Obj:=⟨(.type "tuple"),none,(.seq #[] 0),#[]⟩
noncomputable def aay:Obj:=⟨(.type "tuple"),none,(.seq #[(.str "book" 309),(.str "tariff" 310),(.str "row" 311),(.str "one" 312),(.str "other" 313),(.str "weights" 314),(.str "at_once" 315),(.str "by_piece" 316)] 0),#[]⟩
noncomputable def o111:Obj:=⟨(.type "tuple"),none,(.seq #[] 0),#[]⟩
noncomputable def aaz:Obj:=⟨(.type "code"),none,(.fields #[(.str "is_mixture" 306),(.str "is_mixture" 307),(.str "/claim/cut.py" 308),(.int 42 0),(.int 3 0),(.int 0 0),(.int 0 0),(.int 3 0),(.ref 108),(.bool true),(.int 181 0),(.ref 109),.none,(.ref 110),(.ref 111),(.ref 112),(.int 317 0),(.int 42 0),(.str "/claim/cut.py" 318)]),#[]⟩
noncomputable def aaA:Obj:=⟨(.type "function"),none,(.func (fnOf "is_mixture" "is_mixture" (L2.aV (top 16)) (L2.aR (top 16)) (L2.aC (top 16)) .none .none .none (.str "leasttariff.answers" 290) none (.ref 113) .none)),#[]⟩
noncomputable def aaB:Obj:=⟨(.type "tuple"),none,(.seq #[] 0),#[]⟩
noncomputable def aaC:Obj:=⟨(.type "tuple"),none,(.seq #[(.str "one" 323),(.str "other" 324)] 0),#[]⟩
noncomputable def aaD:Obj:=⟨(.type "tuple"),none,(.seq #[] 0),#[]⟩
noncomputable def aaE:Obj:=⟨(.type "code"),none,(.fields #[(.str "is_less" 320),(.str "is_less" 321),(.str "/claim/cut.py" 322),(.int 51 0),(.int 2 0),(.int 0 0),(.int 0 0),(.int 3 0),(.ref 115),(.bool true),(.int 181 0),(.ref 116),.none,(.ref 117),(.ref 118),(.ref 119),(.int 325 0),(.int 51 0),(.str "/claim/cut.py" 326)]),#[]⟩
noncomputable def aaF:Obj:=⟨(.type "function"),none,(.func (fnOf "is_less" "is_less" (L2.aV (top 17)) (L2.aR (top 17)) (L2.aC (top 17)) .none .none .none (.str "leasttariff.answers" 290) none (.ref 120) .none)),#[]⟩
noncomputable def aaG:Obj:=⟨(.type "tuple"),none,(.seq #[] 0),#[]⟩
noncomputable def aaH:Obj:=⟨(.type "code"),none,(.fields #[(.str "are_begins" 328),(.str "are_begins" 329),(.str "/claim/cut.py" 330),(.int 53 0),(.int 1 0),(.int 0 0),(.int 0 0),(.int 3 0),(.ref 122),(.bool true),(.int 181 0),(.ref 123),.none,.none,.none,(.ref 124),(.int 331 0),(.int 53 0),(.str "/claim/cut.py" 332)]),#[]⟩
noncomputable def aaI:Obj:=⟨(.type "function"),none,(.func (fnOf "are_begins" "are_begins" (L2.aV (top 18)) (L2.aR (top 18)) (L2.aC (top 18)) .none .none .none (.str "leasttariff.answers" 290) none (.ref 125) .none)),#[]⟩
noncomputable def aaJ:Obj:=⟨(.type "tuple"),none,(.seq #[] 0),#[]⟩
noncomputable def aaK:Obj:=⟨(.type "code"),none,(.fields #[(.str "are_places_in_turn" 334),(.str "are_places_in_turn" 335),(.str "/claim/cut.py" 336),(.int 57 0),(.int 2 0),(.int 0 0),(.int 0 0),(.int 3 0),(.ref 127),(.bool true),(.int 181 0),(.ref 128),.none,.none,.none,(.ref 129),(.int 337 0),(.int 57 0),(.str "/claim/cut.py" 338)]),#[]⟩
noncomputable def aaL:Obj:=⟨(.type "function"),none,(.func (fnOf "are_places_in_turn" "are_places_in_turn" (L2.aV (top 19)) (L2.aR (top 19)) (L2.aC (top 19)) .none .none .none (.str "leasttariff.answers" 290) none (.ref 130) .none)),#[]⟩
noncomputable def aaM:Obj:=⟨(.type "tuple"),none,(.seq #[] 0),#[]⟩
noncomputable def aaN:Obj:=⟨(.type "tuple"),none,(.seq #[(.str "book" 343),(.str "begins" 344),(.str "places" 345),(.str "index" 346),(.str "begin" 347),(.str "tops" 348),(.str "least" 349)] 0),#[]⟩
noncomputable def aaO:Obj:=⟨(.type "tuple"),none,(.seq #[] 0),#[]⟩
noncomputable def aaP:Obj:=⟨(.type "code"),none,(.fields #[(.str "are_least_at_both_ends" 340),(.str "are_least_at_both_ends" 341),(.str "/claim/cut.py" 342),(.int 61 0),(.int 3 0),(.int 0 0),(.int 0 0),(.int 3 0),(.ref 132),(.bool true),(.int 181 0),(.ref 133),.none,(.ref 134),(.ref 135),(.ref 136),(.int 350 0),(.int 61 0),(.str "/claim/cut.py" 351)]),#[]⟩
noncomputable def aaQ:Obj:=⟨(.type "function"),none,(.func (fnOf "are_least_at_both_ends" "are_least_at_both_ends" (L2.aV (top 20)) (L2.aR (top 20)) (L2.aC (top 20)) .none .none .none (.str "leasttariff.answers" 290) none (.ref 137) .none)),#[]⟩
noncomputable def aaR:Obj:=⟨(.type "tuple"),none,(.seq #[] 0),#[]⟩
noncomputable def aaS (P:Params):Obj:=⟨(.type "dict"),none,(.dict #[de P "__module__" 360 (.str "leasttariff.answers" 290),de P "__firstlineno__" 364 (.int 70 363),de P "__static_attributes__" 365 (.ref 146),de P "__dict__" 367 (.ref 149),de P "__weakref__" 369 (.ref 150),de P "__doc__" 370 .none] 4),#[]⟩
noncomputable def aaT:Obj:=⟨(.type "type"),none,(.cls ⟨"Answer",[(.type "object")],[(.ref 148),(.type "object")],147, "Answer",true,[],[(.ref 174),(.ref 200),(.ref 224),(.ref 248),(.ref 274),(.ref 298),(.ref 324),(.ref 341)],false,none,false⟩),#[none,none,some (.str "Answer" 353),some (.str "Answer" 361),some (.builtin "object.__new__"),some (.bool true)]⟩
noncomputable def aaU:Obj:=⟨(.type "getset_descriptor"),none,(.fields #[(.str "__dict__" 366),(.ref 148),(.builtin "function.__dict__"),(.builtin "function.__dict__#set")]),#[]⟩
noncomputable def aaV:Obj:=⟨(.type "getset_descriptor"),none,(.fields #[(.str "__weakref__" 368),(.ref 148),(.builtin "ExceptionGroup.__weakref__"),.none]),#[]⟩
noncomputable def aaW:Obj:=⟨(.type "tuple"),none,(.seq #[(.ref 148)] 0),#[]⟩
noncomputable def aaX:Obj:=⟨(.type "tuple"),none,(.seq #[] 0),#[]⟩
noncomputable def aaY:Obj:=⟨(.type "tuple"),none,(.seq #[(.str "self" 388),(.str "amount" 389)] 0),#[]⟩
noncomputable def aaZ:Obj:=⟨(.type "tuple"),none,(.seq #[] 0),#[]⟩
noncomputable def aa0:Obj:=⟨(.type "code"),none,(.fields #[(.str "__init__" 385),(.str "Alone.__init__" 386),(.str "/claim/cut.py" 387),(.int 74 0),(.int 2 0),(.int 0 0),(.int 0 0),(.int 3 0),(.ref 160),(.bool true),(.int 181 0),(.ref 161),.none,(.ref 162),(.ref 163),(.ref 164),(.int 390 0),(.int 74 0),(.str "/claim/cut.py" 391)]),#[]⟩
noncomputable def aa1:Obj:=⟨(.type "function"),none,(.func (fnOf "__init__" "Alone.__init__" (L2.aV (L2.inClass (top 22) 0)) (L2.aR (L2.inClass (top 22) 0)) (L2.aC (L2.inClass (top 22) 0)) .none .none .none (.str "leasttariff.answers" 290) none (.ref 165) .none)),#[]⟩
noncomputable def aa2:Obj:=⟨(.type "tuple"),none,(.seq #[] 0),#[]⟩
noncomputable def aa3:Obj:=⟨(.type "code"),none,(.fields #[(.str "shows" 393),(.str "Alone.shows" 394),(.str "/claim/cut.py" 395),(.int 77 0),(.int 3 0),(.int 0 0),(.int 0 0),(.int 3 0),(.ref 167),(.bool true),(.int 181 0),(.ref 168),.none,.none,.none,(.ref 169),(.int 396 0),(.int 77 0),(.str "/claim/cut.py" 397)]),#[]⟩
noncomputable def aa4:Obj:=⟨(.type "function"),none,(.func (fnOf "shows" "Alone.shows" (L2.aV (L2.inClass (top 22) 1)) (L2.aR (L2.inClass (top 22) 1)) (L2.aC (L2.inClass (top 22) 1)) .none .none .none (.str "leasttariff.answers" 290) none (.ref 170) .none)),#[]⟩
noncomputable def aa5:Obj:=⟨(.type "tuple"),none,(.seq #[(.str "amount" 399)] 0),#[]⟩
noncomputable def aa6 (P:Params):Obj:=⟨(.type "dict"),none,(.dict #[de P "__module__" 380 (.str "leasttariff.answers" 290),de P "__firstlineno__" 384 (.int 72 383),de P "__init__" 392 (.ref 166),de P "shows" 398 (.ref 171),de P "__static_attributes__" 400 (.ref 172),de P "__doc__" 401 .none] 2),#[]⟩
noncomputable def aa7:Obj:=⟨(.type "type"),none,(.cls ⟨"Alone",[(.ref 148)],[(.ref 174),(.ref 148),(.type "object")],173, "Alone",true,[],[],false,none,false⟩),#[some (.ref 153),none,some (.str "Alone" 373),some (.str "Alone" 381),some (.builtin "object.__new__"),some (.bool true)]⟩
noncomputable def aa8:Obj:=⟨(.type "tuple"),none,(.seq #[(.ref 148)] 0),#[]⟩
noncomputable def aa9:Obj:=⟨(.type "tuple"),none,(.seq #[] 0),#[]⟩
noncomputable def abb:Obj:=⟨(.type "tuple"),none,(.seq #[(.str "self" 419),(.str "one" 420),(.str "other" 421),(.str "first" 422),(.str "second" 423)] 0),#[]⟩
noncomputable def abd:Obj:=⟨(.type "tuple"),none,(.seq #[] 0),#[]⟩
noncomputable def abe:Obj:=⟨(.type "code"),none,(.fields #[(.str "__init__" 416),(.str "Needless.__init__" 417),(.str "/claim/cut.py" 418),(.int 84 0),(.int 5 0),(.int 0 0),(.int 0 0),(.int 3 0),(.ref 184),(.bool true),(.int 181 0),(.ref 185),.none,(.ref 186),(.ref 187),(.ref 188),(.int 424 0),(.int 84 0),(.str "/claim/cut.py" 425)]),#[]⟩
noncomputable def abf:Obj:=⟨(.type "function"),none,(.func (fnOf "__init__" "Needless.__init__" (L2.aV (L2.inClass (top 23) 0)) (L2.aR (L2.inClass (top 23) 0)) (L2.aC (L2.inClass (top 23) 0)) .none .none .none (.str "leasttariff.answers" 290) none (.ref 189) .none)),#[]⟩
noncomputable def abg:Obj:=⟨(.type "tuple"),none,(.seq #[] 0),#[]⟩
noncomputable def abh:Obj:=⟨(.type "tuple"),none,(.seq #[(.str "self" 430),(.str "book" 431),(.str "place" 432),(.str "row" 433)] 0),#[]⟩
noncomputable def abj:Obj:=⟨(.type "tuple"),none,(.seq #[] 0),#[]⟩
noncomputable def abk:Obj:=⟨(.type "code"),none,(.fields #[(.str "shows" 427),(.str "Needless.shows" 428),(.str "/claim/cut.py" 429),(.int 90 0),(.int 3 0),(.int 0 0),(.int 0 0),(.int 3 0),(.ref 191),(.bool true),(.int 181 0),(.ref 192),.none,(.ref 193),(.ref 194),(.ref 195),(.int 434 0),(.int 90 0),(.str "/claim/cut.py" 435)]),#[]⟩
noncomputable def abl:Obj:=⟨(.type "function"),none,(.func (fnOf "shows" "Needless.shows" (L2.aV (L2.inClass (top 23) 1)) (L2.aR (L2.inClass (top 23) 1)) (L2.aC (L2.inClass (top 23) 1)) .none .none .none (.str "leasttariff.answers" 290) none (.ref 196) .none)),#[]⟩
noncomputable def abm:Obj:=⟨(.type "tuple"),none,(.seq #[(.str "first" 437),(.str "one" 438),(.str "other" 439),(.str "second" 440)] 0),#[]⟩
noncomputable def abn (P:Params):Obj:=⟨(.type "dict"),none,(.dict #[de P "__module__" 411 (.str "leasttariff.answers" 290),de P "__firstlineno__" 415 (.int 82 414),de P "__init__" 426 (.ref 190),de P "shows" 436 (.ref 197),de P "__static_attributes__" 441 (.ref 198),de P "__doc__" 442 .none] 2),#[]⟩
noncomputable def o200:Obj:=⟨(.type "type"),none,(.cls ⟨"Needless",[(.ref 148)],[(.ref 200),(.ref 148),(.type "object")],199, "Needless",true,[],[],false,none,false⟩),#[some (.ref 177),none,some (.str "Needless" 404),some (.str "Needless" 412),some (.builtin "object.__new__"),some (.bool true)]⟩
noncomputable def abo:Obj:=⟨(.type "tuple"),none,(.seq #[(.ref 148)] 0),#[]⟩
noncomputable def abp:Obj:=⟨(.type "tuple"),none,(.seq #[] 0),#[]⟩
noncomputable def abq:Obj:=⟨(.type "tuple"),none,(.seq #[(.str "self" 460),(.str "begins" 461),(.str "places" 462)] 0),#[]⟩
noncomputable def abr:Obj:=⟨(.type "tuple"),none,(.seq #[] 0),#[]⟩
noncomputable def abt:Obj:=⟨(.type "code"),none,(.fields #[(.str "__init__" 457),(.str "Ranges.__init__" 458),(.str "/claim/cut.py" 459),(.int 95 0),(.int 3 0),(.int 0 0),(.int 0 0),(.int 3 0),(.ref 210),(.bool true),(.int 181 0),(.ref 211),.none,(.ref 212),(.ref 213),(.ref 214),(.int 463 0),(.int 95 0),(.str "/claim/cut.py" 464)]),#[]⟩
noncomputable def abu:Obj:=⟨(.type "function"),none,(.func (fnOf "__init__" "Ranges.__init__" (L2.aV (L2.inClass (top 24) 0)) (L2.aR (L2.inClass (top 24) 0)) (L2.aC (L2.inClass (top 24) 0)) .none .none .none (.str "leasttariff.answers" 290) none (.ref 215) .none)),#[]⟩
noncomputable def abv:Obj:=⟨(.type "tuple"),none,(.seq #[] 0),#[]⟩
noncomputable def abw:Obj:=⟨(.type "code"),none,(.fields #[(.str "shows" 466),(.str "Ranges.shows" 467),(.str "/claim/cut.py" 468),(.int 99 0),(.int 2 0),(.int 0 0),(.int 0 0),(.int 3 0),(.ref 217),(.bool true),(.int 181 0),(.ref 218),.none,.none,.none,(.ref 219),(.int 469 0),(.int 99 0),(.str "/claim/cut.py" 470)]),#[]⟩
noncomputable def abx:Obj:=⟨(.type "function"),none,(.func (fnOf "shows" "Ranges.shows" (L2.aV (L2.inClass (top 24) 1)) (L2.aR (L2.inClass (top 24) 1)) (L2.aC (L2.inClass (top 24) 1)) .none .none .none (.str "leasttariff.answers" 290) none (.ref 220) .none)),#[]⟩
noncomputable def aby:Obj:=⟨(.type "tuple"),none,(.seq #[(.str "begins" 472),(.str "places" 473)] 0),#[]⟩
noncomputable def abz (P:Params):Obj:=⟨(.type "dict"),none,(.dict #[de P "__module__" 452 (.str "leasttariff.answers" 290),de P "__firstlineno__" 456 (.int 93 455),de P "__init__" 465 (.ref 216),de P "shows" 471 (.ref 221),de P "__static_attributes__" 474 (.ref 222),de P "__doc__" 475 .none] 2),#[]⟩
noncomputable def abA:Obj:=⟨(.type "type"),none,(.cls ⟨"Ranges",[(.ref 148)],[(.ref 224),(.ref 148),(.type "object")],223, "Ranges",true,[],[],false,none,false⟩),#[some (.ref 203),none,some (.str "Ranges" 445),some (.str "Ranges" 453),some (.builtin "object.__new__"),some (.bool true)]⟩
noncomputable def abB:Obj:=⟨(.type "tuple"),none,(.seq #[(.ref 148)] 0),#[]⟩
noncomputable def abC:Obj:=⟨(.type "tuple"),none,(.seq #[] 0),#[]⟩
noncomputable def abD:Obj:=⟨(.type "tuple"),none,(.seq #[(.str "self" 493),(.str "rows" 494)] 0),#[]⟩
noncomputable def abE:Obj:=⟨(.type "tuple"),none,(.seq #[] 0),#[]⟩
noncomputable def abF:Obj:=⟨(.type "code"),none,(.fields #[(.str "__init__" 490),(.str "Under.__init__" 491),(.str "/claim/cut.py" 492),(.int 109 0),(.int 2 0),(.int 0 0),(.int 0 0),(.int 3 0),(.ref 234),(.bool true),(.int 181 0),(.ref 235),.none,(.ref 236),(.ref 237),(.ref 238),(.int 495 0),(.int 109 0),(.str "/claim/cut.py" 496)]),#[]⟩
noncomputable def abG:Obj:=⟨(.type "function"),none,(.func (fnOf "__init__" "Under.__init__" (L2.aV (L2.inClass (top 25) 0)) (L2.aR (L2.inClass (top 25) 0)) (L2.aC (L2.inClass (top 25) 0)) .none .none .none (.str "leasttariff.answers" 290) none (.ref 239) .none)),#[]⟩
noncomputable def abH:Obj:=⟨(.type "tuple"),none,(.seq #[] 0),#[]⟩
noncomputable def abI:Obj:=⟨(.type "code"),none,(.fields #[(.str "shows" 498),(.str "Under.shows" 499),(.str "/claim/cut.py" 500),(.int 112 0),(.int 3 0),(.int 0 0),(.int 0 0),(.int 3 0),(.ref 241),(.bool true),(.int 181 0),(.ref 242),.none,.none,.none,(.ref 243),(.int 501 0),(.int 112 0),(.str "/claim/cut.py" 502)]),#[]⟩
noncomputable def abJ:Obj:=⟨(.type "function"),none,(.func (fnOf "shows" "Under.shows" (L2.aV (L2.inClass (top 25) 1)) (L2.aR (L2.inClass (top 25) 1)) (L2.aC (L2.inClass (top 25) 1)) .none .none .none (.str "leasttariff.answers" 290) none (.ref 244) .none)),#[]⟩
noncomputable def abK:Obj:=⟨(.type "tuple"),none,(.seq #[(.str "rows" 504)] 0),#[]⟩
noncomputable def abL (P:Params):Obj:=⟨(.type "dict"),none,(.dict #[de P "__module__" 485 (.str "leasttariff.answers" 290),de P "__firstlineno__" 489 (.int 107 488),de P "__init__" 497 (.ref 240),de P "shows" 503 (.ref 245),de P "__static_attributes__" 505 (.ref 246),de P "__doc__" 506 .none] 2),#[]⟩
noncomputable def abM:Obj:=⟨(.type "type"),none,(.cls ⟨"Under",[(.ref 148)],[(.ref 248),(.ref 148),(.type "object")],247, "Under",true,[],[],false,none,false⟩),#[some (.ref 227),none,some (.str "Under" 478),some (.str "Under" 486),some (.builtin "object.__new__"),some (.bool true)]⟩
noncomputable def abN:Obj:=⟨(.type "tuple"),none,(.seq #[(.ref 148)] 0),#[]⟩
noncomputable def abO:Obj:=⟨(.type "tuple"),none,(.seq #[] 0),#[]⟩
noncomputable def abP:Obj:=⟨(.type "tuple"),none,(.seq #[(.str "self" 524),(.str "amount" 525)] 0),#[]⟩
noncomputable def abQ:Obj:=⟨(.type "tuple"),none,(.seq #[] 0),#[]⟩
noncomputable def abR:Obj:=⟨(.type "code"),none,(.fields #[(.str "__init__" 521),(.str "Over.__init__" 522),(.str "/claim/cut.py" 523),(.int 118 0),(.int 2 0),(.int 0 0),(.int 0 0),(.int 3 0),(.ref 258),(.bool true),(.int 181 0),(.ref 259),.none,(.ref 260),(.ref 261),(.ref 262),(.int 526 0),(.int 118 0),(.str "/claim/cut.py" 527)]),#[]⟩
noncomputable def abS:Obj:=⟨(.type "function"),none,(.func (fnOf "__init__" "Over.__init__" (L2.aV (L2.inClass (top 26) 0)) (L2.aR (L2.inClass (top 26) 0)) (L2.aC (L2.inClass (top 26) 0)) .none .none .none (.str "leasttariff.answers" 290) none (.ref 263) .none)),#[]⟩
noncomputable def abT:Obj:=⟨(.type "tuple"),none,(.seq #[] 0),#[]⟩
noncomputable def abU:Obj:=⟨(.type "tuple"),none,(.seq #[(.str "self" 532),(.str "one" 533),(.str "other" 534)] 0),#[]⟩
noncomputable def abV:Obj:=⟨(.type "tuple"),none,(.seq #[] 0),#[]⟩
noncomputable def abW:Obj:=⟨(.type "code"),none,(.fields #[(.str "shows" 529),(.str "Over.shows" 530),(.str "/claim/cut.py" 531),(.int 121 0),(.int 3 0),(.int 0 0),(.int 0 0),(.int 3 0),(.ref 265),(.bool true),(.int 181 0),(.ref 266),.none,(.ref 267),(.ref 268),(.ref 269),(.int 535 0),(.int 121 0),(.str "/claim/cut.py" 536)]),#[]⟩
noncomputable def abX:Obj:=⟨(.type "function"),none,(.func (fnOf "shows" "Over.shows" (L2.aV (L2.inClass (top 26) 1)) (L2.aR (L2.inClass (top 26) 1)) (L2.aC (L2.inClass (top 26) 1)) .none .none .none (.str "leasttariff.answers" 290) none (.ref 270) .none)),#[]⟩
noncomputable def abY:Obj:=⟨(.type "tuple"),none,(.seq #[(.str "amount" 538)] 0),#[]⟩
noncomputable def abZ (P:Params):Obj:=⟨(.type "dict"),none,(.dict #[de P "__module__" 516 (.str "leasttariff.answers" 290),de P "__firstlineno__" 520 (.int 116 519),de P "__init__" 528 (.ref 264),de P "shows" 537 (.ref 271),de P "__static_attributes__" 539 (.ref 272),de P "__doc__" 540 .none] 2),#[]⟩
noncomputable def ab0:Obj:=⟨(.type "type"),none,(.cls ⟨"Over",[(.ref 148)],[(.ref 274),(.ref 148),(.type "object")],273, "Over",true,[],[],false,none,false⟩),#[some (.ref 251),none,some (.str "Over" 509),some (.str "Over" 517),some (.builtin "object.__new__"),some (.bool true)]⟩
noncomputable def ab1:Obj:=⟨(.type "tuple"),none,(.seq #[(.ref 148)] 0),#[]⟩
noncomputable def ab2:Obj:=⟨(.type "tuple"),none,(.seq #[] 0),#[]⟩
noncomputable def ab3:Obj:=⟨(.type "tuple"),none,(.seq #[(.str "self" 558),(.str "place" 559),(.str "amount" 560)] 0),#[]⟩
noncomputable def ab4:Obj:=⟨(.type "tuple"),none,(.seq #[] 0),#[]⟩
noncomputable def ab5:Obj:=⟨(.type "code"),none,(.fields #[(.str "__init__" 555),(.str "Most.__init__" 556),(.str "/claim/cut.py" 557),(.int 127 0),(.int 3 0),(.int 0 0),(.int 0 0),(.int 3 0),(.ref 284),(.bool true),(.int 181 0),(.ref 285),.none,(.ref 286),(.ref 287),(.ref 288),(.int 561 0),(.int 127 0),(.str "/claim/cut.py" 562)]),#[]⟩
noncomputable def ab6:Obj:=⟨(.type "function"),none,(.func (fnOf "__init__" "Most.__init__" (L2.aV (L2.inClass (top 27) 0)) (L2.aR (L2.inClass (top 27) 0)) (L2.aC (L2.inClass (top 27) 0)) .none .none .none (.str "leasttariff.answers" 290) none (.ref 289) .none)),#[]⟩
noncomputable def ab7:Obj:=⟨(.type "tuple"),none,(.seq #[] 0),#[]⟩
noncomputable def ab8:Obj:=⟨(.type "code"),none,(.fields #[(.str "shows" 564),(.str "Most.shows" 565),(.str "/claim/cut.py" 566),(.int 131 0),(.int 3 0),(.int 0 0),(.int 0 0),(.int 3 0),(.ref 291),(.bool true),(.int 181 0),(.ref 292),.none,.none,.none,(.ref 293),(.int 567 0),(.int 131 0),(.str "/claim/cut.py" 568)]),#[]⟩
noncomputable def ab9:Obj:=⟨(.type "function"),none,(.func (fnOf "shows" "Most.shows" (L2.aV (L2.inClass (top 27) 1)) (L2.aR (L2.inClass (top 27) 1)) (L2.aC (L2.inClass (top 27) 1)) .none .none .none (.str "leasttariff.answers" 290) none (.ref 294) .none)),#[]⟩
noncomputable def acd:Obj:=⟨(.type "tuple"),none,(.seq #[(.str "amount" 570),(.str "place" 571)] 0),#[]⟩
noncomputable def ace (P:Params):Obj:=⟨(.type "dict"),none,(.dict #[de P "__module__" 550 (.str "leasttariff.answers" 290),de P "__firstlineno__" 554 (.int 125 553),de P "__init__" 563 (.ref 290),de P "shows" 569 (.ref 295),de P "__static_attributes__" 572 (.ref 296),de P "__doc__" 573 .none] 2),#[]⟩
noncomputable def acf:Obj:=⟨(.type "type"),none,(.cls ⟨"Most",[(.ref 148)],[(.ref 298),(.ref 148),(.type "object")],297, "Most",true,[],[],false,none,false⟩),#[some (.ref 277),none,some (.str "Most" 543),some (.str "Most" 551),some (.builtin "object.__new__"),some (.bool true)]⟩
noncomputable def acg:Obj:=⟨(.type "tuple"),none,(.seq #[(.ref 148)] 0),#[]⟩
noncomputable def ach:Obj:=⟨(.type "tuple"),none,(.seq #[] 0),#[]⟩
noncomputable def aci:Obj:=⟨(.type "tuple"),none,(.seq #[(.str "self" 591),(.str "place" 592)] 0),#[]⟩
noncomputable def acj:Obj:=⟨(.type "tuple"),none,(.seq #[] 0),#[]⟩
noncomputable def acn:Obj:=⟨(.type "code"),none,(.fields #[(.str "__init__" 588),(.str "Endless.__init__" 589),(.str "/claim/cut.py" 590),(.int 141 0),(.int 2 0),(.int 0 0),(.int 0 0),(.int 3 0),(.ref 308),(.bool true),(.int 181 0),(.ref 309),.none,(.ref 310),(.ref 311),(.ref 312),(.int 593 0),(.int 141 0),(.str "/claim/cut.py" 594)]),#[]⟩
noncomputable def aco:Obj:=⟨(.type "function"),none,(.func (fnOf "__init__" "Endless.__init__" (L2.aV (L2.inClass (top 28) 0)) (L2.aR (L2.inClass (top 28) 0)) (L2.aC (L2.inClass (top 28) 0)) .none .none .none (.str "leasttariff.answers" 290) none (.ref 313) .none)),#[]⟩
noncomputable def acp:Obj:=⟨(.type "tuple"),none,(.seq #[] 0),#[]⟩
noncomputable def acq:Obj:=⟨(.type "tuple"),none,(.seq #[(.str "self" 599),(.str "book" 600),(.str "money" 601),(.str "tariff" 602)] 0),#[]⟩
noncomputable def acr:Obj:=⟨(.type "tuple"),none,(.seq #[] 0),#[]⟩
noncomputable def acs:Obj:=⟨(.type "code"),none,(.fields #[(.str "shows" 596),(.str "Endless.shows" 597),(.str "/claim/cut.py" 598),(.int 144 0),(.int 3 0),(.int 0 0),(.int 0 0),(.int 3 0),(.ref 315),(.bool true),(.int 181 0),(.ref 316),.none,(.ref 317),(.ref 318),(.ref 319),(.int 603 0),(.int 144 0),(.str "/claim/cut.py" 604)]),#[]⟩
noncomputable def acu:Obj:=⟨(.type "function"),none,(.func (fnOf "shows" "Endless.shows" (L2.aV (L2.inClass (top 28) 1)) (L2.aR (L2.inClass (top 28) 1)) (L2.aC (L2.inClass (top 28) 1)) .none .none .none (.str "leasttariff.answers" 290) none (.ref 320) .none)),#[]⟩
noncomputable def acv:Obj:=⟨(.type "tuple"),none,(.seq #[(.str "place" 606)] 0),#[]⟩
noncomputable def acw (P:Params):Obj:=⟨(.type "dict"),none,(.dict #[de P "__module__" 583 (.str "leasttariff.answers" 290),de P "__firstlineno__" 587 (.int 139 586),de P "__init__" 595 (.ref 314),de P "shows" 605 (.ref 321),de P "__static_attributes__" 607 (.ref 322),de P "__doc__" 608 .none] 2),#[]⟩
noncomputable def acy:Obj:=⟨(.type "type"),none,(.cls ⟨"Endless",[(.ref 148)],[(.ref 324),(.ref 148),(.type "object")],323, "Endless",true,[],[],false,none,false⟩),#[some (.ref 301),none,some (.str "Endless" 576),some (.str "Endless" 584),some (.builtin "object.__new__"),some (.bool true)]⟩
noncomputable def acz:Obj:=⟨(.type "tuple"),none,(.seq #[(.ref 148)] 0),#[]⟩
noncomputable def acA:Obj:=⟨(.type "tuple"),none,(.seq #[] 0),#[]⟩
noncomputable def acB:Obj:=⟨(.type "code"),none,(.fields #[(.str "shows" 623),(.str "Dear.shows" 624),(.str "/claim/cut.py" 625),(.int 151 0),(.int 3 0),(.int 0 0),(.int 0 0),(.int 3 0),(.ref 334),(.bool true),(.int 181 0),(.ref 335),.none,.none,.none,(.ref 336),(.int 626 0),(.int 151 0),(.str "/claim/cut.py" 627)]),#[]⟩
noncomputable def acC:Obj:=⟨(.type "function"),none,(.func (fnOf "shows" "Dear.shows" (L2.aV (L2.inClass (top 29) 0)) (L2.aR (L2.inClass (top 29) 0)) (L2.aC (L2.inClass (top 29) 0)) .none .none .none (.str "leasttariff.answers" 290) none (.ref 337) .none)),#[]⟩
noncomputable def acD:Obj:=⟨(.type "tuple"),none,(.seq #[] 0),#[]⟩
noncomputable def acE (P:Params):Obj:=⟨(.type "dict"),none,(.dict #[de P "__module__" 618 (.str "leasttariff.answers" 290),de P "__firstlineno__" 622 (.int 149 621),de P "shows" 628 (.ref 338),de P "__static_attributes__" 629 (.ref 339),de P "__doc__" 630 .none] 2),#[]⟩
noncomputable def acF:Obj:=⟨(.type "type"),none,(.cls ⟨"Dear",[(.ref 148)],[(.ref 341),(.ref 148),(.type "object")],340, "Dear",true,[],[],false,none,false⟩),#[some (.ref 327),none,some (.str "Dear" 611),some (.str "Dear" 619),some (.builtin "object.__new__"),some (.bool true)]⟩
noncomputable def acG:Obj:=⟨(.type "tuple"),none,(.seq #[] 0),#[]⟩
noncomputable def acH:Obj:=⟨(.type "tuple"),none,(.seq #[(.str "book" 638),(.str "places" 639)] 0),#[]⟩
noncomputable def acI:Obj:=⟨(.type "tuple"),none,(.seq #[(.str "book" 640)] 0),#[]⟩
noncomputable def Ve:Obj:=⟨(.type "code"),none,(.fields #[(.str "by_falling_piece" 635),(.str "by_falling_piece" 636),(.str "/claim/cut.py" 637),(.int 154 0),(.int 2 0),(.int 0 0),(.int 0 0),(.int 3 0),(.ref 344),(.bool true),(.int 181 0),(.ref 345),.none,(.ref 346),(.ref 347),(.ref 348),(.int 641 0),(.int 154 0),(.str "/claim/cut.py" 642)]),#[]⟩
noncomputable def acJ:Obj:=⟨(.type "function"),none,(.func (fnOf "by_falling_piece" "by_falling_piece" (L2.aV (top 31)) (L2.aR (top 31)) (L2.aC (top 31)) .none .none .none (.str "leasttariff.telling" 633) none (.ref 349) .none)),#[]⟩
noncomputable def acK:Obj:=⟨(.type "tuple"),none,(.seq #[] 0),#[]⟩
noncomputable def acL:Obj:=⟨(.type "tuple"),none,(.seq #[(.str "book" 647),(.str "places" 648),(.str "begins" 649),(.str "kept" 650),(.str "place" 651),(.str "tariff" 652),(.str "begin" 653),(.str "before" 654)] 0),#[]⟩
noncomputable def acM:Obj:=⟨(.type "tuple"),none,(.seq #[] 0),#[]⟩
noncomputable def acN:Obj:=⟨(.type "code"),none,(.fields #[(.str "least_in_turn" 644),(.str "least_in_turn" 645),(.str "/claim/cut.py" 646),(.int 156 0),(.int 2 0),(.int 0 0),(.int 0 0),(.int 3 0),(.ref 351),(.bool true),(.int 181 0),(.ref 352),.none,(.ref 353),(.ref 354),(.ref 355),(.int 655 0),(.int 156 0),(.str "/claim/cut.py" 656)]),#[]⟩
noncomputable def acO:Obj:=⟨(.type "function"),none,(.func (fnOf "least_in_turn" "least_in_turn" (L2.aV (top 32)) (L2.aR (top 32)) (L2.aC (top 32)) .none .none .none (.str "leasttariff.telling" 633) none (.ref 356) .none)),#[]⟩
noncomputable def acP:Obj:=⟨(.type "tuple"),none,(.seq #[] 0),#[]⟩
noncomputable def acQ:Obj:=⟨(.type "tuple"),none,(.seq #[(.str "tariff" 661),(.str "book" 662),(.str "places" 663),(.str "low" 664),(.str "high" 665),(.str "middle" 666)] 0),#[]⟩
noncomputable def acR:Obj:=⟨(.type "tuple"),none,(.seq #[] 0),#[]⟩
noncomputable def acS:Obj:=⟨(.type "code"),none,(.fields #[(.str "turn_for" 658),(.str "turn_for" 659),(.str "/claim/cut.py" 660),(.int 171 0),(.int 3 0),(.int 0 0),(.int 0 0),(.int 3 0),(.ref 358),(.bool true),(.int 181 0),(.ref 359),.none,(.ref 360),(.ref 361),(.ref 362),(.int 667 0),(.int 171 0),(.str "/claim/cut.py" 668)]),#[]⟩
noncomputable def acT:Obj:=⟨(.type "function"),none,(.func (fnOf "turn_for" "turn_for" (L2.aV (top 33)) (L2.aR (top 33)) (L2.aC (top 33)) .none .none .none (.str "leasttariff.telling" 633) none (.ref 363) .none)),#[]⟩
noncomputable def acU:Obj:=⟨(.type "tuple"),none,(.seq #[] 0),#[]⟩
noncomputable def acV:Obj:=⟨(.type "tuple"),none,(.seq #[(.str "tariff" 673),(.str "book" 674),(.str "begins" 675),(.str "places" 676),(.str "turn" 677),(.str "begin" 678),(.str "least" 679),(.str "apart" 680)] 0),#[]⟩
noncomputable def acW:Obj:=⟨(.type "tuple"),none,(.seq #[] 0),#[]⟩
noncomputable def acX:Obj:=⟨(.type "code"),none,(.fields #[(.str "amount_below" 670),(.str "amount_below" 671),(.str "/claim/cut.py" 672),(.int 181 0),(.int 4 0),(.int 0 0),(.int 0 0),(.int 3 0),(.ref 365),(.bool true),(.int 181 0),(.ref 366),.none,(.ref 367),(.ref 368),(.ref 369),(.int 681 0),(.int 181 0),(.str "/claim/cut.py" 682)]),#[]⟩
noncomputable def acY:Obj:=⟨(.type "function"),none,(.func (fnOf "amount_below" "amount_below" (L2.aV (top 34)) (L2.aR (top 34)) (L2.aC (top 34)) .none .none .none (.str "leasttariff.telling" 633) none (.ref 370) .none)),#[]⟩
noncomputable def acZ:Obj:=⟨(.type "tuple"),none,(.seq #[] 0),#[]⟩
noncomputable def ac0:Obj:=⟨(.type "tuple"),none,(.seq #[(.str "tariff" 687),(.str "book" 688),(.str "places" 689),(.str "turn" 690),(.str "after" 691),(.str "before" 692)] 0),#[]⟩
noncomputable def ac1:Obj:=⟨(.type "tuple"),none,(.seq #[] 0),#[]⟩
noncomputable def o377:Obj:=⟨(.type "code"),none,(.fields #[(.str "mixture_for" 684),(.str "mixture_for" 685),(.str "/claim/cut.py" 686),(.int 191 0),(.int 3 0),(.int 0 0),(.int 0 0),(.int 3 0),(.ref 372),(.bool true),(.int 181 0),(.ref 373),.none,(.ref 374),(.ref 375),(.ref 376),(.int 693 0),(.int 191 0),(.str "/claim/cut.py" 694)]),#[]⟩
noncomputable def ac2:Obj:=⟨(.type "function"),none,(.func (fnOf "mixture_for" "mixture_for" (L2.aV (top 35)) (L2.aR (top 35)) (L2.aC (top 35)) .none .none .none (.str "leasttariff.telling" 633) none (.ref 377) .none)),#[]⟩
noncomputable def ac3:Obj:=⟨(.type "tuple"),none,(.seq #[] 0),#[]⟩
noncomputable def ac4:Obj:=⟨(.type "code"),none,(.fields #[(.str "ranges" 696),(.str "ranges" 697),(.str "/claim/cut.py" 698),(.int 198 0),(.int 1 0),(.int 0 0),(.int 0 0),(.int 3 0),(.ref 379),(.bool true),(.int 181 0),(.ref 380),.none,.none,.none,(.ref 381),(.int 699 0),(.int 198 0),(.str "/claim/cut.py" 700)]),#[]⟩
noncomputable def ac5:Obj:=⟨(.type "function"),none,(.func (fnOf "ranges" "ranges" (L2.aV (top 36)) (L2.aR (top 36)) (L2.aC (top 36)) .none .none .none (.str "leasttariff.telling" 633) none (.ref 382) .none)),#[]⟩
noncomputable def ac6:Obj:=⟨(.type "tuple"),none,(.seq #[] 0),#[]⟩
noncomputable def ac7:Obj:=⟨(.type "code"),none,(.fields #[(.str "under" 702),(.str "under" 703),(.str "/claim/cut.py" 704),(.int 202 0),(.int 2 0),(.int 0 0),(.int 0 0),(.int 3 0),(.ref 384),(.bool true),(.int 181 0),(.ref 385),.none,.none,.none,(.ref 386),(.int 705 0),(.int 202 0),(.str "/claim/cut.py" 706)]),#[]⟩
noncomputable def ac8:Obj:=⟨(.type "function"),none,(.func (fnOf "under" "under" (L2.aV (top 37)) (L2.aR (top 37)) (L2.aC (top 37)) .none .none .none (.str "leasttariff.telling" 633) none (.ref 387) .none)),#[]⟩
noncomputable def ac9:Obj:=⟨(.type "tuple"),none,(.seq #[] 0),#[]⟩
noncomputable def ada:Obj:=⟨(.type "code"),none,(.fields #[(.str "_law_book" 710),(.str "_law_book" 711),(.str "/claim/cut.py" 712),(.int 212 0),(.int 1 0),(.int 0 0),(.int 0 0),(.int 3 0),(.ref 389),(.bool true),(.int 181 0),(.ref 390),.none,.none,.none,(.ref 391),(.int 713 0),(.int 212 0),(.str "/claim/cut.py" 714)]),#[]⟩
noncomputable def adb:Obj:=⟨(.type "function"),none,(.func (fnOf "_law_book" "_law_book" (L2.aV (top 39)) (L2.aR (top 39)) (L2.aC (top 39)) .none .none .none (.str "law_leasttariff_k06_answers_by_hand" 708) none (.ref 392) .none)),#[]⟩
noncomputable def ade:Obj:=⟨(.type "tuple"),none,(.seq #[] 0),#[]⟩
noncomputable def adf:Obj:=⟨(.type "tuple"),none,(.seq #[(.str "_law_above" 719),(.str "_law_below" 720),(.str "_law_one" 721),(.str "_law_other" 722)] 0),#[]⟩
noncomputable def adg:Obj:=⟨(.type "tuple"),none,(.seq #[] 0),#[]⟩
noncomputable def adh:Obj:=⟨(.type "code"),none,(.fields #[(.str "_law_lowest" 716),(.str "_law_lowest" 717),(.str "/claim/cut.py" 718),(.int 221 0),(.int 2 0),(.int 0 0),(.int 0 0),(.int 3 0),(.ref 394),(.bool true),(.int 181 0),(.ref 395),.none,(.ref 396),(.ref 397),(.ref 398),(.int 723 0),(.int 221 0),(.str "/claim/cut.py" 724)]),#[]⟩
noncomputable def o400:Obj:=⟨(.type "function"),none,(.func (fnOf "_law_lowest" "_law_lowest" (L2.aV (top 40)) (L2.aR (top 40)) (L2.aC (top 40)) .none .none .none (.str "law_leasttariff_k06_answers_by_hand" 708) none (.ref 399) .none)),#[]⟩
noncomputable def adi:Obj:=⟨(.type "tuple"),none,(.seq #[] 0),#[]⟩
noncomputable def adk:Obj:=⟨(.type "tuple"),none,(.seq #[(.str "_law_cell" 729)] 0),#[]⟩
noncomputable def adl:Obj:=⟨(.type "tuple"),none,(.seq #[] 0),#[]⟩
noncomputable def adn:Obj:=⟨(.type "code"),none,(.fields #[(.str "_law_amount" 726),(.str "_law_amount" 727),(.str "/claim/cut.py" 728),(.int 226 0),(.int 1 0),(.int 0 0),(.int 0 0),(.int 3 0),(.ref 401),(.bool true),(.int 181 0),(.ref 402),.none,(.ref 403),(.ref 404),(.ref 405),(.int 730 0),(.int 226 0),(.str "/claim/cut.py" 731)]),#[]⟩
noncomputable def ado:Obj:=⟨(.type "function"),none,(.func (fnOf "_law_amount" "_law_amount" (L2.aV (top 41)) (L2.aR (top 41)) (L2.aC (top 41)) .none .none .none (.str "law_leasttariff_k06_answers_by_hand" 708) none (.ref 406) .none)),#[]⟩
noncomputable def adp:Obj:=⟨(.type "tuple"),none,(.seq #[] 0),#[]⟩
noncomputable def adq:Obj:=⟨(.type "tuple"),none,(.seq #[(.str "_law_tariff" 736),(.str "_law_amount_here" 737)] 0),#[]⟩
noncomputable def adt:Obj:=⟨(.type "tuple"),none,(.seq #[] 0),#[]⟩
noncomputable def adu:Obj:=⟨(.type "code"),none,(.fields #[(.str "_law_cost" 733),(.str "_law_cost" 734),(.str "/claim/cut.py" 735),(.int 230 0),(.int 2 0),(.int 0 0),(.int 0 0),(.int 3 0),(.ref 408),(.bool true),(.int 181 0),(.ref 409),.none,(.ref 410),(.ref 411),(.ref 412),(.int 738 0),(.int 230 0),(.str "/claim/cut.py" 739)]),#[]⟩
noncomputable def adv:Obj:=⟨(.type "function"),none,(.func (fnOf "_law_cost" "_law_cost" (L2.aV (top 42)) (L2.aR (top 42)) (L2.aC (top 42)) .none .none .none (.str "law_leasttariff_k06_answers_by_hand" 708) none (.ref 413) .none)),#[]⟩
noncomputable def adw:Obj:=⟨(.type "tuple"),none,(.seq #[] 0),#[]⟩
noncomputable def adx:Obj:=⟨(.type "code"),none,(.fields #[(.str "_law_mixture" 741),(.str "_law_mixture" 742),(.str "/claim/cut.py" 743),(.int 232 0),(.int 3 0),(.int 0 0),(.int 0 0),(.int 3 0),(.ref 415),(.bool true),(.int 181 0),(.ref 416),.none,.none,.none,(.ref 417),(.int 744 0),(.int 232 0),(.str "/claim/cut.py" 745)]),#[]⟩
noncomputable def ady:Obj:=⟨(.type "function"),none,(.func (fnOf "_law_mixture" "_law_mixture" (L2.aV (top 43)) (L2.aR (top 43)) (L2.aC (top 43)) .none .none .none (.str "law_leasttariff_k06_answers_by_hand" 708) none (.ref 418) .none)),#[]⟩
noncomputable def adz:Obj:=⟨(.type "tuple"),none,(.seq #[] 0),#[]⟩
noncomputable def adA:Obj:=⟨(.type "code"),none,(.fields #[(.str "_law_alone" 747),(.str "_law_alone" 748),(.str "/claim/cut.py" 749),(.int 241 0),(.int 3 0),(.int 0 0),(.int 0 0),(.int 3 0),(.ref 420),(.bool true),(.int 181 0),(.ref 421),.none,.none,.none,(.ref 422),(.int 750 0),(.int 241 0),(.str "/claim/cut.py" 751)]),#[]⟩
noncomputable def adB:Obj:=⟨(.type "function"),none,(.func (fnOf "_law_alone" "_law_alone" (L2.aV (top 44)) (L2.aR (top 44)) (L2.aC (top 44)) .none .none .none (.str "law_leasttariff_k06_answers_by_hand" 708) none (.ref 423) .none)),#[]⟩
noncomputable def adC:Obj:=⟨(.type "tuple"),none,(.seq #[] 0),#[]⟩
noncomputable def adD:Obj:=⟨(.type "tuple"),none,(.seq #[(.str "_law_book_here" 756),(.str "_law_place" 757),(.str "_law_row" 758)] 0),#[]⟩
noncomputable def adE:Obj:=⟨(.type "tuple"),none,(.seq #[] 0),#[]⟩
noncomputable def adF:Obj:=⟨(.type "code"),none,(.fields #[(.str "_law_needless" 753),(.str "_law_needless" 754),(.str "/claim/cut.py" 755),(.int 244 0),(.int 3 0),(.int 0 0),(.int 0 0),(.int 3 0),(.ref 425),(.bool true),(.int 181 0),(.ref 426),.none,(.ref 427),(.ref 428),(.ref 429),(.int 759 0),(.int 244 0),(.str "/claim/cut.py" 760)]),#[]⟩
noncomputable def adG:Obj:=⟨(.type "function"),none,(.func (fnOf "_law_needless" "_law_needless" (L2.aV (top 45)) (L2.aR (top 45)) (L2.aC (top 45)) .none .none .none (.str "law_leasttariff_k06_answers_by_hand" 708) none (.ref 430) .none)),#[]⟩
noncomputable def adH:Obj:=⟨(.type "tuple"),none,(.seq #[] 0),#[]⟩
noncomputable def adI:Obj:=⟨(.type "code"),none,(.fields #[(.str "_law_ranges" 762),(.str "_law_ranges" 763),(.str "/claim/cut.py" 764),(.int 246 0),(.int 3 0),(.int 0 0),(.int 0 0),(.int 3 0),(.ref 432),(.bool true),(.int 181 0),(.ref 433),.none,.none,.none,(.ref 434),(.int 765 0),(.int 246 0),(.str "/claim/cut.py" 766)]),#[]⟩
noncomputable def adJ:Obj:=⟨(.type "function"),none,(.func (fnOf "_law_ranges" "_law_ranges" (L2.aV (top 46)) (L2.aR (top 46)) (L2.aC (top 46)) .none .none .none (.str "law_leasttariff_k06_answers_by_hand" 708) none (.ref 435) .none)),#[]⟩
noncomputable def adK:Obj:=⟨(.type "tuple"),none,(.seq #[] 0),#[]⟩
noncomputable def adL:Obj:=⟨(.type "code"),none,(.fields #[(.str "_law_under" 768),(.str "_law_under" 769),(.str "/claim/cut.py" 770),(.int 261 0),(.int 3 0),(.int 0 0),(.int 0 0),(.int 3 0),(.ref 437),(.bool true),(.int 181 0),(.ref 438),.none,.none,.none,(.ref 439),(.int 771 0),(.int 261 0),(.str "/claim/cut.py" 772)]),#[]⟩
noncomputable def adM:Obj:=⟨(.type "function"),none,(.func (fnOf "_law_under" "_law_under" (L2.aV (top 47)) (L2.aR (top 47)) (L2.aC (top 47)) .none .none .none (.str "law_leasttariff_k06_answers_by_hand" 708) none (.ref 440) .none)),#[]⟩
noncomputable def adN:Obj:=⟨(.type "tuple"),none,(.seq #[] 0),#[]⟩
noncomputable def adO:Obj:=⟨(.type "code"),none,(.fields #[(.str "_law_over" 774),(.str "_law_over" 775),(.str "/claim/cut.py" 776),(.int 265 0),(.int 3 0),(.int 0 0),(.int 0 0),(.int 3 0),(.ref 442),(.bool true),(.int 181 0),(.ref 443),.none,.none,.none,(.ref 444),(.int 777 0),(.int 265 0),(.str "/claim/cut.py" 778)]),#[]⟩
noncomputable def adP:Obj:=⟨(.type "function"),none,(.func (fnOf "_law_over" "_law_over" (L2.aV (top 48)) (L2.aR (top 48)) (L2.aC (top 48)) .none .none .none (.str "law_leasttariff_k06_answers_by_hand" 708) none (.ref 445) .none)),#[]⟩
noncomputable def adQ:Obj:=⟨(.type "tuple"),none,(.seq #[] 0),#[]⟩
noncomputable def adR:Obj:=⟨(.type "code"),none,(.fields #[(.str "_law_most" 780),(.str "_law_most" 781),(.str "/claim/cut.py" 782),(.int 268 0),(.int 4 0),(.int 0 0),(.int 0 0),(.int 3 0),(.ref 447),(.bool true),(.int 181 0),(.ref 448),.none,.none,.none,(.ref 449),(.int 783 0),(.int 268 0),(.str "/claim/cut.py" 784)]),#[]⟩
noncomputable def adS:Obj:=⟨(.type "function"),none,(.func (fnOf "_law_most" "_law_most" (L2.aV (top 49)) (L2.aR (top 49)) (L2.aC (top 49)) .none .none .none (.str "law_leasttariff_k06_answers_by_hand" 708) none (.ref 450) .none)),#[]⟩
noncomputable def adT:Obj:=⟨(.type "tuple"),none,(.seq #[] 0),#[]⟩
noncomputable def adU:Obj:=⟨(.type "tuple"),none,(.seq #[(.str "_law_book_here" 789),(.str "_law_money" 790),(.str "_law_place" 791)] 0),#[]⟩
noncomputable def adV:Obj:=⟨(.type "tuple"),none,(.seq #[] 0),#[]⟩
noncomputable def adW:Obj:=⟨(.type "code"),none,(.fields #[(.str "_law_endless" 786),(.str "_law_endless" 787),(.str "/claim/cut.py" 788),(.int 275 0),(.int 3 0),(.int 0 0),(.int 0 0),(.int 3 0),(.ref 452),(.bool true),(.int 181 0),(.ref 453),.none,(.ref 454),(.ref 455),(.ref 456),(.int 792 0),(.int 275 0),(.str "/claim/cut.py" 793)]),#[]⟩
noncomputable def adX:Obj:=⟨(.type "function"),none,(.func (fnOf "_law_endless" "_law_endless" (L2.aV (top 50)) (L2.aR (top 50)) (L2.aC (top 50)) .none .none .none (.str "law_leasttariff_k06_answers_by_hand" 708) none (.ref 457) .none)),#[]⟩
noncomputable def adY:Obj:=⟨(.type "tuple"),none,(.seq #[] 0),#[]⟩
noncomputable def adZ:Obj:=⟨(.type "tuple"),none,(.seq #[(.str "_law_said" 798),(.str "_law_due" 799)] 0),#[]⟩
noncomputable def ad0:Obj:=⟨(.type "tuple"),none,(.seq #[] 0),#[]⟩
noncomputable def ad1:Obj:=⟨(.type "code"),none,(.fields #[(.str "_law_says" 795),(.str "_law_says" 796),(.str "/claim/cut.py" 797),(.int 277 0),(.int 2 0),(.int 0 0),(.int 0 0),(.int 3 0),(.ref 459),(.bool true),(.int 181 0),(.ref 460),.none,(.ref 461),(.ref 462),(.ref 463),(.int 800 0),(.int 277 0),(.str "/claim/cut.py" 801)]),#[]⟩
noncomputable def ad2:Obj:=⟨(.type "function"),none,(.func (fnOf "_law_says" "_law_says" (L2.aV (top 51)) (L2.aR (top 51)) (L2.aC (top 51)) .none .none .none (.str "law_leasttariff_k06_answers_by_hand" 708) none (.ref 464) .none)),#[]⟩
noncomputable def ad3:Obj:=⟨(.type "tuple"),none,(.seq #[] 0),#[]⟩
noncomputable def ad4:Obj:=⟨(.type "tuple"),none,(.seq #[(.str "_law_some" 806),(.str "_law_script" 807),(.str "_law_more" 808),(.str "_law_found" 809),(.str "_law_cell" 810),(.str "_law_at" 811)] 0),#[]⟩
noncomputable def ad5:Obj:=⟨(.type "tuple"),none,(.seq #[] 0),#[]⟩
noncomputable def ad6:Obj:=⟨(.type "code"),none,(.fields #[(.str "_law_bent" 803),(.str "_law_bent" 804),(.str "/claim/cut.py" 805),(.int 279 0),(.int 3 0),(.int 0 0),(.int 0 0),(.int 3 0),(.ref 466),(.bool true),(.int 181 0),(.ref 467),.none,(.ref 468),(.ref 469),(.ref 470),(.int 812 0),(.int 279 0),(.str "/claim/cut.py" 813)]),#[]⟩
noncomputable def ad7:Obj:=⟨(.type "function"),none,(.func (fnOf "_law_bent" "_law_bent" (L2.aV (top 52)) (L2.aR (top 52)) (L2.aC (top 52)) .none .none .none (.str "law_leasttariff_k06_answers_by_hand" 708) none (.ref 471) .none)),#[]⟩
noncomputable def ad8:Obj:=⟨(.type "tuple"),none,(.seq #[] 0),#[]⟩
noncomputable def ad9:Obj:=⟨(.type "tuple"),none,(.seq #[(.str "_law_book_here" 818),(.str "_law_place" 819),(.str "_law_amount_here" 820),(.str "_law_row" 821),(.str "_law_answer" 822)] 0),#[]⟩
noncomputable def aea:Obj:=⟨(.type "tuple"),none,(.seq #[] 0),#[]⟩
noncomputable def aeb:Obj:=⟨(.type "code"),none,(.fields #[(.str "_law_one_right" 815),(.str "_law_one_right" 816),(.str "/claim/cut.py" 817),(.int 292 0),(.int 4 0),(.int 0 0),(.int 0 0),(.int 3 0),(.ref 473),(.bool true),(.int 181 0),(.ref 474),.none,(.ref 475),(.ref 476),(.ref 477),(.int 823 0),(.int 292 0),(.str "/claim/cut.py" 824)]),#[]⟩
noncomputable def aec:Obj:=⟨(.type "function"),none,(.func (fnOf "_law_one_right" "_law_one_right" (L2.aV (top 53)) (L2.aR (top 53)) (L2.aC (top 53)) .none .none .none (.str "law_leasttariff_k06_answers_by_hand" 708) none (.ref 478) .none)),#[]⟩
noncomputable def aed:Obj:=⟨(.type "tuple"),none,(.seq #[] 0),#[]⟩
noncomputable def aee:Obj:=⟨(.type "tuple"),none,(.seq #[(.str "_law_book_here" 829),(.str "_law_script" 830),(.str "_law_amount_here" 831),(.str "_law_told" 832),(.str "_law_begins" 833),(.str "_law_places" 834),(.str "_law_some" 835),(.str "_law_starts" 836),(.str "_law_ones" 837),(.str "_law_handed" 838),(.str "_law_answer" 839)] 0),#[]⟩
noncomputable def aef:Obj:=⟨(.type "tuple"),none,(.seq #[] 0),#[]⟩
noncomputable def aeg:Obj:=⟨(.type "code"),none,(.fields #[(.str "_law_ranges_right" 826),(.str "_law_ranges_right" 827),(.str "/claim/cut.py" 828),(.int 299 0),(.int 3 0),(.int 0 0),(.int 0 0),(.int 3 0),(.ref 480),(.bool true),(.int 181 0),(.ref 481),.none,(.ref 482),(.ref 483),(.ref 484),(.int 840 0),(.int 299 0),(.str "/claim/cut.py" 841)]),#[]⟩
noncomputable def aeh:Obj:=⟨(.type "function"),none,(.func (fnOf "_law_ranges_right" "_law_ranges_right" (L2.aV (top 54)) (L2.aR (top 54)) (L2.aC (top 54)) .none .none .none (.str "law_leasttariff_k06_answers_by_hand" 708) none (.ref 485) .none)),#[]⟩
noncomputable def aei:Obj:=⟨(.type "tuple"),none,(.seq #[] 0),#[]⟩
noncomputable def aej:Obj:=⟨(.type "code"),none,(.fields #[(.str "_law_books_right" 843),(.str "_law_books_right" 844),(.str "/claim/cut.py" 845),(.int 315 0),(.int 4 0),(.int 0 0),(.int 0 0),(.int 3 0),(.ref 487),(.bool true),(.int 181 0),(.ref 488),.none,.none,.none,(.ref 489),(.int 846 0),(.int 315 0),(.str "/claim/cut.py" 847)]),#[]⟩
noncomputable def aek:Obj:=⟨(.type "function"),none,(.func (fnOf "_law_books_right" "_law_books_right" (L2.aV (top 55)) (L2.aR (top 55)) (L2.aC (top 55)) .none .none .none (.str "law_leasttariff_k06_answers_by_hand" 708) none (.ref 490) .none)),#[]⟩
noncomputable def ael:Obj:=⟨(.type "tuple"),none,(.seq #[] 0),#[]⟩
noncomputable def aem:Obj:=⟨(.type "code"),none,(.fields #[(.str "_law_money_right" 849),(.str "_law_money_right" 850),(.str "/claim/cut.py" 851),(.int 330 0),(.int 4 0),(.int 0 0),(.int 0 0),(.int 3 0),(.ref 492),(.bool true),(.int 181 0),(.ref 493),.none,.none,.none,(.ref 494),(.int 852 0),(.int 330 0),(.str "/claim/cut.py" 853)]),#[]⟩
noncomputable def aen:Obj:=⟨(.type "function"),none,(.func (fnOf "_law_money_right" "_law_money_right" (L2.aV (top 56)) (L2.aR (top 56)) (L2.aC (top 56)) .none .none .none (.str "law_leasttariff_k06_answers_by_hand" 708) none (.ref 495) .none)),#[]⟩
noncomputable def aeo:Obj:=⟨(.type "tuple"),none,(.seq #[] 0),#[]⟩
noncomputable def aep:Obj:=⟨(.type "code"),none,(.fields #[(.str "_law_outright" 855),(.str "_law_outright" 856),(.str "/claim/cut.py" 857),(.int 336 0),(.int 0 0),(.int 0 0),(.int 0 0),(.int 3 0),(.ref 497),(.bool true),(.int 181 0),(.ref 498),.none,.none,.none,(.ref 499),(.int 858 0),(.int 336 0),(.str "/claim/cut.py" 859)]),#[]⟩
noncomputable def aer:Obj:=⟨(.type "function"),none,(.func (fnOf "_law_outright" "_law_outright" (L2.aV (top 57)) (L2.aR (top 57)) (L2.aC (top 57)) .none .none .none (.str "law_leasttariff_k06_answers_by_hand" 708) none (.ref 500) .none)),#[]⟩
noncomputable def aes:Obj:=⟨(.type "tuple"),none,(.seq #[] 0),#[]⟩
noncomputable def aeu:Obj:=⟨(.type "code"),none,(.fields #[(.str "law" 861),(.str "law" 862),(.str "/claim/cut.py" 863),(.int 353 0),(.int 1 0),(.int 0 0),(.int 0 0),(.int 3 0),(.ref 502),(.bool true),(.int 181 0),(.ref 503),.none,.none,.none,(.ref 504),(.int 864 0),(.int 353 0),(.str "/claim/cut.py" 865)]),#[]⟩
noncomputable def aev:Obj:=⟨(.type "function"),none,(.func (fnOf "law" "law" (L2.aV (top 58)) (L2.aR (top 58)) (L2.aC (top 58)) .none .none .none (.str "law_leasttariff_k06_answers_by_hand" 708) none (.ref 505) .none)),#[]⟩
noncomputable def kg0 (P:Params):Frag:=[(2,o2),(3,o3 P),(4,o4),(15,o15),(22,o22),(23,o23 P),(24,o24),(25,o25),(28,o28),(35,o35),(36,o36 P),(37,o37)]
noncomputable def kg1 (P:Params):Frag:=[(40,o40),(42,o42),(43,o43),(45,o45),(46,o46),(47,o47),(49,o49),(50,o50),(52,o52),(53,o53),(54,o54),(56,o56)]
noncomputable def kg2 (P:Params):Frag:=[(57,o57),(59,o59),(60,o60),(61,o61),(63,o63),(64,o64),(66,o66),(67,o67),(68,o68),(70,o70),(71,o71),(73,o73)]
noncomputable def kg3 (P:Params):Frag:=[(74,o74),(75,o75),(77,o77),(78,o78),(80,o80),(81,o81),(82,o82),(84,o84),(85,o85),(87,o87),(88,o88),(89,o89)]
noncomputable def kg4 (P:Params):Frag:=[(91,o91),(92,o92),(94,o94),(95,o95),(96,o96),(99,o99),(100,o100),(101,aas),(103,aat),(104,aau),(106,aav),(107,aaw)]
noncomputable def kg5 (P:Params):Frag:=[(108,aax),(110,aay),(111,o111),(113,aaz),(114,aaA),(115,aaB),(117,aaC),(118,aaD),(120,aaE),(121,aaF),(122,aaG),(125,aaH)]
noncomputable def kg6 (P:Params):Frag:=[(126,aaI),(127,aaJ),(130,aaK),(131,aaL),(132,aaM),(134,aaN),(135,aaO),(137,aaP),(138,aaQ),(146,aaR),(147,aaS P),(148,aaT)]
noncomputable def kg7 (P:Params):Frag:=[(149,aaU),(150,aaV),(153,aaW),(160,aaX),(162,aaY),(163,aaZ),(165,aa0),(166,aa1),(167,aa2),(170,aa3),(171,aa4),(172,aa5)]
noncomputable def kg8 (P:Params):Frag:=[(173,aa6 P),(174,aa7),(177,aa8),(184,aa9),(186,abb),(187,abd),(189,abe),(190,abf),(191,abg),(193,abh),(194,abj),(196,abk)]
noncomputable def kg9 (P:Params):Frag:=[(197,abl),(198,abm),(199,abn P),(200,o200),(203,abo),(210,abp),(212,abq),(213,abr),(215,abt),(216,abu),(217,abv),(220,abw)]
noncomputable def agz (P:Params):Frag:=[(221,abx),(222,aby),(223,abz P),(224,abA),(227,abB),(234,abC),(236,abD),(237,abE),(239,abF),(240,abG),(241,abH),(244,abI)]
noncomputable def agA (P:Params):Frag:=[(245,abJ),(246,abK),(247,abL P),(248,abM),(251,abN),(258,abO),(260,abP),(261,abQ),(263,abR),(264,abS),(265,abT),(267,abU)]
noncomputable def agB (P:Params):Frag:=[(268,abV),(270,abW),(271,abX),(272,abY),(273,abZ P),(274,ab0),(277,ab1),(284,ab2),(286,ab3),(287,ab4),(289,ab5),(290,ab6)]
noncomputable def agC (P:Params):Frag:=[(291,ab7),(294,ab8),(295,ab9),(296,acd),(297,ace P),(298,acf),(301,acg),(308,ach),(310,aci),(311,acj),(313,acn),(314,aco)]
noncomputable def agD (P:Params):Frag:=[(315,acp),(317,acq),(318,acr),(320,acs),(321,acu),(322,acv),(323,acw P),(324,acy),(327,acz),(334,acA),(337,acB),(338,acC)]
noncomputable def agE (P:Params):Frag:=[(339,acD),(340,acE P),(341,acF),(344,acG),(346,acH),(347,acI),(349,Ve),(350,acJ),(351,acK),(353,acL),(354,acM),(356,acN)]
noncomputable def agF (P:Params):Frag:=[(357,acO),(358,acP),(360,acQ),(361,acR),(363,acS),(364,acT),(365,acU),(367,acV),(368,acW),(370,acX),(371,acY),(372,acZ)]
noncomputable def agG (P:Params):Frag:=[(374,ac0),(375,ac1),(377,o377),(378,ac2),(379,ac3),(382,ac4),(383,ac5),(384,ac6),(387,ac7),(388,ac8),(389,ac9),(392,ada)]
noncomputable def agH (P:Params):Frag:=[(393,adb),(394,ade),(396,adf),(397,adg),(399,adh),(400,o400),(401,adi),(403,adk),(404,adl),(406,adn),(407,ado),(408,adp)]
noncomputable def agI (P:Params):Frag:=[(410,adq),(411,adt),(413,adu),(414,adv),(415,adw),(418,adx),(419,ady),(420,adz),(423,adA),(424,adB),(425,adC),(427,adD)]
noncomputable def agJ (P:Params):Frag:=[(428,adE),(430,adF),(431,adG),(432,adH),(435,adI),(436,adJ),(437,adK),(440,adL),(441,adM),(442,adN),(445,adO),(446,adP)]
noncomputable def agK (P:Params):Frag:=[(447,adQ),(450,adR),(451,adS),(452,adT),(454,adU),(455,adV),(457,adW),(458,adX),(459,adY),(461,adZ),(462,ad0),(464,ad1)]
noncomputable def agL (P:Params):Frag:=[(465,ad2),(466,ad3),(468,ad4),(469,ad5),(471,ad6),(472,ad7),(473,ad8),(475,ad9),(476,aea),(478,aeb),(479,aec),(480,aed)]
noncomputable def agM (P:Params):Frag:=[(482,aee),(483,aef),(485,aeg),(486,aeh),(487,aei),(490,aej),(491,aek),(492,ael),(495,aem),(496,aen),(497,aeo),(500,aep)]
noncomputable def agN (P:Params):Frag:=[(501,aer),(502,aes),(505,aeu),(506,aev)]
noncomputable def kg (P:Params):Frag:=kg0 P++(kg1 P++(kg2 P++(kg3 P++(kg4 P++(kg5 P++(kg6 P++(kg7 P++(kg8 P++(kg9 P++(agz P++(agA P++(agB P++(agC P++(agD P++(agE P++(agF P++(agG P++(agH P++(agI P++(agJ P++(agK P++(agL P++(agM P++(agN P))))))))))))))))))))))))
noncomputable def KL (P:Params):Frag:=(nat_lit 2,o2)::(nat_lit 3,o3 P)::(nat_lit 4,o4)::(nat_lit 15,o15)::(nat_lit 22,o22)::(nat_lit 23,o23 P)::(nat_lit 24,o24)::(nat_lit 25,o25)::(nat_lit 28,o28)::(nat_lit 35,o35)::(nat_lit 36,o36 P)::(nat_lit 37,o37)::(nat_lit 40,o40)::(nat_lit 42,o42)::(nat_lit 43,o43)::(nat_lit 45,o45)::(nat_lit 46,o46)::(nat_lit 47,o47)::(nat_lit 49,o49)::(nat_lit 50,o50)::(nat_lit 52,o52)::(nat_lit 53,o53)::(nat_lit 54,o54)::(nat_lit 56,o56)::(nat_lit 57,o57)::(nat_lit 59,o59)::(nat_lit 60,o60)::(nat_lit 61,o61)::(nat_lit 63,o63)::(nat_lit 64,o64)::(nat_lit 66,o66)::(nat_lit 67,o67)::(nat_lit 68,o68)::(nat_lit 70,o70)::(nat_lit 71,o71)::(nat_lit 73,o73)::(nat_lit 74,o74)::(nat_lit 75,o75)::(nat_lit 77,o77)::(nat_lit 78,o78)::(nat_lit 80,o80)::(nat_lit 81,o81)::(nat_lit 82,o82)::(nat_lit 84,o84)::(nat_lit 85,o85)::(nat_lit 87,o87)::(nat_lit 88,o88)::(nat_lit 89,o89)::(nat_lit 91,o91)::(nat_lit 92,o92)::(nat_lit 94,o94)::(nat_lit 95,o95)::(nat_lit 96,o96)::(nat_lit 99,o99)::(nat_lit 100,o100)::(nat_lit 101,aas)::(nat_lit 103,aat)::(nat_lit 104,aau)::(nat_lit 106,aav)::(nat_lit 107,aaw)::(nat_lit 108,aax)::(nat_lit 110,aay)::(nat_lit 111,o111)::(nat_lit 113,aaz)::(nat_lit 114,aaA)::(nat_lit 115,aaB)::(nat_lit 117,aaC)::(nat_lit 118,aaD)::(nat_lit 120,aaE)::(nat_lit 121,aaF)::(nat_lit 122,aaG)::(nat_lit 125,aaH)::(nat_lit 126,aaI)::(nat_lit 127,aaJ)::(nat_lit 130,aaK)::(nat_lit 131,aaL)::(nat_lit 132,aaM)::(nat_lit 134,aaN)::(nat_lit 135,aaO)::(nat_lit 137,aaP)::(nat_lit 138,aaQ)::(nat_lit 146,aaR)::(nat_lit 147,aaS P)::(nat_lit 148,aaT)::(nat_lit 149,aaU)::(nat_lit 150,aaV)::(nat_lit 153,aaW)::(nat_lit 160,aaX)::(nat_lit 162,aaY)::(nat_lit 163,aaZ)::(nat_lit 165,aa0)::(nat_lit 166,aa1)::(nat_lit 167,aa2)::(nat_lit 170,aa3)::(nat_lit 171,aa4)::(nat_lit 172,aa5)::(nat_lit 173,aa6 P)::(nat_lit 174,aa7)::(nat_lit 177,aa8)::(nat_lit 184,aa9)::(nat_lit 186,abb)::(nat_lit 187,abd)::(nat_lit 189,abe)::(nat_lit 190,abf)::(nat_lit 191,abg)::(nat_lit 193,abh)::(nat_lit 194,abj)::(nat_lit 196,abk)::(nat_lit 197,abl)::(nat_lit 198,abm)::(nat_lit 199,abn P)::(nat_lit 200,o200)::(nat_lit 203,abo)::(nat_lit 210,abp)::(nat_lit 212,abq)::(nat_lit 213,abr)::(nat_lit 215,abt)::(nat_lit 216,abu)::(nat_lit 217,abv)::(nat_lit 220,abw)::(nat_lit 221,abx)::(nat_lit 222,aby)::(nat_lit 223,abz P)::(nat_lit 224,abA)::(nat_lit 227,abB)::(nat_lit 234,abC)::(nat_lit 236,abD)::(nat_lit 237,abE)::(nat_lit 239,abF)::(nat_lit 240,abG)::(nat_lit 241,abH)::(nat_lit 244,abI)::(nat_lit 245,abJ)::(nat_lit 246,abK)::(nat_lit 247,abL P)::(nat_lit 248,abM)::(nat_lit 251,abN)::(nat_lit 258,abO)::(nat_lit 260,abP)::(nat_lit 261,abQ)::(nat_lit 263,abR)::(nat_lit 264,abS)::(nat_lit 265,abT)::(nat_lit 267,abU)::(nat_lit 268,abV)::(nat_lit 270,abW)::(nat_lit 271,abX)::(nat_lit 272,abY)::(nat_lit 273,abZ P)::(nat_lit 274,ab0)::(nat_lit 277,ab1)::(nat_lit 284,ab2)::(nat_lit 286,ab3)::(nat_lit 287,ab4)::(nat_lit 289,ab5)::(nat_lit 290,ab6)::(nat_lit 291,ab7)::(nat_lit 294,ab8)::(nat_lit 295,ab9)::(nat_lit 296,acd)::(nat_lit 297,ace P)::(nat_lit 298,acf)::(nat_lit 301,acg)::(nat_lit 308,ach)::(nat_lit 310,aci)::(nat_lit 311,acj)::(nat_lit 313,acn)::(nat_lit 314,aco)::(nat_lit 315,acp)::(nat_lit 317,acq)::(nat_lit 318,acr)::(nat_lit 320,acs)::(nat_lit 321,acu)::(nat_lit 322,acv)::(nat_lit 323,acw P)::(nat_lit 324,acy)::(nat_lit 327,acz)::(nat_lit 334,acA)::(nat_lit 337,acB)::(nat_lit 338,acC)::(nat_lit 339,acD)::(nat_lit 340,acE P)::(nat_lit 341,acF)::(nat_lit 344,acG)::(nat_lit 346,acH)::(nat_lit 347,acI)::(nat_lit 349,Ve)::(nat_lit 350,acJ)::(nat_lit 351,acK)::(nat_lit 353,acL)::(nat_lit 354,acM)::(nat_lit 356,acN)::(nat_lit 357,acO)::(nat_lit 358,acP)::(nat_lit 360,acQ)::(nat_lit 361,acR)::(nat_lit 363,acS)::(nat_lit 364,acT)::(nat_lit 365,acU)::(nat_lit 367,acV)::(nat_lit 368,acW)::(nat_lit 370,acX)::(nat_lit 371,acY)::(nat_lit 372,acZ)::(nat_lit 374,ac0)::(nat_lit 375,ac1)::(nat_lit 377,o377)::(nat_lit 378,ac2)::(nat_lit 379,ac3)::(nat_lit 382,ac4)::(nat_lit 383,ac5)::(nat_lit 384,ac6)::(nat_lit 387,ac7)::(nat_lit 388,ac8)::(nat_lit 389,ac9)::(nat_lit 392,ada)::(nat_lit 393,adb)::(nat_lit 394,ade)::(nat_lit 396,adf)::(nat_lit 397,adg)::(nat_lit 399,adh)::(nat_lit 400,o400)::(nat_lit 401,adi)::(nat_lit 403,adk)::(nat_lit 404,adl)::(nat_lit 406,adn)::(nat_lit 407,ado)::(nat_lit 408,adp)::(nat_lit 410,adq)::(nat_lit 411,adt)::(nat_lit 413,adu)::(nat_lit 414,adv)::(nat_lit 415,adw)::(nat_lit 418,adx)::(nat_lit 419,ady)::(nat_lit 420,adz)::(nat_lit 423,adA)::(nat_lit 424,adB)::(nat_lit 425,adC)::(nat_lit 427,adD)::(nat_lit 428,adE)::(nat_lit 430,adF)::(nat_lit 431,adG)::(nat_lit 432,adH)::(nat_lit 435,adI)::(nat_lit 436,adJ)::(nat_lit 437,adK)::(nat_lit 440,adL)::(nat_lit 441,adM)::(nat_lit 442,adN)::(nat_lit 445,adO)::(nat_lit 446,adP)::(nat_lit 447,adQ)::(nat_lit 450,adR)::(nat_lit 451,adS)::(nat_lit 452,adT)::(nat_lit 454,adU)::(nat_lit 455,adV)::(nat_lit 457,adW)::(nat_lit 458,adX)::(nat_lit 459,adY)::(nat_lit 461,adZ)::(nat_lit 462,ad0)::(nat_lit 464,ad1)::(nat_lit 465,ad2)::(nat_lit 466,ad3)::(nat_lit 468,ad4)::(nat_lit 469,ad5)::(nat_lit 471,ad6)::(nat_lit 472,ad7)::(nat_lit 473,ad8)::(nat_lit 475,ad9)::(nat_lit 476,aea)::(nat_lit 478,aeb)::(nat_lit 479,aec)::(nat_lit 480,aed)::(nat_lit 482,aee)::(nat_lit 483,aef)::(nat_lit 485,aeg)::(nat_lit 486,aeh)::(nat_lit 487,aei)::(nat_lit 490,aej)::(nat_lit 491,aek)::(nat_lit 492,ael)::(nat_lit 495,aem)::(nat_lit 496,aen)::(nat_lit 497,aeo)::(nat_lit 500,aep)::(nat_lit 501,aer)::(nat_lit 502,aes)::(nat_lit 505,aeu)::(nat_lit 506,aev)::[]
noncomputable def asL:List Addr:=345::2::3::4::15::22::23::24::25::28::35::36::37::40::42::43::45::46::47::49::50::52::53::54::56::57::59::60::61::63::64::66::67::68::70::71::73::74::75::77::78::80::81::82::84::85::87::88::89::91::92::94::95::96::99::100::101::103::104::106::107::108::110::111::113::114::115::117::118::120::121::122::125::126::127::130::131::132::134::135::137::138::146::147::148::149::150::153::160::162::163::165::166::167::170::171::172::173::174::177::184::186::187::189::190::191::193::194::196::197::198::199::200::203::210::212::213::215::216::217::220::221::222::223::224::227::234::236::237::239::240::241::244::245::246::247::248::251::258::260::261::263::264::265::267::268::270::271::272::273::274::277::284::286::287::289::290::291::294::295::296::297::298::301::308::310::311::313::314::315::317::318::320::321::322::323::324::327::334::337::338::339::340::341::344::346::347::349::350::351::353::354::356::357::358::360::361::363::364::365::367::368::370::371::372::374::375::377::378::379::382::383::384::387::388::389::392::393::394::396::397::399::400::401::403::404::406::407::408::410::411::413::414::415::418::419::420::423::424::425::427::428::430::431::432::435::436::437::440::441::442::445::446::447::450::451::452::454::455::457::458::459::461::462::464::465::466::468::469::471::472::473::475::476::478::479::480::482::483::485::486::487::490::491::492::495::496::497::500::501::502::505::506::[]
noncomputable def oZ:Addr:=345
noncomputable def PN:Addr:=349
noncomputable def GQ:Obj:={ cls:=.none,data:=.fields #[] }
noncomputable def KT (P:Params):Frag:=(nat_lit 345,GQ)::KL P
noncomputable def kgt (P:Params):Frag:=(345,GQ)::kg P
theorem aew (P:Params):kg P=KL P:=by kernel_rfl
theorem aex (P:Params):asL=(KT P).map (·.1):=by kernel_rfl
theorem XF (P:Params):kgt P=KT P:=congrArg (fun r=>(oZ,GQ)::r) (aew P)
theorem M9 (P:Params):(KL P).lookup oZ=none:=by kernel_rfl
theorem XH (P:Params):(KL P).lookup PN=some Ve:=by kernel_rfl
theorem Vf (P:Params):(KL P).lookup 4=some o4:=by kernel_rfl
theorem aey {P:Params}{h:Heap}(X:(KT P).In h):(KL P).In h∧h.get? oZ=some GQ:=⟨fun a o e=>X a o (by
 have n:(a == oZ)=false:=beq_eq_false_iff_ne.mpr fun z=>by rw[z,M9] at e;cases e
 show ((oZ,GQ)::KL P).lookup a=some o
 rw[List.lookup_cons,n]
 exact e),X oZ GQ (by show ((oZ,GQ)::KL P).lookup oZ=some GQ;rw[List.lookup_cons,beq_self_eq_true])⟩
theorem RJ {P:Params}{h:Heap}(X:(KL P).In h):PySem.W.CodeHd h PN oZ:=⟨Ve,_,_,_,_,_,_,_,_,X _ _ (XH P),rfl,rfl,rfl,rfl,rfl,rfl,rfl,rfl,by decide⟩
theorem agO {P:Params}{h:Heap}{mg:Str→Option Value}(X:(KL P).In h)(G:h.Ns mainGlobals mg)(e:nsIn (KL P) mainGlobals "__builtins__" = some (some (.ref 4))):L2.Jv (KL P) mg (.ref PN) oZ:=⟨⟨PN,rfl,fun _ Y=>RJ Y⟩,fun _ Y=>⟨4,o4,mg_of X G e,by decide,by decide,by decide,Y _ _ (Vf P),rfl,rfl,rfl⟩,by decide⟩
noncomputable def GR:List Str:=.ofString "TariffError" :: .ofString "BadBook" :: .ofString "is_whole" :: .ofString "is_whole_pair" :: .ofString "common_divisor" :: .ofString "is_amount" :: .ofString "is_place" :: .ofString "check_book" :: .ofString "lowest_terms" :: .ofString "top_of_cost" :: .ofString "tops_of_cost" :: .ofString "is_weighing" :: .ofString "is_mixture" :: .ofString "is_less" :: .ofString "are_begins" :: .ofString "are_places_in_turn" :: .ofString "are_least_at_both_ends" :: .ofString "Answer" :: .ofString "Alone" :: .ofString "Needless" :: .ofString "Ranges" :: .ofString "Under" :: .ofString "Over" :: .ofString "Most" :: .ofString "Endless" :: .ofString "Dear" :: .ofString "by_falling_piece" :: .ofString "least_in_turn" :: .ofString "turn_for" :: .ofString "amount_below" :: .ofString "mixture_for" :: .ofString "ranges" :: .ofString "under" :: .ofString "_law_book" :: .ofString "_law_lowest" :: .ofString "_law_amount" :: .ofString "_law_cost" :: .ofString "_law_mixture" :: .ofString "_law_alone" :: .ofString "_law_needless" :: .ofString "_law_ranges" :: .ofString "_law_under" :: .ofString "_law_over" :: .ofString "_law_most" :: .ofString "_law_endless" :: .ofString "_law_says" :: .ofString "_law_bent" :: .ofString "_law_one_right" :: .ofString "_law_ranges_right" :: .ofString "_law_books_right" :: .ofString "_law_money_right" :: .ofString "_law_outright" :: []
noncomputable def qL:Program:={ PySem.Challenge.pw_leasttariff_k06_answers_by_hand with main:={ PySem.Challenge.pw_leasttariff_k06_answers_by_hand.main with body:=[top 58] } }
noncomputable def XtL (s:Shared):Bool:=xlAt qL [] s && recOk [] s
noncomputable def YfL (s:Shared):List (Option Obj):=asL.map s.heap.get?
noncomputable def YaL (w:World):List (Option Obj):=(kgt w.params).map fun p=>some p.2
theorem hYL (w:World)(s:Shared)(e:YfL s=YaL w):InK KT w s.heap:=by
 refine InK.of aex w s ?_
 rw[←XF w.params]
 exact e
noncomputable def RK (w:World)(os:OsState):=(vH treeTable PySem.Challenge.pw_leasttariff_k06_answers_by_hand w 11 (some (.ref 6)) 8260 ⟨Uz (boot_heap w.params).objs.toList,11,(boot_heap w.params).life,Array.mk [],boot_drawn,boot_toks,os⟩ (topStub PySem.Challenge.pw_leasttariff_k06_answers_by_hand)).map (fun s=>Lf PySem.Challenge.pw_leasttariff_k06_answers_by_hand qL GR XtL YfL (boot_heap w.params) s.abs)
noncomputable def RL (w:World):=some (true,openGood qL GR,YaL w)
theorem Lr:RK=RK:=rfl
theorem Ls:RL=RL:=rfl
end
end My
name_quick lookLF for My.RK by My.Lr
name_quick goodLF for My.RL by My.Ls
namespace My
open PySem PySem.W PySem.Calls PyProof.Rows
theorem aez (w:World)(os:OsState):PySem.W.Fast.lookLF w os=PySem.W.Fast.goodLF w:=by kernel_rfl
theorem aeA:LeftO PySem.Challenge.pw_leasttariff_k06_answers_by_hand qL GR XtL YfL YaL 8260 true :=
 Gw (boot_open (by kernel_rfl) (by decide) (fun s=>by kernel_rfl)) (m:=11) (ann:=(some (.ref 6))) (fun P=>by kernel_rfl) (fun P=>by kernel_rfl)
  fun w os=>(congrFun (congrFun PySem.W.Fast.lookLF_eq w) os).trans ((aez w os).trans (congrFun PySem.W.Fast.goodLF_eq w).symm)
end My
namespace My
theorem Jy {a b:Int}(ha:0≤a)(hb:0<b):Int.gcd b (a % b)=Int.gcd a b:=by
 obtain⟨m,rfl⟩:=Int.eq_ofNat_of_zero_le ha
 obtain⟨n,rfl⟩:=Int.eq_ofNat_of_zero_le (Int.le_of_lt hb)
 rw[←Int.natCast_emod,Int.gcd_natCast_natCast,Int.gcd_natCast_natCast,Nat.gcd_comm n,←Nat.gcd_rec,Nat.gcd_comm]
def j8 (a b:Int):Int:=a / (Int.gcd a b:Int)
def j9 (a b:Int):Int:=b / (Int.gcd a b:Int)
theorem Nb {a b:Int}(hb:0<b):0<Int.gcd a b:=Int.gcd_pos_of_ne_zero_right a (by omega)
theorem lH {a b:Int}(hb:0<b):(0:Int)<(Int.gcd a b:Int):=Int.natCast_pos.mpr (Nb hb)
theorem RM {a b:Int}(hb:0<b):(Int.gcd a b:Int)≤b:=Int.le_of_dvd hb (Int.gcd_dvd_right a b)
theorem Jz {a b:Int}(ha:0≤a)(hb:0<b):0≤j8 a b:=Int.ediv_nonneg ha (Int.le_of_lt (lH hb))
theorem JB {a b:Int}(hb:0<b):0<j9 a b:=by
 have h1:=lH (a:=a) hb
 have h2:=RM (a:=a) hb
 exact Int.ediv_pos_of_pos_of_dvd hb (Int.le_of_lt h1) (Int.gcd_dvd_right a b)
theorem Vg {a b:Int}(hb:0<b):Int.gcd (j8 a b) (j9 a b)=1:=Int.gcd_ediv_gcd_ediv_gcd (Nb hb)
theorem GX {a b:Int}(ha:0≤a)(hb:0<b):j8 a b≤a:=Int.ediv_le_self _ ha
theorem GZ {a b:Int}(hb:0<b):j9 a b≤b:=Int.ediv_le_self _ (Int.le_of_lt hb)
def Df (x:Int):Prop:=0≤x∧x≤10 ^ 60
def mO (p:Int×Int):Prop:=Df p.1∧Df p.2
def Y0 (x:Int):Prop:=0≤x∧x≤10 ^ 40
def Wv (p:Int×Int):Prop:=Y0 p.1∧Y0 p.2
theorem Y0.ok {x:Int}(h:Y0 x):Df x:=⟨h.1,by have:=h.2;omega⟩
theorem Wv.ok {p:Int×Int}(h:Wv p):mO p:=⟨h.1.ok,h.2.ok⟩
structure tO (x y:Int):Prop where
 x0:Df x
 y0:Df y
 y1:0<y
 cop:Int.gcd x y=1
def cst (p:Int×Int)(x y:Int):Int:=p.1*y+p.2*x
theorem vP {a b:Int}(ha:Df a)(hb:Df b)(h:0<b):tO (j8 a b) (j9 a b) where
 x0:=⟨Jz ha.1 h,Int.le_trans (GX ha.1 h) ha.2⟩
 y0:=⟨Int.le_of_lt (JB h),Int.le_trans (GZ h) hb.2⟩
 y1:=JB h
 cop:=Vg h
def qx (ps:List (Int×Int))(m k x y:Int):Bool :=
 (decide (0≤k) && decide (k<(ps.length:Int))) && (decide (cst (ps.getD k.toNat (0,0)) x y=m*y) && (ps.all (fun p=>decide (m*y≤cst p x y)) && ps.all (fun p=>!decide (cst p x y=m*y) || decide (0<p.2))))
def jH (ps:List (Int×Int))(m k:Int):Bool :=
 (decide (0≤k) && decide (k<(ps.length:Int))) && (decide ((ps.getD k.toNat (0,0)).2=0) && decide ((ps.getD k.toNat (0,0)).1≤m))
def Ww (ps:List (Int×Int))(m:Int):Bool:=ps.all fun p=>decide (m<p.1)
theorem gw (p q:Int×Int)(x y:Int):cst p x y-cst q x y=(p.1-q.1)*y+(p.2-q.2)*x:=by
 unfold cst
 rw[Int.sub_mul,Int.sub_mul]
 lia
theorem between {p q:Int×Int}{x1 y1 x2 y2 x y:Int}(hy1:0<y1)(hy2:0<y2)(hy:0<y)(h1:x1*y≤x*y1)(h2:x*y2≤x2*y)(c1:cst q x1 y1≤cst p x1 y1)(c2:cst q x2 y2≤cst p x2 y2):cst q x y≤cst p x y:=by
 have d1:=gw p q x1 y1
 have d2:=gw p q x2 y2
 have d:=gw p q x y
 generalize p.1-q.1=u at d1 d2 d
 generalize p.2-q.2=v at d1 d2 d
 by_cases hv:0≤v
 ·have e1:(u*y+v*x)*y1=u*y*y1+v*(x*y1):=by rw[Int.add_mul,Int.mul_assoc v x y1]
  have e2:(u*y1+v*x1)*y=u*y*y1+v*(x1*y):=by rw[Int.add_mul,Int.mul_assoc v x1 y,Int.mul_assoc u y1 y,Int.mul_comm y1 y,←Int.mul_assoc]
  have g1:v*(x1*y)≤v*(x*y1):=Int.mul_le_mul_of_nonneg_left h1 hv
  have g2:0≤(u*y1+v*x1)*y:=Int.mul_nonneg (by lia) (Int.le_of_lt hy)
  have g3:0≤(u*y+v*x)*y1:=by lia
  have g4:0≤u*y+v*x:=by
   by_cases c:0≤u*y+v*x
   ·exact c
   ·have:=Int.mul_neg_of_neg_of_pos (show u*y+v*x<0 by lia) hy1
    lia
  lia
 ·have e1:(u*y+v*x)*y2=u*y*y2+v*(x*y2):=by rw[Int.add_mul,Int.mul_assoc v x y2]
  have e2:(u*y2+v*x2)*y=u*y*y2+v*(x2*y):=by rw[Int.add_mul,Int.mul_assoc v x2 y,Int.mul_assoc u y2 y,Int.mul_comm y2 y,←Int.mul_assoc]
  have g1:v*(x2*y)≤v*(x*y2):=Int.mul_le_mul_of_nonpos_left (by lia) h2
  have g2:0≤(u*y2+v*x2)*y:=Int.mul_nonneg (by lia) (Int.le_of_lt hy)
  have g3:0≤(u*y+v*x)*y2:=by lia
  have g4:0≤u*y+v*x:=by
   by_cases c:0≤u*y+v*x
   ·exact c
   ·have:=Int.mul_neg_of_neg_of_pos (show u*y+v*x<0 by lia) hy2
    lia
  lia
theorem beyond {p q:Int×Int}{x1 y1 x y:Int}(hy1:0<y1)(hy:0<y)(h1:x1*y≤x*y1)(c1:cst q x1 y1≤cst p x1 y1)(hv:q.2≤p.2):cst q x y≤cst p x y:=by
 have d1:=gw p q x1 y1
 have d:=gw p q x y
 have hv':0≤p.2-q.2:=by lia
 generalize p.1-q.1=u at d1 d
 generalize p.2-q.2=v at d1 d hv'
 have e1:(u*y+v*x)*y1=u*y*y1+v*(x*y1):=by rw[Int.add_mul,Int.mul_assoc v x y1]
 have e2:(u*y1+v*x1)*y=u*y*y1+v*(x1*y):=by rw[Int.add_mul,Int.mul_assoc v x1 y,Int.mul_assoc u y1 y,Int.mul_comm y1 y,←Int.mul_assoc]
 have g1:v*(x1*y)≤v*(x*y1):=Int.mul_le_mul_of_nonneg_left h1 hv'
 have g2:0≤(u*y1+v*x1)*y:=Int.mul_nonneg (by lia) (Int.le_of_lt hy)
 have g3:0≤(u*y+v*x)*y1:=by lia
 have g4:0≤u*y+v*x:=by
  by_cases c:0≤u*y+v*x
  ·exact c
  ·have:=Int.mul_neg_of_neg_of_pos (show u*y+v*x<0 by lia) hy1
   lia
 lia
theorem ahead {p q:Int×Int}{x1 y1 x y:Int}(hy1:0<y1)(hy:0<y)(h1:x*y1≤x1*y)(c1:cst q x1 y1≤cst p x1 y1)(hv:p.2≤q.2):cst q x y≤cst p x y:=by
 have d1:=gw p q x1 y1
 have d:=gw p q x y
 have hv':p.2-q.2≤0:=by lia
 generalize p.1-q.1=u at d1 d
 generalize p.2-q.2=v at d1 d hv'
 have e1:(u*y+v*x)*y1=u*y*y1+v*(x*y1):=by rw[Int.add_mul,Int.mul_assoc v x y1]
 have e2:(u*y1+v*x1)*y=u*y*y1+v*(x1*y):=by rw[Int.add_mul,Int.mul_assoc v x1 y,Int.mul_assoc u y1 y,Int.mul_comm y1 y,←Int.mul_assoc]
 have g1:v*(x1*y)≤v*(x*y1):=Int.mul_le_mul_of_nonpos_left hv' h1
 have g2:0≤(u*y1+v*x1)*y:=Int.mul_nonneg (by lia) (Int.le_of_lt hy)
 have g3:0≤(u*y+v*x)*y1:=by lia
 have g4:0≤u*y+v*x:=by
  by_cases c:0≤u*y+v*x
  ·exact c
  ·have:=Int.mul_neg_of_neg_of_pos (show u*y+v*x<0 by lia) hy1
   lia
 lia
structure E where
 k:Int
 t:Int×Int
 x:Int
 y:Int
def pops (t:Int×Int):List E→List E
 | []=>[]
 | e::r=>if cst t e.x e.y≤cst e.t e.x e.y then pops t r else e::r
def push (k:Int)(t:Int×Int)(st:List E):List E:=match pops t st with
 | []=>[⟨k,t,0,1⟩]
 | e::r=>⟨k,t,t.1-e.t.1,e.t.2-t.2⟩::e::r
inductive Env (S:List (Int×Int)):List E→Prop where
 | nil:S=[]→Env S []
 | one (k:Int) (t:Int×Int) (h:∀ p∈S,t.1≤p.1) (m:t∈S):Env S [⟨k,t,0,1⟩]
 | cons (k:Int) (t:Int×Int) (e:E) (r:List E) (h:Env S (e::r)) (hy:t.2<e.t.2) (hx:e.x*(e.t.2-t.2)<(t.1-e.t.1)*e.y)
   (le:∀ p∈S,cst t (t.1-e.t.1) (e.t.2-t.2)≤cst p (t.1-e.t.1) (e.t.2-t.2)) (m:t∈S):Env S (⟨k,t,t.1-e.t.1,e.t.2-t.2⟩::e::r)
theorem yp (p:Int×Int):cst p 0 1=p.1:=by unfold cst;rw[Int.mul_one,Int.mul_zero,Int.add_zero]
theorem Env.pos {S:List (Int×Int)}:∀ {st:List E},Env S st→∀ e∈st,0≤e.x∧0<e.y
 | _,.nil _,e,he=>by cases he
 | _,.one k t h m,e,he=>by
  have:e=⟨k,t,0,1⟩:=by simpa using he
  subst this
  exact⟨Int.le_refl _,show (0:Int)<1 by decide⟩
 | _,.cons k t f r h hy hx le m,e,he=>by
  rcases List.mem_cons.mp he with rfl|he
  ·obtain⟨a,b⟩:=Env.pos h f List.mem_cons_self
   have y0:0<f.t.2-t.2:=by lia
   refine⟨?_,y0⟩
   show 0≤t.1-f.t.1
   have h1:0≤f.x*(f.t.2-t.2):=Int.mul_nonneg a (by lia)
   by_cases c:0≤t.1-f.t.1
   ·exact c
   ·have:=Int.mul_neg_of_neg_of_pos (show t.1-f.t.1<0 by lia) b
    lia
  ·exact Env.pos h e he
theorem Env.least {S:List (Int×Int)}:∀ {st:List E},Env S st→∀ e∈st,e.t∈S∧∀ p∈S,cst e.t e.x e.y≤cst p e.x e.y
 | _,.nil _,e,he=>by cases he
 | _,.one k t h m,e,he=>by
  have:e=⟨k,t,0,1⟩:=by simpa using he
  subst this
  exact⟨m,fun p hp=>by show cst t 0 1≤cst p 0 1;rw[yp,yp];exact h p hp⟩
 | _,.cons k t f r h hy hx le m,e,he=>by
  rcases List.mem_cons.mp he with rfl|he
  ·exact⟨m,le⟩
  ·exact Env.least h e he
def Cov (S:List (Int×Int))(t:Int×Int)(e:E):Prop:=∀ x y,0<y→e.x*y≤x*e.y→cst t x y=cst e.t x y→∀ p∈S,cst e.t x y≤cst p x y
theorem meet (t e:Int×Int):cst t (t.1-e.1) (e.2-t.2)=cst e (t.1-e.1) (e.2-t.2):=by
 have h:=gw t e (t.1-e.1) (e.2-t.2)
 have e1:(t.2-e.2)*(t.1-e.1) = - ((t.1-e.1)*(e.2-t.2)):=by
  rw[Int.mul_comm (t.2-e.2),←Int.mul_neg]
  congr 1
  lia
 rw[e1] at h
 lia
theorem Cov.step {S:List (Int×Int)}{t:Int×Int}{f e:E}{r:List E}(h:Env S (f::e::r))(hp:cst t f.x f.y≤cst f.t f.x f.y)(hs:t.2≤f.t.2):Cov S t e:=by
 intro x y hy hle hm p hpS
 have P:=h.pos
 have hf:=P f List.mem_cons_self
 have he:=P e (List.mem_cons_of_mem _ List.mem_cons_self)
 have L:=h.least
 have lf:=(L f List.mem_cons_self).2 p hpS
 have le:=(L e (List.mem_cons_of_mem _ List.mem_cons_self)).2 p hpS
 cases h with
 | cons k tf _ _ h2 hy2 hx2 le2 m2 =>
  have mt:cst tf (tf.1-e.t.1) (e.t.2-tf.2)=cst e.t (tf.1-e.t.1) (e.t.2-tf.2):=meet tf e.t
  have hp':cst t (tf.1-e.t.1) (e.t.2-tf.2)≤cst tf (tf.1-e.t.1) (e.t.2-tf.2):=hp
  have lf':cst tf (tf.1-e.t.1) (e.t.2-tf.2)≤cst p (tf.1-e.t.1) (e.t.2-tf.2):=lf
  have fy:0<e.t.2-tf.2:=by lia
  have ts:t.2<e.t.2:=by have:t.2≤tf.2:=hs;lia
  generalize tf.1-e.t.1=fx at mt hp' lf'
  generalize e.t.2-tf.2=Nf at mt hp' lf' fy
  refine between (x2:=fx) he.2 fy hy hle ?_ le (by lia)
  have d1:=gw t e.t x y
  have d2:=gw t e.t fx Nf
  have hv:t.2-e.t.2<0:=by lia
  generalize t.1-e.t.1=u at d1 d2
  generalize t.2-e.t.2=v at d1 d2 hv
  have a1:u*y+v*x=0:=by lia
  have a2:u*Nf+v*fx≤0:=by lia
  by_cases c:x*Nf≤fx*y
  ·exact c
  ·exfalso
   have b1:(u*Nf+v*fx)*y≤0:=Int.mul_nonpos_of_nonpos_of_nonneg a2 (Int.le_of_lt hy)
   have b2:(u*y+v*x)*Nf=0:=by rw[a1,Int.zero_mul]
   have c1:(u*Nf+v*fx)*y=u*Nf*y+v*(fx*y):=by rw[Int.add_mul,Int.mul_assoc v fx y]
   have c2:(u*y+v*x)*Nf=u*Nf*y+v*(x*Nf):=by rw[Int.add_mul,Int.mul_assoc v x Nf,Int.mul_assoc u y Nf,Int.mul_comm y Nf,←Int.mul_assoc]
   have c3:v*(x*Nf)<v*(fx*y):=Int.mul_lt_mul_of_neg_left (by lia) hv
   lia
theorem JC {S:List (Int×Int)}{t:Int×Int}(hs:∀ p∈S,t.2≤p.2):∀ {st:List E},Env S st→(∀ e r,st=e::r→Cov S t e) →
  (pops t st=[]→∀ p∈S,t.1≤p.1)∧∀ e r,pops t st=e::r→Env S (e::r)∧Cov S t e∧cst e.t e.x e.y<cst t e.x e.y
 | _,.nil h0,_=>⟨fun _ p hp=>(by rw[h0] at hp;cases hp),fun e r q=>(by cases q)⟩
 | _,.one k t' h m,cov=>by
  refine⟨fun q p hp=>?_,fun e r q=>?_⟩
  ·by_cases c:cst t 0 1≤cst t' 0 1
   ·rw[yp,yp] at c
    have:=h p hp
    lia
   ·exfalso
    have e1:pops t [⟨k,t',0,1⟩]=[⟨k,t',0,1⟩]:=by show (if cst t 0 1≤cst t' 0 1 then _ else _)=_;rw[if_neg c]
    rw[e1] at q
    cases q
  ·by_cases c:cst t 0 1≤cst t' 0 1
   ·exfalso
    have e1:pops t [⟨k,t',0,1⟩]=[]:=by show (if cst t 0 1≤cst t' 0 1 then _ else _)=_;rw[if_pos c];rfl
    rw[e1] at q
    cases q
   ·have e1:pops t [⟨k,t',0,1⟩]=[⟨k,t',0,1⟩]:=by show (if cst t 0 1≤cst t' 0 1 then _ else _)=_;rw[if_neg c]
    rw[e1] at q
    have cv:=cov _ _ rfl
    have en:Env S [⟨k,t',0,1⟩]:=.one k t' h m
    cases q
    exact⟨en,cv,by show cst t' 0 1<cst t 0 1;lia⟩
 | _,.cons k tf e r h hy hx le m,cov=>by
  have en:Env S (⟨k,tf,tf.1-e.t.1,e.t.2-tf.2⟩::e::r):=.cons k tf e r h hy hx le m
  by_cases c:cst t (tf.1-e.t.1) (e.t.2-tf.2)≤cst tf (tf.1-e.t.1) (e.t.2-tf.2)
  ·have e1:pops t (⟨k,tf,tf.1-e.t.1,e.t.2-tf.2⟩::e::r)=pops t (e::r):=by
    show (if cst t (tf.1-e.t.1) (e.t.2-tf.2)≤cst tf (tf.1-e.t.1) (e.t.2-tf.2) then _ else _)=_
    rw[if_pos c]
   rw[e1]
   refine JC hs h fun e' r' q=>?_
   have q1:e=e':=by injection q
   subst q1
   exact Cov.step en c (hs tf m)
  ·have e1:pops t (⟨k,tf,tf.1-e.t.1,e.t.2-tf.2⟩::e::r)=⟨k,tf,tf.1-e.t.1,e.t.2-tf.2⟩::e::r:=by
    show (if cst t (tf.1-e.t.1) (e.t.2-tf.2)≤cst tf (tf.1-e.t.1) (e.t.2-tf.2) then _ else _)=_
    rw[if_neg c]
   rw[e1]
   refine⟨fun q=>(by cases q),fun e' r' q=>?_⟩
   have cv:=cov _ _ rfl
   cases q
   exact⟨en,cv,by show cst tf (tf.1-e.t.1) (e.t.2-tf.2)<cst t (tf.1-e.t.1) (e.t.2-tf.2);lia⟩
theorem Env.more {S:List (Int×Int)}{t:Int×Int}:∀ {st:List E},Env S st→(∀ e∈st,cst e.t e.x e.y≤cst t e.x e.y)→Env (S++[t]) st∨st=[]
 | _,.nil _,_=>.inr rfl
 | _,.one k t' h m,g=>.inl (.one k t' (fun p hp=>by
   rcases List.mem_append.mp hp with hp|hp
   ·exact h p hp
   ·have e1:p=t:=by simpa using hp
    subst e1
    have:=g _ List.mem_cons_self
    have:cst t' 0 1≤cst p 0 1:=this
    rwa [yp,yp] at this) (List.mem_append_left _ m))
 | _,.cons k tf e r h hy hx le m,g=>by
  rcases Env.more h (fun e' he=>g e' (List.mem_cons_of_mem _ he)) with q|q
  ·refine .inl (.cons k tf e r q hy hx (fun p hp=>?_) (List.mem_append_left _ m))
   rcases List.mem_append.mp hp with hp|hp
   ·exact le p hp
   ·have e1:p=t:=by simpa using hp
    subst e1
    exact g _ List.mem_cons_self
  ·cases q
theorem Env.rise {S:List (Int×Int)}:∀ {st:List E},Env S st→∀ e r,st=e::r→∀ g∈r,g.x*e.y<e.x*g.y
 | _,.nil _,e,r,q,_,_=>by cases q
 | _,.one k t h m,e,r,q,g,hg=>by cases q;cases hg
 | _,.cons k tf e r h hy hx le m,e',r',q,g,hg=>by
  have P:=h.pos
  have pe:=P e List.mem_cons_self
  have hf:0<e.t.2-tf.2:=by lia
  cases q
  show g.x*(e.t.2-tf.2)<(tf.1-e.t.1)*g.y
  rcases List.mem_cons.mp hg with rfl|hg
  ·exact hx
  ·have h1:=Env.rise h e r rfl g hg
   have pg:=P g (List.mem_cons_of_mem _ hg)
   generalize e.t.2-tf.2=fy at hx hf ⊢
   generalize tf.1-e.t.1=fx at hx ⊢
   have a1:g.x*e.y*fy<e.x*g.y*fy:=Int.mul_lt_mul_of_pos_right h1 hf
   have a2:e.x*fy*g.y<fx*e.y*g.y:=Int.mul_lt_mul_of_pos_right hx pg.2
   have b1:g.x*e.y*fy=e.y*(g.x*fy):=by rw[Int.mul_comm g.x,Int.mul_assoc]
   have b2:e.x*g.y*fy=e.x*fy*g.y:=by rw[Int.mul_assoc,Int.mul_comm g.y,←Int.mul_assoc]
   have b3:fx*e.y*g.y=e.y*(fx*g.y):=by rw[Int.mul_comm fx,Int.mul_assoc]
   have:e.y*(g.x*fy)<e.y*(fx*g.y):=by lia
   exact Int.lt_of_mul_lt_mul_left this (Int.le_of_lt pe.2)
theorem Env.push {S:List (Int×Int)}{t:Int×Int}{st:List E}(k:Int)(h:Env S st)(hs:∀ p∈S,t.2≤p.2)(tie:∀ p∈S,t.2=p.2→t.1≤p.1)(last:∀ e r,st=e::r→∀ p∈S,e.t.2≤p.2):
  Env (S++[t]) (My.push k t st):=by
 have key:=JC hs h (fun e r q=>fun x y hy hle hm p hp=>by
  have P:=h.pos e (by rw[q];exact List.mem_cons_self)
  have L:=(h.least e (by rw[q];exact List.mem_cons_self)).2 p hp
  exact beyond P.2 hy hle L (last e r q p hp))
 unfold My.push
 cases q:pops t st with
 | nil =>
  refine .one k t (fun p hp=>?_) (List.mem_append_right _ (by simp))
  rcases List.mem_append.mp hp with hp|hp
  ·exact key.1 q p hp
  ·have e1:p=t:=by simpa using hp
   subst e1
   exact Int.le_refl _
 | cons e r =>
  obtain⟨en,cov,lt⟩:=key.2 e r q
  have P:=en.pos
  have pe:=P e List.mem_cons_self
  have L:=en.least
  have le:=L e List.mem_cons_self
  have hy:t.2<e.t.2:=by
   have h1:=hs e.t le.1
   by_cases c:t.2=e.t.2
   ·exfalso
    have h2:=tie e.t le.1 c
    have d:=gw t e.t e.x e.y
    rw[show t.2-e.t.2=0 by lia,Int.zero_mul,Int.add_zero] at d
    have:(t.1-e.t.1)*e.y≤0:=Int.mul_nonpos_of_nonpos_of_nonneg (by lia) (Int.le_of_lt pe.2)
    lia
   ·lia
  have hx:e.x*(e.t.2-t.2)<(t.1-e.t.1)*e.y:=by
   have d:=gw t e.t e.x e.y
   have e1:(t.2-e.t.2)*e.x = - (e.x*(e.t.2-t.2)):=by
    rw[Int.mul_comm (t.2-e.t.2),←Int.mul_neg]
    congr 1
    lia
   rw[e1] at d
   lia
  have grow:∀ g∈e::r,cst g.t g.x g.y≤cst t g.x g.y:=fun g hg=>by
   rcases List.mem_cons.mp hg with rfl|hg
   ·lia
   ·have pg:=P g (List.mem_cons_of_mem _ hg)
    have lg:=(L g (List.mem_cons_of_mem _ hg)).2 e.t le.1
    have rs:=en.rise e r rfl g hg
    have:=ahead (p:=t) (q:=e.t) pe.2 pg.2 (Int.le_of_lt rs) (Int.le_of_lt lt) (Int.le_of_lt hy)
    lia
  have en2:Env (S++[t]) (e::r):=(en.more grow).resolve_right (by simp)
  refine .cons k t e r en2 hy hx (fun p hp=>?_) (List.mem_append_right _ (by simp))
  have mt:=meet t e.t
  rcases List.mem_append.mp hp with hp|hp
  ·have:=cov (t.1-e.t.1) (e.t.2-t.2) (by lia) (Int.le_of_lt hx) mt p hp
   lia
  ·have e1:p=t:=by simpa using hp
   subst e1
   exact Int.le_refl _
theorem RN {k:Int}{t:Int×Int}{st:List E}:∃ e r,My.push k t st=e::r∧e.t=t∧e.k=k:=by
 unfold My.push
 cases pops t st with
 | nil=>exact⟨_,_,rfl,rfl,rfl⟩
 | cons e r=>exact⟨_,_,rfl,rfl,rfl⟩
structure nY (S:List (Int×Int))(L:List E):Prop where
 ne:L≠[]
 first:∀ e,L[0]?=some e→e.x=0∧e.y=1
 pos:∀ e∈L,0≤e.x∧0<e.y
 least:∀ e∈L,e.t∈S∧∀ p∈S,cst e.t e.x e.y≤cst p e.x e.y
 next:∀ (i:Nat) e f,L[i]?=some e→L[i+1]?=some f→f.x=f.t.1-e.t.1∧f.y=e.t.2-f.t.2∧e.x*f.y<f.x*e.y
 last:∀ e,L[L.length-1]?=some e→∀ p∈S,e.t.2≤p.2
theorem Env.next {S:List (Int×Int)}:∀ {st:List E},Env S st→∀ (i:Nat) e f,st.reverse[i]?=some e→st.reverse[i+1]?=some f→f.x=f.t.1-e.t.1∧f.y=e.t.2-f.t.2∧e.x*f.y<f.x*e.y
 | _,.nil _,i,e,f,h1,_=>by simp at h1
 | _,.one k t h m,i,e,f,h1,h2=>by
  simp only[List.reverse_cons,List.reverse_nil,List.nil_append] at h2
  rw[List.getElem?_cons_succ] at h2
  simp at h2
 | _,.cons k t e0 r h hy hx le m,i,e,f,h1,h2=>by
  rw[List.reverse_cons] at h1 h2
  have hl:(e0::r).reverse.length=r.length+1:=by simp
  by_cases c:i+1<(e0::r).reverse.length
  ·rw[List.getElem?_append_left c] at h2
   rw[List.getElem?_append_left (by lia)] at h1
   exact Env.next h i e f h1 h2
  ·have hlt:i+1<((e0::r).reverse++[(⟨k,t,t.1-e0.t.1,e0.t.2-t.2⟩:E)]).length:=(List.getElem?_eq_some_iff.mp h2).1
   rw[List.length_append] at hlt
   have hlt:i+1<(e0::r).reverse.length+1:=hlt
   have ei:i+1=(e0::r).reverse.length:=by lia
   rw[List.getElem?_append_right (by lia),ei,Nat.sub_self] at h2
   have ef:(⟨k,t,t.1-e0.t.1,e0.t.2-t.2⟩:E)=f:=by simpa using h2
   rw[List.getElem?_append_left (by lia)] at h1
   have ee:e0=e:=by
    have e1:i=r.length:=by lia
    rw[e1,List.reverse_cons,List.getElem?_append_right (by simp)] at h1
    simpa using h1
   subst ef ee
   exact⟨rfl,rfl,hx⟩
theorem Env.first {S:List (Int×Int)}:∀ {st:List E},Env S st→∀ e,st.reverse[0]?=some e→e.x=0∧e.y=1
 | _,.nil _,e,h1=>by simp at h1
 | _,.one k t h m,e,h1=>by
  have:(⟨k,t,0,1⟩:E)=e:=by simpa using h1
  subst this
  exact⟨rfl,rfl⟩
 | _,.cons k t e0 r h hy hx le m,e,h1=>by
  rw[List.reverse_cons,List.getElem?_append_left (by simp)] at h1
  exact Env.first h e h1
theorem Env.lJ {S:List (Int×Int)}{st:List E}(h:Env S st){e0:E}{r:List E}(q:st=e0::r)(last:∀ p∈S,e0.t.2≤p.2):nY S st.reverse where
 ne:=by rw[q];simp
 first:=h.first
 pos:=fun e he=>h.pos e (List.mem_reverse.mp he)
 least:=fun e he=>h.least e (List.mem_reverse.mp he)
 next:=h.next
 last:=fun e he=>by
  have:e=e0:=by
   rw[q,List.reverse_cons,List.length_append,List.getElem?_append_right (by simp)] at he
   simpa using he.symm
  rw[this]
  exact last
theorem nY.aeC {S:List (Int×Int)}{L:List E}(h:nY S L){i:Nat}{e f:E}(h1:L[i]?=some e)(h2:L[i+1]?=some f):f.t.2<e.t.2:=by
 obtain⟨_,b,_⟩:=h.next i e f h1 h2
 have:=(h.pos f (List.mem_of_getElem? h2)).2
 lia
theorem nY.dec {S:List (Int×Int)}{L:List E}(h:nY S L){i:Nat}{e:E}(h1:L[i]?=some e):∀ (d:Nat) {f:E},L[i+d]?=some f→f.t.2≤e.t.2
 | 0,f,h2=>by
  rw[Nat.add_zero,h1] at h2
  cases h2
  exact Int.le_refl _
 | d+1,f,h2=>by
  have hlt:=(List.getElem?_eq_some_iff.mp h2).1
  have hg:L[i+d]?=some (L[i+d]'(by lia)):=List.getElem?_eq_getElem (by lia)
  have a:=nY.dec h h1 d hg
  have b:=h.aeC hg h2
  lia
theorem Fy {x y:Int}(hy:0<y):∃ g:Int,0<g∧∀ p:Int×Int,cst p x y=g*cst p (j8 x y) (j9 x y):=by
 refine⟨(Int.gcd x y:Int),lH hy,fun p=>?_⟩
 have h1:(Int.gcd x y:Int)*(x / (Int.gcd x y:Int))=x:=Int.mul_ediv_cancel' (Int.gcd_dvd_left x y)
 have h2:(Int.gcd x y:Int)*(y / (Int.gcd x y:Int))=y:=Int.mul_ediv_cancel' (Int.gcd_dvd_right x y)
 unfold cst j8 j9
 generalize (Int.gcd x y:Int)=g at h1 h2 ⊢
 generalize x / g=u at h1 ⊢
 generalize y / g=v at h2 ⊢
 rw[←h1,←h2,Int.mul_add,Int.mul_left_comm,Int.mul_left_comm p.2 g u]
theorem RP {x y:Int}(hy:0<y){p q:Int×Int}(h:cst p x y<cst q x y):cst p (j8 x y) (j9 x y)<cst q (j8 x y) (j9 x y):=by
 obtain⟨g,hg,e⟩:=Fy (x:=x) hy
 rw[e p,e q] at h
 exact Int.lt_of_mul_lt_mul_left h (Int.le_of_lt hg)
theorem RQ {x y:Int}(hy:0<y){p q:Int×Int}(h:cst p x y≤cst q x y):cst p (j8 x y) (j9 x y)≤cst q (j8 x y) (j9 x y):=by
 obtain⟨g,hg,e⟩:=Fy (x:=x) hy
 rw[e p,e q] at h
 exact Int.le_of_mul_le_mul_left h hg
theorem RT {x y u v:Int}(hy:0<y)(hv:0<v)(h:x*v<u*y):j8 x y*j9 u v<j8 u v*j9 x y:=by
 have h1:(Int.gcd x y:Int)*(x / (Int.gcd x y:Int))=x:=Int.mul_ediv_cancel' (Int.gcd_dvd_left x y)
 have h2:(Int.gcd x y:Int)*(y / (Int.gcd x y:Int))=y:=Int.mul_ediv_cancel' (Int.gcd_dvd_right x y)
 have h3:(Int.gcd u v:Int)*(u / (Int.gcd u v:Int))=u:=Int.mul_ediv_cancel' (Int.gcd_dvd_left u v)
 have h4:(Int.gcd u v:Int)*(v / (Int.gcd u v:Int))=v:=Int.mul_ediv_cancel' (Int.gcd_dvd_right u v)
 have g1:=lH (a:=x) hy
 have g2:=lH (a:=u) hv
 unfold j8 j9
 generalize (Int.gcd x y:Int)=g at h1 h2 g1 ⊢
 generalize (Int.gcd u v:Int)=g' at h3 h4 g2 ⊢
 generalize x / g=x' at h1 ⊢
 generalize y / g=y' at h2 ⊢
 generalize u / g'=u' at h3 ⊢
 generalize v / g'=v' at h4 ⊢
 rw[←h1,←h2,←h3,←h4] at h
 have e1:g*x'*(g'*v')=g*(g'*(x'*v')):=by rw[Int.mul_assoc,Int.mul_left_comm x']
 have e2:g'*u'*(g*y')=g*(g'*(u'*y')):=by rw[Int.mul_left_comm (g'*u'),Int.mul_assoc g']
 rw[e1,e2] at h
 exact Int.lt_of_mul_lt_mul_left (Int.lt_of_mul_lt_mul_left h (Int.le_of_lt g1)) (Int.le_of_lt g2)
structure TurnOk (L:List E)(t:Int×Int)(n:Nat):Prop where
 lt:n<L.length
 KH:∀ (j:Nat) e,j<n→L[j]?=some e→t.2<e.t.2
 at_:n=L.length-1∨∀ e,L[n]?=some e→e.t.2≤t.2
theorem XJ {S:List (Int×Int)}{L:List E}(h:nY S L){t:Int×Int}{n:Nat}{e:E}(he:L[n]?=some e)(c:cst t e.x e.y<cst e.t e.x e.y):∀ p∈S,cst t (j8 e.x e.y) (j9 e.x e.y)<cst p (j8 e.x e.y) (j9 e.x e.y):=fun p hp =>
 RP (h.pos e (List.mem_of_getElem? he)).2 (by have:=(h.least e (List.mem_of_getElem? he)).2 p hp;lia)
theorem XM {S:List (Int×Int)}{L:List E}(h:nY S L){t:Int×Int}{n:Nat}{e:E}(o:TurnOk L t n)(he:L[n]?=some e)(c:¬ cst t e.x e.y<cst e.t e.x e.y)(c2:t.2<e.t.2):
  e.t.1≤t.1∧∀ p∈S,cst t (j8 (t.1-e.t.1+(e.t.2-t.2)) (e.t.2-t.2)) (j9 (t.1-e.t.1+(e.t.2-t.2)) (e.t.2-t.2))<cst p (j8 (t.1-e.t.1+(e.t.2-t.2)) (e.t.2-t.2)) (j9 (t.1-e.t.1+(e.t.2-t.2)) (e.t.2-t.2)):=by
 have pe:=h.pos e (List.mem_of_getElem? he)
 have le:=h.least e (List.mem_of_getElem? he)
 have d:=gw t e.t e.x e.y
 have hd:0<e.t.2-t.2:=by lia
 have ed:(t.2-e.t.2)*e.x = - ((e.t.2-t.2)*e.x):=by rw[←Int.neg_mul];congr 1;lia
 rw[ed] at d
 have g0:(e.t.2-t.2)*e.x≤(t.1-e.t.1)*e.y:=by lia
 have g1:0≤(e.t.2-t.2)*e.x:=Int.mul_nonneg (by lia) pe.1
 have u0:0≤t.1-e.t.1:=by
  by_cases c9:0≤t.1-e.t.1
  ·exact c9
  ·have:=Int.mul_neg_of_neg_of_pos (show t.1-e.t.1<0 by lia) pe.2
   lia
 refine⟨by lia,fun p hp=>RP hd ?_⟩
 have hn:n=L.length-1:=by
  rcases o.at_ with q|q
  ·exact q
  ·have:=q e he
   lia
 have la:=h.last e (by rw[←hn];exact he) p hp
 have b1:cst e.t (t.1-e.t.1+(e.t.2-t.2)) (e.t.2-t.2)≤cst p (t.1-e.t.1+(e.t.2-t.2)) (e.t.2-t.2):=by
  refine beyond pe.2 hd ?_ (le.2 p hp) la
  have e1:(t.1-e.t.1+(e.t.2-t.2))*e.y=(t.1-e.t.1)*e.y+(e.t.2-t.2)*e.y:=by rw[Int.add_mul]
  have e2:e.x*(e.t.2-t.2)=(e.t.2-t.2)*e.x:=Int.mul_comm _ _
  have e3:0≤(e.t.2-t.2)*e.y:=Int.mul_nonneg (by lia) (Int.le_of_lt pe.2)
  lia
 have d2:=gw t e.t (t.1-e.t.1+(e.t.2-t.2)) (e.t.2-t.2)
 have e4:(t.2-e.t.2)*(t.1-e.t.1+(e.t.2-t.2)) = - ((e.t.2-t.2)*(t.1-e.t.1))-(e.t.2-t.2)*(e.t.2-t.2):=by
  rw[show t.2-e.t.2 = - (e.t.2-t.2) by lia,Int.neg_mul,Int.mul_add]
  lia
 have e5:(t.1-e.t.1)*(e.t.2-t.2)=(e.t.2-t.2)*(t.1-e.t.1):=Int.mul_comm _ _
 have e6:0<(e.t.2-t.2)*(e.t.2-t.2):=Int.mul_pos hd hd
 lia
theorem agQ {S:List (Int×Int)}{L:List E}(h:nY S L){t:Int×Int}{e:E}(he:L[0]?=some e)(c:¬ cst t e.x e.y<cst e.t e.x e.y):e.t.1≤t.1:=by
 obtain⟨a,b⟩:=h.first e he
 rw[a,b,yp,yp] at c
 lia
theorem agR {S:List (Int×Int)}{L:List E}(h:nY S L){t:Int×Int}{n:Nat}{e b:E}(o:TurnOk L t (n+1))(hb:L[n]?=some b)(he:L[n+1]?=some e)(c:¬ cst t e.x e.y<cst e.t e.x e.y)(c2:¬ t.2<e.t.2):
  0≤t.2-e.t.2∧0<b.t.2-t.2∧(t.2-e.t.2)*b.t.1+(b.t.2-t.2)*e.t.1≤((t.2-e.t.2)+(b.t.2-t.2))*t.1∧(t.2-e.t.2)*b.t.2+(b.t.2-t.2)*e.t.2≤((t.2-e.t.2)+(b.t.2-t.2))*t.2:=by
 have hbt:=o.KH n b (Nat.lt_succ_self n) hb
 obtain⟨nx,ny,_⟩:=h.next n b e hb he
 have pe:=h.pos e (List.mem_of_getElem? he)
 refine⟨by lia,by lia,?_,?_⟩
 ·rw[nx,ny] at c
  have my:0<b.t.2-e.t.2:=by rw[ny] at pe;exact pe.2
  have m1:=meet e.t b.t
  have f0:0≤t.2-e.t.2:=by lia
  have s0:0≤b.t.2-t.2:=by lia
  generalize hX:e.t.1-b.t.1=X at c m1
  generalize hY:b.t.2-e.t.2=Y at c m1 my
  generalize hf:t.2-e.t.2=f at f0
  generalize hs:b.t.2-t.2=s at s0
  have hfs:f+s=Y:=by lia
  have c':cst e.t X Y≤cst t X Y:=by lia
  have cb:cst b.t X Y≤cst t X Y:=by lia
  have q1:f*cst b.t X Y≤f*cst t X Y:=Int.mul_le_mul_of_nonneg_left cb f0
  have q2:s*cst e.t X Y≤s*cst t X Y:=Int.mul_le_mul_of_nonneg_left c' s0
  unfold cst at q1 q2
  have r1:f*(b.t.1*Y+b.t.2*X)=f*b.t.1*Y+f*b.t.2*X:=by rw[Int.mul_add,Int.mul_assoc,Int.mul_assoc]
  have r2:s*(e.t.1*Y+e.t.2*X)=s*e.t.1*Y+s*e.t.2*X:=by rw[Int.mul_add,Int.mul_assoc,Int.mul_assoc]
  have r3:f*(t.1*Y+t.2*X)=f*t.1*Y+f*t.2*X:=by rw[Int.mul_add,Int.mul_assoc,Int.mul_assoc]
  have r4:s*(t.1*Y+t.2*X)=s*t.1*Y+s*t.2*X:=by rw[Int.mul_add,Int.mul_assoc,Int.mul_assoc]
  have eqp:f*b.t.2+s*e.t.2=f*t.2+s*t.2:=by
   have b2:b.t.2=t.2+s:=by lia
   have e2:e.t.2=t.2-f:=by lia
   rw[b2,e2,Int.mul_add,Int.mul_sub,Int.mul_comm s f]
   lia
  have eqx:f*b.t.2*X+s*e.t.2*X=f*t.2*X+s*t.2*X:=by rw[←Int.add_mul,eqp,Int.add_mul]
  have fin:(f*b.t.1+s*e.t.1)*Y≤(f+s)*t.1*Y:=by
   rw[Int.add_mul,Int.add_mul,Int.add_mul]
   lia
  exact Int.le_of_mul_le_mul_right fin my
 ·generalize hf:t.2-e.t.2=f
  generalize hs:b.t.2-t.2=s
  have b2:b.t.2=t.2+s:=by lia
  have e2:e.t.2=t.2-f:=by lia
  rw[b2,e2,Int.mul_add,Int.mul_sub,Int.mul_comm s f,Int.add_mul]
  lia
end My
namespace My
open PySem PyProof.Rows L2
structure Bl (mg:Str→Option Value):Prop where
 XQ:mg "isinstance" = none
 int:mg "int" = none
 bool:mg "bool" = none
 tuple:mg "tuple" = none
 list:mg "list" = none
 len:mg "len" = none
 sum:mg "sum" = none
 zip:mg "zip" = none
 range:mg "range" = none
 enum:mg "enumerate" = none
 min:mg "min" = none
 max:mg "max" = none
 all:mg "all" = none
 any:mg "any" = none
 str:mg "str" = none
 sorted:mg "sorted" = none
structure RV (K:PySem.W.Frag)(C:Addr):Prop where
 ha:PySem.W.findIn K (.ref C) "__class__" = some (some (.builtin "object.__class__"))
 hn:PySem.W.specialIn K (.builtin "object.__class__") "__get__" = some (some (.builtin "getset_descriptor.__get__"))
 htk:PySem.W.takesIn K (.builtin "object.__class__")=some true
 hm:PySem.W.mroIn K C (.type "object")=some true
theorem RV.of {K:PySem.W.Frag}{C a dx:Addr}{H:Hp}{fs:List (Str×V)}(t:RV K C)(c:Cls K C)(e:H a=some (.ins C dx fs)):uH K H (.ref a) (.ref C):=.ins e c t.ha t.hn t.htk t.hm
inductive Cl (P:Program)(w:World)(K:PySem.W.Frag)(mg:Str→Option Value)(base:Heap)(k:Nat)(x:Str)(ps:List Str)(sp:Sp):Prop
 | mk {f:Addr} {fd:FuncData} (ok:cA P w K mg base gB k f fd ps sp) (bd:Binds K fd ps []) (kp:PySem.W.keepIn K (.ref f)=true) (m:mg x=some (.ref f)):Cl P w K mg base k x ps sp
inductive Dm (P:Program)(w:World)(K:PySem.W.Frag)(mg:Str→Option Value)(base:Heap)(k:Nat)(C:Addr)(ps:List Str)(sp:Sp):Prop
 | mk {f:Addr} {fd:FuncData} (ok:cA P w K mg base gB k f fd ps sp) (bd:Binds K fd ps []) (m:Mk K C f):Dm P w K mg base k C ps sp
inductive Fz (P:Program)(w:World)(K:PySem.W.Frag)(mg:Str→Option Value)(base:Heap)(k:Nat)(C:Addr)(x:Str)(ps:List Str)(sp:Sp):Prop
 | mk {f:Addr} {fd:FuncData} (ok:cA P w K mg base gB k f fd ps sp) (bd:Binds K fd ps []) (m:Meth K C x f):Fz P w K mg base k C x ps sp
section
variable{X:Cx}{k n:Nat}{ps:List Str}{sp:Sp}{p pos apos:Pos}{e o:Expr}{es:List Expr}{t:TA}{ta:TE}{C:Addr}{x:Str}
theorem Cl.pe (c:Cl X.prog X.w X.K X.mg X.base k x ps sp)(hr:iD n X.A)(ha:PA X (e::es) t)(hk:k≤n:=by decide)(hg:Gl X x:=by exact rfl)(hdb:(x == ("__debug__" : Str))=false:=by decide)(he:starEach (e::es) X.env=(false,eval e X.env)::starEach es X.env:=by rfl)(hpl:(backTo pos (starEach es X.env)).any (·.1)=false:=by rfl):PE X (.Call (.Name x p) (e::es) [] pos) (Mx sp [] E0 t):=by
 obtain⟨ok,bd,kp,m⟩:=c
 exact Uq ok (hr.mono hk) hg m kp bd .nil MJ ha hdb he hpl
theorem Cl.pe0 (c:Cl X.prog X.w X.K X.mg X.base k x ps sp)(hr:iD n X.A)(hk:k≤n:=by decide)(hg:Gl X x:=by exact rfl)(hdb:(x == ("__debug__" : Str))=false:=by decide):PE X (.Call (.Name x p) [] [] pos) (Mx sp [] E0 nR):=by
 obtain⟨ok,bd,kp,m⟩:=c
 exact QS ok (hr.mono hk) hg m kp bd .nil MJ hdb
theorem Dm.pe (c:Dm X.prog X.w X.K X.mg X.base k C ps sp)(hr:iD n X.A)(hm:X.mg x=some (.ref C))(ha:PA X (e::es) t)(hk:k+1≤n:=by decide)(hg:Gl X x:=by exact rfl)(hdb:(x == ("__debug__" : Str))=false:=by decide)(he:starEach (e::es) X.env=(false,eval e X.env)::starEach es X.env:=by rfl)(hpl:(backTo pos (starEach es X.env)).any (·.1)=false:=by rfl):PE X (.Call (.Name x p) (e::es) [] pos) (qR C sp [] E0 t):=by
 obtain⟨ok,bd,m⟩:=c
 exact Us m ok (hr.mono hk) hg hm bd .nil MJ ha hdb he hpl
theorem Fz.pe {pl:Sem Bool}(c:Fz X.prog X.w X.K X.mg X.base k C x ps sp)(hr:iD n X.A)(hc:Cls X.K C)(ho:PE X o ta)(ha:PA X (e::es) t)(hk:k≤n:=by decide)(he:starEach (e::es) X.env=(false,eval e X.env)::starEach es X.env:=by rfl)(hpl:(backTo pos (starEach es X.env)).any (·.1)=false:=by rfl)
  (ht:eval (.Call (.Attribute o x apos) (e::es) [] pos) X.env=(do
    let v ←eval o X.env
    standAt apos.atName
    let (f,first) ←holding [v] (getMethod v x pl)
    callWith pos f first (backTo pos (starEach (e::es) X.env)) (backToKw pos (keywordEach [] X.env))):=by rfl):PE X (.Call (.Attribute o x apos) (e::es) [] pos) (qu C x sp [] E0 ta t):=by
 obtain⟨ok,bd,m⟩:=c
 exact Ur ho hc m ok (hr.mono hk) bd .nil MJ ha he hpl ht
end
noncomputable abbrev uO:Stmt:=top 4
noncomputable abbrev jR:Stmt:=top 5
noncomputable abbrev jo:Stmt:=top 6
noncomputable abbrev rm:Stmt:=top 7
noncomputable abbrev uP:Stmt:=top 8
noncomputable abbrev pL:Stmt:=top 9
noncomputable abbrev lM:Stmt:=top 11
noncomputable abbrev nZ:Stmt:=top 12
noncomputable abbrev lN:Stmt:=top 14
noncomputable abbrev n6:Stmt:=top 15
noncomputable abbrev pN:Stmt:=top 16
noncomputable abbrev wY:Stmt:=top 17
noncomputable abbrev pO:Stmt:=top 18
noncomputable abbrev gF:Stmt:=top 19
noncomputable abbrev fu:Stmt:=top 20
noncomputable abbrev pP:Stmt:=inClass (top 22) 0
noncomputable abbrev n8:Stmt:=inClass (top 22) 1
noncomputable abbrev jT:Stmt:=inClass (top 23) 0
noncomputable abbrev jq:Stmt:=inClass (top 23) 1
noncomputable abbrev oh:Stmt:=inClass (top 24) 0
noncomputable abbrev lO:Stmt:=inClass (top 24) 1
noncomputable abbrev pQ:Stmt:=inClass (top 25) 0
noncomputable abbrev ou:Stmt:=inClass (top 25) 1
noncomputable abbrev rA:Stmt:=inClass (top 26) 0
noncomputable abbrev pR:Stmt:=inClass (top 26) 1
noncomputable abbrev rC:Stmt:=inClass (top 27) 0
noncomputable abbrev pU:Stmt:=inClass (top 27) 1
noncomputable abbrev lQ:Stmt:=inClass (top 28) 0
noncomputable abbrev jU:Stmt:=inClass (top 28) 1
noncomputable abbrev pW:Stmt:=inClass (top 29) 0
noncomputable abbrev iH:Stmt:=top 31
noncomputable abbrev jV:Stmt:=top 32
noncomputable abbrev uQ:Stmt:=top 33
noncomputable abbrev lR:Stmt:=top 34
noncomputable abbrev oA:Stmt:=top 35
noncomputable abbrev Bc:Stmt:=top 36
noncomputable abbrev G3:Stmt:=top 37
noncomputable abbrev rD:Stmt:=top 39
noncomputable abbrev oE:Stmt:=top 40
noncomputable abbrev oF:Stmt:=top 41
noncomputable abbrev rF:Stmt:=top 42
noncomputable abbrev lU:Stmt:=top 43
noncomputable abbrev pX:Stmt:=top 44
noncomputable abbrev jW:Stmt:=top 45
noncomputable abbrev oG:Stmt:=top 46
noncomputable abbrev pY:Stmt:=top 47
noncomputable abbrev rG:Stmt:=top 48
noncomputable abbrev rH:Stmt:=top 49
noncomputable abbrev lV:Stmt:=top 50
noncomputable abbrev rJ:Stmt:=top 51
noncomputable abbrev rK:Stmt:=top 52
noncomputable abbrev jr:Stmt:=top 53
noncomputable abbrev gZ:Stmt:=top 54
noncomputable abbrev iI:Stmt:=top 55
noncomputable abbrev iJ:Stmt:=top 56
noncomputable abbrev jX:Stmt:=top 57
noncomputable abbrev FJ:Stmt:=top 58
structure Cz where
 (Alone Needless Ranges Under Over Most Endless Dear:Addr)
structure CT (K:PySem.W.Frag)(mg:Str→Option Value)(z:Cz):Prop where
 Bd:mg "Alone" = some (.ref z.Alone)
 eX:mg "Needless" = some (.ref z.Needless)
 jt:mg "Ranges" = some (.ref z.Ranges)
 rM:mg "Under" = some (.ref z.Under)
 vQ:mg "Over" = some (.ref z.Over)
 vR:mg "Most" = some (.ref z.Most)
 lW:mg "Endless" = some (.ref z.Endless)
 G4:mg "Dear" = some (.ref z.Dear)
 o7:Cls K z.Alone
 aeD:RV K z.Alone
 fX:gj K z.Alone "amount"
 qy:PySem.W.kitOne K (.ref z.Alone) (.ref z.Under)=some false
 bG:Cls K z.Needless
 Wx:RV K z.Needless
 eG:gj K z.Needless "one"
 dH:gj K z.Needless "other"
 eY:gj K z.Needless "first"
 dY:gj K z.Needless "second"
 lX:PySem.W.kitOne K (.ref z.Needless) (.ref z.Under)=some false
 cJ:Cls K z.Ranges
 Y4:RV K z.Ranges
 cV:gj K z.Ranges "begins"
 cL:gj K z.Ranges "places"
 o8:PySem.W.kitOne K (.ref z.Ranges) (.ref z.Under)=some false
 iZ:Cls K z.Under
 RW:RV K z.Under
 fB:gj K z.Under "rows"
 jY:PySem.W.kitOne K (.ref z.Under) (.ref z.Under)=some true
 kh:Cls K z.Over
 Vh:RV K z.Over
 dZ:gj K z.Over "amount"
 lY:PySem.W.kitOne K (.ref z.Over) (.ref z.Under)=some false
 iB:Cls K z.Most
 afA:RV K z.Most
 iw:gj K z.Most "place"
 fK:gj K z.Most "amount"
 rN:PySem.W.kitOne K (.ref z.Most) (.ref z.Under)=some false
 gG:Cls K z.Endless
 XR:RV K z.Endless
 fL:gj K z.Endless "place"
 mX:PySem.W.kitOne K (.ref z.Endless) (.ref z.Under)=some false
 G5:Cls K z.Dear
 afB:RV K z.Dear
 G6:MkN K z.Dear
 rO:PySem.W.kitOne K (.ref z.Dear) (.ref z.Under)=some false
theorem aq {H:Hp}{p:Addr}(h:H p=none)(o:HO):Same H (upd H p o):=fun b u q=>by rw[aJ (aM q h)];exact q
def cu (H:Hp)(vs:List V)(ps:List (Int×Int)):Prop:=Paired (fun v (p:Int×Int)=>∃ r,v=V.ref r∧H r=some (.tup [.int p.1,.int p.2])) vs ps
def bH (H:Hp)(a:Addr)(ps:List (Int×Int)):Prop:=∃ vs,H a=some (.lst vs)∧cu H vs ps
theorem cu.same {H H':Hp}{vs:List V}{ps:List (Int×Int)}(t:cu H vs ps)(e:Same H H'):cu H' vs ps:=Paired.Jc t fun v p ⟨r,h1,h2⟩=>⟨r,h1,e _ _ h2⟩
theorem bH.same {H H':Hp}{a:Addr}{ps:List (Int×Int)}(t:bH H a ps)(e:Same H H'):bH H' a ps:=let ⟨vs,h1,h2⟩:=t;⟨vs,e _ _ h1,h2.same e⟩
theorem bh {α β:Type}{F:α→β→Prop}:∀ {xs:List α} {ys:List β} {i:Nat} {x:α},Paired F xs ys→xs[i]?=some x→∃ y,ys[i]?=some y∧F x y
 | _,_,_,_,.nil,e=>by simp at e
 | _,_,0,_,.cons r _,e=>by simp at e;subst e;exact⟨_,rfl,r⟩
 | _,_,i+1,x,.cons _ t,e=>by
  obtain⟨u,h1,h2⟩:=bh (i:=i) (x:=x) t (by simpa using e)
  exact⟨u,by simpa using h1,h2⟩
theorem bx {α β:Type}{F:α→β→Prop}:∀ {xs:List α} {ys:List β} {i:Nat} {y:β},Paired F xs ys→ys[i]?=some y→∃ x,xs[i]?=some x∧F x y
 | _,_,_,_,.nil,e=>by simp at e
 | _,_,0,_,.cons r _,e=>by simp at e;subst e;exact⟨_,rfl,r⟩
 | _,_,i+1,x,.cons _ t,e=>by
  obtain⟨u,h1,h2⟩:=bx (i:=i) t (by simpa using e)
  exact⟨u,by simpa using h1,h2⟩
theorem dW {α β:Type}{F:α→β→Prop}:∀ {xs xs':List α} {ys ys':List β},Paired F xs ys→Paired F xs' ys'→Paired F (xs++xs') (ys++ys')
 | _,_,_,_,.nil,s=>s
 | _,_,_,_,.cons r t,s=>.cons r (dW t s)
theorem cu.len {H:Hp}{vs:List V}{ps:List (Int×Int)}(t:cu H vs ps):vs.length=ps.length:=Paired.length t
theorem Df.fit {x:Int}(h:Df x):jm x:=fit_le (10 ^ 60) (by have h1:=h.1;have h2:=h.2;lia) (by decide +kernel)
theorem small {n:Nat}(h:n≤1000):n≤sizeLine:=Nat.le_of_lt (bQ h)
theorem Ng {a b:Int}(hb:0<b)(h:jm b):jm ((Int.gcd a b:Nat):Int):=h.mono (by have:=RM (a:=a) hb;lia)
theorem vU {α β:Type}(f:α→β)(l:List α)(i:Nat)(a:α)(h:l[i]?=some a):(l.take (i+1)).map f=(l.take i).map f++[f a]:=by
 rw[List.take_succ,h,List.map_append];rfl
theorem int_at {ns:List Int}{i:Nat}{v:V}(hi:(ns.map V.int)[i]?=some v):∃ t,ns[i]?=some t∧v=V.int t:=by
 rw[List.getElem?_map] at hi
 cases e:ns[i]? with
 | none=>rw[e] at hi;cases hi
 | some t=>rw[e] at hi;exact⟨t,rfl,(Option.some.inj hi).symm⟩
local macro_rules | `(tactic|walk_at "fit")=>`(tactic|(unfold jm;decide +kernel))
section
variable{P:Program}{w:World}{K:PySem.W.Frag}{mg:Str→Option Value}{base:Heap}{z:Cz}
inductive Nh (vs:List V)(H:Hp)(Q:VK):Prop
 | mk (i:_) (c0:vs=[.int i]) (c1:Q (.bl (decide (0≤i))) H):Nh  vs H Q
def zL:Sp:=fun vs H Q _=>Nh  vs H Q
theorem JD:aY ["value"] ["value"] (aC uO):=⟨rfl,rfl,rfl,by decide +kernel,rfl,by decide +kernel,by decide +kernel⟩
theorem JF {f:Addr}{fd:FuncData}(F:gY K "is_whole" "is_whole" uO f fd)(B:Bl mg)(T:CT K mg z):cA P w K mg base gB 1 f fd ["value"] zL:=by
 refine F.ok JD (fun vs H Q E h=>?_) (fun cdv A outer s H vs Q E hr h=>?_)
 ·obtain⟨i,rfl,_⟩:=h
  rfl
 ·obtain⟨i,rfl,q⟩:=h
  refine⟨_,(aD (aN (eF (aK (O6 K (n := "int")) rfl B.XQ boot_isinstance (aj (pv 0) (aj (tu (v:=.ty "int") rfl B.int boot_int rfl) ao))) (eF (KZ (aK (O6 K (n := "bool")) rfl B.XQ boot_isinstance (aj (pv 0) (aj (tu (v:=.ty "bool") rfl B.bool boot_bool rfl) ao)))) (iT (bW QG (pv 0) aA (aU _))))))),?_⟩
  refine⟨_,rfl,_,_,_,rfl,.int i,qU,_,rfl,fH ?_⟩
  refine⟨_,rfl,_,_,_,rfl,.int i,GC,_,rfl,_,rfl,fH ?_⟩
  exact⟨_,rfl,_,_,rfl,rfl,q⟩
inductive RX (vs:List V)(H:Hp)(Q:VK):Prop
 | mk (a:_) (x:_) (y:_) (c0:vs=[.ref a]) (c1:H a=some (.tup [.int x,.int y])) (c2:Q (.bl (decide (0≤x) && decide (0≤y))) H):RX  vs H Q
def Lw:Sp:=fun vs H Q _=>RX  vs H Q
theorem wZ:aY ["value"] ["value"] (aC jR):=⟨rfl,rfl,rfl,by decide +kernel,rfl,by decide +kernel,by decide +kernel⟩
theorem w5 {f:Addr}{fd:FuncData}(F:gY K "is_whole_pair" "is_whole_pair" jR f fd)(B:Bl mg)(T:CT K mg z)
  (iK:Cl P w K mg base 1 "is_whole" ["value"] zL):cA P w K mg base gB 2 f fd ["value"] Lw:=by
 refine F.ok wZ (fun vs H Q E h=>?_) (fun cdv A outer s H vs Q E hr h=>?_)
 ·obtain⟨a,x,y,rfl,_⟩:=h
  rfl
 ·obtain⟨a,x,y,rfl,ha,q⟩:=h
  refine⟨_,(aD (aN (eF (aK (O6 K (n := "tuple")) rfl B.XQ boot_isinstance (aj (pv 0) (aj (tu (v:=.ty "tuple") rfl B.tuple boot_tuple rfl) ao))) (eF (bW iM (aK (iV K) rfl B.len PySem.boot_len (aj (pv 0) ao)) aA (aU _)) (eF (iK.pe hr (aj (aH (aG K) (pv 0) aA (fun _ _=>rfl)) ao)) (iT (iK.pe hr (aj (aH (aG K) (pv 0) aA (fun _ _=>rfl)) ao)))))))),?_⟩
  refine⟨_,rfl,_,_,_,rfl,.tup ha,qU,_,rfl,fH ?_⟩
  refine⟨_,rfl,a,_,rfl,.inr (cT.of ha),rfl,_,rfl,fH ?_⟩
  refine⟨_,rfl,a,_,0,_,rfl,rfl,cT.of ha,rfl,x,rfl,_,rfl,?_⟩
  by_cases hx:0≤x
  ·rw[decide_eq_true hx] at q ⊢
   refine fH ?_
   exact⟨_,rfl,a,_,1,_,rfl,rfl,cT.of ha,rfl,y,rfl,q⟩
  ·rw[decide_eq_false hx] at q ⊢
   exact dz q
inductive Wy (vs:List V)(H:Hp)(Q:VK):Prop
 | mk (a:_) (b:_) (c0:vs=[.int a,.int b]) (c1:0≤a) (c2:0≤b) (c3:Q (.int (Int.gcd a b:Nat)) H):Wy  vs H Q
def RZ:Sp:=fun vs H Q _=>Wy  vs H Q
theorem gA:aY ["one", "other", "rest"] ["one", "other"] (aC jo):=⟨rfl,rfl,rfl,by decide +kernel,rfl,by decide +kernel,by decide +kernel⟩
theorem vV {f:Addr}{fd:FuncData}(F:gY K "common_divisor" "common_divisor" jo f fd)(B:Bl mg)(T:CT K mg z):cA P w K mg base gB 1 f fd ["one", "other"] RZ:=by
 refine F.ok gA (fun vs H Q E h=>?_) (fun cdv A outer s H vs Q E hr h=>?_)
 ·obtain⟨a,b,rfl,_⟩:=h
  rfl
 ·obtain⟨a,b,rfl,ha,hb,q⟩:=h
  refine⟨_,(aB (vG PassesOwn.never (bB iQ (pv 1) aA (aU _)) (aB (aW (i:=2) gA.nd rfl (Or.inl rfl) (aF cO (pv 0) (pv 1)))
     (aB (aW (i:=0) gA.nd rfl (Or.inl rfl) (pv 1))
     (aD (aW (i:=1) gA.nd rfl (Or.inl rfl) (pv 2))))))
     (aD (aN (pv 0)))),?_⟩
  refine Jf (fun σ H1=>H1=H∧∃ x y v,σ=[some (.int x),some (.int y),v]∧0≤x∧0≤y∧Int.gcd x y=Int.gcd a b)
   (fun σ _=>match σ with | [_,some (.int y),_]=>y.toNat|_=>0) ⟨rfl,a,b,none,rfl,ha,hb,rfl⟩ ?_ ?_
  ·rintro σ H1 ⟨rfl,x,y,v,rfl,hx,hy,hg⟩
   refine⟨_,rfl,_,_,rfl,rfl,_,rfl,?_⟩
   refine Q6 (fun c=>?_) (fun c=>?_)
   ·have c':(0:Int)<y:=of_decide_eq_true c
    refine⟨_,rfl,_,rfl,_,_,rfl,rfl,c',_,rfl,_,rfl,⟨rfl,y,x % y,_,rfl,hy,Int.emod_nonneg _ (by lia),?_⟩,?_⟩
    ·rw[Jy hx c',hg]
    ·show (x % y).toNat<y.toNat
     have:=Int.emod_lt_of_pos x c'
     lia
   ·have c':¬ (0:Int)<y:=of_decide_eq_false (Bool.eq_false_iff.mpr c)
    have hy0:y=0:=by lia
    subst hy0
    rw[Int.gcd_zero_right] at hg
    refine⟨_,rfl,?_⟩
    have e:x=((Int.gcd a b:Nat):Int):=by lia
    rw[e]
    exact q
  ·rintro σ H1 Q1 Q2 hq ⟨v,e,i,j,e1,e2,c,e3,q⟩
   exact⟨v,e,i,j,e1,e2,c,e3,hq _ _ q⟩
inductive R0 (vs:List V)(H:Hp)(Q:VK):Prop
 | mk (a:_) (x:_) (y:_) (c0:vs=[.ref a]) (c1:H a=some (.tup [.int x,.int y])) (c2:0≤x) (c3:0<y) (c4:Int.gcd x y=1) (c5:Q (.bl true) H):R0  vs H Q
def Bf:Sp:=fun vs H Q _=>R0  vs H Q
theorem G7:aY ["value"] ["value"] (aC rm):=⟨rfl,rfl,rfl,by decide +kernel,rfl,by decide +kernel,by decide +kernel⟩
theorem G8 {f:Addr}{fd:FuncData}(F:gY K "is_amount" "is_amount" rm f fd)(B:Bl mg)(T:CT K mg z)
  (jZ:Cl P w K mg base 2 "is_whole_pair" ["value"] Lw)
  (ju:Cl P w K mg base 1 "common_divisor" ["one", "other"] RZ):cA P w K mg base gB 3 f fd ["value"] Bf:=by
 refine F.ok G7 (fun vs H Q E h=>?_) (fun cdv A outer s H vs Q E hr h=>?_)
 ·obtain⟨a,x,y,rfl,_⟩:=h
  rfl
 ·obtain⟨a,x,y,rfl,ha,hx,hy,hg,q⟩:=h
  refine⟨_,(aD (aN (eF (jZ.pe hr (aj (pv 0) ao)) (eF (bW iQ (aH (aG K) (pv 0) aA (fun _ _=>rfl)) aA (aU _)) (iT (bW iM (ju.pe hr (aj (aH (aG K) (pv 0) aA (fun _ _=>rfl)) (aj (aH (aG K) (pv 0) aA (fun _ _=>rfl)) ao))) aA (aU _))))))),?_⟩
  refine⟨_,rfl,a,x,y,rfl,ha,_,rfl,?_⟩
  rw[decide_eq_true hx,decide_eq_true (Int.le_of_lt hy)]
  refine fH ?_
  refine⟨_,rfl,a,_,1,_,rfl,rfl,cT.of ha,rfl,_,_,rfl,rfl,_,rfl,?_⟩
  rw[decide_eq_true hy]
  refine fH ?_
  refine⟨_,rfl,a,_,0,_,rfl,rfl,cT.of ha,rfl,_,rfl,a,_,1,_,rfl,rfl,cT.of ha,rfl,x,y,rfl,hx,Int.le_of_lt hy,rfl,?_⟩
  rw[hg]
  exact q
inductive FN (vs:List V)(H:Hp)(Q:VK):Prop
 | mk (a:_) (xs:_) (k:_) (c0:vs=[.ref a,.int k]) (c1:H a=some (.lst xs)) (c2:Q (.bl (decide (0≤k) && decide (k<(xs.length:Int)))) H):FN  vs H Q
def o9:Sp:=fun vs H Q _=>FN  vs H Q
theorem JG:aY ["book", "value"] ["book", "value"] (aC uP):=⟨rfl,rfl,rfl,by decide +kernel,rfl,by decide +kernel,by decide +kernel⟩
theorem JH {f:Addr}{fd:FuncData}(F:gY K "is_place" "is_place" uP f fd)(B:Bl mg)(T:CT K mg z)
  (iK:Cl P w K mg base 1 "is_whole" ["value"] zL):cA P w K mg base gB 2 f fd ["book", "value"] o9:=by
 refine F.ok JG (fun vs H Q E h=>?_) (fun cdv A outer s H vs Q E hr h=>?_)
 ·obtain⟨a,xs,k,rfl,_⟩:=h
  rfl
 ·obtain⟨a,xs,k,rfl,ha,q⟩:=h
  refine⟨_,(aD (aN (eF (iK.pe hr (aj (pv 1) ao)) (iT (bW qt (pv 1) (aK (iV K) rfl B.len PySem.boot_len (aj (pv 0) ao)) (aU _)))))),?_⟩
  refine⟨_,rfl,k,rfl,_,rfl,?_⟩
  by_cases hx:0≤k
  ·rw[decide_eq_true hx] at q ⊢
   refine fH ?_
   exact⟨_,rfl,_,rfl,a,_,rfl,.inl (aQ.of ha),_,_,rfl,rfl,q⟩
  ·rw[decide_eq_false hx] at q ⊢
   exact dz q
inductive JK (vs:List V)(H:Hp)(Q:VK):Prop
 | mk (a:_) (ps:_) (c0:vs=[.ref a]) (c1:bH H a ps) (c2:ps≠[]) (c3:(∀ p∈ps,mO p)) (c4:Q .non H):JK  vs H Q
def Bg:Sp:=fun vs H Q _=>JK  vs H Q
theorem uh:aY ["book", "tariff"] ["book"] (aC pL):=⟨rfl,rfl,rfl,by decide +kernel,rfl,by decide +kernel,by decide +kernel⟩
theorem Dn {f:Addr}{fd:FuncData}(F:gY K "check_book" "check_book" pL f fd)(B:Bl mg)(T:CT K mg z)
  (jZ:Cl P w K mg base 2 "is_whole_pair" ["value"] Lw):cA P w K mg base gB 3 f fd ["book"] Bg:=by
 refine F.ok uh (fun vs H Q E h=>?_) (fun cdv A outer s H vs Q E hr h=>?_)
 ·obtain⟨a,ps,rfl,_⟩:=h
  rfl
 ·obtain⟨a,ps,rfl,⟨vs,ha,ht⟩,hne,hok,q⟩:=h
  refine⟨_,(aB (bY (PW.pt (pw_or (dh (cR (aK (O6 K (n := "list")) rfl B.XQ boot_isinstance (aj (pv 0) (aj (tu (v:=.ty "list") rfl B.list boot_list rfl) ao))))) (pw_or1 (bB iM (aK (iV K) rfl B.len PySem.boot_len (aj (pv 0) ao)) aA (aU _))))) Ez bw)
     (aD (jP PassesOwn.never rfl (bM K rfl (pv 0)) (aZ (i:=1) uh.nd rfl (Or.inl rfl))
     (aD (bY (dh (cR (jZ.pe hr (aj (pv 1) ao)))) Ez bw))))),?_⟩
  refine⟨_,rfl,_,_,_,rfl,.lst ha,qU,_,rfl,dz ?_⟩
  have hl:vs.length=ps.length:=ht.len
  have hl0:¬ V.int (vs.length:Nat)=V.int 0:=fun z=>by
   have z:=V.int.inj z
   have:ps.length=0:=by lia
   exact hne (List.eq_nil_of_length_eq_zero this)
  refine⟨_,rfl,a,_,rfl,.inl (aQ.of ha),rfl,_,rfl,?_⟩
  rw[decide_eq_false hl0]
  refine dz ?_
  refine⟨_,rfl,a,rfl,⟨_,aQ.of ha⟩,ig (K:=K) (a:=a) (xs:=vs) (fun i σ H2=>H2=H∧∃ v,σ=[some (.ref a),v]) ⟨rfl,none,rfl⟩ (fun i σ H2 _ ⟨e,_⟩=>by rw[e];exact aQ.of ha) ?_ ?_⟩
  ·rintro i y σ H2 hi ⟨rfl,v,rfl⟩
   obtain⟨p,hp,r,rfl,hr'⟩:=bh ht hi
   have o:=hok p (List.mem_of_getElem? hp)
   refine⟨_,rfl,r,p.1,p.2,rfl,hr',_,rfl,?_⟩
   rw[decide_eq_true o.1.1,decide_eq_true o.2.1]
   exact dz ⟨rfl,_,rfl⟩
  ·rintro σ H2 ⟨rfl,v,rfl⟩
   exact q
inductive Wz (vs:List V)(H:Hp)(Q:VK):Prop
 | mk (a:_) (b:_) (c0:vs=[.int a,.int b]) (c1:0≤a) (c2:0<b) (c3:jm b) (c4:∀ p,H p=none→Q (.ref p) (upd H p (.tup [.int (j8 a b),.int (j9 a b)]))):Wz  vs H Q
def JL:Sp:=fun vs H Q _=>Wz  vs H Q
theorem qz:aY ["top", "bottom", "divisor"] ["top", "bottom"] (aC lM):=⟨rfl,rfl,rfl,by decide +kernel,rfl,by decide +kernel,by decide +kernel⟩
theorem yO {f:Addr}{fd:FuncData}(F:gY K "lowest_terms" "lowest_terms" lM f fd)(B:Bl mg)(T:CT K mg z)
  (ju:Cl P w K mg base 1 "common_divisor" ["one", "other"] RZ):cA P w K mg base gB 2 f fd ["top", "bottom"] JL:=by
 refine F.ok qz (fun vs H Q E h=>?_) (fun cdv A outer s H vs Q E hr h=>?_)
 ·obtain⟨a,b,rfl,_⟩:=h
  rfl
 ·obtain⟨a,b,rfl,ha,hb,fb,q⟩:=h
  refine⟨_,(aB (aW (i:=2) qz.nd rfl (Or.inl rfl) (ju.pe hr (aj (pv 0) (aj (pv 1) ao))))
     (aD (aN (bN (aj (aF bU (pv 0) (pv 2)) (aj (aF bU (pv 1) (pv 2)) ao)))))),?_⟩
  have gp:=lH (a:=a) hb
  have gf:=Ng (a:=a) hb fb
  refine⟨_,rfl,_,rfl,a,b,rfl,ha,Int.le_of_lt hb,?_⟩
  refine⟨_,rfl,_,rfl,_,_,rfl,rfl,⟨gp,gf⟩,_,rfl,_,rfl,_,_,rfl,rfl,⟨gp,gf⟩,cI,q⟩
inductive WD (vs:List V)(H:Hp)(Q:VK):Prop
 | mk (t:_) (m:_) (a:_) (b:_) (x:_) (y:_) (c0:vs=[.ref t,.ref m]) (c1:H t=some (.tup [.int a,.int b])) (c2:H m=some (.tup [.int x,.int y])) (c3:jm a) (c4:jm b) (c5:jm x) (c6:jm y) (c7:Q (.int (cst (a,b) x y)) H):WD  vs H Q
def um:Sp:=fun vs H Q _=>WD  vs H Q
theorem Bh:aY ["tariff", "amount"] ["tariff", "amount"] (aC nZ):=⟨rfl,rfl,rfl,by decide +kernel,rfl,by decide +kernel,by decide +kernel⟩
theorem Bj {f:Addr}{fd:FuncData}(F:gY K "top_of_cost" "top_of_cost" nZ f fd)(B:Bl mg)(T:CT K mg z):cA P w K mg base gB 1 f fd ["tariff", "amount"] um:=by
 refine F.ok Bh (fun vs H Q E h=>?_) (fun cdv A outer s H vs Q E hr h=>?_)
 ·obtain⟨t,m,a,b,x,y,rfl,_⟩:=h
  rfl
 ·obtain⟨t,m,a,b,x,y,rfl,ht,hm,fa,fb,fx,fy,q⟩:=h
  refine⟨_,(aD (aN (aF dj (aF dR (aH (aG K) (pv 0) aA (fun _ _=>rfl)) (aH (aG K) (pv 1) aA (fun _ _=>rfl))) (aF dR (aH (aG K) (pv 0) aA (fun _ _=>rfl)) (aH (aG K) (pv 1) aA (fun _ _=>rfl)))))),?_⟩
  refine⟨_,rfl,t,_,0,_,rfl,rfl,cT.of ht,rfl,_,rfl,m,_,1,_,rfl,rfl,cT.of hm,rfl,_,_,rfl,rfl,⟨fa,fy⟩,?_⟩
  refine⟨_,rfl,t,_,1,_,rfl,rfl,cT.of ht,rfl,_,rfl,m,_,0,_,rfl,rfl,cT.of hm,rfl,_,_,rfl,rfl,⟨fb,fx⟩,?_⟩
  exact⟨_,_,rfl,rfl,q⟩
def costs (ps:List (Int×Int))(x y:Int):List Int:=ps.map fun p=>cst p x y
inductive R5 (vs:List V)(H:Hp)(Q:VK):Prop
 | mk (b:_) (m:_) (ps:_) (x:_) (y:_) (c0:vs=[.ref b,.ref m]) (c1:bH H b ps) (c2:ps.length≤1000) (c3:(∀ p∈ps,mO p)) (c4:H m=some (.tup [.int x,.int y])) (c5:tO x y) (c6:∀ r,H r=none→Q (.ref r) (upd H r (.lst ((costs ps x y).map V.int)))):R5  vs H Q
def Bm:Sp:=fun vs H Q _=>R5  vs H Q
theorem yP:aY ["book", "amount"] ["book", "amount"] (aC lN):=⟨rfl,rfl,rfl,by decide +kernel,rfl,by decide +kernel,by decide +kernel⟩
theorem yQ {f:Addr}{fd:FuncData}(F:gY K "tops_of_cost" "tops_of_cost" lN f fd)(B:Bl mg)(T:CT K mg z)
  (fC:Cl P w K mg base 1 "top_of_cost" ["tariff", "amount"] um):cA P w K mg base gB 2 f fd ["book", "amount"] Bm:=by
 refine F.ok yP (fun vs H Q E h=>?_) (fun cdv A outer s H vs Q E hr h=>?_)
 ·obtain⟨b,m,ps,x,y,rfl,_⟩:=h
  rfl
 ·obtain⟨b,m,ps,x,y,rfl,hB,qD,hok,hm,am,q⟩:=h
  refine⟨_,(aD (aN (cF (N':=["tariff", "amount"]) (k:=1) (js:=[1]) ⟨rfl,by decide +kernel,by decide +kernel,by rfl,by rfl,rfl⟩ rfl (bM K rfl (pv 0))
      (fun _ _ _ _ _=>(aZ (i:=0) (show (["tariff", "amount"]:List Str).Nodup by decide +kernel) rfl (Or.inl rfl))) (bI (by decide)) (fun _ _ _ _ _=>cD)
      (fun _ _ _ _ _=>(fC.pe hr (aj (pv 0) (aj (pv 1) ao))))))),?_⟩
  obtain⟨vs,hv,ht⟩:=id hB
  have yq:vs.length=ps.length:=ht.len
  refine⟨_,rfl,b,rfl,⟨_,aQ.of hv⟩,bV (K:=K) (a:=b) (xs:=vs) (fun i ys H2=>H=H2∧ys=((costs ps x y).take i).map V.int) ⟨rfl,rfl⟩ (fun i ys H2 hi ⟨e,ey⟩=>⟨by rw[←e];exact aQ.of hv,?_⟩) ?_ ?_⟩
  ·rw[ey,List.length_map,List.length_take,costs,List.length_map]
   exact bQ (by lia)
  ·rintro i v ys H2 hi ⟨rfl,rfl⟩
   obtain⟨p,hp,r,rfl,hr'⟩:=bh ht hi
   have op:=hok p (List.mem_of_getElem? hp)
   refine dg ?_
   refine⟨_,rfl,_,rfl,r,m,p.1,p.2,x,y,rfl,hr',hm,op.1.fit,op.2.fit,am.x0.fit,am.y0.fit,rfl,?_⟩
   have e:(costs ps x y)[i]?=some (cst p x y):=by rw[costs,List.getElem?_map,hp];rfl
   rw[List.take_succ,e,List.map_append]
   rfl
  ·rintro ys H2 ⟨rfl,rfl⟩ D hD
   have agS:(costs ps x y).take vs.length=costs ps x y:=List.take_of_length_le (by rw[costs,List.length_map];lia)
   rw[agS]
   exact q D hD
end
theorem oH {i:Int}(h:i.natAbs<2 ^ 1024):jm i:=h
def jk (p:Int×Int):PyData:=.tuple [.int p.1,.int p.2]
theorem yr:∀ ps:List (Int×Int),PyData.canLayAll0 (ps.map jk)=true
 | []=>rfl
 | p::ps=>by
  rw[List.map_cons,PyData.canLayAll0,yr ps]
  simp[jk,PyData.canLay0,PyData.canLayAll0]
theorem Bo:∀ ps:List (Int×Int),PyData.depthAll (ps.map jk)≤1
 | []=>by simp[PyData.depthAll]
 | p::ps=>by
  rw[List.map_cons,PyData.depthAll]
  have:=Bo ps
  have e:PyData.depth (jk p)=1:=by simp[jk,PyData.depth,PyData.depthAll]
  lia
theorem yt (ps:List (Int×Int)):SeqAt.shaped (.list (ps.map jk))=true:=by
 unfold SeqAt.shaped
 have h:=Bo ps
 rw[Bool.and_eq_true]
 refine⟨by rw[PyData.canLay0];exact yr ps,decide_eq_true ?_⟩
 rw[PyData.depth]
 lia
theorem cu.drs {K:PySem.W.Frag}{H:Hp}:∀ {vs:List V} {ps:List (Int×Int)},cu H vs ps→MP K H vs (ps.map jk)
 | _,_,.nil=>.nil
 | _,_,.cons ⟨r,e,h⟩ t=>by
  subst e
  exact .cons (.tup (cT.of h) (.cons (.int _) (.cons (.int _) .nil))) (cu.drs t)
theorem bH.dr {K:PySem.W.Frag}{H:Hp}{a:Addr}{ps:List (Int×Int)}(h:bH H a ps):Dr K H (.ref a) (.list (ps.map jk)):=by
 obtain⟨vs,h1,h2⟩:=h
 exact .lst (aQ.of h1) h2.drs
theorem Vi (c:Int):∃ z:Int,Ja ([.int 9,.int 60,.int (10 ^ (30:Int).toNat),.int 9]:List V) (c / 7 % 4)=some (.int z)∧0<z∧z≤10 ^ 30:=by
 have h1:=Int.emod_nonneg (c / 7) (show (4:Int)≠0 by decide)
 have h2:=Int.emod_lt_of_pos (c / 7) (show (0:Int)<4 by decide)
 generalize c / 7 % 4=k at h1 h2
 have:k=0∨k=1∨k=2∨k=3:=by lia
 rcases this with rfl|rfl|rfl|rfl
 ·exact⟨9,rfl,by decide,by decide⟩
 ·exact⟨60,rfl,by decide,by decide⟩
 ·exact⟨10 ^ 30,rfl,by decide,by decide⟩
 ·exact⟨9,rfl,by decide,by decide⟩
section
variable{P:Program}{w:World}{K:PySem.W.Frag}{mg:Str→Option Value}{base:Heap}{z:Cz}
inductive R6 (K:PySem.W.Frag)(vs:List V)(H:Hp)(Q:VK):Prop
 | mk (a:Addr) (ns:List Int) (c0:vs=[.ref a]) (c1:aQ K H a (ns.map V.int)) (c2:ns.length≤63) (c3:∀ (r:Addr) (ps:List (Int×Int)) (H':Hp),Same H H'→bH H' r ps→ps≠[]→ps.length≤100→(∀ p∈ps,Wv p)→Q (.ref r) H'):R6 K vs H Q
def R7 (K:PySem.W.Frag):Sp:=fun vs H Q _=>R6 K vs H Q
theorem fP:aY ["_law_script", "_law_code", "_law_size", "_law_rests", "_law_found", "_law_many"] ["_law_script"] (aC rD):=⟨rfl,rfl,rfl,by decide +kernel,rfl,by decide +kernel,by decide +kernel⟩
theorem G9 {f:Addr}{fd:FuncData}(F:gY K "_law_book" "_law_book" rD f fd)(B:Bl mg)(T:CT K mg z):cA P w K mg base gB 1 f fd ["_law_script"] (R7 K):=by
 refine F.ok fP (fun vs H Q E h=>?_) (fun cdv A outer s H vs Q E hr h=>?_)
 ·obtain⟨a,ns,rfl,_⟩:=h
  rfl
 ·obtain⟨a,ns,rfl,hS,hl,q⟩:=h
  refine⟨_,(aB (aW (i:=1) fP.nd rfl (Or.inr rfl) (aK (sumK K rfl rfl) rfl B.sum boot_sum (aj (pv 0) ao)))
     (aB (aW (i:=2) fP.nd rfl (Or.inr rfl) (aH (aG K) (bN (aj aA (aj aA (aj (aF Gn aA aA) (aj aA ao))))) (aF cO (aF bU (pv 1) aA) aA) (fun _ _=>rfl)))
     (aB (pK (N':=["_law_cell", "_law_size"]) (k:=1) (js:=[2]) (i:=3) ⟨rfl,by decide +kernel,by decide +kernel,by rfl,by rfl,rfl⟩ rfl fP.nd rfl rfl (bM K rfl (pv 0))
       (fun _ _ _ _ _=>(aZ (i:=0) (show (["_law_cell", "_law_size"]:List Str).Nodup by decide +kernel) rfl (Or.inl rfl))) (bI (by decide)) (fun _ _ _ _ _=>cD)
       (fun _ _ _ _ _=>(aF dj (aF bU (pv 0) (pv 1)) (aF Gm (aF bU (pv 0) aA) (aF gb aA (aF Gm (aF cO (pv 0) aA) aA))))))
     (aB (pK (N':=["_law_cell", "_law_rest", "_law_size"]) (k:=2) (js:=[2]) (i:=4) ⟨rfl,by decide +kernel,by decide +kernel,by rfl,by rfl,rfl⟩ rfl fP.nd rfl rfl (tE K rfl rfl B.zip (aj (pv 0) (aj (pv 3) ao)))
       (fun _ _ _ _ _=>(gn K (n:=2) rfl rfl (bO (aZ (i:=0) (show (["_law_cell", "_law_rest", "_law_size"]:List Str).Nodup by decide +kernel) rfl (Or.inl rfl)) (bO (aZ (i:=1) (show (["_law_cell", "_law_rest", "_law_size"]:List Str).Nodup by decide +kernel) rfl (Or.inl rfl)) gk)))) (qT (dN (bI (by decide)) (dN (bI (by decide)) mU))) (fun _ _ _ _ _=>cD)
       (fun _ _ _ _ _=>(bN (aj (aF cO (pv 0) (pv 2)) (aj (aF cO (pv 1) (pv 2)) ao)))))
     (aB (bY (bB iM (aF cO (aF bU (pv 1) aA) aA) aA (aU _)) (aB (aW (i:=5) fP.nd rfl (Or.inr rfl) (aF dj aA (aF cO (aF bU (pv 1) aA) aA)))
     (aD (aW (i:=4) fP.nd rfl (Or.inl rfl) (aF (jF K) (pv 4) (cF (N':=["_law_k", "_law_code", "_law_many"]) (k:=1) (js:=[1,5]) ⟨rfl,by decide +kernel,by decide +kernel,by rfl,by rfl,rfl⟩ rfl (wR rfl B.range (aj (pv 5) ao))
       (fun _ _ _ _ _=>(aZ (i:=0) (show (["_law_k", "_law_code", "_law_many"]:List Str).Nodup by decide +kernel) rfl (Or.inl rfl))) (bI (by decide)) (fun _ _ _ _ _=>cD)
       (fun _ _ _ _ _=>(bN (aj (aF dj (aF Gm (aF bU (aF Gm (pv 0) (aF dj (pv 0) aA)) aA) (aF dj aA (aF cO (pv 1) aA))) (aF cO (aF bU (pv 1) aA) aA)) (aj (aF gb (pv 2) (pv 0)) ao))))))))) bw)
     (aD (aN (Je (bB (Wr K rfl hr.units) (pv 4) (bF ao) (aU _)) (pv 4) (bF (aj (bN (aj (aF cO (pv 1) aA) (aj aA ao))) ao)))))))))),?_⟩
  refine⟨_,rfl,a,ns,rfl,hS,?_⟩
  generalize ns.sum=c
  obtain⟨z,hz,hz0,hz1⟩:=Vi c
  have hzf:jm z:=fit_le (10 ^ 30) (by lia) (by decide +kernel)
  refine⟨_,_,rfl,rfl,⟨by decide,by decide,by decide⟩,(by show 4≤sizeLine;decide),fun p0 hp0=>?_⟩
  refine⟨_,rfl,_,_,rfl,rfl,⟨by decide,oH (by decide +kernel)⟩,_,_,rfl,rfl,(by show (0:Int)<4;decide),p0,_,_,_,rfl,rfl,cT.of ak,hz,?_⟩
  have s0:=aq hp0 (.tup [.int 9,.int 60,.int (10 ^ (30:Int).toNat),.int 9])
  generalize upd H p0 (.tup [.int 9,.int 60,.int (10 ^ (30:Int).toNat),.int 9])=H0 at s0 ⊢
  have hS0:=s0.seq hS
  refine⟨_,rfl,a,rfl,⟨_,hS0⟩,bV (K:=K) (a:=a) (xs:=ns.map V.int) (fun i ys H2=>H0=H2∧ys=(ns.take i).map fun t=>V.int (t / z+t / 7*(1-t % 2*2))) ⟨rfl,rfl⟩ (fun i ys H2 hi ⟨e,ey⟩=>⟨by rw[←e];exact hS0,?_⟩) ?_ ?_⟩
  ·rw[ey,List.length_map,List.length_take]
   exact bQ (by lia)
  ·rintro i v ys H2 hi ⟨rfl,rfl⟩
   obtain⟨t,ht,rfl⟩:∃ t,ns[i]?=some t∧v=V.int t:=by
    rw[List.getElem?_map] at hi
    cases e:ns[i]? with
    | none=>rw[e] at hi;cases hi
    | some t=>rw[e] at hi;exact⟨t,rfl,(Option.some.inj hi).symm⟩
   have h1:=Int.emod_nonneg t (show (2:Int)≠0 by decide)
   have h2:=Int.emod_lt_of_pos t (show (0:Int)<2 by decide)
   refine dg ?_
   refine⟨_,rfl,_,rfl,_,_,rfl,rfl,⟨hz0,hzf⟩,_,rfl,_,_,rfl,rfl,⟨by decide,oH (by decide +kernel)⟩,_,rfl,_,_,rfl,rfl,(by show (0:Int)<2;decide),_,_,rfl,rfl,.inr ⟨by decide,by decide⟩,_,_,rfl,rfl,_,_,rfl,rfl,.inr ⟨?_,?_⟩,_,_,rfl,rfl,rfl,?_⟩
   ·lia
   ·lia
   ·rw[vU _ ns i t ht]
  ·rintro ys H2 ⟨rfl,rfl⟩ D hD
   rw[List.length_map,List.take_length]
   have s1:=aq hD (.lst (ns.map fun t=>V.int (t / z+t / 7*(1-t % 2*2))))
   generalize eR:(ns.map fun t=>V.int (t / z+t / 7*(1-t % 2*2)))=rs at s1 ⊢
   have hD1:(upd H0 D (.lst rs)) D=some (.lst rs):=ak
   generalize upd H0 D (.lst rs)=H1 at s1 hD1 ⊢
   have hS1:=s1.seq hS0
   refine⟨_,rfl,_,rfl,a,D,rfl,⟨_,hS1⟩,⟨_,aQ.of hD1⟩,vJ (K:=K) (a:=a) (b:=D) (xs:=ns.map V.int) (ys:=rs) (by rw[←eR,List.length_map,List.length_map])
    (fun i zs H2=>Same H1 H2∧∃ ps,cu H2 zs ps∧ps.length=i∧∀ p∈ps,Wv p) ⟨Same.refl _,[],.nil,rfl,by simp⟩ (fun i zs H2 hi ⟨e,ps,h1,h2,_⟩=>⟨e.seq hS1,e.seq (aQ.of hD1),?_⟩) ?_ ?_⟩
   ·rw[h1.len,h2]
    rw[List.length_map] at hi
    exact bQ (by lia)
   ·rintro i v v' zs H2 p hi hi' ⟨s2,ps,h1,h2,h3⟩ hp
    obtain⟨t,ht,rfl⟩:∃ t,ns[i]?=some t∧v=V.int t:=by
     rw[List.getElem?_map] at hi
     cases e:ns[i]? with
     | none=>rw[e] at hi;cases hi
     | some t=>rw[e] at hi;exact⟨t,rfl,(Option.some.inj hi).symm⟩
    obtain⟨t',rfl⟩:∃ t',v'=V.int t':=by
     rw[←eR,List.getElem?_map] at hi'
     cases e:ns[i]? with
     | none=>rw[e] at hi';cases hi'
     | some t=>rw[e] at hi';exact⟨_,(Option.some.inj hi').symm⟩
    refine⟨p,_,rfl,cT.of ak,rfl,_,_,rfl,_,_,rfl,rfl,Rf ?_⟩
    refine⟨_,rfl,_,rfl,_,_,rfl,rfl,hz0,_,rfl,_,rfl,_,_,rfl,rfl,hz0,cI,fun r hr'=>?_⟩
    have s3:=(aq hp (.tup [.int t,.int t'])).trans (aq hr' (.tup [.int (t % z),.int (t' % z)]))
    refine⟨s2.trans s3,ps++[(t % z,t' % z)],dW (h1.same s3) (.cons ⟨r,rfl,ak⟩ .nil),by simp[h2],fun x hx=>?_⟩
    rcases List.mem_append.mp hx with hx|hx
    ·exact h3 x hx
    ·have e:x=(t % z,t' % z):=by simpa using hx
     subst e
     have a1:=Int.emod_nonneg t (show z≠0 by lia)
     have a2:=Int.emod_lt_of_pos t hz0
     have a3:=Int.emod_nonneg t' (show z≠0 by lia)
     have a4:=Int.emod_lt_of_pos t' hz0
     exact⟨⟨a1,by show t % z≤10 ^ 40;lia⟩,⟨a3,by show t' % z≤10 ^ 40;lia⟩⟩
   ·rintro zs H2 ⟨s2,ps,h1,h2,h3⟩ D2 hD2
    rw[List.length_map] at h2
    have s3:=aq hD2 (.lst zs)
    have hB:bH (upd H2 D2 (.lst zs)) D2 ps:=⟨zs,ak,h1.same s3⟩
    have sA:Same H (upd H2 D2 (.lst zs)):=((s0.trans s1).trans s2).trans s3
    generalize upd H2 D2 (.lst zs)=H3 at hB sA ⊢
    clear s3 h1 hD2
    refine⟨_,rfl,_,_,rfl,rfl,⟨by decide,oH (by decide +kernel)⟩,_,_,rfl,rfl,(by show (0:Int)<11;decide),rfl,_,rfl,?_⟩
    refine Q6 (fun _=>?_) (fun _=>?_)
    ·have m1:=Int.emod_nonneg (c / 44) (show (24:Int)≠0 by decide)
     have m2:=Int.emod_lt_of_pos (c / 44) (show (0:Int)<24 by decide)
     refine⟨_,rfl,_,_,rfl,rfl,⟨by decide,oH (by decide +kernel)⟩,_,_,rfl,rfl,(by show (0:Int)<24;decide),_,_,rfl,rfl,?_⟩
     show yg 5 (V.int (1+c / 44 % 24)) _ _ _
     generalize hM:1+c / 44 % 24=M
     have hM1:1≤M:=by lia
     have hM2:M≤24:=by lia
     refine⟨_,rfl,_,rfl,M,rfl,by lia,by lia,Ah (lo:=0) (n:=M.toNat) (fun i zs' H4=>Same H3 H4∧∃ ps',cu H4 zs' ps'∧ps'.length=i∧∀ p∈ps',Wv p) ⟨Same.refl _,[],.nil,rfl,by simp⟩ (fun i zs' H4 hi ⟨_,ps',h1,h2,_⟩=>?_) ?_ ?_⟩
     ·rw[h1.len,h2]
      exact bQ (by lia)
     ·rintro i zs' H4 hi ⟨s4,ps',h1,h2',h3'⟩
      have k1:=Int.emod_nonneg c (show (5:Int)≠0 by decide)
      have k2:=Int.emod_lt_of_pos c (show (0:Int)<5 by decide)
      have k3:=Int.emod_nonneg (c / 7) (show (9:Int)≠0 by decide)
      have k4:=Int.emod_lt_of_pos (c / 7) (show (0:Int)<9 by decide)
      have hi0:(0:Int)≤0+(i:Int):=by lia
      have hi1:0+(i:Int)<24:=by lia
      have b7:0+(i:Int)≤M:=by lia
      generalize 0+(i:Int)=t at hi0 hi1 b7
      have b1:0≤t*(t+1):=Int.mul_nonneg hi0 (by lia)
      have b2:t*(t+1)≤24*25:=Int.mul_le_mul (by lia) (by lia) (by lia) (by lia)
      have b3:0≤t*(t+1) / 2:=by lia
      have b4:t*(t+1) / 2≤300:=by lia
      have b5:0≤t*(t+1) / 2*(1+c % 5):=Int.mul_nonneg b3 (by lia)
      have b6:t*(t+1) / 2*(1+c % 5)≤300*5:=Int.mul_le_mul b4 (by lia) (by lia) (by lia)
      refine dg ?_
      refine⟨_,rfl,_,rfl,_,_,rfl,rfl,_,_,rfl,rfl,.inl ⟨by lia,by lia⟩,_,_,rfl,rfl,⟨by decide,oH (by decide +kernel)⟩,_,rfl,_,_,rfl,rfl,(by show (0:Int)<5;decide),_,_,rfl,rfl,_,_,rfl,rfl,.inl ⟨by lia,by lia⟩,_,rfl,_,_,rfl,rfl,⟨by decide,oH (by decide +kernel)⟩,_,_,rfl,rfl,(by show (0:Int)<9;decide),_,_,rfl,rfl,
       _,rfl,_,rfl,_,_,rfl,rfl,cI,fun r hr'=>?_⟩
      have s5:=aq hr' (.tup [.int (t*(t+1) / 2*(1+c % 5)+c / 7 % 9),.int (M-t)])
      refine⟨s4.trans s5,ps'++[(t*(t+1) / 2*(1+c % 5)+c / 7 % 9,M-t)],dW (h1.same s5) (.cons ⟨r,rfl,ak⟩ .nil),by simp[h2'],fun x hx=>?_⟩
      rcases List.mem_append.mp hx with hx|hx
      ·exact h3' x hx
      ·have e:x=(t*(t+1) / 2*(1+c % 5)+c / 7 % 9,M-t):=by simpa using hx
       subst e
       exact⟨⟨by show 0≤t*(t+1) / 2*(1+c % 5)+c / 7 % 9;lia,by show t*(t+1) / 2*(1+c % 5)+c / 7 % 9≤10 ^ 40;lia⟩,⟨by show 0≤M-t;lia,by show M-t≤10 ^ 40;lia⟩⟩
     ·rintro zs' H4 ⟨s4,ps',h1,h2',h3'⟩ D3 hD3
      have s5:=aq hD3 (.lst zs')
      obtain⟨ws,w1,w2⟩:=hB
      have w1':=s5 _ _ (s4 _ _ w1)
      have lw:=w2.len
      have lz:=h1.len
      refine⟨D2,D3,ws,zs',rfl,rfl,aQ.of w1',aQ.of ak,small (by lia),fun r hr'=>?_⟩
      have s6:=aq hr' (.lst (ws++zs'))
      have s36:=(s4.trans s5).trans s6
      have hT:cu (upd (upd H4 D3 (.lst zs')) r (.lst (ws++zs'))) (ws++zs') (ps++ps'):=dW (w2.same s36) (h1.same (s5.trans s6))
      have hBr:bH (upd (upd H4 D3 (.lst zs')) r (.lst (ws++zs'))) r (ps++ps'):=⟨_,ak,hT⟩
      have sF:=sA.trans s36
      generalize upd (upd H4 D3 (.lst zs')) r (.lst (ws++zs'))=H5 at hBr sF ⊢
      refine⟨_,rfl,(by show 0≤sizeLine;decide),fun e0 he0=>?_⟩
      have s7:=aq he0 (.lst [])
      refine⟨_,_,(hBr.same s7).dr,.lst (aQ.of ak) .nil,yt _,rfl,_,rfl,?_⟩
      have ne:(ps++ps').map jk≠[]:=fun z=>by
       have h9:((ps++ps').map jk).length=0:=by rw[z];rfl
       rw[List.length_map,List.length_append] at h9
       lia
      have ev:PyData.eqv (.list ((ps++ps').map jk)) (.list [])=false:=by
       rw[PyData.eqv]
       cases e:(ps++ps').map jk with
       | nil=>exact absurd e ne
       | cons _ _=>rfl
      rw[ev]
      refine fH ?_
      refine⟨_,rfl,q r (ps++ps') _ (sF.trans s7) (hBr.same s7) (fun z=>ne (by rw[z];rfl)) (by rw[List.length_append];lia) fun x hx=>?_⟩
      rcases List.mem_append.mp hx with hx|hx
      ·exact h3 x hx
      ·exact h3' x hx
    ·refine⟨_,rfl,(by show 0≤sizeLine;decide),fun e0 he0=>?_⟩
     have s7:=aq he0 (.lst [])
     refine⟨_,_,(hB.same s7).dr,.lst (aQ.of ak) .nil,yt _,rfl,_,rfl,?_⟩
     cases ps with
     | nil =>
      refine dz ?_
      have k1:=Int.emod_nonneg c (show (5:Int)≠0 by decide)
      have k2:=Int.emod_lt_of_pos c (show (0:Int)<5 by decide)
      refine⟨_,rfl,_,_,rfl,rfl,(by show (0:Int)<5;decide),cI,fun t ht=>⟨(by show 1≤sizeLine;decide),fun r hr'=>?_⟩⟩
      have s8:=aq ht (.tup [.int (c % 5),.int 3])
      have s9:=aq hr' (.lst [.ref t])
      refine q r [(c % 5,3)] _ (((sA.trans s7).trans s8).trans s9) ⟨_,ak,.cons ⟨t,rfl,s9 _ _ ak⟩ .nil⟩ (by simp) (by simp) fun x hx=>?_
      have e:x=(c % 5,3):=by simpa using hx
      subst e
      exact⟨⟨k1,by show c % 5≤10 ^ 40;lia⟩,⟨by show (0:Int)≤3;decide,by show (3:Int)≤10 ^ 40;decide⟩⟩
     | cons p ps =>
      refine fH ?_
      exact⟨_,rfl,q D2 (p::ps) _ (sA.trans s7) (hB.same s7) (by simp) (by rw[h2];lia) h3⟩
theorem lZ:aY ["_law_above", "_law_below", "_law_one", "_law_other"] ["_law_above", "_law_below"] (aC oE):=⟨rfl,rfl,rfl,by decide +kernel,rfl,by decide +kernel,by decide +kernel⟩
theorem Bp {f:Addr}{fd:FuncData}(F:gY K "_law_lowest" "_law_lowest" oE f fd)(B:Bl mg)(T:CT K mg z):cA P w K mg base gB 1 f fd ["_law_above", "_law_below"] JL:=by
 refine F.ok lZ (fun vs H Q E h=>?_) (fun cdv A outer s H vs Q E hr h=>?_)
 ·obtain⟨a,b,rfl,_⟩:=h
  rfl
 ·obtain⟨a,b,rfl,ha,hb,fb,q⟩:=h
  refine⟨_,(aB (z6 (i:=2) (j:=3) rfl lZ.nd rfl rfl (by decide) rfl rfl (aj (pv 0) (aj (pv 1) ao)) (by rfl))
     (aB (vG PassesOwn.never (bB iQ (pv 3) aA (aU _)) (aD (z6 (i:=2) (j:=3) rfl lZ.nd rfl rfl (by decide) rfl rfl (aj (pv 3) (aj (aF cO (pv 2) (pv 3)) ao)) (by rfl))))
     (aD (aN (bN (aj (aF bU (pv 0) (pv 2)) (aj (aF bU (pv 1) (pv 2)) ao))))))),?_⟩
  refine⟨_,rfl,_,rfl,_,_,rfl,?_⟩
  refine Jf (fun σ H1=>H1=H∧∃ x y,σ=[some (.int a),some (.int b),some (.int x),some (.int y)]∧0≤x∧0≤y∧Int.gcd x y=Int.gcd a b)
   (fun σ _=>match σ with | [_,_,_,some (.int y)]=>y.toNat|_=>0) ⟨rfl,a,b,rfl,ha,Int.le_of_lt hb,rfl⟩ ?_ ?_
  ·rintro σ H1 ⟨rfl,x,y,rfl,hx,hy,hg⟩
   refine⟨_,rfl,_,_,rfl,rfl,_,rfl,?_⟩
   refine Q6 (fun c=>?_) (fun c=>?_)
   ·have c':(0:Int)<y:=of_decide_eq_true c
    refine⟨_,rfl,_,rfl,_,rfl,_,_,rfl,rfl,c',_,_,rfl,⟨rfl,y,x % y,rfl,hy,Int.emod_nonneg _ (by lia),?_⟩,?_⟩
    ·rw[Jy hx c',hg]
    ·show (x % y).toNat<y.toNat
     have:=Int.emod_lt_of_pos x c'
     lia
   ·have c':¬ (0:Int)<y:=of_decide_eq_false (Bool.eq_false_iff.mpr c)
    have hy0:y=0:=by lia
    subst hy0
    rw[Int.gcd_zero_right] at hg
    have e:x=((Int.gcd a b:Nat):Int):=by lia
    subst e
    have gp:=lH (a:=a) hb
    have gf:=Ng (a:=a) hb fb
    exact⟨_,rfl,_,rfl,_,_,rfl,rfl,⟨gp,gf⟩,_,rfl,_,rfl,_,_,rfl,rfl,⟨gp,gf⟩,cI,q⟩
  ·rintro σ H1 Q1 Q2 hq ⟨v,e,i,j,e1,e2,c,e3,q⟩
   exact⟨v,e,i,j,e1,e2,c,e3,hq _ _ q⟩
inductive aeE (vs:List V)(H:Hp)(Q:VK):Prop
 | mk (c:_) (c0:vs=[.int c]) (c1:∀ x y p,tO x y→x≤10 ^ 40∧y≤10 ^ 40→H p=none→Q (.ref p) (upd H p (.tup [.int x,.int y]))):aeE  vs H Q
def aeF:Sp:=fun vs H Q _=>aeE  vs H Q
theorem Bq:aY ["_law_cell"] ["_law_cell"] (aC oF):=⟨rfl,rfl,rfl,by decide +kernel,rfl,by decide +kernel,by decide +kernel⟩
theorem Br {f:Addr}{fd:FuncData}(F:gY K "_law_amount" "_law_amount" oF f fd)(B:Bl mg)(T:CT K mg z)
  (uo:Cl P w K mg base 1 "_law_lowest" ["_law_above", "_law_below"] JL):cA P w K mg base gB 2 f fd ["_law_cell"] aeF:=by
 refine F.ok Bq (fun vs H Q E h=>?_) (fun cdv A outer s H vs Q E hr h=>?_)
 ·obtain⟨c,rfl,_⟩:=h
  rfl
 ·obtain⟨c,rfl,q⟩:=h
  refine⟨_,(aB (bY (bB iM (aF cO (pv 0) aA) aA (aU _)) (aD (aN (uo.pe hr (aj (aF cO (aF bU (pv 0) aA) aA) (aj (aF dj aA (aF cO (aF bU (pv 0) aA) aA)) ao))))) bw)
     (aD (aN (uo.pe hr (aj (aF cO (aF bU (pv 0) aA) (aF Gn aA aA)) (aj (aF dj aA (aF cO (aF dj (aF bU (aF bU (pv 0) aA) (aF Gn aA aA)) (aF bU (pv 0) aA)) (aF Gn aA aA))) ao)))))),?_⟩
  refine⟨_,rfl,_,_,rfl,rfl,(by show (0:Int)<3;decide),rfl,_,rfl,?_⟩
  refine Q6 (fun _=>?_) (fun _=>?_)
  ·refine⟨_,rfl,_,_,rfl,rfl,⟨by decide,oH (by decide +kernel)⟩,_,_,rfl,rfl,(by show (0:Int)<40;decide),?_⟩
   refine⟨_,rfl,_,_,rfl,rfl,⟨by decide,oH (by decide +kernel)⟩,_,_,rfl,rfl,(by show (0:Int)<9;decide),_,_,rfl,rfl,?_⟩
   have h1:=Int.emod_nonneg (c / 3) (show (40:Int)≠0 by decide)
   have h2:=Int.emod_lt_of_pos (c / 3) (show (0:Int)<40 by decide)
   have h3:=Int.emod_nonneg (c / 120) (show (9:Int)≠0 by decide)
   have h4:=Int.emod_lt_of_pos (c / 120) (show (0:Int)<9 by decide)
   have o1:Df (c / 3 % 40):=⟨h1,by lia⟩
   have o2:Df (1+c / 120 % 9):=⟨by lia,by lia⟩
   exact⟨_,_,rfl,h1,by lia,o2.fit,fun p hp=>q _ _ p (vP o1 o2 (by lia)) ⟨by have:=GX (b:=1+c / 120 % 9) h1 (by lia);lia,by have:=GZ (a:=c / 3 % 40) (b:=1+c / 120 % 9) (by lia);lia⟩ hp⟩
  ·have hp0:((10:Int) ^ (30:Int).toNat)=10 ^ 30:=rfl
   refine⟨_,rfl,_,_,rfl,rfl,⟨by decide,oH (by decide +kernel)⟩,_,_,rfl,rfl,⟨by decide,by decide,by decide⟩,_,_,rfl,rfl,(by show (0:Int)<10 ^ 30;decide),?_⟩
   refine⟨_,rfl,_,_,rfl,rfl,⟨by decide,oH (by decide +kernel)⟩,_,_,rfl,rfl,⟨by decide,by decide,by decide⟩,_,_,rfl,rfl,⟨(by show (0:Int)<10 ^ 30;decide),fit_le (10 ^ 30) (by decide) (by decide +kernel)⟩,?_⟩
   refine⟨_,rfl,_,_,rfl,rfl,⟨by decide,oH (by decide +kernel)⟩,_,_,rfl,rfl,_,_,rfl,rfl,⟨by decide,by decide,by decide⟩,_,_,rfl,rfl,(by show (0:Int)<10 ^ 30;decide),_,_,rfl,rfl,?_⟩
   generalize c / 3 / (10:Int) ^ (30:Int).toNat+c / 7=z
   have h1:=Int.emod_nonneg (c / 3) (show (10 ^ 30:Int)≠0 by decide)
   have h2:=Int.emod_lt_of_pos (c / 3) (show (0:Int)<10 ^ 30 by decide)
   have h3:=Int.emod_nonneg z (show (10 ^ 30:Int)≠0 by decide)
   have h4:=Int.emod_lt_of_pos z (show (0:Int)<10 ^ 30 by decide)
   have o1:Df (c / 3 % 10 ^ 30):=⟨h1,by lia⟩
   have o2:Df (1+z % 10 ^ 30):=⟨by lia,by lia⟩
   exact⟨_,_,rfl,h1,by show (0:Int)<1+z % 10 ^ 30;lia,o2.fit,fun p hp=>q _ _ p (vP o1 o2 (by lia)) ⟨by have:=GX (b:=1+z % 10 ^ 30) h1 (by lia);show j8 (c / 3 % 10 ^ 30) (1+z % 10 ^ 30)≤10 ^ 40;lia,by have:=GZ (a:=c / 3 % 10 ^ 30) (b:=1+z % 10 ^ 30) (by lia);show j9 (c / 3 % 10 ^ 30) (1+z % 10 ^ 30)≤10 ^ 40;lia⟩ hp⟩
theorem Hf:aY ["_law_tariff", "_law_amount_here"] ["_law_tariff", "_law_amount_here"] (aC rF):=⟨rfl,rfl,rfl,by decide +kernel,rfl,by decide +kernel,by decide +kernel⟩
theorem Hg {f:Addr}{fd:FuncData}(F:gY K "_law_cost" "_law_cost" rF f fd)(B:Bl mg)(T:CT K mg z):cA P w K mg base gB 1 f fd ["_law_tariff", "_law_amount_here"] um:=by
 refine F.ok Hf (fun vs H Q E h=>?_) (fun cdv A outer s H vs Q E hr h=>?_)
 ·obtain⟨t,m,a,b,x,y,rfl,_⟩:=h
  rfl
 ·obtain⟨t,m,a,b,x,y,rfl,ht,hm,fa,fb,fx,fy,q⟩:=h
  refine⟨_,(aD (aN (aF dj (aF dR (aH (aG K) (pv 0) aA (fun _ _=>rfl)) (aH (aG K) (pv 1) aA (fun _ _=>rfl))) (aF dR (aH (aG K) (pv 0) aA (fun _ _=>rfl)) (aH (aG K) (pv 1) aA (fun _ _=>rfl)))))),?_⟩
  refine⟨_,rfl,t,_,0,_,rfl,rfl,cT.of ht,rfl,_,rfl,m,_,1,_,rfl,rfl,cT.of hm,rfl,_,_,rfl,rfl,⟨fa,fy⟩,?_⟩
  refine⟨_,rfl,t,_,1,_,rfl,rfl,cT.of ht,rfl,_,rfl,m,_,0,_,rfl,rfl,cT.of hm,rfl,_,_,rfl,rfl,⟨fb,fx⟩,?_⟩
  exact⟨_,_,rfl,rfl,q⟩
end
def XS:Pos:=⟨155,30,155,83⟩
def agV:Str:=("by_falling_piece" : Str) ++ ".<locals>." ++ "<lambda>"
def Tab (H:Hp):Prop:=TabOk oZ XS agV H
def nT:HO→Bool
 | .IW _=>false
 | _=>true
def fM (H H':Hp):Prop:=Tab H'∧∀ c o,H c=some o→nT o=true→H' c=some o
theorem fM.trans {H H1 H2:Hp}(a:fM H H1)(b:fM H1 H2):fM H H2:=⟨b.1,fun c o e n=>b.2 c o (a.2 c o e n) n⟩
theorem fM.then {H H1 H2:Hp}(a:fM H H1)(b:Same H1 H2):fM H H2:=⟨a.1.same b,fun c o e n=>b c o (a.2 c o e n)⟩
theorem _root_.L2.Same.t {H H':Hp}(a:Same H H')(t:Tab H):fM H H':=⟨TabOk.same t a,fun c o e _=>a c o e⟩
theorem fM.of {H H':Hp}(t:Tab H)(a:M7 oZ H H')(t':Tab H'):fM H H':=⟨t',fun c o e n=>a c o (TabOk.ne t e fun ps z=>by rw[z] at n;cases n) e⟩
theorem cu.qF {H H':Hp}{vs:List V}{ps:List (Int×Int)}(t:cu H vs ps)(e:fM H H'):cu H' vs ps:=Paired.Jc t fun v p ⟨r,h1,h2⟩=>⟨r,h1,e.2 _ _ h2 rfl⟩
theorem bH.qF {H H':Hp}{a:Addr}{ps:List (Int×Int)}(t:bH H a ps)(e:fM H H'):bH H' a ps:=let ⟨vs,h1,h2⟩:=t;⟨vs,e.2 _ _ h1 rfl,h2.qF e⟩
def PX (ps:List (Int×Int))(n:Int):Int×Int×Int:=((ps.getD n.toNat (0,0)).2,(ps.getD n.toNat (0,0)).1,n)
def Falling (ps:List (Int×Int))(ns:List Int):Prop:=ns.Pairwise fun x y=>Lj.lex (PX ps x) (PX ps y)=false
theorem bD {ps:List (Int×Int)}{k:Int}(h0:0≤k)(h1:k<(ps.length:Int)):ps[k.toNat]?=some (ps.getD k.toNat (0,0)):=by
 have h:k.toNat<ps.length:=by omega
 rw[List.getD_eq_getElem?_getD,List.getElem?_eq_getElem h]
 rfl
theorem Bs:3≤sizeLine:=by decide
section
variable{P:Program}{w:World}{K:PySem.W.Frag}{mg:Str→Option Value}{base:Heap}{z:Cz}
inductive R8 (vs:List V)(H:Hp)(Q:VK):Prop
 | mk (b a:Addr) (ps:List (Int×Int)) (ns:List Int) (c0:vs=[.ref b,.ref a]) (c1:bH H b ps) (c2:H a=some (.lst (ns.map V.int))) (c3:ns.length≤1000) (c4:(∀ n∈ns,0≤n∧n<(ps.length:Int))) (c5:Tab H) (c6:∀ (D:Addr) (H':Hp) (ns':List Int),fM H H'→H' D=some (.lst (ns'.map V.int))→H D=none→ns'.Perm ns→Falling ps ns'→Q (.ref D) H'):R8  vs H Q
def R9:Sp:=fun vs H Q _=>R8  vs H Q
theorem tQ:aY ["book", "places"] ["book", "places"] (aC iH):=⟨rfl,rfl,rfl,by decide +kernel,rfl,by decide +kernel,by decide +kernel⟩
theorem tR {f:Addr}{fd:FuncData}(F:gY K "by_falling_piece" "by_falling_piece" iH f fd)(B:Bl mg)(T:CT K mg z)(lam:Jv K mg fd.code oZ):cA P w K mg base gB 1 f fd ["book", "places"] R9:=by
 refine F.okc tQ (fun vs H Q E h=>?_) (fun cdv A outer s H vs Q E hc hr h=>?_)
 ·obtain⟨b,a,ps,ns,rfl,_⟩:=h
  rfl
 ·obtain⟨b,a,ps,ns,rfl,hB,hl,hn,hok,hT,q⟩:=h
  subst hc
  obtain⟨vs,hv,ht⟩:=id hB
  refine⟨_,(aD (aN (Ry (x := "place") (y := "book") (j:=0) lam hr rfl B.sorted boot_sorted (aj (pv 1) ao) rfl rfl rfl rfl rfl rfl rfl rfl rfl (by decide) (fun _ _ _ _=>rfl)
   (fun _ _ _ _ _ _=>bN (aj (aH (aG K) (aH (aP K) (pv 1) (pv 0) (fun _ _=>rfl)) aA (fun _ _=>rfl)) (aj (aH (aG K) (aH (aP K) (pv 1) (pv 0) (fun _ _=>rfl)) aA (fun _ _=>rfl)) (aj (pv 0) ao))))))),?_⟩
  refine⟨_,rfl,a,ns,_,PX ps,rfl,hl,hn,rfl,hT,fun n hns H' sb=>?_,fun D H' ns' sb hT' hD Rz hp ho=>q D H' ns' (fM.of hT sb hT') hD Rz hp ho⟩
  obtain⟨n0,n1⟩:=hok n hns
  have hp:=bD n0 n1
  obtain⟨u,hu,rt,rfl,FP⟩:=bx ht hp
  have hv':=sb _ _ (hT.ne hv fun _ z=>by cases z) hv
  have aeG:=sb _ _ (hT.ne FP fun _ z=>by cases z) FP
  exact⟨_,rfl,_,rfl,b,vs,n,_,rfl,rfl,aQ.of hv',cG n0 hu,rt,_,1,_,rfl,rfl,cT.of aeG,rfl,_,rfl,_,rfl,b,vs,n,_,rfl,rfl,aQ.of hv',cG n0 hu,rt,_,0,_,rfl,rfl,cT.of aeG,rfl,_,rfl,Bs,fun p hp=>⟨p,rfl,hp,rfl⟩⟩
end
abbrev tar (ps:List (Int×Int))(n:Int):Int×Int:=ps.getD n.toNat (0,0)
abbrev Y5 (e:E):Int×Int:=(e.x,e.y)
abbrev ek (e:E):V:=V.int e.k
theorem mj {α:Type}(xs:List α)(v:α):Ja (xs++[v]) (-1)=some v:=by
 unfold Ja
 have e:QW (xs++[v]).length (-1)=some xs.length:=by
  unfold QW
  rw[if_neg (by decide),if_pos (by rw[List.length_append];show -((xs.length+1:Nat):Int)≤-1;lia)]
  congr 1
  rw[List.length_append]
  show (-1+((xs.length+1:Nat):Int)).toNat=xs.length
  lia
 rw[e]
 show (xs++[v])[xs.length]?=some v
 simp
theorem FQ {H:Hp}{p:Int×Int}:∀ {l:List (Int×Int)} {vs:List V},cu H vs (l++[p])→∃ Ni r,vs=Ni++[V.ref r]∧cu H Ni l∧H r=some (.tup [.int p.1,.int p.2])
 | [],_,.cons ⟨r,h1,h2⟩ .nil=>⟨[],r,by rw[h1];rfl,.nil,h2⟩
 | _::l,_,.cons x t=>by
  obtain⟨Ni,r,rfl,h1,h2⟩:=FQ (l:=l) t
  exact⟨_::Ni,r,rfl,.cons x h1,h2⟩
theorem vW {H:Hp}{a:Addr}{xs:List V}{o:HO}{vs:List V}{ps:List (Int×Int)}(t:cu H vs ps)(h:H a=some (.lst xs)):cu (upd H a o) vs ps :=
 Paired.Jc t fun v p ⟨r,h1,h2⟩=>⟨r,h1,by rw[aJ (Zo h2 h (fun z=>by cases z))];exact h2⟩
def P0 (H:Hp)(bA kA:Addr)(st:List E):Prop:=∃ vs,H bA=some (.lst vs)∧cu H vs (st.reverse.map Y5)∧H kA=some (.lst (st.reverse.map ek))
theorem Bt {H:Hp}{bA kA:Addr}{e:E}{r:List E}(h:P0 H bA kA (e::r)):∃ Ni rE,H bA=some (.lst (Ni++[.ref rE]))∧cu H Ni (r.reverse.map Y5)∧H rE=some (.tup [.int e.x,.int e.y])∧H kA=some (.lst (r.reverse.map ek++[.int e.k])):=by
 obtain⟨vs,h1,h2,h3⟩:=h
 rw[List.reverse_cons,List.map_append] at h2 h3
 obtain⟨Ni,rE,rfl,h4,h5⟩:=FQ h2
 exact⟨Ni,rE,h1,h4,h5,h3⟩
theorem Nj {H:Hp}{bA kA pb:Addr}{st:List E}{us:List V}{e:E}(n:bA≠kA)(b1:H bA=some (.lst us))(b2:cu H us (st.reverse.map Y5))(b3:H kA=some (.lst (st.reverse.map ek)))(hp:H pb=some (.tup [.int e.x,.int e.y])):
  P0 (upd (upd H bA (.lst (us++[.ref pb]))) kA (.lst (st.reverse.map ek++[.int e.k]))) bA kA (e::st):=by
 have c5:(upd H bA (.lst (us++[.ref pb]))) kA=some (.lst (st.reverse.map ek)):=by rw[aJ n.symm];exact b3
 refine⟨us++[.ref pb],by rw[aJ n,ak],?_,?_⟩
 ·rw[List.reverse_cons,List.map_append]
  refine vW (vW (dW b2 (.cons ⟨pb,rfl,hp⟩ .nil)) b1) c5
 ·rw[List.reverse_cons,List.map_append,ak]
  rfl
theorem Env.small {S:List (Int×Int)}(ok:∀ p∈S,mO p):∀ {st:List E},Env S st→∀ e∈st,e.x≤10 ^ 60∧e.y≤10 ^ 60
 | _,.nil _,e,he=>by cases he
 | _,.one k t h m,e,he=>by
  have:e=⟨k,t,0,1⟩:=by simpa using he
  subst this
  exact⟨show (0:Int)≤10 ^ 60 by decide,show (1:Int)≤10 ^ 60 by decide⟩
 | _,.cons k t f r h hy hx le m,e,he=>by
  rcases List.mem_cons.mp he with rfl|he
  ·have o1:=ok t m
   have o2:=ok f.t (h.least f List.mem_cons_self).1
   obtain⟨⟨a1,a2⟩,⟨a3,a4⟩⟩:=o1
   obtain⟨⟨b1,b2⟩,⟨b3,b4⟩⟩:=o2
   exact⟨by show t.1-f.t.1≤10 ^ 60;lia,by show f.t.2-t.2≤10 ^ 60;lia⟩
  ·exact Env.small ok h e he
theorem dO {c:Bool}{A B:Prop}(h:c=true)(a:A):if c=true then A else B:=by rw[if_pos h];exact a
theorem dX {c:Bool}{A B:Prop}(h:c=false)(b:B):if c=true then A else B:=by rw[if_neg (by rw[h];exact Bool.false_ne_true)];exact b
theorem X3 {c:TT}{σ:L2.St}{H:Hp}{R:Bool→Hp→Prop}(v:Bool)(H':Hp)(hc:∀ R':Bool→Hp→Prop,R' v H'→c σ H R')(h:R v H'):c σ H R:=hc R h
def X4 (t:Int×Int):List E→Bool
 | []=>false
 | e::_=>decide (cst t e.x e.y≤cst e.t e.x e.y)
theorem Vj {t:Int×Int}:∀ {st:List E},¬ X4 t st=true→pops t st=st
 | [],_=>rfl
 | e::r,h=>by
  unfold pops
  rw[if_neg (fun z=>h (decide_eq_true z))]
theorem Sd {t:Int×Int}:∀ {st:List E},X4 t st=true→∃ e r,st=e::r∧pops t st=pops t r
 | [],h=>by cases h
 | e::r,h=>⟨e,r,rfl,by
  show (if cst t e.x e.y≤cst e.t e.x e.y then pops t r else e::r)=_
  rw[if_pos (of_decide_eq_true h)]⟩
structure Vk (ps:List (Int×Int))(ns:List Int)(i:Nat)(st:List E):Prop where
 env:Env ((ns.take i).map (tar ps)) st
 mem:∀ e∈st,e.k∈ns.take i∧e.t=tar ps e.k
 last:∀ e r,st=e::r→∀ p∈(ns.take i).map (tar ps),e.t.2≤p.2
 len:st.length≤i
 ne:0<i→st≠[]
theorem Vl {ps:List (Int×Int)}{x y:Int}(h:Lj.lex (PX ps x) (PX ps y)=false):(tar ps y).2≤(tar ps x).2∧((tar ps y).2=(tar ps x).2→(tar ps y).1≤(tar ps x).1):=by
 have h:=Lj.tG.mp h
 unfold PX at h
 unfold tar
 dsimp only at h
 lia
theorem JM {t:Int×Int}:∀ {st:List E} {e:E},e∈pops t st→e∈st
 | [],e,h=>h
 | f::r,e,h=>by
  unfold pops at h
  split at h
  ·exact List.mem_cons_of_mem _ (JM h)
  ·exact h
theorem Bu {t:Int×Int}:∀ {st:List E},(pops t st).length≤st.length
 | []=>Nat.le_refl _
 | f::r=>by
  unfold pops
  split
  ·exact Nat.le_succ_of_le Bu
  ·exact Nat.le_refl _
theorem Vk.push {ps:List (Int×Int)}{ns:List Int}{i:Nat}{st:List E}{n:Int}(h:Vk ps ns i st)(f:Falling ps ns)(hn:ns[i]?=some n):Vk ps ns (i+1) (My.push n (tar ps n) st):=by
 have et:ns.take (i+1)=ns.take i++[n]:=by rw[List.take_succ,hn];rfl
 have ord:∀ p∈(ns.take i).map (tar ps),(tar ps n).2≤p.2∧((tar ps n).2=p.2→(tar ps n).1≤p.1):=fun p hp=>by
  obtain⟨x,hx,rfl⟩:=List.mem_map.mp hp
  obtain⟨j,hj⟩:=List.getElem?_of_mem hx
  have hji:j<i:=by
   have:=(List.getElem?_eq_some_iff.mp hj).1
   rw[List.length_take] at this
   lia
  rw[List.getElem?_take_of_lt hji] at hj
  obtain⟨h1,e1⟩:=List.getElem?_eq_some_iff.mp hj
  obtain⟨h2,e2⟩:=List.getElem?_eq_some_iff.mp hn
  have q:=List.pairwise_iff_getElem.mp f j i h1 h2 hji
  rw[e1,e2] at q
  exact Vl q
 obtain⟨e0,r0,q0,q1,q2⟩:=RN (k:=n) (t:=tar ps n) (st:=st)
 constructor
 ·rw[et,List.map_append]
  exact h.env.push n (fun p hp=>(ord p hp).1) (fun p hp=>(ord p hp).2) h.last
 ·intro e he
  rw[et]
  have in1:∀ e∈pops (tar ps n) st,e.k∈ns.take i++[n]∧e.t=tar ps e.k:=fun e he=>by
   obtain⟨a,b⟩:=h.mem e (JM he)
   exact⟨List.mem_append_left _ a,b⟩
  unfold My.push at he
  cases hp:pops (tar ps n) st with
  | nil =>
   rw[hp] at he
   have:e=⟨n,tar ps n,0,1⟩:=by simpa using he
   subst this
   exact⟨List.mem_append_right _ (.head _),rfl⟩
  | cons e1 r1 =>
   rw[hp] at he in1
   rcases List.mem_cons.mp he with rfl|he
   ·exact⟨List.mem_append_right _ (.head _),rfl⟩
   ·exact in1 e he
 ·intro e r q p hp
  rw[q0] at q
  cases q
  rw[q1]
  rw[et,List.map_append] at hp
  rcases List.mem_append.mp hp with hp|hp
  ·exact (ord p hp).1
  ·have:p=tar ps n:=by simpa using hp
   rw[this]
   exact Int.le_refl _
 ·have hl:=Bu (t:=tar ps n) (st:=st)
  have:=h.len
  unfold My.push
  cases hp:pops (tar ps n) st with
  | nil=>show 1≤i+1;lia
  | cons e1 r1 =>
   rw[hp] at hl
   show (e1::r1).length+1≤i+1
   lia
 ·intro _ z
  rw[q0] at z
  cases z
theorem nY.perm {S S':List (Int×Int)}{L:List E}(h:nY S L)(p:∀ x,x∈S'↔x∈S):nY S' L :=
 ⟨h.ne,h.first,h.pos,fun e he=>⟨(p _).mpr (h.least e he).1,fun q hq=>(h.least e he).2 q ((p _).mp hq)⟩,h.next,fun e he q hq=>h.last e he q ((p _).mp hq)⟩
theorem nY.small {S:List (Int×Int)}{L:List E}(h:nY S L)(ok:∀ p∈S,mO p):∀ e∈L,e.x≤10 ^ 60∧e.y≤10 ^ 60:=fun e he=>by
 obtain⟨i,hi⟩:=List.getElem?_of_mem he
 cases i with
 | zero =>
  obtain⟨a,b⟩:=h.first e hi
  rw[a,b]
  decide
 | succ i =>
  have hl:=(List.getElem?_eq_some_iff.mp hi).1
  have hi':L[i]?=some (L[i]'(by lia)):=List.getElem?_eq_getElem (by lia)
  obtain⟨a,b,_⟩:=h.next i _ e hi' hi
  obtain⟨⟨a1,a2⟩,⟨a3,a4⟩⟩:=ok e.t (h.least e he).1
  obtain⟨⟨b1,b2⟩,⟨b3,b4⟩⟩:=ok _ (h.least _ (List.mem_of_getElem? hi')).1
  lia
section
variable{P:Program}{w:World}{K:PySem.W.Frag}{mg:Str→Option Value}{base:Heap}{z:Cz}
inductive Nk (vs:List V)(H:Hp)(Q:VK):Prop
 | mk (b a:Addr) (ps:List (Int×Int)) (ns:List Int) (c0:vs=[.ref b,.ref a]) (c1:bH H b ps) (c2:(∀ p∈ps,mO p)) (c3:H a=some (.lst (ns.map V.int))) (c4:ns.length≤1000) (c5:ns≠[]) (c6:(∀ n∈ns,0≤n∧n<(ps.length:Int))) (c7:Tab H) (c8:∀ (r bA kA:Addr) (H':Hp) (L:List E) (us:List V),fM H H'→H' r=some (.tup [.ref bA,.ref kA])→H' bA=some (.lst us)→cu H' us (L.map Y5)→H' kA=some (.lst (L.map ek))→nY (ns.map (tar ps)) L→(∀ e∈L,e.k∈ns∧e.t=tar ps e.k)→L.length≤ns.length→H bA=none→H kA=none→Q (.ref r) H'):Nk  vs H Q
def Hi:Sp:=fun vs H Q _=>Nk  vs H Q
theorem cW:aY ["book", "places", "begins", "kept", "place", "tariff", "begin", "before"] ["book", "places"] (aC jV):=⟨rfl,rfl,rfl,by decide +kernel,rfl,by decide +kernel,by decide +kernel⟩
theorem w6 {f:Addr}{fd:FuncData}(F:gY K "least_in_turn" "least_in_turn" jV f fd)(B:Bl mg)(T:CT K mg z)
  (fC:Cl P w K mg base 1 "top_of_cost" ["tariff", "amount"] um)
  (uR:Cl P w K mg base 1 "by_falling_piece" ["book", "places"] R9):cA P w K mg base gB 2 f fd ["book", "places"] Hi:=by
 refine F.ok cW (fun vs H Q E h=>?_) (fun cdv A outer s H vs Q E hr h=>?_)
 ·obtain⟨b,a,ps,ns,rfl,_⟩:=h
  rfl
 ·obtain⟨b,a,ps,ns,rfl,hB,aeH,hl,hn,hne,hok,hT,q⟩:=h
  refine⟨_,(aB (aW (i:=2) cW.nd rfl (Or.inl rfl) (bF ao))
     (aB (aW (i:=3) cW.nd rfl (Or.inl rfl) (bF ao))
     (aB (jP PassesOwn.never rfl (bM K rfl (uR.pe hr (aj (pv 0) (aj (pv 1) ao)))) (aZ (i:=4) cW.nd rfl (Or.inl rfl))
     (aB (aW (i:=5) cW.nd rfl (Or.inl rfl) (aH (aP K) (pv 0) (pv 4) (fun _ _=>rfl)))
     (aB (vG PassesOwn.never (PW.pt (pw_and (bB iQ (aK (iV K) rfl B.len PySem.boot_len (aj (pv 3) ao)) aA (aU _)) (pw_and1 (bB qQ (fC.pe hr (aj (pv 5) (aj (aH (aP K) (pv 2) (oX jl aA) (fun _ _=>rfl)) ao))) (fC.pe hr (aj (aH (aP K) (pv 0) (aH (aP K) (pv 3) (oX jl aA) (fun _ _=>rfl)) (fun _ _=>rfl)) (aj (aH (aP K) (pv 2) (oX jl aA) (fun _ _=>rfl)) ao))) (aU _))))) (aB (iU (QZ PySem.F.plainAttrs_list PySem.F.slot_list_pop PySem.F.type_list_pop Q0 (pv 2)))
     (aD (iU (QZ PySem.F.plainAttrs_list PySem.F.slot_list_pop PySem.F.type_list_pop Q0 (pv 3))))))
     (aB (aW (i:=6) cW.nd rfl (Or.inl rfl) (bN (aj aA (aj aA ao))))
     (aB (bY (bB iQ (aK (iV K) rfl B.len PySem.boot_len (aj (pv 3) ao)) aA (aU _)) (aB (aW (i:=7) cW.nd rfl (Or.inl rfl) (aH (aP K) (pv 0) (aH (aP K) (pv 3) (oX jl aA) (fun _ _=>rfl)) (fun _ _=>rfl)))
     (aD (aW (i:=6) cW.nd rfl (Or.inl rfl) (bN (aj (aF gb (aH (aG K) (pv 5) aA (fun _ _=>rfl)) (aH (aG K) (pv 7) aA (fun _ _=>rfl))) (aj (aF gb (aH (aG K) (pv 7) aA (fun _ _=>rfl)) (aH (aG K) (pv 5) aA (fun _ _=>rfl))) ao)))))) bw)
     (aB (iU (Fj PySem.F.plainAttrs_list PySem.F.slot_list_append PySem.F.type_list_append kY (pv 2) (aj (pv 6) ao)))
     (aD (iU (Fj PySem.F.plainAttrs_list PySem.F.slot_list_append PySem.F.type_list_append kY (pv 3) (aj (pv 4) ao))))))))))
     (aD (aN (bN (aj (pv 2) (aj (pv 3) ao)))))))),?_⟩
  refine⟨Nat.zero_le _,fun bA hbA=>⟨Nat.zero_le _,fun kA hkA=>?_⟩⟩
  have s1:=aq hbA (.lst [])
  have s2:=aq hkA (.lst [])
  have s12:=s1.trans s2
  have T5:bA≠kA:=fun z=>by rw[←z,ak] at hkA;cases hkA
  have aeI:H kA=none:=s1.free hkA
  have eb:(upd (upd H bA (.lst [])) kA (.lst [])) bA=some (.lst []):=by rw[aJ T5,ak]
  have ekk:(upd (upd H bA (.lst [])) kA (.lst [])) kA=some (.lst []):=ak
  generalize upd (upd H bA (.lst [])) kA (.lst [])=H0 at s12 eb ekk ⊢
  refine⟨_,rfl,_,rfl,b,a,ps,ns,rfl,hB.same s12,s12 _ _ hl,hn,hok,hT.same s12,fun D H1 ns' sT hD Rz hp hF=>?_⟩
  have X5:=hp.length_eq
  have sA:fM H H1:=(s12.t hT).trans sT
  have Y6:=hB.qF sA
  have nD1:D≠bA:=fun z=>by rw[z,eb] at Rz;cases Rz
  have nD2:D≠kA:=fun z=>by rw[z,ekk] at Rz;cases Rz
  have eb1:=sT.2 _ _ eb rfl
  have ek1:=sT.2 _ _ ekk rfl
  have inH:∀ c o,H c=some o→c∉[bA,kA]:=fun c o e hc=>by
   rcases List.mem_cons.mp hc with z|hc
   ·exact aM e hbA z
   ·exact aM e aeI (by simpa using hc)
  have Dx:∀ H2,Dk H1 H2 [bA,kA]→H2 D=some (.lst (ns'.map V.int)):=fun H2 u=>u D _ (by simp[nD1,nD2]) hD
  have Bx:∀ H2,Dk H1 H2 [bA,kA]→∃ vs,H2 b=some (.lst vs)∧cu H2 vs ps:=fun H2 u=>by
   obtain⟨vs,h1,h2⟩:=hB
   refine⟨vs,u _ _ (inH _ _ h1) (sA.2 _ _ h1 rfl),Paired.Jc h2 fun v p ⟨r,e1,e2⟩=>⟨r,e1,u _ _ (inH _ _ e2) (sA.2 _ _ e2 rfl)⟩⟩
  have Tx:∀ H2,Dk H1 H2 [bA,kA]→fM H H2:=fun H2 u=>by
   refine⟨?_,fun c o e n=>u c o (inH c o e) (sA.2 c o e n)⟩
   obtain⟨qs,t1,t2⟩:=sA.1
   refine⟨qs,u _ _ (fun hc=>?_) t1,?_⟩
   ·rcases List.mem_cons.mp hc with z|hc
    ·rw[z,eb1] at t1;cases t1
    ·have z:oZ=kA:=by simpa using hc
     rw[z,ek1] at t1;cases t1
   ·rcases t2 with t2|⟨c,t2,t3⟩
    ·exact .inl t2
    ·refine .inr ⟨c,t2,u _ _ (fun hc=>?_) t3⟩
     rcases List.mem_cons.mp hc with z|hc
     ·rw[z,eb1] at t3;cases t3
     ·have z:c=kA:=by simpa using hc
      rw[z,ek1] at t3;cases t3
  have hok':∀ n∈ns',0≤n∧n<(ps.length:Int):=fun n hn=>hok n (hp.mem_iff.mp hn)
  have X6:∀ i,∀ p∈(ns'.take i).map (tar ps),mO p:=fun i p hp'=>by
   obtain⟨n,hn',rfl⟩:=List.mem_map.mp hp'
   obtain⟨h0,h1⟩:=hok' n (List.mem_of_mem_take hn')
   exact aeH _ (List.mem_of_getElem? (bD h0 h1))
  refine⟨D,rfl,⟨_,aQ.of hD⟩,ig (K:=K) (a:=D) (xs:=ns'.map V.int) (fun i σ H2=>Dk H1 H2 [bA,kA]∧∃ v4 v5 v6 v7 st,σ=[some (.ref b),some (.ref a),some (.ref bA),some (.ref kA),v4,v5,v6,v7]∧P0 H2 bA kA st∧Vk ps ns' i st)
   ⟨Ju,_,_,_,_,[],rfl,⟨[],eb1,.nil,ek1⟩,⟨.nil rfl,fun _ h=>(by cases h),fun _ _ h=>(by cases h),Nat.le_refl _,fun h=>absurd h (Nat.lt_irrefl _)⟩⟩ (fun i σ H2 _ ⟨u,_⟩=>aQ.of (Dx H2 u)) ?_ ?_⟩
  ·rintro i v σ H2 hi ⟨u2,v4,v5,v6,v7,st,rfl,hst,Sg⟩
   obtain⟨n,hni,rfl⟩:=int_at hi
   obtain⟨n0,n1⟩:=hok' n (List.mem_of_getElem? hni)
   have hpl:=bD n0 n1
   obtain⟨vs,hv,ht⟩:=Bx H2 u2
   obtain⟨w0,hw0,rt,rfl,FP⟩:=bx ht hpl
   have okt:mO (tar ps n):=aeH _ (List.mem_of_getElem? hpl)
   refine⟨_,rfl,_,rfl,b,vs,n,_,rfl,rfl,aQ.of hv,cG n0 hw0,?_⟩
   have rtK:∀ H3,Dk H1 H3 [bA,kA]→H3 rt=some (.tup [.int (tar ps n).1,.int (tar ps n).2]):=fun H3 u3=>by
    obtain⟨vs3,WK,FT⟩:=Bx H3 u3
    obtain⟨vs',h1,h2⟩:=hB
    have e1:=u3 _ _ (inH _ _ h1) (sA.2 _ _ h1 rfl)
    have e2:=u2 _ _ (inH _ _ h1) (sA.2 _ _ h1 rfl)
    rw[hv] at e2;cases e2
    rw[WK] at e1;cases e1
    obtain⟨w1,hw1,r1,e3,hr1⟩:=bx FT hpl
    rw[hw0] at hw1;cases hw1
    cases e3
    exact hr1
   refine⟨fun m σ H3=>∃ st3,m=st3.length∧Dk H1 H3 [bA,kA]∧σ=[some (.ref b),some (.ref a),some (.ref bA),some (.ref kA),some (.int n),some (.ref rt),v6,v7]∧P0 H3 bA kA st3∧pops (tar ps n) st3=pops (tar ps n) st∧∀ e∈st3,e∈st,
    ⟨_,st,rfl,u2,rfl,hst,rfl,fun _ h=>h⟩,?_⟩
   rintro m σ H3 ⟨st3,rfl,u3,rfl,Qa,hpo,hsub⟩
   obtain⟨vsB,hB3,FT⟩:=Bx H3 u3
   have agY:=rtK H3 u3
   have tops:∀ e∈st,(0≤e.k∧e.k<(ps.length:Int))∧e.t=tar ps e.k∧mO e.t∧Df e.x∧Df e.y:=fun e he=>by
    obtain⟨m1,m2⟩:=Sg.mem e he
    obtain⟨x0,y0⟩:=Sg.env.pos e he
    obtain⟨x1,y1⟩:=Sg.env.small (X6 i) e he
    exact⟨hok' _ (List.mem_of_mem_take m1),m2,X6 i _ (Sg.env.least e he).1,⟨x0,x1⟩,⟨by lia,y1⟩⟩
   refine X3 (X4 (tar ps n) st3) H3 (fun R' hR=>?_) ?_
   ·cases st3 with
    | nil =>
     obtain⟨us,b1,b2,b3⟩:=Qa
     refine⟨_,rfl,kA,_,rfl,.inl (aQ.of b3),_,_,rfl,rfl,_,rfl,?_⟩
     exact dz hR
    | cons e r =>
     obtain⟨Ni,rE,c1,c2,c3,c4⟩:=Bt Qa
     obtain⟨⟨k0,k1⟩,tk,ot,ox,oy⟩:=tops e (hsub e List.mem_cons_self)
     obtain⟨wk,hwk,rk,rfl,hrk⟩:=bx FT (bD k0 k1)
     have Vm:H3 rk=some (.tup [.int e.t.1,.int e.t.2]):=by rw[tk];exact hrk
     refine⟨_,rfl,kA,_,rfl,.inl (aQ.of c4),_,_,rfl,rfl,_,rfl,?_⟩
     refine dO (decide_eq_true (show (0:Int)<((r.reverse.map ek++[V.int e.k]).length:Nat) by rw[List.length_append];show (0:Int)<(((r.reverse.map ek).length+1:Nat):Int);lia)) ?_
     refine⟨_,rfl,_,rfl,_,rfl,bA,_,-1,_,rfl,rfl,aQ.of c1,mj _ _,rt,rE,_,_,e.x,e.y,rfl,agY,c3,okt.1.fit,okt.2.fit,ox.fit,oy.fit,?_⟩
     refine⟨_,rfl,_,rfl,_,rfl,kA,_,-1,_,rfl,rfl,aQ.of c4,mj _ _,b,vsB,e.k,_,rfl,rfl,aQ.of hB3,cG k0 hwk,_,rfl,_,rfl,bA,_,-1,_,rfl,rfl,aQ.of c1,mj _ _,rk,rE,_,_,e.x,e.y,rfl,Vm,c3,ot.1.fit,ot.2.fit,ox.fit,oy.fit,?_⟩
     exact⟨_,_,rfl,rfl,_,rfl,hR⟩
   ·refine Q6 (fun c=>?_) (fun c=>?_)
    ·obtain⟨e,r,rfl,hpr⟩:=Sd c
     obtain⟨Ni,rE,c1,c2,c3,c4⟩:=Bt Qa
     refine⟨fun σ' H'=>∃ Y7,Y7.length<(e::r).length∧Dk H1 H' [bA,kA]∧σ'=[some (.ref b),some (.ref a),some (.ref bA),some (.ref kA),some (.int n),some (.ref rt),v6,v7]∧P0 H' bA kA Y7∧pops (tar ps n) Y7=pops (tar ps n) st∧∀ e∈Y7,e∈st,
      fun σ' H' ⟨Y7,l4,r4⟩=>⟨_,l4,Y7,rfl,r4⟩,?_⟩
     refine⟨_,rfl,.inl ⟨rfl,_,aQ.of c1⟩,bA,_,V.ref rE,rfl,rfl,c1,by simp,?_⟩
     rw[List.dropLast_concat]
     have c5:(upd H3 bA (.lst Ni)) kA=some (.lst (r.reverse.map ek++[.int e.k])):=by rw[aJ T5.symm];exact c4
     refine⟨_,rfl,.inl ⟨rfl,_,aQ.of c5⟩,kA,_,V.int e.k,rfl,rfl,c5,by simp,?_⟩
     rw[List.dropLast_concat]
     refine⟨r,Nat.lt_succ_self _,(u3.trans (jB (.inl (by simp)))).trans (jB (.inl (by simp))),rfl,⟨Ni,?_,vW (vW c2 c1) c5,ak⟩,hpr.symm.trans hpo,fun e' he'=>hsub e' (List.mem_cons_of_mem _ he')⟩
     rw[aJ T5,ak]
    ·have hps:=Vj c
     rw[hps] at hpo
     refine⟨cI,fun p1 hp1=>?_⟩
     have u4:Dk H3 (upd H3 p1 (.tup [.int 0,.int 1])) [bA,kA]:=jB (.inr hp1)
     have n1b:bA≠p1:=fun z=>by
      obtain⟨us,b1,_⟩:=Qa
      rw[z,hp1] at b1;cases b1
     have n1k:kA≠p1:=fun z=>by
      obtain⟨us,_,_,b3⟩:=Qa
      rw[z,hp1] at b3;cases b3
     have g1:(upd H3 p1 (.tup [.int 0,.int 1])) p1=some (.tup [.int 0,.int 1]):=ak
     have Vn:P0 (upd H3 p1 (.tup [.int 0,.int 1])) bA kA st3:=by
      obtain⟨us,b1,b2,b3⟩:=Qa
      exact⟨us,by rw[aJ n1b];exact b1,b2.same (aq hp1 _),by rw[aJ n1k];exact b3⟩
     have X7:=aq hp1 (.tup [.int 0,.int 1])
     generalize upd H3 p1 (.tup [.int 0,.int 1])=H4 at u4 g1 Vn X7 ⊢
     have u04:=u3.trans u4
     have akL:st3.length≤999:=by
      have h1:=Sg.len
      have h2:i<ns'.length:=(List.getElem?_eq_some_iff.mp hni).1
      have h3:=Bu (t:=tar ps n) (st:=st)
      rw[←hpo] at h3
      lia
     have room:∀ {l:List V},l.length=st3.length→l.length<sizeLine:=fun e=>bQ (by lia)
     cases st3 with
     | nil =>
      obtain⟨us,b1,b2,b3⟩:=Vn
      have e5:=Nj (e:=⟨n,tar ps n,0,1⟩) T5 b1 b2 b3 g1
      have Bv:us.length=0:=by rw[b2.len];rfl
      refine⟨_,rfl,kA,_,rfl,.inl (aQ.of b3),_,_,rfl,rfl,_,rfl,dz ?_⟩
      have b3':(upd H4 bA (.lst (us++[.ref p1]))) kA=some (.lst (([]:List My.E).reverse.map ek)):=by rw[aJ T5.symm];exact b3
      refine⟨_,rfl,.inl ⟨rfl,_,aQ.of b1⟩,_,rfl,bA,_,_,rfl,rfl,b1,room Bv,_,rfl,.inl ⟨rfl,_,aQ.of b3'⟩,_,rfl,kA,_,_,rfl,rfl,b3',room rfl,?_⟩
      refine⟨(u04.trans (jB (.inl (by simp)))).trans (jB (.inl (by simp))),_,_,_,_,_,rfl,e5,?_⟩
      have ep:My.push n (tar ps n) st=[⟨n,tar ps n,0,1⟩]:=by unfold My.push;rw[←hpo]
      rw[←ep]
      exact Sg.push hF hni
     | cons e r =>
      obtain⟨⟨k0,k1⟩,tk,ot,ox,oy⟩:=tops e (hsub e List.mem_cons_self)
      obtain⟨Ni,rE,c1,c2,c3,c4⟩:=Bt Vn
      obtain⟨vsC,hC3,ht4⟩:=Bx H4 u04
      obtain⟨wk,hwk,rk,rfl,hrk⟩:=bx ht4 (bD k0 k1)
      have Vm:H4 rk=some (.tup [.int e.t.1,.int e.t.2]):=by rw[tk];exact hrk
      have aeM:=rtK H4 u04
      refine⟨_,rfl,kA,_,rfl,.inl (aQ.of c4),_,_,rfl,rfl,_,rfl,?_⟩
      refine dO (decide_eq_true (show (0:Int)<((r.reverse.map ek++[V.int e.k]).length:Nat) by rw[List.length_append];show (0:Int)<(((r.reverse.map ek).length+1:Nat):Int);lia)) ?_
      refine⟨_,rfl,_,rfl,_,rfl,kA,_,-1,_,rfl,rfl,aQ.of c4,mj _ _,b,vsC,e.k,_,rfl,rfl,aQ.of hC3,cG k0 hwk,?_⟩
      refine⟨_,rfl,rt,_,0,_,rfl,rfl,cT.of aeM,rfl,_,rfl,rk,_,0,_,rfl,rfl,cT.of Vm,rfl,_,_,rfl,rfl,_,rfl,rk,_,1,_,rfl,rfl,cT.of Vm,rfl,_,rfl,rt,_,1,_,rfl,rfl,cT.of aeM,rfl,_,_,rfl,rfl,cI,fun p2 hp2=>?_⟩
      have s45:=aq hp2 (.tup [.int ((tar ps n).1-e.t.1),.int (e.t.2-(tar ps n).2)])
      have g2:(upd H4 p2 (.tup [.int ((tar ps n).1-e.t.1),.int (e.t.2-(tar ps n).2)])) p2=some (.tup [.int ((tar ps n).1-e.t.1),.int (e.t.2-(tar ps n).2)]):=ak
      have u5:Dk H4 (upd H4 p2 (.tup [.int ((tar ps n).1-e.t.1),.int (e.t.2-(tar ps n).2)])) [bA,kA]:=jB (.inr hp2)
      show (fun H5=>_) (upd H4 p2 (.tup [.int ((tar ps n).1-e.t.1),.int (e.t.2-(tar ps n).2)]))
      generalize upd H4 p2 (.tup [.int ((tar ps n).1-e.t.1),.int (e.t.2-(tar ps n).2)])=H5 at s45 g2 u5 ⊢
      obtain⟨us,b1,b2,b3⟩:=Vn
      have Jq:=s45 _ _ b1
      have Ln:=b2.same s45
      have aeN:=s45 _ _ b3
      have e5:=Nj (e:=⟨n,tar ps n,(tar ps n).1-e.t.1,e.t.2-(tar ps n).2⟩) T5 Jq Ln aeN g2
      have Bv:us.length=(e::r).length:=by rw[b2.len,List.length_map,List.length_reverse]
      have b3':(upd H5 bA (.lst (us++[.ref p2]))) kA=some (.lst ((e::r).reverse.map ek)):=by rw[aJ T5.symm];exact aeN
      refine⟨_,rfl,.inl ⟨rfl,_,aQ.of Jq⟩,_,rfl,bA,_,_,rfl,rfl,Jq,room Bv,_,rfl,.inl ⟨rfl,_,aQ.of b3'⟩,_,rfl,kA,_,_,rfl,rfl,b3',room (by rw[List.length_map,List.length_reverse]),?_⟩
      refine⟨((u04.trans u5).trans (jB (.inl (by simp)))).trans (jB (.inl (by simp))),_,_,_,_,_,rfl,e5,?_⟩
      have ep:My.push n (tar ps n) st=⟨n,tar ps n,(tar ps n).1-e.t.1,e.t.2-(tar ps n).2⟩::e::r:=by unfold My.push;rw[←hpo]
      rw[←ep]
      exact Sg.push hF hni
  ·rintro σ H2 ⟨u2,v4,v5,v6,v7,st,rfl,hst,Sg⟩
   rw[List.length_map] at Sg
   refine⟨_,rfl,_,rfl,cI,fun r hr'=>?_⟩
   obtain⟨us,b1,b2,b3⟩:=hst
   have s9:=aq hr' (.tup [.ref bA,.ref kA])
   have hne':ns'≠[]:=fun z=>by rw[z] at X5;simp at X5;exact hne (List.eq_nil_of_length_eq_zero X5.symm)
   obtain⟨e0,r0,q0⟩:∃ e0 r0,st=e0::r0:=by
    cases st with
    | nil=>exact absurd rfl (Sg.ne (List.length_pos_iff.mpr hne'))
    | cons e0 r0=>exact⟨e0,r0,rfl⟩
   have et:ns'.take ns'.length=ns':=List.take_of_length_le (Nat.le_refl _)
   obtain⟨o1,o2,o3,o4,_⟩:=Sg
   rw[et] at o1 o2 o3
   refine q r bA kA _ st.reverse us ((Tx H2 u2).then s9) ak (s9 _ _ b1) (b2.same s9) (s9 _ _ b3) ((o1.lJ q0 (o3 _ _ q0)).perm fun x=>?_) (fun e he=>?_) (by rw[List.length_reverse];lia) hbA aeI
   ·rw[List.mem_map,List.mem_map]
    exact⟨fun⟨y,h1,h2⟩=>⟨y,hp.mem_iff.mpr h1,h2⟩,fun⟨y,h1,h2⟩=>⟨y,hp.mem_iff.mp h1,h2⟩⟩
   ·obtain⟨a1,a2⟩:=o2 e (List.mem_reverse.mp he)
    exact⟨hp.mem_iff.mp a1,a2⟩
end
theorem FW (xs:List V):fV xs (some 1) none=xs.drop 1:=by
 unfold fV
 rw[HT.Ac,show (1:Int)=((1:Nat):Int) from rfl,HT.tD]
 by_cases h:1≤xs.length
 ·rw[Nat.min_eq_left h,List.take_of_length_le (by rw[List.length_drop];lia)]
 ·have e:xs=[]:=List.eq_nil_of_length_eq_zero (by lia)
  subst e
  rfl
theorem Vo (xs:List V)(i:Nat):fV xs (some (i:Int)) (some ((i:Int)+2))=(xs.drop i).take 2:=by
 unfold fV
 rw[HT.tD,show (i:Int)+2=((i+2:Nat):Int) from rfl,HT.tD]
 by_cases h:i≤xs.length
 ·rw[Nat.min_eq_left h]
  by_cases h2:i+2≤xs.length
  ·rw[Nat.min_eq_left h2,show i+2-i=2 by lia]
  ·rw[Nat.min_eq_right (by lia),List.take_of_length_le (by rw[List.length_drop];exact Nat.le_refl _),List.take_of_length_le (by rw[List.length_drop];lia)]
 ·rw[Nat.min_eq_right (by lia),Nat.min_eq_right (by lia),List.drop_of_length_le (Nat.le_refl _),List.drop_of_length_le (by lia)]
  simp
theorem FZ {K:PySem.W.Frag}{g:TG}{tt:TT}{te:TE}{σc:L2.St}{Fn:List V→Hp→Prop}{H:Hp}{a b:Addr}{xs ys:List V}(he:ys.length≤xs.length)(Pv:Nat→List V→Hp→Prop)(h0:Pv 0 [] H)(hl:∀ i zs H,i≤ys.length→Pv i zs H→aQ K H a xs∧aQ K H b ys∧zs.length<sizeLine)
  (hs:∀ i x y zs H p,xs[i]?=some x→ys[i]?=some y→Pv i zs H→H p=none→g (.ref p) σc (upd H p (.tup [x,y])) fun σ2 H2=>tt σ2 H2 fun c H3=>if c=true then te σ2 H3 fun z H4=>Pv (i+1) (zs++[z]) H4 else Pv (i+1) zs H3)
  (hd:∀ zs H,Pv ys.length zs H→Fn zs H):Fp (Itz K a b) g tt te σc Fn H :=
 vI ys.length Pv h0 (fun i zs H hi p=>(hl i zs H hi p).2.2)
  (fun i zs H hi p=>⟨xs,ys,xs[i]'(by lia),ys[i],(hl i zs H (Nat.le_of_lt hi) p).1,(hl i zs H (Nat.le_of_lt hi) p).2.1,by simp[show i<xs.length by lia],by simp[hi]⟩)
  (fun i zs H x H' hi p y=>by
    obtain⟨q,hq,rfl,y⟩:=y
    have ex:xs[i]?=some (xs[i]'(by lia)):=by simp[show i<xs.length by lia]
    have ey:ys[i]?=some ys[i]:=by simp[hi]
    rw[y xs ys _ _ (hl i zs H (Nat.le_of_lt hi) p).1 (hl i zs H (Nat.le_of_lt hi) p).2.1 ex ey]
    exact hs i _ _ zs H q ex ey p hq)
  fun zs H p=>⟨⟨xs,ys,(hl _ zs H (Nat.le_refl _) p).1,(hl _ zs H (Nat.le_refl _) p).2.1,.inr (Nat.le_refl _)⟩,hd zs H p⟩
def oJ (c:Nat→Prop)(i:Nat)(ys:List V):Prop:=∃ bs:List Bool,ys=bs.map V.bl∧bs.length≤i∧(bs.all id=true↔∀ j,j<i→c j)
theorem fY (c:Nat→Prop):oJ c 0 []:=⟨[],rfl,Nat.le_refl _,⟨fun _ j h=>absurd h (Nat.not_lt_zero j),fun _=>rfl⟩⟩
theorem oJ.snoc {c:Nat→Prop}{i:Nat}{ys:List V}{v:Bool}(h:oJ c i ys)(hv:v=true↔c i):oJ c (i+1) (ys++[.bl v]):=by
 obtain⟨bs,rfl,h1,h2⟩:=h
 refine⟨bs++[v],by rw[List.map_append];rfl,by rw[List.length_append];show bs.length+1≤i+1;lia,?_⟩
 rw[List.all_append,Bool.and_eq_true,h2]
 constructor
 ·rintro⟨a,b⟩ j hj
  by_cases e:j=i
  ·subst e
   exact hv.mp (by simpa using b)
  ·exact a j (by lia)
 ·intro a
  exact⟨fun j hj=>a j (by lia),by simpa using hv.mpr (a i (by lia))⟩
theorem oJ.lt {c:Nat→Prop}{i:Nat}{ys:List V}(h:oJ c i ys)(hi:i≤1000):ys.length<sizeLine:=by
 obtain⟨bs,rfl,h1,_⟩:=h
 rw[List.length_map]
 exact bQ (by lia)
def Dp (c:Nat→Prop)(i:Nat)(ys:List V):Prop:=∃ bs:List Bool,ys=bs.map V.bl∧bs.length≤i∧(bs.any id=false↔∀ j,j<i→c j)
theorem vX (c:Nat→Prop):Dp c 0 []:=⟨[],rfl,Nat.le_refl _,⟨fun _ j h=>absurd h (Nat.not_lt_zero j),fun _=>rfl⟩⟩
theorem Dp.snoc {c:Nat→Prop}{i:Nat}{ys:List V}{v:Bool}(h:Dp c i ys)(hv:v=false↔c i):Dp c (i+1) (ys++[.bl v]):=by
 obtain⟨bs,rfl,h1,h2⟩:=h
 refine⟨bs++[v],by rw[List.map_append];rfl,by rw[List.length_append];show bs.length+1≤i+1;lia,?_⟩
 rw[List.any_append,Bool.or_eq_false_iff,h2]
 constructor
 ·rintro⟨a,b⟩ j hj
  by_cases e:j=i
  ·subst e
   exact hv.mp (by simpa using b)
  ·exact a j (by lia)
 ·intro a
  exact⟨fun j hj=>a j (by lia),by simpa using hv.mpr (a i (by lia))⟩
theorem Dp.lt {c:Nat→Prop}{i:Nat}{ys:List V}(h:Dp c i ys)(hi:i≤1000):ys.length<sizeLine:=by
 obtain⟨bs,rfl,h1,_⟩:=h
 rw[List.length_map]
 exact bQ (by lia)
theorem mY (p:Int×Int):SeqAt.shaped (jk p)=true:=by
 unfold SeqAt.shaped
 have e:PyData.depth (jk p)=1:=by simp[jk,PyData.depth,PyData.depthAll]
 have e2:PyData.canLay0 (jk p)=true:=by simp[jk,PyData.canLay0,PyData.canLayAll0]
 simp[e,e2]
theorem JN (p q:Int×Int):PyData.eqv (jk p) (jk q)=decide (p=q):=by
 rw[Bool.eq_iff_iff,decide_eq_true_iff]
 obtain⟨a,b⟩:=p
 obtain⟨c,d⟩:=q
 simp[jk,PyData.eqv,PyData.eqvAll]
theorem uq {α:Type}{xs:List α}{i:Nat}{v:α}(h:xs[i]?=some v):Ja xs (i:Int)=some v:=cG (Int.natCast_nonneg i) (by rw[Int.toNat_natCast];exact h)
theorem Bw {ps:List (Int×Int)}{k x y:Int}(h0:0≤k)(h1:k<(ps.length:Int)):((costs ps x y).map V.int)[k.toNat]?=some (.int (cst (tar ps k) x y)):=by
 rw[List.getElem?_map,costs,List.getElem?_map,bD h0 h1]
 rfl
theorem mz {α β:Type}{f:α→β}{l:List α}{i:Nat}{b:β}(h:(l.map f)[i]?=some b):∃ a,l[i]?=some a∧f a=b:=by
 rw[List.getElem?_map] at h
 cases e:l[i]? with
 | none=>rw[e] at h;cases h
 | some a=>rw[e] at h;exact⟨a,rfl,Option.some.inj h⟩
theorem one_le:1≤sizeLine:=by decide
theorem cg {n:Nat}(h:n≤1000):n≤sizeLine:=Nat.le_trans h (by decide)
theorem Hj {t u:TS}{D:Ends}{σ:L2.St}{H:Hp}(R:L2.St→Hp→Prop)(h1:∀ D':Ends,(∀ σ' H',R σ' H'→D'.nx σ' H')→t D' σ H)(h2:∀ σ' H',R σ' H'→u D σ' H'):Qw t u D σ H:=h1 { D with nx:=u D } h2
theorem fM.seq {K:PySem.W.Frag}{H H':Hp}{a:Addr}{xs:List V}(e:fM H H')(h:aQ K H a xs):aQ K H' a xs:=by
 rcases h with (h|⟨o,h⟩)|h
 ·exact .inl (.inl (e.2 _ _ h rfl))
 ·exact .inl (.inr ⟨o,e.2 _ _ h rfl⟩)
 ·exact .inr h
def X8 (bs:List (Int×Int)):Prop:=∀ (i:Nat) b c,bs[i]?=some b→bs[i+1]?=some c→b.1*c.2<c.1*b.2
def WL (bs:List (Int×Int)):Prop:=bs[0]?=some (0,1)∧X8 bs
def Lx (ps:List (Int×Int))(ks:List Int):Prop:=∀ k∈ks,0≤k∧k<(ps.length:Int)
def Unlike (ks:List Int):Prop:=∀ (i:Nat) k l,ks[i]?=some k→ks[i+1]?=some l→k≠l
def dB (ps:List (Int×Int))(k:Int)(b:Int×Int):Prop:=∀ p∈ps,cst (tar ps k) b.1 b.2≤cst p b.1 b.2
def WM (ps bs:List (Int×Int))(ks:List Int):Prop:=(∀ (i:Nat) b k,bs[i]?=some b→ks[i]?=some k→dB ps k b)∧∀ (i:Nat) b k,bs[i+1]?=some b→ks[i]?=some k→dB ps k b
def Nm (ps:List (Int×Int))(ks:List Int):Prop:=∀ k,ks[ks.length-1]?=some k→∀ p∈ps,(tar ps k).2≤p.2
structure vY (ps bs:List (Int×Int))(ks:List Int):Prop where
 len:bs.length=ks.length
 beg:WL bs
 Dg:Lx ps ks
 Yb:Unlike ks
 ends:WM ps bs ks
 last:Nm ps ks
section
variable{P:Program}{w:World}{K:PySem.W.Frag}{mg:Str→Option Value}{base:Heap}{z:Cz}
inductive Sh (vs:List V)(H:Hp)(Q:VK):Prop
 | mk (a b:Addr) (p q:Int×Int) (c0:vs=[.ref a,.ref b]) (c1:H a=some (.tup [.int p.1,.int p.2])) (c2:H b=some (.tup [.int q.1,.int q.2])) (c3:tO p.1 p.2) (c4:tO q.1 q.2) (c5:Q (.bl (decide (p.1*q.2<q.1*p.2))) H):Sh  vs H Q
def Sq:Sp:=fun vs H Q _=>Sh  vs H Q
theorem Ly:aY ["one", "other"] ["one", "other"] (aC wY):=⟨rfl,rfl,rfl,by decide +kernel,rfl,by decide +kernel,by decide +kernel⟩
theorem Lz {f:Addr}{fd:FuncData}(F:gY K "is_less" "is_less" wY f fd)(B:Bl mg)(T:CT K mg z):cA P w K mg base gB 1 f fd ["one", "other"] Sq:=by
 refine F.ok Ly (fun vs H Q E h=>?_) (fun cdv A outer s H vs Q E hr h=>?_)
 ·obtain⟨a,b,p,q,rfl,_⟩:=h
  rfl
 ·obtain⟨a,b,p,q,rfl,ha,hb,op,oq,q⟩:=h
  refine⟨_,(aD (aN (bW qt (aF dR (aH (aG K) (pv 0) aA (fun _ _=>rfl)) (aH (aG K) (pv 1) aA (fun _ _=>rfl))) (aF dR (aH (aG K) (pv 1) aA (fun _ _=>rfl)) (aH (aG K) (pv 0) aA (fun _ _=>rfl))) (aU _)))),?_⟩
  exact⟨_,rfl,a,_,0,_,rfl,rfl,cT.of ha,rfl,_,rfl,b,_,1,_,rfl,rfl,cT.of hb,rfl,_,_,rfl,rfl,⟨op.x0.fit,oq.y0.fit⟩,_,rfl,b,_,0,_,rfl,rfl,cT.of hb,rfl,_,rfl,a,_,1,_,rfl,rfl,cT.of ha,rfl,_,_,rfl,rfl,⟨oq.x0.fit,op.y0.fit⟩,_,_,rfl,rfl,q⟩
inductive Ss (vs:List V)(H:Hp)(Q:VK):Prop
 | mk (l:Addr) (us:List V) (bs:List (Int×Int)) (c0:vs=[.ref l]) (c1:H l=some (.lst us)) (c2:cu H us bs) (c3:bs.length≤1000) (c4:(∀ p∈bs,tO p.1 p.2)) (c5:∀ v H',(v=true↔WL bs)→Same H H'→Q (.bl v) H'):Ss  vs H Q
def Sv:Sp:=fun vs H Q _=>Ss  vs H Q
theorem Dq:aY ["begins"] ["begins"] (aC pO):=⟨rfl,rfl,rfl,by decide +kernel,rfl,by decide +kernel,by decide +kernel⟩
theorem Ds {f:Addr}{fd:FuncData}(F:gY K "are_begins" "are_begins" pO f fd)(B:Bl mg)(T:CT K mg z)
  (gH:Cl P w K mg base 3 "is_amount" ["value"] Bf)
  (Qc:Cl P w K mg base 1 "is_less" ["one", "other"] Sq):cA P w K mg base gB 4 f fd ["begins"] Sv:=by
 refine F.ok Dq (fun vs H Q E h=>?_) (fun cdv A outer s H vs Q E hr h=>?_)
 ·obtain⟨l,us,bs,rfl,_⟩:=h
  rfl
 ·obtain⟨l,us,bs,rfl,hl,ht,hn,hok,q⟩:=h
  have Bv:=ht.len
  refine⟨_,(aB (bY (PW.pt (pw_or (bB iM (aK (iV K) rfl B.len PySem.boot_len (aj (pv 0) ao)) aA (aU _)) (pw_or1 (dh (cR (aK (tM K rfl rfl) rfl B.all boot_all (aj (cF (N':=["begin"]) (k:=1) (js:=[]) ⟨rfl,by decide +kernel,by decide +kernel,by rfl,by rfl,rfl⟩ rfl (bM K rfl (pv 0))
      (fun _ _ _ _ _=>(aZ (i:=0) (show (["begin"]:List Str).Nodup by decide +kernel) rfl (Or.inl rfl))) (bI (by decide)) (fun _ _ _ _ _=>cD)
      (fun _ _ _ _ _=>(gH.pe hr (aj (pv 0) ao)))) ao))))))) (aD (aN cM)) bw)
     (aD (aN (eF (bW (eqK K rfl hr.units) (aH (aP K) (pv 0) aA (fun _ _=>rfl)) (bN (aj aA (aj aA ao))) (aU _)) (iT (aK (tM K rfl rfl) rfl B.all boot_all (aj (cF (N':=["one", "other"]) (k:=2) (js:=[]) ⟨rfl,by decide +kernel,by decide +kernel,by rfl,by rfl,rfl⟩ rfl (tE K rfl rfl B.zip (aj (pv 0) (aj (cB K rfl (pv 0) (cH aA) cZ) ao)))
       (fun _ _ _ _ _=>(gn K (n:=2) rfl rfl (bO (aZ (i:=0) (show (["one", "other"]:List Str).Nodup by decide +kernel) rfl (Or.inl rfl)) (bO (aZ (i:=1) (show (["one", "other"]:List Str).Nodup by decide +kernel) rfl (Or.inl rfl)) gk)))) (qT (dN (bI (by decide)) (dN (bI (by decide)) mU))) (fun _ _ _ _ _=>cD)
       (fun _ _ _ _ _=>(Qc.pe hr (aj (pv 0) (aj (pv 1) ao))))) ao))))))),?_⟩
  refine⟨_,rfl,l,us,rfl,.inl (aQ.of hl),rfl,_,rfl,?_⟩
  by_cases h0:us.length=0
  ·refine dO (decide_eq_true (by rw[h0];rfl)) ?_
   refine fH (q false H ⟨fun z=>(by cases z),fun z=>?_⟩ (Same.refl _))
   have e:bs=[]:=List.eq_nil_of_length_eq_zero (by lia)
   rw[e] at z
   cases z.1
  ·refine dX (decide_eq_false fun z=>h0 (by have:=V.int.inj z;lia)) ?_
   refine⟨_,rfl,l,rfl,⟨_,aQ.of hl⟩,bV (K:=K) (a:=l) (xs:=us) (fun i ys H2=>H=H2∧oJ (fun _=>True) i ys) ⟨rfl,fY _⟩ (fun i ys H2 hi ⟨e,ha⟩=>⟨by rw[←e];exact aQ.of hl,ha.lt (by lia)⟩) ?_ ?_⟩
   ·rintro i v ys H2 hi ⟨rfl,ha⟩
    obtain⟨p,hp,r,rfl,hr'⟩:=bh ht hi
    have op:=hok p (List.mem_of_getElem? hp)
    refine dg ?_
    exact⟨_,rfl,r,_,_,rfl,hr',op.x0.1,op.y1,op.cop,rfl,ha.snoc ⟨fun _=>trivial,fun _=>rfl⟩⟩
   ·rintro ys H2 ⟨rfl,xg,rfl,_,hb1⟩ D hD
    refine⟨D,xg,rfl,aQ.of ak,?_⟩
    rw[hb1.mpr fun _ _=>trivial]
    refine⟨_,rfl,dz ?_⟩
    have s1:=aq hD (.lst (xg.map V.bl))
    generalize upd H D (.lst (xg.map V.bl))=H1 at s1 ⊢
    have hl1:=s1 _ _ hl
    have ht1:=ht.same s1
    obtain⟨b0,hb0⟩:∃ b0,bs[0]?=some b0:=⟨bs[0]'(by lia),List.getElem?_eq_getElem (by lia)⟩
    obtain⟨u0,hu0,r0,rfl,hr0⟩:=bx ht1 hb0
    refine⟨_,rfl,l,us,0,_,rfl,rfl,aQ.of hl1,cG (Int.le_refl 0) hu0,cI,fun p1 hp1=>?_⟩
    have s2:=aq hp1 (.tup [.int 0,.int 1])
    have g1:(upd H1 p1 (.tup [.int 0,.int 1])) p1=some (.tup [.int 0,.int 1]):=ak
    generalize upd H1 p1 (.tup [.int 0,.int 1])=H2 at s2 g1 ⊢
    refine⟨jk b0,jk (0,1),.tup (cT.of (s2 _ _ hr0)) (.cons (.int _) (.cons (.int _) .nil)),.tup (cT.of g1) (.cons (.int _) (.cons (.int _) .nil)),mY _,mY _,_,rfl,?_⟩
    show if PyData.eqv (jk b0) (jk (0,1))=true then _ else _
    rw[JN]
    have s12:=s1.trans s2
    by_cases c0:b0=(0,1)
    ·refine dO (decide_eq_true c0) ?_
     have hl2:=s2 _ _ hl1
     refine⟨_,rfl,_,rfl,_,rfl,l,us,rfl,aQ.of hl2,fun p2 hp2=>?_⟩
     rw[FW]
     have s3:=aq hp2 (.lst (us.drop 1))
     have g2:(upd H2 p2 (.lst (us.drop 1))) p2=some (.lst (us.drop 1)):=ak
     generalize upd H2 p2 (.lst (us.drop 1))=H3 at s3 g2 ⊢
     have hl3:=s3 _ _ hl2
     have FT:=(ht1.same s2).same s3
     refine⟨l,p2,rfl,⟨_,aQ.of hl3⟩,⟨_,aQ.of g2⟩,FZ (K:=K) (a:=l) (b:=p2) (xs:=us) (ys:=us.drop 1) (by rw[List.length_drop];lia)
      (fun i zs H4=>Same H3 H4∧oJ (fun j=>∀ b c,bs[j]?=some b→bs[j+1]?=some c→b.1*c.2<c.1*b.2) i zs) ⟨Same.refl _,fY _⟩ (fun i zs H4 hi ⟨e,ha⟩=>⟨e.seq (aQ.of hl3),e.seq (aQ.of g2),ha.lt (by rw[List.length_drop] at hi;lia)⟩) ?_ ?_⟩
     ·rintro i v v' zs H4 p hi hi' ⟨s4,ha⟩ hp
      rw[List.getElem?_drop,Nat.add_comm] at hi'
      obtain⟨b,hb,r1,rfl,hr1⟩:=bh FT hi
      obtain⟨c,hc,r2,rfl,hr2⟩:=bh FT hi'
      have s5:=s4.trans (aq hp (.tup [.ref r1,.ref r2]))
      refine⟨p,_,rfl,cT.of ak,rfl,_,_,rfl,_,_,rfl,rfl,Rf ?_⟩
      refine⟨_,rfl,_,rfl,r1,r2,b,c,rfl,s5 _ _ hr1,s5 _ _ hr2,hok b (List.mem_of_getElem? hb),hok c (List.mem_of_getElem? hc),s5,ha.snoc ?_⟩
      rw[decide_eq_true_iff]
      refine⟨fun z b' c' e1 e2=>?_,fun z=>z b c hb hc⟩
      rw[hb] at e1;cases e1
      rw[hc] at e2;cases e2
      exact z
     ·rintro zs H4 ⟨s4,Yc,rfl,_,hb2⟩ D2 hD2
      refine⟨D2,Yc,rfl,aQ.of ak,?_⟩
      refine q _ _ ?_ (((s12.trans s3).trans s4).trans (aq hD2 _))
      rw[hb2]
      constructor
      ·intro z
       refine⟨by rw[hb0,c0],fun i b c e1 e2=>z i ?_ b c e1 e2⟩
       have:=(List.getElem?_eq_some_iff.mp e2).1
       rw[List.length_drop]
       lia
      ·intro z j _ b c e1 e2
       exact z.2 j b c e1 e2
    ·refine dX (decide_eq_false c0) (q false H2 ⟨fun z=>(by cases z),fun z=>?_⟩ s12)
     have:=z.1
     rw[hb0] at this
     exact absurd (Option.some.inj this) c0
inductive JQ (vs:List V)(H:Hp)(Q:VK):Prop
 | mk (b l:Addr) (xs:List V) (ks:List Int) (c0:vs=[.ref b,.ref l]) (c1:H b=some (.lst xs)) (c2:H l=some (.lst (ks.map V.int))) (c3:ks.length≤1000) (c4:∀ v H',(v=true↔((∀ k∈ks,0≤k∧k<(xs.length:Int))∧Unlike ks))→Same H H'→Q (.bl v) H'):JQ  vs H Q
def JR:Sp:=fun vs H Q _=>JQ  vs H Q
theorem qM:aY ["book", "places"] ["book", "places"] (aC gF):=⟨rfl,rfl,rfl,by decide +kernel,rfl,by decide +kernel,by decide +kernel⟩
theorem qN {f:Addr}{fd:FuncData}(F:gY K "are_places_in_turn" "are_places_in_turn" gF f fd)(B:Bl mg)(T:CT K mg z)
  (gJ:Cl P w K mg base 2 "is_place" ["book", "value"] o9):cA P w K mg base gB 3 f fd ["book", "places"] JR:=by
 refine F.ok qM (fun vs H Q E h=>?_) (fun cdv A outer s H vs Q E hr h=>?_)
 ·obtain⟨b,l,xs,ks,rfl,_⟩:=h
  rfl
 ·obtain⟨b,l,xs,ks,rfl,hb,hl,hn,q⟩:=h
  refine⟨_,(aB (bY (dh (cR (aK (tM K rfl rfl) rfl B.all boot_all (aj (cF (N':=["place", "book"]) (k:=1) (js:=[0]) ⟨rfl,by decide +kernel,by decide +kernel,by rfl,by rfl,rfl⟩ rfl (bM K rfl (pv 1))
      (fun _ _ _ _ _=>(aZ (i:=0) (show (["place", "book"]:List Str).Nodup by decide +kernel) rfl (Or.inl rfl))) (bI (by decide)) (fun _ _ _ _ _=>cD)
      (fun _ _ _ _ _=>(gJ.pe hr (aj (pv 1) (aj (pv 0) ao))))) ao)))) (aD (aN cM)) bw)
     (aD (aN (aK (tM K rfl rfl) rfl B.all boot_all (aj (cF (N':=["one", "other"]) (k:=2) (js:=[]) ⟨rfl,by decide +kernel,by decide +kernel,by rfl,by rfl,rfl⟩ rfl (tE K rfl rfl B.zip (aj (pv 1) (aj (cB K rfl (pv 1) (cH aA) cZ) ao)))
       (fun _ _ _ _ _=>(gn K (n:=2) rfl rfl (bO (aZ (i:=0) (show (["one", "other"]:List Str).Nodup by decide +kernel) rfl (Or.inl rfl)) (bO (aZ (i:=1) (show (["one", "other"]:List Str).Nodup by decide +kernel) rfl (Or.inl rfl)) gk)))) (qT (dN (bI (by decide)) (dN (bI (by decide)) mU))) (fun _ _ _ _ _=>cD)
       (fun _ _ _ _ _=>(bW mR (pv 0) (pv 1) (aU _)))) ao))))),?_⟩
  refine⟨_,rfl,l,rfl,⟨_,aQ.of hl⟩,bV (K:=K) (a:=l) (xs:=ks.map V.int) (fun i ys H2=>H=H2∧oJ (fun j=>∀ k,ks[j]?=some k→0≤k∧k<(xs.length:Int)) i ys) ⟨rfl,fY _⟩ (fun i ys H2 hi ⟨e,ha⟩=>⟨by rw[←e];exact aQ.of hl,ha.lt (by rw[List.length_map] at hi;lia)⟩) ?_ ?_⟩
  ·rintro i v ys H2 hi ⟨rfl,ha⟩
   obtain⟨k,hk,rfl⟩:=int_at hi
   refine dg ?_
   refine⟨_,rfl,_,rfl,b,xs,k,rfl,hb,rfl,ha.snoc ?_⟩
   rw[Bool.and_eq_true,decide_eq_true_iff,decide_eq_true_iff]
   exact⟨fun z k' e=>by rw[hk] at e;cases e;exact z,fun z=>z k hk⟩
  ·rintro ys H2 ⟨rfl,xg,rfl,_,hb1⟩ D hD
   refine⟨D,xg,rfl,aQ.of ak,_,rfl,?_⟩
   rw[List.length_map] at hb1
   have all1:xg.all id=true↔∀ k∈ks,0≤k∧k<(xs.length:Int):=by
    rw[hb1]
    constructor
    ·intro z k hk
     obtain⟨j,hj⟩:=List.getElem?_of_mem hk
     exact z j (List.getElem?_eq_some_iff.mp hj).1 k hj
    ·intro z j _ k e
     exact z k (List.mem_of_getElem? e)
   have s1:=aq hD (.lst (xg.map V.bl))
   generalize upd H D (.lst (xg.map V.bl))=H1 at s1 ⊢
   by_cases c1:xg.all id=true
   ·refine dX (by rw[c1];rfl) ?_
    have hl1:=s1 _ _ hl
    refine⟨_,rfl,_,rfl,_,rfl,l,_,rfl,aQ.of hl1,fun p2 hp2=>?_⟩
    rw[FW]
    have s3:=aq hp2 (.lst ((ks.map V.int).drop 1))
    have g2:(upd H1 p2 (.lst ((ks.map V.int).drop 1))) p2=some (.lst ((ks.map V.int).drop 1)):=ak
    generalize upd H1 p2 (.lst ((ks.map V.int).drop 1))=H3 at s3 g2 ⊢
    have hl3:=s3 _ _ hl1
    refine⟨l,p2,rfl,⟨_,aQ.of hl3⟩,⟨_,aQ.of g2⟩,FZ (K:=K) (a:=l) (b:=p2) (xs:=ks.map V.int) (ys:=(ks.map V.int).drop 1) (by rw[List.length_drop];lia)
     (fun i zs H4=>Same H3 H4∧oJ (fun j=>∀ k m,ks[j]?=some k→ks[j+1]?=some m→k≠m) i zs) ⟨Same.refl _,fY _⟩ (fun i zs H4 hi ⟨e,ha⟩=>⟨e.seq (aQ.of hl3),e.seq (aQ.of g2),ha.lt (by rw[List.length_drop,List.length_map] at hi;lia)⟩) ?_ ?_⟩
    ·rintro i v v' zs H4 p hi hi' ⟨s4,ha⟩ hp
     rw[List.getElem?_drop,Nat.add_comm] at hi'
     obtain⟨k,hk,rfl⟩:=int_at hi
     obtain⟨m,hm,rfl⟩:=int_at hi'
     have s5:=s4.trans (aq hp (.tup [.int k,.int m]))
     refine⟨p,_,rfl,cT.of ak,rfl,_,_,rfl,_,_,rfl,rfl,Rf ?_⟩
     refine⟨_,rfl,_,rfl,rfl,s5,ha.snoc ?_⟩
     rw[Bool.not_eq_true',decide_eq_false_iff_not]
     constructor
     ·intro z k' m' e1 e2 e3
      rw[hk] at e1;cases e1
      rw[hm] at e2;cases e2
      exact z (by rw[e3])
     ·intro z e
      exact z k m hk hm (V.int.inj e)
    ·rintro zs H4 ⟨s4,Yc,rfl,_,hb2⟩ D2 hD2
     refine⟨D2,Yc,rfl,aQ.of ak,?_⟩
     refine q _ _ ?_ (((s1.trans s3).trans s4).trans (aq hD2 _))
     rw[hb2]
     constructor
     ·intro z
      refine⟨all1.mp c1,fun i k m e1 e2=>z i ?_ k m e1 e2⟩
      have:=(List.getElem?_eq_some_iff.mp e2).1
      rw[List.length_drop,List.length_map]
      lia
     ·intro z j _ k m e1 e2
      exact z.2 j k m e1 e2
   ·have c1':=Bool.eq_false_iff.mpr c1
    refine dO (by rw[c1'];rfl) (q false H1 ⟨fun z=>(by cases z),fun z=>?_⟩ s1)
    exact absurd (all1.mpr z.1) c1
end
theorem Ga {ps:List (Int×Int)}{k m:Int}{b:Int×Int}(h1:m∈costs ps b.1 b.2)(h2:∀ c∈costs ps b.1 b.2,m≤c):¬ m<cst (tar ps k) b.1 b.2↔dB ps k b:=by
 unfold dB
 constructor
 ·intro z p hp
  have:=h2 (cst p b.1 b.2) (List.mem_map_of_mem hp)
  lia
 ·intro z
  obtain⟨p,hp,e⟩:=List.mem_map.mp h1
  have:=z p hp
  lia
section
variable{P:Program}{w:World}{K:PySem.W.Frag}{mg:Str→Option Value}{base:Heap}{z:Cz}
inductive Sw (vs:List V)(H:Hp)(Q:VK):Prop
 | mk (b l m:Addr) (us:List V) (ps bs:List (Int×Int)) (ks:List Int) (c0:vs=[.ref b,.ref l,.ref m]) (c1:bH H b ps) (c2:ps≠[]) (c3:ps.length≤1000) (c4:(∀ p∈ps,mO p)) (c5:H l=some (.lst us)) (c6:cu H us bs) (c7:(∀ p∈bs,tO p.1 p.2)) (c8:H m=some (.lst (ks.map V.int))) (c9:bs.length=ks.length) (Qo:Lx ps ks) (c11:∀ v H',(v=true↔WM ps bs ks)→Same H H'→Q (.bl v) H'):Sw  vs H Q
def Sx:Sp:=fun vs H Q _=>Sw  vs H Q
theorem cN:aY ["book", "begins", "places", "index", "begin", "tops", "least"] ["book", "begins", "places"] (aC fu):=⟨rfl,rfl,rfl,by decide +kernel,rfl,by decide +kernel,by decide +kernel⟩
theorem mQ {f:Addr}{fd:FuncData}(F:gY K "are_least_at_both_ends" "are_least_at_both_ends" fu f fd)(B:Bl mg)(T:CT K mg z)
  (dF:Cl P w K mg base 2 "tops_of_cost" ["book", "amount"] Bm):cA P w K mg base gB 3 f fd ["book", "begins", "places"] Sx:=by
 refine F.ok cN (fun vs H Q E h=>?_) (fun cdv A outer s H vs Q E hr h=>?_)
 ·obtain⟨b,l,m,us,ps,bs,ks,rfl,_⟩:=h
  rfl
 ·obtain⟨b,l,m,us,ps,bs,ks,rfl,hB,hne,qD,hok,hl,ht,hoa,hm,hlen,hin,q⟩:=h
  have Bv:=ht.len
  refine⟨_,(aB (jP PassesOwn.never rfl (vK K rfl rfl B.enum (aj (pv 1) ao)) (gn K (n:=2) rfl rfl (bO (aZ (i:=3) cN.nd rfl (Or.inl rfl)) (bO (aZ (i:=4) cN.nd rfl (Or.inl rfl)) gk)))
     (aB (aW (i:=5) cN.nd rfl (Or.inl rfl) (dF.pe hr (aj (pv 0) (aj (pv 4) ao))))
     (aB (aW (i:=6) cN.nd rfl (Or.inl rfl) (aK (O7 K rfl rfl) rfl B.min boot_min (aj (pv 5) ao)))
     (aB (bY (bB iQ (aH (aP K) (pv 5) (aH (aP K) (pv 2) (pv 3) (fun _ _=>rfl)) (fun _ _=>rfl)) (pv 6) (aU _)) (aD (aN cM)) bw)
     (aD (bY (PW.pt (pw_and (bB iQ (pv 3) aA (aU _)) (pw_and1 (bB iQ (aH (aP K) (pv 5) (aH (aP K) (pv 2) (aF gb (pv 3) aA) (fun _ _=>rfl)) (fun _ _=>rfl)) (pv 6) (aU _))))) (aD (aN cM)) bw))))))
     (aD (aN cM))),?_⟩
  have Ug:∀ x y,costs ps x y≠[]:=fun x y e=>by
   rw[costs,List.map_eq_nil_iff] at e
   exact hne e
  refine⟨_,rfl,l,rfl,⟨_,aQ.of hl⟩,Jl (K:=K) (a:=l) (xs:=us) (fun i σ H2=>Same H H2∧∃ v3 v4 v5 v6,σ=[some (.ref b),some (.ref l),some (.ref m),v3,v4,v5,v6] ∧
    ∀ j,j<i→(∀ b k,bs[j]?=some b→ks[j]?=some k→dB ps k b)∧∀ i' b k,j=i'+1→bs[j]?=some b→ks[i']?=some k→dB ps k b)
   ⟨Same.refl _,_,_,_,_,rfl,fun j hj=>absurd hj (Nat.not_lt_zero j)⟩ (fun i σ H2 _ ⟨e,_⟩=>e.seq (aQ.of hl)) ?_ ?_⟩
  ·rintro i x σ H2 p hi ⟨s2,v3,v4,v5,v6,rfl,hall⟩ hp
   obtain⟨b0,hb0,rB,rfl,hrB⟩:=bh ht hi
   have ob:=hoa b0 (List.mem_of_getElem? hb0)
   have s3:=s2.trans (aq hp (.tup [.int (i:Nat),.ref rB]))
   refine⟨p,_,rfl,cT.of ak,rfl,_,_,rfl,_,_,rfl,rfl,?_⟩
   generalize upd H2 p (.tup [.int (i:Nat),.ref rB])=H3 at s3 ⊢
   refine⟨_,rfl,_,rfl,b,rB,ps,_,_,rfl,hB.same s3,qD,hok,s3 _ _ hrB,ob,fun t ht0=>?_⟩
   have s4:=s3.trans (aq ht0 (.lst ((costs ps b0.1 b0.2).map V.int)))
   have g4:(upd H3 t (.lst ((costs ps b0.1 b0.2).map V.int))) t=some (.lst ((costs ps b0.1 b0.2).map V.int)):=ak
   generalize upd H3 t (.lst ((costs ps b0.1 b0.2).map V.int))=H4 at s4 g4 ⊢
   refine⟨_,rfl,t,_,rfl,aQ.of g4,Ug _ _,fun mn hm1 hm2=>?_⟩
   have hik:i<ks.length:=by
    have:=(List.getElem?_eq_some_iff.mp hb0).1
    lia
   obtain⟨k,hk⟩:∃ k,ks[i]?=some k:=⟨ks[i],List.getElem?_eq_getElem hik⟩
   obtain⟨k0,k1⟩:=hin k (List.mem_of_getElem? hk)
   have hm4:=s4 _ _ hm
   refine⟨_,rfl,_,rfl,_,rfl,m,_,_,_,rfl,rfl,aQ.of hm4,uq (by rw[List.getElem?_map,hk];rfl),t,_,k,_,rfl,rfl,aQ.of g4,cG k0 (Bw k0 k1),_,rfl,_,_,rfl,rfl,_,rfl,?_⟩
   have li:=Ga (k:=k) hm1 hm2
   by_cases c1:mn<cst (tar ps k) b0.1 b0.2
   ·refine dO (decide_eq_true c1) (q false H4 ⟨fun z=>(by cases z),fun z=>?_⟩ s4)
    exact absurd c1 (li.mpr (z.1 i b0 k hb0 hk))
   ·refine dX (decide_eq_false c1) ?_
    have l1:=li.mp c1
    refine⟨_,rfl,_,_,rfl,rfl,_,rfl,?_⟩
    by_cases c2:(0:Int)<(i:Nat)
    ·refine dO (decide_eq_true c2) ?_
     obtain⟨i',rfl⟩:∃ i',i=i'+1:=⟨i-1,by lia⟩
     obtain⟨k',hk'⟩:∃ k',ks[i']?=some k':=⟨ks[i']'(by lia),List.getElem?_eq_getElem (by lia)⟩
     obtain⟨k0',k1'⟩:=hin k' (List.mem_of_getElem? hk')
     have li':=Ga (k:=k') hm1 hm2
     refine⟨_,rfl,_,rfl,_,rfl,_,_,rfl,rfl,m,_,_,_,rfl,rfl,aQ.of hm4,(show Ja (ks.map V.int) (((i'+1:Nat):Int)-1)=some (V.int k') by rw[show ((i'+1:Nat):Int)-1=(i':Int) by lia];exact uq (by rw[List.getElem?_map,hk'];rfl)),t,_,k',_,rfl,rfl,aQ.of g4,cG k0' (Bw k0' k1'),_,rfl,_,_,rfl,rfl,_,rfl,?_⟩
     by_cases c3:mn<cst (tar ps k') b0.1 b0.2
     ·refine dO (decide_eq_true c3) (q false H4 ⟨fun z=>(by cases z),fun z=>?_⟩ s4)
      exact absurd c3 (li'.mpr (z.2 i' b0 k' hb0 hk'))
     ·refine dX (decide_eq_false c3) ?_
      refine⟨s4,_,_,_,_,rfl,fun j hj=>?_⟩
      by_cases ej:j=i'+1
      ·subst ej
       refine⟨fun b k2 e1 e2=>?_,fun i2 b k2 e0 e1 e2=>?_⟩
       ·rw[hb0] at e1;cases e1
        rw[hk] at e2;cases e2
        exact l1
       ·have e9:i2=i':=by lia
        subst e9
        rw[hb0] at e1;cases e1
        rw[hk'] at e2;cases e2
        exact li'.mp c3
      ·exact hall j (by lia)
    ·refine dX (decide_eq_false c2) ?_
     refine dz ?_
     have ei:i=0:=by lia
     subst ei
     refine⟨s4,_,_,_,_,rfl,fun j hj=>?_⟩
     have ej:j=0:=by lia
     subst ej
     refine⟨fun b k2 e1 e2=>?_,fun i2 b k2 e0 e1 e2=>(by cases e0)⟩
     rw[hb0] at e1;cases e1
     rw[hk] at e2;cases e2
     exact l1
  ·rintro σ H2 ⟨s2,v3,v4,v5,v6,rfl,hall⟩
   refine q true H2 ⟨fun _=>⟨fun i b k e1 e2=>?_,fun i b k e1 e2=>?_⟩,fun _=>rfl⟩ s2
   ·exact (hall i (by rw[Bv];exact (List.getElem?_eq_some_iff.mp e1).1)).1 b k e1 e2
   ·exact (hall (i+1) (by rw[Bv];exact (List.getElem?_eq_some_iff.mp e1).1)).2 i b k rfl e1 e2
abbrev tH (bL kL:Addr):List (Str×V):=iC "places" (.ref kL) (iC "begins" (.ref bL) [])
theorem gK (b k:Addr):(tH b k).lookup ("begins" : Str)=some (.ref b):=rfl
theorem fO (b k:Addr):(tH b k).lookup ("places" : Str)=some (.ref k):=rfl
theorem BJ (b k:Addr):(tH b k).lookup ("shows" : Str)=none:=rfl
inductive vZ (z:Cz)(vs:List V)(H:Hp)(Q:VK):Prop
 | mk (a dx b k:Addr) (us xs:List V) (c0:vs=[.ref a,.ref b,.ref k]) (c1:H a=some (.ins z.Ranges dx [])) (c2:H b=some (.lst us)) (c3:H k=some (.lst xs)) (c4:∀ (bL kL:Addr) (H':Hp),(∀ c o,c≠a→H c=some o→H' c=some o)→H' a=some (.ins z.Ranges dx (tH bL kL))→H' bL=some (.lst us)→H' kL=some (.lst xs)→bL≠kL→H bL=none→H kL=none→Q .non H'):vZ z vs H Q
def gR (z:Cz):Sp:=fun vs H Q _=>vZ z vs H Q
theorem BK:aY ["self", "begins", "places"] ["self", "begins", "places"] (aC oh):=⟨rfl,rfl,rfl,by decide +kernel,rfl,by decide +kernel,by decide +kernel⟩
theorem BL {f:Addr}{fd:FuncData}(F:gY K "__init__" "Ranges.__init__" oh f fd)(B:Bl mg)(T:CT K mg z):cA P w K mg base gB 1 f fd ["self", "begins", "places"] (gR z):=by
 refine F.ok BK (fun vs H Q E h=>?_) (fun cdv A outer s H vs Q E hr h=>?_)
 ·obtain⟨a,dx,b,k,us,xs,rfl,_⟩:=h
  rfl
 ·obtain⟨a,dx,b,k,us,xs,rfl,ha,hb,hk,q⟩:=h
  refine⟨_,(aB (jQ (pv 0) (fJ (Aj K) rfl B.list boot_list (aj (pv 1) ao)) rfl)
     (aD (jQ (pv 0) (fJ (Aj K) rfl B.list boot_list (aj (pv 2) ao)) rfl))),?_⟩
  refine⟨_,rfl,b,us,rfl,.inl (aQ.of hb),fun bL hbL=>?_⟩
  have s1:=aq hbL (.lst us)
  have g1:(upd H bL (.lst us)) bL=some (.lst us):=ak
  generalize upd H bL (.lst us)=H1 at s1 g1 ⊢
  refine⟨_,rfl,a,_,dx,_,rfl,s1 _ _ ha,T.cJ,T.cV,(by show 0<1000;decide),?_⟩
  have nab:bL≠a:=fun z=>by rw[z,ha] at hbL;cases hbL
  have nka:k≠a:=fun z=>by rw[z,ha] at hk;cases hk
  have k2:(upd H1 a (.ins z.Ranges dx (iC "begins" (.ref bL) []))) k=some (.lst xs):=by rw[aJ nka];exact s1 _ _ hk
  refine⟨_,rfl,k,xs,rfl,.inl (aQ.of k2),fun kL Y8=>?_⟩
  have Yd:kL≠a:=fun z=>by rw[z,ak] at Y8;cases Y8
  have aeO:bL≠kL:=fun z=>by rw[←z,aJ nab,g1] at Y8;cases Y8
  have a3:(upd (upd H1 a (.ins z.Ranges dx (iC "begins" (.ref bL) []))) kL (.lst xs)) a=some (.ins z.Ranges dx (iC "begins" (.ref bL) [])):=by rw[aJ Yd.symm,ak]
  refine⟨_,rfl,a,_,dx,_,rfl,a3,T.cJ,T.cL,(by show 1<1000;decide),?_⟩
  have aeP:H1 kL=none:=by rw[aJ Yd] at Y8;exact Y8
  refine q bL kL _ (fun c o hc e=>?_) ak ?_ ?_ aeO hbL (s1.free aeP)
  ·have e1:=s1 _ _ e
   rw[aJ hc,aJ (aM e1 aeP),aJ hc]
   exact e1
  ·rw[aJ nab,aJ aeO,aJ nab];exact g1
  ·rw[aJ Yd,ak]
def JT (z:Cz)(H:Hp)(a:Addr)(bs:List (Int×Int))(ks:List Int)(bL kL:Addr):Prop:=∃ dx us,H a=some (.ins z.Ranges dx (tH bL kL))∧H bL=some (.lst us)∧cu H us bs∧H kL=some (.lst (ks.map V.int))∧bL≠kL
inductive ur (z:Cz)(vs:List V)(H:Hp)(Q:VK):Prop
 | mk (a b bL kL:Addr) (ps bs:List (Int×Int)) (ks:List Int) (c0:vs=[.ref a,.ref b]) (c1:JT z H a bs ks bL kL) (c2:bH H b ps) (c3:ps≠[]) (c4:ps.length≤1000) (c5:(∀ p∈ps,mO p)) (c6:(∀ p∈bs,tO p.1 p.2)) (c7:bs.length≤1000) (c8:∀ v H',(v=true↔vY ps bs ks)→Same H H'→Q (.bl v) H'):ur z vs H Q
def jC (z:Cz):Sp:=fun vs H Q _=>ur z vs H Q
theorem j5:aY ["self", "book", "last", "lasting"] ["self", "book"] (aC lO):=⟨rfl,rfl,rfl,by decide +kernel,rfl,by decide +kernel,by decide +kernel⟩
theorem yR {f:Addr}{fd:FuncData}(F:gY K "shows" "Ranges.shows" lO f fd)(B:Bl mg)(T:CT K mg z)
  (Hl:Cl P w K mg base 4 "are_begins" ["begins"] Sv)
  (rP:Cl P w K mg base 3 "are_places_in_turn" ["book", "places"] JR)
  (oK:Cl P w K mg base 3 "are_least_at_both_ends" ["book", "begins", "places"] Sx):cA P w K mg base gB 5 f fd ["self", "book"] (jC z):=by
 refine F.ok j5 (fun vs H Q E h=>?_) (fun cdv A outer s H vs Q E hr h=>?_)
 ·obtain⟨a,b,bL,kL,ps,bs,ks,rfl,_⟩:=h
  rfl
 ·obtain⟨a,b,bL,kL,ps,bs,ks,rfl,hA,hB,hne,qD,hok,hoa,Qd,q⟩:=h
  obtain⟨dx,us,ha,hb,ht,hk,T5⟩:=id hA
  obtain⟨vs,hv,htb⟩:=id hB
  have yq:=htb.len
  have Bv:=ht.len
  refine⟨_,(aB (bY (bB mR (aK (iV K) rfl B.len PySem.boot_len (aj (bK K rfl (pv 0) rfl) ao)) (aK (iV K) rfl B.len PySem.boot_len (aj (bK K rfl (pv 0) rfl) ao)) (aU _)) (aD (aN cM)) bw)
     (aB (bY (PW.pt (pw_or (dh (cR (Hl.pe hr (aj (bK K rfl (pv 0) rfl) ao)))) (pw_or1 (dh (cR (rP.pe hr (aj (pv 1) (aj (bK K rfl (pv 0) rfl) ao)))))))) (aD (aN cM)) bw)
     (aB (aW (i:=2) j5.nd rfl (Or.inr rfl) (aH (aP K) (pv 1) (aH (aP K) (bK K rfl (pv 0) rfl) (oX jl aA) (fun _ _=>rfl)) (fun _ _=>rfl)))
     (aB (aW (i:=3) j5.nd rfl (Or.inl rfl) (aK (tM K rfl rfl) rfl B.all boot_all (aj (cF (N':=["tariff", "last"]) (k:=1) (js:=[2]) ⟨rfl,by decide +kernel,by decide +kernel,by rfl,by rfl,rfl⟩ rfl (bM K rfl (pv 1))
       (fun _ _ _ _ _=>(aZ (i:=0) (show (["tariff", "last"]:List Str).Nodup by decide +kernel) rfl (Or.inl rfl))) (bI (by decide)) (fun _ _ _ _ _=>cD)
       (fun _ _ _ _ _=>(bW qQ (aH (aG K) (pv 1) aA (fun _ _=>rfl)) (aH (aG K) (pv 0) aA (fun _ _=>rfl)) (aU _)))) ao)))
     (aD (aN (eF (pv 3) (iT (oK.pe hr (aj (pv 1) (aj (bK K rfl (pv 0) rfl) (aj (bK K rfl (pv 0) rfl) ao)))))))))))),?_⟩
  refine⟨_,rfl,a,_,dx,_,_,rfl,ha,T.cJ,T.cV,gK bL kL,bL,us,rfl,.inl (aQ.of hb),_,rfl,a,_,dx,_,_,rfl,ha,T.cJ,T.cL,fO bL kL,kL,_,rfl,.inl (aQ.of hk),rfl,_,rfl,?_⟩
  rw[List.length_map]
  by_cases c1:us.length=ks.length
  ·refine dX (by rw[c1];simp) ?_
   have hlen:bs.length=ks.length:=by lia
   refine⟨_,rfl,a,_,dx,_,_,rfl,ha,T.cJ,T.cV,gK bL kL,bL,us,bs,rfl,hb,ht,Qd,hoa,fun v1 H1 e1 s1=>⟨_,rfl,?_⟩⟩
   by_cases c2:v1=true
   ·refine dX (by rw[c2];rfl) ?_
    have bok:=e1.mp c2
    refine⟨_,rfl,_,rfl,a,_,dx,_,_,rfl,s1 _ _ ha,T.cJ,T.cL,fO bL kL,b,kL,vs,ks,rfl,s1 _ _ hv,s1 _ _ hk,by lia,fun v2 H2 e2 s2=>⟨_,rfl,?_⟩⟩
    have s12:=s1.trans s2
    rw[yq] at e2
    by_cases c3:v2=true
    ·refine dX (by rw[c3];rfl) ?_
     obtain⟨Dg,Yb⟩:=e2.mp c3
     have wX:0<ks.length:=by
      have:=(List.getElem?_eq_some_iff.mp bok.1).1
      lia
     obtain⟨kl,hkl⟩:∃ kl,ks[ks.length-1]?=some kl:=⟨ks[ks.length-1]'(by lia),List.getElem?_eq_getElem (by lia)⟩
     obtain⟨k0,k1⟩:=Dg kl (List.mem_of_getElem? hkl)
     have ekl:ks=ks.dropLast++[kl]:=by
      have hne':ks≠[]:=fun e=>by rw[e] at wX;cases wX
      have e2:=List.dropLast_concat_getLast hne'
      have e3:ks.getLast hne'=kl:=by
       rw[List.getLast_eq_getElem]
       exact (List.getElem?_eq_some_iff.mp hkl).2
      rw[e3] at e2
      exact e2.symm
     have eat:Ja (ks.map V.int) (-1)=some (.int kl):=by
      rw[ekl,List.map_append]
      exact mj _ _
     have Sy:=htb.same s12
     obtain⟨wk,hwk,rk,rfl,hrk⟩:=bx Sy (bD k0 k1)
     refine⟨_,rfl,_,rfl,a,_,dx,_,_,rfl,s12 _ _ ha,T.cJ,T.cL,fO bL kL,_,rfl,kL,_,-1,_,rfl,rfl,aQ.of (s12 _ _ hk),eat,b,vs,kl,_,rfl,rfl,aQ.of (s12 _ _ hv),cG k0 hwk,?_⟩
     refine⟨_,rfl,b,rfl,⟨_,aQ.of (s12 _ _ hv)⟩,bV (K:=K) (a:=b) (xs:=vs) (fun i ys H3=>H2=H3∧oJ (fun j=>∀ p,ps[j]?=some p→(tar ps kl).2≤p.2) i ys) ⟨rfl,fY _⟩ (fun i ys H3 hi ⟨e,ha'⟩=>⟨by rw[←e];exact aQ.of (s12 _ _ hv),ha'.lt (by lia)⟩) ?_ ?_⟩
     ·rintro i v ys H3 hi ⟨rfl,ha'⟩
      obtain⟨p,hp,r,rfl,hr'⟩:=bh Sy hi
      refine dg ?_
      refine⟨_,rfl,rk,_,1,_,rfl,rfl,cT.of hrk,rfl,_,rfl,r,_,1,_,rfl,rfl,cT.of hr',rfl,_,_,rfl,rfl,rfl,ha'.snoc ?_⟩
      rw[decide_eq_true_iff]
      exact⟨fun z p' e=>by rw[hp] at e;cases e;exact z,fun z=>z p hp⟩
     ·rintro ys H3 ⟨rfl,xg,rfl,_,hb1⟩ D hD
      refine⟨D,xg,rfl,aQ.of ak,?_⟩
      have s3:=s12.trans (aq hD (.lst (xg.map V.bl)))
      generalize upd H2 D (.lst (xg.map V.bl))=H4 at s3 ⊢
      have lst:xg.all id=true↔Nm ps ks:=by
       rw[hb1]
       constructor
       ·intro z k hk' p hp
        rw[hkl] at hk';cases hk'
        obtain⟨j,hj⟩:=List.getElem?_of_mem hp
        exact z j (by rw[yq];exact (List.getElem?_eq_some_iff.mp hj).1) p hj
       ·intro z j _ p e
        exact z kl hkl p (List.mem_of_getElem? e)
      refine⟨_,rfl,_,rfl,?_⟩
      by_cases c4:xg.all id=true
      ·rw[c4]
       refine fH ?_
       refine⟨_,rfl,_,rfl,a,_,dx,_,_,rfl,s3 _ _ ha,T.cJ,T.cV,gK bL kL,_,rfl,a,_,dx,_,_,rfl,s3 _ _ ha,T.cJ,T.cL,fO bL kL,?_⟩
       refine⟨b,bL,kL,us,ps,bs,ks,rfl,hB.same s3,hne,qD,hok,s3 _ _ hb,ht.same s3,hoa,s3 _ _ hk,hlen,Dg,fun v5 H5 e5 s5=>q v5 H5 ?_ (s3.trans s5)⟩
       rw[e5]
       exact⟨fun z=>⟨hlen,bok,Dg,Yb,z,lst.mp c4⟩,fun z=>z.ends⟩
      ·have c4':=Bool.eq_false_iff.mpr c4
       rw[c4']
       exact dz (q false H4 ⟨fun z=>(by cases z),fun z=>absurd (lst.mpr z.last) c4⟩ s3)
    ·have c3':=Bool.eq_false_iff.mpr c3
     refine dO (by rw[c3'];rfl) (q false H2 ⟨fun z=>(by cases z),fun z=>absurd (e2.mpr ⟨z.Dg,z.Yb⟩) c3⟩ s12)
   ·have c2':=Bool.eq_false_iff.mpr c2
    refine dO (by rw[c2'];rfl) (fH (q false H1 ⟨fun z=>(by cases z),fun z=>absurd (e1.mpr z.beg) c2⟩ s1))
  ·refine dO ?_ (q false H ⟨fun z=>(by cases z),fun z=>?_⟩ (Same.refl _))
   ·rw[decide_eq_false (fun e=>c1 (by have:=V.int.inj e;lia))]
    rfl
   ·have:=z.len
    lia
end
abbrev lxy (e:E):Int×Int:=(j8 e.x e.y,j9 e.x e.y)
theorem WQ:j8 0 1=0∧j9 0 1=1:=by decide
theorem nY.rng {ps:List (Int×Int)}{ns:List Int}{L:List E}(h:nY (ns.map (tar ps)) L)(hS:∀ p∈ps,p∈ns.map (tar ps))(hk:∀ e∈L,e.k∈ns∧e.t=tar ps e.k)(hn:∀ n∈ns,0≤n∧n<(ps.length:Int)):vY ps (L.map lxy) (L.map (·.k)) where
 len:=by rw[List.length_map,List.length_map]
 beg:=by
  refine⟨?_,fun i b c e1 e2=>?_⟩
  ·have hl:0<L.length:=List.length_pos_iff.mpr h.ne
   have e0:L[0]?=some L[0]:=List.getElem?_eq_getElem hl
   obtain⟨a,b⟩:=h.first _ e0
   rw[List.getElem?_map,e0]
   show some (j8 L[0].x L[0].y,j9 L[0].x L[0].y)=_
   rw[a,b,WQ.1,WQ.2]
  ·obtain⟨e,he,rfl⟩:=mz e1
   obtain⟨f,hf,rfl⟩:=mz e2
   exact RT (h.pos e (List.mem_of_getElem? he)).2 (h.pos f (List.mem_of_getElem? hf)).2 (h.next i e f he hf).2.2
 Dg:=fun k hk'=>by
  obtain⟨e,he,rfl⟩:=List.mem_map.mp hk'
  exact hn _ (hk e he).1
 Yb:=fun i k l e1 e2 z=>by
  obtain⟨e,he,rfl⟩:=mz e1
  obtain⟨f,hf,rfl⟩:=mz e2
  have d:=h.aeC he hf
  rw[(hk e (List.mem_of_getElem? he)).2,(hk f (List.mem_of_getElem? hf)).2,z] at d
  exact absurd d (Int.lt_irrefl _)
 ends:=by
  refine⟨fun i b k e1 e2 p hp=>?_,fun i b k e1 e2 p hp=>?_⟩
  ·obtain⟨e,he,rfl⟩:=mz e1
   obtain⟨f,hf,rfl⟩:=mz e2
   rw[he] at hf;cases hf
   have me:=List.mem_of_getElem? he
   rw[←(hk e me).2]
   exact RQ (h.pos e me).2 ((h.least e me).2 p (hS p hp))
  ·obtain⟨f,hf,rfl⟩:=mz e1
   obtain⟨e,he,rfl⟩:=mz e2
   have me:=List.mem_of_getElem? he
   have mf:=List.mem_of_getElem? hf
   obtain⟨nx,ny,_⟩:=h.next i e f he hf
   rw[←(hk e me).2]
   refine RQ (h.pos f mf).2 ?_
   have hm:=meet f.t e.t
   rw[←nx,←ny] at hm
   rw[←hm]
   exact (h.least f mf).2 p (hS p hp)
 last:=fun k hk' p hp=>by
  rw[List.length_map] at hk'
  obtain⟨e,he,rfl⟩:=mz hk'
  rw[←(hk e (List.mem_of_getElem? he)).2]
  exact h.last e he p (hS p hp)
section
variable{P:Program}{w:World}{K:PySem.W.Frag}{mg:Str→Option Value}{base:Heap}{z:Cz}
inductive JV (z:Cz)(vs:List V)(H:Hp)(Q:VK):Prop
 | mk (b:Addr) (ps:List (Int×Int)) (c0:vs=[.ref b]) (c1:bH H b ps) (c2:ps≠[]) (c3:ps.length≤1000) (c4:(∀ p∈ps,mO p)) (c5:Tab H) (c6:∀ (a bL kL:Addr) (bs:List (Int×Int)) (ks:List Int) (H':Hp),fM H H'→JT z H' a bs ks bL kL→vY ps bs ks→(∀ p∈bs,tO p.1 p.2)→bs.length≤ps.length→(∀ c o,H c=some o→nT o=true→c≠bL∧c≠kL)→Q (.ref a) H'):JV z vs H Q
def JW (z:Cz):Sp:=fun vs H Q _=>JV z vs H Q
theorem Gb:aY ["book", "turns"] ["book"] (aC Bc):=⟨rfl,rfl,rfl,by decide +kernel,rfl,by decide +kernel,by decide +kernel⟩
theorem Qe {f:Addr}{fd:FuncData}(F:gY K "ranges" "ranges" Bc f fd)(B:Bl mg)(T:CT K mg z)
  (kj:Cl P w K mg base 3 "check_book" ["book"] Bg)
  (jc:Cl P w K mg base 2 "lowest_terms" ["top", "bottom"] JL)
  (j6:Cl P w K mg base 2 "least_in_turn" ["book", "places"] Hi)
  (jd:Dm P w K mg base 1 z.Ranges ["self", "begins", "places"] (gR z)):cA P w K mg base gB 4 f fd ["book"] (JW z):=by
 refine F.ok Gb (fun vs H Q E h=>?_) (fun cdv A outer s H vs Q E hr h=>?_)
 ·obtain⟨b,ps,rfl,_⟩:=h
  rfl
 ·obtain⟨b,ps,rfl,hB,hne,qD,hok,hT,q⟩:=h
  obtain⟨vs,hv,ht⟩:=id hB
  have yq:=ht.len
  refine⟨_,(aB (iU (kj.pe hr (aj (pv 0) ao)))
     (aB (aW (i:=1) Gb.nd rfl (Or.inl rfl) (j6.pe hr (aj (pv 0) (aj (fJ (ud rfl) rfl B.list boot_list (aj (fJ Ft rfl B.range boot_range (aj (aK (iV K) rfl B.len PySem.boot_len (aj (pv 0) ao)) ao)) ao)) ao))))
     (aD (aN (jd.pe hr T.jt (aj (cF (N':=["begin"]) (k:=1) (js:=[]) ⟨rfl,by decide +kernel,by decide +kernel,by rfl,by rfl,rfl⟩ rfl (bM K rfl (aH (aG K) (pv 1) aA (fun _ _=>rfl)))
       (fun _ _ _ _ _=>(aZ (i:=0) (show (["begin"]:List Str).Nodup by decide +kernel) rfl (Or.inl rfl))) (bI (by decide)) (fun _ _ _ _ _=>cD)
       (fun _ _ _ _ _=>(jc.pe hr (aj (aH (aG K) (pv 0) aA (fun _ _=>rfl)) (aj (aH (aG K) (pv 0) aA (fun _ _=>rfl)) ao))))) (aj (aH (aG K) (pv 1) aA (fun _ _=>rfl)) ao))))))),?_⟩
  refine⟨_,rfl,b,ps,rfl,hB,hne,hok,?_⟩
  refine⟨_,rfl,_,rfl,b,vs,rfl,.inl (aQ.of hv),_,rfl,fun r1 hr1=>?_⟩
  have s1:=aq hr1 (.rng 0 (vs.length:Int))
  have g1:(upd H r1 (.rng 0 (vs.length:Int))) r1=some (.rng 0 (vs.length:Int)):=ak
  generalize upd H r1 (.rng 0 (vs.length:Int))=H1 at s1 g1 ⊢
  refine⟨r1,vs.length,rfl,g1,by lia,fun l1 hl1=>?_⟩
  have em:((List.range vs.length).map fun k=>V.int (k:Nat))=((List.range vs.length).map fun (k:Nat)=>(k:Int)).map V.int:=by rw[List.map_map];rfl
  rw[em]
  have s2:=s1.trans (aq hl1 (.lst (((List.range vs.length).map fun (k:Nat)=>(k:Int)).map V.int)))
  have g2:(upd H1 l1 (.lst (((List.range vs.length).map fun (k:Nat)=>(k:Int)).map V.int))) l1=some (.lst (((List.range vs.length).map fun (k:Nat)=>(k:Int)).map V.int)):=ak
  generalize upd H1 l1 (.lst (((List.range vs.length).map fun (k:Nat)=>(k:Int)).map V.int))=H2 at s2 g2 ⊢
  have hns:∀ n∈(List.range vs.length).map fun (k:Nat)=>(k:Int),0≤n∧n<(ps.length:Int):=fun n hn=>by
   obtain⟨k,hk,rfl⟩:=List.mem_map.mp hn
   have:=List.mem_range.mp hk
   lia
  have hS:∀ p∈ps,p∈((List.range vs.length).map fun (k:Nat)=>(k:Int)).map (tar ps):=fun p hp=>by
   obtain⟨j,hj⟩:=List.getElem?_of_mem hp
   obtain⟨hlt,e⟩:=List.getElem?_eq_some_iff.mp hj
   refine List.mem_map.mpr ⟨(j:Int),List.mem_map.mpr ⟨j,List.mem_range.mpr (by lia),rfl⟩,?_⟩
   show ps.getD (j:Int).toNat (0,0)=p
   rw[Int.toNat_natCast,List.getD_eq_getElem?_getD,hj]
   rfl
  have X6:∀ p∈((List.range vs.length).map fun (k:Nat)=>(k:Int)).map (tar ps),mO p:=fun p hp=>by
   obtain⟨n,hn,rfl⟩:=List.mem_map.mp hp
   obtain⟨n0,n1⟩:=hns n hn
   exact hok _ (List.mem_of_getElem? (bD n0 n1))
  have hlen:((List.range vs.length).map fun (k:Nat)=>(k:Int)).length=ps.length:=by rw[List.length_map,List.length_range,yq]
  generalize ((List.range vs.length).map fun (k:Nat)=>(k:Int))=ns at g2 hns hS X6 hlen ⊢
  refine⟨b,l1,ps,ns,rfl,hB.same s2,hok,g2,by lia,fun e=>?_,hns,hT.same s2,fun r bA kA H3 L us sT h1 h2 h3 h4 lJ hk hLl _ _=>?_⟩
  ·rw[e] at hlen
   exact hne (List.eq_nil_of_length_eq_zero hlen.symm)
  have sA:fM H H3:=(s2.t hT).trans sT
  have Bv:=h3.len
  rw[List.length_map] at Bv
  have T6:∀ e∈L,tO (j8 e.x e.y) (j9 e.x e.y)∧0≤e.x∧0<e.y∧Df e.y:=fun e he=>by
   obtain⟨x0,y0⟩:=lJ.pos e he
   obtain⟨x1,y1⟩:=lJ.small X6 e he
   exact⟨vP ⟨x0,x1⟩ ⟨Int.le_of_lt y0,y1⟩ y0,x0,y0,⟨Int.le_of_lt y0,y1⟩⟩
  refine⟨_,rfl,r,_,0,_,rfl,rfl,cT.of h1,rfl,bA,rfl,⟨_,aQ.of h2⟩,bV (K:=K) (a:=bA) (xs:=us) (fun i ys H4=>Same H3 H4∧cu H4 ys ((L.take i).map lxy)) ⟨Same.refl _,.nil⟩ (fun i ys H4 hi ⟨e,ha⟩=>⟨e.seq (aQ.of h2),?_⟩) ?_ ?_⟩
  ·rw[ha.len,List.length_map,List.length_take]
   exact bQ (by lia)
  ·rintro i v ys H4 hi ⟨s4,ha⟩
   obtain⟨p,hp,r1,rfl,hr1⟩:=bh h3 hi
   obtain⟨e,he,rfl⟩:=mz hp
   obtain⟨oa,x0,y0,oy⟩:=T6 e (List.mem_of_getElem? he)
   refine dg ?_
   refine⟨_,rfl,r1,_,0,_,rfl,rfl,cT.of (s4 _ _ hr1),rfl,_,rfl,r1,_,1,_,rfl,rfl,cT.of (s4 _ _ hr1),rfl,e.x,e.y,rfl,x0,y0,oy.fit,fun p5 hp5=>?_⟩
   have s5:=aq hp5 (.tup [.int (j8 e.x e.y),.int (j9 e.x e.y)])
   refine⟨s4.trans s5,?_⟩
   rw[vU lxy L i e he]
   exact dW (ha.same s5) (.cons ⟨p5,rfl,ak⟩ .nil)
  ·rintro ys H4 ⟨s4,ha⟩ D hD
   rw[Bv,List.take_of_length_le (Nat.le_refl _)] at ha
   have s5:=s4.trans (aq hD (.lst ys))
   have g5:(upd H4 D (.lst ys)) D=some (.lst ys):=ak
   have ha5:=ha.same (aq hD (.lst ys))
   generalize upd H4 D (.lst ys)=H5 at s5 g5 ha5 ⊢
   refine⟨_,rfl,r,_,1,_,rfl,rfl,cT.of (s5 _ _ h1),rfl,fun x dx hx hdx ndx=>?_⟩
   have s6:Same H5 (upd (upd H5 dx (.own x)) x (.ins z.Ranges dx [])):=(aq hdx _).trans (aq (by rw[aJ ndx.symm];exact hx) _)
   have g6:(upd (upd H5 dx (.own x)) x (.ins z.Ranges dx [])) x=some (.ins z.Ranges dx []):=ak
   generalize upd (upd H5 dx (.own x)) x (.ins z.Ranges dx [])=H6 at s6 g6 ⊢
   have s56:=s5.trans s6
   refine⟨x,dx,D,kA,ys,L.map ek,rfl,g6,s6 _ _ g5,s56 _ _ h4,fun bL kL H7 e7 a7 b7 k7 n7 nb nk=>⟨rfl,?_⟩⟩
   have nx:∀ c o,H5 c=some o→c≠x:=fun c o e=>aM e hx
   have T7:Same H5 H7:=fun c o e=>e7 c o (nx c o e) (s6 c o e)
   refine q x bL kL (L.map lxy) (L.map (·.k)) H7 (sA.then (s5.trans T7)) ⟨dx,ys,a7,b7,ha5.same T7,?_,n7⟩ (lJ.rng hS hk hns) (fun p hp=>?_) (by rw[List.length_map];lia) ?_
   ·rw[List.map_map]
    exact k7
   ·obtain⟨e,he,rfl⟩:=List.mem_map.mp hp
    exact (T6 e he).1
   ·intro c o e n
    have e6:=(sA.then s56).2 c o e n
    exact⟨aM e6 nb,aM e6 nk⟩
end
theorem mZ:∀ ks:List Int,PyData.canLayAll0 (ks.map PyData.int)=true
 | []=>rfl
 | k::ks=>by
  rw[List.map_cons,PyData.canLayAll0,mZ ks]
  simp[PyData.canLay0]
theorem pZ:∀ ks:List Int,PyData.depthAll (ks.map PyData.int)=0
 | []=>rfl
 | k::ks=>by
  have:=pZ ks
  rw[List.map_cons,PyData.depthAll,this]
  simp[PyData.depth]
theorem yu (ks:List Int):SeqAt.shaped (.list (ks.map PyData.int))=true:=by
 unfold SeqAt.shaped
 have h:=pZ ks
 have h2:=mZ ks
 simp[PyData.depth,PyData.canLay0,h,h2]
theorem mC {K:PySem.W.Frag}{H:Hp}:∀ ks:List Int,MP K H (ks.map V.int) (ks.map PyData.int)
 | []=>.nil
 | k::ks=>.cons (.int k) (mC ks)
theorem Ho (ks:List Int):PyData.eqv (.list (ks.map PyData.int)) (.list [])=decide (ks=[]):=by
 cases ks with
 | nil=>simp[PyData.eqv,PyData.eqvAll]
 | cons k r=>simp[PyData.eqv,PyData.eqvAll]
theorem LC {α:Type}{l:List α}{i:Nat}{a:α}(h:l[i]?=some a):(∃ b,l[i+1]?=some b∧(l.drop i).take 2=[a,b])∨(l[i+1]?=none∧(l.drop i).take 2=[a]):=by
 obtain⟨hi,e⟩:=List.getElem?_eq_some_iff.mp h
 have e1:l.drop i=a::l.drop (i+1):=by rw[List.drop_eq_getElem_cons hi,e]
 cases h2:l[i+1]? with
 | none =>
  have:l.length≤i+1:=List.getElem?_eq_none_iff.mp h2
  refine .inr ⟨rfl,?_⟩
  rw[e1,List.drop_of_length_le this]
  rfl
 | some b =>
  obtain⟨hj,e2⟩:=List.getElem?_eq_some_iff.mp h2
  refine .inl ⟨b,rfl,?_⟩
  rw[e1,List.drop_eq_getElem_cons hj,e2]
  rfl
theorem Vp {ks:List Int}{kl:Int}(h:ks[ks.length-1]?=some kl)(hp:0<ks.length):Ja (ks.map V.int) (-1)=some (.int kl):=by
 have hne:ks≠[]:=fun e=>by rw[e] at hp;cases hp
 have e2:=List.dropLast_concat_getLast hne
 have e3:ks.getLast hne=kl:=by
  rw[List.getLast_eq_getElem]
  exact (List.getElem?_eq_some_iff.mp h).2
 rw[e3] at e2
 rw[←e2,List.map_append]
 exact mj _ _
def SJ (ps bs:List (Int×Int))(ks:List Int)(j:Nat):Prop:=(∀ k m,ks[j]?=some k→ks[j+1]?=some m→k≠m)∧(∀ b c,bs[j]?=some b→bs[j+1]?=some c→b.1*c.2<c.1*b.2) ∧
 (∀ b k,bs[j]?=some b→ks[j]?=some k→dB ps k b)∧∀ b k,bs[j+1]?=some b→ks[j]?=some k→dB ps k b
section
variable{P:Program}{w:World}{K:PySem.W.Frag}{mg:Str→Option Value}{base:Heap}{z:Cz}
inductive Ge (vs:List V)(H:Hp)(Q:VK):Prop
 | mk (b l m:Addr) (us:List V) (ps bs:List (Int×Int)) (ks:List Int) (c0:vs=[.ref b,.ref l,.ref m]) (c1:bH H b ps) (c2:ps.length≤1000) (c3:(∀ p∈ps,mO p)) (c4:H l=some (.lst us)) (c5:cu H us bs) (c6:(∀ p∈bs,tO p.1 p.2)) (c7:H m=some (.lst (ks.map V.int))) (c8:ks.length≤1000) (c9:∀ v H',(v=true↔vY ps bs ks)→Same H H'→Q (.bl v) H'):Ge  vs H Q
def Gf:Sp:=fun vs H Q _=>Ge  vs H Q
theorem gM:aY ["_law_book_here", "_law_begins", "_law_places", "_law_at", "_law_place", "_law_ends", "_law_end"] ["_law_book_here", "_law_begins", "_law_places"] (aC oG):=⟨rfl,rfl,rfl,by decide +kernel,rfl,by decide +kernel,by decide +kernel⟩
theorem BP {f:Addr}{fd:FuncData}(F:gY K "_law_ranges" "_law_ranges" oG f fd)(B:Bl mg)(T:CT K mg z)
  (cP:Cl P w K mg base 1 "_law_cost" ["_law_tariff", "_law_amount_here"] um):cA P w K mg base gB 2 f fd ["_law_book_here", "_law_begins", "_law_places"] Gf:=by
 refine F.ok gM (fun vs H Q E h=>?_) (fun cdv A outer s H vs Q E hr h=>?_)
 ·obtain⟨b,l,m,us,ps,bs,ks,rfl,_⟩:=h
  rfl
 ·obtain⟨b,l,m,us,ps,bs,ks,rfl,hB,qD,hok,hl,ht,hoa,hm,hkl,q⟩:=h
  obtain⟨vs,hv,htb⟩:=id hB
  have yq:=htb.len
  have Bv:=ht.len
  have no:∀ H',Same H H'→¬ vY ps bs ks→Q (.bl false) H':=fun H' s e=>q false H' ⟨fun z=>(by cases z),fun z=>absurd z e⟩ s
  refine⟨_,(aB (bY (PW.pt (pw_or (bB (eqK K rfl hr.units) (pv 2) (bF ao) (aU _)) (pw_or (bB mR (aK (iV K) rfl B.len PySem.boot_len (aj (pv 1) ao)) (aK (iV K) rfl B.len PySem.boot_len (aj (pv 2) ao)) (aU _)) (pw_or1 (bB (Wr K rfl hr.units) (aH (aP K) (pv 1) aA (fun _ _=>rfl)) (bN (aj aA (aj aA ao))) (aU _)))))) (aD (aN cM)) bw)
     (aB (bY (cR (aK (UW K rfl rfl) rfl B.any boot_any (aj (cF (N':=["_law_place", "_law_book_here"]) (k:=1) (js:=[0]) ⟨rfl,by decide +kernel,by decide +kernel,by rfl,by rfl,rfl⟩ rfl (bM K rfl (pv 2))
       (fun _ _ _ _ _=>(aZ (i:=0) (show (["_law_place", "_law_book_here"]:List Str).Nodup by decide +kernel) rfl (Or.inl rfl))) (bI (by decide)) (fun _ _ _ _ _=>cD)
       (fun _ _ _ _ _=>(KZ (z9 qQ qt aA (pv 0) (aK (iV K) rfl B.len PySem.boot_len (aj (pv 1) ao)))))) ao))) (aD (aN cM)) bw)
     (aB (jP PassesOwn.never rfl (vK K rfl rfl B.enum (aj (pv 2) ao)) (gn K (n:=2) rfl rfl (bO (aZ (i:=3) gM.nd rfl (Or.inl rfl)) (bO (aZ (i:=4) gM.nd rfl (Or.inr rfl)) gk)))
     (aB (aW (i:=5) gM.nd rfl (Or.inl rfl) (cB K rfl (pv 1) (cH (pv 3)) (cH (aF dj (pv 3) aA))))
     (aB (bY (PW.pt (pw_and (bB iM (aK (iV K) rfl B.len PySem.boot_len (aj (pv 5) ao)) aA (aU _)) (pw_and1 (bB iM (pv 4) (aH (aP K) (pv 2) (aF dj (pv 3) aA) (fun _ _=>rfl)) (aU _))))) (aD (aN cM)) bw)
     (aB (bY (PW.pt (pw_and (bB iM (aK (iV K) rfl B.len PySem.boot_len (aj (pv 5) ao)) aA (aU _)) (pw_and1 (bB QG (aF dR (aH (aG K) (aH (aP K) (pv 5) aA (fun _ _=>rfl)) aA (fun _ _=>rfl)) (aH (aG K) (aH (aP K) (pv 5) aA (fun _ _=>rfl)) aA (fun _ _=>rfl))) (aF dR (aH (aG K) (aH (aP K) (pv 5) aA (fun _ _=>rfl)) aA (fun _ _=>rfl)) (aH (aG K) (aH (aP K) (pv 5) aA (fun _ _=>rfl)) aA (fun _ _=>rfl))) (aU _))))) (aD (aN cM)) bw)
     (aD (jP PassesOwn.never rfl (bM K rfl (pv 5)) (aZ (i:=6) gM.nd rfl (Or.inr rfl))
     (aD (bY (cR (aK (UW K rfl rfl) rfl B.any boot_any (aj (cF (N':=["_law_tariff", "_law_book_here", "_law_place", "_law_end"]) (k:=1) (js:=[0,4,6]) ⟨rfl,by decide +kernel,by decide +kernel,by rfl,by rfl,rfl⟩ rfl (bM K rfl (pv 0))
       (fun _ _ _ _ _=>(aZ (i:=0) (show (["_law_tariff", "_law_book_here", "_law_place", "_law_end"]:List Str).Nodup by decide +kernel) rfl (Or.inl rfl))) (bI (by decide)) (fun _ _ _ _ _=>cD)
       (fun _ _ _ _ _=>(bW qt (cP.pe hr (aj (pv 0) (aj (pv 3) ao))) (cP.pe hr (aj (aH (aP K) (pv 1) (pv 2) (fun _ _=>rfl)) (aj (pv 3) ao))) (aU _)))) ao))) (aD (aN cM)) bw))))))))
     (aD (aN (aK (tM K rfl rfl) rfl B.all boot_all (aj (cF (N':=["_law_tariff", "_law_book_here", "_law_places"]) (k:=1) (js:=[0,2]) ⟨rfl,by decide +kernel,by decide +kernel,by rfl,by rfl,rfl⟩ rfl (bM K rfl (pv 0))
       (fun _ _ _ _ _=>(aZ (i:=0) (show (["_law_tariff", "_law_book_here", "_law_places"]:List Str).Nodup by decide +kernel) rfl (Or.inl rfl))) (bI (by decide)) (fun _ _ _ _ _=>cD)
       (fun _ _ _ _ _=>(bW QG (aH (aG K) (pv 0) aA (fun _ _=>rfl)) (aH (aG K) (aH (aP K) (pv 1) (aH (aP K) (pv 2) (oX jl aA) (fun _ _=>rfl)) (fun _ _=>rfl)) aA (fun _ _=>rfl)) (aU _)))) ao))))))),?_⟩
  refine⟨_,rfl,Nat.zero_le _,fun p0 hp0=>?_⟩
  have s1:=aq hp0 (.lst [])
  have g1:(upd H p0 (.lst [])) p0=some (.lst []):=ak
  generalize upd H p0 (.lst [])=H1 at s1 g1 ⊢
  refine⟨.list (ks.map PyData.int),.list [],.lst (aQ.of (s1 _ _ hm)) (mC ks),.lst (aQ.of g1) .nil,yu ks,yu [],_,rfl,?_⟩
  show if PyData.eqv (.list (ks.map PyData.int)) (.list [])=true then _ else _
  rw[Ho]
  by_cases c1:ks=[]
  ·refine dO (decide_eq_true c1) (fH (no H1 s1 fun z=>?_))
   have h1:=z.len
   rw[c1] at h1
   have h2:=z.beg.1
   rw[List.eq_nil_of_length_eq_zero h1] at h2
   cases h2
  refine dX (decide_eq_false c1) ?_
  refine⟨_,rfl,l,us,rfl,.inl (aQ.of (s1 _ _ hl)),_,rfl,m,_,rfl,.inl (aQ.of (s1 _ _ hm)),rfl,_,rfl,?_⟩
  rw[List.length_map]
  by_cases c2:us.length=ks.length
  case neg =>
   refine dO (by rw[decide_eq_false (fun e=>c2 (by have:=V.int.inj e;lia))];rfl) (fH (no H1 s1 fun z=>?_))
   have:=z.len
   lia
  refine dX (by rw[c2];simp) ?_
  have hlen:bs.length=ks.length:=by lia
  have kpos:0<ks.length:=List.length_pos_iff.mpr c1
  obtain⟨b0,hb0⟩:∃ b0,bs[0]?=some b0:=⟨bs[0]'(by lia),List.getElem?_eq_getElem (by lia)⟩
  have ht1:=ht.same s1
  obtain⟨u0,hu0,r0,rfl,hr0⟩:=bx ht1 hb0
  refine⟨_,rfl,l,us,0,_,rfl,rfl,aQ.of (s1 _ _ hl),cG (Int.le_refl 0) hu0,cI,fun p1 hp1=>?_⟩
  have s2:=aq hp1 (.tup [.int 0,.int 1])
  have g2:(upd H1 p1 (.tup [.int 0,.int 1])) p1=some (.tup [.int 0,.int 1]):=ak
  generalize upd H1 p1 (.tup [.int 0,.int 1])=H2 at s2 g2 ⊢
  have s12:=s1.trans s2
  refine⟨jk b0,jk (0,1),.tup (cT.of (s2 _ _ hr0)) (.cons (.int _) (.cons (.int _) .nil)),.tup (cT.of g2) (.cons (.int _) (.cons (.int _) .nil)),mY _,mY _,_,rfl,?_⟩
  show if (!PyData.eqv (jk b0) (jk (0,1)))=true then _ else _
  rw[JN]
  by_cases c3:b0=(0,1)
  case neg =>
   refine dO (by rw[decide_eq_false c3];rfl) (no H2 s12 fun z=>?_)
   have:=z.beg.1
   rw[hb0] at this
   exact c3 (Option.some.inj this)
  refine dX (by rw[decide_eq_true c3];rfl) ?_
  have hv2:=s12 _ _ hv
  have hm2:=s12 _ _ hm
  refine⟨_,rfl,m,rfl,⟨_,aQ.of hm2⟩,bV (K:=K) (a:=m) (xs:=ks.map V.int) (fun i ys H3=>H2=H3∧Dp (fun j=>∀ k,ks[j]?=some k→0≤k∧k<(ps.length:Int)) i ys) ⟨rfl,vX _⟩ (fun i ys H3 hi ⟨e,ha⟩=>⟨by rw[←e];exact aQ.of hm2,ha.lt (by rw[List.length_map] at hi;lia)⟩) ?_ ?_⟩
  ·rintro i v ys H3 hi ⟨rfl,ha⟩
   obtain⟨k,hk,rfl⟩:=int_at hi
   refine dg ?_
   refine⟨_,rfl,_,_,rfl,rfl,_,rfl,?_⟩
   by_cases k0:0≤k
   ·refine dO (decide_eq_true k0) ?_
    refine⟨_,rfl,b,vs,rfl,.inl (aQ.of hv2),_,_,rfl,rfl,_,rfl,rfl,ha.snoc ?_⟩
    rw[Bool.not_eq_false',decide_eq_true_iff,yq]
    exact⟨fun z k' e=>by rw[hk] at e;cases e;exact⟨k0,z⟩,fun z=>(z k hk).2⟩
   ·refine dX (decide_eq_false k0) ?_
    refine⟨_,rfl,rfl,ha.snoc ⟨fun z=>(by cases z),fun z=>absurd (z k hk).1 k0⟩⟩
  rintro ys H3 ⟨rfl,xg,rfl,_,hb1⟩ D hD
  refine⟨D,xg,rfl,aQ.of ak,_,rfl,?_⟩
  rw[List.length_map] at hb1
  have Dg:xg.any id=false↔Lx ps ks:=by
   rw[hb1]
   constructor
   ·intro z k hk
    obtain⟨j,hj⟩:=List.getElem?_of_mem hk
    exact z j (List.getElem?_eq_some_iff.mp hj).1 k hj
   ·intro z j _ k e
    exact z k (List.mem_of_getElem? e)
  have s3:=s12.trans (aq hD (.lst (xg.map V.bl)))
  generalize upd H2 D (.lst (xg.map V.bl))=H4 at s3 ⊢
  by_cases c4:xg.any id=false
  case neg =>
   refine dO (by simpa using c4) (no H4 s3 fun z=>c4 (Dg.mpr z.Dg))
  refine dX c4 ?_
  have hin:=Dg.mp c4
  clear hb1 Dg hD
  have hm4:=s3 _ _ hm
  refine⟨_,rfl,m,rfl,⟨_,aQ.of hm4⟩,Jl (K:=K) (a:=m) (xs:=ks.map V.int) (fun i σ H5=>Same H H5∧∃ v3 v4 v5 v6,σ=[some (.ref b),some (.ref l),some (.ref m),v3,v4,v5,v6]∧∀ j,j<i→SJ ps bs ks j)
   ⟨s3,_,_,_,_,rfl,fun j hj=>absurd hj (Nat.not_lt_zero j)⟩ (fun i σ H5 _ ⟨e,_⟩=>e.seq (aQ.of hm)) ?_ ?_⟩
  ·rintro i x σ H5 p hi ⟨s5,v3,v4,v5,v6,rfl,hall⟩ hp
   obtain⟨k,hk,rfl⟩:=int_at hi
   obtain⟨k0,k1⟩:=hin k (List.mem_of_getElem? hk)
   have hik:=(List.getElem?_eq_some_iff.mp hk).1
   have s6:=s5.trans (aq hp (.tup [.int (i:Nat),.int k]))
   refine⟨p,_,rfl,cT.of ak,rfl,_,_,rfl,_,_,rfl,rfl,?_⟩
   generalize upd H5 p (.tup [.int (i:Nat),.int k])=H6 at s6 ⊢
   have Vq:=s6 _ _ hl
   have hm6:=s6 _ _ hm
   have Ye:=ht.same s6
   refine⟨_,rfl,_,rfl,_,rfl,_,rfl,_,_,rfl,rfl,_,rfl,l,us,rfl,aQ.of Vq,fun pE hpE=>?_⟩
   rw[Vo]
   obtain⟨bi,hbi⟩:∃ bi,bs[i]?=some bi:=⟨bs[i]'(by lia),List.getElem?_eq_getElem (by lia)⟩
   obtain⟨ui,hui,ri,rfl,hri⟩:=bx Ye hbi
   have s7:=aq hpE (.lst ((us.drop i).take 2))
   have g7:(upd H6 pE (.lst ((us.drop i).take 2))) pE=some (.lst ((us.drop i).take 2)):=ak
   generalize upd H6 pE (.lst ((us.drop i).take 2))=H7 at s7 g7 ⊢
   have WR:=s6.trans s7
   have obi:=hoa bi (List.mem_of_getElem? hbi)
   have Y9:=hB.same WR
   have hk7:=WR _ _ hm
   obtain⟨vs7,hv7,LK⟩:=id Y9
   obtain⟨wk,hwk,rk,rfl,hrk⟩:=bx LK (bD k0 k1)
   have Pb:=hok _ (List.mem_of_getElem? (bD k0 k1))
   rcases LC hui with⟨u1,hu1,ed⟩|⟨hu1,ed⟩
   ·rw[ed] at g7
    obtain⟨b1,hb1,r1,rfl,hr1⟩:=bh Ye hu1
    have ob1:=hoa b1 (List.mem_of_getElem? hb1)
    have hlt:i+1<ks.length:=by
     have:=(List.getElem?_eq_some_iff.mp hb1).1
     lia
    obtain⟨k',hk'⟩:∃ k',ks[i+1]?=some k':=⟨ks[i+1],List.getElem?_eq_getElem hlt⟩
    refine⟨_,rfl,pE,_,rfl,.inl (aQ.of g7),rfl,_,rfl,fH ?_⟩
    refine⟨_,rfl,_,rfl,_,rfl,_,_,rfl,rfl,m,_,_,_,rfl,rfl,aQ.of hk7,(show Ja (ks.map V.int) ((i:Int)+1)=some (V.int k') from uq (i:=i+1) (by rw[List.getElem?_map,hk'];rfl)),rfl,_,rfl,?_⟩
    by_cases c5:k=k'
    case pos =>
     refine dO (decide_eq_true (by rw[c5])) (no H7 WR fun z=>z.Yb i k k' hk hk' c5)
    refine dX (decide_eq_false fun e=>c5 (V.int.inj e)) ?_
    refine⟨_,rfl,pE,_,rfl,.inl (aQ.of g7),rfl,_,rfl,fH ?_⟩
    have Vr:=s7 _ _ hri
    have Vs:=s7 _ _ hr1
    refine⟨_,rfl,pE,_,0,_,rfl,rfl,aQ.of g7,rfl,ri,_,0,_,rfl,rfl,cT.of Vr,rfl,_,rfl,pE,_,1,_,rfl,rfl,aQ.of g7,rfl,r1,_,1,_,rfl,rfl,cT.of Vs,rfl,_,_,rfl,rfl,⟨obi.x0.fit,ob1.y0.fit⟩,
     _,rfl,pE,_,1,_,rfl,rfl,aQ.of g7,rfl,r1,_,0,_,rfl,rfl,cT.of Vs,rfl,_,rfl,pE,_,0,_,rfl,rfl,aQ.of g7,rfl,ri,_,1,_,rfl,rfl,cT.of Vr,rfl,_,_,rfl,rfl,⟨ob1.x0.fit,obi.y0.fit⟩,_,_,rfl,rfl,_,rfl,?_⟩
    by_cases c6:b1.1*bi.2≤bi.1*b1.2
    case pos =>
     refine dO (decide_eq_true c6) (no H7 WR fun z=>?_)
     have:=z.beg.2 i bi b1 hbi hb1
     lia
    refine dX (decide_eq_false c6) ?_
    have Vt:cu H7 [.ref ri,.ref r1] [bi,b1]:=.cons ⟨ri,rfl,Vr⟩ (.cons ⟨r1,rfl,Vs⟩ .nil)
    have T6:∀ e∈[bi,b1],tO e.1 e.2:=fun e he=>by
     rcases List.mem_cons.mp he with rfl|he
     ·exact obi
     ·rw[List.mem_singleton.mp he];exact ob1
    have endC:(∀ e∈[bi,b1],dB ps k e)→SJ ps bs ks i:=fun h=>by
     refine⟨fun a c e1 e2=>?_,fun a c e1 e2=>?_,fun a c e1 e2=>?_,fun a c e1 e2=>?_⟩
     ·rw[hk] at e1;cases e1
      rw[hk'] at e2;cases e2
      exact c5
     ·rw[hbi] at e1;cases e1
      rw[hb1] at e2;cases e2
      lia
     ·rw[hbi] at e1;cases e1
      rw[hk] at e2;cases e2
      exact h _ (.head _)
     ·rw[hb1] at e1;cases e1
      rw[hk] at e2;cases e2
      exact h _ (.tail _ (.head _))
    have LQ:∀ e∈[bi,b1],¬ dB ps k e→¬ vY ps bs ks:=fun e he h z=>by
     rcases List.mem_cons.mp he with rfl|he
     ·exact h (z.ends.1 i _ k hbi hk)
     ·rw[List.mem_singleton.mp he] at h
      exact h (z.ends.2 i _ k hb1 hk)
    clear c5 c6 hu1 hb1 ob1 hk' hlt Vr Vs hr1 ed
    revert g7 Vt T6 endC LQ
    generalize [V.ref ri,V.ref r1]=xs
    generalize [bi,b1]=es
    intro g7 Vt T6 endC LQ
    refine⟨_,rfl,pE,rfl,⟨_,aQ.of g7⟩,ig (K:=K) (a:=pE) (xs:=xs) (fun i' σ H8=>Same H7 H8∧(∃ v6,σ=[some (.ref b),some (.ref l),some (.ref m),some (.int (i:Nat)),some (.int k),some (.ref pE),v6])∧∀ j,j<i'→∀ e,es[j]?=some e→dB ps k e)
     ⟨Same.refl _,⟨_,rfl⟩,fun j hj=>absurd hj (Nat.not_lt_zero j)⟩ (fun i' σ H8 _ ⟨e,_⟩=>e.seq (aQ.of g7)) ?_ ?_⟩
    ·rintro i' x σ H8 hi' ⟨s8,⟨v6',rfl⟩,BR⟩
     obtain⟨e,he,rE,rfl,hrE⟩:=bh Vt hi'
     have oe:=T6 e (List.mem_of_getElem? he)
     have s78:=WR.trans s8
     have Yg:=s8 _ _ hv7
     have Yh:=LK.same s8
     have SM:=s8 _ _ hrE
     refine⟨_,rfl,b,rfl,⟨_,aQ.of Yg⟩,bV (K:=K) (a:=b) (xs:=vs7) (fun i2 ys H9=>H8=H9∧Dp (fun j=>∀ p,ps[j]?=some p→cst (tar ps k) e.1 e.2≤cst p e.1 e.2) i2 ys) ⟨rfl,vX _⟩ (fun i2 ys H9 hi2 ⟨e9,ha⟩=>⟨by rw[←e9];exact aQ.of Yg,ha.lt (by have:=LK.len;lia)⟩) ?_ ?_⟩
     ·rintro i2 v ys H9 hi2 ⟨rfl,ha⟩
      obtain⟨p,hp,rp,rfl,hrp⟩:=bh Yh hi2
      have op:=hok p (List.mem_of_getElem? hp)
      refine dg ?_
      refine⟨_,rfl,_,rfl,rp,rE,_,_,_,_,rfl,hrp,SM,op.1.fit,op.2.fit,oe.x0.fit,oe.y0.fit,_,rfl,_,rfl,b,vs7,k,_,rfl,rfl,aQ.of Yg,cG k0 hwk,_,rfl,rk,rE,_,_,_,_,rfl,s8 _ _ hrk,SM,Pb.1.fit,Pb.2.fit,oe.x0.fit,oe.y0.fit,_,_,rfl,rfl,rfl,ha.snoc ?_⟩
      rw[decide_eq_false_iff_not]
      refine⟨fun z p' e'=>?_,fun z=>?_⟩
      ·rw[hp] at e';cases e'
       exact Int.not_lt.mp z
      ·exact Int.not_lt.mpr (z p hp)
     ·rintro ys H9 ⟨rfl,Vu,rfl,_,hb9⟩ D9 hD9
      refine⟨D9,Vu,rfl,aQ.of ak,_,rfl,?_⟩
      have lea:Vu.any id=false↔dB ps k e:=by
       rw[hb9]
       constructor
       ·intro z p hp
        obtain⟨j,hj⟩:=List.getElem?_of_mem hp
        exact z j (by rw[LK.len];exact (List.getElem?_eq_some_iff.mp hj).1) p hj
       ·intro z j _ p e'
        exact z p (List.mem_of_getElem? e')
      have s9:=aq hD9 (.lst (Vu.map V.bl))
      by_cases c9:Vu.any id=false
      ·refine dX c9 ⟨s8.trans s9,⟨_,rfl⟩,fun j hj e' he'=>?_⟩
       by_cases ej:j=i'
       ·subst ej
        rw[he] at he';cases he'
        exact lea.mp c9
       ·exact BR j (by lia) e' he'
      ·refine dO (by simpa using c9) (no _ (s78.trans s9) (LQ e (List.mem_of_getElem? he) fun h=>c9 (lea.mpr h)))
    ·rintro σ H8 ⟨s8,⟨v6',rfl⟩,BR⟩
     refine⟨WR.trans s8,_,_,_,_,rfl,fun j hj=>?_⟩
     by_cases ej:j=i
     ·subst ej
      refine endC fun e he=>?_
      obtain⟨j',hj'⟩:=List.getElem?_of_mem he
      exact BR j' (by rw[Vt.len];exact (List.getElem?_eq_some_iff.mp hj').1) e hj'
     ·exact hall j (by lia)
   ·rw[ed] at g7
    have hlt:¬ i+1<us.length:=fun h=>by
     rw[List.getElem?_eq_getElem h] at hu1
     cases hu1
    have nb1:bs[i+1]?=none:=List.getElem?_eq_none (by lia)
    have nk1:ks[i+1]?=none:=List.getElem?_eq_none (by lia)
    refine⟨_,rfl,pE,_,rfl,.inl (aQ.of g7),rfl,_,rfl,dz (dz ?_)⟩
    refine⟨_,rfl,pE,_,rfl,.inl (aQ.of g7),rfl,_,rfl,dz (dz ?_)⟩
    have Vt:cu H7 [.ref ri] [bi]:=.cons ⟨ri,rfl,s7 _ _ hri⟩ .nil
    have T6:∀ e∈[bi],tO e.1 e.2:=fun e he=>by
     rw[List.mem_singleton.mp he];exact obi
    have endC:(∀ e∈[bi],dB ps k e)→SJ ps bs ks i:=fun h=>by
     refine⟨fun a c e1 e2=>?_,fun a c e1 e2=>?_,fun a c e1 e2=>?_,fun a c e1 e2=>?_⟩
     ·rw[nk1] at e2;cases e2
     ·rw[nb1] at e2;cases e2
     ·rw[hbi] at e1;cases e1
      rw[hk] at e2;cases e2
      exact h _ (.head _)
     ·rw[nb1] at e1;cases e1
    have LQ:∀ e∈[bi],¬ dB ps k e→¬ vY ps bs ks:=fun e he h z=>by
     rw[List.mem_singleton.mp he] at h
     exact h (z.ends.1 i _ k hbi hk)
    revert g7 Vt T6 endC LQ
    generalize [V.ref ri]=xs
    generalize [bi]=es
    intro g7 Vt T6 endC LQ
    refine⟨_,rfl,pE,rfl,⟨_,aQ.of g7⟩,ig (K:=K) (a:=pE) (xs:=xs) (fun i' σ H8=>Same H7 H8∧(∃ v6,σ=[some (.ref b),some (.ref l),some (.ref m),some (.int (i:Nat)),some (.int k),some (.ref pE),v6])∧∀ j,j<i'→∀ e,es[j]?=some e→dB ps k e)
     ⟨Same.refl _,⟨_,rfl⟩,fun j hj=>absurd hj (Nat.not_lt_zero j)⟩ (fun i' σ H8 _ ⟨e,_⟩=>e.seq (aQ.of g7)) ?_ ?_⟩
    ·rintro i' x σ H8 hi' ⟨s8,⟨v6',rfl⟩,BR⟩
     obtain⟨e,he,rE,rfl,hrE⟩:=bh Vt hi'
     have oe:=T6 e (List.mem_of_getElem? he)
     have s78:=WR.trans s8
     have Yg:=s8 _ _ hv7
     have Yh:=LK.same s8
     have SM:=s8 _ _ hrE
     refine⟨_,rfl,b,rfl,⟨_,aQ.of Yg⟩,bV (K:=K) (a:=b) (xs:=vs7) (fun i2 ys H9=>H8=H9∧Dp (fun j=>∀ p,ps[j]?=some p→cst (tar ps k) e.1 e.2≤cst p e.1 e.2) i2 ys) ⟨rfl,vX _⟩ (fun i2 ys H9 hi2 ⟨e9,ha⟩=>⟨by rw[←e9];exact aQ.of Yg,ha.lt (by have:=LK.len;lia)⟩) ?_ ?_⟩
     ·rintro i2 v ys H9 hi2 ⟨rfl,ha⟩
      obtain⟨p,hp,rp,rfl,hrp⟩:=bh Yh hi2
      have op:=hok p (List.mem_of_getElem? hp)
      refine dg ?_
      refine⟨_,rfl,_,rfl,rp,rE,_,_,_,_,rfl,hrp,SM,op.1.fit,op.2.fit,oe.x0.fit,oe.y0.fit,_,rfl,_,rfl,b,vs7,k,_,rfl,rfl,aQ.of Yg,cG k0 hwk,_,rfl,rk,rE,_,_,_,_,rfl,s8 _ _ hrk,SM,Pb.1.fit,Pb.2.fit,oe.x0.fit,oe.y0.fit,_,_,rfl,rfl,rfl,ha.snoc ?_⟩
      rw[decide_eq_false_iff_not]
      refine⟨fun z p' e'=>?_,fun z=>?_⟩
      ·rw[hp] at e';cases e'
       exact Int.not_lt.mp z
      ·exact Int.not_lt.mpr (z p hp)
     ·rintro ys H9 ⟨rfl,Vu,rfl,_,hb9⟩ D9 hD9
      refine⟨D9,Vu,rfl,aQ.of ak,_,rfl,?_⟩
      have lea:Vu.any id=false↔dB ps k e:=by
       rw[hb9]
       constructor
       ·intro z p hp
        obtain⟨j,hj⟩:=List.getElem?_of_mem hp
        exact z j (by rw[LK.len];exact (List.getElem?_eq_some_iff.mp hj).1) p hj
       ·intro z j _ p e'
        exact z p (List.mem_of_getElem? e')
      have s9:=aq hD9 (.lst (Vu.map V.bl))
      by_cases c9:Vu.any id=false
      ·refine dX c9 ⟨s8.trans s9,⟨_,rfl⟩,fun j hj e' he'=>?_⟩
       by_cases ej:j=i'
       ·subst ej
        rw[he] at he';cases he'
        exact lea.mp c9
       ·exact BR j (by lia) e' he'
      ·refine dO (by simpa using c9) (no _ (s78.trans s9) (LQ e (List.mem_of_getElem? he) fun h=>c9 (lea.mpr h)))
    ·rintro σ H8 ⟨s8,⟨v6',rfl⟩,BR⟩
     refine⟨WR.trans s8,_,_,_,_,rfl,fun j hj=>?_⟩
     by_cases ej:j=i
     ·subst ej
      refine endC fun e he=>?_
      obtain⟨j',hj'⟩:=List.getElem?_of_mem he
      exact BR j' (by rw[Vt.len];exact (List.getElem?_eq_some_iff.mp hj').1) e hj'
     ·exact hall j (by lia)
  ·rintro σ H5 ⟨s5,v3,v4,v5,v6,rfl,hall⟩
   rw[List.length_map] at hall
   have hv5:=s5 _ _ hv
   have aeT:=htb.same s5
   have hm5:=s5 _ _ hm
   obtain⟨kl,Vv⟩:∃ kl,ks[ks.length-1]?=some kl:=⟨ks[ks.length-1]'(by lia),List.getElem?_eq_getElem (by lia)⟩
   obtain⟨k0,k1⟩:=hin kl (List.mem_of_getElem? Vv)
   have eat:=Vp Vv kpos
   obtain⟨wk,hwk,rk,rfl,hrk⟩:=bx aeT (bD k0 k1)
   refine⟨_,rfl,b,rfl,⟨_,aQ.of hv5⟩,bV (K:=K) (a:=b) (xs:=vs) (fun i ys H6=>H5=H6∧oJ (fun j=>∀ p,ps[j]?=some p→(tar ps kl).2≤p.2) i ys) ⟨rfl,fY _⟩ (fun i ys H6 hi ⟨e,ha'⟩=>⟨by rw[←e];exact aQ.of hv5,ha'.lt (by lia)⟩) ?_ ?_⟩
   ·rintro i v ys H6 hi ⟨rfl,ha'⟩
    obtain⟨p,hp,r,rfl,hr'⟩:=bh aeT hi
    refine dg ?_
    refine⟨_,rfl,r,_,1,_,rfl,rfl,cT.of hr',rfl,_,rfl,_,rfl,_,rfl,m,_,-1,_,rfl,rfl,aQ.of hm5,eat,b,vs,kl,_,rfl,rfl,aQ.of hv5,cG k0 hwk,rk,_,1,_,rfl,rfl,cT.of hrk,rfl,_,_,rfl,rfl,rfl,ha'.snoc ?_⟩
    rw[decide_eq_true_iff]
    exact⟨fun z p' e=>by rw[hp] at e;cases e;exact z,fun z=>z p hp⟩
   ·rintro ys H6 ⟨rfl,Yc,rfl,_,hb2⟩ D2 hD2
    refine⟨D2,Yc,rfl,aQ.of ak,q _ _ ?_ (s5.trans (aq hD2 _))⟩
    rw[hb2]
    constructor
    ·intro z
     refine⟨hlen,⟨by rw[hb0,c3],fun i b c e1 e2=>(hall i ?_).2.1 b c e1 e2⟩,hin,fun i k' l' e1 e2=>(hall i ?_).1 k' l' e1 e2,⟨fun i b k' e1 e2=>(hall i ?_).2.2.1 b k' e1 e2,fun i b k' e1 e2=>(hall i ?_).2.2.2 b k' e1 e2⟩,fun k' hk' p hp=>?_⟩
     ·have:=(List.getElem?_eq_some_iff.mp e1).1
      lia
     ·exact (List.getElem?_eq_some_iff.mp e1).1
     ·exact (List.getElem?_eq_some_iff.mp e2).1
     ·exact (List.getElem?_eq_some_iff.mp e2).1
     ·rw[Vv] at hk';cases hk'
      obtain⟨j,hj⟩:=List.getElem?_of_mem hp
      exact z j (by rw[yq];exact (List.getElem?_eq_some_iff.mp hj).1) p hj
    ·intro z j _ p e
     exact z.last kl Vv p (List.mem_of_getElem? e)
end
def T8 (x:Int):Prop:=0≤x∧x≤10 ^ 50
def SN (p:Int×Int):Prop:=T8 p.1∧T8 p.2
theorem T8.ok {x:Int}(h:T8 x):Df x:=⟨h.1,by have:=h.2;lia⟩
theorem SN.ok {p:Int×Int}(h:SN p):mO p:=⟨h.1.ok,h.2.ok⟩
theorem SQ {x:Int}(h:T8 x):jm x:=h.ok.fit
theorem Vw {x y:Int}(h:T8 x)(k:T8 y):jm (x+y):=(show Df (x+y) from ⟨by have:=h.1;have:=k.1;lia,by have:=h.2;have:=k.2;lia⟩).fit
theorem kE:4≤sizeLine:=by decide
theorem Y0.md {x:Int}(h:Y0 x):T8 x:=⟨h.1,by have:=h.2;lia⟩
theorem Wv.md {p:Int×Int}(h:Wv p):SN p:=⟨h.1.md,h.2.md⟩
def InB (ps:List (Int×Int))(L:List E):Prop:=∀ e∈L,(0≤e.k∧e.k<(ps.length:Int))∧e.t=tar ps e.k
def aeU (L:List E):Prop:=∀ (i j:Nat) e f,i≤j→L[i]?=some e→L[j]?=some f→f.t.2≤e.t.2
theorem nY.desc {S:List (Int×Int)}{L:List E}(h:nY S L):aeU L:=fun i j e f hij h1 h2=>by
 obtain⟨d,rfl⟩:∃ d,j=i+d:=⟨j-i,by lia⟩
 exact h.dec h1 d h2
theorem TurnOk.one {L:List E}{t:Int×Int}{n m:Nat}(a:TurnOk L t n)(b:TurnOk L t m):n=m:=by
 have key:∀ {n m:Nat},TurnOk L t n→TurnOk L t m→¬ n<m:=fun {n m} a b h=>by
  have e:L[n]?=some (L[n]'a.lt):=List.getElem?_eq_getElem a.lt
  have h1:=b.KH n _ h e
  rcases a.at_ with z|z
  ·have:=b.lt
   lia
  ·have:=z _ e
   lia
 have h1:=key a b
 have h2:=key b a
 lia
structure yw (ps:List (Int×Int))(p:Int×Int)(k1 k2 w1 w2:Int):Prop where
 in1:0≤k1∧k1<(ps.length:Int)
 in2:0≤k2∧k2<(ps.length:Int)
 n1:0≤w1
 n2:0≤w2
 pos:0<w1+w2
 once:w1*(tar ps k1).1+w2*(tar ps k2).1≤(w1+w2)*p.1
 piece:w1*(tar ps k1).2+w2*(tar ps k2).2≤(w1+w2)*p.2
theorem Vx {L:List E}{i:Nat}{e:E}(h:L[i]?=some e):(L.map ek)[i]?=some (.int e.k):=by rw[List.getElem?_map,h];rfl
section
variable{P:Program}{w:World}{K:PySem.W.Frag}{mg:Str→Option Value}{base:Heap}{z:Cz}
inductive SX (vs:List V)(H:Hp)(Q:VK):Prop
 | mk (t b kA:Addr) (p:Int×Int) (ps:List (Int×Int)) (L:List E) (c0:vs=[.ref t,.ref b,.ref kA]) (c1:H t=some (.tup [.int p.1,.int p.2])) (c2:bH H b ps) (c3:H kA=some (.lst (L.map ek))) (c4:L≠[]) (c5:L.length≤1000) (c6:InB ps L) (c7:aeU L) (c8:∀ n:Nat,TurnOk L p n→Q (.int (n:Int)) H):SX  vs H Q
def LR:Sp:=fun vs H Q _=>SX  vs H Q
theorem iR:aY ["tariff", "book", "places", "low", "high", "middle"] ["tariff", "book", "places"] (aC uQ):=⟨rfl,rfl,rfl,by decide +kernel,rfl,by decide +kernel,by decide +kernel⟩
theorem JX {f:Addr}{fd:FuncData}(F:gY K "turn_for" "turn_for" uQ f fd)(B:Bl mg)(T:CT K mg z):cA P w K mg base gB 1 f fd ["tariff", "book", "places"] LR:=by
 refine F.ok iR (fun vs H Q E h=>?_) (fun cdv A outer s H vs Q E hr h=>?_)
 ·obtain⟨t,b,kA,p,ps,L,rfl,_⟩:=h
  rfl
 ·obtain⟨t,b,kA,p,ps,L,rfl,ht,hB,hk,hne,qD,hin,hds,q⟩:=h
  obtain⟨vs,hv,htb⟩:=id hB
  have wX:0<L.length:=List.length_pos_iff.mpr hne
  refine⟨_,(aB (aW (i:=3) iR.nd rfl (Or.inl rfl) aA)
     (aB (aW (i:=4) iR.nd rfl (Or.inl rfl) (aF gb (aK (iV K) rfl B.len PySem.boot_len (aj (pv 2) ao)) aA))
     (aB (vG PassesOwn.never (bB qt (pv 3) (pv 4) (aU _)) (aB (aW (i:=5) iR.nd rfl (Or.inl rfl) (aF bU (aF dj (pv 3) (pv 4)) aA))
     (aD (bY (bB qQ (aH (aG K) (aH (aP K) (pv 1) (aH (aP K) (pv 2) (pv 5) (fun _ _=>rfl)) (fun _ _=>rfl)) aA (fun _ _=>rfl)) (aH (aG K) (pv 0) aA (fun _ _=>rfl)) (aU _)) (aD (aW (i:=4) iR.nd rfl (Or.inl rfl) (pv 5))) (aD (aW (i:=3) iR.nd rfl (Or.inl rfl) (aF dj (pv 5) aA)))))))
     (aD (aN (pv 3)))))),?_⟩
  refine⟨_,rfl,kA,_,rfl,.inl (aQ.of hk),_,_,rfl,rfl,?_⟩
  rw[List.length_map]
  refine⟨fun m σ H1=>∃ (lo hi:Nat) (v5:Option V),m=hi-lo∧H1=H∧σ=[some (.ref t),some (.ref b),some (.ref kA),some (.int (lo:Int)),some (.int (hi:Int)),v5]∧lo≤hi∧hi<L.length∧(∀ (j:Nat) e,j<lo→L[j]?=some e→p.2<e.t.2)∧(hi=L.length-1∨∀ e,L[hi]?=some e→e.t.2≤p.2),
   ⟨_,0,L.length-1,none,rfl,rfl,?_,Nat.zero_le _,by lia,fun j e hj=>absurd hj (Nat.not_lt_zero j),.inl rfl⟩,?_⟩
  ·show [some (V.ref t),some (V.ref b),some (V.ref kA),some (V.int 0),some (V.int (((L.length:Nat):Int)-1)),none]=_
   rw[show ((L.length:Nat):Int)-1=((L.length-1:Nat):Int) by lia]
   rfl
  rintro m σ H1 ⟨lo,hi,v5,rfl,rfl,rfl,hlh,hhi,aeV,hat⟩
  refine⟨_,rfl,_,rfl,_,_,rfl,rfl,_,rfl,?_⟩
  by_cases c:(lo:Int)<(hi:Int)
  ·refine dO (decide_eq_true c) ?_
   refine⟨fun σ' H'=>∃ (lo' hi':Nat) (v5:Option V),hi'-lo'<hi-lo∧H'=H1∧σ'=[some (.ref t),some (.ref b),some (.ref kA),some (.int (lo':Int)),some (.int (hi':Int)),v5]∧lo'≤hi'∧hi'<L.length∧(∀ (j:Nat) e,j<lo'→L[j]?=some e→p.2<e.t.2)∧(hi'=L.length-1∨∀ e,L[hi']?=some e→e.t.2≤p.2),
    fun σ' H' ⟨lo',hi',v5',h1,h2⟩=>⟨_,h1,lo',hi',v5',rfl,h2⟩,?_⟩
   refine⟨_,rfl,_,rfl,_,_,rfl,rfl,_,_,rfl,rfl,⟨by decide,oH (by decide +kernel)⟩,?_⟩
   have em:((lo:Int)+(hi:Int)) / 2=(((lo+hi) / 2:Nat):Int):=by lia
   show yg 5 (V.int (((lo:Int)+(hi:Int)) / 2)) _ _ _
   rw[em]
   have m1:lo≤(lo+hi) / 2:=by lia
   have m2:(lo+hi) / 2<hi:=by lia
   generalize (lo+hi) / 2=mi at m1 m2 ⊢
   obtain⟨e,he⟩:∃ e,L[mi]?=some e:=⟨L[mi]'(by lia),List.getElem?_eq_getElem (by lia)⟩
   obtain⟨⟨k0,k1⟩,et⟩:=hin e (List.mem_of_getElem? he)
   obtain⟨wk,hwk,rk,rfl,hrk⟩:=bx htb (bD k0 k1)
   refine⟨_,rfl,_,rfl,_,rfl,kA,_,_,_,rfl,rfl,aQ.of hk,uq (Vx he),b,vs,e.k,_,rfl,rfl,aQ.of hv,cG k0 hwk,rk,_,1,_,rfl,rfl,cT.of hrk,rfl,_,rfl,t,_,1,_,rfl,rfl,cT.of ht,rfl,_,_,rfl,rfl,_,rfl,?_⟩
   have et2:(tar ps e.k).2=e.t.2:=by rw[et]
   by_cases c2:(tar ps e.k).2≤p.2
   ·refine dO (decide_eq_true c2) ?_
    refine⟨_,rfl,lo,mi,_,by lia,rfl,rfl,m1,by lia,aeV,.inr fun e' he'=>?_⟩
    rw[he] at he';cases he'
    lia
   ·refine dX (decide_eq_false c2) ?_
    refine⟨_,rfl,_,_,rfl,rfl,mi+1,hi,_,by lia,rfl,rfl,by lia,hhi,fun j e' hj he'=>?_,hat⟩
    have:=hds j mi e' e (by lia) he' he
    lia
  ·refine dX (decide_eq_false c) ?_
   refine⟨_,rfl,?_⟩
   have e1:lo=hi:=by lia
   subst e1
   exact q lo ⟨hhi,aeV,hat⟩
structure TurnsAt (H:Hp)(b bA kA:Addr)(ps S:List (Int×Int))(us:List V)(L:List E):Prop where
 book:bH H b ps
 md:∀ p∈ps,SN p
 beg:H bA=some (.lst us)
 aeW:cu H us (L.map Y5)
 kept:H kA=some (.lst (L.map ek))
 lJ:nY S L
 Dg:InB ps L
 len:L.length≤1000
 sub:∀ s∈S,s∈ps
theorem TurnsAt.same {H H':Hp}{b bA kA:Addr}{ps S:List (Int×Int)}{us:List V}{L:List E}(t:TurnsAt H b bA kA ps S us L)(s:Same H H'):TurnsAt H' b bA kA ps S us L :=
 ⟨t.book.same s,t.md,s _ _ t.beg,t.aeW.same s,s _ _ t.kept,t.lJ,t.Dg,t.len,t.sub⟩
inductive Np (vs:List V)(H:Hp)(Q:VK):Prop
 | mk (t b bA kA:Addr) (p:Int×Int) (ps S:List (Int×Int)) (us:List V) (L:List E) (c0:vs=[.ref t,.ref b,.ref bA,.ref kA]) (c1:H t=some (.tup [.int p.1,.int p.2])) (c2:SN p) (c3:TurnsAt H b bA kA ps S us L) (c4:(∀ (r:Addr) (x y:Int),H r=none→tO x y→(∀ s∈S,cst p x y<cst s x y)→Q (.ref r) (upd H r (.tup [.int x,.int y])))) (c5:(∀ (n:Nat) (e:My.E),TurnOk L p n→L[n]?=some e→¬ cst p e.x e.y<cst e.t e.x e.y→¬ p.2<e.t.2→Q .non H)):Np  vs H Q
def Nq:Sp:=fun vs H Q _=>Np  vs H Q
theorem fZ:aY ["tariff", "book", "begins", "places", "turn", "begin", "least", "apart"] ["tariff", "book", "begins", "places"] (aC lR):=⟨rfl,rfl,rfl,by decide +kernel,rfl,by decide +kernel,by decide +kernel⟩
theorem yS {f:Addr}{fd:FuncData}(F:gY K "amount_below" "amount_below" lR f fd)(B:Bl mg)(T:CT K mg z)
  (jc:Cl P w K mg base 2 "lowest_terms" ["top", "bottom"] JL)
  (fC:Cl P w K mg base 1 "top_of_cost" ["tariff", "amount"] um)
  (uU:Cl P w K mg base 1 "turn_for" ["tariff", "book", "places"] LR):cA P w K mg base gB 3 f fd ["tariff", "book", "begins", "places"] Nq:=by
 refine F.ok fZ (fun vs H Q E h=>?_) (fun cdv A outer s H vs Q E hr h=>?_)
 ·obtain⟨t,b,bA,kA,p,ps,S,us,L,rfl,_⟩:=h
  rfl
 ·obtain⟨t,b,bA,kA,p,ps,S,us,L,rfl,ht,mp,TA,q1,q2⟩:=h
  obtain⟨vs,hv,htb⟩:=id TA.book
  have X6:∀ s∈S,mO s:=fun s hs=>(TA.md s (TA.sub s hs)).ok
  refine⟨_,(aB (aW (i:=4) fZ.nd rfl (Or.inl rfl) (uU.pe hr (aj (pv 0) (aj (pv 1) (aj (pv 3) ao)))))
     (aB (aW (i:=5) fZ.nd rfl (Or.inl rfl) (aH (aP K) (pv 2) (pv 4) (fun _ _=>rfl)))
     (aB (aW (i:=6) fZ.nd rfl (Or.inl rfl) (aH (aP K) (pv 1) (aH (aP K) (pv 3) (pv 4) (fun _ _=>rfl)) (fun _ _=>rfl)))
     (aB (bY (bB iQ (fC.pe hr (aj (pv 6) (aj (pv 5) ao))) (fC.pe hr (aj (pv 0) (aj (pv 5) ao))) (aU _)) (aD (aN (jc.pe hr (aj (aH (aG K) (pv 5) aA (fun _ _=>rfl)) (aj (aH (aG K) (pv 5) aA (fun _ _=>rfl)) ao))))) bw)
     (aB (bY (bB iQ (aH (aG K) (pv 6) aA (fun _ _=>rfl)) (aH (aG K) (pv 0) aA (fun _ _=>rfl)) (aU _)) (aB (aW (i:=7) fZ.nd rfl (Or.inl rfl) (aF gb (aH (aG K) (pv 6) aA (fun _ _=>rfl)) (aH (aG K) (pv 0) aA (fun _ _=>rfl))))
     (aD (aN (jc.pe hr (aj (aF dj (aF gb (aH (aG K) (pv 0) aA (fun _ _=>rfl)) (aH (aG K) (pv 6) aA (fun _ _=>rfl))) (pv 7)) (aj (pv 7) ao)))))) bw)
     (aD (aN Qv))))))),?_⟩
  refine⟨_,rfl,_,rfl,_,rfl,t,b,kA,p,ps,L,rfl,ht,TA.book,TA.kept,TA.lJ.ne,TA.len,TA.Dg,TA.lJ.desc,fun n to=>?_⟩
  obtain⟨e,he⟩:∃ e,L[n]?=some e:=⟨L[n]'to.lt,List.getElem?_eq_getElem to.lt⟩
  have me:=List.mem_of_getElem? he
  obtain⟨⟨k0,k1⟩,et⟩:=TA.Dg e me
  obtain⟨x0,y0⟩:=TA.lJ.pos e me
  obtain⟨x1,y1⟩:=TA.lJ.small X6 e me
  have ox:Df e.x:=⟨x0,x1⟩
  have oy:Df e.y:=⟨Int.le_of_lt y0,y1⟩
  obtain⟨ue,hue,re,rfl,hre⟩:=bx TA.aeW (show (L.map Y5)[n]?=some (e.x,e.y) by rw[List.getElem?_map,he];rfl)
  obtain⟨wk,hwk,rk,rfl,Yi⟩:=bx htb (bD k0 k1)
  have hrk:H rk=some (.tup [.int e.t.1,.int e.t.2]):=by rw[et];exact Yi
  have me2:=TA.md e.t (TA.sub _ (TA.lJ.least e me).1)
  refine⟨_,rfl,_,rfl,bA,_,_,_,rfl,rfl,aQ.of TA.beg,uq hue,?_⟩
  refine⟨_,rfl,_,rfl,_,rfl,kA,_,_,_,rfl,rfl,aQ.of TA.kept,uq (Vx he),b,vs,e.k,_,rfl,rfl,aQ.of hv,cG k0 hwk,?_⟩
  refine⟨_,rfl,_,rfl,rk,re,_,_,e.x,e.y,rfl,hrk,hre,me2.ok.1.fit,me2.ok.2.fit,ox.fit,oy.fit,_,rfl,_,rfl,t,re,_,_,e.x,e.y,rfl,ht,hre,mp.ok.1.fit,mp.ok.2.fit,ox.fit,oy.fit,_,_,rfl,rfl,_,rfl,?_⟩
  by_cases c1:cst p e.x e.y<cst e.t e.x e.y
  ·refine dO (decide_eq_true c1) ?_
   refine⟨_,rfl,re,_,0,_,rfl,rfl,cT.of hre,rfl,_,rfl,re,_,1,_,rfl,rfl,cT.of hre,rfl,e.x,e.y,rfl,x0,y0,oy.fit,fun r hr'=>?_⟩
   exact q1 r _ _ hr' (vP ox oy y0) (XJ TA.lJ he c1)
  ·refine dX (decide_eq_false c1) ?_
   refine⟨_,rfl,rk,_,1,_,rfl,rfl,cT.of hrk,rfl,_,rfl,t,_,1,_,rfl,rfl,cT.of ht,rfl,_,_,rfl,rfl,_,rfl,?_⟩
   by_cases c2:p.2<e.t.2
   ·refine dO (decide_eq_true c2) ?_
    obtain⟨ge,bel⟩:=XM TA.lJ to he c1 c2
    refine⟨_,rfl,rk,_,1,_,rfl,rfl,cT.of hrk,rfl,_,rfl,t,_,1,_,rfl,rfl,cT.of ht,rfl,_,_,rfl,rfl,?_⟩
    obtain⟨⟨a1,a2⟩,⟨a3,a4⟩⟩:=mp
    obtain⟨⟨b1,b2⟩,⟨b3,b4⟩⟩:=me2
    have o1:Df (p.1-e.t.1+(e.t.2-p.2)):=⟨by lia,by lia⟩
    have o2:Df (e.t.2-p.2):=⟨by lia,by lia⟩
    refine⟨_,rfl,t,_,0,_,rfl,rfl,cT.of ht,rfl,_,rfl,rk,_,0,_,rfl,rfl,cT.of hrk,rfl,_,_,rfl,rfl,_,rfl,_,_,rfl,rfl,_,rfl,_,_,rfl,o1.1,by lia,o2.fit,fun r hr'=>?_⟩
    exact q1 r _ _ hr' (vP o1 o2 (by lia)) bel
   ·refine dX (decide_eq_false c2) ?_
    exact q2 n e to he c1 c2
inductive WT (vs:List V)(H:Hp)(Q:VK):Prop
 | mk (t b bA kA:Addr) (p:Int×Int) (ps S:List (Int×Int)) (us:List V) (L:List E) (n:Nat) (e:My.E) (c0:vs=[.ref t,.ref b,.ref kA]) (c1:H t=some (.tup [.int p.1,.int p.2])) (c2:SN p) (c3:TurnsAt H b bA kA ps S us L) (c4:TurnOk L p n) (c5:L[n]?=some e) (c6:¬ cst p e.x e.y<cst e.t e.x e.y) (c7:¬ p.2<e.t.2) (c8:∀ (r:Addr) (k1 k2 w1 w2:Int),H r=none→yw ps p k1 k2 w1 w2→T8 w1→T8 w2→(∃ e∈L,e.k=k1)→(∃ e∈L,e.k=k2)→Q (.ref r) (upd H r (.tup [.int k1,.int k2,.int w1,.int w2]))):WT  vs H Q
def WW:Sp:=fun vs H Q _=>WT  vs H Q
theorem je:aY ["tariff", "book", "places", "turn", "after", "before"] ["tariff", "book", "places"] (aC oA):=⟨rfl,rfl,rfl,by decide +kernel,rfl,by decide +kernel,by decide +kernel⟩
theorem BW {f:Addr}{fd:FuncData}(F:gY K "mixture_for" "mixture_for" oA f fd)(B:Bl mg)(T:CT K mg z)
  (uU:Cl P w K mg base 1 "turn_for" ["tariff", "book", "places"] LR):cA P w K mg base gB 2 f fd ["tariff", "book", "places"] WW:=by
 refine F.ok je (fun vs H Q E h=>?_) (fun cdv A outer s H vs Q E hr h=>?_)
 ·obtain⟨t,b,bA,kA,p,ps,S,us,L,n,e,rfl,_⟩:=h
  rfl
 ·obtain⟨t,b,bA,kA,p,ps,S,us,L,n,e,rfl,ht,mp,TA,to,he,c1,c2,q⟩:=h
  obtain⟨vs,hv,htb⟩:=id TA.book
  refine⟨_,(aB (aW (i:=3) je.nd rfl (Or.inl rfl) (uU.pe hr (aj (pv 0) (aj (pv 1) (aj (pv 2) ao)))))
     (aB (aW (i:=4) je.nd rfl (Or.inl rfl) (aH (aP K) (pv 2) (pv 3) (fun _ _=>rfl)))
     (aB (bY (bB iM (pv 3) aA (aU _)) (aD (aN (bN (aj (pv 4) (aj (pv 4) (aj aA (aj aA ao))))))) bw)
     (aB (aW (i:=5) je.nd rfl (Or.inl rfl) (aH (aP K) (pv 2) (aF gb (pv 3) aA) (fun _ _=>rfl)))
     (aD (aN (bN (aj (pv 5) (aj (pv 4) (aj (aF gb (aH (aG K) (pv 0) aA (fun _ _=>rfl)) (aH (aG K) (aH (aP K) (pv 1) (pv 4) (fun _ _=>rfl)) aA (fun _ _=>rfl))) (aj (aF gb (aH (aG K) (aH (aP K) (pv 1) (pv 5) (fun _ _=>rfl)) aA (fun _ _=>rfl)) (aH (aG K) (pv 0) aA (fun _ _=>rfl))) ao))))))))))),?_⟩
  refine⟨_,rfl,_,rfl,_,rfl,t,b,kA,p,ps,L,rfl,ht,TA.book,TA.kept,TA.lJ.ne,TA.len,TA.Dg,TA.lJ.desc,fun n' to'=>?_⟩
  obtain rfl:=to'.one to
  have me:=List.mem_of_getElem? he
  obtain⟨⟨k0,k1⟩,et⟩:=TA.Dg e me
  obtain⟨wk,hwk,rk,rfl,Yi⟩:=bx htb (bD k0 k1)
  have hrk:H rk=some (.tup [.int e.t.1,.int e.t.2]):=by rw[et];exact Yi
  refine⟨_,rfl,_,rfl,kA,_,_,_,rfl,rfl,aQ.of TA.kept,uq (Vx he),?_⟩
  refine⟨_,rfl,rfl,_,rfl,?_⟩
  have four:4≤sizeLine:=by decide
  by_cases c0:n'=0
  ·refine dO (decide_eq_true (by rw[c0];rfl)) ?_
   subst c0
   refine⟨_,rfl,_,rfl,four,fun r hr'=>q r _ _ _ _ hr' ?_ ⟨by decide,by decide⟩ ⟨by decide,by decide⟩ ⟨e,me,rfl⟩ ⟨e,me,rfl⟩⟩
   have h1:=agQ TA.lJ he c1
   refine⟨⟨k0,k1⟩,⟨k0,k1⟩,by decide,by decide,by decide,?_,?_⟩
   ·rw[←et];lia
   ·rw[←et];lia
  ·refine dX (decide_eq_false fun z=>c0 (by have:=V.int.inj z;lia)) ?_
   obtain⟨m,rfl⟩:∃ m,n'=m+1:=⟨n'-1,by lia⟩
   obtain⟨f,hf⟩:∃ f,L[m]?=some f:=⟨L[m]'(by have:=to'.lt;lia),List.getElem?_eq_getElem (by have:=to'.lt;lia)⟩
   have mf:=List.mem_of_getElem? hf
   obtain⟨⟨f0,f1⟩,ft⟩:=TA.Dg f mf
   obtain⟨wf,hwf,rf,rfl,ahd⟩:=bx htb (bD f0 f1)
   have hrf:H rf=some (.tup [.int f.t.1,.int f.t.2]):=by rw[ft];exact ahd
   refine⟨_,rfl,_,rfl,_,_,rfl,rfl,kA,_,_,_,rfl,rfl,aQ.of TA.kept,(show Ja (L.map ek) (((m+1:Nat):Int)-1)=some (V.int f.k) by rw[show ((m+1:Nat):Int)-1=(m:Int) by lia];exact uq (Vx hf)),?_⟩
   refine⟨_,rfl,_,rfl,_,rfl,t,_,1,_,rfl,rfl,cT.of ht,rfl,_,rfl,_,rfl,b,vs,e.k,_,rfl,rfl,aQ.of hv,cG k0 hwk,rk,_,1,_,rfl,rfl,cT.of hrk,rfl,_,_,rfl,rfl,_,rfl,_,rfl,b,vs,f.k,_,rfl,rfl,aQ.of hv,cG f0 hwf,rf,_,1,_,rfl,rfl,cT.of hrf,rfl,_,rfl,t,_,1,_,rfl,rfl,cT.of ht,rfl,_,_,rfl,rfl,four,fun r hr'=>?_⟩
   obtain⟨m1,m2,m3,m4⟩:=agR TA.lJ to' hf he c1 c2
   obtain⟨⟨a1,a2⟩,⟨a3,a4⟩⟩:=mp
   obtain⟨⟨b1,b2⟩,⟨b3,b4⟩⟩:=TA.md e.t (TA.sub _ (TA.lJ.least e me).1)
   obtain⟨⟨d1,d2⟩,⟨d3,d4⟩⟩:=TA.md f.t (TA.sub _ (TA.lJ.least f mf).1)
   refine q r _ _ _ _ hr' ⟨⟨f0,f1⟩,⟨k0,k1⟩,m1,Int.le_of_lt m2,by lia,?_,?_⟩ ⟨m1,by lia⟩ ⟨Int.le_of_lt m2,by lia⟩ ⟨f,mf,rfl⟩ ⟨e,me,rfl⟩
   ·rw[←et,←ft];exact m3
   ·rw[←et,←ft];exact m4
end
def Weigh (n:Nat)(k1 k2 w1 w2:Int):Prop:=(0≤k1∧k1<(n:Int))∧(0≤k2∧k2<(n:Int))∧0≤w1∧0≤w2∧0<w1+w2
theorem Vy {a b:Int}{n:Nat}:(decide (0≤a) && decide (a<(n:Int)))=true↔0≤a∧a<(n:Int):=by rw[Bool.and_eq_true,decide_eq_true_iff,decide_eq_true_iff]
section
variable{P:Program}{w:World}{K:PySem.W.Frag}{mg:Str→Option Value}{base:Heap}{z:Cz}
inductive Nr (vs:List V)(H:Hp)(Q:VK):Prop
 | mk (b r:Addr) (xs:List V) (k1 k2 w1 w2:Int) (c0:vs=[.ref b,.ref r]) (c1:H b=some (.lst xs)) (c2:H r=some (.tup [.int k1,.int k2,.int w1,.int w2])) (c3:∀ v,(v=true↔Weigh xs.length k1 k2 w1 w2)→Q (.bl v) H):Nr  vs H Q
def Nt:Sp:=fun vs H Q _=>Nr  vs H Q
theorem BX:aY ["book", "row"] ["book", "row"] (aC n6):=⟨rfl,rfl,rfl,by decide +kernel,rfl,by decide +kernel,by decide +kernel⟩
theorem BZ {f:Addr}{fd:FuncData}(F:gY K "is_weighing" "is_weighing" n6 f fd)(B:Bl mg)(T:CT K mg z)
  (iK:Cl P w K mg base 1 "is_whole" ["value"] zL)
  (gJ:Cl P w K mg base 2 "is_place" ["book", "value"] o9):cA P w K mg base gB 3 f fd ["book", "row"] Nt:=by
 refine F.ok BX (fun vs H Q E h=>?_) (fun cdv A outer s H vs Q E hr h=>?_)
 ·obtain⟨b,r,xs,k1,k2,w1,w2,rfl,_⟩:=h
  rfl
 ·obtain⟨b,r,xs,k1,k2,w1,w2,rfl,hb,hr',q⟩:=h
  have no:¬ Weigh xs.length k1 k2 w1 w2→Q (.bl false) H:=fun e=>q false ⟨fun z=>(by cases z),fun z=>absurd z e⟩
  refine⟨_,(aB (bY (PW.pt (pw_or (dh (cR (aK (O6 K (n := "tuple")) rfl B.XQ boot_isinstance (aj (pv 1) (aj (tu (v:=.ty "tuple") rfl B.tuple boot_tuple rfl) ao))))) (pw_or1 (bB mR (aK (iV K) rfl B.len PySem.boot_len (aj (pv 1) ao)) aA (aU _))))) (aD (aN cM)) bw)
     (aB (bY (PW.pt (pw_or (dh (cR (gJ.pe hr (aj (pv 0) (aj (aH (aG K) (pv 1) aA (fun _ _=>rfl)) ao))))) (pw_or1 (dh (cR (gJ.pe hr (aj (pv 0) (aj (aH (aG K) (pv 1) aA (fun _ _=>rfl)) ao)))))))) (aD (aN cM)) bw)
     (aD (aN (eF (iK.pe hr (aj (aH (aG K) (pv 1) aA (fun _ _=>rfl)) ao)) (eF (iK.pe hr (aj (aH (aG K) (pv 1) aA (fun _ _=>rfl)) ao)) (iT (bW iQ (aF dj (aH (aG K) (pv 1) aA (fun _ _=>rfl)) (aH (aG K) (pv 1) aA (fun _ _=>rfl))) aA (aU _))))))))),?_⟩
  refine⟨_,rfl,_,_,_,rfl,.tup hr',qU,_,rfl,dz ?_⟩
  refine⟨_,rfl,r,_,rfl,.inr (cT.of hr'),rfl,_,rfl,dz ?_⟩
  refine⟨_,rfl,_,rfl,r,_,0,_,rfl,rfl,cT.of hr',rfl,b,xs,k1,rfl,hb,_,rfl,?_⟩
  by_cases c1:0≤k1∧k1<(xs.length:Int)
  case neg =>
   refine dO (by rw[Bool.not_eq_true',Bool.eq_false_iff];exact fun z=>c1 (Vy (b:=0).mp z)) (fH (no fun z=>c1 z.1))
  refine dX (by rw[Vy (b:=0).mpr c1];rfl) ?_
  refine⟨_,rfl,_,rfl,r,_,1,_,rfl,rfl,cT.of hr',rfl,b,xs,k2,rfl,hb,_,rfl,?_⟩
  by_cases c2:0≤k2∧k2<(xs.length:Int)
  case neg =>
   refine dO (by rw[Bool.not_eq_true',Bool.eq_false_iff];exact fun z=>c2 (Vy (b:=0).mp z)) (no fun z=>c2 z.2.1)
  refine dX (by rw[Vy (b:=0).mpr c2];rfl) ?_
  refine⟨_,rfl,r,_,2,_,rfl,rfl,cT.of hr',rfl,w1,rfl,_,rfl,?_⟩
  by_cases c3:0≤w1
  case neg =>
   exact dX (decide_eq_false c3) (no fun z=>c3 z.2.2.1)
  refine dO (decide_eq_true c3) ?_
  refine⟨_,rfl,r,_,3,_,rfl,rfl,cT.of hr',rfl,w2,rfl,_,rfl,?_⟩
  by_cases c4:0≤w2
  case neg =>
   exact dX (decide_eq_false c4) (no fun z=>c4 z.2.2.2.1)
  refine dO (decide_eq_true c4) ?_
  refine⟨_,rfl,r,_,2,_,rfl,rfl,cT.of hr',rfl,_,rfl,r,_,3,_,rfl,rfl,cT.of hr',rfl,_,_,rfl,rfl,_,_,rfl,rfl,q _ ?_⟩
  rw[decide_eq_true_iff]
  exact⟨fun z=>⟨c1,c2,c3,c4,z⟩,fun z=>z.2.2.2.2⟩
inductive Gg (vs:List V)(H:Hp)(Q:VK):Prop
 | mk (b t r:Addr) (ps:List (Int×Int)) (p:Int×Int) (k1 k2 w1 w2:Int) (c0:vs=[.ref b,.ref t,.ref r]) (c1:bH H b ps) (c2:(∀ p∈ps,mO p)) (c3:H t=some (.tup [.int p.1,.int p.2])) (c4:mO p) (c5:H r=some (.tup [.int k1,.int k2,.int w1,.int w2])) (c6:jm w1) (c7:jm w2) (c8:jm (w1+w2)) (c9:∀ v,(v=true↔yw ps p k1 k2 w1 w2)→Q (.bl v) H):Gg  vs H Q
def xq:Sp:=fun vs H Q _=>Gg  vs H Q
theorem f9:aY ["book", "tariff", "row", "one", "other", "weights", "at_once", "by_piece"] ["book", "tariff", "row"] (aC pN):=⟨rfl,rfl,rfl,by decide +kernel,rfl,by decide +kernel,by decide +kernel⟩
theorem Dt {f:Addr}{fd:FuncData}(F:gY K "is_mixture" "is_mixture" pN f fd)(B:Bl mg)(T:CT K mg z)
  (Du:Cl P w K mg base 3 "is_weighing" ["book", "row"] Nt):cA P w K mg base gB 4 f fd ["book", "tariff", "row"] xq:=by
 refine F.ok f9 (fun vs H Q E h=>?_) (fun cdv A outer s H vs Q E hr h=>?_)
 ·obtain⟨b,t,r,ps,p,k1,k2,w1,w2,rfl,_⟩:=h
  rfl
 ·obtain⟨b,t,r,ps,p,k1,k2,w1,w2,rfl,hB,hok,ht,op,hr',f1,f2,f3,q⟩:=h
  obtain⟨vs,hv,htb⟩:=id hB
  have yq:=htb.len
  have no:¬ yw ps p k1 k2 w1 w2→Q (.bl false) H:=fun e=>q false ⟨fun z=>(by cases z),fun z=>absurd z e⟩
  refine⟨_,(aB (bY (dh (cR (Du.pe hr (aj (pv 0) (aj (pv 2) ao))))) (aD (aN cM)) bw)
     (aB (aW (i:=3) f9.nd rfl (Or.inl rfl) (aH (aP K) (pv 0) (aH (aG K) (pv 2) aA (fun _ _=>rfl)) (fun _ _=>rfl)))
     (aB (aW (i:=4) f9.nd rfl (Or.inl rfl) (aH (aP K) (pv 0) (aH (aG K) (pv 2) aA (fun _ _=>rfl)) (fun _ _=>rfl)))
     (aB (aW (i:=5) f9.nd rfl (Or.inl rfl) (aF dj (aH (aG K) (pv 2) aA (fun _ _=>rfl)) (aH (aG K) (pv 2) aA (fun _ _=>rfl))))
     (aB (aW (i:=6) f9.nd rfl (Or.inl rfl) (aF dj (aF dR (aH (aG K) (pv 2) aA (fun _ _=>rfl)) (aH (aG K) (pv 3) aA (fun _ _=>rfl))) (aF dR (aH (aG K) (pv 2) aA (fun _ _=>rfl)) (aH (aG K) (pv 4) aA (fun _ _=>rfl)))))
     (aB (aW (i:=7) f9.nd rfl (Or.inl rfl) (aF dj (aF dR (aH (aG K) (pv 2) aA (fun _ _=>rfl)) (aH (aG K) (pv 3) aA (fun _ _=>rfl))) (aF dR (aH (aG K) (pv 2) aA (fun _ _=>rfl)) (aH (aG K) (pv 4) aA (fun _ _=>rfl)))))
     (aD (aN (eF (bW qQ (pv 6) (aF dR (pv 5) (aH (aG K) (pv 1) aA (fun _ _=>rfl))) (aU _)) (iT (bW qQ (pv 7) (aF dR (pv 5) (aH (aG K) (pv 1) aA (fun _ _=>rfl))) (aU _)))))))))))),?_⟩
  refine⟨_,rfl,_,rfl,b,r,vs,k1,k2,w1,w2,rfl,hv,hr',fun v1 e1=>⟨_,rfl,?_⟩⟩
  rw[yq] at e1
  by_cases c1:v1=true
  case neg =>
   have c1':=Bool.eq_false_iff.mpr c1
   exact dO (by rw[c1'];rfl) (no fun z=>c1 (e1.mpr ⟨z.in1,z.in2,z.n1,z.n2,z.pos⟩))
  refine dX (by rw[c1];rfl) ?_
  obtain⟨⟨a0,a1⟩,⟨b0,b1⟩,n1,n2,Jb⟩:=e1.mp c1
  obtain⟨u1,hu1,r1,rfl,hr1⟩:=bx htb (bD a0 a1)
  obtain⟨u2,hu2,r2,rfl,hr2⟩:=bx htb (bD b0 b1)
  have o1:=hok _ (List.mem_of_getElem? (bD a0 a1))
  have o2:=hok _ (List.mem_of_getElem? (bD b0 b1))
  refine⟨_,rfl,_,rfl,r,_,0,_,rfl,rfl,cT.of hr',rfl,b,vs,k1,_,rfl,rfl,aQ.of hv,cG a0 hu1,?_⟩
  refine⟨_,rfl,_,rfl,r,_,1,_,rfl,rfl,cT.of hr',rfl,b,vs,k2,_,rfl,rfl,aQ.of hv,cG b0 hu2,?_⟩
  refine⟨_,rfl,r,_,2,_,rfl,rfl,cT.of hr',rfl,_,rfl,r,_,3,_,rfl,rfl,cT.of hr',rfl,_,_,rfl,rfl,?_⟩
  refine⟨_,rfl,r,_,2,_,rfl,rfl,cT.of hr',rfl,_,rfl,r1,_,0,_,rfl,rfl,cT.of hr1,rfl,_,_,rfl,rfl,⟨f1,o1.1.fit⟩,_,rfl,r,_,3,_,rfl,rfl,cT.of hr',rfl,_,rfl,r2,_,0,_,rfl,rfl,cT.of hr2,rfl,_,_,rfl,rfl,⟨f2,o2.1.fit⟩,_,_,rfl,rfl,?_⟩
  refine⟨_,rfl,r,_,2,_,rfl,rfl,cT.of hr',rfl,_,rfl,r1,_,1,_,rfl,rfl,cT.of hr1,rfl,_,_,rfl,rfl,⟨f1,o1.2.fit⟩,_,rfl,r,_,3,_,rfl,rfl,cT.of hr',rfl,_,rfl,r2,_,1,_,rfl,rfl,cT.of hr2,rfl,_,_,rfl,rfl,⟨f2,o2.2.fit⟩,_,_,rfl,rfl,?_⟩
  refine⟨_,rfl,_,rfl,_,rfl,t,_,0,_,rfl,rfl,cT.of ht,rfl,_,_,rfl,rfl,⟨f3,op.1.fit⟩,_,_,rfl,rfl,_,rfl,?_⟩
  by_cases c2:w1*(tar ps k1).1+w2*(tar ps k2).1≤(w1+w2)*p.1
  case neg =>
   exact dX (decide_eq_false c2) (no fun z=>c2 z.once)
  refine dO (decide_eq_true c2) ?_
  refine⟨_,rfl,_,rfl,_,rfl,t,_,1,_,rfl,rfl,cT.of ht,rfl,_,_,rfl,rfl,⟨f3,op.2.fit⟩,_,_,rfl,rfl,q _ ?_⟩
  rw[decide_eq_true_iff]
  exact⟨fun z=>⟨⟨a0,a1⟩,⟨b0,b1⟩,n1,n2,Jb,c2,z⟩,fun z=>z.piece⟩
inductive Ca (vs:List V)(H:Hp)(Q:VK):Prop
 | mk (b r t:Addr) (ps:List (Int×Int)) (p:Int×Int) (k1 k2 w1 w2:Int) (c0:vs=[.ref b,.ref r,.ref t]) (c1:bH H b ps) (c2:(∀ p∈ps,mO p)) (c3:H t=some (.tup [.int p.1,.int p.2])) (c4:mO p) (c5:H r=some (.tup [.int k1,.int k2,.int w1,.int w2])) (c6:jm w1) (c7:jm w2) (c8:jm (w1+w2)) (c9:∀ v H',(v=true↔yw ps p k1 k2 w1 w2)→Same H H'→Q (.bl v) H'):Ca  vs H Q
def uV:Sp:=fun vs H Q _=>Ca  vs H Q
theorem dJ:aY ["_law_book_here", "_law_row", "_law_tariff", "_law_one", "_law_other", "_law_first", "_law_second", "_law_k", "_law_mixed"] ["_law_book_here", "_law_row", "_law_tariff"] (aC lU):=⟨rfl,rfl,rfl,by decide +kernel,rfl,by decide +kernel,by decide +kernel⟩
theorem yU {f:Addr}{fd:FuncData}(F:gY K "_law_mixture" "_law_mixture" lU f fd)(B:Bl mg)(T:CT K mg z):cA P w K mg base gB 1 f fd ["_law_book_here", "_law_row", "_law_tariff"] uV:=by
 refine F.ok dJ (fun vs H Q E h=>?_) (fun cdv A outer s H vs Q E hr h=>?_)
 ·obtain⟨b,r,t,ps,p,k1,k2,w1,w2,rfl,_⟩:=h
  rfl
 ·obtain⟨b,r,t,ps,p,k1,k2,w1,w2,rfl,hB,hok,ht,op,hr',f1,f2,f3,q⟩:=h
  obtain⟨vs,hv,htb⟩:=id hB
  have yq:=htb.len
  have no:∀ H',Same H H'→¬ yw ps p k1 k2 w1 w2→Q (.bl false) H':=fun H' s e=>q false H' ⟨fun z=>(by cases z),fun z=>absurd z e⟩ s
  refine⟨_,(aB (Qz (pv 1) (gn K (n:=4) rfl rfl (bO (aZ (i:=3) dJ.nd rfl (Or.inl rfl)) (bO (aZ (i:=4) dJ.nd rfl (Or.inl rfl)) (bO (aZ (i:=5) dJ.nd rfl (Or.inl rfl)) (bO (aZ (i:=6) dJ.nd rfl (Or.inl rfl)) gk))))))
     (aB (bY (PW.pt (pw_or (cR (aK (UW K rfl rfl) rfl B.any boot_any (aj (cF (N':=["_law_place", "_law_book_here"]) (k:=1) (js:=[0]) ⟨rfl,by decide +kernel,by decide +kernel,by rfl,by rfl,rfl⟩ rfl (bM K rfl (bF (aj (pv 3) (aj (pv 4) ao))))
       (fun _ _ _ _ _=>(aZ (i:=0) (show (["_law_place", "_law_book_here"]:List Str).Nodup by decide +kernel) rfl (Or.inl rfl))) (bI (by decide)) (fun _ _ _ _ _=>cD)
       (fun _ _ _ _ _=>(KZ (z9 qQ qt aA (pv 0) (aK (iV K) rfl B.len PySem.boot_len (aj (pv 1) ao)))))) ao))) (pw_or (bB qt (pv 5) aA (aU _)) (pw_or (bB qt (pv 6) aA (aU _)) (pw_or1 (bB iM (aF dj (pv 5) (pv 6)) aA (aU _))))))) (aD (aN cM)) bw)
     (aB (jP PassesOwn.never rfl (wR rfl B.range (aj aA ao)) (aZ (i:=7) dJ.nd rfl (Or.inl rfl))
     (aB (aW (i:=8) dJ.nd rfl (Or.inl rfl) (aF dj (aF dR (pv 5) (aH (aG K) (aH (aP K) (pv 0) (pv 3) (fun _ _=>rfl)) (pv 7) (fun _ _=>rfl))) (aF dR (pv 6) (aH (aG K) (aH (aP K) (pv 0) (pv 4) (fun _ _=>rfl)) (pv 7) (fun _ _=>rfl)))))
     (aD (bY (bB iQ (pv 8) (aF dR (aF dj (pv 5) (pv 6)) (aH (aG K) (pv 2) (pv 7) (fun _ _=>rfl))) (aU _)) (aD (aN cM)) bw))))
     (aD (aN cM))))),?_⟩
  refine⟨_,rfl,r,_,rfl,cT.of hr',rfl,_,_,rfl,_,_,rfl,_,_,rfl,_,_,rfl,rfl,?_⟩
  refine⟨_,rfl,_,rfl,cI,fun l hl=>?_⟩
  have s1:=aq hl (.lst [.int k1,.int k2])
  have g1:(upd H l (.lst [.int k1,.int k2])) l=some (.lst ([k1,k2].map V.int)):=ak
  generalize upd H l (.lst [.int k1,.int k2])=H1 at s1 g1 ⊢
  have hv1:=s1 _ _ hv
  refine⟨l,rfl,⟨_,aQ.of g1⟩,bV (K:=K) (a:=l) (xs:=[k1,k2].map V.int) (fun i ys H3=>H1=H3∧Dp (fun j=>∀ k,[k1,k2][j]?=some k→0≤k∧k<(ps.length:Int)) i ys) ⟨rfl,vX _⟩ (fun i ys H3 hi ⟨e,ha⟩=>⟨by rw[←e];exact aQ.of g1,ha.lt (by have:i≤2:=hi;lia)⟩) ?_ ?_⟩
  ·rintro i v ys H3 hi ⟨rfl,ha⟩
   obtain⟨k,hk,rfl⟩:=int_at hi
   refine dg ?_
   refine⟨_,rfl,_,_,rfl,rfl,_,rfl,?_⟩
   by_cases k0:0≤k
   ·refine dO (decide_eq_true k0) ?_
    refine⟨_,rfl,b,vs,rfl,.inl (aQ.of hv1),_,_,rfl,rfl,_,rfl,rfl,ha.snoc ?_⟩
    rw[Bool.not_eq_false',decide_eq_true_iff,yq]
    exact⟨fun z k' e=>by rw[hk] at e;cases e;exact⟨k0,z⟩,fun z=>(z k hk).2⟩
   ·refine dX (decide_eq_false k0) ?_
    refine⟨_,rfl,rfl,ha.snoc ⟨fun z=>(by cases z),fun z=>absurd (z k hk).1 k0⟩⟩
  rintro ys H3 ⟨rfl,xg,rfl,_,hb1⟩ D hD
  refine⟨D,xg,rfl,aQ.of ak,_,rfl,?_⟩
  have Dg:xg.any id=false↔((0≤k1∧k1<(ps.length:Int))∧(0≤k2∧k2<(ps.length:Int))):=by
   rw[hb1]
   constructor
   ·intro z
    exact⟨z 0 (show 0<2 by decide) k1 rfl,z 1 (show 1<2 by decide) k2 rfl⟩
   ·intro z j hj k e
    match j,e with
    | 0,e=>cases e;exact z.1
    | 1,e=>cases e;exact z.2
    | n+2,e=>simp at e
  have s2:=s1.trans (aq hD (.lst (xg.map V.bl)))
  generalize upd H1 D (.lst (xg.map V.bl))=H2 at s2 ⊢
  clear hb1 hD g1 hv1 s1
  by_cases c1:xg.any id=false
  case neg =>
   exact dO (by simpa using c1) (fH (no H2 s2 fun z=>c1 (Dg.mpr ⟨z.in1,z.in2⟩)))
  refine dX c1 ?_
  obtain⟨⟨a0,a1⟩,⟨b0,b1⟩⟩:=Dg.mp c1
  refine⟨_,rfl,_,_,rfl,rfl,_,rfl,?_⟩
  by_cases c2:w1<0
  case pos =>
   exact dO (decide_eq_true c2) (fH (no H2 s2 fun z=>by have:=z.n1;lia))
  refine dX (decide_eq_false c2) ?_
  refine⟨_,rfl,_,_,rfl,rfl,_,rfl,?_⟩
  by_cases c3:w2<0
  case pos =>
   exact dO (decide_eq_true c3) (fH (no H2 s2 fun z=>by have:=z.n2;lia))
  refine dX (decide_eq_false c3) ?_
  refine⟨_,rfl,_,rfl,_,_,rfl,rfl,rfl,_,rfl,?_⟩
  by_cases c4:w1+w2=0
  case pos =>
   exact dO (decide_eq_true (congrArg V.int c4)) (no H2 s2 fun z=>by have:=z.pos;lia)
  refine dX (decide_eq_false fun z=>c4 (V.int.inj z)) ?_
  have Sy:=htb.same s2
  have hv2:=s2 _ _ hv
  obtain⟨u1,hu1,r1,rfl,hr1⟩:=bx Sy (bD a0 a1)
  obtain⟨u2,hu2,r2,rfl,hr2⟩:=bx Sy (bD b0 b1)
  have o1:=hok _ (List.mem_of_getElem? (bD a0 a1))
  have o2:=hok _ (List.mem_of_getElem? (bD b0 b1))
  have S5:=s2 _ _ ht
  let nth:(Int×Int)→Nat→Int:=fun p i=>if i=0 then p.1 else p.2
  have at2:∀ (p:Int×Int) (i:Nat),i<2→Ja [V.int p.1,V.int p.2] ((0:Int)+(i:Nat))=some (.int (nth p i)):=fun p i hi=>by
   match i,hi with
   | 0,_=>rfl
   | 1,_=>rfl
  have Yj:∀ (p:Int×Int) (i:Nat),mO p→jm (nth p i):=fun p i o=>by
   show jm (if i=0 then p.1 else p.2)
   split
   ·exact o.1.fit
   ·exact o.2.fit
  refine⟨2,rfl,by decide,by decide,Ol (lo:=0) (n:=(2:Int).toNat) (fun i σ H3=>H3=H2∧(∃ v7 v8,σ=[some (.ref b),some (.ref r),some (.ref t),some (.int k1),some (.int k2),some (.int w1),some (.int w2),v7,v8])∧∀ j,j<i→w1*nth (tar ps k1) j+w2*nth (tar ps k2) j≤(w1+w2)*nth p j)
   ⟨rfl,⟨_,_,rfl⟩,fun j hj=>absurd hj (Nat.not_lt_zero j)⟩ ?_ ?_⟩
  ·rintro i σ H3 hi ⟨rfl,⟨v7,v8,rfl⟩,hall⟩
   have hi2:i<2:=hi
   refine⟨_,rfl,_,rfl,_,rfl,b,vs,k1,_,rfl,rfl,aQ.of hv2,cG a0 hu1,_,rfl,r1,_,_,_,rfl,rfl,cT.of hr1,at2 _ i hi2,_,_,rfl,rfl,⟨f1,Yj _ i o1⟩,_,rfl,_,rfl,_,rfl,b,vs,k2,_,rfl,rfl,aQ.of hv2,cG b0 hu2,_,rfl,r2,_,_,_,rfl,rfl,cT.of hr2,at2 _ i hi2,_,_,rfl,rfl,⟨f2,Yj _ i o2⟩,_,_,rfl,rfl,?_⟩
   refine⟨_,rfl,_,rfl,_,rfl,_,_,rfl,rfl,_,rfl,_,rfl,t,_,_,_,rfl,rfl,cT.of S5,at2 p i hi2,_,_,rfl,rfl,⟨f3,Yj p i op⟩,_,_,rfl,rfl,_,rfl,?_⟩
   by_cases c5:(w1+w2)*nth p i<w1*nth (tar ps k1) i+w2*nth (tar ps k2) i
   ·refine dO (decide_eq_true c5) (no _ s2 fun z=>?_)
    match i,hi2,c5 with
    | 0,_,c5 =>
     have h1:w1*(tar ps k1).1+w2*(tar ps k2).1≤(w1+w2)*p.1:=z.once
     have h2:(w1+w2)*p.1<w1*(tar ps k1).1+w2*(tar ps k2).1:=c5
     lia
    | 1,_,c5 =>
     have h1:w1*(tar ps k1).2+w2*(tar ps k2).2≤(w1+w2)*p.2:=z.piece
     have h2:(w1+w2)*p.2<w1*(tar ps k1).2+w2*(tar ps k2).2:=c5
     lia
   ·refine dX (decide_eq_false c5) ⟨rfl,⟨_,_,rfl⟩,fun j hj=>?_⟩
    by_cases ej:j=i
    ·subst ej
     lia
    ·exact hall j (by lia)
  ·rintro σ H3 ⟨rfl,⟨v7,v8,rfl⟩,hall⟩
   refine q true _ ⟨fun _=>⟨⟨a0,a1⟩,⟨b0,b1⟩,by lia,by lia,by lia,hall 0 (by decide),hall 1 (by decide)⟩,fun _=>rfl⟩ s2
end
def Hq (ps:List (Int×Int))(k x y:Int):Prop:=∀ (j:Nat) p,ps[j]?=some p→(j:Int)≠k→cst (tar ps k) x y<cst p x y
structure Hr (ps:List (Int×Int))(k k1 k2 w1 w2:Int):Prop where
 mix:yw ps (tar ps k) k1 k2 w1 w2
 ne1:k1≠k
 ne2:k2≠k
theorem oJ.skip {c:Nat→Prop}{i:Nat}{ys:List V}(h:oJ c i ys)(hc:c i):oJ c (i+1) ys:=by
 obtain⟨bs,rfl,h1,h2⟩:=h
 refine⟨bs,rfl,by lia,?_⟩
 rw[h2]
 constructor
 ·intro a j hj
  by_cases e:j=i
  ·subst e;exact hc
  ·exact a j (by lia)
 ·intro a j hj
  exact a j (by lia)
abbrev qb (r:Addr):List (Str×V):=iC "amount" (.ref r) []
theorem uw (r:Addr):(qb r).lookup ("amount" : Str)=some (.ref r):=rfl
theorem Gh (r:Addr):(qb r).lookup ("shows" : Str)=none:=rfl
abbrev qG (a b c d:Int):List (Str×V):=iC "second" (.int d) (iC "first" (.int c) (iC "other" (.int b) (iC "one" (.int a) [])))
theorem xr (a b c d:Int):(qG a b c d).lookup ("one" : Str)=some (.int a):=rfl
theorem rQ (a b c d:Int):(qG a b c d).lookup ("other" : Str)=some (.int b):=rfl
theorem yx (a b c d:Int):(qG a b c d).lookup ("first" : Str)=some (.int c):=rfl
theorem wg (a b c d:Int):(qG a b c d).lookup ("second" : Str)=some (.int d):=rfl
theorem JZ (a b c d:Int):(qG a b c d).lookup ("shows" : Str)=none:=rfl
inductive aeX where
 | alone (x y:Int)
 | need (k1 k2 w1 w2:Int)
def S6 (z:Cz)(H:Hp)(a:Addr):aeX→Prop
 | .alone x y=>∃ dx r,H a=some (.ins z.Alone dx (qb r))∧H r=some (.tup [.int x,.int y])
 | .need k1 k2 w1 w2=>∃ dx,H a=some (.ins z.Needless dx (qG k1 k2 w1 w2))
def Yk:aeX→Prop
 | .alone x y=>tO x y
 | .need _ _ w1 w2=>jm w1∧jm w2∧jm (w1+w2)
section
variable{P:Program}{w:World}{K:PySem.W.Frag}{mg:Str→Option Value}{base:Heap}{z:Cz}
inductive yC (z:Cz)(vs:List V)(H:Hp)(Q:VK):Prop
 | mk (a dx r:Addr) (c0:vs=[.ref a,.ref r]) (c1:H a=some (.ins z.Alone dx [])) (c2:Q .non (upd H a (.ins z.Alone dx (qb r)))):yC z vs H Q
def jJ (z:Cz):Sp:=fun vs H Q _=>yC z vs H Q
theorem Dv:aY ["self", "amount"] ["self", "amount"] (aC pP):=⟨rfl,rfl,rfl,by decide +kernel,rfl,by decide +kernel,by decide +kernel⟩
theorem Dw {f:Addr}{fd:FuncData}(F:gY K "__init__" "Alone.__init__" pP f fd)(B:Bl mg)(T:CT K mg z):cA P w K mg base gB 1 f fd ["self", "amount"] (jJ z):=by
 refine F.ok Dv (fun vs H Q E h=>?_) (fun cdv A outer s H vs Q E hr h=>?_)
 ·obtain⟨a,dx,r,rfl,_⟩:=h
  rfl
 ·obtain⟨a,dx,r,rfl,ha,q⟩:=h
  refine⟨_,(aD (jQ (pv 0) (pv 1) rfl)),?_⟩
  exact⟨_,rfl,_,rfl,a,_,dx,_,rfl,ha,T.o7,T.fX,(by show 0<1000;decide),q⟩
inductive Cd (z:Cz)(vs:List V)(H:Hp)(Q:VK):Prop
 | mk (a dx:Addr) (k1 k2 w1 w2:Int) (c0:vs=[.ref a,.int k1,.int k2,.int w1,.int w2]) (c1:H a=some (.ins z.Needless dx [])) (c2:Q .non (upd H a (.ins z.Needless dx (qG k1 k2 w1 w2)))):Cd z vs H Q
def mD (z:Cz):Sp:=fun vs H Q _=>Cd z vs H Q
theorem xu:aY ["self", "one", "other", "first", "second"] ["self", "one", "other", "first", "second"] (aC jT):=⟨rfl,rfl,rfl,by decide +kernel,rfl,by decide +kernel,by decide +kernel⟩
theorem xG {f:Addr}{fd:FuncData}(F:gY K "__init__" "Needless.__init__" jT f fd)(B:Bl mg)(T:CT K mg z):cA P w K mg base gB 1 f fd ["self", "one", "other", "first", "second"] (mD z):=by
 refine F.ok xu (fun vs H Q E h=>?_) (fun cdv A outer s H vs Q E hr h=>?_)
 ·obtain⟨a,dx,k1,k2,w1,w2,rfl,_⟩:=h
  rfl
 ·obtain⟨a,dx,k1,k2,w1,w2,rfl,ha,q⟩:=h
  refine⟨_,(aB (jQ (pv 0) (pv 1) rfl)
     (aB (jQ (pv 0) (pv 2) rfl)
     (aB (jQ (pv 0) (pv 3) rfl)
     (aD (jQ (pv 0) (pv 4) rfl))))),?_⟩
  refine⟨_,rfl,_,rfl,a,_,dx,_,rfl,ha,T.bG,T.eG,(by show 0<1000;decide),?_⟩
  refine⟨_,rfl,_,rfl,a,_,dx,_,rfl,ak,T.bG,T.dH,(by show 1<1000;decide),?_⟩
  rw[eO]
  refine⟨_,rfl,_,rfl,a,_,dx,_,rfl,ak,T.bG,T.eY,(by show 2<1000;decide),?_⟩
  rw[eO]
  refine⟨_,rfl,_,rfl,a,_,dx,_,rfl,ak,T.bG,T.dY,(by show 3<1000;decide),?_⟩
  rw[eO]
  exact q
inductive wj (z:Cz)(vs:List V)(H:Hp)(Q:VK):Prop
 | mk (a b:Addr) (k x y:Int) (ps:List (Int×Int)) (c0:vs=[.ref a,.ref b,.int k]) (c1:S6 z H a (.alone x y)) (c2:tO x y) (c3:bH H b ps) (c4:ps.length≤1000) (c5:(∀ p∈ps,mO p)) (c6:0≤k) (c7:k<(ps.length:Int)) (c8:∀ v H',(v=true↔Hq ps k x y)→Same H H'→Q (.bl v) H'):wj z vs H Q
def kI (z:Cz):Sp:=fun vs H Q _=>wj z vs H Q
theorem rR:aY ["self", "book", "place", "tops"] ["self", "book", "place"] (aC n8):=⟨rfl,rfl,rfl,by decide +kernel,rfl,by decide +kernel,by decide +kernel⟩
theorem Ce {f:Addr}{fd:FuncData}(F:gY K "shows" "Alone.shows" n8 f fd)(B:Bl mg)(T:CT K mg z)
  (gH:Cl P w K mg base 3 "is_amount" ["value"] Bf)
  (dF:Cl P w K mg base 2 "tops_of_cost" ["book", "amount"] Bm):cA P w K mg base gB 4 f fd ["self", "book", "place"] (kI z):=by
 refine F.ok rR (fun vs H Q E h=>?_) (fun cdv A outer s H vs Q E hr h=>?_)
 ·obtain⟨a,b,k,x,y,ps,rfl,_⟩:=h
  rfl
 ·obtain⟨a,b,k,x,y,ps,rfl,⟨dx,r,ha,hr'⟩,am,hB,qD,hok,k0,k1,q⟩:=h
  refine⟨_,(aB (bY (dh (cR (gH.pe hr (aj (bK K rfl (pv 0) rfl) ao)))) (aD (aN cM)) bw)
     (aB (aW (i:=3) rR.nd rfl (Or.inr rfl) (dF.pe hr (aj (pv 1) (aj (bK K rfl (pv 0) rfl) ao))))
     (aD (aN (aK (tM K rfl rfl) rfl B.all boot_all (aj (cF (N':=["index", "top", "place", "tops"]) (k:=2) (js:=[2,3]) ⟨rfl,by decide +kernel,by decide +kernel,by rfl,by rfl,rfl⟩ rfl (vK K rfl rfl B.enum (aj (pv 3) ao))
       (fun _ _ _ _ _=>(gn K (n:=2) rfl rfl (bO (aZ (i:=0) (show (["index", "top", "place", "tops"]:List Str).Nodup by decide +kernel) rfl (Or.inl rfl)) (bO (aZ (i:=1) (show (["index", "top", "place", "tops"]:List Str).Nodup by decide +kernel) rfl (Or.inl rfl)) gk)))) (qT (dN (bI (by decide)) (dN (bI (by decide)) mU))) (fun _ _ _ _ _=>zE (bB mR (pv 0) (pv 2) (aU _)))
       (fun _ _ _ _ _=>(bW iQ (pv 1) (aH (aP K) (pv 3) (pv 2) (fun _ _=>rfl)) (aU _)))) ao)))))),?_⟩
  refine⟨_,rfl,a,_,dx,_,_,rfl,ha,T.o7,T.fX,uw r,r,x,y,rfl,hr',am.x0.1,am.y1,am.cop,_,rfl,dz ?_⟩
  refine⟨_,rfl,_,rfl,a,_,dx,_,_,rfl,ha,T.o7,T.fX,uw r,b,r,ps,x,y,rfl,hB,qD,hok,hr',am,fun t ht=>?_⟩
  have s1:=aq ht (.lst ((costs ps x y).map V.int))
  have g1:(upd H t (.lst ((costs ps x y).map V.int))) t=some (.lst ((costs ps x y).map V.int)):=ak
  generalize upd H t (.lst ((costs ps x y).map V.int))=H1 at s1 g1 ⊢
  have hlc:((costs ps x y).map V.int).length=ps.length:=by rw[List.length_map,costs,List.length_map]
  refine⟨_,rfl,t,rfl,⟨_,aQ.of g1⟩,Fq (K:=K) (a:=t) (xs:=(costs ps x y).map V.int) (fun i ys H2=>Same H1 H2∧oJ (fun j=>∀ p,ps[j]?=some p→(j:Int)≠k→cst (tar ps k) x y<cst p x y) i ys) ⟨Same.refl _,fY _⟩ (fun i ys H2 hi ⟨e,ha⟩=>⟨e.seq (aQ.of g1),ha.lt (by lia)⟩) ?_ ?_⟩
  ·rintro i v ys H2 p hi ⟨s2,ha⟩ hp
   obtain⟨c,hc,rfl⟩:=int_at hi
   rw[costs] at hc
   obtain⟨pj,hpj,rfl⟩:=mz hc
   have s3:=s2.trans (aq hp (.tup [.int (i:Nat),.int (cst pj x y)]))
   refine⟨p,_,rfl,cT.of ak,rfl,_,_,rfl,_,_,rfl,rfl,?_⟩
   refine⟨_,rfl,_,rfl,rfl,_,rfl,?_⟩
   by_cases c1:(i:Int)=k
   ·refine dX (by rw[c1];simp) ?_
    exact⟨s3,ha.skip fun p' _ n=>absurd c1 n⟩
   ·refine dO (by rw[decide_eq_false (fun e=>c1 (V.int.inj e))];rfl) ?_
    refine⟨_,rfl,_,rfl,_,rfl,t,_,k,_,rfl,rfl,aQ.of (s3 _ _ g1),cG k0 (Bw k0 k1),_,_,rfl,rfl,s3,ha.snoc ?_⟩
    rw[decide_eq_true_iff]
    refine⟨fun z p' e _=>?_,fun z=>z pj hpj c1⟩
    rw[hpj] at e;cases e
    exact z
  ·rintro ys H2 ⟨s2,bs,rfl,_,hb⟩ D hD
   refine⟨D,bs,rfl,aQ.of ak,q _ _ ?_ ((s1.trans s2).trans (aq hD _))⟩
   rw[hb]
   exact⟨fun z j p e n=>z j (by rw[hlc];exact (List.getElem?_eq_some_iff.mp e).1) p e n,fun z j _ p e n=>z j p e n⟩
inductive yD (z:Cz)(vs:List V)(H:Hp)(Q:VK):Prop
 | mk (a b:Addr) (k k1 k2 w1 w2:Int) (ps:List (Int×Int)) (c0:vs=[.ref a,.ref b,.int k]) (c1:S6 z H a (.need k1 k2 w1 w2)) (c2:Yk (.need k1 k2 w1 w2)) (c3:bH H b ps) (c4:(∀ p∈ps,mO p)) (c5:0≤k) (c6:k<(ps.length:Int)) (c7:∀ v H',(v=true↔Hr ps k k1 k2 w1 w2)→Same H H'→Q (.bl v) H'):yD z vs H Q
def m9 (z:Cz):Sp:=fun vs H Q _=>yD z vs H Q
theorem ni:aY ["self", "book", "place", "row"] ["self", "book", "place"] (aC jq):=⟨rfl,rfl,rfl,by decide +kernel,rfl,by decide +kernel,by decide +kernel⟩
theorem wu {f:Addr}{fd:FuncData}(F:gY K "shows" "Needless.shows" jq f fd)(B:Bl mg)(T:CT K mg z)
  (qd:Cl P w K mg base 4 "is_mixture" ["book", "tariff", "row"] xq):cA P w K mg base gB 5 f fd ["self", "book", "place"] (m9 z):=by
 refine F.ok ni (fun vs H Q E h=>?_) (fun cdv A outer s H vs Q E hr h=>?_)
 ·obtain⟨a,b,k,k1,k2,w1,w2,ps,rfl,_⟩:=h
  rfl
 ·obtain⟨a,b,k,k1,k2,w1,w2,ps,rfl,⟨dx,ha⟩,⟨f1,f2,f3⟩,hB,hok,k0,kl,q⟩:=h
  refine⟨_,(aB (aW (i:=3) ni.nd rfl (Or.inl rfl) (bN (aj (bK K rfl (pv 0) rfl) (aj (bK K rfl (pv 0) rfl) (aj (bK K rfl (pv 0) rfl) (aj (bK K rfl (pv 0) rfl) ao))))))
     (aD (aN (eF (qd.pe hr (aj (pv 1) (aj (aH (aP K) (pv 1) (pv 2) (fun _ _=>rfl)) (aj (pv 3) ao)))) (eF (bW mR (bK K rfl (pv 0) rfl) (pv 2) (aU _)) (iT (bW mR (bK K rfl (pv 0) rfl) (pv 2) (aU _)))))))),?_⟩
  refine⟨_,rfl,a,_,dx,_,_,rfl,ha,T.bG,T.eG,xr _ _ _ _,_,rfl,a,_,dx,_,_,rfl,ha,T.bG,T.dH,rQ _ _ _ _,_,rfl,a,_,dx,_,_,rfl,ha,T.bG,T.eY,yx _ _ _ _,_,rfl,a,_,dx,_,_,rfl,ha,T.bG,T.dY,wg _ _ _ _,kE,fun r hr'=>?_⟩
  have s1:=aq hr' (.tup [.int k1,.int k2,.int w1,.int w2])
  have g1:(upd H r (.tup [.int k1,.int k2,.int w1,.int w2])) r=some (.tup [.int k1,.int k2,.int w1,.int w2]):=ak
  generalize upd H r (.tup [.int k1,.int k2,.int w1,.int w2])=H1 at s1 g1 ⊢
  have Y6:=hB.same s1
  obtain⟨vs,hv,htb⟩:=id Y6
  obtain⟨u,hu,rt,rfl,FP⟩:=bx htb (bD k0 kl)
  have ot:=hok _ (List.mem_of_getElem? (bD k0 kl))
  refine⟨_,rfl,_,rfl,_,rfl,b,vs,k,_,rfl,rfl,aQ.of hv,cG k0 hu,_,rfl,b,rt,r,ps,tar ps k,k1,k2,w1,w2,rfl,Y6,hok,FP,ot,g1,f1,f2,f3,fun v1 e1=>⟨_,rfl,?_⟩⟩
  have ha1:=s1 _ _ ha
  by_cases c1:v1=true
  case neg =>
   exact dX (Bool.eq_false_iff.mpr c1) (q false H1 ⟨fun z=>(by cases z),fun z=>absurd (e1.mpr z.mix) c1⟩ s1)
  refine dO c1 ?_
  refine⟨_,rfl,a,_,dx,_,_,rfl,ha1,T.bG,T.eG,xr _ _ _ _,_,rfl,rfl,_,rfl,?_⟩
  by_cases c2:k1=k
  case pos =>
   exact dX (by rw[c2];simp) (q false H1 ⟨fun z=>(by cases z),fun z=>absurd c2 z.ne1⟩ s1)
  refine dO (by rw[decide_eq_false (fun e=>c2 (V.int.inj e))];rfl) ?_
  refine⟨_,rfl,a,_,dx,_,_,rfl,ha1,T.bG,T.dH,rQ _ _ _ _,_,rfl,rfl,q _ H1 ?_ s1⟩
  rw[Bool.not_eq_true',decide_eq_false_iff_not]
  exact⟨fun z=>⟨e1.mp c1,c2,fun e=>z (by rw[e])⟩,fun z e=>z.ne2 (V.int.inj e)⟩
inductive J0 (vs:List V)(H:Hp)(Q:VK):Prop
 | mk (b r:Addr) (k x y:Int) (ps:List (Int×Int)) (c0:vs=[.ref b,.int k,.ref r]) (c1:bH H b ps) (c2:ps.length≤1000) (c3:(∀ p∈ps,mO p)) (c4:0≤k) (c5:k<(ps.length:Int)) (c6:H r=some (.tup [.int x,.int y])) (c7:tO x y) (c8:∀ v H',(v=true↔Hq ps k x y)→Same H H'→Q (.bl v) H'):J0  vs H Q
def J1:Sp:=fun vs H Q _=>J0  vs H Q
theorem ux:aY ["_law_book_here", "_law_place", "_law_amount_here", "_law_others"] ["_law_book_here", "_law_place", "_law_amount_here"] (aC pX):=⟨rfl,rfl,rfl,by decide +kernel,rfl,by decide +kernel,by decide +kernel⟩
theorem Dy {f:Addr}{fd:FuncData}(F:gY K "_law_alone" "_law_alone" pX f fd)(B:Bl mg)(T:CT K mg z)
  (cP:Cl P w K mg base 1 "_law_cost" ["_law_tariff", "_law_amount_here"] um):cA P w K mg base gB 2 f fd ["_law_book_here", "_law_place", "_law_amount_here"] J1:=by
 refine F.ok ux (fun vs H Q E h=>?_) (fun cdv A outer s H vs Q E hr h=>?_)
 ·obtain⟨b,r,k,x,y,ps,rfl,_⟩:=h
  rfl
 ·obtain⟨b,r,k,x,y,ps,rfl,hB,qD,hok,k0,k1,hr',am,q⟩:=h
  obtain⟨vs,hv,ht⟩:=id hB
  have yq:=ht.len
  refine⟨_,(aB (pK (N':=["_law_at", "_law_tariff", "_law_place"]) (k:=2) (js:=[1]) (i:=3) ⟨rfl,by decide +kernel,by decide +kernel,by rfl,by rfl,rfl⟩ rfl ux.nd rfl rfl (vK K rfl rfl B.enum (aj (pv 0) ao))
      (fun _ _ _ _ _=>(gn K (n:=2) rfl rfl (bO (aZ (i:=0) (show (["_law_at", "_law_tariff", "_law_place"]:List Str).Nodup by decide +kernel) rfl (Or.inl rfl)) (bO (aZ (i:=1) (show (["_law_at", "_law_tariff", "_law_place"]:List Str).Nodup by decide +kernel) rfl (Or.inl rfl)) gk)))) (qT (dN (bI (by decide)) (dN (bI (by decide)) mU))) (fun _ _ _ _ _=>zE (bB mR (pv 0) (pv 2) (aU _)))
      (fun _ _ _ _ _=>(pv 1)))
     (aD (aN (aK (tM K rfl rfl) rfl B.all boot_all (aj (cF (N':=["_law_tariff", "_law_book_here", "_law_place", "_law_amount_here"]) (k:=1) (js:=[0,1,2]) ⟨rfl,by decide +kernel,by decide +kernel,by rfl,by rfl,rfl⟩ rfl (bM K rfl (pv 3))
       (fun _ _ _ _ _=>(aZ (i:=0) (show (["_law_tariff", "_law_book_here", "_law_place", "_law_amount_here"]:List Str).Nodup by decide +kernel) rfl (Or.inl rfl))) (bI (by decide)) (fun _ _ _ _ _=>cD)
       (fun _ _ _ _ _=>(bW iQ (cP.pe hr (aj (pv 0) (aj (pv 3) ao))) (cP.pe hr (aj (aH (aP K) (pv 1) (pv 2) (fun _ _=>rfl)) (aj (pv 3) ao))) (aU _)))) ao))))),?_⟩
  refine⟨_,rfl,b,rfl,⟨_,aQ.of hv⟩,Fq (K:=K) (a:=b) (xs:=vs) (fun i ys H2=>Same H H2∧∃ os,cu H2 ys os∧os.length≤i∧∀ o,o∈os↔∃ j,j<i∧ps[j]?=some o∧(j:Int)≠k)
   ⟨Same.refl _,[],.nil,Nat.le_refl _,fun o=>⟨fun h=>(by cases h),fun⟨j,h,_⟩=>absurd h (Nat.not_lt_zero j)⟩⟩ (fun i ys H2 hi ⟨e,os,h1,h2,_⟩=>⟨e.seq (aQ.of hv),?_⟩) ?_ ?_⟩
  ·rw[h1.len]
   exact bQ (by lia)
  ·rintro i v ys H2 p hi ⟨s2,os,h1,h2,h3⟩ hp
   obtain⟨t,ht',r1,rfl,hr1⟩:=bh ht hi
   have s3:=aq hp (.tup [.int (i:Nat),.ref r1])
   refine⟨p,_,rfl,cT.of ak,rfl,_,_,rfl,_,_,rfl,rfl,?_⟩
   refine⟨_,rfl,_,rfl,rfl,_,rfl,?_⟩
   by_cases c1:(i:Int)=k
   ·refine dX (by rw[c1];simp) ?_
    refine⟨s2.trans s3,os,h1.same s3,by lia,fun o=>?_⟩
    rw[h3]
    constructor
    ·rintro⟨j,a1,a2,a3⟩
     exact⟨j,by lia,a2,a3⟩
    ·rintro⟨j,a1,a2,a3⟩
     by_cases ej:j=i
     ·subst ej;exact absurd c1 a3
     ·exact⟨j,by lia,a2,a3⟩
   ·refine dO (by rw[decide_eq_false (fun e=>c1 (V.int.inj e))];rfl) ?_
    refine⟨_,rfl,s2.trans s3,os++[t],dW (h1.same s3) (.cons ⟨r1,rfl,s3 _ _ (s2 _ _ hr1)⟩ .nil),by rw[List.length_append];show os.length+1≤i+1;lia,fun o=>?_⟩
    rw[List.mem_append,h3]
    constructor
    ·rintro (⟨j,a1,a2,a3⟩|h)
     ·exact⟨j,by lia,a2,a3⟩
     ·rw[List.mem_singleton.mp h]
      exact⟨i,by lia,ht',c1⟩
    ·rintro⟨j,a1,a2,a3⟩
     by_cases ej:j=i
     ·subst ej
      rw[ht'] at a2;cases a2
      exact .inr (List.mem_singleton.mpr rfl)
     ·exact .inl ⟨j,by lia,a2,a3⟩
  ·rintro ys H2 ⟨s2,os,h1,h2,h3⟩ D hD
   have s3:=s2.trans (aq hD (.lst ys))
   have g3:(upd H2 D (.lst ys)) D=some (.lst ys):=ak
   have h1':=h1.same (aq hD (.lst ys))
   generalize upd H2 D (.lst ys)=H3 at s3 g3 h1' ⊢
   have WK:=s3 _ _ hv
   have FT:=ht.same s3
   have hr3:=s3 _ _ hr'
   obtain⟨u,hu,rt,rfl,FP⟩:=bx FT (bD k0 k1)
   have ot:=hok _ (List.mem_of_getElem? (bD k0 k1))
   have okO:∀ o∈os,mO o:=fun o ho=>by
    obtain⟨j,_,e,_⟩:=(h3 o).mp ho
    exact hok o (List.mem_of_getElem? e)
   have hlo:=h1'.len
   refine⟨_,rfl,D,rfl,⟨_,aQ.of g3⟩,bV (K:=K) (a:=D) (xs:=ys) (fun i zs H4=>H3=H4∧oJ (fun j=>∀ o,os[j]?=some o→cst (tar ps k) x y<cst o x y) i zs) ⟨rfl,fY _⟩ (fun i zs H4 hi ⟨e,ha⟩=>⟨by rw[←e];exact aQ.of g3,ha.lt (by lia)⟩) ?_ ?_⟩
   ·rintro i v zs H4 hi ⟨rfl,ha⟩
    obtain⟨o,ho,ro,rfl,hro⟩:=bh h1' hi
    have oo:=okO o (List.mem_of_getElem? ho)
    refine dg ?_
    refine⟨_,rfl,_,rfl,ro,r,_,_,x,y,rfl,hro,hr3,oo.1.fit,oo.2.fit,am.x0.fit,am.y0.fit,_,rfl,_,rfl,b,vs,k,_,rfl,rfl,aQ.of WK,cG k0 hu,_,rfl,rt,r,_,_,x,y,rfl,FP,hr3,ot.1.fit,ot.2.fit,am.x0.fit,am.y0.fit,_,_,rfl,rfl,rfl,ha.snoc ?_⟩
    rw[decide_eq_true_iff]
    refine⟨fun z o' e=>?_,fun z=>z o ho⟩
    rw[ho] at e;cases e
    exact z
   ·rintro zs H4 ⟨rfl,bs,rfl,_,hb⟩ D2 hD2
    refine⟨D2,bs,rfl,aQ.of ak,q _ _ ?_ (s3.trans (aq hD2 _))⟩
    rw[hb]
    constructor
    ·intro z j p e n
     obtain⟨j',hj'⟩:=List.getElem?_of_mem ((h3 p).mpr ⟨j,by rw[yq];exact (List.getElem?_eq_some_iff.mp e).1,e,n⟩)
     exact z j' (by rw[hlo];exact (List.getElem?_eq_some_iff.mp hj').1) p hj'
    ·intro z j _ o e
     obtain⟨j',_,e',n⟩:=(h3 o).mp (List.mem_of_getElem? e)
     exact z j' o e' n
inductive Nu (vs:List V)(H:Hp)(Q:VK):Prop
 | mk (b r:Addr) (k k1 k2 w1 w2:Int) (ps:List (Int×Int)) (c0:vs=[.ref b,.int k,.ref r]) (c1:bH H b ps) (c2:(∀ p∈ps,mO p)) (c3:0≤k) (c4:k<(ps.length:Int)) (c5:H r=some (.tup [.int k1,.int k2,.int w1,.int w2])) (c6:jm w1) (c7:jm w2) (c8:jm (w1+w2)) (c9:∀ v H',(v=true↔Hr ps k k1 k2 w1 w2)→Same H H'→Q (.bl v) H'):Nu  vs H Q
def Nv:Sp:=fun vs H Q _=>Nu  vs H Q
theorem xH:aY ["_law_book_here", "_law_place", "_law_row"] ["_law_book_here", "_law_place", "_law_row"] (aC jW):=⟨rfl,rfl,rfl,by decide +kernel,rfl,by decide +kernel,by decide +kernel⟩
theorem xJ {f:Addr}{fd:FuncData}(F:gY K "_law_needless" "_law_needless" jW f fd)(B:Bl mg)(T:CT K mg z)
  (mF:Cl P w K mg base 1 "_law_mixture" ["_law_book_here", "_law_row", "_law_tariff"] uV):cA P w K mg base gB 2 f fd ["_law_book_here", "_law_place", "_law_row"] Nv:=by
 refine F.ok xH (fun vs H Q E h=>?_) (fun cdv A outer s H vs Q E hr h=>?_)
 ·obtain⟨b,r,k,k1,k2,w1,w2,ps,rfl,_⟩:=h
  rfl
 ·obtain⟨b,r,k,k1,k2,w1,w2,ps,rfl,hB,hok,k0,kl,hr',f1,f2,f3,q⟩:=h
  obtain⟨vs,hv,htb⟩:=id hB
  obtain⟨u,hu,rt,rfl,FP⟩:=bx htb (bD k0 kl)
  have ot:=hok _ (List.mem_of_getElem? (bD k0 kl))
  refine⟨_,(aD (aN (eF (bW mR (pv 1) (aH (aG K) (pv 2) aA (fun _ _=>rfl)) (aU _)) (eF (bW mR (pv 1) (aH (aG K) (pv 2) aA (fun _ _=>rfl)) (aU _)) (iT (mF.pe hr (aj (pv 0) (aj (pv 2) (aj (aH (aP K) (pv 0) (pv 1) (fun _ _=>rfl)) ao))))))))),?_⟩
  refine⟨_,rfl,_,rfl,r,_,0,_,rfl,rfl,cT.of hr',rfl,rfl,_,rfl,?_⟩
  by_cases c1:k=k1
  case pos =>
   exact dX (by rw[c1];simp) (q false H ⟨fun z=>(by cases z),fun z=>absurd c1.symm z.ne1⟩ (Same.refl _))
  refine dO (by rw[decide_eq_false (fun e=>c1 (V.int.inj e))];rfl) ?_
  refine⟨_,rfl,_,rfl,r,_,1,_,rfl,rfl,cT.of hr',rfl,rfl,_,rfl,?_⟩
  by_cases c2:k=k2
  case pos =>
   exact dX (by rw[c2];simp) (q false H ⟨fun z=>(by cases z),fun z=>absurd c2.symm z.ne2⟩ (Same.refl _))
  refine dO (by rw[decide_eq_false (fun e=>c2 (V.int.inj e))];rfl) ?_
  refine⟨_,rfl,_,rfl,_,rfl,_,rfl,b,vs,k,_,rfl,rfl,aQ.of hv,cG k0 hu,b,r,rt,ps,tar ps k,k1,k2,w1,w2,rfl,hB,hok,FP,ot,hr',f1,f2,f3,fun v H' e s=>q v H' ?_ s⟩
  rw[e]
  exact⟨fun z=>⟨z,fun e=>c1 e.symm,fun e=>c2 e.symm⟩,fun z=>z.mix⟩
end
abbrev Row:=Int×Int×Int×Int
abbrev aeY (r:Row):HO:=.tup [.int r.1,.int r.2.1,.int r.2.2.1,.int r.2.2.2]
def oM (H:Hp)(vs:List V)(rs:List Row):Prop:=Paired (fun v (r:Row)=>∃ a,v=V.ref a∧H a=some (aeY r)) vs rs
theorem oM.same {H H':Hp}{vs:List V}{rs:List Row}(t:oM H vs rs)(e:Same H H'):oM H' vs rs:=Paired.Jc t fun v p ⟨r,h1,h2⟩=>⟨r,h1,e _ _ h2⟩
theorem oM.len {H:Hp}{vs:List V}{rs:List Row}(t:oM H vs rs):vs.length=rs.length:=Paired.length t
abbrev Vz (ps:List (Int×Int))(p:Int×Int)(r:Row):Prop:=yw ps p r.1 r.2.1 r.2.2.1 r.2.2.2
structure zM (ps os:List (Int×Int))(rs:List Row):Prop where
 len:rs.length=os.length
 mix:∀ (j:Nat) r p,rs[j]?=some r→os[j]?=some p→Vz ps p r
def uW (ps os:List (Int×Int))(x y:Int):Prop:=∃ o∈os,∀ p∈ps,cst o x y<cst p x y
theorem J2 {ps os:List (Int×Int)}{x y m1 m2:Int}(h1:m1∈costs ps x y)(l1:∀ b∈costs ps x y,m1≤b)(h2:m2∈costs os x y)(l2:∀ b∈costs os x y,m2≤b):m2<m1↔uW ps os x y:=by
 obtain⟨p1,hp1,rfl⟩:=List.mem_map.mp h1
 obtain⟨o1,ho1,rfl⟩:=List.mem_map.mp h2
 constructor
 ·intro h
  refine⟨o1,ho1,fun p hp=>?_⟩
  have:=l1 _ (List.mem_map.mpr ⟨p,hp,rfl⟩)
  lia
 ·rintro⟨o,ho,h⟩
  have a:=l2 _ (List.mem_map.mpr ⟨o,ho,rfl⟩)
  have b:=h p1 hp1
  lia
abbrev mG (l:Addr):List (Str×V):=iC "rows" (.ref l) []
theorem nj (l:Addr):(mG l).lookup ("rows" : Str)=some (.ref l):=rfl
theorem xK (l:Addr):(mG l).lookup ("shows" : Str)=none:=rfl
abbrev nu (r:Addr):List (Str×V):=iC "amount" (.ref r) []
theorem kJ (r:Addr):(nu r).lookup ("amount" : Str)=some (.ref r):=rfl
theorem J3 (r:Addr):(nu r).lookup ("shows" : Str)=none:=rfl
inductive S7 where
 | under (l:Addr) (rs:List Row)
 | over (x y:Int)
def Ma (z:Cz)(H:Hp)(a:Addr):S7→Prop
 | .under l rs=>∃ dx vs,H a=some (.ins z.Under dx (mG l))∧H l=some (.lst vs)∧oM H vs rs
 | .over x y=>∃ dx r,H a=some (.ins z.Over dx (nu r))∧H r=some (.tup [.int x,.int y])
def Hs (rs:List Row):Prop:=rs.length≤1000∧∀ r∈rs,jm r.2.2.1∧jm r.2.2.2∧jm (r.2.2.1+r.2.2.2)
def Yl:S7→Prop
 | .under _ rs=>Hs rs
 | .over x y=>tO x y
def aeZ (ps os:List (Int×Int)):S7→Prop
 | .under _ rs=>zM ps os rs
 | .over x y=>uW ps os x y
def VB (H:Hp):S7→Prop
 | .under l _=>∀ c o,H c=some o→nT o=true→c≠l
 | .over _ _=>True
section
variable{P:Program}{w:World}{K:PySem.W.Frag}{mg:Str→Option Value}{base:Heap}{z:Cz}
inductive yE (z:Cz)(vs:List V)(H:Hp)(Q:VK):Prop
 | mk (a dx t:Addr) (xs:List V) (c0:vs=[.ref a,.ref t]) (c1:H a=some (.ins z.Under dx [])) (c2:H t=some (.lst xs)) (c3:∀ l,H l=none→Q .non (upd (upd H l (.lst xs)) a (.ins z.Under dx (mG l)))):yE z vs H Q
def gO (z:Cz):Sp:=fun vs H Q _=>yE z vs H Q
theorem Dz:aY ["self", "rows"] ["self", "rows"] (aC pQ):=⟨rfl,rfl,rfl,by decide +kernel,rfl,by decide +kernel,by decide +kernel⟩
theorem DG {f:Addr}{fd:FuncData}(F:gY K "__init__" "Under.__init__" pQ f fd)(B:Bl mg)(T:CT K mg z):cA P w K mg base gB 1 f fd ["self", "rows"] (gO z):=by
 refine F.ok Dz (fun vs H Q E h=>?_) (fun cdv A outer s H vs Q E hr h=>?_)
 ·obtain⟨a,dx,t,xs,rfl,_⟩:=h
  rfl
 ·obtain⟨a,dx,t,xs,rfl,ha,ht,q⟩:=h
  refine⟨_,(aD (jQ (pv 0) (fJ (Aj K) rfl B.list boot_list (aj (pv 1) ao)) rfl)),?_⟩
  refine⟨_,rfl,t,xs,rfl,.inl (aQ.of ht),fun l hl=>?_⟩
  exact⟨_,rfl,a,_,dx,_,rfl,(aq hl _) _ _ ha,T.iZ,T.fB,(by show 0<1000;decide),q l hl⟩
inductive Cg (z:Cz)(vs:List V)(H:Hp)(Q:VK):Prop
 | mk (a dx r:Addr) (c0:vs=[.ref a,.ref r]) (c1:H a=some (.ins z.Over dx [])) (c2:Q .non (upd H a (.ins z.Over dx (nu r)))):Cg z vs H Q
def jw (z:Cz):Sp:=fun vs H Q _=>Cg z vs H Q
theorem Ht:aY ["self", "amount"] ["self", "amount"] (aC rA):=⟨rfl,rfl,rfl,by decide +kernel,rfl,by decide +kernel,by decide +kernel⟩
theorem Hu {f:Addr}{fd:FuncData}(F:gY K "__init__" "Over.__init__" rA f fd)(B:Bl mg)(T:CT K mg z):cA P w K mg base gB 1 f fd ["self", "amount"] (jw z):=by
 refine F.ok Ht (fun vs H Q E h=>?_) (fun cdv A outer s H vs Q E hr h=>?_)
 ·obtain⟨a,dx,r,rfl,_⟩:=h
  rfl
 ·obtain⟨a,dx,r,rfl,ha,q⟩:=h
  refine⟨_,(aD (jQ (pv 0) (pv 1) rfl)),?_⟩
  exact⟨_,rfl,_,rfl,a,_,dx,_,rfl,ha,T.kh,T.dZ,(by show 0<1000;decide),q⟩
inductive wz (z:Cz)(vs:List V)(H:Hp)(Q:VK):Prop
 | mk (a b c l:Addr) (rs:List Row) (ps os:List (Int×Int)) (c0:vs=[.ref a,.ref b,.ref c]) (c1:Ma z H a (.under l rs)) (c2:Hs rs) (c3:bH H b ps) (c4:(∀ p∈ps,mO p)) (c5:bH H c os) (c6:os.length≤1000) (c7:(∀ p∈os,mO p)) (c8:∀ v H',(v=true↔zM ps os rs)→Same H H'→Q (.bl v) H'):wz z vs H Q
def jf (z:Cz):Sp:=fun vs H Q _=>wz z vs H Q
theorem Ci:aY ["self", "one", "other"] ["self", "one", "other"] (aC ou):=⟨rfl,rfl,rfl,by decide +kernel,rfl,by decide +kernel,by decide +kernel⟩
theorem Cj {f:Addr}{fd:FuncData}(F:gY K "shows" "Under.shows" ou f fd)(B:Bl mg)(T:CT K mg z)
  (qd:Cl P w K mg base 4 "is_mixture" ["book", "tariff", "row"] xq):cA P w K mg base gB 5 f fd ["self", "one", "other"] (jf z):=by
 refine F.ok Ci (fun vs H Q E h=>?_) (fun cdv A outer s H vs Q E hr h=>?_)
 ·obtain⟨a,b,c,l,rs,ps,os,rfl,_⟩:=h
  rfl
 ·obtain⟨a,b,c,l,rs,ps,os,rfl,⟨dx,us,ha,hl,hus⟩,⟨rl,S8⟩,hB,hok,hC,hlo,ahe,q⟩:=h
  obtain⟨vs,hv,htv⟩:=id hC
  have Bv:=hus.len
  have yq:=htv.len
  refine⟨_,(aB (bY (bB mR (aK (iV K) rfl B.len PySem.boot_len (aj (bK K rfl (pv 0) rfl) ao)) (aK (iV K) rfl B.len PySem.boot_len (aj (pv 2) ao)) (aU _)) (aD (aN cM)) bw)
     (aD (aN (aK (tM K rfl rfl) rfl B.all boot_all (aj (cF (N':=["tariff", "row", "one"]) (k:=2) (js:=[1]) ⟨rfl,by decide +kernel,by decide +kernel,by rfl,by rfl,rfl⟩ rfl (tE K rfl rfl B.zip (aj (pv 2) (aj (bK K rfl (pv 0) rfl) ao)))
       (fun _ _ _ _ _=>(gn K (n:=2) rfl rfl (bO (aZ (i:=0) (show (["tariff", "row", "one"]:List Str).Nodup by decide +kernel) rfl (Or.inl rfl)) (bO (aZ (i:=1) (show (["tariff", "row", "one"]:List Str).Nodup by decide +kernel) rfl (Or.inl rfl)) gk)))) (qT (dN (bI (by decide)) (dN (bI (by decide)) mU))) (fun _ _ _ _ _=>cD)
       (fun _ _ _ _ _=>(qd.pe hr (aj (pv 2) (aj (pv 0) (aj (pv 1) ao)))))) ao))))),?_⟩
  refine⟨_,rfl,a,_,dx,_,_,rfl,ha,T.iZ,T.fB,nj l,l,us,rfl,.inl (aQ.of hl),_,rfl,c,vs,rfl,.inl (aQ.of hv),rfl,_,rfl,?_⟩
  by_cases c1:us.length=vs.length
  case neg =>
   exact dO (by rw[decide_eq_false (fun e=>c1 (by have:=V.int.inj e;lia))];rfl) (q false H ⟨fun z=>(by cases z),fun z=>absurd (show us.length=vs.length by have:=z.len;lia) c1⟩ (Same.refl _))
  refine dX (by rw[c1];simp) ?_
  refine⟨_,rfl,_,rfl,a,_,dx,_,_,rfl,ha,T.iZ,T.fB,nj l,c,l,rfl,⟨_,aQ.of hv⟩,⟨_,aQ.of hl⟩,vJ (K:=K) (a:=c) (b:=l) (xs:=vs) (ys:=us) c1.symm
   (fun i ys H2=>Same H H2∧oJ (fun j=>∀ r p,rs[j]?=some r→os[j]?=some p→Vz ps p r) i ys) ⟨Same.refl _,fY _⟩ (fun i ys H2 hi ⟨e,ha⟩=>⟨e.seq (aQ.of hv),e.seq (aQ.of hl),ha.lt (by lia)⟩) ?_ ?_⟩
  ·rintro i v v' ys H2 p hi hi' ⟨s2,hal⟩ hp
   obtain⟨t,ht',r1,rfl,hr1⟩:=bh htv hi
   obtain⟨r,hr',r2,rfl,hr2⟩:=bh hus hi'
   have s3:=s2.trans (aq hp (.tup [.ref r1,.ref r2]))
   have ot:=ahe t (List.mem_of_getElem? ht')
   obtain⟨f1,f2,f3⟩:=S8 r (List.mem_of_getElem? hr')
   refine⟨p,_,rfl,cT.of ak,rfl,_,_,rfl,_,_,rfl,rfl,Rf ?_⟩
   refine⟨_,rfl,_,rfl,_,rfl,b,r1,r2,ps,t,r.1,r.2.1,r.2.2.1,r.2.2.2,rfl,hB.same s3,hok,s3 _ _ hr1,ot,s3 _ _ hr2,f1,f2,f3,fun v1 e1=>⟨s3,hal.snoc ?_⟩⟩
   rw[e1]
   refine⟨fun z r' p' e e'=>?_,fun z=>z r t hr' ht'⟩
   rw[hr'] at e;cases e
   rw[ht'] at e';cases e'
   exact z
  ·rintro ys H2 ⟨s2,bs,rfl,_,hb⟩ D hD
   refine⟨D,bs,rfl,aQ.of ak,q _ _ ?_ (s2.trans (aq hD _))⟩
   rw[hb]
   constructor
   ·intro z
    exact⟨by lia,fun j r p e e'=>z j (by rw[yq];exact (List.getElem?_eq_some_iff.mp e').1) r p e e'⟩
   ·intro z j _ r p e e'
    exact z.mix j r p e e'
theorem wA {ps:List (Int×Int)}{x y:Int}(h:ps≠[]):costs ps x y≠[]:=fun e=>h (by
 have:=congrArg List.length e
 rw[costs,List.length_map] at this
 exact List.eq_nil_of_length_eq_zero this)
inductive yF (z:Cz)(vs:List V)(H:Hp)(Q:VK):Prop
 | mk (a b c:Addr) (x y:Int) (ps os:List (Int×Int)) (c0:vs=[.ref a,.ref b,.ref c]) (c1:Ma z H a (.over x y)) (c2:tO x y) (c3:bH H b ps) (c4:ps≠[]) (c5:ps.length≤1000) (c6:(∀ p∈ps,mO p)) (c7:bH H c os) (c8:os≠[]) (c9:os.length≤1000) (Qo:(∀ p∈os,mO p)) (c11:∀ v H',(v=true↔uW ps os x y)→Same H H'→Q (.bl v) H'):yF z vs H Q
def nA (z:Cz):Sp:=fun vs H Q _=>yF z vs H Q
theorem DK:aY ["self", "one", "other"] ["self", "one", "other"] (aC pR):=⟨rfl,rfl,rfl,by decide +kernel,rfl,by decide +kernel,by decide +kernel⟩
theorem DN {f:Addr}{fd:FuncData}(F:gY K "shows" "Over.shows" pR f fd)(B:Bl mg)(T:CT K mg z)
  (gH:Cl P w K mg base 3 "is_amount" ["value"] Bf)
  (dF:Cl P w K mg base 2 "tops_of_cost" ["book", "amount"] Bm):cA P w K mg base gB 4 f fd ["self", "one", "other"] (nA z):=by
 refine F.ok DK (fun vs H Q E h=>?_) (fun cdv A outer s H vs Q E hr h=>?_)
 ·obtain⟨a,b,c,x,y,ps,os,rfl,_⟩:=h
  rfl
 ·obtain⟨a,b,c,x,y,ps,os,rfl,⟨dx,r,ha,hr'⟩,am,hB,hne,qD,hok,hC,Qf,Ym,ahf,q⟩:=h
  refine⟨_,(aB (bY (dh (cR (gH.pe hr (aj (bK K rfl (pv 0) rfl) ao)))) (aD (aN cM)) bw)
     (aD (aN (bW iQ (aK (O7 K rfl rfl) rfl B.min boot_min (aj (dF.pe hr (aj (pv 1) (aj (bK K rfl (pv 0) rfl) ao))) ao)) (aK (O7 K rfl rfl) rfl B.min boot_min (aj (dF.pe hr (aj (pv 2) (aj (bK K rfl (pv 0) rfl) ao))) ao)) (aU _))))),?_⟩
  refine⟨_,rfl,a,_,dx,_,_,rfl,ha,T.kh,T.dZ,kJ r,r,x,y,rfl,hr',am.x0.1,am.y1,am.cop,_,rfl,dz ?_⟩
  refine⟨_,rfl,_,rfl,a,_,dx,_,_,rfl,ha,T.kh,T.dZ,kJ r,b,r,ps,x,y,rfl,hB,qD,hok,hr',am,fun t ht=>?_⟩
  have s1:=aq ht (.lst ((costs ps x y).map V.int))
  have g1:(upd H t (.lst ((costs ps x y).map V.int))) t=some (.lst ((costs ps x y).map V.int)):=ak
  generalize upd H t (.lst ((costs ps x y).map V.int))=H1 at s1 g1 ⊢
  refine⟨t,_,rfl,aQ.of g1,wA hne,fun m1 a1 b1=>?_⟩
  refine⟨_,rfl,_,rfl,a,_,dx,_,_,rfl,s1 _ _ ha,T.kh,T.dZ,kJ r,c,r,os,x,y,rfl,hC.same s1,Ym,ahf,s1 _ _ hr',am,fun t2 S5=>?_⟩
  have s2:=s1.trans (aq S5 (.lst ((costs os x y).map V.int)))
  have g2:(upd H1 t2 (.lst ((costs os x y).map V.int))) t2=some (.lst ((costs os x y).map V.int)):=ak
  generalize upd H1 t2 (.lst ((costs os x y).map V.int))=H2 at s2 g2 ⊢
  refine⟨t2,_,rfl,aQ.of g2,wA Qf,fun m2 a2 b2=>?_⟩
  refine⟨_,_,rfl,rfl,q _ _ ?_ s2⟩
  rw[decide_eq_true_iff]
  exact J2 a1 b1 a2 b2
inductive Nx (z:Cz)(vs:List V)(H:Hp)(Q:VK):Prop
 | mk (b c:Addr) (ps os:List (Int×Int)) (c0:vs=[.ref b,.ref c]) (c1:bH H b ps) (c2:ps≠[]) (c3:ps.length≤1000) (c4:(∀ p∈ps,SN p)) (c5:bH H c os) (c6:os≠[]) (c7:os.length≤1000) (c8:(∀ p∈os,SN p)) (c9:Tab H) (Qo:∀ (a:Addr) (v:S7) (H':Hp),fM H H'→Ma z H' a v→Yl v→aeZ ps os v→VB H v→Q (.ref a) H'):Nx z vs H Q
def Ny (z:Cz):Sp:=fun vs H Q _=>Nx z vs H Q
theorem wB:aY ["one", "other", "turns", "tariff", "amount"] ["one", "other"] (aC G3):=⟨rfl,rfl,rfl,by decide +kernel,rfl,by decide +kernel,by decide +kernel⟩
theorem S9 {f:Addr}{fd:FuncData}(F:gY K "under" "under" G3 f fd)(B:Bl mg)(T:CT K mg z)
  (kj:Cl P w K mg base 3 "check_book" ["book"] Bg)
  (j6:Cl P w K mg base 2 "least_in_turn" ["book", "places"] Hi)
  (Ck:Cl P w K mg base 3 "amount_below" ["tariff", "book", "begins", "places"] Nq)
  (DP:Cl P w K mg base 2 "mixture_for" ["tariff", "book", "places"] WW)
  (tK:Dm P w K mg base 1 z.Under ["self", "rows"] (gO z))
  (uX:Dm P w K mg base 1 z.Over ["self", "amount"] (jw z)):cA P w K mg base gB 4 f fd ["one", "other"] (Ny z):=by
 refine F.ok wB (fun vs H Q E h=>?_) (fun cdv A outer s H vs Q E hr h=>?_)
 ·obtain⟨b,c,ps,os,rfl,_⟩:=h
  rfl
 ·obtain⟨b,c,ps,os,rfl,hB,hne,qD,hmd,hC,Qf,Ym,Qg,hT,q⟩:=h
  have hok:∀ p∈ps,mO p:=fun p hp=>(hmd p hp).ok
  obtain⟨vs,hv,ht⟩:=id hB
  have yq:=ht.len
  refine⟨_,(aB (iU (kj.pe hr (aj (pv 0) ao)))
     (aB (iU (kj.pe hr (aj (pv 1) ao)))
     (aB (aW (i:=2) wB.nd rfl (Or.inr rfl) (j6.pe hr (aj (pv 0) (aj (fJ (ud rfl) rfl B.list boot_list (aj (fJ Ft rfl B.range boot_range (aj (aK (iV K) rfl B.len PySem.boot_len (aj (pv 0) ao)) ao)) ao)) ao))))
     (aB (jP PassesOwn.never rfl (bM K rfl (pv 1)) (aZ (i:=3) wB.nd rfl (Or.inl rfl))
     (aB (aW (i:=4) wB.nd rfl (Or.inl rfl) (Ck.pe hr (aj (pv 3) (aj (pv 0) (aj (aH (aG K) (pv 2) aA (fun _ _=>rfl)) (aj (aH (aG K) (pv 2) aA (fun _ _=>rfl)) ao))))))
     (aD (bY (bB Ul (pv 4) Qv (aU _)) (aD (aN (uX.pe hr T.vQ (aj (pv 4) ao)))) bw))))
     (aD (aN (tK.pe hr T.rM (aj (cF (N':=["tariff", "one", "turns"]) (k:=1) (js:=[0,2]) ⟨rfl,by decide +kernel,by decide +kernel,by rfl,by rfl,rfl⟩ rfl (bM K rfl (pv 1))
       (fun _ _ _ _ _=>(aZ (i:=0) (show (["tariff", "one", "turns"]:List Str).Nodup by decide +kernel) rfl (Or.inl rfl))) (bI (by decide)) (fun _ _ _ _ _=>cD)
       (fun _ _ _ _ _=>(DP.pe hr (aj (pv 0) (aj (pv 1) (aj (aH (aG K) (pv 2) aA (fun _ _=>rfl)) ao)))))) ao)))))))),?_⟩
  refine⟨_,rfl,b,ps,rfl,hB,hne,hok,?_⟩
  refine⟨_,rfl,c,os,rfl,hC,Qf,fun p hp=>(Qg p hp).ok,?_⟩
  refine⟨_,rfl,_,rfl,b,vs,rfl,.inl (aQ.of hv),_,rfl,fun r1 hr1=>?_⟩
  have s1:=aq hr1 (.rng 0 (vs.length:Int))
  have g1:(upd H r1 (.rng 0 (vs.length:Int))) r1=some (.rng 0 (vs.length:Int)):=ak
  generalize upd H r1 (.rng 0 (vs.length:Int))=H1 at s1 g1 ⊢
  refine⟨r1,vs.length,rfl,g1,by lia,fun l1 hl1=>?_⟩
  have em:((List.range vs.length).map fun k=>V.int (k:Nat))=((List.range vs.length).map fun (k:Nat)=>(k:Int)).map V.int:=by rw[List.map_map];rfl
  rw[em]
  have s2:=s1.trans (aq hl1 (.lst (((List.range vs.length).map fun (k:Nat)=>(k:Int)).map V.int)))
  have g2:(upd H1 l1 (.lst (((List.range vs.length).map fun (k:Nat)=>(k:Int)).map V.int))) l1=some (.lst (((List.range vs.length).map fun (k:Nat)=>(k:Int)).map V.int)):=ak
  generalize upd H1 l1 (.lst (((List.range vs.length).map fun (k:Nat)=>(k:Int)).map V.int))=H2 at s2 g2 ⊢
  have hns:∀ n∈(List.range vs.length).map fun (k:Nat)=>(k:Int),0≤n∧n<(ps.length:Int):=fun n hn=>by
   obtain⟨k,hk,rfl⟩:=List.mem_map.mp hn
   have:=List.mem_range.mp hk
   lia
  have hS:∀ p∈ps,p∈((List.range vs.length).map fun (k:Nat)=>(k:Int)).map (tar ps):=fun p hp=>by
   obtain⟨j,hj⟩:=List.getElem?_of_mem hp
   obtain⟨hlt,e⟩:=List.getElem?_eq_some_iff.mp hj
   refine List.mem_map.mpr ⟨(j:Int),List.mem_map.mpr ⟨j,List.mem_range.mpr (by lia),rfl⟩,?_⟩
   show ps.getD (j:Int).toNat (0,0)=p
   rw[Int.toNat_natCast,List.getD_eq_getElem?_getD,hj]
   rfl
  have hlen:((List.range vs.length).map fun (k:Nat)=>(k:Int)).length=ps.length:=by rw[List.length_map,List.length_range,yq]
  generalize ((List.range vs.length).map fun (k:Nat)=>(k:Int))=ns at g2 hns hS hlen ⊢
  refine⟨b,l1,ps,ns,rfl,hB.same s2,hok,g2,by lia,fun e=>?_,hns,hT.same s2,fun r bA kA H3 L us sT h1 h2 h3 h4 lJ hk hLl _ _=>?_⟩
  ·rw[e] at hlen
   exact hne (List.eq_nil_of_length_eq_zero hlen.symm)
  have sA:fM H H3:=(s2.t hT).trans sT
  have hB3:=hB.qF sA
  have hC3:=hC.qF sA
  have sub:∀ s∈ns.map (tar ps),s∈ps:=fun s hs=>by
   obtain⟨n,hn,rfl⟩:=List.mem_map.mp hs
   obtain⟨a0,a1⟩:=hns n hn
   exact List.mem_of_getElem? (bD a0 a1)
  have TA:TurnsAt H3 b bA kA ps (ns.map (tar ps)) us L:=⟨hB3,hmd,h2,h3,h4,lJ,fun e he=>by
   obtain⟨a1,a2⟩:=hk e he
   exact⟨hns _ a1,a2⟩,by lia,sub⟩
  generalize ns.map (tar ps)=S at TA hS
  clear s1 s2 g1 g2 hr1 hl1 h2 h3 h4 lJ hk hLl hns hlen sub sT hB hC hv ht
  obtain⟨v3,WK,FT⟩:=id hC3
  have hl3:=FT.len
  refine⟨_,rfl,c,rfl,⟨_,aQ.of WK⟩,ig (K:=K) (a:=c) (xs:=v3) (fun i σ H4=>H4=H3∧(∃ v5 v6,σ=[some (.ref b),some (.ref c),some (.ref r),v5,v6])∧∀ (j:Nat) p,j<i→os[j]?=some p→∃ (n:Nat) (e:My.E),TurnOk L p n∧L[n]?=some e∧¬ cst p e.x e.y<cst e.t e.x e.y∧¬ p.2<e.t.2)
   ⟨rfl,⟨_,_,rfl⟩,fun j p hj=>absurd hj (Nat.not_lt_zero j)⟩ (fun i σ H4 _ ⟨e,_⟩=>by rw[e];exact aQ.of WK) ?_ ?_⟩
  ·rintro i v σ H4 hi ⟨rfl,⟨v5,v6,rfl⟩,hall⟩
   obtain⟨p,hp,rt,rfl,FP⟩:=bh FT hi
   have mp:=Qg p (List.mem_of_getElem? hp)
   refine⟨_,rfl,_,rfl,_,rfl,r,_,0,_,rfl,rfl,cT.of h1,rfl,_,rfl,r,_,1,_,rfl,rfl,cT.of h1,rfl,rt,b,bA,kA,p,ps,S,us,L,rfl,FP,mp,TA,fun r2 x y hr2 am bel=>?_,fun n e to he c1 c2=>?_⟩
   ·have s4:=aq hr2 (.tup [.int x,.int y])
    have g4:(upd H4 r2 (.tup [.int x,.int y])) r2=some (.tup [.int x,.int y]):=ak
    generalize upd H4 r2 (.tup [.int x,.int y])=H5 at s4 g4 ⊢
    refine⟨_,rfl,rfl,_,rfl,fH ?_⟩
    refine⟨_,rfl,fun x' dx hx hdx ndx=>?_⟩
    refine⟨x',dx,r2,rfl,ak,rfl,?_⟩
    rw[eO]
    have s7:Same H5 (upd (upd H5 dx (.own x')) x' (.ins z.Over dx (nu r2))):=(aq hdx _).trans (aq (by rw[aJ ndx.symm];exact hx) _)
    exact q x' (.over x y) _ ((sA.then s4).then s7) ⟨dx,r2,ak,s7 _ _ g4⟩ am ⟨p,List.mem_of_getElem? hp,fun p' hp'=>bel p' (hS p' hp')⟩ trivial
   ·refine⟨_,rfl,rfl,_,rfl,dz ?_⟩
    refine⟨rfl,⟨_,_,rfl⟩,fun j p' hj hp'=>?_⟩
    by_cases ej:j=i
    ·subst ej
     rw[hp] at hp';cases hp'
     exact⟨n,e,to,he,c1,c2⟩
    ·exact hall j p' (by lia) hp'
  rintro σ H4 ⟨rfl,⟨v5,v6,rfl⟩,hall⟩
  refine⟨_,rfl,c,rfl,⟨_,aQ.of WK⟩,bV (K:=K) (a:=c) (xs:=v3) (fun i ys H5=>Same H4 H5∧∃ rs:List Row,oM H5 ys rs∧rs.length=i∧(∀ r∈rs,jm r.2.2.1∧jm r.2.2.2∧jm (r.2.2.1+r.2.2.2))∧∀ (j:Nat) r p,rs[j]?=some r→os[j]?=some p→Vz ps p r)
   ⟨Same.refl _,[],.nil,rfl,fun r h=>(by cases h),fun j r p e=>(by simp at e)⟩ (fun i ys H5 hi ⟨e,rs,e1,e2,_⟩=>⟨e.seq (aQ.of WK),?_⟩) ?_ ?_⟩
  ·rw[e1.len,e2]
   exact bQ (by lia)
  ·rintro i v ys H5 hi ⟨s5,rs,e1,e2,e3,e4⟩
   obtain⟨p,hp,rt,rfl,FP⟩:=bh FT hi
   have mp:=Qg p (List.mem_of_getElem? hp)
   obtain⟨n,e,to,he,c1,c2⟩:=hall i p (List.getElem?_eq_some_iff.mp hi).1 hp
   refine dg ?_
   refine⟨_,rfl,_,rfl,_,rfl,r,_,1,_,rfl,rfl,cT.of (s5 _ _ h1),rfl,rt,b,bA,kA,p,ps,S,us,L,n,e,rfl,s5 _ _ FP,mp,TA.same s5,to,he,c1,c2,fun r2 k1 k2 w1 w2 hr2 mix m1 m2 _ _=>?_⟩
   have s6:=aq hr2 (.tup [.int k1,.int k2,.int w1,.int w2])
   refine⟨s5.trans s6,rs++[(k1,k2,w1,w2)],dW (e1.same s6) (.cons ⟨r2,rfl,ak⟩ .nil),by rw[List.length_append,e2];rfl,fun r' hr'=>?_,fun j r' p' f f'=>?_⟩
   ·rcases List.mem_append.mp hr' with hr'|hr'
    ·exact e3 r' hr'
    ·rw[List.mem_singleton.mp hr']
     exact⟨SQ m1,SQ m2,Vw m1 m2⟩
   ·by_cases ej:j<rs.length
    ·rw[List.getElem?_append_left ej] at f
     exact e4 j r' p' f f'
    ·have hj:=(List.getElem?_eq_some_iff.mp f).1
     rw[List.length_append] at hj
     have hj:j<rs.length+1:=hj
     obtain rfl:j=i:=by lia
     rw[List.getElem?_append_right (by lia),show j-rs.length=0 by lia] at f
     cases f
     rw[hp] at f';cases f'
     exact mix
  ·rintro ys H5 ⟨s5,rs,e1,e2,e3,e4⟩ D hD
   have s6:=s5.trans (aq hD (.lst ys))
   have g6:(upd H5 D (.lst ys)) D=some (.lst ys):=ak
   have e1':=e1.same (aq hD (.lst ys))
   generalize upd H5 D (.lst ys)=H6 at s6 g6 e1' ⊢
   refine fun x' dx hx hdx ndx=>?_
   have s7:Same H6 (upd (upd H6 dx (.own x')) x' (.ins z.Under dx [])):=(aq hdx _).trans (aq (by rw[aJ ndx.symm];exact hx) _)
   refine⟨x',dx,D,ys,rfl,ak,s7 _ _ g6,fun l hl=>⟨rfl,?_⟩⟩
   have nlx:l≠x':=fun e=>by rw[e,ak] at hl;cases hl
   have Vq:H6 l=none:=s7.free hl
   have s8:Same H6 (upd (upd (upd (upd H6 dx (.own x')) x' (.ins z.Under dx [])) l (.lst ys)) x' (.ins z.Under dx (mG l))):=fun a o e=>by
    have n1:a≠x':=aM e hx
    rw[aJ n1]
    exact (s7.trans (aq hl _)) a o e
   refine q x' (.under l rs) _ ((sA.then s6).then s8) ⟨dx,ys,ak,by rw[aJ nlx,ak],e1'.same s8⟩ ⟨by lia,e3⟩ ⟨by lia,e4⟩ fun a o e k n=>?_
   have:=(sA.then s6).2 a o e k
   rw[n,Vq] at this
   cases this
end
structure Bk (H:Hp)(b:Addr)(ps:List (Int×Int)):Prop where
 at_:bH H b ps
 ne:ps≠[]
 ln:ps.length≤1000
 ok:∀ p∈ps,mO p
theorem Bk.same {H H':Hp}{b:Addr}{ps:List (Int×Int)}(h:Bk H b ps)(s:Same H H'):Bk H' b ps:=⟨h.at_.same s,h.ne,h.ln,h.ok⟩
section
variable{P:Program}{w:World}{K:PySem.W.Frag}{mg:Str→Option Value}{base:Heap}{z:Cz}
inductive J4 (vs:List V)(H:Hp)(Q:VK):Prop
 | mk (b c l:Addr) (us:List V) (rs:List Row) (ps os:List (Int×Int)) (c0:vs=[.ref b,.ref c,.ref l]) (c1:Bk H b ps) (c2:Bk H c os) (c3:H l=some (.lst us)) (c4:oM H us rs) (c5:Hs rs) (c6:∀ v H',(v=true↔zM ps os rs)→Same H H'→Q (.bl v) H'):J4  vs H Q
def J5:Sp:=fun vs H Q _=>J4  vs H Q
theorem DQ:aY ["_law_one", "_law_other", "_law_rows"] ["_law_one", "_law_other", "_law_rows"] (aC pY):=⟨rfl,rfl,rfl,by decide +kernel,rfl,by decide +kernel,by decide +kernel⟩
theorem DR {f:Addr}{fd:FuncData}(F:gY K "_law_under" "_law_under" pY f fd)(B:Bl mg)(T:CT K mg z)
  (mF:Cl P w K mg base 1 "_law_mixture" ["_law_book_here", "_law_row", "_law_tariff"] uV):cA P w K mg base gB 2 f fd ["_law_one", "_law_other", "_law_rows"] J5:=by
 refine F.ok DQ (fun vs H Q E h=>?_) (fun cdv A outer s H vs Q E hr h=>?_)
 ·obtain⟨b,c,l,us,rs,ps,os,rfl,_⟩:=h
  rfl
 ·obtain⟨b,c,l,us,rs,ps,os,rfl,hB,hC,hl,hus,⟨rl,S8⟩,q⟩:=h
  obtain⟨vs,hv,htv⟩:=id hC.at_
  have Bv:=hus.len
  have yq:=htv.len
  refine⟨_,(aB (bY (bB mR (aK (iV K) rfl B.len PySem.boot_len (aj (pv 2) ao)) (aK (iV K) rfl B.len PySem.boot_len (aj (pv 1) ao)) (aU _)) (aD (aN cM)) bw)
     (aD (aN (aK (tM K rfl rfl) rfl B.all boot_all (aj (cF (N':=["_law_row", "_law_tariff", "_law_one"]) (k:=2) (js:=[0]) ⟨rfl,by decide +kernel,by decide +kernel,by rfl,by rfl,rfl⟩ rfl (tE K rfl rfl B.zip (aj (pv 2) (aj (pv 1) ao)))
       (fun _ _ _ _ _=>(gn K (n:=2) rfl rfl (bO (aZ (i:=0) (show (["_law_row", "_law_tariff", "_law_one"]:List Str).Nodup by decide +kernel) rfl (Or.inl rfl)) (bO (aZ (i:=1) (show (["_law_row", "_law_tariff", "_law_one"]:List Str).Nodup by decide +kernel) rfl (Or.inl rfl)) gk)))) (qT (dN (bI (by decide)) (dN (bI (by decide)) mU))) (fun _ _ _ _ _=>cD)
       (fun _ _ _ _ _=>(mF.pe hr (aj (pv 2) (aj (pv 0) (aj (pv 1) ao)))))) ao))))),?_⟩
  refine⟨_,rfl,l,us,rfl,.inl (aQ.of hl),_,rfl,c,vs,rfl,.inl (aQ.of hv),rfl,_,rfl,?_⟩
  by_cases c1:us.length=vs.length
  case neg =>
   exact dO (by rw[decide_eq_false (fun e=>c1 (by have:=V.int.inj e;lia))];rfl) (q false H ⟨fun z=>(by cases z),fun z=>absurd (show us.length=vs.length by have:=z.len;lia) c1⟩ (Same.refl _))
  refine dX (by rw[c1];simp) ?_
  refine⟨_,rfl,_,rfl,l,c,rfl,⟨_,aQ.of hl⟩,⟨_,aQ.of hv⟩,vJ (K:=K) (a:=l) (b:=c) (xs:=us) (ys:=vs) c1
   (fun i ys H2=>Same H H2∧oJ (fun j=>∀ r p,rs[j]?=some r→os[j]?=some p→Vz ps p r) i ys) ⟨Same.refl _,fY _⟩ (fun i ys H2 hi ⟨e,ha⟩=>⟨e.seq (aQ.of hl),e.seq (aQ.of hv),ha.lt (by lia)⟩) ?_ ?_⟩
  ·rintro i v v' ys H2 p hi hi' ⟨s2,hal⟩ hp
   obtain⟨r,hr',r2,rfl,hr2⟩:=bh hus hi
   obtain⟨t,ht',r1,rfl,hr1⟩:=bh htv hi'
   have s3:=s2.trans (aq hp (.tup [.ref r2,.ref r1]))
   have ot:=hC.ok t (List.mem_of_getElem? ht')
   obtain⟨f1,f2,f3⟩:=S8 r (List.mem_of_getElem? hr')
   refine⟨p,_,rfl,cT.of ak,rfl,_,_,rfl,_,_,rfl,rfl,Rf ?_⟩
   refine⟨_,rfl,_,rfl,_,rfl,b,r2,r1,ps,t,r.1,r.2.1,r.2.2.1,r.2.2.2,rfl,(hB.same s3).at_,hB.ok,s3 _ _ hr1,ot,s3 _ _ hr2,f1,f2,f3,fun v1 H4 e1 s4=>⟨s3.trans s4,hal.snoc ?_⟩⟩
   rw[e1]
   refine⟨fun z r' p' e e'=>?_,fun z=>z r t hr' ht'⟩
   rw[hr'] at e;cases e
   rw[ht'] at e';cases e'
   exact z
  ·rintro ys H2 ⟨s2,bs,rfl,_,hb⟩ D hD
   refine⟨D,bs,rfl,aQ.of ak,q _ _ ?_ (s2.trans (aq hD _))⟩
   rw[hb]
   constructor
   ·intro z
    exact⟨by lia,fun j r p e e'=>z j (by have:=(List.getElem?_eq_some_iff.mp e').1;lia) r p e e'⟩
   ·intro z j _ r p e e'
    exact z.mix j r p e e'
inductive Nz (vs:List V)(H:Hp)(Q:VK):Prop
 | mk (b c r:Addr) (x y:Int) (ps os:List (Int×Int)) (c0:vs=[.ref b,.ref c,.ref r]) (c1:Bk H b ps) (c2:Bk H c os) (c3:H r=some (.tup [.int x,.int y])) (c4:tO x y) (c5:∀ v H',(v=true↔uW ps os x y)→Same H H'→Q (.bl v) H'):Nz  vs H Q
def NK:Sp:=fun vs H Q _=>Nz  vs H Q
theorem wC:aY ["_law_one", "_law_other", "_law_amount_here", "_law_first"] ["_law_one", "_law_other", "_law_amount_here"] (aC rG):=⟨rfl,rfl,rfl,by decide +kernel,rfl,by decide +kernel,by decide +kernel⟩
theorem Hv {f:Addr}{fd:FuncData}(F:gY K "_law_over" "_law_over" rG f fd)(B:Bl mg)(T:CT K mg z)
  (cP:Cl P w K mg base 1 "_law_cost" ["_law_tariff", "_law_amount_here"] um):cA P w K mg base gB 2 f fd ["_law_one", "_law_other", "_law_amount_here"] NK:=by
 refine F.ok wC (fun vs H Q E h=>?_) (fun cdv A outer s H vs Q E hr h=>?_)
 ·obtain⟨b,c,r,x,y,ps,os,rfl,_⟩:=h
  rfl
 ·obtain⟨b,c,r,x,y,ps,os,rfl,hB,hC,hr',am,q⟩:=h
  refine⟨_,(aB (aW (i:=3) wC.nd rfl (Or.inl rfl) (aK (O7 K rfl rfl) rfl B.min boot_min (aj (cF (N':=["_law_tariff", "_law_amount_here"]) (k:=1) (js:=[2]) ⟨rfl,by decide +kernel,by decide +kernel,by rfl,by rfl,rfl⟩ rfl (bM K rfl (pv 0))
      (fun _ _ _ _ _=>(aZ (i:=0) (show (["_law_tariff", "_law_amount_here"]:List Str).Nodup by decide +kernel) rfl (Or.inl rfl))) (bI (by decide)) (fun _ _ _ _ _=>cD)
      (fun _ _ _ _ _=>(cP.pe hr (aj (pv 0) (aj (pv 1) ao))))) ao)))
     (aD (aN (bW iQ (pv 3) (aK (O7 K rfl rfl) rfl B.min boot_min (aj (cF (N':=["_law_tariff", "_law_amount_here"]) (k:=1) (js:=[2]) ⟨rfl,by decide +kernel,by decide +kernel,by rfl,by rfl,rfl⟩ rfl (bM K rfl (pv 1))
       (fun _ _ _ _ _=>(aZ (i:=0) (show (["_law_tariff", "_law_amount_here"]:List Str).Nodup by decide +kernel) rfl (Or.inl rfl))) (bI (by decide)) (fun _ _ _ _ _=>cD)
       (fun _ _ _ _ _=>(cP.pe hr (aj (pv 0) (aj (pv 1) ao))))) ao)) (aU _))))),?_⟩
  obtain⟨vs,hv,ht⟩:=id hB.at_
  have yq:=ht.len
  have qD:=hB.ln
  refine⟨_,rfl,b,rfl,⟨_,aQ.of hv⟩,bV (K:=K) (a:=b) (xs:=vs) (fun i ys H2=>H=H2∧ys=(ps.take i).map fun p=>V.int (cst p x y)) ⟨rfl,rfl⟩ (fun i ys H2 hi ⟨e,ey⟩=>⟨by rw[←e];exact aQ.of hv,?_⟩) ?_ ?_⟩
  ·rw[ey,List.length_map,List.length_take]
   exact bQ (by lia)
  ·rintro i v ys H2 hi ⟨rfl,rfl⟩
   obtain⟨t,ht',r1,rfl,hr1⟩:=bh ht hi
   have ot:=hB.ok t (List.mem_of_getElem? ht')
   refine dg ?_
   exact⟨_,rfl,_,rfl,r1,r,_,_,x,y,rfl,hr1,hr',ot.1.fit,ot.2.fit,am.x0.fit,am.y0.fit,rfl,(vU _ ps i t ht').symm⟩
  rintro ys H2 ⟨rfl,rfl⟩ D hD
  rw[yq,List.take_length,show (ps.map fun p=>V.int (cst p x y))=(costs ps x y).map V.int by rw[costs,List.map_map];rfl]
  have s1:=aq hD (.lst ((costs ps x y).map V.int))
  have g1:(upd H D (.lst ((costs ps x y).map V.int))) D=some (.lst ((costs ps x y).map V.int)):=ak
  generalize upd H D (.lst ((costs ps x y).map V.int))=H1 at s1 g1 ⊢
  refine⟨D,_,rfl,aQ.of g1,wA hB.ne,fun m1 a1 b1=>?_⟩
  have ahg:=s1 _ _ hr'
  clear hv ht yq
  obtain⟨us,hu,ht⟩:=id (hC.same s1).at_
  have Bv:=ht.len
  have hlc:=hC.ln
  refine⟨_,rfl,_,rfl,c,rfl,⟨_,aQ.of hu⟩,bV (K:=K) (a:=c) (xs:=us) (fun i ys H2=>H1=H2∧ys=(os.take i).map fun p=>V.int (cst p x y)) ⟨rfl,rfl⟩ (fun i ys H2 hi ⟨e,ey⟩=>⟨by rw[←e];exact aQ.of hu,?_⟩) ?_ ?_⟩
  ·rw[ey,List.length_map,List.length_take]
   exact bQ (by lia)
  ·rintro i v ys H2 hi ⟨rfl,rfl⟩
   obtain⟨t,ht',r1,rfl,hr1⟩:=bh ht hi
   have ot:=hC.ok t (List.mem_of_getElem? ht')
   refine dg ?_
   exact⟨_,rfl,_,rfl,r1,r,_,_,x,y,rfl,hr1,ahg,ot.1.fit,ot.2.fit,am.x0.fit,am.y0.fit,rfl,(vU _ os i t ht').symm⟩
  rintro ys H2 ⟨rfl,rfl⟩ D2 hD2
  rw[Bv,List.take_length,show (os.map fun p=>V.int (cst p x y))=(costs os x y).map V.int by rw[costs,List.map_map];rfl]
  have s2:=s1.trans (aq hD2 (.lst ((costs os x y).map V.int)))
  have g2:(upd H1 D2 (.lst ((costs os x y).map V.int))) D2=some (.lst ((costs os x y).map V.int)):=ak
  generalize upd H1 D2 (.lst ((costs os x y).map V.int))=H2 at s2 g2 ⊢
  refine⟨D2,_,rfl,aQ.of g2,wA hC.ne,fun m2 a2 b2=>?_⟩
  refine⟨_,_,rfl,rfl,q _ _ ?_ s2⟩
  rw[decide_eq_true_iff]
  exact J2 a1 b1 a2 b2
end
def pq (k:Int)(r:Addr):List (Str×V):=iC "amount" (.ref r) (iC "place" (.int k) [])
def gQ (k:Int):List (Str×V):=iC "place" (.int k) []
theorem yG (k:Int)(r:Addr):(pq k r).lookup ("place" : Str)=some (.int k):=by
 unfold pq;rw[eU,if_neg (by decide +kernel),eU,if_pos rfl]
theorem qe (k:Int)(r:Addr):(pq k r).lookup ("amount" : Str)=some (.ref r):=by
 unfold pq;rw[eU,if_pos rfl]
theorem J6 (k:Int)(r:Addr):(pq k r).lookup ("shows" : Str)=none:=by
 unfold pq;rw[eU,if_neg (by decide +kernel),eU,if_neg (by decide +kernel)];rfl
theorem rT (k:Int):(gQ k).lookup ("place" : Str)=some (.int k):=by
 unfold gQ;rw[eU,if_pos rfl]
theorem yH (k:Int):(gQ k).lookup ("shows" : Str)=none:=by
 unfold gQ;rw[eU,if_neg (by decide +kernel)];rfl
def Yn (z:Cz)(H:Hp)(a:Addr)(k x y:Int):Prop:=∃ dx r,H a=some (.ins z.Most dx (pq k r))∧H r=some (.tup [.int x,.int y])
def Qh (z:Cz)(H:Hp)(a:Addr)(k:Int):Prop:=∃ dx,H a=some (.ins z.Endless dx (gQ k))
theorem cX {H:Hp}{x dx:Addr}(h1:H x=none)(h2:H dx=none)(o:HO):Same H (upd (upd H dx (.own x)) x o):=fun b u q=>by
 rw[aJ (aM q h1),aJ (aM q h2)];exact q
section
variable{P:Program}{w:World}{K:PySem.W.Frag}{mg:Str→Option Value}{base:Heap}{z:Cz}
inductive Cm (z:Cz)(vs:List V)(H:Hp)(Q:VK):Prop
 | mk (a dx:Addr) (k:Int) (r:Addr) (c0:vs=[.ref a,.int k,.ref r]) (c1:H a=some (.ins z.Most dx [])) (c2:Q .non (upd H a (.ins z.Most dx (pq k r)))):Cm z vs H Q
def mH (z:Cz):Sp:=fun vs H Q _=>Cm z vs H Q
theorem Hw:aY ["self", "place", "amount"] ["self", "place", "amount"] (aC rC):=⟨rfl,rfl,rfl,by decide +kernel,rfl,by decide +kernel,by decide +kernel⟩
theorem Hx {f:Addr}{fd:FuncData}(F:gY K "__init__" "Most.__init__" rC f fd)(B:Bl mg)(T:CT K mg z):cA P w K mg base gB 1 f fd ["self", "place", "amount"] (mH z):=by
 refine F.ok Hw (fun vs H Q E h=>?_) (fun cdv A outer s H vs Q E hr h=>?_)
 ·obtain⟨a,dx,k,r,rfl,_⟩:=h
  rfl
 ·obtain⟨a,dx,k,r,rfl,ha,q⟩:=h
  refine⟨_,(aB (jQ (pv 0) (pv 1) rfl)
     (aD (jQ (pv 0) (pv 2) rfl))),?_⟩
  refine⟨_,rfl,_,rfl,a,_,dx,_,rfl,ha,T.iB,T.iw,(by show 0<1000;decide),?_⟩
  refine⟨_,rfl,_,rfl,a,_,dx,_,rfl,ak,T.iB,T.fK,(by show 1<1000;decide),?_⟩
  rw[eO]
  exact q
inductive uy (z:Cz)(vs:List V)(H:Hp)(Q:VK):Prop
 | mk (a dx:Addr) (k:Int) (c0:vs=[.ref a,.int k]) (c1:H a=some (.ins z.Endless dx [])) (c2:Q .non (upd H a (.ins z.Endless dx (gQ k)))):uy z vs H Q
def iy (z:Cz):Sp:=fun vs H Q _=>uy z vs H Q
theorem yV:aY ["self", "place"] ["self", "place"] (aC lQ):=⟨rfl,rfl,rfl,by decide +kernel,rfl,by decide +kernel,by decide +kernel⟩
theorem yW {f:Addr}{fd:FuncData}(F:gY K "__init__" "Endless.__init__" lQ f fd)(B:Bl mg)(T:CT K mg z):cA P w K mg base gB 1 f fd ["self", "place"] (iy z):=by
 refine F.ok yV (fun vs H Q E h=>?_) (fun cdv A outer s H vs Q E hr h=>?_)
 ·obtain⟨a,dx,k,rfl,_⟩:=h
  rfl
 ·obtain⟨a,dx,k,rfl,ha,q⟩:=h
  refine⟨_,(aD (jQ (pv 0) (pv 1) rfl)),?_⟩
  exact⟨_,rfl,_,rfl,a,_,dx,_,rfl,ha,T.gG,T.fL,(by show 0<1000;decide),q⟩
inductive yI (z:Cz)(vs:List V)(H:Hp)(Q:VK):Prop
 | mk (a b:Addr) (m:Int) (ps:List (Int×Int)) (k x y:Int) (c0:vs=[.ref a,.ref b,.int m]) (c1:Yn z H a k x y) (c2:tO x y) (c3:bH H b ps) (c4:ps≠[]) (c5:ps.length≤1000) (c6:(∀ p∈ps,mO p)) (c7:jm m) (c8:∀ H',Same H H'→Q (.bl (qx ps m k x y)) H'):yI z vs H Q
def nC (z:Cz):Sp:=fun vs H Q _=>yI z vs H Q
theorem oN:aY ["self", "book", "money", "tops", "just"] ["self", "book", "money"] (aC pU):=⟨rfl,rfl,rfl,by decide +kernel,rfl,by decide +kernel,by decide +kernel⟩
theorem DW {f:Addr}{fd:FuncData}(F:gY K "shows" "Most.shows" pU f fd)(B:Bl mg)(T:CT K mg z)
  (gH:Cl P w K mg base 3 "is_amount" ["value"] Bf)
  (gJ:Cl P w K mg base 2 "is_place" ["book", "value"] o9)
  (dF:Cl P w K mg base 2 "tops_of_cost" ["book", "amount"] Bm):cA P w K mg base gB 4 f fd ["self", "book", "money"] (nC z):=by
 refine F.ok oN (fun vs H Q E h=>?_) (fun cdv A outer s H vs Q E hr h=>?_)
 ·obtain⟨a,b,m,ps,k,x,y,rfl,_⟩:=h
  rfl
 ·obtain⟨a,b,m,ps,k,x,y,rfl,⟨dx,r,ha,hm⟩,am,hB,hne,qD,hok,fm,q⟩:=h
  obtain⟨vs,hv,ht⟩:=id hB
  have hl:=ht.len
  refine⟨_,(aB (bY (PW.pt (pw_or (dh (cR (gJ.pe hr (aj (pv 1) (aj (bK K rfl (pv 0) rfl) ao))))) (pw_or1 (dh (cR (gH.pe hr (aj (bK K rfl (pv 0) rfl) ao))))))) (aD (aN cM)) bw)
     (aB (aW (i:=3) oN.nd rfl (Or.inl rfl) (dF.pe hr (aj (pv 1) (aj (bK K rfl (pv 0) rfl) ao))))
     (aB (aW (i:=4) oN.nd rfl (Or.inr rfl) (aF dR (pv 2) (aH (aG K) (bK K rfl (pv 0) rfl) aA (fun _ _=>rfl))))
     (aB (bY (PW.pt (pw_or (bB mR (aH (aP K) (pv 3) (bK K rfl (pv 0) rfl) (fun _ _=>rfl)) (pv 4) (aU _)) (pw_or1 (bB qt (aK (O7 K rfl rfl) rfl B.min boot_min (aj (pv 3) ao)) (pv 4) (aU _))))) (aD (aN cM)) bw)
     (aD (aN (aK (tM K rfl rfl) rfl B.all boot_all (aj (cF (N':=["tariff", "top", "just"]) (k:=2) (js:=[4]) ⟨rfl,by decide +kernel,by decide +kernel,by rfl,by rfl,rfl⟩ rfl (tE K rfl rfl B.zip (aj (pv 1) (aj (pv 3) ao)))
       (fun _ _ _ _ _=>(gn K (n:=2) rfl rfl (bO (aZ (i:=0) (show (["tariff", "top", "just"]:List Str).Nodup by decide +kernel) rfl (Or.inl rfl)) (bO (aZ (i:=1) (show (["tariff", "top", "just"]:List Str).Nodup by decide +kernel) rfl (Or.inl rfl)) gk)))) (qT (dN (bI (by decide)) (dN (bI (by decide)) mU))) (fun _ _ _ _ _=>zE (bB iM (pv 1) (pv 2) (aU _)))
       (fun _ _ _ _ _=>(bW iQ (aH (aG K) (pv 0) aA (fun _ _=>rfl)) aA (aU _)))) ao)))))))),?_⟩
  refine⟨_,rfl,_,rfl,a,_,dx,_,_,rfl,ha,T.iB,T.iw,yG k r,b,vs,k,rfl,hv,_,rfl,?_⟩
  rw[hl]
  by_cases hk:(decide (0≤k) && decide (k<(ps.length:Int)))=true
  ·rw[hk]
   refine dz ?_
   refine⟨_,rfl,a,_,dx,_,_,rfl,ha,T.iB,T.fK,qe k r,r,x,y,rfl,hm,am.x0.1,am.y1,am.cop,_,rfl,dz ?_⟩
   refine⟨_,rfl,_,rfl,a,_,dx,_,_,rfl,ha,T.iB,T.fK,qe k r,b,r,ps,x,y,rfl,hB,qD,hok,hm,am,fun l hl'=>?_⟩
   have s1:=aq hl' (.lst ((costs ps x y).map V.int))
   have hL:(upd H l (.lst ((costs ps x y).map V.int))) l=some (.lst ((costs ps x y).map V.int)):=ak
   generalize upd H l (.lst ((costs ps x y).map V.int))=H1 at s1 hL ⊢
   refine⟨_,rfl,_,rfl,a,_,dx,_,_,rfl,s1 _ _ ha,T.iB,T.fK,qe k r,r,_,1,_,rfl,rfl,cT.of (s1 _ _ hm),rfl,_,_,rfl,rfl,⟨fm,am.y0.fit⟩,?_⟩
   have hk':=Bool.and_eq_true_iff.mp hk
   have k0:=of_decide_eq_true hk'.1
   have k1:=of_decide_eq_true hk'.2
   have hp:=bD k0 k1
   have e1:((costs ps x y).map V.int)[k.toNat]?=some (.int (cst (ps.getD k.toNat (0,0)) x y)):=by rw[List.getElem?_map,costs,List.getElem?_map,hp];rfl
   refine⟨_,rfl,_,rfl,a,_,dx,_,_,rfl,s1 _ _ ha,T.iB,T.iw,yG k r,l,_,k,_,rfl,rfl,aQ.of hL,cG k0 e1,_,rfl,rfl,_,rfl,?_⟩
   have eM:qx ps m k x y=(decide (cst (ps.getD k.toNat (0,0)) x y=m*y) && (ps.all (fun p=>decide (m*y≤cst p x y)) && ps.all (fun p=>!decide (cst p x y=m*y) || decide (0<p.2)))):=by
    unfold qx
    rw[hk,Bool.true_and]
   rw[eM] at q
   by_cases c1:cst (ps.getD k.toNat (0,0)) x y=m*y
   ·rw[decide_eq_true (show V.int (cst (ps.getD k.toNat (0,0)) x y)=V.int (m*y) by rw[c1])]
    rw[decide_eq_true c1,Bool.true_and] at q
    refine dz ?_
    refine⟨_,rfl,l,costs ps x y,rfl,aQ.of hL,by rw[costs];simpa using hne,fun c hc hle=>⟨_,rfl,_,_,rfl,rfl,_,rfl,?_⟩⟩
    by_cases c2:c<m*y
    ·have e2:(ps.all fun p=>decide (m*y≤cst p x y))=false:=by
      rw[List.all_eq_false]
      obtain⟨p,hp,rfl⟩:=List.mem_map.mp hc
      exact⟨p,hp,by rw[decide_eq_true_eq];lia⟩
     rw[e2,Bool.false_and] at q
     rw[decide_eq_true c2]
     exact fH (q _ s1)
    ·have e2:(ps.all fun p=>decide (m*y≤cst p x y))=true:=by
      rw[List.all_eq_true]
      intro p hp
      have:=hle _ (List.mem_map.mpr ⟨p,hp,rfl⟩)
      exact decide_eq_true (by lia)
     rw[e2,Bool.true_and] at q
     rw[decide_eq_false c2]
     refine dz ?_
     have ht1:=ht.same s1
     have hv1:=s1 _ _ hv
     refine⟨_,rfl,_,rfl,b,l,rfl,⟨_,aQ.of hv1⟩,⟨_,aQ.of hL⟩,vJ (K:=K) (a:=b) (b:=l) (xs:=vs) (ys:=(costs ps x y).map V.int) (by rw[List.length_map,costs,List.length_map,hl])
      (fun i zs H2=>Same H1 H2∧∃ bs:List Bool,zs=bs.map V.bl∧bs.length≤i∧bs.all id=(ps.take i).all (fun p=>!decide (cst p x y=m*y) || decide (0<p.2))) ⟨Same.refl _,[],rfl,Nat.le_refl _,rfl⟩
      (fun i zs H2 hi ⟨e,bs,ez,eb,_⟩=>⟨e.seq (aQ.of hv1),e.seq (aQ.of hL),?_⟩) ?_ ?_⟩
     ·rw[ez,List.length_map]
      exact bQ (by lia)
     ·rintro i v v' zs H2 p hi hi' ⟨s2,bs,rfl,Qd,hb⟩ hp
      obtain⟨t,ht',r1,rfl,hr1⟩:=bh ht1 hi
      obtain⟨c',hc',rfl⟩:=int_at hi'
      have ec:c'=cst t x y:=by
       rw[costs,List.getElem?_map,ht'] at hc'
       exact (Option.some.inj hc').symm
      subst ec
      have s3:=s2.trans (aq hp (.tup [.ref r1,.int (cst t x y)]))
      have et:(ps.take (i+1)).all (fun p=>!decide (cst p x y=m*y) || decide (0<p.2))=((ps.take i).all (fun p=>!decide (cst p x y=m*y) || decide (0<p.2)) && (!decide (cst t x y=m*y) || decide (0<t.2))):=by
       rw[List.take_succ,ht',List.all_append]
       simp
      refine⟨p,_,rfl,cT.of ak,rfl,_,_,rfl,_,_,rfl,rfl,?_⟩
      refine⟨_,rfl,_,rfl,rfl,_,rfl,?_⟩
      by_cases c3:cst t x y=m*y
      ·rw[decide_eq_true (show V.int (cst t x y)=V.int (m*y) by rw[c3])]
       refine fH ?_
       refine⟨_,rfl,r1,_,1,_,rfl,rfl,cT.of (s3 _ _ hr1),rfl,_,_,rfl,rfl,s3,bs++[decide (0<t.2)],by rw[List.map_append];rfl,by rw[List.length_append];show bs.length+1≤i+1;lia,?_⟩
       rw[et,←hb,decide_eq_true c3,List.all_append]
       simp
      ·rw[decide_eq_false (show ¬ V.int (cst t x y)=V.int (m*y) from fun z=>c3 (V.int.inj z))]
       refine dz ?_
       refine⟨s3,bs,rfl,by lia,?_⟩
       rw[et,←hb,decide_eq_false c3]
       simp
     ·rintro zs H2 ⟨s2,bs,rfl,Qd,hb⟩ D hD
      rw[hl,List.take_of_length_le (Nat.le_refl _)] at hb
      refine⟨D,bs,rfl,aQ.of ak,?_⟩
      rw[hb]
      exact q _ ((s1.trans s2).trans (aq hD _))
   ·rw[decide_eq_false (show ¬ V.int (cst (ps.getD k.toNat (0,0)) x y)=V.int (m*y) from fun z=>c1 (V.int.inj z))]
    rw[decide_eq_false c1,Bool.false_and] at q
    exact fH (q _ s1)
  ·have hk':=Bool.eq_false_iff.mpr hk
   have e:qx ps m k x y=false:=by unfold qx;rw[hk',Bool.false_and]
   rw[e] at q
   rw[hk']
   exact fH (q _ (Same.refl _))
inductive rW (z:Cz)(vs:List V)(H:Hp)(Q:VK):Prop
 | mk (a b:Addr) (m:Int) (ps:List (Int×Int)) (k:Int) (c0:vs=[.ref a,.ref b,.int m]) (c1:Qh z H a k) (c2:bH H b ps) (c3:∀ H',Same H H'→Q (.bl (jH ps m k)) H'):rW z vs H Q
def jg (z:Cz):Sp:=fun vs H Q _=>rW z vs H Q
theorem pA:aY ["self", "book", "money", "tariff"] ["self", "book", "money"] (aC jU):=⟨rfl,rfl,rfl,by decide +kernel,rfl,by decide +kernel,by decide +kernel⟩
theorem xM {f:Addr}{fd:FuncData}(F:gY K "shows" "Endless.shows" jU f fd)(B:Bl mg)(T:CT K mg z)
  (gJ:Cl P w K mg base 2 "is_place" ["book", "value"] o9):cA P w K mg base gB 3 f fd ["self", "book", "money"] (jg z):=by
 refine F.ok pA (fun vs H Q E h=>?_) (fun cdv A outer s H vs Q E hr h=>?_)
 ·obtain⟨a,b,m,ps,k,rfl,_⟩:=h
  rfl
 ·obtain⟨a,b,m,ps,k,rfl,⟨dx,ha⟩,hB,q⟩:=h
  obtain⟨vs,hv,ht⟩:=id hB
  have hl:=ht.len
  refine⟨_,(aB (bY (dh (cR (gJ.pe hr (aj (pv 1) (aj (bK K rfl (pv 0) rfl) ao))))) (aD (aN cM)) bw)
     (aB (aW (i:=3) pA.nd rfl (Or.inl rfl) (aH (aP K) (pv 1) (bK K rfl (pv 0) rfl) (fun _ _=>rfl)))
     (aD (aN (eF (bW iM (aH (aG K) (pv 3) aA (fun _ _=>rfl)) aA (aU _)) (iT (bW qQ (aH (aG K) (pv 3) aA (fun _ _=>rfl)) (pv 2) (aU _)))))))),?_⟩
  refine⟨_,rfl,_,rfl,a,_,dx,_,_,rfl,ha,T.gG,T.fL,rT k,b,vs,k,rfl,hv,_,rfl,?_⟩
  rw[hl]
  by_cases hk:(decide (0≤k) && decide (k<(ps.length:Int)))=true
  ·rw[hk]
   refine dz ?_
   have hk':=Bool.and_eq_true_iff.mp hk
   have k0:=of_decide_eq_true hk'.1
   have k1:=of_decide_eq_true hk'.2
   have hp:=bD k0 k1
   obtain⟨u,hu,r,rfl,hr1⟩:=bx ht hp
   have eM:jH ps m k=(decide ((ps.getD k.toNat (0,0)).2=0) && decide ((ps.getD k.toNat (0,0)).1≤m)):=by
    unfold jH
    rw[hk,Bool.true_and]
   rw[eM] at q
   refine⟨_,rfl,_,rfl,a,_,dx,_,_,rfl,ha,T.gG,T.fL,rT k,b,vs,k,_,rfl,rfl,aQ.of hv,cG k0 hu,?_⟩
   refine⟨_,rfl,r,_,1,_,rfl,rfl,cT.of hr1,rfl,rfl,_,rfl,?_⟩
   by_cases c1:(ps.getD k.toNat (0,0)).2=0
   ·rw[decide_eq_true (show V.int (ps.getD k.toNat (0,0)).2=V.int 0 by rw[c1])]
    rw[decide_eq_true c1,Bool.true_and] at q
    refine fH ?_
    exact⟨_,rfl,r,_,0,_,rfl,rfl,cT.of hr1,rfl,_,rfl,_,_,rfl,rfl,q _ (Same.refl _)⟩
   ·rw[decide_eq_false (show ¬ V.int (ps.getD k.toNat (0,0)).2=V.int 0 from fun z=>c1 (V.int.inj z))]
    rw[decide_eq_false c1,Bool.false_and] at q
    exact dz (q _ (Same.refl _))
  ·have hk':=Bool.eq_false_iff.mpr hk
   have e:jH ps m k=false:=by unfold jH;rw[hk',Bool.false_and]
   rw[e] at q
   rw[hk']
   exact fH (q _ (Same.refl _))
inductive yJ (z:Cz)(vs:List V)(H:Hp)(Q:VK):Prop
 | mk (a b:Addr) (m:Int) (ps:List (Int×Int)) (c0:vs=[.ref a,.ref b,.int m]) (c1:bH H b ps) (c2:ps.length≤1000) (c3:∀ H',Same H H'→Q (.bl (Ww ps m)) H'):yJ z vs H Q
def nD (z:Cz):Sp:=fun vs H Q _=>yJ z vs H Q
theorem rY {ps:List (Int×Int)}{f:Int×Int→Bool}{i:Nat}{t:Int×Int}(h:ps[i]?=some t):(ps.take (i+1)).all f=((ps.take i).all f && f t):=by
 rw[List.take_succ,h,List.all_append]
 simp
theorem DX:aY ["self", "book", "money"] ["self", "book", "money"] (aC pW):=⟨rfl,rfl,rfl,by decide +kernel,rfl,by decide +kernel,by decide +kernel⟩
theorem DY {f:Addr}{fd:FuncData}(F:gY K "shows" "Dear.shows" pW f fd)(B:Bl mg)(T:CT K mg z):cA P w K mg base gB 1 f fd ["self", "book", "money"] (nD z):=by
 refine F.ok DX (fun vs H Q E h=>?_) (fun cdv A outer s H vs Q E hr h=>?_)
 ·obtain⟨a,b,m,ps,rfl,_⟩:=h
  rfl
 ·obtain⟨a,b,m,ps,rfl,hB,qD,q⟩:=h
  obtain⟨vs,hv,ht⟩:=id hB
  have hl:=ht.len
  refine⟨_,(aD (aN (aK (tM K rfl rfl) rfl B.all boot_all (aj (cF (N':=["tariff", "money"]) (k:=1) (js:=[2]) ⟨rfl,by decide +kernel,by decide +kernel,by rfl,by rfl,rfl⟩ rfl (bM K rfl (pv 1))
      (fun _ _ _ _ _=>(aZ (i:=0) (show (["tariff", "money"]:List Str).Nodup by decide +kernel) rfl (Or.inl rfl))) (bI (by decide)) (fun _ _ _ _ _=>cD)
      (fun _ _ _ _ _=>(bW iQ (aH (aG K) (pv 0) aA (fun _ _=>rfl)) (pv 1) (aU _)))) ao)))),?_⟩
  refine⟨_,rfl,b,rfl,⟨_,aQ.of hv⟩,bV (K:=K) (a:=b) (xs:=vs) (fun i ys H2=>H=H2∧∃ bs:List Bool,ys=bs.map V.bl∧bs.length≤i∧bs.all id=(ps.take i).all fun p=>decide (m<p.1)) ⟨rfl,[],rfl,Nat.le_refl _,rfl⟩
   (fun i ys H2 hi ⟨e,bs,ez,eb,_⟩=>⟨by rw[←e];exact aQ.of hv,?_⟩) ?_ ?_⟩
  ·rw[ez,List.length_map]
   exact bQ (by lia)
  ·rintro i v ys H2 hi ⟨rfl,bs,rfl,Qd,hb⟩
   obtain⟨t,ht',r1,rfl,hr1⟩:=bh ht hi
   refine dg ?_
   refine⟨_,rfl,r1,_,0,_,rfl,rfl,cT.of hr1,rfl,_,rfl,_,_,rfl,rfl,rfl,bs++[decide (m<t.1)],by rw[List.map_append];rfl,by rw[List.length_append];show bs.length+1≤i+1;lia,?_⟩
   rw[rY ht',←hb,List.all_append]
   simp
  ·rintro ys H2 ⟨rfl,bs,rfl,Qd,hb⟩ D hD
   rw[hl,List.take_of_length_le (Nat.le_refl _)] at hb
   refine⟨D,bs,rfl,aQ.of ak,?_⟩
   rw[hb]
   exact q _ (aq hD _)
end
section
variable{P:Program}{w:World}{K:PySem.W.Frag}{mg:Str→Option Value}{base:Heap}{z:Cz}
inductive NP (vs:List V)(H:Hp)(Q:VK):Prop
 | mk (b:Addr) (m k:Int) (r:Addr) (ps:List (Int×Int)) (x y:Int) (c0:vs=[.ref b,.int m,.int k,.ref r]) (c1:bH H b ps) (c2:ps.length≤1000) (c3:(∀ p∈ps,mO p)) (c4:H r=some (.tup [.int x,.int y])) (c5:tO x y) (c6:jm m) (c7:∀ H',Same H H'→Q (.bl (qx ps m k x y)) H'):NP  vs H Q
def NQ:Sp:=fun vs H Q _=>NP  vs H Q
theorem wD:aY ["_law_book_here", "_law_money", "_law_place", "_law_amount_here", "_law_due"] ["_law_book_here", "_law_money", "_law_place", "_law_amount_here"] (aC rH):=⟨rfl,rfl,rfl,by decide +kernel,rfl,by decide +kernel,by decide +kernel⟩
theorem Hy {f:Addr}{fd:FuncData}(F:gY K "_law_most" "_law_most" rH f fd)(B:Bl mg)(T:CT K mg z)
  (cP:Cl P w K mg base 1 "_law_cost" ["_law_tariff", "_law_amount_here"] um):cA P w K mg base gB 2 f fd ["_law_book_here", "_law_money", "_law_place", "_law_amount_here"] NQ:=by
 refine F.ok wD (fun vs H Q E h=>?_) (fun cdv A outer s H vs Q E hr h=>?_)
 ·obtain⟨b,m,k,r,ps,x,y,rfl,_⟩:=h
  rfl
 ·obtain⟨b,m,k,r,ps,x,y,rfl,hB,qD,hok,hm,am,fm,q⟩:=h
  obtain⟨vs,hv,ht⟩:=id hB
  have hl:=ht.len
  refine⟨_,(aB (aW (i:=4) wD.nd rfl (Or.inr rfl) (aF dR (pv 1) (aH (aG K) (pv 3) aA (fun _ _=>rfl))))
     (aB (bY (PW.pt (pw_or (dh (QJ qQ qt aA (pv 2) (aK (iV K) rfl B.len PySem.boot_len (aj (pv 0) ao)))) (pw_or1 (bB mR (cP.pe hr (aj (aH (aP K) (pv 0) (pv 2) (fun _ _=>rfl)) (aj (pv 3) ao))) (pv 4) (aU _))))) (aD (aN cM)) bw)
     (aB (bY (cR (aK (UW K rfl rfl) rfl B.any boot_any (aj (cF (N':=["_law_tariff", "_law_amount_here", "_law_due"]) (k:=1) (js:=[3,4]) ⟨rfl,by decide +kernel,by decide +kernel,by rfl,by rfl,rfl⟩ rfl (bM K rfl (pv 0))
       (fun _ _ _ _ _=>(aZ (i:=0) (show (["_law_tariff", "_law_amount_here", "_law_due"]:List Str).Nodup by decide +kernel) rfl (Or.inl rfl))) (bI (by decide)) (fun _ _ _ _ _=>cD)
       (fun _ _ _ _ _=>(bW qt (cP.pe hr (aj (pv 0) (aj (pv 1) ao))) (pv 2) (aU _)))) ao))) (aD (aN cM)) bw)
     (aD (aN (aK (tM K rfl rfl) rfl B.all boot_all (aj (cF (N':=["_law_tariff", "_law_amount_here", "_law_due"]) (k:=1) (js:=[3,4]) ⟨rfl,by decide +kernel,by decide +kernel,by rfl,by rfl,rfl⟩ rfl (bM K rfl (pv 0))
       (fun _ _ _ _ _=>(aZ (i:=0) (show (["_law_tariff", "_law_amount_here", "_law_due"]:List Str).Nodup by decide +kernel) rfl (Or.inl rfl))) (bI (by decide)) (fun _ _ _ _ _=>zE (bB iM (cP.pe hr (aj (pv 0) (aj (pv 1) ao))) (pv 2) (aU _)))
       (fun _ _ _ _ _=>(bW iQ (aH (aG K) (pv 0) aA (fun _ _=>rfl)) aA (aU _)))) ao))))))),?_⟩
  refine⟨_,rfl,_,rfl,r,_,1,_,rfl,rfl,cT.of hm,rfl,_,_,rfl,rfl,⟨fm,am.y0.fit⟩,?_⟩
  have no:∀ H',Same H H'→qx ps m k x y=false→Q (.bl false) H':=fun H' e e2=>by rw[←e2];exact q H' e
  refine⟨_,rfl,_,_,rfl,rfl,_,rfl,?_⟩
  by_cases k0:0≤k
  ·rw[decide_eq_true k0]
   refine fH ?_
   refine⟨_,rfl,b,vs,rfl,.inl (aQ.of hv),_,_,rfl,rfl,_,rfl,?_⟩
   rw[hl]
   by_cases k1:k<(ps.length:Int)
   ·rw[decide_eq_true k1]
    refine dz ?_
    have hp:=bD k0 k1
    obtain⟨u,hu,rt,rfl,FP⟩:=bx ht hp
    have op:=hok _ (List.mem_of_getElem? hp)
    refine⟨_,rfl,_,rfl,b,vs,k,_,rfl,rfl,aQ.of hv,cG k0 hu,_,rfl,rt,r,_,_,x,y,rfl,FP,hm,op.1.fit,op.2.fit,am.x0.fit,am.y0.fit,_,rfl,rfl,_,rfl,?_⟩
    have eM:qx ps m k x y=(decide (cst (ps.getD k.toNat (0,0)) x y=m*y) && (ps.all (fun p=>decide (m*y≤cst p x y)) && ps.all (fun p=>!decide (cst p x y=m*y) || decide (0<p.2)))):=by
     unfold qx
     rw[decide_eq_true k0,decide_eq_true k1,Bool.true_and,Bool.true_and]
    rw[eM] at q no
    by_cases c1:cst (ps.getD k.toNat (0,0)) x y=m*y
    ·rw[decide_eq_true (show V.int (cst ((ps.getD k.toNat (0,0)).1,(ps.getD k.toNat (0,0)).2) x y)=V.int (m*y) from congrArg V.int c1)]
     rw[decide_eq_true c1,Bool.true_and] at q no
     refine dz ?_
     refine⟨_,rfl,b,rfl,⟨_,aQ.of hv⟩,bV (K:=K) (a:=b) (xs:=vs) (fun i ys H2=>H=H2∧∃ bs:List Bool,ys=bs.map V.bl∧bs.length≤i∧bs.any id = !((ps.take i).all fun p=>decide (m*y≤cst p x y))) ⟨rfl,[],rfl,Nat.le_refl _,rfl⟩
      (fun i ys H2 hi ⟨e,bs,ez,eb,_⟩=>⟨by rw[←e];exact aQ.of hv,?_⟩) ?_ ?_⟩
     ·rw[ez,List.length_map]
      exact bQ (by lia)
     ·rintro i v ys H2 hi ⟨rfl,bs,rfl,Qd,hb⟩
      obtain⟨t,ht',r1,rfl,hr1⟩:=bh ht hi
      have ot:=hok _ (List.mem_of_getElem? ht')
      refine dg ?_
      refine⟨_,rfl,_,rfl,r1,r,_,_,x,y,rfl,hr1,hm,ot.1.fit,ot.2.fit,am.x0.fit,am.y0.fit,_,rfl,_,_,rfl,rfl,rfl,bs++[decide (cst t x y<m*y)],by rw[List.map_append];rfl,by rw[List.length_append];show bs.length+1≤i+1;lia,?_⟩
      have e9:decide (cst t x y<m*y) = !decide (m*y≤cst t x y):=by
       by_cases c9:cst t x y<m*y
       ·rw[decide_eq_true c9,decide_eq_false (by lia)];rfl
       ·rw[decide_eq_false c9,decide_eq_true (by lia)];rfl
      rw[rY ht',List.any_append,hb,e9]
      simp[Bool.not_and]
     ·rintro ys H2 ⟨rfl,bs,rfl,Qd,hb⟩ D hD
      rw[hl,List.take_of_length_le (Nat.le_refl _)] at hb
      have s1:=aq hD (.lst (bs.map V.bl))
      refine⟨D,bs,rfl,aQ.of ak,_,rfl,?_⟩
      rw[hb]
      generalize upd H D (.lst (bs.map V.bl))=H1 at s1 ⊢
      by_cases c2:(ps.all fun p=>decide (m*y≤cst p x y))=true
      ·rw[c2,Bool.true_and] at q
       rw[c2]
       refine dz ?_
       have hv1:=s1 _ _ hv
       have ht1:=ht.same s1
       have hm1:=s1 _ _ hm
       refine⟨_,rfl,b,rfl,⟨_,aQ.of hv1⟩,bV (K:=K) (a:=b) (xs:=vs) (fun i ys H2=>H1=H2∧∃ bs:List Bool,ys=bs.map V.bl∧bs.length≤i∧bs.all id=(ps.take i).all (fun p=>!decide (cst p x y=m*y) || decide (0<p.2))) ⟨rfl,[],rfl,Nat.le_refl _,rfl⟩
        (fun i ys H2 hi ⟨e,bs,ez,eb,_⟩=>⟨by rw[←e];exact aQ.of hv1,?_⟩) ?_ ?_⟩
       ·rw[ez,List.length_map]
        exact bQ (by lia)
       ·rintro i v ys H2 hi ⟨rfl,bs,rfl,Qd,hb⟩
        obtain⟨t,ht',r1,rfl,hr1⟩:=bh ht1 hi
        have ot:=hok _ (List.mem_of_getElem? ht')
        refine⟨_,rfl,_,rfl,r1,r,_,_,x,y,rfl,hr1,hm1,ot.1.fit,ot.2.fit,am.x0.fit,am.y0.fit,_,rfl,rfl,_,rfl,?_⟩
        by_cases c3:cst t x y=m*y
        ·rw[decide_eq_true (show V.int (cst (t.1,t.2) x y)=V.int (m*y) from congrArg V.int c3)]
         refine fH ?_
         refine⟨_,rfl,r1,_,1,_,rfl,rfl,cT.of hr1,rfl,_,_,rfl,rfl,rfl,bs++[decide (0<t.2)],by rw[List.map_append];rfl,by rw[List.length_append];show bs.length+1≤i+1;lia,?_⟩
         rw[rY ht',←hb,decide_eq_true c3,List.all_append]
         simp
        ·rw[decide_eq_false (show ¬ V.int (cst (t.1,t.2) x y)=V.int (m*y) from fun z=>c3 (V.int.inj z))]
         refine dz ?_
         refine⟨rfl,bs,rfl,by lia,?_⟩
         rw[rY ht',←hb,decide_eq_false c3]
         simp
       ·rintro ys H2 ⟨rfl,bs,rfl,Qd,hb⟩ D hD
        rw[hl,List.take_of_length_le (Nat.le_refl _)] at hb
        refine⟨D,bs,rfl,aQ.of ak,?_⟩
        rw[hb]
        exact q _ (s1.trans (aq hD _))
      ·have c2':=Bool.eq_false_iff.mpr c2
       rw[c2']
       exact fH (no _ s1 (by rw[c2'];rfl))
    ·rw[decide_eq_false (show ¬ V.int (cst ((ps.getD k.toNat (0,0)).1,(ps.getD k.toNat (0,0)).2) x y)=V.int (m*y) from fun z=>c1 (V.int.inj z))]
     exact fH (no _ (Same.refl _) (by rw[decide_eq_false c1];rfl))
   ·rw[decide_eq_false k1]
    exact fH (no _ (Same.refl _) (by unfold qx;rw[decide_eq_false k1,Bool.and_false];rfl))
  ·rw[decide_eq_false k0]
   refine dz ?_
   exact⟨_,rfl,fH (no _ (Same.refl _) (by unfold qx;rw[decide_eq_false k0];rfl))⟩
inductive Cp (vs:List V)(H:Hp)(Q:VK):Prop
 | mk (b:Addr) (m k:Int) (ps:List (Int×Int)) (c0:vs=[.ref b,.int m,.int k]) (c1:bH H b ps) (c2:Q (.bl (jH ps m k)) H):Cp  vs H Q
def Cq:Sp:=fun vs H Q _=>Cp  vs H Q
theorem yX:aY ["_law_book_here", "_law_money", "_law_place"] ["_law_book_here", "_law_money", "_law_place"] (aC lV):=⟨rfl,rfl,rfl,by decide +kernel,rfl,by decide +kernel,by decide +kernel⟩
theorem yZ {f:Addr}{fd:FuncData}(F:gY K "_law_endless" "_law_endless" lV f fd)(B:Bl mg)(T:CT K mg z):cA P w K mg base gB 1 f fd ["_law_book_here", "_law_money", "_law_place"] Cq:=by
 refine F.ok yX (fun vs H Q E h=>?_) (fun cdv A outer s H vs Q E hr h=>?_)
 ·obtain⟨b,m,k,ps,rfl,_⟩:=h
  rfl
 ·obtain⟨b,m,k,ps,rfl,hB,q⟩:=h
  obtain⟨vs,hv,ht⟩:=id hB
  have hl:=ht.len
  refine⟨_,(aD (aN (eF (z9 qQ qt aA (pv 2) (aK (iV K) rfl B.len PySem.boot_len (aj (pv 0) ao))) (eF (bW iM (aH (aG K) (aH (aP K) (pv 0) (pv 2) (fun _ _=>rfl)) aA (fun _ _=>rfl)) aA (aU _)) (iT (bW qQ (aH (aG K) (aH (aP K) (pv 0) (pv 2) (fun _ _=>rfl)) aA (fun _ _=>rfl)) (pv 1) (aU _))))))),?_⟩
  unfold jH at q
  refine⟨_,rfl,_,_,rfl,rfl,_,rfl,?_⟩
  by_cases k0:0≤k
  ·rw[decide_eq_true k0] at q ⊢
   refine fH ?_
   refine⟨_,rfl,b,vs,rfl,.inl (aQ.of hv),_,_,rfl,rfl,_,rfl,?_⟩
   rw[hl]
   by_cases k1:k<(ps.length:Int)
   ·rw[decide_eq_true k1] at q ⊢
    refine fH ?_
    have hp:=bD k0 k1
    obtain⟨u,hu,rt,rfl,FP⟩:=bx ht hp
    refine⟨_,rfl,_,rfl,b,vs,k,_,rfl,rfl,aQ.of hv,cG k0 hu,rt,_,1,_,rfl,rfl,cT.of FP,rfl,rfl,_,rfl,?_⟩
    by_cases c1:(ps.getD k.toNat (0,0)).2=0
    ·rw[decide_eq_true (show V.int (ps.getD k.toNat (0,0)).2=V.int 0 by rw[c1])]
     rw[decide_eq_true c1] at q
     refine fH ?_
     exact⟨_,rfl,_,rfl,b,vs,k,_,rfl,rfl,aQ.of hv,cG k0 hu,rt,_,0,_,rfl,rfl,cT.of FP,rfl,_,rfl,_,_,rfl,rfl,q⟩
    ·rw[decide_eq_false (show ¬ V.int (ps.getD k.toNat (0,0)).2=V.int 0 from fun z=>c1 (V.int.inj z))]
     rw[decide_eq_false c1] at q
     exact dz q
   ·rw[decide_eq_false k1] at q ⊢
    exact dz q
  ·rw[decide_eq_false k0] at q ⊢
   refine dz ?_
   exact⟨_,rfl,dz q⟩
end
theorem jh {xs:List V}{lo hi:Option Int}{v:V}(h:v∈fV xs lo hi):v∈xs:=by
 unfold fV at h
 exact List.mem_of_mem_drop (List.mem_of_mem_take h)
theorem oY (xs:List V){k:Int}(h:0≤k):fV xs (some k) none=xs.drop k.toNat:=by
 obtain⟨n,rfl⟩:=Int.eq_ofNat_of_zero_le h
 unfold fV
 rw[HT.Ac,HT.tD,Int.toNat_natCast]
 by_cases h:n≤xs.length
 ·rw[Nat.min_eq_left h,List.take_of_length_le (by rw[List.length_drop];omega)]
 ·rw[Nat.min_eq_right (by omega),List.drop_of_length_le (Nat.le_refl _),List.drop_of_length_le (by omega)]
  simp
theorem VD (xs:List V){k:Int}(h:0≤k):(fV xs (some k) (some (k+1))).length≤1:=by
 obtain⟨n,rfl⟩:=Int.eq_ofNat_of_zero_le h
 unfold fV
 rw[show (n:Int)+1=((n+1:Nat):Int) from rfl,HT.tD,HT.tD,List.length_take]
 omega
def T9 (H:Hp)(v:V):Prop:=(∃ k,v=.int k)∨∃ (r:Addr) (ns:List Int),v=.ref r∧H r=some (.tup (ns.map V.int))
theorem T9.same {H H':Hp}{v:V}(h:T9 H v)(s:Same H H'):T9 H' v:=by
 rcases h with h|⟨r,ns,h1,h2⟩
 ·exact .inl h
 ·exact .inr ⟨r,ns,h1,s _ _ h2⟩
theorem J7 {K:PySem.W.Frag}{H:Hp}:∀ xs:List V,(∀ v∈xs,T9 H v)→∃ ds,MP K H xs ds∧PyData.canLayAll0 ds=true∧PyData.depthAll ds≤1
 | [],_=>⟨[],.nil,rfl,Nat.zero_le _⟩
 | v::xs,h=>by
  obtain⟨ds,h1,h2,h3⟩:=J7 (K:=K) xs fun u hu=>h u (List.mem_cons_of_mem _ hu)
  rcases h v (List.mem_cons_self ..) with⟨k,rfl⟩|⟨r,ns,rfl,hr⟩
  ·refine⟨.int k::ds,.cons (.int k) h1,?_,?_⟩
   ·rw[PyData.canLayAll0,h2];rfl
   ·rw[PyData.depthAll]
    show max 0 _≤1
    omega
  ·refine⟨.tuple (ns.map PyData.int)::ds,.cons (.tup (cT.of hr) (mC ns)) h1,?_,?_⟩
   ·rw[PyData.canLayAll0,h2,PyData.canLay0,mZ];rfl
   ·rw[PyData.depthAll,PyData.depth,pZ]
    omega
theorem zN {K:PySem.W.Frag}{H:Hp}{xs:List V}(h:∀ v∈xs,T9 H v):∃ ds,(∀ a,H a=some (.lst xs)→Dr K H (.ref a) (.list ds))∧SeqAt.shaped (.list ds)=true∧ds.length=xs.length:=by
 obtain⟨ds,h1,h2,h3⟩:=J7 (K:=K) xs h
 refine⟨ds,fun a ha=>.lst (aQ.of ha) h1,?_,?_⟩
 ·unfold SeqAt.shaped
  rw[Bool.and_eq_true]
  exact⟨by rw[PyData.canLay0];exact h2,decide_eq_true (by rw[PyData.depth];omega)⟩
 ·have:∀ {xs:List V} {ds:List PyData},MP K H xs ds→ds.length=xs.length:=by
   intro xs
   induction xs with
   | nil=>intro ds h;cases h;rfl
   | cons x xs ih=>intro ds h;cases h with|cons a b=>rw[List.length_cons,List.length_cons,ih b]
  exact this h1
theorem Cr {ds:List PyData}(h:SeqAt.shaped (.list ds)=true):PyData.eqv (.list ds) (.list ds)=true:=SeqAt.eqv_refl _ (SeqAt.canLay_of_shaped h)
theorem Mf:SeqAt.shaped (.list [])=true:=by decide
theorem VF (ds:List PyData):PyData.eqv (.list ds) (.list [])=decide (ds.length=0):=by
 cases ds with
 | nil=>rfl
 | cons d ds=>rw[PyData.eqv,PyData.eqvAll];rfl
section
variable{P:Program}{w:World}{K:PySem.W.Frag}{mg:Str→Option Value}{base:Heap}{z:Cz}
inductive Tc (vs:List V)(H:Hp)(Q:VK):Prop
 | mk (a b:Bool) (c0:vs=[.bl a,.bl b]) (c1:(a=true↔b=true)) (c2:Q (.bl true) H):Tc  vs H Q
def xO:Sp:=fun vs H Q _=>Tc  vs H Q
theorem Hz:aY ["_law_said", "_law_due"] ["_law_said", "_law_due"] (aC rJ):=⟨rfl,rfl,rfl,by decide +kernel,rfl,by decide +kernel,by decide +kernel⟩
theorem HJ {f:Addr}{fd:FuncData}(F:gY K "_law_says" "_law_says" rJ f fd)(B:Bl mg)(T:CT K mg z):cA P w K mg base gB 1 f fd ["_law_said", "_law_due"] xO:=by
 refine F.ok Hz (fun vs H Q E h=>?_) (fun cdv A outer s H vs Q E hr h=>?_)
 ·obtain⟨a,b,rfl,_⟩:=h
  rfl
 ·obtain⟨a,b,rfl,e,q⟩:=h
  obtain rfl:a=b:=Bool.eq_iff_iff.mpr e
  refine⟨_,(aD (aN (eF (aK (O6 K (n := "bool")) rfl B.XQ boot_isinstance (aj (pv 0) (aj (tu (v:=.ty "bool") rfl B.bool boot_bool rfl) ao))) (iT (bW iM (pv 0) (pv 1) (aU _)))))),?_⟩
  refine⟨_,rfl,_,_,_,rfl,.bl a,qU,_,rfl,fH ?_⟩
  refine⟨_,rfl,_,rfl,rfl,?_⟩
  rw[decide_eq_true rfl]
  exact q
inductive Td (K:PySem.W.Frag)(vs:List V)(H:Hp)(Q:VK):Prop
 | mk (l s:Addr) (v:V) (xs:List V) (ns:List Int) (c0:vs=[.ref l,.ref s,v]) (c1:H l=some (.lst xs)) (c2:aQ K H s (ns.map V.int)) (c3:ns.length≤63) (c4:xs.length≤500) (c5:(∀ y∈xs,T9 H y)) (c6:T9 H v) (c7:∀ (f:Addr) (ys:List V) (H':Hp),Same H H'→H' f=some (.lst ys)→ys.length≤xs.length+126→(∀ y∈ys,y∈xs∨y=v)→Q (.ref f) H'):Td K vs H Q
def Mg (K:PySem.W.Frag):Sp:=fun vs H Q _=>Td K vs H Q
theorem fQ:aY ["_law_some", "_law_script", "_law_more", "_law_found", "_law_cell", "_law_at"] ["_law_some", "_law_script", "_law_more"] (aC rK):=⟨rfl,rfl,rfl,by decide +kernel,rfl,by decide +kernel,by decide +kernel⟩
theorem HN {f:Addr}{fd:FuncData}(F:gY K "_law_bent" "_law_bent" rK f fd)(B:Bl mg)(T:CT K mg z):cA P w K mg base gB 1 f fd ["_law_some", "_law_script", "_law_more"] (Mg K):=by
 refine F.ok fQ (fun vs H Q E h=>?_) (fun cdv A outer s H vs Q E hr h=>?_)
 ·obtain⟨l,s,v,xs,ns,rfl,_⟩:=h
  rfl
 ·obtain⟨l,s,v,xs,ns,rfl,hl,hS,hns,hxs,sx,sv,q⟩:=h
  refine⟨_,(aB (aW (i:=3) fQ.nd rfl (Or.inl rfl) (fJ (Aj K) rfl B.list boot_list (aj (pv 0) ao)))
     (aB (jP PassesOwn.never rfl (bM K rfl (pv 1)) (aZ (i:=4) fQ.nd rfl (Or.inl rfl))
     (aB (aW (i:=5) fQ.nd rfl (Or.inl rfl) (aF cO (aF bU (pv 4) aA) (aK (Om rfl) rfl B.max boot_max (aj aA (aj (aK (iV K) rfl B.len PySem.boot_len (aj (pv 3) ao)) ao)))))
     (aB (bY (bB iM (aF cO (pv 4) aA) aA (aU _)) (aD (aW (i:=3) fQ.nd rfl (Or.inl rfl) (aF (jF K) (cB K rfl (pv 3) cZ (cH (pv 5))) (cB K rfl (pv 3) (cH (aF dj (pv 5) aA)) cZ)))) bw)
     (aB (bY (bB iM (aF cO (pv 4) aA) aA (aU _)) (aD (aW (i:=3) fQ.nd rfl (Or.inl rfl) (aF (jF K) (aF (jF K) (cB K rfl (pv 3) cZ (cH (pv 5))) (bF (aj (pv 2) ao))) (cB K rfl (pv 3) (cH (pv 5)) cZ)))) bw)
     (aB (bY (bB iM (aF cO (pv 4) aA) aA (aU _)) (aD (aW (i:=3) fQ.nd rfl (Or.inl rfl) (aF (jF K) (aF (jF K) (cB K rfl (pv 3) cZ (cH (pv 5))) (cB K rfl (pv 3) (cH (pv 5)) (cH (aF dj (pv 5) aA)))) (cB K rfl (pv 3) (cH (pv 5)) cZ)))) bw)
     (aD (bY (PW.pt (pw_and (bB iM (aF cO (pv 4) aA) aA (aU _)) (pw_and1 (bB (Wr K rfl hr.units) (pv 3) (bF ao) (aU _))))) (aD (Qz (bN (aj (aH (aP K) (pv 3) aA (fun _ _=>rfl)) (aj (aH (aP K) (pv 3) (pv 5) (fun _ _=>rfl)) ao))) (gn K (n:=2) rfl rfl (bO (Qy (pv 3) (pv 5) set_list) (bO (Qy (pv 3) aA set_list) gk))))) bw)))))))
     (aD (aN (pv 3))))),?_⟩
  refine⟨_,rfl,l,xs,rfl,.inl (aQ.of hl),fun f0 hf0=>?_⟩
  refine⟨_,rfl,s,rfl,⟨_,(aq hf0 _).seq hS⟩,ig (K:=K) (a:=s) (xs:=ns.map V.int) (fun i σ H2=>∃ f ys v4 v5,σ=[some (.ref l),some (.ref s),some v,some (.ref f),v4,v5]∧Same H H2∧H f=none∧H2 f=some (.lst ys)∧ys.length≤xs.length+2*i∧∀ y∈ys,y∈xs∨y=v)
   ⟨f0,xs,_,_,rfl,aq hf0 _,hf0,ak,by omega,fun y hy=>.inl hy⟩ (fun i σ H2 _ ⟨_,_,_,_,_,e,_⟩=>e.seq hS) ?_ ?_⟩
  ·rintro i cv σ H2 hi ⟨f,ys,v4,v5,rfl,s2,hf,hf2,qD,hm⟩
   obtain⟨c,hc,rfl⟩:=int_at hi
   have ak4:i<63:=by have:=(List.getElem?_eq_some_iff.mp hc).1;omega
   have mp:(0:Int)<(if ((ys.length:Nat):Int) > 1 then ((ys.length:Nat):Int) else 1):=by split<;>omega
   refine⟨_,rfl,_,_,rfl,rfl,⟨by decide,oH (by decide +kernel)⟩,_,rfl,f,ys,rfl,.inl (aQ.of hf2),_,_,rfl,_,_,rfl,rfl,mp,?_⟩
   have a0:=Int.emod_nonneg (c / 17) (Int.ne_of_gt mp)
   have a1:=Int.emod_lt_of_pos (c / 17) mp
   dsimp only
   generalize c / 17 % (if ((ys.length:Nat):Int) > 1 then ((ys.length:Nat):Int) else 1)=k at a0 a1 ⊢
   have Ua:ys≠[]→k<(ys.length:Int):=fun h=>by
    have:=List.length_pos_iff.mpr h
    split at a1<;>omega
   clear a1 mp
   let R:Nat→L2.St→Hp→Prop:=fun n σ' H'=>∃ f ys,σ'=[some (.ref l),some (.ref s),some v,some (.ref f),some (.int c),some (.int k)]∧Same H H'∧H f=none∧H' f=some (.lst ys)∧ys.length≤xs.length+2*i+n∧(∀ y∈ys,y∈xs∨y=v)∧(c % 17=3→ys≠[]→k<(ys.length:Int))
   have nw:∀ {n:Nat} {H':Hp} {g:Addr} {zs:List V},Same H H'→H' g=none→zs.length≤xs.length+2*i+n→(∀ y∈zs,y∈xs∨y=v)→c % 17≠3→R n [some (.ref l),some (.ref s),some v,some (.ref g),some (.int c),some (.int k)] (upd H' g (.lst zs)):=fun e hg hz hm n3 =>
    ⟨_,_,rfl,e.trans (aq hg _),e.free hg,ak,hz,hm,fun e=>absurd e n3⟩
   refine Hj (R 0) (fun D' hD'=>?_) ?_
   ·refine⟨_,rfl,_,_,rfl,rfl,(by show (0:Int)<17;decide),rfl,_,rfl,?_⟩
    by_cases c0:c % 17=0
    case neg =>
     exact dX (decide_eq_false fun e=>c0 (V.int.inj e)) (hD' _ _ ⟨f,ys,rfl,s2,hf,hf2,by omega,hm,fun _=>Ua⟩)
    refine dO (decide_eq_true (congrArg V.int c0)) ?_
    refine⟨_,rfl,_,rfl,_,rfl,f,ys,rfl,aQ.of hf2,fun g1 hg1=>?_⟩
    rw[lE _ a0]
    have e1:=aq hg1 (.lst (ys.take k.toNat))
    refine⟨_,rfl,_,rfl,_,_,rfl,rfl,_,rfl,f,ys,rfl,aQ.of (e1 _ _ hf2),fun g2 hg2=>?_⟩
    rw[oY _ (by omega)]
    have e2:=aq hg2 (.lst (ys.drop (k+1).toNat))
    refine⟨g1,g2,_,_,rfl,rfl,aQ.of (e2 _ _ ak),aQ.of ak,cg (by rw[List.length_take,List.length_drop];omega),fun g3 KN=>?_⟩
    refine hD' _ _ (nw ((s2.trans e1).trans e2) KN (by rw[List.length_append,List.length_take,List.length_drop];omega) (fun y hy=>?_) (by omega))
    rcases List.mem_append.mp hy with hy|hy
    ·exact hm y (List.mem_of_mem_take hy)
    ·exact hm y (List.mem_of_mem_drop hy)
   clear hf hf2 qD hm Ua s2
   rintro _ H3 ⟨f,ys,rfl,s3,hf,hf2,qD,hm,Ua⟩
   refine Hj (R 1) (fun D' hD'=>?_) ?_
   ·refine⟨_,rfl,_,_,rfl,rfl,(by show (0:Int)<17;decide),rfl,_,rfl,?_⟩
    by_cases c0:c % 17=1
    case neg =>
     exact dX (decide_eq_false fun e=>c0 (V.int.inj e)) (hD' _ _ ⟨f,ys,rfl,s3,hf,hf2,by omega,hm,Ua⟩)
    refine dO (decide_eq_true (congrArg V.int c0)) ?_
    refine⟨_,rfl,_,rfl,_,rfl,f,ys,rfl,aQ.of hf2,fun g1 hg1=>?_⟩
    rw[lE _ a0]
    have e1:=aq hg1 (.lst (ys.take k.toNat))
    refine⟨_,rfl,one_le,fun g2 hg2=>?_⟩
    have e2:=aq hg2 (.lst [v])
    refine⟨g1,g2,_,_,rfl,rfl,aQ.of (e2 _ _ ak),aQ.of ak,cg (by rw[List.length_take];show _+1≤1000;omega),fun g3 KN=>?_⟩
    have e3:=aq KN (.lst (ys.take k.toNat++[v]))
    refine⟨_,rfl,_,rfl,_,rfl,f,ys,rfl,aQ.of (e3 _ _ (e2 _ _ (e1 _ _ hf2))),fun g4 Ub=>?_⟩
    rw[oY _ a0]
    have e4:=aq Ub (.lst (ys.drop k.toNat))
    refine⟨g3,g4,_,_,rfl,rfl,aQ.of (e4 _ _ ak),aQ.of ak,cg (by rw[List.length_append,List.length_take,List.length_drop];show _+1+_≤1000;omega),fun g5 Qp=>?_⟩
    refine hD' _ _ (nw ((((s3.trans e1).trans e2).trans e3).trans e4) Qp (by rw[List.length_append,List.length_append,List.length_take,List.length_drop];show _+1+_≤_;omega) (fun y hy=>?_) (by omega))
    rcases List.mem_append.mp hy with hy|hy
    ·rcases List.mem_append.mp hy with hy|hy
     ·exact hm y (List.mem_of_mem_take hy)
     ·exact .inr (List.mem_singleton.mp hy)
    ·exact hm y (List.mem_of_mem_drop hy)
   clear hf hf2 qD hm Ua s3
   rintro _ H3 ⟨f,ys,rfl,s3,hf,hf2,qD,hm,Ua⟩
   refine Hj (R 2) (fun D' hD'=>?_) ?_
   ·refine⟨_,rfl,_,_,rfl,rfl,(by show (0:Int)<17;decide),rfl,_,rfl,?_⟩
    by_cases c0:c % 17=2
    case neg =>
     exact dX (decide_eq_false fun e=>c0 (V.int.inj e)) (hD' _ _ ⟨f,ys,rfl,s3,hf,hf2,by omega,hm,Ua⟩)
    refine dO (decide_eq_true (congrArg V.int c0)) ?_
    refine⟨_,rfl,_,rfl,_,rfl,f,ys,rfl,aQ.of hf2,fun g1 hg1=>?_⟩
    rw[lE _ a0]
    have e1:=aq hg1 (.lst (ys.take k.toNat))
    refine⟨_,rfl,_,rfl,_,rfl,_,rfl,_,_,rfl,rfl,_,rfl,f,ys,rfl,aQ.of (e1 _ _ hf2),fun g2 hg2=>?_⟩
    have l1:=VD ys a0
    have m1:∀ y∈fV ys (some k) (some (k+1)),y∈ys:=fun y hy=>jh hy
    generalize fV ys (some k) (some (k+1))=ws at l1 m1 hg2 ⊢
    have e2:=aq hg2 (.lst ws)
    refine⟨g1,g2,_,_,rfl,rfl,aQ.of (e2 _ _ ak),aQ.of ak,cg (by rw[List.length_take];omega),fun g3 KN=>?_⟩
    have e3:=aq KN (.lst (ys.take k.toNat++ws))
    refine⟨_,rfl,_,rfl,_,rfl,f,ys,rfl,aQ.of (e3 _ _ (e2 _ _ (e1 _ _ hf2))),fun g4 Ub=>?_⟩
    rw[oY _ a0]
    have e4:=aq Ub (.lst (ys.drop k.toNat))
    refine⟨g3,g4,_,_,rfl,rfl,aQ.of (e4 _ _ ak),aQ.of ak,cg (by rw[List.length_append,List.length_take,List.length_drop];omega),fun g5 Qp=>?_⟩
    refine hD' _ _ (nw ((((s3.trans e1).trans e2).trans e3).trans e4) Qp (by rw[List.length_append,List.length_append,List.length_take,List.length_drop];omega) (fun y hy=>?_) (by omega))
    rcases List.mem_append.mp hy with hy|hy
    ·rcases List.mem_append.mp hy with hy|hy
     ·exact hm y (List.mem_of_mem_take hy)
     ·exact hm y (m1 y hy)
    ·exact hm y (List.mem_of_mem_drop hy)
   clear hf hf2 qD hm Ua s3 nw
   rintro _ H3 ⟨f,ys,rfl,s3,hf,hf2,qD,hm,Ua⟩
   refine⟨_,rfl,_,_,rfl,rfl,(by show (0:Int)<17;decide),rfl,_,rfl,?_⟩
   by_cases c0:c % 17=3
   case neg =>
    refine dX (decide_eq_false fun e=>c0 (V.int.inj e)) (dz ?_)
    exact⟨f,ys,_,_,rfl,s3,hf,hf2,by omega,hm⟩
   refine dO (decide_eq_true (congrArg V.int c0)) ?_
   have sy:∀ y∈ys,T9 H3 y:=fun y hy=>by
    rcases hm y hy with h|rfl
    ·exact (sx y h).same s3
    ·exact sv.same s3
   refine⟨_,rfl,Nat.zero_le _,fun e he=>?_⟩
   have e1:=aq he (.lst [])
   obtain⟨ds,dr,sh,dl⟩:=zN (K:=K) (H:=upd H3 e (.lst [])) fun y hy=>(sy y hy).same e1
   refine⟨_,_,dr f (e1 _ _ hf2),.lst (aQ.of ak) .nil,sh,Mf,_,rfl,?_⟩
   rw[VF,dl]
   by_cases c2:ys=[]
   ·refine dX (by rw[c2];rfl) ?_
    exact⟨f,ys,_,_,rfl,s3.trans e1,hf,e1 _ _ hf2,by omega,hm⟩
   have hp:0<ys.length:=List.length_pos_iff.mpr c2
   refine dO (by rw[decide_eq_false (show ¬ ys.length=0 by omega)];rfl) ?_
   have kl:=Ua c0 c2
   have hf3:=e1 _ _ hf2
   have s4:=s3.trans e1
   generalize upd H3 e (.lst [])=H4 at hf3 s4 ⊢
   obtain⟨y0,hy0⟩:∃ y,ys[0]?=some y:=⟨_,List.getElem?_eq_getElem hp⟩
   obtain⟨yk,hyk⟩:∃ y,ys[k.toNat]?=some y:=⟨_,List.getElem?_eq_getElem (show k.toNat<ys.length by omega)⟩
   refine⟨_,rfl,f,ys,0,_,rfl,rfl,aQ.of hf3,cG (by decide) hy0,_,rfl,_,rfl,f,ys,k,_,rfl,rfl,aQ.of hf3,cG a0 hyk,cI,fun t ht=>?_⟩
   have e5:=aq ht (.tup [y0,yk])
   have hf5:=e5 _ _ hf3
   have g5:(upd H4 t (.tup [y0,yk])) t=some (.tup [y0,yk]):=ak
   have s5:=s4.trans e5
   generalize upd H4 t (.tup [y0,yk])=H5 at e5 hf5 g5 s5 ⊢
   refine⟨t,_,rfl,cT.of g5,rfl,_,_,rfl,_,rfl,_,rfl,f,ys,k,k.toNat,rfl,rfl,hf5,(by unfold QW;rw[if_pos a0,if_pos kl]),_,_,rfl,_,rfl,f,ys.set k.toNat y0,0,0,rfl,rfl,ak,(by unfold QW;rw[if_pos (by decide),if_pos (by rw[List.length_set];omega)];rfl),rfl,?_⟩
   rw[eO]
   refine⟨f,_,_,_,rfl,fun a o e=>by rw[aJ (aM e hf)];exact s5 _ _ e,hf,ak,by rw[List.length_set,List.length_set];omega,fun y hy=>?_⟩
   rcases List.mem_or_eq_of_mem_set hy with hy|rfl
   ·rcases List.mem_or_eq_of_mem_set hy with hy|rfl
    ·exact hm y hy
    ·exact hm _ (List.mem_of_getElem? hy0)
   ·exact hm _ (List.mem_of_getElem? hyk)
  ·rintro σ H2 ⟨f,ys,v4,v5,rfl,s2,hf,hf2,qD,hm⟩
   rw[List.length_map] at qD
   exact⟨_,rfl,q f ys H2 s2 hf2 (by omega) hm⟩
end
theorem ji (ns:List Int):SeqAt.shaped (.tuple (ns.map PyData.int))=true:=by
 unfold SeqAt.shaped
 rw[Bool.and_eq_true]
 exact⟨by rw[PyData.canLay0];exact mZ ns,decide_eq_true (by rw[PyData.depth,pZ];decide)⟩
theorem J8 (ns:List Int):PyData.eqv (.tuple (ns.map PyData.int)) (.tuple (ns.map PyData.int))=true:=SeqAt.eqv_refl _ (SeqAt.canLay_of_shaped (ji ns))
section
variable{P:Program}{w:World}{K:PySem.W.Frag}{mg:Str→Option Value}{base:Heap}{z:Cz}
inductive WX (vs:List V)(H:Hp)(Q:VK):Prop
 | mk (b r t:Addr) (k x y k1 k2 w1 w2:Int) (ps:List (Int×Int)) (c0:vs=[.ref b,.int k,.ref r,.ref t]) (c1:bH H b ps) (c2:ps.length≤1000) (c3:(∀ p∈ps,mO p)) (c4:0≤k) (c5:k<(ps.length:Int)) (c6:H r=some (.tup [.int x,.int y])) (c7:tO x y) (c8:H t=some (.tup [.int k1,.int k2,.int w1,.int w2])) (c9:jm w1) (Qo:jm w2) (c11:jm (w1+w2)) (c12:∀ H',Same H H'→Q (.bl true) H'):WX  vs H Q
def WY:Sp:=fun vs H Q _=>WX  vs H Q
theorem nG:aY ["_law_book_here", "_law_place", "_law_amount_here", "_law_row", "_law_answer"] ["_law_book_here", "_law_place", "_law_amount_here", "_law_row"] (aC jr):=⟨rfl,rfl,rfl,by decide +kernel,rfl,by decide +kernel,by decide +kernel⟩
theorem wF {f:Addr}{fd:FuncData}(F:gY K "_law_one_right" "_law_one_right" jr f fd)(B:Bl mg)(T:CT K mg z)
  (HS:Cl P w K mg base 2 "_law_alone" ["_law_book_here", "_law_place", "_law_amount_here"] J1)
  (za:Cl P w K mg base 2 "_law_needless" ["_law_book_here", "_law_place", "_law_row"] Nv)
  (cQ:Cl P w K mg base 1 "_law_says" ["_law_said", "_law_due"] xO)
  (fD:Dm P w K mg base 1 z.Needless ["self", "one", "other", "first", "second"] (mD z))
  (zO:Dm P w K mg base 1 z.Alone ["self", "amount"] (jJ z))
  (cC:Fz P w K mg base 5 z.Needless "shows" ["self", "book", "place"] (m9 z))
  (jD:Fz P w K mg base 4 z.Alone "shows" ["self", "book", "place"] (kI z)):cA P w K mg base gB 6 f fd ["_law_book_here", "_law_place", "_law_amount_here", "_law_row"] WY:=by
 refine F.ok nG (fun vs H Q E h=>?_) (fun cdv A outer s H vs Q E hr h=>?_)
 ·obtain⟨b,r,t,k,x,y,k1,k2,w1,w2,ps,rfl,_⟩:=h
  rfl
 ·obtain⟨b,r,t,k,x,y,k1,k2,w1,w2,ps,rfl,hB,qD,hok,k0,kl,hr',am,ht,f1,f2,f3,q⟩:=h
  refine⟨_,(aB (bY (dh (cR (cQ.pe hr (aj (jD.pe hr T.o7 (zO.pe hr T.Bd (aj (pv 2) ao)) (aj (pv 0) (aj (pv 1) ao))) (aj (HS.pe hr (aj (pv 0) (aj (pv 1) (aj (pv 2) ao)))) ao))))) (aD (aN cM)) bw)
     (aB (aW (i:=4) nG.nd rfl (Or.inl rfl) (fD.pe hr T.eX (aj (aH (aG K) (pv 3) aA (fun _ _=>rfl)) (aj (aH (aG K) (pv 3) aA (fun _ _=>rfl)) (aj (aH (aG K) (pv 3) aA (fun _ _=>rfl)) (aj (aH (aG K) (pv 3) aA (fun _ _=>rfl)) ao))))))
     (aB (bY (bB (Wr K rfl hr.units) (bN (aj (bK K rfl (pv 4) rfl) (aj (bK K rfl (pv 4) rfl) (aj (bK K rfl (pv 4) rfl) (aj (bK K rfl (pv 4) rfl) ao))))) (pv 3) (aU _)) (aD (aN cM)) bw)
     (aD (aN (cQ.pe hr (aj (cC.pe hr T.bG (pv 4) (aj (pv 0) (aj (pv 1) ao))) (aj (za.pe hr (aj (pv 0) (aj (pv 1) (aj (pv 3) ao)))) ao)))))))),?_⟩
  refine⟨_,rfl,fun a dx ha hdx ndx=>⟨a,dx,r,rfl,ak,rfl,?_⟩⟩
  rw[eO]
  have s1:=cX ha hdx (.ins z.Alone dx (qb r))
  have e1:(upd (upd H dx (.own a)) a (.ins z.Alone dx (qb r))) a=some (.ins z.Alone dx (qb r)):=ak
  generalize upd (upd H dx (.own a)) a (.ins z.Alone dx (qb r))=H1 at s1 e1 ⊢
  refine⟨a,dx,_,rfl,e1,Gh _,_,rfl,_,rfl,a,b,k,x,y,ps,rfl,⟨dx,r,e1,s1 _ _ hr'⟩,am,hB.same s1,qD,hok,k0,kl,fun v1 H2 i1 s2=>?_⟩
  have s12:=s1.trans s2
  refine⟨_,rfl,_,rfl,_,rfl,b,r,k,x,y,ps,rfl,hB.same s12,qD,hok,k0,kl,s12 _ _ hr',am,fun v2 H3 i2 s3=>⟨v1,v2,rfl,i1.trans i2.symm,_,rfl,dz ?_⟩⟩
  have Mh:=s12.trans s3
  clear s1 s2 s12 s3 e1 i1 i2 ha hdx
  have FT:=Mh _ _ ht
  refine⟨_,rfl,t,_,0,_,rfl,rfl,cT.of FT,rfl,_,rfl,t,_,1,_,rfl,rfl,cT.of FT,rfl,_,rfl,t,_,2,_,rfl,rfl,cT.of FT,rfl,_,rfl,t,_,3,_,rfl,rfl,cT.of FT,rfl,fun a dx ha hdx ndx=>⟨a,dx,k1,k2,w1,w2,rfl,ak,rfl,?_⟩⟩
  rw[eO]
  have s4:=cX ha hdx (.ins z.Needless dx (qG k1 k2 w1 w2))
  have e4:(upd (upd H3 dx (.own a)) a (.ins z.Needless dx (qG k1 k2 w1 w2))) a=some (.ins z.Needless dx (qG k1 k2 w1 w2)):=ak
  generalize upd (upd H3 dx (.own a)) a (.ins z.Needless dx (qG k1 k2 w1 w2))=H4 at s4 e4 ⊢
  refine⟨_,rfl,a,_,dx,_,_,rfl,e4,T.bG,T.eG,xr _ _ _ _,_,rfl,a,_,dx,_,_,rfl,e4,T.bG,T.dH,rQ _ _ _ _,_,rfl,a,_,dx,_,_,rfl,e4,T.bG,T.eY,yx _ _ _ _,_,rfl,a,_,dx,_,_,rfl,e4,T.bG,T.dY,wg _ _ _ _,kE,fun u hu=>?_⟩
  have s5:=aq hu (.tup [.int k1,.int k2,.int w1,.int w2])
  have e5:(upd H4 u (.tup [.int k1,.int k2,.int w1,.int w2])) u=some (.tup ([k1,k2,w1,w2].map V.int)):=ak
  have Qq:=Mh.trans (s4.trans s5)
  have e4':=s5 _ _ e4
  generalize upd H4 u (.tup [.int k1,.int k2,.int w1,.int w2])=H5 at Qq e4' e5 ⊢
  have Yo:H5 t=some (.tup ([k1,k2,w1,w2].map V.int)):=Qq _ _ ht
  refine⟨_,rfl,_,_,.tup (cT.of e5) (mC _),.tup (cT.of Yo) (mC _),ji _,ji _,_,rfl,?_⟩
  rw[show PyData.eqv (.tuple ([k1,k2,w1,w2].map PyData.int)) (.tuple ([k1,k2,w1,w2].map PyData.int))=true from J8 _]
  refine dz ?_
  refine⟨_,rfl,a,dx,_,rfl,e4',JZ _ _ _ _,_,rfl,_,rfl,a,b,k,k1,k2,w1,w2,ps,rfl,⟨dx,e4'⟩,⟨f1,f2,f3⟩,hB.same Qq,hok,k0,kl,fun v1 H6 i1 s6=>?_⟩
  have Yp:=Qq.trans s6
  exact⟨_,rfl,_,rfl,_,rfl,b,t,k,k1,k2,w1,w2,ps,rfl,hB.same Yp,hok,k0,kl,Yp _ _ ht,f1,f2,f3,fun v2 H7 i2 s7=>⟨v1,v2,rfl,i1.trans i2.symm,q _ (Yp.trans s7)⟩⟩
inductive NT (vs:List V)(H:Hp)(Q:VK):Prop
 | mk (b r:Addr) (m k x y:Int) (ps:List (Int×Int)) (c0:vs=[.ref b,.int m,.int k,.ref r]) (c1:bH H b ps) (c2:ps≠[]) (c3:ps.length≤1000) (c4:(∀ p∈ps,mO p)) (c5:jm m) (c6:H r=some (.tup [.int x,.int y])) (c7:tO x y) (c8:∀ H',Same H H'→Q (.bl true) H'):NT  vs H Q
def NZ:Sp:=fun vs H Q _=>NT  vs H Q
theorem tU:aY ["_law_book_here", "_law_money", "_law_place", "_law_amount_here"] ["_law_book_here", "_law_money", "_law_place", "_law_amount_here"] (aC iJ):=⟨rfl,rfl,rfl,by decide +kernel,rfl,by decide +kernel,by decide +kernel⟩
theorem tV {f:Addr}{fd:FuncData}(F:gY K "_law_money_right" "_law_money_right" iJ f fd)(B:Bl mg)(T:CT K mg z)
  (J9:Cl P w K mg base 2 "_law_most" ["_law_book_here", "_law_money", "_law_place", "_law_amount_here"] NQ)
  (Cu:Cl P w K mg base 1 "_law_endless" ["_law_book_here", "_law_money", "_law_place"] Cq)
  (cQ:Cl P w K mg base 1 "_law_says" ["_law_said", "_law_due"] xO)
  (xP:Dm P w K mg base 1 z.Most ["self", "place", "amount"] (mH z))
  (kZ:Dm P w K mg base 1 z.Endless ["self", "place"] (iy z))
  (kO:Fz P w K mg base 1 z.Dear "shows" ["self", "book", "money"] (nD z))
  (gU:Fz P w K mg base 4 z.Most "shows" ["self", "book", "money"] (nC z))
  (eH:Fz P w K mg base 3 z.Endless "shows" ["self", "book", "money"] (jg z)):cA P w K mg base gB 5 f fd ["_law_book_here", "_law_money", "_law_place", "_law_amount_here"] NZ:=by
 refine F.ok tU (fun vs H Q E h=>?_) (fun cdv A outer s H vs Q E hr h=>?_)
 ·obtain⟨b,r,m,k,x,y,ps,rfl,_⟩:=h
  rfl
 ·obtain⟨b,r,m,k,x,y,ps,rfl,hB,hne,qD,hok,fm,hr',am,q⟩:=h
  refine⟨_,(aB (bY (dh (cR (cQ.pe hr (aj (gU.pe hr T.iB (xP.pe hr T.vR (aj (pv 2) (aj (pv 3) ao))) (aj (pv 0) (aj (pv 1) ao))) (aj (J9.pe hr (aj (pv 0) (aj (pv 1) (aj (pv 2) (aj (pv 3) ao))))) ao))))) (aD (aN cM)) bw)
     (aB (bY (dh (cR (cQ.pe hr (aj (eH.pe hr T.gG (kZ.pe hr T.lW (aj (pv 2) ao)) (aj (pv 0) (aj (pv 1) ao))) (aj (Cu.pe hr (aj (pv 0) (aj (pv 1) (aj (pv 2) ao)))) ao))))) (aD (aN cM)) bw)
     (aD (aN (cQ.pe hr (aj (kO.pe hr T.G5 (Ai T.G6 hr rfl T.G4) (aj (pv 0) (aj (pv 1) ao))) (aj (aK (tM K rfl rfl) rfl B.all boot_all (aj (cF (N':=["_law_tariff", "_law_money"]) (k:=1) (js:=[1]) ⟨rfl,by decide +kernel,by decide +kernel,by rfl,by rfl,rfl⟩ rfl (bM K rfl (pv 0))
       (fun _ _ _ _ _=>(aZ (i:=0) (show (["_law_tariff", "_law_money"]:List Str).Nodup by decide +kernel) rfl (Or.inl rfl))) (bI (by decide)) (fun _ _ _ _ _=>cD)
       (fun _ _ _ _ _=>(bW iQ (aH (aG K) (pv 0) aA (fun _ _=>rfl)) (pv 1) (aU _)))) ao)) ao))))))),?_⟩
  refine⟨_,rfl,_,rfl,fun a dx ha hdx ndx=>⟨a,dx,k,r,rfl,ak,rfl,?_⟩⟩
  rw[eO]
  have s1:=cX ha hdx (.ins z.Most dx (pq k r))
  have e1:(upd (upd H dx (.own a)) a (.ins z.Most dx (pq k r))) a=some (.ins z.Most dx (pq k r)):=ak
  generalize upd (upd H dx (.own a)) a (.ins z.Most dx (pq k r))=H1 at s1 e1 ⊢
  refine⟨a,dx,_,rfl,e1,J6 _ _,_,rfl,_,rfl,a,b,m,ps,k,x,y,rfl,⟨dx,r,e1,s1 _ _ hr'⟩,am,hB.same s1,hne,qD,hok,fm,fun H2 s2=>?_⟩
  have s12:=s1.trans s2
  refine⟨_,rfl,_,rfl,_,rfl,_,rfl,b,m,k,r,ps,x,y,rfl,hB.same s12,qD,hok,s12 _ _ hr',am,fm,fun H3 s3=>⟨_,_,rfl,Iff.rfl,_,rfl,dz ?_⟩⟩
  have Mh:=s12.trans s3
  clear s1 s2 s12 s3 e1 ha hdx
  refine⟨_,rfl,fun a dx ha hdx ndx=>⟨a,dx,k,rfl,ak,rfl,?_⟩⟩
  rw[eO]
  have s4:=cX ha hdx (.ins z.Endless dx (gQ k))
  have e4:(upd (upd H3 dx (.own a)) a (.ins z.Endless dx (gQ k))) a=some (.ins z.Endless dx (gQ k)):=ak
  generalize upd (upd H3 dx (.own a)) a (.ins z.Endless dx (gQ k))=H4 at s4 e4 ⊢
  refine⟨a,dx,_,rfl,e4,yH _,_,rfl,_,rfl,a,b,m,ps,k,rfl,⟨dx,e4⟩,hB.same (Mh.trans s4),fun H5 s5=>?_⟩
  have Qq:=(Mh.trans s4).trans s5
  refine⟨_,rfl,_,rfl,_,rfl,b,m,k,ps,rfl,hB.same Qq,_,_,rfl,Iff.rfl,_,rfl,dz ?_⟩
  clear s4 e4 s5 Mh ha hdx
  intro a dx ha hdx ndx
  have s6:=cX ha hdx (.ins z.Dear dx [])
  have e6:(upd (upd H5 dx (.own a)) a (.ins z.Dear dx [])) a=some (.ins z.Dear dx []):=ak
  generalize upd (upd H5 dx (.own a)) a (.ins z.Dear dx [])=H6 at s6 e6 ⊢
  refine⟨a,dx,_,rfl,e6,rfl,_,rfl,_,rfl,a,b,m,ps,rfl,hB.same (Qq.trans s6),qD,fun H7 s7=>?_⟩
  have Za:=(Qq.trans s6).trans s7
  obtain⟨vs,hv,ht⟩:=hB.same Za
  have yq:=ht.len
  refine⟨_,rfl,b,rfl,⟨_,aQ.of hv⟩,bV (K:=K) (a:=b) (xs:=vs) (fun i ys H8=>H7=H8∧∃ bs:List Bool,ys=bs.map V.bl∧bs.length≤i∧bs.all id=(ps.take i).all fun p=>decide (m<p.1)) ⟨rfl,[],rfl,Nat.le_refl _,rfl⟩
   (fun i ys H8 hi ⟨e,bs,ez,eb,_⟩=>⟨by rw[←e];exact aQ.of hv,?_⟩) ?_ ?_⟩
  ·rw[ez,List.length_map]
   exact bQ (by lia)
  ·rintro i v ys H8 hi ⟨rfl,bs,rfl,Qd,hb⟩
   obtain⟨t,ht',r1,rfl,hr1⟩:=bh ht hi
   refine dg ?_
   refine⟨_,rfl,r1,_,0,_,rfl,rfl,cT.of hr1,rfl,_,rfl,_,_,rfl,rfl,rfl,bs++[decide (m<t.1)],by rw[List.map_append];rfl,by rw[List.length_append];show bs.length+1≤i+1;lia,?_⟩
   rw[rY ht',←hb,List.all_append]
   simp
  ·rintro ys H8 ⟨rfl,bs,rfl,Qd,hb⟩ D hD
   rw[yq,List.take_of_length_le (Nat.le_refl _)] at hb
   refine⟨D,bs,rfl,aQ.of ak,_,_,rfl,?_,q _ (Za.trans (aq hD _))⟩
   rw[hb]
   rfl
end
def Am (H:Hp)(v:V):Prop:=∃ r x y,v=.ref r∧H r=some (.tup [.int x,.int y])∧tO x y
theorem Am.same {H H':Hp}{v:V}(h:Am H v)(s:Same H H'):Am H' v:=let ⟨r,x,y,h1,h2,h3⟩:=h;⟨r,x,y,h1,s _ _ h2,h3⟩
theorem Am.sim {H:Hp}{v:V}(h:Am H v):T9 H v:=let ⟨r,x,y,h1,h2,_⟩:=h;.inr ⟨r,[x,y],h1,h2⟩
theorem Ka {H:Hp}:∀ us:List V,(∀ v∈us,Am H v)→∃ bs,cu H us bs∧∀ p∈bs,tO p.1 p.2
 | [],_=>⟨[],.nil,fun p h=>by cases h⟩
 | u::us,h=>by
  obtain⟨bs,h1,h2⟩:=Ka us fun v hv=>h v (List.mem_cons_of_mem _ hv)
  obtain⟨r,x,y,rfl,hr,am⟩:=h u (List.mem_cons_self ..)
  refine⟨(x,y)::bs,.cons ⟨r,rfl,hr⟩ h1,fun p hp=>?_⟩
  rcases List.mem_cons.mp hp with rfl|hp
  ·exact am
  ·exact h2 p hp
theorem Te {H:Hp}{us:List V}{bs:List (Int×Int)}(h:cu H us bs)(k:∀ p∈bs,tO p.1 p.2):∀ v∈us,Am H v:=fun v hv=>by
 obtain⟨i,hi⟩:=List.getElem?_of_mem hv
 obtain⟨p,hp,r,rfl,hr⟩:=bh h hi
 exact⟨r,_,_,rfl,hr,k p (List.mem_of_getElem? hp)⟩
theorem Kc:∀ xs:List V,(∀ v∈xs,∃ k,v=V.int k)→∃ ks:List Int,xs=ks.map V.int
 | [],_=>⟨[],rfl⟩
 | x::xs,h=>by
  obtain⟨ks,rfl⟩:=Kc xs fun v hv=>h v (List.mem_cons_of_mem _ hv)
  obtain⟨k,rfl⟩:=h x (List.mem_cons_self ..)
  exact⟨k::ks,rfl⟩
def KQ (H:Hp)(l:Addr):Prop:=∃ us,H l=some (.lst us)∧us.length≤700∧∀ v∈us,Am H v
def Ea (H:Hp)(l:Addr):Prop:=∃ us,H l=some (.lst us)∧us.length≤700∧∀ v∈us,∃ k,v=V.int k
def HW (H:Hp)(v:V):Prop:=∃ t l m,v=.ref t∧H t=some (.tup [.ref l,.ref m])∧KQ H l∧Ea H m
theorem KQ.same {H H':Hp}{l:Addr}(h:KQ H l)(s:Same H H'):KQ H' l:=let ⟨us,h1,h2,h3⟩:=h;⟨us,s _ _ h1,h2,fun v hv=>(h3 v hv).same s⟩
theorem Ea.same {H H':Hp}{l:Addr}(h:Ea H l)(s:Same H H'):Ea H' l:=let ⟨us,h1,h2,h3⟩:=h;⟨us,s _ _ h1,h2,h3⟩
theorem HW.same {H H':Hp}{v:V}(h:HW H v)(s:Same H H'):HW H' v:=let ⟨t,l,m,h1,h2,h3,h4⟩:=h;⟨t,l,m,h1,s _ _ h2,h3.same s,h4.same s⟩
def AllP (H:Hp)(vs:List V):Prop:=∀ v∈vs,HW H v
theorem AllP.same {H H':Hp}{vs:List V}(h:AllP H vs)(s:Same H H'):AllP H' vs:=fun v hv=>(h v hv).same s
theorem AllP.nil (H:Hp):AllP H []:=fun v h=>by cases h
theorem AllP.put {H:Hp}{vs:List V}{t l m:Addr}(h:AllP H vs)(n:H t=none)(a:KQ H l)(b:Ea H m):AllP (upd H t (.tup [.ref l,.ref m])) (vs++[.ref t]):=fun v hv=>by
 have s:=aq n (.tup [.ref l,.ref m])
 rcases List.mem_append.mp hv with hv|hv
 ·exact (h v hv).same s
 ·rw[List.mem_singleton.mp hv]
  exact⟨t,l,m,rfl,ak,a.same s,b.same s⟩
theorem KQ.put {H:Hp}{l:Addr}{us:List V}(n:H l=none)(h:us.length≤700)(k:∀ v∈us,Am H v):KQ (upd H l (.lst us)) l:=⟨us,ak,h,fun v hv=>(k v hv).same (aq n _)⟩
theorem Ea.put {H:Hp}{l:Addr}{us:List V}(h:us.length≤700)(k:∀ v∈us,∃ k,v=V.int k):Ea (upd H l (.lst us)) l:=⟨us,ak,h,k⟩
theorem oO {α:Type}{x y:List α}{P:α→Prop}(h:∀ v∈x,P v)(k:∀ v∈y,P v):∀ v∈x++y,P v:=fun v hv=>by
 rcases List.mem_append.mp hv with hv|hv
 ·exact h v hv
 ·exact k v hv
section
variable{P:Program}{w:World}{K:PySem.W.Frag}{mg:Str→Option Value}{base:Heap}{z:Cz}
inductive ae0 (K:PySem.W.Frag)(vs:List V)(H:Hp)(Q:VK):Prop
 | mk (b s r:Addr) (x y:Int) (ns:List Int) (ps:List (Int×Int)) (c0:vs=[.ref b,.ref s,.ref r]) (c1:bH H b ps) (c2:ps≠[]) (c3:ps.length≤100) (c4:(∀ p∈ps,mO p)) (c5:aQ K H s (ns.map V.int)) (c6:ns.length≤63) (c7:H r=some (.tup [.int x,.int y])) (c8:tO x y) (c9:Tab H) (Qo:∀ H',fM H H'→Q (.bl true) H'):ae0 K vs H Q
def ae1 (K:PySem.W.Frag):Sp:=fun vs H Q _=>ae0 K vs H Q
theorem bJ:aY ["_law_book_here", "_law_script", "_law_amount_here", "_law_told", "_law_begins", "_law_places", "_law_some", "_law_starts", "_law_ones", "_law_handed", "_law_answer"] ["_law_book_here", "_law_script", "_law_amount_here"] (aC gZ):=⟨rfl,rfl,rfl,by decide +kernel,rfl,by decide +kernel,by decide +kernel⟩
theorem rZ {f:Addr}{fd:FuncData}(F:gY K "_law_ranges_right" "_law_ranges_right" gZ f fd)(B:Bl mg)(T:CT K mg z)
  (Tf:Cl P w K mg base 4 "ranges" ["book"] (JW z))
  (Eb:Cl P w K mg base 2 "_law_ranges" ["_law_book_here", "_law_begins", "_law_places"] Gf)
  (cQ:Cl P w K mg base 1 "_law_says" ["_law_said", "_law_due"] xO)
  (nH:Cl P w K mg base 1 "_law_bent" ["_law_some", "_law_script", "_law_more"] (Mg K))
  (jd:Dm P w K mg base 1 z.Ranges ["self", "begins", "places"] (gR z))
  (d7:Fz P w K mg base 5 z.Ranges "shows" ["self", "book"] (jC z)):cA P w K mg base gB 6 f fd ["_law_book_here", "_law_script", "_law_amount_here"] (ae1 K):=by
 refine F.ok bJ (fun vs H Q E h=>?_) (fun cdv A outer s H vs Q E hr h=>?_)
 ·obtain⟨b,s,r,x,y,ns,ps,rfl,_⟩:=h
  rfl
 ·obtain⟨b,s,r,x,y,ns,ps,rfl,hB,hne,qD,hok,hS,hns,hr',am,hT,q⟩:=h
  refine⟨_,(aB (aW (i:=3) bJ.nd rfl (Or.inl rfl) (Tf.pe hr (aj (pv 0) ao)))
     (aB (z6 (i:=4) (j:=5) rfl bJ.nd rfl rfl (by decide) rfl rfl (aj (bK K rfl (pv 3) rfl) (aj (bK K rfl (pv 3) rfl) ao)) (by rfl))
     (aB (aW (i:=6) bJ.nd rfl (Or.inl rfl) (bF (aj (bN (aj (pv 4) (aj (pv 5) ao))) (aj (bN (aj (nH.pe hr (aj (pv 4) (aj (pv 1) (aj (pv 2) ao)))) (aj (pv 5) ao))) (aj (bN (aj (cB K rfl (pv 4) (cH aA) cZ) (aj (cB K rfl (pv 5) (cH aA) cZ) ao))) (aj (bN (aj (bF ao) (aj (bF ao) ao))) ao))))))
     (aB (aW (i:=6) bJ.nd rfl (Or.inl rfl) (aF (jF K) (pv 6) (bF (aj (bN (aj (pv 4) (aj (nH.pe hr (aj (pv 5) (aj (pv 1) (aj (aF gb (aF cO (aK (sumK K rfl rfl) rfl B.sum boot_sum (aj (pv 1) ao)) aA) aA) ao)))) ao))) (aj (bN (aj (aF (jF K) (pv 4) (bF (aj (pv 2) ao))) (aj (aF (jF K) (pv 5) (cB K rfl (pv 5) cZ (cH aA))) ao))) ao)))))
     (aB (aW (i:=6) bJ.nd rfl (Or.inl rfl) (aF (jF K) (pv 6) (bF (aj (bN (aj (aF (jF K) (pv 4) (cB K rfl (pv 4) (cH (oX jl aA)) cZ)) (aj (aF (jF K) (pv 5) (cB K rfl (pv 5) (cH (oX jl aA)) cZ)) ao))) (aj (bN (aj (cB K rfl (pv 4) cZ (cH aA)) (aj (cB K rfl (pv 5) (cH (oX jl aA)) cZ) ao))) (aj (bN (aj (cB K rfl (pv 4) cZ (cH (oX jl aA))) (aj (cB K rfl (pv 5) cZ (cH (oX jl aA))) ao))) ao))))))
     (aB (jP PassesOwn.never rfl (bM K rfl (pv 6)) (gn K (n:=2) rfl rfl (bO (aZ (i:=7) bJ.nd rfl (Or.inl rfl)) (bO (aZ (i:=8) bJ.nd rfl (Or.inl rfl)) gk)))
     (aB (aW (i:=9) bJ.nd rfl (Or.inl rfl) (bF (aj (fJ (Aj K) rfl B.list boot_list (aj (pv 7) ao)) (aj (fJ (Aj K) rfl B.list boot_list (aj (pv 8) ao)) ao))))
     (aB (aW (i:=10) bJ.nd rfl (Or.inl rfl) (jd.pe hr T.jt (aj (aH (aP K) (pv 9) aA (fun _ _=>rfl)) (aj (aH (aP K) (pv 9) aA (fun _ _=>rfl)) ao))))
     (aB (iU (Fj PySem.F.plainAttrs_list PySem.F.slot_list_append PySem.F.type_list_append kY (aH (aP K) (pv 9) aA (fun _ _=>rfl)) (aj (bN (aj aA (aj aA ao))) ao)))
     (aB (iU (Fj PySem.F.plainAttrs_list PySem.F.slot_list_append PySem.F.type_list_append kY (aH (aP K) (pv 9) aA (fun _ _=>rfl)) (aj aA ao)))
     (aB (bY (PW.pt (pw_or (bB (Wr K rfl hr.units) (bK K rfl (pv 10) rfl) (pv 7) (aU _)) (pw_or1 (bB (Wr K rfl hr.units) (bK K rfl (pv 10) rfl) (pv 8) (aU _))))) (aD (aN cM)) bw)
     (aD (bY (dh (cR (cQ.pe hr (aj (d7.pe hr T.cJ (pv 10) (aj (pv 0) ao)) (aj (Eb.pe hr (aj (pv 0) (aj (pv 7) (aj (pv 8) ao)))) ao))))) (aD (aN cM)) bw))))))))
     (aD (aN cM)))))))),?_⟩
  refine⟨_,rfl,b,ps,rfl,hB,hne,by lia,hok,hT,fun a bL kL bs ks H1 sT hA S8 hoa Qd _=>?_⟩
  obtain⟨dx,us,f1,f2,f3,f4,_⟩:=hA
  have Bv:=f3.len
  have hlk:=S8.len
  refine⟨_,rfl,a,_,dx,_,_,rfl,f1,T.cJ,T.cV,gK bL kL,_,rfl,a,_,dx,_,_,rfl,f1,T.cJ,T.cL,fO bL kL,_,_,rfl,?_⟩
  have Y6:=hB.qF sT
  have hS1:=sT.seq hS
  have ar:Am H1 (.ref r):=⟨r,x,y,rfl,sT.2 _ _ hr' rfl,am⟩
  have au:=Te f3 hoa
  have lu:us.length≤100:=by lia
  have ik:∀ v∈ks.map V.int,∃ k,v=V.int k:=fun v hv=>let ⟨k,_,e⟩:=List.mem_map.mp hv;⟨k,e.symm⟩
  have lk:(ks.map V.int).length≤100:=by rw[List.length_map];lia
  generalize ks.map V.int=ws at f4 ik lk
  clear hB hS hT hr' f1 f3 hoa Qd S8 Bv hlk
  refine⟨_,rfl,_,rfl,cI,fun t1 ht1=>?_⟩
  have A1:KQ H1 bL:=⟨us,f2,by lia,au⟩
  have I1:Ea H1 kL:=⟨ws,f4,by lia,ik⟩
  have p1:=(AllP.nil H1).put ht1 A1 I1
  have s1:=aq ht1 (.tup [.ref bL,.ref kL])
  generalize upd H1 t1 (.tup [.ref bL,.ref kL])=H2 at p1 s1 ⊢
  refine⟨_,rfl,_,rfl,_,rfl,bL,s,.ref r,us,ns,rfl,s1 _ _ f2,s1.seq hS1,hns,by lia,fun v hv=>((au v hv).same s1).sim,(ar.same s1).sim,fun g2 ys H3 s2 hg2 ly my=>?_⟩
  have s12:=s1.trans s2
  have ay:∀ v∈ys,Am H3 v:=fun v hv=>by
   rcases my v hv with h|rfl
   ·exact (au v h).same s12
   ·exact ar.same s12
  refine⟨_,rfl,cI,fun t2 S5=>?_⟩
  have p2:=(p1.same s2).put S5 ⟨ys,hg2,by lia,ay⟩ (I1.same s12)
  have Mh:=s12.trans (aq S5 (.tup [.ref g2,.ref kL]))
  generalize upd H3 t2 (.tup [.ref g2,.ref kL])=H4 at p2 Mh ⊢
  clear p1 s1 s2 s12 ay my hg2
  refine⟨_,rfl,_,rfl,bL,us,rfl,aQ.of (Mh _ _ f2),fun g3 KN=>?_⟩
  have m3:∀ v∈fV us (some 1) none,v∈us:=fun v hv=>jh hv
  have l3:=dD us (some 1) none
  generalize fV us (some 1) none=c3 at m3 l3 ⊢
  have A3:=KQ.put KN (show c3.length≤700 by lia) fun v hv=>(au v (m3 v hv)).same Mh
  have s14:=Mh.trans (aq KN (.lst c3))
  have p2:=p2.same (aq KN (.lst c3))
  generalize upd H4 g3 (.lst c3)=H5 at A3 s14 p2 ⊢
  refine⟨_,rfl,_,rfl,kL,ws,rfl,aQ.of (s14 _ _ f4),fun g4 Ub=>?_⟩
  have m4:∀ v∈fV ws (some 1) none,v∈ws:=fun v hv=>jh hv
  have l4:=dD ws (some 1) none
  generalize fV ws (some 1) none=c4 at m4 l4 ⊢
  have I4:Ea (upd H5 g4 (.lst c4)) g4:=Ea.put (show c4.length≤700 by lia) fun v hv=>ik v (m4 v hv)
  have Qq:=s14.trans (aq Ub (.lst c4))
  have p2:=p2.same (aq Ub (.lst c4))
  have A3:=A3.same (aq Ub (.lst c4))
  generalize upd H5 g4 (.lst c4)=H6 at A3 I4 Qq p2 ⊢
  refine⟨cI,fun t3 FT=>?_⟩
  have p3:=p2.put FT A3 I4
  have Yp:=Qq.trans (aq FT (.tup [.ref g3,.ref g4]))
  generalize upd H6 t3 (.tup [.ref g3,.ref g4])=H7 at p3 Yp ⊢
  clear p2 A3 I4 Mh s14 Qq m3 m4 l3 l4
  refine⟨Nat.zero_le _,fun g5 Qp=>⟨Nat.zero_le _,fun g6 Zb=>⟨cI,fun t4 ht4=>⟨kE,fun l1 hl1=>?_⟩⟩⟩⟩
  have e5:=aq Qp (.lst [])
  have e6:=aq Zb (.lst [])
  have A5:=(KQ.put Qp (Nat.zero_le _) (fun v h=>by cases h)).same e6
  have I6:Ea (upd (upd H7 g5 (.lst [])) g6 (.lst [])) g6:=Ea.put (Nat.zero_le _) (fun v h=>by cases h)
  have p4:=((p3.same e5).same e6).put ht4 A5 I6
  have Za:=((Yp.trans e5).trans e6).trans (aq ht4 (.tup [.ref g5,.ref g6]))
  generalize upd (upd (upd H7 g5 (.lst [])) g6 (.lst [])) t4 (.tup [.ref g5,.ref g6])=H8 at p4 Za hl1 ⊢
  have p4:=p4.same (aq hl1 (.lst [.ref t1,.ref t2,.ref t3,.ref t4]))
  have q4:(upd H8 l1 (.lst [.ref t1,.ref t2,.ref t3,.ref t4])) l1=some (.lst ([]++[.ref t1]++[.ref t2]++[.ref t3]++[.ref t4])):=ak
  have Zc:=Za.trans (aq hl1 (.lst [.ref t1,.ref t2,.ref t3,.ref t4]))
  generalize upd H8 l1 (.lst [.ref t1,.ref t2,.ref t3,.ref t4])=H9 at p4 q4 Zc ⊢
  have z4:([]++[V.ref t1]++[V.ref t2]++[V.ref t3]++[V.ref t4]).length=4:=rfl
  generalize []++[V.ref t1]++[V.ref t2]++[V.ref t3]++[V.ref t4]=L1 at p4 q4 z4
  clear p3 A5 I6 e5 e6 Yp Za Qp Zb ht4 hl1
  refine⟨_,rfl,_,rfl,_,rfl,_,rfl,_,rfl,s,ns,rfl,Zc.seq hS1,_,_,rfl,rfl,(by show (0:Int)<9;decide),_,_,rfl,rfl,kL,s,.int (ns.sum % 9-1),ws,ns,rfl,Zc _ _ f4,Zc.seq hS1,hns,by lia,fun v hv=>.inl (ik v hv),.inl ⟨_,rfl⟩,fun g7 ys7 H10 s19 Yq ly7 my7=>?_⟩
  have s20:=Zc.trans s19
  refine⟨cI,fun t5 Yo=>?_⟩
  have p5:=(AllP.nil H10).put Yo (A1.same s20) (show Ea H10 g7 from ⟨ys7,Yq,by lia,fun v hv=>by
   rcases my7 v hv with h|rfl
   ·exact ik v h
   ·exact⟨_,rfl⟩⟩)
  have Zd:=s20.trans (aq Yo (.tup [.ref bL,.ref g7]))
  have p4:=(p4.same s19).same (aq Yo (.tup [.ref bL,.ref g7]))
  have q4:=(s19.trans (aq Yo (.tup [.ref bL,.ref g7]))) _ _ q4
  generalize upd H10 t5 (.tup [.ref bL,.ref g7])=H11 at p5 Zd p4 q4 ⊢
  clear Zc s19 s20 Yq ly7 my7 Yo
  refine⟨_,rfl,_,rfl,one_le,fun g8 Yr=>⟨bL,g8,_,_,rfl,rfl,aQ.of ((aq Yr _) _ _ (Zd _ _ f2)),aQ.of ak,cg (by show us.length+1≤1000;lia),fun g9 hg9=>?_⟩⟩
  have e8:=aq Yr (.lst [.ref r])
  have e9:=aq hg9 (.lst (us++[.ref r]))
  have A9:KQ (upd (upd H11 g8 (.lst [.ref r])) g9 (.lst (us++[.ref r]))) g9:=KQ.put hg9 (by rw[List.length_append];show us.length+1≤700;lia) (oO (fun v hv=>((au v hv).same Zd).same e8) fun v hv=>by rw[List.mem_singleton.mp hv];exact (ar.same Zd).same e8)
  have Ze:=e8.trans e9
  generalize upd (upd H11 g8 (.lst [.ref r])) g9 (.lst (us++[.ref r]))=H12 at A9 Ze ⊢
  have s22:=Zd.trans Ze
  refine⟨_,rfl,_,rfl,_,rfl,kL,ws,rfl,aQ.of (s22 _ _ f4),fun g10 ae3=>?_⟩
  have m10:∀ v∈fV ws none (some 1),v∈ws:=fun v hv=>jh hv
  have l10:=dD ws none (some 1)
  generalize fV ws none (some 1)=Qo at m10 l10 ⊢
  have e10:=aq ae3 (.lst Qo)
  refine⟨kL,g10,_,_,rfl,rfl,aQ.of (e10 _ _ (s22 _ _ f4)),aQ.of ak,cg (by lia),fun g11 ae5=>⟨cI,fun t6 Ye=>⟨cI,fun l2 hl2=>?_⟩⟩⟩
  have e11:=aq ae5 (.lst (ws++Qo))
  have I11:Ea (upd (upd H12 g10 (.lst Qo)) g11 (.lst (ws++Qo))) g11:=Ea.put (by rw[List.length_append];lia) (oO ik fun v hv=>ik v (m10 v hv))
  have Cv:=e10.trans e11
  generalize upd (upd H12 g10 (.lst Qo)) g11 (.lst (ws++Qo))=H13 at I11 Cv Ye hl2 ⊢
  have p6:=((p5.same Ze).same Cv).put Ye (A9.same Cv) I11
  have Zf:=aq Ye (.tup [.ref g9,.ref g11])
  have s23:=(s22.trans Cv).trans Zf
  have p4:=((p4.same Ze).same Cv).same Zf
  have q4:=((Ze.trans Cv).trans Zf) _ _ q4
  generalize upd H13 t6 (.tup [.ref g9,.ref g11])=W0 at p6 s23 p4 q4 hl2 ⊢
  have Qi:=aq hl2 (.lst [.ref t5,.ref t6])
  refine⟨l1,l2,_,_,rfl,rfl,aQ.of (Qi _ _ q4),aQ.of ak,cg (by rw[z4];show 4+2≤1000;decide),fun l3 hl3=>?_⟩
  have VG:=aq hl3 (.lst (L1++[.ref t5,.ref t6]))
  have pB:AllP (upd (upd W0 l2 (.lst [.ref t5,.ref t6])) l3 (.lst (L1++[.ref t5,.ref t6]))) (L1++[.ref t5,.ref t6]):=oO ((p4.same Qi).same VG) ((p6.same Qi).same VG)
  have qB:(upd (upd W0 l2 (.lst [.ref t5,.ref t6])) l3 (.lst (L1++[.ref t5,.ref t6]))) l3=some (.lst (L1++[.ref t5,.ref t6])):=ak
  have Ys:=(s23.trans Qi).trans VG
  generalize upd (upd W0 l2 (.lst [.ref t5,.ref t6])) l3 (.lst (L1++[.ref t5,.ref t6]))=H15 at pB qB Ys ⊢
  have zB:(L1++[V.ref t5,V.ref t6]).length=6:=by rw[List.length_append,z4];rfl
  generalize L1++[V.ref t5,V.ref t6]=Yt at pB qB zB
  clear e8 e9 Ze e10 Cv e11 Zf Qi VG p4 q4 p5 p6 A9 I11 Zd s22 s23 m10 l10 z4 Yr hg9 ae3 ae5 Ye hl2 hl3
  refine⟨_,rfl,_,rfl,_,rfl,_,rfl,_,rfl,bL,us,rfl,aQ.of (Ys _ _ f2),fun g1 hg1=>?_⟩
  have m1:∀ v∈fV us (some (-1)) none,v∈us:=fun v hv=>jh hv
  have l1':=dD us (some (-1)) none
  generalize fV us (some (-1)) none=c1 at m1 l1' hg1 ⊢
  have e1:=aq hg1 (.lst c1)
  refine⟨bL,g1,_,_,rfl,rfl,aQ.of (e1 _ _ (Ys _ _ f2)),aQ.of ak,cg (by lia),fun g2 hg2=>?_⟩
  have e2:=aq hg2 (.lst (us++c1))
  have A2:KQ (upd (upd H15 g1 (.lst c1)) g2 (.lst (us++c1))) g2:=KQ.put hg2 (by rw[List.length_append];lia) (oO (fun v hv=>((au v hv).same Ys).same e1) fun v hv=>((au v (m1 v hv)).same Ys).same e1)
  have VH:=(Ys.trans e1).trans e2
  have pB:=(pB.same e1).same e2
  have qB:=(e1.trans e2) _ _ qB
  generalize upd (upd H15 g1 (.lst c1)) g2 (.lst (us++c1))=H16 at A2 VH pB qB ⊢
  clear e1 e2 hg1 hg2 Ys
  refine⟨_,rfl,_,rfl,_,rfl,_,rfl,kL,ws,rfl,aQ.of (VH _ _ f4),fun g3 KN=>?_⟩
  have m3:∀ v∈fV ws (some (-1)) none,v∈ws:=fun v hv=>jh hv
  have l3':=dD ws (some (-1)) none
  generalize fV ws (some (-1)) none=c3 at m3 l3' KN ⊢
  have e3:=aq KN (.lst c3)
  refine⟨kL,g3,_,_,rfl,rfl,aQ.of (e3 _ _ (VH _ _ f4)),aQ.of ak,cg (by lia),fun g4 Ub=>⟨cI,fun t7 Yu=>?_⟩⟩
  have e4:=aq Ub (.lst (ws++c3))
  have I4:Ea (upd (upd H16 g3 (.lst c3)) g4 (.lst (ws++c3))) g4:=Ea.put (by rw[List.length_append];lia) (oO ik fun v hv=>ik v (m3 v hv))
  have Zg:=e3.trans e4
  generalize upd (upd H16 g3 (.lst c3)) g4 (.lst (ws++c3))=H17 at I4 Zg Yu ⊢
  have p7:=(AllP.nil H17).put Yu (A2.same Zg) I4
  have e7:=aq Yu (.tup [.ref g2,.ref g4])
  have Zh:=(VH.trans Zg).trans e7
  have pB:=(pB.same Zg).same e7
  have qB:=(Zg.trans e7) _ _ qB
  generalize upd H17 t7 (.tup [.ref g2,.ref g4])=H18 at p7 Zh pB qB ⊢
  clear e3 e4 Zg e7 A2 I4 VH KN Ub Yu
  refine⟨_,rfl,_,rfl,bL,us,rfl,aQ.of (Zh _ _ f2),fun g5 Qp=>?_⟩
  have m5:∀ v∈fV us none (some 1),v∈us:=fun v hv=>jh hv
  have l5':=dD us none (some 1)
  generalize fV us none (some 1)=c5 at m5 l5' Qp ⊢
  have e5:=aq Qp (.lst c5)
  have A5:=KQ.put Qp (show c5.length≤700 by lia) fun v hv=>(au v (m5 v hv)).same Zh
  refine⟨_,rfl,_,rfl,_,rfl,kL,ws,rfl,aQ.of (e5 _ _ (Zh _ _ f4)),fun g6 Zb=>⟨cI,fun t8 ht8=>?_⟩⟩
  have m6:∀ v∈fV ws (some (-1)) none,v∈ws:=fun v hv=>jh hv
  have l6':=dD ws (some (-1)) none
  generalize fV ws (some (-1)) none=c6 at m6 l6' Zb ht8 ⊢
  have e6:=aq Zb (.lst c6)
  have I6:Ea (upd (upd H18 g5 (.lst c5)) g6 (.lst c6)) g6:=Ea.put (show c6.length≤700 by lia) fun v hv=>ik v (m6 v hv)
  have A5:=A5.same e6
  have Zi:=e5.trans e6
  generalize upd (upd H18 g5 (.lst c5)) g6 (.lst c6)=H19 at A5 I6 Zi ht8 ⊢
  have p8:=(p7.same Zi).put ht8 A5 I6
  have e8:=aq ht8 (.tup [.ref g5,.ref g6])
  have Zj:=(Zh.trans Zi).trans e8
  have pB:=(pB.same Zi).same e8
  have qB:=(Zi.trans e8) _ _ qB
  generalize upd H19 t8 (.tup [.ref g5,.ref g6])=H20 at p8 Zj pB qB ⊢
  clear e5 e6 Zi e8 A5 I6 Zh Qp Zb ht8 p7
  refine⟨_,rfl,_,rfl,_,rfl,bL,us,rfl,aQ.of (Zj _ _ f2),fun g7 Yq=>?_⟩
  have m7:∀ v∈fV us none (some (-1)),v∈us:=fun v hv=>jh hv
  have l7':=dD us none (some (-1))
  generalize fV us none (some (-1))=c7 at m7 l7' Yq ⊢
  have e7:=aq Yq (.lst c7)
  have A7:=KQ.put Yq (show c7.length≤700 by lia) fun v hv=>(au v (m7 v hv)).same Zj
  refine⟨_,rfl,_,rfl,_,rfl,kL,ws,rfl,aQ.of (e7 _ _ (Zj _ _ f4)),fun g8 Yr=>⟨cI,fun t9 ht9=>⟨Bs,fun l4 Uc=>?_⟩⟩⟩
  have m8:∀ v∈fV ws none (some (-1)),v∈ws:=fun v hv=>jh hv
  have l8':=dD ws none (some (-1))
  generalize fV ws none (some (-1))=c8 at m8 l8' Yr ht9 Uc ⊢
  have e8:=aq Yr (.lst c8)
  have I8:Ea (upd (upd H20 g7 (.lst c7)) g8 (.lst c8)) g8:=Ea.put (show c8.length≤700 by lia) fun v hv=>ik v (m8 v hv)
  have A7:=A7.same e8
  have Zk:=e7.trans e8
  generalize upd (upd H20 g7 (.lst c7)) g8 (.lst c8)=H21 at A7 I8 Zk ht9 Uc ⊢
  have p9:=(p8.same Zk).put ht9 A7 I8
  have e9:=aq ht9 (.tup [.ref g7,.ref g8])
  have s28:=(Zj.trans Zk).trans e9
  have pB:=(pB.same Zk).same e9
  have qB:=(Zk.trans e9) _ _ qB
  generalize upd H21 t9 (.tup [.ref g7,.ref g8])=H22 at p9 s28 pB qB Uc ⊢
  have Qi:=aq Uc (.lst [.ref t7,.ref t8,.ref t9])
  refine⟨l3,l4,_,_,rfl,rfl,aQ.of (Qi _ _ qB),aQ.of ak,cg (by rw[zB];show 6+3≤1000;decide),fun l5 hl5=>?_⟩
  have VG:=aq hl5 (.lst (Yt++[.ref t7,.ref t8,.ref t9]))
  have pC:AllP (upd (upd H22 l4 (.lst [.ref t7,.ref t8,.ref t9])) l5 (.lst (Yt++[.ref t7,.ref t8,.ref t9]))) (Yt++[.ref t7,.ref t8,.ref t9]):=oO ((pB.same Qi).same VG) ((p9.same Qi).same VG)
  have qC:(upd (upd H22 l4 (.lst [.ref t7,.ref t8,.ref t9])) l5 (.lst (Yt++[.ref t7,.ref t8,.ref t9]))) l5=some (.lst (Yt++[.ref t7,.ref t8,.ref t9])):=ak
  have s29:=(s28.trans Qi).trans VG
  generalize upd (upd H22 l4 (.lst [.ref t7,.ref t8,.ref t9])) l5 (.lst (Yt++[.ref t7,.ref t8,.ref t9]))=H23 at pC qC s29 ⊢
  generalize Yt++[V.ref t7,V.ref t8,V.ref t9]=L3 at pC qC
  have sZ:fM H H23:=sT.then s29
  have hBZ:=Y6.same s29
  clear e7 e8 Zk e9 Qi VG A7 I8 p8 p9 pB qB Zj s28 s29 Yq Yr ht9 Uc hl5 zB m1 m3 m5 m6 m7 m8 l1' l3' l5' l6' l7' l8' A1 I1 f2 f4 au ik hS1 ar Y6 sT
  refine⟨_,rfl,l5,rfl,⟨_,aQ.of qC⟩,ig (K:=K) (a:=l5) (xs:=L3) (fun i σ H2=>Same H23 H2∧∃ v7 v8 v9 v10,σ=[some (.ref b),some (.ref s),some (.ref r),some (.ref a),some (.ref bL),some (.ref kL),some (.ref l5),v7,v8,v9,v10])
   ⟨Same.refl _,_,_,_,_,rfl⟩ (fun i σ H2 _ ⟨e,_⟩=>e.seq (aQ.of qC)) ?_ ?_⟩
  ·rintro i xv σ H2 hi ⟨s2,v7,v8,v9,v10,rfl⟩
   obtain⟨t,l,m,rfl,j1,⟨us,hl,lu,au⟩,⟨vs',hm,lw,ik⟩⟩:=(pC xv (List.mem_of_getElem? hi)).same s2
   obtain⟨ks,rfl⟩:=Kc vs' ik
   rw[List.length_map] at lw
   refine⟨t,_,rfl,cT.of j1,rfl,_,_,rfl,_,_,rfl,rfl,?_⟩
   refine⟨_,rfl,l,us,rfl,.inl (aQ.of hl),fun x1 hx1=>?_⟩
   have e1:=aq hx1 (.lst us)
   refine⟨_,rfl,m,_,rfl,.inl (aQ.of (e1 _ _ hm)),fun x2 hx2=>⟨cI,fun h hh=>?_⟩⟩
   have e2:=aq hx2 (.lst (ks.map V.int))
   have e3:=aq hh (.lst [.ref x1,.ref x2])
   have g1:=(e2.trans e3) _ _ (show (upd H2 x1 (.lst us)) x1=some (.lst us) from ak)
   have g2:=e3 _ _ (show (upd (upd H2 x1 (.lst us)) x2 (.lst (ks.map V.int))) x2=some (.lst (ks.map V.int)) from ak)
   have g3:(upd (upd (upd H2 x1 (.lst us)) x2 (.lst (ks.map V.int))) h (.lst [.ref x1,.ref x2])) h=some (.lst [.ref x1,.ref x2]):=ak
   have e4:=(e1.trans e2).trans e3
   have n2:H2 x2=none:=e1.free hx2
   have n1h:h≠x1:=fun e=>by rw[e,e2 _ _ (show (upd H2 x1 (.lst us)) x1=some (.lst us) from ak)] at hh;cases hh
   have n12:x1≠x2:=fun e=>by rw[←e,ak] at hx2;cases hx2
   generalize upd (upd (upd H2 x1 (.lst us)) x2 (.lst (ks.map V.int))) h (.lst [.ref x1,.ref x2])=H3 at g1 g2 g3 e4 ⊢
   clear e1 e2 e3 hx2 hh
   refine⟨_,rfl,h,_,0,_,rfl,rfl,aQ.of g3,rfl,_,rfl,h,_,1,_,rfl,rfl,aQ.of g3,rfl,fun a dx ha hdx ndx=>?_⟩
   have e5:=cX ha hdx (.ins z.Ranges dx [])
   refine⟨a,dx,x1,x2,us,ks.map V.int,rfl,ak,e5 _ _ g1,e5 _ _ g2,fun bL kL H4 keep k1 k2 k3 T5 nb nk=>⟨rfl,?_⟩⟩
   have e6:Same H3 H4:=fun c o e=>keep c o (aM e ha) (e5 _ _ e)
   have nx:∀ {c:Addr} {o:HO},H3 c=some o→c≠bL∧c≠kL∧c≠a:=fun e=>⟨aM (e5 _ _ e) nb,aM (e5 _ _ e) nk,aM e ha⟩
   obtain⟨n1b,n1k,n1a⟩:=nx g1
   obtain⟨n2b,n2k,n2a⟩:=nx g2
   have g1:=e6 _ _ g1
   have g2:=e6 _ _ g2
   have g3:=e6 _ _ g3
   have e7:=e4.trans e6
   clear e5 keep nb nk nx e4 e6 ha hdx
   refine⟨_,rfl,h,_,0,_,rfl,rfl,aQ.of g3,rfl,.inl ⟨rfl,_,aQ.of g1⟩,cI,fun p hp=>?_⟩
   have e8:=aq hp (.tup [.int 1,.int 1])
   refine⟨x1,us,_,rfl,rfl,e8 _ _ g1,bQ (by lia),?_⟩
   have e9:Same H2 (upd (upd H4 p (.tup [.int 1,.int 1])) x1 (.lst (us++[.ref p]))):=fun c o e=>by rw[aJ (aM e hx1)];exact e8 _ _ (e7 _ _ e)
   have k1:(upd (upd H4 p (.tup [.int 1,.int 1])) x1 (.lst (us++[.ref p]))) a=_:=(aJ n1a.symm).trans (e8 _ _ k1)
   have k2:(upd (upd H4 p (.tup [.int 1,.int 1])) x1 (.lst (us++[.ref p]))) bL=_:=(aJ n1b.symm).trans (e8 _ _ k2)
   have k3:(upd (upd H4 p (.tup [.int 1,.int 1])) x1 (.lst (us++[.ref p]))) kL=_:=(aJ n1k.symm).trans (e8 _ _ k3)
   have g2:(upd (upd H4 p (.tup [.int 1,.int 1])) x1 (.lst (us++[.ref p]))) x2=_:=(aJ n12.symm).trans (e8 _ _ g2)
   have g3:(upd (upd H4 p (.tup [.int 1,.int 1])) x1 (.lst (us++[.ref p]))) h=_:=(aJ n1h).trans (e8 _ _ g3)
   generalize upd (upd H4 p (.tup [.int 1,.int 1])) x1 (.lst (us++[.ref p]))=H5 at e9 k1 k2 k3 g2 g3 ⊢
   refine⟨_,rfl,h,_,1,_,rfl,rfl,aQ.of g3,rfl,.inl ⟨rfl,_,aQ.of g2⟩,x2,_,_,rfl,rfl,g2,bQ (by rw[List.length_map];lia),?_⟩
   have eA:Same H2 (upd H5 x2 (.lst (ks.map V.int++[.int 0]))):=fun c o e=>by rw[aJ (aM e n2)];exact e9 _ _ e
   have k1:(upd H5 x2 (.lst (ks.map V.int++[.int 0]))) a=_:=(aJ n2a.symm).trans k1
   have k2:(upd H5 x2 (.lst (ks.map V.int++[.int 0]))) bL=_:=(aJ n2b.symm).trans k2
   have k3:(upd H5 x2 (.lst (ks.map V.int++[.int 0]))) kL=_:=(aJ n2k.symm).trans k3
   generalize upd H5 x2 (.lst (ks.map V.int++[.int 0]))=H6 at eA k1 k2 k3 ⊢
   clear e7 e8 e9 g1 g2 g3
   obtain⟨ds,dr,sh,_⟩:=zN (K:=K) (H:=H6) fun v hv=>((au v hv).same eA).sim
   refine⟨_,rfl,a,_,dx,_,_,rfl,k1,T.cJ,T.cV,gK bL kL,_,rfl,_,_,dr bL k2,dr l (eA _ _ hl),sh,sh,_,rfl,?_⟩
   rw[Cr sh]
   refine dz ?_
   obtain⟨ds',dr',sh',_⟩:=zN (K:=K) (H:=H6) (xs:=ks.map V.int) fun v hv=>.inl (ik v hv)
   refine⟨_,rfl,a,_,dx,_,_,rfl,k1,T.cJ,T.cL,fO bL kL,_,rfl,_,_,dr' kL k3,dr' m (eA _ _ hm),sh',sh',_,rfl,?_⟩
   rw[Cr sh']
   refine dz ?_
   obtain⟨bs,tb,ob⟩:=Ka us fun v hv=>(au v hv).same eA
   have hlb:=tb.len
   have hB6:=hBZ.same (s2.trans eA)
   refine⟨_,rfl,a,dx,_,rfl,k1,BJ bL kL,_,rfl,a,b,bL,kL,ps,bs,ks,rfl,⟨dx,us,k1,k2,tb,k3,T5⟩,hB6,hne,by lia,hok,ob,by lia,fun v1 H7 i1 s7=>?_⟩
   refine⟨_,rfl,_,rfl,_,rfl,b,l,m,us,ps,bs,ks,rfl,hB6.same s7,by lia,hok,s7 _ _ (eA _ _ hl),tb.same s7,ob,s7 _ _ (eA _ _ hm),by lia,fun v2 H8 i2 s8=>⟨v1,v2,rfl,i1.trans i2.symm,_,rfl,dz ?_⟩⟩
   exact⟨((s2.trans eA).trans s7).trans s8,_,_,_,_,rfl⟩
  ·rintro σ H2 ⟨s2,v7,v8,v9,v10,rfl⟩
   exact q _ (sZ.then s2)
end
def VJ (r:Row):Prop:=jm r.2.2.1∧jm r.2.2.2∧jm (r.2.2.1+r.2.2.2)
def Rw (H:Hp)(v:V):Prop:=∃ (a:Addr) (r:Row),v=.ref a∧H a=some (aeY r)∧VJ r
theorem Rw.same {H H':Hp}{v:V}(h:Rw H v)(s:Same H H'):Rw H' v:=let ⟨a,r,h1,h2,h3⟩:=h;⟨a,r,h1,s _ _ h2,h3⟩
theorem Rw.sim {H:Hp}{v:V}(h:Rw H v):T9 H v:=let ⟨a,r,h1,h2,_⟩:=h;.inr ⟨a,[r.1,r.2.1,r.2.2.1,r.2.2.2],h1,h2⟩
theorem Ke {H:Hp}:∀ us:List V,(∀ v∈us,Rw H v)→∃ rs,oM H us rs∧∀ r∈rs,VJ r
 | [],_=>⟨[],.nil,fun p h=>by cases h⟩
 | u::us,h=>by
  obtain⟨rs,h1,h2⟩:=Ke us fun v hv=>h v (List.mem_cons_of_mem _ hv)
  obtain⟨a,r,rfl,ha,f⟩:=h u (List.mem_cons_self ..)
  refine⟨r::rs,.cons ⟨a,rfl,ha⟩ h1,fun p hp=>?_⟩
  rcases List.mem_cons.mp hp with rfl|hp
  ·exact f
  ·exact h2 p hp
theorem Tg {H:Hp}{us:List V}{rs:List Row}(h:oM H us rs)(k:∀ r∈rs,VJ r):∀ v∈us,Rw H v:=fun v hv=>by
 obtain⟨i,hi⟩:=List.getElem?_of_mem hv
 obtain⟨r,hr,a,rfl,ha⟩:=bh h hi
 exact⟨a,r,rfl,ha,k r (List.mem_of_getElem? hr)⟩
def N5 (n:Nat)(H:Hp)(v:V):Prop:=∃ l us,v=.ref l∧H l=some (.lst us)∧us.length≤n∧∀ v∈us,Rw H v
theorem N5.le {n m:Nat}{H:Hp}{v:V}(h:N5 n H v)(k:n≤m):N5 m H v:=let ⟨l,us,h0,h1,h2,h3⟩:=h;⟨l,us,h0,h1,Nat.le_trans h2 k,h3⟩
theorem N5.same {n:Nat}{H H':Hp}{v:V}(h:N5 n H v)(s:Same H H'):N5 n H' v:=let ⟨l,us,h0,h1,h2,h3⟩:=h;⟨l,us,h0,s _ _ h1,h2,fun v hv=>(h3 v hv).same s⟩
theorem N5.put {m:Nat}{H:Hp}{l:Addr}{us:List V}(n:H l=none)(h:us.length≤m)(k:∀ v∈us,Rw H v):N5 m (upd H l (.lst us)) (.ref l):=⟨l,us,rfl,ak,h,fun v hv=>(k v hv).same (aq n _)⟩
theorem iz {f:Int}(f0 : -10≤f)(f1:f≤10):jm f:=fit_le 10 (by lia) (by decide +kernel)
theorem VL (a b:Int){c d:Int}(h : -4≤c∧c≤4∧-4≤d∧d≤4):VJ (a,b,c,d):=⟨iz (by show -10≤c;lia) (by show c≤10;lia),iz (by show -10≤d;lia) (by show d≤10;lia),iz (by show -10≤c+d;lia) (by show c+d≤10;lia)⟩
section
variable{P:Program}{w:World}{K:PySem.W.Frag}{mg:Str→Option Value}{base:Heap}{z:Cz}
inductive N6 (K:PySem.W.Frag)(vs:List V)(H:Hp)(Q:VK):Prop
 | mk (b c s r:Addr) (x y:Int) (ns:List Int) (ps os:List (Int×Int)) (c0:vs=[.ref b,.ref c,.ref s,.ref r]) (c1:bH H b ps) (c2:ps≠[]) (c3:ps.length≤200) (c4:(∀ p∈ps,SN p)) (c5:bH H c os) (c6:os≠[]) (c7:os.length≤200) (c8:(∀ p∈os,SN p)) (c9:aQ K H s (ns.map V.int)) (Qo:ns.length≤63) (c11:H r=some (.tup [.int x,.int y])) (c12:tO x y) (c13:x≤10 ^ 40) (c14:y≤10 ^ 40) (c15:Tab H) (c16:∀ H',fM H H'→Q (.bl true) H'):N6 K vs H Q
def N7 (K:PySem.W.Frag):Sp:=fun vs H Q _=>N6 K vs H Q
theorem bT:aY ["_law_one", "_law_other", "_law_script", "_law_amount_here", "_law_told", "_law_rows", "_law_row", "_law_some", "_law_handed", "_law_answer", "_law_due"] ["_law_one", "_law_other", "_law_script", "_law_amount_here"] (aC iI):=⟨rfl,rfl,rfl,by decide +kernel,rfl,by decide +kernel,by decide +kernel⟩
theorem tW {f:Addr}{fd:FuncData}(F:gY K "_law_books_right" "_law_books_right" iI f fd)(B:Bl mg)(T:CT K mg z)
  (VN:Cl P w K mg base 4 "under" ["one", "other"] (Ny z))
  (Ia:Cl P w K mg base 2 "_law_under" ["_law_one", "_law_other", "_law_rows"] J5)
  (Kf:Cl P w K mg base 2 "_law_over" ["_law_one", "_law_other", "_law_amount_here"] NK)
  (cQ:Cl P w K mg base 1 "_law_says" ["_law_said", "_law_due"] xO)
  (nH:Cl P w K mg base 1 "_law_bent" ["_law_some", "_law_script", "_law_more"] (Mg K))
  (tK:Dm P w K mg base 1 z.Under ["self", "rows"] (gO z))
  (uX:Dm P w K mg base 1 z.Over ["self", "amount"] (jw z))
  (jE:Fz P w K mg base 5 z.Under "shows" ["self", "one", "other"] (jf z))
  (kW:Fz P w K mg base 4 z.Over "shows" ["self", "one", "other"] (nA z)):cA P w K mg base gB 6 f fd ["_law_one", "_law_other", "_law_script", "_law_amount_here"] (N7 K):=by
 refine F.ok bT (fun vs H Q E h=>?_) (fun cdv A outer s H vs Q E hr h=>?_)
 ·obtain⟨b,c,s,r,x,y,ns,ps,os,rfl,_⟩:=h
  rfl
 ·obtain⟨b,c,s,r,x,y,ns,ps,os,rfl,hB,hne,qD,hmd,hC,Qf,Ym,Qg,hS,hns,hr',am,x40,y40,hT,q⟩:=h
  refine⟨_,(aB (aW (i:=4) bT.nd rfl (Or.inl rfl) (VN.pe hr (aj (pv 0) (aj (pv 1) ao))))
     (aB (aW (i:=5) bT.nd rfl (Or.inl rfl) (Je (cR (aK (agq K (C:=z.Under)) rfl B.XQ boot_isinstance (aj (pv 4) (aj (Uh (v:=.ref z.Under) rfl T.rM rfl) ao)))) (bK K rfl (pv 4) rfl) (cF (N':=["_law_tariff", "_law_one"]) (k:=1) (js:=[0]) ⟨rfl,by decide +kernel,by decide +kernel,by rfl,by rfl,rfl⟩ rfl (bM K rfl (pv 1))
       (fun _ _ _ _ _=>(aZ (i:=0) (show (["_law_tariff", "_law_one"]:List Str).Nodup by decide +kernel) rfl (Or.inl rfl))) (bI (by decide)) (fun _ _ _ _ _=>cD)
       (fun _ _ _ _ _=>(bN (aj aA (aj (aF gb (aK (iV K) rfl B.len PySem.boot_len (aj (pv 1) ao)) aA) (aj aA (aj aA ao)))))))))
     (aB (aW (i:=6) bT.nd rfl (Or.inl rfl) (bN (aj (aF cO (aK (sumK K rfl rfl) rfl B.sum boot_sum (aj (pv 2) ao)) (aF dj (aK (iV K) rfl B.len PySem.boot_len (aj (pv 0) ao)) aA)) (aj (aF gb (aF cO (aF bU (aK (sumK K rfl rfl) rfl B.sum boot_sum (aj (pv 2) ao)) aA) aA) aA) (aj (aF gb (aF cO (aF bU (aK (sumK K rfl rfl) rfl B.sum boot_sum (aj (pv 2) ao)) aA) aA) aA) (aj (aF cO (aF bU (aK (sumK K rfl rfl) rfl B.sum boot_sum (aj (pv 2) ao)) aA) aA) ao))))))
     (aB (jP PassesOwn.never rfl (bM K rfl (bF (aj (pv 5) (aj (nH.pe hr (aj (pv 5) (aj (pv 2) (aj (pv 6) ao)))) (aj (cB K rfl (pv 5) (cH aA) cZ) (aj (cF (N':=["_law_first"]) (k:=1) (js:=[]) ⟨rfl,by decide +kernel,by decide +kernel,by rfl,by rfl,rfl⟩ rfl (wR rfl B.range (aj (aK (iV K) rfl B.len PySem.boot_len (aj (pv 1) ao)) ao))
       (fun _ _ _ _ _=>(aZ (i:=0) (show (["_law_first"]:List Str).Nodup by decide +kernel) rfl (Or.inl rfl))) (bI (by decide)) (fun _ _ _ _ _=>cD)
       (fun _ _ _ _ _=>(bN (aj (pv 0) (aj (pv 0) (aj aA (aj aA ao))))))) ao)))))) (aZ (i:=7) bT.nd rfl (Or.inl rfl))
     (aB (aW (i:=8) bT.nd rfl (Or.inl rfl) (fJ (Aj K) rfl B.list boot_list (aj (pv 7) ao)))
     (aB (aW (i:=9) bT.nd rfl (Or.inl rfl) (tK.pe hr T.rM (aj (pv 8) ao)))
     (aB (iU (Fj PySem.F.plainAttrs_list PySem.F.slot_list_append PySem.F.type_list_append kY (pv 8) (aj (pv 6) ao)))
     (aD (bY (PW.pt (pw_or (bB (Wr K rfl hr.units) (bK K rfl (pv 9) rfl) (pv 7) (aU _)) (pw_or1 (dh (cR (cQ.pe hr (aj (jE.pe hr T.iZ (pv 9) (aj (pv 0) (aj (pv 1) ao))) (aj (Ia.pe hr (aj (pv 0) (aj (pv 1) (aj (pv 7) ao)))) ao)))))))) (aD (aN cM)) bw))))))
     (aB (jP PassesOwn.never rfl (bM K rfl (bF (aj (pv 3) (aj (bN (aj aA (aj aA ao))) (aj (bN (aj (aF dj (aH (aG K) (pv 3) aA (fun _ _=>rfl)) (aH (aG K) (pv 3) aA (fun _ _=>rfl))) (aj (aH (aG K) (pv 3) aA (fun _ _=>rfl)) ao))) ao))))) (aZ (i:=7) bT.nd rfl (Or.inl rfl))
     (aB (aW (i:=10) bT.nd rfl (Or.inl rfl) (Kf.pe hr (aj (pv 0) (aj (pv 1) (aj (pv 7) ao)))))
     (aD (bY (PW.pt (pw_or (bB (Wr K rfl hr.units) (bK K rfl (uX.pe hr T.vQ (aj (pv 7) ao)) rfl) (pv 7) (aU _)) (pw_or1 (dh (cR (cQ.pe hr (aj (kW.pe hr T.kh (uX.pe hr T.vQ (aj (pv 7) ao)) (aj (pv 0) (aj (pv 1) ao))) (aj (pv 10) ao)))))))) (aD (aN cM)) bw))))
     (aD (aN cM))))))),?_⟩
  refine⟨_,rfl,_,rfl,b,c,ps,os,rfl,hB,hne,by lia,hmd,hC,Qf,by lia,Qg,hT,fun a v H1 sT hA aok vok _=>?_⟩
  have kB:Bk H1 b ps:=⟨hB.qF sT,hne,by lia,fun p hp=>(hmd p hp).ok⟩
  have kC:Bk H1 c os:=⟨hC.qF sT,Qf,by lia,fun p hp=>(Qg p hp).ok⟩
  have hS1:=sT.seq hS
  have hr1:=sT.2 _ _ hr' rfl
  clear hB hC hS hr' hT
  dsimp only
  refine Hj (fun σ' H'=>Same H1 H'∧∃ l,N5 200 H' (.ref l)∧σ'=[some (.ref b),some (.ref c),some (.ref s),some (.ref r),some (.ref a),some (.ref l),none,none,none,none,none]) (fun D' hD'=>?_) ?_
  ·cases v with
   | under l rs =>
    obtain⟨dx,us,f1,f2,f3⟩:=hA
    obtain⟨rl,S8⟩:Hs rs:=aok
    have uok:zM ps os rs:=vok
    have hlr:=uok.len
    have Bv:=f3.len
    refine⟨_,rfl,_,_,_,rfl,T.RW.of T.iZ f1,T.jY,_,rfl,fH ?_⟩
    exact⟨_,rfl,a,_,dx,_,_,rfl,f1,T.iZ,T.fB,nj l,hD' _ _ ⟨Same.refl _,l,⟨l,us,rfl,f2,by lia,Tg f3 S8⟩,rfl⟩⟩
   | over x' y' =>
    obtain⟨dx,r2,f1,f2⟩:=hA
    refine⟨_,rfl,_,_,_,rfl,T.Vh.of T.kh f1,T.lY,_,rfl,dz ?_⟩
    obtain⟨vs,hv,ht⟩:=id kC.at_
    obtain⟨us,hu,hut⟩:=id kB.at_
    have yq:=ht.len
    refine⟨_,rfl,c,rfl,⟨_,aQ.of hv⟩,bV (K:=K) (a:=c) (xs:=vs) (fun i ys H2=>Same H1 H2∧ys.length=i∧∀ v∈ys,Rw H2 v) ⟨Same.refl _,rfl,fun v h=>by cases h⟩ (fun i ys H2 hi e=>⟨e.1.seq (aQ.of hv),by rw[e.2.1];exact bQ (by lia)⟩) ?_ ?_⟩
    ·rintro i v ys H2 hi ⟨s2,hl,hy⟩
     refine dg ?_
     refine⟨_,rfl,b,us,rfl,.inl (aQ.of (s2 _ _ hu)),_,_,rfl,rfl,kE,fun p hp=>?_⟩
     have s3:=aq hp (.tup [.int 0,.int ((us.length:Nat)-1),.int 1,.int 1])
     refine⟨s2.trans s3,by rw[List.length_append,hl];rfl,oO (fun v hv=>(hy v hv).same s3) fun v hv=>?_⟩
     rw[List.mem_singleton.mp hv]
     exact⟨p,(0,(us.length:Nat)-1,1,1),rfl,ak,VL _ _ (by decide)⟩
    ·rintro ys H2 ⟨s2,hl,hy⟩ D hD
     exact hD' _ _ ⟨s2.trans (aq hD _),D,N5.put hD (by lia) hy,rfl⟩
  rintro _ H2 ⟨s2,l,hR,rfl⟩
  have kB:=kB.same s2
  have kC:=kC.same s2
  have hS2:=s2.seq hS1
  have hr2:=s2 _ _ hr1
  have sA:=sT.then s2
  clear hA aok vok hS1 hr1 s2 sT
  obtain⟨_,us,e,hl,lu,ru⟩:=id hR
  cases e
  obtain⟨vs,hv,ht⟩:=id kB.at_
  obtain⟨ws,hw,hwt⟩:=id kC.at_
  have hlw:=hwt.len
  refine⟨_,rfl,s,ns,rfl,hS2,_,rfl,b,vs,rfl,.inl (aQ.of hv),_,_,rfl,rfl,_,_,rfl,rfl,(by show (0:Int)<(vs.length:Nat)+1;lia),?_⟩
  refine⟨_,rfl,s,ns,rfl,hS2,_,_,rfl,rfl,⟨by decide,oH (by decide +kernel)⟩,_,_,rfl,rfl,(by show (0:Int)<5;decide),_,_,rfl,rfl,?_⟩
  refine⟨_,rfl,s,ns,rfl,hS2,_,_,rfl,rfl,⟨by decide,oH (by decide +kernel)⟩,_,_,rfl,rfl,(by show (0:Int)<4;decide),_,_,rfl,rfl,?_⟩
  refine⟨_,rfl,s,ns,rfl,hS2,_,_,rfl,rfl,⟨by decide,oH (by decide +kernel)⟩,_,_,rfl,rfl,(by show (0:Int)<3;decide),kE,fun t ht'=>?_⟩
  have d0:=Int.emod_nonneg (ns.sum / 7) (show (4:Int)≠0 by decide)
  have d1:=Int.emod_lt_of_pos (ns.sum / 7) (show (0:Int)<4 by decide)
  have d2:=Int.emod_nonneg (ns.sum / 5) (show (3:Int)≠0 by decide)
  have d3:=Int.emod_lt_of_pos (ns.sum / 5) (show (0:Int)<3 by decide)
  have s3:=aq ht' (.tup [.int (ns.sum % ((vs.length:Nat)+1)),.int (ns.sum / 3 % 5-1),.int (ns.sum / 7 % 4-1),.int (ns.sum / 5 % 3)])
  have rt:Rw (upd H2 t (.tup [.int (ns.sum % ((vs.length:Nat)+1)),.int (ns.sum / 3 % 5-1),.int (ns.sum / 7 % 4-1),.int (ns.sum / 5 % 3)])) (.ref t):=⟨t,(ns.sum % ((vs.length:Nat)+1),ns.sum / 3 % 5-1,ns.sum / 7 % 4-1,ns.sum / 5 % 3),rfl,ak,VL _ _ (by lia)⟩
  generalize upd H2 t (.tup [.int (ns.sum % ((vs.length:Nat)+1)),.int (ns.sum / 3 % 5-1),.int (ns.sum / 7 % 4-1),.int (ns.sum / 5 % 3)])=H3 at s3 rt ⊢
  refine⟨_,rfl,_,rfl,_,rfl,_,rfl,l,s,.ref t,us,ns,rfl,s3 _ _ hl,s3.seq hS2,hns,by lia,fun v hv=>((ru v hv).same s3).sim,rt.sim,fun g ys H4 s4 hg ly my=>?_⟩
  have X7:=s3.trans s4
  have R2:N5 700 H4 (.ref g):=⟨g,ys,rfl,hg,by lia,fun v hv=>by
   rcases my v hv with h|rfl
   ·exact (ru v h).same X7
   ·exact rt.same s4⟩
  refine⟨_,rfl,_,rfl,l,us,rfl,aQ.of (X7 _ _ hl),fun g3 KN=>?_⟩
  have m3:∀ v∈fV us (some 1) none,v∈us:=fun v hv=>jh hv
  have l3:=dD us (some 1) none
  generalize fV us (some 1) none=c3 at m3 l3 ⊢
  have R3:=N5.put KN (show c3.length≤700 by lia) fun v hv=>(ru v (m3 v hv)).same X7
  have s5:=aq KN (.lst c3)
  generalize upd H4 g3 (.lst c3)=H5 at R3 s5 ⊢
  have VP:=X7.trans s5
  refine⟨_,rfl,c,ws,rfl,.inl (aQ.of (VP _ _ hw)),_,rfl,by lia,by lia,Ah (lo:=0) (n:=((ws.length:Nat):Int).toNat) (fun i ys H6=>Same H5 H6∧ys.length=i∧∀ v∈ys,Rw H6 v) ⟨Same.refl _,rfl,fun v h=>by cases h⟩ (fun i ys H6 hi e=>by rw[e.2.1];exact bQ (by lia)) ?_ ?_⟩
  ·rintro i ys H6 hi ⟨s6,Vq,hy⟩
   refine dg ?_
   refine⟨_,rfl,_,rfl,kE,fun p hp=>?_⟩
   have s7:=aq hp (.tup [.int (0+(i:Nat)),.int (0+(i:Nat)),.int 2,.int 0])
   refine⟨s6.trans s7,by rw[List.length_append,Vq];rfl,oO (fun v hv=>(hy v hv).same s7) fun v hv=>?_⟩
   rw[List.mem_singleton.mp hv]
   exact⟨p,(0+(i:Nat),0+(i:Nat),2,0),rfl,ak,VL _ _ (by decide)⟩
  rintro zs H6 ⟨s6,lz,rz⟩ D hD
  refine⟨kE,fun L hL=>?_⟩
  have s7:=aq hD (.lst zs)
  have R4:=N5.put hD (show zs.length≤700 by lia) rz
  have s8:=aq hL (.lst [.ref l,.ref g,.ref g3,.ref D])
  have Zm:=(s6.trans s7).trans s8
  have hLL:(upd (upd H6 D (.lst zs)) L (.lst [.ref l,.ref g,.ref g3,.ref D])) L=some (.lst [.ref l,.ref g,.ref g3,.ref D]):=ak
  have items:∀ v∈[V.ref l,V.ref g,V.ref g3,V.ref D],N5 700 (upd (upd H6 D (.lst zs)) L (.lst [.ref l,.ref g,.ref g3,.ref D])) v:=fun v hv=>by
   simp only[List.mem_cons,List.not_mem_nil,or_false] at hv
   rcases hv with rfl|rfl|rfl|rfl
   ·exact (hR.le (by decide)).same (VP.trans Zm)
   ·exact R2.same (s5.trans Zm)
   ·exact R3.same Zm
   ·exact R4.same s8
  have s9:=VP.trans Zm
  generalize upd (upd H6 D (.lst zs)) L (.lst [.ref l,.ref g,.ref g3,.ref D])=H7 at items s9 hLL ⊢
  have kB:=kB.same s9
  have kC:=kC.same s9
  have hr7:=s9 _ _ hr2
  have rt7:=rt.same (s4.trans (s5.trans Zm))
  have sB:=sA.then s9
  clear R2 R3 R4 s3 s4 X7 s5 VP s6 s7 s8 Zm s9 hS2 hr2 sA hg ly my m3 l3 lz rz hD hL hR hl lu ru hv ht hw hwt rt
  refine⟨L,rfl,⟨_,aQ.of hLL⟩,ig (K:=K) (a:=L) (xs:=[.ref l,.ref g,.ref g3,.ref D]) (fun i σ H2=>Same H7 H2∧∃ v7 v8 v9,σ=[some (.ref b),some (.ref c),some (.ref s),some (.ref r),some (.ref a),some (.ref l),some (.ref t),v7,v8,v9,none])
   ⟨Same.refl _,_,_,_,rfl⟩ (fun i σ H2 _ ⟨e,_⟩=>e.seq (aQ.of hLL)) ?_ ?_⟩
  ·rintro i xv σ H2 hi ⟨s2,v7,v8,v9,rfl⟩
   obtain⟨l,us,rfl,hl,lu,ru⟩:=(items xv (List.mem_of_getElem? hi)).same s2
   refine⟨_,rfl,l,us,rfl,.inl (aQ.of hl),fun h hh=>?_⟩
   have e1:=aq hh (.lst us)
   have g1:(upd H2 h (.lst us)) h=some (.lst us):=ak
   generalize upd H2 h (.lst us)=H3 at e1 g1 ⊢
   refine⟨_,rfl,fun a' dx ha hdx ndx=>?_⟩
   have e2:=cX ha hdx (.ins z.Under dx [])
   refine⟨a',dx,h,us,rfl,ak,e2 _ _ g1,fun l2 hl2=>⟨rfl,?_⟩⟩
   have nla:l2≠a':=fun e=>by rw[e,ak] at hl2;cases hl2
   have e3:Same H3 (upd (upd (upd (upd H3 dx (.own a')) a' (.ins z.Under dx [])) l2 (.lst us)) a' (.ins z.Under dx (mG l2))):=fun d o e=>by
    rw[aJ (aM e ha)];exact (e2.trans (aq hl2 _)) d o e
   have k1:(upd (upd (upd (upd H3 dx (.own a')) a' (.ins z.Under dx [])) l2 (.lst us)) a' (.ins z.Under dx (mG l2))) a'=some (.ins z.Under dx (mG l2)):=ak
   have k2:(upd (upd (upd (upd H3 dx (.own a')) a' (.ins z.Under dx [])) l2 (.lst us)) a' (.ins z.Under dx (mG l2))) l2=some (.lst us):=by rw[aJ nla,ak]
   have nh:h≠l2:=aM (e2 _ _ g1) hl2
   have nha:h≠a':=aM g1 ha
   have g1:=e3 _ _ g1
   generalize upd (upd (upd (upd H3 dx (.own a')) a' (.ins z.Under dx [])) l2 (.lst us)) a' (.ins z.Under dx (mG l2))=H4 at e3 k1 k2 g1 ⊢
   refine⟨_,rfl,.inl ⟨rfl,_,aQ.of g1⟩,_,rfl,h,us,_,rfl,rfl,g1,bQ (by lia),?_⟩
   have e4:Same H2 (upd H4 h (.lst (us++[.ref t]))):=fun d o e=>by rw[aJ (aM e hh)];exact e3 _ _ (e1 _ _ e)
   have k1:(upd H4 h (.lst (us++[.ref t]))) a'=_:=(aJ nha.symm).trans k1
   have k2:(upd H4 h (.lst (us++[.ref t]))) l2=_:=(aJ nh.symm).trans k2
   generalize upd H4 h (.lst (us++[.ref t]))=H5 at e4 k1 k2 ⊢
   clear e1 e2 e3 g1 ha hdx hl2 hh
   have ru5:∀ v∈us,Rw H5 v:=fun v hv=>(ru v hv).same e4
   obtain⟨ds,dr,sh,_⟩:=zN (K:=K) (H:=H5) fun v hv=>(ru5 v hv).sim
   refine⟨_,rfl,a',_,dx,_,_,rfl,k1,T.iZ,T.fB,nj l2,_,rfl,_,_,dr l2 k2,dr l (e4 _ _ hl),sh,sh,_,rfl,?_⟩
   rw[Cr sh]
   refine dz ?_
   obtain⟨rs,tr,S8⟩:=Ke us ru5
   have hlr:=tr.len
   have VH:=s2.trans e4
   have kB:=kB.same VH
   have kC:=kC.same VH
   refine⟨_,rfl,a',dx,_,rfl,k1,xK l2,_,rfl,_,rfl,a',b,c,l2,rs,ps,os,rfl,⟨dx,us,k1,k2,tr⟩,⟨by lia,S8⟩,kB.at_,kB.ok,kC.at_,kC.ln,kC.ok,fun v1 H6 i1 s6=>?_⟩
   refine⟨_,rfl,_,rfl,_,rfl,b,c,l,us,rs,ps,os,rfl,kB.same s6,kC.same s6,s6 _ _ (e4 _ _ hl),tr.same s6,⟨by lia,S8⟩,fun v2 H8 i2 s8=>⟨v1,v2,rfl,i1.trans i2.symm,_,rfl,dz ?_⟩⟩
   exact⟨(VH.trans s6).trans s8,_,_,_,rfl⟩
  rintro σ H8 ⟨s8,v7,v8,v9,rfl⟩
  have kB:=kB.same s8
  have kC:=kC.same s8
  have hr8:=s8 _ _ hr7
  have sC:=sB.then s8
  clear s8 hr7 sB items hLL rt7
  refine⟨_,rfl,cI,fun t1 ht1=>?_⟩
  have e1:=aq ht1 (.tup [.int 0,.int 1])
  have A1:Am (upd H8 t1 (.tup [.int 0,.int 1])) (.ref t1):=⟨t1,0,1,rfl,ak,⟨⟨by decide,by decide⟩,⟨by decide,by decide⟩,by decide,by decide⟩⟩
  generalize upd H8 t1 (.tup [.int 0,.int 1])=H9 at e1 A1 ⊢
  have hr9:=e1 _ _ hr8
  refine⟨_,rfl,r,_,0,_,rfl,rfl,cT.of hr9,rfl,_,rfl,r,_,1,_,rfl,rfl,cT.of hr9,rfl,_,_,rfl,rfl,_,rfl,r,_,1,_,rfl,rfl,cT.of hr9,rfl,cI,fun t2 S5=>⟨Bs,fun M hM=>?_⟩⟩
  have am2:tO (x+y) y:=⟨⟨by have:=am.x0.1;have:=am.y0.1;lia,by lia⟩,am.y0,am.y1,by rw[Int.gcd_add_self_left];exact am.cop⟩
  have e2:=aq S5 (.tup [.int (x+y),.int y])
  have e3:=aq hM (.lst [.ref r,.ref t1,.ref t2])
  have eM:(upd (upd H9 t2 (.tup [.int (x+y),.int y])) M (.lst [.ref r,.ref t1,.ref t2])) M=some (.lst [.ref r,.ref t1,.ref t2]):=ak
  have items:∀ v∈[V.ref r,V.ref t1,V.ref t2],Am (upd (upd H9 t2 (.tup [.int (x+y),.int y])) M (.lst [.ref r,.ref t1,.ref t2])) v:=fun v hv=>by
   simp only[List.mem_cons,List.not_mem_nil,or_false] at hv
   rcases hv with rfl|rfl|rfl
   ·exact⟨r,x,y,rfl,(e2.trans e3) _ _ hr9,am⟩
   ·exact A1.same (e2.trans e3)
   ·exact⟨t2,x+y,y,rfl,e3 _ _ ak,am2⟩
  have eA:=e1.trans (e2.trans e3)
  generalize upd (upd H9 t2 (.tup [.int (x+y),.int y])) M (.lst [.ref r,.ref t1,.ref t2])=HA at items eA eM ⊢
  have kB:=kB.same eA
  have kC:=kC.same eA
  have sD:=sC.then eA
  clear e1 e2 e3 eA A1 sC hr9 hr8 ht1 S5 hM
  refine⟨M,rfl,⟨_,aQ.of eM⟩,ig (K:=K) (a:=M) (xs:=[.ref r,.ref t1,.ref t2]) (fun i σ H2=>Same HA H2∧∃ v7 v10,σ=[some (.ref b),some (.ref c),some (.ref s),some (.ref r),some (.ref a),some (.ref l),some (.ref t),v7,v8,v9,v10])
   ⟨Same.refl _,_,_,rfl⟩ (fun i σ H2 _ ⟨e,_⟩=>e.seq (aQ.of eM)) ?_ ?_⟩
  ·rintro i xv σ H2 hi ⟨s2,v7,v10,rfl⟩
   obtain⟨u,x,y,rfl,hu,am⟩:=(items xv (List.mem_of_getElem? hi)).same s2
   have kB:=kB.same s2
   have kC:=kC.same s2
   refine⟨_,rfl,_,rfl,_,rfl,b,c,u,x,y,ps,os,rfl,kB,kC,hu,am,fun v1 H3 i1 s3=>?_⟩
   refine⟨_,rfl,fun a' dx ha hdx ndx=>⟨a',dx,u,rfl,ak,rfl,?_⟩⟩
   rw[eO]
   have e4:=cX ha hdx (.ins z.Over dx (nu u))
   have k4:(upd (upd H3 dx (.own a')) a' (.ins z.Over dx (nu u))) a'=some (.ins z.Over dx (nu u)):=ak
   generalize upd (upd H3 dx (.own a')) a' (.ins z.Over dx (nu u))=H4 at e4 k4 ⊢
   have hu4:H4 u=some (.tup ([x,y].map V.int)):=(s3.trans e4) _ _ hu
   refine⟨a',_,dx,_,_,rfl,k4,T.kh,T.dZ,kJ u,_,rfl,_,_,.tup (cT.of hu4) (mC _),.tup (cT.of hu4) (mC _),ji _,ji _,_,rfl,?_⟩
   rw[show PyData.eqv (.tuple ([x,y].map PyData.int)) (.tuple ([x,y].map PyData.int))=true from J8 _]
   refine dz ?_
   clear k4 ha hdx
   refine⟨_,rfl,fun a' dx ha hdx ndx=>⟨a',dx,u,rfl,ak,rfl,?_⟩⟩
   rw[eO]
   have e5:=cX ha hdx (.ins z.Over dx (nu u))
   have k5:(upd (upd H4 dx (.own a')) a' (.ins z.Over dx (nu u))) a'=some (.ins z.Over dx (nu u)):=ak
   generalize upd (upd H4 dx (.own a')) a' (.ins z.Over dx (nu u))=H5 at e5 k5 ⊢
   have VP:=(s3.trans e4).trans e5
   have kB:=kB.same VP
   have kC:=kC.same VP
   refine⟨a',dx,_,rfl,k5,J3 _,_,rfl,_,rfl,a',b,c,x,y,ps,os,rfl,⟨dx,u,k5,VP _ _ hu⟩,am,kB.at_,kB.ne,kB.ln,kB.ok,kC.at_,kC.ne,kC.ln,kC.ok,fun v2 H6 i2 s6=>⟨_,rfl,v2,v1,rfl,i2.trans i1.symm,_,rfl,dz ?_⟩⟩
   exact⟨(s2.trans VP).trans s6,_,_,rfl⟩
  ·rintro σ H2 ⟨s2,v7,v10,rfl⟩
   exact q _ (sD.then s2)
end
def Ti:Expr→Bool
 | .Starred ..=>true
 | _=>false
theorem xQ {e:Expr}{es:List Expr}{env:PySem.Env}(h:Ti e=false):starEach (e::es) env=(false,eval e env)::starEach es env:=by
 cases e<;>first|rfl|cases h
theorem aL {X:Cx}{e:Expr}{es:List Expr}{te:TE}{t:TA}(ha:PE X e te)(hr:PA X es t)(h:Ti e=false:=by rfl):PA X (e::es) (dM te t):=aj ha hr (xQ h)
theorem Yv {te:TE}{g:TG}{u:TS}{D:Ends}{σ:L2.St}{H:Hp}(h:te σ H fun x H1=>g x σ H1 (u D)):Qw (Oh te g) u D σ H:=h
theorem nJ {t:TE}{u:TA}{σ:L2.St}{H:Hp}{Q:List V→Hp→Prop}(h:t σ H fun v H1=>u σ H1 fun vs H2=>Q (v::vs) H2):dM t u σ H Q:=h
def Kg:List (Int×Int)→TA
 | []=>nR
 | p::ps=>dM (Gq (dM (tC (.int p.1)) (dM (tC (.int p.2)) nR))) (Kg ps)
theorem N8 {σ:L2.St}:∀ (ps:List (Int×Int)) {H:Hp} {Q:List V→Hp→Prop},(∀ vs G,Same H G→cu G vs ps→Q vs G)→Kg ps σ H Q
 | [],H,Q,h=>h [] H (Same.refl _) .nil
 | p::ps,H,Q,h=>by
  refine nJ (t:=Gq (dM (tC (.int p.1)) (dM (tC (.int p.2)) nR))) ?_
  refine⟨cI,fun t ht=>?_⟩
  have s:=aq ht (.tup [.int p.1,.int p.2])
  exact N8 ps fun vs G s2 hv=>h _ G (s.trans s2) (.cons ⟨t,rfl,s2 _ _ ak⟩ hv)
theorem zQ {σ:L2.St}{H:Hp}{Q:VK}(ps:List (Int×Int))(hl:ps.length≤1000)(h:∀ c G,Same H G→bH G c ps→Q (.ref c) G):Ab (Kg ps) σ H Q :=
 N8 ps fun vs G s hv=>⟨cg (by rw[hv.len];exact hl),fun c hc=>h c _ (s.trans (aq hc _)) ⟨vs,ak,hv.same (aq hc _)⟩⟩
def qO:List Int→TA
 | []=>nR
 | k::ks=>dM (tC (.int k)) (qO ks)
theorem Oa {σ:L2.St}:∀ (ks:List Int) {H:Hp} {Q:List V→Hp→Prop},Q (ks.map V.int) H→qO ks σ H Q
 | [],_,_,h=>h
 | k::ks,_,_,h=>nJ (t:=tC (.int k)) (Oa ks h)
theorem Tj {σ:L2.St}{H:Hp}{Q:VK}(ks:List Int)(hl:ks.length≤1000)(h:∀ c G,Same H G→G c=some (.lst (ks.map V.int))→Q (.ref c) G):Ab (qO ks) σ H Q :=
 Oa ks ⟨cg (by rw[List.length_map];exact hl),fun c hc=>h c _ (aq hc _) ak⟩
def asInt:Expr→Option Int
 | .Constant (.int i) _ _=>some i
 | .UnaryOp .USub (.Constant (.int i) _ _) _=>some (-i)
 | _=>none
def su:List Expr→Option (List Int)
 | []=>some []
 | e::es=>(asInt e).bind fun i=>(su es).map fun is=>i::is
def asPair:Expr→Option (Int×Int)
 | .Tuple es _ _=>(su es).bind fun is=>match is with
  | [a,b]=>some (a,b)
  | _=>none
 | _=>none
def tL:List Expr→Option (List (Int×Int))
 | []=>some []
 | e::es=>(asPair e).bind fun i=>(tL es).map fun is=>i::is
theorem Tn {X:Cx}{e:Expr}{i:Int}(h:asInt e=some i):PE X e (tC (.int i))∧Ti e=false:=by
 unfold asInt at h
 split at h
 ·cases h;exact⟨aA,rfl⟩
 ·cases h
  exact⟨fun pins s σ H Q I q=>oX jl aA pins s σ H Q I ⟨_,rfl,q⟩,rfl⟩
 ·cases h
theorem Ib {X:Cx}:∀ {es:List Expr} (ks:List Int),su es=some ks→PA X es (qO ks)
 | [],ks,h=>by
  unfold su at h
  cases h
  exact ao
 | e::es,ks,h=>by
  unfold su at h
  cases h1:asInt e with
  | none=>rw[h1] at h;cases h
  | some i =>
   cases h2:su es with
   | none=>rw[h1,h2] at h;cases h
   | some is =>
    rw[h1,h2] at h
    cases h
    obtain⟨a,b⟩:=Tn (X:=X) h1
    exact aj a (Ib is h2) (xQ b)
theorem Qj {X:Cx}{e:Expr}{p:Int×Int}(h:asPair e=some p):PE X e (Gq (dM (tC (.int p.1)) (dM (tC (.int p.2)) nR)))∧Ti e=false:=by
 unfold asPair at h
 split at h
 ·rename_i es k pos
  cases h1:su es with
  | none=>rw[h1] at h;cases h
  | some is =>
   rw[h1] at h
   match is,h1,h with
   | [a,b],h1,h =>
    cases h
    exact⟨bN (Ib [a,b] h1),rfl⟩
 ·cases h
theorem Kh {X:Cx}:∀ {es:List Expr} (ps:List (Int×Int)),tL es=some ps→PA X es (Kg ps)
 | [],ps,h=>by
  unfold tL at h
  cases h
  exact ao
 | e::es,ps,h=>by
  unfold tL at h
  cases h1:asPair e with
  | none=>rw[h1] at h;cases h
  | some i =>
   cases h2:tL es with
   | none=>rw[h1,h2] at h;cases h
   | some is =>
    rw[h1,h2] at h
    cases h
    obtain⟨a,b⟩:=Qj (X:=X) h1
    exact aj a (Kh is h2) (xQ b)
theorem bf {X:Cx}{es:List Expr}{ks:List Int}(h:su es=some ks):PA X es (qO ks):=Ib ks h
theorem dI {X:Cx}{es:List Expr}{ps:List (Int×Int)}(h:tL es=some ps):PA X es (Kg ps):=Kh ps h
section
variable{z:Cz}{H:Hp}{R:Hp→Prop}{a dx:Addr}
theorem mkN {k1 k2 w1 w2:Int}(ha:H a=none)(hd:H dx=none)(h:∀ G,Same H G→G a=some (.ins z.Needless dx (qG k1 k2 w1 w2))→R G):
  mD z (.ref a::([.int k1,.int k2,.int w1,.int w2]++[])) (upd (upd H dx (.own a)) a (.ins z.Needless dx [])) (fun v H2=>v=.non∧R H2) E0 :=
 ⟨a,dx,k1,k2,w1,w2,rfl,ak,rfl,by rw[eO];exact h _ (cX ha hd _) ak⟩
theorem mkA {r:Addr}(ha:H a=none)(hd:H dx=none)(h:∀ G,Same H G→G a=some (.ins z.Alone dx (qb r))→R G):
  jJ z (.ref a::([.ref r]++[])) (upd (upd H dx (.own a)) a (.ins z.Alone dx [])) (fun v H2=>v=.non∧R H2) E0 :=
 ⟨a,dx,r,rfl,ak,rfl,by rw[eO];exact h _ (cX ha hd _) ak⟩
theorem mkO {r:Addr}(ha:H a=none)(hd:H dx=none)(h:∀ G,Same H G→G a=some (.ins z.Over dx (nu r))→R G):
  jw z (.ref a::([.ref r]++[])) (upd (upd H dx (.own a)) a (.ins z.Over dx [])) (fun v H2=>v=.non∧R H2) E0 :=
 ⟨a,dx,r,rfl,ak,rfl,by rw[eO];exact h _ (cX ha hd _) ak⟩
theorem mkM {k:Int}{r:Addr}(ha:H a=none)(hd:H dx=none)(h:∀ G,Same H G→G a=some (.ins z.Most dx (pq k r))→R G):
  mH z (.ref a::([.int k,.ref r]++[])) (upd (upd H dx (.own a)) a (.ins z.Most dx [])) (fun v H2=>v=.non∧R H2) E0 :=
 ⟨a,dx,k,r,rfl,ak,rfl,by rw[eO];exact h _ (cX ha hd _) ak⟩
theorem mkE {k:Int}(ha:H a=none)(hd:H dx=none)(h:∀ G,Same H G→G a=some (.ins z.Endless dx (gQ k))→R G):
  iy z (.ref a::([.int k]++[])) (upd (upd H dx (.own a)) a (.ins z.Endless dx [])) (fun v H2=>v=.non∧R H2) E0 :=
 ⟨a,dx,k,rfl,ak,rfl,by rw[eO];exact h _ (cX ha hd _) ak⟩
theorem mkU {t:Addr}{xs:List V}(ha:H a=none)(hd:H dx=none)(ht:H t=some (.lst xs))(h:∀ G l,Same H G→G a=some (.ins z.Under dx (mG l))→G l=some (.lst xs)→R G):
  gO z (.ref a::([.ref t]++[])) (upd (upd H dx (.own a)) a (.ins z.Under dx [])) (fun v H2=>v=.non∧R H2) E0:=by
 have e2:=cX ha hd (.ins z.Under dx [])
 refine⟨a,dx,t,xs,rfl,ak,e2 _ _ ht,fun l hl=>⟨rfl,h _ l (fun d o e=>?_) ak ?_⟩⟩
 ·rw[aJ (aM e ha)];exact (e2.trans (aq hl _)) d o e
 ·rw[aJ (fun e=>by rw[e,ak] at hl;cases hl),ak]
theorem mkR {b k:Addr}{us xs:List V}(ha:H a=none)(hd:H dx=none)(hb:H b=some (.lst us))(hk:H k=some (.lst xs))
  (h:∀ G bL kL,Same H G→G a=some (.ins z.Ranges dx (tH bL kL))→G bL=some (.lst us)→G kL=some (.lst xs)→bL≠kL→R G) :
  gR z (.ref a::([.ref b,.ref k]++[])) (upd (upd H dx (.own a)) a (.ins z.Ranges dx [])) (fun v H2=>v=.non∧R H2) E0:=by
 have e2:=cX ha hd (.ins z.Ranges dx [])
 exact⟨a,dx,b,k,us,xs,rfl,ak,e2 _ _ hb,e2 _ _ hk,fun bL kL G keep k1 k2 k3 n _ _=>⟨rfl,h G bL kL (fun c o e=>keep c o (aM e ha) (e2 _ _ e)) k1 k2 k3 n⟩⟩
end
theorem ae7 {v:Bool}{A:Prop}(i:v=true↔A)(h:¬ A):v=false:=Bool.eq_false_iff.mpr fun e=>h (i.mp e)
theorem W2 (l:List (Int×Int))(h:(l.all fun p=>decide (0≤p.1∧p.1≤100∧0≤p.2∧p.2≤100))=true):∀ p∈l,mO p:=fun p hp=>by
 obtain⟨a,b,c,d⟩:=of_decide_eq_true (List.all_eq_true.mp h p hp)
 exact⟨⟨a,by omega⟩,⟨c,by omega⟩⟩
theorem wG {x y:Int}(h:0≤x∧x≤100∧0<y∧y≤100∧Int.gcd x y=1):tO x y:=⟨⟨h.1,by omega⟩,⟨by omega,by omega⟩,h.2.2.1,h.2.2.2.2⟩
abbrev Jb:List (Int×Int):=[(0,4),(6,1),(2,3),(9,0)]
theorem ok0:∀ p∈Jb,mO p:=W2 _ (by decide)
theorem Ie {ps:List (Int×Int)}{p:Int×Int}{k1 k2 w1 w2:Int}:yw ps p k1 k2 w1 w2↔(0≤k1∧k1<(ps.length:Int))∧(0≤k2∧k2<(ps.length:Int))∧0≤w1∧0≤w2∧0<w1+w2∧w1*(tar ps k1).1+w2*(tar ps k2).1≤(w1+w2)*p.1∧w1*(tar ps k1).2+w2*(tar ps k2).2≤(w1+w2)*p.2 :=
 ⟨fun h=>⟨h.in1,h.in2,h.n1,h.n2,h.pos,h.once,h.piece⟩,fun⟨a,b,c,d,e,f,g⟩=>⟨a,b,c,d,e,f,g⟩⟩
theorem jK {ps:List (Int×Int)}{k k1 k2 w1 w2:Int}:Hr ps k k1 k2 w1 w2↔((0≤k1∧k1<(ps.length:Int))∧(0≤k2∧k2<(ps.length:Int))∧0≤w1∧0≤w2∧0<w1+w2∧w1*(tar ps k1).1+w2*(tar ps k2).1≤(w1+w2)*(tar ps k).1∧w1*(tar ps k1).2+w2*(tar ps k2).2≤(w1+w2)*(tar ps k).2)∧k1≠k∧k2≠k :=
 ⟨fun h=>⟨Ie.mp h.mix,h.ne1,h.ne2⟩,fun⟨a,b,c⟩=>⟨Ie.mpr a,b,c⟩⟩
theorem Tp:vY Jb [(0,1),(2,1),(3,1)] [0,1,3] where
 len:=rfl
 beg:=⟨rfl,fun i b c h1 h2=>by
  match i,h1,h2 with
  | 0,h1,h2=>cases h1;cases h2;decide
  | 1,h1,h2=>cases h1;cases h2;decide
  | n+2,_,h2=>simp at h2⟩
 Dg:=fun k hk=>by
  simp only[List.mem_cons,List.not_mem_nil,or_false] at hk
  rcases hk with rfl|rfl|rfl<;>decide
 Yb:=fun i k l h1 h2=>by
  match i,h1,h2 with
  | 0,h1,h2=>cases h1;cases h2;decide
  | 1,h1,h2=>cases h1;cases h2;decide
  | n+2,_,h2=>simp at h2
 ends:=⟨fun i b k h1 h2=>by
  match i,h1,h2 with
  | 0,h1,h2=>cases h1;cases h2;unfold dB;decide
  | 1,h1,h2=>cases h1;cases h2;unfold dB;decide
  | 2,h1,h2=>cases h1;cases h2;unfold dB;decide
  | n+3,h1,_=>simp at h1,fun i b k h1 h2=>by
  match i,h1,h2 with
  | 0,h1,h2=>cases h1;cases h2;unfold dB;decide
  | 1,h1,h2=>cases h1;cases h2;unfold dB;decide
  | n+2,h1,_=>simp at h1⟩
 last:=fun k h=>by cases h;decide
theorem jy {A:Prop}(h:¬ A):false=true↔A:=⟨fun e=>(by cases e),fun e=>absurd e h⟩
theorem zR {A:Prop}(h:A):true=true↔A:=⟨fun _=>h,fun _=>rfl⟩
def Ud (v:Bool):TE:=fun σ H Q=>∃ b,σ[0]?=some (some (.ref b))∧bH H b Jb∧∀ H',Same H H'→Q (.bl v) H'
def tIs (vs:List Bool):TA:=fun σ H Q=>∃ b,σ[0]?=some (some (.ref b))∧bH H b Jb∧∀ H',Same H H'→Q (vs.map V.bl) H'
def Le (t' t:TE):Prop:=∀ (σ:L2.St) (H:Hp) (Q:VK),t' σ H Q→t σ H Q
theorem eZ {X:Cx}{e:Expr}{t t':TE}(h:PE X e t)(i:Le t' t):PE X e t':=fun pins s σ H Q I q=>h pins s σ H Q I (i σ H Q q)
theorem gW {X:Cx}:PA X [] (tIs []):=fun pos pins s σ H Q I ⟨_,_,_,q⟩=>ao pos pins s σ H Q I (q H (Same.refl _))
theorem bR {X:Cx}{e:Expr}{es:List Expr}{v:Bool}{vs:List Bool}(a:PE X e (Ud v))(r:PA X es (tIs vs))(h:Ti e=false:=by rfl):PA X (e::es) (tIs (v::vs)) :=
 fun pos pins s σ H Q I ⟨b,hσ,hB,q⟩=>aL a r h pos pins s σ H Q I ⟨b,hσ,hB,fun _ s1=>⟨b,hσ,hB.same s1,fun H2 s2=>q H2 (s1.trans s2)⟩⟩
def Ar (ta:TE)(ps:List (Int×Int)):Prop:=∀ (σ:L2.St) (H:Hp) (Q:VK) (b:Addr),σ[0]?=some (some (.ref b))→bH H b Jb→(∀ c G,Same H G→bH G c ps→Q (.ref c) G)→ta σ H Q
theorem KR:Ar (Gk 0) Jb:=fun _ _ _ _ h B q=>⟨_,h,q _ _ (Same.refl _) B⟩
theorem Yw {ps:List (Int×Int)}(hl:ps.length≤1000):Ar (Ab (Kg ps)) ps:=fun _ _ _ _ _ _ q=>zQ ps hl q
theorem tupI {σ:L2.St}{H:Hp}{Q:VK}(x y:Int)(h:∀ t G,Same H G→G t=some (.tup [.int x,.int y])→Q (.ref t) G):Gq (qO [x,y]) σ H Q:=⟨cI,fun t ht=>h t _ (aq ht _) ak⟩
theorem zU {C D:Addr}{m:Str}{sp sp':Sp}{t u:TA}{σ:L2.St}{H:Hp}{Q:VK}(h:t σ H fun vs H1=>∀ x dx,H1 x=none→H1 dx=none→dx≠x→sp' (.ref x::(vs++[])) (upd (upd H1 dx (.own x)) x (.ins D dx [])) (fun v H2=>v=.non∧∃ a dx fs,V.ref x=.ref a∧H2 a=some (.ins C dx fs)∧fs.lookup m=none∧u σ H2 fun vs H3=>sp (.ref x::(vs++[])) H3 Q E0) E0):
  qu C m sp [] E0 (qR D sp' [] E0 t) u σ H Q:=h
theorem Tq {v:V}{σ:L2.St}{H:Hp}{Q:VK}(h:Q v H):tC v σ H Q:=h
theorem zV {v v':Bool}{A:Prop}(i:v'=true↔A)(h:v=true↔A):v'=v:=Bool.eq_iff_iff.mpr (i.trans h.symm)
section
variable{z:Cz}{ta tb:TE}{ps os:List (Int×Int)}{k1 k2 w1 w2 k x y m:Int}{v:Bool}
theorem nM (A:Ar ta ps)(ok:∀ p∈ps,mO p)(hv:v=true↔Hr ps k k1 k2 w1 w2)(hk:(0≤k∧k<(ps.length:Int))∧(-4≤w1∧w1≤4)∧-4≤w2∧w2≤4:=by decide):
  Le (Ud v) (qu z.Needless "shows" (m9 z) [] E0 (qR z.Needless (mD z) [] E0 (qO [k1,k2,w1,w2])) (dM ta (qO [k]))):=by
 rintro σ H Q ⟨b,hσ,hB,q⟩
 intro a dx ha hd _
 refine mkN ha hd fun H1 s1 e1=>⟨a,dx,_,rfl,e1,JZ _ _ _ _,A _ _ _ _ hσ (hB.same s1) fun c G g hC=>?_⟩
 refine⟨a,c,k,k1,k2,w1,w2,ps,rfl,⟨dx,g _ _ e1⟩,⟨iz (by omega) (by omega),iz (by omega) (by omega),iz (by omega) (by omega)⟩,hC,ok,hk.1.1,hk.1.2,fun v' H2 i s2=>?_⟩
 obtain rfl:=zV i hv
 exact q H2 ((s1.trans g).trans s2)
theorem Kl (hv:v=true↔Hq Jb k x y)(hx:0≤x∧x≤100∧0<y∧y≤100∧Int.gcd x y=1:=by decide)(hk:0≤k∧k<4:=by decide):
  Le (Ud v) (qu z.Alone "shows" (kI z) [] E0 (qR z.Alone (jJ z) [] E0 (dM (Gq (qO [x,y])) nR)) (dM (Gk 0) (qO [k]))):=by
 rintro σ H Q ⟨b,hσ,hB,q⟩
 refine zU (nJ (tupI x y fun t H1 s1 e1=>?_))
 intro a dx ha hd _
 refine mkA ha hd fun H2 s2 e2=>⟨a,dx,_,rfl,e2,Gh _,_,hσ,a,b,k,x,y,Jb,rfl,⟨dx,_,e2,s2 _ _ e1⟩,wG hx,hB.same (s1.trans s2),by decide,ok0,hk.1,hk.2,fun v' H3 i s3=>?_⟩
 obtain rfl:=zV i hv
 exact q H3 ((s1.trans s2).trans s3)
theorem Cw {bs:List (Int×Int)}{ks:List Int}(A:Ar ta ps)(ok:∀ p∈ps,mO p)(hv:v=true↔vY ps bs ks)(hn:ps≠[]∧ps.length≤1000∧bs.length≤1000∧ks.length≤1000:=by decide)(okb:(bs.all fun p=>decide (0≤p.1∧p.1≤100∧0<p.2∧p.2≤100∧Int.gcd p.1 p.2=1))=true:=by decide):
  Le (Ud v) (qu z.Ranges "shows" (jC z) [] E0 (qR z.Ranges (gR z) [] E0 (dM (Ab (Kg bs)) (dM (Ab (qO ks)) nR))) (dM ta nR)):=by
 rintro σ H Q ⟨b,hσ,hB,q⟩
 refine zU (nJ (zQ bs hn.2.2.1 fun c H1 s1 ⟨us,u1,u2⟩=>nJ (Tj ks hn.2.2.2 fun d H2 s2 d1=>?_)))
 intro a dx ha hd _
 refine mkR ha hd (s2 _ _ u1) d1 fun H3 bL kL s3 e f g n=>⟨a,dx,_,rfl,e,BJ _ _,A _ _ _ _ hσ (hB.same ((s1.trans s2).trans s3)) fun r G sG hC=>?_⟩
 refine⟨a,r,bL,kL,ps,bs,ks,rfl,⟨dx,_,sG _ _ e,sG _ _ f,((u2.same s2).same s3).same sG,sG _ _ g,n⟩,hC,hn.1,hn.2.1,ok,fun p hp=>wG (of_decide_eq_true (List.all_eq_true.mp okb p hp)),hn.2.2.1,fun v' H4 i s4=>?_⟩
 obtain rfl:=zV i hv
 exact q H4 ((((s1.trans s2).trans s3).trans sG).trans s4)
theorem Ob (A:Ar ta ps)(B:Ar tb os)(ok:∀ p∈ps,mO p)(ok':∀ p∈os,mO p)(hv:v=true↔uW ps os x y)(hx:0≤x∧x≤100∧0<y∧y≤100∧Int.gcd x y=1:=by decide)(hn:(ps≠[]∧ps.length≤1000)∧os≠[]∧os.length≤1000:=by decide):
  Le (Ud v) (qu z.Over "shows" (nA z) [] E0 (qR z.Over (jw z) [] E0 (dM (Gq (qO [x,y])) nR)) (dM ta (dM tb nR))):=by
 rintro σ H Q ⟨b,hσ,hB,q⟩
 refine zU (nJ (tupI x y fun t H1 s1 e1=>?_))
 intro a dx ha hd _
 refine mkO ha hd fun H2 s2 e2=>⟨a,dx,_,rfl,e2,J3 _,A _ _ _ _ hσ (hB.same (s1.trans s2)) fun c H3 s3 hC=>B _ _ _ _ hσ (hB.same ((s1.trans s2).trans s3)) fun d H4 s4 hD=>?_⟩
 refine⟨a,c,d,x,y,ps,os,rfl,⟨dx,_,s4 _ _ (s3 _ _ e2),s4 _ _ (s3 _ _ (s2 _ _ e1))⟩,wG hx,hC.same s4,hn.1.1,hn.1.2,ok,hD,hn.2.1,hn.2.2,ok',fun v' H5 i s5=>?_⟩
 obtain rfl:=zV i hv
 exact q H5 ((((s1.trans s2).trans s3).trans s4).trans s5)
theorem zW (A:Ar ta ps)(ok:∀ p∈ps,mO p)(hv:qx ps m k x y=v:=by decide)(hx:0≤x∧x≤100∧0<y∧y≤100∧Int.gcd x y=1:=by decide)(hn:(ps≠[]∧ps.length≤1000)∧-10≤m∧m≤10:=by decide):
  Le (Ud v) (qu z.Most "shows" (nC z) [] E0 (qR z.Most (mH z) [] E0 (dM (tC (.int k)) (dM (Gq (qO [x,y])) nR))) (dM ta (qO [m]))):=by
 rintro σ H Q ⟨b,hσ,hB,q⟩
 refine zU (nJ (Tq (nJ (tupI x y fun t H1 s1 e1=>?_))))
 intro a dx ha hd _
 refine mkM ha hd fun H2 s2 e2=>⟨a,dx,_,rfl,e2,J6 _ _,A _ _ _ _ hσ (hB.same (s1.trans s2)) fun c H3 s3 hC=>?_⟩
 refine⟨a,c,m,ps,k,x,y,rfl,⟨dx,_,s3 _ _ e2,s3 _ _ (s2 _ _ e1)⟩,wG hx,hC,hn.1.1,hn.1.2,ok,iz (by omega) (by omega),fun H4 s4=>?_⟩
 rw[hv]
 exact q H4 (((s1.trans s2).trans s3).trans s4)
theorem qg (hv:jH Jb m k=v:=by decide):
  Le (Ud v) (qu z.Endless "shows" (jg z) [] E0 (qR z.Endless (iy z) [] E0 (qO [k])) (dM (Gk 0) (qO [m]))):=by
 rintro σ H Q ⟨b,hσ,hB,q⟩
 intro a dx ha hd _
 refine mkE ha hd fun H1 s1 e1=>⟨a,dx,_,rfl,e1,yH _,_,hσ,a,b,m,Jb,k,rfl,⟨dx,e1⟩,hB.same s1,fun H2 s2=>?_⟩
 rw[hv]
 exact q H2 (s1.trans s2)
theorem Oc (A:Ar ta ps)(hv:Ww ps m=v:=by decide)(hl:ps.length≤1000:=by decide):Le (Ud v) (qu z.Dear "shows" (nD z) [] E0 (Rg z.Dear) (dM ta (qO [m]))):=by
 rintro σ H Q ⟨b,hσ,hB,q⟩
 intro a dx ha hd _
 have s1:=cX ha hd (.ins z.Dear dx [])
 refine⟨a,dx,_,rfl,ak,rfl,A _ _ _ _ hσ (hB.same s1) fun c G g hC=>⟨a,c,m,ps,rfl,hC,hl,fun H2 s2=>?_⟩⟩
 rw[hv]
 exact q H2 ((s1.trans g).trans s2)
theorem Yx:Le (Ud false) (qu z.Under "shows" (jf z) [] E0 (qR z.Under (gO z) [] E0 (dM (Ab nR) nR)) (dM (Gk 0) (dM (Gk 0) nR))):=by
 rintro σ H Q ⟨b,hσ,hB,q⟩
 refine⟨Nat.zero_le _,fun l hl=>?_⟩
 have s1:=aq hl (.lst [])
 intro a dx ha hd _
 refine mkU ha hd ak fun H2 l2 s2 e2 g2=>⟨a,dx,_,rfl,e2,xK _,_,hσ,_,hσ,?_⟩
 have B:=hB.same (s1.trans s2)
 refine⟨a,b,b,l2,[],Jb,Jb,rfl,⟨dx,_,e2,g2,.nil⟩,⟨by decide,fun r h=>by cases h⟩,B,ok0,B,by decide,ok0,fun v H3 i s3=>?_⟩
 obtain rfl:v=false:=ae7 i fun h=>absurd h.len (by decide)
 exact q H3 ((s1.trans s2).trans s3)
theorem Yy:Le (Ud true) (qu z.Under "shows" (jf z) [] E0 (qR z.Under (gO z) [] E0 (dM (Ab (dM (Gq (qO [0,3,1,0])) nR)) nR)) (dM (Gk 0) (dM (Ab (Kg [(0,5)])) nR))):=by
 rintro σ H Q ⟨b,hσ,hB,q⟩
 refine⟨kE,fun t ht=>⟨one_le,fun l hl=>?_⟩⟩
 have s0:=aq ht (.tup [.int 0,.int 3,.int 1,.int 0])
 have s1:=aq hl (.lst [.ref t])
 intro a dx ha hd _
 refine mkU ha hd ak fun H2 l2 s2 e2 g2=>⟨a,dx,_,rfl,e2,xK _,_,hσ,?_⟩
 refine zQ [(0,5)] (by decide) fun c H3 s3 hC=>?_
 refine⟨a,b,c,l2,[(0,3,1,0)],Jb,[(0,5)],rfl,⟨dx,_,s3 _ _ e2,s3 _ _ g2,.cons ⟨t,rfl,s3 _ _ (s2 _ _ (s1 _ _ ak))⟩ .nil⟩,⟨by decide,fun r h=>by rw[List.mem_singleton.mp h];exact VL _ _ (by decide)⟩,hB.same (((s0.trans s1).trans s2).trans s3),ok0,hC,by decide,W2 _ (by decide),fun v H4 i s4=>?_⟩
 obtain rfl:v=true:=i.mpr ⟨rfl,fun m r p h1 h2=>by match m,h1,h2 with|0,h1,h2=>cases h1;cases h2;exact Ie.mpr (by decide)|n+1,h1,_=>simp at h1⟩
 exact q H4 ((((s0.trans s1).trans s2).trans s3).trans s4)
end
theorem Tt {vs:List Bool}{g:TG}{u:TS}{D:Ends}{σ:L2.St}{H:Hp}{b:Addr}(hσ:σ[0]?=some (some (.ref b)))(hB:bH H b Jb)(hl:vs.length≤1000)(h:∀ l G,Same H G→G l=some (.lst (vs.map V.bl))→g (.ref l) σ G (u D)):Qw (Oh (Ab (tIs vs)) g) u D σ H :=
 ⟨b,hσ,hB,fun _ s1=>⟨cg (by rw[List.length_map];exact hl),fun l hn=>h l _ (s1.trans (aq hn _)) ak⟩⟩
theorem mJ {K:PySem.W.Frag}{us vs:List Bool}{g:TG}{u:TS}{D:Ends}{σ:L2.St}{H:Hp}{b l:Addr}{i:Nat}(hσ:σ[0]?=some (some (.ref b)))(hB:bH H b Jb)(hi:σ[i]?=some (some (.ref l)))(hL:H l=some (.lst (us.map V.bl)))(hl:us.length+vs.length≤1000)(h:∀ p G,Same H G→H p=none→G p=some (.lst ((us++vs).map V.bl))→g (.ref p) σ G (u D)):Qw (Oh (ZJ (Rc K) (Gk i) (Ab (tIs vs))) g) u D σ H:=by
 refine⟨_,hi,b,hσ,hB,fun H1 s1=>⟨cg (by rw[List.length_map];omega),fun m hm=>?_⟩⟩
 have s2:=s1.trans (aq hm (.lst (vs.map V.bl)))
 refine⟨l,m,_,_,rfl,rfl,aQ.of (s2 _ _ hL),aQ.of ak,cg (by rw[List.length_map,List.length_map];exact hl),fun p hp=>?_⟩
 rw[←List.map_append]
 exact h p _ (s2.trans (aq hp _)) (s2.free hp) ak
theorem Tv {v:Bool}(us:List Bool)(h:us.all (· == v)=true):∀ x∈us.map V.bl,x=V.bl v:=fun x hx=>by
 obtain⟨u,hu,rfl⟩:=List.mem_map.mp hx
 rw[eq_of_beq (List.all_eq_true.mp h u hu)]
section
variable{P:Program}{w:World}{K:PySem.W.Frag}{mg:Str→Option Value}{base:Heap}{z:Cz}
def W3:Sp:=fun vs H Q _=>vs=[]∧∀ H',Same H H'→Q (.bl true) H'
theorem bC:aY ["_law_book_here", "_law_bad", "_law_good"] [] (aC jX):=⟨rfl,rfl,rfl,by decide +kernel,rfl,by decide +kernel,by decide +kernel⟩
theorem xR {f:Addr}{fd:FuncData}(F:gY K "_law_outright" "_law_outright" jX f fd)(B:Bl mg)(T:CT K mg z)
  (cQ:Cl P w K mg base 1 "_law_says" ["_law_said", "_law_due"] xO)
  (fD:Dm P w K mg base 1 z.Needless ["self", "one", "other", "first", "second"] (mD z))
  (zO:Dm P w K mg base 1 z.Alone ["self", "amount"] (jJ z))
  (kZ:Dm P w K mg base 1 z.Endless ["self", "place"] (iy z))
  (tK:Dm P w K mg base 1 z.Under ["self", "rows"] (gO z))
  (jd:Dm P w K mg base 1 z.Ranges ["self", "begins", "places"] (gR z))
  (uX:Dm P w K mg base 1 z.Over ["self", "amount"] (jw z))
  (xP:Dm P w K mg base 1 z.Most ["self", "place", "amount"] (mH z))
  (cC:Fz P w K mg base 5 z.Needless "shows" ["self", "book", "place"] (m9 z))
  (jD:Fz P w K mg base 4 z.Alone "shows" ["self", "book", "place"] (kI z))
  (eH:Fz P w K mg base 3 z.Endless "shows" ["self", "book", "money"] (jg z))
  (jE:Fz P w K mg base 5 z.Under "shows" ["self", "one", "other"] (jf z))
  (d7:Fz P w K mg base 5 z.Ranges "shows" ["self", "book"] (jC z))
  (kW:Fz P w K mg base 4 z.Over "shows" ["self", "one", "other"] (nA z))
  (gU:Fz P w K mg base 4 z.Most "shows" ["self", "book", "money"] (nC z))
  (kO:Fz P w K mg base 1 z.Dear "shows" ["self", "book", "money"] (nD z)):cA P w K mg base gB 6 f fd [] W3:=by
 refine F.ok bC (fun vs H Q E h=>?_) (fun cdv A outer s H vs Q E hr h=>?_)
 ·obtain⟨rfl,_⟩:=h
  rfl
 ·obtain⟨rfl,q⟩:=h
  refine⟨_,(by refine' aB ?q0a ?q0b;(case q0a=>exact (by refine' aW (i:=0) ?s1 ?s2 ?s3 ?s4;(case s4=>(refine' bF ?alq;(case alq=>refine dI (ps:=[(0,4),(6,1),(2,3),(9,0)]) ?_;kernel_rfl)));(case s1=>exact bC.nd);(case s2=>exact rfl);(case s3=>exact (Or.inl rfl))));(case q0b=>exact (aB (aW (i:=1) bC.nd rfl (Or.inl rfl) (by (refine' bF ?alr;(case alr=>(refine' bR ?als ?alw;(case als=>exact (eZ (cC.pe hr T.bG (fD.pe hr T.eX (by (refine bf (ks:=[0,1,0,0]) ?_;kernel_rfl))) (by (refine' aL ?alu ?alv;(case alu=>exact (pv 0));(case alv=>(refine bf (ks:=[2]) ?_;kernel_rfl))))) (nM KR ok0 (jy (by rw[jK];decide)))));(case alw=>(refine' bR ?alx ?alA;(case alx=>exact (eZ (cC.pe hr T.bG (fD.pe hr T.eX (by (refine bf (ks:=[2,2,1,1]) ?_;kernel_rfl))) (by (refine' aL ?aly ?alz;(case aly=>exact (pv 0));(case alz=>(refine bf (ks:=[2]) ?_;kernel_rfl))))) (nM KR ok0 (jy (by rw[jK];decide)))));(case alA=>exact gW)))))))) (aB (aW (i:=1) bC.nd rfl (Or.inl rfl) (aF (jF K) (pv 1) (by (refine' bF ?alB;(case alB=>(refine' bR ?alC ?alF;(case alC=>exact (eZ (cC.pe hr T.bG (fD.pe hr T.eX (by (refine bf (ks:=[0,1,3,-1]) ?_;kernel_rfl))) (by (refine' aL ?alD ?alE;(case alD=>exact (pv 0));(case alE=>(refine bf (ks:=[2]) ?_;kernel_rfl))))) (nM KR ok0 (jy (by rw[jK];decide)))));(case alF=>(refine' bR ?alG ?alJ;(case alG=>exact (eZ (cC.pe hr T.bG (fD.pe hr T.eX (by (refine bf (ks:=[0,1,1,2]) ?_;kernel_rfl))) (by (refine' aL ?alH ?alI;(case alH=>exact (pv 0));(case alI=>(refine bf (ks:=[2]) ?_;kernel_rfl))))) (nM KR ok0 (jy (by rw[jK];decide)))));(case alJ=>exact gW))))))))) (aB (aW (i:=1) bC.nd rfl (Or.inl rfl) (aF (jF K) (pv 1) (by (refine' bF ?alK;(case alK=>(refine' bR ?alL ?alP;(case alL=>exact (eZ (cC.pe hr T.bG (fD.pe hr T.eX (by (refine bf (ks:=[0,1,2,-1]) ?_;kernel_rfl))) (by (refine' aL ?alM ?alO;(case alM=>(refine' bF ?alN;(case alN=>refine dI (ps:=[(1,1),(5,5),(2,2)]) ?_;kernel_rfl)));(case alO=>(refine bf (ks:=[2]) ?_;kernel_rfl))))) (nM (Yw (by decide)) (W2 _ (by decide)) (jy (by rw[jK];decide)))));(case alP=>(refine' bR ?alQ ?alT;(case alQ=>exact (eZ (cC.pe hr T.bG (fD.pe hr T.eX (by (refine bf (ks:=[0,0,1,0]) ?_;kernel_rfl))) (by (refine' aL ?alR ?alS;(case alR=>exact (pv 0));(case alS=>(refine bf (ks:=[2]) ?_;kernel_rfl))))) (nM KR ok0 (jy (by rw[jK];decide)))));(case alT=>exact gW))))))))) (aB (aW (i:=1) bC.nd rfl (Or.inl rfl) (aF (jF K) (pv 1) (by (refine' bF ?alU;(case alU=>(refine' bR ?alV ?alY;(case alV=>exact (eZ (cC.pe hr T.bG (fD.pe hr T.eX (by (refine bf (ks:=[0,-3,2,1]) ?_;kernel_rfl))) (by (refine' aL ?alW ?alX;(case alW=>exact (pv 0));(case alX=>(refine bf (ks:=[2]) ?_;kernel_rfl))))) (nM KR ok0 (jy (by rw[jK];decide)))));(case alY=>(refine' bR ?alZ ?al5;(case alZ=>exact (eZ (jD.pe hr T.o7 (zO.pe hr T.Bd (by (refine' aL ?al0 ?al2;(case al0=>(refine' bN ?al1;(case al1=>(refine bf (ks:=[2,1]) ?_;kernel_rfl))));(case al2=>exact ao)))) (by (refine' aL ?al3 ?al4;(case al3=>exact (pv 0));(case al4=>(refine bf (ks:=[2]) ?_;kernel_rfl))))) (Kl (jy fun h=>absurd (h 0 (0,4) rfl (by decide)) (by decide)))));(case al5=>exact gW))))))))) (aB (aW (i:=1) bC.nd rfl (Or.inl rfl) (aF (jF K) (pv 1) (by (refine' bF ?al6;(case al6=>(refine' bR ?al7 ?amg;(case al7=>exact (eZ (d7.pe hr T.cJ (jd.pe hr T.jt (by (refine' aL ?al8 ?ama;(case al8=>(refine' bF ?al9;(case al9=>refine dI (ps:=[(0,1),(2,1)]) ?_;kernel_rfl)));(case ama=>(refine' aL ?amb ?amd;(case amb=>(refine' bF ?amc;(case amc=>(refine bf (ks:=[0,1]) ?_;kernel_rfl))));(case amd=>exact ao)))))) (by (refine' aL ?ame ?amf;(case ame=>exact (pv 0));(case amf=>exact ao)))) (Cw KR ok0 (jy fun h=>absurd (h.last 1 rfl (9,0) (by decide)) (by decide)))));(case amg=>(refine' bR ?amh ?amr;(case amh=>exact (eZ (d7.pe hr T.cJ (jd.pe hr T.jt (by (refine' aL ?ami ?amk;(case ami=>(refine' bF ?amj;(case amj=>refine dI (ps:=[(0,1),(2,1),(4,1)]) ?_;kernel_rfl)));(case amk=>(refine' aL ?aml ?amn;(case aml=>(refine' bF ?amm;(case amm=>(refine bf (ks:=[0,1,3]) ?_;kernel_rfl))));(case amn=>exact ao)))))) (by (refine' aL ?amo ?amq;(case amo=>exact (pv 0));(case amq=>exact ao)))) (Cw KR ok0 (jy fun h=>absurd (h.ends.2 1 (4,1) 1 rfl rfl (9,0) (by decide)) (by decide)))));(case amr=>exact gW))))))))) (aB (aW (i:=1) bC.nd rfl (Or.inl rfl) (aF (jF K) (pv 1) (by (refine' bF ?ams;(case ams=>(refine' bR ?amt ?amE;(case amt=>exact (eZ (d7.pe hr T.cJ (jd.pe hr T.jt (by (refine' aL ?amu ?amw;(case amu=>(refine' bF ?amv;(case amv=>refine dI (ps:=[(1,1)]) ?_;kernel_rfl)));(case amw=>(refine' aL ?amx ?amA;(case amx=>(refine' bF ?amy;(case amy=>(refine bf (ks:=[0]) ?_;kernel_rfl))));(case amA=>exact ao)))))) (by (refine' aL ?amB ?amD;(case amB=>(refine' bF ?amC;(case amC=>refine dI (ps:=[(0,0)]) ?_;kernel_rfl)));(case amD=>exact ao)))) (Cw (Yw (by decide)) (W2 _ (by decide)) (jy fun h=>absurd h.beg.1 (by decide)))));(case amE=>(refine' bR ?amF ?amP;(case amF=>exact (eZ (d7.pe hr T.cJ (jd.pe hr T.jt (by (refine' aL ?amG ?amI;(case amG=>(refine' bF ?amH;(case amH=>refine dI (ps:=[(0,1),(1,1)]) ?_;kernel_rfl)));(case amI=>(refine' aL ?amJ ?amL;(case amJ=>(refine' bF ?amK;(case amK=>(refine bf (ks:=[0,0]) ?_;kernel_rfl))));(case amL=>exact ao)))))) (by (refine' aL ?amM ?amO;(case amM=>(refine' bF ?amN;(case amN=>refine dI (ps:=[(0,0)]) ?_;kernel_rfl)));(case amO=>exact ao)))) (Cw (Yw (by decide)) (W2 _ (by decide)) (jy fun h=>h.Yb 0 0 0 rfl rfl rfl))));(case amP=>exact gW))))))))) (aB (aW (i:=1) bC.nd rfl (Or.inl rfl) (aF (jF K) (pv 1) (by (refine' bF ?amQ;(case amQ=>(refine' bR ?amR ?amZ;(case amR=>exact (eZ (kW.pe hr T.kh (uX.pe hr T.vQ (by (refine' aL ?amS ?amU;(case amS=>(refine' bN ?amT;(case amT=>(refine bf (ks:=[2,1]) ?_;kernel_rfl))));(case amU=>exact ao)))) (by (refine' aL ?amV ?amW;(case amV=>exact (pv 0));(case amW=>(refine' aL ?amX ?amY;(case amX=>exact (pv 0));(case amY=>exact ao)))))) (Ob KR KR ok0 ok0 (jy (by unfold uW;decide)))));(case amZ=>(refine' bR ?am0 ?am9;(case am0=>exact (eZ (jE.pe hr T.iZ (tK.pe hr T.rM (by (refine' aL ?am1 ?am4;(case am1=>(refine' bF ?am3;(case am3=>exact ao)));(case am4=>exact ao)))) (by (refine' aL ?am5 ?am6;(case am5=>exact (pv 0));(case am6=>(refine' aL ?am7 ?am8;(case am7=>exact (pv 0));(case am8=>exact ao)))))) (Yx)));(case am9=>(refine' bR ?ana ?anj;(case ana=>exact (eZ (gU.pe hr T.iB (xP.pe hr T.vR (by (refine' aL ?anb ?anc;(case anb=>exact aA);(case anc=>(refine' aL ?ane ?ang;(case ane=>(refine' bN ?anf;(case anf=>(refine bf (ks:=[2,1]) ?_;kernel_rfl))));(case ang=>exact ao)))))) (by (refine' aL ?anh ?ani;(case anh=>exact (pv 0));(case ani=>(refine bf (ks:=[9]) ?_;kernel_rfl))))) (zW (v:=false) KR ok0)));(case anj=>exact gW))))))))))) (aB (aW (i:=1) bC.nd rfl (Or.inl rfl) (aF (jF K) (pv 1) (by (refine' bF ?q96;(case q96=>(refine' bR ?q97 ?q98;(case q97=>exact (eZ (gU.pe hr T.iB (xP.pe hr T.vR (by (refine' aL ?q99 ?ank;(case q99=>exact aA);(case ank=>(refine' aL ?anl ?ano;(case anl=>(refine' bN ?anm;(case anm=>(refine bf (ks:=[0,1]) ?_;kernel_rfl))));(case ano=>exact ao)))))) (by (refine' aL ?anp ?anr;(case anp=>(refine' bF ?anq;(case anq=>refine dI (ps:=[(9,1),(8,1),(7,1),(9,1)]) ?_;kernel_rfl)));(case anr=>(refine bf (ks:=[9]) ?_;kernel_rfl))))) (zW (v:=false) (Yw (by decide)) (W2 _ (by decide)))));(case q98=>(refine' bR ?ant ?anD;(case ant=>exact (eZ (gU.pe hr T.iB (xP.pe hr T.vR (by (refine' aL ?anu ?anv;(case anu=>exact aA);(case anv=>(refine' aL ?anw ?anz;(case anw=>(refine' bN ?anx;(case anx=>(refine bf (ks:=[5,1]) ?_;kernel_rfl))));(case anz=>exact ao)))))) (by (refine' aL ?anA ?anC;(case anA=>(refine' bF ?anB;(case anB=>refine dI (ps:=[(4,0)]) ?_;kernel_rfl)));(case anC=>(refine bf (ks:=[4]) ?_;kernel_rfl))))) (zW (v:=false) (Yw (by decide)) (W2 _ (by decide)))));(case anD=>exact gW))))))))) (aB (aW (i:=1) bC.nd rfl (Or.inl rfl) (aF (jF K) (pv 1) (by (refine' bF ?q87;(case q87=>(refine' bR ?q88 ?q89;(case q88=>exact (eZ (eH.pe hr T.gG (kZ.pe hr T.lW (by (refine bf (ks:=[-1]) ?_;kernel_rfl))) (by (refine' aL ?q90 ?q91;(case q90=>exact (pv 0));(case q91=>(refine bf (ks:=[9]) ?_;kernel_rfl))))) (qg (v:=false))));(case q89=>(refine' bR ?q92 ?q93;(case q92=>exact (eZ (eH.pe hr T.gG (kZ.pe hr T.lW (by (refine bf (ks:=[3]) ?_;kernel_rfl))) (by (refine' aL ?q94 ?q95;(case q94=>exact (pv 0));(case q95=>(refine bf (ks:=[8]) ?_;kernel_rfl))))) (qg (v:=false))));(case q93=>exact gW))))))))) (aB (aW (i:=1) bC.nd rfl (Or.inl rfl) (aF (jF K) (pv 1) (by (refine' bF ?q78;(case q78=>(refine' bR ?q79 ?q80;(case q79=>exact (eZ (eH.pe hr T.gG (kZ.pe hr T.lW (by (refine bf (ks:=[1]) ?_;kernel_rfl))) (by (refine' aL ?q81 ?q82;(case q81=>exact (pv 0));(case q82=>(refine bf (ks:=[9]) ?_;kernel_rfl))))) (qg (v:=false))));(case q80=>(refine' bR ?q83 ?q84;(case q83=>exact (eZ (kO.pe hr T.G5 (Ai T.G6 hr rfl T.G4) (by (refine' aL ?q85 ?q86;(case q85=>exact (pv 0));(case q86=>(refine bf (ks:=[0]) ?_;kernel_rfl))))) (Oc (v:=false) KR)));(case q84=>exact gW))))))))) (aB (aW (i:=2) bC.nd rfl (Or.inl rfl) (by (refine' bF ?q62;(case q62=>(refine' bR ?q63 ?q64;(case q63=>exact (eZ (cC.pe hr T.bG (fD.pe hr T.eX (by (refine bf (ks:=[0,1,2,1]) ?_;kernel_rfl))) (by (refine' aL ?q65 ?q66;(case q65=>exact (pv 0));(case q66=>(refine bf (ks:=[2]) ?_;kernel_rfl))))) (nM KR ok0 (zR (jK.mpr (by decide))))));(case q64=>(refine' bR ?q67 ?q68;(case q67=>exact (eZ (jD.pe hr T.o7 (zO.pe hr T.Bd (by (refine' aL ?q69 ?q70;(case q69=>(refine' bN ?q71;(case q71=>(refine bf (ks:=[1,1]) ?_;kernel_rfl))));(case q70=>exact ao)))) (by (refine' aL ?q72 ?q73;(case q72=>exact (pv 0));(case q73=>(refine bf (ks:=[0]) ?_;kernel_rfl))))) (Kl (zR fun m p h k=>by match m,h with|0,h=>exact absurd rfl k|1,h=>cases h;decide|2,h=>cases h;decide|3,h=>cases h;decide|n+4,h=>simp at h))));(case q68=>(refine' bR ?q74 ?q75;(case q74=>exact (eZ (eH.pe hr T.gG (kZ.pe hr T.lW (by (refine bf (ks:=[3]) ?_;kernel_rfl))) (by (refine' aL ?q76 ?q77;(case q76=>exact (pv 0));(case q77=>(refine bf (ks:=[9]) ?_;kernel_rfl))))) (qg (v:=true))));(case q75=>exact gW)))))))))) (aB (aW (i:=2) bC.nd rfl (Or.inl rfl) (aF (jF K) (pv 2) (by (refine' bF ?q42;(case q42=>(refine' bR ?q43 ?q44;(case q43=>exact (eZ (d7.pe hr T.cJ (jd.pe hr T.jt (by (refine' aL ?q45 ?q46;(case q45=>(refine' bF ?q47;(case q47=>refine dI (ps:=[(0,1),(2,1),(3,1)]) ?_;kernel_rfl)));(case q46=>(refine' aL ?q48 ?q49;(case q48=>(refine' bF ?q50;(case q50=>(refine bf (ks:=[0,1,3]) ?_;kernel_rfl))));(case q49=>exact ao)))))) (by (refine' aL ?q51 ?q52;(case q51=>exact (pv 0));(case q52=>exact ao)))) (Cw KR ok0 (zR Tp))));(case q44=>(refine' bR ?q53 ?q54;(case q53=>exact (eZ (gU.pe hr T.iB (xP.pe hr T.vR (by (refine' aL ?q55 ?q56;(case q55=>exact aA);(case q56=>(refine' aL ?q57 ?q58;(case q57=>(refine' bN ?q59;(case q59=>(refine bf (ks:=[2,1]) ?_;kernel_rfl))));(case q58=>exact ao)))))) (by (refine' aL ?q60 ?q61;(case q60=>exact (pv 0));(case q61=>(refine bf (ks:=[8]) ?_;kernel_rfl))))) (zW (v:=true) KR ok0)));(case q54=>exact gW))))))))) (aB (aW (i:=2) bC.nd rfl (Or.inl rfl) (aF (jF K) (pv 2) (by (refine' bF ?q26;(case q26=>(refine' bR ?q27 ?q28;(case q27=>exact (eZ (kO.pe hr T.G5 (Ai T.G6 hr rfl T.G4) (by (refine' aL ?q29 ?q30;(case q29=>(refine' bF ?q31;(case q31=>refine dI (ps:=[(3,0),(2,0)]) ?_;kernel_rfl)));(case q30=>(refine bf (ks:=[1]) ?_;kernel_rfl))))) (Oc (v:=true) (Yw (by decide)))));(case q28=>(refine' bR ?q32 ?q33;(case q32=>exact (eZ (kW.pe hr T.kh (uX.pe hr T.vQ (by (refine' aL ?q34 ?q35;(case q34=>(refine' bN ?q36;(case q36=>(refine bf (ks:=[0,1]) ?_;kernel_rfl))));(case q35=>exact ao)))) (by (refine' aL ?q37 ?q38;(case q37=>(refine' bF ?q39;(case q39=>refine dI (ps:=[(1,0)]) ?_;kernel_rfl)));(case q38=>(refine' aL ?q40 ?q41;(case q40=>exact (pv 0));(case q41=>exact ao)))))) (Ob (Yw (by decide)) KR (W2 _ (by decide)) ok0 (zR (by unfold uW;decide)))));(case q33=>exact gW))))))))) (aB (iU (Fj PySem.F.plainAttrs_list PySem.F.slot_list_append PySem.F.type_list_append kY (pv 2) (by (refine' aL ?q13 ?q14;(case q13=>exact (eZ (jE.pe hr T.iZ (tK.pe hr T.rM (by (refine' aL ?q15 ?q16;(case q15=>(refine' bF ?q17;(case q17=>(refine' aL ?q18 ?q19;(case q18=>(refine' bN ?q20;(case q20=>(refine bf (ks:=[0,3,1,0]) ?_;kernel_rfl))));(case q19=>exact ao)))));(case q16=>exact ao)))) (by (refine' aL ?q21 ?q22;(case q21=>exact (pv 0));(case q22=>(refine' aL ?q23 ?q24;(case q23=>(refine' bF ?q25;(case q25=>refine dI (ps:=[(0,5)]) ?_;kernel_rfl)));(case q24=>exact ao)))))) (Yy)));(case q14=>exact ao))))) (aD (aN (eF (aK (tM K rfl rfl) rfl B.all boot_all (by (refine' aL ?q1 ?q2;(case q1=>exact (cF (N':=["_law_said"]) (k:=1) (js:=[]) ⟨rfl,by decide +kernel,by decide +kernel,by rfl,by rfl,rfl⟩ rfl (bM K rfl (pv 1)) (fun _ _ _ _ _=>(aZ (i:=0) (show (["_law_said"]:List Str).Nodup by decide +kernel) rfl (Or.inl rfl))) (bI (by decide)) (fun _ _ _ _ _=>cD) (fun _ _ _ _ _=>(cQ.pe hr (by (refine' aL ?q3 ?q4;(case q3=>exact (pv 0));(case q4=>(refine' aL ?q5 ?q6;(case q5=>exact cM);(case q6=>exact ao)))))))));(case q2=>exact ao)))) (iT (aK (tM K rfl rfl) rfl B.all boot_all (by (refine' aL ?q7 ?q8;(case q7=>exact (cF (N':=["_law_said"]) (k:=1) (js:=[]) ⟨rfl,by decide +kernel,by decide +kernel,by rfl,by rfl,rfl⟩ rfl (bM K rfl (pv 2)) (fun _ _ _ _ _=>(aZ (i:=0) (show (["_law_said"]:List Str).Nodup by decide +kernel) rfl (Or.inl rfl))) (bI (by decide)) (fun _ _ _ _ _=>cD) (fun _ _ _ _ _=>(cQ.pe hr (by (refine' aL ?q9 ?q10;(case q9=>exact (pv 0));(case q10=>(refine' aL ?q11 ?q12;(case q11=>exact cM);(case q12=>exact ao)))))))));(case q8=>exact ao)))))))))))))))))))))))),?_⟩
  refine Yv (zQ Jb (by decide) fun b H0 s0 hB=>?_)
  refine Tt rfl hB (by decide) fun l1 H1 s1 e1=>?_
  refine mJ rfl (hB.same s1) rfl e1 (by decide) fun l2 H2 t2 _ e2=>?_
  have s2:=s1.trans t2
  refine mJ rfl (hB.same s2) rfl e2 (by decide) fun l3 H3 t3 _ e3=>?_
  have s3:=s2.trans t3
  refine mJ rfl (hB.same s3) rfl e3 (by decide) fun l4 H4 t4 _ e4=>?_
  have s4:=s3.trans t4
  refine mJ rfl (hB.same s4) rfl e4 (by decide) fun l5 H5 t5 _ e5=>?_
  have s5:=s4.trans t5
  refine mJ rfl (hB.same s5) rfl e5 (by decide) fun l6 H6 t6 _ e6=>?_
  have s6:=s5.trans t6
  refine mJ rfl (hB.same s6) rfl e6 (by decide) fun l7 H7 t7 _ e7=>?_
  have s7:=s6.trans t7
  refine mJ rfl (hB.same s7) rfl e7 (by decide) fun l8 H8 t8 _ e8=>?_
  have s8:=s7.trans t8
  refine mJ rfl (hB.same s8) rfl e8 (by decide) fun l9 H9 t9 _ e9=>?_
  have s9:=s8.trans t9
  refine mJ rfl (hB.same s9) rfl e9 (by decide) fun l10 H10 t10 _ e10=>?_
  have s10:=s9.trans t10
  refine Tt rfl (hB.same s10) (by decide) fun l11 H11 t11 e11=>?_
  have s11:=s10.trans t11
  refine mJ rfl (hB.same s11) rfl e11 (by decide) fun l12 H12 t12 _ Zf=>?_
  have s12:=s11.trans t12
  refine mJ rfl (hB.same s12) rfl Zf (by decide) fun Tw H13 t13 n13 Qi=>?_
  have Mh:=s12.trans t13
  obtain⟨uF,hF,pF,zF⟩:∃ uF:List V,H10 l10=some (.lst uF)∧(∀ x∈uF,x=V.bl false)∧uF.length≤21:=⟨_,e10,Tv _ (by decide),by decide⟩
  obtain⟨uT,hT,pT,zT⟩:∃ uT:List V,H13 Tw=some (.lst uT)∧(∀ x∈uT,x=V.bl true)∧uT.length≤7:=⟨_,Qi,Tv _ (by decide),by decide⟩
  have hF:=t12 _ _ (t11 _ _ hF)
  have nF:l10≠Tw:=aM hF n13
  have nT:H Tw=none:=(s0.trans s12).free n13
  have hF:=t13 _ _ hF
  refine⟨_,rfl,.inl ⟨rfl,_,aQ.of hT⟩,b,rfl,hB.same Mh,fun W0 t14=>⟨Tw,_,_,rfl,rfl,t14 _ _ hT,bQ (by omega),?_⟩⟩
  have hF:(upd W0 Tw (.lst (uT++[.bl true]))) l10=some (.lst uF):=(aJ nF).trans (t14 _ _ hF)
  have hT:(upd W0 Tw (.lst (uT++[.bl true]))) Tw=some (.lst (uT++[.bl true])):=ak
  have sZ:Same H (upd W0 Tw (.lst (uT++[.bl true]))):=fun c o e=>by rw[aJ (aM e nT)];exact (s0.trans (Mh.trans t14)) c o e
  have pT:∀ x∈uT++[V.bl true],x=V.bl true:=fun x hx=>(List.mem_append.mp hx).elim (pT x) List.mem_singleton.mp
  have zT:(uT++[V.bl true]).length≤8:=by rw[List.length_append];show uT.length+1≤8;omega
  generalize upd W0 Tw (.lst (uT++[.bl true]))=HX at hF hT sZ ⊢
  generalize uT++[V.bl true]=yT at pT zT hT
  refine⟨_,rfl,l10,rfl,⟨_,aQ.of hF⟩,bV (K:=K) (a:=l10) (xs:=uF) (fun i ys G=>HX=G∧oJ (fun _=>True) i ys) ⟨rfl,fY _⟩ (fun i ys G hi e=>⟨by rw[←e.1];exact aQ.of hF,e.2.lt (by omega)⟩) ?_ ?_⟩
  ·rintro i v ys G hi ⟨rfl,ha⟩
   obtain rfl:=pF v (List.mem_of_getElem? hi)
   refine dg ?_
   exact⟨_,rfl,false,false,rfl,Iff.rfl,rfl,ha.snoc ⟨fun _=>trivial,fun _=>rfl⟩⟩
  rintro ys G ⟨rfl,bs,rfl,_,hb⟩ D hD
  refine⟨D,bs,rfl,aQ.of ak,?_⟩
  rw[hb.mpr fun _ _=>trivial]
  refine⟨_,rfl,fH ?_⟩
  have sD:=aq hD (.lst (bs.map V.bl))
  have hT:=sD _ _ hT
  generalize upd HX D (.lst (bs.map V.bl))=HY at sD hT ⊢
  refine⟨_,rfl,Tw,rfl,⟨_,aQ.of hT⟩,bV (K:=K) (a:=Tw) (xs:=yT) (fun i ys G=>HY=G∧oJ (fun _=>True) i ys) ⟨rfl,fY _⟩ (fun i ys G hi e=>⟨by rw[←e.1];exact aQ.of hT,e.2.lt (by omega)⟩) ?_ ?_⟩
  ·rintro i v ys G hi ⟨rfl,ha⟩
   obtain rfl:=pT v (List.mem_of_getElem? hi)
   refine dg ?_
   exact⟨_,rfl,true,true,rfl,Iff.rfl,rfl,ha.snoc ⟨fun _=>trivial,fun _=>rfl⟩⟩
  ·rintro ys G ⟨rfl,Yc,rfl,_,hb2⟩ D2 hD2
   refine⟨D2,Yc,rfl,aQ.of ak,?_⟩
   rw[hb2.mpr fun _ _=>trivial]
   exact q _ ((sZ.trans sD).trans (aq hD2 _))
end
theorem Cy {xs:List V}{lo hi st:Option Int}{v:V}(h:v∈lB xs lo hi st):v∈xs:=by
 unfold lB at h
 obtain⟨k,_,e⟩:=List.mem_filterMap.mp h
 exact List.mem_of_getElem? e
theorem Tz {xs:List V}{v:V}(h:xs[0]?=some v):v∈lB xs none none (some 2):=by
 have hl:=(List.getElem?_eq_some_iff.mp h).1
 unfold lB
 have hb:sliceBounds none none (some 2) xs.length=(0,(xs.length:Int),2):=by simp[sliceBounds]
 rw[hb]
 refine List.mem_filterMap.mpr ⟨0,?_,h⟩
 unfold sliceRange
 dsimp only
 rw[if_pos (by decide),if_pos (by lia)]
 refine List.mem_map.mpr ⟨0,List.mem_range.mpr ?_,rfl⟩
 lia
theorem xT {H:Hp}{ps:List (Int×Int)}:∀ zs:List V,(∀ v∈zs,∃ r p,v=V.ref r∧H r=some (.tup [.int p.1,.int p.2])∧p∈ps)→∃ qs,cu H zs qs∧∀ p∈qs,p∈ps
 | [],_=>⟨[],.nil,fun p h=>by cases h⟩
 | v::zs,h=>by
  obtain⟨qs,h1,h2⟩:=xT zs fun u hu=>h u (List.mem_cons_of_mem _ hu)
  obtain⟨r,p,rfl,hr,hp⟩:=h v (List.mem_cons_self ..)
  refine⟨p::qs,.cons ⟨r,rfl,hr⟩ h1,fun q hq=>?_⟩
  rcases List.mem_cons.mp hq with rfl|hq
  ·exact hp
  ·exact h2 q hq
theorem xU {H:Hp}{vs:List V}{ps:List (Int×Int)}(h:cu H vs ps){v:V}(hv:v∈vs):∃ r p,v=V.ref r∧H r=some (.tup [.int p.1,.int p.2])∧p∈ps:=by
 obtain⟨i,hi⟩:=List.getElem?_of_mem hv
 obtain⟨p,hp,r,rfl,hr⟩:=bh h hi
 exact⟨r,p,rfl,hr,List.mem_of_getElem? hp⟩
def TF (H:Hp)(v:V):Prop:=∃ r x y,v=.ref r∧H r=some (.tup [.int x,.int y])∧tO x y∧x≤10 ^ 40∧y≤10 ^ 40
theorem TF.same {H H':Hp}{v:V}(h:TF H v)(s:Same H H'):TF H' v:=let ⟨r,x,y,h1,h2,h3⟩:=h;⟨r,x,y,h1,s _ _ h2,h3⟩
theorem TF.qF {H H':Hp}{v:V}(h:TF H v)(s:fM H H'):TF H' v:=let ⟨r,x,y,h1,h2,h3⟩:=h;⟨r,x,y,h1,s.2 _ _ h2 rfl,h3⟩
theorem TJ {p:Int×Int}{j:Int}(h:Wv p)(j0:0≤j)(j1:j≤64):jm (cst p j 1):=by
 obtain⟨⟨a1,a2⟩,⟨a3,a4⟩⟩:=h
 have h1:0≤p.2*j:=Int.mul_nonneg a3 j0
 have h2:p.2*j≤10 ^ 40*64:=Int.mul_le_mul a4 j1 j0 (by decide)
 refine fit_le (10 ^ 60) ?_ (by decide +kernel)
 show (p.1*1+p.2*j).natAbs≤10 ^ 60
 lia
theorem Yz {j:Int}(j0:0≤j)(j1:j≤64):tO j 1:=⟨⟨j0,by lia⟩,⟨by decide,by decide⟩,by decide,Int.gcd_one_right j⟩
theorem VR {xs:List V}(h:xs≠[]):∃ v,Ja xs (-1)=some v∧v∈xs:=by
 refine⟨xs.getLast h,?_,List.getLast_mem h⟩
 have e:=List.dropLast_concat_getLast h
 have:=mj xs.dropLast (xs.getLast h)
 rw[e] at this
 exact this
section
variable{P:Program}{w:World}{K:PySem.W.Frag}{mg:Str→Option Value}{base:Heap}{z:Cz}
inductive W4 (K:PySem.W.Frag)(vs:List V)(H:Hp)(Q:VK):Prop
 | mk (a:Addr) (ns:List Int) (c0:vs=[.ref a]) (c1:aQ K H a (ns.map V.int)) (c2:ns.length≤63) (c3:Tab H) (c4:∀ H',Q (.bl true) H'):W4 K vs H Q
def Od (K:PySem.W.Frag):Sp:=fun vs H Q _=>W4 K vs H Q
theorem sE:aY ["_law_script", "_law_book_here", "_law_code", "_law_many", "_law_amounts", "_law_at", "_law_cell", "_law_place", "_law_money", "_law_row"] ["_law_script"] (aC FJ):=⟨rfl,rfl,rfl,by decide +kernel,rfl,by decide +kernel,by decide +kernel⟩
theorem YB {f:Addr}{fd:FuncData}(F:gY K "law" "law" FJ f fd)(B:Bl mg)(T:CT K mg z)
  (Km:Cl P w K mg base 1 "_law_book" ["_law_script"] (R7 K))
  (Ec:Cl P w K mg base 2 "_law_amount" ["_law_cell"] aeF)
  (cP:Cl P w K mg base 1 "_law_cost" ["_law_tariff", "_law_amount_here"] um)
  (xV:Cl P w K mg base 6 "_law_one_right" ["_law_book_here", "_law_place", "_law_amount_here", "_law_row"] WY)
  (tX:Cl P w K mg base 6 "_law_ranges_right" ["_law_book_here", "_law_script", "_law_amount_here"] (ae1 K))
  (mK:Cl P w K mg base 6 "_law_books_right" ["_law_one", "_law_other", "_law_script", "_law_amount_here"] (N7 K))
  (mL:Cl P w K mg base 5 "_law_money_right" ["_law_book_here", "_law_money", "_law_place", "_law_amount_here"] NZ)
  (zc:Cl P w K mg base 6 "_law_outright" [] W3):cA P w K mg base gB 7 f fd ["_law_script"] (Od K):=by
 refine F.ok sE (fun vs H Q E h=>?_) (fun cdv A outer s H vs Q E hr h=>?_)
 ·obtain⟨a,ns,rfl,_⟩:=h
  rfl
 ·obtain⟨a,ns,rfl,hS,hl,hT,q⟩:=h
  refine⟨_,(aB (bY (dh (cR (zc.pe0 hr))) (aD (aN cM)) bw)
     (aB (z6 (i:=1) (j:=2) rfl sE.nd rfl rfl (by decide) rfl rfl (aj (Km.pe hr (aj (pv 0) ao)) (aj (aK (sumK K rfl rfl) rfl B.sum boot_sum (aj (pv 0) ao)) ao)) (by rfl))
     (aB (aW (i:=3) sE.nd rfl (Or.inl rfl) (aK (iV K) rfl B.len PySem.boot_len (aj (pv 1) ao)))
     (aB (pK (N':=["_law_cell"]) (k:=1) (js:=[]) (i:=4) ⟨rfl,by decide +kernel,by decide +kernel,by rfl,by rfl,rfl⟩ rfl sE.nd rfl rfl (bM K rfl (aF (jF K) (pv 0) (bF (aj (pv 2) ao))))
       (fun _ _ _ _ _=>(aZ (i:=0) (show (["_law_cell"]:List Str).Nodup by decide +kernel) rfl (Or.inl rfl))) (bI (by decide)) (fun _ _ _ _ _=>cD)
       (fun _ _ _ _ _=>(Ec.pe hr (aj (pv 0) ao))))
     (aB (jP PassesOwn.never rfl (bM K rfl (uJ K rfl (Jx (K:=K) rfl rfl rfl B.list rfl B.enum (aj (aF (jF K) (pv 0) (bF (aj (pv 2) ao))) ao)) cZ cZ (cH aA))) (gn K (n:=2) rfl rfl (bO (aZ (i:=5) sE.nd rfl (Or.inl rfl)) (bO (aZ (i:=6) sE.nd rfl (Or.inl rfl)) gk)))
     (aB (z6 (i:=7) (j:=8) rfl sE.nd rfl rfl (by decide) rfl rfl (aj (aF cO (aF bU (pv 6) aA) (pv 3)) (aj (aF cO (aF bU (pv 6) aA) aA) ao)) (by rfl))
     (aB (aW (i:=9) sE.nd rfl (Or.inl rfl) (bN (aj (aF gb (aF cO (pv 6) (aF dj (pv 3) aA)) aA) (aj (aF cO (aF bU (pv 6) aA) (pv 3)) (aj (aF gb (aF cO (aF bU (pv 6) aA) aA) aA) (aj (aF cO (aF bU (pv 6) aA) aA) ao))))))
     (aB (bY (dh (cR (xV.pe hr (aj (pv 1) (aj (pv 7) (aj (aH (aP K) (pv 4) (pv 5) (fun _ _=>rfl)) (aj (pv 9) ao))))))) (aD (aN cM)) bw)
     (aB (bY (dh (cR (mL.pe hr (aj (pv 1) (aj (cP.pe hr (aj (aH (aP K) (pv 1) (pv 7) (fun _ _=>rfl)) (aj (bN (aj (pv 5) (aj aA ao))) ao))) (aj (pv 7) (aj (bN (aj (pv 5) (aj aA ao))) ao))))))) (aD (aN cM)) bw)
     (aD (bY (dh (cR (mL.pe hr (aj (pv 1) (aj (pv 8) (aj (aF gb (aF cO (pv 6) (aF dj (pv 3) aA)) aA) (aj (aH (aP K) (pv 4) (pv 5) (fun _ _=>rfl)) ao))))))) (aD (aN cM)) bw)))))))
     (aB (bY (dh (cR (tX.pe hr (aj (pv 1) (aj (pv 0) (aj (aH (aP K) (pv 4) aA (fun _ _=>rfl)) ao)))))) (aD (aN cM)) bw)
     (aB (bY (dh (cR (mK.pe hr (aj (pv 1) (aj (uJ K rfl (pv 1) cZ cZ (cH aA)) (aj (pv 0) (aj (aH (aP K) (pv 4) (oX jl aA) (fun _ _=>rfl)) ao))))))) (aD (aN cM)) bw)
     (aD (aN (mK.pe hr (aj (aF (jF K) (uJ K rfl (pv 1) (cH aA) cZ (cH aA)) (cB K rfl (pv 1) cZ (cH aA))) (aj (pv 1) (aj (pv 0) (aj (bN (aj aA (aj aA ao))) ao)))))))))))))),?_⟩
  refine⟨rfl,fun H1 s1=>⟨_,rfl,dz ?_⟩⟩
  have hS1:=s1.seq hS
  have hT1:=TabOk.same hT s1
  clear hS hT s1
  refine⟨_,rfl,a,ns,rfl,hS1,hl,fun b ps H2 s2 hB hne qD hsm=>?_⟩
  have hS2:=s2.seq hS1
  have hT2:=TabOk.same hT1 s2
  clear hS1 hT1 s2
  refine⟨_,rfl,a,ns,rfl,hS2,_,_,rfl,?_⟩
  obtain⟨vs,hv,ht⟩:=id hB
  have yq:=ht.len
  have hpos:0<ps.length:=List.length_pos_iff.mpr hne
  have hp1:(0:Int)<(vs.length:Nat):=by lia
  have hok:∀ p∈ps,mO p:=fun p hp=>(hsm p hp).ok
  refine⟨_,rfl,b,vs,rfl,.inl (aQ.of hv),?_⟩
  refine⟨_,rfl,_,rfl,one_le,fun l1 hl1=>?_⟩
  have e1:=aq hl1 (.lst [.int ns.sum])
  refine⟨a,l1,_,_,rfl,rfl,e1.seq hS2,aQ.of ak,cg (by rw[List.length_map];show ns.length+1≤1000;lia),fun l2 hl2=>?_⟩
  rw[show ns.map V.int++[V.int ns.sum]=(ns++[ns.sum]).map V.int by rw[List.map_append];rfl]
  have e2:=e1.trans (aq hl2 (.lst ((ns++[ns.sum]).map V.int)))
  have g2:(upd (upd H2 l1 (.lst [.int ns.sum])) l2 (.lst ((ns++[ns.sum]).map V.int))) l2=some (.lst ((ns++[ns.sum]).map V.int)):=ak
  generalize upd (upd H2 l1 (.lst [.int ns.sum])) l2 (.lst ((ns++[ns.sum]).map V.int))=H3 at e2 g2 ⊢
  have hlm:(ns++[ns.sum]).length≤64:=by rw[List.length_append];show ns.length+1≤64;lia
  have hlp:0<(ns++[ns.sum]).length:=by rw[List.length_append];show 0<ns.length+1;lia
  generalize hms:ns++[ns.sum]=ms at g2 hlm hlp ⊢
  clear e1 hl1 hl2
  refine⟨l2,rfl,⟨_,aQ.of g2⟩,bV (K:=K) (a:=l2) (xs:=ms.map V.int) (fun i ys H4=>Same H3 H4∧ys.length=i∧∀ v∈ys,TF H4 v) ⟨Same.refl _,rfl,fun v h=>by cases h⟩ (fun i ys H4 hi e=>⟨e.1.seq (aQ.of g2),by rw[e.2.1];exact bQ (by rw[List.length_map] at hi;lia)⟩) ?_ ?_⟩
  ·rintro i v ys H4 hi ⟨s4,Uc,hy⟩
   obtain⟨c,hc,rfl⟩:=int_at hi
   refine dg ?_
   refine⟨_,rfl,c,rfl,fun x y p am sm hp=>?_⟩
   have s5:=aq hp (.tup [.int x,.int y])
   refine⟨s4.trans s5,by rw[List.length_append,Uc];rfl,oO (fun v hv=>(hy v hv).same s5) fun v hv=>?_⟩
   rw[List.mem_singleton.mp hv]
   exact⟨p,x,y,rfl,ak,am,sm⟩
  rintro us H4 ⟨s4,Bv,hu⟩ uA huA
  rw[List.length_map] at Bv
  have s5:=(e2.trans s4).trans (aq huA (.lst us))
  have gu:(upd H4 uA (.lst us)) uA=some (.lst us):=ak
  have hu5:∀ v∈us,TF (upd H4 uA (.lst us)) v:=fun v hv=>(hu v hv).same (aq huA _)
  generalize upd H4 uA (.lst us)=H5 at s5 gu hu5 ⊢
  have hB5:=hB.same s5
  have hS5:=s5.seq hS2
  have hT5:=TabOk.same hT2 s5
  clear e2 g2 s4 s5 hu huA hB hS2 hT2 hv ht
  refine⟨_,rfl,_,rfl,one_le,fun l3 hl3=>?_⟩
  have e1:=aq hl3 (.lst [.int ns.sum])
  refine⟨a,l3,_,_,rfl,rfl,e1.seq hS5,aQ.of ak,cg (by rw[List.length_map];show ns.length+1≤1000;lia),fun l4 Uc=>?_⟩
  rw[show ns.map V.int++[V.int ns.sum]=(ns++[ns.sum]).map V.int by rw[List.map_append];rfl,hms]
  have e2:=e1.trans (aq Uc (.lst (ms.map V.int)))
  refine⟨l4,ms.map V.int,rfl,aQ.of ak,by rw[List.length_map];lia,fun l5 ys H6 s6 h5 hly hys=>?_⟩
  have s56:=e2.trans s6
  rw[List.length_map] at hly
  refine⟨_,rfl,l5,ys,rfl,aQ.of h5,by decide,fun _ l6 Vq=>?_⟩
  have m6:∀ v∈lB ys none none (some 4),v∈ys:=fun v hv=>Cy hv
  generalize lB ys none none (some 4)=zs at m6 ⊢
  have T7:=s56.trans (aq Vq (.lst zs))
  have g6:(upd H6 l6 (.lst zs)) l6=some (.lst zs):=ak
  have hz:∀ v∈zs,∃ (T:Addr) (j:Nat) (c:Int),v=.ref T∧(upd H6 l6 (.lst zs)) T=some (.tup [.int j,.int c])∧j<ms.length:=fun v hv=>by
   obtain⟨j,hj⟩:=List.getElem?_of_mem (m6 v hv)
   obtain⟨T,x,rfl,hT,hx⟩:=hys j v hj
   obtain⟨c,hc,rfl⟩:=int_at hx
   exact⟨T,j,c,rfl,(aq Vq _) _ _ hT,(List.getElem?_eq_some_iff.mp hc).1⟩
  generalize upd H6 l6 (.lst zs)=H7 at T7 g6 hz ⊢
  have Y9:=hB5.same T7
  have hS7:=T7.seq hS5
  have hT7:=TabOk.same hT5 T7
  have gu7:=T7 _ _ gu
  have hu7:∀ v∈us,TF H7 v:=fun v hv=>(hu5 v hv).same T7
  clear e1 e2 s6 s56 T7 hl3 Uc Vq h5 hys m6 hB5 hS5 hT5 gu hu5
  obtain⟨vs7,hv7,Yu⟩:=id Y9
  have hl7:=Yu.len
  refine⟨l6,rfl,⟨_,aQ.of g6⟩,ig (K:=K) (a:=l6) (xs:=zs) (fun i σ H8=>Same H7 H8∧∃ v5 v6 v7 v8 v9,σ=[some (.ref a),some (.ref b),some (.int ns.sum),some (.int (vs.length:Nat)),some (.ref uA),v5,v6,v7,v8,v9])
   ⟨Same.refl _,_,_,_,_,_,rfl⟩ (fun i σ H8 _ e=>e.1.seq (aQ.of g6)) ?_ ?_⟩
  ·rintro i xv σ H8 hi ⟨s8,v5,v6,v7,v8,v9,rfl⟩
   obtain⟨T',j,c,rfl,hT',hj⟩:=hz xv (List.mem_of_getElem? hi)
   refine⟨T',_,rfl,cT.of (s8 _ _ hT'),rfl,_,_,rfl,_,_,rfl,rfl,?_⟩
   have hB8:=Y9.same s8
   have Zn:=s8 _ _ gu7
   obtain⟨ua,YC⟩:∃ ua,us[j]?=some ua:=⟨us[j]'(by lia),List.getElem?_eq_getElem (by lia)⟩
   obtain⟨ra,x,y,rfl,hra,am,_⟩:=(hu7 ua (List.mem_of_getElem? YC)).same s8
   have hp2:(0:Int)<(vs.length:Nat)+2:=by lia
   refine⟨_,rfl,_,_,rfl,rfl,⟨by decide,oH (by decide +kernel)⟩,_,rfl,_,_,rfl,rfl,hp1,_,rfl,_,_,rfl,rfl,⟨by decide,oH (by decide +kernel)⟩,_,_,rfl,rfl,(by show (0:Int)<90;decide),_,_,rfl,?_⟩
   refine⟨_,rfl,_,rfl,_,_,rfl,rfl,_,_,rfl,rfl,hp2,_,_,rfl,rfl,_,rfl,_,_,rfl,rfl,⟨by decide,oH (by decide +kernel)⟩,_,rfl,_,_,rfl,rfl,hp1,_,rfl,_,_,rfl,rfl,⟨by decide,oH (by decide +kernel)⟩,_,_,rfl,rfl,(by show (0:Int)<6;decide),_,_,rfl,rfl,_,rfl,_,_,rfl,rfl,⟨by decide,oH (by decide +kernel)⟩,_,_,rfl,rfl,(by show (0:Int)<6;decide),kE,fun rw_ hrw=>?_⟩
   have k0:=Int.emod_nonneg (c / 3) (show ((vs.length:Nat):Int)≠0 by lia)
   have k1:=Int.emod_lt_of_pos (c / 3) hp1
   have m0:=Int.emod_nonneg (c / 5) (show (90:Int)≠0 by decide)
   have m1:=Int.emod_lt_of_pos (c / 5) (show (0:Int)<90 by decide)
   have f0:=Int.emod_nonneg (c / 11) (show (6:Int)≠0 by decide)
   have f1:=Int.emod_lt_of_pos (c / 11) (show (0:Int)<6 by decide)
   have f2:=Int.emod_nonneg (c / 13) (show (6:Int)≠0 by decide)
   have f3:=Int.emod_lt_of_pos (c / 13) (show (0:Int)<6 by decide)
   dsimp only at hrw ⊢
   generalize c % ((vs.length:Nat)+2)-1=q1 at hrw ⊢
   generalize c / 7 % ((vs.length:Nat):Int)=q2 at hrw ⊢
   generalize hq3:c / 11 % 6-1=q3 at hrw ⊢
   generalize hq4:c / 13 % 6=q4 at hrw f2 f3 ⊢
   generalize c / 3 % ((vs.length:Nat):Int)=k at k0 k1 ⊢
   generalize c / 5 % 90=m at m0 m1 ⊢
   have kl:k<(ps.length:Int):=by lia
   have sr:=aq hrw (.tup [.int q1,.int q2,.int q3,.int q4])
   have gr:(upd H8 rw_ (.tup [.int q1,.int q2,.int q3,.int q4])) rw_=some (.tup [.int q1,.int q2,.int q3,.int q4]):=ak
   generalize upd H8 rw_ (.tup [.int q1,.int q2,.int q3,.int q4])=H9 at sr gr ⊢
   refine⟨_,rfl,_,rfl,_,rfl,_,rfl,uA,us,j,_,rfl,rfl,aQ.of (sr _ _ Zn),uq YC,_,rfl,b,ra,rw_,k,x,y,q1,q2,q3,q4,ps,rfl,hB8.same sr,by lia,hok,k0,kl,sr _ _ hra,am,gr,iz (by lia) (by lia),iz (by lia) (by lia),iz (by lia) (by lia),fun HA sA=>⟨_,rfl,dz ?_⟩⟩
   have s8A:=sr.trans sA
   have hBA:=hB8.same s8A
   obtain⟨vA,hvA,htA⟩:=id hBA
   obtain⟨u,hu,rt,rfl,FP⟩:=bx htA (bD k0 kl)
   have st:=hsm _ (List.mem_of_getElem? (bD k0 kl))
   have ot:=st.ok
   have j0:(0:Int)≤(j:Nat):=by lia
   have j1:((j:Nat):Int)≤64:=by lia
   have oj:=Yz j0 j1
   refine⟨_,rfl,_,rfl,_,rfl,b,vA,k,_,rfl,rfl,aQ.of hvA,cG k0 hu,_,rfl,cI,fun t1 ht1=>?_⟩
   have e1:=aq ht1 (.tup [.int j,.int 1])
   refine⟨rt,t1,_,_,j,1,rfl,e1 _ _ FP,ak,ot.1.fit,ot.2.fit,oj.x0.fit,oj.y0.fit,?_⟩
   generalize upd HA t1 (.tup [.int j,.int 1])=HB at e1 ⊢
   refine⟨_,rfl,_,rfl,cI,fun t2 S5=>?_⟩
   have e2:=aq S5 (.tup [.int j,.int 1])
   refine⟨b,t2,_,k,j,1,ps,rfl,hBA.same (e1.trans e2),hne,by lia,hok,TJ st j0 j1,ak,oj,fun HC sC=>⟨_,rfl,dz ?_⟩⟩
   have s8C:=s8A.trans ((e1.trans e2).trans sC)
   refine⟨_,rfl,_,rfl,_,rfl,_,rfl,_,_,rfl,rfl,_,_,rfl,rfl,hp2,_,_,rfl,rfl,_,rfl,_,rfl,uA,us,j,_,rfl,rfl,aQ.of (s8C _ _ Zn),uq YC,b,ra,m,_,x,y,ps,rfl,hB8.same s8C,hne,by lia,hok,fit_le 100 (by lia) (by decide +kernel),s8C _ _ hra,am,fun HD sD=>⟨_,rfl,dz ?_⟩⟩
   exact⟨(s8.trans s8C).trans sD,_,_,_,_,_,rfl⟩
  rintro σ H8 ⟨s8,v5,v6,v7,v8,v9,rfl⟩
  have hB8:=Y9.same s8
  have hS8:=s8.seq hS7
  have hT8:=TabOk.same hT7 s8
  have Zn:=s8 _ _ gu7
  have hu8:∀ v∈us,TF H8 v:=fun v hv=>(hu7 v hv).same s8
  clear s8 Y9 hS7 hT7 gu7 hu7 g6 hz hv7 Yu hl7
  have YD:us≠[]:=fun e=>by rw[e] at Bv;have:0=ms.length:=Bv;lia
  obtain⟨ua,YC⟩:∃ ua,us[0]?=some ua:=⟨us[0]'(by lia),List.getElem?_eq_getElem (by lia)⟩
  obtain⟨ra,x,y,rfl,hra,am,_⟩:=hu8 ua (List.mem_of_getElem? YC)
  refine⟨_,rfl,_,rfl,_,rfl,uA,us,0,_,rfl,rfl,aQ.of Zn,cG (by decide) YC,b,a,ra,x,y,ns,ps,rfl,hB8,hne,qD,hok,hS8,hl,hra,am,hT8,fun H9 s9=>⟨_,rfl,dz ?_⟩⟩
  have hB9:=hB8.qF s9
  have hS9:=s9.seq hS8
  have gu9:=s9.2 _ _ Zn rfl
  have hu9:∀ v∈us,TF H9 v:=fun v hv=>(hu8 v hv).qF s9
  have hT9:=s9.1
  clear s9 hB8 hS8 hT8 Zn hu8 hra YC
  obtain⟨YF,hv9,ht9⟩:=id hB9
  have hl9:=ht9.len
  have hmd:∀ p∈ps,SN p:=fun p hp=>(hsm p hp).md
  refine⟨_,rfl,_,rfl,_,rfl,b,YF,rfl,aQ.of hv9,by decide,fun hz2 d hd=>?_⟩
  have md:∀ v∈lB YF none none (some 2),v∈YF:=fun v hv=>Cy hv
  obtain⟨v0,hv0⟩:∃ v0,YF[0]?=some v0:=⟨YF[0]'(by lia),List.getElem?_eq_getElem (by lia)⟩
  have nd:v0∈lB YF none none (some 2):=Tz hv0
  generalize lB YF none none (some 2)=zs2 at hz2 md nd hd ⊢
  have e1:=aq hd (.lst zs2)
  obtain⟨qs,tq,mq⟩:=xT (H:=H9) (ps:=ps) zs2 fun v hv=>xU ht9 (md v hv)
  have hlq:=tq.len
  have hD:bH (upd H9 d (.lst zs2)) d qs:=⟨zs2,ak,tq.same e1⟩
  have nq:qs≠[]:=fun e=>by rw[e] at hlq;rw[List.eq_nil_of_length_eq_zero hlq] at nd;cases nd
  generalize upd H9 d (.lst zs2)=HA at e1 hD ⊢
  obtain⟨ul,hul,mul⟩:=VR YD
  obtain⟨rl,x2,y2,rfl,hrl,am2,b1,b2⟩:=(hu9 ul mul).same e1
  refine⟨_,rfl,_,rfl,_,rfl,uA,us,-1,_,rfl,rfl,aQ.of (e1 _ _ gu9),hul,b,d,a,rl,x2,y2,ns,ps,qs,rfl,hB9.same e1,hne,by lia,hmd,hD,nq,by lia,fun p hp=>hmd p (mq p hp),e1.seq hS9,hl,hrl,am2,b1,b2,TabOk.same hT9 e1,fun HB sB=>⟨_,rfl,dz ?_⟩⟩
  have hBB:=(hB9.same e1).qF sB
  have hSB:=sB.seq (e1.seq hS9)
  have hTB:=sB.1
  clear sB e1 hB9 hS9 hT9 gu9 hu9 hv9 ht9 hD tq nd hrl
  obtain⟨vB,hvB,htB⟩:=id hBB
  have hlB:=htB.len
  refine⟨_,rfl,_,rfl,_,rfl,b,vB,rfl,aQ.of hvB,by decide,fun hz3 d1 hd1=>?_⟩
  have m1:∀ v∈lB vB (some 1) none (some 2),v∈vB:=fun v hv=>Cy hv
  generalize lB vB (some 1) none (some 2)=z3 at hz3 m1 hd1 ⊢
  have e1:=aq hd1 (.lst z3)
  refine⟨_,rfl,_,rfl,b,vB,rfl,aQ.of (e1 _ _ hvB),fun d2 hd2=>?_⟩
  rw[lE _ (by decide)]
  have e2:=aq hd2 (.lst (vB.take (1:Int).toNat))
  have l2':(vB.take (1:Int).toNat).length=1:=by rw[List.length_take];have:(1:Int).toNat=1:=rfl;lia
  have m2:∀ v∈vB.take (1:Int).toNat,v∈vB:=fun v hv=>List.mem_of_mem_take hv
  generalize vB.take (1:Int).toNat=z4 at l2' m2 hd2 e2 ⊢
  refine⟨d1,d2,_,_,rfl,rfl,aQ.of (e2 _ _ ak),aQ.of ak,cg (by lia),fun d3 hd3=>?_⟩
  have e3:=aq hd3 (.lst (z3++z4))
  obtain⟨qs3,tq3,mq3⟩:=xT (H:=HB) (ps:=ps) (z3++z4) (oO (fun v hv=>xU htB (m1 v hv)) fun v hv=>xU htB (m2 v hv))
  have YG:=tq3.len
  have TQ:=(e1.trans e2).trans e3
  have hD3:bH (upd (upd (upd HB d1 (.lst z3)) d2 (.lst z4)) d3 (.lst (z3++z4))) d3 qs3:=⟨_,ak,tq3.same TQ⟩
  rw[List.length_append] at YG
  generalize upd (upd (upd HB d1 (.lst z3)) d2 (.lst z4)) d3 (.lst (z3++z4))=HC at TQ hD3 ⊢
  refine⟨_,rfl,_,rfl,cI,fun t ht=>?_⟩
  have e4:=aq ht (.tup [.int 3,.int 2])
  refine⟨d3,b,a,t,3,2,ns,qs3,ps,rfl,hD3.same e4,fun e=>?_,by lia,fun p hp=>hmd p (mq3 p hp),hBB.same (TQ.trans e4),hne,by lia,hmd,(TQ.trans e4).seq hSB,hl,ak,wG (by decide),by decide,by decide,TabOk.same hTB (TQ.trans e4),fun HZ _=>q HZ⟩
  rw[e] at YG
  have:z3.length+z4.length=0:=YG
  lia
end
def Tr (_:Value):Prop:=True
def Fd (K:PySem.W.Frag)(R:Value→Prop)(nm qn:Str)(st:Stmt)(g:Addr):Prop:=∃ (od an:Option Addr) (sl:Array (Option Value)) (oc kV dc pm cd ct:Value),K.lookup g=some ⟨oc,od,.func (PySem.W.fnOf nm qn (aV st) (aR st) (aC st) .none kV dc pm an cd ct),sl⟩∧PySem.W.codeIn K cd qn=true∧PySem.W.keepIn K (.ref g)=true∧R cd
theorem Fd.fn {K:PySem.W.Frag}{R:Value→Prop}{nm qn:Str}{st:Stmt}{g:Addr}(h:Fd K R nm qn st g):∃ fd,gY K nm qn st g fd∧R fd.code:=by
 obtain⟨_,_,_,_,_,_,_,_,_,l,c,k,r⟩:=h
 exact⟨_,Q5 l c k,r⟩
def Gd (K:PySem.W.Frag)(R:Value→Prop)(nm:Str)(st:Stmt):Prop:=∃ g,PySem.W.nsIn K mainGlobals nm=some (some (.ref g))∧Fd K R nm nm st g
def Md (K:PySem.W.Frag)(C:Addr)(m qn:Str)(st:Stmt):Prop:=∃ g,PySem.W.findIn K (.ref C) m=some (some (.ref g))∧PySem.W.isFn K (.ref g)=true∧Fd K Tr m qn st g
def Kd (K:PySem.W.Frag)(C:Addr):Prop:=PySem.W.plainGet K C Str.empty=true∧PySem.W.hasDictIn K C=true∧PySem.W.plainOver K C=true∧PySem.W.findIn K (.ref C) "__setattr__" = some (some (.builtin "object.__setattr__")) ∧
 PySem.W.makesIn K C=true∧PySem.W.keepIn K (.ref C)=true∧PySem.W.findIn K (.ref C) "__class__" = some (some (.builtin "object.__class__"))∧PySem.W.mroIn K C (.type "object")=some true
section
variable{K:PySem.W.Frag}{mg:Str→Option Value}{h:Heap}{k:Nat}{nm qn:Str}{st:Stmt}{ps:List Str}{sp:Sp}{R:Value→Prop}{C:Addr}
theorem Kd.cls (q:Kd K C):Cls K C:=⟨q.1,q.2.1,q.2.2.1,q.2.2.2.1⟩
theorem Kd.ty (q:Kd K C)(hn:PySem.W.specialIn K (.builtin "object.__class__") "__get__" = some (some (.builtin "getset_descriptor.__get__")))(htk:PySem.W.takesIn K (.builtin "object.__class__")=some true):RV K C:=⟨q.2.2.2.2.2.2.1,hn,htk,q.2.2.2.2.2.2.2⟩
theorem cY (P:Program)(w:World)(base:Heap)(X:K.In h)(G:h.Ns mainGlobals mg)(d:Gd K R nm st)(ok:∀ {f:Addr} {fd:FuncData},gY K nm nm st f fd→R fd.code→cA P w K mg base gB k f fd ps sp)(b:∀ (kV doc pm:Value) (an:Option Addr) (cdv ct:Value) (us:List Value),us.length=ps.length→bindArgs (PySem.W.fnOf nm nm (aV st) (aR st) (aC st) .none kV doc pm an cdv ct) ⟨us,[]⟩=pure (ps.zip us)):Cl P w K mg base k nm ps sp:=by
 obtain⟨g,a,l⟩:=d
 obtain⟨fd,F,r⟩:=l.fn
 exact⟨ok F r,F.binds b,F.kp,PySem.W.mg_of X G a⟩
theorem uY (P:Program)(w:World)(base:Heap)(q:Kd K C)(d:Md K C "__init__" qn st)(ok:∀ {f:Addr} {fd:FuncData},gY K "__init__" qn st f fd→cA P w K mg base gB k f fd ps sp)(b:∀ (kV doc pm:Value) (an:Option Addr) (cdv ct:Value) (us:List Value),us.length=ps.length→bindArgs (PySem.W.fnOf "__init__" qn (aV st) (aR st) (aC st) .none kV doc pm an cdv ct) ⟨us,[]⟩=pure (ps.zip us)):Dm P w K mg base k C ps sp:=by
 obtain⟨g,a,i,l⟩:=d
 obtain⟨fd,F,_⟩:=l.fn
 exact⟨ok F,F.binds b,⟨q.2.2.2.2.1,a,i,q.2.2.2.2.2.1⟩⟩
theorem sH (P:Program)(w:World)(base:Heap)(d:Md K C nm qn st)(ok:∀ {f:Addr} {fd:FuncData},gY K nm qn st f fd→cA P w K mg base gB k f fd ps sp)(b:∀ (kV doc pm:Value) (an:Option Addr) (cdv ct:Value) (us:List Value),us.length=ps.length→bindArgs (PySem.W.fnOf nm qn (aV st) (aR st) (aC st) .none kV doc pm an cdv ct) ⟨us,[]⟩=pure (ps.zip us)):Fz P w K mg base k C nm ps sp:=by
 obtain⟨g,a,i,l⟩:=d
 obtain⟨fd,F,_⟩:=l.fn
 exact⟨ok F,F.binds b,⟨a,i,F.kp⟩⟩
end
theorem V0 {P:List Value→Prop}(h:P []):∀ us:List Value,us.length=0→P us:=fun us e=>by
 match us,e with
 | [],_=>exact h
theorem nO {P:List Value→Prop}(h:∀ x0,P [x0]):∀ us:List Value,us.length=1→P us:=fun us e=>by
 match us,e with
 | [x0],_=>exact h x0
theorem dU {P:List Value→Prop}(h:∀ x0 x1,P [x0,x1]):∀ us:List Value,us.length=2→P us:=fun us e=>by
 match us,e with
 | [x0,x1],_=>exact h x0 x1
theorem dw {P:List Value→Prop}(h:∀ x0 x1 x2,P [x0,x1,x2]):∀ us:List Value,us.length=3→P us:=fun us e=>by
 match us,e with
 | [x0,x1,x2],_=>exact h x0 x1 x2
theorem wH {P:List Value→Prop}(h:∀ x0 x1 x2 x3,P [x0,x1,x2,x3]):∀ us:List Value,us.length=4→P us:=fun us e=>by
 match us,e with
 | [x0,x1,x2,x3],_=>exact h x0 x1 x2 x3
theorem V1 {P:List Value→Prop}(h:∀ x0 x1 x2 x3 x4,P [x0,x1,x2,x3,x4]):∀ us:List Value,us.length=5→P us:=fun us e=>by
 match us,e with
 | [x0,x1,x2,x3,x4],_=>exact h x0 x1 x2 x3 x4
theorem all_mk {l:PySem.W.OpenLaw}{w:World}{K:PySem.W.Frag}{h:Heap}{mg:Str→Option Value}{fa:Addr}(X:K.In h)(G:h.Ns mainGlobals mg)(hfa:mg "law" = some (.ref fa))
  {g qj fG jL fU uZ sI jz xW:Addr}
  (V2:PySem.W.nsIn K mainGlobals "Alone" = some (some (.ref qj)))
  (Mi:PySem.W.nsIn K mainGlobals "Needless" = some (some (.ref fG)))
  (TV:PySem.W.nsIn K mainGlobals "Ranges" = some (some (.ref jL)))
  (V3:PySem.W.nsIn K mainGlobals "Under" = some (some (.ref fU)))
  (YH:PySem.W.nsIn K mainGlobals "Over" = some (some (.ref uZ)))
  (YJ:PySem.W.nsIn K mainGlobals "Most" = some (some (.ref sI)))
  (Qk:PySem.W.nsIn K mainGlobals "Endless" = some (some (.ref jz)))
  (YK:PySem.W.nsIn K mainGlobals "Dear" = some (some (.ref xW)))
  (Ig:Kd K qj)
  (fX:PySem.W.findIn K (.ref qj) "amount" = some none)
  (qy:PySem.W.kitOne K (.ref qj) (.ref fU)=some false)
  (u6:Kd K fG)
  (eG:PySem.W.findIn K (.ref fG) "one" = some none)
  (dH:PySem.W.findIn K (.ref fG) "other" = some none)
  (eY:PySem.W.findIn K (.ref fG) "first" = some none)
  (dY:PySem.W.findIn K (.ref fG) "second" = some none)
  (lX:PySem.W.kitOne K (.ref fG) (.ref fU)=some false)
  (CG:Kd K jL)
  (cV:PySem.W.findIn K (.ref jL) "begins" = some none)
  (cL:PySem.W.findIn K (.ref jL) "places" = some none)
  (o8:PySem.W.kitOne K (.ref jL) (.ref fU)=some false)
  (Ih:Kd K fU)
  (fB:PySem.W.findIn K (.ref fU) "rows" = some none)
  (jY:PySem.W.kitOne K (.ref fU) (.ref fU)=some true)
  (Mj:Kd K uZ)
  (dZ:PySem.W.findIn K (.ref uZ) "amount" = some none)
  (lY:PySem.W.kitOne K (.ref uZ) (.ref fU)=some false)
  (Ml:Kd K sI)
  (iw:PySem.W.findIn K (.ref sI) "place" = some none)
  (fK:PySem.W.findIn K (.ref sI) "amount" = some none)
  (rN:PySem.W.kitOne K (.ref sI) (.ref fU)=some false)
  (xX:Kd K jz)
  (fL:PySem.W.findIn K (.ref jz) "place" = some none)
  (mX:PySem.W.kitOne K (.ref jz) (.ref fU)=some false)
  (Ii:Kd K xW)
  (V4:PySem.W.findIn K (.ref xW) "__init__" = some (some (.builtin "object.__init__")))
  (rO:PySem.W.kitOne K (.ref xW) (.ref fU)=some false)
  (hn:PySem.W.specialIn K (.builtin "object.__class__") "__get__" = some (some (.builtin "getset_descriptor.__get__")))
  (htk:PySem.W.takesIn K (.builtin "object.__class__")=some true)
  (ae9:PySem.W.nsIn K mainGlobals "isinstance" = some none)
  (afa:PySem.W.nsIn K mainGlobals "int" = some none)
  (YL:PySem.W.nsIn K mainGlobals "bool" = some none)
  (V5:PySem.W.nsIn K mainGlobals "tuple" = some none)
  (YM:PySem.W.nsIn K mainGlobals "list" = some none)
  (afb:PySem.W.nsIn K mainGlobals "len" = some none)
  (afc:PySem.W.nsIn K mainGlobals "sum" = some none)
  (afd:PySem.W.nsIn K mainGlobals "zip" = some none)
  (V6:PySem.W.nsIn K mainGlobals "range" = some none)
  (YQ:PySem.W.nsIn K mainGlobals "enumerate" = some none)
  (afe:PySem.W.nsIn K mainGlobals "min" = some none)
  (afg:PySem.W.nsIn K mainGlobals "max" = some none)
  (afh:PySem.W.nsIn K mainGlobals "all" = some none)
  (afi:PySem.W.nsIn K mainGlobals "any" = some none)
  (afj:PySem.W.nsIn K mainGlobals "str" = some none)
  (TX:PySem.W.nsIn K mainGlobals "sorted" = some none)
  (Mp:Gd K Tr "is_whole" uO)
  (zf:Gd K Tr "is_whole_pair" jR)
  (xY:Gd K Tr "common_divisor" jo)
  (Ko:Gd K Tr "is_amount" rm)
  (Mq:Gd K Tr "is_place" uP)
  (Ij:Gd K Tr "check_book" pL)
  (CJ:Gd K Tr "lowest_terms" lM)
  (Ed:Gd K Tr "top_of_cost" nZ)
  (CK:Gd K Tr "tops_of_cost" lN)
  (Ef:Gd K Tr "is_weighing" n6)
  (Ik:Gd K Tr "is_mixture" pN)
  (Ql:Gd K Tr "is_less" wY)
  (Il:Gd K Tr "are_begins" pO)
  (sJ:Gd K Tr "are_places_in_turn" gF)
  (oR:Gd K Tr "are_least_at_both_ends" fu)
  (Im:Md K qj "__init__" "Alone.__init__" pP)
  (Eh:Md K qj "shows" "Alone.shows" n8)
  (zj:Md K fG "__init__" "Needless.__init__" jT)
  (xZ:Md K fG "shows" "Needless.shows" jq)
  (Ei:Md K jL "__init__" "Ranges.__init__" oh)
  (CN:Md K jL "shows" "Ranges.shows" lO)
  (Io:Md K fU "__init__" "Under.__init__" pQ)
  (Ej:Md K fU "shows" "Under.shows" ou)
  (Kp:Md K uZ "__init__" "Over.__init__" rA)
  (Ip:Md K uZ "shows" "Over.shows" pR)
  (Kq:Md K sI "__init__" "Most.__init__" rC)
  (Ir:Md K sI "shows" "Most.shows" pU)
  (CP:Md K jz "__init__" "Endless.__init__" lQ)
  (zm:Md K jz "shows" "Endless.shows" jU)
  (Iu:Md K xW "shows" "Dear.shows" pW)
  (u9:Gd K (fun c=>Jv K mg c oZ) "by_falling_piece" iH)
  (zp:Gd K Tr "least_in_turn" jV)
  (Mr:Gd K Tr "turn_for" uQ)
  (CQ:Gd K Tr "amount_below" lR)
  (Ek:Gd K Tr "mixture_for" oA)
  (TY:Gd K Tr "ranges" Bc)
  (V7:Gd K Tr "under" G3)
  (Kr:Gd K Tr "_law_book" rD)
  (El:Gd K Tr "_law_lowest" oE)
  (Em:Gd K Tr "_law_amount" oF)
  (Ks:Gd K Tr "_law_cost" rF)
  (CV:Gd K Tr "_law_mixture" lU)
  (Iv:Gd K Tr "_law_alone" pX)
  (zq:Gd K Tr "_law_needless" jW)
  (Eo:Gd K Tr "_law_ranges" oG)
  (Iw:Gd K Tr "_law_under" pY)
  (Ku:Gd K Tr "_law_over" rG)
  (Kv:Gd K Tr "_law_most" rH)
  (CW:Gd K Tr "_law_endless" lV)
  (Kw:Gd K Tr "_law_says" rJ)
  (Ky:Gd K Tr "_law_bent" rK)
  (yc:Gd K Tr "_law_one_right" jr)
  (tY:Gd K Tr "_law_ranges_right" gZ)
  (vd:Gd K Tr "_law_books_right" iI)
  (vf:Gd K Tr "_law_money_right" iJ)
  (zu:Gd K Tr "_law_outright" jX)
  (al:PySem.W.nsIn K mainGlobals "law" = some (some (.ref g)))
  (ll:Fd K Tr "law" "law" FJ g)
  : ∃ fd:FuncData,(∀ (s:Shared) (v:Value),BindsTo s fd ⟨[v],[]⟩ [("_law_script",v)])∧∀ base:Heap,K.In base→base.Ns mainGlobals mg→cA l.prog w K mg base gB 7 fa fd ["_law_script"] (Od K):=by
 have e:=hfa.symm.trans (PySem.W.mg_of X G al)
 cases e
 have B:Bl mg:=⟨PySem.W.mg_none_of X G ae9,PySem.W.mg_none_of X G afa,PySem.W.mg_none_of X G YL,PySem.W.mg_none_of X G V5,PySem.W.mg_none_of X G YM,PySem.W.mg_none_of X G afb,PySem.W.mg_none_of X G afc,PySem.W.mg_none_of X G afd,PySem.W.mg_none_of X G V6,PySem.W.mg_none_of X G YQ,PySem.W.mg_none_of X G afe,PySem.W.mg_none_of X G afg,PySem.W.mg_none_of X G afh,PySem.W.mg_none_of X G afi,PySem.W.mg_none_of X G afj,PySem.W.mg_none_of X G TX⟩
 have T:CT K mg ⟨qj,fG,jL,fU,uZ,sI,jz,xW⟩:=⟨PySem.W.mg_of X G V2,PySem.W.mg_of X G Mi,PySem.W.mg_of X G TV,PySem.W.mg_of X G V3,PySem.W.mg_of X G YH,PySem.W.mg_of X G YJ,PySem.W.mg_of X G Qk,PySem.W.mg_of X G YK,Ig.cls,Ig.ty hn htk,fX,qy,u6.cls,u6.ty hn htk,eG,dH,eY,dY,lX,CG.cls,CG.ty hn htk,cV,cL,o8,Ih.cls,Ih.ty hn htk,fB,jY,Mj.cls,Mj.ty hn htk,dZ,lY,Ml.cls,Ml.ty hn htk,iw,fK,rN,xX.cls,xX.ty hn htk,fL,mX,Ii.cls,Ii.ty hn htk,⟨Ii.2.2.2.2.1,V4,Ii.2.2.2.2.2.1⟩,rO⟩
 obtain⟨_,an,_,_,kV,dc,pm,cd,ct,lL,lC,lK,_⟩:=ll
 refine⟨PySem.W.fnOf "law" "law" (aV FJ) (aR FJ) (aC FJ) .none kV dc pm an cd ct,fun s v=>.of_eq rfl,fun base _ _=>?_⟩
 have vg:=cY l.prog w base X G Mp (fun F r=>JF F B T) (fun _ _ _ _ _ _=>nO fun _=>rfl)
 have qH:=cY l.prog w base X G zf (fun F r=>w5 F B T vg) (fun _ _ _ _ _ _=>nO fun _=>rfl)
 have pG:=cY l.prog w base X G xY (fun F r=>vV F B T) (fun _ _ _ _ _ _=>dU fun _ _=>rfl)
 have nQ:=cY l.prog w base X G Ko (fun F r=>G8 F B T qH pG) (fun _ _ _ _ _ _=>nO fun _=>rfl)
 have ql:=cY l.prog w base X G Mq (fun F r=>JH F B T vg) (fun _ _ _ _ _ _=>dU fun _ _=>rfl)
 have wI:=cY l.prog w base X G Ij (fun F r=>Dn F B T qH) (fun _ _ _ _ _ _=>nO fun _=>rfl)
 have sO:=cY l.prog w base X G CJ (fun F r=>yO F B T pG) (fun _ _ _ _ _ _=>dU fun _ _=>rfl)
 have oU:=cY l.prog w base X G Ed (fun F r=>Bj F B T) (fun _ _ _ _ _ _=>dU fun _ _=>rfl)
 have jj:=cY l.prog w base X G CK (fun F r=>yQ F B T oU) (fun _ _ _ _ _ _=>dU fun _ _=>rfl)
 have Ep:=cY l.prog w base X G Ef (fun F r=>BZ F B T vg ql) (fun _ _ _ _ _ _=>dU fun _ _=>rfl)
 have wJ:=cY l.prog w base X G Ik (fun F r=>Dt F B T Ep) (fun _ _ _ _ _ _=>dw fun _ _ _=>rfl)
 have Qm:=cY l.prog w base X G Ql (fun F r=>Lz F B T) (fun _ _ _ _ _ _=>dU fun _ _=>rfl)
 have Iz:=cY l.prog w base X G Il (fun F r=>Ds F B T nQ Qm) (fun _ _ _ _ _ _=>nO fun _=>rfl)
 have sS:=cY l.prog w base X G sJ (fun F r=>qN F B T ql) (fun _ _ _ _ _ _=>dU fun _ _=>rfl)
 have oV:=cY l.prog w base X G oR (fun F r=>mQ F B T jj) (fun _ _ _ _ _ _=>dw fun _ _ _=>rfl)
 have wK:=uY l.prog w base Ig Im (fun F=>Dw F B T) (fun _ _ _ _ _ _=>dU fun _ _=>rfl)
 have uz:=sH l.prog w base Eh (fun F=>Ce F B T nQ jj) (fun _ _ _ _ _ _=>dw fun _ _ _=>rfl)
 have qI:=uY l.prog w base u6 zj (fun F=>xG F B T) (fun _ _ _ _ _ _=>V1 fun _ _ _ _ _=>rfl)
 have pH:=sH l.prog w base xZ (fun F=>wu F B T wJ) (fun _ _ _ _ _ _=>dw fun _ _ _=>rfl)
 have oW:=uY l.prog w base CG Ei (fun F=>BL F B T) (fun _ _ _ _ _ _=>dw fun _ _ _=>rfl)
 have sU:=sH l.prog w base CN (fun F=>yR F B T Iz sS oV) (fun _ _ _ _ _ _=>dU fun _ _=>rfl)
 have qm:=uY l.prog w base Ih Io (fun F=>DG F B T) (fun _ _ _ _ _ _=>dU fun _ _=>rfl)
 have uD:=sH l.prog w base Ej (fun F=>Cj F B T wJ) (fun _ _ _ _ _ _=>dw fun _ _ _=>rfl)
 have sV:=uY l.prog w base Mj Kp (fun F=>Hu F B T) (fun _ _ _ _ _ _=>dU fun _ _=>rfl)
 have wL:=sH l.prog w base Ip (fun F=>DN F B T nQ jj) (fun _ _ _ _ _ _=>dw fun _ _ _=>rfl)
 have yK:=uY l.prog w base Ml Kq (fun F=>Hx F B T) (fun _ _ _ _ _ _=>dw fun _ _ _=>rfl)
 have wM:=sH l.prog w base Ir (fun F=>DW F B T nQ ql jj) (fun _ _ _ _ _ _=>dw fun _ _ _=>rfl)
 have sW:=uY l.prog w base xX CP (fun F=>yW F B T) (fun _ _ _ _ _ _=>dU fun _ _=>rfl)
 have qJ:=sH l.prog w base zm (fun F=>xM F B T ql) (fun _ _ _ _ _ _=>dw fun _ _ _=>rfl)
 have wN:=sH l.prog w base Iu (fun F=>DY F B T) (fun _ _ _ _ _ _=>dw fun _ _ _=>rfl)
 have vh:=cY l.prog w base X G u9 (fun F r=>tR F B T r) (fun _ _ _ _ _ _=>dU fun _ _=>rfl)
 have qK:=cY l.prog w base X G zp (fun F r=>w6 F B T oU vh) (fun _ _ _ _ _ _=>dU fun _ _=>rfl)
 have CZ:=cY l.prog w base X G Mr (fun F r=>JX F B T) (fun _ _ _ _ _ _=>dw fun _ _ _=>rfl)
 have Dc:=cY l.prog w base X G CQ (fun F r=>yS F B T sO oU CZ) (fun _ _ _ _ _ _=>wH fun _ _ _ _=>rfl)
 have Er:=cY l.prog w base X G Ek (fun F r=>BW F B T CZ) (fun _ _ _ _ _ _=>dw fun _ _ _=>rfl)
 have T3:=cY l.prog w base X G TY (fun F r=>Qe F B T wI sO qK oW) (fun _ _ _ _ _ _=>nO fun _=>rfl)
 have V8:=cY l.prog w base X G V7 (fun F r=>S9 F B T wI qK Dc Er qm sV) (fun _ _ _ _ _ _=>dU fun _ _=>rfl)
 have Kz:=cY l.prog w base X G Kr (fun F r=>G9 F B T) (fun _ _ _ _ _ _=>nO fun _=>rfl)
 have Es:=cY l.prog w base X G El (fun F r=>Bp F B T) (fun _ _ _ _ _ _=>dU fun _ _=>rfl)
 have Et:=cY l.prog w base X G Em (fun F r=>Br F B T Es) (fun _ _ _ _ _ _=>nO fun _=>rfl)
 have jM:=cY l.prog w base X G Ks (fun F r=>Hg F B T) (fun _ _ _ _ _ _=>dU fun _ _=>rfl)
 have sX:=cY l.prog w base X G CV (fun F r=>yU F B T) (fun _ _ _ _ _ _=>dw fun _ _ _=>rfl)
 have IK:=cY l.prog w base X G Iv (fun F r=>Dy F B T jM) (fun _ _ _ _ _ _=>dw fun _ _ _=>rfl)
 have zx:=cY l.prog w base X G zq (fun F r=>xJ F B T sX) (fun _ _ _ _ _ _=>dw fun _ _ _=>rfl)
 have Eu:=cY l.prog w base X G Eo (fun F r=>BP F B T jM) (fun _ _ _ _ _ _=>dw fun _ _ _=>rfl)
 have IV:=cY l.prog w base X G Iw (fun F r=>DR F B T sX) (fun _ _ _ _ _ _=>dw fun _ _ _=>rfl)
 have KC:=cY l.prog w base X G Ku (fun F r=>Hv F B T jM) (fun _ _ _ _ _ _=>dw fun _ _ _=>rfl)
 have KD:=cY l.prog w base X G Kv (fun F r=>Hy F B T jM) (fun _ _ _ _ _ _=>wH fun _ _ _ _=>rfl)
 have Dd:=cY l.prog w base X G CW (fun F r=>yZ F B T) (fun _ _ _ _ _ _=>dw fun _ _ _=>rfl)
 have jN:=cY l.prog w base X G Kw (fun F r=>HJ F B T) (fun _ _ _ _ _ _=>dU fun _ _=>rfl)
 have yL:=cY l.prog w base X G Ky (fun F r=>HN F B T) (fun _ _ _ _ _ _=>dw fun _ _ _=>rfl)
 have yd:=cY l.prog w base X G yc (fun F r=>wF F B T IK zx jN qI wK pH uz) (fun _ _ _ _ _ _=>wH fun _ _ _ _=>rfl)
 have tZ:=cY l.prog w base X G tY (fun F r=>rZ F B T T3 Eu jN yL oW sU) (fun _ _ _ _ _ _=>dw fun _ _ _=>rfl)
 have vm:=cY l.prog w base X G vd (fun F r=>tW F B T V8 IV KC jN yL qm sV uD wL) (fun _ _ _ _ _ _=>wH fun _ _ _ _=>rfl)
 have vo:=cY l.prog w base X G vf (fun F r=>tV F B T KD Dd jN yK sW wN wM qJ) (fun _ _ _ _ _ _=>wH fun _ _ _ _=>rfl)
 have zy:=cY l.prog w base X G zu (fun F r=>xR F B T jN qI wK sW qm oW sV yK pH uz qJ uD sU wL wM wN) (fun _ _ _ _ _ _=>V0 rfl)
 exact YB (Q5 lL lC lK) B T Kz Et jM yd tZ vm vo zy
theorem walk {l:PySem.W.OpenLaw}{q:Program}{loose:List Str}{XP:(Str→Option Value)→Heap→Prop}{YP:World→Heap→Prop}{d:DefRec}{K:Params→PySem.W.Frag}(hn:l.most=some 63)(hdf:d.params.defaults=[])
  (hY:∀ (w:World) (h:Heap),YP w h→(K w.params).In h∧h.get? oZ=some (PySem.W.tabObj #[])) (Wu:∀ (w:World) (h:Heap),(K w.params).In h→PySem.W.CodeHd h PN oZ) (hKT:∀ w:World,(K w.params).lookup oZ=none)
  (F:∀ (w:World) (mg:Str→Option Value) (fa:Addr) (h:Heap),(K w.params).In h→h.Ns mainGlobals mg→mg d.name=some (.ref fa) →
    ∃ fd:FuncData,(∀ (s:Shared) (u:Value),BindsTo s fd ⟨[u],[]⟩ [("_law_script",u)])∧∀ base:Heap,(K w.params).In base→base.Ns mainGlobals mg→cA l.prog w (K w.params) mg base gB 7 fa fd ["_law_script"] (Od (K w.params))) :
  PySem.W.WalkO q loose XP YP l.row.toRowW d [] (fun f vs=>PySem.call f vs) :=
 L2.RB (T:=oZ) (c:=PN) (n:=63) (k:=7) (x := "_law_script") (CX:=fun _=>gB) (sp:=fun w=>Od (K w.params)) hn (by decide) hdf ⟨rfl,by decide,by decide⟩ hY Wu hKT F (fun _ _ a ns hl hT hS=>⟨a,ns,rfl,hS,hl,⟨_,hT,.inl rfl⟩,fun _=>rfl⟩) fun _ _ _ _ _ z=>z
end My
open PySem PySem.W PyProof.Rows
set_option maxRecDepth 100000 in
set_option maxHeartbeats 0 in
theorem PySem.Challenge.cw_leasttariff_k06_answers_by_hand_holds : PySem.Challenge.rw_leasttariff_k06_answers_by_hand.Holds := by
 w_on;o_law
 refine holds_open (q:=My.qL) (loose:=My.GR) (Xt:=My.XtL) (XP:=XL My.qL []) (Yf:=My.YfL) (Ya:=My.YaL) (YP:=fun w h=>InK My.KL w h∧h.get? My.oZ=some My.GQ) (N:=8260) My.aeA (fun w s e=>My.aey (My.hYL w s e)) (fun w h h' Y k=>⟨InK.keeps w h h' Y.1 k,k _ _ Y.2⟩) (fun s e=>xl_of s (Bool.and_eq_true_iff.mp e).1) XL.keeps (by rfl) (by rfl) (by rfl)
  (fun s e=>recFacts_of (Bool.and_eq_true_iff.mp e).2) (by rfl) (by first|assumption|decide +kernel) (by decide +kernel) ⟨rfl,rfl,rfl,rfl,rfl,by decide +kernel⟩ ?hw ?hc
 (case hw=>w_witness2)
 k_fill
 refine My.walk (l:=PySem.Challenge.rw_leasttariff_k06_answers_by_hand) rfl rfl (K:=My.KL) (fun _ _ Y=>Y) (fun _ _ Y=>My.RJ Y) (fun w=>My.M9 w.params) ?F
 case F =>
  intro w mg fa h KX G hmg
  refine' My.all_mk KX G hmg ?_ ?_ ?_ ?_ ?_ ?_ ?_ ?_ ?_ ?_ ?_ ?_ ?_ ?_ ?_ ?_ ?_ ?_ ?_ ?_ ?_ ?_ ?_ ?_ ?_ ?_ ?_ ?_ ?_ ?_ ?_ ?_ ?_ ?_ ?_ ?_ ?_ ?_ ?_ ?_ ?_ ?_ ?_ ?_ ?_ ?_ ?_ ?_ ?_ ?_ ?_ ?_ ?_ ?_ ?_ ?_ ?_ ?_ ?_ ?_ ?_ ?_ ?_ ?_ ?_ ?_ ?_ ?_ ?_ ?_ ?_ ?_ ?_ ?_ ?_ ?_ ?_ ?_ ?_ ?_ ?_ ?_ ?_ ?_ ?_ ?_ ?_ ?_ ?_ ?_ ?_ ?_ ?_ ?_ ?_ ?_ ?_ ?_ ?_ ?_ ?_ ?_ ?_ ?_ ?_ ?_ ?_ ?_ ?_ ?_ ?_ ?_ ?_
  all_goals first|k_is|kit_is|(exact⟨_,by k_is,_,_,_,_,_,_,_,_,_,by k_is,by k_is,by k_is,trivial⟩)|(exact⟨_,by k_is,by k_is,_,_,_,_,_,_,_,_,_,by k_is,by k_is,by k_is,trivial⟩)|(exact⟨by k_is,by k_is,by k_is,by k_is,by k_is,by k_is,by k_is,by k_is⟩)|(exact⟨_,_,_,_,_,_,_,_,_,by k_is,by k_is,by k_is,trivial⟩)|(exact⟨_,by k_is,_,_,_,_,_,_,_,_,_,by k_is,by k_is,by k_is,by exact My.agO KX G (by k_is)⟩)|skip
#print axioms PySem.Challenge.cw_leasttariff_k06_answers_by_hand_holds
