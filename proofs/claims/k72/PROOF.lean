import PyProof.Rows.All
import Wide.All
import OpenK.AllK
import Wide.FinOn
import Lean
import PyProof.EqAt
import PyProof.EqKinds
import PyProof.TupleCall
import KE.KSortAsk
import KE.KSortTup
import KE.KRevIter
import KE.LcSums
import KE.KDictSum
import KE.KDictList
import PyProof.AttrMissHeap
import PySem.Challenge.RW_gaze_k72_what_is_no_rule
set_option Elab.async false
set_option linter.all false
set_option compiler.extract_closed false
set_option maxRecDepth 100000
set_option maxHeartbeats 4000000
set_option exponentiation.threshold 2000
namespace L2
open PySem PySem.Spec PyProof.Rows
abbrev Key:=Sum Int Str
noncomputable def mR:Key->Value->Bool
 | .inl k,v=>Value.isInt k v
 | .inr x,v=>Value.isStrOf x v
noncomputable def HY(w:World):Key->Int
 | .inl k=>hashInt k
 | .inr x=>hashStr w x
theorem jd:∀ {k:Key} {v:Value},mR k v=true->(∃ i t,k=Sum.inl i/\v=Value.int i t)∨(∃ x t,k=Sum.inr x/\v=Value.str x t)
 | .inl i,v,h=>by
  obtain⟨t,e⟩:=Value.isInt_shape (k:=i) (v:=v) h
  exact .inl ⟨i,t,rfl,e⟩
 | .inr x,v,h=>by
  obtain⟨t,e⟩:=Value.isStrOf_shape (x:=x) (v:=v) h
  exact .inr ⟨x,t,rfl,e⟩
theorem HZ(i:Int)(t:Tok):mR (.inl i) (.int i t)=true:=by simp[mR,Value.isInt]
theorem Bg(x:Str)(t:Tok):mR (.inr x) (.str x t)=true:=by simp[mR,Value.isStrOf]
theorem Ia(a b:Int):decide ((Sum.inl a:Key)=Sum.inl b)=(a == b):=by
 by_cases e:a=b
 ·subst e;simp
 ·have h:¬ (Sum.inl a:Key)=Sum.inl b:=fun q=>e (Sum.inl.inj q)
  rw[decide_eq_false h]
  exact (beq_eq_false_iff_ne.mpr e).symm
theorem Ib(a b:Str):decide ((Sum.inr a:Key)=Sum.inr b)=decide (a=b):=by
 by_cases e:a=b
 ·subst e;simp
 ·have h:¬ (Sum.inr a:Key)=Sum.inr b:=fun q=>e (Sum.inr.inj q)
  rw[decide_eq_false h,decide_eq_false e]
theorem Ic(a:Int)(b:Str):decide ((Sum.inl a:Key)=Sum.inr b)=false:=decide_eq_false (fun q=>nomatch q)
theorem Ie(a:Str)(b:Int):decide ((Sum.inr a:Key)=Sum.inl b)=false:=decide_eq_false (fun q=>nomatch q)
noncomputable def et(prog:Program)(w:World):PySem.KeyKind prog w Key where
 is:=mR
 hash:=HY w
 inj:=fun v a b ha hb=>by
  rcases jd ha with ⟨i,t,rfl,rfl⟩|⟨x,t,rfl,rfl⟩
  ·rcases jd hb with ⟨j,u,rfl,e⟩|⟨y,u,rfl,e⟩
   ·injection e with e1 _;rw[e1]
   ·exact nomatch e
  ·rcases jd hb with ⟨j,u,rfl,e⟩|⟨y,u,rfl,e⟩
   ·exact nomatch e
   ·injection e with e1 _;rw[e1]
 byValue:=fun k v h=>by
  rcases jd h with ⟨i,t,rfl,rfl⟩|⟨x,t,rfl,rfl⟩<;>rfl
 pyHash:=fun hv h=>by
  rcases jd hv with ⟨i,t,rfl,rfl⟩|⟨x,t,rfl,rfl⟩
  ·exact wpAny_pyHash_int h
  ·exact wpAny_pyHash_str h
 eqBool:=fun hu hv h=>by
  rcases jd hu with ⟨i,t,rfl,rfl⟩|⟨x,t,rfl,rfl⟩
  ·rcases jd hv with ⟨j,u,rfl,rfl⟩|⟨y,u,rfl,rfl⟩
   ·rw[Ia] at h;exact wpAny_eqBool_int h
   ·rw[Ic] at h;exact SeqAt.EqAt.int_str i t y u _ _ _ _ h
  ·rcases jd hv with ⟨j,u,rfl,rfl⟩|⟨y,u,rfl,rfl⟩
   ·rw[Ie] at h;exact SeqAt.EqAt.str_int x t j u _ _ _ _ h
   ·rw[Ib] at h;exact wpAny_eqBool_str h
 «strs»:=fun k x t v h=>by
  rcases jd h with ⟨i,u,rfl,e⟩|⟨y,u,rfl,e⟩
  ·exact nomatch e
  ·injection e with e1 _
   subst e1
   cases v<;>rfl
theorem Ig(prog:Program)(w:World)(i:Int)(t:Tok):(et prog w).is (.inl i) (.int i t)=true:=HZ i t
theorem Ih(prog:Program)(w:World)(x:Str)(t:Tok):(et prog w).is (.inr x) (.str x t)=true:=Bg x t
end L2
namespace L2
open PySem PySem.Spec PyProof.Rows
inductive V where
 | non|bl (b:Bool)|int (i:Int)|str (x:Str)|byt (b:Array UInt8)|flt (b:UInt64)|ref (a:Addr)|ty (n:String)
 deriving DecidableEq
def RelV:V->Value->Prop
 | .non,u=>u=Value.none
 | .bl b,u=>u=Value.bool b
 | .int i,u=>∃ t,u=Value.int i t
 | .str x,u=>∃ t,u=Value.str x t
 | .byt b,u=>∃ t,u=Value.bytes b t
 | .flt b,u=>∃ t,u=Value.float b t
 | .ref a,u=>u=Value.ref a
 | .ty n,u=>u=Value.type n
abbrev Vals:List V->List Value->Prop:=Paired RelV
theorem Vals.length{xs:List V}{us:List Value}(r:Vals xs us):xs.length=us.length:=Paired.length r
theorem Vals.get:∀ {xs:List V} {us:List Value} {i:Nat} {x:V},Vals xs us->xs[i]?=some x->∃ u,us[i]?=some u/\RelV x u
 | _,_,_,_,.nil,e=>by simp at e
 | _,_,0,_,.cons r _,e=>by simp at e;subst e;exact⟨_,rfl,r⟩
 | _,_,i+1,x,.cons _ t,e=>by
  obtain⟨u,h1,h2⟩:=Vals.get (i:=i) (x:=x) t (by simpa using e)
  exact⟨u,by simpa using h1,h2⟩
theorem Vals.set{x:V}{u:Value}(r:RelV x u):∀ {xs:List V} {us:List Value} (i:Nat),Vals xs us->Vals (xs.set i x) (us.set i u)
 | _,_,_,.nil=>.nil
 | _,_,0,.cons _ t=>.cons r t
 | _,_,i+1,.cons q t=>.cons q (Vals.set r i t)
theorem Vals.append:∀ {xs ys:List V} {us ws:List Value},Vals xs us->Vals ys ws->Vals (xs++ys) (us++ws)
 | _,_,_,_,.nil,s=>s
 | _,_,_,_,.cons r t,s=>.cons r (Vals.append t s)
theorem Vals.take:∀ {xs:List V} {us:List Value} (n:Nat),Vals xs us->Vals (xs.take n) (us.take n)
 | _,_,0,_=>.nil
 | _,_,_+1,.nil=>.nil
 | _,_,n+1,.cons r t=>.cons r (Vals.take n t)
theorem Vals.drop:∀ {xs:List V} {us:List Value} (n:Nat),Vals xs us->Vals (xs.drop n) (us.drop n)
 | _,_,0,r=>r
 | _,_,_+1,.nil=>.nil
 | _,_,n+1,.cons _ t=>Vals.drop n t
def dY:Option V->Option Value->Prop
 | some v,some u=>RelV v u
 | none,none=>True
 | _,_=>False
def KV{κ:Type}:List (κ × V)->List (κ × Value)->Prop:=Paired fun (p:κ × V) (q:κ × Value)=>p.1=q.1/\RelV p.2 q.2
noncomputable def kV:Key->V
 | .inl i=>.int i
 | .inr x=>.str x
inductive HO where
 | lst (xs:List V)
 | tup (xs:List V)
 | dK (kvs:List (Key × V))|dT (kvs:List (List Key × V))
 | set (S:Int->Bool) (n:Nat)
 | ins (C dx:Addr) (fs:List (Str × V))
 | own (x:Addr)
 | xd (fs:List (Str × V))
 | met (f x:Addr)
 | iF (lo hi:Int)
 | dZ (o:Obj) (u:HO)
 | tbl (ps:Array Value)
 | ext (φ:Heap->Prop)
abbrev Hp:=Addr->Option HO
noncomputable def upd(H:Hp)(a:Addr)(o:HO):Hp:=fun b=>if b=a then some o else H b
theorem aj{H:Hp}{a:Addr}{o:HO}:upd H a o a=some o:=by unfold upd;rw[if_pos rfl]
theorem aO{H:Hp}{a b:Addr}{o:HO}(h:b≠a):upd H a o b=H b:=by unfold upd;rw[if_neg h]
theorem lj{H:Hp}{a:Addr}{o u:HO}:upd (upd H a o) a u=upd H a u:=by
 funext b;unfold upd;split<;>rfl
theorem mS{H:Hp}{a b:Addr}{o u:HO}(h:H a=some o)(h':H b=some u)(d:o≠u):a≠b:=by
 intro e;subst e;rw[h] at h';exact d (Option.some.inj h')
theorem lp{H:Hp}{a b:Addr}{o:HO}(h:H a=some o)(h':H b=none):a≠b:=by
 intro e;subst e;rw[h] at h';cases h'
section
variable(P:Program)(w:World)
def bZ(H:Hp)(h:Heap)(a:Addr):HO->Prop
 | .lst xs=>xs.length<=sizeLine/\∃ (av:List Value) (n:Nat),Vals xs av/\h.get? a=some { cls:=.type "list",data:=.seq av.toArray n }
 | .tup xs=>xs.length<=sizeLine/\∃ av:List Value,Vals xs av/\IsTup h a av.toArray
 | .dK kvs=>kvs.length<=sizeLine/\(a == sysModules)=false/\∃ vs,KV kvs vs/\h.DictOf (et P w) a vs
 | .dT kvs=>kvs.length<=sizeLine/\(a == sysModules)=false/\∃ xs:List (List Key × Addr × Value),
  Paired (fun (p:List Key × V) (q:List Key × Addr × Value)=>p.1=q.1/\H q.2.1=some (.tup (p.1.map kV))/\RelV p.2 q.2.2) kvs xs /\
  ∃ o es ep,h.get? a=some o/\o.ExactDict/\o.data = .dict es ep/\es.toList=xs.map (entryOfKey (tupleKind (et P w)))/\(xs.map (·.1)).Nodup
 | .set S n=>h.SetOf (intKind P w) a S n
 | .ins C dx fs=>H dx=some (.own a)/\fs.length<=1000/\dx≠a/\h.get? a=some (PySem.W.instObj C dx) /\
  ∃ mA,h.Ns1 dx mA/\(∀ f,dY (fs.lookup f) (mA f))/\PySem.Within mA (fs.map (·.1))
 | .own _=>∃ o,h.get? a=some o
 | .xd fs=>∃ mA,h.Ns1 a mA/\∀ f,dY (fs.lookup f) (mA f)
 | .iF lo hi=>∃ t u v,h.get? a=some { cls:=.type "range",data:=.fields #[.int lo t,.int hi u,.int 1 v] }
 | .dZ o u=>h.get? a=some o/\bZ H h a u
 | .tbl ps=>h.get? a=some { cls:=.none,data:=.fields ps }
 | .met f x=>h.get? a=some (PySem.W.methodObj (.ref f) (.ref x))
 | .ext φ=>φ h/\(∃ o,h.get? a=some o)/\∀ h1 h2:Heap,φ h1->(∀ o,h1.get? a=some o->h2.get? a=some o)->φ h2
def bV(H:Hp)(h:Heap):Prop:=∀ a o,H a=some o->bZ P w H h a o
end
section
variable{P:Program}{w:World}{H H':Hp}{h h':Heap}{a:Addr}{o:HO}
theorem bZ.lt(x:bZ P w H h a o):a<h.objs.size:=by
 cases o with
 | lst xs=>obtain⟨z,z,z,z,e⟩:=x;exact Heap.lt_size e
 | tup xs=>obtain⟨z,z,z,p⟩:=x;exact p.lt
 | dK kvs=>obtain⟨z,z,z,z,o,z,z,e,z⟩:=x;exact Heap.lt_size e
 | dT kvs=>obtain⟨z,z,z,z,o,z,z,e,z⟩:=x;exact Heap.lt_size e
 | set S n=>obtain⟨o,z,z,z,e,z⟩:=x;exact Heap.lt_size e
 | ins C dx fs=>obtain⟨z,z,z,e,z⟩:=x;exact Heap.lt_size e
 | own y=>obtain⟨z,e⟩:=x;exact Heap.lt_size e
 | xd fs=>obtain⟨z,⟨z,z,z,e,z⟩,z⟩:=x;exact Heap.lt_size e
 | iF lo hi=>obtain⟨z,z,z,e⟩:=x;exact Heap.lt_size e
 | dZ ob u=>obtain⟨e,z⟩:=x;exact Heap.lt_size e
 | tbl ps=>exact Heap.lt_size (show h.get? a=some _ from x)
 | met f y=>exact Heap.lt_size (show h.get? a=some _ from x)
 | ext φ=>obtain⟨z,⟨z,e⟩,z⟩:=x;exact Heap.lt_size e
theorem Paired.uW{α β:Type}{F G:α->β->Prop}:∀ {l₁:List α} {l₂:List β},Paired F l₁ l₂->(∀ a b,F a b->G a b)->Paired G l₁ l₂
 | _,_,.nil,_=>.nil
 | _,_,.cons r t,f=>.cons (f _ _ r) (Paired.uW t f)
theorem bZ.stay(x:bZ P w H h a o)(k:∀ b u,(b=a∨H b=some (.own a))->h.get? b=some u->h'.get? b=some u)
 (ho:∀ b,H b=some (.own a)->H' b=some (.own a)) (ht:∀ b xs,H b=some (.tup xs)->H' b=some (.tup xs)):bZ P w H' h' a o:=by
 induction o with
 | lst xs=>obtain⟨z,av,n,r,e⟩:=x;exact⟨z,av,n,r,k _ _ (.inl rfl) e⟩
 | tup xs=>obtain⟨z,av,r,ob,e,c⟩:=x;exact⟨z,av,r,ob,k _ _ (.inl rfl) e,c⟩
 | dK kvs=>obtain⟨z,y,vs,r,ob,es,ep,e,c⟩:=x;exact⟨z,y,vs,r,ob,es,ep,k _ _ (.inl rfl) e,c⟩
 | dT kvs =>
  obtain⟨z,y,xs,r,ob,es,ep,e,c⟩:=x
  exact⟨z,y,xs,Paired.uW r fun p q z=>⟨z.1,ht _ _ z.2.1,z.2.2⟩,ob,es,ep,k _ _ (.inl rfl) e,c⟩
 | set S n=>obtain⟨ob,es,ep,t,e,c⟩:=x;exact⟨ob,es,ep,t,k _ _ (.inl rfl) e,c⟩
 | ins C dx fs =>
  obtain⟨d,z,ne,e,mA,⟨od,es,ep,e2,c⟩,r⟩:=x
  exact⟨ho _ d,z,ne,k _ _ (.inl rfl) e,mA,⟨od,es,ep,k _ _ (.inr d) e2,c⟩,r⟩
 | own y=>obtain⟨ob,e⟩:=x;exact⟨ob,k _ _ (.inl rfl) e⟩
 | xd fs=>obtain⟨mA,⟨od,es,ep,e,c⟩,r⟩:=x;exact⟨mA,⟨od,es,ep,k _ _ (.inl rfl) e,c⟩,r⟩
 | iF lo hi=>obtain⟨t,u,v,e⟩:=x;exact⟨t,u,v,k _ _ (.inl rfl) e⟩
 | dZ ob u ih=>obtain⟨e,q⟩:=x;exact⟨k _ _ (.inl rfl) e,ih q⟩
 | tbl ps =>
  have e:h.get? a=some { cls:=.none,data:=.fields ps }:=x
  show h'.get? a=some { cls:=.none,data:=.fields ps }
  exact k a _ (.inl rfl) e
 | met f y =>
  have e:h.get? a=some (PySem.W.methodObj (.ref f) (.ref y)):=x
  show h'.get? a=some (PySem.W.methodObj (.ref f) (.ref y))
  exact k a _ (.inl rfl) e
 | ext φ=>obtain⟨p,⟨o,e⟩,st⟩:=x;exact⟨st _ _ p fun o q=>k _ _ (.inl rfl) q,⟨o,k _ _ (.inl rfl) e⟩,st⟩
theorem bV.lt(x:bV P w H h)(e:H a=some o):a<h.objs.size:=(x a o e).lt
theorem bV.fresh(x:bV P w H h)(e:h.objs.size<=a):H a=none:=by
 cases q:H a with
 | none=>rfl
 | some u=>exact absurd (Nat.lt_of_lt_of_le (x.lt q) e) (Nat.lt_irrefl _)
theorem bV.kept(x:bV P w H h)(k:∀ b u,h.get? b=some u->h'.get? b=some u):bV P w H h':=fun a o e =>
 (x a o e).stay (fun b u y q=>k b u q) (fun y q=>q) fun y y q=>q
theorem bV.laid(x:bV P w H h)(k:∀ b u,h.get? b=some u->h'.get? b=some u)(hp:h.objs.size<=a)(new:bZ P w (upd H a o) h' a o):bV P w (upd H a o) h':=fun b u e=>by
 have hn:=x.fresh hp
 by_cases hb:b=a
 ·subst hb;rw[aj] at e;cases e;exact new
 ·rw[aO hb] at e
  exact (x b u e).stay (fun c v y q=>k c v q) (fun c q=>by rw[aO (lp q hn)];exact q) fun c xs q=>by rw[aO (lp q hn)];exact q
end
def Rd(H:Hp)(a:Addr)(u:HO):Prop:=H a=some u ∨ ∃ o,H a=some (.dZ o u)
theorem Rd.of{H:Hp}{a:Addr}{u:HO}(h:H a=some u):Rd H a u:=.inl h
theorem Rd.ok{P:Program}{w:World}{H:Hp}{h:Heap}{a:Addr}{u:HO}(r:Rd H a u)(x:bV P w H h):bZ P w H h a u:=by
 rcases r with r|⟨o,r⟩
 ·exact x a u r
 ·obtain⟨y,q⟩:=x a _ r
  exact q
def oJ:Option HO->Prop
 | some (.lst _)=>True
 | some (.dK _)=>True
 | some (.dT _)=>True
 | some (.set _ _)=>True
 | some (.ins _ _ _)=>True
 | some (.ext _)=>True
 | _=>False
section
variable{P:Program}{w:World}{H:Hp}{h h':Heap}{x e:Addr}{o':HO}
theorem bV.write(ok:bV P w H h)(mu:oJ (H x))(he:e=x∨H e=some (.own x))(k:∀ b u,b≠e->h.get? b=some u->h'.get? b=some u)(mT:∃ u,h'.get? e=some u)
 (new:bZ P w (upd H x o') h' x o'):bV P w (upd H x o') h':=fun b u q=>by
 have Bh:∀ c y,H c=some (.own y)->c≠x:=fun c y r z=>by subst z;rw[r] at mu;exact mu
 have Ii:∀ c xs,H c=some (.tup xs)->c≠x:=fun c xs r z=>by subst z;rw[r] at mu;exact mu
 by_cases hb:b=x
 ·subst hb;rw[aj] at q;cases q;exact new
 ·rw[aO hb] at q
  by_cases hbe:b=e
  ·have q':H b=some (.own x):=by
    rcases he with z|z
    ·exact absurd (hbe.trans z) hb
    ·rw[hbe];exact z
   rw[q] at q';cases q'
   obtain⟨v,hv⟩:=mT
   exact⟨v,by rw[hbe];exact hv⟩
  ·refine (ok b u q).stay (fun c v hc r=>k c v ?_ r) (fun c r=>by rw[aO (Bh c b r)];exact r) fun c xs r=>by rw[aO (Ii c xs r)];exact r
   rcases hc with rfl|hc
   ·exact hbe
   ·rintro rfl
    rcases he with z|z
    ·exact Bh c b hc z
    ·rw[hc] at z;cases z;exact hb rfl
end
structure Un(fs ex:List Addr)(H H':Hp)(h h':Heap):Prop where
 keep:∀ b o,h.get? b=some o->H b=none->b∉fs->b∉ex->h'.get? b=some o
 slot:∀ b o,h.get? b=some o->H b=none->b∈fs->b∉ex->∃ sl,h'.get? b=some { o with slots:=sl }
 free:∀ b o,h.get? b=some o->H b=none->b∉ex->H' b=none
 there:∀ b o,h.get? b=some o->b∉ex->∃ o',h'.get? b=some o'
 dG:∀ b xs,H b=some (.tup xs)->H' b=some (.tup xs)
 d6:∀ b o u,H b=some (.dZ o u)->H' b=some (.dZ o u)
 eu:∀ b ps,H b=some (.tbl ps)->∃ more,H' b=some (.tbl (ps++more))
section
variable{fs Ij ex Vc:List Addr}{H H1 H2:Hp}{h h1 h2 h':Heap}{a x e:Addr}{o:HO}
theorem Un.any(u:Un fs ex H H1 h h1){b:Addr}{ob:Obj}(q:h.get? b=some ob)(n:H b=none)(hx:b∉ex):∃ sl,h1.get? b=some { ob with slots:=sl }:=by
 by_cases hb:b∈fs
 ·exact u.slot b ob q n hb hx
 ·exact⟨ob.slots,u.keep b ob q n hb hx⟩
theorem Un.trans(a:Un fs ex H H1 h h1)(b:Un fs ex H1 H2 h1 h2):Un fs ex H H2 h h2 where
 keep:=fun c ob q n hc hx=>b.keep c ob (a.keep c ob q n hc hx) (a.free c ob q n hx) hc hx
 slot:=fun c ob q n hc hx=>by
  obtain⟨sl,e1⟩:=a.slot c ob q n hc hx
  obtain⟨hJ,e2⟩:=b.slot c _ e1 (a.free c ob q n hx) hc hx
  exact⟨hJ,e2⟩
 free:=fun c ob q n hx=>by
  obtain⟨o',e1⟩:=a.there c ob q hx
  exact b.free c o' e1 (a.free c ob q n hx) hx
 there:=fun c ob q hx=>by
  obtain⟨o',e1⟩:=a.there c ob q hx
  exact b.there c o' e1 hx
 dG:=fun c xs q=>b.dG c xs (a.dG c xs q)
 d6:=fun c ob xs q=>b.d6 c ob xs (a.d6 c ob xs q)
 eu:=fun c ps q=>by
  obtain⟨m1,e1⟩:=a.eu c ps q
  obtain⟨m2,e2⟩:=b.eu c _ e1
  exact⟨m1++m2,by rw[e2,Array.append_assoc]⟩
theorem Un.kept(k:∀ b u,h.get? b=some u->h'.get? b=some u):Un fs ex H H h h' :=
 ⟨fun b ob q y y y=>k b ob q,fun b ob q y y y=>⟨ob.slots,k b ob q⟩,fun y y y n y=>n,fun b ob q y=>⟨ob,k b ob q⟩,fun y y q=>q,fun y y y q=>q,fun y ps q=>⟨#[],by rw[q];simp⟩⟩
theorem Un.refl:Un fs ex H H h h:=Un.kept fun y y q=>q
theorem Un.laid(k:∀ b u,h.get? b=some u->h'.get? b=some u)(hp:h.objs.size<=a)(hn:H a=none):Un fs ex H (upd H a o) h h' where
 keep:=fun b u q y y y=>k b u q
 slot:=fun b u q y y y=>⟨u.slots,k b u q⟩
 free:=fun b u q n y=>by rw[aO (Nat.ne_of_lt (Nat.lt_of_lt_of_le (Heap.lt_size q) hp))];exact n
 there:=fun b u q y=>⟨u,k b u q⟩
 dG:=fun b xs q=>by rw[aO (lp q hn)];exact q
 d6:=fun b u xs q=>by rw[aO (lp q hn)];exact q
 eu:=fun b ps q=>⟨#[],by rw[aO (lp q hn),q];simp⟩
theorem Un.write(mu:oJ (H x))(he:e=x∨H e=some (.own x))(k:∀ b u,b≠e->h.get? b=some u->h'.get? b=some u)(mT:∃ u,h'.get? e=some u):Un fs ex H (upd H x o) h h':=by
 have hx:∀ b,H b=none->b≠x:=fun b n z=>by subst z;rw[n] at mu;exact mu
 have hb:∀ b,H b=none->b≠e:=fun b n z=>by
  subst z
  rcases he with r|r
  ·exact hx b n r
  ·rw[n] at r;cases r
 have hm:∀ b u,H b=some u->¬ oJ (some u)->b≠x:=fun b u q nm z=>by subst z;rw[q] at mu;exact nm mu
 refine⟨fun b u q n y y=>k b u (hb b n) q,fun b u q n y y=>⟨u.slots,k b u (hb b n) q⟩,fun b u q n y=>by rw[aO (hx b n)];exact n,fun b u q y=>?_,
  fun b xs q=>by rw[aO (hm b _ q fun z=>z)];exact q,fun b u xs q=>by rw[aO (hm b _ q fun z=>z)];exact q,fun b ps q=>⟨#[],by rw[aO (hm b _ q fun z=>z),q];simp⟩⟩
 by_cases hbe:b=e
 ·subst hbe;exact mT
 ·exact⟨u,k b u hbe q⟩
end
noncomputable def rN(h:Heap)(H:Hp):List Addr:=(List.range h.objs.size).filter fun a=>(H a).isSome
noncomputable def je(h:Heap)(H:Hp):Heap:=PySem.W.hideAll h (rN h H)
theorem Ik(h:Heap)(H:Hp):(je h H).objs.size=h.objs.size:=PySem.W.hideAll_size _ _
theorem Il{h:Heap}{H:Hp}{b:Addr}{o:Obj}(e:h.get? b=some o)(n:H b=none):(je h H).get? b=some o :=
 PySem.W.hideAll_get _ e fun hm=>by
  have q:(H b).isSome=true:=(List.mem_filter.mp hm).2
  rw[n] at q;simp at q
theorem Im{h:Heap}{H:Hp}{b:Addr}{o:Obj}(e:(je h H).get? b=some o):h.get? b=some o/\H b=none:=by
 have e':h.get? b=some o:=PySem.W.of_hideAll (rN h H) e
 refine⟨e',?_⟩
 cases q:H b with
 | none=>rfl
 | some x =>
  have hm:b∈rN h H:=List.mem_filter.mpr ⟨List.mem_range.mpr (Heap.lt_size e'),by simp[q]⟩
  have z:(je h H).get? b=none:=PySem.W.hideAll_none (rN h H) hm
  rw[z] at e;cases e
noncomputable def Io(g h:Heap)(L:Addr):List (Addr × Obj):=(List.range h.objs.size).filterMap fun a=>if a=L∨(g.get? a).isSome=true then none else (h.get? a).map fun o=>(a,o)
noncomputable def rest(g h:Heap)(L d:Addr):List (Addr × Obj):=(Io g h L).filter fun p=>decide (p.1≠d)
end L2
namespace L2
open PySem PySem.Spec PyProof.Rows
structure Mod(K:PySem.W.Frag)(mg:Str->Option Value)(base:Heap):Prop where
 kin:K.In base
 glob:base.Ns mainGlobals mg
 blt:∃ mb,base.Ns builtinsNs mb/\∀ x:Str,x ≠ "__name__" -> mb x=bootBuiltins x
 nolimit:base.NoLimit
structure Cx where
 prog:Program
 w:World
 K:PySem.W.Frag
 mg:Str->Option Value
 base:Heap
 A:Around
 N:List Str
 s₀:Shared
 H₀:Hp
 env:Env
 outer:List Env
 stack:List Env
 ex:List Addr
 fn:Str->Bool
 calm:Bool
 pn:List (Addr × Obj)
 xe:Value->Shared->Prop
noncomputable def aY(l:List Env):List Addr:=l.filterMap (·.frame)
noncomputable abbrev Cx.fs(X:Cx):List Addr:=aY X.outer
def rO(sc:Scope)(x:Str):Prop:=sc.names.lookup x=some .local∨sc.names.lookup x=some .cell∨sc.names.lookup x=some .free
def Loc(sc:Scope)(x:Str):Prop:=sc.names.lookup x=some .local∨sc.names.lookup x=some .cell
def Look(env:Env)(h:Heap)(m:Str->Option Value)(x:Str)(u:Value):Prop :=
 (env.kindOf x=some .local/\m x=some u)∨((env.kindOf x=some .cell∨env.kindOf x=some .free)/\∃ c,env.cells.lookup x=some c/\h.IsCell c (some u))
structure Cx.Ok(X:Cx):Prop where
 mod:Mod X.K X.mg X.base
 kind:X.env.scope.kind = .function
 glob:X.env.globals=mainGlobals
 blt:X.env.builtins=builtinsNs
 above:X.s₀.heap.objs.size<=X.env.locals
 inj:∀ x y c,X.env.cells.lookup x=some c->X.env.cells.lookup y=some c->x=y
 has:∀ x,(X.env.kindOf x=some .cell∨X.env.kindOf x=some .free)->∃ c,X.env.cells.lookup x=some c
 cab:∀ x c,X.fn x=true->X.env.cells.lookup x=some c->X.s₀.heap.objs.size<=c
 hd:X.calm=true->X.A.handled=none
 frames:X.A.frames=some X.stack
 bq:X.stack=X.outer∨(X.stack=X.env::X.outer/\X.env.frame=some X.env.locals)
 exf:∀ b∈X.ex,b≠X.env.locals/\∀ x c,X.env.cells.lookup x=some c->c≠b
 bs:∀ b o,X.base.get? b=some o->X.s₀.heap.get? b=some o/\X.H₀ b=none
 bsz:X.base.objs.size<=X.s₀.heap.objs.size
 noex:∀ b o,X.base.get? b=some o->b∉X.ex
 exfs:∀ b∈X.ex,b∉X.fs
 ff:X.s₀.heap.FunFrames X.base X.outer
 frf:∀ b∈X.fs,X.H₀ b=none
structure Inv(X:Cx)(pins:List (Addr × Obj))(σ:List (Option V))(H:Hp)(s:Shared):Prop where
 ok:X.Ok
 os:s.os=X.s₀.os
 bare:AllBare s.gens
 base:Un X.fs X.ex X.H₀ H X.s₀.heap s.heap
 loc:∃ m,s.heap.Ns X.env.locals m/\∀ (i:Nat) (x:Str) (v:V),X.N[i]?=some x->σ[i]?=some (some v)->rO X.env.scope x->∃ u,RelV v u/\Look X.env s.heap m x u
 cell:∀ x c,X.env.cells.lookup x=some c->∃ v,s.heap.IsCell c v
 free:H X.env.locals=none
 fD:∀ x c,X.env.cells.lookup x=some c->H c=none
 pin:∀ p∈X.pn++pins,s.heap.get? p.1=some p.2/\H p.1=none/\p.1≠X.env.locals/\p.1∉X.fs/\∀ v,p.2.data ≠ .cell v
 aA:bV X.prog X.w H s.heap
 len:σ.length=X.N.length
section
variable{X:Cx}{pins:List (Addr × Obj)}{σ:List (Option V)}{H H':Hp}{s:Shared}{h':Heap}
theorem Cx.Ok.jf(ok:X.Ok){b:Addr}{o:Obj}(e:X.base.get? b=some o):b∉X.fs:=fun hb=>by
 have:=(ok.ff.mem hb).1
 rw[e] at this;cases this
theorem Inv.bs(I:Inv X pins σ H s):∀ b o,X.base.get? b=some o->s.heap.get? b=some o/\H b=none:=fun b o e =>
 ⟨I.base.keep b o (I.ok.bs b o e).1 (I.ok.bs b o e).2 (I.ok.jf e) (I.ok.noex b o e),I.base.free b o (I.ok.bs b o e).1 (I.ok.bs b o e).2 (I.ok.noex b o e)⟩
theorem Inv.bk(I:Inv X pins σ H s):∀ b o,X.base.get? b=some o->s.heap.get? b=some o:=fun b o e=>(I.bs b o e).1
theorem Inv.mod(I:Inv X pins σ H s):Mod X.K X.mg X.base:=I.ok.mod
theorem Inv.bI(I:Inv X pins σ H s):X.K.In s.heap:=I.ok.mod.kin.keeps I.bk
theorem Inv.fr(I:Inv X pins σ H s):∃ m,Fr X.base X.env.locals s.heap m :=
 let ⟨m,hn,_⟩:=I.loc
 ⟨m,hn,I.bk,Nat.le_trans I.ok.bsz I.ok.above⟩
theorem Inv.lt(I:Inv X pins σ H s):X.env.locals<s.heap.objs.size:=let ⟨_,hn,_⟩:=I.loc;hn.lt
theorem Inv.sz(I:Inv X pins σ H s):X.s₀.heap.objs.size<=s.heap.objs.size:=Nat.le_trans I.ok.above (Nat.le_of_lt I.lt)
theorem Inv.Bi(I:Inv X pins σ H s){a:Addr}(h:s.heap.objs.size<=a):a∉X.fs:=fun hb=>by
 obtain⟨y,o,ho,y⟩:=I.ok.ff.mem hb
 exact absurd (Nat.lt_of_lt_of_le (Heap.lt_size ho) (Nat.le_trans I.sz h)) (Nat.lt_irrefl _)
theorem Inv.fE(I:Inv X pins σ H s):∀ x c,X.env.cells.lookup x=some c->c≠X.env.locals:=fun x c e z=>by
 obtain⟨v,o,ho,hd⟩:=I.cell x c e
 obtain⟨m,⟨o',es,ep,cJ,uX,y⟩,y⟩:=I.loc
 rw[z,cJ] at ho;cases ho;rw[uX] at hd;cases hd
theorem Inv.ff(I:Inv X pins σ H s):s.heap.FunFrames X.base X.outer:=by
 have all:∀ (l:List Env),(∀ b∈aY l,b∈X.fs)->X.s₀.heap.FunFrames X.base l->s.heap.FunFrames X.base l:=by
  intro l
  induction l with
  | nil=>intro y y;trivial
  | cons env r ih =>
   intro hs hl
   obtain⟨hk,⟨L,o,hf,hn,ho,hd⟩,hr⟩:=hl
   have hL:L∈X.fs:=hs L (by unfold aY;rw[List.filterMap_cons,hf];exact List.mem_cons_self)
   obtain⟨sl,e⟩:=I.base.slot L o ho (I.ok.frf L hL) hL fun z=>I.ok.exfs L z hL
   exact⟨hk,⟨L,_,hf,hn,e,hd⟩,ih (fun b hb=>hs b (by unfold aY;rw[List.filterMap_cons,hf];exact List.mem_cons_of_mem _ hb)) hr⟩
 exact all X.outer (fun y hb=>hb) I.ok.ff
theorem Inv.stack(I:Inv X pins σ H s):s.heap.FunFrames X.base X.stack:=by
 rcases I.ok.bq with e|⟨e,hf⟩
 ·rw[e];exact I.ff
 ·rw[e]
  obtain⟨m,hn,y⟩:=I.loc
  refine .cons (by rw[I.ok.kind];decide) hf hn ?_ I.ff
  exact Heap.get?_none_of_le (Nat.le_trans I.ok.bsz I.ok.above)
theorem Inv.mU(I:Inv X pins σ H s):∀ b∈aY X.stack,b∈X.env.locals::X.fs:=fun b hb=>by
 rcases I.ok.bq with e|⟨e,hf⟩
 ·rw[e] at hb;exact List.mem_cons_of_mem _ hb
 ·rw[e] at hb
  unfold aY at hb
  rw[List.filterMap_cons,hf] at hb
  exact hb
theorem Inv.oK(I:Inv X pins σ H s):∀ b∈aY X.stack,H b=none:=fun b hb=>by
 rcases List.mem_cons.mp (I.mU b hb) with e|hb
 ·rw[e];exact I.free
 ·obtain⟨y,o,ho,y⟩:=I.ok.ff.mem hb
  exact I.base.free b o ho (I.ok.frf b hb) fun z=>I.ok.exfs b z hb
theorem Inv.step{g':Array GenState}{t':Nat}{d':Drawn}{ch:List Addr}(I:Inv X pins σ H s)
 (gC:∀ b∈ch,(b∈X.ex∨X.s₀.heap.objs.size<=b)/\b≠X.env.locals/\(∀ x c,X.env.cells.lookup x=some c->c≠b)/\∀ p∈X.pn++pins,p.1≠b)
 (keep:∀ b o,b≠X.env.locals->b∉X.fs->b∉ch->s.heap.get? b=some o->H b=none->h'.get? b=some o)
 (slot:∀ b o,b≠X.env.locals->b∈X.fs->b∉ch->s.heap.get? b=some o->H b=none->∃ sl,h'.get? b=some { o with slots:=sl }) (free:∀ b o,b∉ch->s.heap.get? b=some o->H b=none->H' b=none)
 (there:∀ b o,b∉ch->s.heap.get? b=some o->∃ o',h'.get? b=some o')
 (dG:∀ b xs,H b=some (.tup xs)->H' b=some (.tup xs)) (d6:∀ b o u,H b=some (.dZ o u)->H' b=some (.dZ o u)) (eu:∀ b ps,H b=some (.tbl ps)->∃ more,H' b=some (.tbl (ps++more)))
 (ns:∀ m,s.heap.Ns X.env.locals m->h'.Ns X.env.locals m) (aA:bV X.prog X.w H' h') (hg:AllBare g') :
 Inv X pins σ H' { s with heap:=h',gens:=g',drawn:=d',toks:=t' }:=by
 have mV:∀ b o,X.s₀.heap.get? b=some o->b≠X.env.locals:=fun b o e=>Nat.ne_of_lt (Nat.lt_of_lt_of_le (Heap.lt_size e) I.ok.above)
 have oM:∀ b o,X.s₀.heap.get? b=some o->b∉X.ex->b∉ch:=fun b o e hx hb=>by
  rcases (gC b hb).1 with z|z
  ·exact hx z
  ·exact absurd (Nat.lt_of_lt_of_le (Heap.lt_size e) z) (Nat.lt_irrefl _)
 have cellK:∀ x c,X.env.cells.lookup x=some c->∀ v,s.heap.IsCell c v->h'.IsCell c v:=fun x c e v ⟨o,ho,hd⟩=>by
  have oN:c∉ch:=fun z=>(gC c z).2.2.1 x c e rfl
  by_cases hc:c∈X.fs
  ·obtain⟨sl,q⟩:=slot c o (I.fE x c e) hc oN ho (I.fD x c e)
   exact⟨_,q,hd⟩
  ·exact⟨o,keep c o (I.fE x c e) hc oN ho (I.fD x c e),hd⟩
 refine⟨I.ok,I.os,hg,⟨fun b o e n hb hx=>?_,fun b o e n hb hx=>?_,fun b o e n hx=>?_,fun b o e hx=>?_,fun b xs e=>dG b xs (I.base.dG b xs e),fun b o xs e=>d6 b o xs (I.base.d6 b o xs e),fun b ps e=>?_⟩,?_,fun x c e=>?_,?_,fun x c e=>?_,fun p hp=>?_,aA,I.len⟩
 ·exact keep b o (mV b o e) hb (oM b o e hx) (I.base.keep b o e n hb hx) (I.base.free b o e n hx)
 ·obtain⟨sl,e1⟩:=I.base.slot b o e n hb hx
  obtain⟨hJ,e2⟩:=slot b _ (mV b o e) hb (oM b o e hx) e1 (I.base.free b o e n hx)
  exact⟨hJ,e2⟩
 ·obtain⟨o',e1⟩:=I.base.there b o e hx
  exact free b o' (oM b o e hx) e1 (I.base.free b o e n hx)
 ·obtain⟨o',e1⟩:=I.base.there b o e hx
  exact there b o' (oM b o e hx) e1
 ·obtain⟨m1,e1⟩:=I.base.eu b ps e
  obtain⟨m2,e2⟩:=eu b _ e1
  exact⟨m1++m2,by rw[e2,Array.append_assoc]⟩
 ·obtain⟨m,hn,hl⟩:=I.loc
  refine⟨m,ns m hn,fun i x v e1 e2 e3=>?_⟩
  obtain⟨u,r,l⟩:=hl i x v e1 e2 e3
  refine⟨u,r,?_⟩
  rcases l with l|⟨k,c,e,z⟩
  ·exact .inl l
  ·exact .inr ⟨k,c,e,cellK x c e _ z⟩
 ·obtain⟨v,z⟩:=I.cell x c e
  exact⟨v,cellK x c e v z⟩
 ·obtain⟨m,⟨o,y,y,ho,y⟩,y⟩:=I.loc
  exact free _ o (fun z=>(gC _ z).2.1 rfl) ho I.free
 ·obtain⟨v,o,ho,hd⟩:=I.cell x c e
  exact free c o (fun z=>(gC c z).2.2.1 x c e rfl) ho (I.fD x c e)
 ·obtain⟨e,n,ne,nf,d⟩:=I.pin p hp
  have oN:p.1∉ch:=fun z=>(gC p.1 z).2.2.2 p hp rfl
  exact⟨keep p.1 p.2 ne nf oN e n,free p.1 p.2 oN e n,ne,nf,d⟩
theorem Inv.un{t':Nat}(I:Inv X pins σ H s)(u:Un X.fs [] H H' s.heap h')(aA:bV X.prog X.w H' h'):Inv X pins σ H' { s with heap:=h',toks:=t' }:=by
 obtain⟨m,⟨o,es,ep,ho,r⟩,y⟩:=id I.loc
 obtain⟨sl,hL⟩:=u.any ho I.free (by simp)
 exact I.step (g':=s.gens) (d':=s.drawn) (ch:=[]) (fun y z=>nomatch z) (fun b o y hb y e n=>u.keep b o e n hb (by simp)) (fun b o y hb y e n=>u.slot b o e n hb (by simp)) (fun b o y e n=>u.free b o e n (by simp)) (fun b o y e=>u.there b o e (by simp)) u.dG u.d6 u.eu (fun m' hm=>by
  obtain⟨o',es',uY,cJ,r'⟩:=hm
  rw[ho] at cJ;cases cJ
  exact⟨_,es',uY,hL,r'⟩) aA I.bare
theorem Inv.call{g':Array GenState}{t':Nat}{d':Drawn}{ch:List Addr}(I:Inv X pins σ H s)(u:Un (aY X.stack) ch H H' s.heap h')(aA:bV X.prog X.w H' h')(hg:AllBare g')
 (gC:∀ b∈ch,(b∈X.ex∨X.s₀.heap.objs.size<=b)/\b≠X.env.locals/\(∀ x c,X.env.cells.lookup x=some c->c≠b)/\∀ p∈X.pn++pins,p.1≠b) :
 Inv X pins σ H' { s with heap:=h',gens:=g',drawn:=d',toks:=t' }:=by
 obtain⟨m,⟨o,es,ep,ho,r⟩,y⟩:=id I.loc
 obtain⟨sl,hL⟩:=u.any ho I.free fun z=>(gC _ z).2.1 rfl
 exact I.step (ch:=ch) gC (fun b o hL hb hc e n=>u.keep b o e n (fun z=>(List.mem_cons.mp (I.mU b z)).elim hL hb) hc) (fun b o y y hc e n=>u.any e n hc) (fun b o hc e n=>u.free b o e n hc) (fun b o hc e=>u.there b o e hc) u.dG u.d6 u.eu (fun m' hm=>by
  obtain⟨o',es',uY,cJ,r'⟩:=hm
  rw[ho] at cJ;cases cJ
  exact⟨_,es',uY,hL,r'⟩) aA hg
theorem Inv.turned{t':Nat}{it:Addr}(I:Inv X pins σ H s)(k:∀ b o,b≠it->s.heap.get? b=some o->h'.get? b=some o)(hn:H it=none)(hL:it≠X.env.locals)
 (h1:it∈X.ex∨X.s₀.heap.objs.size<=it) (h2:∀ x c,X.env.cells.lookup x=some c->c≠it) (h3:∀ p∈X.pn++pins,p.1≠it):Inv X pins σ H { s with heap:=h',toks:=t' }:=by
 have Bj:∀ b u,H b=some u->b≠it:=fun b u e z=>by rw[z,hn] at e;cases e
 refine I.step (g':=s.gens) (d':=s.drawn) (ch:=[it]) (fun b hb=>?_) (fun b o y y hc e y=>k b o (fun z=>hc (by simp[z])) e) (fun b o y y hc e y=>⟨o.slots,k b o (fun z=>hc (by simp[z])) e⟩) (fun y y y y n=>n)
  (fun b o hc e=>⟨o,k b o (fun z=>hc (by simp[z])) e⟩) (fun y y e=>e) (fun y y y e=>e) (fun b ps e=>⟨#[],by rw[e];simp⟩) (fun m hm=>?_) (fun b u e=>?_) I.bare
 ·have e:b=it:=by simpa using hb
  subst e
  exact⟨h1,hL,h2,h3⟩
 ·obtain⟨o,es,ep,ho,r⟩:=hm
  exact⟨o,es,ep,k _ o (Ne.symm hL) ho,r⟩
 ·refine (I.aA b u e).stay (fun c v hc q=>k c v ?_ q) (fun y q=>q) fun y y q=>q
  rcases hc with z|z
  ·rw[z];exact Bj b u e
  ·exact Bj c _ z
theorem Inv.tok(I:Inv X pins σ H s)(t:Nat):Inv X pins σ H { s with toks:=t }:=I.un (h':=s.heap) (t':=t) Un.refl I.aA
theorem Inv.kept{t':Nat}(I:Inv X pins σ H s)(k:∀ b u,s.heap.get? b=some u->h'.get? b=some u):Inv X pins σ H { s with heap:=h',toks:=t' }:=I.un (Un.kept k) (I.aA.kept k)
theorem Inv.laid{a:Addr}{o:HO}{t':Nat}(I:Inv X pins σ H s)(k:∀ b u,s.heap.get? b=some u->h'.get? b=some u)(hp:s.heap.objs.size<=a)(new:bZ X.prog X.w (upd H a o) h' a o) :
 Inv X pins σ (upd H a o) { s with heap:=h',toks:=t' }:=I.un (Un.laid k hp (I.aA.fresh hp)) (I.aA.laid k hp new)
theorem Inv.write{x e:Addr}{o:HO}{t':Nat}(I:Inv X pins σ H s)(mu:oJ (H x))(he:e=x∨H e=some (.own x))(k:∀ b u,b≠e->s.heap.get? b=some u->h'.get? b=some u)(mT:∃ u,h'.get? e=some u)
 (new:bZ X.prog X.w (upd H x o) h' x o):Inv X pins σ (upd H x o) { s with heap:=h',toks:=t' }:=I.un (Un.write mu he k mT) (I.aA.write mu he k mT new)
theorem Inv.oO{lq:List (Addr × Obj)}(I:Inv X pins σ H s)(h:∀ p∈lq,s.heap.get? p.1=some p.2/\H p.1=none/\p.1≠X.env.locals/\p.1∉X.fs/\∀ v,p.2.data ≠ .cell v):Inv X lq σ H s :=
 ⟨I.ok,I.os,I.bare,I.base,I.loc,I.cell,I.free,I.fD,fun p hp=>(List.mem_append.mp hp).elim (fun z=>I.pin p (List.mem_append_left _ z)) (h p),I.aA,I.len⟩
theorem uZ{N:List Str}(hN:N.Nodup){i j:Nat}{x:Str}(a:N[i]?=some x)(b:N[j]?=some x):i=j:=by
 obtain⟨h1,e1⟩:=List.getElem?_eq_some_iff.mp a
 obtain⟨h2,e2⟩:=List.getElem?_eq_some_iff.mp b
 exact (List.getElem_inj hN).mp (e1.trans e2.symm)
theorem Ip{M:Model}{A:Around}{E:Value->Shared->Prop}{i:Nat}{x:Str}{v:V}{u:Value}{Q:Unit->Shared->Prop}(I:Inv X pins σ H s)(hN:X.N.Nodup)(hi:X.N[i]?=some x)(hx:Loc X.env.scope x)(r:RelV v u)
 (h:∀ s',Inv X pins (σ.set i (some v)) H s'->(∃ a,Heap.SameBut a s.heap s'.heap/\(a=X.env.locals∨X.env.cells.lookup x=some a))->Q () s') (hf:X.fn x=true∨X.env.scope.names.lookup x=some .local:=by first|exact .inl rfl|exact .inr rfl|assumption):wpAny M A (storeName X.env x u) Q E s:=by
 obtain⟨m,hn,hl⟩:=id I.loc
 have u7:(X.env.scope.kind == .class || (X.env.scope.kind == .module && X.env.locals != X.env.globals))=false:=by rw[I.ok.kind];rfl
 have Bk:i<σ.length:=by rw[I.len];exact (List.getElem?_eq_some_iff.mp hi).1
 have fE:=I.fE
 have tracked:∀ {a:Addr} {h':Heap},(∃ o,s.heap.get? a=some o/\H a=none)->Heap.SameBut a s.heap h'->bV X.prog X.w H h':=fun {a h'} ha hs b ob e=>by
  obtain⟨g,g,hfree⟩:=ha
  refine (I.aA b ob e).stay (fun c w' hc q=>(hs.2 c ?_).trans q) (fun g q=>q) fun g g q=>q
  rintro rfl
  rcases hc with rfl|hc
  ·rw[hfree] at e;cases e
  ·rw[hfree] at hc;cases hc
 rcases hx with hk|hk
 ·refine wpAny_storeName_local hk hn (fun h' u9 hs=>?_) u7
  obtain⟨oL,g,g,Bl,g⟩:=id hn
  refine h _ ⟨I.ok,I.os,I.bare,⟨fun b o e n hb hx=>?_,fun b o e n hb hx=>?_,I.base.free,fun b o e hx=>?_,I.base.dG,I.base.d6,I.base.eu⟩,⟨_,u9,fun j y v' e1 e2 e3=>?_⟩,fun y c e=>?_,I.free,I.fD,fun p hp=>?_,tracked ⟨oL,Bl,I.free⟩ hs,by simpa using I.len⟩ ⟨_,hs,.inl rfl⟩
  ·exact (hs.2 b (Nat.ne_of_lt (Nat.lt_of_lt_of_le (Heap.lt_size e) I.ok.above))).trans (I.base.keep b o e n hb hx)
  ·obtain⟨sl,e1⟩:=I.base.slot b o e n hb hx
   exact⟨sl,(hs.2 b (Nat.ne_of_lt (Nat.lt_of_lt_of_le (Heap.lt_size e) I.ok.above))).trans e1⟩
  ·obtain⟨o',e1⟩:=I.base.there b o e hx
   exact⟨o',(hs.2 b (Nat.ne_of_lt (Nat.lt_of_lt_of_le (Heap.lt_size e) I.ok.above))).trans e1⟩
  ·by_cases hj:j=i
   ·subst hj
    rw[hi] at e1;cases e1
    rw[List.getElem?_set_self Bk] at e2
    cases e2
    exact⟨u,r,.inl ⟨hk,by simp⟩⟩
   ·rw[List.getElem?_set_ne (Ne.symm hj)] at e2
    obtain⟨u',r',q⟩:=hl j y v' e1 e2 e3
    refine⟨u',r',?_⟩
    rcases q with ⟨k,e⟩|⟨k,c,e,z⟩
    ·refine .inl ⟨k,?_⟩
     have:y≠x:=fun e=>hj (uZ hN e1 (e ▸ hi))
     simp[this,e]
    ·exact .inr ⟨k,c,e,z.sameBut hs (fE y c e)⟩
  ·obtain⟨w',z⟩:=I.cell y c e
   exact⟨w',z.sameBut hs (fE y c e)⟩
  ·obtain⟨e,n,ne,nf,d⟩:=I.pin p hp
   exact⟨(hs.2 p.1 ne).trans e,n,ne,nf,d⟩
 ·have va:X.fn x=true:=by
   rcases hf with z|z
   ·exact z
   ·rw[z] at hk;cases hk
  obtain⟨c,hc⟩:=I.ok.has x (.inl hk)
  obtain⟨w',z⟩:=I.cell x c hc
  refine wpAny_storeName_cell I.ok.kind hk hc z (fun h' Bm hs=>?_)
  obtain⟨oc,hoc,hocd⟩:=id z
  refine h { s with heap:=h' } ⟨I.ok,I.os,I.bare,⟨fun b o e n hb hx=>?_,fun b o e n hb hx=>?_,I.base.free,fun b o e hx=>?_,I.base.dG,I.base.d6,I.base.eu⟩,⟨m,hn.sameBut hs (Ne.symm (fE x c hc)),fun j y v' e1 e2 e3=>?_⟩,fun y c' e=>?_,I.free,I.fD,fun p hp=>?_,tracked ⟨oc,hoc,I.fD x c hc⟩ hs,by simpa using I.len⟩ ⟨c,hs,.inr hc⟩
  ·exact (hs.2 b (Nat.ne_of_lt (Nat.lt_of_lt_of_le (Heap.lt_size e) (I.ok.cab x c va hc)))).trans (I.base.keep b o e n hb hx)
  ·obtain⟨sl,e1⟩:=I.base.slot b o e n hb hx
   exact⟨sl,(hs.2 b (Nat.ne_of_lt (Nat.lt_of_lt_of_le (Heap.lt_size e) (I.ok.cab x c va hc)))).trans e1⟩
  ·obtain⟨o',e1⟩:=I.base.there b o e hx
   exact⟨o',(hs.2 b (Nat.ne_of_lt (Nat.lt_of_lt_of_le (Heap.lt_size e) (I.ok.cab x c va hc)))).trans e1⟩
  ·by_cases hj:j=i
   ·subst hj
    rw[hi] at e1;cases e1
    rw[List.getElem?_set_self Bk] at e2
    cases e2
    exact⟨u,r,.inr ⟨.inl hk,c,hc,Bm⟩⟩
   ·rw[List.getElem?_set_ne (Ne.symm hj)] at e2
    obtain⟨u',r',q⟩:=hl j y v' e1 e2 e3
    refine⟨u',r',?_⟩
    rcases q with q|⟨k,c',e,z'⟩
    ·exact .inl q
    ·refine .inr ⟨k,c',e,z'.sameBut hs ?_⟩
     rintro rfl
     exact hj (uZ hN e1 (I.ok.inj _ _ _ e hc ▸ hi))
  ·by_cases hcc:c'=c
   ·subst hcc;exact⟨_,Bm⟩
   ·obtain⟨w2,z2⟩:=I.cell y c' e
    exact⟨w2,z2.sameBut hs hcc⟩
  ·obtain⟨e,n,ne,nf,d⟩:=I.pin p hp
   refine⟨(hs.2 p.1 ?_).trans e,n,ne,nf,d⟩
   intro q
   rw[q,hoc] at e
   have q':oc=p.2:=Option.some.inj e
   exact d w' (by rw[<- q'];exact hocd)
theorem vc{M:Model}{A:Around}{E:Value->Shared->Prop}{i:Nat}{x:Str}{v:V}{u:Value}{Q:Unit->Shared->Prop}(I:Inv X pins σ H s)(hN:X.N.Nodup)(hi:X.N[i]?=some x)(hx:Loc X.env.scope x)(r:RelV v u)
 (h:∀ s',Inv X pins (σ.set i (some v)) H s'->Q () s') (hf:X.fn x=true∨X.env.scope.names.lookup x=some .local:=by first|exact .inl rfl|exact .inr rfl|assumption):wpAny M A (storeName X.env x u) Q E s :=
 Ip I hN hi hx r (fun s' I' y=>h s' I') hf
theorem Inv.vd{s':Shared}{ch:List Addr}(I:Inv X pins σ H s)(ho:s'.os=s.os)(u:Un (aY X.stack) ch H H' s.heap s'.heap)(aA:bV X.prog X.w H' s'.heap)(hg:AllBare s'.gens)
 (gC:∀ b∈ch,(b∈X.ex∨X.s₀.heap.objs.size<=b)/\b≠X.env.locals/\(∀ x c,X.env.cells.lookup x=some c->c≠b)/\∀ p∈X.pn++pins,p.1≠b):Inv X pins σ H' s':=by
 obtain⟨h',g',d',t',o'⟩:=s'
 have e:o'=s.os:=ho
 subst e
 exact I.call (g':=g') (t':=t') (d':=d') u aA hg gC
end
abbrev XK:=Value->Option Addr->Hp->Prop
abbrev St:=List (Option V)
abbrev VK:=V->Hp->Prop
abbrev TE:=St->Hp->VK->Prop
abbrev TT:=St->Hp->(Bool->Hp->Prop)->Prop
abbrev TA:=St->Hp->(List V->Hp->Prop)->Prop
structure Ends where
 nx:St->Hp->Prop
 rt:VK
 bk:St->Hp->Prop:=fun _ _=>False
 ct:St->Hp->Prop:=fun _ _=>False
abbrev TS:=Ends->St->Hp->Prop
def EP(X:Cx)(pins:List (Addr × Obj))(σ:St)(Q:VK)(u:Value)(s':Shared):Prop:=∃ v H',Inv X pins σ H' s'/\RelV v u/\Q v H'
def TP(X:Cx)(pins:List (Addr × Obj))(σ:St)(Q:Bool->Hp->Prop)(b:Bool)(s':Shared):Prop:=∃ H',Inv X pins σ H' s'/\Q b H'
def AP(X:Cx)(pins:List (Addr × Obj))(σ:St)(Q:List V->Hp->Prop)(us:List Value)(s':Shared):Prop:=∃ vs H',Inv X pins σ H' s'/\Vals vs us/\Q vs H'
def SP(X:Cx)(pins:List (Addr × Obj))(D:Ends)(f:Flow)(s':Shared):Prop :=
 match f with
 | .next=>∃ σ' H',Inv X pins σ' H' s'/\D.nx σ' H'
 | .brk=>∃ σ' H',Inv X pins σ' H' s'/\D.bk σ' H'
 | .cont=>∃ σ' H',Inv X pins σ' H' s'/\D.ct σ' H'
 | .ret u=>∃ v σ' H',Inv X pins σ' H' s'/\RelV v u/\D.rt v H'
def PE(X:Cx)(e:Expr)(t:TE):Prop :=
 ∀ (pins:List (Addr × Obj)) (s:Shared) (σ:St) (H:Hp) (Q:VK),Inv X pins σ H s->t σ H Q->wpAny (model X.prog X.w) X.A (eval e X.env) (EP X pins σ Q) X.xe s
def PT(X:Cx)(e:Expr)(t:TT):Prop :=
 ∀ (pins:List (Addr × Obj)) (s:Shared) (σ:St) (H:Hp) (Q:Bool->Hp->Prop),Inv X pins σ H s->t σ H Q->wpAny (model X.prog X.w) X.A (isTrue e X.env (eval e X.env)) (TP X pins σ Q) X.xe s
def PW(X:Cx)(e:Expr)(t:TT):Prop :=
 ∀ (whole:Sem Value) (pins:List (Addr × Obj)) (s:Shared) (σ:St) (H:Hp) (Q:Bool->Hp->Prop),Inv X pins σ H s->t σ H Q->wpAny (model X.prog X.w) X.A (isTrue e X.env whole) (TP X pins σ Q) X.xe s
theorem PW.pt{X:Cx}{e:Expr}{t:TT}(h:PW X e t):PT X e t:=h _
def PA(X:Cx)(es:List Expr)(t:TA):Prop :=
 ∀ (pos:Pos) (pins:List (Addr × Obj)) (s:Shared) (σ:St) (H:Hp) (Q:List V->Hp->Prop),Inv X pins σ H s->t σ H Q->wpAny (model X.prog X.w) X.A (spliced (backTo pos (starEach es X.env))) (AP X pins σ Q) X.xe s
def PS(X:Cx)(st:Stmt)(t:TS):Prop :=
 ∀ (pins:List (Addr × Obj)) (s:Shared) (σ:St) (H:Hp) (D:Ends),Inv X pins σ H s->t D σ H->wpAny (model X.prog X.w) X.A (exec st X.env) (SP X pins D) X.xe s
def aS(X:Cx)(st:List Stmt)(t:TS):Prop :=
 ∀ (pins:List (Addr × Obj)) (s:Shared) (σ:St) (H:Hp) (D:Ends),Inv X pins σ H s->t D σ H->wpAny (model X.prog X.w) X.A (execs st X.env) (SP X pins D) X.xe s
theorem aC{α:Type}{t:Sem α}{Q Q':α->Shared->Prop}{M:Model}{A:Around}{E:Value->Shared->Prop}{s:Shared}(h:wpAny M A t Q E s)(hQ:∀ a s,Q a s->Q' a s):wpAny M A t Q' E s:=wpAny_mono h hQ fun y y x=>x
end L2
namespace L2
open PySem PySem.Spec PyProof.Rows
section
variable{X:Cx}
def ve(i:Nat):TE:=fun σ H Q=>∃ v,σ[i]?=some (some v)/\Q v H
def tC(v:V):TE:=fun y H Q=>Q v H
theorem Iq{i:Nat}{x:Str}{pos:Pos}(hN:X.N[i]?=some x)(hv:rO X.env.scope x)(hd:(x == ("__debug__" : Str))=false:=by decide)(fg:(x == ("__classdict__" : Str))=false:=by decide):PE X (.Name x pos) (ve i):=by
 intro pins s σ H Q I h
 obtain⟨v,e,h⟩:=h
 obtain⟨m,hn,hl⟩:=I.loc
 obtain⟨u,r,l⟩:=hl i x v hN e hv
 have fin:EP X pins σ Q u s:=⟨v,H,I,r,h⟩
 rcases l with ⟨hk,hm⟩|⟨hk,c,hc,hcell⟩
 ·exact wpAny_Name (wpAny_loadName_local I.ok.kind hk hn hm fin) hd
 ·rcases hk with hk|hk
  ·exact wpAny_Name (wpAny_loadName_cell I.ok.kind hk hc hcell fin) hd
  ·exact wpAny_Name (wpAny_loadName_free I.ok.kind hk hc hcell fin fg) hd
theorem ag{i j pos}:PE X (.Constant (.int i) j pos) (tC (.int i)):=fun y y y H y I h=>wpAny_Constant_int ⟨.int i,H,I.tok _,⟨_,rfl⟩,h⟩
theorem mW{b j pos}:PE X (.Constant (.bool b) j pos) (tC (.bl b)):=fun y y y H y I h=>Constant_bool ⟨.bl b,H,I,rfl,h⟩
theorem cK{j pos}:PE X (.Constant .none j pos) (tC .non):=fun y y y H y I h=>Constant_none ⟨.non,H,I,rfl,h⟩
theorem au{x j pos}:PE X (.Constant (.str x) j pos) (tC (.str x)):=fun y y y H y I h=>Calls.Constant_str ⟨.str x,H,I.tok _,⟨_,rfl⟩,h⟩
def Gl(X:Cx)(x:Str):Prop:=X.env.kindOf x=some .globalImplicit
theorem lr{E:Value->Shared->Prop}{pins:List (Addr × Obj)}{s:Shared}{σ:St}{H:Hp}{x:Str}{u:Value}{pos:Pos}{Q:Value->Shared->Prop}(I:Inv X pins σ H s)(hg:Gl X x)(hm:X.mg x=some u)(h:Q u s)
 (hd:(x == ("__debug__" : Str))=false:=by decide):wpAny (model X.prog X.w) X.A (eval (.Name x pos) X.env) Q E s :=
 Calls.Name_function_global I.ok.kind hg (Calls.loadGlobal_global (by rw[I.ok.glob];exact I.mod.glob.keeps I.bk) hm h) hd
theorem mX{E:Value->Shared->Prop}{pins:List (Addr × Obj)}{s:Shared}{σ:St}{H:Hp}{x:Str}{u:Value}{pos:Pos}{Q:Value->Shared->Prop}(I:Inv X pins σ H s)(hg:Gl X x)(hm:X.mg x=none)(hv:bootBuiltins x=some u)(h:Q u s)
 (hn:x ≠ "__name__" := by decide) (hd:(x == ("__debug__" : Str))=false:=by decide):wpAny (model X.prog X.w) X.A (eval (.Name x pos) X.env) Q E s:=by
 obtain⟨mb,h1,h2⟩:=I.mod.blt
 exact Calls.Name_function_global I.ok.kind hg (Calls.loadGlobal_builtin (by rw[I.ok.glob];exact I.mod.glob.keeps I.bk) hm (by rw[I.ok.blt];exact h1.keeps I.bk) ((h2 x hn).trans hv) h) hd
theorem fF{x:Str}{v:V}{u:Value}{pos:Pos}(hg:Gl X x)(hm:X.mg x=some u)(r:RelV v u)(hd:(x == ("__debug__" : Str))=false:=by decide):PE X (.Name x pos) (tC v) :=
 fun y y y H y I h=>lr I hg hm ⟨v,H,I,r,h⟩ hd
theorem vf{x:Str}{v:V}{u:Value}{pos:Pos}(hg:Gl X x)(hm:X.mg x=none)(hv:bootBuiltins x=some u)(r:RelV v u)(hn:x ≠ "__name__" := by decide)(hd:(x == ("__debug__" : Str))=false:=by decide):PE X (.Name x pos) (tC v) :=
 fun y y y H y I h=>mX I hg hm hv ⟨v,H,I,r,h⟩ hn hd
variable{a b:Expr}{ta tb:TE}{pos:Pos}
def PC(X:Cx)(op:CmpOp)(a b:Expr)(t:TE):Prop :=
 ∀ (pins:List (Addr × Obj)) (s:Shared) (σ:St) (H:Hp) (Q:VK),Inv X pins σ H s->t σ H Q ->
  wpAny (model X.prog X.w) X.A (eval a X.env) (fun v s₁=>wpAny (model X.prog X.w) X.A (eval b X.env) (fun u s₂=>wpAny (model X.prog X.w) X.A (compareOp op v u) (EP X pins σ Q) X.xe s₂) X.xe s₁) X.xe s
theorem Bn(b:Expr){op:CmpOp}(h:op ≠ .In)(h2:op ≠ .NotIn):behindInMarks op b=false:=by
 have e1:(op == CmpOp.In)=false:=by cases op<;>first|rfl|exact absurd rfl h
 have e2:(op == CmpOp.NotIn)=false:=by cases op<;>first|rfl|exact absurd rfl h2
 cases b<;>simp[behindInMarks,e1,e2]
def Bo(ta:TE):TE:=fun σ H Q=>ta σ H fun x H1=>Q (.bl (decide (x = .non))) H1
def Bp(ta:TE):TE:=fun σ H Q=>ta σ H fun x H1=>Q (.bl (!decide (x = .non))) H1
theorem RelV.Bq{x:V}{v:Value}(r:RelV x v):(v == Value.none)=decide (x = .non):=by
 cases x with
 | non=>cases r;rfl
 | bl _=>cases r;rfl
 | int _=>obtain⟨t,rfl⟩:=r;rfl
 | str _=>obtain⟨t,rfl⟩:=r;rfl
 | byt _=>obtain⟨t,rfl⟩:=r;rfl
 | flt _=>obtain⟨t,rfl⟩:=r;rfl
 | ref _=>cases r;rfl
 | ty _=>cases r;rfl
theorem vg{j pos'}(ha:PE X a ta):PC X .Is a (.Constant .none j pos') (Bo ta):=by
 intro pins s σ H Q I h
 refine aC (ha pins s σ H _ I h) fun v s1 ⟨x,H1,I1,r1,q1⟩=>?_
 exact Constant_none (is_none_gen ⟨.bl _,H1,I1,by rw[r1.Bq];rfl,q1⟩)
theorem oP{j pos'}(ha:PE X a ta):PC X .IsNot a (.Constant .none j pos') (Bp ta):=by
 intro pins s σ H Q I h
 refine aC (ha pins s σ H _ I h) fun v s1 ⟨x,H1,I1,r1,q1⟩=>?_
 exact Constant_none (isnot_none_gen ⟨.bl _,H1,I1,by rw[r1.Bq];rfl,q1⟩)
def tB(t:TE):TT:=fun σ H Q=>t σ H fun x H1=>∃ c,x = .bl c/\Q c H1
theorem mY{op:CmpOp}{t:TE}(h:PC X op a b t)(h1:behindInMarks op b=false:=by first|exact Bn _ (by decide) (by decide)|rfl):PE X (.Compare a [op] [b] pos) t:=fun pins s σ H Q I hw=>wpAny_Compare1 (h pins s σ H Q I hw) h1
theorem rP{op:CmpOp}{t:TE}(h:PC X op a b t)(h1:behindInMarks op b=false:=by first|exact Bn _ (by decide) (by decide)|rfl):PT X (.Compare a [op] [b] pos) (tB t):=by
 intro pins s σ H Q I hw
 refine wpAny_isTrue_Compare1 (aC (h pins s σ H _ I hw) fun v s1 h1=>aC h1 fun u s2 h2=>aC h2 fun c s3 ⟨x,H1,I1,r1,q1⟩=>?_) h1
 obtain⟨d,rfl,q⟩:=q1
 cases r1
 exact wpAny_truthy_bool ⟨H1,I1,q⟩
theorem Ir{e:Expr}{t:TE}(h:PE X e t)(he:∀ whole,isTrue e X.env whole=(do let v <- whole;standAt e.pos;holding [v] (truthy v)):=by intro y;rfl):PT X e (tB t):=by
 intro pins s σ H Q I hw
 refine isTrue_plain (aC (h pins s σ H _ I hw) fun v s1 ⟨x,H1,I1,r1,q1⟩=>?_) (he _)
 obtain⟨d,rfl,q⟩:=q1
 cases r1
 exact wpAny_truthy_bool ⟨H1,I1,q⟩
variable{tA rQ:TT}{rest:List Expr}
def Br(t u:TT):TT:=fun σ H Q=>t σ H fun c H1=>if c=true then u σ H1 Q else Q false H1
def Bs(t u:TT):TT:=fun σ H Q=>t σ H fun c H1=>if c=true then Q true H1 else u σ H1 Q
def Bu(t:TT):TT:=fun σ H Q=>t σ H fun c H1=>Q (!c) H1
theorem mZ(ha:PT X a tA):PW X (.BoolOp .And [a] pos) tA:=by
 intro wh pins s σ H Q I h
 refine isTrue_and (aC (ha pins s σ H Q I h) fun c s1 e=>?_)
 cases c with
 | true=>exact isTrue_and_nil e
 | false=>exact e
theorem eS(ha:PT X a tA):PW X (.BoolOp .Or [a] pos) tA:=by
 intro wh pins s σ H Q I h
 refine isTrue_or (aC (ha pins s σ H Q I h) fun c s1 e=>?_)
 cases c with
 | false=>exact isTrue_or_nil e
 | true=>exact e
theorem lx(ha:PT X a tA)(hb:PW X (.BoolOp .And (b::rest) pos) rQ):PW X (.BoolOp .And (a::b::rest) pos) (Br tA rQ):=by
 intro wh pins s σ H Q I h
 refine isTrue_and (aC (ha pins s σ H _ I h) fun c s1 ⟨H1,I1,q1⟩=>?_)
 cases c with
 | true=>exact hb wh pins s1 σ H1 Q I1 q1
 | false=>exact⟨H1,I1,q1⟩
theorem dn(ha:PT X a tA)(hb:PW X (.BoolOp .Or (b::rest) pos) rQ):PW X (.BoolOp .Or (a::b::rest) pos) (Bs tA rQ):=by
 intro wh pins s σ H Q I h
 refine isTrue_or (aC (ha pins s σ H _ I h) fun c s1 ⟨H1,I1,q1⟩=>?_)
 cases c with
 | true=>exact⟨H1,I1,q1⟩
 | false=>exact hb wh pins s1 σ H1 Q I1 q1
theorem jg(ha:PT X a tA):PT X (.UnaryOp .Not a pos) (Bu tA):=by
 intro pins s σ H Q I h
 exact isTrue_not (ha pins s σ H (fun c H1=>Q (!c) H1) I h)
def Bv(ta tb:TE):TE:=fun σ H Q=>ta σ H fun x H1=>∃ c,x = .bl c/\if c=true then tb σ H1 Q else Q (.bl false) H1
def Bw(ta tb:TE):TE:=fun σ H Q=>ta σ H fun x H1=>∃ c,x = .bl c/\if c=true then Q (.bl true) H1 else tb σ H1 Q
def Bx(ta:TE):TE:=fun σ H Q=>ta σ H fun x H1=>∃ c,x = .bl c/\Q (.bl (!c)) H1
theorem eA{op}{t:TE}(h:PE X a t):PE X (.BoolOp op [a] pos) t:=fun pins s σ H Q I hw=>BoolOp_one (h pins s σ H Q I hw)
theorem Iu(ha:PE X a ta)(hb:PE X (.BoolOp .And (b::rest) pos) tb):PE X (.BoolOp .And (a::b::rest) pos) (Bv ta tb):=by
 intro pins s σ H Q I h
 refine BoolOp_and (aC (ha pins s σ H _ I h) fun v s1 ⟨x,H1,I1,r1,q1⟩=>?_)
 obtain⟨c,rfl,q1⟩:=q1
 cases r1
 refine wpAny_truthy_bool ?_
 cases c with
 | true=>exact hb pins s1 σ H1 Q I1 q1
 | false=>exact⟨.bl false,H1,I1,rfl,q1⟩
theorem Iv(ha:PE X a ta)(hb:PE X (.BoolOp .Or (b::rest) pos) tb):PE X (.BoolOp .Or (a::b::rest) pos) (Bw ta tb):=by
 intro pins s σ H Q I h
 refine BoolOp_or (aC (ha pins s σ H _ I h) fun v s1 ⟨x,H1,I1,r1,q1⟩=>?_)
 obtain⟨c,rfl,q1⟩:=q1
 cases r1
 refine wpAny_truthy_bool ?_
 cases c with
 | false=>exact hb pins s1 σ H1 Q I1 q1
 | true=>exact⟨.bl true,H1,I1,rfl,q1⟩
theorem Iw(ha:PE X a ta):PE X (.UnaryOp .Not a pos) (Bx ta):=by
 intro pins s σ H Q I h
 refine UnaryOp_ (aC (ha pins s σ H _ I h) fun v s1 ⟨x,H1,I1,r1,q1⟩=>?_)
 obtain⟨c,rfl,q1⟩:=q1
 cases r1
 exact not_of (wpAny_truthy_bool ⟨.bl (!c),H1,I1,rfl,q1⟩)
def By(t:TT)(ta tb:TE):TE:=fun σ H Q=>t σ H fun c H1=>if c=true then ta σ H1 Q else tb σ H1 Q
theorem rR{c:Expr}(hc:PT X c tA)(ha:PE X a ta)(hb:PE X b tb):PE X (.IfExp c a b pos) (By tA ta tb):=by
 intro pins s σ H Q I h
 refine wpAny_IfExp (aC (hc pins s σ H _ I h) fun d s1 ⟨H1,I1,q1⟩=>?_)
 cases d with
 | true=>exact ha pins s1 σ H1 Q I1 q1
 | false=>exact hb pins s1 σ H1 Q I1 q1
end
end L2
namespace L2
open PySem PySem.Spec PyProof.Rows
def ar(K:PySem.W.Frag)(H:Hp)(a:Addr)(xs:List V):Prop :=
 Rd H a (.lst xs) ∨
  ∃ (o:Obj) (av:Array Value) (n:Nat),K.lookup a=some o/\o.cls = .type "list" /\ o.dict=none/\o.data = .seq av n/\av.size<=sizeLine/\Vals xs av.toList
def aB(K:PySem.W.Frag)(H:Hp)(a:Addr)(xs:List V):Prop :=
 Rd H a (.tup xs) ∨
  ∃ (o:Obj) (av:Array Value) (n:Nat),K.lookup a=some o/\o.cls = .type "tuple" /\ o.data = .seq av n/\av.size<=sizeLine/\Vals xs av.toList
noncomputable def Iy:Value->Option V
 | .none=>some .non
 | .bool b=>some (.bl b)
 | .int i _=>some (.int i)
 | .str x _=>some (.str x)
 | .bytes b _=>some (.byt b)
 | .float b _=>some (.flt b)
 | .ref a=>some (.ref a)
 | .type n=>some (.ty n)
 | _=>none
theorem RelV.abs{x:V}{u:Value}(r:RelV x u):Iy u=some x:=by
 cases x with
 | non=>cases r;rfl
 | bl _=>cases r;rfl
 | int _=>obtain⟨t,rfl⟩:=r;rfl
 | str _=>obtain⟨t,rfl⟩:=r;rfl
 | byt _=>obtain⟨t,rfl⟩:=r;rfl
 | flt _=>obtain⟨t,rfl⟩:=r;rfl
 | ref _=>cases r;rfl
 | ty _=>cases r;rfl
theorem RelV.inj{x y:V}{u:Value}(r:RelV x u)(q:RelV y u):x=y:=Option.some.inj (r.abs.symm.trans q.abs)
theorem Vals.inj:∀ {xs ys:List V} {us:List Value},Vals xs us->Vals ys us->xs=ys
 | _,_,_,.nil,.nil=>rfl
 | _,_,_,.cons r t,.cons r' t'=>by rw[r.inj r',Vals.inj t t']
section
variable{X:Cx}{pins:List (Addr × Obj)}{σ:St}{H:Hp}{s:Shared}{a:Addr}{xs ys:List V}
theorem ar.of{K:PySem.W.Frag}(h:H a=some (.lst xs)):ar K H a xs:=.inl (.inl h)
theorem aB.of{K:PySem.W.Frag}(h:H a=some (.tup xs)):aB K H a xs:=.inl (.inl h)
theorem Inv.list(I:Inv X pins σ H s)(h:ar X.K H a xs):∃ av:List Value,Vals xs av/\PlainL s.heap a av.toArray/\xs.length<=sizeLine:=by
 rcases h with h|⟨o,av,n,hk,hc,hd,hs,hz,r⟩
 ·obtain⟨z,av,n,r,e⟩:=h.ok I.aA
  exact⟨av,r,⟨_,n,e,rfl,rfl,rfl⟩,z⟩
 ·refine⟨av.toList,r,⟨o,n,I.bI a o hk,hc,hd,by simpa using hs⟩,?_⟩
  have e:=r.length
  simp only[Array.length_toList] at e
  omega
theorem Inv.tuple(I:Inv X pins σ H s)(h:aB X.K H a xs):∃ av:List Value,Vals xs av/\IsTup s.heap a av.toArray/\xs.length<=sizeLine:=by
 rcases h with h|⟨o,av,n,hk,hc,hs,hz,r⟩
 ·obtain⟨z,av,r,p⟩:=h.ok I.aA
  exact⟨av,r,p,z⟩
 ·refine⟨av.toList,r,⟨o,I.bI a o hk,hc,n,by simpa using hs⟩,?_⟩
  have e:=r.length
  simp only[Array.length_toList] at e
  omega
theorem Inv.Bz(I:Inv X pins σ H s)(h:ar X.K H a xs)(h':ar X.K H a ys):xs=ys:=by
 obtain⟨av,r,⟨o,n,e,y,y,d⟩,y⟩:=I.list h
 obtain⟨its',r',⟨o',n',e',y,y,d'⟩,y⟩:=I.list h'
 rw[e] at e';cases e'
 rw[d] at d'
 injection d' with d1 _
 have:av=its':=by simpa using congrArg Array.toList d1
 subst this
 exact r.inj r'
theorem Inv.Iz(I:Inv X pins σ H s)(h:aB X.K H a xs)(h':aB X.K H a ys):xs=ys:=by
 obtain⟨av,r,⟨o,e,y,n,d⟩,y⟩:=I.tuple h
 obtain⟨its',r',⟨o',e',y,n',d'⟩,y⟩:=I.tuple h'
 rw[e] at e';cases e'
 rw[d] at d'
 injection d' with d1 _
 have:av=its':=by simpa using congrArg Array.toList d1
 subst this
 exact r.inj r'
end
noncomputable abbrev Cx.gD(X:Cx)(E:Value->Shared->Prop):Cx:={ X with xe:=E }
noncomputable abbrev Cx.gE(X:Cx):Cx:=X.gD fun y y=>False
theorem Cx.Ok.gD{X:Cx}(ok:X.Ok)(E:Value->Shared->Prop):(X.gD E).Ok :=
 ⟨ok.mod,ok.kind,ok.glob,ok.blt,ok.above,ok.inj,ok.has,ok.cab,ok.hd,ok.frames,ok.bq,ok.exf,ok.bs,ok.bsz,ok.noex,ok.exfs,ok.ff,ok.frf⟩
theorem Cx.Ok.iG{X:Cx}{E:Value->Shared->Prop}(ok:(X.gD E).Ok):X.Ok :=
 ⟨ok.mod,ok.kind,ok.glob,ok.blt,ok.above,ok.inj,ok.has,ok.cab,ok.hd,ok.frames,ok.bq,ok.exf,ok.bs,ok.bsz,ok.noex,ok.exfs,ok.ff,ok.frf⟩
section
variable{X:Cx}{pins:List (Addr × Obj)}{σ:St}{H:Hp}{s:Shared}{E:Value->Shared->Prop}
theorem Inv.gD(I:Inv X pins σ H s)(E:Value->Shared->Prop):Inv (X.gD E) pins σ H s:=⟨I.ok.gD E,I.os,I.bare,I.base,I.loc,I.cell,I.free,I.fD,I.pin,I.aA,I.len⟩
theorem Inv.iG(I:Inv (X.gD E) pins σ H s):Inv X pins σ H s:=⟨I.ok.iG,I.os,I.bare,I.base,I.loc,I.cell,I.free,I.fD,I.pin,I.aA,I.len⟩
theorem SP.iG{D:Ends}{f:Flow}{s':Shared}(h:SP (X.gD E) pins D f s'):SP X pins D f s':=by
 cases f with
 | next=>obtain⟨σ',H',I,q⟩:=h;exact⟨σ',H',I.iG,q⟩
 | brk=>obtain⟨σ',H',I,q⟩:=h;exact⟨σ',H',I.iG,q⟩
 | cont=>obtain⟨σ',H',I,q⟩:=h;exact⟨σ',H',I.iG,q⟩
 | ret u=>obtain⟨v,σ',H',I,r,q⟩:=h;exact⟨v,σ',H',I.iG,r,q⟩
theorem PE.gE{e:Expr}{t:TE}(h:PE X.gE e t):PE X e t:=fun pins s σ H Q I hw =>
 wpAny_mono (h pins s σ H Q (I.gD _) hw) (fun _ _ ⟨v,H',I',r,q⟩=>⟨v,H',I'.iG,r,q⟩) fun y y z=>False.elim z
theorem PT.gE{e:Expr}{t:TT}(h:PT X.gE e t):PT X e t:=fun pins s σ H Q I hw =>
 wpAny_mono (h pins s σ H Q (I.gD _) hw) (fun _ _ ⟨H',I',q⟩=>⟨H',I'.iG,q⟩) fun y y z=>False.elim z
theorem aS.gE{st:List Stmt}{t:TS}(h:aS X.gE st t):aS X st t:=fun pins s σ H D I hw =>
 wpAny_mono (h pins s σ H D (I.gD _) hw) (fun y y q=>q.iG) fun y y z=>False.elim z
end
section
variable{X:Cx}{st:Stmt}{rest:List Stmt}{t u:TS}{e:Expr}{te:TE}{pos:Pos}
def BA:TS:=fun D σ H=>D.nx σ H
def rS(t u:TS):TS:=fun D σ H=>t { D with nx:=u D } σ H
theorem aH:aS X [] BA:=fun y y σ H y I h=>wpAny_execs_nil ⟨σ,H,I,h⟩
theorem aq(h1:PS X st t)(h2:aS X rest u):aS X (st::rest) (rS t u):=by
 intro pins s σ H D I h
 refine wpAny_execs_cons (aC (h1 pins s σ H { D with nx:=u D } I h) fun f s1 q=>?_)
 cases f with
 | next =>
  obtain⟨σ',H',I',q⟩:=q
  exact h2 pins s1 σ' H' D I' q
 | ret v=>exact q
 | brk=>exact q
 | cont=>exact q
theorem ao(h1:PS X st t):aS X [st] t:=by
 intro pins s σ H D I h
 refine wpAny_execs_cons (aC (h1 pins s σ H D I h) fun f s1 q=>?_)
 cases f with
 | next=>exact wpAny_execs_nil q
 | ret v=>exact q
 | brk=>exact q
 | cont=>exact q
def IA:TS:=fun D σ H=>D.ct σ H
theorem IB:PS X (.Continue pos) IA:=fun y y σ H y I h=>wpAny_Continue ⟨σ,H,I,h⟩
theorem Inv.quiet{pins:List (Addr × Obj)}{σ:St}{H:Hp}{s:Shared}(I:Inv X pins σ H s):interactive X.env=false:=by simp[interactive,I.ok.kind]
def BB(te:TE):TS:=fun D σ H=>te σ H fun y H1=>D.nx σ H1
theorem fh(he:PE X e te)(hs:swapsWith e none pos.line X.env=pure false:=by rfl):PS X (.Expr e pos) (BB te):=by
 intro pins s σ H D I h
 exact wpAny_Expr_any (aC (he pins s σ H _ I h) fun v s1 ⟨x,H1,I1,r1,q1⟩=>⟨σ,H1,I1,q1⟩) I.quiet hs
def BC(te:TE):TS:=fun D σ H=>te σ H D.rt
theorem ay(he:PE X e te):PS X (.Return (some e) pos) (BC te):=by
 intro pins s σ H D I h
 exact wpAny_Return_some (aC (he pins s σ H _ I h) fun v s1 ⟨x,H1,I1,r1,q1⟩=>⟨x,σ,H1,I1,r1,q1⟩)
def rT(c:TT)(t u:TS):TS:=fun D σ H=>c σ H fun b H1=>if b=true then t D σ H1 else u D σ H1
theorem aE{c:Expr}{a b:List Stmt}{tc:TT}(hc:PT X c tc)(ha:aS X a t)(hb:aS X b u):PS X (.If c a b pos) (rT tc t u):=by
 intro pins s σ H D I h
 refine wpAny_If (aC (hc pins s σ H _ I h) fun d s1 ⟨H1,I1,q1⟩=>?_)
 cases d with
 | true=>exact ha pins s1 σ H1 D I1 q1
 | false=>exact hb pins s1 σ H1 D I1 q1
def IC:TS:=fun y y y=>False
theorem ID{IE:List Stmt}:aS X IE IC:=fun y y y y y y h=>h.elim
end
abbrev TG:=V->St->Hp->(St->Hp->Prop)->Prop
abbrev vh:=List V->St->Hp->(St->Hp->Prop)->Prop
def PG(X:Cx)(target:Expr)(t:TG):Prop :=
 ∀ (pins:List (Addr × Obj)) (s:Shared) (σ:St) (H:Hp) (v:V) (u:Value) (Q:St->Hp->Prop),Inv X pins σ H s->RelV v u->t v σ H Q ->
  wpAny (model X.prog X.w) X.A (assign target X.env u) (fun y s'=>∃ σ' H',Inv X pins σ' H' s'/\Q σ' H') X.xe s
abbrev vi:=V->V->V->Hp->(Hp->Prop)->Prop
def BD(X:Cx)(t:vi):Prop :=
 ∀ (pins:List (Addr × Obj)) (s:Shared) (σ:St) (H:Hp) (o i v:V) (ov iv u:Value) (Q:Hp->Prop),Inv X pins σ H s->RelV o ov->RelV i iv->RelV v u->t o i v H Q ->
  wpAny (model X.prog X.w) X.A (setItem ov iv u) (fun y s'=>∃ H',Inv X pins σ H' s'/\Q H') X.xe s
section
variable{X:Cx}{pos:Pos}
def ly(i:Nat):TG:=fun v σ H Q=>Q (σ.set i (some v)) H
theorem vj{i:Nat}{x:Str}(hN:X.N.Nodup)(hi:X.N[i]?=some x)(hx:Loc X.env.scope x)(hf:X.fn x=true∨X.env.scope.names.lookup x=some .local:=by first|exact .inl rfl|exact .inr rfl|assumption):PG X (.Name x pos) (ly i):=by
 intro pins s σ H v u Q I r h
 exact wpAny_assign_Name (vc I hN hi hx r (fun s' I'=>⟨_,H,I',h⟩) hf)
def IF:vh:=fun vs σ H Q=>vs=[]/\Q σ H
def IG(t:TG)(u:vh):vh:=fun vs σ H Q=>∃ v r,vs=v::r/\t v σ H fun σ' H'=>u r σ' H' Q
def BE(to ti:TE)(t:vi):TG:=fun v σ H Q=>to σ H fun o H1=>ti σ H1 fun i H2=>t o i v H2 fun H3=>Q σ H3
theorem IH{o i:Expr}{to ti:TE}{t:vi}(ho:PE X o to)(hi:PE X i ti)(hs:BD X t)
 (ha:∀ v,assign (.Subscript o i pos) X.env v=(do
   let ov <- holding [v] (eval o X.env)
   let iv <- holding [v,ov] (eval i X.env)
   standAt pos
   holding [v,ov,iv] (setItem ov iv v)
   release [v,ov,iv] []):=by intro z;rfl):PG X (.Subscript o i pos) (BE to ti t):=by
 intro pins s σ H v u Q I r h
 rw[ha]
 refine wpAny_bind (wpAny_holding (aC (ho pins s σ H _ I h) fun ov s1 ⟨x,H1,I1,r1,q1⟩=>?_))
 refine wpAny_bind (wpAny_holding (aC (hi pins s1 σ H1 _ I1 q1) fun iv s2 ⟨y,H2,I2,r2,q2⟩=>?_))
 refine wpAny_bind (wpAny_standAt (wpAny_bind (wpAny_holding (aC (hs pins s2 σ H2 x y v ov iv u _ I2 r1 r2 r q2) fun _ s3 ⟨H3,I3,q3⟩=>?_))))
 exact wpAny_release ⟨σ,H3,I3,q3⟩
def oQ(te:TE)(g:TG):TS:=fun D σ H=>te σ H fun x H1=>g x σ H1 D.nx
theorem II{tg e:Expr}{te:TE}{g:TG}(he:PE X e te)(hg:PG X tg g)(hs:swapsWithSole [tg] e pos.line X.env=pure false:=by rfl)(hw:swappedStores [tg] e X.env=pure none:=by rfl)
 (h1:(assignEach [tg] X.env).map (·.2)=[assign tg X.env]:=by rfl):PS X (.Assign [tg] e pos) (oQ te g):=by
 intro pins s σ H D I h
 refine wpAny_Assign_stores (aC (he pins s σ H _ I h) fun v s1 ⟨x,H1,I1,r1,q1⟩=>?_) hs hw
 rw[h1]
 exact aC (hg pins s1 σ H1 x v _ I1 r1 q1) fun y s2 q=>q
theorem IJ{i:Nat}{x:Str}{e:Expr}{te:TE}{pos':Pos}(hN:X.N.Nodup)(hi:X.N[i]?=some x)(hx:Loc X.env.scope x)(he:PE X e te)(hs:swapsWith e (some (.Name x pos')) pos.line X.env=pure false:=by rfl)(hf:X.fn x=true∨X.env.scope.names.lookup x=some .local:=by first|exact .inl rfl|exact .inr rfl|assumption) :
 PS X (.Assign [.Name x pos'] e pos) (oQ te (ly i)):=by
 intro pins s σ H D I h
 refine wpAny_Assign_Name (aC (he pins s σ H _ I h) fun v s1 ⟨y,H1,I1,r1,q1⟩=>?_) hs
 exact vc I1 hN hi hx r1 (fun s2 I2=>⟨_,H1,I2,q1⟩) hf
end
section
variable{X:Cx}{pos:Pos}
end
structure It where
 go:Nat->Hp->Prop
 yld:Nat->Hp->V->Hp->Prop
 stop:Nat->Hp->Prop
def fS(X:Cx)(pins:List (Addr × Obj))(H:Hp)(b:Addr):Prop :=
 H b=none/\b≠X.env.locals/\b∉X.fs/\(b∈X.ex∨X.s₀.heap.objs.size<=b)/\(∀ x c,X.env.cells.lookup x=some c->c≠b)/\∀ p∈X.pn++pins,p.1≠b
theorem Inv.m3{X:Cx}{pins:List (Addr × Obj)}{σ:St}{H H':Hp}{s:Shared}{b:Addr}(I:Inv X pins σ H s)(hb:s.heap.objs.size<=b)(hn:H' b=none):fS X pins H' b:=by
 refine⟨hn,Nat.ne_of_gt (Nat.lt_of_lt_of_le I.lt hb),I.Bi hb,.inr (Nat.le_trans I.sz hb),fun x c e z=>?_,fun p hp z=>?_⟩
 ·obtain⟨v,q⟩:=I.cell x c e
  exact absurd (Nat.lt_of_lt_of_le q.lt (by rw[z];exact hb)) (Nat.lt_irrefl _)
 ·exact absurd (Nat.lt_of_lt_of_le (Heap.lt_size (I.pin p hp).1) (by rw[z];exact hb)) (Nat.lt_irrefl _)
structure Turn(P:Program)(w:World)(K:PySem.W.Frag)(tg:Expr)(J:It)(fp:List Addr)(it:Addr)(tn:Nat->Heap->Prop):Prop where
 mem:it∈fp
 obj:∀ i h,tn i h->∀ b∈fp,∃ o,h.get? b=some o/\∀ v,o.data ≠ .cell v
 keep:∀ i h h',tn i h->(∀ b∈fp,∀ o,h.get? b=some o->h'.get? b=some o)->tn i h'
 item:∀ (X:Cx),X.prog=P->X.w=w->X.K=K->X.calm=true->∀ (i:Nat) (pins:List (Addr × Obj)) (s:Shared) (σ:St) (H:Hp) (E:Value->Shared->Prop),Inv X pins σ H s->(∀ b∈fp,fS X pins H b)->tn i s.heap->J.go i H ->
  wpAny (model P w) X.A (pyNext (.ref it)) (fun r s1=>∃ u,r=some u /\
   wpAny (model P w) X.A (letOwnedTupleGo tg (.ref it) u) (fun _ s2=>∃ x H',Inv X pins σ H' s2/\RelV x u/\J.yld i H x H'/\tn (i+1) s2.heap/\∀ b∈fp,H' b=none) E s1) E s
 done:∀ (X:Cx),X.prog=P->X.w=w->X.K=K->X.calm=true->∀ (i:Nat) (pins:List (Addr × Obj)) (s:Shared) (σ:St) (H:Hp) (E:Value->Shared->Prop),Inv X pins σ H s->(∀ b∈fp,fS X pins H b)->tn i s.heap->J.stop i H ->
  wpAny (model P w) X.A (pyNext (.ref it)) (fun r s1=>r=none/\Inv X pins σ H s1) E s
 self:∀ (A:Around) (i:Nat) (s:Shared) (Q:Value->Shared->Prop) (E:Value->Shared->Prop),tn i s.heap->Q (.ref it) s->wpAny (model P w) A (pyIter (.ref it)) Q E s
abbrev TI:=St->Hp->(It->Hp->Prop)->Prop
def BF(X:Cx)(pins:List (Addr × Obj))(σ:St)(tg:Expr)(R:It->Hp->Prop)(rV:Value)(s2:Shared):Prop :=
 ∃ (it:Addr) (fp:List Addr) (tn:Nat->Heap->Prop) (J:It) (H':Hp),rV = .ref it/\Inv X pins σ H' s2/\Turn X.prog X.w X.K tg J fp it tn/\tn 0 s2.heap/\(∀ b∈fp,fS X pins H' b)/\R J H'
def PI(X:Cx)(tg iter:Expr)(wi:TI):Prop :=
 ∀ (pins:List (Addr × Obj)) (s:Shared) (σ:St) (H:Hp) (R:It->Hp->Prop),Inv X pins σ H s->wi σ H R ->
  wpAny (model X.prog X.w) X.A (eval iter X.env) (fun v s1=>wpAny (model X.prog X.w) X.A (pyIter v) (BF X pins σ tg R) X.xe s1) X.xe s
theorem oR{M:Model}{A:Around}{E:Value->Shared->Prop}{s:Shared}{tg:Expr}{it:Addr}{u:Value}{o:Obj}{n:String}{vs:Array Value}{Q:Unit->Shared->Prop}(ho:s.heap.get? it=some o)(hc:o.cls = .type n)(hd:o.data = .fields vs)
 (hn:["enumerate","zip","dict_itemiterator","dict_reverseitemiterator","odict_iterator","itertools.zip_longest","itertools.pairwise"].contains n=false) (hQ:Q () s):wpAny M A (letOwnedTupleGo tg (.ref it) u) Q E s:=by
 unfold letOwnedTupleGo
 cases tg<;>first
  | exact wpAny_pure hQ
  | (cases u<;>first
      | exact wpAny_pure hQ
      | (refine wpAny_bind (wpAny_load ho ?_)
         rw[hc,hd]
         show wpAny M A (if (["enumerate","zip","dict_itemiterator","dict_reverseitemiterator","odict_iterator","itertools.zip_longest","itertools.pairwise"].contains n && vs[0]? == some (rawInt _))=true then _ else _) Q E s
         rw[if_neg (by intro h;rw[hn,Bool.false_and] at h;cases h)]
         exact wpAny_pure hQ))
noncomputable def jU(K:PySem.W.Frag)(a:Addr):It :=
 ⟨fun i H=>∃ xs x,ar K H a xs/\xs[i]?=some x,fun i H x H'=>H'=H/\∀ xs,ar K H a xs->xs[i]?=some x,fun i H=>∃ xs,ar K H a xs/\xs.length<=i⟩
noncomputable def lz(K:PySem.W.Frag)(a:Addr):It :=
 ⟨fun i H=>∃ xs x,aB K H a xs/\xs[i]?=some x,fun i H x H'=>H'=H/\∀ xs,aB K H a xs->xs[i]?=some x,fun i H=>∃ xs,aB K H a xs/\xs.length<=i⟩
noncomputable def hU(lo:Int)(n:Nat):It:=⟨fun i y=>i<n,fun i H x H'=>H'=H/\x = .int (lo+i),fun i y=>n<=i⟩
theorem IK{P:Program}{w:World}{K:PySem.W.Frag}{tg:Expr}(a it:Addr):Turn P w K tg (jU K a) [it] it (fun i h=>h.IsListIter it a i) where
 mem:=by simp
 obj:=fun i h st b hb=>by
  have e:b=it:=by simpa using hb
  subst e
  obtain⟨o,e,c,d⟩:=st
  exact⟨o,e,fun v z=>by rw[d] at z;cases z⟩
 keep:=fun i h h' st k=>st.at fun o e=>k it (by simp) o e
 item:=by
  intro X hP hw hK hc i pins s σ H E I hf st hg
  subst hP hw hK
  obtain⟨xs,x,hq,hx⟩:=hg
  obtain⟨av,rv,p,hz⟩:=I.list hq
  obtain⟨u,hu,ru⟩:=rv.get hx
  obtain⟨f0,f1,f2,f3,f4,f5⟩:=hf it (by simp)
  refine wpAny_pyNext_list_item st p.isList (x:=u) (by simpa using hu) fun h' cj sb=>?_
  have I1:Inv X pins σ H { s with heap:=h' }:=I.turned (t':=s.toks) (fun b o hb e=>(sb.2 b hb).trans e) f0 f1 f3 f4 f5
  obtain⟨o,e,c,d⟩:=id cj
  exact⟨u,rfl,oR (s:={ s with heap:=h' }) e c d (by decide) ⟨x,H,I1,ru,⟨rfl,fun ys hy=>by rw[I.Bz hy hq];exact hx⟩,cj,fun b hb=>(hf b hb).1⟩⟩
 done:=by
  intro X hP hw hK hc i pins s σ H E I hf st hg
  subst hP hw hK
  obtain⟨xs,hq,hx⟩:=hg
  obtain⟨av,rv,p,hz⟩:=I.list hq
  obtain⟨f0,f1,f2,f3,f4,f5⟩:=hf it (by simp)
  have hl:=rv.length
  exact wpAny_pyNext_list_end (I.ok.hd hc) st p.isList (by simp;omega) fun h' eb=>⟨rfl,I.turned (t':=s.toks) (fun b o hb e=>eb b o hb e) f0 f1 f3 f4 f5⟩
 self:=fun y y y y y st h=>wpAny_pyIter_listiter st h
theorem IL{P:Program}{w:World}{K:PySem.W.Frag}{tg:Expr}(a it:Addr):Turn P w K tg (lz K a) [it] it (fun i h=>h.IsTupleIter it a i) where
 mem:=by simp
 obj:=fun i h st b hb=>by
  have e:b=it:=by simpa using hb
  subst e
  obtain⟨o,e,c,d⟩:=st
  exact⟨o,e,fun v z=>by rw[d] at z;cases z⟩
 keep:=fun i h h' st k=>st.at fun o e=>k it (by simp) o e
 item:=by
  intro X hP hw hK hc i pins s σ H E I hf st hg
  subst hP hw hK
  obtain⟨xs,x,hq,hx⟩:=hg
  obtain⟨av,rv,p,hz⟩:=I.tuple hq
  obtain⟨u,hu,ru⟩:=rv.get hx
  obtain⟨f0,f1,f2,f3,f4,f5⟩:=hf it (by simp)
  refine wpAny_pyNext_tuple_item st (show s.heap.IsTuple a av.toArray from p) (x:=u) (by simpa using hu) fun h' cj sb=>?_
  have I1:Inv X pins σ H { s with heap:=h' }:=I.turned (t':=s.toks) (fun b o hb e=>(sb.2 b hb).trans e) f0 f1 f3 f4 f5
  obtain⟨o,e,c,d⟩:=id cj
  exact⟨u,rfl,oR (s:={ s with heap:=h' }) e c d (by decide) ⟨x,H,I1,ru,⟨rfl,fun ys hy=>by rw[I.Iz hy hq];exact hx⟩,cj,fun b hb=>(hf b hb).1⟩⟩
 done:=by
  intro X hP hw hK hc i pins s σ H E I hf st hg
  subst hP hw hK
  obtain⟨xs,hq,hx⟩:=hg
  obtain⟨av,rv,p,hz⟩:=I.tuple hq
  obtain⟨f0,f1,f2,f3,f4,f5⟩:=hf it (by simp)
  have hl:=rv.length
  exact wpAny_pyNext_tuple_end (I.ok.hd hc) st (show s.heap.IsTuple a av.toArray from p) (by simp;omega) fun h' eb=>⟨rfl,I.turned (t':=s.toks) (fun b o hb e=>eb b o hb e) f0 f1 f3 f4 f5⟩
 self:=fun y y y y y st h=>wpAny_pyIter_tupleiter st h
theorem IM{P:Program}{w:World}{K:PySem.W.Frag}{tg:Expr}(it:Addr)(lo:Int)(n:Nat):Turn P w K tg (hU lo n) [it] it (fun i h=>IsRangeIter h it (lo+(i:Nat) * 1) ((n:Int)-(i:Nat)) 1) where
 mem:=by simp
 obj:=fun i h st b hb=>by
  have e:b=it:=by simpa using hb
  subst e
  exact⟨_,st,fun v z=>by
   have z':Data.fields _=Data.cell v:=z
   cases z'⟩
 keep:=fun i h h' st k=>k it (by simp) _ st
 item:=by
  intro X hP hw hK hc i pins s σ H E I hf st hg
  subst hP hw hK
  obtain⟨f0,f1,f2,f3,f4,f5⟩:=hf it (by simp)
  have W:=Walks.range (prog:=X.prog) (w:=X.w) (I.ok.hd hc) it lo 1 n
  refine W.item i s _ _ hg st fun v h' tk hv cj kk=>?_
  obtain⟨t,rfl⟩:=hv
  have I1:Inv X pins σ H { s with heap:=h',toks:=tk }:=I.turned (fun b o hb e=>kk b o (by simpa using hb) e) f0 f1 f3 f4 f5
  refine⟨_,rfl,oR (s:={ s with heap:=h',toks:=tk }) (n := "range_iterator") cj rfl rfl (by decide) ⟨.int (lo+i),H,I1,⟨t,?_⟩,⟨rfl,rfl⟩,cj,fun b hb=>(hf b hb).1⟩⟩
  rw[Int.mul_one]
 done:=by
  intro X hP hw hK hc i pins s σ H E I hf st hg
  subst hP hw hK
  obtain⟨f0,f1,f2,f3,f4,f5⟩:=hf it (by simp)
  exact wpAny_pyNext_range_end (I.ok.hd hc) st (by have:n<=i:=hg;omega) fun h' eb=>⟨rfl,I.turned (t':=s.toks) (fun b o hb e=>eb b o hb e) f0 f1 f3 f4 f5⟩
 self:=fun y y y y y st h=>wpAny_pyIter_rangeiter st h
end L2
namespace L2
open PySem PySem.Spec PyProof.Rows
section
variable{X:Cx}{tg:Expr}
def vk(K:PySem.W.Frag)(tl:TE):TI:=fun σ H R=>tl σ H fun x H1=>∃ a,x = .ref a/\(∃ xs,ar K H1 a xs)/\R (jU K a) H1
def vm(K:PySem.W.Frag)(tl:TE):TI:=fun σ H R=>tl σ H fun x H1=>∃ a,x = .ref a/\(∃ xs,aB K H1 a xs)/\R (lz K a) H1
theorem jh{l:Expr}{tl:TE}(hl:PE X l tl):PI X tg l (vk X.K tl):=by
 intro pins s σ H R I h
 refine aC (hl pins s σ H _ I h) fun v s1 ⟨x,H1,I1,r1,q1⟩=>?_
 obtain⟨a,e,⟨xs,hq⟩,q⟩:=q1
 subst e
 cases r1
 obtain⟨av,rv,p,hz⟩:=I1.list hq
 refine wpAny_pyIter_list p.isList ?_
 refine⟨s1.heap.objs.size,[s1.heap.objs.size],_,_,H1,rfl,I1.kept (t':=s1.toks) fun b o e=>Heap.get?_push_of_some _ e,IK a _,⟨_,Heap.get?_push_size _ rfl,rfl,rfl⟩,fun b hb=>?_,q⟩
 have e:b=s1.heap.objs.size:=by simpa using hb
 subst e
 exact I1.m3 (Nat.le_refl _) (I1.aA.fresh (Nat.le_refl _))
theorem IP{l:Expr}{tl:TE}(hl:PE X l tl):PI X tg l (vm X.K tl):=by
 intro pins s σ H R I h
 refine aC (hl pins s σ H _ I h) fun v s1 ⟨x,H1,I1,r1,q1⟩=>?_
 obtain⟨a,e,⟨xs,hq⟩,q⟩:=q1
 subst e
 cases r1
 obtain⟨av,rv,p,hz⟩:=I1.tuple hq
 refine wpAny_pyIter_tuple (show s1.heap.IsTuple a av.toArray from p) ?_
 refine⟨s1.heap.objs.size,[s1.heap.objs.size],_,_,H1,rfl,I1.kept (t':=s1.toks) fun b o e=>Heap.get?_push_of_some _ e,IL a _,⟨_,Heap.get?_push_size _ rfl,rfl,rfl⟩,fun b hb=>?_,q⟩
 have e:b=s1.heap.objs.size:=by simpa using hb
 subst e
 exact I1.m3 (Nat.le_refl _) (I1.aA.fresh (Nat.le_refl _))
theorem BG{pins:List (Addr × Obj)}{σ:St}{H:Hp}{s:Shared}{R:It->Hp->Prop}{E:Value->Shared->Prop}{lo hi:Int}{t u v:Tok}{tk:Nat}(I:Inv X pins σ H s)(h1 : -(2 ^ 62)<=lo)(h2:lo<2 ^ 62)(h3 : -(2 ^ 62)<=hi)(h4:hi<2 ^ 62)
 (q:R (hU lo (hi-lo).toNat) H):wpAny (model X.prog X.w) X.A (pyIter (.ref s.heap.objs.size)) (BF X pins σ tg R) E { s with heap:=s.heap.push { cls:=.type "range",data:=.fields #[.int lo t,.int hi u,.int 1 v] },toks:=tk }:=by
 refine wpAny_pyIter_range (IsRange.new ..) (small_one h1 h2 h3 h4) ?_
 have I1:Inv X pins σ H { s with heap:=s.heap.push { cls:=.type "range",data:=.fields #[.int lo t,.int hi u,.int 1 v] },toks:=tk }:=I.kept fun b o e=>Heap.get?_push_of_some _ e
 refine⟨(s.heap.push { cls:=.type "range",data:=.fields #[.int lo t,.int hi u,.int 1 v] }).objs.size,[(s.heap.push { cls:=.type "range",data:=.fields #[.int lo t,.int hi u,.int 1 v] }).objs.size],_,_,H,rfl,
  I1.kept (t':=tk) fun b o e=>Heap.get?_push_of_some _ e,IM _ lo (hi-lo).toNat,?_,fun b hb=>?_,q⟩
 ·have e1:lo+((0:Nat):Int) * 1=lo:=by simp
  have e2:(((hi-lo).toNat:Nat):Int)-((0:Nat):Int)=Builtin.Range.rangeSize lo hi 1:=by rw[rangeSize_one];split<;>omega
  show IsRangeIter _ _ (lo+((0:Nat):Int) * 1) ((((hi-lo).toNat:Nat):Int)-((0:Nat):Int)) 1
  rw[e1,e2]
  exact Heap.get?_push_size _ rfl
 ·have e:b=(s.heap.push { cls:=.type "range",data:=.fields #[.int lo t,.int hi u,.int 1 v] }).objs.size:=by simpa using hb
  subst e
  exact I1.m3 (Nat.le_refl _) (I1.aA.fresh (Nat.le_refl _))
def vn(ta:TA):TI:=fun σ H R=>ta σ H fun vs H1=>∃ j:Int,vs=[.int j]/\-(2 ^ 62)<=j/\j<2 ^ 62/\R (hU 0 j.toNat) H1
def vo(ta:TA):TI:=fun σ H R=>ta σ H fun vs H1=>∃ i j:Int,vs=[.int i,.int j]/\(-(2 ^ 62)<=i/\i<2 ^ 62/\-(2 ^ 62)<=j/\j<2 ^ 62)/\R (hU i (j-i).toNat) H1
theorem rW{a:Expr}{ta:TA}{p pos:Pos}(hg:Gl X "range")(hm:X.mg "range" = none)(ha:PA X [a] ta)(hs:starEach [a] X.env=[(false,eval a X.env)]:=by rfl):PI X tg (.Call (.Name "range" p) [a] [] pos) (vn ta):=by
 intro pins s σ H R I h
 refine Call_ (mX I hg hm boot_range (PyProof.Rows.callWith_type1 (aC (ha pos pins s σ H _ I h) fun us s1 ⟨vs,H1,I1,r1,q1⟩=>?_) hs rfl))
 obtain⟨j,e,q1,q2,q⟩:=q1
 subst e
 cases r1 with
 | cons r rr =>
  cases rr
  obtain⟨t,rfl⟩:=r
  exact call_range_1 (BG I1 (by omega) (by omega) q1 q2 (by simpa using q))
theorem oU{a b:Expr}{ta:TA}{p pos:Pos}(hg:Gl X "range")(hm:X.mg "range" = none)(ha:PA X [a,b] ta)(hs:starEach [a,b] X.env=[(false,eval a X.env),(false,eval b X.env)]:=by rfl)(oV:starEach [b] X.env=[(false,eval b X.env)]:=by rfl) :
 PI X tg (.Call (.Name "range" p) [a,b] [] pos) (vo ta):=by
 intro pins s σ H R I h
 refine Call_ (mX I hg hm boot_range (PyProof.Rows.callWith_type1 (aC (ha pos pins s σ H _ I h) fun us s1 ⟨vs,H1,I1,r1,q1⟩=>?_) (by rw[hs,oV]) (by rw[oV];rfl)))
 obtain⟨i,j,e,⟨q1,q2,q3,q4⟩,q⟩:=q1
 subst e
 cases r1 with
 | cons r rr =>
  cases rr with
  | cons r' rr =>
   cases rr
   obtain⟨t,rfl⟩:=r
   obtain⟨t',rfl⟩:=r'
   exact call_range_2 (BG I1 q1 q2 q3 q4 q)
def iH(wi:TI)(g:TG)(tb:TS):TS:=fun D σ H=>wi σ H fun J H1=>∃ W:Nat->Nat->St->Hp->Prop,(∃ m,W 0 m σ H1)/\∀ i m σ H,W i m σ H ->
 (J.stop i H/\D.nx σ H)∨(J.go i H/\∃ N:St->Hp->Prop,(∀ σ' H',N σ' H'->∃ m',m'<m/\W (i+1) m' σ' H')/\∀ x H',J.yld i H x H'->g x σ H' fun σ2 H2=>tb { D with nx:=N,ct:=N,bk:=D.nx } σ2 H2)
noncomputable def oW(fp:List Addr)(h:Heap):List (Addr × Obj):=fp.filterMap fun b=>(h.get? b).map fun o=>(b,o)
theorem rX{fp:List Addr}{h:Heap}{b:Addr}{o:Obj}(hb:b∈fp)(e:h.get? b=some o):(b,o)∈oW fp h:=List.mem_filterMap.mpr ⟨b,hb,by rw[e];rfl⟩
theorem IQ{fp:List Addr}{h:Heap}{p:Addr × Obj}(hp:p∈oW fp h):p.1∈fp/\h.get? p.1=some p.2:=by
 obtain⟨b,hb,e⟩:=List.mem_filterMap.mp hp
 cases q:h.get? b with
 | none=>rw[q] at e;cases e
 | some o =>
  rw[q] at e
  have e':(b,o)=p:=Option.some.inj e
  subst e'
  exact⟨hb,q⟩
theorem Inv.pinned{pins:List (Addr × Obj)}{σ:St}{H:Hp}{s:Shared}{fp:List Addr}(I:Inv X pins σ H s)(hf:∀ b∈fp,fS X pins H b)(ho:∀ b∈fp,∃ o,s.heap.get? b=some o/\∀ v,o.data ≠ .cell v):Inv X (pins++oW fp s.heap) σ H s :=
 I.oO fun p hp=>(List.mem_append.mp hp).elim (fun z=>I.pin p (List.mem_append_right _ z)) fun z=>by
  obtain⟨hb,e⟩:=IQ z
  obtain⟨f0,f1,f2,y⟩:=hf p.1 hb
  obtain⟨o,e',d⟩:=ho p.1 hb
  rw[e] at e';cases e'
  exact⟨e,f0,f1,f2,d⟩
theorem Inv.rY{pins pl:List (Addr × Obj)}{σ:St}{H:Hp}{s:Shared}(I:Inv X (pins++pl) σ H s):Inv X pins σ H s:=I.oO fun p hp=>I.pin p (List.mem_append_right _ (List.mem_append_left _ hp))
theorem jV{iter:Expr}{body:List Stmt}{wi:TI}{g:TG}{tb:TS}{pos:Pos}(hp:PassesOwn (model X.prog X.w) X.A X.env X.xe)(hc:X.calm=true)(hi:PI X tg iter wi)(hg:PG X tg g)(hb:aS X body tb)
 (hs:∀ x,foldedSetIterable iter X.env x=pure x:=by intro _;rfl):PS X (.For tg iter body [] pos) (iH wi g tb):=by
 intro pins s σ H D I h
 refine wpAny_For (aC (hi pins s σ H _ I h) fun v s1 h1=>aC h1 fun rV s2 h2=>?_) hs
 obtain⟨it,fp,tn,J,H2,e,I2,T,hV,f2,W,⟨m0,w0⟩,turn⟩:=h2
 subst e
 have vp:∀ {H':Hp},(∀ b∈fp,H' b=none)->∀ b∈fp,fS X pins H' b:=fun hn b hb=>⟨hn b hb,(f2 b hb).2⟩
 refine codeAny_forLoop_any (fun n s'=>∃ i σ' H',Inv X pins σ' H' s'/\tn i s'.heap/\(∀ b∈fp,H' b=none)/\W i n σ' H') ?_ m0 ⟨0,σ,H2,I2,hV,fun b hb=>(f2 b hb).1,w0⟩
 rintro n s3 ⟨i,σ3,H3,I3,oX,oY,w3⟩
 rcases turn i n σ3 H3 w3 with ⟨stop,qn⟩|⟨go,N,hN,step⟩
 ·refine wpAny_passesOwn hp (aC (T.done X rfl rfl rfl hc i pins s3 σ3 H3 X.xe I3 (vp oY) oX stop) fun r s4 ⟨hr,I4⟩=>?_)
  subst hr
  exact wpAny_execs_nil ⟨σ3,H3,I4,qn⟩
 ·refine wpAny_passesOwn hp (aC (T.item X rfl rfl rfl hc i pins s3 σ3 H3 X.xe I3 (vp oY) oX go) fun r s4 ⟨u,hr,h4⟩=>?_)
  subst hr
  refine wpAny_passesOwn hp (aC h4 fun _ s5 ⟨x,H5,I5,r5,y5,lA,vq⟩=>?_)
  have vr:=I5.pinned (vp vq) (T.obj _ _ lA)
  refine wpAny_passesOwn hp (aC (hg _ s5 σ3 H5 x u _ vr r5 (step x H5 y5)) fun _ s6 ⟨σ6,H6,I6,q6⟩=>?_)
  refine wpAny_passesOwn hp (aC (hb _ s6 σ6 H6 _ I6 q6) fun f s7 q7=>?_)
  have again:∀ {σ7:St} {H7:Hp},Inv X (pins++oW fp s5.heap) σ7 H7 s7->N σ7 H7->∃ m,m<n/\∃ i σ' H',Inv X pins σ' H' s7/\tn i s7.heap/\(∀ b∈fp,H' b=none)/\W i m σ' H':=fun {σ7 H7} I7 n7=>by
   obtain⟨m',hm,w7⟩:=hN σ7 H7 n7
   refine⟨m',hm,i+1,σ7,H7,I7.rY,T.keep _ _ _ lA fun b hb o e=>(I7.pin (b,o) (List.mem_append_right _ (List.mem_append_right _ (rX hb e)))).1,fun b hb=>?_,w7⟩
   obtain⟨o,e,d⟩:=T.obj _ _ lA b hb
   exact (I7.pin (b,o) (List.mem_append_right _ (List.mem_append_right _ (rX hb e)))).2.1
  cases f with
  | next=>obtain⟨σ7,H7,I7,n7⟩:=q7;exact again I7 n7
  | cont=>obtain⟨σ7,H7,I7,n7⟩:=q7;exact again I7 n7
  | brk=>obtain⟨σ7,H7,I7,q7⟩:=q7;exact⟨σ7,H7,I7.rY,q7⟩
  | ret v=>obtain⟨x7,σ7,H7,I7,r7,q7⟩:=q7;exact⟨x7,σ7,H7,I7.rY,r7,q7⟩
end
theorem IS{K:PySem.W.Frag}{a:Addr}{xs:List V}{g:TG}{tb:TS}{D:Ends}{σ:St}{H:Hp}(Pv:Nat->St->Hp->Prop)(h0:Pv 0 σ H)(hl:∀ i σ H,i<=xs.length->Pv i σ H->ar K H a xs)
 (hs:∀ i x σ H,xs[i]?=some x->Pv i σ H->g x σ H fun σ2 H2=>tb { D with nx:=Pv (i+1),ct:=Pv (i+1),bk:=D.nx } σ2 H2) (hd:∀ σ H,Pv xs.length σ H->D.nx σ H) :
 ∃ W:Nat->Nat->St->Hp->Prop,(∃ m,W 0 m σ H)/\∀ i m σ H,W i m σ H ->
  ((jU K a).stop i H/\D.nx σ H)∨((jU K a).go i H/\∃ N:St->Hp->Prop,(∀ σ' H',N σ' H'->∃ m',m'<m/\W (i+1) m' σ' H')/\∀ x H',(jU K a).yld i H x H'->g x σ H' fun σ2 H2=>tb { D with nx:=N,ct:=N,bk:=D.nx } σ2 H2):=by
 refine⟨fun i m σ H=>m=xs.length-i/\i<=xs.length/\Pv i σ H,⟨xs.length,by simp,Nat.zero_le _,h0⟩,?_⟩
 rintro i m σ H ⟨rfl,hi,p⟩
 have q:=hl i σ H hi p
 by_cases cw:i<xs.length
 ·refine .inr ⟨⟨xs,xs[i],q,by simp[cw]⟩,Pv (i+1),fun σ' H' p'=>⟨xs.length-(i+1),by omega,rfl,cw,p'⟩,fun x H' y=>?_⟩
  obtain⟨e,y⟩:=y
  subst e
  exact hs i x σ _ (y xs q) p
 ·have e:i=xs.length:=by omega
  subst e
  exact .inl ⟨⟨xs,q,Nat.le_refl _⟩,hd σ H p⟩
theorem IT{K:PySem.W.Frag}{a:Addr}{xs:List V}{g:TG}{tb:TS}{D:Ends}{σ:St}{H:Hp}(Pv:Nat->St->Hp->Prop)(h0:Pv 0 σ H)(hl:∀ i σ H,i<=xs.length->Pv i σ H->aB K H a xs)
 (hs:∀ i x σ H,xs[i]?=some x->Pv i σ H->g x σ H fun σ2 H2=>tb { D with nx:=Pv (i+1),ct:=Pv (i+1),bk:=D.nx } σ2 H2) (hd:∀ σ H,Pv xs.length σ H->D.nx σ H) :
 ∃ W:Nat->Nat->St->Hp->Prop,(∃ m,W 0 m σ H)/\∀ i m σ H,W i m σ H ->
  ((lz K a).stop i H/\D.nx σ H)∨((lz K a).go i H/\∃ N:St->Hp->Prop,(∀ σ' H',N σ' H'->∃ m',m'<m/\W (i+1) m' σ' H')/\∀ x H',(lz K a).yld i H x H'->g x σ H' fun σ2 H2=>tb { D with nx:=N,ct:=N,bk:=D.nx } σ2 H2):=by
 refine⟨fun i m σ H=>m=xs.length-i/\i<=xs.length/\Pv i σ H,⟨xs.length,by simp,Nat.zero_le _,h0⟩,?_⟩
 rintro i m σ H ⟨rfl,hi,p⟩
 have q:=hl i σ H hi p
 by_cases cw:i<xs.length
 ·refine .inr ⟨⟨xs,xs[i],q,by simp[cw]⟩,Pv (i+1),fun σ' H' p'=>⟨xs.length-(i+1),by omega,rfl,cw,p'⟩,fun x H' y=>?_⟩
  obtain⟨e,y⟩:=y
  subst e
  exact hs i x σ _ (y xs q) p
 ·have e:i=xs.length:=by omega
  subst e
  exact .inl ⟨⟨xs,q,Nat.le_refl _⟩,hd σ H p⟩
theorem IU{lo:Int}{n:Nat}{g:TG}{tb:TS}{D:Ends}{σ:St}{H:Hp}(Pv:Nat->St->Hp->Prop)(h0:Pv 0 σ H)
 (hs:∀ i σ H,i<n->Pv i σ H->g (.int (lo+i)) σ H fun σ2 H2=>tb { D with nx:=Pv (i+1),ct:=Pv (i+1),bk:=D.nx } σ2 H2) (hd:∀ σ H,Pv n σ H->D.nx σ H) :
 ∃ W:Nat->Nat->St->Hp->Prop,(∃ m,W 0 m σ H)/\∀ i m σ H,W i m σ H ->
  ((hU lo n).stop i H/\D.nx σ H)∨((hU lo n).go i H/\∃ N:St->Hp->Prop,(∀ σ' H',N σ' H'->∃ m',m'<m/\W (i+1) m' σ' H')/\∀ x H',(hU lo n).yld i H x H'->g x σ H' fun σ2 H2=>tb { D with nx:=N,ct:=N,bk:=D.nx } σ2 H2):=by
 refine⟨fun i m σ H=>m=n-i/\i<=n/\Pv i σ H,⟨n,by simp,Nat.zero_le _,h0⟩,?_⟩
 rintro i m σ H ⟨rfl,hi,p⟩
 by_cases cw:i<n
 ·refine .inr ⟨cw,Pv (i+1),fun σ' H' p'=>⟨n-(i+1),by omega,rfl,cw,p'⟩,fun x H' y=>?_⟩
  obtain⟨e,y⟩:=y
  subst e y
  exact hs i σ _ cw p
 ·have e:i=n:=by omega
  subst e
  exact .inl ⟨Nat.le_refl _,hd σ H p⟩
end L2
namespace L2
open PySem PySem.Spec PyProof.Rows
abbrev R2:=V->V->Hp->VK->Prop
def bf(X:Cx)(f:Value->Value->Sem Value)(r:R2):Prop :=
 ∀ (pins:List (Addr × Obj)) (s:Shared) (σ:St) (H:Hp) (x y:V) (v u:Value) (Q:VK),Inv X pins σ H s->RelV x v->RelV y u->r x y H Q ->
  wpAny (model X.prog X.w) X.A (f v u) (EP X pins σ Q) X.xe s
def m5(X:Cx)(f:Value->Sem Value)(r:V->Hp->VK->Prop):Prop :=
 ∀ (pins:List (Addr × Obj)) (s:Shared) (σ:St) (H:Hp) (x:V) (v:Value) (Q:VK),Inv X pins σ H s->RelV x v->r x H Q ->
  wpAny (model X.prog X.w) X.A (f v) (EP X pins σ Q) X.xe s
def eL(X:Cx)(f:Value)(r:List V->Hp->VK->Prop):Prop :=
 ∀ (pins:List (Addr × Obj)) (s:Shared) (σ:St) (H:Hp) (xs:List V) (us:List Value) (Q:VK),Inv X pins σ H s->Vals xs us->r xs H Q ->
  wpAny (model X.prog X.w) X.A (call f us) (EP X pins σ Q) X.xe s
def jW(r:R2)(ta tb:TE):TE:=fun σ H Q=>ta σ H fun x H1=>tb σ H1 fun y H2=>r x y H2 Q
def BH(r:V->Hp->VK->Prop)(ta:TE):TE:=fun σ H Q=>ta σ H fun x H1=>r x H1 Q
def rI(C:Int->Int->Prop)(g:Int->Int->V):R2:=fun x y H Q=>∃ i j,x = .int i/\y = .int j/\C i j/\Q (g i j) H
def fG(g:Int->Int->V):R2:=fun x y H Q=>∃ i j,x = .int i/\y = .int j/\Q (g i j) H
def rU(g:Int->V):V->Hp->VK->Prop:=fun x H Q=>∃ i,x = .int i/\Q (g i) H
section
variable{X:Cx}{a b c:Expr}{ta tb tc:TE}{pos:Pos}
theorem rZ(ha:PE X a ta)(hb:PE X b tb){pins:List (Addr × Obj)}{s:Shared}{σ:St}{H:Hp}{R:V->V->Hp->Prop}(I:Inv X pins σ H s)
 (h:ta σ H fun x H1=>tb σ H1 fun y H2=>R x y H2) {Q:Value->Shared->Prop} {f:Value->Value->Sem Value}
 (hf:∀ v u s2 x y H2,Inv X pins σ H2 s2->RelV x v->RelV y u->R x y H2->wpAny (model X.prog X.w) X.A (f v u) Q X.xe s2) :
 wpAny (model X.prog X.w) X.A (eval a X.env) (fun v s₁=>wpAny (model X.prog X.w) X.A (eval b X.env) (fun u s₂=>wpAny (model X.prog X.w) X.A (f v u) Q X.xe s₂) X.xe s₁) X.xe s:=by
 refine aC (ha pins s σ H _ I h) fun v s1 ⟨x,H1,I1,r1,q1⟩=>?_
 refine aC (hb pins s1 σ H1 _ I1 q1) fun u s2 ⟨y,H2,I2,r2,q2⟩=>?_
 exact hf v u s2 x y H2 I2 r1 r2 q2
theorem ax{op:Operator}{r:R2}(ho:bf X (binaryOp op) r)(ha:PE X a ta)(hb:PE X b tb):PE X (.BinOp a op b pos) (jW r ta tb):=by
 intro pins s σ H Q I h
 exact wpAny_BinOp (rZ ha hb I h fun v u s2 x y H2 I2 rx ry q=>ho pins s2 σ H2 x y v u Q I2 rx ry q)
theorem jX{op:UnaryOp}{r:V->Hp->VK->Prop}(ho:m5 X (unaryOp op) r)(ha:PE X a ta):PE X (.UnaryOp op a pos) (BH r ta):=by
 intro pins s σ H Q I h
 exact UnaryOp_ (aC (ha pins s σ H _ I h) fun v s1 ⟨x,H1,I1,r1,q1⟩=>ho pins s1 σ H1 x v Q I1 r1 q1)
theorem oZ{f:Value->Value->Sem Value}{C:Int->Int->Prop}{g:Int->Int->Int}
 (rule:∀ (i j:Int) (t u:Tok) (s:Shared) (Q:Value->Shared->Prop) (E:Value->Shared->Prop),C i j->Q (.int (g i j) s.toks) { s with toks:=s.toks+1 }->wpAny (model X.prog X.w) X.A (f (.int i t) (.int j u)) Q E s) :
 bf X f (rI C fun i j=>.int (g i j)):=by
 intro pins s σ H x y v u Q I rx ry h
 obtain⟨i,j,rfl,rfl,hc,q⟩:=h
 obtain⟨t,rfl⟩:=rx
 obtain⟨t',rfl⟩:=ry
 exact rule i j t t' s _ _ hc ⟨.int (g i j),H,I.tok _,⟨_,rfl⟩,q⟩
theorem BI{f:Value->Value->Sem Value}{g:Int->Int->Int}
 (rule:∀ (i j:Int) (t u:Tok) (s:Shared) (Q:Value->Shared->Prop) (E:Value->Shared->Prop),Q (.int (g i j) s.toks) { s with toks:=s.toks+1 }->wpAny (model X.prog X.w) X.A (f (.int i t) (.int j u)) Q E s) :
 bf X f (fG fun i j=>.int (g i j)):=by
 intro pins s σ H x y v u Q I rx ry h
 obtain⟨i,j,rfl,rfl,q⟩:=h
 obtain⟨t,rfl⟩:=rx
 obtain⟨t',rfl⟩:=ry
 exact rule i j t t' s _ _ ⟨.int (g i j),H,I.tok _,⟨_,rfl⟩,q⟩
theorem r9{f:Value->Value->Sem Value}{g:Int->Int->Bool}
 (rule:∀ (i j:Int) (t u:Tok) (s:Shared) (Q:Value->Shared->Prop) (E:Value->Shared->Prop),Q (.bool (g i j)) s->wpAny (model X.prog X.w) X.A (f (.int i t) (.int j u)) Q E s) :
 bf X f (fG fun i j=>.bl (g i j)):=by
 intro pins s σ H x y v u Q I rx ry h
 obtain⟨i,j,rfl,rfl,q⟩:=h
 obtain⟨t,rfl⟩:=rx
 obtain⟨t',rfl⟩:=ry
 exact rule i j t t' s _ _ ⟨.bl (g i j),H,I,rfl,q⟩
def IV(i j:Int):Prop:=0<=j/\j<=1000000/\i.natAbs<2 ^ 64
def BJ(i j:Int):Prop:=(-(2 ^ 64)<i/\i<2 ^ 64)∨(-(2 ^ 64)<j/\j<2 ^ 64)
theorem BJ.ok{i j:Int}(h:BJ i j):IntMulOk i j:=by
 rcases h with ⟨h1,h2⟩|⟨h1,h2⟩
 ·exact .of_left (intBits_le_64 h1 h2)
 ·exact .of_right (intBits_le_64 h1 h2)
theorem IW:bf X (binaryOp .Add) (fG fun i j=>.int (i+j)):=BI fun y y y y y y y q=>add_int q
theorem IX:bf X (binaryOp .Sub) (fG fun i j=>.int (i-j)):=BI fun y y y y y y y q=>sub_int q
theorem IY:bf X (binaryOp .Mod) (rI (fun y j=>0<j) fun i j=>.int (i % j)):=oZ fun i j y y y y y hc q=>by
 have h1:(0:Int)<j:=hc
 exact mod_int' (by omega) (by rw[Int.fmod_eq_emod_of_nonneg i (by omega)];exact q)
theorem BK:bf X (binaryOp .Pow) (rI IV fun i j=>.int (i ^ j.toNat)):=oZ fun y y y y y y y hc q=>pow_int_small hc.1 hc.2.1 hc.2.2 q
theorem IZ{f:Value->Sem Value}{g:Int->Int}
 (rule:∀ (i:Int) (t:Tok) (s:Shared) (Q:Value->Shared->Prop) (E:Value->Shared->Prop),Q (.int (g i) s.toks) { s with toks:=s.toks+1 }->wpAny (model X.prog X.w) X.A (f (.int i t)) Q E s) :
 m5 X f (rU fun i=>.int (g i)):=by
 intro pins s σ H x v Q I rx h
 obtain⟨i,rfl,q⟩:=h
 obtain⟨t,rfl⟩:=rx
 exact rule i t s _ _ ⟨.int (g i),H,I.tok _,⟨_,rfl⟩,q⟩
theorem I0:m5 X (unaryOp .USub) (rU fun i=>.int (-i)):=IZ fun y y y y y q=>neg_int q
end
noncomputable def ji:V->V->Bool
 | .non,.non=>true|.non,.int _=>true|.int _,.non=>true|.non,.bl _=>true|.bl _,.non=>true|.non,.str _=>true|.str _,.non=>true
 | .int _,.int _=>true|.bl _,.bl _=>true|.str _,.str _=>true|.byt _,.byt _=>true
 | .int _,.str _=>true|.str _,.int _=>true|.bl _,.str _=>true|.str _,.bl _=>true
 | _,_=>false
def BM:R2:=fun x y H Q=>ji x y=true/\Q (.bl (decide (x=y))) H
def BN:R2:=fun x y H Q=>ji x y=true/\Q (.bl (!decide (x=y))) H
theorem BO{i j:Int}:decide (V.int i=V.int j)=(i == j):=by
 rw[Bool.eq_iff_iff]
 simp
theorem BP{i j:Bool}:decide (V.bl i=V.bl j)=(i == j):=by
 rw[Bool.eq_iff_iff]
 simp
theorem BQ{i j:Str}:decide (V.str i=V.str j)=(i == j):=by
 rw[Bool.eq_iff_iff]
 simp
theorem BR{i j:Array UInt8}:decide (V.byt i=V.byt j)=(i.toList == j.toList):=by
 rw[Bool.eq_iff_iff]
 cases i
 cases j
 simp
section
variable{X:Cx}{a b c:Expr}{ta tb tc:TE}{pos:Pos}
theorem b9{pins:List (Addr × Obj)}{σ:St}{H:Hp}{s:Shared}{Q:VK}{k k':Bool}(I:Inv X pins σ H s)(q:Q (.bl k) H)(e:k=k'):EP X pins σ Q (.bool k') s:=by
 subst e
 exact⟨.bl k,H,I,rfl,q⟩
theorem jY:bf X (compareOp .Eq) BM:=by
 intro pins s σ H x y v u Q I rx ry h
 obtain⟨hs,q⟩:=h
 cases x with
 | non =>
  cases rx
  cases y with
  | non=>cases ry;exact PySem.EqNone.eq_none_none (b9 I q (by simp))
  | bl j=>cases ry;exact PySem.EqNone.eq_none_bool (b9 I q (by simp))
  | int j=>obtain⟨t',rfl⟩:=ry;exact PySem.EqNone.eq_none_int (b9 I q (by simp))
  | str j=>obtain⟨t',rfl⟩:=ry;exact PySem.EqNone.eq_none_str (b9 I q (by simp))
  | _=>exact absurd (show false=true from hs) Bool.false_ne_true
 | bl i =>
  cases rx
  cases y with
  | non=>cases ry;exact PySem.EqNone.eq_bool_none (b9 I q (by simp))
  | bl j=>cases ry;exact eq_bool (b9 I q BP)
  | str j=>obtain⟨t',rfl⟩:=ry;exact PySem.EqMixed.eq_bool_str (b9 I q (by simp))
  | _=>exact absurd (show false=true from hs) Bool.false_ne_true
 | int i =>
  obtain⟨t,rfl⟩:=rx
  cases y with
  | non=>cases ry;exact PySem.EqNone.eq_int_none (b9 I q (by simp))
  | int j=>obtain⟨t',rfl⟩:=ry;exact eq_int (b9 I q BO)
  | str j=>obtain⟨t',rfl⟩:=ry;exact PySem.EqMixed.eq_int_str (b9 I q (by simp))
  | _=>exact absurd (show false=true from hs) Bool.false_ne_true
 | str i =>
  obtain⟨t,rfl⟩:=rx
  cases y with
  | non=>cases ry;exact PySem.EqNone.eq_str_none (b9 I q (by simp))
  | bl j=>cases ry;exact PySem.EqMixed.eq_str_bool (b9 I q (by simp))
  | int j=>obtain⟨t',rfl⟩:=ry;exact PySem.EqMixed.eq_str_int (b9 I q (by simp))
  | str j=>obtain⟨t',rfl⟩:=ry;exact eq_str (b9 I q BQ)
  | _=>exact absurd (show false=true from hs) Bool.false_ne_true
 | byt i =>
  obtain⟨t,rfl⟩:=rx
  cases y with
  | byt j=>obtain⟨t',rfl⟩:=ry;exact PySem.W.eq_bytes (b9 I q BR)
  | _=>exact absurd (show false=true from hs) Bool.false_ne_true
 | _=>cases y<;>exact absurd (show false=true from hs) Bool.false_ne_true
theorem BS:bf X (compareOp .NotEq) BN:=by
 intro pins s σ H x y v u Q I rx ry h
 obtain⟨hs,q⟩:=h
 cases x with
 | non =>
  cases rx
  cases y with
  | non=>cases ry;exact PySem.EqNone.ne_none_none (b9 I q (by simp))
  | bl j=>cases ry;exact PySem.EqNone.ne_none_bool (b9 I q (by simp))
  | int j=>obtain⟨t',rfl⟩:=ry;exact PySem.EqNone.ne_none_int (b9 I q (by simp))
  | str j=>obtain⟨t',rfl⟩:=ry;exact PySem.EqNone.ne_none_str (b9 I q (by simp))
  | _=>exact absurd (show false=true from hs) Bool.false_ne_true
 | bl i =>
  cases rx
  cases y with
  | non=>cases ry;exact PySem.EqNone.ne_bool_none (b9 I q (by simp))
  | bl j=>cases ry;exact ne_bool (b9 I q (congrArg not BP))
  | str j=>obtain⟨t',rfl⟩:=ry;exact PySem.EqMixed.ne_bool_str (b9 I q (by simp))
  | _=>exact absurd (show false=true from hs) Bool.false_ne_true
 | int i =>
  obtain⟨t,rfl⟩:=rx
  cases y with
  | non=>cases ry;exact PySem.EqNone.ne_int_none (b9 I q (by simp))
  | int j=>obtain⟨t',rfl⟩:=ry;exact ne_int (b9 I q (congrArg not BO))
  | str j=>obtain⟨t',rfl⟩:=ry;exact PySem.EqMixed.ne_int_str (b9 I q (by simp))
  | _=>exact absurd (show false=true from hs) Bool.false_ne_true
 | str i =>
  obtain⟨t,rfl⟩:=rx
  cases y with
  | non=>cases ry;exact PySem.EqNone.ne_str_none (b9 I q (by simp))
  | bl j=>cases ry;exact PySem.EqMixed.ne_str_bool (b9 I q (by simp))
  | int j=>obtain⟨t',rfl⟩:=ry;exact PySem.EqMixed.ne_str_int (b9 I q (by simp))
  | str j=>obtain⟨t',rfl⟩:=ry;exact ne_str (b9 I q (congrArg not BQ))
  | _=>exact absurd (show false=true from hs) Bool.false_ne_true
 | byt i =>
  obtain⟨t,rfl⟩:=rx
  cases y with
  | byt j=>obtain⟨t',rfl⟩:=ry;exact PySem.W.ne_bytes (b9 I q (congrArg not BR))
  | _=>exact absurd (show false=true from hs) Bool.false_ne_true
 | _=>cases y<;>exact absurd (show false=true from hs) Bool.false_ne_true
theorem o3:bf X (compareOp .Lt) (fG fun i j=>.bl (decide (i<j))):=r9 fun y y y y y y y q=>lt_int q
theorem fj:bf X (compareOp .LtE) (fG fun i j=>.bl (decide (i<=j))):=r9 fun y y y y y y y q=>le_int q
theorem vt:bf X (compareOp .Gt) (fG fun i j=>.bl (decide (j<i))):=r9 fun y y y y y y y q=>gt_int q
theorem vv:bf X (compareOp .GtE) (fG fun i j=>.bl (decide (j<=i))):=r9 fun y y y y y y y q=>ge_int q
theorem Ja:bf X (compareOp .In) (fun x y H Q=>∃ i j,x = .str i/\y = .str j/\Q (.bl (!(Builtin.Str.occurrences j i 0 j.length 1).isEmpty)) H):=by
 intro pins s σ H x y v u Q I rx ry h
 obtain⟨i,j,rfl,rfl,q⟩:=h
 obtain⟨t,rfl⟩:=rx
 obtain⟨t',rfl⟩:=ry
 exact in_str (b9 I q rfl)
theorem Jb:bf X (compareOp .NotIn) (fun x y H Q=>∃ i j,x = .str i/\y = .str j/\Q (.bl (!(!(Builtin.Str.occurrences j i 0 j.length 1).isEmpty))) H):=by
 intro pins s σ H x y v u Q I rx ry h
 obtain⟨i,j,rfl,rfl,q⟩:=h
 obtain⟨t,rfl⟩:=rx
 obtain⟨t',rfl⟩:=ry
 exact notIn_str (b9 I q rfl)
theorem cQ(b:Expr){op:CmpOp}(h:op ≠ .In:=by decide)(h2:op ≠ .NotIn:=by decide):behindInMarks op b=false:=by
 have e1:(op == CmpOp.In)=false:=by cases op<;>first|rfl|exact absurd rfl h
 have e2:(op == CmpOp.NotIn)=false:=by cases op<;>first|rfl|exact absurd rfl h2
 cases b<;>simp[behindInMarks,e1,e2]
theorem dH{op:CmpOp}{r:R2}(ho:bf X (compareOp op) r)(ha:PE X a ta)(hb:PE X b tb)(hm:behindInMarks op b=false):PE X (.Compare a [op] [b] pos) (jW r ta tb):=by
 intro pins s σ H Q I h
 exact wpAny_Compare1 (rZ ha hb I h fun v u s2 x y H2 I2 rx ry q=>ho pins s2 σ H2 x y v u Q I2 rx ry q) hm
def sf(t:TE):TT:=fun σ H Q=>t σ H fun x H'=>∃ k,x = .bl k/\Q k H'
theorem si{op:CmpOp}{r:R2}(ho:bf X (compareOp op) r)(ha:PE X a ta)(hb:PE X b tb)(hm:behindInMarks op b=false):PT X (.Compare a [op] [b] pos) (sf (jW r ta tb)):=by
 intro pins s σ H Q I h
 refine wpAny_isTrue_Compare1 (aC (ha pins s σ H _ I h) fun v s1 ⟨x,H1,I1,r1,q1⟩=>aC (hb pins s1 σ H1 _ I1 q1) fun u s2 ⟨y,H2,I2,r2,q2⟩ =>
  aC (ho pins s2 σ H2 x y v u _ I2 r1 r2 q2) fun c s3 ⟨z,H3,I3,r3,k,e,q3⟩=>?_) hm
 subst e
 cases r3
 exact wpAny_truthy_bool ⟨H3,I3,q3⟩
def vw(r r':R2)(ta tb tc:TE):TE:=fun σ H Q=>ta σ H fun x H1=>tb σ H1 fun y H2=>r x y H2 fun z H3=>∃ k,z = .bl k /\
 (if k=true then tc σ H3 fun w' H4=>r' y w' H4 Q else Q (.bl false) H3)
theorem BU{op d7:CmpOp}{r r':R2}(ho:bf X (compareOp op) r)(cJ:bf X (compareOp d7) r')(ha:PE X a ta)(hb:PE X b tb)(hc:PE X c tc)
 (hm:lastMarks [op,d7] [b,c]=false:=by with_unfolding_all rfl):PE X (.Compare a [op,d7] [b,c] pos) (vw r r' ta tb tc):=by
 intro pins s σ H Q I h
 refine Compare_chain (aC (ha pins s σ H _ I h) fun v s1 ⟨x,H1,I1,r1,q1⟩=>chain_link (aC (hb pins s1 σ H1 _ I1 q1) fun u s2 ⟨y,H2,I2,r2,q2⟩ =>
  aC (ho pins s2 σ H2 x y v u _ I2 r1 r2 q2) fun d s3 ⟨z,H3,I3,r3,k,e,q3⟩=>?_)) hm
 subst e
 cases r3
 refine wpAny_truthy_bool ?_
 cases k with
 | false=>exact ite_ff ⟨.bl false,H3,I3,rfl,q3⟩
 | true=>exact ite_tt (chain_last (aC (hc pins s3 σ H3 _ I3 q3) fun w' s4 ⟨z',H4,I4,r4,q4⟩=>cJ pins s4 σ H4 y z' u w' Q I4 r2 r4 q4))
theorem Jc{op d7:CmpOp}{r r':R2}(ho:bf X (compareOp op) r)(cJ:bf X (compareOp d7) r')(ha:PE X a ta)(hb:PE X b tb)(hc:PE X c tc)
 (hm:lastMarks [op,d7] [b,c]=false:=by with_unfolding_all rfl):PT X (.Compare a [op,d7] [b,c] pos) (sf (vw r r' ta tb tc)):=by
 intro pins s σ H Q I h
 refine isTrue_chain (aC (ha pins s σ H _ I h) fun v s1 ⟨x,H1,I1,r1,q1⟩=>test_link (aC (hb pins s1 σ H1 _ I1 q1) fun u s2 ⟨y,H2,I2,r2,q2⟩ =>
  aC (ho pins s2 σ H2 x y v u _ I2 r1 r2 q2) fun d s3 ⟨z,H3,I3,r3,k,e,q3⟩=>?_)) hm
 subst e
 cases r3
 refine wpAny_truthy_bool ?_
 cases k with
 | false =>
  obtain⟨k',e',q'⟩:=q3
  cases e'
  exact ite_ff ⟨H3,I3,q'⟩
 | true =>
  refine ite_tt (test_last (aC (hc pins s3 σ H3 _ I3 q3) fun w' s4 ⟨z',H4,I4,r4,q4⟩=>aC (cJ pins s4 σ H4 y z' u w' _ I4 r2 r4 q4) fun d' s5 ⟨z2,H5,I5,r5,k2,e2,q5⟩=>?_))
  subst e2
  cases r5
  exact wpAny_truthy_bool ⟨H5,I5,q5⟩
theorem o4:(sizeLine:Nat)<2 ^ 63:=by rw[sizeLine_eq];decide
theorem eB:bf X (binaryOp .Add) (fun x y H Q=>∃ i j,x = .str i/\y = .str j/\i.length+j.length<=sizeLine/\Q (.str (i++j)) H):=by
 intro pins s σ H x y v u Q I rx ry h
 obtain⟨i,j,rfl,rfl,hz,q⟩:=h
 obtain⟨t,rfl⟩:=rx
 obtain⟨t',rfl⟩:=ry
 exact add_str (fun t' tk=>⟨.str (i++j),H,I.tok _,⟨_,rfl⟩,q⟩) hz
def Jd(b:Expr):Prop:=∀ o i,subscripted b false o i=operate [o,i] (getItem o i)
theorem vx(ha:PE X a ta)(hb:PE X b tb)(hs:Jd b) :
 PE X (.Subscript a b pos) (jW (fun x y H Q=>∃ z i c,x = .str z/\y = .int i/\0<=i/\i<2 ^ 63/\i<z.length/\z.cps[i.toNat]?=some c/\Q (.str ⟨#[c]⟩) H) ta tb):=by
 intro pins s σ H Q I h
 refine Subscript_ (rZ ha hb I h fun v u s2 x y H2 I2 rx ry q=>?_)
 obtain⟨z,i,c,rfl,rfl,h0,Vd,h1,hc,q⟩:=q
 obtain⟨t,rfl⟩:=rx
 obtain⟨t',rfl⟩:=ry
 have e:seqIndex? i z.length=some i.toNat:=PySem.StrLaws.seqIndex_nonneg h0 h1
 exact tail_any (typeIs_str s2 z t) slot_str_getitem.lookup (getItem_str (c:=c) (by
  have e1:decide (i < -(2 ^ 63:Int))=false:=decide_eq_false (by omega)
  have e2:decide (i ≥ 2 ^ 63)=false:=decide_eq_false (by omega)
  rw[e1,e2]<;>rfl) (by rw[e];exact hc) ⟨.str ⟨#[c]⟩,H2,I2.tok _,⟨_,rfl⟩,q⟩) (hs _ _)
theorem vals1{x:V}{us:List Value}(r:Vals [x] us):∃ u,us=[u]/\RelV x u:=by
 cases r with
 | cons r1 r2=>cases r2;exact⟨_,rfl,r1⟩
theorem vals2{x y:V}{us:List Value}(r:Vals [x,y] us):∃ u w',us=[u,w']/\RelV x u/\RelV y w':=by
 cases r with
 | cons r1 r2 =>
  cases r2 with
  | cons r3 r4=>cases r4;exact⟨_,_,rfl,r1,r3⟩
theorem vy:eL X (.type "int") (fun xs H Q=>(∃ i,xs=[.int i]/\Q (.int i) H) ∨ ∃ k,xs=[.bl k]/\Q (.int (if k then 1 else 0)) H):=by
 intro pins s σ H xs us Q I r h
 rcases h with ⟨i,rfl,q⟩|⟨k,rfl,q⟩
 ·obtain⟨u,rfl,t,rfl⟩:=vals1 r
  exact call_int_int ⟨.int i,H,I,⟨_,rfl⟩,q⟩
 ·obtain⟨u,rfl,r1⟩:=vals1 r
  cases r1
  exact call_int_bool ⟨.int (if k then 1 else 0),H,I.tok _,⟨_,rfl⟩,q⟩
theorem BV:eL X (.type "str") (fun xs H Q=>∃ i,xs=[.int i]/\i.natAbs.log2<1920/\Q (.str (toString i)) H):=by
 intro pins s σ H xs us Q I r h
 obtain⟨i,rfl,hz,q⟩:=h
 obtain⟨u,rfl,t,rfl⟩:=vals1 r
 exact PySem.P.str_of_int hz ⟨.str _,H,I.tok _,⟨_,rfl⟩,q⟩
def BW(K:PySem.W.Frag)(x:V)(H:Hp)(n:Nat):Prop :=
 match x with
 | .str y=>y.length<=sizeLine/\n=y.length
 | .byt y=>y.size<=sizeLine/\n=y.size
 | .ref p=>(∃ xs,ar K H p xs/\n=xs.length) ∨ ∃ xs,aB K H p xs/\n=xs.length
 | _=>False
theorem c8:eL X (.builtin "len") (fun xs H Q=>∃ x n,xs=[x]/\BW X.K x H n/\Q (.int n) H):=by
 intro pins s σ H xs us Q I r h
 obtain⟨x,n,rfl,e,q⟩:=h
 obtain⟨u,rfl,rx⟩:=vals1 r
 have hl:=o4
 have hs:sizeLine=16777216:=sizeLine_eq
 cases x with
 | str y =>
  obtain⟨t,rfl⟩:=rx
  obtain⟨hy,e'⟩:y.length<=sizeLine/\n=y.length:=e
  subst e'
  exact len_str (by omega) ⟨.int _,H,I.tok _,⟨_,rfl⟩,q⟩
 | byt y =>
  obtain⟨t,rfl⟩:=rx
  obtain⟨hy,e'⟩:y.size<=sizeLine/\n=y.size:=e
  subst e'
  exact PySem.W.len_bytes (by omega) ⟨.int _,H,I.tok _,⟨_,rfl⟩,q⟩
 | ref p =>
  cases rx
  have e':(∃ xs,ar X.K H p xs/\n=xs.length) ∨ ∃ xs,aB X.K H p xs/\n=xs.length:=e
  rcases e' with ⟨xs,hx,e'⟩|⟨xs,hx,e'⟩
  ·subst e'
   obtain⟨av,r',pl,hz⟩:=I.list hx
   have hlen:=r'.length
   exact Calls.call_len_list pl.isList (by simp only[List.size_toArray];omega) ⟨.int xs.length,H,I.tok _,⟨_,by simp only[List.size_toArray];rw[hlen]⟩,q⟩
  ·subst e'
   obtain⟨av,r',pl,hz⟩:=I.tuple hx
   have hlen:=r'.length
   exact len_tuple pl (by simp only[List.size_toArray];omega) ⟨.int xs.length,H,I.tok _,⟨_,by simp only[List.size_toArray];rw[hlen]⟩,q⟩
 | _=>exact (show False from e).elim
end
end L2
namespace L2
open PySem PySem.Spec PyProof.Rows
structure lB(h:Heap)(x dx C:Addr)(mA:Str->Option Value):Prop where
 obj:h.get? x=some (PySem.W.instObj C dx)
 ns:h.Ns1 dx mA
 ne:dx≠x
theorem Je{h:Heap}{dx:Addr}{mA:Str->Option Value}(n:h.Ns1 dx mA):∃ od,h.get? dx=some od/\∀ name,PySem.W.lookIn name od=some (mA name):=by
 obtain⟨o,es,ep,ho,hd,hk,_,hm⟩:=n
 refine⟨o,ho,fun name=>?_⟩
 have e:=hm name
 unfold nsFind findBy at e
 rw[<- Array.find?_toList] at e
 unfold PySem.W.lookIn
 rw[hd]
 dsimp only
 split
 ·rename_i y q
  rw[q] at e
  exact congrArg some e
 ·rename_i q
  rw[q] at e
  have a:es.toList.any (·.refKey)=false:=by
   rw[List.any_eq_false]
   intro y hy
   obtain⟨z,t,hkey⟩:=hk y (Array.mem_toList_iff.mp hy)
   simp[DictEntry.refKey,hkey]
  have a':¬ es.toList.any (·.refKey)=true:=by rw[a];exact Bool.false_ne_true
  rw[if_neg a']
  exact congrArg some e
theorem lB.look{h:Heap}{x dx C:Addr}{mA:Str->Option Value}(I:lB h x dx C mA):∃ od,PySem.W.InstAt h x (PySem.W.instObj C dx) C (some od)/\∀ name,PySem.W.lookIn name od=some (mA name) :=
 let ⟨od,ho,hl⟩:=Je I.ns
 ⟨od,⟨I.obj,rfl,rfl,ho⟩,hl⟩
section
variable{prog:Program}{w:World}{A:Around}{E:Value->Shared->Prop}{s:Shared}{K:PySem.W.Frag}{x dx C f:Addr}{mA:Str->Option Value}{name:Str}{v:Value}
theorem get_map{expr:Bool}{Q:Value->Shared->Prop}(X:K.In s.heap)(I:lB s.heap x dx C mA)(hg:PySem.W.plainGet K C name=true)(hh:PySem.W.hasDictIn K C=true)
 (ha:PySem.W.findIn K (.ref C) name=some none) (hv:mA name=some v) (vz:PySem.W.handedIn v=true) (h:Q v { s with toks:=s.toks+1 }) :
 wpAny (model prog w) A (getAttr (.ref x) name expr) Q E s:=by
 obtain⟨od,J,hl⟩:=I.look
 exact PySem.W.get_value X J (PySem.W.plainGet_of hg).1 (PySem.W.findObj_own hh ha rfl (by rw[hl,hv])) vz h
theorem Jf{pl:Sem Bool}{Q:Value × List Value->Shared->Prop}(X:K.In s.heap)(I:lB s.heap x dx C mA)(hg:PySem.W.plainGet K C name=true)
 (hf:PySem.W.findIn K (.ref C) name=some (some (.ref f))) (ht:PySem.W.isFn K (.ref f)=true) (hv:mA name=none) (h:Q (.ref f,[.ref x]) s) :
 wpAny (model prog w) A (getMethod (.ref x) name pl) Q E s:=by
 obtain⟨od,J,hl⟩:=I.look
 exact PySem.W.method_fn X J (PySem.W.plainGet_of hg).1 (PySem.W.plainGet_of hg).2 hf (beq_iff_eq.mp ht) (by show (PySem.W.lookIn name od).map (·.isSome)=some false;rw[hl,hv];rfl) h
theorem Jg{ns:List Str}{Q:Unit->Shared->Prop}(X:K.In s.heap)(I:lB s.heap x dx C mA)
 (hs:PySem.W.findIn K (.ref C) "__setattr__" = some (some (.builtin "object.__setattr__"))) (hp:PySem.W.plainOver K C=true) (ht:PySem.W.takerIn K C name=some none) (hh:PySem.W.hasDictIn K C=true)
 (hw:PySem.Within mA ns) (hsz:ns.length<=sizeLine)
 (h:∀ h',lB h' x dx C (fun y=>if y=name then some v else mA y)->Heap.SameBut dx s.heap h'->Q () { s with heap:=h',toks:=s.toks+2 }) :
 wpAny (model prog w) A (setAttr (.ref x) name v) Q E s:=by
 obtain⟨od,J,hl⟩:=I.look
 refine PySem.W.set_plain X J hs (PySem.W.osa_open (s:={ s with toks:=s.toks+1 }) (r:=none) X J hp ht fun b=>?_)
 obtain⟨cd,hc,uX⟩:=PySem.W.any_some hh
 have hx:s.heap.get? x=some ⟨.ref C,some dx,.plain,#[]⟩:=I.obj
 refine wpAny_bind (wpAny_pure (wpAny_bind (wpAny_bind (wpAny_loadPart hx (wpAny_bind (PySem.W.Looks.here (s:={ s with toks:=s.toks+1 }) (PySem.W.looks_clsIn X hc) ?_))))))
 rw[uX]
 refine wpAny_pure (a:=some dx) (wpAny_bind (wpAny_pure (wpAny_bind ?_)))
 refine wpAny_nsSet1 (s:={ s with toks:=s.toks+1 }) I.ns fun h' o5 oV=>?_
 obtain⟨oD,Ve,Vf,Jh,Ji,Jj⟩:=o5.count (PySem.Within.cons name v hw)
 refine wpAny_bind (wpAny_lookBehind Jh (by rw[Ji];exact pastItsLine_dict (Nat.le_trans Jj (by rw[List.length_cons];omega))) ?_)
 exact wpAny_pure (h _ ⟨(oV.2 _ (Ne.symm I.ne)).trans I.obj,o5,I.ne⟩ oV)
theorem Jk{R:Result->Shared->Prop}{vs:List Value}{kw:List (Str × Value)}(X:K.In s.heap)(hm:PySem.W.makesIn K C=true)
 (hi:PySem.W.findIn K (.ref C) "__init__" = some (some (.ref f))) (hf:PySem.W.typeIn K (.ref f)=some (.type "function"))
 (h:codeAny (model prog w) (A.under (.builtin "type.__call__" ⟨.ref C::vs,kw⟩)) (.call (.ref f) ⟨.ref (s.heap.objs.size+1)::vs,kw⟩) (PySem.W.InitBack (s.heap.objs.size+1) R)
   { s with heap:=(s.heap.push PySem.W.emptyDict).push (PySem.W.instObj C s.heap.objs.size) }) :
 codeAny (model prog w) A (.call (.ref C) ⟨vs,kw⟩) R s:=by
 obtain⟨hh,g,d,t,os⟩:=s
 exact PySem.W.make_core (PySem.W.makes_of X hm) (PySem.W.looks_findIn X hi) (fun self=>PySem.W.bind_fn X self hf) (.inl rfl) h
end
noncomputable def eM(f:Str)(v:V):List (Str × V)->List (Str × V)
 | []=>[(f,v)]
 | (g,x)::r=>if g=f then (g,v)::r else (g,x)::eM f v r
theorem BX(f g:Str)(v:V):∀ fs:List (Str × V),(eM f v fs).lookup g=if g=f then some v else fs.lookup g
 | []=>by
  show List.lookup g [(f,v)]=_
  by_cases h:g=f
  ·have hb:(g == f)=true:=beq_iff_eq.mpr h
   simp only[List.lookup,hb,if_pos h]
  ·have hb:(g == f)=false:=beq_eq_false_iff_ne.mpr h
   simp only[List.lookup,hb,if_neg h]
 | (k,x)::r=>by
  have ih:=BX f g v r
  rw[show eM f v ((k,x)::r)=(if k=f then (k,v)::r else (k,x)::eM f v r) from rfl]
  by_cases hk:k=f
  ·rw[if_pos hk]
   by_cases h:g=k
   ·have hb:(g == k)=true:=beq_iff_eq.mpr h
    simp only[List.lookup,hb,if_pos (h.trans hk)]
   ·have hb:(g == k)=false:=beq_eq_false_iff_ne.mpr h
    simp only[List.lookup,hb,if_neg (fun e:g=f=>h (e.trans hk.symm))]
  ·rw[if_neg hk]
   by_cases h:g=k
   ·have hb:(g == k)=true:=beq_iff_eq.mpr h
    simp only[List.lookup,hb,if_neg (fun e:g=f=>hk (h.symm.trans e))]
   ·have hb:(g == k)=false:=beq_eq_false_iff_ne.mpr h
    simp only[List.lookup,hb]
    exact ih
theorem vA(f:Str)(v:V):∀ fs:List (Str × V),f∈(eM f v fs).map (·.1)/\∀ g,g∈fs.map (·.1)->g∈(eM f v fs).map (·.1)
 | []=>⟨by simp[eM],fun g h=>by simp at h⟩
 | (k,x)::r=>by
  obtain⟨i1,i2⟩:=vA f v r
  rw[show eM f v ((k,x)::r)=(if k=f then (k,v)::r else (k,x)::eM f v r) from rfl]
  by_cases hk:k=f
  ·rw[if_pos hk]
   subst hk
   exact⟨by simp,fun g h=>by simpa using h⟩
  ·rw[if_neg hk]
   refine⟨?_,fun g h=>?_⟩
   ·rw[List.map_cons]
    exact List.mem_cons_of_mem _ i1
   ·rw[List.map_cons] at h ⊢
    rcases List.mem_cons.mp h with e|e
    ·exact List.mem_cons.mpr (.inl e)
    ·exact List.mem_cons_of_mem _ (i2 g e)
theorem BY(f:Str)(v:V):∀ fs:List (Str × V),(eM f v fs).length<=fs.length+1
 | []=>by simp[eM]
 | (k,x)::r=>by
  have ih:=BY f v r
  rw[show eM f v ((k,x)::r)=(if k=f then (k,v)::r else (k,x)::eM f v r) from rfl]
  by_cases hk:k=f
  ·rw[if_pos hk,List.length_cons,List.length_cons];omega
  ·rw[if_neg hk,List.length_cons,List.length_cons];omega
theorem dY.some_of{v:V}{o:Option Value}(r:dY (some v) o):∃ u,o=some u/\RelV v u:=by
 cases o with
 | none=>exact (show False from r).elim
 | some u=>exact⟨u,rfl,r⟩
theorem dY.none_of{o:Option Value}(r:dY none o):o=none:=by
 cases o with
 | none=>rfl
 | some u=>exact (show False from r).elim
theorem Jl{v:V}{u:Value}(r:RelV v u):PySem.W.handedIn u=true:=by
 cases v with
 | non=>cases (show u=Value.none from r);rfl
 | bl b=>cases (show u=Value.bool b from r);rfl
 | int i=>obtain⟨t,e⟩:=(show ∃ t,u=Value.int i t from r);cases e;rfl
 | str x=>obtain⟨t,e⟩:=(show ∃ t,u=Value.str x t from r);cases e;rfl
 | byt b=>obtain⟨t,e⟩:=(show ∃ t,u=Value.bytes b t from r);cases e;rfl
 | flt b=>obtain⟨t,e⟩:=(show ∃ t,u=Value.float b t from r);cases e;rfl
 | ref a=>cases (show u=Value.ref a from r);rfl
 | ty n=>cases (show u=Value.type n from r);rfl
section
variable{P:Program}{w:World}{H H':Hp}{h h':Heap}{a C dx:Addr}{fs Ij:List (Str × V)}
theorem sj(aA:bV P w H h)(e:H a=some (.ins C dx fs)):∃ mA,lB h a dx C mA/\(∀ f,dY (fs.lookup f) (mA f))/\PySem.Within mA (fs.map (·.1))/\fs.length<=1000/\H dx=some (.own a):=by
 obtain⟨d,z,ne,ob,mA,n,r,q⟩:=(show bZ P w H h a (.ins C dx fs) from aA a _ e)
 exact⟨mA,⟨ob,n,ne⟩,r,q,z,d⟩
end
structure br(K:PySem.W.Frag)(C:Addr):Prop where
 pg:PySem.W.plainGet K C Str.empty=true
 hd:PySem.W.hasDictIn K C=true
 po:PySem.W.plainOver K C=true
 sa:PySem.W.findIn K (.ref C) "__setattr__" = some (some (.builtin "object.__setattr__"))
theorem br.get{K:PySem.W.Frag}{C:Addr}(c:br K C)(f:Str):PySem.W.plainGet K C f=true:=c.pg
def bB(K:PySem.W.Frag)(C:Addr)(f:Str):Prop:=PySem.W.findIn K (.ref C) f=some none
theorem bB.Jm{K:PySem.W.Frag}{C:Addr}{f:Str}(n:bB K C f):PySem.W.takerIn K C f=some none:=by
 unfold PySem.W.takerIn
 rw[show PySem.W.findIn K (.ref C) f=some none from n]
 rfl
structure Meth(K:PySem.W.Frag)(C:Addr)(m:Str)(f:Addr):Prop where
 at_:PySem.W.findIn K (.ref C) m=some (some (.ref f))
 fn:PySem.W.isFn K (.ref f)=true
 kp:PySem.W.keepIn K (.ref f)=true
section
variable{X:Cx}{pins:List (Addr × Obj)}{σ:St}{H:Hp}{s:Shared}{a C dx:Addr}{fs:List (Str × V)}{f:Str}{v:V}{A:Around}{E:Value->Shared->Prop}
theorem Jn{b:Bool}{Q:Value->Shared->Prop}(I:Inv X pins σ H s)(e:H a=some (.ins C dx fs))(c:br X.K C)(n:bB X.K C f)(l:fs.lookup f=some v)
 (h:∀ u s',Inv X pins σ H s'->RelV v u->Q u s'):wpAny (model X.prog X.w) A (getAttr (.ref a) f b) Q E s:=by
 obtain⟨mA,O,r,y,y,y⟩:=sj I.aA e
 obtain⟨u,hu,ru⟩:=dY.some_of (v:=v) (o:=mA f) (by rw[<- l];exact r f)
 exact get_map I.bI O (c.get f) c.hd n hu (Jl ru) (h u _ (I.tok _) ru)
theorem sq{m:Str}{g:Addr}{pl:Sem Bool}{Q:Value × List Value->Shared->Prop}(I:Inv X pins σ H s)(e:H a=some (.ins C dx fs))(c:br X.K C)(k:Meth X.K C m g)(l:fs.lookup m=none)
 (h:Q (.ref g,[.ref a]) s):wpAny (model X.prog X.w) A (getMethod (.ref a) m pl) Q E s:=by
 obtain⟨mA,O,r,y,y,y⟩:=sj I.aA e
 have hn:mA m=none:=dY.none_of (by rw[<- l];exact r m)
 exact Jf I.bI O (c.get m) k.at_ k.fn hn h
theorem Jo{y:V}{u:Value}{Q:Unit->Shared->Prop}(I:Inv X pins σ H s)(e:H a=some (.ins C dx fs))(c:br X.K C)(n:bB X.K C f)(hl:fs.length<1000)(ry:RelV y u)
 (h:∀ s',Inv X pins σ (upd H a (.ins C dx (eM f y fs))) s'->Q () s'):wpAny (model X.prog X.w) A (setAttr (.ref a) f u) Q E s:=by
 obtain⟨mA,O,r,wi,v,ho⟩:=sj I.aA e
 have hz:(fs.map (·.1)).length<=sizeLine:=by rw[List.length_map,sizeLine_eq];omega
 refine Jg I.bI O c.sa c.po n.Jm c.hd wi hz fun h' O' sb=>h _ ?_
 have hd:∃ o,h'.get? dx=some o:=let ⟨o,_,_,e',_⟩:=O'.ns;⟨o,e'⟩
 refine I.write (x:=a) (e:=dx) (by rw[e];exact True.intro) (.inr ho) (fun b q hb z=>(sb.2 b hb).trans z) hd ?_
 refine⟨by rw[aO O.ne];exact ho,?_,O.ne,O'.obj,_,O'.ns,fun g=>?_,fun g hg=>?_⟩
 ·have:=BY f y fs;omega
 ·show dY ((eM f y fs).lookup g) (if g=f then some u else mA g)
  rw[BX]
  by_cases q:g=f
  ·rw[if_pos q,if_pos q];exact ry
  ·rw[if_neg q,if_neg q];exact r g
 ·by_cases q:g=f
  ·rw[q];exact (vA f y fs).1
  ·refine (vA f y fs).2 g (wi g fun z=>hg ?_)
   show (if g=f then some u else mA g)=none
   rw[if_neg q];exact z
theorem Inv.made(I:Inv X pins σ H s):Inv X pins σ (upd (upd H s.heap.objs.size (.own (s.heap.objs.size+1))) (s.heap.objs.size+1) (.ins C s.heap.objs.size []))
 { s with heap:=(s.heap.push PySem.W.emptyDict).push (PySem.W.instObj C s.heap.objs.size) }:=by
 have e1:(s.heap.push PySem.W.emptyDict).get? s.heap.objs.size=some PySem.W.emptyDict:=Heap.get?_push_size s.heap rfl
 have e2:((s.heap.push PySem.W.emptyDict).push (PySem.W.instObj C s.heap.objs.size)).get? (s.heap.objs.size+1)=some (PySem.W.instObj C s.heap.objs.size):=by
  have:=Heap.get?_push_size (s.heap.push PySem.W.emptyDict) (o:=PySem.W.instObj C s.heap.objs.size) rfl
  rwa [Heap.size_push] at this
 have e3:(s.heap.push PySem.W.emptyDict).Ns s.heap.objs.size (fun z=>none):=⟨PySem.W.emptyDict,#[],_,e1,rfl,(fun e he=>absurd he (by simp)),fun z=>rfl⟩
 have I1:=I.laid (a:=s.heap.objs.size) (o:=.own (s.heap.objs.size+1)) (h':=s.heap.push PySem.W.emptyDict) (t':=s.toks) (fun b u q=>Heap.get?_push_of_some _ q) (Nat.le_refl _) ⟨_,e1⟩
 refine I1.laid (a:=s.heap.objs.size+1) (o:=.ins C s.heap.objs.size []) (t':=s.toks) (fun b u q=>Heap.get?_push_of_some _ q) (Nat.le_of_eq (Heap.size_push _ _)) ?_
 have ne:s.heap.objs.size≠s.heap.objs.size+1:=Nat.ne_of_lt (Nat.lt_succ_self _)
 refine⟨by rw[aO ne,aj],Nat.zero_le _,ne,e2,fun z=>none,(Heap.Ns1.of_empty e3).at fun o q=>Heap.get?_push_of_some _ q,fun z=>True.intro,fun y hy=>absurd rfl hy⟩
theorem Jp{prog:Program}{w:World}{env:Env}{e:Expr}{f:Str}{pos:Pos}{s:Shared}{Q:Value->Shared->Prop}(hb:attributeBase e f env (eval e env)=eval e env)
 (h:wpAny (model prog w) A (eval e env) (fun o s₁=>wpAny (model prog w) A (getAttr o f true) Q E s₁) E s):wpAny (model prog w) A (eval (.Attribute e f pos) env) Q E s :=
 Attribute_any_ h (by rw[arm_eval_Attribute,hb])
end
def BZ(K:PySem.W.Frag)(ta:TE)(f:Str):TE:=fun σ H Q=>ta σ H fun x H1=>∃ a C dx fs v,x = .ref a/\H1 a=some (.ins C dx fs)/\br K C/\bB K C f/\fs.lookup f=some v/\Q v H1
def B0(K:PySem.W.Frag)(ta tv:TE)(f:Str):TS:=fun D σ H=>tv σ H fun y H1=>ta σ H1 fun x H2=>∃ a C dx fs,x = .ref a/\H2 a=some (.ins C dx fs)/\br K C/\bB K C f/\fs.length<1000 /\
 D.nx σ (upd H2 a (.ins C dx (eM f y fs)))
section
variable{X:Cx}{o e value:Expr}{f:Str}{pos pos' Jq:Pos}{ta tv:TE}
theorem Jr(he:PE X e ta)(hb:attributeBase e f X.env (eval e X.env)=eval e X.env):PE X (.Attribute e f pos) (BZ X.K ta f):=by
 intro pins s σ H Q I h
 refine Jp hb (aC (he pins s σ H _ I h) fun u s1 ⟨x,H1,I1,rx,a,C,dx,fs,v,ex,ea,c,n,l,q⟩=>?_)
 subst ex
 obtain rfl:u=Value.ref a:=rx
 exact Jn I1 ea c n l fun u' s2 I2 ru=>⟨v,H1,I2,ru,q⟩
theorem Js(ha:PE X o ta)(hv:PE X value tv)(hs:swapsWith value (some (.Attribute o f pos')) pos.line X.env=pure false):PS X (.Assign [.Attribute o f pos'] value pos) (B0 X.K ta tv f):=by
 intro pins s σ H D I h
 refine plainObj_wpAny_Assign_Attribute (aC (hv pins s σ H _ I h) fun u s1 ⟨y,H1,I1,ry,q⟩=>aC (ha pins s1 σ H1 _ I1 q) fun ov s2 ⟨x,H2,I2,rx,a,C,dx,fs,ex,ea,c,n,l,q2⟩=>?_) hs
 subst ex
 obtain rfl:ov=Value.ref a:=rx
 exact Jo I2 ea c n l ry fun s3 I3=>⟨σ,_,I3,q2⟩
end
section
variable{X:Cx}{pins:List (Addr × Obj)}{σ:St}{H:Hp}{s:Shared}{A:Around}{E:Value->Shared->Prop}{Q:Value->Shared->Prop}{c:Value}{b:Bool}
inductive dq(K:PySem.W.Frag)(H:Hp):V->Value->Prop where
 | non:dq K H .non (.type "NoneType")
 | bl (x:Bool):dq K H (.bl x) (.type "bool")
 | int (i:Int):dq K H (.int i) (.type "int")
 | str (x:Str):dq K H (.str x) (.type "str")
 | flt (x:UInt64):dq K H (.flt x) (.type "float")
 | lst {a:Addr} {xs:List V} (e:H a=some (.lst xs)):dq K H (.ref a) (.type "list")
 | dZ {a:Addr} {o:Obj} {xs:List V} (e:H a=some (.dZ o (.lst xs))):dq K H (.ref a) (.type "list")
 | tup {a:Addr} {xs:List V} (e:H a=some (.tup xs)):dq K H (.ref a) (.type "tuple")
 | dK {a:Addr} {kvs:List (Key × V)} (e:H a=some (.dK kvs)):dq K H (.ref a) (.type "dict")
 | dT {a:Addr} {kvs:List (List Key × V)} (e:H a=some (.dT kvs)):dq K H (.ref a) (.type "dict")
 | ins {a C dx:Addr} {fs:List (Str × V)} (e:H a=some (.ins C dx fs)) (cl:br K C) (ha:PySem.W.findIn K (.ref C) "__class__" = some (some (.builtin "object.__class__")))
  (hn:PySem.W.specialIn K (.builtin "object.__class__") "__get__" = some (some (.builtin "getset_descriptor.__get__"))) (gF:PySem.W.takesIn K (.builtin "object.__class__")=some true)
  (hm:PySem.W.mroIn K C (.type "object")=some true):dq K H (.ref a) (.ref C)
theorem Jt{x:V}{u t:Value}(I:Inv X pins σ H s)(rx:RelV x u)(ty:dq X.K H x t)(e:PySem.W.kitOne X.K t c=some b)(h:∀ tk,Q (.bool b) { s with toks:=tk }) :
 wpAny (model X.prog X.w) A (call (.builtin "isinstance") [u,c]) Q E s:=by
 cases ty with
 | non=>cases (show u=Value.none from rx);exact PySem.W.kia_one PySem.W.kitx_none I.bI True.intro e (fun z=>nomatch z) h
 | bl y=>cases (show u=Value.bool y from rx);exact PySem.W.kia_one PySem.W.kitx_bool I.bI True.intro e (fun z=>nomatch z) h
 | int i=>obtain⟨t,q⟩:=(show ∃ t,u=Value.int i t from rx);cases q;exact PySem.W.kia_one PySem.W.kitx_int I.bI True.intro e (fun z=>nomatch z) h
 | str y=>obtain⟨t,q⟩:=(show ∃ t,u=Value.str y t from rx);cases q;exact PySem.W.kia_one PySem.W.kitx_str I.bI True.intro e (fun z=>nomatch z) h
 | flt y=>obtain⟨t,q⟩:=(show ∃ t,u=Value.float y t from rx);cases q;exact PySem.W.kia_one PySem.W.kitx_float I.bI True.intro e (fun z=>nomatch z) h
 | @lst a xs ea =>
  cases (show u=Value.ref a from rx)
  obtain⟨v,v,n,v,h1⟩:=(show bZ X.prog X.w H s.heap a (.lst xs) from I.aA a _ ea)
  exact PySem.W.kia_one PySem.W.kitx_list I.bI ⟨_,h1,rfl⟩ e (fun z=>nomatch z) h
 | @dZ a ob xs ea =>
  cases (show u=Value.ref a from rx)
  obtain⟨v,v,v,n,v,h1⟩:=(show bZ X.prog X.w H s.heap a (.dZ ob (.lst xs)) from I.aA a _ ea)
  exact PySem.W.kia_one PySem.W.kitx_list I.bI ⟨_,h1,rfl⟩ e (fun z=>nomatch z) h
 | @tup a xs ea =>
  cases (show u=Value.ref a from rx)
  obtain⟨v,v,v,p⟩:=(show bZ X.prog X.w H s.heap a (.tup xs) from I.aA a _ ea)
  obtain⟨o,h1,h2,v⟩:=p
  exact PySem.W.kia_one PySem.W.kitx_tuple I.bI ⟨o,h1,h2⟩ e (fun z=>nomatch z) h
 | @dK a kvs ea =>
  cases (show u=Value.ref a from rx)
  obtain⟨v,v,vs,v,p⟩:=(show bZ X.prog X.w H s.heap a (.dK kvs) from I.aA a _ ea)
  obtain⟨o,es,ep,h1,h2,v⟩:=p
  exact PySem.W.kia_one PySem.W.kitx_dict I.bI ⟨o,h1,h2.1⟩ e (fun z=>nomatch z) h
 | @dT a kvs ea =>
  cases (show u=Value.ref a from rx)
  obtain⟨v,v,xs,v,o,es,ep,h1,h2,v⟩:=(show bZ X.prog X.w H s.heap a (.dT kvs) from I.aA a _ ea)
  exact PySem.W.kia_one PySem.W.kitx_dict I.bI ⟨o,h1,h2.1⟩ e (fun z=>nomatch z) h
 | @ins a C dx fs ea cl ha hn gF hm =>
  cases (show u=Value.ref a from rx)
  obtain⟨mA,O,v⟩:=sj I.aA ea
  obtain⟨od,J,v⟩:=O.look
  exact PySem.W.kia_one (PySem.W.kitx_own (cl.get _) cl.hd ha hn gF hm) I.bI J e (fun z=>nomatch z) h
end
end L2
namespace L2
open PySem PySem.Spec PyProof.Rows
structure ba(k:Nat)(A:Around):Prop where
 hd:A.handled=none
 dp:A.depth+3 * k+5<recursionLimit
 un:A.units+16 * k+200<cLine
theorem ba.mono{j k:Nat}{A:Around}(r:ba k A)(h:j<=k):ba j A:=⟨r.hd,by have:=r.dp;omega,by have:=r.un;omega⟩
theorem ba.deeper{k:Nat}{A:Around}(r:ba (k+1) A)(env:Env):ba k (A.deeper env) :=
 ⟨r.hd,by have:=r.dp;show A.depth+1+3 * k+5<_;omega,by have:=r.un;show A.units+3+16 * k+200<_;omega⟩
theorem Ju{A:Around}{C:Addr}{us:List Value}{kw:List (Str × Value)}:(A.under (.builtin "type.__call__" ⟨.ref C::us,kw⟩)).depth=A.depth+1:=by
 first|rfl|simp[Around.under,Code.weight,Code.isCreation,Code.isGuard,Code.isCaller,Code.frames,Code.isFrame,guardIds]
theorem Jv{A:Around}{C:Addr}{us:List Value}{kw:List (Str × Value)}:(A.under (.builtin "type.__call__" ⟨.ref C::us,kw⟩)).units=A.units+1:=by
 first|rfl|simp[Around.under,Code.cUnits,Code.frames,Code.isFrame]
theorem ba.make{k:Nat}{A:Around}(r:ba (k+1) A)(C:Addr)(us:List Value)(kw:List (Str × Value)):ba k (A.under (.builtin "type.__call__" ⟨.ref C::us,kw⟩)) :=
 ⟨r.hd,by have:=r.dp;rw[Ju];omega,by have:=r.un;rw[Jv];omega⟩
theorem ba.depth{k:Nat}{A:Around}(r:ba k A):A.depth<recursionLimit:=by have:=r.dp;omega
theorem ba.units{k:Nat}{A:Around}(r:ba k A):A.units+64<cLine:=by have:=r.un;omega
def o6:TA:=fun y H Q=>Q [] H
def sr(ta:TE)(tr:TA):TA:=fun σ H Q=>ta σ H fun x H1=>tr σ H1 fun xs H2=>Q (x::xs) H2
section
variable{X:Cx}{e:Expr}{es:List Expr}{te:TE}{t:TA}{pos:Pos}
theorem ah:PA X [] o6:=fun y y y y H Q I h=>Calls.spliced_nil ⟨[],H,I,.nil,h⟩
theorem ae(ha:PE X e te)(hr:PA X es t)(hs:starEach (e::es) X.env=(false,eval e X.env)::starEach es X.env:=by rfl):PA X (e::es) (sr te t):=by
 intro pos pins s σ H Q I h
 rw[hs]
 show wpAny _ _ (spliced ((false,eval e X.env)::backTo pos (starEach es X.env))) _ _ s
 refine Calls.spliced_cons (aC (ha pins s σ H _ I h) fun u s1 ⟨x,H1,I1,r1,q1⟩=>?_)
 exact aC (hr pos pins s1 σ H1 _ I1 q1) fun us s2 ⟨xs,H2,I2,r2,q2⟩=>⟨x::xs,H2,I2,.cons r1 r2,q2⟩
def B1(t:TA):TE:=fun σ H Q=>t σ H fun xs H1=>xs.length<=sizeLine/\∀ p,H1 p=none->Q (.ref p) (upd H1 p (.tup xs))
def B2(t:TA):TE:=fun σ H Q=>t σ H fun xs H1=>xs.length<=sizeLine/\∀ p,H1 p=none->Q (.ref p) (upd H1 p (.lst xs))
theorem bg{x1}(h:PA X es t):PE X (.Tuple es x1 pos) (B1 t):=by
 intro pins s σ H Q I hq
 refine wpAny_Tuple_spliced (aC (h pos pins s σ H _ I hq) fun us s1 ⟨xs,H1,I1,r,z,q⟩=>⟨by rw[<- r.length];exact z,?_⟩)
 have hf:H1 s1.heap.objs.size=none:=I1.aA.fresh (Nat.le_refl _)
 refine⟨.ref s1.heap.objs.size,upd H1 s1.heap.objs.size (.tup xs),I1.laid (t':=s1.toks) (fun b u e=>Heap.get?_push_of_some _ e) (Nat.le_refl _) ?_,rfl,q _ hf⟩
 exact⟨z,us,r,⟨_,Heap.get?_push_size _ rfl,rfl,_,rfl⟩⟩
theorem ck(h:PA X es t):PE X (.List es pos) (B2 t):=by
 intro pins s σ H Q I hq
 refine wpAny_List_spliced (aC (h pos pins s σ H _ I hq) fun us s1 ⟨xs,H1,I1,r,z,q⟩=>⟨by rw[<- r.length];exact z,?_⟩)
 have hf:H1 s1.heap.objs.size=none:=I1.aA.fresh (Nat.le_refl _)
 refine⟨.ref s1.heap.objs.size,upd H1 s1.heap.objs.size (.lst xs),I1.laid (t':=s1.toks) (fun b u e=>Heap.get?_push_of_some _ e) (Nat.le_refl _) ?_,rfl,q _ hf⟩
 exact⟨z,us,0,r,Heap.get?_push_size _ rfl⟩
end
abbrev Sp:=List V->Hp->VK->XK->Prop
abbrev c9:=List Env->Hp->Shared->XK->Value->Shared->Prop
structure lC(P:Program)(w:World)(K:PySem.W.Frag)(mg:Str->Option Value)(base:Heap)(A:Around)(outer:List Env)(s:Shared)(H:Hp):Prop where
 frames:A.frames=some outer
 mod:Mod K mg base
 bs:∀ b o,base.get? b=some o->s.heap.get? b=some o/\H b=none
 bsz:base.objs.size<=s.heap.objs.size
 ff:s.heap.FunFrames base outer
 frf:∀ b∈aY outer,H b=none
 aA:bV P w H s.heap
 bare:AllBare s.gens
def CE(outer:List Env)(P:Program)(w:World)(H:Hp)(s:Shared)(Q:VK)(u:Value)(s':Shared):Prop :=
 ∃ v H',s'.os=s.os/\AllBare s'.gens/\Un (aY outer) [] H H' s.heap s'.heap/\bV P w H' s'.heap/\RelV v u/\Q v H'
def CR(CX:c9)(outer:List Env)(P:Program)(w:World)(H:Hp)(s:Shared)(Q:VK)(E:XK)(r:Result)(s':Shared):Prop :=
 match r with
 | .ok (.ret u)=>CE outer P w H s Q u s'
 | .ok _=>False
 | .error e=>CX outer H s E e s'
structure cc(P:Program)(w:World)(K:PySem.W.Frag)(mg:Str->Option Value)(base:Heap)(CX:c9)(k:Nat)(f:Addr)(fd:FuncData)(ps:List Str)(sp:Sp):Prop where
 len:∀ vs H Q E,sp vs H Q E->vs.length=ps.length
 run:∀ (A:Around) (outer:List Env) (s:Shared) (H:Hp) (args:Args) (us:List Value) (vs:List V) (Q:VK) (E:XK),ba k A->lC P w K mg base A outer s H->BindsTo s fd args (ps.zip us)->Vals vs us->sp vs H Q E ->
  codeAny (model P w) A (.call (.ref f) args) (CR CX outer P w H s Q E) s
theorem cc.mono{P:Program}{w:World}{K:PySem.W.Frag}{mg:Str->Option Value}{base:Heap}{CX:c9}{j k:Nat}{f:Addr}{fd:FuncData}{ps:List Str}{sp:Sp}(F:cc P w K mg base CX j f fd ps sp)(h:j<=k) :
 cc P w K mg base CX k f fd ps sp:=⟨F.len,fun A outer s H args us vs Q E hr=>F.run A outer s H args us vs Q E (hr.mono h)⟩
theorem cc.imp{P:Program}{w:World}{K:PySem.W.Frag}{mg:Str->Option Value}{base:Heap}{CX:c9}{k:Nat}{f:Addr}{fd:FuncData}{ps:List Str}{sp o7:Sp}(F:cc P w K mg base CX k f fd ps sp)
 (h:∀ vs H Q E,o7 vs H Q E->sp vs H Q E):cc P w K mg base CX k f fd ps o7 :=
 ⟨fun vs H Q E q=>F.len vs H Q E (h _ _ _ _ q),fun A outer s H args us vs Q E hr he hb hv hs=>F.run A outer s H args us vs Q E hr he hb hv (h _ _ _ _ hs)⟩
theorem lC.make{P:Program}{w:World}{K:PySem.W.Frag}{mg:Str->Option Value}{base:Heap}{A:Around}{outer:List Env}{s:Shared}{H:Hp}(e:lC P w K mg base A outer s H)(C:Addr)(us:List Value)(kw:List (Str × Value)) :
 lC P w K mg base (A.under (.builtin "type.__call__" ⟨.ref C::us,kw⟩)) outer s H:=⟨by first|exact e.frames|(simpa [Around.under,Code.envs,Code.isFrame,pushEnvs] using e.frames),e.mod,e.bs,e.bsz,e.ff,e.frf,e.aA,e.bare⟩
section
variable{X:Cx}{pins:List (Addr × Obj)}{σ:St}{H:Hp}{s s':Shared}
theorem Inv.vB(I:Inv X pins σ H s):lC X.prog X.w X.K X.mg X.base X.A X.stack s H :=
 ⟨I.ok.frames,I.ok.mod,I.bs,Nat.le_trans I.ok.bsz I.sz,I.stack,I.oK,I.aA,I.bare⟩
theorem Inv.after{Q:VK}{u:Value}(I:Inv X pins σ H s)(h:CE X.stack X.prog X.w H s Q u s'):EP X pins σ Q u s':=by
 obtain⟨v,H',os,bare,un,aA,r,q⟩:=h
 obtain⟨hh,g,d,t,su⟩:=s'
 obtain rfl:su=s.os:=os
 exact⟨v,H',I.call (h':=hh) (g':=g) (d':=d) (t':=t) (ch:=[]) un aA bare (fun b z=>absurd z (by simp)),r,q⟩
end
def m7(sp:Sp)(bN:List V)(E:XK)(t:TA):TE:=fun σ H Q=>t σ H fun vs H1=>sp (vs++bN) H1 Q E
def vC(C:Addr)(m:Str)(sp:Sp)(bN:List V)(E:XK)(ta:TE)(t:TA):TE:=fun σ H Q=>ta σ H fun x H1=>∃ a dx fs,x = .ref a/\H1 a=some (.ins C dx fs)/\fs.lookup m=none /\
 t σ H1 fun vs H2=>sp (x::(vs++bN)) H2 Q E
def B3(C:Addr)(sp:Sp)(bN:List V)(E:XK)(t:TA):TE:=fun σ H Q=>t σ H fun vs H1=>∀ x dx,H1 x=none->H1 dx=none->dx≠x ->
 sp (.ref x::(vs++bN)) (upd (upd H1 dx (.own x)) x (.ins C dx [])) (fun v H2=>v = .non/\Q (.ref x) H2) E
def Binds(K:PySem.W.Frag)(fd:FuncData)(ps:List Str)(ds:List Value):Prop :=
 ∀ (s:Shared) (us:List Value),K.In s.heap->(us++ds).length=ps.length->BindsTo s fd ⟨us,[]⟩ (ps.zip (us++ds))
theorem Binds.all{K:PySem.W.Frag}{fd:FuncData}{ps:List Str}(h:∀ us:List Value,us.length=ps.length->bindArgs fd ⟨us,[]⟩=pure (ps.zip us)):Binds K fd ps []:=fun s us y hl=>by
 rw[List.append_nil] at hl ⊢
 exact .of_eq (h us hl)
def Passes(CX:c9)(X:Cx)(E:XK):Prop:=∀ (pins:List (Addr × Obj)) (σ:St) (H:Hp) (s:Shared) (e:Value) (s':Shared),Inv X pins σ H s->CX X.stack H s E e s'->X.xe e s'
section
variable{X:Cx}{CX:c9}{k:Nat}{f C:Addr}{fd:FuncData}{ps:List Str}{sp:Sp}{bN:List V}{ds:List Value}{E:XK}{x m:Str}{p pos apos:Pos}{e o:Expr}{es:List Expr}{ta:TE}{t:TA}
theorem m8{pins:List (Addr × Obj)}{σ:St}{H:Hp}{s:Shared}{Q:VK}{us:List Value}{vs:List V}(F:cc X.prog X.w X.K X.mg X.base CX k f fd ps sp)(hr:ba k X.A)(hb:Binds X.K fd ps ds)(hd:Vals bN ds)(hx:Passes CX X E)
 (I:Inv X pins σ H s) (r:Vals vs us) (h:sp (vs++bN) H Q E):wpAny (model X.prog X.w) X.A (call (.ref f) us) (EP X pins σ Q) X.xe s:=by
 have r2:Vals (vs++bN) (us++ds):=r.append hd
 have hl:(us++ds).length=ps.length:=by rw[<- r2.length];exact F.len _ _ _ _ h
 refine wpAny_call (codeAny_mono (F.run X.A X.stack s H ⟨us,[]⟩ (us++ds) (vs++bN) Q E hr I.vB (hb s us I.bI hl) r2 h) fun r s' hq=>?_)
 cases r with
 | error e=>exact hx pins σ H s e s' I hq
 | ok fl =>
  cases fl with
  | ret u=>exact I.after hq
  | next=>exact False.elim hq
  | brk=>exact False.elim hq
  | cont=>exact False.elim hq
theorem fT(F:cc X.prog X.w X.K X.mg X.base CX k f fd ps sp)(hr:ba k X.A)(hg:Gl X x)(hm:X.mg x=some (.ref f))(hk:PySem.W.keepIn X.K (.ref f)=true)(hb:Binds X.K fd ps ds)(hd:Vals bN ds)(hx:Passes CX X E)
 (ha:PA X (e::es) t) (fq:(x == ("__debug__" : Str))=false:=by decide) (he:starEach (e::es) X.env=(false,eval e X.env)::starEach es X.env:=by rfl) (da:(backTo pos (starEach es X.env)).any (·.1)=false:=by rfl) :
 PE X (.Call (.Name x p) (e::es) [] pos) (m7 sp bN E t):=by
 intro pins s σ H Q I h
 refine wpAny_Call_Name_kw (lr I hg hm ?_ fq)
 refine PySem.W.callWith_K (h₀:=X.base) I.ok.mod.kin hk (aC (ha pos pins s σ H _ I h) fun us s1 ⟨vs,H1,I1,r,q⟩=>⟨I1.bI,?_⟩) he da
 exact m8 F hr hb hd hx I1 r q
theorem m9{pl:Sem Bool}(he:PE X o ta)(c:br X.K C)(hm:Meth X.K C m f)(F:cc X.prog X.w X.K X.mg X.base CX k f fd ps sp)(hr:ba k X.A)(hb:Binds X.K fd ps ds)(hd:Vals bN ds)(hx:Passes CX X E)(ha:PA X (e::es) t)
 (jZ:starEach (e::es) X.env=(false,eval e X.env)::starEach es X.env:=by rfl) (da:(backTo pos (starEach es X.env)).any (·.1)=false:=by rfl)
 (ht:eval (.Call (.Attribute o m apos) (e::es) [] pos) X.env=(do
   let ov <- eval o X.env
   standAt apos.atName
   let (f,first) <- holding [ov] (getMethod ov m pl)
   callWith pos f first (backTo pos (starEach (e::es) X.env)) (backToKw pos (keywordEach [] X.env))):=by rfl) :
 PE X (.Call (.Attribute o m apos) (e::es) [] pos) (vC C m sp bN E ta t):=by
 intro pins s σ H Q I h
 refine PySem.W.methodCall_KW (pl:=pl) (aC (he pins s σ H _ I h) fun u s1 ⟨x,H1,I1,rx,a,dx,fs,ex,ea,l,q⟩=>?_) ht
 subst ex
 obtain rfl:u=Value.ref a:=rx
 refine sq I1 ea c hm l ?_
 refine PySem.W.callWith_K (first:=[.ref a]) (h₀:=X.base) I.ok.mod.kin hm.kp (aC (ha pos pins s1 σ H1 _ I1 q) fun us s2 ⟨vs,H2,I2,r,q2⟩=>⟨I2.bI,?_⟩) jZ da
 exact m8 (us:=.ref a::us) (vs:=.ref a::vs) F hr hb hd hx I2 (.cons rfl r) q2
theorem sv{pl:Sem Bool}(he:PE X o ta)(c:br X.K C)(hm:Meth X.K C m f)(F:cc X.prog X.w X.K X.mg X.base CX k f fd ps sp)(hr:ba k X.A)(hb:Binds X.K fd ps ds)(hd:Vals bN ds)(hx:Passes CX X E)
 (ht:eval (.Call (.Attribute o m apos) [] [] pos) X.env=(do
   let ov <- eval o X.env
   standAt apos.atName
   let (f,first) <- holding [ov] (getMethod ov m pl)
   callWith pos f first (backTo pos (starEach [] X.env)) (backToKw pos (keywordEach [] X.env))):=by rfl) :
 PE X (.Call (.Attribute o m apos) [] [] pos) (vC C m sp bN E ta o6):=by
 intro pins s σ H Q I h
 refine PySem.W.methodCall_KW (pl:=pl) (aC (he pins s σ H _ I h) fun u s1 ⟨x,H1,I1,rx,a,dx,fs,ex,ea,l,q⟩=>?_) ht
 subst ex
 obtain rfl:u=Value.ref a:=rx
 refine sq I1 ea c hm l ?_
 exact PySem.W.callWith_K0 (first:=[.ref a]) I1.bI hm.kp (m8 (us:=[.ref a]) (vs:=[.ref a]) F hr hb hd hx I1 (.cons rfl .nil) q)
structure Mk(K:PySem.W.Frag)(C f:Addr):Prop where
 makes:PySem.W.makesIn K C=true
 init:PySem.W.findIn K (.ref C) "__init__" = some (some (.ref f))
 fn:PySem.W.isFn K (.ref f)=true
 kp:PySem.W.keepIn K (.ref C)=true
theorem Jw{pins:List (Addr × Obj)}{σ:St}{H:Hp}{s:Shared}{Q:VK}{us:List Value}{vs:List V}(M:Mk X.K C f)(F:cc X.prog X.w X.K X.mg X.base CX k f fd ps sp)(hr:ba (k+1) X.A)(hb:Binds X.K fd ps ds)(hd:Vals bN ds)
 (hx:Passes CX X E) (I:Inv X pins σ H s) (r:Vals vs us)
 (h:∀ x dx,H x=none->H dx=none->dx≠x->sp (.ref x::(vs++bN)) (upd (upd H dx (.own x)) x (.ins C dx [])) (fun v H2=>v = .non/\Q (.ref x) H2) E) :
 wpAny (model X.prog X.w) X.A (call (.ref C) us) (EP X pins σ Q) X.xe s:=by
 have hq:=h (s.heap.objs.size+1) s.heap.objs.size (I.aA.fresh (Nat.le_succ _)) (I.aA.fresh (Nat.le_refl _)) (Nat.ne_of_lt (Nat.lt_succ_self _))
 have I2:=Inv.made (C:=C) I
 have r2:Vals (V.ref (s.heap.objs.size+1)::(vs++bN)) (Value.ref (s.heap.objs.size+1)::(us++ds)):=.cons rfl (r.append hd)
 have hl:(Value.ref (s.heap.objs.size+1)::us++ds).length=ps.length:=by
  have e:=r2.length
  rw[F.len _ _ _ _ hq] at e
  exact e.symm
 refine wpAny_call (Jk (f:=f) I.bI M.makes M.init (beq_iff_eq.mp M.fn) (codeAny_mono (F.run _ X.stack _ _ ⟨Value.ref (s.heap.objs.size+1)::us,[]⟩ (Value.ref (s.heap.objs.size+1)::(us++ds)) _ _ E (hr.make C us [])
  (I2.vB.make C us []) (hb _ (Value.ref (s.heap.objs.size+1)::us) I2.bI hl) r2 hq) fun r s' o8=>?_))
 cases r with
 | error e=>exact hx pins σ _ _ e s' I2 o8
 | ok fl =>
  cases fl with
  | ret u =>
   obtain⟨v,H',I3,rv,ev,q3⟩:=I2.after o8
   subst ev
   exact⟨rv,⟨V.ref (s.heap.objs.size+1),H',I3,rfl,q3⟩⟩
  | next=>exact False.elim o8
  | brk=>exact False.elim o8
  | cont=>exact False.elim o8
theorem jj(M:Mk X.K C f)(F:cc X.prog X.w X.K X.mg X.base CX k f fd ps sp)(hr:ba (k+1) X.A)(hg:Gl X x)(hm:X.mg x=some (.ref C))(hb:Binds X.K fd ps ds)(hd:Vals bN ds)(hx:Passes CX X E)
 (ha:PA X (e::es) t) (fq:(x == ("__debug__" : Str))=false:=by decide) (he:starEach (e::es) X.env=(false,eval e X.env)::starEach es X.env:=by rfl) (da:(backTo pos (starEach es X.env)).any (·.1)=false:=by rfl) :
 PE X (.Call (.Name x p) (e::es) [] pos) (B3 C sp bN E t):=by
 intro pins s σ H Q I h
 refine wpAny_Call_Name_kw (lr I hg hm ?_ fq)
 refine PySem.W.callWith_K (h₀:=X.base) I.ok.mod.kin M.kp (aC (ha pos pins s σ H _ I h) fun us s1 ⟨vs,H1,I1,r,q⟩=>⟨I1.bI,?_⟩) he da
 exact Jw M F hr hb hd hx I1 r q
end
section
variable{X:Cx}{CX:c9}{k:Nat}{f C:Addr}{fd:FuncData}{ps ks:List Str}{sp:Sp}{E:XK}{x m:Str}{p pos apos Vg:Pos}{e o:Expr}{es:List Expr}{Vh:List Keyword}{te ta:TE}{t tk:TA}{nm:Option Str}
variable{g:List Value->List Value->List Value}{gV:List V->List V->List V}
end
structure nc(N P:List Str)(sc:Scope):Prop where
 kind:sc.kind = .function
 co:sc.isCoroutine=false
 gen:sc.isGenerator=false
 nd:N.Nodup
 pre:N.take P.length=P
 par:∀ x∈P,sc.names.lookup x=some .local∨sc.names.lookup x=some .cell
 nofree:∀ y∈sc.names,y.2 ≠ .free
theorem B4{kindOf:Str->Option NameKind}{x:Str}:∀ {binds:List (Str × Value)} {m:Str->Option Value},(∀ v,(x,v)∉binds)->bindL kindOf binds m x=m x
 | [],_,_=>rfl
 | (n,v)::r,m,h=>by
  unfold bindL
  rw[B4 fun w hw=>h w (List.mem_cons_of_mem _ hw)]
  split
  ·have:x≠n:=by rintro rfl;exact h v List.mem_cons_self
   simp[this]
  ·rfl
theorem B5{kindOf:Str->Option NameKind}{x:Str}:∀ {binds:List (Str × Value)} {m:Str->Option Value},(∀ v,(x,v)∉binds)->bindC kindOf binds m x=m x
 | [],_,_=>rfl
 | (n,v)::r,m,h=>by
  unfold bindC
  rw[B5 fun w hw=>h w (List.mem_cons_of_mem _ hw)]
  split
  ·rfl
  ·have:x≠n:=by rintro rfl;exact h v List.mem_cons_self
   simp[this]
theorem B6{kindOf:Str->Option NameKind}{x:Str}{v:Value}:∀ {P:List Str} {vs:List Value} {i:Nat} {m:Str->Option Value},P.Nodup->P[i]?=some x->vs[i]?=some v->kindOf x=some .local ->
 bindL kindOf (P.zip vs) m x=some v
 | [],_,_,_,_,h,_,_=>by simp at h
 | _::_,[],_,_,_,_,h,_=>by simp at h
 | p::P,w::vs,0,m,nd,h1,h2,hk=>by
  simp at h1 h2;subst h1;subst h2
  show bindL kindOf ((p,w)::P.zip vs) m p=_
  unfold bindL
  rw[B4 fun v hv=>(List.nodup_cons.mp nd).1 (List.of_mem_zip hv).1,if_pos hk]
  simp
 | p::P,w::vs,i+1,m,nd,h1,h2,hk=>by
  show bindL kindOf ((p,w)::P.zip vs) m x=_
  unfold bindL
  exact B6 (i:=i) (List.nodup_cons.mp nd).2 (by simpa using h1) (by simpa using h2) hk
theorem B7{kindOf:Str->Option NameKind}{x:Str}{v:Value}:∀ {P:List Str} {vs:List Value} {i:Nat} {m:Str->Option Value},P.Nodup->P[i]?=some x->vs[i]?=some v->kindOf x≠some .local ->
 bindC kindOf (P.zip vs) m x=some v
 | [],_,_,_,_,h,_,_=>by simp at h
 | _::_,[],_,_,_,_,h,_=>by simp at h
 | p::P,w::vs,0,m,nd,h1,h2,hk=>by
  simp at h1 h2;subst h1;subst h2
  show bindC kindOf ((p,w)::P.zip vs) m p=_
  unfold bindC
  rw[B5 fun v hv=>(List.nodup_cons.mp nd).1 (List.of_mem_zip hv).1,if_neg hk]
  simp
 | p::P,w::vs,i+1,m,nd,h1,h2,hk=>by
  show bindC kindOf ((p,w)::P.zip vs) m x=_
  unfold bindC
  exact B7 (i:=i) (List.nodup_cons.mp nd).2 (by simpa using h1) (by simpa using h2) hk
noncomputable def start(N:List Str)(vs:List V):St:=vs.map some++List.replicate (N.length-vs.length) none
noncomputable def eE(CX:c9)(P:Program)(w:World)(K:PySem.W.Frag)(mg:Str->Option Value)(base:Heap)(N:List Str)(qual:Str)(scope:Scope)(f:Addr)(cd:Value)(A:Around)(outer:List Env)(s:Shared)(H:Hp)(E:XK):Cx where
 prog:=P
 w:=w
 K:=K
 mg:=mg
 base:=base
 A:=A.deeper (envOfC qual scope s.heap.objs.size f cd)
 N:=N
 s₀:=s
 H₀:=H
 env:=envOfC qual scope s.heap.objs.size f cd
 outer:=outer
 stack:=envOfC qual scope s.heap.objs.size f cd::outer
 ex:=[]
 calm:=true
 fn:=fun y=>true
 pn:=[]
 xe:=fun e s'=>wpAny (model P w) (A.deeper (envOfC qual scope s.heap.objs.size f cd)) (leaving (envOfC qual scope s.heap.objs.size f cd) e) (fun y vD=>CX outer H s E e vD) (fun e' vD=>CX outer H s E e' vD) s'
theorem B8{sc:Scope}{n:Nat}{x:Str}(h:sc.names.lookup x=some .cell):∃ c,(cellsFrom n sc.names []).lookup x=some c:=by
 have q:=PySem.W.cellsFrom_some sc.names n [] (.inl h)
 exact Option.isSome_iff_exists.mp q
theorem Jx{CX:c9}{P:Program}{w:World}{K:PySem.W.Frag}{mg:Str->Option Value}{base:Heap}{N ps:List Str}{qual:Str}{scope:Scope}{f:Addr}{cd:Value}{A:Around}{outer:List Env}{s s1:Shared}{H:Hp}{E:XK}{us:List Value}{vs:List V}
 (S:nc N ps scope) (hd:A.handled=none) (e0:lC P w K mg base A outer s H) (hl:vs.length=ps.length) (r:Vals vs us)
 (x:InCallC s s.heap.objs.size (bindL (envOfC qual scope s.heap.objs.size f cd).kindOf (ps.zip us) fun m=>none) (cellsFrom (s.heap.objs.size+1) scope.names []) (bindC (envOfC qual scope s.heap.objs.size f cd).kindOf (ps.zip us) fun m=>none) s1) :
 Inv (eE CX P w K mg base N qual scope f cd A outer s H E) [] (start N vs) H s1:=by
 have da:ps.length<=N.length:=by have:=congrArg List.length S.pre;rw[List.length_take] at this;omega
 obtain⟨h1,tk,rfl,hk⟩:=x.done
 have lD:∀ b:Addr,b∉(eE CX P w K mg base N qual scope f cd A outer s H E).ex:=fun b z=>absurd (show b∈([]:List Addr) from z) (by simp)
 refine⟨⟨e0.mod,S.kind,rfl,rfl,Nat.le_refl _,fun y z c h1 h2=>?_,fun y hy=>?_,fun y c m h=>?_,fun m=>hd,Around.frames_deeper e0.frames,.inr ⟨rfl,rfl⟩,fun b z=>absurd z (lD b),e0.bs,e0.bsz,fun b m m=>lD b,fun b z=>absurd z (lD b),e0.ff,e0.frf⟩,
  rfl,e0.bare,Un.kept hk,⟨_,x.toInCall.ns,fun i y v h1 h2 h3=>?_⟩,fun y c h=>⟨_,x.cell y c h⟩,e0.aA.fresh (Nat.le_refl _),fun y c h=>?_,fun p hp=>absurd (show p∈([]:List (Addr × Obj)) from hp) (by simp),e0.aA.kept hk,?_⟩
 ·exact name_of_addr x.apart (PySem.mem_of_lookup h1) (PySem.mem_of_lookup h2)
 ·have hy:scope.names.lookup y=some .cell∨scope.names.lookup y=some .free:=hy
  rcases hy with hy|hy
  ·exact B8 hy
  ·exact absurd rfl (S.nofree _ (PySem.mem_of_lookup hy))
 ·exact Nat.le_of_lt (x.above y c (PySem.mem_of_lookup h))
 ·have hi:i<vs.length:=by
   unfold start at h2
   by_cases hi:i<vs.length
   ·exact hi
   ·rw[List.getElem?_append_right (by simpa using hi)] at h2
    rw[List.getElem?_replicate] at h2
    split at h2<;>cases h2
  have ha:vs[i]?=some v:=by
   unfold start at h2
   rw[List.getElem?_append_left (by simpa using hi),List.getElem?_map] at h2
   cases e:vs[i]? with
   | none=>rw[e] at h2;cases h2
   | some a=>rw[e] at h2;cases h2;rfl
  obtain⟨u,hu,rv⟩:=r.get ha
  have hp:ps[i]?=some y:=by
   rw[<- S.pre,List.getElem?_take_of_lt (by omega)];exact h1
  have B9:ps.Nodup:=by rw[<- S.pre];exact S.nd.sublist (List.take_sublist _ _)
  refine⟨u,rv,?_⟩
  rcases S.par y (List.mem_of_getElem? hp) with k|k
  ·exact .inl ⟨k,B6 B9 hp hu k⟩
  ·obtain⟨c,e⟩:=B8 (n:=s.heap.objs.size+1) k
   refine .inr ⟨.inl k,c,e,?_⟩
   have q:=x.cell y c e
   rw[B7 B9 hp hu (by show scope.names.lookup y≠_;rw[k];decide)] at q
   exact q
 ·exact e0.aA.fresh (Nat.le_of_lt (x.above y c (PySem.mem_of_lookup h)))
 ·unfold start
  show _=N.length
  rw[List.length_append,List.length_map,List.length_replicate]
  omega
theorem vE{CX:c9}{P:Program}{w:World}{K:PySem.W.Frag}{mg:Str->Option Value}{base:Heap}{k:Nat}{f:Addr}{name qual:Str}{params:Arguments}{body:List Stmt}{scope:Scope}{dV kV doc pm bh ct oc:Value}{an od:Option Addr}
 {hW:Array (Option Value)} {N ps:List Str} {sp:Sp} (lk:K.lookup f=some ⟨oc,od,.func (PySem.W.fnOf name qual params body scope dV kV doc pm an bh ct),hW⟩) (fg:PySem.W.codeIn K bh qual=true) (S:nc N ps scope)
 (len:∀ vs H Q E,sp vs H Q E->vs.length=ps.length)
 (fu:∀ (A:Around) (outer:List Env) (s:Shared) (H:Hp) (vs:List V) (Q:VK) (E:XK),ba k (A.deeper (envOfC qual scope s.heap.objs.size f bh))->sp vs H Q E ->
   ∃ t,aS (eE CX P w K mg base N qual scope f bh A outer s H E) body t/\t { nx:=fun _ H'=>Q .non H',rt:=Q } (start N vs) H) :
 cc P w K mg base CX (k+1) f (PySem.W.fnOf name qual params body scope dV kV doc pm an bh ct) ps sp:=by
 refine⟨len,fun A outer s H args us vs Q E hr e0 hb r iI=>?_⟩
 have hl:=len _ _ _ _ iI
 have KX:K.In s.heap:=e0.mod.kin.keeps fun b o e=>(e0.bs b o e).1
 have lim:s.heap.NoLimit:=e0.mod.nolimit.keeps fun b o e=>(e0.bs b o e).1
 have Jy:∀ y∈ps.zip us,scope.names.lookup y.1=some .local∨(scope.names.lookup y.1=some .cell/\((cellsFrom (s.heap.objs.size+1) scope.names []).lookup y.1).isSome=true):=fun ⟨n,v⟩ hy=>by
  rcases S.par n (List.of_mem_zip hy).1 with q|q
  ·exact .inl q
  ·exact .inr ⟨q,PySem.W.cellsFrom_some _ _ _ (.inl q)⟩
 refine codeAny_call_function hr.depth (KX _ _ lk) rfl S.co S.gen rfl (PySem.W.codeRec_of KX fg) (hb _ _ _ _ ?_)
 refine wpAny_newFunctionEnv_cells S.kind Jy fun env he s1 x=>?_
 subst he
 refine⟨lim.keeps x.toInCall.keep,codeAny_func ?_⟩
 obtain⟨t,ht,hq⟩:=fu A outer s H vs Q E (hr.deeper _) iI
 have I:Inv (eE CX P w K mg base N qual scope f bh A outer s H E) [] (start N vs) H s1:=Jx S hr.hd e0 hl r x
 refine wpAny_mono (ht [] s1 (start N vs) H _ I hq) (fun fl s' hs=>?_) fun e s' hs=>hs
 have fin:∀ {σ':St} {H':Hp} {v:V} {u:Value},Inv (eE CX P w K mg base N qual scope f bh A outer s H E) [] σ' H' s'->RelV v u->Q v H'->CE outer P w H s Q u s' :=
  fun {σ' H' v u} J rv q=>⟨v,H',J.os,J.bare,J.base,J.aA,rv,q⟩
 cases fl with
 | ret u =>
  obtain⟨v,σ',H',J,rv,q⟩:=hs
  exact fin J rv q
 | next =>
  obtain⟨σ',H',J,q⟩:=hs
  exact fin (v:=V.non) (u:=Value.none) J rfl q
 | brk =>
  obtain⟨_,_,_,q⟩:=hs
  exact False.elim q
 | cont =>
  obtain⟨_,_,_,q⟩:=hs
  exact False.elim q
end L2
namespace L2
open PySem PySem.Spec PyProof.Rows
section
variable{X:Cx}{x:Str}{p pos:Pos}{e:Expr}{es:List Expr}{t:TA}{id T:String}{r:List V->Hp->VK->Prop}
def vF(r:List V->Hp->VK->Prop)(t:TA):TE:=fun σ H Q=>t σ H fun vs H1=>r vs H1 Q
theorem bj(hc:eL X (.builtin id) r)(hg:Gl X x)(hm:X.mg x=none)(hv:bootBuiltins x=some (.builtin id))(ha:PA X (e::es) t)(hn:x ≠ "__name__" := by decide)(fq:(x == ("__debug__" : Str))=false:=by decide)
 (he:starEach (e::es) X.env=(false,eval e X.env)::starEach es X.env:=by rfl) (da:(backTo pos (starEach es X.env)).any (·.1)=false:=by rfl):PE X (.Call (.Name x p) (e::es) [] pos) (vF r t):=by
 intro pins s σ H Q I h
 refine wpAny_Call_Name_kw (mX I hg hm hv ?_ hn fq)
 exact PyProof.Rows.callWith_builtin1 (aC (ha pos pins s σ H _ I h) fun us s1 ⟨vs,H1,I1,r1,q1⟩=>hc pins s1 σ H1 vs us Q I1 r1 q1) he da
theorem j3(hc:eL X (.type T) r)(hg:Gl X x)(hm:X.mg x=none)(hv:bootBuiltins x=some (.type T))(ha:PA X (e::es) t)(hn:x ≠ "__name__" := by decide)(fq:(x == ("__debug__" : Str))=false:=by decide)
 (he:starEach (e::es) X.env=(false,eval e X.env)::starEach es X.env:=by rfl) (da:(backTo pos (starEach es X.env)).any (·.1)=false:=by rfl):PE X (.Call (.Name x p) (e::es) [] pos) (vF r t):=by
 intro pins s σ H Q I h
 refine wpAny_Call_Name_kw (mX I hg hm hv ?_ hn fq)
 exact PyProof.Rows.callWith_type1 (aC (ha pos pins s σ H _ I h) fun us s1 ⟨vs,H1,I1,r1,q1⟩=>hc pins s1 σ H1 vs us Q I1 r1 q1) he da
end
end L2
namespace HT
open PySem PyProof.Rows
noncomputable def lexLt:List Int->List Int->Bool
 | [],[]=>false
 | [],_::_=>true
 | _::_,[]=>false
 | x::xs,y::ys=>if x=y then lexLt xs ys else decide (x<y)
section
open PySem.SeqAt
open PySem.AutoSeq1 (wpAny_loadPart')
open PySem.MeetsSeq PySem.MeetsSeq2 PySem.MeetsSeq3
end
section
variable{prog:Program}{w:World}{A:Around}{E:Value->Shared->Prop}{s:Shared}
theorem Jz{t b:Addr}{vs ws:List Value}{Q:Value->Shared->Prop}(ht:IsTup s.heap t vs.toArray)(hb:IsTup s.heap b ws.toArray)(hv:vs≠[])
 (h1:ws=[]->Q (.ref t) s) (h2:ws≠[]->Q (.ref s.heap.objs.size) { s with heap:=s.heap.push { cls:=.type "tuple",data:=.seq (vs++ws).toArray } })
 (hsz:vs.length+ws.length<=sizeLine):wpAny (model prog w) A (binaryOp .Add (.ref t) (.ref b)) Q E s:=by
 obtain⟨⟨cls,dd,data,sl⟩,ho,hc,n,hd⟩:=id ht
 obtain⟨⟨Vi,Ca,data2,Cb⟩,iJ,ng,n2,hd2⟩:=id hb
 simp only at hc hd ng hd2
 subst hc hd ng hd2
 have e:vs.toArray++ws.toArray=(vs++ws).toArray:=by simp
 by_cases hw:ws=[]
 ·exact concat_meets ⟨_,ho,rfl⟩ ⟨_,iJ,rfl⟩ noFill_tuple_add seq_tuple_add PySem.F.slot_tuple_add PySem.F.entry_tuple_add (PySem.F.args_tuple_add_2 _ _)
   (tuple_addW1 t b vs.toArray ws.toArray n n2 dd Ca sl Cb (by simpa using hv) (by simp[hw])) ⟨ho,iJ,h1 hw⟩
 ·refine concat_meets ⟨_,ho,rfl⟩ ⟨_,iJ,rfl⟩ noFill_tuple_add seq_tuple_add PySem.F.slot_tuple_add PySem.F.entry_tuple_add (PySem.F.args_tuple_add_2 _ _)
   (tuple_addW2 t b vs.toArray ws.toArray n n2 dd Ca sl Cb (by simpa using hv) (by simpa using hw) (by rw[List.size_toArray,List.size_toArray];exact hsz)) ⟨ho,iJ,?_⟩
  rw[e]
  exact h2 hw
noncomputable def bb(n d:Nat):Option Int->Nat
 | none=>d
 | some v=>if v<0 then (v+(n:Int)).toNat else min v.toNat n
theorem vG(n d:Nat):bb n d none=d:=rfl
theorem sA(n d k:Nat):bb n d (some (k:Int))=min k n:=by
 show (if (k:Int)<0 then ((k:Int)+(n:Int)).toNat else min (k:Int).toNat n)=min k n
 rw[if_neg (by omega),Int.toNat_natCast]
theorem JA(n d:Nat)(hd:d<=n)(o:Option Int):bb n d o<=n:=by
 cases o with
 | none=>exact hd
 | some v =>
  show (if v<0 then (v+(n:Int)).toNat else min v.toNat n)<=n
  by_cases hv:v<0
  ·rw[if_pos hv];omega
  ·rw[if_neg hv];exact Nat.min_le_right _ _
theorem Cc(v:Int)(n d:Nat):(if v<0 then max (v+(n:Int)) 0 else min v (n:Int))=((bb n d (some v):Nat):Int):=by
 show (if v<0 then max (v+(n:Int)) 0 else min v (n:Int))=(((if v<0 then (v+(n:Int)).toNat else min v.toNat n):Nat):Int)
 by_cases hv:v<0
 ·simp only[if_pos hv];omega
 ·simp only[if_neg hv];omega
theorem JB(lo hi:Option Int)(n:Nat):Builtin.Slice.sliceAdjust lo hi 1 (n:Int)=(((bb n 0 lo:Nat):Int),((bb n n hi:Nat):Int)):=by
 have h1:¬ ((1:Int)<0):=by omega
 unfold Builtin.Slice.sliceAdjust
 simp only[h1,if_false]
 refine Prod.ext ?_ ?_
 ·cases lo with
  | none=>rfl
  | some v=>exact Cc v n 0
 ·cases hi with
  | none=>rfl
  | some v=>exact Cc v n n
theorem JC(i j:Nat):Builtin.Slice.slicePlaces (i:Int) (j:Int) 1=j-i:=by
 unfold Builtin.Slice.slicePlaces
 have h1:(1:Int) > 0:=by omega
 simp only[h1,if_true,Int.ediv_one]
 split<;>omega
theorem Cd{v:Value}{o:Option Int}{Q:Option Int->Shared->Prop}(p:IsPart v o)(h:Q o s):wpAny (model prog w) A (Builtin.Slice.slicePartIndex v) Q E s:=by
 cases p with
 | none=>exact slicePart_none h
 | int i t=>exact slicePart_int h
theorem JD{sl:Addr}{vl vu:Value}{lo hi:Option Int}{n:Nat}{Q:Int × Int × Nat->Shared->Prop}(hs:s.heap.IsSliceOf sl vl vu .none)(pl:IsPart vl lo)(pu:IsPart vu hi)
 (h:Q (((bb n 0 lo:Nat):Int),1,bb n n hi-bb n 0 lo) s):wpAny (model prog w) A (Builtin.Slice.sliceApplied (.ref sl) (pure (n:Int))) Q E s:=by
 obtain⟨os,jk,sC,hds⟩:=id hs
 unfold Builtin.Slice.sliceApplied Builtin.Slice.sliceFields
 refine wpAny_bind (wpAny_bind (wpAny_field jk hds (x:=vl) rfl (wpAny_bind (wpAny_field jk hds (x:=vu) rfl (wpAny_bind (wpAny_field jk hds (x:=.none) rfl (wpAny_pure ?_)))))))
 refine wpAny_bind (slicePart_none ?_)
 show wpAny _ _ (if ((1:Int) == 0)=true then _ else _) _ _ s
 rw[if_neg (by decide)]
 refine wpAny_bind (Cd pl (wpAny_bind (Cd pu (wpAny_bind (wpAny_pure ?_)))))
 show wpAny _ _ (match Builtin.Slice.sliceAdjust lo hi 1 (n:Int) with|(lo,hi)=>pure (lo,(1:Int),Builtin.Slice.slicePlaces lo hi 1)) _ _ s
 rw[JB lo hi n]
 show wpAny _ _ (pure (((bb n 0 lo:Nat):Int),(1:Int),Builtin.Slice.slicePlaces ((bb n 0 lo:Nat):Int) ((bb n n hi:Nat):Int) 1)) _ _ s
 rw[JC]
 exact wpAny_pure h
theorem JE(xs:Array Value)(i k:Nat):((List.range k).filterMap fun (m:Nat)=>xs[((i:Int)+(m:Int) * 1).toNat]?).toArray=((xs.toList.drop i).take k).toArray:=by
 have e:(fun (m:Nat)=>xs[((i:Int)+(m:Int) * 1).toNat]?)=fun m=>xs[i+m]?:=by
  funext m
  have:((i:Int)+(m:Int) * 1).toNat=i+m:=by omega
  rw[this]
 rw[e]
 have:=pick_run xs i k
 rw[List.filterMap_map] at this
 have e2:((fun x=>xs[x]?) ∘ fun x=>i+x)=fun m=>xs[i+m]?:=rfl
 rw[e2] at this
 rw[this]
theorem JF{t sl:Addr}{items:Array Value}{vl vu:Value}{lo hi:Option Int}{Q:Value->Shared->Prop}(ht:IsTup s.heap t items)(hs:s.heap.IsSliceOf sl vl vu .none)(pl:IsPart vl lo)(pu:IsPart vu hi)
 (hw:¬ (bb items.size 0 lo=0/\bb items.size items.size hi=items.size))
 (h:Q (.ref s.heap.objs.size) { s with heap:=s.heap.push { cls:=.type "tuple",data:=.seq ((items.toList.drop (bb items.size 0 lo)).take (bb items.size items.size hi-bb items.size 0 lo)).toArray } })
 (hsz:items.size<=sizeLine):wpAny (model prog w) A (getItem (.ref t) (.ref sl)) Q E s:=by
 have sD:sizeOk (.seq ((items.toList.drop (bb items.size 0 lo)).take (bb items.size items.size hi-bb items.size 0 lo)).toArray):=by
  show ((items.toList.drop (bb items.size 0 lo)).take (bb items.size items.size hi-bb items.size 0 lo)).toArray.size<=sizeLine
  rw[List.size_toArray,List.length_take,List.length_drop,Array.length_toList]
  omega
 have hj:bb items.size items.size hi<=items.size:=JA _ _ (Nat.le_refl _) hi
 obtain⟨os,jk,sC,hds⟩:=id hs
 have JG:s.TypeIs (.ref sl) "slice" := ⟨os,jk,sC⟩
 unfold getItem
 try with_reducible refine wpAny_holding ?_
 first|refine wpAny_bind (wpAny_pure ?_)|skip
 refine wpAny_bind (wpAny_sequenceKey ht.typeIs (by decide) ?_)
 refine wpAny_bind (wpAny_callSpecial?_slot (name:=Str.ofString "__getitem__") ht.typeIs PyProof.Rows.slot_tuple_getitem
  (wpAny_call_entry PyProof.Rows.slot_tuple_getitem ht.typeIs entry_tuple_getitem ?_ (args_tuple_getitem _ _)))
 show wpAny _ _ (Builtin.Tuple.tupleItemsOf (.ref t) >>= _) _ _ s
 refine wpAny_bind (tupleItemsOf_ ht ?_)
 refine wpAny_bind (wpAny_typeOf JG ?_)
 rw[if_pos (by decide)]
 refine wpAny_bind (JD hs pl pu ?_)
 have cL:¬ ((((bb items.size 0 lo:Nat):Int) == 0 && (1:Int) == 1 && (bb items.size items.size hi-bb items.size 0 lo) == items.size)=true):=by
  intro q
  rw[Bool.and_eq_true,Bool.and_eq_true] at q
  have q1:((bb items.size 0 lo:Nat):Int)=0:=eq_of_beq q.1.1
  have q2:bb items.size items.size hi-bb items.size 0 lo=items.size:=eq_of_beq q.2
  exact hw ⟨by omega,by omega⟩
 show wpAny _ _ (if (((bb items.size 0 lo:Nat):Int) == 0 && (1:Int) == 1 && (bb items.size items.size hi-bb items.size 0 lo) == items.size)=true then _ else _) _ _ s
 rw[if_neg cL,JE]
 first
  | exact wpAny_bind (m:=Builtin.Tuple.tupleExact _) (wpAny_newObj_type (wpAny_pure ⟨_,rfl,wpAny_pure h⟩) sD)
  | exact wpAny_bind (m:=Builtin.Tuple.tupleExact _) (wpAny_newObj_type (wpAny_bind (wpAny_pure (wpAny_pure ⟨_,rfl,wpAny_pure h⟩))) sD)
  | exact wpAny_bind (wpAny_bind (m:=Builtin.Tuple.tupleExact _) (wpAny_newObj_type (wpAny_pure (wpAny_pure ⟨_,rfl,wpAny_pure h⟩)) sD))
  | exact wpAny_bind (wpAny_bind (m:=Builtin.Tuple.tupleExact _) (wpAny_newObj_type (wpAny_pure ⟨_,rfl,wpAny_pure h⟩) sD))
end
end HT
namespace L2
open PySem PySem.Spec PyProof.Rows
abbrev TO:=St->Hp->(Option Int->Hp->Prop)->Prop
def PO(X:Cx)(e:Option Expr)(t:TO):Prop :=
 ∀ (pins:List (Addr × Obj)) (s:Shared) (σ:St) (H:Hp) (Q:Option Int->Hp->Prop),Inv X pins σ H s->t σ H Q ->
  wpAny (model X.prog X.w) X.A (evalPart e X.env) (fun u s'=>∃ o H',Inv X pins σ H' s'/\IsPart u o/\Q o H') X.xe s
noncomputable def Ce:TO:=fun y H Q=>Q none H
noncomputable def Cf(t:TE):TO:=fun σ H Q=>t σ H fun x H1=>∃ i,x = .int i/\Q (some i) H1
section
variable{X:Cx}{e:Expr}{te:TE}{lo hi:Option Expr}{tl th:TO}{pos p2:Pos}
theorem de:PO X none Ce:=by
 intro pins s σ H Q I h
 rw[evalPart_none]
 exact wpAny_pure ⟨none,H,I,.none,h⟩
theorem cy(h:PE X e te):PO X (some e) (Cf te):=by
 intro pins s σ H Q I hw
 rw[evalPart_some]
 refine aC (h pins s σ H _ I hw) fun u s1 ⟨x,H1,I1,r1,q1⟩=>?_
 obtain⟨i,rfl,q⟩:=q1
 obtain⟨t,rfl⟩:=r1
 exact⟨some i,H1,I1,.int i t,q⟩
def o9(X:Cx)(r:V->Option Int->Option Int->Hp->VK->Prop):Prop :=
 ∀ (pins:List (Addr × Obj)) (s:Shared) (σ:St) (H:Hp) (x:V) (v vl vu:Value) (lo hi:Option Int) (sl:Addr) (Q:VK),Inv X pins σ H s->RelV x v->s.heap.IsSliceOf sl vl vu .none->IsPart vl lo->IsPart vu hi->r x lo hi H Q ->
  ∃ T id,typeLookup (.type T) "__getitem__" = pure (some (.builtin id))/\s.TypeIs v T/\wpAny (model X.prog X.w) X.A (getItem v (.ref sl)) (EP X pins σ Q) X.xe s
def Cg(r:V->Option Int->Option Int->Hp->VK->Prop)(te:TE)(tl th:TO):TE:=fun σ H Q=>te σ H fun x H1=>tl σ H1 fun l H2=>th σ H2 fun u H3=>r x l u H3 Q
theorem cM{r:V->Option Int->Option Int->Hp->VK->Prop}(hr:o9 X r)(he:PE X e te)(hl:PO X lo tl)(hu:PO X hi th):PE X (.Subscript e (.Slice lo hi none p2) pos) (Cg r te tl th):=by
 intro pins s σ H Q I h
 refine Subscript_ (aC (he pins s σ H _ I h) fun v s1 ⟨x,H1,I1,r1,q1⟩=>?_)
 refine wpAny_Slice (aC (hl pins s1 σ H1 _ I1 q1) fun vl s2 ⟨l,H2,I2,pl,q2⟩=>aC (hu pins s2 σ H2 _ I2 q2) fun vu s3 ⟨u,H3,I3,pu,q3⟩=>?_)
 rw[evalPart_none]
 refine wpAny_pure ?_
 have I4:Inv X pins σ H3 { s3 with heap:=s3.heap.push { cls:=.type "slice",data:=.fields #[vl,vu,.none] } }:=I3.kept (t':=s3.toks) fun b ob q=>Heap.get?_push_of_some _ q
 obtain⟨T,id,hT,ht,hg⟩:=hr pins { s3 with heap:=s3.heap.push { cls:=.type "slice",data:=.fields #[vl,vu,.none] } } σ H3 x v vl vu l u s3.heap.objs.size Q I4 r1 (Heap.IsSliceOf.new ..) pl pu q3
 show wpAny (model X.prog X.w) X.A (subscriptTail e (.Slice lo hi none p2) v (.ref s3.heap.objs.size)) (EP X pins σ Q) X.xe { s3 with heap:=s3.heap.push { cls:=.type "slice",data:=.fields #[vl,vu,.none] } }
 exact tail_any (ops:=[.ref s3.heap.objs.size,v]) ht hT hg (by with_unfolding_all rfl)
noncomputable def eF(xs:List V)(lo hi:Option Int):List V:=(xs.drop (HT.bb xs.length 0 lo)).take (HT.bb xs.length xs.length hi-HT.bb xs.length 0 lo)
theorem Ci(xs:List V)(lo hi:Option Int):(eF xs lo hi).length<=xs.length:=by
 unfold eF
 rw[List.length_take,List.length_drop]
 omega
def JH(K:PySem.W.Frag):V->Option Int->Option Int->Hp->VK->Prop:=fun x lo hi H Q=>∃ a xs,x = .ref a/\aB K H a xs /\
 ¬ (HT.bb xs.length 0 lo=0/\HT.bb xs.length xs.length hi=xs.length)/\∀ p,H p=none->Q (.ref p) (upd H p (.tup (eF xs lo hi)))
theorem JI:o9 X (JH X.K):=by
 intro pins s σ H x v vl vu lo hi sl Q I rx hs pl pu h
 obtain⟨a,xs,rfl,hx,hw,q⟩:=h
 cases rx
 obtain⟨av,r,ht,hz⟩:=I.tuple hx
 have hlen:av.toArray.size=xs.length:=by rw[List.size_toArray];exact r.length.symm
 refine⟨"tuple",_,PyProof.Rows.slot_tuple_getitem.lookup,ht.typeIs,?_⟩
 refine HT.JF ht hs pl pu (by rw[hlen];exact hw) ?_ (by rw[hlen];exact hz)
 rw[hlen]
 refine⟨.ref s.heap.objs.size,_,I.laid (t':=s.toks) (o:=.tup (eF xs lo hi)) (fun b ob q=>Heap.get?_push_of_some _ q) (Nat.le_refl _) ?_,rfl,q _ (I.aA.fresh (Nat.le_refl _))⟩
 exact⟨Nat.le_trans (Ci xs lo hi) hz,_,(r.drop (HT.bb xs.length 0 lo)).take (HT.bb xs.length xs.length hi-HT.bb xs.length 0 lo),IsTup.new _ _⟩
def JJ(K:PySem.W.Frag):R2:=fun x y H Q=>∃ a b xs ys,x = .ref a/\y = .ref b/\aB K H a xs/\aB K H b ys/\xs≠[]/\xs.length+ys.length<=sizeLine /\
 (ys=[]->Q (.ref a) H)/\(ys≠[]->∀ p,H p=none->Q (.ref p) (upd H p (.tup (xs++ys))))
theorem Vals.vH{xs:List V}{us:List Value}(r:Vals xs us):us=[]↔xs=[]:=by
 cases r with
 | nil=>simp
 | cons _ _=>simp
theorem JK:bf X (binaryOp .Add) (JJ X.K):=by
 intro pins s σ H x y v u Q I rx ry h
 obtain⟨a,b,xs,ys,rfl,rfl,ha,hb,hx,hz,q1,q2⟩:=h
 cases rx
 cases ry
 obtain⟨av,r1,p1,c⟩:=I.tuple ha
 obtain⟨j4,r2,p2,c⟩:=I.tuple hb
 refine HT.Jz p1 p2 (fun z=>hx (r1.vH.mp z)) (fun z=>⟨.ref a,H,I,rfl,q1 (r2.vH.mp z)⟩) (fun z=>?_) (by rw[<- r1.length,<- r2.length];exact hz)
 refine⟨.ref s.heap.objs.size,_,I.laid (t':=s.toks) (o:=.tup (xs++ys)) (fun b ob q=>Heap.get?_push_of_some _ q) (Nat.le_refl _) ?_,rfl,q2 (fun w=>z (r2.vH.mpr w)) _ (I.aA.fresh (Nat.le_refl _))⟩
 exact⟨by rw[List.length_append];exact hz,_,r1.append r2,IsTup.new _ _⟩
end
end L2
namespace L2
open PySem PySem.Spec PyProof.Rows
noncomputable def fU(n:Nat)(i:Int):Option Nat:=if 0<=i then (if i<n then some i.toNat else none) else if -(n:Int)<=i then some (i+n).toNat else none
noncomputable def cD{α:Type}(xs:List α)(i:Int):Option α:=(fU xs.length i).bind fun j=>xs[j]?
theorem Cj{n:Nat}{i:Int}{j:Nat}(h:fU n i=some j):seqIndex? i n=some j/\j<n/\-(n:Int)<=i/\i<n:=by
 unfold fU at h
 by_cases h0:0<=i
 ·rw[if_pos h0] at h
  by_cases h1:i<n
  ·rw[if_pos h1] at h
   have e:i.toNat=j:=Option.some.inj h
   exact⟨by rw[seqIndex_of h0 h1,e],by omega,by omega,h1⟩
  ·rw[if_neg h1] at h;cases h
 ·rw[if_neg h0] at h
  by_cases h1 : -(n:Int)<=i
  ·rw[if_pos h1] at h
   have e:(i+n).toNat=j:=Option.some.inj h
   exact⟨by rw[seqIndex_neg (by omega) h1,e],by omega,h1,by omega⟩
  ·rw[if_neg h1] at h;cases h
theorem vI{α:Type}{xs:List α}{i:Int}{v:α}(h:cD xs i=some v):∃ j,seqIndex? i xs.length=some j/\xs[j]?=some v/\j<xs.length/\-(xs.length:Int)<=i/\i<xs.length:=by
 unfold cD at h
 cases e:fU xs.length i with
 | none=>rw[e] at h;cases h
 | some j =>
  rw[e] at h
  obtain⟨h1,h2,h3,h4⟩:=Cj e
  exact⟨j,h1,h,h2,h3,h4⟩
theorem j5{α:Type}{xs:List α}{j:Nat}{v:α}(h:xs[j]?=some v):cD xs (j:Int)=some v:=by
 have hj:j<xs.length:=(List.getElem?_eq_some_iff.mp h).1
 have e:fU xs.length (j:Int)=some j:=by
  unfold fU
  rw[if_pos (by omega),if_pos (by omega)];simp
 unfold cD;rw[e];exact h
def vJ(b:Expr):Prop:=∀ o i,subscripted b false o i=operate [o,i] (getItem o i)
def iK(X:Cx)(r:R2):Prop :=
 ∀ (value slice:Expr) (pins:List (Addr × Obj)) (s:Shared) (σ:St) (H:Hp) (x y:V) (v u:Value) (Q:VK),Inv X pins σ H s->RelV x v->RelV y u->r x y H Q ->
  subscripted slice false v u=operate [v,u] (getItem v u)->wpAny (model X.prog X.w) X.A (subscriptTail value slice v u) (EP X pins σ Q) X.xe s
def nh(X:Cx)(id:String)(r:V->List V->Hp->VK->Prop):Prop :=
 ∀ (pins:List (Addr × Obj)) (s:Shared) (σ:St) (H:Hp) (x:V) (xs:List V) (v:Value) (us:List Value) (Q:VK),Inv X pins σ H s->RelV x v->Vals xs us->r x xs H Q ->
  wpAny (model X.prog X.w) X.A (call (.builtin id) (v::us)) (EP X pins σ Q) X.xe s
section
variable{X:Cx}{a b:Expr}{ta tb:TE}{pos:Pos}
theorem iK.or{r r':R2}(h:iK X r)(h':iK X r'):iK X (fun x y H Q=>r x y H Q∨r' x y H Q):=by
 intro value slice pins s σ H x y v u Q I rx ry q hs
 rcases q with q|q
 ·exact h value slice pins s σ H x y v u Q I rx ry q hs
 ·exact h' value slice pins s σ H x y v u Q I rx ry q hs
theorem Ck{r:R2}(hr:iK X r)(ha:PE X a ta)(hb:PE X b tb)(hs:vJ b):PE X (.Subscript a b pos) (jW r ta tb):=by
 intro pins s σ H Q I h
 exact Subscript_ (rZ ha hb I h fun v u s2 x y H2 I2 rx ry q=>hr a b pins s2 σ H2 x y v u Q I2 rx ry q (hs _ _))
def Cm(K:PySem.W.Frag):R2:=fun x y H Q=>∃ p xs i v,x = .ref p/\y = .int i/\ar K H p xs/\cD xs i=some v/\Q v H
def Cn(K:PySem.W.Frag):R2:=fun x y H Q=>∃ p xs i v,x = .ref p/\y = .int i/\aB K H p xs/\cD xs i=some v/\Q v H
def Co:R2:=fun x y H Q=>∃ z i c,x = .str z/\y = .int i/\z.length<=sizeLine/\cD z.cps.toList i=some c/\Q (.str ⟨#[c]⟩) H
theorem JL:iK X (Cm X.K):=by
 intro value slice pins s σ H x y v u Q I rx ry h hs
 obtain⟨p,xs,i,z,rfl,rfl,hq,he,q⟩:=h
 cases rx
 obtain⟨t,rfl⟩:=ry
 obtain⟨av,r,pl,hz⟩:=I.list hq
 obtain⟨j,h1,h2,h3,h4,h5⟩:=vI he
 obtain⟨w,ew,hZ⟩:=r.get h2
 have hl:=r.length
 have hn:=o4
 have fin:EP X pins σ Q w s:=⟨z,H,I,hZ,q⟩
 by_cases h0:0<=i
 ·have hj:i.toNat=j:=by
   rw[seqIndex_of h0 h5] at h1
   exact Option.some.inj h1
  exact item_listR pl.isList h0 (by omega) (by rw[hj];simpa using ew) fin hs
 ·have hj:(i+(av.toArray.size:Int)).toNat=j:=by
   rw[seqIndex_neg (by omega) h4] at h1
   rw[List.size_toArray,<- hl]
   exact Option.some.inj h1
  exact subscriptTail_builtinR (x:=w) pl.isList.typeIs slot_list_getitem.lookup
   (wpAny_getItem_list_neg (Q:=fun r s'=>r=w/\EP X pins σ Q r s') pl.isList (by omega) (by rw[List.size_toArray]<;>omega) (by omega) (by rw[hj];simpa using ew) ⟨rfl,fin⟩) hs
theorem JM:iK X (Cn X.K):=by
 intro value slice pins s σ H x y v u Q I rx ry h hs
 obtain⟨p,xs,i,z,rfl,rfl,hq,he,q⟩:=h
 cases rx
 obtain⟨t,rfl⟩:=ry
 obtain⟨av,r,pl,hz⟩:=I.tuple hq
 obtain⟨j,h1,h2,h3,h4,h5⟩:=vI he
 obtain⟨w,ew,hZ⟩:=r.get h2
 have hl:=r.length
 have hn:=o4
 have fin:EP X pins σ Q w s:=⟨z,H,I,hZ,q⟩
 exact subscriptTail_builtinR (x:=w) pl.typeIs slot_tuple_getitem.lookup
  (getItem_tuple (j:=j) (Q:=fun r s'=>r=w/\EP X pins σ Q r s') pl (by omega) (by omega) (by rw[List.size_toArray,<- hl];exact h1) (by simpa using ew) ⟨rfl,fin⟩) hs
theorem JN:iK X Co:=by
 intro value slice pins s σ H x y v u Q I rx ry h hs
 obtain⟨z,i,c,rfl,rfl,hz,he,q⟩:=h
 obtain⟨t,rfl⟩:=rx
 obtain⟨t',rfl⟩:=ry
 obtain⟨j,h1,h2,h3,h4,h5⟩:=vI he
 have hl:z.cps.toList.length=z.length:=by simp[Str.length]
 rw[hl] at h1 h4 h5
 have hn:=o4
 exact tail_any (typeIs_str s z t) slot_str_getitem.lookup (getItem_str (c:=c) (by
  have e1:decide (i < -(2 ^ 63:Int))=false:=decide_eq_false (by omega)
  have e2:decide (i ≥ 2 ^ 63)=false:=decide_eq_false (by omega)
  rw[e1,e2,Bool.or_false]) (by rw[h1];simpa using h2) ⟨.str ⟨#[c]⟩,H,I.tok _,⟨_,rfl⟩,q⟩) hs
def lE(K:PySem.W.Frag):R2:=fun x y H Q=>Cm K x y H Q∨Cn K x y H Q∨Co x y H Q
theorem Cp:iK X (lE X.K):=JL.or (JM.or JN)
theorem JO(av:List Value)(n j:Nat)(u:Value):Obj.mapSeq (·.setIfInBounds j u) { cls:=.type "list",data:=.seq av.toArray n } = { cls:=.type "list",data:=.seq (av.set j u).toArray n }:=by
 simp[Obj.mapSeq]
theorem Inv.lst{pins:List (Addr × Obj)}{σ:St}{H:Hp}{s:Shared}{p:Addr}{xs:List V}(I:Inv X pins σ H s)(h:H p=some (.lst xs)) :
 ∃ (av:List Value) (n:Nat),Vals xs av/\s.heap.get? p=some { cls:=.type "list",data:=.seq av.toArray n }/\xs.length<=sizeLine:=by
 obtain⟨z,av,n,r,e⟩:=I.aA p _ h
 exact⟨av,n,r,e,z⟩
theorem Inv.JP{pins:List (Addr × Obj)}{σ:St}{H:Hp}{s:Shared}{p:Addr}{xs ys:List V}{av its':List Value}{n n':Nat}{f:Obj->Obj}(I:Inv X pins σ H s)(h:H p=some (.lst xs))
 (ho:s.heap.get? p=some { cls:=.type "list",data:=.seq av.toArray n }) (hf:f { cls:=.type "list",data:=.seq av.toArray n } = { cls:=.type "list",data:=.seq its'.toArray n' }) (r:Vals ys its') (hz:ys.length<=sizeLine) (t:Nat) :
 Inv X pins σ (upd H p (.lst ys)) { s with heap:=s.heap.update p f,toks:=t }:=by
 have e:(s.heap.update p f).get? p=some { cls:=.type "list",data:=.seq its'.toArray n' }:=by
  rw[Heap.get?_update_self f ho (by rw[hf]<;>rfl),hf]
 refine I.write (x:=p) (e:=p) (by rw[h];trivial) (.inl rfl) (fun b u hb q=>(Heap.get?_update_other _ _ (Ne.symm hb)).trans q) ⟨_,e⟩ ?_
 exact⟨hz,its',n',r,e⟩
def Cq:V->V->V->Hp->(Hp->Prop)->Prop:=fun o i v H Q=>∃ p xs k j,o = .ref p/\i = .int k/\H p=some (.lst xs)/\fU xs.length k=some j/\Q (upd H p (.lst (xs.set j v)))
theorem set_list:BD X Cq:=by
 intro pins s σ H o i v ov iv u Q I ro ri rv h
 obtain⟨p,xs,k,j,rfl,rfl,hp,hj,q⟩:=h
 cases ro
 obtain⟨t,rfl⟩:=ri
 obtain⟨av,n,r,ho,hz⟩:=I.lst hp
 obtain⟨h1,h2,h3,h4⟩:=Cj hj
 have hl:=r.length
 have hn:=o4
 have I':Inv X pins σ (upd H p (.lst (xs.set j v))) { s with heap:=s.heap.update p (Obj.mapSeq (·.setIfInBounds j u)) } :=
  I.JP hp ho (JO av n j u) (r.set rv j) (by rw[List.length_set];exact hz) s.toks
 by_cases h0:0<=k
 ·have hk:k.toNat=j:=by
   rw[seqIndex_of h0 h4] at h1
   exact Option.some.inj h1
  exact PySem.W.ki_setAt ho h0 (by omega) (by rw[List.size_toArray,<- hl];exact h4) (by rw[hk];exact⟨_,I',q⟩)
 ·have hk:(k+(av.toArray.size:Int)).toNat=j:=by
   rw[seqIndex_neg (by omega) h3] at h1
   rw[List.size_toArray,<- hl]
   exact Option.some.inj h1
  exact PySem.W.ki_setBack ho (by omega) (by rw[List.size_toArray,<- hl];exact h3) (by omega) (by rw[hk];exact⟨_,I',q⟩)
theorem JQ(lo hi:Option Int)(n:Nat):(sliceBounds lo hi none n).1=((HT.bb n 0 lo:Nat):Int)/\(sliceBounds lo hi none n).2.1=((HT.bb n n hi:Nat):Int)/\(sliceBounds lo hi none n).2.2=1:=by
 refine⟨?_,?_,rfl⟩
 ·cases lo with
  | none=>simp[sliceBounds,HT.bb]
  | some i =>
   simp only[sliceBounds,HT.bb,Option.getD_none,show (1:Int) > 0 by decide,if_true]
   by_cases h:i<0
   ·simp only[h,if_true]<;>omega
   ·simp only[h,if_false]<;>omega
 ·cases hi with
  | none=>simp[sliceBounds,HT.bb]
  | some i =>
   simp only[sliceBounds,HT.bb,Option.getD_none,show (1:Int) > 0 by decide,if_true]
   by_cases h:i<0
   ·simp only[h,if_true]<;>omega
   ·simp only[h,if_false]<;>omega
theorem JR(av:List Value)(lo hi:Option Int):slicePick av.toArray lo hi none=((av.drop (HT.bb av.length 0 lo)).take (HT.bb av.length av.length hi-HT.bb av.length 0 lo)).toArray:=by
 obtain⟨h1,h2,h3⟩:=JQ lo hi av.toArray.size
 unfold slicePick
 rw[h1,h2,h3]
 simp only[sliceRange_one,pick_run,List.size_toArray]<;>rfl
def vK(K:PySem.W.Frag):V->Option Int->Option Int->Hp->VK->Prop:=fun x lo hi H Q=>∃ a xs,x = .ref a/\ar K H a xs/\∀ p,H p=none->Q (.ref p) (upd H p (.lst (eF xs lo hi)))
theorem fv:o9 X (vK X.K):=by
 intro pins s σ H x v vl vu lo hi sl Q I rx hs pl pu h
 obtain⟨a,xs,rfl,hx,q⟩:=h
 cases rx
 obtain⟨av,r,ht,hz⟩:=I.list hx
 have hlen:=r.length
 refine⟨"list",_,slot_list_getitem.lookup,ht.isList.typeIs,?_⟩
 refine wpAny_getItem_list_slice ht.isList hs pl pu .none (by simp) ?_ (by rw[List.size_toArray]<;>omega)
 rw[JR,<- hlen]
 refine⟨.ref s.heap.objs.size,_,I.laid (t':=s.toks) (o:=.lst (eF xs lo hi)) (fun b ob q=>Heap.get?_push_of_some _ q) (Nat.le_refl _) ?_,rfl,q _ (I.aA.fresh (Nat.le_refl _))⟩
 exact⟨Nat.le_trans (Ci xs lo hi) hz,_,0,(r.drop (HT.bb xs.length 0 lo)).take (HT.bb xs.length xs.length hi-HT.bb xs.length 0 lo),Heap.get?_push_size _ rfl⟩
theorem JS:eL X (.type "list") (fun xs H Q=>∃ p ys,xs=[.ref p]/\(ar X.K H p ys∨aB X.K H p ys)/\∀ l,H l=none->Q (.ref l) (upd H l (.lst ys))):=by
 intro pins s σ H xs us Q I r h
 obtain⟨p,ys,rfl,hq,q⟩:=h
 obtain⟨u,rfl,rx⟩:=vals1 r
 cases rx
 have fin:∀ (av:List Value),Vals ys av->ys.length<=sizeLine->∀ (h':Heap) (c':Nat),(∀ b o',s.heap.get? b=some o'->h'.get? b=some o') ->
  h'.get? s.heap.objs.size=some { cls:=.type "list",dict:=none,data:=.seq av.toArray c',slots:=#[] }->EP X pins σ Q (.ref s.heap.objs.size) { s with heap:=h' }:=fun av r' hz h' c' kp e =>
  ⟨.ref s.heap.objs.size,_,I.laid (t':=s.toks) kp (Nat.le_refl _) (show bZ X.prog X.w _ h' _ (.lst ys) from ⟨hz,av,c',r',e⟩),rfl,q _ (I.aA.fresh (Nat.le_refl _))⟩
 rcases hq with hq|hq
 ·obtain⟨av,r',pl,hz⟩:=I.list hq
  have hlen:=r'.length
  obtain⟨o,ho,hc,n,hd⟩:=pl.isList
  exact call_list_seq p (.inl rfl) ho hc hd (fun h' c' kp e=>fin av r' hz h' c' kp e) (by simp only[List.size_toArray]<;>omega)
 ·obtain⟨av,r',pl,hz⟩:=I.tuple hq
  have hlen:=r'.length
  obtain⟨o,ho,hc,n,hd⟩:=pl
  exact call_list_seq p (.inr rfl) ho hc hd (fun h' c' kp e=>fin av r' hz h' c' kp e) (by simp only[List.size_toArray]<;>omega)
def sE(K:PySem.W.Frag)(T:String)(x:V)(H:Hp):Prop:=match x with
 | .str _=>T = "str"
 | .int _=>T = "int"
 | .ref p=>(T = "list" /\ ∃ xs,ar K H p xs)∨(T = "tuple" /\ ∃ o,K.lookup p=some o/\o.cls = .type "tuple" /\ o.dict=none) ∨
  (T = "dict" /\ ((∃ kvs,H p=some (.dK kvs)) ∨ ∃ kvs,H p=some (.dT kvs)))∨(T = "set" /\ ∃ S n,H p=some (.set S n))
 | _=>False
theorem Cr{pins:List (Addr × Obj)}{σ:St}{H:Hp}{s:Shared}{T:String}{x:V}{v:Value}(I:Inv X pins σ H s)(r:RelV x v)(ty:sE X.K T x H) :
 s.TypeIs v T/\∀ a,v = .ref a->∃ ob,s.heap.get? a=some ob/\ob.dict=none:=by
 cases x with
 | str z =>
  obtain⟨t,rfl⟩:=r
  cases (show T = "str" from ty)
  exact⟨typeIs_str s z t,fun y e=>nomatch e⟩
 | int i =>
  obtain⟨t,rfl⟩:=r
  cases (show T = "int" from ty)
  exact⟨typeIs_int s i t,fun y e=>nomatch e⟩
 | ref p =>
  cases r
  rcases ty with ⟨rfl,xs,hq⟩|⟨rfl,o,hk,hc,hd⟩|⟨rfl,hk⟩|⟨rfl,S,n,hk⟩
  ·obtain⟨av,y,pl,y⟩:=I.list hq
   refine⟨pl.isList.typeIs,fun a e=>?_⟩
   cases e
   obtain⟨o,n,e,c,hd,y⟩:=pl
   exact⟨o,e,hd⟩
  ·refine⟨⟨o,I.bI p o hk,hc⟩,fun a e=>?_⟩
   cases e
   exact⟨o,I.bI _ o hk,hd⟩
  ·have z:∃ o,s.heap.get? p=some o/\o.ExactDict:=by
    rcases hk with ⟨kvs,hk⟩|⟨kvs,hk⟩
    ·obtain⟨y,y,y,y,o,y,y,e,ex,y⟩:=I.aA p _ hk
     exact⟨o,e,ex⟩
    ·obtain⟨y,y,y,y,o,y,y,e,ex,y⟩:=I.aA p _ hk
     exact⟨o,e,ex⟩
   obtain⟨o,e,ex⟩:=z
   refine⟨⟨o,e,ex.1⟩,fun a e2=>?_⟩
   cases e2
   exact⟨o,e,ex.2.1⟩
  ·obtain⟨o,y,y,y,e,ex,y⟩:=I.aA p _ hk
   refine⟨⟨o,e,ex.1⟩,fun a e2=>?_⟩
   cases e2
   exact⟨o,e,ex.2.1⟩
 | _=>exact False.elim ty
def Cs(K:PySem.W.Frag)(T:String)(r:V->List V->Hp->VK->Prop)(to:TE):TE:=fun σ H Q=>to σ H fun x H1=>sE K T x H1/\r x [] H1 Q
def Ct(K:PySem.W.Frag)(T:String)(r:V->List V->Hp->VK->Prop)(to:TE)(t:TA):TE:=fun σ H Q=>to σ H fun x H1=>sE K T x H1/\t σ H1 fun xs H2=>r x xs H2 Q
variable{o e:Expr}{es:List Expr}{to:TE}{t:TA}{name:Str}{apos eT:Pos}{T id:String}{r:V->List V->Hp->VK->Prop}
theorem Cu(pa:PlainAttrs T)(slot:Slot T name id)(vL:typeOf (.builtin id)=pure (.type "method_descriptor"))(hm:nh X id r)(ho:PE X o to)
 (vM:attributeBase o name X.env (eval o X.env)=eval o X.env:=by rfl) (vN:(apos.endLine == eT.line)=true:=by rfl):PE X (.Call (.Attribute o name apos) [] [] eT) (Cs X.K T r to):=by
 intro pins s σ H Q I h
 refine wpAny_Call_method0_late vM vN (aC (ho pins s σ H _ I h) fun v s1 ⟨x,H1,I1,r1,ty,q1⟩=>?_)
 obtain⟨h1,h2⟩:=Cr I1 r1 ty
 exact⟨T,id,pa,slot,vL,h1,h2,Calls.callWith_builtin rfl (PySem.evalArgs_none (hm pins s1 σ H1 x [] v [] Q I1 r1 .nil q1))⟩
theorem eN(pa:PlainAttrs T)(slot:Slot T name id)(vL:typeOf (.builtin id)=pure (.type "method_descriptor"))(hm:nh X id r)(ho:PE X o to)(ha:PA X (e::es) t)
 (vM:attributeBase o name X.env (eval o X.env)=eval o X.env:=by rfl)
 (JT:((backTo eT (starEach (e::es) X.env)).all (fun x=>!x.1) && (backToKw eT (keywordEach [] X.env)).all (fun x=>x.1.isSome)
   && decide ((e::es).length+([]:List Keyword).length+(if ([]:List Keyword).isEmpty then 0 else 1)<30))=true:=by rfl)
 (vN:(apos.endLine == eT.line)=true:=by rfl) (hs:starEach (e::es) X.env=(false,eval e X.env)::starEach es X.env:=by rfl) (JU:(backTo eT (starEach es X.env)).any (·.1)=false:=by rfl) :
 PE X (.Call (.Attribute o name apos) (e::es) [] eT) (Ct X.K T r to t):=by
 intro pins s σ H Q I h
 refine wpAny_Call_method_late vM JT vN rfl (aC (ho pins s σ H _ I h) fun v s1 ⟨x,H1,I1,r1,ty,q1⟩=>?_)
 obtain⟨h1,h2⟩:=Cr I1 r1 ty
 refine⟨T,id,pa,slot,vL,h1,h2,?_⟩
 have hA:=ha eT pins s1 σ H1 _ I1 q1
 rw[hs] at hA ⊢
 refine Calls.callWith_builtin (by show (false || (backTo eT (starEach es X.env)).any (·.1))=false;rw[JU]<;>rfl) (Calls.evalArgs_plain ?_)
 exact aC hA fun us s2 ⟨vs,H2,I2,r2,q2⟩=>hm pins s2 σ H2 x vs v us Q I2 r1 r2 q2
end
end L2
namespace L2
open PySem PySem.Spec PyProof.Rows
def vO(X:Cx)(id:String)(r:V->List V->Hp->VK->Prop):Prop :=
 ∀ (pins:List (Addr × Obj)) (s:Shared) (σ:St) (H:Hp) (x:V) (xs:List V) (v:Value) (us:List Value) (Q:VK),Inv X pins σ H s->RelV x v->Vals xs us->r x xs H Q ->
  wpAny (model X.prog X.w) X.A (call (.builtin id) (v::us)) (EP X pins σ Q) X.xe s
theorem Vals.one:∀ {x:V} {us:List Value},Vals [x] us->∃ u,us=[u]/\RelV x u
 | _,_,.cons r .nil=>⟨_,rfl,r⟩
theorem Vals.zero:∀ {us:List Value},Vals [] us->us=[]
 | _,.nil=>rfl
theorem Vals.dropLast{xs:List V}{us:List Value}(h:Vals xs us):Vals xs.dropLast us.dropLast:=by
 induction h with
 | nil=>exact .nil
 | cons r t ih =>
  cases t with
  | nil=>exact .nil
  | cons q t'=>exact .cons r ih
theorem JV{α:Type}(l:List α):l.eraseIdx (l.length-1)=l.dropLast:=by
 induction l with
 | nil=>rfl
 | cons a r ih =>
  cases r with
  | nil=>rfl
  | cons b r =>
   have e:(a::b::r).length-1=((b::r).length-1)+1:=by
    have h1:(a::b::r).length=r.length+2:=rfl
    have h2:(b::r).length=r.length+1:=rfl
    omega
   rw[e,List.eraseIdx_cons_succ,ih]
   all_goals rfl
section
variable{X:Cx}{pins:List (Addr × Obj)}{σ:St}{H:Hp}{s:Shared}{l b:Addr}{xs ys zs:List V}
theorem Inv.vP{av its':List Value}{n:Nat}{f:Array Value->Array Value}{t':Nat}(I:Inv X pins σ H s)(hH:H l=some (.lst xs))
 (e:s.heap.get? l=some { cls:=.type "list",data:=.seq av.toArray n }) (hf:f av.toArray=its'.toArray) (hv:Vals ys its') (hz:ys.length<=sizeLine) :
 Inv X pins σ (upd H l (.lst ys)) { s with heap:=s.heap.update l (Obj.mapSeq f),toks:=t' }:=by
 have q:=PySem.IsL.update e f
 rw[hf] at q
 refine I.write (x:=l) (e:=l) (by rw[hH];exact trivial) (.inl rfl) (fun b' u hb hu=>(Heap.get?_update_other s.heap (Obj.mapSeq f) (Ne.symm hb)).trans hu) ⟨_,q⟩ ?_
 exact⟨hz,its',_,hv,q⟩
theorem Inv.Cv{av:List Value}{t':Nat}(I:Inv X pins σ H s)(hv:Vals ys av)(hz:ys.length<=sizeLine) :
 Inv X pins σ (upd H s.heap.objs.size (.lst ys)) { s with heap:=s.heap.push { cls:=.type "list",data:=.seq av.toArray },toks:=t' } :=
 I.laid (fun y y q=>Heap.get?_push_of_some _ q) (Nat.le_refl _) ⟨hz,av,0,hv,Heap.get?_push_size _ rfl⟩
theorem Inv.fresh(I:Inv X pins σ H s):H s.heap.objs.size=none:=I.aA.fresh (Nat.le_refl _)
theorem Inv.ni(I:Inv X pins σ H s)(hH:H l=some (.lst xs)):xs.length<=sizeLine/\∃ (av:List Value) (n:Nat),Vals xs av/\xs.length=av.length/\s.heap.get? l=some { cls:=.type "list",data:=.seq av.toArray n }:=by
 obtain⟨z,av,n,r,e⟩:=I.aA l _ hH
 exact⟨z,av,n,r,r.length,e⟩
theorem JW{n:Nat}(h:n<=sizeLine):Builtin.List.listTooLong n=false:=by
 unfold Builtin.List.listTooLong
 exact decide_eq_false (by omega)
end
section
variable{X:Cx}
def Cw:V->List V->Hp->VK->Prop:=fun x vs H Q=>∃ l xs y,x = .ref l/\vs=[y]/\H l=some (.lst xs)/\xs.length<sizeLine/\Q .non (upd H l (.lst (xs++[y])))
theorem lF:vO X "list.append" Cw:=by
 intro pins s σ H x vs v us Q I rx rv h
 obtain⟨l,xs,y,rfl,rfl,hH,hz,q⟩:=h
 cases rx
 obtain⟨u,rfl,ru⟩:=rv.one
 obtain⟨z,av,n,r,hl,e⟩:=I.ni hH
 refine call_meets F.slot_list_append ⟨_,e,rfl⟩ F.entry_list_append (F.args_list_append_2 _ _) (PySem.list_append l av.toArray n u (by rw[List.size_toArray];omega)) ⟨e,?_⟩
 refine⟨.non,_,I.vP (its':=av++[u]) hH e (by simp) (r.append (.cons ru .nil)) ?_,rfl,q⟩
 rw[List.length_append,List.length_singleton]
 omega
def JX:V->List V->Hp->VK->Prop:=fun x vs H Q=>∃ l b xs zs,x = .ref l/\vs=[.ref b]/\H l=some (.lst xs)/\H b=some (.lst zs)/\xs.length+zs.length<=sizeLine/\Q .non (upd H l (.lst (xs++zs)))
theorem vQ:vO X "list.extend" JX:=by
 intro pins s σ H x vs v us Q I rx rv h
 obtain⟨l,b,xs,zs,rfl,rfl,hH,hB,hz,q⟩:=h
 cases rx
 obtain⟨u,rfl,ru⟩:=rv.one
 cases ru
 obtain⟨z,av,n,r,hl,e⟩:=I.ni hH
 obtain⟨z2,j4,n2,r2,bo,e2⟩:=I.ni hB
 have hsz:av.toArray.size+j4.toArray.size<=sizeLine:=by rw[List.size_toArray,List.size_toArray];omega
 have JY:¬ (!av.toArray.isEmpty && Builtin.List.listTooLong (av.toArray.size+j4.toArray.size))=true:=by
  rw[JW hsz,Bool.and_false]
  exact Bool.false_ne_true
 refine call_meets F.slot_list_extend ⟨_,e,rfl⟩ F.entry_list_extend (F.args_list_extend_2 _ _)
  (AutoSeq1.list_extend_list_list_0 l av.toArray n b j4.toArray n2 JY (by rw[List.size_toArray];omega) (by omega)) ⟨e,e2,?_⟩
 refine⟨.non,_,I.vP (its':=av++j4) hH e (by simp) (r.append r2) ?_,rfl,q⟩
 rw[List.length_append]
 omega
def JZ:V->List V->Hp->VK->Prop:=fun x vs H Q=>∃ l xs y,x = .ref l/\vs=[]/\H l=some (.lst xs)/\xs[xs.length-1]?=some y/\Q y (upd H l (.lst xs.dropLast))
theorem J0:vO X "list.pop" JZ:=by
 intro pins s σ H x vs v us Q I rx rv h
 obtain⟨l,xs,y,rfl,rfl,hH,hy,q⟩:=h
 cases rx
 have J1:=rv.zero
 subst J1
 obtain⟨z,av,n,r,hl,e⟩:=I.ni hH
 obtain⟨u,hu,ru⟩:=r.get hy
 have vR:av.toArray[av.toArray.size-1]?=some u:=by
  show av.toArray[av.length-1]?=some u
  rw[<- Array.getElem?_toList,<- hl]
  exact hu
 refine call_meets F.slot_list_pop ⟨_,e,rfl⟩ F.entry_list_pop (F.args_list_pop_1 _) (MeetsSeq.list_pop_last l av.toArray n u vR (by rw[List.size_toArray];omega)) ⟨e,?_⟩
 refine⟨y,_,I.vP (its':=av.dropLast) hH e ?_ r.dropLast ?_,ru,q⟩
 ·show av.toArray.eraseIdxIfInBounds (av.toArray.size-1)=av.dropLast.toArray
  rw[List.size_toArray,List.eraseIdxIfInBounds_toArray,JV]
 ·rw[List.length_dropLast]
  omega
def Cy:R2:=fun x y H Q=>∃ l b xs zs,x = .ref l/\y = .ref b/\H l=some (.lst xs)/\H b=some (.lst zs)/\xs.length+zs.length<=sizeLine/\∀ p,H p=none->Q (.ref p) (upd H p (.lst (xs++zs)))
theorem dt:bf X (binaryOp .Add) Cy:=by
 intro pins s σ H x y v u Q I rx ry h
 obtain⟨l,b,xs,zs,rfl,rfl,hH,hB,hz,q⟩:=h
 cases rx
 cases ry
 obtain⟨z,av,n,r,hl,e⟩:=I.ni hH
 obtain⟨z2,j4,n2,r2,bo,e2⟩:=I.ni hB
 refine PySem.P.add_list e e2 ?_ (by rw[List.size_toArray,List.size_toArray];omega)
 have ea:av.toArray++j4.toArray=(av++j4).toArray:=by simp
 rw[ea]
 exact⟨.ref _,_,I.Cv (t':=s.toks) (r.append r2) (by rw[List.length_append];omega),rfl,q _ I.fresh⟩
end
section
variable{prog:Program}{w:World}{A:Around}{E:Value->Shared->Prop}{s:Shared}
set_option maxRecDepth 100000 in
end
section
variable{X:Cx}
end
end L2
namespace vS
open PySem PySem.W PySem.Calls PyProof.Rows
theorem J5{P:Params}{h:Heap}:∀ (ns:List Int) (vs:List Value),WellAll P h vs (ns.map WData.int)->IntsAre vs ns:=by
 intro ns
 induction ns with
 | nil =>
  intro vs w
  rw[List.map_nil] at w
  cases w
  exact .nil
 | cons n ns ih =>
  intro vs w
  rw[List.map_cons] at w
  cases w with
  | cons a b =>
   cases a
   exact .cons _ _ (ih _ b)
theorem J6{l:OpenLaw}{n:Nat}(hn:l.most=some n){P:Params}{h:Heap}{args:List WData}{vals:List Value}
 (Cz:l.row.toRowW.claim.pre args=true) (nj:WellAll P h vals args) :
 ∃ a vs ns,vals=[Value.ref a]/\args=[WData.list (ns.map WData.int)]/\h.get? a=some { cls:=.type "list",data:=.seq vs.toArray }/\IntsAre vs ns/\ns.length<=n:=by
 have J9:WShape.hasAll [] args [.list .int]=true:=(pre_splitW Cz).1
 have hc:l.pre.holds [] { args:=args }=true:=(pre_splitW Cz).2
 obtain⟨d,r,rfl,h1,h2⟩:=hasAllW_cons J9
 obtain rfl:=hasAllW_nil h2
 obtain⟨xs,rfl,h3⟩:=hasW_list h1
 obtain⟨ns,rfl⟩:=items_int h3
 have hlen:ns.length<=n:=by
  unfold OpenLaw.pre at hc
  have h4:(WTm.not (.lt (.lit (.int (n:Int))) (.len (.arg 0)))).holds [] { args:=[.list (ns.map .int)] }=true:=by
   have h4:=(holds_andW hc).1
   rw[hn] at h4
   exact h4
  have h5:=condW_of h4 (w_not (w_lt w_lit (w_len_list (w_arg rfl))))
  rw[List.length_map] at h5
  refine Nat.le_of_not_lt fun q=>?_
  have q':(n:Int)<((ns.length:Nat):Int):=by omega
  first
   | (rw[decide_eq_true q'] at h5;exact absurd h5 (by decide))
   | (simp at h5;omega)
 cases nj with
 | cons w1 w2 =>
  cases w2
  cases w1 with
  | list ho vT=>exact⟨_,_,ns,rfl,rfl,ho,J5 ns _ vT,hlen⟩
theorem Ka(l:OpenLaw)(args:List WData):l.row.toRowW.claim.post args (.bool true) args=true :=
 postW_of (r:=l.row.toRowW) (X:=(true == true))
  (show WShape.has [] (.bool true) .bool=true by first|rfl|decide|simp[WShape.has,WShape.arms,WShape.armsAll])
  (show (WTm.eq .res (.lit (.bool true))).value [] { args:=args,res:=some (.bool true),after:=args }=some (.bool (true == true)) from w_eq_bool (w_res rfl) w_lit) rfl
section
variable{prog:Program}{w:World}{A:Around}{E:Value->Shared->Prop}{s:Shared}{K:Frag}
end
end vS
namespace L2
open PySem PySem.Spec PyProof.Rows
theorem vU:∀ {vs:List Value} {ns:List Int},IntsAre vs ns->Vals (ns.map V.int) vs
 | _,_,.nil=>.nil
 | _,_,.cons n t h=>.cons ⟨t,rfl⟩ (vU h)
def CA(H:Hp):Prop:=∀ b,H b=none ∨ ∃ o xs,H b=some (.dZ o (.lst xs))
theorem Kb{P:Program}{w:World}{K:PySem.W.Frag}{mg mb:Str->Option Value}{CX:c9}{k:Nat}{fa a:Addr}{fd:FuncData}{x:Str}{sp:Sp}{s₁:Shared}{vs:List Value}{ns:List Int}
 (KX:K.In s₁.heap) (lG:s₁.heap.Ns mainGlobals mg) (hb:s₁.heap.Ns builtinsNs mb) (Kc:∀ x:Str,x ≠ "__name__" -> mb x=bootBuiltins x) (Kd:s₁.heap.NoLimit) (hg:s₁.gens = #[])
 (ha:s₁.heap.get? a=some { cls:=.type "list",data:=.seq vs.toArray }) (hi:IntsAre vs ns) (hl:ns.length<=sizeLine) (hr:ba k callerA)
 (F:∀ base:Heap,K.In base->base.Ns mainGlobals mg->cc P w K mg base CX k fa fd [x] sp) (Ke:∀ (s:Shared) (u:Value),BindsTo s fd ⟨[u],[]⟩ [(x,u)])
 (iI:∀ H:Hp,CA H->ar K H a (ns.map V.int)->sp [.ref a] H (fun v _=>v = .bl true) fun _ _ _=>False)
 (Kf:∀ H e s',CX [] H s₁ (fun _ _ _=>False) e s'->False) :
 codeAny (model P w) callerA (.call (.ref fa) ⟨[.ref a],[]⟩) (fun r s'=>r = .ok (.ret (.bool true))/\OldK s₁.heap s'.heap/\s'.os=s₁.os/\AllBare s'.gens) s₁:=by
 have rv:=vU hi
 have Kg:=hi.length
 have core:∀ H:Hp,CA H->ar K H a (ns.map V.int)->bV P w H s₁.heap->(∀ b,H b≠none->b=a)->(H a≠none->K.lookup a=none) ->
  codeAny (model P w) callerA (.call (.ref fa) ⟨[.ref a],[]⟩) (fun r s'=>r = .ok (.ret (.bool true))/\OldK s₁.heap s'.heap/\s'.os=s₁.os/\AllBare s'.gens) s₁:=by
  intro H hO hS aA hA hK
  have CB:∀ {b:Addr} {o:Obj},s₁.heap.get? b=some o->H b=none->(je s₁.heap H).get? b=some o:=fun e n=>Il e n
  have lD:∀ {b:Addr} {o:Obj} {es:Array DictEntry} {ep:Nat},s₁.heap.get? b=some o->o.data = .dict es ep->H b=none:=fun {b o es ep} e d=>by
   cases q:H b with
   | none=>rfl
   | some u =>
    have e':b=a:=hA b (by rw[q];simp)
    subst e'
    rw[ha] at e;cases e
    have d':Data.seq vs.toArray _=Data.dict es ep:=d
    cases d'
  have sF:∀ {b:Addr} {m:Str->Option Value},s₁.heap.Ns b m->(je s₁.heap H).Ns b m:=fun {b m} ⟨o,es,ep,e,d,r⟩=>⟨o,es,ep,CB e (lD e d),d,r⟩
  have CC:K.In (je s₁.heap H):=fun b o e=>CB (KX b o e) (by
   cases q:H b with
   | none=>rfl
   | some u =>
    have e':b=a:=hA b (by rw[q];simp)
    subst e'
    rw[hK (by rw[q];simp)] at e;cases e)
  have hM:Mod K mg (je s₁.heap H):=⟨CC,sF lG,⟨mb,sF hb,Kc⟩,let ⟨mc,h1,h2⟩:=Kd;⟨mc,sF h1,h2⟩⟩
  have e0:lC P w K mg (je s₁.heap H) callerA [] s₁ H:=⟨rfl,hM,fun b o e=>Im e,Nat.le_of_eq (Ik _ _),trivial,fun b hb=>absurd (show b∈([]:List Addr) from hb) (by simp),aA,.of_eq hg⟩
  refine codeAny_mono ((F _ CC (sF lG)).run callerA [] s₁ H ⟨[.ref a],[]⟩ [.ref a] [.ref a] _ _ hr e0 (Ke s₁ (.ref a)) (.cons rfl .nil) (iI H hO hS)) fun r s' h=>?_
  cases r with
  | error e=>exact (Kf H e s' h).elim
  | ok fl =>
   cases fl with
   | next=>exact False.elim h
   | brk=>exact False.elim h
   | cont=>exact False.elim h
   | ret u =>
    obtain⟨v,H',os,bare,un,Kh,r',q⟩:=h
    have q':v = .bl true:=q
    subst q'
    obtain rfl:u=Value.bool true:=r'
    refine⟨rfl,OldK.of_keep fun b o e=>?_,os,bare⟩
    cases q:H b with
    | none=>exact un.keep b o e q (by intro z;exact absurd (show b∈([]:List Addr) from z) (by simp)) (by simp)
    | some u =>
     rcases hO b with z|⟨ob,xs,z⟩
     ·rw[q] at z;cases z
     ·have z2:=un.d6 b ob _ z
      obtain⟨e1,_⟩:=aA b _ z
      obtain⟨e2,_⟩:=Kh b _ z2
      rw[e] at e1;cases e1
      exact e2
 cases hk:K.lookup a with
 | some o =>
  have e:=KX a o hk
  rw[ha] at e
  cases e
  refine core (fun _=>none) (fun _=>.inl rfl) (.inr ⟨_,vs.toArray,_,hk,rfl,rfl,rfl,by rw[List.size_toArray,Kg];exact hl,by simpa using rv⟩) (fun b u z=>by have z':(none:Option HO)=some u:=z;cases z') (fun b z=>absurd rfl z) fun z=>absurd rfl z
 | none =>
  refine core (fun b=>if b=a then some (.dZ { cls:=.type "list",data:=.seq vs.toArray } (.lst (ns.map V.int))) else none) (fun b=>?_) (.inl (.inr ⟨{ cls:=.type "list",data:=.seq vs.toArray },if_pos rfl⟩)) (fun b u z=>?_) (fun b z=>?_) fun _=>hk
  ·by_cases hb:b=a
   ·exact .inr ⟨_,_,if_pos hb⟩
   ·exact .inl (if_neg hb)
  ·by_cases hb:b=a
   ·have z':=(if_pos hb).symm.trans z
    cases z'
    subst hb
    exact⟨ha,by rw[List.length_map];exact hl,vs,_,rv,ha⟩
   ·have z':=(if_neg hb).symm.trans z
    cases z'
  ·by_cases hb:b=a
   ·exact hb
   ·exact absurd (if_neg hb) z
end L2
namespace L2
open PySem PySem.Spec PyProof.Rows
end L2
namespace L2
open PySem PySem.Spec PyProof.Rows
def inClass(s:Stmt)(j:Nat):Stmt:=match s with
 | .ClassDef _ _ _ body _ _ _ _ _ _ _=>body.getD j (.Pass ⟨0,0,0,0⟩)
 | _=>.Pass ⟨0,0,0,0⟩
noncomputable def lH(s:Stmt):Arguments:=match s with
 | .FunctionDef _ a _ _ _ _ _ _ _ _=>a
 | _=>{ posonlyargs:=[],args:=[],vararg:=none,kwonlyargs:=[],kw_defaults:=[],kwarg:=none,defaults:=[] }
noncomputable def fH(s:Stmt):List Stmt:=match s with
 | .FunctionDef _ _ b _ _ _ _ _ _ _=>b
 | _=>[]
noncomputable def cR(s:Stmt):Scope:=match s with
 | .FunctionDef _ _ _ _ _ _ sc _ _ _=>sc
 | _=>{ kind:=.function,names:=[],isGenerator:=false,isCoroutine:=false }
abbrev CD:c9:=fun y y y y y y=>False
abbrev E0:XK:=fun y y y=>False
structure iL(K:PySem.W.Frag)(x qual:Str)(st:Stmt)(f:Addr)(fd:FuncData):Prop where
 ex:∃ (oc:Value) (od:Option Addr) (kV doc pm:Value) (an:Option Addr) (bh ct:Value) (hW:Array (Option Value)),
  fd=PySem.W.fnOf x qual (lH st) (fH st) (cR st) .none kV doc pm an bh ct/\K.lookup f=some ⟨oc,od,.func fd,hW⟩/\PySem.W.codeIn K bh qual=true
 kp:PySem.W.keepIn K (.ref f)=true
section
variable{P:Program}{w:World}{K:PySem.W.Frag}{mg:Str->Option Value}{base:Heap}
theorem iL.ok{x qual:Str}{st:Stmt}{f:Addr}{fd:FuncData}{N ps:List Str}{k:Nat}{sp:Sp}(F:iL K x qual st f fd)(S:nc N ps (cR st))(len:∀ vs H Q E,sp vs H Q E->vs.length=ps.length)
 (fu:∀ (bh:Value) (A:Around) (outer:List Env) (s:Shared) (H:Hp) (vs:List V) (Q:VK) (E:XK),ba k (A.deeper (envOfC qual (cR st) s.heap.objs.size f bh))->sp vs H Q E ->
   ∃ t,aS (eE CD P w K mg base N qual (cR st) f bh A outer s H E).gE (fH st) t/\t { nx:=fun y H'=>Q .non H',rt:=Q } (start N vs) H):cc P w K mg base CD (k+1) f fd ps sp:=by
 obtain⟨oc,od,kV,doc,pm,an,bh,ct,hW,rfl,lk,fg⟩:=F.ex
 refine vE lk fg S len fun A outer s H vs Q E hr iI=>?_
 obtain⟨t,h,q⟩:=fu bh A outer s H vs Q E hr iI
 exact⟨t,h.gE,q⟩
theorem iL.binds{x qual:Str}{st:Stmt}{f:Addr}{fd:FuncData}{ps:List Str}(F:iL K x qual st f fd)
 (h:∀ (kV doc pm:Value) (an:Option Addr) (bh ct:Value) (us:List Value),us.length=ps.length->bindArgs (PySem.W.fnOf x qual (lH st) (fH st) (cR st) .none kV doc pm an bh ct) ⟨us,[]⟩=pure (ps.zip us)):Binds K fd ps []:=by
 obtain⟨oc,od,kV,doc,pm,an,bh,ct,hW,rfl,lk,fg⟩:=F.ex
 exact .all (h kV doc pm an bh ct)
theorem jm{x qual:Str}{st:Stmt}{f:Addr}{oc:Value}{od an:Option Addr}{hW:Array (Option Value)}{kV doc pm bh ct:Value}(l:K.lookup f=some ⟨oc,od,.func (PySem.W.fnOf x qual (lH st) (fH st) (cR st) .none kV doc pm an bh ct),hW⟩)
 (c:PySem.W.codeIn K bh qual=true) (k:PySem.W.keepIn K (.ref f)=true):iL K x qual st f (PySem.W.fnOf x qual (lH st) (fH st) (cR st) .none kV doc pm an bh ct):=⟨⟨oc,od,kV,doc,pm,an,bh,ct,hW,rfl,l,c⟩,k⟩
end
theorem pd{A:Around}{k:Nat}(hr:ba k A):A.units+1<cLine:=Nat.lt_of_le_of_lt (Nat.add_le_add_left (by decide:1<=64) _) hr.units
section
variable{X:Cx}
theorem pv(i:Nat){x:Str}{pos:Pos}(hN:X.N[i]?=some x:=by rfl)(hv:rO X.env.scope x:=by first|exact Or.inl rfl|exact Or.inr (Or.inl rfl)|exact Or.inr (Or.inr rfl))(hd:(x == ("__debug__" : Str))=false:=by decide)
 (fg:(x == ("__classdict__" : Str))=false:=by decide):PE X (.Name x pos) (ve i):=Iq hN hv hd fg
end
def ai(H H':Hp):Prop:=∀ b o,H b=some o->H' b=some o
theorem ai.refl(H:Hp):ai H H:=fun y y h=>h
theorem ai.trans{H H1 H2:Hp}(a:ai H H1)(b:ai H1 H2):ai H H2:=fun c o h=>b c o (a c o h)
theorem ai.free{H H':Hp}(e:ai H H'){l:Addr}(h:H' l=Option.none):H l=Option.none:=by
 cases q:H l with
 | none=>rfl
 | some o =>
  rw[e l o q] at h
  cases h
theorem ai.seq{K:PySem.W.Frag}{H H':Hp}{a:Addr}{xs:List V}(e:ai H H')(h:ar K H a xs):ar K H' a xs:=by
 rcases h with (h|⟨o,h⟩)|h
 ·exact .inl (.inl (e _ _ h))
 ·exact .inl (.inr ⟨o,e _ _ h⟩)
 ·exact .inr h
end L2
namespace Gz
open PySem PySem.Spec PyProof.Rows L2
def Bd(n:Nat)(x:Int):Prop:=x.natAbs<2 ^ n
theorem Bd.of{n:Nat}{x:Int}(h1 : -((2 ^ n:Nat):Int)<x)(h2:x<((2 ^ n:Nat):Int)):Bd n x:=by
 unfold Bd;lia
theorem Bd.up{n m:Nat}{x:Int}(h:Bd n x)(hm:n<=m):Bd m x:=Nat.lt_of_lt_of_le h (Nat.pow_le_pow_right (by decide) hm)
theorem Bd.bits{n:Nat}{x:Int}(h:Bd n x):Builtin.Int.intBits x<=n:=by
 unfold Builtin.Int.intBits
 by_cases e:x=0
 ·subst e;simp
 ·have e0:¬ ((x == 0)=true):=by simpa using e
  rw[if_neg e0]
  have hn:x.natAbs≠0:=by lia
  have:=(Nat.log2_lt hn).mpr h
  lia
theorem Bd.log{n:Nat}{x:Int}(h:Bd n x)(hn:n<=9000)(h0:0<n):x.natAbs.log2<9000:=by
 by_cases e:x.natAbs=0
 ·rw[e];decide
 ·have:=(Nat.log2_lt e).mpr h
  lia
def pf(i j:Int):Prop:=Bd 4000 i/\Bd 4000 j
theorem pf.ok{i j:Int}(h:pf i j):IntMulOk i j :=
 IntMulOk.of_bits (Nat.le_trans h.1.bits (by decide)) (Nat.le_trans h.2.bits (by decide))
section
variable{X:Cx}
theorem Ki:bf X (binaryOp .Mult) (rI pf fun i j=>.int (i * j)):=oZ fun y y y y y y y hc q=>mul_int q hc.ok
theorem CF:bf X (binaryOp .FloorDiv) (rI (fun y j=>0<j/\Bd 4000 j) fun i j=>.int (i / j)):=oZ fun i j y y y y y hc q=>by
 have h1:(0:Int)<j:=hc.1
 exact floordiv_int (by lia) (by rw[Int.fdiv_eq_ediv_of_nonneg i (by lia)];exact q) (.inl (PyProof.noPylong_of_log2 (hc.2.log (by decide) (by decide))))
noncomputable def j6:V->Value
 | .ref a=>.ref a
 | .ty n=>.type n
 | _=>.none
theorem Kj:eL X (.builtin "isinstance") (fun xs H Q=>∃ x c t b,xs=[x,c]/\dq X.K H x t/\j6 c ≠ .none/\PySem.W.kitOne X.K t (j6 c)=some b/\Q (.bl b) H):=by
 intro pins s σ H xs us Q I r h
 obtain⟨x,c,t,b,rfl,ty,hc,e,q⟩:=h
 obtain⟨u,v,rfl,rx,rc⟩:=vals2 r
 have ev:v=j6 c:=by
  cases c with
  | ref a=>exact rc
  | ty n=>exact rc
  | non=>exact absurd rfl hc
  | bl _=>exact absurd rfl hc
  | int _=>exact absurd rfl hc
  | str _=>exact absurd rfl hc
  | byt _=>exact absurd rfl hc
  | flt _=>exact absurd rfl hc
 subst ev
 exact Jt I rx ty e fun tk=>⟨.bl b,H,I.tok tk,rfl,q⟩
end
theorem vV{K:PySem.W.Frag}{t:Value}:PySem.W.kitOne K t t=some true:=by
 unfold PySem.W.kitOne
 rw[if_pos (by simp)]
theorem ph{K:PySem.W.Frag}{a c:String}{b:Bool}(h:PySem.W.kitMeta c=true)(h2:(PySem.fastBuiltinMro a).map (·.contains (.type c))=some b)(h3:(a == c)=false):PySem.W.kitOne K (.type a) (.type c)=some b:=by
 unfold PySem.W.kitOne
 have e:¬ ((Value.type a == Value.type c)=true):=by
  simp only[beq_iff_eq,Value.type.injEq]
  simpa using h3
 rw[if_neg e]
 show (if PySem.W.kitMeta c=true then PySem.W.subIn K (.type a) (.type c) else none)=some b
 rw[if_pos h]
 exact h2
theorem Kk{K:PySem.W.Frag}:PySem.W.kitOne K (.type "int") (.type "bool")=some false:=ph (by decide +kernel) (by decide +kernel) (by decide)
theorem Kl{K:PySem.W.Frag}:PySem.W.kitOne K (.type "bool") (.type "int")=some true:=ph (by decide +kernel) (by decide +kernel) (by decide)
theorem Km{K:PySem.W.Frag}:PySem.W.kitOne K (.type "NoneType") (.type "int")=some false:=ph (by decide +kernel) (by decide +kernel) (by decide)
theorem Kn{K:PySem.W.Frag}:PySem.W.kitOne K (.type "NoneType") (.type "tuple")=some false:=ph (by decide +kernel) (by decide +kernel) (by decide)
theorem df:bootBuiltins "len" = some (.builtin "len"):=by decide +kernel
theorem CG:bootBuiltins "min" = some (.builtin "min"):=by decide +kernel
theorem pj:bootBuiltins "max" = some (.builtin "max"):=by decide +kernel
theorem gG:bootBuiltins "isinstance" = some (.builtin "isinstance"):=by decide +kernel
theorem vW:bootBuiltins "any" = some (.builtin "any"):=by decide +kernel
theorem sG:bootBuiltins "all" = some (.builtin "all"):=by decide +kernel
theorem pk:bootBuiltins "int" = some (.type "int"):=by decide +kernel
theorem CH:bootBuiltins "str" = some (.type "str"):=by decide +kernel
theorem Ko:bootBuiltins "list" = some (.type "list"):=by decide +kernel
theorem vX:bootBuiltins "tuple" = some (.type "tuple"):=by decide +kernel
theorem Kq:bootBuiltins "reversed" = some (.type "reversed"):=by decide +kernel
noncomputable def vY:V->V->Option Bool
 | .int _,.ty n=>if n = "int" then some true else if n = "bool" then some false else none
 | .bl _,.ty n=>if n = "int" then some true else if n = "bool" then some true else none
 | .non,.ty n=>if n = "int" then some false else if n = "tuple" then some false else none
 | _,_=>none
def ib(K:PySem.W.Frag)(x c:V)(H:Hp)(Q:VK):Prop:=match vY x c with
 | some b=>Q (.bl b) H
 | none=>∃ t b,dq K H x t/\j6 c ≠ .none/\PySem.W.kitOne K t (j6 c)=some b/\Q (.bl b) H
section
variable{X:Cx}
theorem vZ:eL X (.builtin "isinstance") (fun xs H Q=>∃ x c,xs=[x,c]/\ib X.K x c H Q):=by
 intro pins s σ H xs us Q I r h
 obtain⟨x,c,rfl,h⟩:=h
 refine Kj pins s σ H _ us Q I r ?_
 cases e:vY x c with
 | none =>
  unfold ib at h
  rw[e] at h
  obtain⟨t,b,h1,h2,h3,h4⟩:=h
  exact⟨x,c,t,b,rfl,h1,h2,h3,h4⟩
 | some b =>
  unfold ib at h
  rw[e] at h
  unfold vY at e
  split at e
  ·rename_i i n
   split at e
   ·rename_i z;subst z;cases e
    exact⟨_,_,_,_,rfl,dq.int i,(fun z=>nomatch z),vV,h⟩
   ·split at e
    ·rename_i z;subst z;cases e
     exact⟨_,_,_,_,rfl,dq.int i,(fun z=>nomatch z),Kk,h⟩
    ·cases e
  ·rename_i i n
   split at e
   ·rename_i z;subst z;cases e
    exact⟨_,_,_,_,rfl,dq.bl i,(fun z=>nomatch z),Kl,h⟩
   ·split at e
    ·rename_i z;subst z;cases e
     exact⟨_,_,_,_,rfl,dq.bl i,(fun z=>nomatch z),vV,h⟩
    ·cases e
  ·rename_i n
   split at e
   ·rename_i z;subst z;cases e
    exact⟨_,_,_,_,rfl,dq.non,(fun z=>nomatch z),Km,h⟩
   ·split at e
    ·rename_i z;subst z;cases e
     exact⟨_,_,_,_,rfl,dq.non,(fun z=>nomatch z),Kn,h⟩
    ·cases e
  ·cases e
end
section
variable{K:PySem.W.Frag}{H:Hp}{Q:VK}{i:Int}{b:Bool}{p:Addr}{xs:List V}
theorem Kr:ib K (.int i) (.ty "int") H Q=Q (.bl true) H:=rfl
theorem Ks:ib K (.int i) (.ty "bool") H Q=Q (.bl false) H:=rfl
theorem Kt:ib K (.bl b) (.ty "int") H Q=Q (.bl true) H:=rfl
theorem Ku:ib K (.bl b) (.ty "bool") H Q=Q (.bl true) H:=rfl
theorem Kv:ib K .non (.ty "int") H Q=Q (.bl false) H:=rfl
theorem Kw:ib K .non (.ty "tuple") H Q=Q (.bl false) H:=rfl
theorem v3(h:H p=some (.tup xs))(q:Q (.bl true) H):ib K (.ref p) (.ty "tuple") H Q:=⟨_,_,dq.tup h,(fun z=>nomatch z),vV,q⟩
end
end Gz
namespace Gz
open PySem PySem.Spec PyProof.Rows L2
def cW(P:Program)(w:World):c9:=fun outer H s E e s' =>
 ∃ (x:Addr) (cls a0:Value) (H':Hp) (B:Heap),e = .ref x/\s'.os=s.os/\AllBare s'.gens/\Un (aY outer) [] H H' s.heap s'.heap /\
  (∀ b o,s.heap.get? b=some o->H b=none->b∉aY outer->B.get? b=some o)/\(∀ b o,s.heap.get? b=some o->b∉aY outer->∃ o',B.get? b=some o')/\bV P w H' B/\H' x=none/\s.heap.get? x=none /\
  Heap.FlyingW B outer x cls a0 s'.heap/\E cls none H'
theorem fI{P:Program}{w:World}{X:Cx}:Passes (cW P w) X E0:=fun _ _ _ _ _ _ _ ⟨_,_,_,_,_,_,_,_,_,_,_,_,_,_,_,h⟩=>h.elim
theorem Kx{P:Program}{w:World}{outer:List Env}{H:Hp}{s s':Shared}{e:Value}(h:cW P w outer H s (fun y y y=>False) e s'):False:=by
 obtain⟨y,y,y,y,y,y,y,y,y,y,y,y,y,y,y,h⟩:=h
 exact h
section
variable{P:Program}{w:World}{K:PySem.W.Frag}{mg:Str->Option Value}{base:Heap}
theorem okN{x qual:Str}{st:Stmt}{f:Addr}{fd:FuncData}{N ps:List Str}{k:Nat}{sp:Sp}(F:iL K x qual st f fd)(S:nc N ps (cR st))(len:∀ vs H Q E,sp vs H Q E->vs.length=ps.length)
 (fu:∀ (bh:Value) (A:Around) (outer:List Env) (s:Shared) (H:Hp) (vs:List V) (Q:VK) (E:XK),ba k (A.deeper (envOfC qual (cR st) s.heap.objs.size f bh))->sp vs H Q E ->
   ∃ t,aS (eE (cW P w) P w K mg base N qual (cR st) f bh A outer s H E).gE (fH st) t/\t { nx:=fun y H'=>Q .non H',rt:=Q } (start N vs) H):cc P w K mg base (cW P w) (k+1) f fd ps sp:=by
 obtain⟨oc,od,kV,doc,pm,an,bh,ct,hW,rfl,lk,fg⟩:=F.ex
 refine vE lk fg S len fun A outer s H vs Q E hr iI=>?_
 obtain⟨t,h,q⟩:=fu bh A outer s H vs Q E hr iI
 exact⟨t,h.gE,q⟩
end
theorem Ky(a b:Int):ji (.int a) (.int b)=true:=rfl
theorem Kz(a b:Bool):ji (.bl a) (.bl b)=true:=rfl
theorem KA(a:Int):ji (.int a) .non=true:=rfl
theorem KC(a:Int):ji .non (.int a)=true:=rfl
theorem KG:ji .non .non=true:=rfl
theorem ite_tt{A B:Prop}:(if true=true then A else B)=A:=if_pos rfl
theorem ite_ff{A B:Prop}:(if false=true then A else B)=B:=if_neg Bool.false_ne_true
end Gz
namespace Gz
open PySem PySem.Spec PyProof.Rows L2
theorem KH{CX:c9}{P:Program}{w:World}{K:PySem.W.Frag}{mg:Str->Option Value}{base:Heap}{N:List Str}{qual:Str}{scope:Scope}{f:Addr}{cd:Value}{A:Around}{outer:List Env}{s:Shared}{H:Hp}{E:XK} :
 (eE CX P w K mg base N qual scope f cd A outer s H E).K=K:=rfl
theorem KI{CX:c9}{P:Program}{w:World}{K:PySem.W.Frag}{mg:Str->Option Value}{base:Heap}{N:List Str}{qual:Str}{scope:Scope}{f:Addr}{cd:Value}{A:Around}{outer:List Env}{s:Shared}{H:Hp}{E:XK} :
 (eE CX P w K mg base N qual scope f cd A outer s H E).N=N:=rfl
section
variable{K:PySem.W.Frag}{H H':Hp}{a p:Addr}{xs ys:List V}{i:Int}{v:V}{Q:VK}
theorem ak{o:HO}(h:H p=none):ai H (upd H p o):=fun b u e=>by rw[aO (lp e h)];exact e
theorem aQ(h:aB K H p xs)(e:cD xs i=some v)(q:Q v H):lE K (.ref p) (.int i) H Q:=.inr (.inl ⟨p,xs,i,v,rfl,rfl,h,e,q⟩)
theorem bC(h:ar K H p xs)(e:cD xs i=some v)(q:Q v H):lE K (.ref p) (.int i) H Q:=.inl ⟨p,xs,i,v,rfl,rfl,h,e,q⟩
theorem dI(h:ar K H p xs):BW K (.ref p) H xs.length:=.inl ⟨xs,h,rfl⟩
end
end Gz
namespace Gz
open PySem PySem.Spec PyProof.Rows L2
def FJ(J:It)(g:TG)(tb:TS)(D:Ends)(σ:L2.St)(H:Hp):Prop:=∃ W:Nat->Nat->L2.St->Hp->Prop,(∃ m,W 0 m σ H)/\∀ i m σ H,W i m σ H ->
 (J.stop i H/\D.nx σ H)∨(J.go i H/\∃ N:L2.St->Hp->Prop,(∀ σ' H',N σ' H'->∃ m',m'<m/\W (i+1) m' σ' H')/\∀ x H',J.yld i H x H'->g x σ H' fun σ2 H2=>tb { D with nx:=N,ct:=N,bk:=D.nx } σ2 H2)
section
variable{K:PySem.W.Frag}{g:TG}{tb:TS}{D:Ends}{σ:L2.St}{H:Hp}{a:Addr}{xs:List V}{lo:Int}{n:Nat}
theorem KJ{ta:TA}:iH (vn ta) g tb D σ H=ta σ H (fun vs H1=>∃ j:Int,vs=[.int j]/\-(2 ^ 62)<=j/\j<2 ^ 62/\FJ (hU 0 j.toNat) g tb D σ H1):=rfl
theorem KL{tl:TE}:iH (vk K tl) g tb D σ H=tl σ H (fun x H1=>∃ a,x = .ref a/\(∃ xs,ar K H1 a xs)/\FJ (jU K a) g tb D σ H1):=rfl
theorem KN{tl:TE}:iH (vm K tl) g tb D σ H=tl σ H (fun x H1=>∃ a,x = .ref a/\(∃ xs,aB K H1 a xs)/\FJ (lz K a) g tb D σ H1):=rfl
theorem CI(Pv:Nat->L2.St->Hp->Prop)(h0:Pv 0 σ H)
 (hs:∀ i σ H,i<n->Pv i σ H->g (.int (lo+i)) σ H fun σ2 H2=>tb { D with nx:=Pv (i+1),ct:=Pv (i+1),bk:=D.nx } σ2 H2) (hd:∀ σ H,Pv n σ H->D.nx σ H):FJ (hU lo n) g tb D σ H:=IU Pv h0 hs hd
theorem CJ(Pv:Nat->L2.St->Hp->Prop)(h0:Pv 0 σ H)(hl:∀ i σ H,i<=xs.length->Pv i σ H->ar K H a xs)
 (hs:∀ i x σ H,xs[i]?=some x->Pv i σ H->g x σ H fun σ2 H2=>tb { D with nx:=Pv (i+1),ct:=Pv (i+1),bk:=D.nx } σ2 H2) (hd:∀ σ H,Pv xs.length σ H->D.nx σ H):FJ (jU K a) g tb D σ H:=IS Pv h0 hl hs hd
theorem KO(Pv:Nat->L2.St->Hp->Prop)(h0:Pv 0 σ H)(hl:∀ i σ H,i<=xs.length->Pv i σ H->aB K H a xs)
 (hs:∀ i x σ H,xs[i]?=some x->Pv i σ H->g x σ H fun σ2 H2=>tb { D with nx:=Pv (i+1),ct:=Pv (i+1),bk:=D.nx } σ2 H2) (hd:∀ σ H,Pv xs.length σ H->D.nx σ H):FJ (lz K a) g tb D σ H:=IT Pv h0 hl hs hd
end
theorem bJ:(2:Nat)<=sizeLine:=by decide
theorem sH{x:Int}(h:x.natAbs<2 ^ 200):Bd 4000 x:=Bd.up (n:=200) h (by decide)
theorem v5{x y:Int}(h:x.natAbs<2 ^ 200)(h':y.natAbs<2 ^ 200):pf x y:=⟨sH h,sH h'⟩
end Gz
namespace Gz
open PySem PySem.Spec PyProof.Rows L2
section
variable{X:Cx}
end
section
variable{K:PySem.W.Frag}{H H1:Hp}{l p:Addr}{xs ys:List V}{o:HO}
theorem dJ(hl:H l=none)(s:ai H H1):ai H (upd H1 l o):=fun b u e=>by
 rw[aO (lp e hl)];exact s b u e
theorem KP(h:aB K H1 p xs)(hl:H1 l=some (.lst ys)):aB K (upd H1 l o) p xs:=by
 rcases h with (h|⟨z,h⟩)|h
 ·exact .inl (.inl (by rw[aO (mS h hl (fun e=>nomatch e))];exact h))
 ·exact .inl (.inr ⟨z,by rw[aO (mS h hl (fun e=>nomatch e))];exact h⟩)
 ·exact .inr h
def sI(K:PySem.W.Frag)(H:Hp)(v:V)(a b:Int):Prop:=∃ p,v = .ref p/\aB K H p [.int a,.int b]
theorem sI.put{v:V}{a b:Int}(h:sI K H1 v a b)(hl:H1 l=some (.lst ys)):sI K (upd H1 l o) v a b:=by
 obtain⟨p,e,h⟩:=h
 exact⟨p,e,KP h hl⟩
end
end Gz
namespace Gz
open PySem PySem.W PySem.Spec PySem.Calls PyProof.Rows Builtin Builtin.ObjectAttr Builtin.Getset_descriptor
section
variable{prog:Program}{w:World}{A:Around}{E:Value->Shared->Prop}{s:Shared}{K:Frag}{x C:Addr}{oe:Obj}{R:Result->Shared->Prop}
theorem KQ{tp:Value}(X:K.In s.heap)(he:s.heap.get? x=some oe)(hc:oe.cls = .ref C)(hm:mroIn K C (.type "object")=some true)
 (h:R (.ok (.ret (.ref C))) s):codeAny (model prog w) A (.call (.builtin "getset_descriptor.__get__") ⟨[.builtin "object.__class__",.ref x,tp],[]⟩) R s:=by
 obtain⟨hh,g,dr,t,os⟩:=s
 have L0:Looks (model prog w) hh (typeOf (.ref x)) (.ref C):=hc ▸ (Looks.ld he).andThen .now
 have L1:=looks_mroIn (M:=model prog w) X hm
 refine codeAny_call_builtin KF.slot_gs.plain KF.entry_gs (KF.slot_gs.check _ _ _ _ _ _ _ _ KF.type_class (KF.args_gs _ _ _) ?_)
 unfold Builtin.«getset_descriptor.__get__» descrGet
 rw[dga_obj]
 refine wpAny_bind (wpAny_pure ?_)
 unfold descrGetter descrCheckInstance descrNameAndClass isInstance
 simp only[KF.owner_class]
 repeat lk
 refine⟨Code.quiet_builtin _ (by decide +kernel),codeAny_builtin KF.entry_class ?_⟩
 unfold Builtin.«object.__class__» shownTypeOf
 repeat lk
 exact h
theorem KR{tk:Tok}{Q:Fin->Shared->Prop}(X:K.In s.heap)(he:s.heap.get? x=some oe)(hc:oe.cls = .ref C)(hm:mroIn K C (.type "object")=some true)
 (g3:findIn K (.ref C) "__class__" = some (some (.builtin "object.__class__"))) (h:Q (.done (.ret (.ref C))) s) :
 wpAny (model prog w) A (Builtin.«object.__getattribute__» ⟨[.ref x,.str "__class__" tk],[]⟩) Q E s:=by
 obtain⟨hh,g,dr,t,os⟩:=s
 have L0:Looks (model prog w) hh (typeOf (.ref x)) (.ref C):=hc ▸ (Looks.ld he).andThen .now
 have L1:=looks_findIn (M:=model prog w) X g3
 have f5:=KF.type_class
 have f6:=F.slot_gs_get.lookup
 have f7:=F.slot_gs_set.lookup
 repeat (any_goals (first|assumption|(with_reducible refine L0.at ?_)|(with_reducible refine L1.at ?_)|wp_step))
 refine KQ X he hc hm ?_
 repeat (any_goals (first|assumption|wp_step))
theorem KS{CK:Value}{Q:Unit->Shared->Prop}(X:K.In s.heap)(he:s.heap.get? x=some oe)(hc:oe.cls = .ref C)(hb:mroIn K C (.type "BaseException")=some true)(h:Q () s) :
 wpAny (model prog w) A (checkBuiltinCall "BaseException.__getattribute__" ⟨[.ref x,CK],[]⟩) Q E s:=by
 obtain⟨hh,g,dr,t,os⟩:=s
 have hk:builtinKind "BaseException.__getattribute__" = some .slot:=by decide +kernel
 have KU:splitId "BaseException.__getattribute__" = some ("BaseException","__getattribute__"):=by decide +kernel
 have ha:=F.args_bexc_ga (.ref x) CK
 have L0:Looks (model prog w) hh (typeOf (.ref x)) (.ref C):=hc ▸ (Looks.ld he).andThen .now
 have L1:=looks_mroIn (M:=model prog w) X hb
 simp only[checkBuiltinCall,hk,KU]
 refine wpAny_bind ?_
 unfold isInstance
 repeat (first|(with_reducible refine L0.at ?_)|(with_reducible refine L1.at ?_)|wp_step)
 exact h
theorem KW{Q:Option Value->Shared->Prop}(X:K.In s.heap)(he:s.heap.get? x=some oe)(hc:oe.cls = .ref C)(hm:mroIn K C (.type "object")=some true)(hb:mroIn K C (.type "BaseException")=some true)
 (g1:findIn K (.ref C) "__getattribute__" = some (some (.builtin "BaseException.__getattribute__"))) (g2:findIn K (.ref C) "__getattr__" = some none)
 (g3:findIn K (.ref C) "__class__" = some (some (.builtin "object.__class__"))) (h:Q (some (.ref C)) { s with toks:=s.toks+1 }) :
 wpAny (model prog w) A (getAttr? (.ref x) "__class__") Q E s:=by
 obtain⟨hh,g,dr,t,os⟩:=s
 have L0:Looks (model prog w) hh (typeOf (.ref x)) (.ref C):=hc ▸ (Looks.ld he).andThen .now
 have L1:=looks_findIn (M:=model prog w) X g1
 have L2:=looks_findIn (M:=model prog w) X g2
 have f3:=F.excAttr_ValueError.ga.bind (.ref x)
 have fJ:(Value.builtin "BaseException.__getattribute__" == Value.builtin "object.__getattribute__")=false:=by decide +kernel
 have lI:(onTheHeap (Value.ref C) && Value.builtin "BaseException.__getattribute__" == Value.builtin "object.__getattribute__")=false:=by rw[fJ];rfl
 unfold getAttr? getAttrBy?
 repeat (any_goals (first|assumption|(with_reducible refine L0.at ?_)|(with_reducible refine L1.at ?_)|(with_reducible refine L2.at ?_)|wp_step))
 refine codeAny_call_builtin F.excAttr_ValueError.ga.plain F.entry_bexc_ga (KS X he hc hb (KR X he hc hm g3 ?_))
 repeat (any_goals (first|assumption|wp_step))
end
structure XC(K:Frag)(C:Addr):Prop where
 ex:excIn K C [.type "ValueError",.type "Exception",.type "BaseException",.type "object"] "ValueError.__new__" = true
 mo:mroIn K C (.type "object")=some true
 mb:mroIn K C (.type "BaseException")=some true
 ga:findIn K (.ref C) "__getattribute__" = some (some (.builtin "BaseException.__getattribute__"))
 gr:findIn K (.ref C) "__getattr__" = some none
 gc:findIn K (.ref C) "__class__" = some (some (.builtin "object.__class__"))
theorem XC.cls{K:Frag}{C:Addr}(x:XC K C):∃ c d cd sl,K.lookup C=some ⟨c,d,.cls cd,sl⟩:=by
 have q:=x.ex
 unfold excIn at q
 split at q
 ·rename_i dd cd sl ho
  exact⟨_,_,_,_,ho⟩
 ·cases q
theorem KY{K:Frag}{x C:Addr}(c:XC K C):KitX K (.ref x) (.ref C) (fun h=>∃ oe:Obj,h.get? x=some oe/\oe.cls = .ref C) where
 ty:=fun _ _ _ ⟨oe,he,hc⟩=>hc ▸ (Looks.ld he).andThen .now
 it:=fun y y X y=>by
  obtain⟨a,b,cd,sl,ho⟩:=c.cls
  intro A' Q' E' s' k q
  unfold isType loadHead
  exact wpAny_bind (wpAny_loadPart (k _ _ (X _ _ ho)) (wpAny_pure q))
 ne:=fun h tp dd av n sl X CL=>by
  obtain⟨a,b,cd,sl,ho⟩:=c.cls
  refine Bool.eq_false_iff.mpr fun q=>?_
  have e:C=tp:=Value.ref.inj (beq_iff_eq.mp q)
  subst e
  have z:=(X _ _ ho).symm.trans CL
  cases z
 ca:=fun X ⟨oe,he,hc⟩ k=>KW X he hc c.mo c.mb c.ga c.gr c.gc k
theorem KZ{K:Frag}{h:Heap}{C:Addr}(X:K.In h)(c:XC K C) :
 ∃ bm N nm q bs hdct sn sub ab col dd k0 k1 k2 k3 k5 mN,h.get? C=some (excClassObj nm q C N bs bm hdct sn sub ab col dd k0 k1 k2 k3 k5 "ValueError.__new__")/\h.Ns N mN/\mN "__init__" = none /\
  OwnTail h [.type "ValueError",.type "Exception",.type "BaseException",.type "object"] bm:=by
 have q:=c.ex
 unfold excIn at q
 split at q
 ·rename_i dd cd sl ho
  split at q
  ·rename_i C' bm k0 k1 k2 k3 n k5 hm hs
   simp only[Bool.and_eq_true,beq_iff_eq,Bool.not_eq_true'] at q
   obtain⟨⟨⟨⟨⟨rfl,rfl⟩,hdel⟩,ht⟩,aA⟩,hni⟩:=q
   obtain⟨nm,bs,mro,ns,qn,hd,sn,sub,ab,col,del⟩:=cd
   dsimp only at hm hdel aA hni
   subst hm hdel
   have K0:sl = #[k0,k1,k2,k3,some (.builtin "ValueError.__new__"),k5]:=by
    obtain⟨l⟩:=sl
    simp only at hs
    rw[hs]
   subst K0
   exact⟨bm,ns,nm,qn,bs,hd,sn,sub,ab,col,dd,k0,k1,k2,k3,k5,_,X _ _ ho,.of_isNs (isNs_of_in X aA),nsMap_none_of_in X aA hni,tail_of_in X ht⟩
  ·cases q
 ·cases q
end Gz
namespace Gz
open PySem PySem.Spec PyProof.Rows L2
noncomputable def iM(a C:Addr):HO:=.ext fun h=>∃ oe:Obj,h.get? a=some oe/\oe.cls = .ref C
theorem K1{P:Program}{w:World}{H:Hp}{h:Heap}{a C:Addr}{oe:Obj}(he:h.get? a=some oe)(hc:oe.cls = .ref C):bZ P w H h a (iM a C) :=
 ⟨⟨oe,he,hc⟩,⟨oe,he⟩,fun h1 h2 ⟨o,e,c⟩ k=>⟨o,k o e,c⟩⟩
section
variable{X:Cx}
def K2(K:PySem.W.Frag)(a:Addr)(c:V)(H:Hp)(Q:VK):Prop:=∃ C b,H a=some (iM a C)/\XC K C/\j6 c ≠ .none/\PySem.W.kitOne K (.ref C) (j6 c)=some b/\Q (.bl b) H
theorem jn{K:PySem.W.Frag}(hK:X.K=K):eL X (.builtin "isinstance") (fun xs H Q=>∃ a c,xs=[.ref a,c]/\K2 K a c H Q):=by
 subst hK
 intro pins s σ H xs us Q I r h
 obtain⟨a,c,rfl,C,b,ha,xc,hc,e,q⟩:=h
 obtain⟨u,v,rfl,rx,rc⟩:=vals2 r
 have ev:v=j6 c:=by
  cases c with
  | ref a=>exact rc
  | ty n=>exact rc
  | non=>exact absurd rfl hc
  | bl _=>exact absurd rfl hc
  | int _=>exact absurd rfl hc
  | str _=>exact absurd rfl hc
  | byt _=>exact absurd rfl hc
  | flt _=>exact absurd rfl hc
 subst ev
 cases (show u=Value.ref a from rx)
 obtain⟨hp,y,y⟩:=(show bZ X.prog X.w H s.heap a (iM a C) from I.aA a _ ha)
 exact PySem.W.kia_one (KY xc) I.bI hp e (fun z=>nomatch z) fun tk=>⟨.bl b,H,I.tok tk,rfl,q⟩
end
end Gz
namespace Gz
open PySem PySem.Spec PyProof.Rows L2
theorem bZ.some{P:Program}{w:World}{H:Hp}{h:Heap}{a:Addr}{o:HO}(x:bZ P w H h a o):∃ ob,h.get? a=some ob:=by
 cases o with
 | lst xs=>obtain⟨z,z,z,z,e⟩:=x;exact⟨_,e⟩
 | tup xs=>obtain⟨z,z,z,o,e,z⟩:=x;exact⟨_,e⟩
 | dK kvs=>obtain⟨z,z,z,z,o,z,z,e,z⟩:=x;exact⟨_,e⟩
 | dT kvs=>obtain⟨z,z,z,z,o,z,z,e,z⟩:=x;exact⟨_,e⟩
 | set S n=>obtain⟨o,z,z,z,e,z⟩:=x;exact⟨_,e⟩
 | ins C dx fs=>obtain⟨z,z,z,e,z⟩:=x;exact⟨_,e⟩
 | own y=>exact x
 | xd fs=>obtain⟨z,⟨z,z,z,e,z⟩,z⟩:=x;exact⟨_,e⟩
 | iF lo hi=>obtain⟨z,z,z,e⟩:=x;exact⟨_,e⟩
 | dZ ob u=>obtain⟨e,z⟩:=x;exact⟨_,e⟩
 | tbl ps=>exact⟨_,x⟩
 | met f y=>exact⟨_,x⟩
 | ext φ=>exact x.2.1
def CM(X:Cx)(E:XK):Prop:=∀ (pins:List (Addr × Obj)) (σ:L2.St) (H:Hp) (s:Shared) (e C:Addr) (vs:List Value) (h':Heap),Inv X pins σ H s->Heap.MadeExcOf s.heap h' e (.ref C) vs->E (.ref C) none H->X.xe (.ref e) { s with heap:=h' }
def v7(C:Addr)(E:XK)(ta:TA):TS:=fun D σ H=>ta σ H fun vs H1=>vs.length<=sizeLine/\E (.ref C) none H1
section
variable{X:Cx}
theorem iN{x:Str}{np eT pos:Pos}{e₀:Expr}{rest:List Expr}{ta:TA}{C:Addr}{E:XK}(hx:CM X E)(hg:Gl X x)(hm:X.mg x=some (.ref C))(xc:XC X.K C)(hc:X.calm=true)(ha:PA X (e₀::rest) ta)
 (hd:(x == ("__debug__" : Str))=false:=by decide) (he:starEach (e₀::rest) X.env=(false,eval e₀ X.env)::starEach rest X.env:=by rfl)
 (da:(backTo eT (starEach rest X.env)).any (·.1)=false:=by rfl) :
 PS X (.Raise (some (.Call (.Name x np) (e₀::rest) [] eT)) none pos) (v7 C E ta):=by
 intro pins s σ H D I h
 obtain⟨tl,N,nm,q,bs,hdct,sn,sub,ab,col,dd,k0,k1,k2,k3,k5,mN,hC,hN,hni,T⟩:=KZ I.ok.mod.kin xc
 refine wpAny_Raise_call_subU (C:=C) (nm:=nm) (q:=q) (N:=N) (bs:=bs) (bm:=tl) (hdct:=hdct) (sn:=sn) (sub:=sub) (ab:=ab) (col:=col) (dd:=dd) (k0:=k0) (k1:=k1) (k2:=k2) (k3:=k3) (k5:=k5)
  PySem.F.excBase_ValueError (by decide +kernel) PySem.F.excBase_ValueError (mN:=mN) (T.hasType PySem.F.excBase_ValueError.hasBase) (I.ok.hd hc) (by rw[he];show (false || (backTo eT (starEach rest X.env)).any (·.1))=false;rw[da];rfl) hni (lr I hg hm ⟨rfl,?_⟩ hd)
 have CN:=ha eT pins s σ H _ I h
 rw[he] at CN ⊢
 refine Calls.evalArgs_plain (wpAny_mono CN (fun us s₂ h₂=>?_) fun z z y=>y)
 obtain⟨vs,H1,I1,r,hl,hE⟩:=h₂
 exact⟨rfl,by rw[<- r.length];exact hl,I1.bk _ _ hC,hN.keeps I1.bk,T.keeps I1.bk,fun h' e hm=>hx pins σ H1 s₂ e C us h' I1 hm hE⟩
end
section
variable{P:Program}{w:World}{K:PySem.W.Frag}{mg:Str->Option Value}{base:Heap}{N:List Str}{qual:Str}{scope:Scope}{f:Addr}{cd:Value}{A:Around}{outer:List Env}{s:Shared}{H:Hp}{E:XK}
theorem CO{env:Env}{b L:Addr}(hf:env.frame=some L)(h:b∈aY (env::outer)):b=L∨b∈aY outer:=by
 unfold aY at h
 rw[List.filterMap_cons,hf] at h
 exact List.mem_cons.mp h
theorem iO:CM (eE (cW P w) P w K mg base N qual scope f cd A outer s H E) E:=by
 intro pins σ H1 s1 e C vs h1 I hx hE
 have pq:(eE (cW P w) P w K mg base N qual scope f cd A outer s H E).A.frames=some (envOfC qual scope s.heap.objs.size f cd::outer):=I.ok.frames
 have hF:s1.heap.FunFrames base (envOfC qual scope s.heap.objs.size f cd::outer):=I.stack
 have nk:∀ env∈(envOfC qual scope s.heap.objs.size f cd::outer),∀ b,env.frame=some b->b∈aY (envOfC qual scope s.heap.objs.size f cd::outer):=fun env he b hb=>List.mem_filterMap.mpr ⟨env,he,hb⟩
 have K3:∀ b∈aY (envOfC qual scope s.heap.objs.size f cd::outer),H1 b=none:=I.oK
 have mV:∀ b o,s.heap.get? b=some o->b≠s.heap.objs.size:=fun b o e=>Nat.ne_of_lt (Heap.lt_size e)
 have jf:∀ b o,s.heap.get? b=some o->b∉aY outer->b∉aY (envOfC qual scope s.heap.objs.size f cd::outer):=fun b o e hb z=>by
  rcases CO rfl z with z|z
  ·exact mV b o e z
  ·exact hb z
 have ub:Un (aY outer) [] H H1 s.heap s1.heap:=I.base
 refine wpAny_leaves_madeW (base:=PySem.W.hideAll s1.heap (aY (envOfC qual scope s.heap.objs.size f cd::outer))) pq rfl (fun b o q=>PySem.W.of_hideAll _ q) (PySem.W.funFrames_hide hF nk) hx fun h' t fl tup bt up=>?_
 have stays:=fl.1
 have nq:∀ b o,s1.heap.get? b=some o->b∉aY (envOfC qual scope s.heap.objs.size f cd::outer)->(PySem.W.hideAll s1.heap (aY (envOfC qual scope s.heap.objs.size f cd::outer))).get? b=some o:=fun b o q hb=>PySem.W.hideAll_get _ q hb
 have j7:∀ b∈aY (envOfC qual scope s.heap.objs.size f cd::outer),∀ o,s1.heap.get? b=some o->∃ sl,h'.get? b=some { o with slots:=sl }:=fun b hb o q=>by
  obtain⟨y,o',cJ,hnf⟩:=hF.mem hb
  rw[q] at cJ;cases cJ
  exact up b o (hx.keeps b o q) hnf
 refine⟨e,.ref C,.ref t,H1,_,rfl,I.os,I.bare,⟨fun b o q n hb dv=>?_,fun b o q n hb dv=>?_,ub.free,fun b o q dv=>?_,ub.dG,ub.d6,ub.eu⟩,fun b o q n hb=>?_,fun b o q hb=>?_,fun a o q=>?_,?_,?_,fl,hE⟩
 ·exact stays b o (nq b o (ub.keep b o q n hb dv) (jf b o q hb))
 ·obtain⟨sl,e1⟩:=ub.slot b o q n hb dv
  obtain⟨hJ,e2⟩:=j7 b (by unfold aY;rw[List.filterMap_cons];exact List.mem_cons_of_mem _ hb) _ e1
  exact⟨hJ,e2⟩
 ·obtain⟨o',e1⟩:=ub.there b o q dv
  by_cases hb:b∈aY (envOfC qual scope s.heap.objs.size f cd::outer)
  ·obtain⟨sl,e2⟩:=j7 b hb o' e1
   exact⟨_,e2⟩
  ·exact⟨o',stays b o' (nq b o' e1 hb)⟩
 ·exact nq b o (ub.keep b o q n hb (by simp)) (jf b o q hb)
 ·obtain⟨o',e1⟩:=ub.there b o q (by simp)
  exact⟨o',nq b o' e1 (jf b o q hb)⟩
 ·refine (I.aA a o q).stay (fun b u hb z=>nq b u z fun hm=>?_) (fun y z=>z) fun y y z=>z
  have:=K3 b hm
  rcases hb with hb|hb
  ·rw[hb,q] at this;cases this
  ·rw[hb] at this;cases this
 ·cases q:H1 e with
  | none=>rfl
  | some u =>
   obtain⟨ob,z⟩:=bZ.some (I.aA e u q)
   rw[hx.new] at z;cases z
 ·cases q:s.heap.get? e with
  | none=>rfl
  | some u =>
   obtain⟨o',z⟩:=ub.there e u q (by simp)
   rw[hx.new] at z;cases z
theorem cS:Passes (cW P w) (eE (cW P w) P w K mg base N qual scope f cd A outer s H E) E:=by
 intro pins σ H1 s1 ev s2 I cx
 obtain⟨x,cls,a0,H',B,rfl,os,bare,un,kb,tb,aA,hx,hn,fl,hE⟩:=cx
 have pq:(eE (cW P w) P w K mg base N qual scope f cd A outer s H E).A.frames=some (envOfC qual scope s.heap.objs.size f cd::outer):=I.ok.frames
 have hF:s1.heap.FunFrames base (envOfC qual scope s.heap.objs.size f cd::outer):=I.stack
 have mV:∀ b o,s.heap.get? b=some o->b≠s.heap.objs.size:=fun b o e=>Nat.ne_of_lt (Heap.lt_size e)
 have jf:∀ b o,s.heap.get? b=some o->b∉aY outer->b∉aY (envOfC qual scope s.heap.objs.size f cd::outer):=fun b o e hb z=>by
  rcases CO rfl z with z|z
  ·exact mV b o e z
  ·exact hb z
 have K4:∀ b,b∈aY outer->b∈aY (envOfC qual scope s.heap.objs.size f cd::outer):=fun b hb=>by
  unfold aY;rw[List.filterMap_cons];exact List.mem_cons_of_mem _ hb
 have ub:Un (aY outer) [] H H1 s.heap s1.heap:=I.base
 have CP:Un (aY (envOfC qual scope s.heap.objs.size f cd::outer)) [] H1 H' s1.heap s2.heap:=un
 have CQ:∀ b o,s1.heap.get? b=some o->H1 b=none->b∉aY (envOfC qual scope s.heap.objs.size f cd::outer)->B.get? b=some o:=kb
 have ic:∀ b o,s1.heap.get? b=some o->b∉aY (envOfC qual scope s.heap.objs.size f cd::outer)->∃ o',B.get? b=some o':=tb
 have v8:∀ b∈aY (envOfC qual scope s.heap.objs.size f cd::outer),H1 b=none:=I.oK
 refine wpAny_leaves_onW pq rfl fl fun h' sJ up=>?_
 have stays:=sJ.1
 have j7:∀ b∈aY (envOfC qual scope s.heap.objs.size f cd::outer),∀ o,s1.heap.get? b=some o->∃ sl,h'.get? b=some { o with slots:=sl }:=fun b hb o q=>by
  obtain⟨y,o',cJ,hnf⟩:=hF.mem hb
  rw[q] at cJ;cases cJ
  obtain⟨sl,e1⟩:=CP.slot b o q (v8 b hb) hb (by simp)
  obtain⟨hJ,e2⟩:=up b _ e1 hnf
  exact⟨hJ,e2⟩
 refine⟨x,cls,a0,H',B,rfl,os.trans I.os,bare,⟨fun b o q n hb dv=>?_,fun b o q n hb dv=>?_,fun b o q n dv=>?_,fun b o q dv=>?_,fun b xs q=>un.dG _ _ (ub.dG _ _ q),fun b o u q=>un.d6 _ _ _ (ub.d6 _ _ _ q),fun b ps q=>?_⟩,fun b o q n hb=>?_,fun b o q hb=>?_,aA,hx,?_,sJ,hE⟩
 ·exact stays b o (CQ b o (ub.keep b o q n hb dv) (ub.free b o q n dv) (jf b o q hb))
 ·obtain⟨sl,e1⟩:=ub.slot b o q n hb dv
  obtain⟨hJ,e2⟩:=j7 b (K4 b hb) _ e1
  exact⟨hJ,e2⟩
 ·obtain⟨o',e1⟩:=ub.there b o q dv
  exact CP.free b o' e1 (ub.free b o q n dv) (by simp)
 ·obtain⟨o',e1⟩:=ub.there b o q dv
  by_cases hb:b∈aY (envOfC qual scope s.heap.objs.size f cd::outer)
  ·obtain⟨sl,e2⟩:=j7 b hb o' e1
   exact⟨_,e2⟩
  ·obtain⟨o2,e2⟩:=ic b o' e1 hb
   exact⟨o2,stays b o2 e2⟩
 ·obtain⟨m1,e1⟩:=ub.eu b ps q
  obtain⟨m2,e2⟩:=un.eu b _ e1
  exact⟨m1++m2,by rw[e2,Array.append_assoc]⟩
 ·exact CQ b o (ub.keep b o q n hb (by simp)) (ub.free b o q n (by simp)) (jf b o q hb)
 ·obtain⟨o',e1⟩:=ub.there b o q (by simp)
  exact ic b o' e1 (jf b o q hb)
 ·cases q:s.heap.get? x with
  | none=>rfl
  | some u =>
   obtain⟨o',z⟩:=ub.there x u q (by simp)
   rw[hn] at z;cases z
theorem ie{x qual:Str}{st:Stmt}{f:Addr}{fd:FuncData}{N ps:List Str}{k:Nat}{sp:Sp}(F:iL K x qual st f fd)(S:nc N ps (cR st))(len:∀ vs H Q E,sp vs H Q E->vs.length=ps.length)
 (fu:∀ (bh:Value) (A:Around) (outer:List Env) (s:Shared) (H:Hp) (vs:List V) (Q:VK) (E:XK),ba k (A.deeper (envOfC qual (cR st) s.heap.objs.size f bh))->sp vs H Q E ->
   ∃ t,aS (eE (cW P w) P w K mg base N qual (cR st) f bh A outer s H E) (fH st) t/\t { nx:=fun y H'=>Q .non H',rt:=Q } (start N vs) H):cc P w K mg base (cW P w) (k+1) f fd ps sp:=by
 obtain⟨oc,od,kV,doc,pm,an,bh,ct,hW,rfl,lk,fg⟩:=F.ex
 refine vE lk fg S len fun A outer s H vs Q E hr iI=>?_
 exact fu bh A outer s H vs Q E hr iI
end
end Gz
namespace Gz
open PySem PySem.Spec PyProof.Rows L2
noncomputable abbrev Xp(X:Cx)(F:Value->Shared->Prop)(pn:List (Addr × Obj)):Cx:={ X with xe:=F,pn:=pn }
noncomputable abbrev Xh(X:Cx)(A':Around)(pn:List (Addr × Obj)):Cx:={ X with A:=A',calm:=false,xe:=fun y y=>False,pn:=pn }
section
variable{X:Cx}{F:Value->Shared->Prop}{pins pn:List (Addr × Obj)}{σ:L2.St}{H:Hp}{s:Shared}{A':Around}
theorem K5(ok:X.Ok):(Xp X F pn).Ok:=⟨ok.mod,ok.kind,ok.glob,ok.blt,ok.above,ok.inj,ok.has,ok.cab,ok.hd,ok.frames,ok.bq,ok.exf,ok.bs,ok.bsz,ok.noex,ok.exfs,ok.ff,ok.frf⟩
theorem CS(ok:(Xp X F pn).Ok):X.Ok:=⟨ok.mod,ok.kind,ok.glob,ok.blt,ok.above,ok.inj,ok.has,ok.cab,ok.hd,ok.frames,ok.bq,ok.exf,ok.bs,ok.bsz,ok.noex,ok.exfs,ok.ff,ok.frf⟩
theorem K6(ok:X.Ok)(hA:A'.frames=X.A.frames):(Xh X A' pn).Ok:=⟨ok.mod,ok.kind,ok.glob,ok.blt,ok.above,ok.inj,ok.has,ok.cab,(fun z=>nomatch z),hA.trans ok.frames,ok.bq,ok.exf,ok.bs,ok.bsz,ok.noex,ok.exfs,ok.ff,ok.frf⟩
theorem K7(I:Inv X pins σ H s):Inv (Xp X F (X.pn++pins)) [] σ H s:=⟨K5 I.ok,I.os,I.bare,I.base,I.loc,I.cell,I.free,I.fD,fun p hp=>I.pin p (by simpa using hp),I.aA,I.len⟩
theorem sL(I:Inv (Xp X F (X.pn++pins)) [] σ H s):Inv X pins σ H s:=⟨CS I.ok,I.os,I.bare,I.base,I.loc,I.cell,I.free,I.fD,fun p hp=>I.pin p (by simpa using hp),I.aA,I.len⟩
theorem CT{lq:List (Addr × Obj)}(I:Inv (Xp X F pn) lq σ H s)(hA:A'.frames=X.A.frames):Inv (Xh X A' pn) [] σ H s :=
 ⟨K6 (CS I.ok) hA,I.os,I.bare,I.base,I.loc,I.cell,I.free,I.fD,fun p hp=>I.pin p (by simp at hp;exact List.mem_append_left _ hp),I.aA,I.len⟩
theorem SP.K8{D:Ends}{f:Flow}{s':Shared}(h:SP (Xp X F (X.pn++pins)) [] D f s'):SP X pins D f s':=by
 cases f with
 | next=>obtain⟨σ',H',I,q⟩:=h;exact⟨σ',H',sL I,q⟩
 | brk=>obtain⟨σ',H',I,q⟩:=h;exact⟨σ',H',sL I,q⟩
 | cont=>obtain⟨σ',H',I,q⟩:=h;exact⟨σ',H',sL I,q⟩
 | ret u=>obtain⟨v,σ',H',I,r,q⟩:=h;exact⟨v,σ',H',sL I,r,q⟩
theorem sM{M:Model}{A:Around}{E:Value->Shared->Prop}{n:Str}{i:Nat}{d8:Pos}{Q:Unit->Shared->Prop}(ie:X.Ok)(I:Inv (Xh X A' (X.pn++pins)) [] σ H s)(hN:X.N.Nodup)(hi:X.N[i]?=some n)(hl:X.env.scope.names.lookup n=some .local)
 (h:∀ s',Inv X pins (σ.set i none) H s'->Q () s'):wpAny M A (do bindName X.env n .none;unbindBehindTheSuite X.env n d8) Q E s:=by
 obtain⟨m,hn,hlk⟩:=id I.loc
 have u7:(X.env.scope.kind == .class || (X.env.scope.kind == .module && X.env.locals != X.env.globals))=false:=by rw[I.ok.kind];rfl
 have fE:∀ x c,X.env.cells.lookup x=some c->c≠X.env.locals:=I.fE
 have CU:H X.env.locals=none:=I.free
 obtain⟨oL,u,u,Bl,u⟩:=id hn
 refine wpAny_nameGoes_keeps hl hn u7 fun h' v u9 hs=>?_
 have tracked:bV X.prog X.w H h':=fun b ob e=>by
  refine (I.aA b ob e).stay (fun c w' hc q=>(hs.2 c ?_).trans q) (fun u q=>q) fun u u q=>q
  rintro rfl
  rcases hc with hc|hc
  ·rw[<- hc,CU] at e;cases e
  ·rw[CU] at hc;cases hc
 have lJ:X.s₀.heap.objs.size<=X.env.locals:=ie.above
 refine h _ ⟨ie,I.os,I.bare,⟨fun b o e nn hb hx=>?_,fun b o e nn hb hx=>?_,I.base.free,fun b o e hx=>?_,I.base.dG,I.base.d6,I.base.eu⟩,⟨_,u9,fun j y v' e1 e2 e3=>?_⟩,fun y c e=>?_,I.free,I.fD,fun p hp=>?_,tracked,by simpa using I.len⟩
 ·exact (hs.2 b (Nat.ne_of_lt (Nat.lt_of_lt_of_le (Heap.lt_size e) lJ))).trans (I.base.keep b o e nn hb hx)
 ·obtain⟨sl,e1⟩:=I.base.slot b o e nn hb hx
  exact⟨sl,(hs.2 b (Nat.ne_of_lt (Nat.lt_of_lt_of_le (Heap.lt_size e) lJ))).trans e1⟩
 ·obtain⟨o',e1⟩:=I.base.there b o e hx
  exact⟨o',(hs.2 b (Nat.ne_of_lt (Nat.lt_of_lt_of_le (Heap.lt_size e) lJ))).trans e1⟩
 ·have CV:j≠i:=by
   rintro rfl
   by_cases cw:j<σ.length
   ·rw[List.getElem?_set_self cw] at e2;cases e2
   ·rw[List.getElem?_eq_none (by rw[List.length_set];lia)] at e2;cases e2
  rw[List.getElem?_set_ne (Ne.symm CV)] at e2
  obtain⟨u',r',q⟩:=hlk j y v' e1 e2 e3
  refine⟨u',r',?_⟩
  rcases q with ⟨k,e⟩|⟨k,c,e,z⟩
  ·refine .inl ⟨k,?_⟩
   have:y≠n:=fun e=>CV (uZ hN e1 (e ▸ hi))
   simp[this,e]
  ·exact .inr ⟨k,c,e,z.sameBut hs (fE y c e)⟩
 ·obtain⟨w',z⟩:=I.cell y c e
  exact⟨w',z.sameBut hs (fE y c e)⟩
 ·obtain⟨e,nn,ne,nf,d⟩:=I.pin p (by simpa using hp)
  exact⟨(hs.2 p.1 ne).trans e,nn,ne,nf,d⟩
end
theorem nr{K:PySem.W.Frag}{C G:Addr}{cd:ClassData}{b:Bool}(h1:PySem.W.clsIn K G=some cd)(h2:PySem.W.typeIn K (.ref G)=some (.type "type"))(h3:PySem.W.subIn K (.ref C) (.ref G)=some b)(h4:PySem.W.subIn K (.ref G) (.type "BaseException")=some true) :
 PySem.W.exmOne K (.ref C) (.ref G)=some b:=by
 unfold PySem.W.exmOne
 rw[if_pos (by rw[h4];rfl)]
 show (if ((PySem.W.clsIn K G).isSome && PySem.W.typeIn K (.ref G) == some (.type "type"))=true then PySem.W.subIn K (.ref C) (.ref G) else none)=some b
 rw[if_pos (by rw[h1,h2];rfl)]
 exact h3
end Gz
namespace Gz
open PySem PySem.Spec PyProof.Rows L2
local macro_rules | `(tactic| walk_at "om") => `(tactic| ((try simp only [PySem.Addr] at *); lia))
inductive fV(X:Cx)(scope:Scope)(cl:List (Str × Addr)):List Nat->List Str->Prop where
 | nil:fV X scope cl [] []
 | cons {j:Nat} {y:Str} {c:Addr} {js:List Nat} {ys:List Str} (hN:X.N[j]?=some y) (hk:X.env.kindOf y=some .cell) (h1:cl.lookup y=some c) (h2:X.env.cells.lookup y=some c) (h:fV X scope cl js ys):fV X scope cl (j::js) (y::ys)
inductive ig(X:Cx):List (Str × Addr)->Prop where
 | nil:ig X []
 | cons {n:Str} {a:Addr} {r:List (Str × Addr)} (h:X.env.cells.lookup n=some a) (t:ig X r):ig X ((n,a)::r)
theorem ig.get{X:Cx}:∀ {cl:List (Str × Addr)},ig X cl->∀ y c,cl.lookup y=some c->X.env.cells.lookup y=some c
 | _,.nil,y,c,e=>by simp at e
 | _,.cons (n:=n) h t,y,c,e=>by
  rw[List.lookup_cons] at e
  by_cases hy:(y == n)=true
  ·rw[hy] at e
   have e1:y=n:=by simpa using hy
   cases e
   rw[e1];exact h
  ·rw[Bool.eq_false_iff.mpr hy] at e
   exact t.get y c e
theorem fV.get{X:Cx}{scope:Scope}{cl:List (Str × Addr)}{σ:L2.St}:∀ {js:List Nat} {ys:List Str},fV X scope cl js ys->∀ (i:Nat) (y:Str) (v:V),ys[i]?=some y->(js.map fun j=>(σ[j]?).join)[i]?=some (some v) ->
 ∃ (j:Nat) (c:Addr),X.N[j]?=some y/\σ[j]?=some (some v)/\X.env.kindOf y=some .cell/\cl.lookup y=some c/\X.env.cells.lookup y=some c
 | _,_,.nil,i,y,v,e,_=>by simp at e
 | _,_,.cons (j:=j) hN hk h1 h2 h,0,y,v,e,q=>by
  simp at e q
  subst e
  refine⟨j,_,hN,?_,hk,h1,h2⟩
  cases z:σ[j]? with
  | none=>rw[z] at q;simp at q
  | some o=>rw[z] at q;simp at q;rw[q]
 | _,_,.cons hN hk h1 h2 h,i+1,y,v,e,q=>by
  simp only[List.getElem?_cons_succ,List.map_cons] at e q
  exact h.get i y v e q
theorem fV.len{X:Cx}{scope:Scope}{cl:List (Str × Addr)}:∀ {js:List Nat} {ys:List Str},fV X scope cl js ys->js.length=ys.length
 | _,_,.nil=>rfl
 | _,_,.cons _ _ _ _ h=>by simp[h.len]
noncomputable def eG(X:Cx)(N':List Str)(scope:Scope)(cl:List (Str × Addr))(C:Addr)(s2:Shared)(H2:Hp)(ex:List Addr)(pn:List (Addr × Obj)):Cx :=
 { X with N:=N',s₀:=s2,H₀:=H2,env:=compEnvC scope cl C X.env,outer:=X.stack,ex:=ex,fn:=fun y=>false,pn:=pn,xe:=fun y y=>False }
structure lK(X:Cx)(x:Str)(scope:Scope)(cl:List (Str × Addr))(fr:List Nat)(ys:List Str):Prop where
 clos:closureFor scope X.env=pure cl
 nocell:(scope.names.all fun p=>p.2 != .cell)=true
 kind:scope.kind = .function
 names:(scope.names.all fun p=>p.2 != .local || scope.names.lookup p.1 == some .local)=true
 own:scope.names.lookup x=some .local
 kinds:((relabel scope X.env).names.all fun p=>(p.2 != .cell && p.2 != .free) || (cl.lookup p.1).isSome)=true
 cls:ig X cl
 aY:fV X scope cl fr ys
 nd:(x::ys).Nodup
 kfr:(ys.all fun y=>(relabel scope X.env).names.lookup y == some .cell)=true
def lL(X:Cx)(ifs:List Expr)(t:TT):Prop :=
 ∀ (pins:List (Addr × Obj)) (s:Shared) (σ:L2.St) (H:Hp) (Q:Bool->Hp->Prop),Inv X pins σ H s->t σ H Q ->
  wpAny (model X.prog X.w) X.A (forIn ifs true fun c r=>if r=true then do let ok <- isTrue c X.env (eval c X.env);pure (ForInStep.yield ok) else pure (ForInStep.yield r)) (TP X pins σ Q) X.xe s
def CW:TT:=fun y H Q=>Q true H
theorem eU{X:Cx}:lL X [] CW:=fun y y y H y I h=>wpAny_tests_nil ⟨H,I,h⟩
def pw(J:It)(ρ:L2.St)(tt:TT)(te:TE)(H:Hp)(Q:VK):Prop:=∃ W:Nat->Nat->List V->Hp->Prop,(∃ m,W 0 m [] H)/\∀ i m ys H,W i m ys H ->
 (J.stop i H/\ys.length<=sizeLine/\∀ l,H l=none->Q (.ref l) (upd H l (.lst ys)))∨(J.go i H/\ys.length<sizeLine/\∃ N:List V->Hp->Prop,(∀ zs H',N zs H'->∃ m',m'<m/\W (i+1) m' zs H') /\
  ∀ x H',J.yld i H x H'->tt (some x::ρ) H' fun b H1=>if b=true then te (some x::ρ) H1 fun y H2=>N (ys++[y]) H2 else N ys H1)
def v9(wi:TI)(fr:List Nat)(tt:TT)(te:TE):TE:=fun σ H Q=>wi σ H fun J H1=>pw J (fr.map fun j=>(σ[j]?).join) tt te H1 Q
structure pz(X:Cx)(own:List Str)(scope:Scope)(cl:List (Str × Addr))(fr:List Nat)(ys:List Str):Prop where
 clos:closureFor scope X.env=pure cl
 nocell:(scope.names.all fun p=>p.2 != .cell)=true
 kind:scope.kind = .function
 names:(scope.names.all fun p=>p.2 != .local || scope.names.lookup p.1 == some .local)=true
 kinds:((relabel scope X.env).names.all fun p=>(p.2 != .cell && p.2 != .free) || (cl.lookup p.1).isSome)=true
 cls:ig X cl
 aY:fV X scope cl fr ys
 kfr:(ys.all fun y=>(relabel scope X.env).names.lookup y == some .cell)=true
def nt(k:Nat)(J:It)(g:TG)(ρ:L2.St)(tt:TT)(te:TE)(H:Hp)(Q:VK):Prop:=∃ W:Nat->Nat->List V->Hp->Prop,(∃ m,W 0 m [] H)/\∀ i m ys H,W i m ys H ->
 (J.stop i H/\ys.length<=sizeLine/\∀ l,H l=none->Q (.ref l) (upd H l (.lst ys)))∨(J.go i H/\ys.length<sizeLine/\∃ N:List V->Hp->Prop,(∀ zs H',N zs H'->∃ m',m'<m/\W (i+1) m' zs H') /\
  ∀ os:List (Option V),os.length=k->∀ x H',J.yld i H x H'->g x (os++ρ) H' fun σ2 H2=>∃ su,su.length=k/\σ2=su++ρ/\tt σ2 H2 fun b H1=>if b=true then te σ2 H1 fun y H2=>N (ys++[y]) H2 else N ys H1)
def K9(k:Nat)(wi:TI)(g:TG)(fr:List Nat)(tt:TT)(te:TE):TE:=fun σ H Q=>wi σ H fun J H1=>nt k J g (fr.map fun j=>(σ[j]?).join) tt te H1 Q
theorem La{prog:Program}{w:World}{A:Around}{s:Shared}{R:Result->Shared->Prop}{elt target iter:Expr}{ifs:List Expr}{scope:Scope}{pos:Pos}{it acc:Value}{env:Env}(I:Nat->Shared->Prop)
 (turn:∀ n s,I n s->wpAny (model prog w) A (pyNext it) (fun r s₁=>match r with
   | none=>R (.ok .next) s₁
   | some v=>wpAny (model prog w) A (letOwnedTupleGo target it v) (fun _ CY=>wpAny (model prog w) A (assign target env v) (fun _ s₂ =>
    wpAny (model prog w) A (forIn ifs true fun c r=>if r=true then do let ok <- isTrue c env (eval c env);pure (ForInStep.yield ok) else pure (ForInStep.yield r)) (fun ok s₃ =>
     if ok=true then wpAny (model prog w) A (eval elt env) (fun x s₄ =>
      wpAny (model prog w) A (call (.builtin "list.append") [acc,x]) (fun _ s₅=>∃ m,m<n/\I m s₅) (notedBy (model prog w) A env fun e s'=>R (.error e) s') s₄) (notedBy (model prog w) A env fun e s'=>R (.error e) s') s₃
     else ∃ m,m<n/\I m s₃) (notedBy (model prog w) A env fun e s'=>R (.error e) s') s₂) (notedBy (model prog w) A env fun e s'=>R (.error e) s') CY) (notedBy (model prog w) A env fun e s'=>R (.error e) s') s₁) (notedBy (model prog w) A env fun e s'=>R (.error e) s') s)
 (n:Nat) (h:I n s) :
 codeAny (model prog w) A (.compLoop (.ListComp elt [⟨target,iter,ifs,0⟩] scope pos) 0 it acc env) R s:=by
 refine codeAny_loop rfl I (fun n s hI=>?_) n h
 show wpAny _ A ((compTurn (.ListComp elt [⟨target,iter,ifs,0⟩] scope pos) 0 it acc env).onRaise (fun x=>do noteFrame x env;theTreesLotGoes x)) _ _ s
 refine wpAny_noted ?_
 rw[compTurn_list]
 refine wpAny_bind (wpAny_standAt (wpAny_bind (wpAny_mono (turn n s hI) (fun r s₁ h₁=>?_) fun _ _ h'=>h')))
 cases r with
 | none=>exact wpAny_pure h₁
 | some v =>
  refine wpAny_bind (wpAny_mono h₁ (fun _ CY Lb=>?_) fun _ _ h'=>h')
  refine wpAny_bind (wpAny_mono Lb (fun _ s₂ h₂=>wpAny_bind (wpAny_mono h₂ (fun ok s₃ h₃=>?_) fun _ _ h'=>h')) fun _ _ h'=>h')
  cases ok with
  | false=>exact wpAny_pure ⟨rfl,h₃⟩
  | true =>
   exact wpAny_bind (wpAny_bind (wpAny_mono h₃ (fun x s₄ h₄=>wpAny_bind (wpAny_mono h₄ (fun _ s₅ h₅=>wpAny_pure (wpAny_pure ⟨rfl,h₅⟩)) fun _ _ h'=>h')) fun _ _ h'=>h'))
theorem CZ{l:List (Str × NameKind)}{p:Str × NameKind->Bool}(h:l.all p=true){y:Str}{k:NameKind}(e:l.lookup y=some k):p (y,k)=true:=by
 exact List.all_eq_true.mp h _ (PySem.mem_of_lookup e)
def wa(i:Nat)(te:TE):TS:=fun D σ H=>te σ H fun v H1=>D.nx (σ.set i (some v)) H1
section
variable{X:Cx}{pins:List (Addr × Obj)}{σ:L2.St}{H2:Hp}{s2:Shared}{own:List Str}{tg:Expr}{g:TG}{pos:Pos}{elt iter:Expr}{ifs:List Expr}{scope:Scope}{cl:List (Str × Addr)}{fr:List Nat}{ys:List Str}{tt:TT}{te:TE}
theorem Lc{C:Addr}{ex:List Addr}{pn:List (Addr × Obj)}(S:pz X own scope cl fr ys)(I2:Inv X pins σ H2 s2)(f2:∀ b∈ex,fS X pins H2 b)(hC:s2.heap.objs.size<=C)(hex:∀ b∈ex,b<s2.heap.objs.size):(eG X (own++ys) scope cl C s2 H2 ex pn).Ok:=by
 refine⟨I2.ok.mod,S.kind,I2.ok.glob,I2.ok.blt,hC,fun a b c h1 h2=>?_,fun y hy=>?_,fun v v z=>(nomatch z),I2.ok.hd,I2.ok.frames,.inl rfl,fun b hb=>⟨?_,fun y c e z=>?_⟩,I2.bs,Nat.le_trans I2.ok.bsz I2.sz,fun b o e hb=>?_,fun b hb z=>?_,I2.stack,I2.oK⟩
 ·exact I2.ok.inj a b c (S.cls.get a c h1) (S.cls.get b c h2)
 ·have vR:(relabel scope X.env).names.lookup y=some .cell∨(relabel scope X.env).names.lookup y=some .free:=hy
  have q:(cl.lookup y).isSome=true:=by
   rcases vR with e|e
   ·simpa using CZ S.kinds e
   ·simpa using CZ S.kinds e
  exact Option.isSome_iff_exists.mp q
 ·exact Nat.ne_of_lt (Nat.lt_of_lt_of_le (hex b hb) hC)
 ·exact (f2 b hb).2.2.2.2.1 y c (S.cls.get y c e) z
 ·obtain⟨v,v,v,d,v,v⟩:=f2 b hb
  rcases d with d|d
  ·exact I2.ok.noex b o e d
  ·exact absurd (Nat.lt_of_lt_of_le (Heap.lt_size e) (Nat.le_trans I2.ok.bsz d)) (Nat.lt_irrefl _)
 ·obtain⟨v,d1,d2,v⟩:=f2 b hb
  rcases List.mem_cons.mp (I2.mU b z) with q|q
  ·exact d1 q
  ·exact d2 q
noncomputable def ij(X:Cx)(N':List Str)(fn:Str->Bool)(scope:Scope)(cl:List (Str × Addr))(C:Addr)(s2:Shared)(H2:Hp)(ex:List Addr)(pn:List (Addr × Obj)):Cx :=
 { X with N:=N',s₀:=s2,H₀:=H2,env:=compEnvC scope cl C X.env,outer:=X.stack,ex:=ex,fn:=fn,pn:=pn,xe:=fun y y=>False }
theorem C0{C D:Addr}{fp:List Addr}(I2:Inv X pins σ H2 s2)(f2:∀ b∈fp,fS X pins H2 b)(hC:s2.heap.objs.size<=C)(hD:s2.heap.objs.size<=D):∀ p∈X.pn++pins,p.1≠C/\p.1≠D/\p.1∉aY X.stack/\∀ b∈fp,p.1≠b:=fun p hp=>by
 obtain⟨e,n,nL,nf,y⟩:=I2.pin p hp
 have lt:=Heap.lt_size e
 refine⟨by walk_at "om",by walk_at "om",fun z=>?_,fun b hb=>(f2 b hb).2.2.2.2.2 p hp⟩
 rcases List.mem_cons.mp (I2.mU _ z) with q|q
 ·exact nL q
 ·exact nf q
theorem Ld{J:It}{fp:List Addr}{it C D:Addr}{tn:Nat->Heap->Prop}{Q:VK}{RR:Value->Addr->Result->Shared->Prop}{nm:List Str}{fn:Str->Bool}{k:Nat}{wb ρ:List (Option V)}{h1:Heap}{tk:Nat}
 (hc:X.calm=true) (hg:PG (ij X nm fn scope cl C s2 H2 fp (X.pn++pins)) tg g) (hb:lL (ij X nm fn scope cl C s2 H2 fp (X.pn++pins)) ifs tt/\PE (ij X nm fn scope cl C s2 H2 fp (X.pn++pins)) elt te)
 (I2:Inv X pins σ H2 s2) (T:Turn X.prog X.w X.K tg J fp it tn) (hV:tn 0 s2.heap) (f2:∀ b∈fp,fS X pins H2 b)
 (h:nt k J g ρ tt te H2 Q)
 (wc:∀ D C s' H',Inv X pins σ H' s'->(∃ m,s'.heap.Ns C m)->fS X pins H' C->Q (.ref D) H'->RR (.ref D) C (.ok .next) s')
 (jk:wb.length=k) (I4:Inv (ij X nm fn scope cl C s2 H2 fp (X.pn++pins)) [] (wb++ρ) H2 { s2 with heap:=h1,toks:=tk }) (keep:∀ b o,s2.heap.get? b=some o->h1.get? b=some o)
 (hD:h1.get? D=some { cls:=.type "list",data:=.seq ([]:List Value).toArray 0 }) (eD:s2.heap.objs.size=D) (eC:s2.heap.objs.size+1=C)
 (fW:∀ y c,cl.lookup y=some c->c≠D/\∀ b∈fp,c≠b) :
 codeAny (model X.prog X.w) X.A (.compStart (.ListComp elt [⟨tg,iter,ifs,0⟩] scope pos) 0 (.ref it) (.ref D) (compEnvC scope cl C X.env)) (RR (.ref D) C) { s2 with heap:=h1,toks:=tk }:=by
 obtain⟨W,⟨m0,w0⟩,turn⟩:=h
 have lM:D≠C:=by walk_at "om"
 have nu:s2.heap.objs.size<=C:=by walk_at "om"
 have pA:s2.heap.objs.size<=D:=by walk_at "om"
 have lN:∀ b∈fp,b<D:=fun b hb=>by
  obtain⟨o,e,_⟩:=T.obj 0 _ hV b hb
  exact eD ▸ Heap.lt_size e
 have Le:∀ b,D<=b->b∉aY X.stack:=fun b hle z=>by
  rcases List.mem_cons.mp (I2.mU b z) with q|q
  ·have:=I2.lt;walk_at "om"
  ·exact I2.Bi (eD ▸ hle) q
 have we:=C0 I2 f2 nu pA
 have C1:tn 0 h1:=T.keep 0 _ _ hV fun b _ o e=>keep b o e
 have wg:∀ (H':Hp) (o:Obj),(∀ b∈fp,H' b=none)->∀ b∈fp,fS (ij X nm fn scope cl C s2 H2 fp (X.pn++pins)) [(D,o)] H' b:=fun H' o hn b hb=>by
  obtain⟨_,d1,d2,d3,d4,d5⟩:=f2 b hb
  have lt:=lN b hb
  refine⟨hn b hb,?_,fun z=>?_,.inl hb,fun y c e z=>(fW y c e).2 b hb z,fun p hp=>?_⟩
  ·show b≠C
   walk_at "om"
  ·rcases List.mem_cons.mp (I2.mU b z) with q|q
   ·exact d1 q
   ·exact d2 q
  ·have nv:p∈(X.pn++pins)++[(D,o)]:=hp
   rcases List.mem_append.mp nv with z|z
   ·exact d5 p z
   ·have:p=(D,o):=by simpa using z
    subst this
    show D≠b
    walk_at "om"
 have loop:∀ s':Shared,s' = { s2 with heap:=h1,toks:=tk } ->
  codeAny (model X.prog X.w) X.A (.compLoop (.ListComp elt [⟨tg,iter,ifs,0⟩] scope pos) 0 (.ref it) (.ref D) (compEnvC scope cl C X.env)) (RR (.ref D) C) s':=by
  rintro s' rfl
  refine La (fun n s'=>∃ i zs H' os av nn,os.length=k/\Inv (ij X nm fn scope cl C s2 H2 fp (X.pn++pins)) [] (os++ρ) H' s'/\tn i s'.heap/\(∀ b∈fp,H' b=none)/\H' D=none /\
   s'.heap.get? D=some { cls:=.type "list",data:=.seq (av:List Value).toArray nn }/\Vals zs av/\W i n zs H') ?_ m0 ⟨0,[],H2,wb,[],0,jk,I4,C1,fun b hb=>(f2 b hb).1,I2.aA.fresh pA,hD,.nil,w0⟩
  rintro n s3 ⟨i,zs,H3,C2,av,nn,Lf,I3,oX,oY,wj,Lg,r3,w3⟩
  have C3:Inv (ij X nm fn scope cl C s2 H2 fp (X.pn++pins)) [(D,{ cls:=.type "list",data:=.seq av.toArray nn })] (C2++ρ) H3 s3:=I3.oO fun p hp=>by
   have:p=(D,{ cls:=.type "list",data:=.seq av.toArray nn }):=by simpa using hp
   subst this
   exact⟨Lg,wj,lM,Le D (Nat.le_refl _),fun v z=>nomatch z⟩
  rcases turn i n zs H3 w3 with ⟨stop,hlen,q⟩|⟨go,hlen,N,C4,step⟩
  ·refine wpAny_mono (T.done (ij X nm fn scope cl C s2 H2 fp (X.pn++pins)) rfl rfl rfl hc i _ s3 _ H3 (fun _ _=>False) C3 (wg H3 _ oY) oX stop) (fun r s4 ⟨hr,J4⟩=>?_) fun _ _ z=>z.elim
   subst hr
   have un:=J4.base
   have Lh:∀ b o,s2.heap.get? b=some o->b≠D:=fun b o e=>by have:=Heap.lt_size e;walk_at "om"
   have pB:∀ b u,H3 b=some u->b≠D:=fun b u e z=>by rw[z,wj] at e;cases e
   refine wc D C s4 (upd H3 D (.lst zs)) ?_ ?_ ?_ (q D wj)
   ·refine I2.vd (ch:=fp) J4.os ⟨un.keep,un.slot,fun b o e nn hx=>?_,un.there,fun b xs e=>?_,fun b o u e=>?_,fun b ps e=>?_⟩ (fun a o e=>?_) J4.bare fun b hb=>?_
    ·rw[aO (Lh b o e)];exact un.free b o e nn hx
    ·have:=un.dG b xs e;rw[aO (pB b _ this)];exact this
    ·have:=un.d6 b o u e;rw[aO (pB b _ this)];exact this
    ·obtain⟨more,this⟩:=un.eu b ps e
     exact⟨more,by rw[aO (pB b _ this)];exact this⟩
    ·by_cases ha:a=D
     ·subst ha
      rw[aj] at e;cases e
      exact⟨hlen,av,nn,r3,(J4.pin (a,_) (List.mem_append_right _ (List.mem_singleton.mpr rfl))).1⟩
     ·rw[aO ha] at e
      exact (J4.aA a o e).stay (fun _ _ _ z=>z) (fun b z=>by rw[aO (pB b _ z)];exact z) fun b xs z=>by rw[aO (pB b _ z)];exact z
    ·obtain⟨_,d1,d2,d3,d4,d5⟩:=f2 b hb
     exact⟨d3,d1,d4,d5⟩
   ·obtain⟨m,hm,_⟩:=J4.loc
    exact⟨m,hm⟩
   ·exact I2.m3 nu (by rw[aO (Ne.symm lM)];exact J4.free)
  ·refine wpAny_mono (T.item (ij X nm fn scope cl C s2 H2 fp (X.pn++pins)) rfl rfl rfl hc i _ s3 _ H3 (fun _ _=>False) C3 (wg H3 _ oY) oX go) (fun r s4 ⟨u,hr,h4⟩=>?_) fun _ _ z=>z.elim
   subst hr
   refine wpAny_mono h4 (fun _ s5 ⟨y5,H5,I5,r5,yl,lA,vq⟩=>?_) fun _ _ z=>z.elim
   have vr:=I5.pinned (wg H5 _ vq) (T.obj _ _ lA)
   refine wpAny_mono (hg _ s5 _ H5 y5 u _ vr r5 (step C2 Lf y5 H5 yl)) (fun _ s6 ⟨σ6,H6,I6,sN,C5,e6,q6⟩=>?_) fun _ _ z=>z.elim
   subst e6
   have after:∀ (s7:Shared) (H7:Hp),Inv (ij X nm fn scope cl C s2 H2 fp (X.pn++pins)) ([(D,{ cls:=.type "list",data:=.seq av.toArray nn })]++oW fp s5.heap) (sN++ρ) H7 s7 ->
    Inv (ij X nm fn scope cl C s2 H2 fp (X.pn++pins)) [] (sN++ρ) H7 s7/\tn (i+1) s7.heap/\(∀ b∈fp,H7 b=none)/\H7 D=none/\s7.heap.get? D=some { cls:=.type "list",data:=.seq av.toArray nn }:=fun s7 H7 I7=>by
    have pD:=I7.pin (D,{ cls:=.type "list",data:=.seq av.toArray nn }) (List.mem_append_right _ (List.mem_append_left _ (List.mem_singleton.mpr rfl)))
    refine⟨I7.oO fun p hp=>absurd hp (by simp),T.keep _ _ _ lA fun b hb o e=>(I7.pin (b,o) (List.mem_append_right _ (List.mem_append_right _ (rX hb e)))).1,fun b hb=>?_,pD.2.1,pD.1⟩
    obtain⟨o,e,_⟩:=T.obj _ _ lA b hb
    exact (I7.pin (b,o) (List.mem_append_right _ (List.mem_append_right _ (rX hb e)))).2.1
   refine wpAny_mono (hb.1 _ s6 _ H6 _ I6 q6) (fun ok s7 ⟨H7,I7,q7⟩=>?_) fun _ _ z=>z.elim
   dsimp only at q7
   by_cases aA:ok=true
   ·rw[if_pos aA] at q7 ⊢
    refine wpAny_mono (hb.2 _ s7 _ H7 _ I7 q7) (fun yv s8 ⟨y8,H8,I8,r8,n8⟩=>?_) fun _ _ z=>z.elim
    obtain⟨m',wk,w8⟩:=C4 _ _ n8
    obtain⟨J8,Li,Lj,C6,wm⟩:=after s8 H8 I8
    have hl:=r3.length
    refine call_meets F.slot_list_append ⟨_,wm,rfl⟩ F.entry_list_append (F.args_list_append_2 _ _) (PySem.list_append D av.toArray nn yv (by rw[List.size_toArray];walk_at "om")) ⟨wm,?_⟩
    have C7:=PySem.IsL.update wm (fun a=>a.push yv)
    rw[List.push_toArray] at C7
    refine⟨m',wk,i+1,zs++[y8],H8,sN,av++[yv],_,C5,J8.turned (it:=D) (fun b o ny e=>(Heap.get?_update_other _ _ (Ne.symm ny)).trans e) C6 lM (.inr pA) (fun y c e z=>?_) (fun p hp=>?_),T.keep _ _ _ Li fun b ny o e=>?_,Lj,C6,C7,r3.append (.cons r8 .nil),w8⟩
    ·exact (fW y c e).1 z
    ·have nv:p∈X.pn++pins:=by
      have:p∈(X.pn++pins)++[]:=hp
      simpa using this
     exact (we p nv).2.1
    ·have:=lN b ny
     exact (Heap.get?_update_other _ _ (by walk_at "om")).trans e
   ·rw[if_neg aA] at q7 ⊢
    obtain⟨m',wk,w7⟩:=C4 _ _ q7
    obtain⟨J7,Ll,Lm,Ln,Lo⟩:=after s7 H7 I7
    exact⟨m',wk,i+1,zs,H7,sN,av,nn,C5,J7,Ll,Lm,Ln,Lo,r3,w7⟩
 exact codeAny_compStart_list (loop _ rfl) (T.self X.A 0 _ _ _ C1 (loop _ rfl))
theorem C8{J:It}{fp:List Addr}{it:Addr}{tn:Nat->Heap->Prop}{E:Value->Shared->Prop}{Q:VK}{RR:Value->Addr->Result->Shared->Prop}
 (S:pz X own scope cl fr ys) (hc:X.calm=true) (hg:∀ (C:Addr) (s:Shared) (H:Hp) (ex:List Addr) (pn:List (Addr × Obj)),PG (eG X (own++ys) scope cl C s H ex pn) tg g)
 (hb:∀ (C:Addr) (s:Shared) (H:Hp) (ex:List Addr) (pn:List (Addr × Obj)),lL (eG X (own++ys) scope cl C s H ex pn) ifs tt/\PE (eG X (own++ys) scope cl C s H ex pn) elt te)
 (I2:Inv X pins σ H2 s2) (T:Turn X.prog X.w X.K tg J fp it tn) (hV:tn 0 s2.heap) (f2:∀ b∈fp,fS X pins H2 b)
 (h:nt own.length J g (fr.map fun j=>(σ[j]?).join) tt te H2 Q)
 (wc:∀ D C s' H',Inv X pins σ H' s'->(∃ m,s'.heap.Ns C m)->fS X pins H' C->Q (.ref D) H'->RR (.ref D) C (.ok .next) s') :
 wpAny (model X.prog X.w) X.A (newList []) (fun acc s3=>wpAny (model X.prog X.w) X.A (newFunctionEnv scope X.env.globals cl [] X.env.qual none .none (some X.env)) (fun C9 s4 =>
  codeAny (model X.prog X.w) X.A (.compStart (.ListComp elt [⟨tg,iter,ifs,0⟩] scope pos) 0 (.ref it) acc { C9 with scope:=relabel scope X.env }) (RR acc C9.locals) s4) E s3) E s2:=by
 refine wpAny_newObj_type (wpAny_newFunctionEnv (fun y hy=>by simpa using List.all_eq_true.mp S.nocell y hy) (fun y hy=>absurd hy (by simp)) (fun h1 lG pC=>?_) S.kind)
 dsimp only at lG pC ⊢
 generalize eP:s2.heap.push { cls:=.type "list",dict:=none,data:=.seq ([]:List Value).toArray }=P2 at lG pC ⊢
 have sz:P2.objs.size=s2.heap.objs.size+1:=by rw[<- eP,Heap.size_push]
 have lM:s2.heap.objs.size≠P2.objs.size:=by walk_at "om"
 have keep:∀ b o,s2.heap.get? b=some o->h1.get? b=some o:=fun b o e=>by
  have lt:=Heap.lt_size e
  exact pC.extBut b o (by walk_at "om") (Heap.get?_push_of_some _ (eP ▸ Heap.get?_push_of_some _ e))
 have hD:h1.get? s2.heap.objs.size=some { cls:=.type "list",data:=.seq ([]:List Value).toArray 0 } :=
  pC.extBut _ _ lM (Heap.get?_push_of_some _ (eP ▸ Heap.get?_push_size _ rfl))
 generalize eC:P2.objs.size=C at lG pC lM ⊢
 generalize eD:s2.heap.objs.size=D at lM hD
 have nu:s2.heap.objs.size<=C:=by walk_at "om"
 have pA:s2.heap.objs.size<=D:=by walk_at "om"
 have lN:∀ b∈fp,b<s2.heap.objs.size:=fun b hb=>by
  obtain⟨o,e,_⟩:=T.obj 0 _ hV b hb
  exact Heap.lt_size e
 have Lp:(eG X (own++ys) scope cl C s2 H2 fp (X.pn++pins)).Ok:=Lc S I2 f2 nu (fun b hb=>by have:=lN b hb;walk_at "om")
 have we:=C0 I2 f2 nu pA
 have I4:Inv (eG X (own++ys) scope cl C s2 H2 fp (X.pn++pins)) [] ((own.map fun _=>none)++fr.map fun j=>(σ[j]?).join) H2 { s2 with heap:=h1,toks:=s2.toks+([]:List (Str × Value)).length }:=by
  refine⟨Lp,rfl,I2.bare,Un.kept keep,⟨_,lG,fun i y v e1 e2 e3=>?_⟩,fun y c e=>?_,I2.aA.fresh nu,fun y c e=>I2.fD y c (S.cls.get y c e),fun p hp=>?_,I2.aA.kept keep,?_⟩
  ·by_cases hio:i<own.length
   ·rw[List.getElem?_append_left (by simpa using hio)] at e2
    simp[hio] at e2
   ·rw[List.getElem?_append_right (by simp;lia)] at e2
    have Dc:ys[i-own.length]?=some y:=by
     have:(own++ys)[i]?=some y:=e1
     rwa [List.getElem?_append_right (by lia)] at this
    rw[List.length_map] at e2
    obtain⟨j,c,hN,hσ,hk,Lq,ng⟩:=S.aY.get (i-own.length) y v Dc e2
    obtain⟨m,hm,hl⟩:=I2.loc
    obtain⟨u,ru,lu⟩:=hl j y v hN hσ (.inr (.inl hk))
    refine⟨u,ru,.inr ⟨.inl ?_,c,Lq,?_⟩⟩
    ·have z:=List.all_eq_true.mp S.kfr y (List.mem_of_getElem? Dc)
     exact (by simpa using z:(relabel scope X.env).names.lookup y=some .cell)
    ·rcases lu with ⟨z,_⟩|⟨_,c',e',q'⟩
     ·rw[hk] at z;cases z
     ·rw[ng] at e';cases e'
      obtain⟨o,ho,hd⟩:=q'
      exact⟨o,keep _ _ ho,hd⟩
  ·obtain⟨v,o,ho,hd⟩:=I2.cell y c (S.cls.get y c e)
   exact⟨v,o,keep _ _ ho,hd⟩
  ·have nv:p∈X.pn++pins:=by
    have:p∈(X.pn++pins)++[]:=hp
    simpa using this
   obtain⟨e,n,_,_,d⟩:=I2.pin p nv
   obtain⟨p1,_,p3,_⟩:=we p nv
   exact⟨keep _ _ e,n,p1,p3,d⟩
  ·show ((own.map fun _=>(none:Option V))++fr.map fun j=>(σ[j]?).join).length=(own++ys).length
   simp[S.aY.len]
 refine Ld hc (hg C s2 H2 fp (X.pn++pins)) (hb C s2 H2 fp (X.pn++pins)) I2 T hV f2 h wc (by simp) I4 keep hD eD (sz.symm.trans eC) fun y c e=>?_
 obtain⟨v,o,ho,_⟩:=I2.cell y c (S.cls.get y c e)
 have:=Heap.lt_size ho
 exact⟨by walk_at "om",fun b hb z=>(f2 b hb).2.2.2.2.1 y c (S.cls.get y c e) z⟩
theorem Lr{wi:TI}{B:L2.St->It->Hp->VK->Prop}(S:pz X own scope cl fr ys)(hc:X.calm=true)(hi:PI X tg iter wi)(hg:∀ (C:Addr) (s:Shared) (H:Hp) (ex:List Addr) (pn:List (Addr × Obj)),PG (eG X (own++ys) scope cl C s H ex pn) tg g)
 (hb:∀ (C:Addr) (s:Shared) (H:Hp) (ex:List Addr) (pn:List (Addr × Obj)),lL (eG X (own++ys) scope cl C s H ex pn) ifs tt/\PE (eG X (own++ys) scope cl C s H ex pn) elt te)
 (hB:∀ ρ J H Q,B ρ J H Q->nt own.length J g ρ tt te H Q) (hs:∀ z,foldedSetIterable iter X.env z=pure z:=by intro v;rfl):PE X (.ListComp elt [⟨tg,iter,ifs,0⟩] scope pos) (fun σ H Q=>wi σ H fun J H1=>B (fr.map fun j=>(σ[j]?).join) J H1 Q):=by
 intro pins s σ H Q I h
 rw[eval_ListComp]
 refine wpAny_comprehension_free (use:=none) rfl hs S.clos S.kind (fun y hy hl=>?_) (aC (hi pins s σ H _ I h) fun xv s1 h1=>aC h1 fun rV s2 h2=>?_)
 ·have z:=List.all_eq_true.mp S.names y hy
  rw[hl] at z
  simpa using z
 ·obtain⟨it,fp,tn,J,H2,rfl,I2,T,hV,f2,wq⟩:=h2
  refine C8 (RR:=fun acc C=>compPost (model X.prog X.w) X.A X.xe none (EP X pins σ Q) acc C) S hc hg hb I2 T hV f2 (hB _ _ _ _ wq) fun D C s' H' J' hn fC q=>?_
  obtain⟨m,hm⟩:=hn
  obtain⟨c0,c1,c2,c3,c4,c5⟩:=fC
  exact⟨m,hm,fun h' sb=>⟨.ref D,H',J'.turned (it:=C) (fun b o hb e=>sb.extBut b o hb e) c0 c1 c3 c4 c5,rfl,q⟩⟩
theorem Ls{wi:TI}{B:L2.St->It->Hp->VK->Prop}{y:Str}{py pE:Pos}{i:Nat}(S:pz X own scope cl fr ys)(hc:X.calm=true)(hN:X.N.Nodup)(hy:X.N[i]?=some y)(hl:X.env.scope.names.lookup y=some .local)(hi:PI X tg iter wi)(hg:∀ (C:Addr) (s:Shared) (H:Hp) (ex:List Addr) (pn:List (Addr × Obj)),PG (eG X (own++ys) scope cl C s H ex pn) tg g)
 (hb:∀ (C:Addr) (s:Shared) (H:Hp) (ex:List Addr) (pn:List (Addr × Obj)),lL (eG X (own++ys) scope cl C s H ex pn) ifs tt/\PE (eG X (own++ys) scope cl C s H ex pn) elt te)
 (hB:∀ ρ J H Q,B ρ J H Q->nt own.length J g ρ tt te H Q) (wt:swapsWith (.ListComp elt [⟨tg,iter,ifs,0⟩] scope pos) (some (.Name y py)) pE.line X.env=pure true:=by rfl)
 (hs:∀ z,foldedSetIterable iter X.env z=pure z:=by intro _;rfl):PS X (.Assign [.Name y py] (.ListComp elt [⟨tg,iter,ifs,0⟩] scope pos) pE) (wa i fun σ H Q=>wi σ H fun J H1=>B (fr.map fun j=>(σ[j]?).join) J H1 Q):=by
 intro pins s σ H Dn I h
 rw[exec_Assign_Name_used _ _ _ _ wt]
 refine wpAny_bind (wpAny_standAt (wpAny_bind ?_))
 show wpAny _ X.A (do let _ <- comprehension (.ListComp elt [⟨tg,iter,ifs,0⟩] scope pos) scope X.env _ (newList []) false (eval iter X.env) (some (assign (.Name y py) X.env))) _ _ s
 refine wpAny_bind (aC (wpAny_comprehension_free (use:=some (assign (.Name y py) X.env)) (Q:=fun _ s'=>SP X pins Dn .next s') rfl hs S.clos S.kind (fun z hz hl=>?_) (aC (hi pins s σ H _ I h) fun xv s1 h1=>aC h1 fun rV s2 h2=>?_)) fun _ s' hq=>wpAny_pure (wpAny_pure hq))
 ·have z':=List.all_eq_true.mp S.names z hz
  rw[hl] at z'
  simpa using z'
 ·obtain⟨it,fp,tn,J,H2,rfl,I2,T,hV,f2,wq⟩:=h2
  refine C8 (RR:=fun acc C=>compPost (model X.prog X.w) X.A X.xe (some (assign (.Name y py) X.env)) (fun _ s'=>SP X pins Dn .next s') acc C) S hc hg hb I2 T hV f2 (hB _ _ _ _ wq) fun D C s' H' J' hn fC q=>?_
  obtain⟨m,oC,es,ep,ho,hd,hr⟩:=hn
  obtain⟨c0,c1,c2,c3,c4,c5⟩:=fC
  have J2:Inv X (pins++[(C,oC)]) σ H' s':=J'.oO fun p hp=>by
   rcases List.mem_append.mp hp with z|z
   ·exact J'.pin p (List.mem_append_right _ z)
   ·have:p=(C,oC):=by simpa using z
    subst this
    exact⟨ho,c0,c1,c2,fun v z=>by rw[hd] at z;cases z⟩
  show wpAny _ X.A (assign (.Name y py) X.env (.ref D)) _ _ _
  refine aC (vj (X:=X) hN hy (.inl hl) (.inr hl) _ s' σ H' (.ref D) (.ref D) (fun σ' ik=>σ'=σ.set i (some (.ref D))/\ik=H') J2 rfl ⟨rfl,rfl⟩) fun _ s3 ⟨σ3,H3,J3,e1,e2⟩=>?_
  subst e1 e2
  obtain⟨pc,Vj,_⟩:=J3.pin (C,oC) (List.mem_append_right _ (List.mem_append_right _ (List.mem_singleton.mpr rfl)))
  refine⟨m,⟨oC,es,ep,pc,hd,hr⟩,fun h' sb=>⟨_,H3,J3.rY.turned (it:=C) (fun b o hb e=>sb.extBut b o hb e) c0 c1 c3 c4 c5,q⟩⟩
end
theorem Dd{J:It}{ρ:L2.St}{tt:TT}{te:TE}{H:Hp}{Q:VK}(h:pw J ρ tt te H Q):nt 1 J (ly 0) ρ tt te H Q:=by
 obtain⟨W,w0,turn⟩:=h
 refine⟨W,w0,fun i m ys H hw=>(turn i m ys H hw).imp id fun ⟨a,b,N,hN,st⟩=>⟨a,b,N,hN,fun os ho x H' y=>?_⟩⟩
 match os,ho with
 | [_],_=>exact⟨[some x],rfl,rfl,st x H' y⟩
section
variable{X:Cx}{x:Str}{px pos:Pos}{elt iter:Expr}{ifs:List Expr}{scope:Scope}{cl:List (Str × Addr)}{fr:List Nat}{ys:List Str}{tt:TT}{te:TE}
theorem lK.g(S:lK X x scope cl fr ys):pz X [x] scope cl fr ys:=⟨S.clos,S.nocell,S.kind,S.names,S.kinds,S.cls,S.aY,S.kfr⟩
theorem lK.pg(S:lK X x scope cl fr ys)(C:Addr)(s:Shared)(H:Hp)(ex:List Addr)(pn:List (Addr × Obj)):PG (eG X ([x]++ys) scope cl C s H ex pn) (.Name x px) (ly 0) :=
 vj (X:=eG X (x::ys) scope cl C s H ex pn) (i:=0) S.nd rfl (.inl (lookup_relabel_local S.own)) (.inr (lookup_relabel_local S.own))
theorem fK{wi:TI}(S:lK X x scope cl fr ys)(hc:X.calm=true)(hi:PI X (.Name x px) iter wi)
 (hb:∀ (C:Addr) (s:Shared) (H:Hp) (ex:List Addr) (pn:List (Addr × Obj)),lL (eG X (x::ys) scope cl C s H ex pn) ifs tt/\PE (eG X (x::ys) scope cl C s H ex pn) elt te)
 (hs:∀ z,foldedSetIterable iter X.env z=pure z:=by intro y;rfl):PE X (.ListComp elt [⟨.Name x px,iter,ifs,0⟩] scope pos) (v9 wi fr tt te):=Lr (B:=fun ρ J H Q=>pw J ρ tt te H Q) S.g hc hi S.pg hb (fun y y y y h=>Dd h) hs
theorem De{wi:TI}{y:Str}{py pE:Pos}{i:Nat}(S:lK X x scope cl fr ys)(hc:X.calm=true)(hN:X.N.Nodup)(hy:X.N[i]?=some y)(hl:X.env.scope.names.lookup y=some .local)(hi:PI X (.Name x px) iter wi)
 (hb:∀ (C:Addr) (s:Shared) (H:Hp) (ex:List Addr) (pn:List (Addr × Obj)),lL (eG X (x::ys) scope cl C s H ex pn) ifs tt/\PE (eG X (x::ys) scope cl C s H ex pn) elt te)
 (wt:swapsWith (.ListComp elt [⟨.Name x px,iter,ifs,0⟩] scope pos) (some (.Name y py)) pE.line X.env=pure true:=by rfl)
 (hs:∀ z,foldedSetIterable iter X.env z=pure z:=by intro v;rfl):PS X (.Assign [.Name y py] (.ListComp elt [⟨.Name x px,iter,ifs,0⟩] scope pos) pE) (wa i (v9 wi fr tt te)):=Ls (B:=fun ρ J H Q=>pw J ρ tt te H Q) S.g hc hN hy hl hi S.pg hb (fun v v v v h=>Dd h) wt hs
end
def iP(Ok:Hp->Prop)(ρ:L2.St)(tt:TT)(te:TE):List V->List V->Hp->(List V->Hp->Prop)->Prop
 | [],ys,H,Q=>Ok H/\Q ys H
 | x::r,ys,H,Q=>Ok H/\tt (some x::ρ) H fun b H1=>if b=true then te (some x::ρ) H1 fun y H2=>iP Ok ρ tt te r (ys++[y]) H2 Q else iP Ok ρ tt te r ys H1 Q
structure sO(J:It)(Ok:Hp->Prop)(xs:List V):Prop where
 go:∀ i H x,Ok H->xs[i]?=some x->J.go i H
 yld:∀ i H x H',Ok H->J.yld i H x H'->H'=H/\(i<xs.length->xs[i]?=some x)
 stop:∀ i H,Ok H->xs.length<=i->J.stop i H
section
variable{J:It}{Ok:Hp->Prop}{xs:List V}{ρ:L2.St}{tt:TT}{te:TE}{H:Hp}{Q:VK}{K:PySem.W.Frag}{a:Addr}
theorem eV(O:sO J Ok xs)(hn:xs.length<=sizeLine)(h:iP Ok ρ tt te xs [] H fun ys H'=>∀ l,H' l=none->Q (.ref l) (upd H' l (.lst ys))):pw J ρ tt te H Q:=by
 refine⟨fun i m ys H=>m=xs.length-i/\i<=xs.length/\ys.length<=i/\iP Ok ρ tt te (xs.drop i) ys H fun ys H'=>∀ l,H' l=none->Q (.ref l) (upd H' l (.lst ys)),⟨_,rfl,Nat.zero_le _,Nat.le_refl _,h⟩,?_⟩
 rintro i m ys H ⟨rfl,hi,hy,g⟩
 by_cases cw:i<xs.length
 ·have e:=List.drop_eq_getElem_cons cw
  rw[e] at g
  obtain⟨g0,g1⟩:=g
  refine .inr ⟨O.go i H _ g0 (List.getElem?_eq_getElem cw),by walk_at "om",fun zs H'=>zs.length<=i+1/\iP Ok ρ tt te (xs.drop (i+1)) zs H' fun ys H'=>∀ l,H' l=none->Q (.ref l) (upd H' l (.lst ys)),fun zs H' q=>⟨_,by walk_at "om",rfl,cw,q.1,q.2⟩,fun x H' y=>?_⟩
  obtain⟨rfl,ex⟩:=O.yld i H x H' g0 y
  have ex:=ex cw
  rw[List.getElem?_eq_getElem cw] at ex
  cases ex
  have l1:∀ y:V,(ys++[y]).length<=i+1:=fun y=>by rw[List.length_append,List.length_singleton];walk_at "om"
  have l2:ys.length<=i+1:=by walk_at "om"
  simp only[l1,l2,true_and]
  exact g1
 ·have e:i=xs.length:=by walk_at "om"
  subst e
  rw[List.drop_length] at g
  exact .inl ⟨O.stop _ H g.1 (Nat.le_refl _),by walk_at "om",g.2⟩
theorem lO:sO (jU K a) (fun H=>ar K H a xs) xs :=
 ⟨fun z z z h e=>⟨xs,_,h,e⟩,fun z z z z h y=>⟨y.1,fun z=>y.2 xs h⟩,fun z z h hi=>⟨xs,h,hi⟩⟩
theorem lP{lo:Int}{n:Nat}:sO (hU lo n) (fun z=>True) ((List.range n).map fun k=>V.int (lo+(k:Nat))) :=
 ⟨fun i z z z e=>by
  have:=(List.getElem?_eq_some_iff.mp e).1
  show i<n
  simpa using this,fun i z z z z y=>⟨y.1,fun hi=>by
   have pF:i<n:=by simpa using hi
   rw[y.2,List.getElem?_map,List.getElem?_range pF];rfl⟩,fun i z z hi=>by
   show n<=i
   simpa using hi⟩
theorem pG{p:V->Bool}{f:V->V}{Q':List V->Hp->Prop}(cX:Ok H):∀ {xs ys:List V},(∀ x∈xs,∀ Q,Q (p x) H->tt (some x::ρ) H Q)->(∀ x∈xs,p x=true->∀ Q,Q (f x) H->te (some x::ρ) H Q)->Q' (ys++(xs.filter p).map f) H->iP Ok ρ tt te xs ys H Q'
 | [],ys,_,_,q=>⟨cX,by simpa using q⟩
 | x::r,ys,ht,he,q=>by
  refine⟨cX,ht x (.head _) _ ?_⟩
  by_cases hb:p x=true
  ·rw[if_pos hb]
   refine he x (.head _) hb _ (pG cX (fun y hy=>ht y (.tail _ hy)) (fun y hy=>he y (.tail _ hy)) ?_)
   rw[List.filter_cons,if_pos hb] at q
   simpa using q
  ·rw[if_neg hb]
   refine pG cX (fun y hy=>ht y (.tail _ hy)) (fun y hy=>he y (.tail _ hy)) ?_
   rw[List.filter_cons,if_neg hb] at q
   exact q
end
section
variable{X:Cx}{K:PySem.W.Frag}
theorem Lu(h:X.K=K):iK X (lE K):=h ▸ Cp
end
end Gz
namespace Gz
open PySem PySem.Spec PyProof.Rows L2
local macro_rules | `(tactic| walk_at "om") => `(tactic| ((try simp only [PySem.Addr] at *); lia))
section
set_option hygiene false
local macro_rules | `(tactic| walk_at "mm1") => `(tactic| (
 have nS:S∉wr:=fun z=>hS (W.sub _ z)
 intro k
 induction k with
 | zero =>
  intro j s vb c e st pb oS fin
  have e':j+1=n:=by walk_at "om"
  refine codeAny_builtin e1 ?_
  rw[Around.under_plainId e2 _]
  show wpAny _ A.in1 (seqItems? (.ref S) >>= _) _ _ s
  refine wpAny_bind (wpAny_seqItems oS rfl ?_)
  show wpAny _ A.in1 (tryCatch (pyNext (.ref I)) _ >>= _) _ _ s
  refine wpAny_bind (wpAny_tryCatch (W.done s _ _ (e' ▸ st) fun h1 tk kp=>?_))
  have j8:=kp S _ nS oS
  show wpAny _ A.in1 (updateSeq S (fun _=>#[]) >>= _) _ _ _
  refine wpAny_bind ?_
  refine wpAny_updateSeq j8 rfl (wpAny_bind (wpAny_letGo (wpAny_pure ?_)))
  exact fin vb _ tk (by rw[<- e'];exact pb) fun b o hw hb q=>(Heap.get?_update_other _ _ (Ne.symm hb)).trans (kp b o hw q)
 | succ k ih =>
  intro j s vb c e st pb oS fin
  have lt:j+1<n:=by walk_at "om"
  refine codeAny_builtin e1 ?_
  rw[Around.under_plainId e2 _]
  show wpAny _ A.in1 (seqItems? (.ref S) >>= _) _ _ s
  refine wpAny_bind (wpAny_seqItems oS rfl ?_)
  show wpAny _ A.in1 (tryCatch (pyNext (.ref I)) _ >>= _) _ _ s
  refine wpAny_bind (wpAny_tryCatch (W.item (j+1) s _ _ lt st fun v h1 tk pv sP kp=>?_))
  have j8:=kp S _ nS oS
  show wpAny _ A.in1 (tryCatch (holding [v,v] (richCompare _ v vb >>= _)) _ >>= _) _ _ _
  refine wpAny_bind (wpAny_tryCatch (wpAny_holding (wpAny_bind (hcmp (j+1) (argBest bt j) v vb _ _ _ pv pb ?_))))
  refine wpAny_bind (wpAny_holding (wpAny_truthy_bool ?_))
  refine wpAny_bind (wpAny_letGo (wpAny_pure ?_))
  cases hb:bt (j+1) (argBest bt j) with
  | true =>
   simp only[if_true]
   refine wpAny_bind ?_
   refine wpAny_updateSeq j8 rfl (wpAny_bind (wpAny_letGo ?_))
   rw[nm]
   refine wpAny_pure ⟨plainId_quiet e2 _,ih (j+1) _ v _ (by walk_at "om") (W.frame _ _ _ sP fun b hf o q=>?_) (by simp only[argBest,hb,if_true];exact pv) (Heap.get?_update_self _ j8 rfl) fun v2 h2 wu p2 k2=>?_⟩
   ·exact (Heap.get?_update_other _ _ (fun z:S=b=>hS (by rw[z];exact hf))).trans q
   ·exact fin v2 h2 wu p2 fun b o hw sQ q=>k2 b o hw sQ ((Heap.get?_update_other _ _ (Ne.symm sQ)).trans (kp b o hw q))
  | false =>
   simp only[Bool.false_eq_true,if_false]
   refine wpAny_bind (wpAny_letGo ?_)
   rw[nm]
   refine wpAny_pure ⟨plainId_quiet e2 _,ih (j+1) _ vb c (by walk_at "om") sP (by simp only[argBest,hb,Bool.false_eq_true,if_false];exact pb) j8 fun v2 h2 wu p2 k2=>?_⟩
   exact fin v2 h2 wu p2 fun b o hw sQ q=>k2 b o hw sQ (kp b o hw q)))
local macro_rules | `(tactic| walk_at "mm2") => `(tactic| (
 show wpAny _ A.in1 (Builtin.Builtins.bindParams _ ["key","default"] 0 ⟨[],[("default",d)]⟩ >>= _) _ _ s
 refine wpAny_bind (wpAny_of_eq (show Builtin.Builtins.bindParams _ ["key","default"] 0 ⟨[],[("default",d)]⟩=pure [none,some d] from rfl) ?_)
 refine wpAny_bind (wpAny_pure ?_)
 refine wpAny_bind (iter_intList hl fun s2 e2 st lN Lv=>?_)
 subst e2
 refine wpAny_bind (wpAny_newObj_type ?_)
 have W:=Walks.list (prog:=prog) (w:=w) (A:=A.in1) hh s.heap.objs.size l Lv (intItems xs)
 generalize eP:(s.heap.push { cls:=.type "list_iterator",data:=.fields #[.ref l,.int 0 0] })=P2 at st lN ⊢
 have wx:P2.objs.size∉[s.heap.objs.size,l]:=fun z=>Nat.lt_irrefl _ (lN _ z)
 have up:∀ b o,s.heap.get? b=some o->b≠P2.objs.size/\b∉[s.heap.objs.size]/\(P2.push { cls:=.type "list",dict:=none,data:=.seq ([]:List Value).toArray }).get? b=some o:=fun b o q=>by
  have lt:=Heap.lt_size q
  have q2:P2.get? b=some o:=by rw[<- eP];exact Heap.get?_push_of_some _ q
  refine⟨Nat.ne_of_lt (Heap.lt_size q2),fun z=>?_,Heap.get?_push_of_some _ q2⟩
  have:b=s.heap.objs.size:=by simpa using z
  walk_at "om"
 rw[nm]
 refine wpAny_pure ⟨plainId_quiet e2 _,?_⟩
 have oS:(P2.push { cls:=.type "list",dict:=none,data:=.seq ([]:List Value).toArray }).get? P2.objs.size=some { cls:=.type "list",dict:=none,data:=.seq #[] 0,slots:=#[] }:=Heap.get?_push_size _ rfl
 have cj:=W.frame 0 P2 (P2.push { cls:=.type "list",dict:=none,data:=.seq ([]:List Value).toArray }) st fun b _ o q=>Heap.get?_push_of_some _ q
 have nS:P2.objs.size∉[s.heap.objs.size]:=fun z=>wx (by simp at z;simp[z])
 by_cases hz:xs.size=0
 ·have Lw:(P2.push { cls:=.type "list",dict:=none,data:=.seq ([]:List Value).toArray }).IsListIter s.heap.objs.size l (intItems xs).size/\(P2.push { cls:=.type "list",dict:=none,data:=.seq ([]:List Value).toArray }).IsList l (intItems xs):=by
   have:(intItems xs).size=0:=by simpa [intItems] using hz
   rw[this];exact cj
  refine codeAny_builtin e1 ?_
  rw[Around.under_plainId e2 _]
  show wpAny _ A.in1 (seqItems? (.ref P2.objs.size) >>= _) _ _ _
  refine wpAny_bind (wpAny_seqItems oS rfl ?_)
  show wpAny _ A.in1 (tryCatch (pyNext (.ref s.heap.objs.size)) _ >>= _) _ _ _
  refine wpAny_bind (wpAny_tryCatch (W.done _ _ _ Lw fun h2 tk kp=>?_))
  refine wpAny_bind (wpAny_rule (wpAny_pure ?_))
  exact h0 hz h2 tk fun b o q=>kp b o (up b o q).2.1 (up b o q).2.2
 ·have hp:0<xs.size:=by walk_at "om"
  have hn:0<(intItems xs).size:=by simpa [intItems] using hp
  refine codeAny_builtin e1 ?_
  rw[Around.under_plainId e2 _]
  show wpAny _ A.in1 (seqItems? (.ref P2.objs.size) >>= _) _ _ _
  refine wpAny_bind (wpAny_seqItems oS rfl ?_)
  show wpAny _ A.in1 (tryCatch (pyNext (.ref s.heap.objs.size)) _ >>= _) _ _ _
  refine wpAny_bind (wpAny_tryCatch (W.item 0 _ _ _ hn cj fun v h2 tk pv sP kp=>?_))
  have j8:=kp _ _ nS oS
  show wpAny _ A.in1 (updateSeq P2.objs.size (fun _=>#[v,v]) >>= _) _ _ _
  refine wpAny_bind ?_
  refine wpAny_updateSeq j8 rfl ?_
  rw[nm]
  refine wpAny_pure ⟨plainId_quiet e2 _,e3 W (e4 (numAt xs) (fun _ _=>intItems_at)) wx ((intItems xs).size-1) 0 _ v _ (by walk_at "om") (W.frame _ _ _ sP fun b hf o q=>?_) pv (Heap.get?_update_self _ j8 rfl) fun v2 h3 Lx p3 k3=>?_⟩
  ·exact (Heap.get?_update_other _ _ (fun z:P2.objs.size=b=>wx (by rw[z];exact hf))).trans q
  ·refine h1 hp v2 h3 Lx (by simpa [intItems] using p3) fun b o q=>?_
   exact k3 b o (up b o q).2.1 (up b o q).1 ((Heap.get?_update_other _ _ (Ne.symm (up b o q).1)).trans (kp b o (up b o q).2.1 (up b o q).2.2))))
end
noncomputable def eW:List Int->Int
 | []=>0
 | x::r=>r.foldl (fun b y=>if y > b then y else b) x
noncomputable def gH:List Int->Int
 | []=>0
 | x::r=>r.foldl (fun b y=>if y<b then y else b) x
theorem Df:∀ (r:List Int) (b:Int),b<=r.foldl (fun b y=>if y > b then y else b) b/\(∀ y∈r,y<=r.foldl (fun b y=>if y > b then y else b) b)/\(r.foldl (fun b y=>if y > b then y else b) b=b∨r.foldl (fun b y=>if y > b then y else b) b∈r)
 | [],b=>⟨Int.le_refl _,fun v z=>(nomatch z),.inl rfl⟩
 | x::r,b=>by
  simp only[List.foldl_cons]
  obtain⟨h1,h2,h3⟩:=Df r (if x > b then x else b)
  refine⟨?_,fun y hy=>?_,?_⟩
  ·refine Int.le_trans ?_ h1;split<;>lia
  ·rcases List.mem_cons.mp hy with rfl|hy
   ·refine Int.le_trans ?_ h1;split<;>lia
   ·exact h2 y hy
  ·rcases h3 with h3|h3
   ·rw[h3];split
    ·right;simp
    ·left;rfl
   ·right;exact List.mem_cons_of_mem _ h3
theorem Dg:∀ (r:List Int) (b:Int),r.foldl (fun b y=>if y<b then y else b) b<=b/\(∀ y∈r,r.foldl (fun b y=>if y<b then y else b) b<=y)/\(r.foldl (fun b y=>if y<b then y else b) b=b∨r.foldl (fun b y=>if y<b then y else b) b∈r)
 | [],b=>⟨Int.le_refl _,fun v z=>(nomatch z),.inl rfl⟩
 | x::r,b=>by
  simp only[List.foldl_cons]
  obtain⟨h1,h2,h3⟩:=Dg r (if x<b then x else b)
  refine⟨?_,fun y hy=>?_,?_⟩
  ·refine Int.le_trans h1 ?_;split<;>lia
  ·rcases List.mem_cons.mp hy with rfl|hy
   ·refine Int.le_trans h1 ?_;split<;>lia
   ·exact h2 y hy
  ·rcases h3 with h3|h3
   ·rw[h3];split
    ·right;simp
    ·left;rfl
   ·right;exact List.mem_cons_of_mem _ h3
theorem lQ{ns:List Int}(h:ns≠[]):eW ns∈ns/\∀ y∈ns,y<=eW ns:=by
 cases ns with
 | nil=>exact absurd rfl h
 | cons x r =>
  obtain⟨h1,h2,h3⟩:=Df r x
  refine⟨?_,fun y hy=>?_⟩
  ·rcases h3 with h3|h3
   ·show r.foldl _ x∈_
    rw[h3];exact .head _
   ·exact .tail _ h3
  ·rcases List.mem_cons.mp hy with rfl|hy
   ·exact h1
   ·exact h2 y hy
theorem Dh{ns:List Int}(h:ns≠[]):gH ns∈ns/\∀ y∈ns,gH ns<=y:=by
 cases ns with
 | nil=>exact absurd rfl h
 | cons x r =>
  obtain⟨h1,h2,h3⟩:=Dg r x
  refine⟨?_,fun y hy=>?_⟩
  ·rcases h3 with h3|h3
   ·show r.foldl _ x∈_
    rw[h3];exact .head _
   ·exact .tail _ h3
  ·rcases List.mem_cons.mp hy with rfl|hy
   ·exact h1
   ·exact h2 y hy
theorem sR:∀ {ns:List Int} {av:List Value},Vals (ns.map V.int) av->∃ xs:Array (Int × Tok),av.toArray=intItems xs/\xs.toList.map (·.1)=ns
 | [],_,.nil=>⟨#[],by simp[intItems],rfl⟩
 | n::ns,_,.cons (l₂:=av) r t=>by
  obtain⟨xs,e1,e2⟩:=sR (ns:=ns) t
  obtain⟨tk,rfl⟩:=r
  refine⟨((n,tk)::xs.toList).toArray,?_,?_⟩
  ·have:av=xs.toList.map (fun p=>Value.int p.1 p.2):=by
    have:=congrArg Array.toList e1
    simpa [intItems] using this
   simp[intItems,this]
  ·simp[e2]
theorem Di{xs:Array (Int × Tok)}{ns:List Int}(e:xs.toList.map (·.1)=ns){i:Nat}(hi:i<xs.size):numAt xs i∈ns/\numAt xs i=ns.getD i 0:=by
 subst e
 unfold numAt
 rw[Array.getElem?_eq_getElem hi]
 refine⟨List.mem_map.mpr ⟨xs[i],by simp,rfl⟩,?_⟩
 simp[hi]
theorem Dj{xs:Array (Int × Tok)}{ns:List Int}(e:xs.toList.map (·.1)=ns){y:Int}(hy:y∈ns):∃ i,i<xs.size/\numAt xs i=y:=by
 subst e
 obtain⟨p,hp,rfl⟩:=List.mem_map.mp hy
 obtain⟨i,hi,e⟩:=List.mem_iff_getElem.mp hp
 refine⟨i,by simpa using hi,?_⟩
 unfold numAt
 have pF:i<xs.size:=by simpa using hi
 rw[Array.getElem?_eq_getElem pF]
 have:xs[i]=p:=by simpa using e
 rw[this];rfl
theorem Dk{xs:Array (Int × Tok)}{ns:List Int}(e:xs.toList.map (·.1)=ns)(h:0<xs.size):numAt xs (argBest (fun i j=>decide (numAt xs i > numAt xs j)) (xs.size-1))=eW ns:=by
 obtain⟨h1,h2⟩:=argBest_gt (numAt xs) (xs.size-1)
 have dM:ns≠[]:=by
  intro z;subst z
  have q:=congrArg List.length e
  rw[List.length_map,Array.length_toList,List.length_nil] at q
  lia
 obtain⟨m1,m2⟩:=lQ dM
 refine Int.le_antisymm (m2 _ (Di e (by lia)).1) ?_
 obtain⟨i,hi,ei⟩:=Dj e m1
 rw[<- ei];exact h2 i (by lia)
theorem Ly{xs:Array (Int × Tok)}{ns:List Int}(e:xs.toList.map (·.1)=ns)(h:0<xs.size):numAt xs (argBest (fun i j=>decide (numAt xs i<numAt xs j)) (xs.size-1))=gH ns:=by
 obtain⟨h1,h2⟩:=argBest_lt (numAt xs) (xs.size-1)
 have dM:ns≠[]:=by
  intro z;subst z
  have q:=congrArg List.length e
  rw[List.length_map,Array.length_toList,List.length_nil] at q
  lia
 obtain⟨m1,m2⟩:=Dh dM
 refine Int.le_antisymm ?_ (m2 _ (Di e (by lia)).1)
 obtain⟨i,hi,ei⟩:=Dj e m1
 rw[<- ei];exact h2 i (by lia)
section
variable{X:Cx}{e d:Expr}{te td:TE}{p pos kp:Pos}
noncomputable def Lz(f:List Int->Int):List Int->V->V
 | [],y=>y
 | n::ns,_=>.int (f (n::ns))
def LA(K:PySem.W.Frag)(f:List Int->Int)(te td:TE):TE:=fun σ H Q=>te σ H fun x H1=>td σ H1 fun y H2=>∃ a ns,x = .ref a/\ar K H2 a (ns.map V.int)/\Q (Lz f ns y) H2
theorem Dl(hc:X.calm=true):eL X (.builtin "max") (fun xs H Q=>∃ a ns,xs=[.ref a]/\ar X.K H a (ns.map V.int)/\ns≠[]/\Q (.int (eW ns)) H):=by
 intro pins s σ H xs us Q I r h
 obtain⟨a,ns,rfl,hS,dM,q⟩:=h
 obtain⟨u,rfl,ru⟩:=vals1 r
 cases ru
 obtain⟨av,rv,hp,y⟩:=I.list hS
 obtain⟨xs,e1,e2⟩:=sR rv
 obtain⟨o,n,ho,fW,y,hdt⟩:=hp
 have hl:s.heap.IsList a (intItems xs):=⟨o,ho,fW,n,by rw[hdt,e1]⟩
 have len:xs.size=ns.length:=by rw[<- e2,List.length_map];simp
 have d8:0<xs.size:=by rw[len];exact List.length_pos_iff.mpr dM
 refine max_intList (I.ok.hd hc) hl d8 fun v h' tk hv hk=>⟨.int (eW ns),H,I.kept hk,?_,q⟩
 obtain⟨t,rfl⟩:=intItems_at hv
 exact⟨t,by rw[Dk e2 d8]⟩
theorem Dm(hc:X.calm=true):eL X (.builtin "min") (fun xs H Q=>∃ a ns,xs=[.ref a]/\ar X.K H a (ns.map V.int)/\ns≠[]/\Q (.int (gH ns)) H):=by
 intro pins s σ H xs us Q I r h
 obtain⟨a,ns,rfl,hS,dM,q⟩:=h
 obtain⟨u,rfl,ru⟩:=vals1 r
 cases ru
 obtain⟨av,rv,hp,y⟩:=I.list hS
 obtain⟨xs,e1,e2⟩:=sR rv
 obtain⟨o,n,ho,fW,y,hdt⟩:=hp
 have hl:s.heap.IsList a (intItems xs):=⟨o,ho,fW,n,by rw[hdt,e1]⟩
 have len:xs.size=ns.length:=by rw[<- e2,List.length_map];simp
 have d8:0<xs.size:=by rw[len];exact List.length_pos_iff.mpr dM
 refine min_intList (I.ok.hd hc) hl d8 fun v h' tk hv hk=>⟨.int (gH ns),H,I.kept hk,?_,q⟩
 obtain⟨t,rfl⟩:=intItems_at hv
 exact⟨t,by rw[Ly e2 d8]⟩
end
end Gz
namespace Gz
open PySem PySem.Spec PyProof.Rows L2
local macro_rules | `(tactic| walk_at "om") => `(tactic| ((try simp only [PySem.Addr] at *); lia))
section
variable{X:Cx}{pins:List (Addr × Obj)}{σ:L2.St}{H:Hp}{s:Shared}{h':Heap}
end
noncomputable def sS(K:PySem.W.Frag)(a:Addr)(n:Nat):It :=
 ⟨fun i H=>∃ xs x,ar K H a xs/\xs.length=n/\xs.reverse[i]?=some x,fun i H x H'=>H'=H/\∀ xs,ar K H a xs->xs.length=n->xs.reverse[i]?=some x,fun i y=>i=n⟩
theorem LB{P:Program}{w:World}{K:PySem.W.Frag}{tg:Expr}(a it:Addr)(n:Nat):Turn P w K tg (sS K a n) [it] it (fun i h=>i<=n/\h.IsRevIter it a ((n:Int)-1-(i:Nat))) where
 mem:=by simp
 obj:=fun i h st b hb=>by
  have e:b=it:=by simpa using hb
  subst e
  obtain⟨y,o,e,c,d⟩:=st
  exact⟨o,e,fun v z=>by rw[d] at z;cases z⟩
 keep:=fun i h h' st k=>⟨st.1,st.2.at fun o e=>k it (by simp) o e⟩
 item:=by
  intro X hP hw hK hc i pins s σ H E I hf st hg
  subst hP hw hK
  obtain⟨xs,x,hq,hn,hx⟩:=hg
  obtain⟨av,rv,p,hz⟩:=I.list hq
  have hl:=rv.length
  have hi:i<n:=by
   have:=(List.getElem?_eq_some_iff.mp hx).1
   rw[List.length_reverse] at this;lia
  have dv:xs[n-1-i]?=some x:=by
   rw[List.getElem?_reverse (by lia),hn] at hx;exact hx
  obtain⟨u,hu,ru⟩:=rv.get dv
  obtain⟨f0,f1,f2,f3,f4,f5⟩:=hf it (by simp)
  have cj:=st.2
  rw[show (n:Int)-1-(i:Nat)=((n-1-i:Nat):Int) by lia] at cj
  refine wpAny_pyNext_rev_item cj p.isList (x:=u) (by simpa using hu) fun h' cj sb=>?_
  have I1:Inv X pins σ H { s with heap:=h' }:=I.turned (t':=s.toks) (fun b o hb e=>(sb.2 b hb).trans e) f0 f1 f3 f4 f5
  obtain⟨o,e,c,d⟩:=id cj
  rw[show ((n-1-i:Nat):Int)-1=(n:Int)-1-((i+1:Nat):Int) by lia] at cj
  exact⟨u,rfl,oR (s:={ s with heap:=h' }) e c d (by decide) ⟨x,H,I1,ru,⟨rfl,fun ys hy y=>by rw[I.Bz hy hq];exact hx⟩,⟨by lia,cj⟩,fun b hb=>(hf b hb).1⟩⟩
 done:=by
  intro X hP hw hK hc i pins s σ H E I hf st hg
  subst hP hw hK
  have LC:i=n:=hg
  subst LC
  obtain⟨f0,f1,f2,f3,f4,f5⟩:=hf it (by simp)
  have cj:=st.2
  rw[show (i:Int)-1-(i:Nat) = -1 by lia] at cj
  exact wpAny_pyNext_rev_end (I.ok.hd hc) cj fun h' eb=>⟨rfl,I.turned (t':=s.toks) (fun b o hb e=>eb b o hb e) f0 f1 f3 f4 f5⟩
 self:=fun y y y y y st h=>wpAny_pyIter_revIter st.2 h
def wz(K:PySem.W.Frag)(ta:TA):TI:=fun σ H R=>ta σ H fun vs H1=>∃ a xs,vs=[.ref a]/\ar K H1 a xs/\R (sS K a xs.length) H1
theorem LD{X:Cx}{tg e:Expr}{ta:TA}{p pos:Pos}(hg:Gl X "reversed")(hm:X.mg "reversed" = none)(ha:PA X [e] ta)(hs:starEach [e] X.env=[(false,eval e X.env)]:=by rfl):PI X tg (.Call (.Name "reversed" p) [e] [] pos) (wz X.K ta):=by
 intro pins s σ H R I h
 refine Call_ (mX I hg hm Kq (PyProof.Rows.callWith_type1 (aC (ha pos pins s σ H _ I h) fun us s1 ⟨vs,H1,I1,r1,q1⟩=>?_) hs rfl))
 obtain⟨a,xs,rfl,hq,q⟩:=q1
 obtain⟨u,rfl,ru⟩:=vals1 r1
 cases ru
 obtain⟨av,rv,p,hz⟩:=I1.list hq
 refine call_reversed_list p.isList ?_
 have hl:=rv.length
 refine wpAny_pyIter_revIter (i:=(av.toArray.size:Int)-1) (l:=a) ⟨_,Heap.get?_push_size _ rfl,rfl,rfl⟩ ?_
 refine⟨s1.heap.objs.size,[s1.heap.objs.size],_,_,H1,rfl,I1.kept (t':=s1.toks) fun b o e=>Heap.get?_push_of_some _ e,LB a _ xs.length,⟨Nat.zero_le _,_,Heap.get?_push_size _ rfl,rfl,?_⟩,fun b hb=>?_,q⟩
 ·rw[List.size_toArray,<- hl];simp;rfl
 ·have e:b=s1.heap.objs.size:=by simpa using hb
  subst e
  exact I1.m3 (Nat.le_refl _) (I1.aA.fresh (Nat.le_refl _))
noncomputable def Dp(K:PySem.W.Frag)(a:Addr):It :=
 ⟨fun i H=>∃ xs x,ar K H a xs/\xs[i]?=some x,fun i H v H'=>∃ (p:Addr) (x:V),v = .ref p/\H p=none/\H'=upd H p (.tup [.int i,x])/\∀ xs,ar K H a xs->xs[i]?=some x,fun i H=>∃ xs,ar K H a xs/\xs.length<=i⟩
def Dq(K:PySem.W.Frag)(ta:TA):TI:=fun σ H R=>ta σ H fun vs H1=>∃ a,vs=[.ref a]/\(∃ xs,ar K H1 a xs)/\R (Dp K a) H1
noncomputable def Dr(K:PySem.W.Frag)(a b:Addr):It :=
 ⟨fun i H=>∃ xs ys x y,ar K H a xs/\ar K H b ys/\xs[i]?=some x/\ys[i]?=some y,fun i H v H'=>∃ (p:Addr) (x y:V),v = .ref p/\H p=none/\H'=upd H p (.tup [x,y])/\(∀ xs,ar K H a xs->xs[i]?=some x)/\∀ ys,ar K H b ys->ys[i]?=some y,
  fun i H=>∃ xs ys,ar K H a xs/\ar K H b ys/\(xs.length<=i∨ys.length<=i)⟩
def Ds(K:PySem.W.Frag)(ta:TA):TI:=fun σ H R=>ta σ H fun vs H1=>∃ a b,vs=[.ref a,.ref b]/\(∃ xs,ar K H1 a xs)/\(∃ ys,ar K H1 b ys)/\R (Dr K a b) H1
section
variable{X:Cx}
theorem wA:∀ {bs:List Bool} {av:List Value},Vals (bs.map V.bl) av->av=bs.map Value.bool
 | [],av,r=>by cases r;rfl
 | b::bs,av,r=>by
  cases r with
  | cons r1 r2 =>
   cases r1
   rw[wA r2];rfl
theorem sT(hc:X.calm=true):eL X (.builtin "all") (fun xs H Q=>∃ (a:Addr) (bs:List Bool),xs=[.ref a]/\ar X.K H a (bs.map V.bl)/\Q (.bl (bs.all id)) H):=by
 intro pins s σ H xs us Q I r h
 obtain⟨a,bs,rfl,hS,q⟩:=h
 obtain⟨u,rfl,ru⟩:=vals1 r
 cases ru
 obtain⟨av,rv,hp,y⟩:=I.list hS
 have e:=wA rv
 subst e
 have hl:=hp.isList
 have cw:a<s.heap.objs.size:=by obtain⟨y,e,y⟩:=hl;exact Heap.lt_size e
 refine call_all_walk (wpAny_pyIter_list hl ?_)
 refine⟨s.heap.objs.size,[s.heap.objs.size,a],[s.heap.objs.size],(bs.map Value.bool).toArray.size,_,_,fun i=>(bs[i]?).getD true,rfl,Walks.list (A:=X.A.in1) (I.ok.hd hc) _ a (Nat.ne_of_lt cw) (bs.map Value.bool).toArray,⟨⟨_,Heap.get?_push_size _ rfl,rfl,rfl⟩,hl.push _⟩,fun i v s' Q' E' hP hQ=>?_,fun h' tk hk=>?_⟩
 ·have jo:(bs[i]?).map Value.bool=some v:=by simpa using hP
  cases e:bs[i]? with
  | none=>rw[e] at jo;cases jo
  | some b =>
   rw[e] at jo;cases jo
   simp only[e,Option.getD_some] at hQ
   exact wpAny_truthy_bool hQ
 ·have e:((List.range (bs.map Value.bool).toArray.size).all fun i=>(bs[i]?).getD true)=bs.all id:=by
   rw[List.size_toArray,List.length_map];exact PyProof.Rows.LSm.range_all bs
  rw[e]
  exact⟨.bl (bs.all id),H,I.kept (fun b o q=>hk b o (fun z=>by
   have:b=s.heap.objs.size:=by simpa using z
   rw[this] at q;exact Nat.lt_irrefl _ (Heap.lt_size q)) (Heap.get?_push_of_some _ q)),rfl,q⟩
theorem wB(hc:X.calm=true):eL X (.builtin "any") (fun xs H Q=>∃ (a:Addr) (bs:List Bool),xs=[.ref a]/\ar X.K H a (bs.map V.bl)/\Q (.bl (bs.any id)) H):=by
 intro pins s σ H xs us Q I r h
 obtain⟨a,bs,rfl,hS,q⟩:=h
 obtain⟨u,rfl,ru⟩:=vals1 r
 cases ru
 obtain⟨av,rv,hp,y⟩:=I.list hS
 have e:=wA rv
 subst e
 have hl:=hp.isList
 have cw:a<s.heap.objs.size:=by obtain⟨y,e,y⟩:=hl;exact Heap.lt_size e
 refine call_any_walk (wpAny_pyIter_list hl ?_)
 refine⟨s.heap.objs.size,[s.heap.objs.size,a],[s.heap.objs.size],(bs.map Value.bool).toArray.size,_,_,fun i=>(bs[i]?).getD false,rfl,Walks.list (A:=X.A.in1) (I.ok.hd hc) _ a (Nat.ne_of_lt cw) (bs.map Value.bool).toArray,⟨⟨_,Heap.get?_push_size _ rfl,rfl,rfl⟩,hl.push _⟩,fun i v s' Q' E' hP hQ=>?_,fun h' tk hk=>?_⟩
 ·have jo:(bs[i]?).map Value.bool=some v:=by simpa using hP
  cases e:bs[i]? with
  | none=>rw[e] at jo;cases jo
  | some b =>
   rw[e] at jo;cases jo
   simp only[e,Option.getD_some] at hQ
   exact wpAny_truthy_bool hQ
 ·have e:((List.range (bs.map Value.bool).toArray.size).any fun i=>(bs[i]?).getD false)=bs.any id:=by
   rw[List.size_toArray,List.length_map];exact PyProof.Rows.LSm.range_any bs
  rw[e]
  exact⟨.bl (bs.any id),H,I.kept (fun b o q=>hk b o (fun z=>by
   have:b=s.heap.objs.size:=by simpa using z
   rw[this] at q;exact Nat.lt_irrefl _ (Heap.lt_size q)) (Heap.get?_push_of_some _ q)),rfl,q⟩
end
section
variable{K:PySem.W.Frag}{g:TG}{tb:TS}{D:Ends}{σ:L2.St}{H:Hp}{a b:Addr}{xs ys:List V}
theorem LF{ta:TA}:iH (wz K ta) g tb D σ H=ta σ H (fun vs H1=>∃ a xs,vs=[.ref a]/\ar K H1 a xs/\FJ (sS K a xs.length) g tb D σ H1):=rfl
theorem LG{ta:TA}:iH (Dq K ta) g tb D σ H=ta σ H (fun vs H1=>∃ a,vs=[.ref a]/\(∃ xs,ar K H1 a xs)/\FJ (Dp K a) g tb D σ H1):=rfl
theorem LH{ta:TA}:iH (Ds K ta) g tb D σ H=ta σ H (fun vs H1=>∃ a b,vs=[.ref a,.ref b]/\(∃ xs,ar K H1 a xs)/\(∃ ys,ar K H1 b ys)/\FJ (Dr K a b) g tb D σ H1):=rfl
theorem LI(Pv:Nat->L2.St->Hp->Prop)(h0:Pv 0 σ H)(hl:∀ i σ H,i<=xs.length->Pv i σ H->ar K H a xs)
 (hs:∀ i x σ H,xs.reverse[i]?=some x->Pv i σ H->g x σ H fun σ2 H2=>tb { D with nx:=Pv (i+1),ct:=Pv (i+1),bk:=D.nx } σ2 H2) (hd:∀ σ H,Pv xs.length σ H->D.nx σ H):FJ (sS K a xs.length) g tb D σ H:=by
 refine⟨fun i m σ H=>m=xs.length-i/\i<=xs.length/\Pv i σ H,⟨_,rfl,Nat.zero_le _,h0⟩,?_⟩
 rintro i m σ H ⟨rfl,hi,p⟩
 have q:=hl i σ H hi p
 by_cases cw:i<xs.length
 ·have hx:xs.reverse[i]?=some (xs.reverse[i]'(by rw[List.length_reverse];exact cw)):=List.getElem?_eq_getElem _
  refine .inr ⟨⟨xs,_,q,rfl,hx⟩,Pv (i+1),fun σ' H' p'=>⟨xs.length-(i+1),by lia,rfl,cw,p'⟩,fun x H' y=>?_⟩
  obtain⟨e,y⟩:=y
  subst e
  exact hs i x σ _ (y xs q rfl) p
 ·have e:i=xs.length:=by lia
  subst e
  exact .inl ⟨rfl,hd σ H p⟩
end
end Gz
namespace Gz
open PySem PySem.Spec PyProof.Rows L2
section
variable{X:Cx}{K:PySem.W.Frag}
theorem Dt(h:X.K=K):o9 X (vK K):=h ▸ fv
variable{ρ:L2.St}{tt:TT}{te:TE}{H:Hp}{Q:VK}{a b:Addr}{xs ys:List V}
end
end Gz
namespace Gz
open PySem PySem.Spec PyProof.Rows L2
mutual
inductive Dat(K:PySem.W.Frag)(H:Hp):V->PyData->Prop where
 | non:Dat K H .non .none
 | bl (b:Bool):Dat K H (.bl b) (.bool b)
 | int (i:Int):Dat K H (.int i) (.int i)
 | str (x:Str):Dat K H (.str x) (.str x)
 | tup {a:Addr} {xs:List V} {ds:List PyData} (h:aB K H a xs) (r:nA K H xs ds):Dat K H (.ref a) (.tuple ds)
 | lst {a:Addr} {xs:List V} {ds:List PyData} (h:ar K H a xs) (r:nA K H xs ds):Dat K H (.ref a) (.list ds)
inductive nA(K:PySem.W.Frag)(H:Hp):List V->List PyData->Prop where
 | nil:nA K H [] []
 | cons {x:V} {d:PyData} {xs:List V} {ds:List PyData} (h:Dat K H x d) (r:nA K H xs ds):nA K H (x::xs) (d::ds)
end
section
variable{X:Cx}{pins:List (Addr × Obj)}{σ:L2.St}{H:Hp}{s:Shared}
theorem Dat.reads(I:Inv X pins σ H s)(d:PyData){v:V}{u:Value}(h:Dat X.K H v d):RelV v u->∃ as,Reads s.heap u d as:=by
 refine Dat.rec (motive_1:=fun v d y=>∀ u,RelV v u->∃ as,Reads s.heap u d as) (motive_2:=fun vs ds y=>∀ us,Vals vs us->∃ as,ReadsAll s.heap us ds as) ?_ ?_ ?_ ?_ ?_ ?_ ?_ ?_ h u
 ·intro u r;cases r;exact⟨_,.none⟩
 ·intro b u r;cases r;exact⟨_,.bool b⟩
 ·rintro i u ⟨t,rfl⟩;exact⟨_,.int i t⟩
 ·rintro x u ⟨t,rfl⟩;exact⟨_,.str x t⟩
 ·intro a xs ds h q ih u r
  cases r
  obtain⟨av,rv,⟨o,ho,hc,n,hd⟩,y⟩:=I.tuple h
  obtain⟨as,ra⟩:=ih av rv
  exact⟨_,.tuple ho hc hd (by simpa using ra)⟩
 ·intro a xs ds h q ih u r
  cases r
  obtain⟨av,rv,⟨o,n,ho,hc,y,hd⟩,y⟩:=I.list h
  obtain⟨as,ra⟩:=ih av rv
  exact⟨_,.list ho hc hd (by simpa using ra)⟩
 ·intro us r;cases r;exact⟨_,.nil⟩
 ·intro x d xs ds h q wC wD us r
  cases r with
  | cons r1 r2 =>
   obtain⟨as,ra⟩:=wC _ r1
   obtain⟨bs,rb⟩:=wD _ r2
   exact⟨_,.cons ra rb⟩
def Du(K:PySem.W.Frag)(neg:Bool):R2:=fun x y H Q=>∃ d e,Dat K H x d/\Dat K H y e/\d.canLay0=true/\e.canLay0=true/\d.depth<=60/\Q (.bl (if neg=true then !PyData.eqv d e else PyData.eqv d e)) H
theorem LJ(hu:X.A.units+64<cLine):bf X (compareOp .NotEq) (Du X.K true):=by
 intro pins s σ H x y v u Q I rx ry h
 obtain⟨d,e,dx,dy,c1,c2,dd,q⟩:=h
 obtain⟨as,ra⟩:=Dat.reads I d dx rx
 obtain⟨bs,rb⟩:=Dat.reads I e dy ry
 exact SeqAt.compareNe_reads ra rb c1 c2 (by lia) ⟨.bl _,H,I,rfl,q⟩
end
end Gz
namespace Gz
open PySem PySem.Spec PyProof.Rows L2
noncomputable def Dv(lo st:Int)(n:Nat):It:=⟨fun i y=>i<n,fun i H x H'=>H'=H/\x = .int (lo+(i:Int) * st),fun i y=>n<=i⟩
noncomputable def Dw(lo hi st:Int):Nat:=(Builtin.Range.rangeSize lo hi st).toNat
def Dx(ta:TA):TI:=fun σ H R=>ta σ H fun vs H1=>∃ i j c:Int,vs=[.int i,.int j,.int c]/\(-1000000<=i/\i<=1000000/\-1000000<=j/\j<=1000000/\-1000000<=c/\c<=1000000/\c≠0)/\R (Dv i c (Dw i j c)) H1
section
variable{g:TG}{tb:TS}{D:Ends}{σ:L2.St}{H:Hp}{lo st:Int}{n:Nat}
theorem LK{ta:TA}:iH (vo ta) g tb D σ H=ta σ H (fun vs H1=>∃ i j:Int,vs=[.int i,.int j]/\(-(2 ^ 62)<=i/\i<2 ^ 62/\-(2 ^ 62)<=j/\j<2 ^ 62)/\FJ (hU i (j-i).toNat) g tb D σ H1):=rfl
theorem LL{ta:TA}:iH (Dx ta) g tb D σ H=ta σ H (fun vs H1=>∃ i j c:Int,vs=[.int i,.int j,.int c]/\(-1000000<=i/\i<=1000000/\-1000000<=j/\j<=1000000/\-1000000<=c/\c<=1000000/\c≠0)/\FJ (Dv i c (Dw i j c)) g tb D σ H1):=rfl
end
end Gz
namespace Gz
open PySem PySem.Spec PyProof.Rows L2
theorem LM(xs:List V){a b:Nat}(h2:b<=xs.length):eF xs (some (a:Int)) (some (b:Int))=(xs.drop a).take (b-a):=by
 unfold eF
 rw[HT.sA,HT.sA,Nat.min_eq_left h2]
 by_cases h:a<=xs.length
 ·rw[Nat.min_eq_left h]
 ·rw[Nat.min_eq_right (by lia),List.drop_eq_nil_of_le (Nat.le_refl _),List.drop_eq_nil_of_le (by lia)];simp
theorem LN(xs:List V)(b:Nat):eF xs none (some (b:Int))=xs.take b:=by
 unfold eF
 rw[HT.sA,HT.vG,List.drop_zero,Nat.sub_zero]
 by_cases h:b<=xs.length
 ·rw[Nat.min_eq_left h]
 ·rw[Nat.min_eq_right (by lia),List.take_length,List.take_of_length_le (by lia)]
theorem Dy(xs:List V)(a:Nat):eF xs (some (a:Int)) none=xs.drop a:=by
 unfold eF
 rw[HT.sA,HT.vG]
 by_cases h:a<=xs.length
 ·rw[Nat.min_eq_left h,List.take_of_length_le (by rw[List.length_drop];lia)]
 ·rw[Nat.min_eq_right (by lia),List.drop_eq_nil_of_le (Nat.le_refl _),List.drop_eq_nil_of_le (by lia)];simp
theorem wF{K:PySem.W.Frag}{H:Hp}:∀ (ns:List Int),nA K H (ns.map V.int) (ns.map PyData.int)
 | []=>.nil
 | n::ns=>.cons (.int n) (wF ns)
mutual
noncomputable def fX:Nat->PyData->Bool
 | _,.none=>true
 | _,.bool _=>true
 | _,.int _=>true
 | n+1,.tuple ds=>nB n ds
 | n+1,.list ds=>nB n ds
 | _,_=>false
noncomputable def nB:Nat->List PyData->Bool
 | _,[]=>true
 | n,d::ds=>fX n d && nB n ds
end
mutual
theorem wG:∀ (d:PyData) {n:Nat},fX n d=true->PyData.eqv d d=true/\d.canLay0=true/\d.depth<=n
 | .none,n,_=>⟨rfl,rfl,Nat.zero_le _⟩
 | .bool b,n,_=>⟨by simp[PyData.eqv],rfl,Nat.zero_le _⟩
 | .int i,n,_=>⟨by simp[PyData.eqv],rfl,Nat.zero_le _⟩
 | .str x,0,h=>by simp[fX] at h
 | .str x,n+1,h=>by simp[fX] at h
 | .dict x,0,h=>by simp[fX] at h
 | .dict x,n+1,h=>by simp[fX] at h
 | .tuple ds,0,h=>by simp[fX] at h
 | .list ds,0,h=>by simp[fX] at h
 | .tuple ds,n+1,h=>by
  obtain⟨a,b,c⟩:=wH ds (n:=n) (by simpa [fX] using h)
  exact⟨by simpa only [PyData.eqv] using a,by simpa only [PyData.canLay0] using b,by simp only[PyData.depth];lia⟩
 | .list ds,n+1,h=>by
  obtain⟨a,b,c⟩:=wH ds (n:=n) (by simpa [fX] using h)
  exact⟨by simpa only [PyData.eqv] using a,by simpa only [PyData.canLay0] using b,by simp only[PyData.depth];lia⟩
theorem wH:∀ (ds:List PyData) {n:Nat},nB n ds=true->PyData.eqvAll ds ds=true/\PyData.canLayAll0 ds=true/\PyData.depthAll ds<=n
 | [],n,_=>⟨rfl,rfl,Nat.zero_le _⟩
 | d::ds,n,h=>by
  have h':fX n d=true/\nB n ds=true:=by simpa [nB] using h
  obtain⟨a,b,c⟩:=wG d h'.1
  obtain⟨a',b',c'⟩:=wH ds h'.2
  exact⟨by simp only[PyData.eqvAll,a,a',Bool.and_self],by simp only[PyData.canLayAll0,b,b',Bool.and_self],by simp only[PyData.depthAll];lia⟩
end
theorem LO{K:PySem.W.Frag}{H:Hp}{x y:V}{d:PyData}{n:Nat}{neg:Bool}{Q:VK}(hx:Dat K H x d)(hy:Dat K H y d)(hp:fX n d=true)(hn:n<=60)(q:Q (.bl (!neg)) H):Du K neg x y H Q:=by
 obtain⟨a,b,c⟩:=wG d hp
 refine⟨d,d,hx,hy,b,b,Nat.le_trans c hn,?_⟩
 rw[a]
 cases neg<;>exact q
end Gz
namespace Gz
open PySem PySem.Spec PyProof.Rows L2
end Gz
namespace Gz
noncomputable def num(c:Int):Int:=if c % 3=0 then c / 3 % 13-6 else c / 3 % 1000000000000000000000000000000 * 3315501701285949699224633478459810372516696558535471 % 200000000000000000000000000000000000000000000000001-100000000000000000000000000000000000000000000000000
noncomputable def sU(a b:Int):Int:=((Nat.gcd a.natAbs b.natAbs:Nat):Int)
noncomputable def sg(t b:Int):Int:=if b<0 then -sU t b else sU t b
noncomputable def rt(t b:Int):Int:=t.fdiv (sg t b)
noncomputable def rb(t b:Int):Int:=b.fdiv (sg t b)
end Gz
namespace Gz
open PySem PySem.Spec PyProof.Rows L2
def aD{α:Type}(R:V->α->Prop):List V->List α->Prop
 | [],[]=>True
 | x::xs,a::as=>R x a/\aD R xs as
 | _,_=>False
section
variable{α:Type}{R R':V->α->Prop}
theorem aD.len:∀ {xs:List V} {as:List α},aD R xs as->xs.length=as.length
 | [],[],_=>rfl
 | _::_,_::_,h=>by simp[aD.len h.2]
 | [],_::_,h=>h.elim
 | _::_,[],h=>h.elim
theorem aD.imp(f:∀ x a,R x a->R' x a):∀ {xs:List V} {as:List α},aD R xs as->aD R' xs as
 | [],[],_=>trivial
 | _::_,_::_,h=>⟨f _ _ h.1,aD.imp f h.2⟩
 | [],_::_,h=>h.elim
 | _::_,[],h=>h.elim
theorem aD.get:∀ {xs:List V} {as:List α},aD R xs as->∀ {i:Nat} {x:V},xs[i]?=some x->∃ a,as[i]?=some a/\R x a
 | [],[],_,i,x,e=>by simp at e
 | _::_,a::_,h,0,x,e=>by simp at e;subst e;exact⟨a,by simp,h.1⟩
 | _::_,_::_,h,i+1,x,e=>by
  simp only[List.getElem?_cons_succ] at e ⊢
  exact aD.get h.2 e
 | [],_::_,h,_,_,_=>h.elim
 | _::_,[],h,_,_,_=>h.elim
theorem aD.at:∀ {xs:List V} {as:List α},aD R xs as->∀ {i:Nat} {a:α},as[i]?=some a->∃ x,xs[i]?=some x/\R x a
 | [],[],_,i,x,e=>by simp at e
 | x::_,_::_,h,0,a,e=>by simp at e;subst e;exact⟨x,by simp,h.1⟩
 | _::_,_::_,h,i+1,a,e=>by
  simp only[List.getElem?_cons_succ] at e ⊢
  exact aD.at h.2 e
 | [],_::_,h,_,_,_=>h.elim
 | _::_,[],h,_,_,_=>h.elim
theorem aD.app:∀ {xs ys:List V} {as bs:List α},aD R xs as->aD R ys bs->aD R (xs++ys) (as++bs)
 | [],_,[],_,_,h=>h
 | _::_,_,_::_,_,h,h'=>⟨h.1,aD.app h.2 h'⟩
 | [],_,_::_,_,h,_=>h.elim
 | _::_,_,[],_,h,_=>h.elim
theorem aD.snoc{xs:List V}{as:List α}{x:V}{a:α}(h:aD R xs as)(h':R x a):aD R (xs++[x]) (as++[a]):=h.app ⟨h',trivial⟩
theorem aD.take:∀ {xs:List V} {as:List α} (n:Nat),aD R xs as->aD R (xs.take n) (as.take n)
 | [],[],n,_=>by simp[aD]
 | _::_,_::_,0,_=>by simp[aD]
 | _::_,_::_,n+1,h=>by simpa [aD] using ⟨h.1,aD.take n h.2⟩
 | [],_::_,_,h=>h.elim
 | _::_,[],_,h=>h.elim
theorem aD.drop:∀ {xs:List V} {as:List α} (n:Nat),aD R xs as->aD R (xs.drop n) (as.drop n)
 | [],[],n,_=>by simp[aD]
 | _::_,_::_,0,h=>by simpa using h
 | _::_,_::_,n+1,h=>by simpa using aD.drop n h.2
 | [],_::_,_,h=>h.elim
 | _::_,[],_,h=>h.elim
theorem aD.ints:∀ (ns:List Int),aD (fun x n=>x=V.int n) (ns.map V.int) ns
 | []=>trivial
 | n::ns=>⟨rfl,aD.ints ns⟩
theorem aD.iF{lo:Int}(n:Nat):aD (fun x (k:Nat)=>x=V.int (lo+k)) ((List.range n).map fun k=>V.int (lo+(k:Nat))) (List.range n):=by
 suffices ∀ l:List Nat,aD (fun x (k:Nat)=>x=V.int (lo+k)) (l.map fun k=>V.int (lo+(k:Nat))) l from this _
 intro l
 induction l with
 | nil=>trivial
 | cons a l ih=>exact⟨rfl,ih⟩
end
theorem nC{α:Type}{R:Hp->V->α->Prop}{Ok:Hp->Prop}{ρ:L2.St}{tt:TT}{te:TE}{p:α->Bool}{f:α->V}{Q':List V->Hp->Prop}(mono:∀ H H' x a,ai H H'->R H x a->R H' x a):∀ {xs:List V} {as:List α} {ys:List V} {H:Hp},aD (R H) xs as->(∀ H',ai H H'->Ok H') ->
 (∀ x a,a∈as->∀ H',ai H H'->R H' x a->∀ Q,(∀ ik,ai H' ik->Q (p a) ik)->tt (some x::ρ) H' Q)->(∀ x a,a∈as->p a=true->∀ H',ai H H'->R H' x a->∀ Q:VK,(∀ ik,ai H' ik->Q (f a) ik)->te (some x::ρ) H' Q) ->
 (∀ H',ai H H'->Q' (ys++(as.filter p).map f) H')->iP Ok ρ tt te xs ys H Q'
 | [],[],ys,H,_,cX,_,_,q=>⟨cX H (ai.refl H),by simpa using q H (ai.refl H)⟩
 | x::xs,a::as,ys,H,h,cX,ht,he,q=>by
  refine⟨cX H (ai.refl H),ht x a (.head _) H (ai.refl H) h.1 _ fun H1 s1=>?_⟩
  by_cases hb:p a=true
  ·rw[if_pos hb]
   refine he x a (.head _) hb H1 s1 (mono _ _ _ _ s1 h.1) _ fun H2 s2=>?_
   have S:=s1.trans s2
   refine nC mono (h.2.imp fun x a r=>mono _ _ _ _ S r) (fun H' s'=>cX H' (S.trans s')) (fun x a ha H' s'=>ht x a (.tail _ ha) H' (S.trans s')) (fun x a ha hb H' s'=>he x a (.tail _ ha) hb H' (S.trans s')) fun H' s'=>?_
   have:=q H' (S.trans s')
   rw[List.filter_cons,if_pos hb] at this
   simpa using this
  ·rw[if_neg hb]
   refine nC mono (h.2.imp fun x a r=>mono _ _ _ _ s1 r) (fun H' s'=>cX H' (s1.trans s')) (fun x a ha H' s'=>ht x a (.tail _ ha) H' (s1.trans s')) (fun x a ha hb H' s'=>he x a (.tail _ ha) hb H' (s1.trans s')) fun H' s'=>?_
   have:=q H' (s1.trans s')
   rw[List.filter_cons,if_neg hb] at this
   exact this
 | [],_::_,_,_,h,_,_,_,_=>h.elim
 | _::_,[],_,_,h,_,_,_,_=>h.elim
theorem sV{α:Type}{R:V->α->Prop}{Ok:Hp->Prop}{ρ:L2.St}{tt:TT}{te:TE}{p:α->Bool}{f:α->V}{Q':List V->Hp->Prop}{H:Hp}(cX:Ok H):∀ {xs:List V} {as:List α} {ys:List V},aD R xs as ->
 (∀ x a,a∈as->R x a->∀ Q,Q (p a) H->tt (some x::ρ) H Q)->(∀ x a,a∈as->p a=true->R x a->∀ Q:VK,Q (f a) H->te (some x::ρ) H Q) ->
 Q' (ys++(as.filter p).map f) H->iP Ok ρ tt te xs ys H Q'
 | [],[],ys,_,_,_,q=>⟨cX,by simpa using q⟩
 | x::xs,a::as,ys,h,ht,he,q=>by
  refine⟨cX,ht x a (.head _) h.1 _ ?_⟩
  by_cases hb:p a=true
  ·rw[if_pos hb]
   refine he x a (.head _) hb h.1 _ (sV cX h.2 (fun x a ha=>ht x a (.tail _ ha)) (fun x a ha=>he x a (.tail _ ha)) ?_)
   rw[List.filter_cons,if_pos hb] at q
   simpa using q
  ·rw[if_neg hb]
   refine sV cX h.2 (fun x a ha=>ht x a (.tail _ ha)) (fun x a ha=>he x a (.tail _ ha)) ?_
   rw[List.filter_cons,if_neg hb] at q
   exact q
 | [],_::_,_,h,_,_,_=>h.elim
 | _::_,[],_,h,_,_,_=>h.elim
theorem filter_tt{α:Type}(l:List α):l.filter (fun y=>true)=l:=List.filter_eq_self.mpr fun y y=>rfl
abbrev P2:=Int × Int
def iQ(H:Hp)(v:V)(p:P2):Prop:=∃ a,v = .ref a/\H a=some (.tup [.int p.1,.int p.2])
theorem iQ.new{H:Hp}{a:Addr}{x y:Int}:iQ (upd H a (.tup [.int x,.int y])) (.ref a) (x,y):=⟨a,rfl,aj⟩
theorem iQ.put{H:Hp}{v:V}{p:P2}{r:Addr}{ys zs:List V}(h:iQ H v p)(hr:H r=some (.lst ys)):iQ (upd H r (.lst zs)) v p:=by
 obtain⟨a,e,q⟩:=h
 refine⟨a,e,?_⟩
 rw[aO (mS q hr (fun z=>nomatch z))];exact q
abbrev sW(H:Hp):List V->List P2->Prop:=aD (iQ H)
theorem sW.put{H:Hp}{xs:List V}{ps:List P2}{r:Addr}{ys zs:List V}(h:sW H xs ps)(hr:H r=some (.lst ys)):sW (upd H r (.lst zs)) xs ps:=aD.imp (fun y y x=>x.put hr) h
noncomputable def sX(ns:List Int):Bool:=(ns.zip (ns.drop 1)).all fun r=>decide (r.1<r.2)
theorem LP{ns:List Int}:sX ns=true ↔ ∀ i,i+1<ns.length->ns.getD i 0<ns.getD (i+1) 0:=by
 unfold sX
 rw[List.all_eq_true]
 constructor
 ·intro h i hi
  have e:(ns.zip (ns.drop 1))[i]?=some (ns.getD i 0,ns.getD (i+1) 0):=by
   rw[List.getElem?_zip_eq_some,List.getElem?_drop,List.getD_eq_getElem?_getD,List.getD_eq_getElem?_getD,List.getElem?_eq_getElem (show i<ns.length by lia),show 1+i=i+1 by lia,List.getElem?_eq_getElem hi]
   exact⟨rfl,rfl⟩
  simpa using h _ (List.mem_of_getElem? e)
 ·intro h r hr
  obtain⟨i,hi⟩:=List.mem_iff_getElem?.mp hr
  rw[List.getElem?_zip_eq_some,List.getElem?_drop] at hi
  have h1:=(List.getElem?_eq_some_iff.mp hi.2).1
  have:=h i (by lia)
  rw[List.getD_eq_getElem?_getD,List.getD_eq_getElem?_getD,hi.1,show i+1=1+i by lia,hi.2] at this
  simpa using this
noncomputable def dB(ps:List P2)(i:Nat):P2:=ps.getD i (0,0)
end Gz
namespace Gz
open PySem PySem.Spec PyProof.Rows L2
end Gz
namespace Gz
open PySem PySem.Spec PyProof.Rows L2
end Gz
namespace Gz
open PySem PySem.Spec PyProof.Rows L2
def pH(s e:P2)(p q t b:Int):Prop:=(t-s.2 * b) * (e.1-s.1) * q=(p-s.1 * q) * (e.2-s.2) * b
def sY(ks:List P2)(p q:Int)(i:Nat):Prop:=i+1<ks.length/\(dB ks i).1 * q<=p/\p<=(dB ks (i+1)).1 * q
def hit(ks:List P2)(p q:Int):Prop:=∃ i,sY ks p q i
structure Led(ks:List P2)(p q t b:Int):Prop where
 pos:1<=b
 low:sU t b=1
 on:∀ i,sY ks p q i->pH (dB ks i) (dB ks (i+1)) p q t b
theorem Dz{ks:List P2}{i:Nat}(h:i<ks.length):(ks.map (·.1)).getD i 0=(dB ks i).1:=by
 unfold dB
 rw[List.getD_eq_getElem?_getD,List.getElem?_map,List.getD_eq_getElem?_getD,List.getElem?_eq_getElem h];rfl
theorem DA{ks:List P2}(h:sX (ks.map (·.1))=true):∀ {i j:Nat},i<j->j<ks.length->(dB ks i).1<(dB ks j).1:=by
 rw[LP] at h
 have st:∀ i,i+1<ks.length->(dB ks i).1<(dB ks (i+1)).1:=fun i hi=>by
  have:=h i (by rw[List.length_map];exact hi)
  rwa [Dz (by lia),Dz hi] at this
 intro i j lR hj
 induction j with
 | zero=>lia
 | succ j ih =>
  by_cases e:i=j
  ·subst e;exact st i hj
  ·exact Int.lt_trans (ih (by lia) (by lia)) (st j hj)
theorem LQ{a b c:P2}{p q t w:Int}(hq:0<q)(lJ:a.1<b.1)(h1:p=b.1 * q)(h:pH a b p q t w):pH b c p q t w:=by
 unfold pH at *
 subst h1
 have e:(t-b.2 * w) * ((b.1-a.1) * q)=0:=by grind
 have n:(b.1-a.1) * q≠0:=Int.mul_ne_zero (by lia) (by lia)
 have:=(Int.mul_eq_zero.mp e).resolve_right n
 have e2:t-b.2 * w=0:=this
 rw[e2];grind
theorem Led.of{ks:List P2}{p q t b:Int}{i:Nat}(hr:sX (ks.map (·.1))=true)(hq:0<q)(h1:1<=b)(h2:sU t b=1)(hi:sY ks p q i)(first:∀ j,j<i->¬ sY ks p q j)(h:pH (dB ks i) (dB ks (i+1)) p q t b):Led ks p q t b:=by
 refine⟨h1,h2,fun j hj=>?_⟩
 by_cases e:j=i
 ·rw[e];exact h
 by_cases lt:j<i
 ·exact absurd hj (first j lt)
 by_cases e1:j=i+1
 ·subst e1
  have l1:=DA hr (i:=i) (j:=i+1) (by lia) (by have:=hj.1;lia)
  exact LQ hq l1 (by have:=hi.2.2;have:=hj.2.1;lia) h
 ·have l1:=DA hr (i:=i+1) (j:=j) (by lia) (by have:=hj.1;lia)
  have:(dB ks (i+1)).1 * q<(dB ks j).1 * q:=Int.mul_lt_mul_of_pos_right l1 hq
  have a1:=hi.2.2
  have a2:=hj.2.1
  lia
def DB(H:Hp)(v:V)(t b:Int):Prop:=∃ a,v = .ref a/\H a=some (.tup [.int t,.int b])
theorem DB.p{K:PySem.W.Frag}{H:Hp}{v:V}{t b:Int}(h:DB H v t b):sI K H v t b:=let ⟨a,e,q⟩:=h;⟨a,e,aB.of q⟩
def SameBut(x:Addr)(H H':Hp):Prop:=∀ b o,b≠x->H b=some o->H' b=some o
end Gz
namespace Gz
open PySem PySem.Spec PyProof.Rows L2
theorem DC{H:Hp}{xs:List V}{ps:List P2}(h:sW H xs ps)(h0:0<ps.length):∃ v,cD xs (-1)=some v/\iQ H v (dB ps (ps.length-1)):=by
 have hl:=h.len
 have e:ps[ps.length-1]?=some (dB ps (ps.length-1)):=by unfold dB;rw[List.getD_eq_getElem?_getD,List.getElem?_eq_getElem (by lia)];rfl
 obtain⟨x,ex,r⟩:=h.at e
 refine⟨x,?_,r⟩
 unfold cD fU
 rw[if_neg (by decide),if_pos (by lia)]
 show xs[(-1+(xs.length:Int)).toNat]?=_
 rw[show (-1+(xs.length:Int)).toNat=ps.length-1 by lia]
 exact ex
end Gz
namespace Gz
open PySem PySem.Spec PyProof.Rows L2
theorem lS{α β:Type}{R:Hp->V->α->Prop}{R':Hp->V->β->Prop}{Ok:Hp->Prop}{ρ:L2.St}{tt:TT}{te:TE}{f:α->β}{Q':List V->Hp->Prop}(mono:∀ H H' x a,ai H H'->R H x a->R H' x a)(DD:∀ H H' x a,ai H H'->R' H x a->R' H' x a) :
 ∀ {xs:List V} {as:List α} {ys:List V} {bs:List β} {H:Hp},aD (R H) xs as->aD (R' H) ys bs->(∀ H',ai H H'->Ok H')->(∀ x a,a∈as->∀ H',ai H H'->R H' x a->∀ Q,Q true H'->tt (some x::ρ) H' Q) ->
 (∀ x a,a∈as->∀ H',ai H H'->R H' x a->∀ Q:VK,(∀ ik y,ai H' ik->R' ik y (f a)->Q y ik)->te (some x::ρ) H' Q) ->
 (∀ H' zs,ai H H'->aD (R' H') zs (bs++as.map f)->Q' zs H')->iP Ok ρ tt te xs ys H Q'
 | [],[],ys,bs,H,_,hy,cX,_,_,q=>⟨cX H (ai.refl H),q H ys (ai.refl H) (by simpa using hy)⟩
 | x::xs,a::as,ys,bs,H,h,hy,cX,ht,he,q=>by
  refine⟨cX H (ai.refl H),ht x a (.head _) H (ai.refl H) h.1 _ ?_⟩
  rw[if_pos rfl]
  refine he x a (.head _) H (ai.refl H) h.1 _ fun H2 y s2 r2=>?_
  refine lS mono DD (bs:=bs++[f a]) (h.2.imp fun x a r=>mono _ _ _ _ s2 r) ((hy.imp fun x a r=>DD _ _ _ _ s2 r).snoc r2) (fun H' s'=>cX H' (s2.trans s')) (fun x a ha H' s'=>ht x a (.tail _ ha) H' (s2.trans s')) (fun x a ha H' s'=>he x a (.tail _ ha) H' (s2.trans s')) fun H' zs s' hz=>?_
  refine q H' zs (s2.trans s') ?_
  rw[List.map_cons]
  rwa [List.append_assoc] at hz
 | [],_::_,_,_,_,h,_,_,_,_,_=>h.elim
 | _::_,[],_,_,_,h,_,_,_,_,_=>h.elim
noncomputable def sw(ks:List P2):List P2:=ks.map fun p=>(p.2,p.1)
end Gz
namespace Gz
open PySem PySem.Spec PyProof.Rows L2
end Gz
namespace Gz
open PySem PySem.W PyProof.Rows
section
variable{lt:Nat->Nat->Bool}{n:Nat}
structure Ord(lt:Nat->Nat->Bool):Prop where
 asym:∀ {a b},lt a b=true->lt b a=false
 tr:∀ {a b c},lt b a=false->lt c b=false->lt c a=false
theorem Ord.rfl'(O:Ord lt)(a:Nat):lt a a=false:=by
 cases h:lt a a with
 | false=>rfl
 | true=>rw[O.asym h] at h;cases h
def pI(lt:Nat->Nat->Bool)(p:Array Nat)(k:Nat):Prop:=∀ i j,i<=j->j<k->lt (p.getD j 0) (p.getD i 0)=false
def pJ(lt:Nat->Nat->Bool)(p:Array Nat)(k:Nat):Prop:=∀ i j,i<=j->j<k->lt (p.getD i 0) (p.getD j 0)=false
def lT(n:Nat)(p:Array Nat):Prop:=p.toList.Perm (List.range n)
theorem lT.size{p:Array Nat}(h:lT n p):p.size=n:=by
 have:=h.length_eq
 simpa using this
theorem lT.below{p:Array Nat}(h:lT n p){i:Nat}(hi:i<n):p.getD i 0<n:=by
 have hs:=h.size
 have pF:i<p.size:=by lia
 have e:p.getD i 0=p[i]:=by simp[Array.getD,pF]
 rw[e]
 have m:p[i]∈p.toList:=by simp
 simpa using h.mem_iff.mp m
theorem lT.of{p q:Array Nat}(h:lT n p)(hq:q.Perm p):lT n q:=(Array.perm_iff_toList_perm.mp hq).trans h
theorem pI.one(O:Ord lt){p:Array Nat}:pI lt p 1:=fun i j lR hj=>by
 have:i=j:=by lia
 subst this;exact O.rfl' _
theorem pJ.one(O:Ord lt){p:Array Nat}:pJ lt p 1:=fun i j lR hj=>by
 have:i=j:=by lia
 subst this;exact O.rfl' _
theorem pI.succ(O:Ord lt){p:Array Nat}{k:Nat}(h:pI lt p k)(hk:1<=k)(hn:lt (p.getD k 0) (p.getD (k-1) 0)=false):pI lt p (k+1):=fun i j lR hj=>by
 by_cases e:j=k
 ·subst e
  by_cases ei:i=j
  ·subst ei;exact O.rfl' _
  ·exact O.tr (h i (j-1) (by lia) (by lia)) hn
 ·exact h i j lR (by lia)
theorem pJ.succ(O:Ord lt){p:Array Nat}{k:Nat}(h:pJ lt p k)(hk:1<=k)(hn:lt (p.getD (k-1) 0) (p.getD k 0)=false):pJ lt p (k+1):=fun i j lR hj=>by
 by_cases e:j=k
 ·subst e
  by_cases ei:i=j
  ·subst ei;exact O.rfl' _
  ·exact O.tr hn (h i (j-1) (by lia) (by lia))
 ·exact h i j lR (by lia)
noncomputable def DE{α:Type}(lt:Nat->Nat->Bool):KasT α->α
 | .ret a=>a
 | .ask i j k=>DE lt (k (lt i j))
noncomputable def LR(lt:Nat->Nat->Bool)(n:Nat):Array Nat:=if n<2 then List.toArray (List.range n) else DE lt (kas_sort n)
end
end Gz
namespace Gz
open PySem PySem.Spec PyProof.Rows L2
local macro_rules | `(tactic| walk_at "om") => `(tactic| ((try simp only [PySem.Addr] at *); lia))
section
variable{prog:Program}{w:World}{A:Around}{E:Value->Shared->Prop}{s:Shared}
end
def DF(sp:Sp):List V->List V->Hp->(List V->Hp->Prop)->Prop
 | [],ks,H,Q=>Q ks H
 | x::r,ks,H,Q=>sp [x] H (fun k H1=>DF sp r (ks++[k]) H1 Q) E0
def ip(K:PySem.W.Frag)(H:Hp):List V->List (List Int)->Prop
 | [],[]=>True
 | k::ks,n::ns=>(∃ p,k = .ref p/\aB K H p (n.map V.int)/\n≠[])/\ip K H ks ns
 | _,_=>False
theorem ip.len{K:PySem.W.Frag}{H:Hp}:∀ {ks:List V} {ns:List (List Int)},ip K H ks ns->ks.length=ns.length
 | [],[],_=>rfl
 | _::_,_::_,h=>by simp[ip.len h.2]
 | [],_::_,h=>h.elim
 | _::_,[],h=>h.elim
theorem ip.get{K:PySem.W.Frag}{H:Hp}:∀ {ks:List V} {ns:List (List Int)} {i:Nat} {k:V},ip K H ks ns->ks[i]?=some k->∃ p,k = .ref p/\aB K H p ((ns.getD i []).map V.int)
 | [],[],_,_,_,e=>by simp at e
 | k::_,n::_,0,_,h,e=>by
  simp at e;subst e
  obtain⟨⟨p,a,b,y⟩,y⟩:=h
  exact⟨p,a,b⟩
 | _::_,_::_,i+1,_,h,e=>by
  have:=ip.get (i:=i) h.2 (by simpa using e)
  simpa using this
 | [],_::_,_,_,h,_=>h.elim
 | _::_,[],_,_,h,_=>h.elim
section
variable{X:Cx}{pins:List (Addr × Obj)}{σ:L2.St}{H:Hp}{s:Shared}
theorem ip.dG(I:Inv X pins σ H s):∀ {ks:List V} {ns:List (List Int)} {us:List Value},ip X.K H ks ns->Vals ks us->∃ fs,PySem.W.KatTups s.heap us fs/\fs.length=us.length/\∀ v∈fs,∃ i t,v = .int i t
 | [],[],_,_,.nil=>⟨[],trivial,rfl,fun y z=>(nomatch z)⟩
 | k::ks,n::ns,_,h,.cons r rs=>by
  obtain⟨⟨p,rfl,hp,hn⟩,h⟩:=h
  cases r
  obtain⟨fs,a,b,c⟩:=ip.dG I h rs
  obtain⟨av,rv,⟨o,ho,hc,m,hd⟩,y⟩:=I.tuple hp
  cases n with
  | nil=>exact absurd rfl hn
  | cons z zs =>
   cases rv with
   | cons r1 r2 =>
    obtain⟨t,rfl⟩:=r1
    refine⟨.int z t::fs,PySem.W.KatTups.cons ho hc hd (by simp) a,by simp[b],fun v hv=>?_⟩
    rcases List.mem_cons.mp hv with rfl|hv
    ·exact⟨_,_,rfl⟩
    ·exact c v hv
 | [],_::_,_,h,_=>h.elim
 | _::_,[],_,h,_=>h.elim
noncomputable def LS(gI:List (List Int))(i j:Nat):Bool:=HT.lexLt (gI.getD i []) (gI.getD j [])
noncomputable def LU{α:Type}(gI:List (List Int))(d:α)(as:List α):List α:=(LR (LS gI) as.length).toList.map fun i=>as.getD i d
end
section
variable{X:Cx}{pins:List (Addr × Obj)}{σ:L2.St}{H:Hp}{s:Shared}{CX:c9}{k:Nat}{fa a:Addr}{fd:FuncData}{y:Str}{sp:Sp}{xs:List V}{Q:VK}
def LV(K:PySem.W.Frag)(sp:Sp)(x:V)(H1:Hp)(Q:VK):Prop:=∃ (a:Addr) (xs:List V),x = .ref a/\ar K H1 a xs/\xs.length<64/\DF sp xs [] H1 fun ks H2=>∃ gI,ip K H2 ks gI/\∀ l,H2 l=none->Q (.ref l) (upd H2 l (.lst (LU gI .non xs)))
def LW(K:PySem.W.Frag)(sp:Sp)(te:TE):TE:=fun σ H Q=>te σ H fun x H1=>LV K sp x H1 Q
end
end Gz
namespace Gz
open PySem PySem.Spec PyProof.Rows L2
abbrev En:=Option Int
noncomputable def ev:En->V
 | none=>.non
 | some i=>.int i
theorem DG:ev none = .non:=rfl
theorem DH(i:Int):ev (some i) = .int i:=rfl
noncomputable def dw:En->En->Bool
 | some x,some y=>decide (y<x)
 | _,_=>false
def bW(H:Hp)(v:V)(a b:En):Prop:=∃ p,v = .ref p/\H p=some (.tup [ev a,ev b])
theorem bW.same{H H1:Hp}{v:V}{a b:En}(h:bW H v a b)(s:ai H H1):bW H1 v a b:=by
 obtain⟨p,e,h⟩:=h
 exact⟨p,e,s _ _ h⟩
theorem bW.new{H:Hp}{p:Addr}{a b:En}:bW (upd H p (.tup [ev a,ev b])) (.ref p) a b:=⟨p,rfl,aj⟩
noncomputable def hold(a b:En)(n:Int):Bool:=!dw a (some n) && !dw (some n) b
theorem iq{a b:En}{n:Int}:hold a b n=true↔(∀ x,a=some x->x<=n)/\(∀ y,b=some y->n<=y):=by
 unfold hold
 rcases a with z|x<;>rcases b with z|y<;>simp[dw]
end Gz
namespace Gz
open L2
abbrev S2:=En × En
noncomputable def hs(s:S2)(n:Int):Bool:=hold s.1 s.2 n
def DI(s:S2):Prop:=dw s.1 s.2=false
def nD(a b:En):Prop:=a=none ∨ ∃ x y,a=some x/\b=some y/\x<=y
theorem nD.refl(a:En):nD a a:=by
 rcases a with y|x
 ·exact .inl rfl
 ·exact .inr ⟨x,x,rfl,rfl,Int.le_refl _⟩
theorem nD.trans{a b c:En}(h:nD a b)(h':nD b c):nD a c:=by
 rcases h with rfl|⟨x,y,rfl,rfl,h1⟩
 ·exact .inl rfl
 ·rcases h' with h'|⟨x',y',e,rfl,h2⟩
  ·cases h'
  ·cases e;exact .inr ⟨_,_,rfl,rfl,by lia⟩
def nE(p q:S2):Prop:=∃ h l,p.2=some h/\q.1=some l/\h+2<=l
def Apart:List S2->Prop
 | x::y::r=>nE x y/\Apart (y::r)
 | _=>True
theorem Apart.get:∀ {l:List S2} {k:Nat} {p q:S2},Apart l->l[k]?=some p->l[k+1]?=some q->nE p q
 | [],_,_,_,_,e,_=>by simp at e
 | [_],_,_,_,_,_,e=>by simp at e
 | x::y::r,0,p,q,h,e,e'=>by simp at e e';subst e e';exact h.1
 | x::y::r,k+1,p,q,h,e,e'=>Apart.get (l:=y::r) (k:=k) h.2 (by simpa using e) (by simpa using e')
def nF(a b:En):Prop:=b=none ∨ ∃ x y,a=some x/\b=some y/\x<=y
theorem nF.refl(a:En):nF a a:=by
 rcases a with y|x
 ·exact .inl rfl
 ·exact .inr ⟨x,x,rfl,rfl,Int.le_refl _⟩
theorem nF.trans{a b c:En}(h:nF a b)(h':nF b c):nF a c:=by
 rcases h' with rfl|⟨x',y',rfl,rfl,h2⟩
 ·exact .inl rfl
 ·rcases h with h|⟨x,y,rfl,e,h1⟩
  ·cases h
  ·cases e;exact .inr ⟨_,_,rfl,rfl,by lia⟩
open PySem in
def dC(H:Hp):List V->List S2->Prop
 | [],[]=>True
 | v::vs,s::ss=>bW H v s.1 s.2/\dC H vs ss
 | _,_=>False
section
variable{H H1:Hp}{K:PySem.W.Frag}
theorem bW.put{v:V}{a b:En}{l:PySem.Addr}{ys:List V}{o:HO}(h:bW H v a b)(hl:H l=some (.lst ys)):bW (upd H l o) v a b:=by
 obtain⟨p,e,h⟩:=h
 exact⟨p,e,by rw[aO (mS h hl fun z=>nomatch z)];exact h⟩
theorem dC.put{l:PySem.Addr}{ys:List V}{o:HO}(hl:H l=some (.lst ys)):∀ {vs:List V} {ss:List S2},dC H vs ss->dC (upd H l o) vs ss
 | [],[],_=>trivial
 | _::_,_::_,h=>⟨h.1.put hl,dC.put hl h.2⟩
 | [],_::_,h=>h.elim
 | _::_,[],h=>h.elim
theorem dC.len:∀ {vs:List V} {ss:List S2},dC H vs ss->vs.length=ss.length
 | [],[],_=>rfl
 | _::_,_::_,h=>by simp[dC.len h.2]
 | [],_::_,h=>h.elim
 | _::_,[],h=>h.elim
theorem dC.get:∀ {vs:List V} {ss:List S2} {i:Nat} {v:V},dC H vs ss->vs[i]?=some v->∃ s,ss[i]?=some s/\bW H v s.1 s.2
 | [],[],_,_,_,e=>by simp at e
 | _::_,s::_,0,_,h,e=>by simp at e;subst e;exact⟨s,rfl,h.1⟩
 | _::_,_::_,i+1,_,h,e=>by
  obtain⟨s,a,b⟩:=dC.get (i:=i) h.2 (by simpa using e)
  exact⟨s,by simpa using a,b⟩
 | [],_::_,_,_,h,_=>h.elim
 | _::_,[],_,_,h,_=>h.elim
theorem dC.app:∀ {vs ws:List V} {ss ts:List S2},dC H vs ss->dC H ws ts->dC H (vs++ws) (ss++ts)
 | [],_,[],_,_,h=>h
 | _::_,_,_::_,_,h,h'=>⟨h.1,dC.app h.2 h'⟩
 | [],_,_::_,_,h,_=>h.elim
 | _::_,_,[],_,h,_=>h.elim
open PySem
end
end Gz
namespace Gz
open PySem PySem.Spec PyProof.Rows L2
structure DJ(K:PySem.W.Frag)(C:Addr)(m:Str)(f:Addr):Prop where
 ga:PySem.W.specialIn K (.ref C) "__getattribute__" = some (some (.builtin "type.__getattribute__"))
 rd:PySem.W.readsIn K C (.type "type")=true
 fd:PySem.W.findCls K (.ref C) (.type "type") m=some (.val (.ref f))
 kp:PySem.W.keepIn K (.ref f)=true
section
variable{X:Cx}{CX:c9}{k:Nat}{f C:Addr}{fd:FuncData}{ps:List Str}{ds:List Value}{bN:List V}{sp:Sp}{E:XK}{x m:Str}{p pos apos:Pos}{e:Expr}{es:List Expr}{t:TA}
theorem pK{pl:Sem Bool}(hg:Gl X x)(hm:X.mg x=some (.ref C))(c:DJ X.K C m f)(F:cc X.prog X.w X.K X.mg X.base CX k f fd ps sp)(hr:ba k X.A)(hb:Binds X.K fd ps ds)(hd:Vals bN ds)(hx:Passes CX X E)(ha:PA X (e::es) t)
 (fq:(x == ("__debug__" : Str))=false:=by decide) (jZ:starEach (e::es) X.env=(false,eval e X.env)::starEach es X.env:=by rfl) (da:(backTo pos (starEach es X.env)).any (·.1)=false:=by rfl)
 (ht:eval (.Call (.Attribute (.Name x p) m apos) (e::es) [] pos) X.env=(do
   let ov <- eval (.Name x p) X.env
   standAt apos.atName
   let (f,first) <- holding [ov] (getMethod ov m pl)
   callWith pos f first (backTo pos (starEach (e::es) X.env)) (backToKw pos (keywordEach [] X.env))):=by rfl) :
 PE X (.Call (.Attribute (.Name x p) m apos) (e::es) [] pos) (m7 sp bN E t):=by
 intro pins s σ H Q I h
 refine PySem.W.methodCall_KW (pl:=pl) (aC (fF (X:=X) (v:=.ref C) hg hm rfl fq pins s σ H (fun v H1=>v = .ref C/\H1=H) I ⟨rfl,rfl⟩) fun u s1 ⟨y,H1,I1,rx,e1,e2⟩=>?_) ht
 subst e1 e2
 obtain rfl:u=Value.ref C:=rx
 refine PySem.W.method_cls I1.bI c.ga (PySem.W.cls_value I1.bI c.rd c.fd rfl ?_)
 have I2:Inv X pins σ H1 { s1 with toks:=s1.toks+1 }:=I1.tok _
 refine PySem.W.callWith_K (first:=[]) (h₀:=X.base) I.ok.mod.kin c.kp (aC (ha pos pins _ σ H1 _ I2 h) fun us s2 ⟨vs,H2,I3,r,q2⟩=>⟨I3.bI,?_⟩) jZ da
 exact m8 (us:=us) (vs:=vs) F hr hb hd hx I3 r q2
end
section
variable{X:Cx}
end
section
variable{X:Cx}{CX:c9}{k:Nat}{f:Addr}{fd:FuncData}{ps:List Str}{ds:List Value}{bN:List V}{sp:Sp}{E:XK}{m:Str}{pos apos:Pos}{o e:Expr}{es:List Expr}{ta:TE}{t:TA}
def DK(K:PySem.W.Frag)(m:Str)(f:Addr)(sp:Sp)(bN:List V)(E:XK)(ta:TE)(t:TA):TE:=fun σ H Q=>ta σ H fun x H1=>∃ a C dx fs,x = .ref a/\H1 a=some (.ins C dx fs)/\br K C/\Meth K C m f/\fs.lookup m=none /\
 t σ H1 fun vs H2=>sp (.ref a::(vs++bN)) H2 Q E
theorem LX{pl:Sem Bool}(he:PE X o ta)(F:cc X.prog X.w X.K X.mg X.base CX k f fd ps sp)(hr:ba k X.A)(hb:Binds X.K fd ps ds)(hd:Vals bN ds)(hx:Passes CX X E)(ha:PA X (e::es) t)
 (jZ:starEach (e::es) X.env=(false,eval e X.env)::starEach es X.env:=by rfl) (da:(backTo pos (starEach es X.env)).any (·.1)=false:=by rfl)
 (ht:eval (.Call (.Attribute o m apos) (e::es) [] pos) X.env=(do
   let ov <- eval o X.env
   standAt apos.atName
   let (f,first) <- holding [ov] (getMethod ov m pl)
   callWith pos f first (backTo pos (starEach (e::es) X.env)) (backToKw pos (keywordEach [] X.env))):=by rfl) :
 PE X (.Call (.Attribute o m apos) (e::es) [] pos) (DK X.K m f sp bN E ta t):=by
 intro pins s σ H Q I h
 refine PySem.W.methodCall_KW (pl:=pl) (aC (he pins s σ H _ I h) fun u s1 ⟨x,H1,I1,rx,a,C,dx,fs,ex,ea,c,hm,l,q⟩=>?_) ht
 subst ex
 obtain rfl:u=Value.ref a:=rx
 refine sq I1 ea c hm l ?_
 refine PySem.W.callWith_K (first:=[.ref a]) (h₀:=X.base) I.ok.mod.kin hm.kp (aC (ha pos pins s1 σ H1 _ I1 q) fun us s2 ⟨vs,H2,I2,r,q2⟩=>⟨I2.bI,?_⟩) jZ da
 exact m8 (us:=.ref a::us) (vs:=.ref a::vs) F hr hb hd hx I2 (.cons rfl r) q2
end
abbrev W2:=Option S2
def wI(H:Hp)(v:V):W2->Prop
 | none=>v = .non
 | some s=>bW H v s.1 s.2
theorem wI.put{H:Hp}{v:V}{w:W2}{l:Addr}{ys:List V}{o:HO}(h:wI H v w)(hl:H l=some (.lst ys)):wI (upd H l o) v w:=by
 cases w with
 | none=>exact h
 | some a=>exact bW.put h hl
end Gz
namespace Gz
open PySem L2 PySem.W PySem.Spec PyProof.Rows
def Bt(n:Nat)(x:Int):Prop:=Builtin.Int.intBits x<=n
theorem Bt.add{n:Nat}{x y:Int}(h:Bt n x)(h':Bt n y):Bt (n+1) (x+y):=by
 have:=PyProof.Rows.bits_add h h'
 rwa [Nat.max_self] at this
theorem Bt.mul{n m:Nat}{x y:Int}(h:Bt n x)(h':Bt m y):Bt (n+m) (x * y):=PyProof.Rows.bits_mul h h'
theorem Bt.up{n m:Nat}{x:Int}(h:Bt n x)(hm:n<=m):Bt m x:=Nat.le_trans h hm
theorem Bt.small{x:Int}(h1 : -(2 ^ 64)<x)(h2:x<2 ^ 64):Bt 64 x:=PySem.intBits_le_64 h1 h2
def jq(i j:Int):Prop:=Bt 40000000 i/\Bt 40000000 j
theorem jq.ok{i j:Int}(h:jq i j):IntMulOk i j:=PyProof.Rows.mulOk_of_bits h.1 h.2 (by decide)
theorem LY{X:Cx}:bf X (binaryOp .Mult) (rI jq fun i j=>.int (i * j)):=oZ fun y y y y y y y hc q=>mul_int q hc.ok
def fY(ns:List Int):Prop:=ns.length<=63/\∀ x∈ns,Bt 1048576 x
theorem weigh:∀ (ns:List Int) (x:Int),x∈ns->Builtin.Int.intBits x<=PySem.W.WData.weightAll (ns.map PySem.W.WData.int)
 | [],x,h=>by simp at h
 | y::ns,x,h=>by
  have e:PySem.W.WData.weightAll ((y::ns).map PySem.W.WData.int)=(if y == 0 then 0 else y.natAbs.log2+1)+1+PySem.W.WData.weightAll (ns.map PySem.W.WData.int):=by
   rw[List.map_cons]
   simp only[PySem.W.WData.weightAll,PySem.W.WData.weight]
  rw[e]
  rcases List.mem_cons.mp h with rfl|h
  ·unfold Builtin.Int.intBits
   lia
  ·have:=weigh ns x h
   lia
theorem LZ{ns:List Int}(h:PySem.W.WData.layableAll [PySem.W.WData.list (ns.map PySem.W.WData.int)]=true):∀ x∈ns,Bt 1048576 x:=by
 intro x hx
 have h1:PySem.W.WData.layable (PySem.W.WData.list (ns.map PySem.W.WData.int))=true:=by
  have:(PySem.W.WData.layable (PySem.W.WData.list (ns.map PySem.W.WData.int)) && true)=true:=h
  rwa [Bool.and_true] at this
 unfold PySem.W.WData.layable at h1
 rw[Bool.and_eq_true] at h1
 have h2:=of_decide_eq_true h1.2
 have h3:=weigh ns x hx
 simp only[PySem.W.WData.weight] at h2
 unfold Bt
 lia
theorem L3{l:PySem.W.OpenLaw}{k:Nat}{q:Program}{loose:List Str}{XP:(Str->Option Value)->Heap->Prop}{YP:World->Heap->Prop}{d:DefRec}{K:Params->PySem.W.Frag}{CX:World->c9}{sp:World->Sp}{x:Str}
 (most:l.most=some 63) (plain:d.params.defaults=[]) (room:ba k callerA)
 (L4:∀ (w:World) (h:Heap),YP w h->(K w.params).In h)
 (F:∀ (w:World) (mg:Str->Option Value) (fa:Addr) (h:Heap),(K w.params).In h->h.Ns mainGlobals mg->mg d.name=some (.ref fa) ->
   ∃ fd:FuncData,(∀ (s:Shared) (u:Value),BindsTo s fd ⟨[u],[]⟩ [(x,u)]) /\
    ∀ base:Heap,(K w.params).In base->base.Ns mainGlobals mg->cc l.prog w (K w.params) mg base (CX w) k fa fd [x] (sp w))
 (law:∀ (w:World) (H:Hp) (a:Addr) (ns:List Int),fY ns->ar (K w.params) H a (ns.map V.int)->sp w [.ref a] H (fun v y=>v = .bl true) fun y y y=>False)
 (calm:∀ (w:World) (H:Hp) (s:Shared) (e:Value) (s':Shared),CX w [] H s (fun y y y=>False) e s'->False) :
 PySem.W.WalkO q loose XP YP l.row.toRowW d [] (fun f vs=>PySem.call f vs):=by
 intro w t₀ t mg mb G Y f ob pm cd doc dV kV look data code defs at_ gens args vals as pre lay y well y
 have e1:dV = .none:=Dflts.none defs plain
 have e2:kV = .none:=Dflts.noKw defs
 cases e1
 cases e2
 obtain⟨a,vs,ns,e3,e4,obj,are,len⟩:=vS.J6 most pre well
 cases e3
 cases e4
 have KX:=L4 w _ Y
 obtain⟨fd,bind,ok⟩:=F w mg f _ KX G.T.g at_
 have run:=Kb KX G.T.g G.T.b G.T.builtins G.T.nolimit gens obj are (Nat.le_trans len (by decide)) room ok bind
  (fun H y S=>law w H a ns ⟨len,LZ lay⟩ S) fun H e s'=>calm w H t e s'
 refine enter_call (codeAny_mono run ?_)
 rintro r s' ⟨rfl,old,os,bare⟩
 exact⟨.inl ⟨.bool true,.bool true,[],rfl,fun y=>rfl,.bool true,vS.Ka l _,fun y=>⟨List.Pairwise.nil,fun y z=>(nomatch z)⟩⟩,old,os,bare⟩
noncomputable def pL(ns:List Int)(k:Int):Int:=if 0<(ns.length:Int) then ns.getD (k % (ns.length:Int)).toNat 0 else 0
theorem L5{ns:List Int}(h:fY ns)(k:Int):Bt 1048576 (pL ns k):=by
 unfold pL
 split
 ·rw[List.getD_eq_getElem?_getD]
  cases e:ns[(k % (ns.length:Int)).toNat]? with
  | none=>exact (Bt.small (by decide) (by decide)).up (by decide)
  | some n=>exact h.2 _ (List.mem_of_getElem? e)
 ·exact (Bt.small (by decide) (by decide)).up (by decide)
theorem L6{ns:List Int}{k:Int}(h:0<(ns.length:Int)):cD (ns.map V.int) (k % (ns.length:Int))=some (.int (pL ns k)):=by
 have h1:=Int.emod_nonneg k (show (ns.length:Int)≠0 by lia)
 have h2:=Int.emod_lt_of_pos k h
 unfold pL
 rw[if_pos h]
 have ek:k % (ns.length:Int)=(((k % (ns.length:Int)).toNat:Nat):Int):=by lia
 refine (congrArg (cD _) ek).trans (j5 ?_)
 rw[List.getElem?_map,List.getD_eq_getElem?_getD,List.getElem?_eq_getElem (by lia)]
 rfl
end Gz
namespace Gz
open PySem PySem.Spec PyProof.Rows L2
theorem DL{P:Int->Prop}{Ok:Hp->Prop}{ρ:L2.St}{tt:TT}{te:TE}{H:Hp}{Q':List V->Hp->Prop}(cX:Ok H):∀ {xs ys:List V},(∀ x∈xs,∀ Q,Q true H->tt (some x::ρ) H Q)->(∀ x∈xs,∀ Q:VK,(∀ n:Int,P n->Q (.int n) H)->te (some x::ρ) H Q)->(∀ ms:List Int,ms.length=xs.length->(∀ m∈ms,P m)->Q' (ys++ms.map V.int) H)->iP Ok ρ tt te xs ys H Q'
 | [],ys,_,_,q=>⟨cX,by simpa using q [] rfl fun z h=>by simp at h⟩
 | x::r,ys,ht,he,q=>by
  refine⟨cX,ht x (.head _) _ ?_⟩
  rw[if_pos rfl]
  refine he x (.head _) _ fun n hn=>DL (P:=P) cX (fun y hy=>ht y (.tail _ hy)) (fun y hy=>he y (.tail _ hy)) fun ms hm hP=>?_
  have:=q (n::ms) (by simp[hm]) fun m h=>by
   rcases List.mem_cons.mp h with rfl|h
   ·exact hn
   ·exact hP m h
  simpa using this
end Gz
namespace Gz
open PySem PySem.Spec PyProof.Rows L2
end Gz
namespace Gz
end Gz
namespace Gz
open PySem L2
theorem aM{a b:TS}{D:Ends}{σ:L2.St}{H:Hp}(I:L2.St->Hp->Prop)(h1:∀ N:L2.St->Hp->Prop,(∀ σ H,I σ H->N σ H)->a { D with nx:=N } σ H)(h2:∀ σ H,I σ H->b D σ H):rS a b D σ H:=h1 _ h2
end Gz
namespace Gz
open PySem PySem.Spec PyProof.Rows L2
theorem aL{c:Prop}[Decidable c]{a b:Prop}(h:c->a)(h':¬ c->b):if c then a else b:=by
 by_cases z:c
 ·rw[if_pos z];exact h z
 ·rw[if_neg z];exact h' z
theorem wJ{P:Program}{w:World}{H:Hp}(h:Heap)(hb:sysModules<h.objs.size):bZ P w H (h.push { cls:=.type "dict",data:=.dict #[] }) h.objs.size (.dK []) :=
 ⟨Nat.zero_le _,beq_eq_false_iff_ne.mpr (Ne.symm (Nat.ne_of_lt hb)),[],.nil,Heap.DictOf.new h⟩
section
variable{X:Cx}{pos:Pos}
theorem wK{e:Expr}:PE X e (fun y y y=>False):=fun y y y y y y h=>h.elim
theorem pM{x:Str}{n:Int}(h:∃ t,X.mg x=some (.int n t))(hg:Gl X x)(hd:(x == ("__debug__" : Str))=false:=by decide):PE X (.Name x pos) (tC (.int n)):=by
 obtain⟨t,ht⟩:=h
 exact fF (v:=.int n) hg ht ⟨t,rfl⟩ hd
end
end Gz
namespace Gz
open PySem PySem.Spec PyProof.Rows L2
section
variable{X:Cx}{a b c d:Expr}{ta tb tc td:TE}{pos:Pos}
def wL(r r' lU:R2)(ta tb tc td:TE):TE:=fun σ H Q=>ta σ H fun x H1=>tb σ H1 fun y H2=>r x y H2 fun z H3=>∃ k,z = .bl k /\
 (if k=true then tc σ H3 fun w' H4=>r' y w' H4 fun z2 H5=>∃ k2,z2 = .bl k2/\(if k2=true then td σ H5 fun w2 H6=>lU w' w2 H6 Q else Q (.bl false) H5) else Q (.bl false) H3)
theorem L7{op d7 lV:CmpOp}{r r' lU:R2}(ho:bf X (compareOp op) r)(cJ:bf X (compareOp d7) r')(wM:bf X (compareOp lV) lU)(ha:PE X a ta)(hb:PE X b tb)(hc:PE X c tc)(hd:PE X d td)
 (hm:lastMarks [op,d7,lV] [b,c,d]=false:=by with_unfolding_all rfl):PE X (.Compare a [op,d7,lV] [b,c,d] pos) (wL r r' lU ta tb tc td):=by
 intro pins s σ H Q I h
 refine Compare_chain (aC (ha pins s σ H _ I h) fun v s1 ⟨x,H1,I1,r1,q1⟩=>chain_link (aC (hb pins s1 σ H1 _ I1 q1) fun u s2 ⟨y,H2,I2,r2,q2⟩ =>
  aC (ho pins s2 σ H2 x y v u _ I2 r1 r2 q2) fun d s3 ⟨z,H3,I3,r3,k,e,q3⟩=>?_)) hm
 subst e
 cases r3
 refine wpAny_truthy_bool ?_
 cases k with
 | false=>exact (if_neg (by decide)).mpr ⟨.bl false,H3,I3,rfl,q3⟩
 | true =>
  refine (if_pos rfl).mpr (chain_link (aC (hc pins s3 σ H3 _ I3 q3) fun w' s4 ⟨z',H4,I4,r4,q4⟩=>aC (cJ pins s4 σ H4 y z' u w' _ I4 r2 r4 q4) fun d2 s5 ⟨z2,H5,I5,r5,k2,e2,q5⟩=>?_))
  subst e2
  cases r5
  refine wpAny_truthy_bool ?_
  cases k2 with
  | false=>exact (if_neg (by decide)).mpr ⟨.bl false,H5,I5,rfl,q5⟩
  | true=>exact (if_pos rfl).mpr (chain_last (aC (hd pins s5 σ H5 _ I5 q5) fun w2 s6 ⟨z3,H6,I6,r6,q6⟩=>wM pins s6 σ H6 z' z3 w' w2 Q I6 r4 r6 q6))
theorem L8{op d7 lV:CmpOp}{r r' lU:R2}(ho:bf X (compareOp op) r)(cJ:bf X (compareOp d7) r')(wM:bf X (compareOp lV) lU)(ha:PE X a ta)(hb:PE X b tb)(hc:PE X c tc)(hd:PE X d td)
 (hm:lastMarks [op,d7,lV] [b,c,d]=false:=by with_unfolding_all rfl):PT X (.Compare a [op,d7,lV] [b,c,d] pos) (sf (wL r r' lU ta tb tc td)):=by
 intro pins s σ H Q I h
 refine isTrue_chain (aC (ha pins s σ H _ I h) fun v s1 ⟨x,H1,I1,r1,q1⟩=>test_link (aC (hb pins s1 σ H1 _ I1 q1) fun u s2 ⟨y,H2,I2,r2,q2⟩ =>
  aC (ho pins s2 σ H2 x y v u _ I2 r1 r2 q2) fun d s3 ⟨z,H3,I3,r3,k,e,q3⟩=>?_)) hm
 subst e
 cases r3
 refine wpAny_truthy_bool ?_
 cases k with
 | false =>
  obtain⟨k',e',q'⟩:=q3
  cases e'
  exact (if_neg (by decide)).mpr ⟨H3,I3,q'⟩
 | true =>
  refine (if_pos rfl).mpr (test_link (aC (hc pins s3 σ H3 _ I3 q3) fun w' s4 ⟨z',H4,I4,r4,q4⟩=>aC (cJ pins s4 σ H4 y z' u w' _ I4 r2 r4 q4) fun d2 s5 ⟨z2,H5,I5,r5,k2,e2,q5⟩=>?_))
  subst e2
  cases r5
  refine wpAny_truthy_bool ?_
  cases k2 with
  | false =>
   obtain⟨k',e',q'⟩:=q5
   cases e'
   exact (if_neg (by decide)).mpr ⟨H5,I5,q'⟩
  | true =>
   refine (if_pos rfl).mpr (test_last (aC (hd pins s5 σ H5 _ I5 q5) fun w2 s6 ⟨z3,H6,I6,r6,q6⟩=>aC (wM pins s6 σ H6 z' z3 w' w2 _ I6 r4 r6 q6) fun d' s7 ⟨z4,H7,I7,r7,k3,e3,q7⟩=>?_))
   subst e3
   cases r7
   exact wpAny_truthy_bool ⟨H7,I7,q7⟩
end
section
variable{X:Cx}{CX:c9}{k:Nat}{f:Addr}{fd:FuncData}{ps:List Str}{ds:List Value}{bN:List V}{sp:Sp}{E:XK}{m:Str}{pos apos:Pos}{o:Expr}{ta:TE}
end
def L9(t1 t2:TE):TE:=fun σ H Q=>t1 σ H Q∨t2 σ H Q
end Gz
namespace Gz
open PySem L2
end Gz
namespace L2
open PySem PySem.Spec PyProof.Rows
section
variable{κ:Type}[DecidableEq κ]
noncomputable def bX(kvs:List (κ × V))(k:κ):Option V:=(kvs.find? fun kv=>decide (kv.1=k)).map (·.2)
noncomputable def putK(kvs:List (κ × V))(k:κ)(v:V):List (κ × V) :=
 if (kvs.any fun kv=>decide (kv.1=k))=true then kvs.map (fun kv=>if kv.1=k then (kv.1,v) else kv) else kvs++[(k,v)]
noncomputable def sZ(kvs:List (κ × V))(k:κ):List (κ × V):=kvs.filter fun kv=>decide (kv.1≠k)
theorem tf{p:κ × V}{r:List (κ × V)}{k:κ}(e:p.1=k):bX (p::r) k=some p.2:=by simp[bX,List.find?_cons,e]
theorem tj{p:κ × V}{r:List (κ × V)}{k:κ}(e:¬ p.1=k):bX (p::r) k=bX r k:=by simp[bX,List.find?_cons,e]
theorem DM(k:κ):∀ kvs:List (κ × V),(kvs.any fun kv=>decide (kv.1=k))=(bX kvs k).isSome
 | []=>rfl
 | p::r=>by
  rw[List.any_cons]
  by_cases e:p.1=k
  ·simp only[tf e,decide_eq_true e,Bool.true_or,Option.isSome_some]
  ·rw[tj e,decide_eq_false e,Bool.false_or];exact DM k r
theorem wN(kvs:List (κ × V))(k:κ)(v:V):(putK kvs k v).length<=kvs.length+1:=by
 unfold putK
 split
 ·rw[List.length_map];omega
 ·rw[List.length_append,List.length_cons,List.length_nil];omega
theorem dY.tq{o:Option V}{u:Option Value}(r:dY o u):o.isSome=u.isSome:=by
 cases o with
 | none=>cases u with
  | none=>rfl
  | some _=>exact (show False from r).elim
 | some _=>cases u with
  | none=>exact (show False from r).elim
  | some _=>rfl
theorem dY.getD{o:Option V}{u:Option Value}{d:V}{d':Value}(r:dY o u)(rd:RelV d d'):RelV (o.getD d) (u.getD d'):=by
 cases o with
 | none=>cases u with
  | none=>exact rd
  | some _=>exact (show False from r).elim
 | some _=>cases u with
  | none=>exact (show False from r).elim
  | some _=>exact r
theorem KV.val{kvs:List (κ × V)}{vs:List (κ × Value)}(r:KV kvs vs)(k:κ):dY (bX kvs k) (valueAt vs k):=by
 unfold KV at r
 induction r with
 | nil=>exact True.intro
 | @cons p q ps qs h t ih =>
  obtain⟨h1,h2⟩:=h
  by_cases e:p.1=k
  ·have e':q.1=k:=h1.symm.trans e
   have b:valueAt (q::qs) k=some q.2:=by simp[valueAt,List.find?_cons,e']
   rw[tf e,b];exact h2
  ·have e':¬ q.1=k:=fun z=>e (h1.trans z)
   have b:valueAt (q::qs) k=valueAt qs k:=by simp[valueAt,List.find?_cons,e']
   rw[tj e,b];exact ih
theorem KV.any{kvs:List (κ × V)}{vs:List (κ × Value)}(r:KV kvs vs)(k:κ):(kvs.any fun kv=>decide (kv.1=k))=vs.any fun kv=>decide (kv.1=k):=by
 unfold KV at r
 induction r with
 | nil=>rfl
 | cons h t ih=>rw[List.any_cons,List.any_cons,ih,h.1]
theorem KV.nG{kvs:List (κ × V)}{vs:List (κ × Value)}(r:KV kvs vs)(k:κ){y:V}{u:Value}(ry:RelV y u) :
 KV (kvs.map fun kv=>if kv.1=k then (kv.1,y) else kv) (vs.map fun kv=>if kv.1=k then (kv.1,u) else kv):=by
 unfold KV at r ⊢
 induction r with
 | nil=>exact .nil
 | @cons p q ps qs h t ih =>
  rw[List.map_cons,List.map_cons]
  refine .cons ?_ ih
  obtain⟨h1,h2⟩:=h
  by_cases e:p.1=k
  ·rw[if_pos e,if_pos (h1.symm.trans e)];exact⟨h1,ry⟩
  ·rw[if_neg e,if_neg (fun z=>e (h1.trans z))];exact⟨h1,h2⟩
theorem KV.put{kvs:List (κ × V)}{vs:List (κ × Value)}(r:KV kvs vs)(k:κ){y:V}{u:Value}(ry:RelV y u):KV (putK kvs k y) (stored vs k u):=by
 unfold putK stored
 rw[r.any k]
 by_cases e:(vs.any fun kv=>decide (kv.1=k))=true
 ·rw[if_pos e,if_pos e];exact r.nG k ry
 ·rw[if_neg e,if_neg e];exact Paired.snoc r ⟨rfl,ry⟩
theorem KV.drop{kvs:List (κ × V)}{vs:List (κ × Value)}(r:KV kvs vs)(k:κ):KV (sZ kvs k) (without vs k):=by
 unfold KV at r ⊢
 unfold sZ without
 induction r with
 | nil=>exact .nil
 | @cons p q ps qs h t ih =>
  obtain⟨h1,h2⟩:=h
  rw[List.filter_cons,List.filter_cons]
  by_cases e:p.1=k
  ·have a:¬ decide (p.1≠k)=true:=by simp[e]
   have b:¬ decide (q.1≠k)=true:=by simp[h1.symm.trans e]
   rw[if_neg a,if_neg b];exact ih
  ·have e':¬ q.1=k:=fun z=>e (h1.trans z)
   have a:decide (p.1≠k)=true:=by simp[e]
   have b:decide (q.1≠k)=true:=by simp[e']
   rw[if_pos a,if_pos b];exact .cons ⟨h1,h2⟩ ih
theorem KV.length{kvs:List (κ × V)}{vs:List (κ × Value)}(r:KV kvs vs):kvs.length=vs.length:=Paired.length r
end
theorem lW{P:Program}{w:World}{k:Key}{u:Value}(r:RelV (kV k) u):(et P w).is k u=true:=by
 cases k with
 | inl i=>obtain⟨t,e⟩:=(show ∃ t,u=Value.int i t from r);subst e;exact Ig P w i t
 | inr x=>obtain⟨t,e⟩:=(show ∃ t,u=Value.str x t from r);subst e;exact Ih P w x t
theorem DN{P:Program}{w:World}:∀ {ks:List Key} {us:List Value},Vals (ks.map kV) us->ItemsAre (et P w) ks us
 | [],_,r=>by rw[List.map_nil] at r;cases r;exact .nil
 | k::ks,_,r=>by
  rw[List.map_cons] at r
  cases r with
  | cons h t=>exact .cons (lW h) (DN t)
abbrev KT(H:Hp):List (List Key × V)->List (List Key × Addr × Value)->Prop:=Paired fun p q=>p.1=q.1/\H q.2.1=some (.tup (p.1.map kV))/\RelV p.2 q.2.2
theorem KT.val{H:Hp}{kvs:List (List Key × V)}{xs:List (List Key × Addr × Value)}(r:KT H kvs xs)(k:List Key):dY (bX kvs k) ((atKey xs k).map (·.2)):=by
 induction r with
 | nil=>exact True.intro
 | @cons p q ps qs h t ih =>
  obtain⟨h1,y,h2⟩:=h
  by_cases e:p.1=k
  ·have e':q.1=k:=h1.symm.trans e
   have b:atKey (q::qs) k=some q.2:=by simp[atKey,List.find?_cons,e']
   rw[tf e,b];exact h2
  ·have e':¬ q.1=k:=fun z=>e (h1.trans z)
   have b:atKey (q::qs) k=atKey qs k:=by simp[atKey,List.find?_cons,e']
   rw[tj e,b];exact ih
theorem KT.nG{H:Hp}{kvs:List (List Key × V)}{xs:List (List Key × Addr × Value)}(r:KT H kvs xs)(k:List Key){y:V}{u:Value}(ry:RelV y u) :
 KT H (kvs.map fun kv=>if kv.1=k then (kv.1,y) else kv) (xs.map (putAt k u)):=by
 induction r with
 | nil=>exact .nil
 | @cons p q ps qs h t ih =>
  rw[List.map_cons,List.map_cons]
  refine .cons ?_ ih
  obtain⟨h1,h2,h3⟩:=h
  unfold putAt
  by_cases e:p.1=k
  ·rw[if_pos e,if_pos (h1.symm.trans e)];exact⟨h1,h2,ry⟩
  ·rw[if_neg e,if_neg (fun z=>e (h1.trans z))];exact⟨h1,h2,h3⟩
theorem KT.put{H:Hp}{kvs:List (List Key × V)}{xs:List (List Key × Addr × Value)}(r:KT H kvs xs)(k:List Key){b:Addr}{y:V}{u:Value}(hb:H b=some (.tup (k.map kV)))(ry:RelV y u) :
 KT H (putK kvs k y) (storedH xs k b u):=by
 have e:(kvs.any fun kv=>decide (kv.1=k))=(atKey xs k).isSome:=by
  rw[DM,(r.val k).tq,Option.isSome_map]
 unfold putK storedH
 rw[e]
 by_cases q:(atKey xs k).isSome=true
 ·rw[if_pos q,if_pos q];exact r.nG k ry
 ·rw[if_neg q,if_neg q];exact Paired.snoc r ⟨rfl,hb,ry⟩
theorem KT.keeps{H H':Hp}{kvs:List (List Key × V)}{xs:List (List Key × Addr × Value)}(r:KT H kvs xs)(ht:∀ b ys,H b=some (.tup ys)->H' b=some (.tup ys)):KT H' kvs xs :=
 Paired.uW r fun y y z=>⟨z.1,ht _ _ z.2.1,z.2.2⟩
section
variable{P:Program}{w:World}{H:Hp}{h:Heap}{a:Addr}
theorem DO{u:HO}(ok:bV P w H h)(e:Rd H a u):bZ P w H h a u:=e.ok ok
theorem tu{kvs:List (Key × V)}(ok:bV P w H h)(e:Rd H a (.dK kvs)):kvs.length<=sizeLine/\(a == sysModules)=false/\∃ vs,KV kvs vs/\h.DictOf (et P w) a vs :=
 show bZ P w H h a (.dK kvs) from DO ok e
theorem DP{kvs:List (Key × V)}(ok:bV P w H h)(e:H a=some (.dK kvs)):kvs.length<=sizeLine/\(a == sysModules)=false/\∃ vs,KV kvs vs/\h.DictOf (et P w) a vs:=tu ok (.inl e)
theorem tw{ks:List Key}(ok:bV P w H h)(e:H a=some (.tup (ks.map kV))):(tupleKind (et P w)).is h ks a:=by
 obtain⟨y,av,r,o,h1,h2,n,h3⟩:=(show bZ P w H h a (.tup (ks.map kV)) from ok a _ e)
 exact⟨o,av.toArray,n,h1,h2,h3,by simpa using DN r⟩
theorem tD{kvs:List (List Key × V)}(ok:bV P w H h)(e:Rd H a (.dT kvs)):kvs.length<=sizeLine/\(a == sysModules)=false /\
 ∃ xs,KT H kvs xs/\h.DictOfH (tupleKind (et P w)) a xs:=by
 obtain⟨z,y,xs,r,o,es,ep,h1,h2,h3,h4,h5⟩:=(show bZ P w H h a (.dT kvs) from DO ok e)
 refine⟨z,y,xs,r,o,es,ep,h1,h2,h3,h4,fun x hx=>?_,h5⟩
 have all:∀ {l:List (List Key × V)} {m:List (List Key × Addr × Value)},KT H l m->∀ x∈m,(tupleKind (et P w)).is h x.1 x.2.1:=by
  intro l m q
  induction q with
  | nil=>intro x hx;exact nomatch hx
  | @cons p q ps qs hq t ih =>
   intro x hx
   rcases List.mem_cons.mp hx with e|hx
   ·subst e
    exact tw ok (by rw[<- hq.1];exact hq.2.1)
   ·exact ih x hx
 exact all r x hx
theorem Ma{kvs:List (List Key × V)}(ok:bV P w H h)(e:H a=some (.dT kvs)):kvs.length<=sizeLine/\(a == sysModules)=false /\
 ∃ xs,KT H kvs xs/\h.DictOfH (tupleKind (et P w)) a xs:=tD ok (.inl e)
end
def fZ(H:Hp)(a:Addr)(y:V)(r:Option V):Prop :=
 (∃ kvs k,Rd H a (.dK kvs)/\y=kV k/\r=bX kvs k) ∨ ∃ kvs k b,Rd H a (.dT kvs)/\y = .ref b/\H b=some (.tup (k.map kV))/\r=bX kvs k
def jr(H:Hp)(a:Addr)(y v:V)(H':Hp):Prop :=
 (∃ kvs k,H a=some (.dK kvs)/\y=kV k/\kvs.length<sizeLine/\H'=upd H a (.dK (putK kvs k v))) ∨
 ∃ kvs k b,H a=some (.dT kvs)/\y = .ref b/\H b=some (.tup (k.map kV))/\kvs.length<sizeLine/\H'=upd H a (.dT (putK kvs k v))
theorem fZ.k{H:Hp}{a:Addr}{kvs:List (Key × V)}{k:Key}(e:H a=some (.dK kvs)):fZ H a (kV k) (bX kvs k):=.inl ⟨kvs,k,.inl e,rfl,rfl⟩
theorem fZ.t{H:Hp}{a b:Addr}{kvs:List (List Key × V)}{k:List Key}(e:H a=some (.dT kvs))(eb:H b=some (.tup (k.map kV))):fZ H a (.ref b) (bX kvs k):=.inr ⟨kvs,k,b,.inl e,rfl,eb,rfl⟩
theorem jr.k{H:Hp}{a:Addr}{kvs:List (Key × V)}{k:Key}{v:V}(e:H a=some (.dK kvs))(hl:kvs.length<sizeLine):jr H a (kV k) v (upd H a (.dK (putK kvs k v))):=.inl ⟨kvs,k,e,rfl,hl,rfl⟩
theorem jr.t{H:Hp}{a b:Addr}{kvs:List (List Key × V)}{k:List Key}{v:V}(e:H a=some (.dT kvs))(eb:H b=some (.tup (k.map kV)))(hl:kvs.length<sizeLine) :
 jr H a (.ref b) v (upd H a (.dT (putK kvs k v))):=.inr ⟨kvs,k,b,e,rfl,eb,hl,rfl⟩
section
variable{X:Cx}{pins:List (Addr × Obj)}{σ:St}{H:Hp}{s:Shared}{a:Addr}{y v:V}{u r:Value}{o:Option V}{A:Around}{E:Value->Shared->Prop}
theorem Inv.big(I:Inv X pins σ H s):sysModules<s.heap.objs.size:=by
 have h:mainGlobals<s.heap.objs.size:=(I.mod.glob.keeps I.bk).lt
 exact Nat.lt_trans (by decide) h
theorem Mb{Q:Value->Shared->Prop}(hu:A.units+1<cLine)(I:Inv X pins σ H s)(g:fZ H a y (some v))(ry:RelV y u)(h:∀ w' s',Inv X pins σ H s'->RelV v w'->Q w' s') :
 wpAny (model X.prog X.w) A (getItem (.ref a) u) Q E s:=by
 rcases g with ⟨kvs,k,e,ey,l⟩|⟨kvs,k,b,e,ey,eb,l⟩
 ·subst ey
  obtain⟨z,hd,vs,rel,dd⟩:=tu I.aA e
  obtain⟨w',hw,hZ⟩:=dY.some_of (v:=v) (o:=valueAt vs k) (by rw[l];exact rel.val k)
  exact wpAny_getItem_of (lW ry) dd.mapOf hw (h w' _ (I.tok _) hZ)
 ·subst ey
  cases (show u=Value.ref b from ry)
  obtain⟨z,hd,xs,rel,dd⟩:=tD I.aA e
  obtain⟨w',hw,hZ⟩:=dY.some_of (v:=v) (o:=(atKey xs k).map (·.2)) (by rw[l];exact rel.val k)
  obtain⟨p,hp,fL⟩:=Option.map_eq_some_iff.mp hw
  refine wpAny_getItem_heap (tupleKind_room_in1 hu) (tw I.aA eb) dd hp ?_
  rw[fL]
  exact h w' _ (I.tok _) hZ
theorem Mc{Q:Value->Shared->Prop}(hu:A.units+1<cLine)(I:Inv X pins σ H s)(g:fZ H a y o)(ry:RelV y u)(h:∀ s',Inv X pins σ H s'->Q (.bool (!o.isSome)) s') :
 wpAny (model X.prog X.w) A (compareOp .NotIn u (.ref a)) Q E s:=by
 rcases g with ⟨kvs,k,e,ey,l⟩|⟨kvs,k,b,e,ey,eb,l⟩
 ·subst ey
  obtain⟨z,hd,vs,rel,dd⟩:=tu I.aA e
  refine wpAny_notIn_of (lW ry) hd dd.mapOf ?_
  rw[<- (rel.val k).tq,<- l]
  exact h _ (I.tok _)
 ·subst ey
  cases (show u=Value.ref b from ry)
  obtain⟨z,hd,xs,rel,dd⟩:=tD I.aA e
  refine wpAny_notIn_heap (tupleKind_room_in1 hu) (tw I.aA eb) hd dd ?_
  have q:=(rel.val k).tq
  rw[Option.isSome_map] at q
  rw[<- q,<- l]
  exact h _ (I.tok _)
theorem wO{h':Heap}{t':Nat}{ob:HO}(I:Inv X pins σ H s)(mu:oJ (H a))(hs:Heap.SameBut a s.heap h')(he:∃ q,h'.get? a=some q)(new:bZ X.prog X.w (upd H a ob) h' a ob) :
 Inv X pins σ (upd H a ob) { s with heap:=h',toks:=t' } :=
 I.write (x:=a) (e:=a) mu (.inl rfl) (fun b q hb z=>(hs.2 b hb).trans z) he new
theorem wJ{P:Program}{w:World}{H':Hp}{h':Heap}{kvs:List (Key × V)}{vs:List (Key × Value)}(z:kvs.length<=sizeLine)(hd:(a == sysModules)=false)(rel:KV kvs vs)(dd:h'.DictOf (et P w) a vs) :
 bZ P w H' h' a (.dK kvs):=⟨z,hd,vs,rel,dd⟩
theorem Md{H':Hp}{Q:Unit->Shared->Prop}(hu:A.units+1<cLine)(I:Inv X pins σ H s)(g:jr H a y v H')(ry:RelV y u)(rv:RelV v r)(h:∀ s',Inv X pins σ H' s'->Q () s') :
 wpAny (model X.prog X.w) A (setItem (.ref a) u r) Q E s:=by
 rcases g with ⟨kvs,k,e,ey,l,eH⟩|⟨kvs,k,b,e,ey,eb,l,eH⟩
 ·subst ey eH
  obtain⟨z,hd,vs,rel,dd⟩:=DP I.aA e
  have hz:vs.length<=sizeLine:=by rw[<- rel.length];exact z
  have hl:(putK kvs k v).length<=sizeLine:=by have:=wN kvs k v;omega
  refine wpAny_setItem_pairs (hsz:=hz) (lW ry) dd fun h' lX hs=>h _ ?_
  have he:∃ q,h'.get? a=some q:=let ⟨q,_,_,hq,_⟩:=lX;⟨q,hq⟩
  exact wO I (by rw[e];exact True.intro) hs he (wJ hl hd (rel.put k rv) lX)
 ·subst ey eH
  cases (show u=Value.ref b from ry)
  obtain⟨z,hd,xs,rel,dd⟩:=Ma I.aA e
  have hz:xs.length<=sizeLine:=by rw[<- Paired.length rel];exact z
  have hl:(putK kvs k v).length<=sizeLine:=by have:=wN kvs k v;omega
  refine wpAny_setItem_heap (hsz:=hz) (tupleKind_room_in1 hu) (tw I.aA eb) dd fun h' lX hs=>h _ ?_
  obtain⟨q,es,ep,hq,h2,h3,h4,m,h5⟩:=lX
  refine wO I (by rw[e];exact True.intro) hs ⟨q,hq⟩ ⟨hl,hd,_,(rel.put k eb rv).keeps fun c ys ec=>?_,q,es,ep,hq,h2,h3,h4,h5⟩
  rw[aO (mS ec e (fun z=>nomatch z))]
  exact ec
end
section
variable{X:Cx}{pins:List (Addr × Obj)}{σ:St}{H:Hp}{s:Shared}{a:Addr}{kvs:List (Key × V)}{k:Key}{u:Value}{A:Around}{E:Value->Shared->Prop}
end
def wQ(i:Expr):Prop:=∀ ov iv,subscripted i false ov iv=operate [ov,iv] (getItem ov iv)
theorem DQ{prog:Program}{w:World}{A:Around}{E:Value->Shared->Prop}{s:Shared}{env:Env}{value slice:Expr}{pos:Pos}{T id:String}{Q:Value->Shared->Prop}
 (hl:typeLookup (.type T) "__getitem__" = pure (some (.builtin id))) (hs:wQ slice)
 (h:wpAny (model prog w) A (eval value env) (fun o s₁=>wpAny (model prog w) A (eval slice env) (fun i s₂=>s₂.TypeIs o T/\wpAny (model prog w) A (getItem o i) Q E s₂) E s₁) E s) :
 wpAny (model prog w) A (eval (.Subscript value slice pos) env) Q E s:=by
 refine Subscript_ (wpAny_mono h (fun o s₁ h₁=>wpAny_mono h₁ (fun i s₂ h₂=>?_) fun y y x=>x) fun y y x=>x)
 obtain⟨hT,h₂⟩:=h₂
 unfold subscriptTail
 refine wpAny_bind ?_
 rw[getitemInPython_of_ne hT.not_modules]
 refine wpAny_bind (wpAny_specialOf hT hl ?_)
 have fin:wpAny (model prog w) A (subscripted slice false o i) (fun r s₃=>wpAny (model prog w) A (letTemporaryGo value o r >>= fun y=>pure r) Q E s₃) E s₂:=by
  rw[hs o i]
  exact wpAny_operating (wpAny_mono h₂ (fun r s₃ h₃=>wpAny_bind (wpAny_letTemporaryGo (wpAny_pure h₃))) fun y y x=>x)
 first
  | exact wpAny_pure (wpAny_bind fin)
  | exact wpAny_bind (wpAny_pure (wpAny_bind fin))
  | exact wpAny_bind fin
theorem Me{X:Cx}{pins:List (Addr × Obj)}{σ:St}{H:Hp}{s:Shared}{a:Addr}{y:V}{o:Option V}(I:Inv X pins σ H s)(g:fZ H a y o):s.TypeIs (.ref a) "dict" := by
 rcases g with ⟨kvs,k,e,z,z⟩|⟨kvs,k,b,e,z,z,z⟩
 ·obtain⟨z,z,vs,z,dd⟩:=tu I.aA e
  exact dd.typeIs
 ·obtain⟨z,z,xs,z,dd⟩:=tD I.aA e
  exact dd.typeIs
def DR(td ty:TE):TE:=fun σ H Q=>td σ H fun x H1=>ty σ H1 fun y H2=>∃ a v,x = .ref a/\fZ H2 a y (some v)/\Q v H2
def DS(ty td:TE):TE:=fun σ H Q=>ty σ H fun y H1=>td σ H1 fun x H2=>∃ a o,x = .ref a/\fZ H2 a y o/\Q (.bl (!o.isSome)) H2
def tE(td ty tv:TE):TS:=fun D σ H=>tv σ H fun v H1=>td σ H1 fun x H2=>ty σ H2 fun y H3=>∃ a H4,x = .ref a/\jr H3 a y v H4/\D.nx σ H4
section
variable{X:Cx}{o i e value:Expr}{pos pos' Jq:Pos}{td ty tv:TE}
theorem Mf(hu:X.A.units+1<cLine)(ho:PE X o td)(hi:PE X i ty)(hs:wQ i):PE X (.Subscript o i pos) (DR td ty):=by
 intro pins s σ H Q I h
 refine DQ PySem.F.slot_dict_getitem.lookup hs (aC (ho pins s σ H _ I h) fun u s1 ⟨x,H1,I1,rx,q1⟩=>aC (hi pins s1 σ H1 _ I1 q1) fun iv s2 ⟨y,H2,I2,ry,a,v,ex,g,q2⟩=>?_)
 subst ex
 obtain rfl:u=Value.ref a:=rx
 exact⟨Me I2 g,Mb hu I2 g ry fun w' s3 I3 hZ=>⟨v,H2,I3,hZ,q2⟩⟩
theorem Mg(hu:X.A.units+1<cLine)(hi:PE X i ty)(ho:PE X o td):PC X .NotIn i o (DS ty td):=by
 intro pins s σ H Q I h
 refine aC (hi pins s σ H _ I h) fun iv s1 ⟨y,H1,I1,ry,q1⟩=>aC (ho pins s1 σ H1 _ I1 q1) fun u s2 ⟨x,H2,I2,rx,a,ov,ex,g,q2⟩=>?_
 subst ex
 obtain rfl:u=Value.ref a:=rx
 exact Mc hu I2 g ry fun s3 I3=>⟨.bl (!ov.isSome),H2,I3,rfl,q2⟩
theorem wR(hu:X.A.units+1<cLine)(ho:PE X o td)(hi:PE X i ty)(hv:PE X value tv)(hs:swapsWith value (some (.Subscript o i pos')) pos.line X.env=pure false) :
 PS X (.Assign [.Subscript o i pos'] value pos) (tE td ty tv):=by
 intro pins s σ H D I h
 refine wpAny_Assign_Subscript (aC (hv pins s σ H _ I h) fun r s1 ⟨v,H1,I1,rv,q1⟩=>aC (ho pins s1 σ H1 _ I1 q1) fun u s2 ⟨x,H2,I2,rx,q2⟩=>aC (hi pins s2 σ H2 _ I2 q2) fun iv s3 ⟨y,H3,I3,ry,a,H4,ex,g,q3⟩=>?_) hs
 subst ex
 obtain rfl:u=Value.ref a:=rx
 exact Md hu I3 g ry rv fun s4 I4=>⟨σ,H4,I4,q3⟩
end
theorem Mh{P:Program}{w:World}{H:Hp}(h:Heap)(hb:sysModules<h.objs.size):bZ P w H (h.push { cls:=.type "dict",data:=.dict #[] }) h.objs.size (.dK []) :=
 ⟨Nat.zero_le _,beq_eq_false_iff_ne.mpr (Ne.symm (Nat.ne_of_lt hb)),[],.nil,Heap.DictOf.new h⟩
section
variable{X:Cx}{pos:Pos}
end
def tF:List (TE × TE)->St->Hp->(List (V × V)->Hp->Prop)->Prop
 | [],_,H,Q=>Q [] H
 | (tk,tv)::r,σ,H,Q=>tk σ H fun x H1=>tv σ H1 fun y H2=>tF r σ H2 fun ps H3=>Q ((x,y)::ps) H3
abbrev VV:List (V × V)->List (Value × Value)->Prop:=Paired fun p q=>RelV p.1 q.1/\RelV p.2 q.2
def tG(X:Cx)(pos:Pos)(keys:List (Option Expr))(values:List Expr)(jt:List (TE × TE)):Prop :=
 ∀ (pins:List (Addr × Obj)) (s:Shared) (σ:St) (H:Hp) (Q:List (V × V)->Hp->Prop),Inv X pins σ H s->tF jt σ H Q ->
  wpAny (model X.prog X.w) X.A (evalPairs (pairTrees keys values X.env pos)) (fun vs s'=>∃ ps H',Inv X pins σ H' s'/\VV ps vs/\Q ps H') X.xe s
theorem Mi{X:Cx}{pos:Pos}:tG X pos [] [] []:=fun pins s σ H Q I h=>pairTrees_nil_walk ⟨[],H,I,.nil,h⟩
theorem nH{X:Cx}{pos:Pos}{k v:Expr}{ks:List (Option Expr)}{vs:List Expr}{tk tv:TE}{jt:List (TE × TE)}(hk:PE X k tk)(hv:PE X v tv)(hr:tG X pos ks vs jt) :
 tG X pos (some k::ks) (v::vs) ((tk,tv)::jt):=fun pins s σ H Q I h =>
 pairTrees_cons_walk (aC (hk pins s σ H _ I h) fun u s1 ⟨x,H1,I1,rx,q1⟩=>aC (hv pins s1 σ H1 _ I1 q1) fun w2 s2 ⟨y,H2,I2,ry,q2⟩ =>
  aC (hr pins s2 σ H2 _ I2 q2) fun ws s3 ⟨ps,H3,I3,rel,q3⟩=>⟨(x,y)::ps,H3,I3,.cons ⟨rx,ry⟩ rel,q3⟩)
noncomputable def pN(kvs more:List (Key × V)):List (Key × V):=more.foldl (fun acc kv=>putK acc kv.1 kv.2) kvs
theorem KV.merge:∀ {more:List (Key × V)} {rs:List (Key × Value)} {kvs:List (Key × V)} {vs:List (Key × Value)},KV more rs->KV kvs vs->KV (pN kvs more) (merged vs rs):=by
 intro more rs kvs vs r
 unfold KV at r
 induction r generalizing kvs vs with
 | nil=>intro q;exact q
 | @cons p q ps qs h t ih =>
  intro r0
  have e:KV (putK kvs p.1 p.2) (stored vs q.1 q.2):=by
   have:=r0.put p.1 h.2
   rw[<- h.1];exact this
  exact ih e
theorem DT:∀ (more kvs:List (Key × V)),(pN kvs more).length<=kvs.length+more.length
 | [],kvs=>by show kvs.length<=kvs.length+0;omega
 | p::r,kvs=>by
  have h1:=DT r (putK kvs p.1 p.2)
  have h2:=wN kvs p.1 p.2
  show (pN (putK kvs p.1 p.2) r).length<=_
  rw[List.length_cons];omega
theorem DU{P:Program}{w:World}:∀ {kvs:List (Key × V)} {ws:List (Value × Value)},VV (kvs.map fun kv=>(kV kv.1,kv.2)) ws->∃ rs,Carries (et P w) ws rs/\KV kvs rs
 | [],_,r=>by rw[List.map_nil] at r;cases r;exact⟨[],True.intro,.nil⟩
 | p::kvs,_,r=>by
  rw[List.map_cons] at r
  cases r with
  | @cons a b as bs h t =>
   obtain⟨rs,c,q⟩:=DU (P:=P) (w:=w) t
   obtain⟨b1,b2⟩:=b
   exact⟨(p.1,b2)::rs,⟨lW h.1,rfl,c⟩,.cons ⟨rfl,h.2⟩ q⟩
def Mj(jt:List (TE × TE)):TE:=fun σ H Q=>∀ p,H p=none->tF jt σ (upd H p (.dK [])) fun ps H2=>H2 p=some (.dK [])/\∃ kvs:List (Key × V),ps=kvs.map (fun kv=>(kV kv.1,kv.2))/\kvs.length<=15/\Q (.ref p) (upd H2 p (.dK (pN [] kvs)))
theorem Ml{X:Cx}{pos:Pos}{keys:List (Option Expr)}{values:List Expr}{jt:List (TE × TE)}(h:tG X pos keys values jt)(vT:keys.all (·.isSome)=true)(hl:keys.length=values.length)(h0:keys≠[])
 (Mm:keys.length<=15):PE X (.Dict keys values pos) (Mj jt):=by
 intro pins s σ H Q I q
 have hn:=I.aA.fresh (Nat.le_refl s.heap.objs.size)
 have I1:=I.laid (a:=s.heap.objs.size) (o:=.dK []) (h':=s.heap.push { cls:=.type "dict",data:=.dict #[] }) (t':=s.toks) (fun y y q=>Heap.get?_push_of_some _ q) (Nat.le_refl _) (Mh s.heap I.big)
 refine wpAny_Dict_walk (knd:=et X.prog X.w) vT hl h0 Mm (aC (h pins _ σ _ _ I1 (q _ hn)) fun ws s2 ⟨ps,H2,I2,rel,e,kvs,ep,lk,q2⟩=>?_)
 subst ep
 obtain⟨rs,c,rk⟩:=DU (P:=X.prog) (w:=X.w) rel
 obtain⟨z,hd,Vk,r0,dd⟩:=DP I2.aA e
 cases r0
 refine⟨rs,c,dd,fun h' lX hs=>⟨.ref s.heap.objs.size,_,?_,rfl,q2⟩⟩
 have hz:(pN [] kvs).length<=sizeLine:=by
  have h1:=DT kvs []
  rw[List.length_nil] at h1
  rw[sizeLine_eq];omega
 have he:∃ q,h'.get? s.heap.objs.size=some q:=let ⟨q,_,_,hq,_⟩:=lX;⟨q,hq⟩
 exact wO I2 (by rw[e];exact True.intro) hs he (wJ hz hd (rk.merge .nil) lX)
section
variable{X:Cx}{pins:List (Addr × Obj)}{σ:St}{H:Hp}{s:Shared}{a:Addr}{y d:V}{u r:Value}{o:Option V}{A:Around}{E:Value->Shared->Prop}
end
section
variable{X:Cx}{o e f:Expr}{apos eT:Pos}{td ty tx:TE}
end
section
variable{X:Cx}{pins:List (Addr × Obj)}{σ:St}{H:Hp}{s:Shared}{a:Addr}{kvs:List (Key × V)}{A:Around}{E:Value->Shared->Prop}
end
section
variable{X:Cx}{pins:List (Addr × Obj)}{σ:St}{H:Hp}{s:Shared}{a:Addr}{y:V}{u:Value}{A:Around}{E:Value->Shared->Prop}
end
end L2
namespace L2
open PySem PySem.Spec PyProof.Rows
section
variable{κ:Type}[DecidableEq κ]
theorem DV:∀ {l:List κ} {k:κ},l.Nodup->¬ k∈l->(l++[k]).Nodup
 | [],k,_,_=>by simp
 | a::r,k,h,hk=>by
  obtain⟨h1,h2⟩:=List.nodup_cons.mp h
  show (a::(r++[k])).Nodup
  refine List.nodup_cons.mpr ⟨fun m=>?_,DV h2 fun m=>hk (List.mem_cons.mpr (Or.inr m))⟩
  rcases List.mem_append.mp m with q|q
  ·exact h1 q
  ·exact hk (List.mem_cons.mpr (Or.inl (List.mem_singleton.mp q).symm))
end
end L2
namespace Gz
open PySem PySem.Spec PyProof.Rows L2
def bits(bs:List Int):Prop:=∀ x∈bs,x=0∨x=1
abbrev Lk:=Option (List Int)
def nI(xs:List Addr)(H:Hp)(v:V):Lk->Prop
 | none=>v = .non
 | some bs=>∃ l,v = .ref l/\l∉xs/\H l=some (.lst (bs.map V.int))
abbrev IsL:=nI []
theorem nI.put{xs:List Addr}{H:Hp}{v:V}{k:Lk}{c:Addr}{o:HO}(h:nI xs H v k)(hc:c∈xs):nI xs (upd H c o) v k:=by
 cases k with
 | none=>exact h
 | some bs=>obtain⟨l,a,b,e⟩:=h;exact⟨l,a,b,by rw[aO (show l≠c from fun z=>b (by rw[z];exact hc))];exact e⟩
theorem nI.l{xs:List Addr}{H:Hp}{v:V}{k:Lk}(h:nI xs H v k):IsL H v k:=by
 cases k with
 | none=>exact h
 | some bs=>obtain⟨l,a,b,c⟩:=h;exact⟨l,a,(fun z=>nomatch z),c⟩
end Gz
namespace Gz
open PySem PySem.Spec PyProof.Rows L2
local macro_rules | `(tactic| walk_at "om") => `(tactic| ((try simp only [PySem.Addr] at *); lia))
section
variable{κ:Type}[DecidableEq κ]
end
section
variable{prog:Program}{w:World}{K:Type}[DecidableEq K]{knd:HeapKind prog w K}{A:Around}{E:Value->Shared->Prop}{s:Shared}
end
def lY(h:Heap)(d:Addr)(es:Array DictEntry)(ep:Nat):Prop:=∃ o,h.get? d=some o/\o.ExactDict/\o.data = .dict es ep
theorem lY.at{h h':Heap}{d:Addr}{es:Array DictEntry}{ep:Nat}(x:lY h d es ep)(e:∀ o,h.get? d=some o->h'.get? d=some o):lY h' d es ep:=let ⟨o,ho,r⟩:=x;⟨o,e o ho,r⟩
theorem lY.lt{h:Heap}{d:Addr}{es:Array DictEntry}{ep:Nat}(x:lY h d es ep):d<h.objs.size:=let ⟨_,ho,_⟩:=x;Heap.lt_size ho
theorem lY.ty{s:Shared}{d:Addr}{es:Array DictEntry}{ep:Nat}(x:lY s.heap d es ep):s.TypeIs (.ref d) "dict" := let ⟨o,ho,hc,_⟩:=x;⟨o,ho,hc.1⟩
section
variable{prog:Program}{w:World}{A:Around}{E:Value->Shared->Prop}{s:Shared}{d it:Addr}{es:Array DictEntry}{i ep:Nat}
end
section
variable{prog:Program}{w:World}{A:Around}{E:Value->Shared->Prop}{s:Shared}
def wU(h:Heap)(vs:List Value)(gI:List (List Int))(i:Nat):Prop:=∃ (p:Addr) (o:Obj) (av:List Value) (m:Nat),vs[i]?=some (.ref p)/\h.get? p=some o/\o.cls = .type "tuple" /\ o.data = .seq av.toArray m/\IntsAre av (gI.getD i [])/\av≠[]
theorem wU.keep{h h':Heap}{vs:List Value}{gI:List (List Int)}{i:Nat}(x:wU h vs gI i)(k:∀ b o,h.get? b=some o->(∀ n xs,o≠seqObj "list" xs n)->h'.get? b=some o):wU h' vs gI i:=by
 obtain⟨p,o,av,m,h1,h2,h3,r⟩:=x
 exact⟨p,o,av,m,h1,k p o h2 (fun n xs z=>by rw[z] at h3;exact absurd (Value.type.inj h3) (by decide)),h3,r⟩
end
section
variable{X:Cx}{pins:List (Addr × Obj)}{σ:L2.St}{H:Hp}{s:Shared}{p:Addr}{kvs:List (List Key × V)}
end
section
variable{X:Cx}{pins:List (Addr × Obj)}{σ:L2.St}{H:Hp}{s:Shared}{p b:Addr}{kvs:List (List Key × V)}{k:List Key}{A:Around}{E:Value->Shared->Prop}
end
section
variable{X:Cx}{o e f:Expr}{td ty tx:TE}{apos eT:Pos}
end
section
variable{prog:Program}{w:World}{K:Type}[DecidableEq K]{knd:KeyKind prog w K}{A:Around}{E:Value->Shared->Prop}{s:Shared}{o d:Addr}{es:Array DictEntry}{ep:Nat}
end
end Gz
namespace Gz
open PySem PySem.Spec PyProof.Rows L2
local macro_rules | `(tactic| walk_at "om") => `(tactic| ((try simp only [PySem.Addr] at *); lia))
section
variable{prog:Program}{w:World}{A:Around}{E:Value->Shared->Prop}{s:Shared}
end
noncomputable abbrev KD(prog:Program)(w:World):=tupleKind (et prog w)
abbrev Row:=Addr × List Key × Addr × Value
section
variable{prog:Program}{w:World}{A:Around}{E:Value->Shared->Prop}{s:Shared}
theorem Mn{h h':Heap}{k:List Key}{a:Addr}(x:(KD prog w).is h k a)(e:∀ o,h.get? a=some o->h'.get? a=some o):(KD prog w).is h' k a :=
 let ⟨o,av,n,h1,r⟩:=x;⟨o,av,n,e o h1,r⟩
def wV(prog:Program)(w:World)(h:Heap)(r:Row):Prop:=(∃ o m,h.get? r.1=some o/\o.cls = .type "tuple" /\ o.data = .seq #[.ref r.2.2.1,r.2.2.2] m)/\(KD prog w).is h r.2.1 r.2.2.1
theorem wV.keep{h h':Heap}{r:Row}(x:wV prog w h r)(e1:∀ o,h.get? r.1=some o->h'.get? r.1=some o)(e2:∀ o,h.get? r.2.2.1=some o->h'.get? r.2.2.1=some o):wV prog w h' r :=
 let ⟨⟨o,m,a,b⟩,c⟩:=x;⟨⟨o,m,e1 o a,b⟩,Mn c e2⟩
end
section
variable{X:Cx}{pins:List (Addr × Obj)}{σ:L2.St}{H:Hp}{s:Shared}
end
end Gz
namespace Gz
open PySem PySem.Spec PyProof.Rows L2
local macro_rules | `(tactic| walk_at "om") => `(tactic| ((try simp only [PySem.Addr] at *); lia))
def wW(B:Heap)(l:List Env)(x:Addr)(cls a0 mk:Value)(h:Heap):Prop:=B.StaysIn h/\B.get? x=none/\h.FunFrames B l/\h.TracedAtW B x cls a0 mk
section
variable{M:Model}{A:Around}{E:Value->Shared->Prop}{s:Shared}{B:Heap}{l outer:List Env}{env:Env}{L x C:Addr}{cls a0 mk:Value}{Q:Unit->Shared->Prop}
theorem wW.but{h h':Heap}{ob:Obj}(fl:wW B l x cls a0 mk h)(hC:h.get? C=some ob)(hn:∀ us,ob.data ≠ .fields us)(hB:B.get? C=none)(hl:C∉aY l)(sb:Heap.SameBut C h h'):wW B l x cls a0 mk h':=by
 obtain⟨f1,f2,f3,ox,us,T,oT,ts,e1,e2,e3,e4,e5,e6,e7,e8,e9⟩:=fl
 have nx:x≠C:=fun z=>by rw[z,hC] at e1;cases e1;exact hn _ e3
 have nT:T≠C:=fun z=>by rw[z,hC] at e7;cases e7;exact hn _ e8
 have all:∀ (l:List Env),C∉aY l->h.FunFrames B l->h'.FunFrames B l:=by
  intro l
  induction l with
  | nil=>intro v v;trivial
  | cons env r ih =>
   intro hs hl
   obtain⟨hk,⟨L,o,hf,hn,ho,hd⟩,hr⟩:=hl
   unfold aY at hs
   rw[List.filterMap_cons,hf] at hs
   exact⟨hk,⟨L,o,hf,hn,(sb.2 L fun z=>hs (by rw[z];exact List.mem_cons_self)).trans ho,hd⟩,ih (fun z=>hs (List.mem_cons_of_mem _ z)) hr⟩
 exact⟨fun b o z=>(sb.2 b fun y=>by rw[y,hB] at z;cases z).trans (f1 b o z),f2,all l hl f3,ox,us,T,oT,ts,(sb.2 x nx).trans e1,e2,e3,e4,e5,e6,(sb.2 T nT).trans e7,e8,e9⟩
end
section
variable{P:Program}{w:World}{K:PySem.W.Frag}{mg:Str->Option Value}{base:Heap}{N:List Str}{qual:Str}{scope:Scope}{f:Addr}{cd:Value}{A:Around}{outer:List Env}{s:Shared}{H:Hp}{E:XK}
end
section
variable{X:Cx}{pins:List (Addr × Obj)}{σ:L2.St}{H2:Hp}{s2:Shared}{x:Str}{px pos:Pos}{elt iter:Expr}{ifs:List Expr}{scope:Scope}{cl:List (Str × Addr)}{fr:List Nat}{ys:List Str}{tt:TT}{te:TE}
end
section
variable{X:Cx}{F:Value->Shared->Prop}{pins pn:List (Addr × Obj)}{σ:L2.St}{H:Hp}{s:Shared}{A':Around}
end
end Gz
namespace Gz
open PySem PySem.Spec PyProof.Rows L2
noncomputable def nq(ks:List P2)(r:Int)(i:Nat):Bool:=decide ((dB ks i).1<=r) && decide (r<=(dB ks (i+1)).1)
def cn(ks:List P2)(r:En):Prop:=∀ n,r=some n->hit ks n 1
end Gz
namespace Gz
open PySem PySem.Spec PyProof.Rows L2
local macro_rules | `(tactic| walk_at "om") => `(tactic| ((try simp only [PySem.Addr] at *); lia))
abbrev Tb:=List (P2 × S2)
noncomputable def gJ(i j:Int):List Key:=[.inl i,.inl j]
theorem tH{a b:P2}(h:gJ a.1 a.2=gJ b.1 b.2):a=b:=by
 unfold gJ at h
 injection h with h1 h2
 injection h2 with h2 _
 exact Prod.ext (Sum.inl.inj h1) (Sum.inl.inj h2)
noncomputable def lZ(tb:Tb)(s:P2):Option S2:=(tb.find? fun r=>decide (r.1=s)).map (·.2)
noncomputable def tI(tb:Tb)(s:P2)(w:S2):Tb:=if (tb.any fun r=>decide (r.1=s))=true then tb.map (fun r=>if r.1=s then (r.1,w) else r) else tb++[(s,w)]
noncomputable def wX(tb:Tb)(s:P2):Tb:=tb.filter fun r=>decide (r.1≠s)
def bP(H:Hp):List (List Key × V)->Tb->Prop
 | [],[]=>True
 | kv::kvs,r::tb=>(kv.1=gJ r.1.1 r.1.2/\bW H kv.2 r.2.1 r.2.2)/\bP H kvs tb
 | _,_=>False
section
variable{H H':Hp}{kvs:List (List Key × V)}{tb:Tb}
theorem bP.len:∀ {kvs:List (List Key × V)} {tb:Tb},bP H kvs tb->kvs.length=tb.length
 | [],[],_=>rfl
 | _::kvs,_::tb,h=>congrArg (· + 1) (bP.len (kvs:=kvs) (tb:=tb) h.2)
 | [],_::_,h=>h.elim
 | _::_,[],h=>h.elim
theorem bP.imp(f:∀ v a b,bW H v a b->bW H' v a b):∀ {kvs:List (List Key × V)} {tb:Tb},bP H kvs tb->bP H' kvs tb
 | [],[],_=>trivial
 | _::kvs,_::tb,h=>⟨⟨h.1.1,f _ _ _ h.1.2⟩,bP.imp f (kvs:=kvs) (tb:=tb) h.2⟩
 | [],_::_,h=>h.elim
 | _::_,[],h=>h.elim
theorem bP.app:∀ {kvs wY:List (List Key × V)} {tb ic:Tb},bP H kvs tb->bP H wY ic->bP H (kvs++wY) (tb++ic)
 | [],_,[],_,_,h=>h
 | _::kvs,wY,_::tb,ic,h,h'=>⟨h.1,bP.app (kvs:=kvs) (tb:=tb) h.2 h'⟩
 | [],_,_::_,_,h,_=>h.elim
 | _::_,_,[],_,h,_=>h.elim
theorem bP.any(s:P2):∀ {kvs:List (List Key × V)} {tb:Tb},bP H kvs tb->(kvs.any fun kv=>decide (kv.1=gJ s.1 s.2))=tb.any fun r=>decide (r.1=s)
 | [],[],_=>rfl
 | kv::kvs,r::tb,h=>by
  rw[List.any_cons,List.any_cons,bP.any s (kvs:=kvs) (tb:=tb) h.2,h.1.1]
  congr 1
  by_cases e:r.1=s
  ·rw[e,decide_eq_true rfl,decide_eq_true rfl]
  ·rw[decide_eq_false e,decide_eq_false fun z=>e (tH z)]
 | [],_::_,h=>h.elim
 | _::_,[],h=>h.elim
theorem bP.val(s:P2):∀ {kvs:List (List Key × V)} {tb:Tb},bP H kvs tb->(lZ tb s=none->bX kvs (gJ s.1 s.2)=none)/\∀ w,lZ tb s=some w->∃ v,bX kvs (gJ s.1 s.2)=some v/\bW H v w.1 w.2
 | [],[],_=>⟨fun y=>rfl,fun w h=>by cases h⟩
 | kv::kvs,r::tb,h=>by
  have ih:=bP.val s (kvs:=kvs) (tb:=tb) h.2
  by_cases e:r.1=s
  ·have e1:lZ (r::tb) s=some r.2:=by simp[lZ,List.find?_cons,e]
   rw[e1,tf (h.1.1.trans (by rw[e]))]
   exact⟨fun z=>(by cases z),fun w z=>(by cases z;exact⟨_,rfl,h.1.2⟩)⟩
  ·have e1:lZ (r::tb) s=lZ tb s:=by simp[lZ,List.find?_cons,e]
   rw[e1,tj (fun z=>e (tH (h.1.1.symm.trans z)))]
   exact ih
 | [],_::_,h=>h.elim
 | _::_,[],h=>h.elim
theorem bP.nG{s:P2}{v:V}{w:S2}(hv:bW H v w.1 w.2):∀ {kvs:List (List Key × V)} {tb:Tb},bP H kvs tb->bP H (kvs.map fun kv=>if kv.1=gJ s.1 s.2 then (kv.1,v) else kv) (tb.map fun r=>if r.1=s then (r.1,w) else r)
 | [],[],_=>trivial
 | kv::kvs,r::tb,h=>by
  rw[List.map_cons,List.map_cons]
  refine⟨?_,bP.nG hv (kvs:=kvs) (tb:=tb) h.2⟩
  by_cases e:r.1=s
  ·rw[if_pos e,if_pos (h.1.1.trans (by rw[e]))];exact⟨h.1.1,hv⟩
  ·rw[if_neg e,if_neg (fun z=>e (tH (h.1.1.symm.trans z)))];exact h.1
 | [],_::_,h=>h.elim
 | _::_,[],h=>h.elim
theorem bP.put{s:P2}{v:V}{w:S2}(h:bP H kvs tb)(hv:bW H v w.1 w.2):bP H (putK kvs (gJ s.1 s.2) v) (tI tb s w):=by
 unfold putK tI
 rw[h.any s]
 split
 ·exact h.nG hv
 ·exact h.app ⟨⟨rfl,hv⟩,trivial⟩
theorem bP.drop{s:P2}:∀ {kvs:List (List Key × V)} {tb:Tb},bP H kvs tb->bP H (sZ kvs (gJ s.1 s.2)) (wX tb s)
 | [],[],_=>trivial
 | kv::kvs,r::tb,h=>by
  have ih:=bP.drop (s:=s) (kvs:=kvs) (tb:=tb) h.2
  unfold sZ wX at *
  rw[List.filter_cons,List.filter_cons]
  by_cases e:r.1=s
  ·have e2:kv.1=gJ s.1 s.2:=h.1.1.trans (by rw[e])
   rw[if_neg (by simp[e2]),if_neg (by simp[e])];exact ih
  ·have e2:¬ kv.1=gJ s.1 s.2:=fun z=>e (tH (h.1.1.symm.trans z))
   rw[if_pos (by simp[e2]),if_pos (by simp[e])];exact⟨h.1,ih⟩
 | [],_::_,h=>h.elim
 | _::_,[],h=>h.elim
end
def TabAt(H:Hp)(p:Addr)(tb:Tb):Prop:=∃ kvs,H p=some (.dT kvs)/\bP H kvs tb
def Fr(H H':Hp):Prop:=∀ b o,(∀ kvs,o≠HO.dT kvs)->H b=some o->H' b=some o
def f9(ps:List Addr)(H H':Hp):Prop:=∀ b o,b∉ps->H b=some o->H' b=some o
def wZ(H:Hp)(ps:List Addr):Prop:=∀ p∈ps,∃ kvs,H p=some (.dT kvs)
section
variable{H H' H2:Hp}{ps qs:List Addr}{p q:Addr}{tb:Tb}
theorem Fr.trans(a:Fr H H')(b:Fr H' H2):Fr H H2:=fun c o h e=>b c o h (a c o h e)
theorem Fr.refl(H:Hp):Fr H H:=fun y y y e=>e
theorem _root_.L2.ai.fr(s:ai H H'):Fr H H':=fun b o y e=>s b o e
theorem _root_.L2.ai.but(s:ai H H'):f9 ps H H':=fun b o y e=>s b o e
theorem f9.trans(a:f9 ps H H')(b:f9 ps H' H2):f9 ps H H2:=fun c o h e=>b c o h (a c o h e)
theorem SameBut.but(a:SameBut p H H')(h:p∈ps):f9 ps H H':=fun c o z e=>a c o (fun y=>z (y ▸ h)) e
theorem f9.fr(a:f9 ps H H')(d:wZ H ps):Fr H H':=fun b o ho e=>by
 by_cases hb:b∈ps
 ·obtain⟨kvs,hk⟩:=d b hb
  rw[hk] at e
  exact absurd (Option.some.inj e).symm (ho kvs)
 ·exact a b o hb e
theorem Mo{kvs:List (List Key × V)}(h:H p=some (.dT kvs)):wZ H [p]:=fun b hb=>⟨kvs,(List.mem_singleton.mp hb) ▸ h⟩
theorem SameBut.fr{kvs:List (List Key × V)}(a:SameBut p H H')(h:H p=some (.dT kvs)):Fr H H':=f9.fr (SameBut.but a (.head _)) (Mo h)
theorem f9.new(s:ai H H')(a:f9 ps H' H2)(h:∀ b∈ps,b∉qs->H b=none):f9 qs H H2:=fun b o hb e=>by
 by_cases hp:b∈ps
 ·have:=h b hp hb;rw[this] at e;cases e
 ·exact a b o hp (s b o e)
theorem bW.fr{v:V}{a b:En}(h:bW H v a b)(f:Fr H H'):bW H' v a b:=let ⟨p,e,hp⟩:=h;⟨p,e,f _ _ (fun y z=>nomatch z) hp⟩
theorem iQ.fr{v:V}{a:P2}(h:iQ H v a)(f:Fr H H'):iQ H' v a:=let ⟨p,e,hp⟩:=h;⟨p,e,f _ _ (fun y z=>nomatch z) hp⟩
theorem TabAt.fr(h:TabAt H p tb)(f:Fr H H')(e:∀ kvs,H p=some (.dT kvs)->H' p=some (.dT kvs)):TabAt H' p tb:=let ⟨kvs,a,b⟩:=h;⟨kvs,e _ a,b.imp fun y y y z=>z.fr f⟩
theorem TabAt.but(h:TabAt H p tb)(b:f9 ps H H')(d:wZ H ps)(hp:p∉ps):TabAt H' p tb:=h.fr (b.fr d) fun y e=>b _ _ hp e
theorem TabAt.ne(h:TabAt H p tb)(hq:H q=none):p≠q:=fun z=>by obtain⟨kvs,a,y⟩:=h;rw[z,hq] at a;cases a
end
def tJ(e t:Int)(s:P2):Prop:=(0<=s.1/\s.1<e)/\0<=s.2/\s.2<t
instance (e t:Int) (s:P2):Decidable (tJ e t s):=by unfold tJ;infer_instance
def j9(e t:Int)(tb:Tb):Prop:=(tb.map (·.1)).Nodup/\∀ r∈tb,tJ e t r.1
theorem j9.put{e t:Int}{tb:Tb}{s:P2}{w:S2}(h:j9 e t tb)(hs:tJ e t s):j9 e t (tI tb s w):=by
 unfold tI
 split
 ·refine⟨?_,fun r hr=>?_⟩
  ·have:(tb.map fun r=>if r.1=s then (r.1,w) else r).map (·.1)=tb.map (·.1):=by
    rw[List.map_map]
    refine List.map_congr_left fun r _=>?_
    show (if r.1=s then (r.1,w) else r).1=r.1
    split<;>rfl
   rw[this];exact h.1
  ·obtain⟨x,hx,rfl⟩:=List.mem_map.mp hr
   have:=h.2 x hx
   split<;>exact this
 ·rename_i z
  refine⟨?_,fun r hr=>?_⟩
  ·rw[List.map_append]
   refine DV h.1 fun y=>z ?_
   obtain⟨x,hx,e⟩:=List.mem_map.mp y
   rw[List.any_eq_true]
   exact⟨x,hx,by simpa using e⟩
  ·rcases List.mem_append.mp hr with y|y
   ·exact h.2 r y
   ·rw[List.mem_singleton.mp y];exact hs
theorem j9.drop{e t:Int}{tb:Tb}{s:P2}(h:j9 e t tb):j9 e t (wX tb s) :=
 ⟨h.1.sublist ((List.filter_sublist).map _),fun r hr=>h.2 r (List.mem_filter.mp hr).1⟩
theorem j9.nil{e t:Int}:j9 e t []:=⟨List.nodup_nil,fun r h=>by cases h⟩
def w4(H:Hp)(v:V)(r:P2 × S2):Prop:=∃ a w,v = .ref a/\H a=some (.tup [.int r.1.1,.int r.1.2,w])/\bW H w r.2.1 r.2.2
theorem w4.fr{H H':Hp}{v:V}{r:P2 × S2}(h:w4 H v r)(s:Fr H H'):w4 H' v r:=let ⟨a,w,e,ha,hw⟩:=h;⟨a,w,e,s _ _ (fun y z=>nomatch z) ha,hw.fr s⟩
end Gz
namespace Gz
open PySem PySem.Spec PyProof.Rows L2
theorem w5{H:Hp}:∀ {xs:List V} {ss:List S2},dC H xs ss↔aD (fun x s=>bW H x s.1 s.2) xs ss
 | [],[]=>Iff.rfl
 | _::_,_::_=>and_congr Iff.rfl w5
 | [],_::_=>Iff.rfl
 | _::_,[]=>Iff.rfl
abbrev Pa:=Str × Int × S2
def gK(H:Hp)(v:V)(p:Pa):Prop:=∃ (t q:Addr),v = .ref t/\H t=some (.tup [.str p.1,.int p.2.1,.ref q])/\H q=some (.tup [ev p.2.2.1,ev p.2.2.2])
theorem gK.same{H H':Hp}{v:V}{p:Pa}(h:gK H v p)(s:ai H H'):gK H' v p:=let ⟨t,q,e,a,b⟩:=h;⟨t,q,e,s _ _ a,s _ _ b⟩
abbrev dA(H:Hp):List V->List Pa->Prop:=aD (gK H)
theorem dA.same{H H':Hp}{xs:List V}{ps:List Pa}(h:dA H xs ps)(s:ai H H'):dA H' xs ps:=aD.imp (fun y y r=>r.same s) h
theorem gK.fr{H:Hp}{v:V}{p:Pa}{r:Addr}{ys:List V}{o:HO}(h:gK H v p)(hr:H r=some (.lst ys)):gK (upd H r o) v p:=by
 obtain⟨t,q,e,a,b⟩:=h
 have h1:t≠r:=fun z=>by rw[z,hr] at a;cases a
 have h2:q≠r:=fun z=>by rw[z,hr] at b;cases b
 exact⟨t,q,e,by rw[aO h1];exact a,by rw[aO h2];exact b⟩
theorem dA.put{H:Hp}{xs:List V}{ps:List Pa}{r:Addr}{ys:List V}{o:HO}(h:dA H xs ps)(hr:H r=some (.lst ys)):dA (upd H r o) xs ps:=aD.imp (fun y y x=>x.fr hr) h
noncomputable def hasB(n:Int)(k:Str)(t:Int):Bool:=if k = "step" then decide (0<=t/\t<n) && decide (0<=t+1/\t+1<n) else decide (k = "at") && decide (0<=t/\t<n)
def gL(n:Int)(ps:List Pa):Prop:=∀ p∈ps,hasB n p.1 p.2.1=true
theorem tK{n t:Int}:hasB n "step" t=true↔0<=t/\t+1<n:=by
 unfold hasB
 rw[if_pos rfl]
 simp only[Bool.and_eq_true,decide_eq_true_eq]
 lia
theorem DW{n t:Int}{k:Str}(h:k ≠ "step"):hasB n k t=true↔k = "at" /\ 0<=t/\t<n:=by
 unfold hasB
 rw[if_neg h]
 simp only[Bool.and_eq_true,decide_eq_true_eq]
noncomputable def gM(cs:List Int)(k:Str)(t:Int):Int:=if k = "step" then cs.getD (t+1).toNat 0-cs.getD t.toNat 0 else cs.getD t.toNat 0
noncomputable def aI(cs:List Int)(ps:List Pa):Bool:=ps.all fun p=>hold p.2.2.1 p.2.2.2 (gM cs p.1 p.2.1)
theorem int_at{cs:List Int}{t:Int}(h0:0<=t)(h1:t<(cs.length:Int)):cD (cs.map V.int) t=some (.int (cs.getD t.toNat 0)):=by
 have e:t=((t.toNat:Nat):Int):=by lia
 refine (congrArg (cD _) e).trans (j5 ?_)
 rw[List.getElem?_map,List.getD_eq_getElem?_getD,List.getElem?_eq_getElem (by lia)]
 rfl
structure Gd(n:Nat)(d:PyData):Prop where
 eqv:PyData.eqv d d=true
 lay:d.canLay0=true
 dep:d.depth<=n
theorem Gd.of{n:Nat}{d:PyData}(h:fX n d=true):Gd n d:=let ⟨a,b,c⟩:=wG d h;⟨a,b,c⟩
theorem Gd.str{x:Str}(h:PyData.strOk x=true):Gd 0 (.str x):=⟨by simp[PyData.eqv],by simpa [PyData.canLay0] using h,Nat.le_refl _⟩
theorem Gd.int(i:Int):Gd 0 (.int i):=.of rfl
theorem Gd.all:∀ {ds:List PyData} {n:Nat},(∀ d∈ds,Gd n d)->PyData.eqvAll ds ds=true/\PyData.canLayAll0 ds=true/\PyData.depthAll ds<=n
 | [],n,_=>⟨rfl,rfl,Nat.zero_le _⟩
 | d::ds,n,h=>by
  obtain⟨a,b,c⟩:=h d (.head _)
  obtain⟨a',b',c'⟩:=Gd.all (ds:=ds) fun x hx=>h x (.tail _ hx)
  exact⟨by simp only[PyData.eqvAll,a,a',Bool.and_self],by simp only[PyData.canLayAll0,b,b',Bool.and_self],by simp only[PyData.depthAll];lia⟩
theorem Gd.lst{ds:List PyData}{n:Nat}(h:∀ d∈ds,Gd n d):Gd (n+1) (.list ds):=by
 obtain⟨a,b,c⟩:=Gd.all h
 exact⟨by simpa only [PyData.eqv] using a,by simpa only [PyData.canLay0] using b,by simp only[PyData.depth];lia⟩
theorem Gd.tup{ds:List PyData}{n:Nat}(h:∀ d∈ds,Gd n d):Gd (n+1) (.tuple ds):=by
 obtain⟨a,b,c⟩:=Gd.all h
 exact⟨by simpa only [PyData.eqv] using a,by simpa only [PyData.canLay0] using b,by simp only[PyData.depth];lia⟩
end Gz
namespace Gz
open PySem PySem.Spec PyProof.Rows L2
end Gz
namespace Gz
open PySem PySem.Spec PyProof.Rows L2
end Gz
namespace Gz
open PySem PySem.Spec PyProof.Rows L2
end Gz
namespace Gz
open PySem L2
theorem ju{H:Hp}{x dx C:Addr}{fs:List (Str × V)}(hx:H x=none)(hd:H dx=none)(hn:dx≠x):ai H (upd (upd H dx (.own x)) x (.ins C dx fs)) :=
 (ak hd).trans (ak (by rw[aO (Ne.symm hn)];exact hx))
end Gz
namespace Gz
open PySem PySem.Spec PyProof.Rows L2
noncomputable def dN:S2->List S2
 | (none,none)=>[]
 | (some l,none)=>[(none,some (l-1))]
 | (none,some h)=>[(some (h+1),none)]
 | (some l,some h)=>[(none,some (l-1)),(some (h+1),none)]
noncomputable def bw(ps:List Pa):List (List Pa):=ps.flatMap fun p=>(dN p.2.2).map fun o=>[((p.1,p.2.1,o):Pa)]
noncomputable def bc(i j:Int)(s:S2):List Pa:=(List.range (j+1-i).toNat).map fun k=>("at",i+(k:Nat),s)
def nJ(H:Hp)(v:V)(ps:List Pa):Prop:=∃ l xs,v = .ref l/\H l=some (.lst xs)/\dA H xs ps
theorem nJ.same{H H':Hp}{v:V}{ps:List Pa}(h:nJ H v ps)(s:ai H H'):nJ H' v ps:=let ⟨l,xs,e,a,b⟩:=h;⟨l,xs,e,s _ _ a,b.same s⟩
def pO(l:Addr)(H:Hp)(v:V)(ps:List Pa):Prop:=∃ c xs,v = .ref c/\c≠l/\H c=some (.lst xs)/\dA H xs ps
theorem pO.put{l:Addr}{H:Hp}{v:V}{ps:List Pa}{ys:List V}{o:HO}(h:pO l H v ps)(hl:H l=some (.lst ys)):pO l (upd H l o) v ps:=let ⟨c,xs,e,n,a,b⟩:=h;⟨c,xs,e,n,by rw[aO n];exact a,b.put hl⟩
theorem pO.cl{l:Addr}{H:Hp}{v:V}{ps:List Pa}(h:pO l H v ps):nJ H v ps:=let ⟨c,xs,e,_,a,b⟩:=h;⟨c,xs,e,a,b⟩
def bD(H0 H:Hp)(v:V)(ps:List Pa):Prop:=∃ c xs,v = .ref c/\H0 c=none/\H c=some (.lst xs)/\dA H xs ps
theorem bD.same{H0 H H':Hp}{v:V}{ps:List Pa}(h:bD H0 H v ps)(s:ai H H'):bD H0 H' v ps:=let ⟨c,xs,e,n,a,b⟩:=h;⟨c,xs,e,n,s _ _ a,b.same s⟩
theorem bD.back{H0 H1 H:Hp}{v:V}{ps:List Pa}(h:bD H1 H v ps)(s:ai H0 H1):bD H0 H v ps:=let ⟨c,xs,e,n,a,b⟩:=h;⟨c,xs,e,s.free n,a,b⟩
theorem bD.cl{H0 H:Hp}{v:V}{ps:List Pa}(h:bD H0 H v ps):nJ H v ps:=let ⟨c,xs,e,_,a,b⟩:=h;⟨c,xs,e,a,b⟩
def fM(H0:Hp)(l:Addr)(H:Hp)(v:V)(ps:List Pa):Prop:=∃ c xs,v = .ref c/\c≠l/\H0 c=none/\H c=some (.lst xs)/\dA H xs ps
theorem fM.same{H0:Hp}{l:Addr}{H H':Hp}{v:V}{ps:List Pa}(h:fM H0 l H v ps)(s:ai H H'):fM H0 l H' v ps:=let ⟨c,xs,e,m,n,a,b⟩:=h;⟨c,xs,e,m,n,s _ _ a,b.same s⟩
theorem fM.put{H0:Hp}{l:Addr}{H:Hp}{v:V}{ps:List Pa}{ys:List V}{o:HO}(h:fM H0 l H v ps)(hl:H l=some (.lst ys)):fM H0 l (upd H l o) v ps:=let ⟨c,xs,e,m,n,a,b⟩:=h;⟨c,xs,e,m,n,by rw[aO m];exact a,b.put hl⟩
theorem fM.w6{H0:Hp}{l:Addr}{H:Hp}{v:V}{ps:List Pa}(h:fM H0 l H v ps):bD H0 H v ps:=let ⟨c,xs,e,_,n,a,b⟩:=h;⟨c,xs,e,n,a,b⟩
def Kp(P:Addr->Prop)(H H':Hp):Prop:=∀ a o,¬ P a->H a=some o->H' a=some o
theorem Kp.refl{P:Addr->Prop}{H:Hp}:Kp P H H:=fun y y y h=>h
theorem Kp.put{P:Addr->Prop}{H H1:Hp}{c:Addr}{o:HO}(h:Kp P H H1)(hc:P c):Kp P H (upd H1 c o):=fun a o n e=>by
 have ne:a≠c:=fun z=>by rw[z] at n;exact n hc
 rw[aO ne]
 exact h a o n e
theorem Kp.new{P:Addr->Prop}{H0 H H1:Hp}(h:Kp P H H1)(s:ai H0 H)(hP:∀ a,P a->H0 a=none):ai H0 H1:=fun a o e=>h a o (fun z=>by rw[hP a z] at e;cases e) (s a o e)
theorem Mp{ps:List Pa}{i:Nat}{p:Pa}(h:ps[i]?=some p):bw (ps.take (i+1))=bw (ps.take i)++(dN p.2.2).map fun o=>[((p.1,p.2.1,o):Pa)]:=by
 unfold bw
 rw[List.take_succ,h,List.flatMap_append]
 simp
theorem w9(s:S2):(dN s).length<=2:=by
 obtain⟨a,b⟩:=s
 cases a<;>cases b<;>simp[dN]
theorem eO(i j:Int)(s:S2):(bc i j s).length=(j+1-i).toNat:=by
 unfold bc
 rw[List.length_map,List.length_range]
noncomputable def dO(i j:Int)(s:S2):List Pa:=(List.range (j-i).toNat).map fun k=>("step",i+(k:Nat),s)
noncomputable def fN(i j l h:Int):List (List Pa):=(List.range (j-i).toNat).flatMap fun k=>(bc (i+(k:Nat)+1) j (some h,none)).map fun p=>[(("at",i+(k:Nat),none,some l):Pa),p]
theorem tL{i j:Int}{s:S2}{p:Pa}(h:p∈bc i j s):∃ k:Nat,k<(j+1-i).toNat/\p=(("at",i+(k:Int),s):Pa):=by
 unfold bc at h
 obtain⟨k,hk,rfl⟩:=List.mem_map.mp h
 exact⟨k,List.mem_range.mp hk,rfl⟩
theorem Mq{i j:Int}{s:S2}{p:Pa}(h:p∈dO i j s):∃ k:Nat,k<(j-i).toNat/\p=(("step",i+(k:Int),s):Pa):=by
 unfold dO at h
 obtain⟨k,hk,rfl⟩:=List.mem_map.mp h
 exact⟨k,List.mem_range.mp hk,rfl⟩
theorem xb{ps qs:List Pa}(h:qs∈bw ps):∃ p∈ps,∃ o∈dN p.2.2,qs=[((p.1,p.2.1,o):Pa)]:=by
 unfold bw at h
 obtain⟨p,hp,h⟩:=List.mem_flatMap.mp h
 obtain⟨o,ho,rfl⟩:=List.mem_map.mp h
 exact⟨p,hp,o,ho,rfl⟩
theorem DX{i j l h:Int}{qs:List Pa}(hq:qs∈fN i j l h):∃ k:Nat,k<(j-i).toNat/\∃ p∈bc (i+(k:Int)+1) j (some h,none),qs=[(("at",i+(k:Int),none,some l):Pa),p]:=by
 unfold fN at hq
 obtain⟨k,hk,hq⟩:=List.mem_flatMap.mp hq
 obtain⟨p,hp,rfl⟩:=List.mem_map.mp hq
 exact⟨k,List.mem_range.mp hk,p,hp,rfl⟩
theorem DY{α β:Type}{f:α->List β}{c:Nat}:∀ (l:List α),(∀ a∈l,(f a).length<=c)->(l.flatMap f).length<=c * l.length
 | [],_=>by simp
 | a::l,h=>by
  have h1:=h a (.head _)
  have h2:=DY l fun b hb=>h b (.tail _ hb)
  rw[List.flatMap_cons,List.length_append,List.length_cons,Nat.mul_add,Nat.mul_one]
  omega
theorem DZ(ps:List Pa):(bw ps).length<=2 * ps.length:=DY ps fun p y=>by
 rw[List.length_map]
 exact w9 _
theorem Mr{X:Cx}{K:PySem.W.Frag}(h:X.K=K)(hc:X.calm=true):eL X (.builtin "max") (fun xs H Q=>∃ a ns,xs=[.ref a]/\ar K H a (ns.map V.int)/\ns≠[]/\Q (.int (eW ns)) H):=h ▸ Dl hc
theorem Ms{X:Cx}{K:PySem.W.Frag}(h:X.K=K)(hc:X.calm=true):eL X (.builtin "min") (fun xs H Q=>∃ a ns,xs=[.ref a]/\ar K H a (ns.map V.int)/\ns≠[]/\Q (.int (gH ns)) H):=h ▸ Dm hc
noncomputable def aZ(cs:List Int)(i:Int)(k:Nat):Int:=cs.getD (i+(k:Int)).toNat 0
theorem xf(cs:List Int)(i j:Int)(s:S2):aI cs (bc i j s)=(List.range (j+1-i).toNat).all fun k=>hold s.1 s.2 (aZ cs i k):=by
 unfold aI bc
 rw[List.all_map]
 congr 1
theorem Mt(cs:List Int)(i j:Int)(s:S2):aI cs (dO i j s)=(List.range (j-i).toNat).all fun k=>hold s.1 s.2 (cs.getD (i+(k:Int)+1).toNat 0-aZ cs i k):=by
 unfold aI dO
 rw[List.all_map]
 congr 1
theorem tM{cs:List Int}{i j:Int}(h0:0<=i)(h1:i<=j)(h2:j<(cs.length:Int)):eF (cs.map V.int) (some i) (some (j+1))=((List.range (j+1-i).toNat).map (aZ cs i)).map V.int:=by
 obtain⟨a,rfl⟩:∃ a:Nat,i=(a:Int):=⟨i.toNat,by omega⟩
 obtain⟨b,eb⟩:∃ b:Nat,j+1=(b:Int):=⟨(j+1).toNat,by omega⟩
 rw[eb,LM _ (by rw[List.length_map];omega),<- List.map_drop,<- List.map_take]
 congr 1
 refine List.ext_getElem? fun k=>?_
 rw[show ((b:Int)-(a:Int)).toNat=b-a by omega]
 by_cases hk:k<b-a
 ·rw[List.getElem?_take_of_lt hk,List.getElem?_drop,List.getElem?_map,List.getElem?_range hk,List.getElem?_eq_getElem (by omega)]
  unfold aZ
  simp only[Option.map_some]
  rw[show ((a:Int)+(k:Int)).toNat=a+k by omega]
  simp[List.getElem?_eq_getElem (show a+k<cs.length by omega)]
 ·rw[List.getElem?_eq_none (by rw[List.length_take,List.length_drop];omega),List.getElem?_eq_none (by rw[List.length_map,List.length_range];omega)]
theorem Mu{cs:List Int}{i j s:Int}:((bw (bc i j (none,some (s-1)))).any (aI cs))=true ↔ ∃ k,k<(j+1-i).toNat/\s<=aZ cs i k:=by
 rw[List.any_eq_true]
 constructor
 ·rintro ⟨ps,ka,hm⟩
  obtain⟨p,hp,o,ho,rfl⟩:=xb ka
  obtain⟨k,hk,rfl⟩:=tL hp
  simp only[dN,List.mem_cons,List.not_mem_nil,or_false] at ho
  subst ho
  refine⟨k,hk,?_⟩
  unfold aI at hm
  simp only[List.all_cons,List.all_nil,Bool.and_true] at hm
  have:=(iq.mp hm).1 _ rfl
  unfold gM at this
  rw[if_neg (by decide)] at this
  unfold aZ
  omega
 ·rintro ⟨k,hk,hc⟩
  refine⟨[(("at",i+(k:Int),some (s-1+1),none):Pa)],?_,?_⟩
  ·unfold bw
   refine List.mem_flatMap.mpr ⟨(("at",i+(k:Int),none,some (s-1)):Pa),?_,?_⟩
   ·unfold bc
    exact List.mem_map.mpr ⟨k,List.mem_range.mpr hk,rfl⟩
   ·simp[dN]
  ·unfold aI
   simp only[List.all_cons,List.all_nil,Bool.and_true]
   refine iq.mpr ⟨fun x hx=>?_,fun x hx=>(nomatch hx)⟩
   cases hx
   unfold gM
   rw[if_neg (by decide)]
   unfold aZ at hc
   omega
theorem Mv{cs:List Int}{i j s:Int}:((bw (bc i j (some (s+1),none))).any (aI cs))=true ↔ ∃ k,k<(j+1-i).toNat/\aZ cs i k<=s:=by
 rw[List.any_eq_true]
 constructor
 ·rintro ⟨ps,ka,hm⟩
  obtain⟨p,hp,o,ho,rfl⟩:=xb ka
  obtain⟨k,hk,rfl⟩:=tL hp
  simp only[dN,List.mem_cons,List.not_mem_nil,or_false] at ho
  subst ho
  refine⟨k,hk,?_⟩
  unfold aI at hm
  simp only[List.all_cons,List.all_nil,Bool.and_true] at hm
  have:=(iq.mp hm).2 _ rfl
  unfold gM at this
  rw[if_neg (by decide)] at this
  unfold aZ
  omega
 ·rintro ⟨k,hk,hc⟩
  refine⟨[(("at",i+(k:Int),none,some (s+1-1)):Pa)],?_,?_⟩
  ·unfold bw
   refine List.mem_flatMap.mpr ⟨(("at",i+(k:Int),some (s+1),none):Pa),?_,?_⟩
   ·unfold bc
    exact List.mem_map.mpr ⟨k,List.mem_range.mpr hk,rfl⟩
   ·simp[dN]
  ·unfold aI
   simp only[List.all_cons,List.all_nil,Bool.and_true]
   refine iq.mpr ⟨fun x hx=>(nomatch hx),fun x hx=>?_⟩
   cases hx
   unfold gM
   rw[if_neg (by decide)]
   unfold aZ at hc
   omega
theorem Mw{f:Nat->Int}{n:Nat}{s:Int}(h:0<n):s<=eW ((List.range n).map f) ↔ ∃ k,k<n/\s<=f k:=by
 have ne:(List.range n).map f≠[]:=by simp;omega
 obtain⟨hm,hu⟩:=lQ ne
 constructor
 ·intro hs
  obtain⟨k,hk,e⟩:=List.mem_map.mp hm
  exact⟨k,List.mem_range.mp hk,by rw[e];exact hs⟩
 ·rintro ⟨k,hk,hs⟩
  have:=hu (f k) (List.mem_map.mpr ⟨k,List.mem_range.mpr hk,rfl⟩)
  omega
theorem xg{f:Nat->Int}{n:Nat}{s:Int}(h:0<n):gH ((List.range n).map f)<=s ↔ ∃ k,k<n/\f k<=s:=by
 have ne:(List.range n).map f≠[]:=by simp;omega
 obtain⟨hm,hu⟩:=Dh ne
 constructor
 ·intro hs
  obtain⟨k,hk,e⟩:=List.mem_map.mp hm
  exact⟨k,List.mem_range.mp hk,by rw[e];exact hs⟩
 ·rintro ⟨k,hk,hs⟩
  have:=hu (f k) (List.mem_map.mpr ⟨k,List.mem_range.mpr hk,rfl⟩)
  omega
theorem D0{cs:List Int}{i j l h:Int}:((fN i j l h).any (aI cs))=true ↔ ∃ a b,a<b/\b<(j+1-i).toNat/\aZ cs i a<=l/\h<=aZ cs i b:=by
 have D1:∀ (a b:Int),aI cs [(("at",a,none,some l):Pa),(("at",b,some h,none):Pa)]=true↔cs.getD a.toNat 0<=l/\h<=cs.getD b.toNat 0:=fun a b=>by
  unfold aI
  simp only[List.all_cons,List.all_nil,Bool.and_true,Bool.and_eq_true,iq]
  unfold gM
  rw[if_neg (by decide),if_neg (by decide)]
  constructor
  ·rintro ⟨⟨y,h1⟩,h2,y⟩
   exact⟨h1 _ rfl,h2 _ rfl⟩
  ·rintro ⟨h1,h2⟩
   refine⟨⟨fun x hx=>(nomatch hx),fun x hx=>?_⟩,fun x hx=>?_,fun x hx=>(nomatch hx)⟩
   ·cases hx;exact h1
   ·cases hx;exact h2
 rw[List.any_eq_true]
 constructor
 ·rintro ⟨ps,ka,hm⟩
  obtain⟨k,hk,p,hp,rfl⟩:=DX ka
  obtain⟨m,xi,rfl⟩:=tL hp
  have:=(D1 _ _).mp hm
  refine⟨k,k+1+m,by omega,by omega,this.1,?_⟩
  unfold aZ
  rw[show i+((k+1+m:Nat):Int)=i+(k:Int)+1+(m:Int) by omega]
  exact this.2
 ·rintro ⟨a,b,lJ,hb,h1,h2⟩
  refine⟨[(("at",i+(a:Int),none,some l):Pa),(("at",i+(a:Int)+1+((b-a-1:Nat):Int),some h,none):Pa)],?_,(D1 _ _).mpr ⟨h1,?_⟩⟩
  ·unfold fN
   refine List.mem_flatMap.mpr ⟨a,List.mem_range.mpr (by omega),List.mem_map.mpr ⟨_,?_,rfl⟩⟩
   unfold bc
   exact List.mem_map.mpr ⟨b-a-1,List.mem_range.mpr (by omega),rfl⟩
  ·unfold aZ at h2
   rw[show i+(a:Int)+1+((b-a-1:Nat):Int)=i+(b:Int) by omega]
   exact h2
theorem Mx{f:Nat->Int}{n:Nat}{l h:Int}:((List.range (n-1)).any fun k=>decide (gH (((List.range n).map f).take (k+1))<=l) && decide (h<=eW (((List.range n).map f).drop (k+1))))=true ↔ ∃ a b,a<b/\b<n/\f a<=l/\h<=f b:=by
 have tk:∀ k,k<n-1->((List.range n).map f).take (k+1)=(List.range (k+1)).map f:=fun k hk=>by
  rw[<- List.map_take,List.take_range,Nat.min_eq_left (by omega)]
 have at_:∀ m x,((List.range n).map f)[m]?=some x->m<n/\x=f m:=fun m x e=>by
  rw[List.getElem?_map] at e
  by_cases hm:m<n
  ·rw[List.getElem?_range hm] at e
   cases e
   exact⟨hm,rfl⟩
  ·rw[List.getElem?_eq_none (by rw[List.length_range];omega)] at e
   cases e
 have len:((List.range n).map f).length=n:=by rw[List.length_map,List.length_range]
 have D2:∀ k,k<n-1->((List.range n).map f).drop (k+1)≠[]:=fun k hk z=>by
  have:=congrArg List.length z
  rw[List.length_drop,len] at this
  simp at this
  omega
 rw[List.any_eq_true]
 constructor
 ·rintro ⟨k,hk,hb⟩
  have hk:=List.mem_range.mp hk
  rw[Bool.and_eq_true,decide_eq_true_eq,decide_eq_true_eq,tk k hk] at hb
  obtain⟨a,ha,h1⟩:=(xg (by omega)).mp hb.1
  obtain⟨hm,y⟩:=lQ (D2 k hk)
  obtain⟨m,hm⟩:=List.mem_iff_getElem?.mp hm
  rw[List.getElem?_drop] at hm
  obtain⟨m1,m2⟩:=at_ _ _ hm
  exact⟨a,k+1+m,by omega,m1,h1,by rw[<- m2];exact hb.2⟩
 ·rintro ⟨a,b,lJ,hb,h1,h2⟩
  have ha:a<n-1:=by omega
  refine⟨a,List.mem_range.mpr ha,?_⟩
  rw[Bool.and_eq_true,decide_eq_true_eq,decide_eq_true_eq,tk a ha]
  refine⟨(xg (by omega)).mpr ⟨a,by omega,h1⟩,?_⟩
  have hm:f b∈((List.range n).map f).drop (a+1):=List.mem_iff_getElem?.mpr ⟨b-(a+1),by
   rw[List.getElem?_drop,show a+1+(b-(a+1))=b by omega,List.getElem?_map,List.getElem?_range hb]
   rfl⟩
  have:=(lQ (D2 a ha)).2 _ hm
  omega
end Gz
namespace Gz
open PySem PySem.Spec PyProof.Rows L2
local macro_rules | `(tactic| walk_at "om") => `(tactic| ((try simp only [PySem.Addr] at *); lia))
structure D3(X:Cx)(x:Str)(scope:Scope)(cl:List (Str × Addr))(fr:List Nat)(ys:List Str):Prop where
 clos:closureFor scope X.env=pure cl
 one:∀ n acc,PySem.cellsFrom n scope.names acc=(x,n)::acc
 push:∀ h,pushCells h scope.names=h.push { cls:=.type "cell",data:=.cell none }
 kind:scope.kind = .function
 names:(scope.names.all fun p=>p.2 != .local || scope.names.lookup p.1 == some .local)=true
 own:scope.names.lookup x=some .cell
 kinds:((relabel scope X.env).names.all fun p=>(p.2 != .cell && p.2 != .free) || p.1 == x || (cl.lookup p.1).isSome)=true
 cls:ig X cl
 aY:fV X scope cl fr ys
 nd:(x::ys).Nodup
 kfr:(ys.all fun y=>(relabel scope X.env).names.lookup y == some .cell)=true
section
variable{X:Cx}{pins:List (Addr × Obj)}{σ:L2.St}{H2:Hp}{s2:Shared}{x:Str}{px pos:Pos}{elt iter:Expr}{ifs:List Expr}{scope:Scope}{cl:List (Str × Addr)}{fr:List Nat}{ys:List Str}{tt:TT}{te:TE}
theorem D3.low(S:D3 X x scope cl fr ys)(I2:Inv X pins σ H2 s2){y:Str}{c:Addr}(e:cl.lookup y=some c):c<s2.heap.objs.size:=by
 obtain⟨v,o,ho,z⟩:=I2.cell y c (S.cls.get y c e)
 exact Heap.lt_size ho
end
end Gz
namespace Gz
open PySem PySem.Spec PyProof.Rows L2
def kc:L2.St->Nat->(V->Prop)->Prop
 | [],_,_=>False
 | x::_,0,Q=>match x with|some v=>Q v|none=>False
 | _::σ,n+1,Q=>kc σ n Q
def cE(x:V)(Q:Int->Prop):Prop:=match x with|.int i=>Q i|_=>False
def l7(x:V)(Q:Bool->Prop):Prop:=match x with|.bl i=>Q i|_=>False
def pP(x:V)(Q:Addr->Prop):Prop:=match x with|.ref i=>Q i|_=>False
def xj(xs:List V)(Q:V->Prop):Prop:=match xs with|[x]=>Q x|_=>False
def xk(xs:List V)(Q:V->V->Prop):Prop:=match xs with|[x,y]=>Q x y|_=>False
def kd(x:V)(Q:Bool->Prop):Prop:=match x with|.non=>Q true|_=>Q false
def jv(x:V)(Q:Bool->Prop):Prop:=match x with|.non=>Q false|_=>Q true
section
variable{v:V}{o:Option V}{σ:L2.St}{n:Nat}{Q:V->Prop}{i:Int}{b:Bool}{a:Addr}{QI:Int->Prop}{QB:Bool->Prop}{QR:Addr->Prop}{x y:V}{Q2:V->V->Prop}
theorem My:kc (some v::σ) 0 Q=Q v:=rfl
theorem Mz:kc (o::σ) (n+1) Q=kc σ n Q:=rfl
theorem MA:cE (.int i) QI=QI i:=rfl
theorem MB:l7 (.bl b) QB=QB b:=rfl
theorem MC:pP (.ref a) QR=QR a:=rfl
theorem MD:xj [x] Q=Q x:=rfl
theorem ME:xk [x,y] Q2=Q2 x y:=rfl
theorem MF:kd .non QB=QB true:=rfl
theorem MG:kd (.int i) QB=QB false:=rfl
theorem MH:kd (.bl b) QB=QB false:=rfl
theorem MI:kd (.ref a) QB=QB false:=rfl
theorem MJ:jv .non QB=QB false:=rfl
theorem MK:jv (.int i) QB=QB true:=rfl
theorem ML:jv (.bl b) QB=QB true:=rfl
theorem MM:jv (.ref a) QB=QB true:=rfl
theorem MN{s:Str}:jv (.str s) QB=QB true:=rfl
theorem MO{s:Str}:kd (.str s) QB=QB false:=rfl
theorem kc.ex:∀ {σ:L2.St} {n:Nat},kc σ n Q->∃ v,σ[n]?=some (some v)/\Q v
 | [],_,h=>h.elim
 | some v::_,0,h=>⟨v,rfl,h⟩
 | none::_,0,h=>h.elim
 | _::σ,n+1,h=>kc.ex (σ:=σ) (n:=n) h
theorem cE.ex(h:cE x QI):∃ i,x = .int i/\QI i:=by cases x<;>first|exact⟨_,rfl,h⟩|exact h.elim
theorem l7.ex(h:l7 x QB):∃ i,x = .bl i/\QB i:=by cases x<;>first|exact⟨_,rfl,h⟩|exact h.elim
theorem pP.ex(h:pP x QR):∃ i,x = .ref i/\QR i:=by cases x<;>first|exact⟨_,rfl,h⟩|exact h.elim
theorem xj.ex{xs:List V}(h:xj xs Q):∃ x,xs=[x]/\Q x:=by
 match xs,h with
 | [x],h=>exact⟨x,rfl,h⟩
theorem xk.ex{xs:List V}(h:xk xs Q2):∃ x y,xs=[x,y]/\Q2 x y:=by
 match xs,h with
 | [x,y],h=>exact⟨x,y,rfl,h⟩
theorem jv.ex(h:jv x QB):QB (!decide (x = .non)):=by cases x<;>exact h
theorem kd.ex(h:kd x QB):QB (decide (x = .non)):=by cases x<;>exact h
end
section
variable{X:Cx}{e a b c:Expr}{pos:Pos}{ta tb tc:TE}{op d7:CmpOp}
def MP(t:TE):TE:=fun σ H Q=>∃ Q':VK,(∀ v H1,Q' v H1->Q v H1)/\t σ H Q'
theorem eI(h:PE X e ta):PE X e (MP ta):=fun pins s σ H Q I ⟨Q',k,q⟩=>aC (h pins s σ H Q' I q) fun _ _ ⟨x,H1,I1,r1,q1⟩=>⟨x,H1,I1,r1,k _ _ q1⟩
theorem pQ{t':TE}(h:PE X e ta)(k:∀ σ H Q,t' σ H Q->ta σ H Q):PE X e t':=fun pins s σ H Q I q=>h pins s σ H Q I (k σ H Q q)
theorem l8{t t':TT}(h:PT X e t)(k:∀ σ H Q,t' σ H Q->t σ H Q):PT X e t':=fun pins s σ H Q I q=>h pins s σ H Q I (k σ H Q q)
theorem xm{f:Value->Value->Sem Value}{r r':R2}(h:bf X f r)(k:∀ x y H Q,r' x y H Q->r x y H Q):bf X f r':=fun pins s σ H x y v u Q I rx ry q=>h pins s σ H x y v u Q I rx ry (k _ _ _ _ q)
def D4(i:Nat):TE:=fun σ H Q=>kc σ i fun v=>Q v H
theorem aa(i:Nat){x:Str}{pos:Pos}(hN:X.N[i]?=some x:=by rfl)(hv:rO X.env.scope x:=by first|exact Or.inl rfl|exact Or.inr (Or.inl rfl)|exact Or.inr (Or.inr rfl))(hd:(x == ("__debug__" : Str))=false:=by decide)
 (fg:(x == ("__classdict__" : Str))=false:=by decide):PE X (.Name x pos) (D4 i):=pQ (pv i hN hv hd fg) fun y y y h=>h.ex
def pR(C:Int->Int->Prop)(g:Int->Int->V):R2:=fun x y H Q=>cE x fun i=>cE y fun j=>C i j/\Q (g i j) H
def tN(g:Int->Int->V):R2:=fun x y H Q=>cE x fun i=>cE y fun j=>Q (g i j) H
def xp(g:Int->V):V->Hp->VK->Prop:=fun x H Q=>cE x fun i=>Q (g i) H
def xq(p:Int->Int->Prop)[∀ i j,Decidable (p i j)]:R2:=fun x y H Q=>cE x fun i=>cE y fun j=>if p i j then Q (.bl true) H else Q (.bl false) H
theorem xr{f:Value->Value->Sem Value}{C:Int->Int->Prop}{g:Int->Int->V}(h:bf X f (rI C g)):bf X f (pR C g):=xm h fun x y H Q q=>by
 obtain⟨i,rfl,q1⟩:=cE.ex q
 obtain⟨j,rfl,q5⟩:=cE.ex q1
 exact⟨i,j,rfl,rfl,q5⟩
theorem gN{f:Value->Value->Sem Value}{g:Int->Int->V}(h:bf X f (fG g)):bf X f (tN g):=xm h fun x y H Q q=>by
 obtain⟨i,rfl,q1⟩:=cE.ex q
 obtain⟨j,rfl,q5⟩:=cE.ex q1
 exact⟨i,j,rfl,rfl,q5⟩
theorem xt{f:Value->Value->Sem Value}{p:Int->Int->Prop}[∀ i j,Decidable (p i j)](h:bf X f (fG fun i j=>.bl (decide (p i j)))):bf X f (xq p):=xm h fun x y H Q q=>by
 obtain⟨i,rfl,q1⟩:=cE.ex q
 obtain⟨j,rfl,q5⟩:=cE.ex q1
 clear q q1
 refine⟨i,j,rfl,rfl,?_⟩
 by_cases z:p i j
 ·rw[if_pos z] at q5;show Q (.bl (decide (p i j))) H;rw[decide_eq_true z];exact q5
 ·rw[if_neg z] at q5;show Q (.bl (decide (p i j))) H;rw[decide_eq_false z];exact q5
theorem MQ{f:Value->Sem Value}{g:Int->V}(h:m5 X f (rU g)):m5 X f (xp g):=fun pins s σ H x v Q I rx q=>h pins s σ H x v Q I rx q.ex
theorem a9:bf X (binaryOp .Add) (tN fun i j=>.int (i+j)):=gN IW
theorem dD:bf X (binaryOp .Sub) (tN fun i j=>.int (i-j)):=gN IX
theorem pS:bf X (binaryOp .Mod) (pR (fun y j=>0<j) fun i j=>.int (i % j)):=xr IY
theorem xu:bf X (binaryOp .Mult) (pR pf fun i j=>.int (i * j)):=xr Ki
theorem nK:bf X (binaryOp .Mult) (pR jq fun i j=>.int (i * j)):=xr LY
theorem ke:m5 X (unaryOp .USub) (xp fun i=>.int (-i)):=MQ I0
def D5(t:TE):TT:=fun σ H Q=>t σ H fun x H'=>l7 x fun k=>Q k H'
theorem d9(h:PE X e ta)(he:∀ whole,isTrue e X.env whole=(do let v <- whole;standAt e.pos;holding [v] (truthy v)):=by intro y;rfl):PT X e (D5 ta):=l8 (Ir (eI h) he) fun σ H Q q=>⟨_,fun y y h=>h.ex,q⟩
def nM(p:Int->Int->Prop)[∀ i j,Decidable (p i j)](ta tb:TE):TT:=fun σ H Q=>ta σ H fun x H1=>tb σ H1 fun y H2=>cE x fun i=>cE y fun j=>if p i j then Q true H2 else Q false H2
theorem D6{p:Int->Int->Prop}[∀ i j,Decidable (p i j)]{x y:V}{H:Hp}{Q:Bool->Hp->Prop}(q:cE x fun i=>cE y fun j=>if p i j then Q true H else Q false H):xq p x y H (fun z H'=>∃ k,z = .bl k/\Q k H'):=by
 obtain⟨i,rfl,q1⟩:=cE.ex q
 obtain⟨j,rfl,q5⟩:=cE.ex q1
 clear q q1
 by_cases z:p i j
 ·rw[if_pos z] at q5;exact (show _=_ from if_pos z).mpr ⟨_,rfl,q5⟩
 ·rw[if_neg z] at q5;exact (show _=_ from if_neg z).mpr ⟨_,rfl,q5⟩
theorem tO{p:Int->Int->Prop}[∀ i j,Decidable (p i j)](ho:bf X (compareOp op) (fG fun i j=>.bl (decide (p i j))))(ha:PE X a ta)(hb:PE X b tb)(hm:behindInMarks op b=false):PT X (.Compare a [op] [b] pos) (nM p ta tb) :=
 l8 (si (xt ho) (eI ha) (eI hb) hm) fun σ H Q q=>⟨_,fun x H1 q1=>⟨_,fun y H2 q2=>D6 q2,q1⟩,q⟩
theorem tP(ha:PE X a ta)(hb:PE X b tb):PT X (.Compare a [.Lt] [b] pos) (nM (fun i j=>i<j) ta tb):=tO o3 ha hb (cQ _)
theorem D7(ha:PE X a ta)(hb:PE X b tb):PT X (.Compare a [.LtE] [b] pos) (nM (fun i j=>i<=j) ta tb):=tO fj ha hb (cQ _)
theorem nN(ha:PE X a ta)(hb:PE X b tb):PT X (.Compare a [.Gt] [b] pos) (nM (fun i j=>j<i) ta tb):=tO vt ha hb (cQ _)
theorem tQ(ha:PE X a ta)(hb:PE X b tb):PT X (.Compare a [.GtE] [b] pos) (nM (fun i j=>j<=i) ta tb):=tO vv ha hb (cQ _)
def eqT(x y:V)(Q:Bool->Prop):Prop:=match x with
 | .int i=>(match y with|.int j=>if i=j then Q true else Q false|.non=>Q false|.str _=>Q false|_=>False)
 | .str i=>(match y with|.str j=>if i=j then Q true else Q false|.non=>Q false|.int _=>Q false|_=>False)
 | .bl i=>(match y with|.bl j=>if i=j then Q true else Q false|.non=>Q false|_=>False)
 | .non=>(match y with|.non=>Q true|.int _=>Q false|.bl _=>Q false|.str _=>Q false|_=>False)
 | _=>False
def neT(x y:V)(Q:Bool->Prop):Prop:=match x with
 | .int i=>(match y with|.int j=>if ¬ i=j then Q true else Q false|.non=>Q true|.str _=>Q true|_=>False)
 | .str i=>(match y with|.str j=>if ¬ i=j then Q true else Q false|.non=>Q true|.int _=>Q true|_=>False)
 | .bl i=>(match y with|.bl j=>if ¬ i=j then Q true else Q false|.non=>Q true|_=>False)
 | .non=>(match y with|.non=>Q false|.int _=>Q true|.bl _=>Q true|.str _=>Q true|_=>False)
 | _=>False
section
variable{i j:Int}{x y:V}{s t:Str}{b' b1:Bool}{Q:Bool->Prop}
theorem MR:eqT (.int i) (.int j) Q=if i=j then Q true else Q false:=rfl
theorem MS:eqT (.str s) (.str t) Q=if s=t then Q true else Q false:=rfl
theorem MT:eqT (.bl b') (.bl b1) Q=if b'=b1 then Q true else Q false:=rfl
theorem MU:eqT .non .non Q=Q true:=rfl
theorem MV:eqT .non (.int j) Q=Q false:=rfl
theorem MW:eqT (.int i) .non Q=Q false:=rfl
theorem MX:eqT (.int i) (.str s) Q=Q false:=rfl
theorem MY:eqT .non (.str s) Q=Q false:=rfl
theorem MZ:neT (.int i) (.int j) Q=if ¬ i=j then Q true else Q false:=rfl
theorem M0:neT (.str s) (.str t) Q=if ¬ s=t then Q true else Q false:=rfl
theorem M1:neT .non .non Q=Q false:=rfl
theorem M3:neT .non (.int j) Q=Q true:=rfl
theorem M4:neT (.int i) .non Q=Q true:=rfl
theorem D8{c:Prop}[Decidable c]{Q:Bool->Prop}(q:if c then Q true else Q false):Q (decide c):=by
 by_cases z:c
 ·rw[if_pos z] at q;rw[decide_eq_true z];exact q
 ·rw[if_neg z] at q;rw[decide_eq_false z];exact q
theorem eqT.ex(h:eqT x y Q):ji x y=true/\Q (decide (x=y)):=by
 cases x<;>cases y<;>first
  | exact h.elim
  | exact⟨rfl,h⟩
  | (refine⟨rfl,?_⟩;have:=D8 h;simpa using this)
theorem neT.ex(h:neT x y Q):ji x y=true/\Q (!decide (x=y)):=by
 cases x<;>cases y<;>first
  | exact h.elim
  | exact⟨rfl,h⟩
  | (refine⟨rfl,?_⟩;have:=D8 h;simpa using this)
end
def D9(ta tb:TE):TT:=fun σ H Q=>ta σ H fun x H1=>tb σ H1 fun y H2=>eqT x y fun k=>Q k H2
def Ea(ta tb:TE):TT:=fun σ H Q=>ta σ H fun x H1=>tb σ H1 fun y H2=>neT x y fun k=>Q k H2
theorem aP(ha:PE X a ta)(hb:PE X b tb):PT X (.Compare a [.Eq] [b] pos) (D9 ta tb) :=
 l8 (si jY (eI ha) (eI hb) (cQ _)) fun σ H Q q=>⟨_,fun x H1 q1=>⟨_,fun y H2 q2=>⟨(eqT.ex q2).1,_,rfl,(eqT.ex q2).2⟩,q1⟩,q⟩
theorem tR(ha:PE X a ta)(hb:PE X b tb):PT X (.Compare a [.NotEq] [b] pos) (Ea ta tb) :=
 l8 (si BS (eI ha) (eI hb) (cQ _)) fun σ H Q q=>⟨_,fun x H1 q1=>⟨_,fun y H2 q2=>⟨(neT.ex q2).1,_,rfl,(neT.ex q2).2⟩,q1⟩,q⟩
def Eb(ta:TE):TT:=fun σ H Q=>ta σ H fun x H1=>kd x fun k=>Q k H1
def Ec(ta:TE):TT:=fun σ H Q=>ta σ H fun x H1=>jv x fun k=>Q k H1
theorem nO{j pos'}(ha:PE X a ta):PT X (.Compare a [.Is] [.Constant .none j pos'] pos) (Eb ta):=l8 (rP (vg (eI ha))) fun σ H Q q=>⟨_,fun x H1 q1=>⟨_,rfl,q1.ex⟩,q⟩
theorem Ed{j pos'}(ha:PE X a ta):PT X (.Compare a [.IsNot] [.Constant .none j pos'] pos) (Ec ta):=l8 (rP (oP (eI ha))) fun σ H Q q=>⟨_,fun x H1 q1=>⟨_,rfl,jv.ex q1⟩,q⟩
def Ee(p q:Int->Int->Prop)[∀ i j,Decidable (p i j)][∀ i j,Decidable (q i j)](ta tb tc:TE):TT:=fun σ H Q=>ta σ H fun x H1=>tb σ H1 fun y H2=>cE x fun i=>cE y fun j=>if p i j then (tc σ H2 fun z H3=>cE z fun k=>if q j k then Q true H3 else Q false H3) else Q false H2
theorem M5{p q:Int->Int->Prop}[∀ i j,Decidable (p i j)][∀ i j,Decidable (q i j)](ho:bf X (compareOp op) (fG fun i j=>.bl (decide (p i j))))(cJ:bf X (compareOp d7) (fG fun i j=>.bl (decide (q i j))))(ha:PE X a ta)(hb:PE X b tb)(hc:PE X c tc)
 (hm:lastMarks [op,d7] [b,c]=false:=by with_unfolding_all rfl):PT X (.Compare a [op,d7] [b,c] pos) (Ee p q ta tb tc) :=
 l8 (Jc (xt ho) (xt cJ) (eI ha) (eI hb) (eI hc) hm) fun σ H Q q=>⟨_,fun x H1 q1=>⟨_,fun y H2 q2=>by
  obtain⟨i,rfl,q3⟩:=cE.ex q2
  obtain⟨j,rfl,q5⟩:=cE.ex q3
  clear q2 q3
  by_cases z:p i j
  ·rw[if_pos z] at q5
   exact (show _=_ from if_pos z).mpr ⟨_,rfl,_,fun w' H4 q4=>by
    obtain⟨k,rfl,v⟩:=cE.ex q4
    exact D6 (x:=.int j) q4,q5⟩
  ·rw[if_neg z] at q5
   exact (show _=_ from if_neg z).mpr ⟨_,rfl,⟨_,rfl,q5⟩⟩,q1⟩,q⟩
variable{rest:List Expr}
def Ef(ta tb:TE):TE:=fun σ H Q=>ta σ H fun x H1=>l7 x fun c=>if c=true then tb σ H1 Q else Q (.bl false) H1
def Eg(ta tb:TE):TE:=fun σ H Q=>ta σ H fun x H1=>l7 x fun c=>if c=true then Q (.bl true) H1 else tb σ H1 Q
def Eh(ta:TE):TE:=fun σ H Q=>ta σ H fun x H1=>l7 x fun c=>Q (.bl (!c)) H1
theorem gO(ha:PE X a ta)(hb:PE X (.BoolOp .And (b::rest) pos) tb):PE X (.BoolOp .And (a::b::rest) pos) (Ef ta tb):=pQ (Iu (eI ha) hb) fun σ H Q q=>⟨_,fun x H1 q1=>q1.ex,q⟩
theorem kf(ha:PE X a ta)(hb:PE X (.BoolOp .Or (b::rest) pos) tb):PE X (.BoolOp .Or (a::b::rest) pos) (Eg ta tb):=pQ (Iv (eI ha) hb) fun σ H Q q=>⟨_,fun x H1 q1=>q1.ex,q⟩
theorem tS(ha:PE X a ta):PE X (.UnaryOp .Not a pos) (Eh ta):=pQ (Iw (eI ha)) fun σ H Q q=>⟨_,fun x H1 q1=>q1.ex,q⟩
def Ei(K:PySem.W.Frag)(ta:TE)(f:Str):TE:=fun σ H Q=>ta σ H fun x H1=>pP x fun a=>∃ C dx fs,H1 a=some (.ins C dx fs)/\br K C/\bB K C f/\∃ v,fs.lookup f=some v/\Q v H1
theorem bH{f:Str}{K:PySem.W.Frag}(hK:X.K=K)(he:PE X e ta)(hb:attributeBase e f X.env (eval e X.env)=eval e X.env):PE X (.Attribute e f pos) (Ei K ta f):=by
 subst hK
 exact pQ (Jr (eI he) hb) fun σ H Q q=>⟨_,fun x H1 q1=>by
  obtain⟨a,rfl,C,dx,fs,h1,h2,h3,v,h4,q2⟩:=q1.ex
  exact⟨a,C,dx,fs,v,rfl,h1,h2,h3,h4,q2⟩,q⟩
def Ej(K:PySem.W.Frag)(ta tv:TE)(f:Str):TS:=fun D σ H=>tv σ H fun y H1=>ta σ H1 fun x H2=>pP x fun a=>∃ C dx fs,H2 a=some (.ins C dx fs)/\br K C/\bB K C f/\fs.length<1000 /\
 D.nx σ (upd H2 a (.ins C dx (eM f y fs)))
theorem gP{o value:Expr}{f:Str}{pos':Pos}{tv:TE}(ha:PE X o ta)(hv:PE X value tv)(hs:swapsWith value (some (.Attribute o f pos')) pos.line X.env=pure false):PS X (.Assign [.Attribute o f pos'] value pos) (Ej X.K ta tv f):=fun pins s σ H D I h =>
 Js (eI ha) (eI hv) hs pins s σ H D I ⟨_,fun y H1 q1=>⟨_,fun x H2 q2=>by
  obtain⟨a,rfl,C,dx,fs,h⟩:=q2.ex
  exact⟨a,C,dx,fs,rfl,h⟩,q1⟩,h⟩
end
end Gz
namespace Gz
open PySem PySem.Spec PyProof.Rows L2
section
variable{X:Cx}{K:PySem.W.Frag}{a b e:Expr}{es:List Expr}{ta tb:TE}{t:TA}{pos p:Pos}
theorem aw(ha:PE X a ta)(hb:PE X b tb)(hs:vJ b:=by exact fun y y=>rfl):PE X (.Subscript a b pos) (jW (lE X.K) ta tb):=Ck Cp ha hb hs
theorem gf(ha:PE X a ta)(hb:PE X b tb)(h:X.K=K:=by rfl)(hs:vJ b:=by exact fun y y=>rfl):PE X (.Subscript a b pos) (jW (lE K) ta tb):=Ck (Lu h) ha hb hs
end
end Gz
namespace Gz
open PySem PySem.Spec PyProof.Rows L2
structure Fn(K:PySem.W.Frag)(mg:Str->Option Value)(x:Str)(st:Stmt)(ps:List Str) where
 a:Addr
 fd:FuncData
 F:iL K x x st a fd
 m:mg x=some (.ref a)
 b:Binds K fd ps []
structure Fm(K:PySem.W.Frag)(x q:Str)(st:Stmt)(ps:List Str) where
 a:Addr
 fd:FuncData
 F:iL K x q st a fd
 b:Binds K fd ps []
inductive FA(K:PySem.W.Frag)(x q:Str)(st:Stmt)(f:Addr):Prop
 | mk {od an:Option Addr} {sl:Array (Option Value)} {oc kV dc pm cd ct:Value} (_:K.lookup f=some ⟨oc,od,.func (PySem.W.fnOf x q (lH st) (fH st) (cR st) .none kV dc pm an cd ct),sl⟩) (_:PySem.W.codeIn K cd q=true) (_:PySem.W.keepIn K (.ref f)=true)
theorem FA.fn{K:PySem.W.Frag}{x q:Str}{st:Stmt}{f:Addr}(h:FA K x q st f):∃ fd,iL K x q st f fd:=let ⟨l,c,k⟩:=h;⟨_,jm l c k⟩
section
variable{X:Cx}{e:Expr}{es:List Expr}{t:TA}{pos p:Pos}
theorem M6{CX:c9}{k n:Nat}{ps:List Str}{sp:Sp}{x:Str}{st:Stmt}(N:Fn X.K X.mg x st ps)(F:cc X.prog X.w X.K X.mg X.base CX k N.a N.fd ps sp)(hr:ba n X.A)(hx:Passes CX X E0)(ha:PA X (e::es) t)
 (hk:k<=n:=by decide) (hg:Gl X x:=by rfl) (fq:(x == ("__debug__" : Str))=false:=by decide) (he:starEach (e::es) X.env=(false,eval e X.env)::starEach es X.env:=by rfl) (da:(backTo pos (starEach es X.env)).any (·.1)=false:=by rfl) :
 PE X (.Call (.Name x p) (e::es) [] pos) (m7 sp [] E0 t):=fT F (hr.mono hk) hg N.m N.F.kp N.b .nil hx ha fq he da
end
end Gz
namespace Gz
open PySem PySem.Spec PyProof.Rows L2
theorem M7{α:Type}{n:Nat}{p:List α->Prop}(h:∀ u vs,vs.length=n->p (u::vs)):∀ us:List α,us.length=n+1->p us
 | u::vs,e=>h u vs (Nat.succ.inj e)
theorem M8{α:Type}{p:List α->Prop}(h:p []):∀ us:List α,us.length=0->p us
 | [],_=>h
structure Sc(N ps:List Str)(st:Stmt):Prop extends nc N ps (cR st) where
 b:∀ (x q:Str) (kV doc pm:Value) (an:Option Addr) (bh ct:Value) (us:List Value),us.length=ps.length->bindArgs (PySem.W.fnOf x q (lH st) (fH st) (cR st) .none kV doc pm an bh ct) ⟨us,[]⟩=pure (ps.zip us)
section
variable{P:Program}{w:World}{K:PySem.W.Frag}{mg:Str->Option Value}{base h:Heap}{x q:Str}{st:Stmt}{N ps:List Str}{k:Nat}{sp:Sp}{C:Addr}
inductive Fb(K:PySem.W.Frag)(x q:Str)(st:Stmt)(p:Addr->Prop):Prop
 | mk {f:Addr} {od an:Option Addr} {sl:Array (Option Value)} {oc kV dc pm cd ct:Value} (_:p f) (_:K.lookup f=some ⟨oc,od,.func (PySem.W.fnOf x q (lH st) (fH st) (cR st) .none kV dc pm an cd ct),sl⟩) (_:PySem.W.codeIn K cd q=true) (_:PySem.W.keepIn K (.ref f)=true)
def bx(K:PySem.W.Frag)(x:Str)(f:Addr):Prop:=PySem.W.nsIn K mainGlobals x=some (some (.ref f))
def aV(K:PySem.W.Frag)(C:Addr)(x:Str)(f:Addr):Prop:=PySem.W.findIn K (.ref C) x=some (some (.ref f))/\PySem.W.isFn K (.ref f)=true
theorem Fb.fn(b:Fb K x x st (bx K x))(X:K.In h)(G:h.Ns mainGlobals mg)(S:Sc N ps st):Nonempty (Fn K mg x st ps) :=
 let ⟨a,l,c,k⟩:=b;⟨⟨_,_,jm l c k,PySem.W.mg_of X G a,(jm l c k).binds (S.b x x)⟩⟩
theorem Fb.fm(b:Fb K x q st (aV K C x))(S:Sc N ps st):∃ F:Fm K x q st ps,aV K C x F.a :=
 let ⟨a,l,c,k⟩:=b;⟨⟨_,_,jm l c k,(jm l c k).binds (S.b x q)⟩,a⟩
theorem Fn.bt{y:Str}(F:Fn K mg x st [y])(S:Sc N [y] st)(s:Shared)(v:Value):BindsTo s F.fd ⟨[v],[]⟩ [(y,v)]:=by
 obtain⟨oc,od,kV,doc,pm,an,bh,ct,hW,e,lk,fg⟩:=F.F.ex
 rw[e]
 exact .of_eq (S.b _ _ _ _ _ _ _ _ [v] rfl)
abbrev Ok(P:Program)(w:World){K:PySem.W.Frag}{mg:Str->Option Value}(base:Heap)(k:Nat){x:Str}{st:Stmt}{ps:List Str}(F:Fn K mg x st ps)(sp:Sp):Prop:=cc P w K mg base (cW P w) k F.a F.fd ps sp
abbrev Om(P:Program)(w:World){K:PySem.W.Frag}(mg:Str->Option Value)(base:Heap)(k:Nat){x q:Str}{st:Stmt}{ps:List Str}(F:Fm K x q st ps)(sp:Sp):Prop:=cc P w K mg base (cW P w) k F.a F.fd ps sp
theorem bE{F:Fn K mg x st ps}(S:Sc N ps st)
 (fu:∀ (bh:Value) (A:Around) (outer:List Env) (s:Shared) (H:Hp) (vs:List V) (Q:VK) (E:XK),ba k (A.deeper (envOfC x (cR st) s.heap.objs.size F.a bh))->sp vs H Q E ->
   ∃ t,aS (eE (cW P w) P w K mg base N x (cR st) F.a bh A outer s H E).gE (fH st) t/\t { nx:=fun y H'=>Q .non H',rt:=Q } (start N vs) H)
 (len:∀ vs H Q E,sp vs H Q E->vs.length=ps.length:=by intro y y y y h;cases h;subst_vars;rfl):Ok P w base (k+1) F sp:=okN F.F S.1 len fu
theorem kg{F:Fn K mg x st ps}(S:Sc N ps st)
 (fu:∀ (bh:Value) (A:Around) (outer:List Env) (s:Shared) (H:Hp) (vs:List V) (Q:VK) (E:XK),ba k (A.deeper (envOfC x (cR st) s.heap.objs.size F.a bh))->sp vs H Q E ->
   ∃ t,aS (eE (cW P w) P w K mg base N x (cR st) F.a bh A outer s H E) (fH st) t/\t { nx:=fun y H'=>Q .non H',rt:=Q } (start N vs) H)
 (len:∀ vs H Q E,sp vs H Q E->vs.length=ps.length:=by intro y y y y h;cases h;subst_vars;rfl):Ok P w base (k+1) F sp:=ie F.F S.1 len fu
theorem cH{F:Fm K x q st ps}(S:Sc N ps st)
 (fu:∀ (bh:Value) (A:Around) (outer:List Env) (s:Shared) (H:Hp) (vs:List V) (Q:VK) (E:XK),ba k (A.deeper (envOfC q (cR st) s.heap.objs.size F.a bh))->sp vs H Q E ->
   ∃ t,aS (eE (cW P w) P w K mg base N q (cR st) F.a bh A outer s H E).gE (fH st) t/\t { nx:=fun y H'=>Q .non H',rt:=Q } (start N vs) H)
 (len:∀ vs H Q E,sp vs H Q E->vs.length=ps.length:=by intro y y y y h;cases h;subst_vars;rfl):Om P w mg base (k+1) F sp:=okN F.F S.1 len fu
theorem kh{F:Fm K x q st ps}(S:Sc N ps st)
 (fu:∀ (bh:Value) (A:Around) (outer:List Env) (s:Shared) (H:Hp) (vs:List V) (Q:VK) (E:XK),ba k (A.deeper (envOfC q (cR st) s.heap.objs.size F.a bh))->sp vs H Q E ->
   ∃ t,aS (eE (cW P w) P w K mg base N q (cR st) F.a bh A outer s H E) (fH st) t/\t { nx:=fun y H'=>Q .non H',rt:=Q } (start N vs) H)
 (len:∀ vs H Q E,sp vs H Q E->vs.length=ps.length:=by intro y y y y h;cases h;subst_vars;rfl):Om P w mg base (k+1) F sp:=ie F.F S.1 len fu
end
section
variable{X:Cx}{x:Str}{e:Expr}{es:List Expr}{te:TE}{t:TA}{p pos pos':Pos}
theorem aN(i:Nat)(hN:X.N.Nodup)(he:PE X e te)(hi:X.N[i]?=some x:=by rfl)(hx:Loc X.env.scope x:=by first|exact Or.inl rfl|exact Or.inr rfl)(hs:swapsWith e (some (.Name x pos')) pos.line X.env=pure false:=by rfl)(hf:X.fn x=true∨X.env.scope.names.lookup x=some .local:=by first|exact .inl rfl|exact .inr rfl) :
 PS X (.Assign [.Name x pos'] e pos) (oQ te (ly i)):=IJ hN hi hx he hs hf
theorem jw(i:Nat)(hN:X.N.Nodup)(hi:X.N[i]?=some x:=by rfl)(hx:Loc X.env.scope x:=by first|exact Or.inl rfl|exact Or.inr rfl)(hf:X.fn x=true∨X.env.scope.names.lookup x=some .local:=by first|exact .inl rfl|exact .inr rfl):PG X (.Name x pos) (ly i):=vj hN hi hx hf
theorem aJ{k n:Nat}{ps:List Str}{sp:Sp}{st:Stmt}{CX:c9}{N:Fn X.K X.mg x st ps}(F:cc X.prog X.w X.K X.mg X.base CX k N.a N.fd ps sp)(hr:ba n X.A)(ha:PA X (e::es) t)(hx:Passes CX X E0:=by exact fI)
 (hk:k<=n:=by decide) (hg:Gl X x:=by rfl) (fq:(x == ("__debug__" : Str))=false:=by decide) (he:starEach (e::es) X.env=(false,eval e X.env)::starEach es X.env:=by rfl) (da:(backTo pos (starEach es X.env)).any (·.1)=false:=by rfl) :
 PE X (.Call (.Name x p) (e::es) [] pos) (m7 sp [] E0 t):=M6 N F hr hx ha hk hg fq he da
end
end Gz
namespace Gz
open PySem PySem.Spec PyProof.Rows L2
theorem _root_.L2.ba.m{j k:Nat}{A:Around}(r:ba k A)(h:j<=k:=by decide):ba j A:=r.mono h
theorem aK{K:PySem.W.Frag}{H:Hp}{p:Addr}{xs:List V}{i:Int}{v:V}{Q:VK}(h:H p=some (.tup xs))(q:Q v H)(e:cD xs i=some v:=by rfl):lE K (.ref p) (.int i) H Q:=aQ (aB.of h) e q
theorem cO{X:Cx}{x:Str}{scope:Scope}{cl:List (Str × Addr)}(fr:List Nat)(ys:List Str)(a:closureFor scope X.env=pure cl:=by rfl)(b:(scope.names.all fun p=>p.2 != .cell)=true:=by decide +kernel)(c:scope.kind = .function:=by rfl)
 (d:(scope.names.all fun p=>p.2 != .local || scope.names.lookup p.1 == some .local)=true:=by decide +kernel) (e:scope.names.lookup x=some .local:=by rfl) (f:((relabel scope X.env).names.all fun p=>(p.2 != .cell && p.2 != .free) || (cl.lookup p.1).isSome)=true:=by rfl)
 (g:ig X cl:=by repeat' first|exact ig.nil|refine ig.cons rfl ?_) (h:fV X scope cl fr ys:=by repeat' first|exact fV.nil|refine fV.cons rfl rfl rfl rfl ?_) (i:(x::ys).Nodup:=by decide) (j:(ys.all fun y=>(relabel scope X.env).names.lookup y == some .cell)=true:=by rfl):lK X x scope cl fr ys:=⟨a,b,c,d,e,f,g,h,i,j⟩
theorem M9{tc:TT}{t u:TS}{D:Ends}{σ:L2.St}{H:Hp}(h:∀ B:TS,B=t->rT tc B u D σ H):rT tc t u D σ H:=h t rfl
noncomputable abbrev aR{N ps:List Str}{st:Stmt}(_:Sc N ps st):List Str:=ps
noncomputable abbrev Fq(K:PySem.W.Frag)(mg:Str->Option Value)(x:Str){N ps:List Str}{st:Stmt}(_:Sc N ps st):=Fn K mg x st ps
abbrev Ek(K:PySem.W.Frag)(x:Str){N ps:List Str}{st:Stmt}(_:Sc N ps st):Prop:=Fb K x x st (bx K x)
abbrev pT(K:PySem.W.Frag)(C:Addr)(x q:Str){N ps:List Str}{st:Stmt}(_:Sc N ps st):Prop:=Fb K x q st (aV K C x)
abbrev ki(K:PySem.W.Frag)(x q:Str){N ps:List Str}{st:Stmt}(_:Sc N ps st)(p:Addr->Prop):Prop:=Fb K x q st p
noncomputable def Ek.c{K:PySem.W.Frag}{mg:Str->Option Value}{h:Heap}{x:Str}{st:Stmt}{N ps:List Str}{S:Sc N ps st}(b:Ek K x S)(X:K.In h)(G:h.Ns mainGlobals mg):Fq K mg x S:=Classical.choice (Fb.fn b X G S)
section
variable{X:Cx}{x:Str}{e:Expr}{es:List Expr}{t:TA}{p pos:Pos}
end
noncomputable abbrev Fy(K:PySem.W.Frag)(_:Addr)(x q:Str){N ps:List Str}{st:Stmt}(_:Sc N ps st):=Fm K x q st ps
noncomputable abbrev Fv(K:PySem.W.Frag)(x q:Str){N ps:List Str}{st:Stmt}(_:Sc N ps st)(_:Addr->Prop):=Fm K x q st ps
section
variable{K:PySem.W.Frag}{C:Addr}{x q y:Str}{N ps:List Str}{st:Stmt}{S:Sc N ps st}{p:Addr->Prop}
theorem Fb.fx(b:Fb K x q st p)(S:Sc N ps st):∃ F:Fm K x q st ps,p F.a :=
 let ⟨a,l,c,k⟩:=b;⟨⟨_,_,jm l c k,(jm l c k).binds (S.b x q)⟩,a⟩
noncomputable def ki.c(b:ki K x q S p):Fv K x q S p:=Classical.choose (Fb.fx b S)
noncomputable def pT.c(b:pT K C x q S):Fy K C x q S:=Classical.choose (Fb.fx b S)
theorem ki.i{b:ki K x q S p}(h:∀ f,p f->aV K C y f):aV K C y (ki.c b).a:=h _ (Classical.choose_spec (Fb.fx b S))
theorem pT.i{b:pT K C x q S}:aV K C x (pT.c b).a:=Classical.choose_spec (Fb.fx b S)
theorem ki.j{b:ki K x q S p}{v u:Value}(h:∀ f,p f->PySem.W.findCls K v u y=some (.val (.ref f))):PySem.W.findCls K v u y=some (.val (.ref (ki.c b).a)):=h _ (Classical.choose_spec (Fb.fx b S))
end
end Gz
namespace Gz
open PySem PySem.Spec PyProof.Rows L2
structure cN(P:Program)(w:World)(K:PySem.W.Frag)(mg:Str->Option Value)(base:Heap)(A:Around)(m:Str)(x:V)(H:Hp)(Q:VK):Prop where
 mk ::
 ex:∃ a C dx fs f k fd ps sp,x = .ref a/\H a=some (.ins C dx fs)/\br K C/\Meth K C m f/\fs.lookup m=none/\cc P w K mg base (cW P w) k f fd ps sp/\ba k A/\Binds K fd ps []/\sp [.ref a] H Q E0
theorem cN.of{P:Program}{w:World}{K:PySem.W.Frag}{mg:Str->Option Value}{base:Heap}{A:Around}{m:Str}{H:Hp}{Q:VK}{a C dx f:Addr}{fs:List (Str × V)}{k n:Nat}{fd:FuncData}{ps:List Str}{sp:Sp}(ha:H a=some (.ins C dx fs))(hc:br K C)(hm:Meth K C m f)(F:cc P w K mg base (cW P w) k f fd ps sp)(hr:ba n A)(hb:Binds K fd ps [])(q:sp [.ref a] H Q E0)(hl:fs.lookup m=none:=by rfl)(hk:k<=n:=by decide):cN P w K mg base A m (.ref a) H Q :=
 ⟨a,C,dx,fs,f,k,fd,ps,sp,rfl,ha,hc,hm,hl,F,hr.mono hk,hb,q⟩
theorem dP{X:Cx}{R:V->Hp->VK->Prop}{m:Str}{o:Expr}{apos pos:Pos}{ta:TE}{pl:Sem Bool}(hR:∀ x H Q,R x H Q->cN X.prog X.w X.K X.mg X.base X.A m x H Q)(he:PE X o ta)
 (ht:eval (.Call (.Attribute o m apos) [] [] pos) X.env=(do
   let ov <- eval o X.env
   standAt apos.atName
   let (f,first) <- holding [ov] (getMethod ov m pl)
   callWith pos f first (backTo pos (starEach [] X.env)) (backToKw pos (keywordEach [] X.env))):=by rfl) :
 PE X (.Call (.Attribute o m apos) [] [] pos) (fun σ H Q=>ta σ H fun x H1=>R x H1 Q):=by
 intro pins s σ H Q I h
 refine PySem.W.methodCall_KW (pl:=pl) (aC (he pins s σ H _ I h) fun u s1 ⟨x,H1,I1,rx,q⟩=>?_) ht
 obtain⟨a,C,dx,fs,f,k,fd,ps,sp,rfl,ea,c,hm,l,F,hr,hb,q⟩:=hR _ _ _ q
 obtain rfl:u=Value.ref a:=rx
 refine sq I1 ea c hm l ?_
 exact PySem.W.callWith_K0 (first:=[.ref a]) I1.bI hm.kp (m8 (us:=[.ref a]) (vs:=[.ref a]) F hr hb .nil fI I1 (.cons rfl .nil) q)
end Gz
namespace Gz
open PySem PySem.Spec PyProof.Rows L2
section
variable{prog:Program}{w:World}{A:Around}{E:Value->Shared->Prop}{s:Shared}{l:Addr}{xs:Array (Int × Tok)}
theorem Na{Q:Value->Shared->Prop}(hh:A.handled=none)(hl:s.heap.IsTuple l (intItems xs))(dM:0<xs.size)
 (h:∀ v h' tk,(intItems xs)[argBest (fun i j=>decide (numAt xs i > numAt xs j)) (xs.size-1)]?=some v->(∀ b o,s.heap.get? b=some o->h'.get? b=some o)->Q v { s with heap:=h',toks:=tk }) :
 wpAny (model prog w) A (call (.builtin "max") [.ref l]) Q E s:=by
 have cw:l<s.heap.objs.size:=by obtain⟨y,e,y⟩:=hl;exact Heap.lt_size e
 refine call_max_walk (wpAny_pyIter_tuple hl ?_)
 refine⟨_,_,_,_,_,_,_,rfl,Walks.tuple (A:=A.in1) hh _ l (Nat.ne_of_lt cw) (intItems xs),⟨⟨_,Heap.get?_push_size _ rfl,rfl,rfl⟩,hl.push _⟩,(fun b hb=>?_),by simpa [intItems] using dM,CmpOf.ints_gt (numAt xs) (fun y y=>intItems_at),fun v h' tk hP hk=>?_⟩
 ·show b<(s.heap.push _).objs.size
  rw[Heap.size_push]
  rcases List.mem_cons.mp hb with rfl|hb
  ·exact Nat.lt_succ_self _
  ·rcases List.mem_cons.mp hb with rfl|hb
   ·exact Nat.lt_succ_of_lt cw
   ·cases hb
 ·refine h v h' tk (by simpa [intItems] using hP) fun b o e=>hk b o (fun hm=>?_) (Heap.get?_push_of_some _ e)
  rcases List.mem_cons.mp hm with e1|hm
  ·exact absurd (e1 ▸ Heap.lt_size e) (Nat.lt_irrefl _)
  ·cases hm
end
theorem xw{X:Cx}(hc:X.calm=true):eL X (.builtin "max") (fun xs H Q=>∃ a ns,xs=[.ref a]/\aB X.K H a (ns.map V.int)/\ns≠[]/\Q (.int (eW ns)) H):=by
 intro pins s σ H xs us Q I r h
 obtain⟨a,ns,rfl,hS,dM,q⟩:=h
 obtain⟨u,rfl,ru⟩:=vals1 r
 cases ru
 obtain⟨av,rv,hp,y⟩:=I.tuple hS
 obtain⟨xs,e1,e2⟩:=sR rv
 rw[e1] at hp
 have len:xs.size=ns.length:=by rw[<- e2,List.length_map];simp
 have d8:0<xs.size:=by rw[len];exact List.length_pos_iff.mpr dM
 refine Na (I.ok.hd hc) hp d8 fun v h' tk hv hk=>⟨.int (eW ns),H,I.kept hk,?_,q⟩
 obtain⟨t,rfl⟩:=intItems_at hv
 exact⟨t,by rw[Dk e2 d8]⟩
end Gz
namespace Gz
open PySem PySem.Spec PyProof.Rows L2
section
variable{X:Cx}
theorem El:∀ {ss:List Str} {av:List Value},Vals (ss.map V.str) av->CarriedAll av (ss.map PyData.str)
 | [],_,r=>by cases r;exact .nil
 | s::ss,_,r=>by
  cases r with
  | cons r1 r2 =>
   obtain⟨t,rfl⟩:=r1
   exact .cons (.str _ _) (El r2)
end
end Gz
namespace Gz
open PySem PySem.Spec PyProof.Rows L2 Builtin Builtin.Str StrLaws
noncomputable def eX(c:Nat):Nat->List Nat->List Nat
 | _,[]=>[]
 | i,x::xs=>if x=c then i::eX c (i+1) xs else eX c (i+1) xs
noncomputable def gg(c:Nat):List Nat->List (List Nat)
 | []=>[[]]
 | x::xs=>if x=c then []::gg c xs else match gg c xs with
  | []=>[[x]]
  | w::ws=>(x::w)::ws
theorem Em(c:Nat):∀ l,∃ w ws,gg c l=w::ws
 | []=>⟨_,_,rfl⟩
 | x::xs=>by
  obtain⟨w,ws,e⟩:=Em c xs
  unfold gg
  rw[e]
  split
  ·exact⟨_,_,rfl⟩
  ·exact⟨_,_,rfl⟩
theorem subAt_one(s:PySem.Str)(c i:Nat)(h:i<s.cps.toList.length):subAt s ⟨#[c]⟩ i=decide (s.cps.toList[i]=c):=by
 have hi:i<s.cps.size:=by simpa using h
 have e:s.cps.extract i (i+1) = #[s.cps[i]]:=by
  apply Array.ext
  ·simp;omega
  ·intro j h1 h2
   have:j=0:=by simp at h2;omega
   subst this
   simp
 show (s.cps.extract i (i+1) == #[c])=_
 rw[e]
 have ee:s.cps.toList[i]=s.cps[i]:=by simp
 rw[ee]
 by_cases q:s.cps[i]=c
 ·rw[q];simp
 ·rw[decide_eq_false q]
  have:¬ (#[s.cps[i]] == #[c])=true:=by
   intro z
   have:=eq_of_beq z
   simp at this
   exact q this
  exact Bool.eq_false_iff.mpr this
theorem Nb(s:PySem.Str)(c:Nat)(l:List Nat)(hl:s.cps.toList=l):∀ (n i:Nat) (acc:Array Nat) (free:Nat),i+n=l.length+1->free<=i->acc.size<=i ->
 (forIn (List.range' i n) (acc,free) (occBody s ⟨#[c]⟩ l.length (l.length+1))).run.fst.toList=acc.toList++eX c i (l.drop i):=by
 intro n
 induction n with
 | zero =>
  intro i acc free hi hf ha
  rw[List.drop_eq_nil_of_le (by omega)]
  simp[eX]
 | succ n ih =>
  intro i acc free hi hf ha
  rw[List.range'_succ,List.forIn_cons]
  by_cases h:i<l.length
  ·have hc:l.drop i=l[i]::l.drop (i+1):=List.drop_eq_getElem_cons h
   have hs:subAt s ⟨#[c]⟩ i=decide (l[i]=c):=by
    subst hl
    exact subAt_one s c i h
   rw[hc]
   by_cases q:l[i]=c
   ·have e:occBody s ⟨#[c]⟩ l.length (l.length+1) i (acc,free)=pure (ForInStep.yield (acc.push i,i+1)):=by
     unfold occBody
     rw[if_pos]
     ·rfl
     ·refine⟨⟨⟨?_,hf⟩,?_⟩,?_⟩
      ·show acc.size<l.length+1
       omega
      ·show i+1<=l.length
       omega
      ·rw[hs];exact decide_eq_true q
    rw[e]
    show (Id.run (forIn (m:=Id) (List.range' (i+1) n) (acc.push i,i+1) (occBody s ⟨#[c]⟩ l.length (l.length+1)))).fst.toList=_
    rw[ih (i+1) (acc.push i) (i+1) (by omega) (Nat.le_refl _) (by simp;omega)]
    simp[eX,q]
   ·have e:occBody s ⟨#[c]⟩ l.length (l.length+1) i (acc,free)=pure (ForInStep.yield (acc,free)):=by
     unfold occBody
     rw[if_neg]
     rintro ⟨y,z⟩
     rw[hs] at z
     exact q (of_decide_eq_true z)
    rw[e]
    show (Id.run (forIn (m:=Id) (List.range' (i+1) n) (acc,free) (occBody s ⟨#[c]⟩ l.length (l.length+1)))).fst.toList=_
    rw[ih (i+1) acc free (by omega) (by omega) (by omega)]
    simp[eX,q]
  ·have e:occBody s ⟨#[c]⟩ l.length (l.length+1) i (acc,free)=pure (ForInStep.yield (acc,free)):=by
    unfold occBody
    rw[if_neg]
    rintro ⟨⟨y,z⟩,y⟩
    have z':i+1<=l.length:=z
    omega
   rw[e]
   show (Id.run (forIn (m:=Id) (List.range' (i+1) n) (acc,free) (occBody s ⟨#[c]⟩ l.length (l.length+1)))).fst.toList=_
   rw[ih (i+1) acc free (by omega) (by omega) (by omega),List.drop_eq_nil_of_le (by omega),List.drop_eq_nil_of_le (by omega)]
   rfl
theorem Eo(s:PySem.Str)(c:Nat):occurrences s ⟨#[c]⟩ 0 s.length (s.length+1)=eX c 0 s.cps.toList:=by
 rw[occ_eq]
 have hl:s.length=s.cps.toList.length:=by show s.cps.size=_;simp
 rw[hl]
 rw[Nb s c s.cps.toList rfl _ 0 #[] 0 (by omega) (Nat.le_refl _) (Nat.le_refl _)]
 simp
noncomputable def gh(l:List Nat)(i j:Nat):List Nat:=(l.take j).drop i
theorem Nc(c:Nat)(l:List Nat):∀ (r:List Nat) (a i:Nat),l.drop i=r->a<=i->i<=l.length ->
 ∃ w ws,gg c r=w::ws/\((a::(eX c i r).map (· + 1)).zip (eX c i r++[l.length])).map (fun p=>gh l p.1 p.2)=(gh l a i++w)::ws:=by
 intro r
 induction r with
 | nil =>
  intro a i hr ha hi
  have hL:l.length<=i:=List.drop_eq_nil_iff.mp hr
  have:i=l.length:=by omega
  exact⟨[],[],rfl,by simp[eX,this]⟩
 | cons x xs ih =>
  intro a i hr ha hi
  have h:i<l.length:=by
   rcases Nat.lt_or_ge i l.length with z|z
   ·exact z
   ·rw[List.drop_eq_nil_of_le z] at hr;cases hr
  have hc:=List.drop_eq_getElem_cons h
  rw[hr] at hc
  obtain⟨ex,exs⟩:=List.cons.inj hc
  by_cases q:x=c
  ·obtain⟨w,ws,e1,e2⟩:=ih (i+1) (i+1) exs.symm (Nat.le_refl _) (by omega)
   refine⟨[],w::ws,?_,?_⟩
   ·show (if x=c then []::gg c xs else _)=_
    rw[if_pos q,e1]
   ·have eC:eX c i (x::xs)=i::eX c (i+1) xs:=by show (if x=c then _ else _)=_;rw[if_pos q]
    rw[eC]
    show gh l a i::((((i+1)::(eX c (i+1) xs).map (· + 1)).zip (eX c (i+1) xs++[l.length])).map (fun p=>gh l p.1 p.2))=_
    rw[e2]
    have z:gh l (i+1) (i+1)=[]:=by unfold gh;rw[List.drop_eq_nil_iff];simp;omega
    rw[z]
    simp
  ·obtain⟨w,ws,e1,e2⟩:=ih a (i+1) exs.symm (by omega) (by omega)
   refine⟨x::w,ws,?_,?_⟩
   ·show (if x=c then _ else match gg c xs with|[]=>[[x]]|w::ws=>(x::w)::ws)=_
    rw[if_neg q,e1]
   ·have eC:eX c i (x::xs)=eX c (i+1) xs:=by show (if x=c then _ else _)=_;rw[if_neg q]
    rw[eC,e2]
    have z:gh l a (i+1)=gh l a i++[x]:=by
     unfold gh
     rw[List.take_succ,List.getElem?_eq_getElem h,<- ex,List.drop_append_of_le_length (by simp;omega)]
     rfl
    rw[z]
    simp
noncomputable def jy(l:List Nat):PySem.Str:=⟨l.toArray⟩
theorem Ep(x:PySem.Str)(c:Nat)(hc:c<256):Txt.split x ⟨#[c]⟩=(gg c x.cps.toList).map jy:=by
 have hp:partsBetween x (occurrences x ⟨#[c]⟩ 0 x.length (x.length+1)) 1=(gg c x.cps.toList).map jy:=by
  rw[Eo]
  obtain⟨w,ws,e1,e2⟩:=Nc c x.cps.toList x.cps.toList 0 0 rfl (Nat.le_refl _) (Nat.zero_le _)
  rw[e1]
  have z:gh x.cps.toList 0 0=[]:=by simp[gh]
  rw[z,List.nil_append] at e2
  rw[<- e2,List.map_map]
  unfold partsBetween
  have hl:x.length=x.cps.toList.length:=by show x.cps.size=_;simp
  rw[hl]
  apply List.map_congr_left
  rintro ⟨i,j⟩ _
  show strSub x i j=jy (gh x.cps.toList i j)
  unfold strSub jy gh
  congr 1
  apply Array.ext'
  simp[List.drop_take]
 unfold Txt.split
 have hk:¬ strKind x<strKind (⟨#[c]⟩:PySem.Str):=by
  have a:strKind (⟨#[c]⟩:PySem.Str)=1:=by unfold Builtin.Str.strKind;simp[hc]
  have b:1<=strKind x:=by unfold Builtin.Str.strKind;split;exact Nat.le_refl _;split<;>decide
  omega
 have one:∀ (h:occurrences x ⟨#[c]⟩ 0 x.length (x.length+1)=[]),[x]=(gg c x.cps.toList).map jy:=by
  intro h
  rw[<- hp,h]
  unfold partsBetween
  have:strSub x 0 x.length=x:=by unfold strSub;cases x;simp[Str.length]
  simp[this]
 split
 ·rename_i h
  have h':x.length<1:=by
   rcases (Bool.or_eq_true _ _).mp h with z|z
   ·exact of_decide_eq_true z
   ·exact absurd (of_decide_eq_true z) hk
  have hn:x.cps.toList=[]:=by
   have:x.cps.size<1:=h'
   apply List.eq_nil_of_length_eq_zero
   rw[Array.length_toList];omega
  refine one ?_
  rw[Eo,hn]
  rfl
 ·split
  ·rename_i h
   exact one (List.isEmpty_iff.mp h)
  ·exact hp
noncomputable def l9(c:Nat):List (List Nat)->List Nat
 | []=>[]
 | [w]=>w
 | w::v::ws=>w++c::l9 c (v::ws)
theorem Er(c:Nat):∀ (ws:List PySem.Str) (a:Array Nat),(ws.foldl (fun acc p=>acc++(⟨#[c]⟩:PySem.Str).cps++p.cps) a).toList=a.toList++(ws.map fun w=>c::w.cps.toList).flatten
 | [],a=>by simp
 | w::ws,a=>by
  rw[List.foldl_cons,Er c ws]
  simp
theorem Es(c:Nat):∀ (w:List Nat) (ws:List (List Nat)),l9 c (w::ws)=w++(ws.map fun v=>c::v).flatten
 | w,[]=>by simp[l9]
 | w,v::ws=>by
  show w++c::l9 c (v::ws)=_
  rw[Es c v ws]
  simp
theorem Nd(c:Nat)(ws:List PySem.Str):(Txt.join ⟨#[c]⟩ ws).cps.toList=l9 c (ws.map fun w=>w.cps.toList):=by
 cases ws with
 | nil=>rfl
 | cons w ws =>
  show (glued ⟨#[c]⟩ (w::ws)).cps.toList=_
  unfold glued
  show ((ws.foldl (fun acc p=>acc++(⟨#[c]⟩:PySem.Str).cps++p.cps) w.cps)).toList=_
  rw[Er,List.map_cons,Es,List.map_map]
  rfl
end Gz
namespace Gz
open PySem PySem.Spec PyProof.Rows L2 Builtin Builtin.Str StrLaws
section
variable{X:Cx}
theorem Et:∀ (l:List (PySem.Str × Tok)),Vals ((l.map (·.1)).map V.str) (strValues l)
 | []=>.nil
 | (x,t)::l=>.cons ⟨t,rfl⟩ (Et l)
theorem Eu:nh X "str.split" (fun x xs H Q=>∃ z y,x = .str z/\xs=[.str y]/\(y.length == 0)=false/\z.length+2<=sizeLine/\∀ l,H l=none->Q (.ref l) (upd H l (.lst ((Txt.split z y).map V.str)))):=by
 intro pins s σ H x xs v us Q I rx rv h
 obtain⟨z,y,rfl,rfl,hy,hz,q⟩:=h
 obtain⟨u,rfl,ru⟩:=vals1 rv
 obtain⟨t,rfl⟩:=rx
 obtain⟨k,rfl⟩:=ru
 have hn:(partsBetween z (occurrences z y 0 z.length (z.length+1)) y.length).length<=sizeLine:=by
  have e1:=StrLaws.occ_length_le z y 0 z.length (z.length+1)
  rw[length_partsBetween];omega
 have fin:∀ (l:List (PySem.Str × Tok)) (t':Nat),l.map (·.1)=Txt.split z y->l.length<=sizeLine->EP X pins σ Q (.ref s.heap.objs.size) { s with heap:=s.heap.push { cls:=.type "list",data:=.seq (strValues l).toArray },toks:=t' }:=fun l t' e hl =>
  ⟨.ref s.heap.objs.size,_,I.Cv (t':=t') (e ▸ Et l) (by rw[<- e,List.length_map,List.length_map];exact hl),rfl,q _ I.fresh⟩
 cases h1:(decide (z.length<y.length) || decide (strKind z<strKind y))
 ·cases hf:(occurrences z y 0 z.length (z.length+1)).isEmpty
  ·refine call_meets F.slot_str_split (typeIs_str _ _ _) F.entry_str_split (F.args_str_split_2 _ _) (meets_str_split_sep z y t k h1 hy hf (by omega) hn) ?_
   show wants _ _ _ { s with toks:=_,heap:=s.heap.push { cls:=.type "list",data:=.seq (strsFrom s.toks (partsBetween z (occurrences z y 0 z.length (z.length+1)) y.length)).toArray } }
   rw[strsFrom_eq]
   exact fin (numbered s.toks _) _ ((numbered_texts _ _).trans ((if_neg (ne_true_of_eq_false h1)).trans (if_neg (ne_true_of_eq_false hf))).symm) (by rw[<- List.length_map (f:=(·.1)),numbered_texts];exact hn)
  ·exact call_meets F.slot_str_split (typeIs_str _ _ _) F.entry_str_split (F.args_str_split_2 _ _) (meets_str_split_not_found z y t k h1 hy hf)
    (fin [(z,t)] s.toks ((if_neg (ne_true_of_eq_false h1)).trans (if_pos hf)).symm (by show 1<=sizeLine;decide))
 ·exact call_meets F.slot_str_split (typeIs_str _ _ _) F.entry_str_split (F.args_str_split_2 _ _) (meets_str_split_cannot_occur z y t k h1)
   (fin [(z,t)] s.toks (if_pos h1).symm (by show 1<=sizeLine;decide))
theorem xy:nh X "str.join" (fun x xs H Q=>∃ z a ss,x = .str z/\xs=[.ref a]/\ar X.K H a (ss.map V.str)/\(ss.map (·.length)).sum+ss.length * z.length<=16777216/\Q (.str (Txt.join z ss)) H):=by
 intro pins s σ H x xs v us Q I rx rv h
 obtain⟨z,a,ss,rfl,rfl,hS,h1,q⟩:=h
 obtain⟨u,rfl,ru⟩:=vals1 rv
 obtain⟨t,rfl⟩:=rx
 cases ru
 obtain⟨av,r,p,y⟩:=I.list hS
 exact join_list p.isList (StrsAre.of_carried (El r)) h1 fun t' k=>⟨.str _,H,I.tok _,⟨_,rfl⟩,q⟩
theorem Ew:nh X "str.startswith" (fun x xs H Q=>∃ z y,x = .str z/\xs=[.str y]/\Q (.bl (Txt.startswith z y)) H):=by
 intro pins s σ H x xs v us Q I rx rv h
 obtain⟨z,y,rfl,rfl,q⟩:=h
 obtain⟨u,rfl,ru⟩:=vals1 rv
 obtain⟨t,rfl⟩:=rx
 obtain⟨k,rfl⟩:=ru
 exact SC.startswith ⟨.bl _,H,I,rfl,q⟩
end
end Gz
namespace Gz
open PySem PySem.Spec PyProof.Rows L2 PySem.W PySem.NumText
noncomputable def bz(n:Int):PySem.Str:=toString n
noncomputable def cY(m:Nat):List Nat:=(Nat.toDigits 10 m).map Char.toNat
theorem nP(m:Nat):AllDigits (cY m):=by
 intro c hc
 obtain⟨ch,gC,e⟩:=List.mem_map.mp hc
 rw[<- e]
 exact digit_range (Nat.isDigit_of_mem_toDigits (by decide) (by decide) gC)
theorem xA(m:Nat)(h:¬ m<10):cY m=cY (m / 10)++cY (m % 10):=by
 have t:Nat.toDigits 10 (m / 10)++Nat.toDigits 10 (m % 10)=Nat.toDigits 10 (10 * (m / 10)+m % 10):=Nat.toDigits_append_toDigits (by decide) (by omega) (Nat.mod_lt m (by decide))
 rw[Nat.div_add_mod] at t
 unfold cY
 rw[<- t,List.map_append]
theorem kj(m:Nat)(h:m<10):cY m=[m+48]:=by
 unfold cY
 rw[Nat.toDigits_of_lt_base h]
 have:∀ d:Nat,d<10->(Nat.digitChar d).toNat=d+48:=by decide
 rw[List.map_cons,this m h,List.map_nil]
theorem xB(k:Nat):∀ m:Nat,m<10 ^ (k+1)->(cY m).length<=k+1:=by
 induction k with
 | zero=>intro m h;rw[kj m (by omega)];exact Nat.le_refl _
 | succ k ih =>
  intro m h
  by_cases Ex:m<10
  ·rw[kj m Ex];show 1<=_;omega
  ·rw[xA m Ex,List.length_append,kj (m % 10) (Nat.mod_lt m (by decide))]
   have:=ih (m / 10) (by rw[Nat.pow_succ] at h;omega)
   show _+1<=_
   omega
theorem md(m:Nat):∃ d r,cY m=d::r/\(m≠0->d≠48):=by
 induction m using Nat.strongRecOn with
 | _ m ih =>
  by_cases h:m<10
  ·exact⟨m+48,[],kj m h,by omega⟩
  ·obtain⟨d,r,e,hd⟩:=ih (m / 10) (by omega)
   refine⟨d,r++cY (m % 10),?_,fun y=>hd (by omega)⟩
   rw[xA m h,e]
   rfl
theorem km(m:Nat):(bz (m:Int)).cps.toList=cY m:=KIN.signs_num m
theorem nQ(m:Nat):(bz (-((m+1:Nat):Int))).cps.toList=45::cY (m+1):=by
 have e:bz (-((m+1:Nat):Int))=PySem.Str.ofString ("-" ++ Nat.repr (m+1)):=rfl
 rw[e,signs_ofString]
 show ("-" ++ Nat.repr (m+1)).toList.map Char.toNat=_
 rw[String.toList_append,List.map_append,Nat.toList_repr]
 rfl
theorem pU(n:Int):(∃ m:Nat,n=m) ∨ ∃ m:Nat,n = -((m+1:Nat):Int):=by
 cases n with
 | ofNat m=>exact .inl ⟨m,rfl⟩
 | negSucc m=>exact .inr ⟨m,rfl⟩
theorem str_len(s:PySem.Str):s.length=s.cps.toList.length:=by show s.cps.size=_;simp
theorem dQ{n:Int}(h:n.natAbs<10 ^ 60):(bz n).length<=61:=by
 rw[str_len]
 rcases pU n with ⟨m,rfl⟩|⟨m,rfl⟩
 ·rw[km]
  exact Nat.le_trans (xB 59 m (by simpa using h)) (by decide)
 ·rw[nQ]
  have:=xB 59 (m+1) (by have:=h;rw[Int.natAbs_neg,Int.natAbs_natCast] at this;exact this)
  show _+1<=61
  omega
theorem tT{n:Int}(h:n.natAbs<10 ^ 60):PySem.intText? (bz n)=some n:=by
 have hl:=dQ h
 rcases pU n with ⟨m,rfl⟩|⟨m,rfl⟩
 ·obtain⟨d,r,e,y⟩:=md m
  have:=intText_digits (x:=bz (m:Int)) (by rw[km];exact nP m) (by rw[km,e];simp) (by omega)
  rw[this,km]
  unfold cY
  rw[KIN.val_back]
 ·obtain⟨d,r,e,y⟩:=md (m+1)
  have:=intText_neg (x:=bz (-((m+1:Nat):Int))) (nQ m) (nP _) (by rw[e];simp) (by omega)
  rw[this]
  unfold cY
  rw[KIN.val_back]
section
variable{X:Cx}
theorem Ey:eL X (.type "int") (fun xs H Q=>∃ x n,xs=[.str x]/\PySem.intText? x=some n/\x.length<=640/\Q (.int n) H):=by
 intro pins s σ H xs us Q I r h
 obtain⟨x,n,rfl,hn,hl,q⟩:=h
 obtain⟨u,rfl,rx⟩:=vals1 r
 obtain⟨t,rfl⟩:=rx
 exact KIN.call_text hn hl ⟨.int n,H,I.tok _,⟨_,rfl⟩,q⟩
end
end Gz
namespace Gz
open PySem PySem.Spec PyProof.Rows L2
noncomputable def aU(x:PySem.Str):List V:=x.cps.toList.map fun c=>V.str ⟨#[c]⟩
theorem Nf{x:PySem.Str}{i c:Nat}(h:x.cps[i]?=some c):(aU x)[i]?=some (.str ⟨#[c]⟩):=by
 unfold aU
 rw[List.getElem?_map,Array.getElem?_toList,h]
 rfl
theorem pV(x:PySem.Str):(aU x).length=x.cps.size:=by unfold aU;simp
noncomputable def nU(x:PySem.Str):It:=⟨fun i y=>i<x.cps.size,fun i H v H'=>H'=H/\(aU x)[i]?=some v,fun i y=>x.cps.size<=i⟩
def xC(te:TE):TI:=fun σ H R=>te σ H fun v H1=>∃ x,v = .str x/\R (nU x) H1
theorem tU(x:PySem.Str):strIterType x = "str_ascii_iterator" ∨ strIterType x = "str_iterator" := by
 unfold strIterType
 split
 ·exact .inl rfl
 ·exact .inr rfl
theorem Ng{P:Program}{w:World}{K:PySem.W.Frag}{tg:Expr}(x:PySem.Str)(t:Tok)(it:Addr):Turn P w K tg (nU x) [it] it (fun i h=>h.IsStrIter it (strIterType x) x t i) where
 mem:=by simp
 obj:=fun i h st b hb=>by
  have e:b=it:=by simpa using hb
  subst e
  obtain⟨o,e,c,d⟩:=st
  exact⟨o,e,fun v z=>by rw[d] at z;cases z⟩
 keep:=fun i h h' st k=>let ⟨o,e,r⟩:=st;⟨o,k it (by simp) o e,r⟩
 item:=by
  intro X hP hw hK hc i pins s σ H E I hf st hg
  subst hP hw hK
  have hg:i<x.cps.size:=hg
  obtain⟨f0,f1,f2,f3,f4,f5⟩:=hf it (by simp)
  have ex:x.cps[i]?=some x.cps[i]:=by simp[hg]
  have fin:∀ h':Heap,h'.IsStrIter it (strIterType x) x t (i+1)->Heap.SameBut it s.heap h'->∃ u,some (Value.str ⟨#[x.cps[i]]⟩ s.toks)=some u /\
   wpAny (model X.prog X.w) X.A (letOwnedTupleGo tg (.ref it) u) (fun y s2=>∃ Ez H',Inv X pins σ H' s2/\RelV Ez u/\(nU x).yld i H Ez H'/\s2.heap.IsStrIter it (strIterType x) x t (i+1)/\∀ b∈[it],H' b=none) E { s with heap:=h',toks:=s.toks+1 }:=by
   intro h' cj sb
   have I1:Inv X pins σ H { s with heap:=h',toks:=s.toks+1 }:=I.turned (t':=s.toks+1) (fun b o hb e=>(sb.2 b hb).trans e) f0 f1 f3 f4 f5
   obtain⟨o,e,c,d⟩:=id cj
   refine⟨_,rfl,oR (s:={ s with heap:=h',toks:=s.toks+1 }) e c d ?_ ⟨.str ⟨#[x.cps[i]]⟩,H,I1,⟨_,rfl⟩,⟨rfl,Nf ex⟩,cj,fun b hb=>(hf b hb).1⟩⟩
   rcases tU x with z|z<;>rw[z]<;>decide
  rcases tU x with z|z
  ·have q:=fin
   rw[z] at st q
   exact wpAny_pyNext_ascii_item st ex fun h' cj sb=>by rw[z];exact q h' cj sb
  ·have q:=fin
   rw[z] at st q
   exact wpAny_pyNext_wide_item st ex fun h' cj sb=>by rw[z];exact q h' cj sb
 done:=by
  intro X hP hw hK hc i pins s σ H E I hf st hg
  subst hP hw hK
  have hg:x.cps.size<=i:=hg
  obtain⟨f0,f1,f2,f3,f4,f5⟩:=hf it (by simp)
  have ex:x.cps[i]?=none:=by simp[hg]
  rcases tU x with z|z
  ·rw[z] at st
   exact wpAny_pyNext_ascii_end (I.ok.hd hc) st ex fun h' eb=>⟨rfl,I.turned (t':=s.toks) (fun b o hb e=>eb b o hb e) f0 f1 f3 f4 f5⟩
  ·rw[z] at st
   exact wpAny_pyNext_wide_end (I.ok.hd hc) st ex fun h' eb=>⟨rfl,I.turned (t':=s.toks) (fun b o hb e=>eb b o hb e) f0 f1 f3 f4 f5⟩
 self:=fun y y y y y st h=>by
  rcases tU x with z|z
  ·rw[z] at st;exact wpAny_pyIter_striter_ascii st h
  ·rw[z] at st;exact wpAny_pyIter_striter_wide st h
theorem tV{X:Cx}{tg l:Expr}{tl:TE}(hl:PE X l tl):PI X tg l (xC tl):=by
 intro pins s σ H R I h
 refine aC (hl pins s σ H _ I h) fun v s1 ⟨y,H1,I1,r1,q1⟩=>?_
 obtain⟨x,e,q⟩:=q1
 subst e
 obtain⟨t,rfl⟩:=r1
 refine wpAny_pyIter_strU ?_
 refine⟨s1.heap.objs.size,[s1.heap.objs.size],_,_,H1,rfl,I1.kept (t':=s1.toks) fun b o e=>Heap.get?_push_of_some _ e,Ng x t _,⟨_,Heap.get?_push_size _ rfl,rfl,rfl⟩,fun b hb=>?_,q⟩
 have e:b=s1.heap.objs.size:=by simpa using hb
 subst e
 exact I1.m3 (Nat.le_refl _) (I1.aA.fresh (Nat.le_refl _))
theorem EA{x:PySem.Str}:sO (nU x) (fun z=>True) (aU x) :=
 ⟨fun i z z z e=>by
  have:=(List.getElem?_eq_some_iff.mp e).1
  show i<x.cps.size
  rw[<- pV];exact this,fun z z z z z y=>⟨y.1,fun z=>y.2⟩,fun i z z h=>by show x.cps.size<=i;rw[<- pV];exact h⟩
section
variable{g:TG}{tb:TS}{D:Ends}{σ:L2.St}{H:Hp}{x:PySem.Str}
theorem Nh{tl:TE}:iH (xC tl) g tb D σ H=tl σ H (fun v H1=>∃ x,v = .str x/\FJ (nU x) g tb D σ H1):=rfl
theorem tW(Pv:Nat->L2.St->Hp->Prop)(h0:Pv 0 σ H)
 (hs:∀ i v σ H,(aU x)[i]?=some v->Pv i σ H->g v σ H fun σ2 H2=>tb { D with nx:=Pv (i+1),ct:=Pv (i+1),bk:=D.nx } σ2 H2) (hd:∀ σ H,Pv (aU x).length σ H->D.nx σ H):FJ (nU x) g tb D σ H:=by
 refine⟨fun i m σ H=>m=(aU x).length-i/\i<=(aU x).length/\Pv i σ H,⟨(aU x).length,by simp,Nat.zero_le _,h0⟩,?_⟩
 rintro i m σ H ⟨rfl,hi,p⟩
 have hn:=pV x
 by_cases cw:i<(aU x).length
 ·refine .inr ⟨(by show i<x.cps.size;omega),Pv (i+1),fun σ' H' p'=>⟨(aU x).length-(i+1),by omega,rfl,cw,p'⟩,fun v H' y=>?_⟩
  obtain⟨e,y⟩:=y
  subst e
  exact hs i v σ _ y p
 ·have e:i=(aU x).length:=by omega
  subst e
  exact .inl ⟨(by show x.cps.size<=_;omega),hd σ H p⟩
end
end Gz
namespace Gz
open PySem PySem.Spec PyProof.Rows L2 Builtin Builtin.Str
def Ni:V->Option Int->Option Int->Hp->VK->Prop:=fun x lo hi H Q=>∃ z,x = .str z/\z.length<=sizeLine/\Q (.str (Txt.slice z lo hi)) H
theorem part_of{v:Value}{o:Option Int}(h:IsPart v o):∃ l:Option (Int × Tok),v=partValue l/\l.map (·.1)=o:=by
 cases h with
 | none=>exact⟨none,rfl,rfl⟩
 | int i t=>exact⟨some (i,t),rfl,rfl⟩
theorem jz{X:Cx}:o9 X Ni:=by
 intro pins s σ H x v vl vu lo hi sl Q I rx hs pl pu h
 obtain⟨z,rfl,hz,q⟩:=h
 obtain⟨t,rfl⟩:=rx
 obtain⟨l,rfl,rfl⟩:=part_of pl
 obtain⟨u,rfl,rfl⟩:=part_of pu
 refine⟨"str",_,F.slot_str_getitem.lookup,typeIs_str _ _ _,?_⟩
 refine wpAny_getItem_str_slice (l:=l) (u:=u) (st:=none) hs rfl ?_
 unfold sliceMade
 have e:slicePicked z l u none=strSliceIndices (l.map (·.1)) (u.map (·.1)) 1 z.length:=rfl
 rw[e]
 unfold Txt.slice at q
 show Made.post (if ((1:Int) == 1 && (strSliceIndices (l.map (·.1)) (u.map (·.1)) 1 z.length).length == z.length)=true then _ else _) _ s
 split
 ·rename_i c
  rw[if_pos c] at q
  exact⟨.str z,H,I,⟨_,rfl⟩,q⟩
 ·rename_i c
  rw[if_neg c] at q
  refine⟨?_,.str _,H,I.tok _,⟨_,rfl⟩,q⟩
  have:=sliceIndices_le (l.map (·.1)) (u.map (·.1)) z.length
  show ((strSliceIndices (l.map (·.1)) (u.map (·.1)) 1 z.length).filterMap (z.cps[·]?)).toArray.size<=sizeLine
  rw[List.size_toArray]
  exact Nat.le_trans (List.length_filterMap_le _ _) (Nat.le_trans this hz)
end Gz
namespace Gz
open PySem PySem.Spec PyProof.Rows L2
structure xD(P:Program)(w:World)(K:PySem.W.Frag)(a:Addr)(kvs:List (Key × V)):Prop where
 d:∀ h:Heap,K.In h->(a == sysModules)=false/\∃ vs,KV kvs vs/\h.DictOf (et P w) a vs
def EB(kvs:List (Key × V))(ty:TE):TE:=fun σ H Q=>ty σ H fun y H1=>∃ k v,y=kV k/\bX kvs k=some v/\Q v H1
def EC(kvs:List (Key × V))(neg:Bool)(ty:TE):TE:=fun σ H Q=>ty σ H fun y H1=>∃ k,y=kV k/\Q (.bl (if neg then !(bX kvs k).isSome else (bX kvs k).isSome)) H1
section
variable{X:Cx}{x:Str}{i:Expr}{ty:TE}{p pos:Pos}{a:Addr}{kvs:List (Key × V)}
theorem Nj(hm:X.mg x=some (.ref a))(D:xD X.prog X.w X.K a kvs)(hi:PE X i ty)(hs:wQ i:=by intro z z;rfl)(hg:Gl X x:=by rfl)(hd:(x == ("__debug__" : Str))=false:=by decide):PE X (.Subscript (.Name x p) i pos) (EB kvs ty):=by
 intro pins s σ H Q I h
 refine DQ PySem.F.slot_dict_getitem.lookup hs (aC (fF (v:=.ref a) hg hm rfl hd pins s σ H (fun v H1=>v = .ref a/\ty σ H1 fun y H2=>∃ k v,y=kV k/\bX kvs k=some v/\Q v H2) I ⟨rfl,h⟩) fun u s1 ⟨y1,H1,I1,rx,e1,q1⟩=>aC (hi pins s1 σ H1 _ I1 q1) fun iv s2 ⟨y,H2,I2,ry,k,v,ey,l,q2⟩=>?_)
 subst e1 ey
 obtain rfl:u=Value.ref a:=rx
 obtain⟨hsm,vs,rel,dd⟩:=D.d _ I2.bI
 obtain⟨w',hw,hZ⟩:=dY.some_of (v:=v) (o:=valueAt vs k) (by rw[<- l];exact rel.val k)
 exact⟨dd.typeIs,wpAny_getItem_of (lW ry) dd.mapOf hw ⟨v,H2,I2.tok _,hZ,q2⟩⟩
theorem Nk(hm:X.mg x=some (.ref a))(D:xD X.prog X.w X.K a kvs)(hi:PE X i ty)(hg:Gl X x:=by rfl)(hd:(x == ("__debug__" : Str))=false:=by decide):PC X .NotIn i (.Name x p) (EC kvs true ty):=by
 intro pins s σ H Q I h
 refine aC (hi pins s σ H _ I h) fun iv s1 ⟨y,H1,I1,ry,k,ey,q1⟩=>aC (fF (v:=.ref a) hg hm rfl hd pins s1 σ H1 (fun v H1=>v = .ref a/\Q (.bl (if true then !(bX kvs k).isSome else (bX kvs k).isSome)) H1) I1 ⟨rfl,q1⟩) fun u s2 ⟨y2,H2,I2,rx,e2,q2⟩=>?_
 subst e2 ey
 obtain rfl:u=Value.ref a:=rx
 obtain⟨hsm,vs,rel,dd⟩:=D.d _ I2.bI
 refine wpAny_notIn_of (lW ry) hsm dd.mapOf ?_
 rw[<- (rel.val k).tq]
 exact⟨.bl _,H2,I2.tok _,rfl,q2⟩
end
end Gz
namespace Gz
open PySem PySem.Spec PyProof.Rows L2 Builtin Builtin.Str StrLaws
theorem xE{X:Cx}{pos:Pos}{x y:Str}(h:∃ t,X.mg x=some (.str y t))(hg:Gl X x)(hd:(x == ("__debug__" : Str))=false:=by decide):PE X (.Name x pos) (tC (.str y)):=by
 obtain⟨t,ht⟩:=h
 exact fF (v:=.str y) hg ht ⟨t,rfl⟩ hd
noncomputable def ko(x:PySem.Str):Bool:=x.cps.toList.all fun c=>decide (48<=c) && decide (c<=57)
noncomputable def gQ(x:PySem.Str):Bool:=decide (1<=x.length) && decide (x.length<=60) && ko x
noncomputable def eQ:PySem.Str := "0123456789"
theorem ED(c:Nat):(!(occurrences eQ ⟨#[c]⟩ 0 eQ.length 1).isEmpty)=(decide (48<=c) && decide (c<=57)):=by
 rw[found_one]
 have e:eQ.cps.toList=[48,49,50,51,52,53,54,55,56,57]:=by decide +kernel
 rw[e]
 rw[Bool.eq_iff_iff]
 simp only[decide_eq_true_eq,Bool.and_eq_true,List.mem_cons,List.not_mem_nil,or_false]
 omega
theorem Nl(x:PySem.Str):(x.cps.toList.map fun c=>!(occurrences eQ ⟨#[c]⟩ 0 eQ.length 1).isEmpty).all id=ko x:=by
 unfold ko
 rw[List.all_map]
 congr 1
 funext c
 exact ED c
noncomputable def jA(x:PySem.Str):Bool:=Txt.startswith x "-"
noncomputable def cutD(x:PySem.Str):PySem.Str:=if jA x then Txt.slice x (some 1) none else x
noncomputable def dR(x:PySem.Str):Bool:=x == "0" || (gQ (cutD x) && !Txt.startswith (cutD x) "0")
theorem nV(x:PySem.Str)(c:Nat):Txt.startswith x ⟨#[c]⟩=decide (x.cps.toList.head?=some c):=by
 show (decide (0+1<=x.length) && subAt x ⟨#[c]⟩ 0)=_
 rw[str_len]
 cases h:x.cps.toList with
 | nil=>rfl
 | cons d r =>
  have h0:0<x.cps.toList.length:=by rw[h];exact Nat.succ_pos _
  rw[subAt_one x c 0 h0]
  have e:x.cps.toList[0]=d:=by simp only[h,List.getElem_cons_zero]
  rw[e]
  simp
theorem Nm(n:Nat):strSliceIndices (some 1) none 1 n=(List.range (n-1)).map (· + 1):=by
 unfold strSliceIndices sliceRange
 simp only[show ((1:Int) > 0)=True from eq_true (by decide),if_true,show ((1:Int)<0)=False from eq_false (by decide),if_false]
 cases n with
 | zero=>rfl
 | succ n =>
  have e1:max (0:Int) (min 1 ((n+1:Nat):Int))=1:=by omega
  rw[e1]
  have e2:(if (1:Int)<((n+1:Nat):Int) then (((n+1:Nat):Int)-1+1-1) / 1 else 0).toNat=n:=by
   split
   ·rw[Int.ediv_one];omega
   ·omega
  rw[e2]
  apply List.map_congr_left
  intro k y
  show ((1:Int)+1 * (k:Int)).toNat=k+1
  omega
theorem EE:∀ l:List Nat,(List.range l.length).filterMap (fun i=>l[i]?)=l
 | []=>rfl
 | a::r=>by
  rw[List.length_cons,List.range_succ_eq_map,List.filterMap_cons]
  show a::_=_
  rw[List.filterMap_map]
  congr 1
  exact EE r
theorem EF(x:PySem.Str):(Txt.slice x (some 1) none).cps.toList=x.cps.toList.drop 1:=by
 unfold Txt.slice
 rw[Nm,str_len,List.length_map,List.length_range]
 cases h:x.cps.toList with
 | nil=>rw[if_pos (by simp),h];rfl
 | cons d r =>
  rw[if_neg (by simp)]
  show (((List.range (r.length+1-1)).map (· + 1)).filterMap (x.cps[·]?)).toArray.toList=r
  rw[List.filterMap_map]
  have:((fun i=>x.cps[i]?) ∘ fun y=>y+1)=fun i=>r[i]?:=by
   funext i
   show x.cps[i+1]?=r[i]?
   rw[<- Array.getElem?_toList,h,List.getElem?_cons_succ]
  rw[this]
  exact EE r
theorem tX{x y:PySem.Str}(h:x.cps.toList=y.cps.toList):x=y:=by
 cases x;cases y
 congr 1
 exact Array.ext' h
theorem Nn(m:Nat):(cY m).all (fun c=>decide (48<=c) && decide (c<=57))=true:=by
 rw[List.all_eq_true]
 intro c hc
 have:=nP m c hc
 simp only[Bool.and_eq_true,decide_eq_true_eq]
 exact this
theorem EG{x:PySem.Str}{m:Nat}(h:x.cps.toList=cY m)(hm:m<10 ^ 60):gQ x=true:=by
 obtain⟨d,r,e,y⟩:=md m
 have hl:=xB 59 m hm
 unfold gQ ko
 rw[str_len,h,Nn]
 have h1:1<=(cY m).length:=by rw[e];exact Nat.succ_pos _
 simp[h1,hl]
theorem EH{n:Int}(h:n.natAbs<10 ^ 60):dR (bz n)=true:=by
 unfold dR
 by_cases h0:n=0
 ·subst h0;rfl
 ·rw[Bool.or_eq_true]
  refine .inr ?_
  have dash:∀ x:PySem.Str,jA x=decide (x.cps.toList.head?=some 45):=fun x=>nV x 45
  have zero:∀ x:PySem.Str,Txt.startswith x "0" = decide (x.cps.toList.head?=some 48):=fun x=>nV x 48
  rcases pU n with ⟨m,rfl⟩|⟨m,rfl⟩
  ·obtain⟨d,r,e,hd⟩:=md m
   have hm:m≠0:=fun z=>h0 (by rw[z];rfl)
   have hL:=km m
   have nd:jA (bz (m:Int))=false:=by
    rw[dash,hL,e]
    have:d∈cY m:=by rw[e];exact .head _
    have:=nP m d this
    apply decide_eq_false
    intro z
    injection z with z
    omega
   have ec:cutD (bz (m:Int))=bz (m:Int):=by unfold cutD;rw[nd];rfl
   rw[ec,EG hL (by simpa using h),zero,hL,e]
   have:=hd hm
   simp[this]
  ·obtain⟨d,r,e,hd⟩:=md (m+1)
   have hL:=nQ m
   have nd:jA (bz (-((m+1:Nat):Int)))=true:=by rw[dash,hL];rfl
   have ec:(cutD (bz (-((m+1:Nat):Int)))).cps.toList=cY (m+1):=by
    unfold cutD
    rw[nd,if_pos rfl,EF,hL]
    rfl
   rw[EG ec (by rw[Int.natAbs_neg,Int.natAbs_natCast] at h;exact h),zero,ec,e]
   have:=hd (by omega)
   simp[this]
end Gz
namespace Gz
open PySem PySem.Spec PyProof.Rows L2
def EI(X:Cx)(body:List Stmt)(tb:TS)(E':XK):Prop:=∀ (pins:List (Addr × Obj)) (s:Shared) (σ:L2.St) (H:Hp) (D:Ends),Inv X pins σ H s->tb D σ H ->
 (∀ (lq:List (Addr × Obj)) (H1:Hp) (s1:Shared) (ev:Value) (s2:Shared),Inv X lq σ H1 s1->cW X.prog X.w X.stack H1 s1 E' ev s2->X.xe ev s2)->wpAny (model X.prog X.w) X.A (execs body X.env) (SP X pins D) X.xe s
section
variable{X:Cx}{F:Value->Shared->Prop}{pins pn:List (Addr × Obj)}{σ:L2.St}{H:Hp}{s:Shared}{A':Around}
end
section
variable{X:Cx}{k:Nat}{f:Addr}{fd:FuncData}{ps:List Str}{sp:Sp}{bN:List V}{ds:List Value}{E:XK}{x:Str}{p pos apos:Pos}{e tg:Expr}{es:List Expr}{t:TA}{g:TG}
theorem Np(F:cc X.prog X.w X.K X.mg X.base (cW X.prog X.w) k f fd ps sp)(hr:ba k X.A)(hg:Gl X x)(hm:X.mg x=some (.ref f))(hk:PySem.W.keepIn X.K (.ref f)=true)(hb:Binds X.K fd ps ds)(hd:Vals bN ds)
 (ha:PA X (e::es) t) (hy:PG X tg g) (fq:(x == ("__debug__" : Str))=false:=by decide) (he:starEach (e::es) X.env=(false,eval e X.env)::starEach es X.env:=by rfl) (da:(backTo pos (starEach es X.env)).any (·.1)=false:=by rfl)
 (hs:swapsWithSole [tg] (.Call (.Name x p) (e::es) [] pos) apos.line X.env=pure false:=by rfl) (hw:swappedStores [tg] (.Call (.Name x p) (e::es) [] pos) X.env=pure none:=by rfl)
 (h1:(assignEach [tg] X.env).map (·.2)=[assign tg X.env]:=by rfl):EI X [.Assign [tg] (.Call (.Name x p) (e::es) [] pos) apos] (oQ (m7 sp bN E t) g) E:=by
 intro pins s σ H D I h hx
 refine wpAny_execs_cons (aC (Q:=SP X pins D) (wpAny_Assign_stores (aC (Q:=EP X pins σ fun x H1=>g x σ H1 D.nx) (wpAny_Call_Name_kw (lr I hg hm ?_ fq)) fun v s1 ⟨y,H1,I1,r1,q1⟩=>?_) hs hw) fun f s1 q=>?_)
 ·refine PySem.W.callWith_K (h₀:=X.base) I.ok.mod.kin hk (aC (ha pos pins s σ H _ I h) fun us s1 ⟨vs,H1,I1,r,q⟩=>⟨I1.bI,?_⟩) he da
  have r2:Vals (vs++bN) (us++ds):=r.append hd
  have hl:(us++ds).length=ps.length:=by rw[<- r2.length];exact F.len _ _ _ _ q
  refine wpAny_call (codeAny_mono (F.run X.A X.stack s1 H1 ⟨us,[]⟩ (us++ds) (vs++bN) _ E hr I1.vB (hb s1 us I1.bI hl) r2 q) fun r s' hq=>?_)
  cases r with
  | error e=>exact hx pins H1 s1 e s' I1 hq
  | ok fl =>
   cases fl with
   | ret u=>exact I1.after hq
   | next=>exact False.elim hq
   | brk=>exact False.elim hq
   | cont=>exact False.elim hq
 ·rw[h1]
  exact aC (hy pins s1 σ H1 y v _ I1 r1 q1) fun _ s2 q=>q
 ·cases f with
  | next=>exact wpAny_execs_nil q
  | ret v=>exact q
  | brk=>exact q
  | cont=>exact q
end
end Gz
namespace Gz
open PySem PySem.Spec PyProof.Rows L2
def EJ(K:PySem.W.Frag)(i:Nat)(G G2 G3:Addr)(tb th tY tZ:TS)(E':XK):TS:=fun D σ H=>tb D σ H/\∀ cls H',E' cls none H'->∃ C,cls = .ref C/\((PySem.W.exmOne K (.ref C) (.ref G)=some true/\∀ a,H' a=none->th { nx:=fun σ' H2=>D.nx (σ'.set i none) H2,rt:=D.rt,bk:=fun σ' H2=>D.bk (σ'.set i none) H2,ct:=fun σ' H2=>D.ct (σ'.set i none) H2 } (σ.set i (some (.ref a))) (upd H' a (iM a C)))∨(PySem.W.exmOne K (.ref C) (.ref G)=some false/\PySem.W.exmOne K (.ref C) (.ref G2)=some true/\∀ a,H' a=none->tY { nx:=fun σ' H2=>D.nx (σ'.set i none) H2,rt:=D.rt,bk:=fun σ' H2=>D.bk (σ'.set i none) H2,ct:=fun σ' H2=>D.ct (σ'.set i none) H2 } (σ.set i (some (.ref a))) (upd H' a (iM a C)))∨(PySem.W.exmOne K (.ref C) (.ref G)=some false/\PySem.W.exmOne K (.ref C) (.ref G2)=some false/\PySem.W.exmOne K (.ref C) (.ref G3)=some true/\∀ a,H' a=none->tZ { nx:=fun σ' H2=>D.nx (σ'.set i none) H2,rt:=D.rt,bk:=fun σ' H2=>D.bk (σ'.set i none) H2,ct:=fun σ' H2=>D.ct (σ'.set i none) H2 } (σ.set i (some (.ref a))) (upd H' a (iM a C))))
section
variable{X:Cx}{F:Value->Shared->Prop}{pins pn:List (Addr × Obj)}{σ:L2.St}{H:Hp}{s:Shared}{A':Around}
theorem Nq{body iR xF xG:List Stmt}{b₀ b2 b3:Stmt}{x x2 x3 n:Str}{np d8 EK EL EM EN pos:Pos}{tb th tY tZ:TS}{G G2 G3:Addr}(E':XK)(i:Nat)(jZ:X.stack=X.env::X.outer)(Nr:X.env.frame=some X.env.locals)(hg:Gl X x)(hm:X.mg x=some (.ref G))(EO:Gl X x2)(xi:X.mg x2=some (.ref G2))(Nt:Gl X x3)(Nu:X.mg x3=some (.ref G3))
 (hN:X.N.Nodup) (hi:X.N[i]?=some n) (hl:X.env.scope.names.lookup n=some .local)
 (hb:∀ F pn,EI (Xp X F pn) body tb E') (hh:∀ A' pn,aS (Xh X A' pn) (b₀::iR) th) (Nv:∀ A' pn,aS (Xh X A' pn) (b2::xF) tY) (Nw:∀ A' pn,aS (Xh X A' pn) (b3::xG) tZ) (hd:(x == ("__debug__" : Str))=false:=by decide) (hd2:(x2 == ("__debug__" : Str))=false:=by decide) (Nx:(x3 == ("__debug__" : Str))=false:=by decide)
 (hf:X.fn n=true∨X.env.scope.names.lookup n=some .local:=by first|exact .inl rfl|exact .inr rfl|assumption) :
 PS X (.Try body [.ExceptHandler (some (.Name x np)) (some n) (b₀::iR) d8,.ExceptHandler (some (.Name x2 EK)) (some n) (b2::xF) EL,.ExceptHandler (some (.Name x3 EM)) (some n) (b3::xG) EN] [] [] pos) (EJ X.K i G G2 G3 tb th tY tZ E'):=by
 intro pins s σ H D I h
 obtain⟨h1,h2⟩:=h
 refine wpAny_Try_except ?_
 refine wpAny_mono (hb (fun e s₁=>wpAny (model X.prog X.w) X.A (noteFrame e X.env) (fun _ s₂=>wpAny (model X.prog X.w) X.A (setFlight e none) (fun _ s₃=>wpAny (model X.prog X.w) X.A (handleBy e X.env [.ExceptHandler (some (.Name x np)) (some n) (b₀::iR) d8,.ExceptHandler (some (.Name x2 EK)) (some n) (b2::xF) EL,.ExceptHandler (some (.Name x3 EM)) (some n) (b3::xG) EN]) (SP X pins D) X.xe s₃) X.xe s₂) X.xe s₁) (X.pn++pins) [] s σ H D (K7 I) h1 ?_) (fun f s1 q=>?_) fun e s1 q=>q
 ·intro lq H1 s1 ev s2 I1 cx
  obtain⟨xx,cls,a0,H',B,rfl,os,bare,un,kb,ic,aA,hx,hn,fl,hE⟩:=cx
  obtain⟨C,rfl,hcas⟩:=h2 cls H' hE
  have ie:=I.ok
  have pq:X.A.frames=some (X.env::X.outer):=by rw[<- jZ];exact ie.frames
  have sJ:Heap.FlyingW B (X.env::X.outer) xx (.ref C) a0 s2.heap:=by
   have z:Heap.FlyingW B X.stack xx (.ref C) a0 s2.heap:=fl
   rw[jZ] at z
   exact z
  have hF:s1.heap.FunFrames X.base X.stack:=I1.stack
  have v8:∀ b∈aY X.stack,H1 b=none:=I1.oK
  have ER:∀ h:Heap,B.StaysIn h->s2.heap.UpToSlots h->Un (aY X.stack) [] H1 H' s1.heap h:=fun h stays up=>by
   have j7:∀ b∈aY X.stack,∀ o,s1.heap.get? b=some o->∃ sl,h.get? b=some { o with slots:=sl }:=fun b hb o q=>by
    obtain⟨_,o',cJ,hnf⟩:=hF.mem hb
    rw[q] at cJ;cases cJ
    obtain⟨sl,e1⟩:=un.slot b o q (v8 b hb) hb (by simp)
    obtain⟨hJ,e2⟩:=up b _ e1 hnf
    exact⟨hJ,e2⟩
   refine⟨fun b o q nn hb dv=>stays b o (kb b o q nn hb),fun b o q nn hb dv=>j7 b hb o q,un.free,fun b o q dv=>?_,un.dG,un.d6,un.eu⟩
   by_cases hb:b∈aY X.stack
   ·obtain⟨sl,e2⟩:=j7 b hb o q
    exact⟨_,e2⟩
   ·obtain⟨o2,e2⟩:=ic b o q hb
    exact⟨o2,stays b o2 e2⟩
  refine wpAny_looks_onW pq Nr sJ fun h₄ Ny Nz=>?_
  refine wpAny_landsW Ny fun h₅ t4 NA=>?_
  have ES:s2.heap.UpToSlots h₅:=Nz.trans NA
  have I5:Inv (Xh X (X.A.mark (some (.ref xx))) (X.pn++pins)) [] σ H' { s2 with heap:=h₅ }:=by
   refine CT (I1.vd (s':={ s2 with heap:=h₅ }) (ch:=[]) os (ER h₅ t4.1 ES) (aA.kept fun b u q=>t4.1 b u q) bare (fun b z=>absurd z (by simp))) ?_
   first|rfl|simp
  obtain⟨ob,hob,hobc⟩:=t4.there
  have LT:PySem.W.Looks (model X.prog X.w) h₅ (typeOf (.ref xx)) (.ref C):=hobc ▸ (PySem.W.Looks.ld hob).andThen .now
  have land:∀ {x:Str} {np d8:Pos} {G:Addr} {b₀:Stmt} {iR:List Stmt} {th:TS} {rest:List ExceptHandler},Gl X x->X.mg x=some (.ref G)->(x == ("__debug__" : Str))=false->(∀ A' pn,aS (Xh X A' pn) (b₀::iR) th) ->
   PySem.W.exmOne X.K (.ref C) (.ref G)=some true->(∀ a,H' a=none->th { nx:=fun σ' H2=>D.nx (σ'.set i none) H2,rt:=D.rt,bk:=fun σ' H2=>D.bk (σ'.set i none) H2,ct:=fun σ' H2=>D.ct (σ'.set i none) H2 } (σ.set i (some (.ref a))) (upd H' a (iM a C))) ->
   wpAny (model X.prog X.w) X.A (handleBy (.ref xx) X.env (.ExceptHandler (some (.Name x np)) (some n) (b₀::iR) d8::rest)) (SP X pins D) X.xe { s2 with heap:=h₅ }:=by
   intro x np d8 G b₀ iR th rest hg hm hd hh me mf
   refine wpAny_handleBy_cons (codeAny_handlers_test ?_) (by intro q;cases q)
   refine lr (X:=Xh X (X.A.mark (some (.ref xx))) (X.pn++pins)) I5 hg hm ?_ hd
   refine (PySem.W.exm_one (M:=model X.prog X.w) (h:=h₅) I5.bI LT me).here ?_
   refine codeAny_handlers_suite_as ?_
   refine lands_againW t4 fun h₆ xH NB=>?_
   have NC:s2.heap.UpToSlots h₆:=ES.trans NB
   obtain⟨oe,hoe,hoec⟩:=xH.there
   have u6:=ER h₆ xH.1 NC
   have ND:∀ b o,s1.heap.get? b=some o->b≠xx:=fun b o q z=>by rw[z,hn] at q;cases q
   have pW:∀ b o,H' b=some o->b≠xx:=fun b o q z=>by rw[z,hx] at q;cases q
   have NF:Un (aY X.stack) [] H1 (upd H' xx (iM xx C)) s1.heap h₆:=by
    refine⟨u6.keep,u6.slot,fun b o q nn dv=>?_,u6.there,fun b xs q=>?_,fun b o u q=>?_,fun b ps q=>?_⟩
    ·rw[aO (ND b o q)];exact u6.free b o q nn dv
    ·have:=u6.dG b xs q
     rw[aO (pW b _ this)];exact this
    ·have:=u6.d6 b o u q
     rw[aO (pW b _ this)];exact this
    ·obtain⟨more,z⟩:=u6.eu b ps q
     exact⟨more,by rw[aO (pW b _ z)];exact z⟩
   have NG:bV X.prog X.w (upd H' xx (iM xx C)) h₆:=fun b u q=>by
    by_cases ny:b=xx
    ·subst ny;rw[aj] at q;cases q
     exact K1 hoe hoec
    ·rw[aO ny] at q
     exact (aA b u q).stay (fun c v _ z=>xH.1 c v z) (fun c z=>by rw[aO (pW c _ z)];exact z) fun c xs z=>by rw[aO (pW c _ z)];exact z
   have I6:Inv (Xh X (X.A.mark (some (.ref xx))) (X.pn++pins)) [] σ (upd H' xx (iM xx C)) { s2 with heap:=h₆ }:=by
    refine CT (I1.vd (s':={ s2 with heap:=h₆ }) (ch:=[]) os NF NG bare (fun b z=>absurd z (by simp))) ?_
    first|rfl|simp
   refine vc (X:=Xh X (X.A.mark (some (.ref xx))) (X.pn++pins)) (v:=.ref xx) I6 hN hi (.inl hl) rfl (fun s8 I8=>?_) hf
   refine wpAny_mono (hh (X.A.mark (some (.ref xx))) (X.pn++pins) [] s8 _ _ _ I8 (mf xx hx)) (fun fl s9 q=>?_) fun _ _ z=>z.elim
   cases fl with
   | next =>
    obtain⟨σ9,H9,I9,q⟩:=q
    exact sM ie I9 hN hi hl fun s' J=>⟨_,_,J,q⟩
   | brk =>
    obtain⟨σ9,H9,I9,q⟩:=q
    exact sM ie I9 hN hi hl fun s' J=>⟨_,_,J,q⟩
   | cont =>
    obtain⟨σ9,H9,I9,q⟩:=q
    exact sM ie I9 hN hi hl fun s' J=>⟨_,_,J,q⟩
   | ret u =>
    obtain⟨v,σ9,H9,I9,r,q⟩:=q
    exact sM ie I9 hN hi hl fun s' J=>⟨v,_,_,J,r,q⟩
  have pass:∀ {x:Str} {np d8:Pos} {G:Addr} {b₀:Stmt} {iR:List Stmt} {rest:List ExceptHandler},Gl X x->X.mg x=some (.ref G)->(x == ("__debug__" : Str))=false ->
   PySem.W.exmOne X.K (.ref C) (.ref G)=some false->wpAny (model X.prog X.w) X.A (handleBy (.ref xx) X.env rest) (SP X pins D) X.xe { s2 with heap:=h₅ } ->
   wpAny (model X.prog X.w) X.A (handleBy (.ref xx) X.env (.ExceptHandler (some (.Name x np)) (some n) (b₀::iR) d8::rest)) (SP X pins D) X.xe { s2 with heap:=h₅ }:=by
   intro x np d8 G b₀ iR rest hg hm hd pX NH
   refine wpAny_handleBy_cons (codeAny_handlers_test ?_) (by intro q;cases q)
   refine lr (X:=Xh X (X.A.mark (some (.ref xx))) (X.pn++pins)) I5 hg hm ?_ hd
   refine (PySem.W.exm_one (M:=model X.prog X.w) (h:=h₅) I5.bI LT pX).here ?_
   exact NH
  rcases hcas with ⟨me,mf⟩|⟨pX,me,mf⟩|⟨pX,NI,me,mf⟩
  ·exact land hg hm hd hh me mf
  ·exact pass hg hm hd pX (land EO xi hd2 Nv me mf)
  ·exact pass hg hm hd pX (pass EO xi hd2 NI (land Nt Nu Nx Nw me mf))
 ·have q':=SP.K8 q
  cases f with
  | next =>
   obtain⟨σ',H',I',q'⟩:=q'
   exact wpAny_execs_nil ⟨σ',H',I',q'⟩
  | brk=>exact q'
  | cont=>exact q'
  | ret u=>exact q'
end
end Gz
namespace Gz
open PySem PySem.Spec PyProof.Rows L2
section
variable{X:Cx}
theorem NJ:nh X "str.upper" (fun x xs H Q=>∃ z,x = .str z/\xs=[]/\z.length<=100000/\∀ y:PySem.Str,y.length<=3 * z.length->Q (.str y) H):=by
 intro pins s σ H x xs v us Q I rx rv h
 obtain⟨z,rfl,rfl,hz,q⟩:=h
 cases rv
 obtain⟨t,rfl⟩:=rx
 have hu:=PyProof.Rows.len_upper z
 have hf:Builtin.Str.tooLong (Txt.upper z).length=false:=decide_eq_false (Nat.not_lt.mpr (Nat.le_trans hu (Nat.le_trans (Nat.mul_le_mul_left 3 hz) (by decide))))
 exact PySem.W.KXw.upper rfl hf fun t' k=>⟨.str _,H,I.tok _,⟨_,rfl⟩,q _ hu⟩
theorem ET(a:Array Nat):∀ (n:Nat) (b:Array Nat),((List.replicate n a).foldl (· ++ ·) b).size=b.size+n * a.size
 | 0,b=>by simp
 | n+1,b=>by
  rw[List.replicate_succ,List.foldl_cons,ET a n (b++a),Array.size_append,Nat.add_mul]
  omega
theorem pY:bf X (binaryOp .Mult) (fun x y H Q=>∃ z n,x = .str z/\y = .int n/\z.length=1/\2<=n/\n<=1000/\∀ y:PySem.Str,(y.length:Int)<=n->Q (.str y) H):=by
 intro pins s σ H x y v u Q I rx ry h
 obtain⟨z,n,rfl,rfl,hz,h1,h2,q⟩:=h
 obtain⟨t,rfl⟩:=rx
 obtain⟨t',rfl⟩:=ry
 have hs:z.cps.size=1:=hz
 refine P.mul_str (by rw[decide_eq_false (by omega),decide_eq_false (by omega)];rfl) (fun c c=>?_) (fun c c=>?_) ?_
 ·rw[hz]
  have:(2 ^ 63-1) / n ≥ 1:=Int.le_ediv_of_mul_le (by omega) (by omega)
  omega
 ·refine decide_eq_false (Nat.not_lt.mpr ?_)
  rw[hz,Nat.one_mul]
  exact Nat.le_trans (show n.toNat<=1000 by omega) (by decide)
 ·rw[if_neg (by omega),if_neg (by rw[hz];simp;omega)]
  have hl:((List.replicate n.toNat z.cps).foldl (· ++ ·) #[]).size=n.toNat:=by rw[ET,hs];simp
  refine⟨?_,.str _,H,I.tok _,⟨_,rfl⟩,q _ ?_⟩
  ·show ((List.replicate n.toNat z.cps).foldl (· ++ ·) #[]).size<=_
   rw[hl]
   exact Nat.le_trans (show n.toNat<=1000 by omega) (by decide)
  ·show (((List.replicate n.toNat z.cps).foldl (· ++ ·) #[]).size:Int)<=_
   rw[hl]
   omega
end
end Gz
namespace Gz
open PySem PySem.Spec PyProof.Rows L2
def dg(row:V->List V)(tt:TT):TT:=fun σ H Q=>match σ with
 | some v::ρ=>tt ((row v).map some++ρ) H Q
 | _=>False
def NK(row:V->List V)(te:TE):TE:=fun σ H Q=>match σ with
 | some v::ρ=>te ((row v).map some++ρ) H Q
 | _=>False
section
variable{K:PySem.W.Frag}{ρ:L2.St}{tt:TT}{te:TE}{H:Hp}{Q:VK}{a:Addr}{xs:List V}{row:V->List V}
end
end Gz
namespace Gz
open PySem PySem.Spec PyProof.Rows L2
end Gz
namespace Gz
open PySem PySem.Spec PyProof.Rows L2
section
variable{prog:Program}{w:World}{A:Around}{E:Value->Shared->Prop}{s:Shared}
end
section
variable{X:Cx}{pos:Pos}
end
end Gz
namespace Gz
open PySem PySem.Spec PyProof.Rows L2
section
variable{X:Cx}{e st:Expr}{te ts:TE}{p2 pos:Pos}
end
end Gz
namespace Gz
open PySem L2 PySem.W PySem.Spec PyProof.Rows
noncomputable def pre(f:P2->Int)(ps:List P2)(i:Nat):Int:=((ps.take i).map f).sum
noncomputable def pZ(ps:List P2)(i j:Nat):Int:=if i<=j then pre (·.2) ps j-pre (·.2) ps i else pre (·.1) ps j-pre (·.1) ps i
noncomputable def part(ps:List P2)(i j k:Nat):Int:=if i<j then pre (·.2) ps (min i j+k)-pre (·.2) ps i else pre (·.1) ps j-pre (·.1) ps (min i j+k)
end Gz
namespace Gz
open PySem L2
def xI(s:S2)(x:Int):Prop:=(∀ a,s.1=some a->a<=x)/\∀ b,s.2=some b->x<=b
def EU(w:W2)(x:Int):Prop:=∃ s,w=some s/\xI s x
def gi(w:W2):Prop:=∀ s,w=some s->dw s.1 s.2=false
abbrev Mk:=Nat × S2
def meets(ms:List Mk)(c:Nat->Int):Prop:=∀ m∈ms,xI m.2 (c m.1)
structure EV(ps:List P2)(ms:List Mk)(tp:Nat->Option P2):Prop where
 val:∀ t v k,t<=ps.length->tp t=some (v,k)->∃ (i:Nat) (m:Mk) (h:Int),k=(i:Int)/\ms[i]?=some m/\m.2.2=some h/\h+pZ ps m.1 t<=v
 top:∀ m∈ms,∀ h,m.2.2=some h->∃ v k,tp m.1=some (v,k)/\v<=h
 fwd:∀ t v k,t<ps.length->tp t=some (v,k)->∃ v' k',tp (t+1)=some (v',k')/\v'<=v+(dB ps t).2
 bwd:∀ t v k,t<ps.length->tp (t+1)=some (v,k)->∃ v' k',tp t=some (v',k')/\v'<=v-(dB ps t).1
def xJ(ps:List P2)(a b:Mk):Prop:=∃ h l,a.2.2=some h/\b.2.1=some l/\h+pZ ps a.1 b.1<l
noncomputable def EW(a b:P2):Bool:=decide (a.1<b.1) || (decide (a.1=b.1) && decide (a.2<b.2))
noncomputable def gR(a b:P2):P2:=if EW b a=true then b else a
noncomputable def mh:Option P2->Option P2->Option P2
 | none,b=>b
 | some a,none=>some a
 | some a,some b=>some (gR a b)
theorem xK(a b:P2):(gR a b=a∨gR a b=b)/\(gR a b).1<=a.1/\(gR a b).1<=b.1:=by
 unfold gR EW
 split
 ·rename_i h
  simp only[Bool.or_eq_true,Bool.and_eq_true,decide_eq_true_eq] at h
  exact⟨.inr rfl,by lia,by lia⟩
 ·rename_i h
  simp only[Bool.or_eq_true,Bool.and_eq_true,decide_eq_true_eq,not_or,not_and] at h
  exact⟨.inl rfl,by lia,by lia⟩
theorem NL(a b:Option P2):mh a b=a∨mh a b=b:=by
 rcases a with y|a<;>rcases b with y|b
 ·exact .inl rfl
 ·exact .inr rfl
 ·exact .inl rfl
 ·show some (gR a b)=some a∨some (gR a b)=some b
  rcases (xK a b).1 with h|h<;>rw[h]
  ·exact .inl rfl
  ·exact .inr rfl
def mi(a:Option P2)(v:Int):Prop:=∃ w k,a=some (w,k)/\w<=v
theorem NM{a b:Option P2}{v:Int}(h:mi a v):mi (mh a b) v:=by
 obtain⟨w,k,rfl,hw⟩:=h
 rcases b with y|b
 ·exact⟨w,k,rfl,hw⟩
 ·have:=(xK (w,k) b).2.1
  exact⟨(gR (w,k) b).1,(gR (w,k) b).2,rfl,by dsimp only at this;lia⟩
theorem NN{a b:Option P2}{v:Int}(h:mi b v):mi (mh a b) v:=by
 obtain⟨w,k,rfl,hw⟩:=h
 rcases a with y|a
 ·exact⟨w,k,rfl,hw⟩
 ·have:=(xK a (w,k)).2.2
  exact⟨(gR a (w,k)).1,(gR a (w,k)).2,rfl,by dsimp only at this;lia⟩
def nW(ps:List P2)(ms:List Mk)(t:Nat)(a:Option P2):Prop:=∀ v k,a=some (v,k)->∃ (i:Nat) (m:Mk) (h:Int),k=(i:Int)/\ms[i]?=some m/\m.2.2=some h/\h+pZ ps m.1 t<=v
theorem nW.NO{ps:List P2}{ms:List Mk}{t:Nat}{a b:Option P2}(ha:nW ps ms t a)(hb:nW ps ms t b):nW ps ms t (mh a b):=by
 rcases NL a b with h|h<;>rw[h]
 ·exact ha
 ·exact hb
theorem NP(ps:List P2)(t:Nat):pZ ps t t=0:=by unfold pZ;rw[if_pos (Nat.le_refl _)];lia
noncomputable def t7(tp:Nat->Option P2)(i:Nat)(x:Option P2):Nat->Option P2:=fun t=>if t=i then x else tp t
theorem xM{tp:Nat->Option P2}{i:Nat}{x:Option P2}:t7 tp i x i=x:=if_pos rfl
theorem EX{tp:Nat->Option P2}{i t:Nat}{x:Option P2}(h:t≠i):t7 tp i x t=tp t:=if_neg h
theorem NQ{tp:Nat->Option P2}{i t:Nat}{b:Option P2}{v:Int}(h:mi (tp t) v):mi (t7 tp i (mh (tp i) b) t) v:=by
 by_cases e:t=i
 ·subst e;rw[xM];exact NM h
 ·rw[EX e];exact h
structure T1(ps:List P2)(ms:List Mk)(j:Nat)(tp:Nat->Option P2):Prop where
 val:∀ t,t<=ps.length->nW ps ms t (tp t)
 top:∀ m∈ms.take j,∀ h,m.2.2=some h->mi (tp m.1) h
theorem T1.nil{ps:List P2}{ms:List Mk}:T1 ps ms 0 fun y=>none:=⟨fun y y y y e=>(nomatch e),fun y h=>by simp at h⟩
theorem T1.put{ps:List P2}{ms:List Mk}{j:Nat}{tp:Nat->Option P2}{m:Mk}{h:Int}(T:T1 ps ms j tp)(hm:ms[j]?=some m)(hh:m.2.2=some h):T1 ps ms (j+1) (t7 tp m.1 (mh (tp m.1) (some (h,(j:Int))))):=by
 have hv:nW ps ms m.1 (some (h,(j:Int))):=fun v k e=>by
  cases e
  exact⟨j,m,h,rfl,hm,hh,by rw[NP];lia⟩
 refine⟨fun t ht=>?_,fun q hq x e=>?_⟩
 ·by_cases e:t=m.1
  ·subst e;rw[xM];exact (T.val _ ht).NO hv
  ·rw[EX e];exact T.val t ht
 ·rw[List.take_succ,hm] at hq
  rcases List.mem_append.mp hq with z|z
  ·exact NQ (T.top q z x e)
  ·obtain rfl:q=m:=by simpa using z
   rw[hh] at e
   cases e
   rw[xM]
   exact NN ⟨h,j,rfl,Int.le_refl _⟩
theorem EV.xJ{ps:List P2}{ms:List Mk}{tp:Nat->Option P2}(T:EV ps ms tp){b:Mk}{v k l:Int}(hb:b.1<=ps.length)(e:tp b.1=some (v,k))(hl:b.2.1=some l)(hv:v<l):∃ (i:Nat) (a:Mk),k=(i:Int)/\ms[i]?=some a/\xJ ps a b:=by
 obtain⟨i,m,h,e1,e2,e3,h4⟩:=T.val _ v k hb e
 exact⟨i,m,e1,e2,h,l,e3,hl,by lia⟩
end Gz
namespace Gz
open PySem L2
end Gz
namespace Gz
open PySem PySem.Spec PyProof.Rows L2
theorem vU{us:List Value}{ns:List Int}(h:IntsAre us ns):Vals (ns.map V.int) us:=by
 induction h with
 | nil=>exact .nil
 | cons n t r ih=>exact .cons ⟨t,rfl⟩ ih
abbrev NR(H:Hp)(v:V)(s:S2):Prop:=bW H v s.1 s.2
theorem dC.all:∀ {H:Hp} {xs:List V} {ss:List S2},dC H xs ss->aD (NR H) xs ss
 | _,[],[],_=>trivial
 | _,_::_,_::_,h=>⟨h.1,dC.all h.2⟩
 | _,[],_::_,h=>h.elim
 | _,_::_,[],h=>h.elim
noncomputable def cellsFrom:En->List Int->List S2
 | lo,[]=>[(lo,none)]
 | lo,z::zs=>(lo,some (z-1))::cellsFrom (some z) zs
end Gz
namespace Gz
open PySem PySem.Spec PyProof.Rows L2
end Gz
namespace Gz
open PySem PySem.Spec PyProof.Rows L2
end Gz
namespace Gz
open PySem PySem.Spec PyProof.Rows L2
theorem map_some{α β:Type}{f:α->Option β}:∀ (l:List α),(l.map f).filterMap id=l.filterMap f
 | []=>rfl
 | a::l=>by
  rw[List.map_cons,List.filterMap_cons,List.filterMap_cons,map_some l]
  rfl
end Gz
namespace Gz
open PySem PySem.Spec PyProof.Rows L2
theorem nE.trans{p q r:S2}(hq:DI q)(h:nE p q)(h':nE q r):nE p r:=by
 obtain⟨a,b,e1,e2,h1⟩:=h
 obtain⟨c,d,e3,e4,h2⟩:=h'
 unfold DI at hq
 rw[e2,e3] at hq
 have:b<=c:=by simpa [dw] using hq
 exact⟨a,d,e1,e4,by lia⟩
theorem dn{α:Type}{R:α->α->Prop}:∀ {l:List α},l.Pairwise R->∀ {p q:α},p∈l->q∈l->p=q∨R p q∨R q p
 | [],_,_,_,h,_=>by cases h
 | x::l,h,p,q,hp,hq=>by
  have h1:=List.pairwise_cons.mp h
  rcases List.mem_cons.mp hp with e1|i1<;>rcases List.mem_cons.mp hq with e2|i2
  ·exact .inl (e1.trans e2.symm)
  ·rw[e1];exact .inr (.inl (h1.1 q i2))
  ·rw[e2];exact .inr (.inr (h1.1 p i1))
  ·exact dn h1.2 i1 i2
end Gz
namespace Gz
open PySem PySem.Spec PyProof.Rows L2
local macro_rules | `(tactic| walk_at "om") => `(tactic| ((try simp only [PySem.Addr] at *); lia))
section
variable{prog:Program}{w:World}{A:Around}{E:Value->Shared->Prop}{s:Shared}
end
end Gz
namespace Gz
open PySem PySem.Spec PyProof.Rows L2
local macro_rules | `(tactic| walk_at "om") => `(tactic| ((try simp only [PySem.Addr] at *); lia))
section
variable{X:Cx}{pins:List (Addr × Obj)}{σ:L2.St}{H:Hp}{s:Shared}{a:Addr}{kvs:List (List Key × V)}{o:Obj}{u u':HO}
end
theorem NS{H:Hp}{a p:Addr}{u v w:HO}(e:H a=some u)(h:H p=some v)(ne:v≠u):upd H a w p=some v:=by rw[aO (mS h e ne)];exact h
section
variable{H H0 H1:Hp}{a p:Addr}{kvs:List (List Key × V)}{o:Obj}
theorem NT{xs:List V}(e:H a=some (.dT kvs))(h:H p=some (.tup xs)){u:HO}:upd H a u p=some (.tup xs):=NS e h fun z=>nomatch z
theorem bW.dZ{v:V}{x y:En}(h:bW H v x y)(e:H a=some (.dT kvs)){u:HO}:bW (upd H a u) v x y:=let ⟨t,e1,h1⟩:=h;⟨t,e1,NT e h1⟩
theorem bP.dZ{tb:Tb}(h:bP H kvs tb)(e:H a=some (.dT kvs)){u:HO}:bP (upd H a u) kvs tb:=h.imp fun y y y z=>z.dZ e
end
theorem fZ.z{H:Hp}{a b:Addr}{kvs:List (List Key × V)}{k:List Key}{o:Obj}(e:H a=some (.dZ o (.dT kvs)))(eb:H b=some (.tup (k.map kV))):fZ H a (.ref b) (bX kvs k):=.inr ⟨kvs,k,b,.inr ⟨o,e⟩,rfl,eb,rfl⟩
end Gz
namespace Gz
open PySem PySem.Spec PyProof.Rows L2
end Gz
namespace Gz
open PySem PySem.Spec PyProof.Rows L2
section
variable{X:Cx}{pos:Pos}
end
end Gz
namespace Gz
open PySem PySem.Spec PyProof.Rows L2
end Gz
namespace Gz
open PySem PySem.Spec PyProof.Rows L2
end Gz
namespace Gz
open PySem PySem.Spec PyProof.Rows L2
abbrev Cl:=(En × Nat) × (En × Nat)
noncomputable def EY(e:Int)(c:Cl):Bool:=decide (c.1.1=some e) || decide (c.2.1=some e)
noncomputable def wo(e:Int)(cs:List Cl):List Cl:=cs.filter fun c=>!EY e c
def lD:Nat->List Cl->Prop
 | 0,_=>True
 | _+1,[]=>False
 | n+1,c::cs=>∀ e,EY e c=true->lD n (wo e (c::cs))
abbrev Gp:=En × List Mk
def xN(ps:List P2)(g h:Gp)(cs:List Cl):Prop:=∀ m∈g.2,∀ n∈h.2,xJ ps m n->∃ c∈cs,c.1.1=g.1/\c.2.1=h.1
theorem xN.more{ps:List P2}{g h:Gp}{cs ds:List Cl}(x:xN ps g h cs):xN ps g h (cs++ds):=fun m hm n hn hc=>let ⟨c,h1,h2⟩:=x m hm n hn hc;⟨c,List.mem_append_left _ h1,h2⟩
end Gz
namespace Gz
open PySem PySem.Spec PyProof.Rows L2
end Gz
namespace Gz
open PySem L2
end Gz
namespace Gz
open PySem PySem.Spec PyProof.Rows L2
end Gz
namespace Gz
open PySem
theorem slot1{t:SetTable}{q:Nat}(hp:t.place = #[q])(hd:t.dummies = #[])(j:Nat):t.slot j=if q=j then .live 0 else .empty:=by
 unfold SetTable.slot SetTable.has
 rw[hp,hd]
 simp only[SetTable.below,SetTable.below.go,List.size_toArray,List.length_cons,List.length_nil]
 by_cases h:q<j
 ·have:q≠j:=by lia
  simp[h,this]
 ·by_cases e:q=j<;>simp[h,e]
theorem EZ{t:SetTable}{q:Nat}(hp:t.place = #[q])(hd:t.dummies = #[])(hm:t.mask=7){f:Nat->Int}{h:Int}(hf:∀ i,(f i == h)=false) :
 ∀ (n m:Nat) (p:SetTable.Probe),p.more=0->p.j=p.i->p.dummy=none->p.perturb<32 ^ n->p.i<=7->∃ j,j≠q/\SetTable.probe.go t f h (n+(m+2)) p=some (.empty j none)
 | n,m,⟨j,mo,i,pe,du⟩,h1,h2,h3,h4,h5=>by
  dsimp only at h1 h2 h3 h4 h5
  subst h1 h3
  obtain rfl:i=j:=h2.symm
  have ad:t.advance ⟨i,0,i,pe,none⟩=⟨(i * 5+1+pe / 32) % 8,0,(i * 5+1+pe / 32) % 8,pe / 32,none⟩:=by
   simp[SetTable.advance,SetTable.leap,hm,SetTable.runEnd]
  have le:(i * 5+1+pe / 32) % 8<=7:=by lia
  by_cases e:q=i
  ·cases n with
   | zero =>
    have z:(i * 5+1+pe / 32) % 8≠q:=by lia
    refine⟨_,z,?_⟩
    rw[show 0+(m+2)=(m+1)+1 by lia,SetTable.probe.go,slot1 hp hd,if_pos e]
    simp only[hf,Bool.false_eq_true,if_false]
    rw[ad,SetTable.probe.go,slot1 hp hd,if_neg (Ne.symm z)]
   | succ n =>
    obtain⟨j,j1,j2⟩:=EZ hp hd hm hf n m ⟨_,0,_,pe / 32,none⟩ rfl rfl rfl (by dsimp only;rw[Nat.pow_succ] at h4;exact Nat.div_lt_of_lt_mul (by lia)) le
    refine⟨j,j1,?_⟩
    rw[show n+1+(m+2)=(n+(m+2))+1 by lia,SetTable.probe.go,slot1 hp hd,if_pos e]
    simp only[hf,Bool.false_eq_true,if_false]
    rw[ad];exact j2
  ·refine⟨i,Ne.symm e,?_⟩
   rw[show n+(m+2)=(n+m+1)+1 by lia,SetTable.probe.go,slot1 hp hd,if_neg e]
structure iS(t:SetTable)(L:List (Nat × Int × Value)):Prop where
 pl:t.place=(L.map (·.1)).toArray
 du:t.dummies = #[]
 ma:t.mask=7
 sh:L=[]∨(∃ a,L=[a]) ∨ ∃ a b,L=[a,b]/\a.1<b.1
section
variable{t:SetTable}{L:List (Nat × Int × Value)}
theorem iS.fits(k:iS t L):t.fits (L.map (·.2)).toArray.size=true:=by
 obtain⟨h1,h2,h3,h4⟩:=k
 rcases h4 with rfl|⟨a,rfl⟩|⟨a,b,rfl,y⟩<;>simp[SetTable.fits,SetTable.fill,h1,h2,h3]
theorem iS.zero(k:iS t L):SetTable.below t.place 0=0:=by
 obtain⟨h1,h2,h3,h4⟩:=k
 rcases h4 with rfl|⟨a,rfl⟩|⟨a,b,rfl,y⟩<;>simp[h1,SetTable.below,SetTable.below.go]
theorem iS.free(k:iS t L)(hl:L.length<=1)(h:Int):∃ j,t.freeSlot h=some (j,false)/\j∉L.map (·.1):=by
 obtain⟨h1,h2,h3,h4⟩:=k
 rcases h4 with rfl|⟨a,rfl⟩|⟨a,b,rfl,y⟩
 ·refine⟨SetTable.bits h % 8,?_,fun hx=>nomatch hx⟩
  simp[SetTable.freeSlot,SetTable.probe,SetTable.turns,SetTable.probeStart,h3,SetTable.probe.go,SetTable.slot,SetTable.has,h1,h2,SetTable.below,SetTable.below.go]
 ·have bt:SetTable.bits h<2 ^ 64:=by unfold SetTable.bits;lia
  obtain⟨j,j1,j2⟩:=EZ (q:=a.1) h1 h2 h3 (f:=fun y=>h+1) (h:=h) (fun y=>by simp;lia) 13 205 (t.probeStart h) (by simp[SetTable.probeStart,h3,SetTable.runEnd]) rfl rfl (Nat.lt_of_lt_of_le bt (by decide)) (by simp only[SetTable.probeStart,h3];lia)
  refine⟨j,?_,by simpa using j1⟩
  unfold SetTable.freeSlot SetTable.probe SetTable.turns
  rw[h3,j2];rfl
 ·simp at hl
theorem iS.put(k:iS t L)(hl:L.length<=1){j:Nat}(hj:j∉L.map (·.1))(h:Int)(x:Value) :
 ∃ t' p L',t.put j=(t',p)/\iS t' L'/\SetTable.insertAt (L.map (·.2)).toArray p (h,x)=(L'.map (·.2)).toArray/\t'.led=t.led/\t'.plain=t.plain/\t'.fill=L.length+1/\L'.Perm ((j,h,x)::L):=by
 obtain⟨h1,h2,h3,h4⟩:=k
 rcases h4 with rfl|⟨a,rfl⟩|⟨a,b,rfl,y⟩
 ·refine⟨_,_,[(j,h,x)],rfl,⟨?_,?_,h3,.inr (.inl ⟨_,rfl⟩)⟩,?_,rfl,rfl,?_,.refl _⟩<;>simp[SetTable.fill,SetTable.has,SetTable.insertAt,h1,h2,SetTable.below,SetTable.below.go]
 ·have hj:j≠a.1:=by simpa using hj
  by_cases z:a.1<j
  ·refine⟨_,_,[a,(j,h,x)],rfl,⟨?_,?_,h3,.inr (.inr ⟨_,_,rfl,z⟩)⟩,?_,rfl,rfl,?_,.swap _ _ _⟩<;>simp[SetTable.fill,SetTable.has,SetTable.insertAt,h1,h2,SetTable.below,SetTable.below.go,z]
  ·refine⟨_,_,[(j,h,x),a],rfl,⟨?_,?_,h3,.inr (.inr ⟨_,_,rfl,show j<a.1 by lia⟩)⟩,?_,rfl,rfl,?_,.refl _⟩<;>simp[SetTable.fill,SetTable.has,SetTable.insertAt,h1,h2,SetTable.below,SetTable.below.go,z]
 ·simp at hl
end
end Gz
namespace Gz
open PySem PySem.Spec PyProof.Rows L2
section
variable{prog:Program}{w:World}{A:Around}{E:Value->Shared->Prop}{s:Shared}{d I:Addr}{ep:Nat}{t:SetTable}
end
section
variable{X:Cx}
end
end Gz
namespace Gz
open PySem PySem.Spec PyProof.Rows L2
def xO(h:Heap)(a:Addr)(p:P2):Prop:=∃ o t u n,h.get? a=some o/\o.cls = .type "tuple" /\ o.data = .seq #[.int p.1 t,.int p.2 u] n
theorem xO.keep{h h':Heap}{a:Addr}{p:P2}(x:xO h a p)(k:∀ o,h.get? a=some o->h'.get? a=some o):xO h' a p:=let ⟨o,t,u,n,e,r⟩:=x;⟨o,t,u,n,k o e,r⟩
section
variable{prog:Program}{w:World}{A:Around}{E:Value->Shared->Prop}{s:Shared}
end
section
variable{X:Cx}
end
end Gz
namespace Gz
open PySem PySem.Spec PyProof.Rows L2
local macro_rules | `(tactic| walk_at "om") => `(tactic| ((try simp only [PySem.Addr] at *); lia))
section
variable{prog:Program}{w:World}{A:Around}{E:Value->Shared->Prop}{s:Shared}
end
end Gz
namespace Gz
open PySem PySem.Spec PyProof.Rows L2
local macro_rules | `(tactic| walk_at "om") => `(tactic| ((try simp only [PySem.Addr] at *); lia))
section
variable{prog:Program}{w:World}{A:Around}{E:Value->Shared->Prop}{s:Shared}
end
end Gz
namespace Gz
open PySem PySem.Spec PyProof.Rows L2
section
variable{prog:Program}{w:World}{A:Around}{E:Value->Shared->Prop}{s:Shared}
theorem NU{h:Heap}{S:Addr}{o:Obj}{es es':Array (Int × Value)}{ep:Nat}{t t':SetTable}(g1:h.get? S=some o)(g3:o.data = .set es ep t) :
 (h.update S (Obj.putSet es' t')).get? S=some { o with data:=.set es' (ep+1) t' }:=by
 have:=Heap.get?_update_self (Obj.putSet es' t') g1 (by rw[putSet_of es' t' g3];rfl)
 rw[putSet_of es' t' g3] at this
 exact this
theorem NV{α β:Type}{f:α->β}:∀ {xs:List α} {l:List β},l.Perm (xs.map f)->∃ ys:List α,l=ys.map f/\ys.Perm xs:=by
 intro xs l h
 generalize hz:xs.map f=z at h
 induction h generalizing xs with
 | nil=>exact⟨[],rfl,by cases xs with|nil=>exact .nil|cons=>cases hz⟩
 | @cons a l1 l2 p ih =>
  cases xs with
  | nil=>cases hz
  | cons x xs =>
   obtain⟨e1,e2⟩:=List.cons.inj hz
   obtain⟨ys,rfl,q⟩:=ih e2
   exact⟨x::ys,by rw[<- e1];rfl,q.cons x⟩
 | swap a b l =>
  cases xs with
  | nil=>cases hz
  | cons x xs =>
   cases xs with
   | nil=>simp at hz
   | cons y xs =>
    simp only[List.map_cons,List.cons.injEq] at hz
    obtain⟨e1,e2,e3⟩:=hz
    exact⟨y::x::xs,by simp[e1,e2,e3],.swap x y xs⟩
 | trans p q wC wD =>
  obtain⟨ys,e,r⟩:=wD hz
  obtain⟨zs,e',r'⟩:=wC e.symm
  exact⟨zs,e',r'.trans r⟩
end
section
variable{prog:Program}{w:World}{A:Around}{E:Value->Shared->Prop}{s:Shared}{S I:Addr}{o:Obj}{ep:Nat}{t:SetTable}{L:List (Nat × Int × Value)}
end
section
variable{prog:Program}{w:World}{A:Around}{E:Value->Shared->Prop}{s:Shared}
noncomputable abbrev mj(m:Int × PySem.Tok):Int × Value:=(hashInt m.1,.int m.1 m.2)
def E1(h:Heap)(S:Addr)(M:List (Int × PySem.Tok))(led:Bool):Prop :=
 ∃ o ep t L,h.get? S=some o/\o.cls = .type "set" /\ o.data = .set (L.map (·.2)).toArray ep t/\iS t L/\t.led=led/\t.plain=true/\L.map (·.2)=M.map mj
theorem NW(prog:Program)(w:World){M:List (Int × PySem.Tok)}:ElemsOf (intKind prog w) (M.map mj):=fun e he=>by
 obtain⟨m,y,rfl⟩:=List.mem_map.mp he
 exact⟨⟨m.1,by simp[intKind,Value.isInt],rfl⟩,rfl⟩
theorem add_int{S:Addr}{k:Int}{tt:PySem.Tok}{M:List (Int × PySem.Tok)}{led:Bool}{Q:Bool->Shared->Prop}(hS:E1 s.heap S M led)(hlen:M.length<2)
 (h0:k∈M.map (·.1)->Q false s)
 (h1:k∉M.map (·.1)->∀ h' M',Heap.SameBut S s.heap h'->E1 h' S M' led->M'.Perm ((k,tt)::M)->Q true { s with heap:=h' }) :
 wpAny (model prog w) A (setAddHashed S (.int k tt) (hashInt k)) Q E s:=by
 obtain⟨o,ep,t,L,g1,g2,g3,tk,g4,g5,g7⟩:=hS
 have Vl:L.length=M.length:=by have:=congrArg List.length g7;simpa using this
 have E2:ElemsOf (intKind prog w) (L.map (·.2)).toArray.toList:=by rw[List.toList_toArray,g7];exact NW prog w
 unfold setAddHashed setAddHashedIn
 refine wpAny_holding (wpAny_bind (wpAny_setState_of g1 g3 tk.fits ?_))
 dsimp only
 rw[byScan_of (knd:=intKind prog w) rfl (by rw[List.size_toArray,List.length_map];unfold scanBound;lia) E2]
 simp only[if_true]
 unfold setAddByScan
 refine wpAny_bind (wpAny_bind (wpAny_rule ?_))
 refine wpAny_bind (wpAny_setScan_of (knd:=intKind prog w) (k:=k) (by simp[intKind,Value.isInt]) g1 g3 tk.fits E2 ?_)
 rw[List.toList_toArray,g7]
 by_cases nk:k∈M.map (·.1)
 ·obtain⟨m,hm,hmk⟩:=List.mem_map.mp nk
  cases hf:List.findIdx? (fun e=>(intKind prog w).is k e.2) (M.map mj) with
  | none =>
   have:=List.findIdx?_eq_none_iff.mp hf (mj m) (List.mem_map.mpr ⟨m,hm,rfl⟩)
   rw[<- hmk] at this
   simp[intKind,Value.isInt] at this
  | some j =>
   dsimp only
   exact wpAny_pure (wpAny_pure (h0 nk))
 ·have hf:List.findIdx? (fun e=>(intKind prog w).is k e.2) (M.map mj)=none:=by
   refine List.findIdx?_eq_none_iff.mpr fun e he=>?_
   obtain⟨m,hm,rfl⟩:=List.mem_map.mp he
   simp only[intKind,Value.isInt]
   exact beq_eq_false_iff_ne.mpr fun z=>nk (List.mem_map.mpr ⟨m,hm,z⟩)
  rw[hf]
  dsimp only
  obtain⟨j,j0,j1⟩:=tk.free (by lia) (hashInt k)
  obtain⟨t',p,L',p1,p2,p3,p5,p6,p7,hperm⟩:=tk.put (by lia) j1 (hashInt k) (Value.int k tt)
  have NX:layNew t (M.map mj).toArray (hashInt k) (.int k tt)=((L'.map (·.2)).toArray,t',false,false):=by
   rw[<- g7]
   unfold layNew
   rw[j0]
   dsimp only
   rw[p1,p3]
   have:=p2.fits
   unfold SetTable.orStandIn
   rw[this]
   rfl
  rw[NX]
  dsimp only
  refine wpAny_bind ?_
  show wpAny _ _ (pure ()) _ _ _
  refine wpAny_pure ?_
  rw[p6,g5]
  simp only[if_true]
  refine wpAny_bind ?_
  rw[hashByValue_scannable 8 (show (Value.int k tt).scannable=true from rfl)]
  refine wpAny_pure ?_
  rw[show plainKind (Value.int k tt)=true from rfl]
  simp only[if_true]
  have hsz:(L'.map (·.2)).toArray.size<=sizeLine:=by
   have:=hperm.length_eq
   simp at this ⊢
   rw[this]
   exact Nat.le_trans (show _<=64 by lia) (by decide)
  refine wpAny_bind (wpAny_storeSet_of g1 g3 ?_ hsz)
  have gS:=NU (es':=(L'.map (·.2)).toArray) (t':=t') g1 g3
  have NY:=Heap.SameBut.update s.heap S (Obj.putSet (L'.map (·.2)).toArray t')
  have NZ:(L'.map (·.2)).Perm (((k,tt)::M).map mj):=by
   refine (hperm.map (·.2)).trans ?_
   simp only[List.map_cons,g7]
   exact .refl _
  have N0:t'.tooFull=false:=by
   unfold SetTable.tooFull
   rw[p7,p2.ma]
   simp
   lia
  rw[N0]
  simp only[Bool.and_false,Bool.false_eq_true,if_false]
  obtain⟨M',e1,e2⟩:=NV NZ
  exact wpAny_pure (wpAny_pure (h1 nk _ M' NY ⟨_,_,t',_,gS,g2,rfl,p2,p5.trans g4,p6.trans g5,e1⟩ e2))
end
section
variable{X:Cx}
end
end Gz
namespace Gz
open PySem PySem.Spec PyProof.Rows L2
end Gz
namespace Gz
open PySem PySem.Spec PyProof.Rows L2
def xP(sw gw:List W2)(tb:Tb)(m:Int)(L:List Int)(c:Nat->Int):Prop:=(L.length:Int)<=m/\(∀ (j:Nat) w,sw[j]?=some w->EU w (c (j+1)-c j))/\(∀ (j:Nat) w,gw[j]?=some w->EU w (c j))/\∀ r∈tb,r.1.1∉L->xI r.2 (c r.1.2.toNat)
theorem xP.of{sw gw:List W2}{tb ic:Tb}{m:Int}{L:List Int}{c:Nat->Int}(h:xP sw gw tb m L c)(s:∀ r∈ic,r∈tb):xP sw gw ic m L c:=⟨h.1,h.2.1,h.2.2.1,fun r hr=>h.2.2.2 r (s r hr)⟩
end Gz
namespace t8
open PySem L2 Gz
local macro_rules | `(tactic| walk_at "gzd") => `(tactic| dsimp only [seval, Nat.reduceAdd, Nat.reduceSub, ↓reduceIte, rS, rT, sf, jW, BH, ve, tC, BC, BA, oQ, ly, vF, sr, o6, m7, Bo, Bp, tB, Br, Bs, Bu, Bv, Bw, Bx, By, BB, rI, fG, rU, BM, BN, Ky, Kz, KA, KC, KG, Kr, Ks, Kt, Ku, Kv, Kw, ite_tt, ite_ff, L2.start, KH, KI, List.map_cons, List.map_nil, List.length_cons, List.length_nil, List.replicate, List.nil_append, List.cons_append, List.getElem?_cons_zero, List.getElem?_cons_succ, List.set_cons_zero, List.set_cons_succ, Bool.not_true, Bool.not_false, B1, B2, Ct, Cs, Cw, KJ, KL, KN, v9, LA, LW, wa, vm, vk, CW, BE, Cq, Dx, vo, vn, LK, LL, BZ, B0, vC, B3, Cg, Ce, Cf, vK, Cy, LF, LG, LH, vw, K9, wz, Dq, Ds, D4, My, Mz, MA, MB, MC, MD, ME, MF, MG, MH, MI, MO, MJ, MK, ML, MM, MN, pR, tN, xp, xq, D5, nM, D9, Ea, MR, MS, MT, MU, MV, MW, MX, MY, MZ, M0, M1, M3, M4, Eb, Ec, Ee, Ef, Eg, Eh, Ei, Ej, EJ, DG, DH, DK, IG, IF, L9, Nh, EB, EC, xC, wL, dg, NK])
local macro_rules | `(tactic| walk_at "gzs") => `(tactic| simp only [seval, Nat.reduceAdd, Nat.reduceSub, reduceCtorEq, ↓reduceIte, ite_tt, ite_ff, List.map_cons, List.map_nil, List.length_cons, List.length_nil, List.nil_append, List.cons_append, Option.some.injEq, V.int.injEq, V.bl.injEq, V.ref.injEq, List.cons.injEq, exists_eq_left, exists_eq_left', exists_and_left, true_and, and_true, decide_eq_true_eq, Nat.zero_add, Nat.sub_self, Nat.add_one_sub_one, decide_true, decide_false, Bool.not_eq_true', decide_eq_false_iff_not, false_and, exists_false, and_assoc, not_false_eq_true, not_true_eq_false, List.append_nil, Option.join_some])
local macro_rules | `(tactic| walk_at "gzp") => `(tactic| first | (walk_at "gzd"; repeat (first | walk_at "gzs" | walk_at "gzd")) | (walk_at "gzs"; repeat (first | walk_at "gzd" | walk_at "gzs")))
local macro_rules | `(tactic| walk_at "gz") => `(tactic| try walk_at "gzp")
local macro_rules | `(tactic| walk_at "gzn") => `(tactic| try walk_at "gzp")
local macro_rules | `(tactic| walk_at "gzc") => `(tactic| (refine ⟨⟨rfl, rfl, rfl, by decide +kernel, rfl, by decide +kernel, by decide +kernel⟩, fun _ _ _ _ _ _ _ _ => ?_⟩; (repeat (refine M7 fun _ => ?_)); exact M8 rfl))
def top(i:Nat):Stmt:=PySem.Challenge.pw_gaze_k72_what_is_no_rule.main.body.getD i (.Pass ⟨0,0,0,0⟩)
abbrev xQ:Stmt:=top 7
abbrev xR:Stmt:=top 8
abbrev xS:Stmt:=top 10
abbrev xT:Stmt:=top 11
abbrev xU:Stmt:=top 16
abbrev xV:Stmt:=top 17
abbrev xW:Stmt:=top 18
abbrev xX:Stmt:=top 19
abbrev xY:Stmt:=top 20
abbrev xZ:Stmt:=top 26
abbrev x4:Stmt:=top 27
abbrev x5:Stmt:=top 28
abbrev x6:Stmt:=top 29
abbrev x8:Stmt:=inClass (top 30) 0
abbrev x9:Stmt:=inClass (top 30) 1
abbrev ya:Stmt:=inClass (top 31) 0
abbrev yb:Stmt:=inClass (top 31) 2
abbrev yc:Stmt:=inClass (top 32) 0
abbrev yd:Stmt:=inClass (top 32) 1
abbrev ye:Stmt:=inClass (top 32) 2
abbrev yf:Stmt:=inClass (top 33) 0
abbrev yg:Stmt:=inClass (top 33) 1
abbrev yh:Stmt:=inClass (top 33) 2
abbrev yi:Stmt:=inClass (top 34) 0
abbrev yj:Stmt:=inClass (top 34) 1
abbrev yn:Stmt:=inClass (top 34) 2
abbrev yo:Stmt:=inClass (top 35) 0
abbrev yp:Stmt:=inClass (top 35) 1
abbrev yq:Stmt:=inClass (top 35) 2
abbrev yr:Stmt:=inClass (top 36) 0
abbrev yt:Stmt:=inClass (top 36) 1
abbrev yu:Stmt:=inClass (top 36) 2
abbrev yw:Stmt:=inClass (top 36) 3
abbrev yx:Stmt:=inClass (top 37) 0
abbrev yy:Stmt:=inClass (top 37) 2
abbrev yz:Stmt:=inClass (top 37) 3
abbrev yA:Stmt:=inClass (top 37) 4
abbrev yB:Stmt:=inClass (top 38) 0
abbrev yC:Stmt:=inClass (top 39) 0
abbrev yD:Stmt:=inClass (top 39) 1
abbrev yE:Stmt:=inClass (top 39) 2
abbrev yF:Stmt:=inClass (top 40) 0
abbrev yG:Stmt:=inClass (top 40) 1
abbrev yH:Stmt:=inClass (top 40) 2
abbrev yI:Stmt:=inClass (top 41) 0
abbrev yJ:Stmt:=inClass (top 41) 2
abbrev yK:Stmt:=inClass (top 41) 3
abbrev yL:Stmt:=inClass (top 41) 4
abbrev yM:Stmt:=top 45
abbrev yN:Stmt:=top 46
abbrev yO:Stmt:=top 47
abbrev yP:Stmt:=top 48
abbrev yQ:Stmt:=top 49
abbrev yR:Stmt:=top 50
abbrev yS:Stmt:=top 52
abbrev yT:Stmt:=top 53
abbrev yU:Stmt:=top 54
abbrev yV:Stmt:=top 55
abbrev yW:Stmt:=top 56
abbrev yX:Stmt:=top 57
abbrev yY:Stmt:=top 58
abbrev yZ:Stmt:=top 59
abbrev y0:Stmt:=top 60
abbrev y9:Stmt:=top 61
abbrev za:Stmt:=top 62
abbrev ze:Stmt:=top 63
abbrev zf:Stmt:=top 64
abbrev zg:Stmt:=top 65
abbrev zh:Stmt:=top 66
abbrev zi:Stmt:=top 67
abbrev zj:Stmt:=top 68
abbrev zk:Stmt:=top 69
abbrev zm:Stmt:=top 70
abbrev zo:Stmt:=top 71
abbrev zp:Stmt:=top 72
theorem zq:Sc ["lo","hi"] ["lo","hi"] xQ:=by walk_at "gzc"
theorem zr:Sc ["one","number"] ["one","number"] xR:=by walk_at "gzc"
theorem zt:Sc ["course","kind","turn"] ["course","kind","turn"] xS:=by walk_at "gzc"
theorem zu:Sc ["course","claim"] ["course","claim"] xT:=by walk_at "gzc"
theorem zv:Sc ["word"] ["word"] xU:=by walk_at "gzc"
theorem t9:Sc ["word","figures"] ["word"] xV:=by walk_at "gzc"
theorem zw:Sc ["word"] ["word"] xW:=by walk_at "gzc"
theorem zx:Sc ["form","word"] ["form","word"] xX:=by walk_at "gzc"
theorem zy:Sc ["word"] ["word"] xY:=by walk_at "gzc"
theorem p8:Sc ["one","below","above"] ["one"] xZ:=by walk_at "gzc"
theorem p9:Sc ["claim","found","part"] ["claim"] x4:=by walk_at "gzc"
theorem qa:Sc ["some","others","found","one"] ["some","others"] x5:=by walk_at "gzc"
theorem zz:Sc ["first","last","one"] ["first","last","one"] x6:=by walk_at "gzc"
theorem zA:Sc ["self","course"] ["self","course"] x8:=by walk_at "gzc"
theorem zB:Sc ["self"] ["self"] x9:=by walk_at "gzc"
theorem zC:Sc ["self","first","last"] ["self","first","last"] ya:=by walk_at "gzc"
theorem zD:Sc ["self","one"] ["self","one"] yb:=by walk_at "gzc"
theorem zE:Sc ["self","first","last","stretch"] ["self","first","last","stretch"] yc:=by walk_at "gzc"
theorem zF:Sc ["self"] ["self"] yd:=by walk_at "gzc"
theorem zG:Sc ["self"] ["self"] ye:=by walk_at "gzc"
theorem zH:Sc ["self","first","last","sill"] ["self","first","last","sill"] yf:=by walk_at "gzc"
theorem zI:Sc ["self"] ["self"] yg:=by walk_at "gzc"
theorem zJ:Sc ["self"] ["self"] yh:=by walk_at "gzc"
theorem zK:Sc ["self","first","last","sill"] ["self","first","last","sill"] yi:=by walk_at "gzc"
theorem zL:Sc ["self"] ["self"] yj:=by walk_at "gzc"
theorem zM:Sc ["self"] ["self"] yn:=by walk_at "gzc"
theorem zN:Sc ["self","first","last","low","high"] ["self","first","last","low","high"] yo:=by walk_at "gzc"
theorem nX:Sc ["self","found","turn","lows"] ["self"] yp:=by walk_at "gzc"
theorem zO:Sc ["self"] ["self"] yq:=by walk_at "gzc"
theorem zP:Sc ["self","first","last","stretch"] ["self","first","last","stretch"] yr:=by walk_at "gzc"
theorem zQ:Sc ["self"] ["self"] yt:=by walk_at "gzc"
theorem zR:Sc ["self"] ["self"] yu:=by walk_at "gzc"
theorem zS:Sc ["self"] ["self"] yw:=by walk_at "gzc"
theorem zT:Sc ["self","turn"] ["self","turn"] yx:=by walk_at "gzc"
theorem zU:Sc ["self"] ["self"] yy:=by walk_at "gzc"
theorem zV:Sc ["self"] ["self"] yz:=by walk_at "gzc"
theorem zW:Sc ["self"] ["self"] yA:=by walk_at "gzc"
theorem zX:Sc ["self","one","other"] ["self","one","other"] yB:=by walk_at "gzc"
theorem zY:Sc ["self"] ["self"] yC:=by walk_at "gzc"
theorem zZ:Sc ["self"] ["self"] yD:=by walk_at "gzc"
theorem qb:Sc ["self","one","other"] ["self"] yE:=by walk_at "gzc"
theorem z6:Sc ["self"] ["self"] yF:=by walk_at "gzc"
theorem z7:Sc ["self"] ["self"] yG:=by walk_at "gzc"
theorem qc:Sc ["self","one","other"] ["self"] yH:=by walk_at "gzc"
theorem z8:Sc ["self","one"] ["self","one"] yI:=by walk_at "gzc"
theorem z9:Sc ["self"] ["self"] yJ:=by walk_at "gzc"
theorem Aa:Sc ["self"] ["self"] yK:=by walk_at "gzc"
theorem ua:Sc ["self","one"] ["self"] yL:=by walk_at "gzc"
theorem Ab:Sc ["words","place","form"] ["words","place","form"] yM:=by walk_at "gzc"
theorem iT:Sc ["words","place","parts","behind","form","inner"] ["words","place"] yN:=by walk_at "gzc"
theorem Ac:Sc ["lo","hi"] ["lo","hi"] yO:=by walk_at "gzc"
theorem Ad:Sc ["word","parts"] ["word","parts"] yP:=by walk_at "gzc"
theorem nY:Sc ["tree","word","parts"] ["tree"] yQ:=by walk_at "gzc"
theorem qd:Sc ["text","words","whole"] ["text"] yR:=by walk_at "gzc"
theorem Ae:Sc ["_law_script","_law_k","_law_prime","_law_many_here"] ["_law_script","_law_k","_law_prime","_law_many_here"] yS:=by walk_at "gzc"
theorem ue:Sc ["_law_script","_law_great_here"] ["_law_script"] yT:=by walk_at "gzc"
theorem Af:Sc ["_law_span","_law_number_here"] ["_law_span","_law_number_here"] yU:=by walk_at "gzc"
theorem gj:Sc ["_law_script","_law_k","_law_sort","_law_turns","_law_base_here","_law_first","_law_last","_law_low","_law_more","_law_open_end","_law_lo","_law_hi"] ["_law_script","_law_k","_law_sort","_law_turns","_law_base_here"] yV:=by walk_at "gzc"
theorem jB:Sc ["_law_tree","_law_course","_law_head","_law_gaps","_law_seen"] ["_law_tree","_law_course"] yW:=by walk_at "gzc"
theorem jC:Sc ["_law_tree","_law_inside","_law_left","_law_right","_law_many_here","_law_ends"] ["_law_tree"] yX:=by walk_at "gzc"
theorem nZ:Sc ["_law_tree","_law_some","_law_part"] ["_law_tree"] yY:=by walk_at "gzc"
theorem kq:Sc ["_law_script","_law_base_here","_law_many_here","_law_some","_law_k","_law_deed","_law_tree"] ["_law_script","_law_base_here","_law_many_here"] yZ:=by walk_at "gzc"
theorem qe:Sc ["_law_word","_law_figures"] ["_law_word"] y0:=by walk_at "gzc"
theorem uf:Sc ["_law_part","_law_thing_here","_law_number_here"] ["_law_part","_law_thing_here"] y9:=by walk_at "gzc"
theorem ir:Sc ["_law_text","_law_needs","_law_words","_law_stack","_law_word","_law_tree","_law_part","_law_thing_here"] ["_law_text"] za:=by walk_at "gzc"
theorem ug:Sc ["_law_tree"] ["_law_tree"] ze:=by walk_at "gzc"
theorem uh:Sc ["_law_tree"] ["_law_tree"] zf:=by walk_at "gzc"
theorem gk:Sc ["_law_text","_law_event","_law_word","e"] ["_law_text"] zg:=by walk_at "gzc"
theorem qf:Sc ["_law_text","_law_course","_law_tree","_law_found"] ["_law_text","_law_course"] zh:=by walk_at "gzc"
theorem n0:Sc ["_law_script","_law_k","_law_base_here","_law_some"] ["_law_script","_law_k","_law_base_here"] zi:=by walk_at "gzc"
theorem ui:Sc ["_law_script","_law_k","_law_some"] ["_law_script","_law_k"] zj:=by walk_at "gzc"
theorem qg:Sc ["_law_script","_law_words","_law_base_here","_law_way","_law_at","_law_turned"] ["_law_script","_law_words","_law_base_here","_law_way"] zk:=by walk_at "gzc"
theorem n3:Sc ["_law_script","_law_words","_law_base_here","_law_way","_law_text","_law_at"] ["_law_script","_law_words","_law_base_here"] zm:=by walk_at "gzc"
theorem kr:Sc ["_law_script","_law_text","_law_some","_law_last"] ["_law_script"] zo:=by walk_at "gzc"
theorem ku:Sc ["_law_script","_law_base_here","_law_grown","_law_course","_law_words"] ["_law_script"] zp:=by walk_at "gzc"
noncomputable def FORMS:List (Key × V):=[(.inr "over",.str "NNN"),(.inr "under",.str "NNN"),(.inr "stay",.str "NNEE"),(.inr "rose",.str "NNNN"),(.inr "pace",.str "NNEE"),(.inr "turn",.str "N"),(.inr "both",.str "RR"),(.inr "either",.str "RR"),(.inr "not",.str "R")]
structure E3(w:World)(K:PySem.W.Frag)(mg:Str->Option Value) where
 a:Addr
 m:mg "FORMS" = some (.ref a)
 d:∀ P:Program,xD P w K a FORMS
set_option genInjectivity false
set_option genSizeOf false
structure Tx(w:World)(K:PySem.W.Frag)(mg:Str->Option Value) where
 qh:Fn K mg "is_crossed" xQ (aR zq)
 qi:Fn K mg "holds" xR (aR zr)
 qj:Fn K mg "number_at" xS (aR zt)
 qk:Fn K mg "meets" xT (aR zu)
 ql:Fn K mg "is_figures" xU (aR zv)
 qm:Fn K mg "is_number" xV (aR t9)
 qo:Fn K mg "is_end" xW (aR zw)
 qp:Fn K mg "is_formed" xX (aR zx)
 qq:Fn K mg "end_of" xY (aR zy)
 qr:Fn K mg "outside" xZ (aR p8)
 qt:Fn K mg "failures" x4 (aR p9)
 qu:Fn K mg "joined" x5 (aR qa)
 qv:Fn K mg "parts_at" x6 (aR zz)
 cp:Fm K "held" "Event.held" x8 (aR zA)
 cz:Fm K "sizes" "Event.sizes" x9 (aR zB)
 gm:Fm K "__init__" "Spanned.__init__" ya (aR zC)
 di:Fm K "all_at" "Spanned.all_at" yb (aR zD)
 ml:Fm K "__init__" "Stayed.__init__" yc (aR zE)
 kx:Fm K "ways" "Stayed.ways" yd (aR zF)
 ky:Fm K "breaks" "Stayed.breaks" ye (aR zG)
 mm:Fm K "__init__" "Over.__init__" yf (aR zH)
 kz:Fm K "ways" "Over.ways" yg (aR zI)
 kA:Fm K "breaks" "Over.breaks" yh (aR zJ)
 mq:Fm K "__init__" "Under.__init__" yi (aR zK)
 kB:Fm K "ways" "Under.ways" yj (aR zL)
 kC:Fm K "breaks" "Under.breaks" yn (aR zM)
 mv:Fm K "__init__" "Rose.__init__" yo (aR zN)
 kD:Fm K "ways" "Rose.ways" yp (aR nX)
 kE:Fm K "breaks" "Rose.breaks" yq (aR zO)
 mw:Fm K "__init__" "Paced.__init__" yr (aR zP)
 jD:Fm K "all_steps" "Paced.all_steps" yt (aR zQ)
 kF:Fm K "ways" "Paced.ways" yu (aR zR)
 kG:Fm K "breaks" "Paced.breaks" yw (aR zS)
 mx:Fm K "__init__" "Turned.__init__" yx (aR zT)
 jE:Fm K "both_steps" "Turned.both_steps" yy (aR zU)
 kH:Fm K "ways" "Turned.ways" yz (aR zV)
 kI:Fm K "breaks" "Turned.breaks" yA (aR zW)
 iU:Fm K "__init__" "Paired.__init__" yB (aR zX)
 kJ:Fm K "ways" "Both.ways" yC (aR zY)
 kK:Fm K "breaks" "Both.breaks" yD (aR zZ)
 kL:Fm K "sizes" "Both.sizes" yE (aR qb)
 kM:Fm K "ways" "Either.ways" yF (aR z6)
 kN:Fm K "breaks" "Either.breaks" yG (aR z7)
 kO:Fm K "sizes" "Either.sizes" yH (aR qc)
 my:Fm K "__init__" "Nay.__init__" yI (aR z8)
 kP:Fm K "ways" "Nay.ways" yJ (aR z9)
 kQ:Fm K "breaks" "Nay.breaks" yK (aR Aa)
 kR:Fm K "sizes" "Nay.sizes" yL (aR ua)
 kS:Fn K mg "end_at" yM (aR Ab)
 gn:Fn K mg "tree_at" yN (aR iT)
 iu:Fn K mg "ends_as_stretch" yO (aR Ac)
 kT:Fn K mg "event_of_numbers" yP (aR Ad)
 cT:Fn K mg "event_of" yQ (aR nY)
 kU:Fn K mg "read" yR (aR qd)
 qw:Fn K mg "_law_draw" yS (aR Ae)
 qx:Fn K mg "_law_base" yT (aR ue)
 qy:Fn K mg "_law_within" yU (aR Af)
 qz:Fn K mg "_law_leaf" yV (aR gj)
 kW:Fn K mg "_law_truth" yW (aR jB)
 mz:Fn K mg "_law_counts" yX (aR jC)
 mB:Fn K mg "_law_row" yY (aR nZ)
 qA:Fn K mg "_law_trees" yZ (aR kq)
 qB:Fn K mg "_law_number" y0 (aR qe)
 qC:Fn K mg "_law_thing" y9 (aR uf)
 qD:Fn K mg "_law_tree_of" za (aR ir)
 mC:Fn K mg "_law_there" ze (aR ug)
 mD:Fn K mg "_law_many" zf (aR uh)
 qE:Fn K mg "_law_told" zg (aR gk)
 qF:Fn K mg "_law_asked_of" zh (aR qf)
 qG:Fn K mg "_law_word_of" zi (aR n0)
 qH:Fn K mg "_law_sign" zj (aR ui)
 qI:Fn K mg "_law_by_words" zk (aR qg)
 qJ:Fn K mg "_law_changed" zm (aR n3)
 qK:Fn K mg "_law_great" zo (aR kr)
 mE:Fn K mg "law" zp (aR ku)
 uj:mg "all" = none
 Ag:mg "any" = none
 qL:mg "int" = none
 gT:mg "isinstance" = none
 dj:mg "len" = none
 N1:mg "list" = none
 qM:mg "max" = none
 E4:mg "min" = none
 jF:mg "range" = none
 N2:mg "reversed" = none
 E5:mg "str" = none
 Ah:mg "tuple" = none
 gp:Addr
 Ai:mg "GazeError" = some (.ref gp)
 bA:Addr
 mF:mg "NoEvent" = some (.ref bA)
 cq:Addr
 uk:mg "TooMany" = some (.ref cq)
 bQ:Addr
 kX:mg "NoRule" = some (.ref bQ)
 iV:Addr
 Vm:mg "Event" = some (.ref iV)
 cZ:Addr
 qN:mg "Spanned" = some (.ref cZ)
 bR:Addr
 N3:mg "Stayed" = some (.ref bR)
 bS:Addr
 N4:mg "Over" = some (.ref bS)
 bT:Addr
 N5:mg "Under" = some (.ref bT)
 bU:Addr
 N6:mg "Rose" = some (.ref bU)
 bO:Addr
 N7:mg "Paced" = some (.ref bO)
 cF:Addr
 N8:mg "Turned" = some (.ref cF)
 eJ:Addr
 Vn:mg "Paired" = some (.ref eJ)
 cA:Addr
 N9:mg "Both" = some (.ref cA)
 cB:Addr
 Oa:mg "Either" = some (.ref cB)
 cG:Addr
 Ob:mg "Nay" = some (.ref cG)
 E6:br K iV
 Vo:Meth K iV "held" cp.a
 Vp:Meth K iV "sizes" cz.a
 E7:br K cZ
 E8:bB K cZ "first"
 E9:bB K cZ "last"
 Vq:Meth K cZ "held" cp.a
 Vr:Meth K cZ "sizes" cz.a
 Fc:Mk K cZ gm.a
 Vs:Meth K cZ "all_at" di.a
 fO:br K bR
 qO:bB K bR "first"
 qP:bB K bR "last"
 qQ:bB K bR "stretch"
 Oc:Meth K bR "held" cp.a
 Od:Meth K bR "sizes" cz.a
 Aj:Mk K bR ml.a
 Fd:Meth K bR "all_at" di.a
 Oe:Meth K bR "ways" kx.a
 Of:Meth K bR "breaks" ky.a
 fP:br K bS
 qR:bB K bS "first"
 qS:bB K bS "last"
 qT:bB K bS "sill"
 Og:Meth K bS "held" cp.a
 Oh:Meth K bS "sizes" cz.a
 Ak:Mk K bS mm.a
 Fe:Meth K bS "all_at" di.a
 Oi:Meth K bS "ways" kz.a
 Oj:Meth K bS "breaks" kA.a
 fQ:br K bT
 qU:bB K bT "first"
 qV:bB K bT "last"
 qW:bB K bT "sill"
 Ol:Meth K bT "held" cp.a
 Oo:Meth K bT "sizes" cz.a
 Al:Mk K bT mq.a
 Ff:Meth K bT "all_at" di.a
 Oq:Meth K bT "ways" kB.a
 Ot:Meth K bT "breaks" kC.a
 dS:br K bU
 n4:bB K bU "first"
 mG:bB K bU "last"
 qX:bB K bU "low"
 qY:bB K bU "high"
 Ou:Meth K bU "held" cp.a
 Ov:Meth K bU "sizes" cz.a
 Am:Mk K bU mv.a
 Vt:Meth K bU "all_at" di.a
 Ow:Meth K bU "ways" kD.a
 Ox:Meth K bU "breaks" kE.a
 gq:br K bO
 um:bB K bO "first"
 uo:bB K bO "last"
 uq:bB K bO "stretch"
 Oy:Meth K bO "held" cp.a
 Oz:Meth K bO "sizes" cz.a
 An:Mk K bO mw.a
 Vu:Meth K bO "all_at" di.a
 OA:Meth K bO "ways" kF.a
 OB:Meth K bO "breaks" kG.a
 Fg:Meth K bO "all_steps" jD.a
 iw:br K cF
 qZ:bB K cF "turn"
 OC:Meth K cF "held" cp.a
 OD:Meth K cF "sizes" cz.a
 Ao:Mk K cF mx.a
 OE:Meth K cF "ways" kH.a
 OF:Meth K cF "breaks" kI.a
 Fh:Meth K cF "both_steps" jE.a
 Fi:br K eJ
 Fj:bB K eJ "one"
 Fl:bB K eJ "other"
 Vv:Meth K eJ "held" cp.a
 Vw:Meth K eJ "sizes" cz.a
 Fo:Mk K eJ iU.a
 gu:br K cA
 n5:bB K cA "one"
 n6:bB K cA "other"
 OG:Meth K cA "held" cp.a
 OH:Meth K cA "sizes" kL.a
 Ap:Mk K cA iU.a
 OI:Meth K cA "ways" kJ.a
 OJ:Meth K cA "breaks" kK.a
 gv:br K cB
 n9:bB K cB "one"
 oa:bB K cB "other"
 OL:Meth K cB "held" cp.a
 OM:Meth K cB "sizes" kO.a
 Aq:Mk K cB iU.a
 ON:Meth K cB "ways" kM.a
 OO:Meth K cB "breaks" kN.a
 iW:br K cG
 og:bB K cG "one"
 OP:Meth K cG "held" cp.a
 OQ:Meth K cG "sizes" kR.a
 Ar:Mk K cG my.a
 OR:Meth K cG "ways" kP.a
 OS:Meth K cG "breaks" kQ.a
 q8:DJ K cZ "__init__" gm.a
 jG:XC K bA
 iX:XC K bQ
 oh:XC K cq
 OT:PySem.W.exmOne K (.ref bQ) (.ref bQ)=some true
 OU:PySem.W.exmOne K (.ref bA) (.ref bQ)=some false
 OV:PySem.W.exmOne K (.ref bA) (.ref bA)=some true
 OW:PySem.W.exmOne K (.ref cq) (.ref bQ)=some false
 OX:PySem.W.exmOne K (.ref cq) (.ref bA)=some false
 OY:PySem.W.exmOne K (.ref cq) (.ref cq)=some true
 OZ:PySem.W.kitOne K (.ref bQ) (.ref gp)=some true
 O0:PySem.W.kitOne K (.ref bA) (.ref gp)=some true
 O1:PySem.W.kitOne K (.ref cq) (.ref gp)=some true
 O2:PySem.W.kitOne K (.ref bQ) (.ref bA)=some false
 O3:PySem.W.kitOne K (.ref bQ) (.ref cq)=some false
 O4:PySem.W.kitOne K (.ref bA) (.ref bQ)=some false
 O5:PySem.W.kitOne K (.ref bA) (.ref cq)=some false
 O6:PySem.W.kitOne K (.ref cq) (.ref bQ)=some false
 O7:PySem.W.kitOne K (.ref cq) (.ref bA)=some false
 Fp:∃ t,mg "LAST_TURN" = some (.int 11 t)
 O8:∃ t,mg "FIGURES_AT_MOST" = some (.int 60 t)
 O9:∃ t,mg "WORDS_AT_MOST" = some (.int 60 t)
 Pb:∃ t,mg "SIZE_AT_MOST" = some (.int 100 t)
 Fs:∃ t,mg "OPEN_END" = some (.str "*" t)
 Pc:∃ t,mg "FIGURES" = some (.str "0123456789" t)
 forms:E3 w K mg
set_option genInjectivity true
set_option genSizeOf true
section
seal L2.PE L2.PS L2.aS L2.PA
variable{P:Program}{w:World}{K:PySem.W.Frag}{mg:Str->Option Value}{base:Heap}
end
section
seal L2.PE L2.PS L2.aS L2.PA
variable{P:Program}{w:World}{K:PySem.W.Frag}{mg:Str->Option Value}{base:Heap}
inductive Pd(vs:List V)(H:Hp)(Q:VK)(aW:XK):Prop
 | mk(a b:En)(_:vs=[ev a,ev b])(_:Q (.bl (dw a b)) H)
theorem As(T:Tx w K mg):Ok P w base 1 T.qh Pd:=by
 refine bE zq ?_
 rintro z z z z z z z z z ⟨a,b,rfl,q⟩
 refine⟨_,(ao (ay (gO (mY (oP (aa 0))) (gO (mY (oP (aa 1))) (eA (dH (gN vt) (aa 0) (aa 1) (cQ _))))))),?_⟩
 rcases a with z|x
 ·walk_at "gz"
  exact q
 rcases b with z|y
 ·walk_at "gz"
  exact q
 walk_at "gz"
 exact q
inductive Pe(vs:List V)(H:Hp)(Q:VK)(aW:XK):Prop
 | mk(v:V)(a b:En)(n:Int)(_:vs=[v,.int n])(_:bW H v a b)(_:Q (.bl (hold a b n)) H)
theorem Pf(T:Tx w K mg):Ok P w base 2 T.qi Pe:=by
 refine bE zr ?_
 rintro y y y y y y y y hr ⟨v,a,b,n,rfl,⟨p,rfl,hp⟩,q⟩
 refine⟨_,(ao (ay (gO (tS (aJ (As T) hr (ae (aw (aa 0) ag) (ae (aa 1) ah)))) (eA (tS (aJ (As T) hr (ae (aa 1) (ae (aw (aa 0) ag) ah)))))))),?_⟩
 walk_at "gz"
 refine aQ (aB.of hp) rfl ⟨a,some n,rfl,?_⟩
 unfold hold at q
 walk_at "gz"
 cases hc:dw a (some n) with
 | true =>
  rw[hc] at q
  walk_at "gz"
  exact q
 | false =>
  rw[hc] at q
  walk_at "gz"
  refine aQ (aB.of hp) rfl ⟨some n,b,rfl,?_⟩
  walk_at "gz"
  exact q
noncomputable def Ft:V->V
 | .str i=>.bl (!(Builtin.Str.occurrences eQ i 0 eQ.length 1).isEmpty)
 | v=>v
theorem Pg(x:PySem.Str):((aU x).filter fun y=>true).map Ft=(x.cps.toList.map fun c=>!(Builtin.Str.occurrences eQ ⟨#[c]⟩ 0 eQ.length 1).isEmpty).map V.bl:=by
 rw[List.filter_eq_self.mpr fun y y=>rfl]
 unfold aU
 rw[List.map_map,List.map_map]
 rfl
inductive Ph(vs:List V)(H:Hp)(Q:VK)(aW:XK):Prop
 | mk(x:PySem.Str)(_:vs=[.str x])(_:x.length<=100000)(_:∀ H',ai H H'->Q (.bl (gQ x)) H')
theorem Pj(T:Tx w K mg):Ok P w base 1 T.ql Ph:=by
 refine bE zv ?_
 rintro y y y y y y Q y y ⟨x,rfl,hx,q⟩
 refine⟨_,(ao (ay (gO (BU fj fj ag (bj c8 (by rfl) T.dj df (ae (aa 0) ah)) (pM T.O8 rfl)) (eA (bj (sT rfl) (by rfl) T.uj sG (ae (fK (cO [] []) rfl (tV (aa 0)) (fun C s2 H2 ex pn=>⟨eU,(dH Ja (aa 0) (xE T.Pc rfl) (by with_unfolding_all rfl))⟩)) ah)))))),?_⟩
 unfold gQ at q
 walk_at "gzn"
 refine⟨x.length,⟨Nat.le_trans hx (by decide),rfl⟩,aL (fun h1=>aL (fun h2=>?_) fun h2=>?_) fun h1=>?_⟩
 ·rw[decide_eq_true (show 1<=x.length by lia),decide_eq_true (show x.length<=60 by lia)] at q
  have hl:(aU x).length<=sizeLine:=by
   rw[pV]
   have:x.cps.size<=60:=by have:x.length=x.cps.size:=rfl;lia
   exact Nat.le_trans this (by decide)
  refine⟨x,rfl,eV EA hl (pG (p:=fun y=>true) (f:=Ft) trivial (fun y y Q h=>h) (fun v hv y Q h=>?_) fun l hn=>?_)⟩
  ·unfold aU at hv
   obtain⟨c,y,rfl⟩:=List.mem_map.mp hv
   walk_at "gzn"
   exact⟨_,rfl,_,rfl,h⟩
  ·rw[List.nil_append,Pg]
   exact⟨l,rfl,_,ar.of aj,by rw[Nl];exact q _ (ak hn)⟩
 ·rw[decide_eq_true (show 1<=x.length by lia),decide_eq_false (show ¬ x.length<=60 by lia)] at q
  exact q _ (ai.refl _)
 ·rw[decide_eq_false (show ¬ 1<=x.length by lia)] at q
  exact q _ (ai.refl _)
inductive Pk(vs:List V)(H:Hp)(Q:VK)(aW:XK):Prop
 | mk(x:PySem.Str)(_:vs=[.str x])(_:x.length<=100000)(_:∀ H',ai H H'->Q (.bl (dR x)) H')
theorem Fu(T:Tx w K mg):Ok P w base 2 T.qm Pk:=by
 refine bE t9 ?_
 rintro z z z z H z z z hr ⟨x,rfl,hx,q⟩
 refine⟨_,(aq (aE (aP (aa 0) au) (ao (ay mW)) aH) (aq (aN 1 t9.nd (rR (d9 (eN PySem.F.plainAttrs_str PySem.F.slot_str_startswith PySem.F.type_str_startswith Ew (aa 0) (ae au ah))) (cM jz (aa 0) (cy ag) de) (aa 0))) (ao (ay (gO (aJ (Pj T) hr (ae (aa 1) ah)) (eA (tS (eN PySem.F.plainAttrs_str PySem.F.slot_str_startswith PySem.F.type_str_startswith Ew (aa 1) (ae au ah))))))))),?_⟩
 have ty:∀ (y:PySem.Str) (H:Hp),sE K "str" (.str y) H:=fun z z=>rfl
 unfold dR at q
 walk_at "gzn"
 refine aL (fun h0=>?_) fun h0=>⟨ty _ _,x,rfl,_,rfl,?_⟩
 ·rw[h0] at q
  exact q _ (ai.refl _)
 ·have e0:(x == ("0" : PySem.Str))=false:=by simpa using h0
  rw[e0,Bool.false_or] at q
  unfold cutD at q
  refine aL (fun hd=>⟨x,rfl,Nat.le_trans hx (by decide),?_⟩) fun hd=>?_
  ·rw[show jA x=true from hd] at q
   refine⟨_,rfl,Nat.le_trans (Txt.slice_le _ _ _) hx,fun H1 s1=>?_⟩
   walk_at "gzn"
   refine aL (fun h1=>⟨ty _ _,_,rfl,_,rfl,?_⟩) fun h1=>?_
   ·rw[if_pos rfl,h1,Bool.true_and] at q
    exact q _ s1
   ·rw[if_pos rfl,Bool.eq_false_iff.mpr h1] at q
    exact q _ s1
  ·rw[show jA x=false from Bool.eq_false_iff.mpr hd] at q
   refine⟨_,rfl,hx,fun H1 s1=>?_⟩
   walk_at "gzn"
   refine aL (fun h1=>⟨ty _ _,_,rfl,_,rfl,?_⟩) fun h1=>?_
   ·rw[if_neg (by decide),h1,Bool.true_and] at q
    exact q _ s1
   ·rw[if_neg (by decide),Bool.eq_false_iff.mpr h1] at q
    exact q _ s1
noncomputable def oi(x:PySem.Str):Bool:=x == "*" || dR x
inductive Pl(vs:List V)(H:Hp)(Q:VK)(aW:XK):Prop
 | mk(x:PySem.Str)(_:vs=[.str x])(_:x.length<=100000)(_:∀ H',ai H H'->Q (.bl (oi x)) H')
theorem Pm(T:Tx w K mg):Ok P w base 3 T.qo Pl:=by
 refine bE zw ?_
 rintro y y y y y y y y hr ⟨x,rfl,hx,q⟩
 refine⟨_,(ao (ay (kf (dH jY (aa 0) (xE T.Fs rfl) (cQ _)) (eA (aJ (Fu T) hr (ae (aa 0) ah)))))),?_⟩
 unfold oi at q
 walk_at "gzn"
 refine⟨rfl,aL (fun h=>?_) fun h=>?_⟩
 ·injection h with h
  rw[h] at q
  exact q _ (ai.refl _)
 ·have e0:(x == ("*" : PySem.Str))=false:=by
   rw[Bool.eq_false_iff]
   intro z
   exact h (by rw[eq_of_beq z])
  rw[e0,Bool.false_or] at q
  exact⟨x,rfl,hx,q⟩
noncomputable def kY(f x:PySem.Str):Bool:=if f = "N" then dR x else (!(f == "E") || oi x)
inductive Pn(vs:List V)(H:Hp)(Q:VK)(aW:XK):Prop
 | mk(f x:PySem.Str)(_:vs=[.str f,.str x])(_:x.length<=100000)(_:∀ H',ai H H'->Q (.bl (kY f x)) H')
theorem Po(T:Tx w K mg):Ok P w base 4 T.qp Pn:=by
 refine bE zx ?_
 rintro y y y y y y y E hr ⟨f,x,rfl,hx,q⟩
 refine⟨_,(aq (aE (aP (aa 0) au) (ao (ay (aJ (Fu T) hr (ae (aa 1) ah)))) aH) (ao (ay (kf (dH BS (aa 0) au (cQ _)) (eA (aJ (Pm T) hr (ae (aa 1) ah))))))),?_⟩
 unfold kY at q
 walk_at "gzn"
 refine aL (fun h=>?_) fun h=>⟨rfl,aL (fun h2=>?_) fun h2=>?_⟩
 ·rw[if_pos h] at q
  exact⟨x,rfl,hx,q⟩
 ·have e0:(f == ("E" : PySem.Str))=false:=by
   rw[Bool.eq_false_iff]
   intro z
   exact h2 (by rw[eq_of_beq z])
  rw[if_neg h,e0] at q
  exact q _ (ai.refl _)
 ·have h2:V.str f=V.str "E" := Classical.not_not.mp h2
  injection h2 with h2
  rw[if_neg h,h2] at q
  exact⟨x,rfl,hx,q⟩
noncomputable def bL:En->PySem.Str
 | none => "*"
 | some n=>bz n
theorem Au(n:Int):¬ bz n = "*" := fun z=>by
 have z:=congrArg (fun s:PySem.Str=>s.cps.toList) z
 rcases pU n with ⟨m,rfl⟩|⟨m,rfl⟩
 ·obtain⟨d,r,e,y⟩:=md m
  have hd:=nP m d (by rw[e];exact .head _)
  rw[show (bz (m:Int)).cps.toList=cY m from km m,e] at z
  have:d=42:=(List.cons.inj z).1
  lia
 ·rw[show (bz (-((m+1:Nat):Int))).cps.toList=45::cY (m+1) from nQ m] at z
  have:(45:Nat)=42:=(List.cons.inj z).1
  lia
theorem Fw{n:Int}(h:n.natAbs<10 ^ 60):n.natAbs.log2<1920:=by
 by_cases h0:n.natAbs=0
 ·rw[h0];decide
 ·exact (Nat.log2_lt h0).mpr (Nat.lt_trans h (by decide +kernel))
def c6:En->Prop
 | none=>True
 | some n=>n.natAbs<10 ^ 60
inductive Pp(vs:List V)(H:Hp)(Q:VK)(aW:XK):Prop
 | mk(e:En)(_:vs=[.str (bL e)])(_:c6 e)(_:Q (ev e) H)
theorem Pq(T:Tx w K mg):Ok P w base 1 T.qq Pp:=by
 refine bE zy ?_
 rintro y y y y y y y y y ⟨e,rfl,he,q⟩
 refine⟨_,(ao (ay (rR (aP (aa 0) (xE T.Fs rfl)) cK (j3 Ey (by rfl) T.qL pk (ae (aa 0) ah))))),?_⟩
 walk_at "gzn"
 cases e with
 | none=>exact q
 | some n =>
  rw[if_neg (show ¬ bL (some n) = "*" from Au n)]
  exact⟨_,rfl,n,tT he,Nat.le_trans (dQ he) (by decide),q⟩
end
section
seal L2.PE L2.PS L2.aS L2.PA
variable{P:Program}{w:World}{K:PySem.W.Frag}{mg:Str->Option Value}{base:Heap}
def bp(i j:Int):Prop:=0<=i/\i<=j/\j<=11
inductive Pr(K:PySem.W.Frag)(N:Addr)(vs:List V)(H:Hp)(Q:VK)(E:XK):Prop
 | mk(x C dx:Addr)(i j:Int)(_:vs=[.ref x,.int i,.int j])(_:H x=some (.ins C dx []))(_:br K C)(_:bB K C "first")(_:bB K C "last")(_:(¬ bp i j->E (.ref N) none H))(_:(bp i j->Q .non (upd H x (.ins C dx [("first",.int i),("last",.int j)]))))
theorem q9(T:Tx w K mg):Om P w mg base 1 T.gm (Pr K T.bA):=by
 refine kh zC ?_
 rintro v v v v H v v E v ⟨x,C,dx,i,j,rfl,hx,hc,n1,n2,q0,q⟩
 refine⟨_,(aq (aE (jg (L8 fj fj fj ag (aa 1) (aa 2) (pM T.Fp rfl))) (ao (iN iO rfl T.mF T.jG rfl (ae au ah))) aH) (aq (gP (aa 0) (aa 1) rfl) (ao (gP (aa 0) (aa 2) rfl)))),?_⟩
 walk_at "gzn"
 have no:∀ D σ,¬ bp i j->∀ y,v7 T.bA E (sr (tC (.str y)) o6) D σ H:=fun D σ z y=>⟨by show 1<=sizeLine;decide,q0 z⟩
 refine aL (fun h1=>aL (fun h2=>aL (fun h3=>no _ _ (fun z=>h3 z.2.2) _) fun h3=>?_) fun h2=>no _ _ (fun z=>h2 z.2.1) _) fun h1=>no _ _ (fun z=>h1 z.1) _
 refine⟨_,_,_,hx,hc,n1,(by show 0<1000;decide),_,_,_,aj,hc,n2,(by show 1<1000;decide),?_⟩
 rw[lj]
 exact q ⟨h1,h2,by lia⟩
inductive Pt(C N:Addr)(vs:List V)(H:Hp)(Q:VK)(E:XK):Prop
 | mk(x dx:Addr)(i j:Int)(v:V)(_:vs=[.ref x,.int i,.int j,v])(_:H x=some (.ins C dx []))(_:(¬ bp i j->E (.ref N) none H))(_:(bp i j->Q .non (upd H x (.ins C dx [("first",.int i),("last",.int j),("stretch",v)]))))
theorem Pu(T:Tx w K mg):Om P w mg base 2 T.ml (Pt T.bR T.bA):=by
 refine kh zE ?_
 rintro y y y y y y y y hr ⟨x,dx,i,j,v,rfl,hx,q0,q⟩
 refine⟨_,(aq (fh (pK rfl T.qN T.q8 (q9 T) hr.m T.gm.b .nil cS (ae (aa 0) (ae (aa 1) (ae (aa 2) ah))))) (ao (gP (aa 0) (aa 3) rfl))),?_⟩
 walk_at "gzn"
 refine⟨x,T.bR,dx,i,j,rfl,hx,T.fO,T.qO,T.qP,q0,fun hk=>?_⟩
 walk_at "gzn"
 refine⟨_,_,_,aj,T.fO,T.qQ,(by show 2<1000;decide),?_⟩
 rw[lj]
 exact q hk
inductive Pw(C N:Addr)(vs:List V)(H:Hp)(Q:VK)(E:XK):Prop
 | mk(x dx:Addr)(i j:Int)(v:V)(_:vs=[.ref x,.int i,.int j,v])(_:H x=some (.ins C dx []))(_:(¬ bp i j->E (.ref N) none H))(_:(bp i j->Q .non (upd H x (.ins C dx [("first",.int i),("last",.int j),("sill",v)]))))
theorem Px(T:Tx w K mg):Om P w mg base 2 T.mm (Pw T.bS T.bA):=by
 refine kh zH ?_
 rintro y y y y y y y y hr ⟨x,dx,i,j,v,rfl,hx,q0,q⟩
 refine⟨_,(aq (fh (pK rfl T.qN T.q8 (q9 T) hr.m T.gm.b .nil cS (ae (aa 0) (ae (aa 1) (ae (aa 2) ah))))) (ao (gP (aa 0) (aa 3) rfl))),?_⟩
 walk_at "gzn"
 refine⟨x,T.bS,dx,i,j,rfl,hx,T.fP,T.qR,T.qS,q0,fun hk=>?_⟩
 walk_at "gzn"
 refine⟨_,_,_,aj,T.fP,T.qT,(by show 2<1000;decide),?_⟩
 rw[lj]
 exact q hk
inductive Py(C N:Addr)(vs:List V)(H:Hp)(Q:VK)(E:XK):Prop
 | mk(x dx:Addr)(i j:Int)(v:V)(_:vs=[.ref x,.int i,.int j,v])(_:H x=some (.ins C dx []))(_:(¬ bp i j->E (.ref N) none H))(_:(bp i j->Q .non (upd H x (.ins C dx [("first",.int i),("last",.int j),("sill",v)]))))
theorem Pz(T:Tx w K mg):Om P w mg base 2 T.mq (Py T.bT T.bA):=by
 refine kh zK ?_
 rintro y y y y y y y y hr ⟨x,dx,i,j,v,rfl,hx,q0,q⟩
 refine⟨_,(aq (fh (pK rfl T.qN T.q8 (q9 T) hr.m T.gm.b .nil cS (ae (aa 0) (ae (aa 1) (ae (aa 2) ah))))) (ao (gP (aa 0) (aa 3) rfl))),?_⟩
 walk_at "gzn"
 refine⟨x,T.bT,dx,i,j,rfl,hx,T.fQ,T.qU,T.qV,q0,fun hk=>?_⟩
 walk_at "gzn"
 refine⟨_,_,_,aj,T.fQ,T.qW,(by show 2<1000;decide),?_⟩
 rw[lj]
 exact q hk
inductive PB(C N:Addr)(vs:List V)(H:Hp)(Q:VK)(E:XK):Prop
 | mk(x dx:Addr)(i j:Int)(v:V)(_:vs=[.ref x,.int i,.int j,v])(_:H x=some (.ins C dx []))(_:(¬ bp i j->E (.ref N) none H))(_:(bp i j->Q .non (upd H x (.ins C dx [("first",.int i),("last",.int j),("stretch",v)]))))
theorem PD(T:Tx w K mg):Om P w mg base 2 T.mw (PB T.bO T.bA):=by
 refine kh zP ?_
 rintro y y y y y y y y hr ⟨x,dx,i,j,v,rfl,hx,q0,q⟩
 refine⟨_,(aq (fh (pK rfl T.qN T.q8 (q9 T) hr.m T.gm.b .nil cS (ae (aa 0) (ae (aa 1) (ae (aa 2) ah))))) (ao (gP (aa 0) (aa 3) rfl))),?_⟩
 walk_at "gzn"
 refine⟨x,T.bO,dx,i,j,rfl,hx,T.gq,T.um,T.uo,q0,fun hk=>?_⟩
 walk_at "gzn"
 refine⟨_,_,_,aj,T.gq,T.uq,(by show 2<1000;decide),?_⟩
 rw[lj]
 exact q hk
inductive PF(C N:Addr)(vs:List V)(H:Hp)(Q:VK)(E:XK):Prop
 | mk(x dx:Addr)(i j l h:Int)(_:vs=[.ref x,.int i,.int j,.int l,.int h])(_:H x=some (.ins C dx []))(_:(¬ (bp i j/\l<h)->∀ H',SameBut x H H'->E (.ref N) none H'))(_:(bp i j/\l<h->Q .non (upd H x (.ins C dx [("first",.int i),("last",.int j),("low",.int l),("high",.int h)]))))
theorem PH(T:Tx w K mg):Om P w mg base 2 T.mv (PF T.bU T.bA):=by
 refine kh zN ?_
 rintro v v v v v v v v hr ⟨x,dx,i,j,l,h,rfl,hx,q0,q⟩
 refine⟨_,(aq (fh (pK rfl T.qN T.q8 (q9 T) hr.m T.gm.b .nil cS (ae (aa 0) (ae (aa 1) (ae (aa 2) ah))))) (aq (aE (tQ (aa 3) (aa 4)) (ao (iN iO rfl T.mF T.jG rfl (ae au ah))) aH) (aq (gP (aa 0) (aa 3) rfl) (ao (gP (aa 0) (aa 4) rfl))))),?_⟩
 walk_at "gzn"
 refine⟨x,T.bU,dx,i,j,rfl,hx,T.dS,T.n4,T.mG,fun z=>q0 (fun y=>z y.1) _ fun v v v e=>e,fun hk=>?_⟩
 walk_at "gzn"
 refine aL (fun h1=>⟨by decide,q0 (fun y=>by lia) _ fun b o hb e=>by rw[aO hb];exact e⟩) fun h1=>?_
 refine⟨_,_,_,aj,T.dS,T.qX,(by show 2<1000;decide),_,_,_,aj,T.dS,T.qY,(by show 3<1000;decide),?_⟩
 rw[lj,lj]
 exact q ⟨hk,by lia⟩
inductive PJ(C N:Addr)(vs:List V)(H:Hp)(Q:VK)(E:XK):Prop
 | mk(x dx:Addr)(i:Int)(_:vs=[.ref x,.int i])(_:H x=some (.ins C dx []))(_:(¬ (0<i/\i<11)->E (.ref N) none H))(_:(0<i/\i<11->Q .non (upd H x (.ins C dx [("turn",.int i)]))))
theorem PK(T:Tx w K mg):Om P w mg base 1 T.mx (PJ T.cF T.bA):=by
 refine kh zT ?_
 rintro v v v v H v v E v ⟨x,dx,i,rfl,hx,q0,q⟩
 refine⟨_,(aq (aE (jg (M5 o3 o3 ag (aa 1) (pM T.Fp rfl))) (ao (iN iO rfl T.mF T.jG rfl (ae au ah))) aH) (ao (gP (aa 0) (aa 1) rfl))),?_⟩
 walk_at "gzn"
 have no:∀ D σ,¬ (0<i/\i<11)->∀ y,v7 T.bA E (sr (tC (.str y)) o6) D σ H:=fun D σ z y=>⟨by show 1<=sizeLine;decide,q0 z⟩
 refine aL (fun h1=>aL (fun h2=>?_) fun h2=>no _ _ (fun z=>h2 z.2) _) fun h1=>no _ _ (fun z=>h1 z.1) _
 exact⟨_,_,_,hx,T.iw,T.qZ,(by show 0<1000;decide),q ⟨h1,h2⟩⟩
end
section
seal L2.PE L2.PS L2.aS L2.PA
variable{P:Program}{w:World}{K:PySem.W.Frag}{mg:Str->Option Value}{base:Heap}
noncomputable def Fx(lo:En):List S2:=match lo with|none=>[]|some l=>[(none,some (l-1))]
noncomputable def Fz(hi:En):List S2:=match hi with|none=>[]|some h=>[(some (h+1),none)]
theorem PL(lo hi:En):dN (lo,hi)=Fx lo++Fz hi:=by cases lo<;>cases hi<;>rfl
inductive PM(K:PySem.W.Frag)(vs:List V)(H:Hp)(Q:VK)(aW:XK):Prop
 | mk(p:Addr)(s:S2)(_:vs=[.ref p])(_:H p=some (.tup [ev s.1,ev s.2]))(_:∀ l xs H',ai H H'->H l=none->H' l=some (.lst xs)->dC H' xs (dN s)->Q (.ref l) H')
theorem PN(T:Tx w K mg):Ok P w base 1 T.qr (PM K):=by
 refine bE p8 ?_
 rintro y y y s H y y y y ⟨p,⟨lo,hi⟩,rfl,hp,q⟩
 refine⟨_,(aq (aN 1 p8.nd (rR (nO (aw (aa 0) ag)) (ck ah) (ck (ae (bg (ae cK (ae (ax dD (aw (aa 0) ag) ag) ah))) ah)))) (aq (aN 2 p8.nd (rR (nO (aw (aa 0) ag)) (ck ah) (ck (ae (bg (ae (ax a9 (aw (aa 0) ag) ag) (ae cK ah))) ah)))) (ao (ay (ax dt (aa 1) (aa 2)))))),?_⟩
 replace hp:H p=some (.tup [ev lo,ev hi]):=hp
 rw[PL] at q
 refine aM (fun σ H1=>∃ a xs,σ=[some (.ref p),some (.ref a),none]/\ai H H1/\H1 a=some (.lst xs)/\xs.length<=1/\aD (fun v (s:S2)=>bW H1 v s.1 s.2) xs (Fx lo)) (fun N hN=>?_) ?_
 ·clear q
  rcases lo with y|lo
  ·walk_at "gzn"
   refine aK hp ?_
   walk_at "gzn"
   exact⟨by decide,fun a ha=>hN _ _ ⟨a,[],rfl,ak ha,aj,by decide,trivial⟩⟩
  ·walk_at "gzn"
   refine aK hp ?_
   walk_at "gzn"
   refine aK hp ?_
   walk_at "gzn"
   exact⟨bJ,fun ta Av=>⟨by decide,fun a ha=>hN _ _ ⟨a,[.ref ta],rfl,(ak Av).trans (ak ha),aj,Nat.le_refl _,⟨ta,rfl,(ak ha) _ _ aj⟩,trivial⟩⟩⟩
 rintro σ H1 ⟨a,xs,rfl,s1,ha,xl,hx⟩
 refine aM (fun σ H2=>∃ b ys,σ=[some (.ref p),some (.ref a),some (.ref b)]/\ai H1 H2/\H2 b=some (.lst ys)/\ys.length<=1/\aD (fun v (s:S2)=>bW H2 v s.1 s.2) ys (Fz hi)) (fun N hN=>?_) ?_
 ·clear q
  replace hp:=s1 _ _ hp
  rcases hi with y|hi
  ·walk_at "gzn"
   refine aK hp ?_
   walk_at "gzn"
   exact⟨by decide,fun a ha=>hN _ _ ⟨a,[],rfl,ak ha,aj,by decide,trivial⟩⟩
  ·walk_at "gzn"
   refine aK hp ?_
   walk_at "gzn"
   refine aK hp ?_
   walk_at "gzn"
   exact⟨bJ,fun ta Av=>⟨by decide,fun a ha=>hN _ _ ⟨a,[.ref ta],rfl,(ak Av).trans (ak ha),aj,Nat.le_refl _,⟨ta,rfl,(ak ha) _ _ aj⟩,trivial⟩⟩⟩
 rintro σ H2 ⟨b,ys,rfl,s2,hb,yl,hy⟩
 walk_at "gzn"
 exact⟨_,s2 _ _ ha,_,hb,Nat.le_trans (by lia:xs.length+ys.length<=2) (by decide),fun c hc=>q c _ _ (s1.trans (s2.trans (ak hc))) ((s1.trans s2).free hc) aj (w5.mpr (aD.app (hx.imp fun y y z=>bW.same z (s2.trans (ak hc))) (hy.imp fun y y z=>bW.same z (ak hc))))⟩
inductive PQ(K:PySem.W.Frag)(vs:List V)(H:Hp)(Q:VK)(aW:XK):Prop
 | mk(a:Addr)(xs:List V)(ps:List Pa)(_:vs=[.ref a])(_:ar K H a xs)(_:dA H xs ps)(_:ps.length<=100)(_:∀ l ys H',ai H H'->H l=none->H' l=some (.lst ys)->aD (bD H H') ys (bw ps)->Q (.ref l) H')
inductive PR(H:Hp)(a l:Addr)(ps:List Pa)(i:Nat)(σ:St)(H1:Hp):Prop
 | mk(ys:List V)(e:Option V)(_:σ=[some (.ref a),some (.ref l),e])(_:ai H H1)(_:H1 l=some (.lst ys))(_:aD (fM H l H1) ys (bw (ps.take i)))(_:ys.length<=2 * i)
theorem rf(T:Tx w K mg):Ok P w base 2 T.qt (PQ K):=by
 refine bE p9 ?_
 rintro y y y s H y Q y hr ⟨a,xs,ps,rfl,hS,hP,hn,q⟩
 refine⟨_,(aq (aN 1 p9.nd (ck ah)) (aq (jV PassesOwn.never rfl (jh (aa 0)) (jw 2 p9.nd) (ao (fh (eN PySem.F.plainAttrs_list PySem.F.slot_list_extend PySem.F.type_list_extend vQ (aa 1) (ae (fK (cO [2] ["part"]) rfl (jh (aJ (PN T) hr (ae (aw (aa 2) ag) ah))) (fun C s2 H2 ex pn=>⟨eU,(ck (ae (bg (ae (gf (K:=K) (aa 1) ag) (ae (gf (K:=K) (aa 1) ag) (ae (aa 0) ah)))) ah))⟩)) ah))))) (ao (ay (aa 1))))),?_⟩
 have hl:=hP.len
 walk_at "gzn"
 refine⟨by decide,fun l jH=>?_⟩
 have s1:=ak (o:=.lst []) jH
 have e1:upd H l (.lst []) l=some (.lst []):=aj
 generalize upd H l (.lst [])=H1 at s1 e1 ⊢
 refine⟨⟨_,s1.seq hS⟩,CJ (xs:=xs) (PR H a l ps) ⟨[],_,rfl,s1,e1,trivial,Nat.zero_le _⟩ ?_ ?_ ?_⟩
 ·rintro i σ H2 y ⟨y,y,y,s2,y⟩
  exact s2.seq hS
 ·rintro i x σ H2 hx ⟨ys,e,rfl,s2,bo,hy,hlen⟩
  obtain⟨p,hp,tp,sp,rfl,h1,h2⟩:=hP.get hx
  have Aw:=s2 _ _ h1
  have PU:=s2 _ _ h2
  walk_at "gzn"
  refine⟨.inl ⟨rfl,_,ar.of bo⟩,aK Aw ?_⟩
  refine⟨sp,p.2.2,rfl,PU,fun o os H3 s3 y ho jk=>?_⟩
  walk_at "gzn"
  have FC:=w5.mp jk
  have Vx:=FC.len
  have Vy:=w9 p.2.2
  refine⟨⟨_,ar.of ho⟩,eV lO (Nat.le_trans (by lia:os.length<=2) (by decide)) (lS (R:=fun H x (s:S2)=>bW H x s.1 s.2) (R':=fM H l) (f:=fun s=>[((p.1,p.2.1,s):Pa)]) (fun y y y y s' h=>h.same s') (fun y y y y s' h=>h.same s') FC (bs:=[]) trivial (fun H' s'=>ar.of (s' _ _ ho)) (fun x k y H4 s4 r Q h=>?_) (fun x k y H4 s4 r Q h=>?_) fun H4 zs s4 hz=>?_)⟩
  ·walk_at "gzn"
   exact h
  ·obtain⟨xo,rfl,hxo⟩:=r
   have S4:=s3.trans s4
   walk_at "gzn"
   refine aQ (aB.of (S4 _ _ Aw)) rfl (aQ (aB.of (S4 _ _ Aw)) rfl ⟨by decide,fun t ht=>⟨by decide,fun c hc=>?_⟩⟩)
   have u1:=ak (o:=.tup [.str p.1,.int p.2.1,.ref xo]) ht
   have u2:=ak (o:=.lst [.ref t]) hc
   have cl:c≠l:=fun z=>by rw[z,u1 _ _ (S4 _ _ bo)] at hc;cases hc
   exact h _ _ (u1.trans u2) ⟨c,[.ref t],rfl,cl,(s2.trans (S4.trans u1)).free hc,aj,⟨t,xo,rfl,u2 _ _ aj,(u1.trans u2) _ _ hxo⟩,trivial⟩
  ·intro b hb
   rw[List.nil_append] at hz
   have S4:=s3.trans s4
   have u:=ak (o:=.lst zs) hb
   have Ax:=hz.len
   rw[List.length_map] at Ax
   have hi:i<xs.length:=(List.getElem?_eq_some_iff.mp hx).1
   refine⟨l,b,_,_,rfl,rfl,u _ _ (S4 _ _ bo),aj,Nat.le_trans (by lia:ys.length+zs.length<=300) (by decide),ys++zs,_,rfl,dJ jH (s2.trans (S4.trans u)),aj,?_,by rw[List.length_append];lia⟩
   rw[Mp hp]
   have a1:=(hy.imp fun y y r=>(r.same (S4.trans u)).put (o:=.lst (ys++zs)) (u _ _ (S4 _ _ bo)))
   have a2:=(hz.imp fun y y r=>(r.same u).put (o:=.lst (ys++zs)) (u _ _ (S4 _ _ bo)))
   exact a1.app a2
 ·rintro σ H2 ⟨ys,e,rfl,s2,bo,hy,hlen⟩
  walk_at "gzn"
  rw[hl,List.take_length] at hy
  exact q l ys H2 s2 jH bo (hy.imp fun y y r=>r.w6)
inductive PV(K:PySem.W.Frag)(vs:List V)(H:Hp)(Q:VK)(aW:XK):Prop
 | mk(i j:Int)(p:Addr)(s:S2)(_:vs=[.int i,.int j,.ref p])(_:H p=some (.tup [ev s.1,ev s.2]))(_:(0<=i/\i<=12))(_:(-1<=j/\j<=11))(_:∀ l xs H',ai H H'->H l=none->H' l=some (.lst xs)->dA H' xs (bc i j s)->Q (.ref l) H')
theorem ur(T:Tx w K mg):Ok P w base 1 T.qv (PV K):=by
 refine bE zz ?_
 rintro y y y s y y Q y y ⟨i,j,p,s,rfl,hp,hi,hj,q⟩
 refine⟨_,(ao (ay (fK (cO [2] ["one"]) rfl (oU rfl T.jF (ae (aa 0) (ae (ax a9 (aa 1) ag) ah))) (fun C s2 H2 ex pn=>⟨eU,(bg (ae au (ae (aa 0) (ae (aa 1) ah))))⟩)))),?_⟩
 walk_at "gzn"
 refine⟨by lia,by lia,by lia,by lia,eV lP (by rw[List.length_map,List.length_range];exact Nat.le_trans (by lia:_<=20) (by decide)) (lS (R:=fun _ x (k:Nat)=>x=V.int (i+k)) (R':=gK) (f:=fun (k:Nat)=>(("at",i+(k:Int),s):Pa)) (fun y y y y y h=>h) (fun y y y y s' h=>h.same s') (aD.iF _) (bs:=[]) trivial (fun y y=>trivial) (fun x k y H2 s2 r Q h=>?_) (fun x k y H2 s2 r Q h=>?_) fun H2 zs s2 hz=>?_)⟩
 ·walk_at "gzn"
  exact h
 ·subst r
  walk_at "gzn"
  exact⟨by decide,fun t ht=>h _ _ (ak ht) ⟨t,p,rfl,aj,(ak ht) _ _ (s2 _ _ hp)⟩⟩
 ·intro l hl
  refine q l zs _ (s2.trans (ak hl)) (s2.free hl) aj ?_
  rw[List.nil_append] at hz
  exact hz.imp fun y y r=>r.same (ak hl)
end
section
seal L2.PE L2.PS L2.aS L2.PA
variable{P:Program}{w:World}{K:PySem.W.Frag}{mg:Str->Option Value}{base:Heap}
inductive PX(K:PySem.W.Frag)(vs:List V)(H:Hp)(Q:VK)(aW:XK):Prop
 | mk(x C dx p:Addr)(fs:List (Str × V))(i j:Int)(s:S2)(_:vs=[.ref x,.ref p])(_:H x=some (.ins C dx fs))(_:br K C)(_:bB K C "first")(_:bB K C "last")(_:fs.lookup ("first" : Str)=some (.int i))(_:fs.lookup ("last" : Str)=some (.int j))(_:bp i j)(_:H p=some (.tup [ev s.1,ev s.2]))(_:∀ l xs H',ai H H'->H l=none->H' l=some (.lst xs)->dA H' xs (bc i j s)->Q (.ref l) H')
theorem oj(T:Tx w K mg):Om P w mg base 2 T.di (PX K):=by
 refine cH zD ?_
 rintro y y y s y y y y hr ⟨x,C,dx,p,fs,i,j,s,rfl,hx,hc,n1,n2,l1,l2,hk,hp,q⟩
 refine⟨_,(ao (ay (aJ (ur T) hr (ae (bH rfl (aa 0) rfl) (ae (bH rfl (aa 0) rfl) (ae (aa 1) ah)))))),?_⟩
 obtain⟨k1,k2,k3⟩:=hk
 walk_at "gzn"
 refine⟨_,_,_,hx,hc,n1,_,l1,_,_,_,hx,hc,n2,_,l2,?_⟩
 exact⟨i,j,p,s,rfl,hp,by lia,by lia,q⟩
inductive PY(C:Addr)(vs:List V)(H:Hp)(Q:VK)(aW:XK):Prop
 | mk(x dx p:Addr)(i j:Int)(s:S2)(_:vs=[.ref x])(_:H x=some (.ins C dx [("first",.int i),("last",.int j),("stretch",.ref p)]))(_:bp i j)(_:H p=some (.tup [ev s.1,ev s.2]))(_:∀ l ys H',ai H H'->H l=none->H' l=some (.lst ys)->aD (bD H H') ys [bc i j s]->Q (.ref l) H')
theorem PZ(T:Tx w K mg):Om P w mg base 3 T.kx (PY T.bR):=by
 refine cH zF ?_
 rintro y y y s y y y y hr ⟨x,dx,p,i,j,s,rfl,hx,hk,hp,q⟩
 refine⟨_,(ao (ay (ck (ae (m9 (aa 0) T.fO T.Fd (oj T) hr.m T.di.b .nil fI (ae (bH rfl (aa 0) rfl) ah)) ah)))),?_⟩
 walk_at "gzn"
 refine⟨_,_,hx,rfl,_,_,_,hx,T.fO,T.qQ,_,rfl,?_⟩
 exact⟨x,T.bR,dx,p,_,i,j,s,rfl,hx,T.fO,T.qO,T.qP,rfl,rfl,hk,hp,fun l xs H1 s1 fl hl hP=>⟨by decide,fun c hc=>q c _ _ (s1.trans (ak hc)) (s1.free hc) aj ⟨⟨l,xs,rfl,fl,(ak hc) _ _ hl,hP.same (ak hc)⟩,trivial⟩⟩⟩
inductive P0(C:Addr)(vs:List V)(H:Hp)(Q:VK)(aW:XK):Prop
 | mk(x dx:Addr)(i j z:Int)(_:vs=[.ref x])(_:H x=some (.ins C dx [("first",.int i),("last",.int j),("sill",.int z)]))(_:bp i j)(_:∀ l ys H',ai H H'->H l=none->H' l=some (.lst ys)->aD (bD H H') ys (bw (bc i j (none,some (z-1))))->Q (.ref l) H')
theorem P1(T:Tx w K mg):Om P w mg base 3 T.kz (P0 T.bS):=by
 refine cH zI ?_
 rintro y y y y y y y y hr ⟨x,dx,i,j,z,rfl,hx,hk,q⟩
 refine⟨_,(ao (ay (aJ (rf T) hr (ae (m9 (aa 0) T.fP T.Fe (oj T) hr.m T.di.b .nil fI (ae (bg (ae cK (ae (ax dD (bH rfl (aa 0) rfl) ag) ah))) ah)) ah)))),?_⟩
 walk_at "gzn"
 refine⟨_,_,hx,rfl,_,_,_,hx,T.fP,T.qT,_,rfl,bJ,fun t ht=>?_⟩
 have s0:=ak (o:=.tup [.non,.int (z-1)]) ht
 refine⟨x,T.bS,dx,t,_,i,j,(none,some (z-1)),rfl,s0 _ _ hx,T.fP,T.qR,T.qS,rfl,rfl,hk,aj,fun l xs H1 s1 y hl hP=>?_⟩
 have hlen:=eO i j (none,some (z-1))
 obtain⟨k1,k2,k3⟩:=id hk
 exact⟨l,xs,_,rfl,ar.of hl,hP,by lia,fun c ys H2 s2 fc hc hy=>q c ys H2 (s0.trans (s1.trans s2)) ((s0.trans s1).free fc) hc (hy.imp fun y y r=>r.back (s0.trans s1))⟩
inductive P4(C:Addr)(vs:List V)(H:Hp)(Q:VK)(aW:XK):Prop
 | mk(x dx:Addr)(i j z:Int)(_:vs=[.ref x])(_:H x=some (.ins C dx [("first",.int i),("last",.int j),("sill",.int z)]))(_:bp i j)(_:∀ l ys H',ai H H'->H l=none->H' l=some (.lst ys)->aD (bD H H') ys (bw (bc i j (some (z+1),none)))->Q (.ref l) H')
theorem P5(T:Tx w K mg):Om P w mg base 3 T.kB (P4 T.bT):=by
 refine cH zL ?_
 rintro y y y y y y y y hr ⟨x,dx,i,j,z,rfl,hx,hk,q⟩
 refine⟨_,(ao (ay (aJ (rf T) hr (ae (m9 (aa 0) T.fQ T.Ff (oj T) hr.m T.di.b .nil fI (ae (bg (ae (ax a9 (bH rfl (aa 0) rfl) ag) (ae cK ah))) ah)) ah)))),?_⟩
 walk_at "gzn"
 refine⟨_,_,hx,rfl,_,_,_,hx,T.fQ,T.qW,_,rfl,bJ,fun t ht=>?_⟩
 have s0:=ak (o:=.tup [.int (z+1),.non]) ht
 refine⟨x,T.bT,dx,t,_,i,j,(some (z+1),none),rfl,s0 _ _ hx,T.fQ,T.qU,T.qV,rfl,rfl,hk,aj,fun l xs H1 s1 y hl hP=>?_⟩
 have hlen:=eO i j (some (z+1),none)
 obtain⟨k1,k2,k3⟩:=id hk
 exact⟨l,xs,_,rfl,ar.of hl,hP,by lia,fun c ys H2 s2 fc hc hy=>q c ys H2 (s0.trans (s1.trans s2)) ((s0.trans s1).free fc) hc (hy.imp fun y y r=>r.back (s0.trans s1))⟩
inductive P6(C:Addr)(vs:List V)(H:Hp)(Q:VK)(aW:XK):Prop
 | mk(x dx p:Addr)(i j:Int)(s:S2)(_:vs=[.ref x])(_:H x=some (.ins C dx [("first",.int i),("last",.int j),("stretch",.ref p)]))(_:bp i j)(_:H p=some (.tup [ev s.1,ev s.2]))(_:∀ l xs H',ai H H'->H l=none->H' l=some (.lst xs)->dA H' xs (dO i j s)->Q (.ref l) H')
theorem FD(T:Tx w K mg):Om P w mg base 1 T.jD (P6 T.bO):=by
 refine cH zQ ?_
 rintro z z z s z z Q z z ⟨x,dx,p,i,j,s,rfl,hx,hk,hp,q⟩
 refine⟨_,(ao (ay (fK (cO [0] ["self"]) rfl (oU rfl T.jF (ae (bH rfl (aa 0) rfl) (ae (bH rfl (aa 0) rfl) ah))) (fun C s2 H2 ex pn=>⟨eU,(bg (ae au (ae (aa 0) (ae (bH (K:=K) rfl (aa 1) rfl) ah))))⟩)))),?_⟩
 obtain⟨k1,k2,k3⟩:=hk
 walk_at "gzn"
 refine⟨_,_,_,hx,T.gq,T.um,_,rfl,_,_,_,hx,T.gq,T.uo,_,rfl,_,rfl,_,rfl,by lia,by lia,by lia,by lia,?_⟩
 refine eV lP (by rw[List.length_map,List.length_range];exact Nat.le_trans (by lia:_<=20) (by decide)) (lS (R:=fun _ x (k:Nat)=>x=V.int (i+k)) (R':=gK) (f:=fun (k:Nat)=>(("step",i+(k:Int),s):Pa)) (fun z z z z z h=>h) (fun z z z z s' h=>h.same s') (aD.iF _) (bs:=[]) trivial (fun z z=>trivial) (fun x k z H2 s2 r Q h=>?_) (fun y k z H2 s2 r Q h=>?_) fun H2 zs s2 hz=>?_)
 ·walk_at "gzn"
  exact h
 ·subst r
  walk_at "gzn"
  refine⟨_,_,_,s2 _ _ hx,T.gq,T.uq,_,rfl,by decide,fun t ht=>h _ _ (ak ht) ⟨t,p,rfl,aj,(ak ht) _ _ (s2 _ _ hp)⟩⟩
 ·intro l hl
  refine q l zs _ (s2.trans (ak hl)) (s2.free hl) aj ?_
  rw[List.nil_append] at hz
  exact hz.imp fun z z r=>r.same (ak hl)
inductive P7(C:Addr)(vs:List V)(H:Hp)(Q:VK)(aW:XK):Prop
 | mk(x dx p:Addr)(i j:Int)(s:S2)(_:vs=[.ref x])(_:H x=some (.ins C dx [("first",.int i),("last",.int j),("stretch",.ref p)]))(_:bp i j)(_:H p=some (.tup [ev s.1,ev s.2]))(_:∀ l ys H',ai H H'->H l=none->H' l=some (.lst ys)->aD (bD H H') ys [dO i j s]->Q (.ref l) H')
theorem P8(T:Tx w K mg):Om P w mg base 2 T.kF (P7 T.bO):=by
 refine cH zR ?_
 rintro y y y s y y y y hr ⟨x,dx,p,i,j,s,rfl,hx,hk,hp,q⟩
 refine⟨_,(ao (ay (ck (ae (sv (aa 0) T.gq T.Fg (FD T) hr.m T.jD.b .nil fI) ah)))),?_⟩
 walk_at "gzn"
 refine⟨_,_,hx,rfl,?_⟩
 exact⟨x,dx,p,i,j,s,rfl,hx,hk,hp,fun l xs H1 s1 fl hl hP=>⟨by decide,fun c hc=>q c _ _ (s1.trans (ak hc)) (s1.free hc) aj ⟨⟨l,xs,rfl,fl,(ak hc) _ _ hl,hP.same (ak hc)⟩,trivial⟩⟩⟩
noncomputable def ix(t:Int):List Pa:=[("step",t-1,some 1,none),("step",t,none,some (-1))]
inductive P9(C:Addr)(vs:List V)(H:Hp)(Q:VK)(aW:XK):Prop
 | mk(x dx:Addr)(t:Int)(_:vs=[.ref x])(_:H x=some (.ins C dx [("turn",.int t)]))(_:∀ l xs H',ai H H'->H l=none->H' l=some (.lst xs)->dA H' xs (ix t)->Q (.ref l) H')
theorem FE(T:Tx w K mg):Om P w mg base 1 T.jE (P9 T.cF):=by
 refine cH zU ?_
 rintro y y y y y y y y y ⟨x,dx,t,rfl,hx,q⟩
 refine⟨_,(ao (ay (ck (ae (bg (ae au (ae (ax dD (bH rfl (aa 0) rfl) ag) (ae (bg (ae ag (ae cK ah))) ah)))) (ae (bg (ae au (ae (bH rfl (aa 0) rfl) (ae (bg (ae cK (ae (jX ke ag) ah))) ah)))) ah))))),?_⟩
 walk_at "gzn"
 refine⟨_,_,_,hx,T.iw,T.qZ,_,rfl,bJ,fun a ha=>⟨by decide,fun b hb=>?_⟩⟩
 have sa:=ak (o:=.tup [.int 1,.non]) ha
 have sb:=ak (o:=.tup [.str "step",.int (t-1),.ref a]) hb
 refine⟨_,_,_,(sa.trans sb) _ _ hx,T.iw,T.qZ,_,rfl,bJ,fun c hc=>⟨by decide,fun d hd=>⟨by decide,fun e he=>?_⟩⟩⟩
 have sc:=ak (o:=.tup [.non,.int (-1)]) hc
 have sd:=ak (o:=.tup [.str "step",.int t,.ref c]) hd
 have se:=ak (o:=.lst [.ref b,.ref d]) he
 have zd:=sd.trans se
 have zc:=sc.trans zd
 have zb:=sb.trans zc
 exact q e _ _ (sa.trans zb) ((sa.trans (sb.trans (sc.trans sd))).free he) aj ⟨⟨b,a,rfl,zc _ _ aj,zb _ _ aj⟩,⟨d,c,rfl,se _ _ aj,zd _ _ aj⟩,trivial⟩
inductive Qa(C:Addr)(vs:List V)(H:Hp)(Q:VK)(aW:XK):Prop
 | mk(x dx:Addr)(t:Int)(_:vs=[.ref x])(_:H x=some (.ins C dx [("turn",.int t)]))(_:∀ l ys H',ai H H'->H l=none->H' l=some (.lst ys)->aD (bD H H') ys [ix t]->Q (.ref l) H')
theorem Qb(T:Tx w K mg):Om P w mg base 2 T.kH (Qa T.cF):=by
 refine cH zV ?_
 rintro y y y y y y y y hr ⟨x,dx,t,rfl,hx,q⟩
 refine⟨_,(ao (ay (ck (ae (sv (aa 0) T.iw T.Fh (FE T) hr.m T.jE.b .nil fI) ah)))),?_⟩
 walk_at "gzn"
 refine⟨_,_,hx,rfl,?_⟩
 exact⟨x,dx,t,rfl,hx,fun l xs H1 s1 fl hl hP=>⟨by decide,fun c hc=>q c _ _ (s1.trans (ak hc)) (s1.free hc) aj ⟨⟨l,xs,rfl,fl,(ak hc) _ _ hl,hP.same (ak hc)⟩,trivial⟩⟩⟩
noncomputable def uu(i j l h:Int)(n:Nat):List (List Pa):=(List.range n).flatMap fun k=>(bc (i+(k:Nat)+1) j (some h,none)).map fun p=>[(("at",i+(k:Nat),none,some l):Pa),p]
theorem Qc(i j l h:Int)(n:Nat):uu i j l h (n+1)=uu i j l h n++(bc (i+(n:Nat)+1) j (some h,none)).map fun p=>[(("at",i+(n:Nat),none,some l):Pa),p]:=by
 unfold uu
 rw[List.range_succ,List.flatMap_append]
 simp
inductive Qd(H:Hp)(x r:Addr)(i j l h:Int)(n:Nat)(σ:St)(H1:Hp):Prop
 | mk(ys:List V)(e1 e2:Option V)(_:σ=[some (.ref x),some (.ref r),e1,e2])(_:ai H H1)(_:H1 r=some (.lst ys))(_:aD (fM H r H1) ys (uu i j l h n))(_:ys.length<=12 * n)
inductive Qe(C:Addr)(vs:List V)(H:Hp)(Q:VK)(aW:XK):Prop
 | mk(x dx:Addr)(i j l h:Int)(_:vs=[.ref x])(_:H x=some (.ins C dx [("first",.int i),("last",.int j),("low",.int l),("high",.int h)]))(_:bp i j)(_:∀ r ys H',ai H H'->H r=none->H' r=some (.lst ys)->aD (bD H H') ys (fN i j l h)->Q (.ref r) H')
theorem Qf(T:Tx w K mg):Om P w mg base 2 T.kD (Qe T.bU):=by
 refine cH nX ?_
 rintro v v v s H v Q v hr ⟨x,dx,i,j,l,h,rfl,hx,hk,q⟩
 refine⟨_,(aq (aN 1 nX.nd (ck ah)) (aq (jV PassesOwn.never rfl (oU rfl T.jF (ae (bH rfl (aa 0) rfl) (ae (bH rfl (aa 0) rfl) ah))) (jw 2 nX.nd) (aq (aN 3 nX.nd (ck (ae (bg (ae au (ae (aa 2) (ae (bg (ae cK (ae (bH rfl (aa 0) rfl) ah))) ah)))) ah))) (ao (fh (eN PySem.F.plainAttrs_list PySem.F.slot_list_extend PySem.F.type_list_extend vQ (aa 1) (ae (fK (cO [3] ["lows"]) rfl (jh (aJ (ur T) hr (ae (ax a9 (aa 2) ag) (ae (bH rfl (aa 0) rfl) (ae (bg (ae (bH rfl (aa 0) rfl) (ae cK ah))) ah))))) (fun C s2 H2 ex pn=>⟨eU,(ax dt (aa 1) (ck (ae (aa 0) ah)))⟩)) ah)))))) (ao (ay (aa 1))))),?_⟩
 obtain⟨k1,k2,k3⟩:=id hk
 walk_at "gzn"
 refine⟨by decide,fun r Ay=>?_⟩
 have s1:=ak (o:=.lst []) Ay
 have e1:upd H r (.lst []) r=some (.lst []):=aj
 generalize upd H r (.lst [])=H1 at s1 e1 ⊢
 refine⟨_,_,_,s1 _ _ hx,T.dS,T.n4,_,rfl,_,_,_,s1 _ _ hx,T.dS,T.mG,_,rfl,_,rfl,_,rfl,by lia,by lia,by lia,by lia,?_⟩
 refine CI (Qd H x r i j l h) ⟨[],_,_,rfl,s1,e1,trivial,Nat.zero_le _⟩ ?_ ?_
 ·rintro k σ H2 Vz ⟨ys,v,v,rfl,s2,fR,hy,hlen⟩
  walk_at "gzn"
  refine⟨_,_,_,s2 _ _ hx,T.dS,T.qX,_,rfl,bJ,fun a ha=>⟨by decide,fun b hb=>⟨by decide,fun lo Az=>?_⟩⟩⟩
  have sa:=ak (o:=.tup [.non,.int l]) ha
  have sb:=ak (o:=.tup [.str "at",.int (i+(k:Int)),.ref a]) hb
  have sl:=ak (o:=.lst [.ref b]) Az
  have S3:=sa.trans (sb.trans sl)
  have eb:gK (upd (upd (upd H2 a (.tup [.non,.int l])) b (.tup [.str "at",.int (i+(k:Int)),.ref a])) lo (.lst [.ref b])) (.ref b) (("at",i+(k:Int),none,some l):Pa):=⟨b,a,rfl,sl _ _ aj,(sb.trans sl) _ _ aj⟩
  have FF:(upd (upd (upd H2 a (.tup [.non,.int l])) b (.tup [.str "at",.int (i+(k:Int)),.ref a])) lo (.lst [.ref b])) lo=some (.lst [.ref b]):=aj
  generalize upd (upd (upd H2 a (.tup [.non,.int l])) b (.tup [.str "at",.int (i+(k:Int)),.ref a])) lo (.lst [.ref b])=H3 at S3 eb FF ⊢
  walk_at "gzn"
  have rg:=S3 _ _ fR
  have rh:=S3 _ _ (s2 _ _ hx)
  refine⟨.inl ⟨rfl,_,ar.of rg⟩,_,_,_,rh,T.dS,T.mG,_,rfl,_,_,_,rh,T.dS,T.qY,_,rfl,bJ,fun c hc=>?_⟩
  have sc:=ak (o:=.tup [.int h,.non]) hc
  refine⟨_,_,c,(some h,none),rfl,aj,by lia,by lia,fun g gs H4 s4 v hg hG=>?_⟩
  have S4:=sc.trans s4
  have AA:=hG.len
  rw[eO] at AA
  walk_at "gzn"
  refine⟨⟨_,ar.of hg⟩,eV lO (Nat.le_trans (by lia:gs.length<=12) (by decide)) (lS (R:=gK) (R':=fM H r) (f:=fun p=>[(("at",i+(k:Int),none,some l):Pa),p]) (fun v v v v s' h=>h.same s') (fun v v v v s' h=>h.same s') hG (bs:=[]) trivial (fun H' s'=>ar.of (s' _ _ hg)) (fun x k v H5 s5 r Q h=>?_) (fun y p v H5 s5 ry Q h=>?_) fun H5 zs s5 hz=>?_)⟩
  ·walk_at "gzn"
   exact h
  ·have S5:=S4.trans s5
   walk_at "gzn"
   refine⟨by decide,fun d hd=>?_⟩
   have sd:=ak (o:=.lst [y]) hd
   refine⟨_,sd _ _ (S5 _ _ FF),_,aj,(show 2<=sizeLine by decide),fun m hm=>?_⟩
   have sm:=ak (o:=.lst ([.ref b]++[y])) hm
   have mr:m≠r:=fun z=>by rw[z,sd _ _ (S5 _ _ rg)] at hm;cases hm
   exact h _ _ (sd.trans sm) ⟨m,[.ref b,y],rfl,mr,(s2.trans (S3.trans (S5.trans sd))).free hm,aj,(eb.same (S5.trans (sd.trans sm))),ry.same (sd.trans sm),trivial⟩
  ·intro d hd
   rw[List.nil_append] at hz
   have u:=(S4.trans s5).trans (ak (o:=.lst zs) hd)
   have Ax:=hz.len
   rw[List.length_map,eO] at Ax
   refine⟨r,d,_,_,rfl,rfl,u _ _ rg,aj,Nat.le_trans (by lia:ys.length+zs.length<=300) (by decide),ys++zs,_,_,rfl,dJ Ay (s2.trans (S3.trans u)),aj,?_,by rw[List.length_append];lia⟩
   rw[Qc]
   have a1:=(hy.imp fun v v z=>(z.same (S3.trans u)).put (o:=.lst (ys++zs)) (u _ _ rg))
   have a2:=(hz.imp fun v v z=>(z.same (ak (o:=.lst zs) hd)).put (o:=.lst (ys++zs)) (u _ _ rg))
   exact a1.app a2
 ·rintro σ H2 ⟨ys,v,v,rfl,s2,fR,hy,hlen⟩
  walk_at "gzn"
  exact q r ys H2 s2 Ay fR (hy.imp fun v v z=>z.w6)
end
section
seal L2.PE L2.PS L2.aS L2.PA
variable{P:Program}{w:World}{K:PySem.W.Frag}{mg:Str->Option Value}{base:Heap}
inductive Qg(C:Addr)(vs:List V)(H:Hp)(Q:VK)(aW:XK):Prop
 | mk(x dx p:Addr)(i j:Int)(s:S2)(_:vs=[.ref x])(_:H x=some (.ins C dx [("first",.int i),("last",.int j),("stretch",.ref p)]))(_:bp i j)(_:H p=some (.tup [ev s.1,ev s.2]))(_:∀ l ys H',ai H H'->H l=none->H' l=some (.lst ys)->aD (bD H H') ys (bw (bc i j s))->Q (.ref l) H')
theorem Qh(T:Tx w K mg):Om P w mg base 3 T.ky (Qg T.bR):=by
 refine cH zG ?_
 rintro y y y s y y y y hr ⟨x,dx,p,i,j,s,rfl,hx,hk,hp,q⟩
 refine⟨_,(ao (ay (aJ (rf T) hr (ae (m9 (aa 0) T.fO T.Fd (oj T) hr.m T.di.b .nil fI (ae (bH rfl (aa 0) rfl) ah)) ah)))),?_⟩
 walk_at "gzn"
 refine⟨_,_,hx,rfl,_,_,_,hx,T.fO,T.qQ,_,rfl,?_⟩
 have hlen:=eO i j s
 obtain⟨k1,k2,k3⟩:=id hk
 exact⟨x,T.bR,dx,p,_,i,j,s,rfl,hx,T.fO,T.qO,T.qP,rfl,rfl,hk,hp,fun l xs H1 s1 y hl hP=>⟨l,xs,_,rfl,ar.of hl,hP,by lia,fun c ys H2 s2 fc hc hy=>q c ys H2 (s1.trans s2) (s1.free fc) hc (hy.imp fun y y r=>r.back s1)⟩⟩
inductive Qi(C:Addr)(vs:List V)(H:Hp)(Q:VK)(aW:XK):Prop
 | mk(x dx:Addr)(i j z:Int)(_:vs=[.ref x])(_:H x=some (.ins C dx [("first",.int i),("last",.int j),("sill",.int z)]))(_:bp i j)(_:∀ l ys H',ai H H'->H l=none->H' l=some (.lst ys)->aD (bD H H') ys [bc i j (none,some (z-1))]->Q (.ref l) H')
theorem Qj(T:Tx w K mg):Om P w mg base 3 T.kA (Qi T.bS):=by
 refine cH zJ ?_
 rintro y y y y y y y y hr ⟨x,dx,i,j,z,rfl,hx,hk,q⟩
 refine⟨_,(ao (ay (ck (ae (m9 (aa 0) T.fP T.Fe (oj T) hr.m T.di.b .nil fI (ae (bg (ae cK (ae (ax dD (bH rfl (aa 0) rfl) ag) ah))) ah)) ah)))),?_⟩
 walk_at "gzn"
 refine⟨_,_,hx,rfl,_,_,_,hx,T.fP,T.qT,_,rfl,bJ,fun t ht=>?_⟩
 have s0:=ak (o:=.tup [.non,.int (z-1)]) ht
 exact⟨x,T.bS,dx,t,_,i,j,(none,some (z-1)),rfl,s0 _ _ hx,T.fP,T.qR,T.qS,rfl,rfl,hk,aj,fun l xs H1 s1 fl hl hP=>⟨by decide,fun c hc=>q c _ _ (s0.trans (s1.trans (ak hc))) ((s0.trans s1).free hc) aj ⟨⟨l,xs,rfl,s0.free fl,(ak hc) _ _ hl,hP.same (ak hc)⟩,trivial⟩⟩⟩
inductive Qk(C:Addr)(vs:List V)(H:Hp)(Q:VK)(aW:XK):Prop
 | mk(x dx:Addr)(i j z:Int)(_:vs=[.ref x])(_:H x=some (.ins C dx [("first",.int i),("last",.int j),("sill",.int z)]))(_:bp i j)(_:∀ l ys H',ai H H'->H l=none->H' l=some (.lst ys)->aD (bD H H') ys [bc i j (some (z+1),none)]->Q (.ref l) H')
theorem Ql(T:Tx w K mg):Om P w mg base 3 T.kC (Qk T.bT):=by
 refine cH zM ?_
 rintro y y y y y y y y hr ⟨x,dx,i,j,z,rfl,hx,hk,q⟩
 refine⟨_,(ao (ay (ck (ae (m9 (aa 0) T.fQ T.Ff (oj T) hr.m T.di.b .nil fI (ae (bg (ae (ax a9 (bH rfl (aa 0) rfl) ag) (ae cK ah))) ah)) ah)))),?_⟩
 walk_at "gzn"
 refine⟨_,_,hx,rfl,_,_,_,hx,T.fQ,T.qW,_,rfl,bJ,fun t ht=>?_⟩
 have s0:=ak (o:=.tup [.int (z+1),.non]) ht
 exact⟨x,T.bT,dx,t,_,i,j,(some (z+1),none),rfl,s0 _ _ hx,T.fQ,T.qU,T.qV,rfl,rfl,hk,aj,fun l xs H1 s1 fl hl hP=>⟨by decide,fun c hc=>q c _ _ (s0.trans (s1.trans (ak hc))) ((s0.trans s1).free hc) aj ⟨⟨l,xs,rfl,s0.free fl,(ak hc) _ _ hl,hP.same (ak hc)⟩,trivial⟩⟩⟩
theorem FG(i j:Int)(s:S2):(dO i j s).length=(j-i).toNat:=by
 unfold dO
 rw[List.length_map,List.length_range]
inductive Qm(C:Addr)(vs:List V)(H:Hp)(Q:VK)(aW:XK):Prop
 | mk(x dx p:Addr)(i j:Int)(s:S2)(_:vs=[.ref x])(_:H x=some (.ins C dx [("first",.int i),("last",.int j),("stretch",.ref p)]))(_:bp i j)(_:H p=some (.tup [ev s.1,ev s.2]))(_:∀ l ys H',ai H H'->H l=none->H' l=some (.lst ys)->aD (bD H H') ys (bw (dO i j s))->Q (.ref l) H')
theorem Qn(T:Tx w K mg):Om P w mg base 3 T.kG (Qm T.bO):=by
 refine cH zS ?_
 rintro y y y s y y y y hr ⟨x,dx,p,i,j,s,rfl,hx,hk,hp,q⟩
 refine⟨_,(ao (ay (aJ (rf T) hr (ae (sv (aa 0) T.gq T.Fg (FD T) hr.m T.jD.b .nil fI) ah)))),?_⟩
 walk_at "gzn"
 refine⟨_,_,hx,rfl,?_⟩
 have hlen:=FG i j s
 obtain⟨k1,k2,k3⟩:=id hk
 exact⟨x,dx,p,i,j,s,rfl,hx,hk,hp,fun l xs H1 s1 y hl hP=>⟨l,xs,_,rfl,ar.of hl,hP,by lia,fun c ys H2 s2 fc hc hy=>q c ys H2 (s1.trans s2) (s1.free fc) hc (hy.imp fun y y r=>r.back s1)⟩⟩
inductive Qo(C:Addr)(vs:List V)(H:Hp)(Q:VK)(aW:XK):Prop
 | mk(x dx:Addr)(t:Int)(_:vs=[.ref x])(_:H x=some (.ins C dx [("turn",.int t)]))(_:∀ l ys H',ai H H'->H l=none->H' l=some (.lst ys)->aD (bD H H') ys (bw (ix t))->Q (.ref l) H')
theorem Qp(T:Tx w K mg):Om P w mg base 3 T.kI (Qo T.cF):=by
 refine cH zW ?_
 rintro y y y y y y y y hr ⟨x,dx,t,rfl,hx,q⟩
 refine⟨_,(ao (ay (aJ (rf T) hr (ae (sv (aa 0) T.iw T.Fh (FE T) hr.m T.jE.b .nil fI) ah)))),?_⟩
 walk_at "gzn"
 refine⟨_,_,hx,rfl,?_⟩
 exact⟨x,dx,t,rfl,hx,fun l xs H1 s1 y hl hP=>⟨l,xs,_,rfl,ar.of hl,hP,(show 2<=100 by decide),fun c ys H2 s2 fc hc hy=>q c ys H2 (s1.trans s2) (s1.free fc) hc (hy.imp fun y y r=>r.back s1)⟩⟩
noncomputable def gU(i j l h:Int):List (List Pa):=(List.range (j+1-i).toNat).map fun k=>bc i (i+(k:Nat)-1) (some (l+1),none)++bc (i+(k:Nat)+1) j (none,some (h-1))
inductive Qq(C:Addr)(vs:List V)(H:Hp)(Q:VK)(aW:XK):Prop
 | mk(x dx:Addr)(i j l h:Int)(_:vs=[.ref x])(_:H x=some (.ins C dx [("first",.int i),("last",.int j),("low",.int l),("high",.int h)]))(_:bp i j)(_:∀ r ys H',ai H H'->H r=none->H' r=some (.lst ys)->aD (bD H H') ys (gU i j l h)->Q (.ref r) H')
theorem Qr(T:Tx w K mg):Om P w mg base 2 T.kE (Qq T.bU):=by
 refine cH zO ?_
 rintro z z z s H z Q z hr ⟨x,dx,i,j,l,h,rfl,hx,hk,q⟩
 refine⟨_,(ao (ay (fK (cO [0] ["self"]) rfl (oU rfl T.jF (ae (bH rfl (aa 0) rfl) (ae (ax a9 (bH rfl (aa 0) rfl) ag) ah))) (fun C s2 H2 ex pn=>⟨eU,(ax dt (aJ (ur T) hr (ae (bH (K:=K) rfl (aa 1) rfl) (ae (ax dD (aa 0) ag) (ae (bg (ae (ax a9 (bH (K:=K) rfl (aa 1) rfl) ag) (ae cK ah))) ah)))) (aJ (ur T) hr (ae (ax a9 (aa 0) ag) (ae (bH (K:=K) rfl (aa 1) rfl) (ae (bg (ae cK (ae (ax dD (bH (K:=K) rfl (aa 1) rfl) ag) ah))) ah)))))⟩)))),?_⟩
 obtain⟨k1,k2,k3⟩:=id hk
 walk_at "gzn"
 refine⟨_,_,_,hx,T.dS,T.n4,_,rfl,_,_,_,hx,T.dS,T.mG,_,rfl,_,rfl,by lia,by lia,by lia,by lia,?_⟩
 refine eV lP (by rw[List.length_map,List.length_range];exact Nat.le_trans (by lia:_<=20) (by decide)) (lS (R:=fun _ x (k:Nat)=>x=V.int (i+k)) (R':=bD H) (f:=fun (k:Nat)=>bc i (i+(k:Int)-1) (some (l+1),none)++bc (i+(k:Int)+1) j (none,some (h-1))) (fun z z z z z h=>h) (fun z z z z s' h=>h.same s') (aD.iF _) (bs:=[]) trivial (fun z z=>trivial) (fun x k z H2 s2 r Q h=>?_) (fun y k FH H2 s2 r Q hq=>?_) fun H2 zs s2 hz=>?_)
 ·walk_at "gzn"
  exact h
 ·subst r
  have FH:=List.mem_range.mp FH
  walk_at "gzn"
  have fJ:=s2 _ _ hx
  refine⟨_,_,_,fJ,T.dS,T.n4,_,rfl,_,_,_,fJ,T.dS,T.qX,_,rfl,bJ,fun a ha=>?_⟩
  have sa:=ak (o:=.tup [.int (l+1),.non]) ha
  refine⟨_,_,a,(some (l+1),none),rfl,aj,by lia,by lia,fun g gs H3 s3 z hg hG=>?_⟩
  have rh:=(sa.trans s3) _ _ fJ
  walk_at "gzn"
  refine⟨_,_,_,rh,T.dS,T.mG,_,rfl,_,_,_,rh,T.dS,T.qY,_,rfl,bJ,fun b hb=>?_⟩
  have sb:=ak (o:=.tup [.non,.int (h-1)]) hb
  refine⟨_,_,b,(none,some (h-1)),rfl,aj,by lia,by lia,fun d ds H4 s4 z hd hD=>?_⟩
  have S4:=sb.trans s4
  have l1:=hG.len
  have l2:=hD.len
  rw[eO] at l1 l2
  walk_at "gzn"
  refine⟨gs,S4 _ _ hg,ds,hd,Nat.le_trans (by lia:gs.length+ds.length<=40) (by decide),fun c hc=>?_⟩
  have sc:=ak (o:=.lst (gs++ds)) hc
  exact hq _ _ ((sa.trans s3).trans (S4.trans sc)) ⟨c,gs++ds,rfl,(s2.trans ((sa.trans s3).trans S4)).free hc,aj,aD.app (dA.same hG (S4.trans sc)) (dA.same hD sc)⟩
 ·intro c hc
  refine q c zs _ (s2.trans (ak hc)) (s2.free hc) aj ?_
  rw[List.nil_append] at hz
  exact hz.imp fun z z r=>r.same (ak hc)
end
section
seal L2.PE L2.PS L2.aS L2.PA
variable{P:Program}{w:World}{K:PySem.W.Frag}{mg:Str->Option Value}{base:Heap}
inductive Tr where
 | stay (i j:Int) (l h:En)|over (i j s:Int)|under (i j s:Int)|rose (i j l h:Int)|pace (i j:Int) (l h:En)|turn (t:Int)
noncomputable def uv:Tr->List V
 | .stay i j l h=>[.str "stay",.int i,.int j,ev l,ev h]
 | .over i j s=>[.str "over",.int i,.int j,.int s]
 | .under i j s=>[.str "under",.int i,.int j,.int s]
 | .rose i j l h=>[.str "rose",.int i,.int j,.int l,.int h]
 | .pace i j l h=>[.str "pace",.int i,.int j,ev l,ev h]
 | .turn t=>[.str "turn",.int t]
def dU:Tr->Prop
 | .stay i j l h=>bp i j
 | .over i j s=>bp i j
 | .under i j s=>bp i j
 | .rose i j l h=>bp i j/\l<h
 | .pace i j l h=>bp i j
 | .turn t=>0<t/\t<11
noncomputable def iY:Tr->Int
 | .stay i j l h=>j
 | .over i j s=>j
 | .under i j s=>j
 | .rose i j l h=>j
 | .pace i j l h=>j
 | .turn t=>t+1
noncomputable def c7:Tr->List (List Pa)
 | .stay i j l h=>[bc i j (l,h)]
 | .over i j s=>bw (bc i j (none,some (s-1)))
 | .under i j s=>bw (bc i j (some (s+1),none))
 | .rose i j l h=>fN i j l h
 | .pace i j l h=>[dO i j (l,h)]
 | .turn t=>[ix t]
noncomputable def gx:Tr->List (List Pa)
 | .stay i j l h=>bw (bc i j (l,h))
 | .over i j s=>[bc i j (none,some (s-1))]
 | .under i j s=>[bc i j (some (s+1),none)]
 | .rose i j l h=>gU i j l h
 | .pace i j l h=>bw (dO i j (l,h))
 | .turn t=>bw (ix t)
def iZ(T:Tx w K mg)(H:Hp)(x:Addr):Tr->Prop
 | .stay i j l h=>∃ dx p,H x=some (.ins T.bR dx [("first",.int i),("last",.int j),("stretch",.ref p)])/\H p=some (.tup [ev l,ev h])
 | .over i j s=>∃ dx,H x=some (.ins T.bS dx [("first",.int i),("last",.int j),("sill",.int s)])
 | .under i j s=>∃ dx,H x=some (.ins T.bT dx [("first",.int i),("last",.int j),("sill",.int s)])
 | .rose i j l h=>∃ dx,H x=some (.ins T.bU dx [("first",.int i),("last",.int j),("low",.int l),("high",.int h)])
 | .pace i j l h=>∃ dx p,H x=some (.ins T.bO dx [("first",.int i),("last",.int j),("stretch",.ref p)])/\H p=some (.tup [ev l,ev h])
 | .turn t=>∃ dx,H x=some (.ins T.cF dx [("turn",.int t)])
theorem iZ.same{T:Tx w K mg}{H H':Hp}{x:Addr}{tr:Tr}(h:iZ T H x tr)(s:ai H H'):iZ T H' x tr:=by
 cases tr
 case stay=>obtain⟨dx,p,a,b⟩:=h;exact⟨dx,p,s _ _ a,s _ _ b⟩
 case pace=>obtain⟨dx,p,a,b⟩:=h;exact⟨dx,p,s _ _ a,s _ _ b⟩
 all_goals (obtain⟨dx,a⟩:=h;exact⟨dx,s _ _ a⟩)
inductive uw(T:Tx w K mg)(f:Tr->List (List Pa))(x:V)(H:Hp)(Q:VK):Prop
 | mk(a:Addr)(tr:Tr)(_:x = .ref a)(_:iZ T H a tr)(_:dU tr)(_:∀ l ys H',ai H H'->H l=none->H' l=some (.lst ys)->aD (bD H H') ys (f tr)->Q (.ref l) H')
theorem FI(T:Tx w K mg){A:Around}{n:Nat}(hr:ba n A)(hn:3<=n:=by decide)(x:V)(H:Hp)(Q:VK)(h:uw T c7 x H Q):cN P w K mg base A "ways" x H Q:=by
 obtain⟨x,tr,rfl,he,hg,cont⟩:=h
 replace hr:=hr.mono hn
 cases tr with
 | stay i j l h =>
  obtain⟨dx,p,hx,hp⟩:=id he
  exact .of hx T.fO T.Oe (PZ T) hr T.kx.b ⟨x,dx,p,i,j,(l,h),rfl,hx,hg,hp,cont⟩
 | over i j s =>
  obtain⟨dx,hx⟩:=id he
  exact .of hx T.fP T.Oi (P1 T) hr T.kz.b ⟨x,dx,i,j,s,rfl,hx,hg,cont⟩
 | under i j s =>
  obtain⟨dx,hx⟩:=id he
  exact .of hx T.fQ T.Oq (P5 T) hr T.kB.b ⟨x,dx,i,j,s,rfl,hx,hg,cont⟩
 | rose i j l h =>
  obtain⟨dx,hx⟩:=id he
  exact .of hx T.dS T.Ow (Qf T) hr T.kD.b ⟨x,dx,i,j,l,h,rfl,hx,hg.1,cont⟩
 | pace i j l h =>
  obtain⟨dx,p,hx,hp⟩:=id he
  exact .of hx T.gq T.OA (P8 T) hr T.kF.b ⟨x,dx,p,i,j,(l,h),rfl,hx,hg,hp,cont⟩
 | turn t =>
  obtain⟨dx,hx⟩:=id he
  exact .of hx T.iw T.OE (Qb T) hr T.kH.b ⟨x,dx,t,rfl,hx,cont⟩
theorem Qs(T:Tx w K mg){H:Hp}{x:Addr}{tr:Tr}(he:iZ T H x tr)(hg:dU tr)(Q:VK)(cont:∀ l ys H',ai H H'->H l=none->H' l=some (.lst ys)->aD (bD H H') ys (c7 tr)->Q (.ref l) H'):uw T c7 (.ref x) H Q:=⟨x,tr,rfl,he,hg,cont⟩
theorem FK(T:Tx w K mg){A:Around}{n:Nat}(hr:ba n A)(hn:3<=n:=by decide)(x:V)(H:Hp)(Q:VK)(h:uw T gx x H Q):cN P w K mg base A "breaks" x H Q:=by
 obtain⟨x,tr,rfl,he,hg,cont⟩:=h
 replace hr:=hr.mono hn
 cases tr with
 | stay i j l h =>
  obtain⟨dx,p,hx,hp⟩:=id he
  exact .of hx T.fO T.Of (Qh T) hr T.ky.b ⟨x,dx,p,i,j,(l,h),rfl,hx,hg,hp,cont⟩
 | over i j s =>
  obtain⟨dx,hx⟩:=id he
  exact .of hx T.fP T.Oj (Qj T) hr T.kA.b ⟨x,dx,i,j,s,rfl,hx,hg,cont⟩
 | under i j s =>
  obtain⟨dx,hx⟩:=id he
  exact .of hx T.fQ T.Ot (Ql T) hr T.kC.b ⟨x,dx,i,j,s,rfl,hx,hg,cont⟩
 | rose i j l h =>
  obtain⟨dx,hx⟩:=id he
  exact .of hx T.dS T.Ox (Qr T) hr T.kE.b ⟨x,dx,i,j,l,h,rfl,hx,hg.1,cont⟩
 | pace i j l h =>
  obtain⟨dx,p,hx,hp⟩:=id he
  exact .of hx T.gq T.OB (Qn T) hr T.kG.b ⟨x,dx,p,i,j,(l,h),rfl,hx,hg,hp,cont⟩
 | turn t =>
  obtain⟨dx,hx⟩:=id he
  exact .of hx T.iw T.OF (Qp T) hr T.kI.b ⟨x,dx,t,rfl,hx,cont⟩
theorem Qt(T:Tx w K mg){H:Hp}{x:Addr}{tr:Tr}(he:iZ T H x tr)(hg:dU tr)(Q:VK)(cont:∀ l ys H',ai H H'->H l=none->H' l=some (.lst ys)->aD (bD H H') ys (gx tr)->Q (.ref l) H'):uw T gx (.ref x) H Q:=⟨x,tr,rfl,he,hg,cont⟩
end
section
seal L2.PE L2.PS L2.aS L2.PA
variable{P:Program}{w:World}{K:PySem.W.Frag}{mg:Str->Option Value}{base:Heap}
inductive Qu(T:Tx w K mg)(vs:List V)(H:Hp)(Q:VK)(aW:XK):Prop
 | mk(x:Addr)(tr:Tr)(_:vs=[.ref x])(_:iZ T H x tr)(_:dU tr)(_:∀ p H',ai H H'->H' p=some (.tup [.int (c7 tr).length,.int (gx tr).length])->Q (.ref p) H')
theorem oo(T:Tx w K mg):Om P w mg base 10 T.cz (Qu T):=by
 refine cH zB ?_
 rintro y y y y y y y y hr ⟨x,tr,rfl,he,hg,q⟩
 refine⟨_,(ao (ay (bg (ae (bj c8 (by rfl) T.dj df (ae (dP (FI T hr) (aa 0)) ah)) (ae (bj c8 (by rfl) T.dj df (ae (dP (FK T hr) (aa 0)) ah)) ah))))),?_⟩
 walk_at "gzn"
 refine Qs T he hg _ fun l ys H1 s1 y hl hy=>?_
 walk_at "gzn"
 refine⟨_,dI (ar.of hl),?_⟩
 walk_at "gzn"
 refine Qt T (he.same s1) hg _ fun m zs H2 s2 y hm hz=>?_
 walk_at "gzn"
 refine⟨_,dI (ar.of hm),bJ,fun p hp=>q p _ (s1.trans (s2.trans (ak hp))) ?_⟩
 rw[aj,hy.len,hz.len]
inductive Qv(T:Tx w K mg)(x:V)(H:Hp)(Q:VK):Prop
 | mk(a:Addr)(tr:Tr)(_:x = .ref a)(_:iZ T H a tr)(_:dU tr)(_:∀ p H',ai H H'->H' p=some (.tup [.int (c7 tr).length,.int (gx tr).length])->Q (.ref p) H')
theorem Qw(T:Tx w K mg){A:Around}{n:Nat}(hr:ba n A)(hn:10<=n:=by decide)(x:V)(H:Hp)(Q:VK)(h:Qv T x H Q):cN P w K mg base A "sizes" x H Q:=by
 obtain⟨x,tr,rfl,he,hg,cont⟩:=h
 replace hr:=hr.mono hn
 cases tr with
 | stay i j l h =>
  obtain⟨dx,p,hx,hp⟩:=id he
  exact .of hx T.fO T.Od (oo T) hr T.cz.b ⟨x,_,rfl,he,hg,cont⟩
 | over i j s =>
  obtain⟨dx,hx⟩:=id he
  exact .of hx T.fP T.Oh (oo T) hr T.cz.b ⟨x,_,rfl,he,hg,cont⟩
 | under i j s =>
  obtain⟨dx,hx⟩:=id he
  exact .of hx T.fQ T.Oo (oo T) hr T.cz.b ⟨x,_,rfl,he,hg,cont⟩
 | rose i j l h =>
  obtain⟨dx,hx⟩:=id he
  exact .of hx T.dS T.Ov (oo T) hr T.cz.b ⟨x,_,rfl,he,hg,cont⟩
 | pace i j l h =>
  obtain⟨dx,p,hx,hp⟩:=id he
  exact .of hx T.gq T.Oz (oo T) hr T.cz.b ⟨x,_,rfl,he,hg,cont⟩
 | turn t =>
  obtain⟨dx,hx⟩:=id he
  exact .of hx T.iw T.OD (oo T) hr T.cz.b ⟨x,_,rfl,he,hg,cont⟩
end
section
seal L2.PE L2.PS L2.aS L2.PA
variable{P:Program}{w:World}{K:PySem.W.Frag}{mg:Str->Option Value}{base:Heap}
theorem DZ(ps:List Pa):(bw ps).length<=2 * ps.length:=by
 unfold bw
 rw[List.length_flatMap]
 have:∀ l:List Pa,(l.map fun p=>((dN p.2.2).map fun o=>[((p.1,p.2.1,o):Pa)]).length).sum<=2 * l.length:=by
  intro l
  induction l with
  | nil=>exact Nat.le_refl _
  | cons p l ih =>
   rw[List.map_cons,List.sum_cons,List.length_map,List.length_cons]
   have:=w9 p.2.2
   lia
 exact this ps
theorem ux{i j:Int}{s:S2}{p:Pa}(h:p∈bc i j s):p.1 = "at" /\ i<=p.2.1/\p.2.1<=j:=by
 unfold bc at h
 obtain⟨k,hk,rfl⟩:=List.mem_map.mp h
 have:=List.mem_range.mp hk
 exact⟨rfl,by show i<=i+(k:Int);lia,by show i+(k:Int)<=j;lia⟩
theorem AB{t:Int}{ps:List Pa}(h:∀ p∈ps,p.1 = "at" /\ 0<=p.2.1/\p.2.1<t):gL t ps:=fun p hp=>by
 obtain⟨e,h1,h2⟩:=h p hp
 rw[e]
 exact (DW (show (Str.ofString "at")≠Str.ofString "step" by decide)).mpr ⟨rfl,h1,h2⟩
theorem Qx{i j l h t:Int}(hk:bp i j)(hj:j<t):∀ ps∈gU i j l h,ps.length<=900/\gL t ps:=fun ps hp=>by
 obtain⟨k0,k1,k2⟩:=hk
 unfold gU at hp
 obtain⟨k,hk,rfl⟩:=List.mem_map.mp hp
 have:=List.mem_range.mp hk
 refine⟨by rw[List.length_append,eO,eO];lia,AB fun p hp=>?_⟩
 rcases List.mem_append.mp hp with z|z
 ·obtain⟨a,b,c⟩:=ux z;exact⟨a,by lia,by lia⟩
 ·obtain⟨a,b,c⟩:=ux z;exact⟨a,by lia,by lia⟩
theorem Qy{i j l h t:Int}(hk:bp i j)(hj:j<t):∀ ps∈fN i j l h,ps.length<=900/\gL t ps:=fun ps hp=>by
 obtain⟨k0,k1,k2⟩:=hk
 unfold fN at hp
 obtain⟨k,hk,hq⟩:=List.mem_flatMap.mp hp
 obtain⟨p0,Qz,rfl⟩:=List.mem_map.mp hq
 have:=List.mem_range.mp hk
 obtain⟨a,b,c⟩:=ux Qz
 refine⟨(show 2<=900 by decide),AB fun p hp=>?_⟩
 rcases List.mem_cons.mp hp with rfl|z
 ·exact⟨rfl,by show 0<=i+(k:Int);lia,by show i+(k:Int)<t;lia⟩
 ·rw[List.mem_singleton.mp z];exact⟨a,by lia,by lia⟩
theorem FL{n:Nat}:∀ {l:List Nat},(∀ x∈l,x<=n)->l.sum<=n * l.length
 | [],_=>Nat.le_refl _
 | x::l,h=>by
  have a:=h x (.head _)
  have b:=FL fun y hy=>h y (.tail _ hy)
  rw[List.sum_cons,List.length_cons,Nat.mul_succ]
  lia
theorem QA{i j l h:Int}(hk:bp i j):(fN i j l h).length<=200:=by
 obtain⟨k0,k1,k2⟩:=hk
 unfold fN
 rw[List.length_flatMap]
 refine Nat.le_trans (FL (n:=11) fun x hx=>?_) ?_
 ·obtain⟨k,hk,rfl⟩:=List.mem_map.mp hx
  rw[List.length_map,eO]
  have:=List.mem_range.mp hk
  lia
 ·rw[List.length_map,List.length_range]
  lia
theorem AD{i j t:Int}{s:S2}(h:0<=i)(hj:j<t):gL t (bc i j s):=AB fun p hp=>by obtain⟨a,b,c⟩:=ux hp;exact⟨a,by lia,by lia⟩
theorem QC{i j t:Int}{s:S2}(h:0<=i)(hj:j<t):gL t (dO i j s):=fun p hp=>by
 unfold dO at hp
 obtain⟨k,hk,rfl⟩:=List.mem_map.mp hp
 have:=List.mem_range.mp hk
 exact tK.mpr ⟨by lia,by lia⟩
theorem QD{k t:Int}(h:0<k)(hj:k+1<t):gL t (ix k):=fun p hp=>by
 unfold ix at hp
 rcases List.mem_cons.mp hp with rfl|z
 ·exact tK.mpr ⟨by lia,by lia⟩
 ·rw[List.mem_singleton.mp z]
  exact tK.mpr ⟨by lia,by lia⟩
theorem rj{t:Int}{ps:List Pa}(h:gL t ps)(hl:ps.length<=60):(∀ qs∈bw ps,qs.length<=900/\gL t qs)/\(∀ qs∈[ps],qs.length<=900/\gL t qs)/\(bw ps).length<=200/\[ps].length<=200:=by
 refine⟨fun qs hq=>?_,fun qs hq=>?_,?_,(show 1<=200 by decide)⟩
 ·unfold bw at hq
  obtain⟨p,hp,hq⟩:=List.mem_flatMap.mp hq
  obtain⟨o,y,rfl⟩:=List.mem_map.mp hq
  refine⟨(show 1<=900 by decide),fun z hz=>?_⟩
  rw[List.mem_singleton.mp hz]
  exact h p hp
 ·rw[List.mem_singleton.mp hq]
  exact⟨by lia,h⟩
 ·have:=DZ ps
  lia
theorem AE{t:Int}{tr:Tr}(hg:dU tr)(hj:iY tr<t):(∀ ps∈gx tr,ps.length<=900/\gL t ps)/\(∀ ps∈c7 tr,ps.length<=900/\gL t ps)/\(gx tr).length<=200/\(c7 tr).length<=200:=by
 cases tr with
 | stay i j l h =>
  obtain⟨k0,k1,k2⟩:=id hg
  replace hj:j<t:=hj
  exact rj (AD (s:=(l,h)) k0 hj) (by rw[eO];lia)
 | over i j s =>
  obtain⟨k0,k1,k2⟩:=id hg
  replace hj:j<t:=hj
  obtain⟨a,b,c,d⟩:=rj (AD (s:=(none,some (s-1))) k0 hj) (by rw[eO];lia)
  exact⟨b,a,d,c⟩
 | under i j s =>
  obtain⟨k0,k1,k2⟩:=id hg
  replace hj:j<t:=hj
  obtain⟨a,b,c,d⟩:=rj (AD (s:=(some (s+1),none)) k0 hj) (by rw[eO];lia)
  exact⟨b,a,d,c⟩
 | rose i j l h =>
  refine⟨Qx hg.1 hj,Qy hg.1 hj,?_,QA hg.1⟩
  show (gU i j l h).length<=200
  obtain⟨⟨y,y,y⟩,y⟩:=hg
  unfold gU
  rw[List.length_map,List.length_range]
  lia
 | pace i j l h =>
  obtain⟨k0,k1,k2⟩:=id hg
  replace hj:j<t:=hj
  exact rj (QC (s:=(l,h)) k0 hj) (by rw[FG];lia)
 | turn k=>exact rj (QD hg.1 hj) (show 2<=60 by decide)
end
section
seal L2.PE L2.PS L2.aS L2.PA
variable{P:Program}{w:World}{K:PySem.W.Frag}{mg:Str->Option Value}{base:Heap}
inductive Rt where
 | leaf (t:Tr)|nay (a:Rt)|both (a b:Rt)|either (a b:Rt)
noncomputable def aG:Rt->Nat
 | .leaf _=>0
 | .nay a=>aG a+1
 | .both a b=>aG a+aG b+1
 | .either a b=>aG a+aG b+1
noncomputable def aT:Rt->Int × Int
 | .leaf t=>((c7 t).length,(gx t).length)
 | .nay a=>((aT a).2,(aT a).1)
 | .both a b=>((aT a).1 * (aT b).1,(aT a).2+(aT b).2)
 | .either a b=>((aT a).1+(aT b).1,(aT a).2 * (aT b).2)
def cn:Rt->Prop
 | .leaf t=>dU t
 | .nay a=>cn a
 | .both a b=>cn a/\cn b/\(aT (.both a b)).1<=100/\(aT (.both a b)).2<=100
 | .either a b=>cn a/\cn b/\(aT (.either a b)).1<=100/\(aT (.either a b)).2<=100
def bG(T:Tx w K mg)(H:Hp):V->Rt->Prop
 | v,.leaf t=>∃ x,v = .ref x/\iZ T H x t
 | v,.nay a=>∃ x dx c,v = .ref x/\H x=some (.ins T.cG dx [("one",c)])/\bG T H c a
 | v,.both a b=>∃ x dx c d,v = .ref x/\H x=some (.ins T.cA dx [("one",c),("other",d)])/\bG T H c a/\bG T H d b
 | v,.either a b=>∃ x dx c d,v = .ref x/\H x=some (.ins T.cB dx [("one",c),("other",d)])/\bG T H c a/\bG T H d b
theorem bG.same{T:Tx w K mg}{H H':Hp}(s:ai H H'):∀ {rt:Rt} {v:V},bG T H v rt->bG T H' v rt
 | .leaf _,_,h=>let ⟨x,e,h⟩:=h;⟨x,e,h.same s⟩
 | .nay _,_,h=>let ⟨x,dx,c,e,h,a⟩:=h;⟨x,dx,c,e,s _ _ h,bG.same s a⟩
 | .both _ _,_,h=>let ⟨x,dx,c,d,e,h,a,b⟩:=h;⟨x,dx,c,d,e,s _ _ h,bG.same s a,bG.same s b⟩
 | .either _ _,_,h=>let ⟨x,dx,c,d,e,h,a,b⟩:=h;⟨x,dx,c,d,e,s _ _ h,bG.same s a,bG.same s b⟩
theorem i0:∀ {rt:Rt},cn rt->0<=(aT rt).1/\(aT rt).1<=200/\0<=(aT rt).2/\(aT rt).2<=200
 | .leaf t,h=>by
  obtain⟨y,y,h1,h2⟩:=AE (t:=iY t+1) h (Int.lt_succ _)
  exact⟨Int.natCast_nonneg _,Int.ofNat_le.mpr h2,Int.natCast_nonneg _,Int.ofNat_le.mpr h1⟩
 | .nay a,h=>let ⟨p,q,r,s⟩:=i0 (rt:=a) h;⟨r,s,p,q⟩
 | .both a b,h=>by
  obtain⟨ha,hb,h1,h2⟩:=h
  obtain⟨p1,y,p2,y⟩:=i0 ha
  obtain⟨q1,y,q2,y⟩:=i0 hb
  exact⟨Int.mul_nonneg p1 q1,by lia,Int.add_nonneg p2 q2,by lia⟩
 | .either a b,h=>by
  obtain⟨ha,hb,h1,h2⟩:=h
  obtain⟨p1,y,p2,y⟩:=i0 ha
  obtain⟨q1,y,q2,y⟩:=i0 hb
  exact⟨Int.add_nonneg p1 q1,by lia,Int.mul_nonneg p2 q2,by lia⟩
def uy:Rt->Prop
 | .leaf t=>dU t
 | .nay a=>cn a
 | .both a b=>cn a/\cn b
 | .either a b=>cn a/\cn b
theorem oq:∀ {rt:Rt},cn rt->uy rt
 | .leaf _,h=>h
 | .nay _,h=>h
 | .both _ _,h=>⟨h.1,h.2.1⟩
 | .either _ _,h=>⟨h.1,h.2.1⟩
inductive uz(T:Tx w K mg)(N:Nat)(x:V)(H:Hp)(Q:VK):Prop
 | mk(rt:Rt)(_:bG T H x rt)(_:uy rt)(_:aG rt<N)(_:∀ p H',ai H H'->H' p=some (.tup [.int (aT rt).1,.int (aT rt).2])->Q (.ref p) H')
inductive QE(T:Tx w K mg)(N:Nat)(vs:List V)(H:Hp)(Q:VK)(aW:XK):Prop
 | mk(x dx:Addr)(c:V)(a:Rt)(_:vs=[.ref x])(_:H x=some (.ins T.cG dx [("one",c)]))(_:bG T H c a)(_:cn a)(_:aG a<N)(_:∀ p H',ai H H'->H' p=some (.tup [.int (aT a).2,.int (aT a).1])->Q (.ref p) H')
theorem QF(T:Tx w K mg)(N:Nat)(ih:∀ {A:Around} {n:Nat},ba n A->N+10<=n->∀ x H Q,uz T N x H Q->cN P w K mg base A "sizes" x H Q):Om P w mg base (N+10+1) T.kR (QE T N):=by
 refine cH ua ?_
 rintro y y y y H y y y hr ⟨x,dx,c,a,rfl,hx,hc,ga,hN,q⟩
 refine⟨_,(aq (aN 1 ua.nd (dP (fun x H Q=>ih hr (Nat.le_refl _) x H Q) (bH rfl (aa 0) rfl))) (ao (ay (bg (ae (aw (aa 1) ag) (ae (aw (aa 1) ag) ah)))))),?_⟩
 refine aM (fun σ H1=>∃ p,σ=[some (.ref x),some (.ref p)]/\ai H H1/\H1 p=some (.tup [.int (aT a).1,.int (aT a).2])) (fun N hN=>?_) ?_
 ·walk_at "gzn"
  exact⟨_,_,_,hx,T.iW,T.og,_,rfl,a,hc,oq ga,by assumption,fun p H1 s1 hp=>hN _ _ ⟨p,rfl,s1,hp⟩⟩
 rintro σ H1 ⟨p,rfl,s1,hp⟩
 walk_at "gzn"
 refine aQ (aB.of hp) rfl (aQ (aB.of hp) rfl ⟨bJ,fun r hr=>q r _ (s1.trans (ak hr)) aj⟩)
inductive QG(T:Tx w K mg)(N:Nat)(vs:List V)(H:Hp)(Q:VK)(aW:XK):Prop
 | mk(x dx:Addr)(c d:V)(a b:Rt)(_:vs=[.ref x])(_:H x=some (.ins T.cA dx [("one",c),("other",d)]))(_:bG T H c a)(_:bG T H d b)(_:cn a)(_:cn b)(_:aG a<N)(_:aG b<N)(_:∀ p H',ai H H'->H' p=some (.tup [.int ((aT a).1 * (aT b).1),.int ((aT a).2+(aT b).2)])->Q (.ref p) H')
theorem QH(T:Tx w K mg)(N:Nat)(ih:∀ {A:Around} {n:Nat},ba n A->N+10<=n->∀ x H Q,uz T N x H Q->cN P w K mg base A "sizes" x H Q):Om P w mg base (N+10+1) T.kL (QG T N):=by
 refine cH qb ?_
 rintro y y y y H y y y hr ⟨x,dx,c,d,a,b,rfl,hx,hc,hd,ga,gb,hA,hB,q⟩
 refine⟨_,(aq (aN 1 qb.nd (dP (fun x H Q=>ih hr (Nat.le_refl _) x H Q) (bH rfl (aa 0) rfl))) (aq (aN 2 qb.nd (dP (fun x H Q=>ih hr (Nat.le_refl _) x H Q) (bH rfl (aa 0) rfl))) (ao (ay (bg (ae (ax xu (aw (aa 1) ag) (aw (aa 2) ag)) (ae (ax a9 (aw (aa 1) ag) (aw (aa 2) ag)) ah))))))),?_⟩
 obtain⟨a1,a2,a3,a4⟩:=i0 ga
 obtain⟨b1,b2,b3,b4⟩:=i0 gb
 refine aM (fun σ H1=>∃ p1,σ=[some (.ref x),some (.ref p1),none]/\ai H H1/\H1 p1=some (.tup [.int (aT a).1,.int (aT a).2])) (fun N hN=>?_) ?_
 ·walk_at "gzn"
  exact⟨_,_,_,hx,T.gu,T.n5,_,rfl,a,hc,oq ga,hA,fun p H1 s1 hp=>hN _ _ ⟨p,rfl,s1,hp⟩⟩
 rintro σ H1 ⟨p1,rfl,s1,fw⟩
 refine aM (fun σ H2=>∃ p2,σ=[some (.ref x),some (.ref p1),some (.ref p2)]/\ai H1 H2/\H2 p2=some (.tup [.int (aT b).1,.int (aT b).2])) (fun N hN=>?_) ?_
 ·walk_at "gzn"
  exact⟨_,_,_,s1 _ _ hx,T.gu,T.n6,_,rfl,b,hd.same s1,oq gb,hB,fun p H2 s2 hp=>hN _ _ ⟨p,rfl,s2,hp⟩⟩
 rintro σ H2 ⟨p2,rfl,s2,fL⟩
 replace fw:=s2 _ _ fw
 walk_at "gzn"
 refine aK fw (aK fL ?_)
 walk_at "gzn"
 exact⟨v5 (by lia) (by lia),aQ (aB.of fw) rfl (aQ (aB.of fL) rfl ⟨bJ,fun p hp=>q p _ (s1.trans (s2.trans (ak hp))) aj⟩)⟩
inductive QJ(T:Tx w K mg)(N:Nat)(vs:List V)(H:Hp)(Q:VK)(aW:XK):Prop
 | mk(x dx:Addr)(c d:V)(a b:Rt)(_:vs=[.ref x])(_:H x=some (.ins T.cB dx [("one",c),("other",d)]))(_:bG T H c a)(_:bG T H d b)(_:cn a)(_:cn b)(_:aG a<N)(_:aG b<N)(_:∀ p H',ai H H'->H' p=some (.tup [.int ((aT a).1+(aT b).1),.int ((aT a).2 * (aT b).2)])->Q (.ref p) H')
theorem QK(T:Tx w K mg)(N:Nat)(ih:∀ {A:Around} {n:Nat},ba n A->N+10<=n->∀ x H Q,uz T N x H Q->cN P w K mg base A "sizes" x H Q):Om P w mg base (N+10+1) T.kO (QJ T N):=by
 refine cH qc ?_
 rintro y y y y H y y y hr ⟨x,dx,c,d,a,b,rfl,hx,hc,hd,ga,gb,hA,hB,q⟩
 refine⟨_,(aq (aN 1 qc.nd (dP (fun x H Q=>ih hr (Nat.le_refl _) x H Q) (bH rfl (aa 0) rfl))) (aq (aN 2 qc.nd (dP (fun x H Q=>ih hr (Nat.le_refl _) x H Q) (bH rfl (aa 0) rfl))) (ao (ay (bg (ae (ax a9 (aw (aa 1) ag) (aw (aa 2) ag)) (ae (ax xu (aw (aa 1) ag) (aw (aa 2) ag)) ah))))))),?_⟩
 obtain⟨a1,a2,a3,a4⟩:=i0 ga
 obtain⟨b1,b2,b3,b4⟩:=i0 gb
 refine aM (fun σ H1=>∃ p1,σ=[some (.ref x),some (.ref p1),none]/\ai H H1/\H1 p1=some (.tup [.int (aT a).1,.int (aT a).2])) (fun N hN=>?_) ?_
 ·walk_at "gzn"
  exact⟨_,_,_,hx,T.gv,T.n9,_,rfl,a,hc,oq ga,hA,fun p H1 s1 hp=>hN _ _ ⟨p,rfl,s1,hp⟩⟩
 rintro σ H1 ⟨p1,rfl,s1,fw⟩
 refine aM (fun σ H2=>∃ p2,σ=[some (.ref x),some (.ref p1),some (.ref p2)]/\ai H1 H2/\H2 p2=some (.tup [.int (aT b).1,.int (aT b).2])) (fun N hN=>?_) ?_
 ·walk_at "gzn"
  exact⟨_,_,_,s1 _ _ hx,T.gv,T.oa,_,rfl,b,hd.same s1,oq gb,hB,fun p H2 s2 hp=>hN _ _ ⟨p,rfl,s2,hp⟩⟩
 rintro σ H2 ⟨p2,rfl,s2,fL⟩
 replace fw:=s2 _ _ fw
 walk_at "gzn"
 refine aK fw (aK fL ?_)
 walk_at "gzn"
 exact aQ (aB.of fw) rfl (aQ (aB.of fL) rfl ⟨v5 (by lia) (by lia),bJ,fun p hp=>q p _ (s1.trans (s2.trans (ak hp))) aj⟩)
theorem FN(T:Tx w K mg):∀ N:Nat,∀ {A:Around} {n:Nat},ba n A->N+10<=n->∀ x H Q,uz T N x H Q->cN P w K mg base A "sizes" x H Q:=by
 intro N
 induction N with
 | zero =>
  rintro A n hr hn v H Q ⟨rt,y,y,h,y⟩
  exact absurd h (Nat.not_lt_zero _)
 | succ N ih =>
  rintro A n hr hn v H Q ⟨rt,hv,hg,hh,q⟩
  cases rt with
  | leaf t =>
   obtain⟨x,rfl,he⟩:=hv
   exact Qw T hr (by lia) _ _ _ ⟨x,t,rfl,he,hg,q⟩
  | nay a =>
   obtain⟨x,dx,c,rfl,hx,hc⟩:=hv
   exact cN.of (hk:=by lia) hx T.iW T.OQ (QF T N ih) hr T.kR.b ⟨x,dx,c,a,rfl,hx,hc,hg,Nat.lt_of_succ_lt_succ hh,q⟩
  | both a b =>
   obtain⟨x,dx,c,e,rfl,hx,hc,he⟩:=hv
   have hh:aG a+aG b+1<N+1:=hh
   exact cN.of (hk:=by lia) hx T.gu T.OH (QH T N ih) hr T.kL.b ⟨x,dx,c,e,a,b,rfl,hx,hc,he,hg.1,hg.2,by lia,by lia,q⟩
  | either a b =>
   obtain⟨x,dx,c,e,rfl,hx,hc,he⟩:=hv
   have hh:aG a+aG b+1<N+1:=hh
   exact cN.of (hk:=by lia) hx T.gv T.OM (QK T N ih) hr T.kO.b ⟨x,dx,c,e,a,b,rfl,hx,hc,he,hg.1,hg.2,by lia,by lia,q⟩
end
section
seal L2.PE L2.PS L2.aS L2.PA
variable{P:Program}{w:World}{K:PySem.W.Frag}{mg:Str->Option Value}{base:Heap}
noncomputable def dg:Tr->List PySem.Str
 | .stay i j l h=>["stay",bz i,bz j,bL l,bL h]
 | .over i j s=>["over",bz i,bz j,bz s]
 | .under i j s=>["under",bz i,bz j,bz s]
 | .rose i j l h=>["rose",bz i,bz j,bz l,bz h]
 | .pace i j l h=>["pace",bz i,bz j,bL l,bL h]
 | .turn t=>["turn",bz t]
def AF:Tr->Prop
 | .stay i j l h=>c6 l/\c6 h
 | .over i j s=>s.natAbs<10 ^ 60
 | .under i j s=>s.natAbs<10 ^ 60
 | .rose i j l h=>l.natAbs<10 ^ 60/\h.natAbs<10 ^ 60
 | .pace i j l h=>c6 l/\c6 h
 | .turn _=>True
noncomputable def BL:PySem.Str := " "
theorem AG{B:Nat}:∀ {ss:List PySem.Str},(∀ s∈ss,s.length<=B)->(ss.map fun x=>x.length).sum<=ss.length * B
 | [],_=>by simp
 | s::ss,h=>by
  have h1:=h s (.head _)
  have h2:=AG (ss:=ss) fun x hx=>h x (.tail _ hx)
  rw[List.map_cons,List.sum_cons,List.length_cons,Nat.succ_mul]
  lia
theorem AH{B n:Nat}{ss:List PySem.Str}(h:∀ s∈ss,s.length<=B)(hn:ss.length<=n)(hb:n * (B+1)<=16777216):(ss.map fun x=>x.length).sum+ss.length * BL.length<=16777216:=by
 have h1:=AG h
 have h2:ss.length * (B+1)<=n * (B+1):=Nat.mul_le_mul_right _ hn
 have h3:BL.length=1:=by decide
 rw[h3]
 rw[Nat.mul_succ] at h2
 lia
theorem uA{e:En}(h:c6 e):(bL e).length<=61:=by
 cases e with
 | none=>decide
 | some n=>exact dQ h
end
section
seal L2.PE L2.PS L2.aS L2.PA
variable{P:Program}{w:World}{K:PySem.W.Frag}{mg:Str->Option Value}{base:Heap}
end
section
seal L2.PE L2.PS L2.aS L2.PA
variable{P:Program}{w:World}{K:PySem.W.Frag}{mg:Str->Option Value}{base:Heap}
noncomputable def az:Rt->List PySem.Str
 | .leaf t=>dg t
 | .nay a => "not" :: az a
 | .both a b => "both" :: (az a++az b)
 | .either a b => "either" :: (az a++az b)
def i3:Rt->Prop
 | .leaf t=>AF t
 | .nay a=>i3 a
 | .both a b=>i3 a/\i3 b
 | .either a b=>i3 a/\i3 b
theorem QL:∀ rt:Rt,az rt≠[]
 | .leaf t=>by cases t<;>simp[az,dg]
 | .nay _=>by simp[az]
 | .both _ _=>by simp[az]
 | .either _ _=>by simp[az]
theorem FP(c:Nat):∀ ws:List (List Nat),(l9 c ws).length<=(ws.map fun w=>w.length).sum+ws.length
 | []=>Nat.le_refl _
 | [w]=>by show w.length<=w.length+0+1;lia
 | w::v::ws=>by
  have:=FP c (v::ws)
  show (w++c::l9 c (v::ws)).length<=_
  rw[List.length_append,List.length_cons,List.map_cons,List.sum_cons,List.length_cons]
  lia
theorem gW{i:Int}(h0:0<=i)(h1:i<=11):i.natAbs<10 ^ 60:=Nat.lt_of_lt_of_le (show i.natAbs<12 by lia) (by decide)
theorem ot:∀ {rt:Rt},cn rt->i3 rt->∀ s∈az rt,s.length<=61
 | .leaf t,hg,hs=>by
  cases t with
  | stay i j l h =>
   obtain⟨k0,k1,k2⟩:=hg
   obtain⟨a,b⟩:=hs
   intro s h
   simp only[az,dg,List.mem_cons,List.not_mem_nil,or_false] at h
   rcases h with rfl|rfl|rfl|rfl|rfl
   ·decide
   ·exact dQ (gW k0 (by lia))
   ·exact dQ (gW (by lia) k2)
   ·exact uA a
   ·exact uA b
  | pace i j l h =>
   obtain⟨k0,k1,k2⟩:=hg
   obtain⟨a,b⟩:=hs
   intro s h
   simp only[az,dg,List.mem_cons,List.not_mem_nil,or_false] at h
   rcases h with rfl|rfl|rfl|rfl|rfl
   ·decide
   ·exact dQ (gW k0 (by lia))
   ·exact dQ (gW (by lia) k2)
   ·exact uA a
   ·exact uA b
  | over i j z =>
   obtain⟨k0,k1,k2⟩:=hg
   intro s h
   simp only[az,dg,List.mem_cons,List.not_mem_nil,or_false] at h
   rcases h with rfl|rfl|rfl|rfl
   ·decide
   ·exact dQ (gW k0 (by lia))
   ·exact dQ (gW (by lia) k2)
   ·exact dQ hs
  | under i j z =>
   obtain⟨k0,k1,k2⟩:=hg
   intro s h
   simp only[az,dg,List.mem_cons,List.not_mem_nil,or_false] at h
   rcases h with rfl|rfl|rfl|rfl
   ·decide
   ·exact dQ (gW k0 (by lia))
   ·exact dQ (gW (by lia) k2)
   ·exact dQ hs
  | rose i j l z =>
   obtain⟨⟨k0,k1,k2⟩,y⟩:=hg
   obtain⟨a,b⟩:=hs
   intro s h
   simp only[az,dg,List.mem_cons,List.not_mem_nil,or_false] at h
   rcases h with rfl|rfl|rfl|rfl|rfl
   ·decide
   ·exact dQ (gW k0 (by lia))
   ·exact dQ (gW (by lia) k2)
   ·exact dQ a
   ·exact dQ b
  | turn t =>
   obtain⟨k0,k1⟩:=hg
   intro s h
   simp only[az,dg,List.mem_cons,List.not_mem_nil,or_false] at h
   rcases h with rfl|rfl
   ·decide
   ·exact dQ (gW (by lia) (by lia))
 | .nay a,hg,hs=>fun s h=>by
  rcases List.mem_cons.mp h with rfl|h
  ·decide
  ·exact ot (rt:=a) hg hs s h
 | .both a b,hg,hs=>fun s h=>by
  rcases List.mem_cons.mp h with rfl|h
  ·decide
  ·rcases List.mem_append.mp h with h|h
   ·exact ot hg.1 hs.1 s h
   ·exact ot hg.2.1 hs.2 s h
 | .either a b,hg,hs=>fun s h=>by
  rcases List.mem_cons.mp h with rfl|h
  ·decide
  ·rcases List.mem_append.mp h with h|h
   ·exact ot hg.1 hs.1 s h
   ·exact ot hg.2.1 hs.2 s h
end
section
seal L2.PE L2.PS L2.aS L2.PA
variable{P:Program}{w:World}{K:PySem.W.Frag}{mg:Str->Option Value}{base:Heap}
def uB(rt:Rt):Prop:=cn rt/\i3 rt/\(az rt).length<=60
end
section
seal L2.PE L2.PS L2.aS L2.PA
variable{P:Program}{w:World}{K:PySem.W.Frag}{mg:Str->Option Value}{base:Heap}
inductive QM(C:Addr)(vs:List V)(H:Hp)(Q:VK)(aW:XK):Prop
 | mk(x dx:Addr)(v:V)(_:vs=[.ref x,v])(_:H x=some (.ins C dx []))(_:Q .non (upd H x (.ins C dx [("one",v)])))
theorem QN(T:Tx w K mg):Om P w mg base 1 T.my (QM T.cG):=by
 refine cH z8 ?_
 rintro y y y y y y y y y ⟨x,dx,v,rfl,hx,q⟩
 refine⟨_,(ao (gP (aa 0) (aa 1) rfl)),?_⟩
 walk_at "gzn"
 exact⟨_,_,_,hx,T.iW,T.og,(by show 0<1000;decide),q⟩
theorem max_le{m n:Int}(h1:m<=100)(h2:n<=100):¬ eW [m,n] > 100:=fun z=>by
 have:=(lQ (ns:=[m,n]) (by simp)).1
 simp only[List.mem_cons,List.not_mem_nil,or_false] at this
 lia
theorem AI{m n:Int}(h:¬ (m<=100/\n<=100)):eW [m,n] > 100:=by
 have h7:=(lQ (ns:=[m,n]) (by simp)).2
 have g1:=h7 _ (.head _)
 have g2:=h7 _ (.tail _ (.head _))
 lia
inductive QO(T:Tx w K mg)(vs:List V)(H:Hp)(Q:VK)(E:XK):Prop
 | mk(H0:Hp)(x C dx:Addr)(c d:V)(a b rt:Rt)(_:vs=[.ref x,c,d])(_:H x=some (.ins C dx []))(_:H0 x=none)(_:ai H0 H)(_:((C=T.cA/\rt = .both a b)∨(C=T.cB/\rt = .either a b)))(_:bG T H0 c a)(_:bG T H0 d b)(_:cn a)(_:cn b)(_:aG rt<64)(_:(cn rt->∀ H',ai H0 H'->H' x=some (.ins C dx [("one",c),("other",d)])->Q .non H'))(_:(¬ ((aT rt).1<=100/\(aT rt).2<=100)->∀ H',ai H0 H'->E (.ref T.cq) none H'))
theorem FQ(T:Tx w K mg):Om P w mg base 75 T.iU (QO T):=by
 refine kh zX ?_
 rintro y y y y H y Q y hr ⟨H0,x,C,dx,c,d,a,b,rt,rfl,hx,fx,s0,hC,h1,h2,ga,gb,hh,q,q0⟩
 refine⟨_,(aq (gP (aa 0) (aa 1) rfl) (aq (gP (aa 0) (aa 2) rfl) (ao (aE (nN (bj (xw rfl) (by rfl) T.qM pj (ae (dP (fun x H Q h=>FN T 64 hr (by decide) x H Q h) (aa 0)) ah)) (pM T.Pb rfl)) (ao (iN iO rfl T.uk T.oh rfl (ae au ah))) aH)))),?_⟩
 obtain⟨cC,n1,n2⟩:br K C/\bB K C "one" /\ bB K C "other" := by
  rcases hC with ⟨rfl,y⟩|⟨rfl,y⟩
  ·exact⟨T.gu,T.n5,T.n6⟩
  ·exact⟨T.gv,T.n9,T.oa⟩
 refine aM (fun σ H1=>σ=[some (.ref x),some c,some d]/\ai H0 H1/\H1 x=some (.ins C dx [("one",c)])) (fun N hN=>?_) ?_
 ·walk_at "gzn"
  exact⟨_,_,_,hx,cC,n1,(by show 0<1000;decide),hN _ _ ⟨rfl,dJ fx s0,aj⟩⟩
 rintro σ H1 ⟨rfl,s1,lI⟩
 refine aM (fun σ H2=>σ=[some (.ref x),some c,some d]/\ai H0 H2/\H2 x=some (.ins C dx [("one",c),("other",d)])) (fun N hN=>?_) ?_
 ·walk_at "gzn"
  exact⟨_,_,_,lI,cC,n2,(by show 1<1000;decide),hN _ _ ⟨rfl,dJ fx s1,aj⟩⟩
 rintro σ H2 ⟨rfl,s2,fJ⟩
 have hv:bG T H2 (.ref x) rt:=by
  rcases hC with ⟨rfl,rfl⟩|⟨rfl,rfl⟩<;>exact⟨x,dx,c,d,rfl,fJ,h1.same s2,h2.same s2⟩
 have hn:uy rt:=by rcases hC with ⟨y,rfl⟩|⟨y,rfl⟩<;>exact⟨ga,gb⟩
 walk_at "gzn"
 refine⟨rt,hv,hn,hh,fun p H3 s3 hp=>?_⟩
 walk_at "gzn"
 refine⟨[_,_],aB.of hp,by simp,?_⟩
 by_cases hz:(aT rt).1<=100/\(aT rt).2<=100
 ·rw[if_neg (max_le hz.1 hz.2)]
  exact q (by rcases hC with ⟨y,rfl⟩|⟨y,rfl⟩<;>exact⟨ga,gb,hz⟩) _ (s2.trans s3) (s3 _ _ fJ)
 ·rw[if_pos (AI hz)]
  exact⟨by decide,q0 hz _ (s2.trans s3)⟩
end
section
seal L2.PE L2.PS L2.aS L2.PA
variable{P:Program}{w:World}{K:PySem.W.Frag}{mg:Str->Option Value}{base:Heap}
def bu(H:Hp):V->Rt->Prop
 | v,.leaf t=>∃ p,v = .ref p/\H p=some (.tup (uv t))
 | v,.nay a=>∃ p x,v = .ref p/\H p=some (.tup [.str "not",x])/\bu H x a
 | v,.both a b=>∃ p x y,v = .ref p/\H p=some (.tup [.str "both",x,y])/\bu H x a/\bu H y b
 | v,.either a b=>∃ p x y,v = .ref p/\H p=some (.tup [.str "either",x,y])/\bu H x a/\bu H y b
theorem bu.same{H H':Hp}(s:ai H H'):∀ {rt:Rt} {v:V},bu H v rt->bu H' v rt
 | .leaf _,_,h=>let ⟨x,e,h⟩:=h;⟨x,e,s _ _ h⟩
 | .nay _,_,h=>let ⟨x,c,e,h,a⟩:=h;⟨x,c,e,s _ _ h,bu.same s a⟩
 | .both _ _,_,h=>let ⟨x,c,d,e,h,a,b⟩:=h;⟨x,c,d,e,s _ _ h,bu.same s a,bu.same s b⟩
 | .either _ _,_,h=>let ⟨x,c,d,e,h,a,b⟩:=h;⟨x,c,d,e,s _ _ h,bu.same s a,bu.same s b⟩
noncomputable def bM:Tr->PySem.Str
 | .stay _ _ _ _ => "stay" | .over _ _ _ => "over" | .under _ _ _ => "under" | .rose _ _ _ _ => "rose" | .pace _ _ _ _ => "pace" | .turn _ => "turn"
noncomputable def bK:Tr->List En
 | .stay i j l h=>[some i,some j,l,h]|.over i j s=>[some i,some j,some s]|.under i j s=>[some i,some j,some s]|.rose i j l h=>[some i,some j,some l,some h]|.pace i j l h=>[some i,some j,l,h]|.turn t=>[some t]
theorem FR(t:Tr):uv t = .str (bM t)::(bK t).map ev:=by cases t<;>rfl
theorem i4(t:Tr):dg t=bM t::(bK t).map bL:=by cases t<;>rfl
theorem jI(t:Tr):bM t ≠ "both" /\ bM t ≠ "either" /\ bM t ≠ "not" := by cases t<;>(simp only[bM];decide)
theorem uC{x:V}{xs:List V}:cD (x::xs) 0=some x:=j5 (j:=0) rfl
theorem FT{t:Tr}(hg:dU t)(hs:AF t):∀ o∈bK t,c6 o:=by
 have ts:∀ {i:Int},0<=i->i<=11->c6 (some i):=fun h0 h1=>gW h0 h1
 intro o ho
 cases t with
 | stay i j l h =>
  obtain⟨k0,k1,k2⟩:=hg
  simp only[bK,List.mem_cons,List.not_mem_nil,or_false] at ho
  rcases ho with rfl|rfl|rfl|rfl
  ·exact ts k0 (by lia)
  ·exact ts (by lia) k2
  ·exact hs.1
  ·exact hs.2
 | pace i j l h =>
  obtain⟨k0,k1,k2⟩:=hg
  simp only[bK,List.mem_cons,List.not_mem_nil,or_false] at ho
  rcases ho with rfl|rfl|rfl|rfl
  ·exact ts k0 (by lia)
  ·exact ts (by lia) k2
  ·exact hs.1
  ·exact hs.2
 | rose i j l h =>
  obtain⟨⟨k0,k1,k2⟩,y⟩:=hg
  simp only[bK,List.mem_cons,List.not_mem_nil,or_false] at ho
  rcases ho with rfl|rfl|rfl|rfl
  ·exact ts k0 (by lia)
  ·exact ts (by lia) k2
  ·exact hs.1
  ·exact hs.2
 | over i j s =>
  obtain⟨k0,k1,k2⟩:=hg
  simp only[bK,List.mem_cons,List.not_mem_nil,or_false] at ho
  rcases ho with rfl|rfl|rfl
  ·exact ts k0 (by lia)
  ·exact ts (by lia) k2
  ·exact hs
 | under i j s =>
  obtain⟨k0,k1,k2⟩:=hg
  simp only[bK,List.mem_cons,List.not_mem_nil,or_false] at ho
  rcases ho with rfl|rfl|rfl
  ·exact ts k0 (by lia)
  ·exact ts (by lia) k2
  ·exact hs
 | turn t =>
  obtain⟨k0,k1⟩:=hg
  simp only[bK,List.mem_cons,List.not_mem_nil,or_false] at ho
  subst ho
  exact ts (by lia) (by lia)
def eY:Rt->Prop
 | .leaf t=>dU t
 | .nay a=>eY a
 | .both a b=>eY a/\eY b
 | .either a b=>eY a/\eY b
theorem dW:∀ {rt:Rt},cn rt->eY rt
 | .leaf _,h=>h
 | .nay a,h=>dW (rt:=a) h
 | .both _ _,h=>⟨dW h.1,dW h.2.1⟩
 | .either _ _,h=>⟨dW h.1,dW h.2.1⟩
inductive QP(H:Hp)(p l r:Addr)(t:Tr)(i:Nat)(σ:St)(H1:Hp):Prop
 | mk(e:Option V)(_:σ=[some (.ref p),some (.ref l),e])(_:ai H H1)(_:H1 r=some (.tup ((bK t).map ev)))(_:H1 l=some (.lst ((bM t::((bK t).take i).map bL).map V.str)))
inductive AJ(N:Nat)(vs:List V)(H:Hp)(Q:VK)(aW:XK):Prop
 | mk(v:V)(rt:Rt)(_:vs=[v])(_:bu H v rt)(_:eY rt)(_:i3 rt)(_:aG rt<N)(_:(az rt).length<=400)(_:∀ l H',ai H H'->H' l=some (.lst ((az rt).map V.str))->Q (.ref l) H')
theorem QQ(T:Tx w K mg)(N:Nat)(ih:Ok P w base (N+3) T.mB (AJ N)):Ok P w base (N+1+3) T.mB (AJ (N+1)):=by
 refine bE nZ ?_
 rintro u u u u H u u u hr ⟨v,rt,rfl,hv,hg,hs,hh,hl,q⟩
 refine⟨_,(aq (aE (PW.pt (dn (aP (aw (aa 0) ag) au) (eS (aP (aw (aa 0) ag) au)))) (ao (ay (ax dt (ax dt (ck (ae (aw (aa 0) ag) ah)) (aJ (hk:=by lia) ih hr (ae (aw (aa 0) ag) ah))) (aJ (hk:=by lia) ih hr (ae (aw (aa 0) ag) ah))))) aH) (aq (aE (aP (aw (aa 0) ag) au) (ao (ay (ax dt (ck (ae au ah)) (aJ (hk:=by lia) ih hr (ae (aw (aa 0) ag) ah))))) aH) (aq (aN 1 nZ.nd (ck (ae (aw (aa 0) ag) ah))) (aq (jV PassesOwn.never rfl (IP (cM JI (aa 0) (cy ag) de)) (jw 2 nZ.nd) (ao (aE (nO (aa 2)) (ao (fh (eN PySem.F.plainAttrs_list PySem.F.slot_list_append PySem.F.type_list_append lF (aa 1) (ae au ah)))) (ao (fh (eN PySem.F.plainAttrs_list PySem.F.slot_list_append PySem.F.type_list_append lF (aa 1) (ae (j3 BV (by rfl) T.E5 CH (ae (aa 2) ah)) ah))))))) (ao (ay (aa 1))))))),?_⟩
 have rl:∀ (m n:Nat),m<=401->n<=400->m+n<=sizeLine:=fun m n h1 h2=>Nat.le_trans (show m+n<=801 by lia) (by decide)
 cases rt with
 | leaf t =>
  obtain⟨p,rfl,hp⟩:=hv
  rw[FR] at hp
  obtain⟨e1,e2,e3⟩:=jI t
  refine aM (fun σ H1=>σ=[some (.ref p),none,none]/\H=H1) (fun N hN=>?_) ?_
  ·walk_at "gzn"
   refine aQ (aB.of hp) (v:=.str (bM t)) uC ?_
   walk_at "gzn"
   rw[if_neg (by simpa using e1)]
   refine aQ (aB.of hp) (v:=.str (bM t)) uC ?_
   walk_at "gzn"
   rw[if_neg (by simpa using e2)]
   exact hN _ _ ⟨rfl,rfl⟩
  rintro σ H1 ⟨rfl,rfl⟩
  refine aM (fun σ H1=>σ=[some (.ref p),none,none]/\H=H1) (fun N hN=>?_) ?_
  ·walk_at "gzn"
   refine aQ (aB.of hp) (v:=.str (bM t)) uC ?_
   walk_at "gzn"
   rw[if_neg (by simpa using e3)]
   exact hN _ _ ⟨rfl,rfl⟩
  rintro σ H1 ⟨rfl,rfl⟩
  refine aM (fun σ H1=>∃ l,σ=[some (.ref p),some (.ref l),none]/\ai H H1/\H l=none/\H1 l=some (.lst [.str (bM t)])) (fun N hN=>?_) ?_
  ·walk_at "gzn"
   exact aQ (aB.of hp) (v:=.str (bM t)) uC ⟨by decide,fun l fl=>hN _ _ ⟨l,rfl,ak fl,fl,aj⟩⟩
  rintro σ H1 ⟨l,rfl,s1,jH,eZ⟩
  have fw:=s1 _ _ hp
  walk_at "gzn"
  refine⟨p,_,rfl,aB.of fw,?_,fun r hr=>?_⟩
  ·intro z
   have z:=z.1
   simp[HT.bb] at z
  ·have e1:eF (V.str (bM t)::(bK t).map ev) (some 1) none=(bK t).map ev:=Dy _ 1
   rw[e1]
   have u2:=s1.trans (ak (o:=.tup ((bK t).map ev)) hr)
   refine⟨r,rfl,⟨_,aB.of aj⟩,KO (xs:=(bK t).map ev) (QP H p l r t) ⟨none,rfl,u2,aj,ak hr _ _ eZ⟩ (fun i σ H2 _ ⟨_,_,_,h,_⟩=>aB.of h) ?_ ?_⟩
   ·rintro i x σ H2 hx ⟨e,rfl,s2,fR,bo⟩
    rw[List.getElem?_map] at hx
    obtain⟨o,ho,rfl⟩:=Option.map_eq_some_iff.mp hx
    have ei:(bK t).take (i+1)=(bK t).take i++[o]:=by rw[List.take_succ,ho];rfl
    have so:=FT hg hs o (List.mem_of_getElem? ho)
    have al:(bK t).length<=4:=by cases t<;>simp[bK]
    have ll:((bM t::((bK t).take i).map bL).map V.str).length<sizeLine:=by
     rw[List.length_map,List.length_cons,List.length_map,List.length_take]
     exact Nat.lt_of_lt_of_le (show min i (bK t).length+1<6 by lia) (by decide)
    cases o with
    | none =>
     walk_at "gzn"
     refine⟨.inl ⟨rfl,_,ar.of bo⟩,_,bo,ll,_,rfl,dJ jH s2,?_,?_⟩
     ·rw[aO (fun z=>by rw[z,bo] at fR;cases fR)]
      exact fR
     ·rw[aj,ei,List.map_append,<- List.cons_append,List.map_append]
      rfl
    | some n =>
     walk_at "gzn"
     refine⟨.inl ⟨rfl,_,ar.of bo⟩,Fw so,_,bo,ll,_,rfl,dJ jH s2,?_,?_⟩
     ·rw[aO (fun z=>by rw[z,bo] at fR;cases fR)]
      exact fR
     ·rw[aj,ei,List.map_append,<- List.cons_append,List.map_append]
      rfl
   ·rintro σ H2 ⟨e,rfl,s2,fR,bo⟩
    rw[List.length_map,List.take_length,<- i4] at bo
    walk_at "gzn"
    exact q l H2 s2 bo
 | nay a =>
  obtain⟨p,x,rfl,hp,hx⟩:=hv
  have hl:(az a).length+1<=400:=hl
  have hh:aG a+1<N+1:=hh
  walk_at "gzn"
  refine aQ (aB.of hp) (v:=.str "not") rfl ?_
  walk_at "gzn"
  refine aQ (aB.of hp) (v:=.str "not") rfl ?_
  walk_at "gzn"
  refine aQ (aB.of hp) (v:=.str "not") rfl ?_
  walk_at "gzn"
  refine⟨by decide,fun l1 f1=>?_⟩
  have u1:=ak (o:=.lst [.str "not"]) f1
  refine aQ (aB.of (u1 _ _ hp)) (v:=x) rfl ⟨x,a,rfl,hx.same u1,hg,hs,by lia,by lia,fun l2 H2 s2 h2=>?_⟩
  walk_at "gzn"
  refine⟨_,s2 _ _ aj,_,h2,rl _ _ (by decide) (by rw[List.length_map];lia),fun l3 f3=>?_⟩
  exact q l3 _ (u1.trans (s2.trans (ak f3))) (by rw[aj];rfl)
 | both a b =>
  obtain⟨p,x,y,rfl,hp,hx,hy⟩:=hv
  have hl:(az a++az b).length+1<=400:=hl
  have hh:aG a+aG b+1<N+1:=hh
  rw[List.length_append] at hl
  walk_at "gzn"
  refine aQ (aB.of hp) (v:=.str "both") rfl ?_
  walk_at "gzn"
  refine aQ (aB.of hp) (v:=.str "both") rfl ⟨by decide,fun l1 f1=>?_⟩
  have u1:=ak (o:=.lst [.str "both"]) f1
  refine aQ (aB.of (u1 _ _ hp)) (v:=x) rfl ⟨x,a,rfl,hx.same u1,hg.1,hs.1,by lia,by lia,fun l2 H2 s2 h2=>?_⟩
  walk_at "gzn"
  refine⟨_,s2 _ _ aj,_,h2,rl _ _ (by decide) (by rw[List.length_map];lia),fun l3 f3=>?_⟩
  have u3:=ak (o:=.lst ([.str "both"]++(az a).map V.str)) f3
  have s3:=u1.trans (s2.trans u3)
  refine aQ (aB.of (s3 _ _ hp)) (v:=y) rfl ⟨y,b,rfl,hy.same s3,hg.2,hs.2,by lia,by lia,fun l4 H4 s4 h4=>?_⟩
  walk_at "gzn"
  refine⟨_,s4 _ _ aj,_,h4,rl _ _ (by rw[List.length_append,List.length_map];show 1+_<=401;lia) (by rw[List.length_map];lia),fun l5 f5=>?_⟩
  exact q l5 _ (s3.trans (s4.trans (ak f5))) (by rw[aj,List.append_assoc,<- List.map_append];rfl)
 | either a b =>
  obtain⟨p,x,y,rfl,hp,hx,hy⟩:=hv
  have hl:(az a++az b).length+1<=400:=hl
  have hh:aG a+aG b+1<N+1:=hh
  rw[List.length_append] at hl
  walk_at "gzn"
  refine aQ (aB.of hp) (v:=.str "either") rfl ?_
  walk_at "gzn"
  refine aQ (aB.of hp) (v:=.str "either") rfl ?_
  walk_at "gzn"
  refine aQ (aB.of hp) (v:=.str "either") rfl ⟨by decide,fun l1 f1=>?_⟩
  have u1:=ak (o:=.lst [.str "either"]) f1
  refine aQ (aB.of (u1 _ _ hp)) (v:=x) rfl ⟨x,a,rfl,hx.same u1,hg.1,hs.1,by lia,by lia,fun l2 H2 s2 h2=>?_⟩
  walk_at "gzn"
  refine⟨_,s2 _ _ aj,_,h2,rl _ _ (by decide) (by rw[List.length_map];lia),fun l3 f3=>?_⟩
  have u3:=ak (o:=.lst ([.str "either"]++(az a).map V.str)) f3
  have s3:=u1.trans (s2.trans u3)
  refine aQ (aB.of (s3 _ _ hp)) (v:=y) rfl ⟨y,b,rfl,hy.same s3,hg.2,hs.2,by lia,by lia,fun l4 H4 s4 h4=>?_⟩
  walk_at "gzn"
  refine⟨_,s4 _ _ aj,_,h4,rl _ _ (by rw[List.length_append,List.length_map];show 1+_<=401;lia) (by rw[List.length_map];lia),fun l5 f5=>?_⟩
  exact q l5 _ (s3.trans (s4.trans (ak f5))) (by rw[aj,List.append_assoc,<- List.map_append];rfl)
theorem uD(T:Tx w K mg):∀ N:Nat,Ok P w base (N+3) T.mB (AJ N)
 | 0=>by
  refine bE (k:=2) nZ ?_
  rintro y y y y y y y y y ⟨y,y,rfl,y,y,y,h,y⟩
  exact absurd h (Nat.not_lt_zero _)
 | N+1=>QQ T N (uD T N)
end
section
seal L2.PE L2.PS L2.aS L2.PA
variable{P:Program}{w:World}{K:PySem.W.Frag}{mg:Str->Option Value}{base:Heap}
theorem FU:∀ (k:Nat) (l:List Nat),l.length=k+1->(∀ c∈l,48<=c/\c<=57)->(l.head? ≠ some 48∨k=0)->∃ m,cY m=l/\m<10 ^ (k+1)
 | 0,l,hl,hd,_=>by
  match l,hl with
  | [c],_ =>
   obtain⟨h1,h2⟩:=hd c (.head _)
   exact⟨c-48,by rw[kj _ (by lia),show c-48+48=c by lia],by lia⟩
 | k+1,l,hl,hd,hh=>by
  have hh:l.head? ≠ some 48:=hh.resolve_right (by lia)
  have ne:l≠[]:=fun z=>by rw[z] at hl;cases hl
  have e:=List.dropLast_concat_getLast ne
  have dl:l.dropLast.length=k+1:=by rw[List.length_dropLast,hl];rfl
  have dh:l.dropLast.head? ≠ some 48:=by
   intro z
   apply hh
   rw[<- e,List.head?_append,z]
   rfl
  obtain⟨m,em,hm⟩:=FU k l.dropLast dl (fun c hc=>hd c (List.dropLast_subset _ hc)) (.inl dh)
  obtain⟨h1,h2⟩:=hd _ (List.getLast_mem ne)
  have m0:m≠0:=fun z=>by
   rw[z,kj 0 (by lia)] at em
   exact dh (by rw[<- em];rfl)
  refine⟨10 * m+(l.getLast ne-48),?_,by rw[Nat.pow_succ];lia⟩
  rw[xA _ (by lia),show (10 * m+(l.getLast ne-48)) / 10=m by lia,show (10 * m+(l.getLast ne-48)) % 10=l.getLast ne-48 by lia,em,kj _ (by lia),show l.getLast ne-48+48=l.getLast ne by lia]
  exact e
theorem QS{x:PySem.Str}(h:gQ x=true)(h0:Txt.startswith x "0" = false):∃ m,cY m=x.cps.toList/\m<10 ^ 60/\m≠0:=by
 unfold gQ ko at h
 rw[Bool.and_eq_true,Bool.and_eq_true,List.all_eq_true] at h
 obtain⟨⟨h1,h2⟩,h3⟩:=h
 have h1:=of_decide_eq_true h1
 have h2:=of_decide_eq_true h2
 rw[str_len] at h1 h2
 have hz:x.cps.toList.head? ≠ some 48:=of_decide_eq_false ((nV x 48).symm.trans h0)
 obtain⟨k,hk⟩:∃ k,x.cps.toList.length=k+1:=⟨x.cps.toList.length-1,by lia⟩
 obtain⟨m,em,hm⟩:=FU k _ hk (fun c hc=>by
  have:=h3 c hc
  rw[Bool.and_eq_true] at this
  exact⟨of_decide_eq_true this.1,of_decide_eq_true this.2⟩) (.inl hz)
 refine⟨m,em,Nat.lt_of_lt_of_le hm (Nat.pow_le_pow_right (by decide) (by lia)),fun z=>?_⟩
 rw[z,kj 0 (by lia)] at em
 exact hz (by rw[<- em];rfl)
theorem AK{x:PySem.Str}(h:dR x=true):∃ n:Int,x=bz n/\n.natAbs<10 ^ 60:=by
 unfold dR at h
 rw[Bool.or_eq_true] at h
 rcases h with h|h
 ·exact⟨0,eq_of_beq h,by decide⟩
 ·rw[Bool.and_eq_true] at h
  obtain⟨m,em,hm,m0⟩:=QS h.1 (by simpa using h.2)
  unfold cutD at em
  by_cases hd:jA x=true
  ·rw[if_pos hd,EF] at em
   have hd2:x.cps.toList.head?=some 45:=of_decide_eq_true ((nV x 45).symm.trans hd)
   obtain⟨m',rfl⟩:∃ m',m=m' + 1:=⟨m-1,by lia⟩
   refine⟨-((m' + 1:Nat):Int),tX ?_,by rw[Int.natAbs_neg,Int.natAbs_natCast];exact hm⟩
   rw[nQ,em]
   cases hx:x.cps.toList with
   | nil=>rw[hx] at hd2;cases hd2
   | cons c r =>
    rw[hx] at hd2
    injection hd2 with hd2
    rw[hd2]
    rfl
  ·rw[if_neg hd] at em
   exact⟨(m:Int),tX (by rw[km,em]),by rw[Int.natAbs_natCast];exact hm⟩
theorem QT{x:PySem.Str}(h:oi x=true):∃ e:En,x=bL e/\c6 e:=by
 unfold oi at h
 rw[Bool.or_eq_true] at h
 rcases h with h|h
 ·exact⟨none,eq_of_beq h,trivial⟩
 ·obtain⟨n,e,hn⟩:=AK h
  exact⟨some n,e,hn⟩
def fits(f:PySem.Str)(e:En):Prop:=f = "E" ∨ (f = "N" /\ e≠none)
theorem QU{f x:PySem.Str}(hf:f = "N" ∨ f = "E")(h:kY f x=true):∃ e:En,x=bL e/\c6 e/\fits f e:=by
 unfold kY at h
 rcases hf with rfl|rfl
 ·rw[if_pos rfl] at h
  obtain⟨n,e,hn⟩:=AK h
  exact⟨some n,e,hn,.inr ⟨rfl,fun z=>nomatch z⟩⟩
 ·rw[if_neg (by decide)] at h
  obtain⟨e,e1,e2⟩:=QT (x:=x) (by simpa using h)
  exact⟨e,e1,e2,.inl rfl⟩
theorem QV{a b:En}(ha:c6 a)(hb:c6 b)(h:bL a=bL b):a=b:=by
 cases a with
 | none =>
  cases b with
  | none=>rfl
  | some n=>exact absurd h.symm (Au n)
 | some m =>
  cases b with
  | none=>exact absurd h (Au m)
  | some n =>
   have e1:=tT ha
   have e2:=tT hb
   rw[show bz m=bz n from h,e2] at e1
   injection e1 with e1
   rw[e1]
end
section
seal L2.PE L2.PS L2.aS L2.PA
variable{P:Program}{w:World}{K:PySem.W.Frag}{mg:Str->Option Value}{base:Heap}
theorem QW{f:PySem.Str}{e:En}(h:c6 e)(hf:f = "E" ∨ (f = "N" /\ e≠none)):kY f (bL e)=true:=by
 have num:∀ n:Int,n.natAbs<10 ^ 60->dR (bL (some n))=true:=fun n h=>EH h
 rcases hf with rfl|⟨rfl,hn⟩
 ·unfold kY
  rw[if_neg (by decide)]
  cases e with
  | none=>rfl
  | some n =>
   unfold oi
   rw[num n h,Bool.or_true,Bool.or_true]
 ·unfold kY
  rw[if_pos rfl]
  cases e with
  | none=>exact absurd rfl hn
  | some n=>exact num n h
inductive QX(K:PySem.W.Frag)(C:Addr)(vs:List V)(H:Hp)(Q:VK)(E:XK):Prop
 | mk(wl:Addr)(ws:List PySem.Str)(k:Nat)(f:PySem.Str)(_:vs=[.ref wl,.int k,.str f])(_:ar K H wl (ws.map V.str))(_:(∀ x∈ws,x.length<=100000))(_:(f = "N" ∨ f = "E"))(_:(∀ e H',ws[k]?=some (bL e)->c6 e->fits f e->ai H H'->Q (ev e) H'))(_:((∀ e,ws[k]?=some (bL e)->c6 e->¬ fits f e)->∀ H',ai H H'->E (.ref C) none H'))
theorem QY(T:Tx w K mg):Ok P w base 5 T.kS (QX K T.bQ):=by
 refine kg Ab ?_
 rintro y y y y y y y y hr ⟨wl,ws,k,f,rfl,hw,hb,hf,q,q0⟩
 refine⟨_,(aq (aE (tQ (aa 1) (bj c8 (by rfl) T.dj df (ae (aa 0) ah))) (ao (iN iO rfl T.kX T.iX rfl (ae au ah))) aH) (aq (aE (jg (d9 (aJ (Po T) hr (ae (aa 2) (ae (aw (aa 0) (aa 1)) ah))))) (ao (iN iO rfl T.kX T.iX rfl (ae au ah))) aH) (ao (ay (aJ (Pq T) hr (ae (aw (aa 0) (aa 1)) ah)))))),?_⟩
 walk_at "gzn"
 refine⟨_,dI hw,?_⟩
 rw[List.length_map]
 refine aL (fun hk=>⟨by decide,q0 (fun e he=>?_) _ (ai.refl _)⟩) fun hk=>?_
 ·have:=(List.getElem?_eq_some_iff.mp he).1
  lia
 have kl:k<ws.length:=by lia
 obtain⟨x,hx⟩:∃ x,ws[k]?=some x:=⟨ws[k],List.getElem?_eq_getElem kl⟩
 have ou:cD (ws.map V.str) (k:Int)=some (.str x):=j5 (by rw[List.getElem?_map,hx];rfl)
 refine bC hw ou ⟨f,x,rfl,hb x (List.mem_of_getElem? hx),fun H1 s1=>?_⟩
 walk_at "gzn"
 cases hF:kY f x with
 | false =>
  walk_at "gzn"
  refine⟨by decide,q0 (fun e he hs iy=>?_) _ s1⟩
  rw[hx] at he
  injection he with he
  rw[he,QW hs iy] at hF
  cases hF
 | true =>
  obtain⟨e,rfl,hs,iy⟩:=QU hf hF
  walk_at "gzn"
  refine bC (s1.seq hw) ou ⟨e,rfl,hs,q e _ hx hs iy s1⟩
inductive QZ(C:Addr)(vs:List V)(H:Hp)(Q:VK)(E:XK):Prop
 | mk(l h:En)(_:vs=[ev l,ev h])(_:(dw l h=false->∀ p H',ai H H'->H' p=some (.tup [ev l,ev h])->Q (.ref p) H'))(_:(dw l h=true->E (.ref C) none H))
theorem FV(T:Tx w K mg):Ok P w base 2 T.iu (QZ T.bA):=by
 refine kg Ac ?_
 rintro y y y y y y y y hr ⟨l,h,rfl,q,q0⟩
 refine⟨_,(aq (aE (d9 (aJ (As T) hr (ae (aa 0) (ae (aa 1) ah)))) (ao (iN iO rfl T.mF T.jG rfl (ae au ah))) aH) (ao (ay (bg (ae (aa 0) (ae (aa 1) ah)))))),?_⟩
 walk_at "gzn"
 refine⟨l,h,rfl,?_⟩
 walk_at "gzn"
 cases hc:dw l h with
 | false =>
  walk_at "gzn"
  exact⟨bJ,fun p hp=>q hc p _ (ak hp) aj⟩
 | true =>
  walk_at "gzn"
  exact⟨by decide,q0 hc⟩
end
section
seal L2.PE L2.PS L2.aS L2.PA
variable{P:Program}{w:World}{K:PySem.W.Frag}{mg:Str->Option Value}{base:Heap}
def fb(H:Hp):V->Rt->Prop
 | v,.leaf t=>∃ p l,v = .ref p/\H p=some (.tup [.str (bM t),.ref l])/\H l=some (.lst ((bK t).map ev))
 | v,.nay a=>∃ p l x,v = .ref p/\H p=some (.tup [.str "not",.ref l])/\H l=some (.lst [x])/\fb H x a
 | v,.both a b=>∃ p l x y,v = .ref p/\H p=some (.tup [.str "both",.ref l])/\H l=some (.lst [x,y])/\fb H x a/\fb H y b
 | v,.either a b=>∃ p l x y,v = .ref p/\H p=some (.tup [.str "either",.ref l])/\H l=some (.lst [x,y])/\fb H x a/\fb H y b
theorem fb.same{H H':Hp}(s:ai H H'):∀ {rt:Rt} {v:V},fb H v rt->fb H' v rt
 | .leaf _,_,h=>let ⟨x,l,e,h,g⟩:=h;⟨x,l,e,s _ _ h,s _ _ g⟩
 | .nay _,_,h=>let ⟨x,l,c,e,h,g,a⟩:=h;⟨x,l,c,e,s _ _ h,s _ _ g,fb.same s a⟩
 | .both _ _,_,h=>let ⟨x,l,c,d,e,h,g,a,b⟩:=h;⟨x,l,c,d,e,s _ _ h,s _ _ g,fb.same s a,fb.same s b⟩
 | .either _ _,_,h=>let ⟨x,l,c,d,e,h,g,a,b⟩:=h;⟨x,l,c,d,e,s _ _ h,s _ _ g,fb.same s a,fb.same s b⟩
def cU(G H:Hp):V->Rt->Prop
 | v,.leaf t=>∃ p l,v = .ref p/\G l=none/\H p=some (.tup [.str (bM t),.ref l])/\H l=some (.lst ((bK t).map ev))
 | v,.nay a=>∃ p l x,v = .ref p/\G l=none/\H p=some (.tup [.str "not",.ref l])/\H l=some (.lst [x])/\cU G H x a
 | v,.both a b=>∃ p l x y,v = .ref p/\G l=none/\H p=some (.tup [.str "both",.ref l])/\H l=some (.lst [x,y])/\cU G H x a/\cU G H y b
 | v,.either a b=>∃ p l x y,v = .ref p/\G l=none/\H p=some (.tup [.str "either",.ref l])/\H l=some (.lst [x,y])/\cU G H x a/\cU G H y b
theorem cU.is{G H:Hp}:∀ {rt:Rt} {v:V},cU G H v rt->fb H v rt
 | .leaf _,_,h=>let ⟨x,l,e,_,h,g⟩:=h;⟨x,l,e,h,g⟩
 | .nay _,_,h=>let ⟨x,l,c,e,_,h,g,a⟩:=h;⟨x,l,c,e,h,g,cU.is a⟩
 | .both _ _,_,h=>let ⟨x,l,c,d,e,_,h,g,a,b⟩:=h;⟨x,l,c,d,e,h,g,cU.is a,cU.is b⟩
 | .either _ _,_,h=>let ⟨x,l,c,d,e,_,h,g,a,b⟩:=h;⟨x,l,c,d,e,h,g,cU.is a,cU.is b⟩
theorem cU.step{G G' H H':Hp}(f:∀ b,G b=none->G' b=none)(k:∀ b o,G b=none->H b=some o->H' b=some o)(t:∀ p xs,H p=some (.tup xs)->H' p=some (.tup xs)):∀ {rt:Rt} {v:V},cU G H v rt->cU G' H' v rt
 | .leaf _,_,h=>let ⟨x,l,e,z,h,g⟩:=h;⟨x,l,e,f _ z,t _ _ h,k _ _ z g⟩
 | .nay _,_,h=>let ⟨x,l,c,e,z,h,g,a⟩:=h;⟨x,l,c,e,f _ z,t _ _ h,k _ _ z g,cU.step f k t a⟩
 | .both _ _,_,h=>let ⟨x,l,c,d,e,z,h,g,a,b⟩:=h;⟨x,l,c,d,e,f _ z,t _ _ h,k _ _ z g,cU.step f k t a,cU.step f k t b⟩
 | .either _ _,_,h=>let ⟨x,l,c,d,e,z,h,g,a,b⟩:=h;⟨x,l,c,d,e,f _ z,t _ _ h,k _ _ z g,cU.step f k t a,cU.step f k t b⟩
noncomputable def eR:Rt->List Rt
 | .leaf _=>[]|.nay a=>[a]|.both a b=>[a,b]|.either a b=>[a,b]
noncomputable def cV:Rt->PySem.Str
 | .leaf t=>bM t|.nay _ => "not" | .both _ _ => "both" | .either _ _ => "either"
noncomputable def rm:Tr->PySem.Str
 | .stay _ _ _ _ => "NNEE" | .over _ _ _ => "NNN" | .under _ _ _ => "NNN" | .rose _ _ _ _ => "NNNN" | .pace _ _ _ _ => "NNEE" | .turn _ => "N"
noncomputable def Q0:Rt->PySem.Str
 | .leaf t=>rm t|.nay _ => "R" | .both _ _ => "RR" | .either _ _ => "RR"
theorem FW(rt:Rt):bX FORMS (.inr (cV rt))=some (.str (Q0 rt)):=by
 cases rt with
 | leaf t=>cases t<;>rfl
 | _=>rfl
theorem Q1(t:Tr){i:Nat}{v:V}(h:(aU (rm t))[i]?=some v):∃ f e,v = .str f/\f ≠ "R" /\ (bK t)[i]?=some e/\(f = "E" ∨ (f = "N" /\ e≠none)):=by
 have e4:aU "NNEE" = [.str "N",.str "N",.str "E",.str "E"]:=rfl
 have e3:aU "NNN" = [.str "N",.str "N",.str "N"]:=rfl
 have e5:aU "NNNN" = [.str "N",.str "N",.str "N",.str "N"]:=rfl
 have e1:aU "N" = [.str "N"]:=rfl
 have n1:("N" : PySem.Str) ≠ "R" := by decide
 have n2:("E" : PySem.Str) ≠ "R" := by decide
 cases t<;>simp only[rm,e4,e3,e5,e1] at h<;>(
  rcases i with y|y|y|y|i<;>simp only[List.getElem?_cons_zero,List.getElem?_cons_succ,List.getElem?_nil,reduceCtorEq,Option.some.injEq] at h<;>(first|(subst h;refine⟨_,_,rfl,?_,rfl,?_⟩<;>first|exact n1|exact n2|exact .inl rfl|exact .inr ⟨rfl,fun z=>nomatch z⟩)))
theorem rn(rt:Rt)(hk:∀ t,rt ≠ .leaf t):az rt=cV rt::(eR rt).flatMap az:=by
 cases rt with
 | leaf t=>exact absurd rfl (hk t)
 | nay a=>simp[az,cV,eR]
 | both a b=>simp[az,cV,eR]
 | either a b=>simp[az,cV,eR]
theorem cv(rt:Rt):∃ r,az rt=cV rt::r:=by
 cases rt with
 | leaf t=>exact⟨_,i4 t⟩
 | nay a=>exact⟨_,rfl⟩
 | both a b=>exact⟨_,rfl⟩
 | either a b=>exact⟨_,rfl⟩
theorem Q3{G H:Hp}{p l:Addr}{xs:List V}{rt:Rt}(hL:∀ t,rt ≠ .leaf t)(gl:G l=none)(hp:H p=some (.tup [.str (cV rt),.ref l]))(hl:H l=some (.lst xs))(hA:aD (cU G H) xs (eR rt)):cU G H (.ref p) rt:=by
 cases rt with
 | leaf t=>exact absurd rfl (hL t)
 | nay a =>
  match xs,hA with
  | [x],hA=>exact⟨p,l,x,rfl,gl,hp,hl,hA.1⟩
 | both a b =>
  match xs,hA with
  | [x,y],hA=>exact⟨p,l,x,y,rfl,gl,hp,hl,hA.1,hA.2.1⟩
 | either a b =>
  match xs,hA with
  | [x,y],hA=>exact⟨p,l,x,y,rfl,gl,hp,hl,hA.1,hA.2.1⟩
def uE(t:Tr):Prop:=∀ o∈bK t,c6 o
def cu:Rt->Prop
 | .leaf t=>uE t
 | .nay a=>cu a
 | .both a b=>cu a/\cu b
 | .either a b=>cu a/\cu b
def ow(x f:PySem.Str):Prop:=(x = "over" /\ f = "NNN")∨(x = "under" /\ f = "NNN")∨(x = "stay" /\ f = "NNEE")∨(x = "rose" /\ f = "NNNN")∨(x = "pace" /\ f = "NNEE")∨(x = "turn" /\ f = "N")
def rp(x f:PySem.Str):Prop:=(x = "both" /\ f = "RR")∨(x = "either" /\ f = "RR")∨(x = "not" /\ f = "R")
theorem FX(x y:PySem.Str):decide ((Sum.inr y:Key) = .inr x)=decide (x=y):=by
 by_cases h:x=y
 ·rw[h];simp
 ·rw[decide_eq_false h]
  exact decide_eq_false fun z=>h (Sum.inr.inj z).symm
theorem kinds{x:PySem.Str}{v:V}(h:bX FORMS (.inr x)=some v):∃ f,v = .str f/\(ow x f∨rp x f):=by
 unfold bX FORMS at h
 simp only[List.find?_cons,List.find?_nil,FX] at h
 by_cases e1:x = "over"
 ·rw[decide_eq_true e1] at h;injection h with h;exact⟨_,h.symm,.inl (.inl ⟨e1,rfl⟩)⟩
 rw[decide_eq_false e1] at h
 by_cases e2:x = "under"
 ·rw[decide_eq_true e2] at h;injection h with h;exact⟨_,h.symm,.inl (.inr (.inl ⟨e2,rfl⟩))⟩
 rw[decide_eq_false e2] at h
 by_cases e3:x = "stay"
 ·rw[decide_eq_true e3] at h;injection h with h;exact⟨_,h.symm,.inl (.inr (.inr (.inl ⟨e3,rfl⟩)))⟩
 rw[decide_eq_false e3] at h
 by_cases e4:x = "rose"
 ·rw[decide_eq_true e4] at h;injection h with h;exact⟨_,h.symm,.inl (.inr (.inr (.inr (.inl ⟨e4,rfl⟩))))⟩
 rw[decide_eq_false e4] at h
 by_cases e5:x = "pace"
 ·rw[decide_eq_true e5] at h;injection h with h;exact⟨_,h.symm,.inl (.inr (.inr (.inr (.inr (.inl ⟨e5,rfl⟩)))))⟩
 rw[decide_eq_false e5] at h
 by_cases e6:x = "turn"
 ·rw[decide_eq_true e6] at h;injection h with h;exact⟨_,h.symm,.inl (.inr (.inr (.inr (.inr (.inr ⟨e6,rfl⟩)))))⟩
 rw[decide_eq_false e6] at h
 by_cases e7:x = "both"
 ·rw[decide_eq_true e7] at h;injection h with h;exact⟨_,h.symm,.inr (.inl ⟨e7,rfl⟩)⟩
 rw[decide_eq_false e7] at h
 by_cases e8:x = "either"
 ·rw[decide_eq_true e8] at h;injection h with h;exact⟨_,h.symm,.inr (.inr (.inl ⟨e8,rfl⟩))⟩
 rw[decide_eq_false e8] at h
 by_cases e9:x = "not"
 ·rw[decide_eq_true e9] at h;injection h with h;exact⟨_,h.symm,.inr (.inr (.inr ⟨e9,rfl⟩))⟩
 rw[decide_eq_false e9] at h
 cases h
theorem Q4{x f:PySem.Str}(h:ow x f){i:Nat}{v:V}(hv:(aU f)[i]?=some v):∃ c,v = .str c/\(c = "N" ∨ c = "E"):=by
 have e4:aU "NNEE" = [.str "N",.str "N",.str "E",.str "E"]:=rfl
 have e3:aU "NNN" = [.str "N",.str "N",.str "N"]:=rfl
 have e5:aU "NNNN" = [.str "N",.str "N",.str "N",.str "N"]:=rfl
 have e1:aU "N" = [.str "N"]:=rfl
 have m:=List.mem_of_getElem? hv
 rcases h with ⟨y,rfl⟩|⟨y,rfl⟩|⟨y,rfl⟩|⟨y,rfl⟩|⟨y,rfl⟩|⟨y,rfl⟩<;>simp only[e1,e3,e4,e5,List.mem_cons,List.not_mem_nil,or_false] at m
 all_goals (rcases m with rfl|rfl|rfl|rfl)<;>first|exact⟨_,rfl,.inl rfl⟩|exact⟨_,rfl,.inr rfl⟩
end
section
seal L2.PE L2.PS L2.aS L2.PA
variable{P:Program}{w:World}{K:PySem.W.Frag}{mg:Str->Option Value}{base:Heap}
def rq:Tr->Prop
 | .stay _ _ l h=>dw l h=false
 | .pace _ _ l h=>dw l h=false
 | _=>True
inductive Q5(T:Tx w K mg)(vs:List V)(H:Hp)(Q:VK)(E:XK):Prop
 | mk(m:Addr)(t:Tr)(_:vs=[.str (bM t),.ref m])(_:H m=some (.lst ((bK t).map ev)))(_:(dU t/\rq t->∀ x H',ai H H'->iZ T H' x t->Q (.ref x) H'))(_:(¬ (dU t/\rq t)->∀ H',ai H H'->E (.ref T.bA) none H'))
theorem Q6(T:Tx w K mg):Ok P w base 4 T.kT (Q5 T):=by
 refine kg Ad ?_
 rintro v v v s H v v v hr ⟨m,t,rfl,hl,q,q0⟩
 refine⟨_,(aq (aE (aP (aa 0) au) (ao (ay (jj T.Ak (Px T) hr.m rfl T.N4 T.mm.b .nil cS (ae (aw (aa 1) ag) (ae (aw (aa 1) ag) (ae (aw (aa 1) ag) ah)))))) aH) (aq (aE (aP (aa 0) au) (ao (ay (jj T.Al (Pz T) hr.m rfl T.N5 T.mq.b .nil cS (ae (aw (aa 1) ag) (ae (aw (aa 1) ag) (ae (aw (aa 1) ag) ah)))))) aH) (aq (aE (aP (aa 0) au) (ao (ay (jj T.Aj (Pu T) hr.m rfl T.N3 T.ml.b .nil cS (ae (aw (aa 1) ag) (ae (aw (aa 1) ag) (ae (fT (FV T) hr.m rfl T.iu.m T.iu.F.kp T.iu.b .nil cS (ae (aw (aa 1) ag) (ae (aw (aa 1) ag) ah))) ah)))))) aH) (aq (aE (aP (aa 0) au) (ao (ay (jj T.Am (PH T) hr.m rfl T.N6 T.mv.b .nil cS (ae (aw (aa 1) ag) (ae (aw (aa 1) ag) (ae (aw (aa 1) ag) (ae (aw (aa 1) ag) ah))))))) aH) (aq (aE (aP (aa 0) au) (ao (ay (jj T.An (PD T) hr.m rfl T.N7 T.mw.b .nil cS (ae (aw (aa 1) ag) (ae (aw (aa 1) ag) (ae (fT (FV T) hr.m rfl T.iu.m T.iu.F.kp T.iu.b .nil cS (ae (aw (aa 1) ag) (ae (aw (aa 1) ag) ah))) ah)))))) aH) (ao (ay (jj T.Ao (PK T) hr.m rfl T.N8 T.mx.b .nil cS (ae (aw (aa 1) ag) ah))))))))),?_⟩
 cases t with
 | stay i j l h =>
  replace hl:H m=some (.lst [.int i,.int j,ev l,ev h]):=hl
  dsimp only [bM]
  walk_at "gzn"
  repeat (refine bC (ar.of hl) rfl ?_;walk_at "gzn")
  refine⟨l,h,rfl,fun hc y H1 sy ey=>?_,fun hc=>q0 (fun z=>by rw[show dw l h=false from z.2] at hc;cases hc) _ (ai.refl _)⟩
  walk_at "gzn"
  intro x dx hx fy cP
  have mk:=ju (C:=T.bR) (fs:=[]) hx fy cP
  refine⟨x,dx,i,j,_,rfl,aj,fun z=>q0 (fun y=>z y.1) _ (sy.trans mk),fun hk=>⟨rfl,?_⟩⟩
  refine q ⟨hk,hc⟩ x _ (fun b o e=>?_) ⟨dx,y,aj,by rw[aO (fun z=>by rw[<- z,ey] at hx;cases hx)];exact mk _ _ ey⟩
  have e2:=(sy:ai H _) _ _ e
  rw[aO (fun z=>by rw[z,hx] at e2;cases e2)]
  exact mk _ _ e2
 | pace i j l h =>
  replace hl:H m=some (.lst [.int i,.int j,ev l,ev h]):=hl
  dsimp only [bM]
  walk_at "gzn"
  repeat (refine bC (ar.of hl) rfl ?_;walk_at "gzn")
  refine⟨l,h,rfl,fun hc y H1 sy ey=>?_,fun hc=>q0 (fun z=>by rw[show dw l h=false from z.2] at hc;cases hc) _ (ai.refl _)⟩
  walk_at "gzn"
  intro x dx hx fy cP
  have mk:=ju (C:=T.bO) (fs:=[]) hx fy cP
  refine⟨x,dx,i,j,_,rfl,aj,fun z=>q0 (fun y=>z y.1) _ (sy.trans mk),fun hk=>⟨rfl,?_⟩⟩
  refine q ⟨hk,hc⟩ x _ (fun b o e=>?_) ⟨dx,y,aj,by rw[aO (fun z=>by rw[<- z,ey] at hx;cases hx)];exact mk _ _ ey⟩
  have e2:=(sy:ai H _) _ _ e
  rw[aO (fun z=>by rw[z,hx] at e2;cases e2)]
  exact mk _ _ e2
 | over i j s =>
  replace hl:H m=some (.lst [.int i,.int j,.int s]):=hl
  dsimp only [bM]
  walk_at "gzn"
  repeat (refine bC (ar.of hl) rfl ?_;walk_at "gzn")
  intro x dx hx fy cP
  have mk:=ju (C:=T.bS) (fs:=[]) hx fy cP
  refine⟨x,dx,i,j,_,rfl,aj,fun z=>q0 (fun y=>z y.1) _ mk,fun hk=>⟨rfl,?_⟩⟩
  refine q ⟨hk,trivial⟩ x _ (fun b o e=>?_) ⟨dx,aj⟩
  have e2:=(ai.refl H:ai H _) _ _ e
  rw[aO (fun z=>by rw[z,hx] at e2;cases e2)]
  exact mk _ _ e2
 | under i j s =>
  replace hl:H m=some (.lst [.int i,.int j,.int s]):=hl
  dsimp only [bM]
  walk_at "gzn"
  repeat (refine bC (ar.of hl) rfl ?_;walk_at "gzn")
  intro x dx hx fy cP
  have mk:=ju (C:=T.bT) (fs:=[]) hx fy cP
  refine⟨x,dx,i,j,_,rfl,aj,fun z=>q0 (fun y=>z y.1) _ mk,fun hk=>⟨rfl,?_⟩⟩
  refine q ⟨hk,trivial⟩ x _ (fun b o e=>?_) ⟨dx,aj⟩
  have e2:=(ai.refl H:ai H _) _ _ e
  rw[aO (fun z=>by rw[z,hx] at e2;cases e2)]
  exact mk _ _ e2
 | rose i j l h =>
  replace hl:H m=some (.lst [.int i,.int j,.int l,.int h]):=hl
  dsimp only [bM]
  walk_at "gzn"
  repeat (refine bC (ar.of hl) rfl ?_;walk_at "gzn")
  intro x dx hx fy cP
  have mk:=ju (C:=T.bU) (fs:=[]) hx fy cP
  refine⟨x,dx,i,j,l,h,rfl,aj,fun z H' sb=>q0 (fun y=>z y.1) H' fun b o e=>sb b o (fun y=>by rw[y,hx] at e;cases e) (mk b o e),fun hk=>⟨rfl,?_⟩⟩
  refine q ⟨hk,trivial⟩ x _ (fun b o e=>?_) ⟨dx,aj⟩
  have e2:=(ai.refl H:ai H _) _ _ e
  rw[aO (fun z=>by rw[z,hx] at e2;cases e2)]
  exact mk _ _ e2
 | turn t =>
  replace hl:H m=some (.lst [.int t]):=hl
  dsimp only [bM]
  walk_at "gzn"
  repeat (refine bC (ar.of hl) rfl ?_;walk_at "gzn")
  intro x dx hx fy cP
  have mk:=ju (C:=T.cF) (fs:=[]) hx fy cP
  refine⟨x,dx,t,rfl,aj,fun z=>q0 (fun y=>z y.1) _ mk,fun hk=>⟨rfl,?_⟩⟩
  refine q ⟨hk,trivial⟩ x _ (fun b o e=>?_) ⟨dx,aj⟩
  have e2:=(ai.refl H:ai H _) _ _ e
  rw[aO (fun z=>by rw[z,hx] at e2;cases e2)]
  exact mk _ _ e2
end
section
seal L2.PE L2.PS L2.aS L2.PA
variable{P:Program}{w:World}{K:PySem.W.Frag}{mg:Str->Option Value}{base:Heap}
inductive Q7(K:PySem.W.Frag)(vs:List V)(H:Hp)(Q:VK)(aW:XK):Prop
 | mk(a:Addr)(ns:List Int)(k pr m:Int)(_:vs=[.ref a,.int k,.int pr,.int m])(_:ar K H a (ns.map V.int))(_:fY ns)(_:(-1000000<=k/\k<=1000000))(_:0<pr)(_:0<m)(_:∀ p:Int,0<=p->p<m->Q (.int p) H)
theorem Q8{ns:List Int}(h:fY ns){k:Int}(hk : -1000000<=k/\k<=1000000):jq k k/\jq (pL ns k+k * k) 48271:=by
 have c:=L5 h k
 have k1:Bt 64 k:=Bt.small (by lia) (by lia)
 have k2:Bt 128 (k * k):=k1.mul k1
 have n2:Bt 64 48271:=Bt.small (by decide) (by decide)
 exact⟨⟨k1.up (by decide),k1.up (by decide)⟩,(c.add (k2.up (by decide))).up (by decide),n2.up (by decide)⟩
theorem dm(T:Tx w K mg):Ok P w base 1 T.qw (Q7 K):=by
 refine bE Ae ?_
 rintro y y y y y y y y y ⟨a,ns,k,pr,m,rfl,hS,hn,hk,hpr,hm,q⟩
 refine⟨_,(aq (aE (aP (bj c8 (by rfl) T.dj df (ae (aa 0) ah)) ag) (ao (ay ag)) aH) (ao (ay (ax pS (ax pS (ax nK (ax a9 (aw (aa 0) (ax pS (aa 1) (bj c8 (by rfl) T.dj df (ae (aa 0) ah)))) (ax nK (aa 1) (aa 1))) ag) (aa 2)) (aa 3))))),?_⟩
 walk_at "gz"
 refine⟨_,dI hS,?_⟩
 rw[List.length_map]
 have pm:=Q8 hn hk
 refine aL (fun h=>?_) fun h=>?_
 ·exact q 0 (by decide) hm
 ·have h:0<(ns.length:Int):=by
   have:ns.length≠0:=fun z=>h (by rw[z];rfl)
   lia
  refine⟨_,dI hS,?_⟩
  rw[List.length_map]
  refine⟨h,bC hS (L6 h) ?_⟩
  walk_at "gz"
  exact⟨pm.1,pm.2,hpr,hm,q _ (Int.emod_nonneg _ (by lia)) (Int.emod_lt_of_pos _ hm)⟩
theorem mH{n:Int}(h1 : -1000000000000000000000000000000000000000000000000000000000000<n)(h2:n<1000000000000000000000000000000000000000000000000000000000000):n.natAbs<10 ^ 60:=by
 rw[show (10:Nat) ^ 60=1000000000000000000000000000000000000000000000000000000000000 by decide +kernel]
 lia
inductive Q9(K:PySem.W.Frag)(vs:List V)(H:Hp)(Q:VK)(aW:XK):Prop
 | mk(a:Addr)(ns:List Int)(_:vs=[.ref a])(_:ar K H a (ns.map V.int))(_:fY ns)(_:∀ (p:Int) (H':Hp),ai H H'->-999999999999999999999999999999999999999999999999999999999900<=p->p<=999999999999999999999999999999999999999999999999999999999900->Q (.int p) H')
theorem Ra(T:Tx w K mg):Ok P w base 2 T.qx (Q9 K):=by
 refine bE ue ?_
 rintro y y y y y y y y hr ⟨a,ns,rfl,hS,hn,q⟩
 refine⟨_,(aq (aE (aP (bj c8 (by rfl) T.dj df (ae (aa 0) ah)) ag) (ao (ay ag)) aH) (aq (aN 1 ue.nd (ax pS (aw (aa 0) ag) (ax dD (ax BK ag ag) ag))) (ao (ay (aw (bg (ae ag (ae (aa 1) (ae (ax dD ag (aa 1)) (ae (ax dD (ax BK ag ag) ag) ah))))) (aJ (dm T) hr (ae (aa 0) (ae ag (ae ag (ae ag ah)))))))))),?_⟩
 walk_at "gzn"
 refine⟨_,dI hS,?_⟩
 rw[List.length_map]
 refine aL (fun h=>q _ _ (ai.refl _) (by decide) (by decide)) fun h=>?_
 have h:0<(ns.length:Int):=by
  have:ns.length≠0:=fun z=>h (by rw[z];rfl)
  lia
 have h0:cD (ns.map V.int) 0=some (.int (ns.getD 0 0)):=j5 (j:=0) (by rw[List.getElem?_map,List.getD_eq_getElem?_getD,List.getElem?_eq_getElem (by lia)];rfl)
 refine bC hS h0 ?_
 walk_at "gzn"
 have e0:=Int.emod_nonneg (ns.getD 0 0) (show (999999999999999999999999999999999999999999999999999999999800:Int)≠0 by decide)
 have e1:=Int.emod_lt_of_pos (ns.getD 0 0) (show (0:Int)<999999999999999999999999999999999999999999999999999999999800 by decide)
 refine⟨⟨by decide,by decide,by decide⟩,⟨by decide,by decide,by decide⟩,by decide,fun t ht=>?_⟩
 refine⟨a,ns,_,_,_,rfl,(ak ht).seq hS,hn,by lia,by lia,by lia,fun p p1 p2=>?_⟩
 rcases (by lia:p=0∨p=1∨p=2∨p=3) with rfl|rfl|rfl|rfl
 all_goals exact aQ (aB.of aj) rfl (q _ _ (ak ht) (by lia) (by lia))
end
section
seal L2.PE L2.PS L2.aS L2.PA
variable{P:Program}{w:World}{K:PySem.W.Frag}{mg:Str->Option Value}{base:Heap}
inductive Rb(K:PySem.W.Frag)(vs:List V)(H:Hp)(Q:VK)(aW:XK):Prop
 | mk(a:Addr)(ns:List Int)(k b:Int)(_:vs=[.ref a,.int k,.int b])(_:ar K H a (ns.map V.int))(_:fY ns)(_:(0<=k/\k<=1000))(_ : -999999999999999999999999999999999999999999999999999999999900<=b)(_:b<=999999999999999999999999999999999999999999999999999999999900)(_:∀ x H',x.length<=70->ai H H'->Q (.str x) H')
theorem eK(a b:PySem.Str):(a++b).length=a.length+b.length:=by
 rw[str_len,PySem.W.KT.app_list,List.length_append,<- str_len,<- str_len]
theorem uF{ys:List PySem.Str}{p:Int}(h0:0<=p)(h1:p<ys.length):∃ x∈ys,cD (ys.map V.str) p=some (.str x):=by
 obtain⟨n,rfl⟩:∃ n:Nat,p=n:=⟨p.toNat,by lia⟩
 have hn:n<ys.length:=by lia
 exact⟨ys[n],List.getElem_mem hn,j5 (by rw[List.getElem?_map,List.getElem?_eq_getElem hn];rfl)⟩
theorem FY(T:Tx w K mg):Ok P w base 2 T.qG (Rb K):=by
 refine bE n0 ?_
 rintro z z z z H z z z hr ⟨a,ns,k,b,rfl,hS,hn,hk,b0,b1,q⟩
 refine⟨_,(aq (aN 3 n0.nd (ck (ae au (ae au (ae au (ae au (ae au (ae au (ae au (ae au (ae au (ae au (ae au (ae au (ae au (ae au ah)))))))))))))))) (aq (aN 3 n0.nd (ax dt (aa 3) (ck (ae au (ae au (ae au (ae au (ae au (ae au (ae au (ae au (ae au (ae au (ae au (ae (ax pY au ag) (ae (ax pY au ag) ah)))))))))))))))) (aq (aN 3 n0.nd (ax dt (aa 3) (ck (ae (ax eB au (ax pY au ag)) (ae (ax eB au (ax pY au ag)) (ae (ax eB au (ax pY au ag)) (ae (j3 BV (by rfl) T.E5 CH (ae (aa 2) ah)) (ae au (ae au (ae au (ae au (ae au ah)))))))))))) (ao (ay (aw (aa 3) (aJ (dm T) hr (ae (aa 0) (ae (aa 1) (ae ag (ae (bj c8 (by rfl) T.dj df (ae (aa 3) ah)) ah))))))))))),?_⟩
 refine aM (fun σ H1=>∃ (l:Addr) (ys:List PySem.Str),σ=[some (.ref a),some (.int k),some (.int b),some (.ref l)]/\ai H H1/\H1 l=some (.lst (ys.map V.str))/\ys.length=14/\∀ y∈ys,y.length<=70) (fun N hN=>?_) ?_
 ·walk_at "gzn"
  exact⟨by decide,fun l fl=>hN _ _ ⟨l,["over","under","stay","rose","pace","turn","both","either","not","*","","-","0","-0"],rfl,ak fl,aj,rfl,by decide⟩⟩
 rintro σ H1 ⟨l,ys,rfl,s1,hl,gX,hyb⟩
 refine aM (fun σ H1=>∃ (l:Addr) (ys:List PySem.Str),σ=[some (.ref a),some (.int k),some (.int b),some (.ref l)]/\ai H H1/\H1 l=some (.lst (ys.map V.str))/\ys.length=27/\∀ y∈ys,y.length<=70) (fun N hN=>?_) ?_
 ·walk_at "gzn"
  refine⟨_,rfl,rfl,fun y1 h1=>⟨_,rfl,rfl,fun y2 h2=>⟨by decide,fun p fp=>⟨_,ak fp _ _ hl,_,aj,by rw[List.length_map,gX];show 14+13<=sizeLine;decide,fun r fr=>hN _ _ ⟨r,ys++(["00","01","+1","1_0","-01","12","-1","11","10","Not","nott",y1,y2]:List PySem.Str),rfl,s1.trans ((ak fp).trans (ak fr)),by rw[aj,List.map_append];rfl,by rw[List.length_append,gX];rfl,List.forall_mem_append.mpr ⟨hyb,fun y hy=>?_⟩⟩⟩⟩⟩⟩
  simp only[List.mem_cons,List.not_mem_nil,or_false] at hy
  rcases hy with rfl|rfl|rfl|rfl|rfl|rfl|rfl|rfl|rfl|rfl|rfl|rfl|rfl
  all_goals first|decide|lia
 clear hl gX hyb s1
 rintro σ H1 ⟨l,ys,rfl,s1,hl,gX,hyb⟩
 refine aM (fun σ H1=>∃ (l:Addr) (ys:List PySem.Str),σ=[some (.ref a),some (.int k),some (.int b),some (.ref l)]/\ai H H1/\H1 l=some (.lst (ys.map V.str))/\ys.length=36/\∀ y∈ys,y.length<=70) (fun N hN=>?_) ?_
 ·have bs:b.natAbs<10 ^ 60:=mH (by lia) (by lia)
  have one:∀ {y:PySem.Str},y.length<=1000->("-" : PySem.Str).length+y.length<=sizeLine/\("1" : PySem.Str).length+y.length<=sizeLine:=fun {y} h=>⟨Nat.le_trans (show 1+y.length<=1001 by lia) (by decide),Nat.le_trans (show 1+y.length<=1001 by lia) (by decide)⟩
  walk_at "gzn"
  refine⟨_,rfl,rfl,fun y1 h1=>⟨_,rfl,_,rfl,(one (by lia)).1,_,rfl,rfl,fun y2 h2=>⟨_,rfl,_,rfl,(one (by lia)).1,_,rfl,rfl,fun y3 h3=>⟨_,rfl,_,rfl,(one (by lia)).2,Fw bs,by decide,fun p fp=>⟨_,ak fp _ _ hl,_,aj,by rw[List.length_map,gX];show 27+9<=sizeLine;decide,fun r fr=>hN _ _ ⟨r,ys++(["-" ++ y1,"-" ++ y2,"1" ++ y3,bz b,"1.0","1e1","--1","1-","a"]:List PySem.Str),rfl,s1.trans ((ak fp).trans (ak fr)),by rw[aj,List.map_append];rfl,by rw[List.length_append,gX];rfl,List.forall_mem_append.mpr ⟨hyb,fun y hy=>?_⟩⟩⟩⟩⟩⟩⟩
  have c1:("-" : PySem.Str).length=1:=by decide
  have c2:("1" : PySem.Str).length=1:=by decide
  simp only[List.mem_cons,List.not_mem_nil,or_false] at hy
  rcases hy with rfl|rfl|rfl|rfl|rfl|rfl|rfl|rfl|rfl
  all_goals first|decide|(rw[eK];lia)|exact Nat.le_trans (dQ bs) (by decide)
 clear hl gX hyb s1
 rintro σ H1 ⟨l,ys,rfl,s1,hl,gX,hyb⟩
 walk_at "gzn"
 refine⟨_,dI (ar.of hl),?_⟩
 rw[List.length_map,gX]
 refine⟨a,ns,_,_,_,rfl,s1.seq hS,hn,by lia,by decide,by decide,fun p p0 p1=>?_⟩
 obtain⟨x,hx,hat⟩:=uF (ys:=ys) p0 (by rw[gX];exact p1)
 exact bC (ar.of hl) hat (q x _ (hyb x hx) s1)
end
section
seal L2.PE L2.PS L2.aS L2.PA
variable{P:Program}{w:World}{K:PySem.W.Frag}{mg:Str->Option Value}{base:Heap}
theorem cf{n:Nat}(h:n<=200000):n<=sizeLine:=Nat.le_trans h (by decide)
inductive Rc(K:PySem.W.Frag)(vs:List V)(H:Hp)(Q:VK)(aW:XK):Prop
 | mk(a:Addr)(ns:List Int)(_:vs=[.ref a])(_:ar K H a (ns.map V.int))(_:fY ns)(_:∀ x H',x.length<=1000->ai H H'->Q (.str x) H')
theorem Rf(T:Tx w K mg):Ok P w base 2 T.qK (Rc K):=by
 refine bE kr ?_
 rintro y y y y H y y y hr ⟨a,ns,rfl,hS,hn,q⟩
 refine⟨_,(aq (aN 1 kr.nd au) (aq (aE (aP (aJ (dm T) hr (ae (aa 0) (ae ag (ae ag (ae ag ah))))) ag) (ao (aN 1 kr.nd (ax eB au au))) aH) (aq (aN 2 kr.nd (ax eB (ax eB (ax eB (ax eB (aw (ck (ae au (ae au ah))) (aJ (dm T) hr (ae (aa 0) (ae ag (ae ag (ae ag ah)))))) au) (aa 1)) au) (aa 1))) (aq (aE (aP (aJ (dm T) hr (ae (aa 0) (ae ag (ae ag (ae ag ah))))) ag) (aq (aN 3 kr.nd (ck (ae au (ae au (ae au ah))))) (ao (aN 2 kr.nd (ax eB (ax eB (ax eB au (aa 2)) au) (aw (aa 3) (aJ (dm T) hr (ae (aa 0) (ae ag (ae ag (ae ag ah)))))))))) aH) (ao (ay (aa 2))))))),?_⟩
 have c1:(" " : PySem.Str).length=1:=by decide
 have c2:("either " : PySem.Str).length=7:=by decide
 refine aM (fun σ H1=>∃ t,σ=[some (.ref a),some (.str t),none,none]/\H=H1/\t.length<=50) (fun N hN=>?_) ?_
 ·walk_at "gzn"
  exact hN _ _ ⟨_,rfl,rfl,by decide⟩
 rintro σ y ⟨t,rfl,rfl,ht⟩
 refine aM (fun σ H1=>∃ t,σ=[some (.ref a),some (.str t),none,none]/\H=H1/\t.length<=50) (fun N hN=>?_) ?_
 ·walk_at "gzn"
  refine⟨a,ns,_,_,_,rfl,hS,hn,by lia,by decide,by decide,fun p p0 p1=>?_⟩
  walk_at "gzn"
  refine aL (fun y=>?_) fun y=>hN _ _ ⟨t,rfl,rfl,ht⟩
  walk_at "gzn"
  exact⟨_,rfl,_,rfl,by decide,hN _ _ ⟨_,rfl,rfl,by rw[eK];decide⟩⟩
 clear ht
 rintro σ y ⟨t,rfl,rfl,ht⟩
 refine aM (fun σ H1=>∃ t u,σ=[some (.ref a),some (.str t),some (.str u),none]/\ai H H1/\u.length<=200) (fun N hN=>?_) ?_
 ·walk_at "gzn"
  refine⟨bJ,fun l fl=>⟨a,ns,_,_,_,rfl,(ak fl).seq hS,hn,by lia,by decide,by decide,fun p p0 p1=>?_⟩⟩
  obtain⟨x,hx,hat⟩:=uF (ys:=["both","either"]) p0 p1
  have kZ:x.length<=10:=by
   simp only[List.mem_cons,List.not_mem_nil,or_false] at hx
   rcases hx with rfl|rfl<;>decide
  exact bC (ar.of aj) hat ⟨_,rfl,_,rfl,cf (by lia),_,rfl,_,rfl,cf (by simp only[eK];lia),_,rfl,_,rfl,cf (by simp only[eK];lia),_,rfl,_,rfl,cf (by simp only[eK];lia),hN _ _ ⟨t,_,rfl,ak fl,by simp only[eK];lia⟩⟩
 rintro σ H1 ⟨t,u,rfl,s1,hu⟩
 refine aM (fun σ H2=>∃ t u e,σ=[some (.ref a),some (.str t),some (.str u),e]/\ai H H2/\u.length<=300) (fun N hN=>?_) ?_
 ·walk_at "gzn"
  refine⟨a,ns,_,_,_,rfl,s1.seq hS,hn,by lia,by decide,by decide,fun p p0 p1=>?_⟩
  walk_at "gzn"
  refine aL (fun y=>?_) fun y=>hN _ _ ⟨t,u,_,rfl,s1,by lia⟩
  walk_at "gzn"
  refine⟨by decide,fun l fl=>?_⟩
  walk_at "gzn"
  refine⟨_,rfl,_,rfl,cf (by lia),_,rfl,_,rfl,cf (by simp only[eK];lia),a,ns,_,_,_,rfl,(s1.trans (ak fl)).seq hS,hn,by lia,by decide,by decide,fun r r0 r1=>?_⟩
  obtain⟨x,hx,hat⟩:=uF (ys:=["over 0 3 1","rose 0 11 0 1","stay 5 4 0 0"]) r0 r1
  have kZ:x.length<=20:=by
   simp only[List.mem_cons,List.not_mem_nil,or_false] at hx
   rcases hx with rfl|rfl|rfl<;>decide
  refine bC (ar.of aj) hat ?_
  walk_at "gzn"
  exact⟨_,rfl,_,rfl,cf (by simp only[eK];lia),hN _ _ ⟨t,_,_,rfl,s1.trans (ak fl),by simp only[eK];lia⟩⟩
 rintro σ H2 ⟨t,u,e,rfl,s2,hu⟩
 walk_at "gzn"
 exact q u _ (by lia) s2
end
section
seal L2.PE L2.PS L2.aS L2.PA
variable{P:Program}{w:World}{K:PySem.W.Frag}{mg:Str->Option Value}{base:Heap}
inductive Rg(K:PySem.W.Frag)(vs:List V)(H:Hp)(Q:VK)(aW:XK):Prop
 | mk(a wl:Addr)(ns:List Int)(ws:List PySem.Str)(b wy:Int)(_:vs=[.ref a,.ref wl,.int b,.int wy])(_:ar K H a (ns.map V.int))(_:fY ns)(_ : -999999999999999999999999999999999999999999999999999999999900<=b)(_:b<=999999999999999999999999999999999999999999999999999999999900)(_:H wl=some (.lst (ws.map V.str)))(_:(1<=ws.length/\ws.length<=60))(_:(∀ y∈ws,y.length<=70))(_:∀ l (ys:List PySem.Str) H',ai H H'->H' l=some (.lst (ys.map V.str))->ys.length<=250->(∀ y∈ys,y.length<=70)->Q (.ref l) H')
theorem gY(ws:List PySem.Str)(lo hi:Option Int):∃ ys:List PySem.Str,eF (ws.map V.str) lo hi=ys.map V.str/\ys.length<=ws.length/\∀ y∈ys,y∈ws:=by
 unfold eF
 rw[<- List.map_drop,<- List.map_take]
 exact⟨_,rfl,by rw[List.length_take,List.length_drop];lia,fun y hy=>List.mem_of_mem_drop (List.mem_of_mem_take hy)⟩
theorem Rh(T:Tx w K mg):Ok P w base 3 T.qI (Rg K):=by
 refine bE qg ?_
 rintro z z z z H z Q z hr ⟨a,wl,ns,ws,b,wy,rfl,hS,hn,b0,b1,hw,⟨w1,uG⟩,dE,q⟩
 refine⟨_,(aq (aN 4 qg.nd (aJ (dm T) hr (ae (aa 0) (ae ag (ae ag (ae (bj c8 (by rfl) T.dj df (ae (aa 1) ah)) ah)))))) (aq (aE (aP (aa 3) ag) (ao (ay (ax dt (cM fv (aa 1) de (cy (aa 4))) (cM fv (aa 1) (cy (ax a9 (aa 4) ag)) de)))) aH) (aq (aE (aP (aa 3) ag) (ao (ay (ax dt (cM fv (aa 1) de (cy (ax a9 (aa 4) ag))) (cM fv (aa 1) (cy (aa 4)) de)))) aH) (aq (aE (aP (aa 3) ag) (aq (aN 5 qg.nd (ax dt (cM fv (aa 1) (cy (ax a9 (aa 4) ag)) (cy (ax a9 (aa 4) ag))) (cM fv (aa 1) (cy (aa 4)) (cy (ax a9 (aa 4) ag))))) (ao (ay (ax dt (ax dt (cM fv (aa 1) de (cy (aa 4))) (aa 5)) (cM fv (aa 1) (cy (ax a9 (aa 4) ag)) de))))) aH) (aq (aE (aP (aa 3) ag) (ao (ay (ax dt (ax dt (cM fv (aa 1) de (cy (aa 4))) (ck (ae (aJ (FY T) hr (ae (aa 0) (ae ag (ae (aa 2) ah)))) ah))) (cM fv (aa 1) (cy (ax a9 (aa 4) ag)) de)))) aH) (aq (aE (aP (aa 3) ag) (ao (ay (ax dt (ax dt (cM fv (aa 1) de (cy (aa 4))) (ck (ae (aJ (FY T) hr (ae (aa 0) (ae ag (ae (aa 2) ah)))) ah))) (cM fv (aa 1) (cy (aa 4)) de)))) aH) (ao (ay (ax dt (fK (cO [] []) rfl (rW rfl T.jF (ae (ax a9 (ax dD ag (bj c8 (by rfl) T.dj df (ae (aa 1) ah))) (aJ (dm T) hr (ae (aa 0) (ae ag (ae ag (ae ag ah)))))) ah)) (fun C s2 H2 ex pn=>⟨eU,au⟩)) (aa 1)))))))))),?_⟩
 refine aM (fun σ H1=>∃ p:Int,σ=[some (.ref a),some (.ref wl),some (.int b),some (.int wy),some (.int p),none]/\H=H1) (fun N hN=>?_) ?_
 ·walk_at "gzn"
  refine⟨_,dI (ar.of hw),?_⟩
  rw[List.length_map]
  exact⟨a,ns,_,_,_,rfl,hS,hn,by lia,by decide,by lia,fun p z z=>hN _ _ ⟨p,rfl,rfl⟩⟩
 rintro σ z ⟨p,rfl,rfl⟩
 refine aM (fun σ H1=>σ=[some (.ref a),some (.ref wl),some (.int b),some (.int wy),some (.int p),none]/\H=H1) (fun N hN=>?_) ?_
 ·walk_at "gzn"
  refine aL (fun z=>?_) fun z=>hN _ _ ⟨rfl,rfl⟩
  clear hN
  walk_at "gzn"
  have s0:=ai.refl H
  refine⟨_,ar.of hw,fun p1 f1=>?_⟩
  obtain⟨y1,e1,l1,m1⟩:=gY ws none (some p)
  rw[e1]
  have u1:=ak (o:=(.lst (y1.map V.str))) f1
  have g1:upd H p1 (.lst (y1.map V.str)) p1=some (.lst (y1.map V.str)):=aj
  generalize upd H p1 (.lst (y1.map V.str))=G1 at u1 g1 ⊢
  replace hw:=u1 _ _ hw
  replace hS:=u1.seq hS
  replace s0:=s0.trans u1
  have k1:∀ y∈y1,y.length<=70:=fun y hy=>dE y (m1 y hy)
  refine⟨_,ar.of hw,fun p2 f2=>?_⟩
  obtain⟨y2,e2,l2,m2⟩:=gY ws (some (p+1)) none
  rw[e2]
  have u2:=ak (o:=(.lst (y2.map V.str))) f2
  have g2:upd G1 p2 (.lst (y2.map V.str)) p2=some (.lst (y2.map V.str)):=aj
  generalize upd G1 p2 (.lst (y2.map V.str))=G2 at u2 g2 ⊢
  replace hw:=u2 _ _ hw
  replace hS:=u2.seq hS
  replace s0:=s0.trans u2
  replace g1:=u2 _ _ g1
  have k2:∀ y∈y2,y.length<=70:=fun y hy=>dE y (m2 y hy)
  refine⟨_,g1,_,g2,cf (by rw[List.length_map,List.length_map];lia),fun r fr=>?_⟩
  exact q r (y1++y2) _ (s0.trans (ak fr)) (by rw[aj,List.map_append]) (by rw[List.length_append];lia) (List.forall_mem_append.mpr ⟨k1,k2⟩)
 rintro σ z ⟨rfl,rfl⟩
 refine aM (fun σ H1=>σ=[some (.ref a),some (.ref wl),some (.int b),some (.int wy),some (.int p),none]/\H=H1) (fun N hN=>?_) ?_
 ·walk_at "gzn"
  refine aL (fun z=>?_) fun z=>hN _ _ ⟨rfl,rfl⟩
  clear hN
  walk_at "gzn"
  have s0:=ai.refl H
  refine⟨_,ar.of hw,fun p1 f1=>?_⟩
  obtain⟨y1,e1,l1,m1⟩:=gY ws none (some (p+1))
  rw[e1]
  have u1:=ak (o:=(.lst (y1.map V.str))) f1
  have g1:upd H p1 (.lst (y1.map V.str)) p1=some (.lst (y1.map V.str)):=aj
  generalize upd H p1 (.lst (y1.map V.str))=G1 at u1 g1 ⊢
  replace hw:=u1 _ _ hw
  replace hS:=u1.seq hS
  replace s0:=s0.trans u1
  have k1:∀ y∈y1,y.length<=70:=fun y hy=>dE y (m1 y hy)
  refine⟨_,ar.of hw,fun p2 f2=>?_⟩
  obtain⟨y2,e2,l2,m2⟩:=gY ws (some p) none
  rw[e2]
  have u2:=ak (o:=(.lst (y2.map V.str))) f2
  have g2:upd G1 p2 (.lst (y2.map V.str)) p2=some (.lst (y2.map V.str)):=aj
  generalize upd G1 p2 (.lst (y2.map V.str))=G2 at u2 g2 ⊢
  replace hw:=u2 _ _ hw
  replace hS:=u2.seq hS
  replace s0:=s0.trans u2
  replace g1:=u2 _ _ g1
  have k2:∀ y∈y2,y.length<=70:=fun y hy=>dE y (m2 y hy)
  refine⟨_,g1,_,g2,cf (by rw[List.length_map,List.length_map];lia),fun r fr=>?_⟩
  exact q r (y1++y2) _ (s0.trans (ak fr)) (by rw[aj,List.map_append]) (by rw[List.length_append];lia) (List.forall_mem_append.mpr ⟨k1,k2⟩)
 rintro σ z ⟨rfl,rfl⟩
 refine aM (fun σ H1=>σ=[some (.ref a),some (.ref wl),some (.int b),some (.int wy),some (.int p),none]/\H=H1) (fun N hN=>?_) ?_
 ·walk_at "gzn"
  refine aL (fun z=>?_) fun z=>hN _ _ ⟨rfl,rfl⟩
  clear hN
  walk_at "gzn"
  have s0:=ai.refl H
  refine⟨_,ar.of hw,fun p1 f1=>?_⟩
  obtain⟨y1,e1,l1,m1⟩:=gY ws (some (p+1)) (some (p+2))
  rw[e1]
  have u1:=ak (o:=(.lst (y1.map V.str))) f1
  have g1:upd H p1 (.lst (y1.map V.str)) p1=some (.lst (y1.map V.str)):=aj
  generalize upd H p1 (.lst (y1.map V.str))=G1 at u1 g1 ⊢
  replace hw:=u1 _ _ hw
  replace hS:=u1.seq hS
  replace s0:=s0.trans u1
  have k1:∀ y∈y1,y.length<=70:=fun y hy=>dE y (m1 y hy)
  refine⟨_,ar.of hw,fun p2 f2=>?_⟩
  obtain⟨y2,e2,l2,m2⟩:=gY ws (some p) (some (p+1))
  rw[e2]
  have u2:=ak (o:=(.lst (y2.map V.str))) f2
  have g2:upd G1 p2 (.lst (y2.map V.str)) p2=some (.lst (y2.map V.str)):=aj
  generalize upd G1 p2 (.lst (y2.map V.str))=G2 at u2 g2 ⊢
  replace hw:=u2 _ _ hw
  replace hS:=u2.seq hS
  replace s0:=s0.trans u2
  replace g1:=u2 _ _ g1
  have k2:∀ y∈y2,y.length<=70:=fun y hy=>dE y (m2 y hy)
  refine⟨_,g1,_,g2,cf (by rw[List.length_map,List.length_map];lia),fun p3 f3=>?_⟩
  rw[<- List.map_append]
  generalize k7:y1++y2=y3
  have l3:y3.length=y1.length+y2.length:=by rw[<- k7,List.length_append]
  have k3:∀ y∈y3,y.length<=70:=by rw[<- k7];exact List.forall_mem_append.mpr ⟨k1,k2⟩
  have u3:=ak (o:=(.lst (y3.map V.str))) f3
  have g3:upd G2 p3 (.lst (y3.map V.str)) p3=some (.lst (y3.map V.str)):=aj
  generalize upd G2 p3 (.lst (y3.map V.str))=G3 at u3 g3 ⊢
  replace hw:=u3 _ _ hw
  replace hS:=u3.seq hS
  replace s0:=s0.trans u3
  replace g1:=u3 _ _ g1
  replace g2:=u3 _ _ g2
  walk_at "gzn"
  refine⟨_,ar.of hw,fun p4 f4=>?_⟩
  obtain⟨y4,e4,l4,m4⟩:=gY ws none (some p)
  rw[e4]
  have u4:=ak (o:=(.lst (y4.map V.str))) f4
  have g4:upd G3 p4 (.lst (y4.map V.str)) p4=some (.lst (y4.map V.str)):=aj
  generalize upd G3 p4 (.lst (y4.map V.str))=G4 at u4 g4 ⊢
  replace hw:=u4 _ _ hw
  replace hS:=u4.seq hS
  replace s0:=s0.trans u4
  replace g1:=u4 _ _ g1
  replace g2:=u4 _ _ g2
  replace g3:=u4 _ _ g3
  have k4:∀ y∈y4,y.length<=70:=fun y hy=>dE y (m4 y hy)
  refine⟨_,g4,_,g3,cf (by rw[List.length_map,List.length_map];lia),fun p5 f5=>?_⟩
  rw[<- List.map_append]
  generalize FZ:y4++y3=y5
  have l5:y5.length=y4.length+y3.length:=by rw[<- FZ,List.length_append]
  have k5:∀ y∈y5,y.length<=70:=by rw[<- FZ];exact List.forall_mem_append.mpr ⟨k4,k3⟩
  have u5:=ak (o:=(.lst (y5.map V.str))) f5
  have g5:upd G4 p5 (.lst (y5.map V.str)) p5=some (.lst (y5.map V.str)):=aj
  generalize upd G4 p5 (.lst (y5.map V.str))=G5 at u5 g5 ⊢
  replace hw:=u5 _ _ hw
  replace hS:=u5.seq hS
  replace s0:=s0.trans u5
  replace g1:=u5 _ _ g1
  replace g2:=u5 _ _ g2
  replace g3:=u5 _ _ g3
  replace g4:=u5 _ _ g4
  refine⟨_,ar.of hw,fun p6 f6=>?_⟩
  obtain⟨y6,e6,l6,m6⟩:=gY ws (some (p+2)) none
  rw[e6]
  have u6:=ak (o:=(.lst (y6.map V.str))) f6
  have g6:upd G5 p6 (.lst (y6.map V.str)) p6=some (.lst (y6.map V.str)):=aj
  generalize upd G5 p6 (.lst (y6.map V.str))=G6 at u6 g6 ⊢
  replace hw:=u6 _ _ hw
  replace hS:=u6.seq hS
  replace s0:=s0.trans u6
  replace g1:=u6 _ _ g1
  replace g2:=u6 _ _ g2
  replace g3:=u6 _ _ g3
  replace g4:=u6 _ _ g4
  replace g5:=u6 _ _ g5
  have k6:∀ y∈y6,y.length<=70:=fun y hy=>dE y (m6 y hy)
  refine⟨_,g5,_,g6,cf (by rw[List.length_map,List.length_map];lia),fun r fr=>?_⟩
  exact q r (y5++y6) _ (s0.trans (ak fr)) (by rw[aj,List.map_append]) (by rw[List.length_append];lia) (List.forall_mem_append.mpr ⟨k5,k6⟩)
 rintro σ z ⟨rfl,rfl⟩
 refine aM (fun σ H1=>σ=[some (.ref a),some (.ref wl),some (.int b),some (.int wy),some (.int p),none]/\H=H1) (fun N hN=>?_) ?_
 ·walk_at "gzn"
  refine aL (fun z=>?_) fun z=>hN _ _ ⟨rfl,rfl⟩
  clear hN
  walk_at "gzn"
  have s0:=ai.refl H
  refine⟨_,ar.of hw,fun p1 f1=>?_⟩
  obtain⟨y1,e1,l1,m1⟩:=gY ws none (some p)
  rw[e1]
  have u1:=ak (o:=(.lst (y1.map V.str))) f1
  have g1:upd H p1 (.lst (y1.map V.str)) p1=some (.lst (y1.map V.str)):=aj
  generalize upd H p1 (.lst (y1.map V.str))=G1 at u1 g1 ⊢
  replace hw:=u1 _ _ hw
  replace hS:=u1.seq hS
  replace s0:=s0.trans u1
  have k1:∀ y∈y1,y.length<=70:=fun y hy=>dE y (m1 y hy)
  refine⟨a,ns,15,b,rfl,hS,hn,by lia,b0,b1,fun wd H' gy sw=>?_⟩
  replace hw:=sw _ _ hw
  replace hS:=sw.seq hS
  replace s0:=s0.trans sw
  replace g1:=sw _ _ g1
  refine⟨by decide,fun p2 f2=>?_⟩
  obtain⟨y2,mI⟩:∃ ys:List PySem.Str,ys=[wd]:=⟨_,rfl⟩
  have l2:y2.length=1:=by rw[mI];rfl
  have k2:∀ y∈y2,y.length<=70:=fun y hy=>by rw[mI] at hy;rw[List.mem_singleton.mp hy];exact gy
  rw[show [V.str wd]=y2.map V.str by rw[mI];rfl]
  have u2:=ak (o:=(.lst (y2.map V.str))) f2
  have g2:upd H' p2 (.lst (y2.map V.str)) p2=some (.lst (y2.map V.str)):=aj
  generalize upd H' p2 (.lst (y2.map V.str))=G2 at u2 g2 ⊢
  replace hw:=u2 _ _ hw
  replace hS:=u2.seq hS
  replace s0:=s0.trans u2
  replace g1:=u2 _ _ g1
  refine⟨_,g1,_,g2,cf (by rw[List.length_map,List.length_map];lia),fun p3 f3=>?_⟩
  rw[<- List.map_append]
  generalize k7:y1++y2=y3
  have l3:y3.length=y1.length+y2.length:=by rw[<- k7,List.length_append]
  have k3:∀ y∈y3,y.length<=70:=by rw[<- k7];exact List.forall_mem_append.mpr ⟨k1,k2⟩
  have u3:=ak (o:=(.lst (y3.map V.str))) f3
  have g3:upd G2 p3 (.lst (y3.map V.str)) p3=some (.lst (y3.map V.str)):=aj
  generalize upd G2 p3 (.lst (y3.map V.str))=G3 at u3 g3 ⊢
  replace hw:=u3 _ _ hw
  replace hS:=u3.seq hS
  replace s0:=s0.trans u3
  replace g1:=u3 _ _ g1
  replace g2:=u3 _ _ g2
  refine⟨_,ar.of hw,fun p4 f4=>?_⟩
  obtain⟨y4,e4,l4,m4⟩:=gY ws (some (p+1)) none
  rw[e4]
  have u4:=ak (o:=(.lst (y4.map V.str))) f4
  have g4:upd G3 p4 (.lst (y4.map V.str)) p4=some (.lst (y4.map V.str)):=aj
  generalize upd G3 p4 (.lst (y4.map V.str))=G4 at u4 g4 ⊢
  replace hw:=u4 _ _ hw
  replace hS:=u4.seq hS
  replace s0:=s0.trans u4
  replace g1:=u4 _ _ g1
  replace g2:=u4 _ _ g2
  replace g3:=u4 _ _ g3
  have k4:∀ y∈y4,y.length<=70:=fun y hy=>dE y (m4 y hy)
  refine⟨_,g3,_,g4,cf (by rw[List.length_map,List.length_map];lia),fun r fr=>?_⟩
  exact q r (y3++y4) _ (s0.trans (ak fr)) (by rw[aj,List.map_append]) (by rw[List.length_append];lia) (List.forall_mem_append.mpr ⟨k3,k4⟩)
 rintro σ z ⟨rfl,rfl⟩
 refine aM (fun σ H1=>σ=[some (.ref a),some (.ref wl),some (.int b),some (.int wy),some (.int p),none]/\H=H1) (fun N hN=>?_) ?_
 ·walk_at "gzn"
  refine aL (fun z=>?_) fun z=>hN _ _ ⟨rfl,rfl⟩
  clear hN
  walk_at "gzn"
  have s0:=ai.refl H
  refine⟨_,ar.of hw,fun p1 f1=>?_⟩
  obtain⟨y1,e1,l1,m1⟩:=gY ws none (some p)
  rw[e1]
  have u1:=ak (o:=(.lst (y1.map V.str))) f1
  have g1:upd H p1 (.lst (y1.map V.str)) p1=some (.lst (y1.map V.str)):=aj
  generalize upd H p1 (.lst (y1.map V.str))=G1 at u1 g1 ⊢
  replace hw:=u1 _ _ hw
  replace hS:=u1.seq hS
  replace s0:=s0.trans u1
  have k1:∀ y∈y1,y.length<=70:=fun y hy=>dE y (m1 y hy)
  refine⟨a,ns,15,b,rfl,hS,hn,by lia,b0,b1,fun wd H' gy sw=>?_⟩
  replace hw:=sw _ _ hw
  replace hS:=sw.seq hS
  replace s0:=s0.trans sw
  replace g1:=sw _ _ g1
  refine⟨by decide,fun p2 f2=>?_⟩
  obtain⟨y2,mI⟩:∃ ys:List PySem.Str,ys=[wd]:=⟨_,rfl⟩
  have l2:y2.length=1:=by rw[mI];rfl
  have k2:∀ y∈y2,y.length<=70:=fun y hy=>by rw[mI] at hy;rw[List.mem_singleton.mp hy];exact gy
  rw[show [V.str wd]=y2.map V.str by rw[mI];rfl]
  have u2:=ak (o:=(.lst (y2.map V.str))) f2
  have g2:upd H' p2 (.lst (y2.map V.str)) p2=some (.lst (y2.map V.str)):=aj
  generalize upd H' p2 (.lst (y2.map V.str))=G2 at u2 g2 ⊢
  replace hw:=u2 _ _ hw
  replace hS:=u2.seq hS
  replace s0:=s0.trans u2
  replace g1:=u2 _ _ g1
  refine⟨_,g1,_,g2,cf (by rw[List.length_map,List.length_map];lia),fun p3 f3=>?_⟩
  rw[<- List.map_append]
  generalize k7:y1++y2=y3
  have l3:y3.length=y1.length+y2.length:=by rw[<- k7,List.length_append]
  have k3:∀ y∈y3,y.length<=70:=by rw[<- k7];exact List.forall_mem_append.mpr ⟨k1,k2⟩
  have u3:=ak (o:=(.lst (y3.map V.str))) f3
  have g3:upd G2 p3 (.lst (y3.map V.str)) p3=some (.lst (y3.map V.str)):=aj
  generalize upd G2 p3 (.lst (y3.map V.str))=G3 at u3 g3 ⊢
  replace hw:=u3 _ _ hw
  replace hS:=u3.seq hS
  replace s0:=s0.trans u3
  replace g1:=u3 _ _ g1
  replace g2:=u3 _ _ g2
  refine⟨_,ar.of hw,fun p4 f4=>?_⟩
  obtain⟨y4,e4,l4,m4⟩:=gY ws (some p) none
  rw[e4]
  have u4:=ak (o:=(.lst (y4.map V.str))) f4
  have g4:upd G3 p4 (.lst (y4.map V.str)) p4=some (.lst (y4.map V.str)):=aj
  generalize upd G3 p4 (.lst (y4.map V.str))=G4 at u4 g4 ⊢
  replace hw:=u4 _ _ hw
  replace hS:=u4.seq hS
  replace s0:=s0.trans u4
  replace g1:=u4 _ _ g1
  replace g2:=u4 _ _ g2
  replace g3:=u4 _ _ g3
  have k4:∀ y∈y4,y.length<=70:=fun y hy=>dE y (m4 y hy)
  refine⟨_,g3,_,g4,cf (by rw[List.length_map,List.length_map];lia),fun r fr=>?_⟩
  exact q r (y3++y4) _ (s0.trans (ak fr)) (by rw[aj,List.map_append]) (by rw[List.length_append];lia) (List.forall_mem_append.mpr ⟨k3,k4⟩)
 rintro σ z ⟨rfl,rfl⟩
 have s0:=ai.refl H
 walk_at "gzn"
 refine⟨_,dI (ar.of hw),?_⟩
 rw[List.length_map]
 refine⟨a,ns,_,_,_,rfl,hS,hn,by lia,by decide,by decide,fun d d0 d1=>?_⟩
 walk_at "gzn"
 refine⟨by lia,by lia,eV lP (by rw[List.length_map,List.length_range];exact cf (by lia)) (pG (p:=fun z=>true) (f:=fun z=>V.str "not") trivial (fun z z Q h=>h) (fun v hv z Q h=>?_) fun l fl=>?_)⟩
 ·walk_at "gzn"
  exact h
 ·rw[List.nil_append]
  have hlen:(((List.range (60-(ws.length:Int)+d).toNat).map fun k:Nat=>V.int ((0:Int)+k)).filter fun z=>true).length<=61:=Nat.le_trans (List.length_filter_le _ _) (by rw[List.length_map,List.length_range];lia)
  generalize (((List.range (60-(ws.length:Int)+d).toNat).map fun k:Nat=>V.int ((0:Int)+k)).filter fun z=>true)=zs at hlen ⊢
  have ez:zs.map (fun z=>V.str "not")=(zs.map fun z=>("not" : PySem.Str)).map V.str:=by rw[List.map_map];rfl
  rw[ez]
  refine⟨l,rfl,_,aj,_,ak fl _ _ hw,cf (by rw[List.length_map,List.length_map,List.length_map];lia),fun r fr=>?_⟩
  refine q r ((zs.map fun z=>("not" : PySem.Str))++ws) _ ((ak fl).trans (ak fr)) (by rw[aj,List.map_append]) (by rw[List.length_append,List.length_map];lia) (List.forall_mem_append.mpr ⟨fun y hy=>?_,dE⟩)
  obtain⟨z,z,rfl⟩:=List.mem_map.mp hy
  decide
end
section
seal L2.PE L2.PS L2.aS L2.PA
variable{P:Program}{w:World}{K:PySem.W.Frag}{mg:Str->Option Value}{base:Heap}
theorem F0{x:PySem.Str}{p:Int}(h0:0<=p)(h1:p<x.length):∃ c,x.cps[p.toNat]?=some c:=⟨_,Array.getElem?_eq_getElem (show p.toNat<x.cps.size by have:x.length=x.cps.size:=rfl;lia)⟩
inductive Ri(K:PySem.W.Frag)(vs:List V)(H:Hp)(Q:VK)(aW:XK):Prop
 | mk(a:Addr)(ns:List Int)(k:Int)(_:vs=[.ref a,.int k])(_:ar K H a (ns.map V.int))(_:fY ns)(_:(0<=k/\k<=1000))(_:∀ x,x.length=1->Q (.str x) H)
theorem F1(T:Tx w K mg):Ok P w base 2 T.qH (Ri K):=by
 refine bE ui ?_
 rintro y y y y H y y y hr ⟨a,ns,k,rfl,hS,hn,hk,q⟩
 refine⟨_,(aq (aE (aP (aJ (dm T) hr (ae (aa 0) (ae (aa 1) (ae ag (ae ag ah))))) ag) (ao (ay (vx au (aJ (dm T) hr (ae (aa 0) (ae (ax a9 (aa 1) ag) (ae ag (ae ag ah))))) (fun y y=>rfl)))) aH) (aq (aN 2 ui.nd au) (ao (ay (vx (aa 2) (aJ (dm T) hr (ae (aa 0) (ae (ax a9 (aa 1) ag) (ae ag (ae (bj c8 (by rfl) T.dj df (ae (aa 2) ah)) ah))))) (fun y y=>rfl)))))),?_⟩
 have e1:(" 0-*19+_ " : PySem.Str).length=9:=by decide +kernel
 have e2:(" !\"#$&'()*+,-./0123456789:;<=>?@ABCDEFGHIJKLMNOPQRSTUVWXYZ[\\]^_`abcdefghijklmnopqrstuvwxyz{|}~" : PySem.Str).length=94:=by decide +kernel
 refine aM (fun σ H1=>σ=[some (.ref a),some (.int k),none]/\H=H1) (fun N hN=>?_) ?_
 ·walk_at "gzn"
  refine⟨a,ns,_,_,_,rfl,hS,hn,by lia,by decide,by decide,fun p p0 p1=>?_⟩
  walk_at "gzn"
  refine aL (fun y=>?_) fun y=>hN _ _ ⟨rfl,rfl⟩
  walk_at "gzn"
  refine⟨a,ns,_,_,_,rfl,hS,hn,by lia,by decide,by decide,fun r r0 r1=>?_⟩
  walk_at "gzn"
  obtain⟨c,hc⟩:=F0 r0 (show r<_ by rw[e1];exact r1)
  exact⟨_,rfl,r0,by lia,by rw[e1];exact r1,c,hc,q _ rfl⟩
 rintro σ y ⟨rfl,rfl⟩
 walk_at "gzn"
 refine⟨_,⟨by rw[e2];decide,rfl⟩,a,ns,_,_,_,rfl,hS,hn,by lia,by decide,by rw[e2];decide,fun p p0 p1=>?_⟩
 obtain⟨c,hc⟩:=F0 p0 p1
 exact⟨_,rfl,p,rfl,p0,by rw[e2] at p1;lia,p1,c,hc,q _ rfl⟩
end
section
seal L2.PE L2.PS L2.aS L2.PA
variable{P:Program}{w:World}{K:PySem.W.Frag}{mg:Str->Option Value}{base:Heap}
theorem jl{B n:Nat}{ss:List PySem.Str}(h:∀ s∈ss,s.length<=B)(hn:ss.length<=n):(Txt.join BL ss).length<=n * (B+1):=by
 rw[str_len,show BL=(⟨#[32]⟩:PySem.Str) from rfl,Nd]
 have h1:=FP 32 (ss.map fun w=>w.cps.toList)
 have h2:=AG h
 rw[List.map_map,List.length_map] at h1
 have e:(ss.map ((fun w:List Nat=>w.length) ∘ fun w:PySem.Str=>w.cps.toList))=ss.map fun x=>x.length:=List.map_congr_left fun x y=>(str_len x).symm
 rw[e] at h1
 have h3:ss.length * (B+1)<=n * (B+1):=Nat.mul_le_mul_right _ hn
 rw[Nat.mul_succ] at h3
 lia
inductive Rj(K:PySem.W.Frag)(vs:List V)(H:Hp)(Q:VK)(aW:XK):Prop
 | mk(a wl:Addr)(ns:List Int)(ws:List PySem.Str)(b:Int)(_:vs=[.ref a,.ref wl,.int b])(_:ar K H a (ns.map V.int))(_:fY ns)(_ : -999999999999999999999999999999999999999999999999999999999900<=b)(_:b<=999999999999999999999999999999999999999999999999999999999900)(_:H wl=some (.lst (ws.map V.str)))(_:(1<=ws.length/\ws.length<=60))(_:(∀ y∈ws,y.length<=70))(_:∀ x H',x.length<=100000->ai H H'->Q (.str x) H')
theorem Rk(T:Tx w K mg):Ok P w base 4 T.qJ (Rj K):=by
 refine bE n3 ?_
 rintro z z z z H z z z hr ⟨a,wl,ns,ws,b,rfl,hS,hn,b0,b1,hw,⟨w1,uG⟩,dE,q⟩
 refine⟨_,(aq (aN 3 n3.nd (aJ (dm T) hr (ae (aa 0) (ae ag (ae ag (ae ag ah)))))) (aq (aN 4 n3.nd (eN PySem.F.plainAttrs_str PySem.F.slot_str_join PySem.F.type_str_join xy au (ae (aa 1) ah))) (aq (aE (aP (aa 3) ag) (ao (ay (aa 4))) aH) (aq (aE (tP (aa 3) ag) (ao (ay (eN PySem.F.plainAttrs_str PySem.F.slot_str_join PySem.F.type_str_join xy au (ae (aJ (Rh T) hr (ae (aa 0) (ae (aa 1) (ae (aa 2) (ae (aa 3) ah))))) ah)))) aH) (aq (aN 5 n3.nd (aJ (dm T) hr (ae (aa 0) (ae ag (ae ag (ae (ax a9 (bj c8 (by rfl) T.dj df (ae (aa 4) ah)) ag) ah)))))) (aq (aE (aP (aa 3) ag) (ao (ay (ax eB (ax eB (cM jz (aa 4) de (cy (aa 5))) (aJ (F1 T) hr (ae (aa 0) (ae ag ah)))) (cM jz (aa 4) (cy (aa 5)) de)))) aH) (aq (aE (aP (aa 3) ag) (ao (ay (ax eB (cM jz (aa 4) de (cy (aa 5))) (cM jz (aa 4) (cy (ax a9 (aa 5) ag)) de)))) aH) (aq (aE (aP (aa 3) ag) (ao (ay (ax eB (ax eB (cM jz (aa 4) de (cy (aa 5))) (aJ (F1 T) hr (ae (aa 0) (ae ag ah)))) (cM jz (aa 4) (cy (ax a9 (aa 5) ag)) de)))) aH) (aq (aE (aP (aa 3) ag) (ao (ay (Cu PySem.F.plainAttrs_str PySem.F.slot_str_upper PySem.F.type_str_upper NJ (aa 4)))) aH) (ao (ay (aw (ck (ae au (ae au (ae (ax eB au (aa 4)) (ae (ax eB (aa 4) au) ah))))) (aJ (dm T) hr (ae (aa 0) (ae ag (ae ag (ae ag ah))))))))))))))))),?_⟩
 have c1:(" " : PySem.Str).length=1:=by decide
 refine aM (fun σ H1=>∃ wy:Int,σ=[some (.ref a),some (.ref wl),some (.int b),some (.int wy),none,none]/\H=H1) (fun N hN=>?_) ?_
 ·walk_at "gzn"
  exact⟨a,ns,_,_,_,rfl,hS,hn,by lia,by decide,by decide,fun p z z=>hN _ _ ⟨p,rfl,rfl⟩⟩
 rintro σ z ⟨wy,rfl,rfl⟩
 refine aM (fun σ H1=>∃ t,σ=[some (.ref a),some (.ref wl),some (.int b),some (.int wy),some (.str t),none]/\H=H1/\t.length<=5000) (fun N hN=>?_) ?_
 ·walk_at "gzn"
  exact⟨rfl,BL,rfl,ws,ar.of hw,AH dE uG (by decide),hN _ _ ⟨_,rfl,rfl,Nat.le_trans (jl dE uG) (by decide)⟩⟩
 rintro σ z ⟨t,rfl,rfl,ht⟩
 refine aM (fun σ H1=>σ=[some (.ref a),some (.ref wl),some (.int b),some (.int wy),some (.str t),none]/\H=H1) (fun N hN=>?_) ?_
 ·walk_at "gzn"
  refine aL (fun z=>?_) fun z=>hN _ _ ⟨rfl,rfl⟩
  clear hN
  walk_at "gzn"
  exact q t _ (by lia) (ai.refl _)
 rintro σ z ⟨rfl,rfl⟩
 refine aM (fun σ H1=>σ=[some (.ref a),some (.ref wl),some (.int b),some (.int wy),some (.str t),none]/\H=H1) (fun N hN=>?_) ?_
 ·walk_at "gzn"
  refine aL (fun z=>?_) fun z=>hN _ _ ⟨rfl,rfl⟩
  clear hN
  walk_at "gzn"
  refine⟨rfl,a,wl,ns,ws,b,wy,rfl,hS,hn,b0,b1,hw,⟨w1,uG⟩,dE,fun l ys H1 s1 hl F2 F3=>?_⟩
  walk_at "gzn"
  exact⟨BL,rfl,ys,ar.of hl,AH F3 F2 (by decide),q _ _ (Nat.le_trans (jl F3 F2) (by decide)) s1⟩
 rintro σ z ⟨rfl,rfl⟩
 refine aM (fun σ H1=>∃ p:Int,σ=[some (.ref a),some (.ref wl),some (.int b),some (.int wy),some (.str t),some (.int p)]/\H=H1) (fun N hN=>?_) ?_
 ·walk_at "gzn"
  refine⟨_,⟨cf (by lia),rfl⟩,a,ns,_,_,_,rfl,hS,hn,by lia,by decide,by lia,fun p z z=>hN _ _ ⟨p,rfl,rfl⟩⟩
 rintro σ z ⟨p,rfl,rfl⟩
 refine aM (fun σ H1=>σ=[some (.ref a),some (.ref wl),some (.int b),some (.int wy),some (.str t),some (.int p)]/\H=H1) (fun N hN=>?_) ?_
 ·walk_at "gzn"
  refine aL (fun z=>?_) fun z=>hN _ _ ⟨rfl,rfl⟩
  clear hN
  walk_at "gzn"
  refine⟨t,rfl,cf (by lia),?_⟩
  walk_at "gzn"
  refine⟨a,ns,18,rfl,hS,hn,by lia,fun c hc=>?_⟩
  walk_at "gzn"
  have l1:=Txt.slice_le t none (some p)
  have l2:=Txt.slice_le t (some p) none
  refine⟨_,rfl,_,rfl,cf (by lia),?_⟩
  walk_at "gzn"
  refine⟨t,rfl,cf (by lia),?_⟩
  walk_at "gzn"
  exact⟨_,rfl,_,rfl,cf (by rw[eK];lia),q _ _ (by rw[eK,eK];lia) (ai.refl _)⟩
 rintro σ z ⟨rfl,rfl⟩
 refine aM (fun σ H1=>σ=[some (.ref a),some (.ref wl),some (.int b),some (.int wy),some (.str t),some (.int p)]/\H=H1) (fun N hN=>?_) ?_
 ·walk_at "gzn"
  refine aL (fun z=>?_) fun z=>hN _ _ ⟨rfl,rfl⟩
  clear hN
  walk_at "gzn"
  refine⟨t,rfl,cf (by lia),?_⟩
  walk_at "gzn"
  refine⟨t,rfl,cf (by lia),?_⟩
  walk_at "gzn"
  have l1:=Txt.slice_le t none (some p)
  have l2:=Txt.slice_le t (some (p+1)) none
  exact⟨_,rfl,_,rfl,cf (by lia),q _ _ (by rw[eK];lia) (ai.refl _)⟩
 rintro σ z ⟨rfl,rfl⟩
 refine aM (fun σ H1=>σ=[some (.ref a),some (.ref wl),some (.int b),some (.int wy),some (.str t),some (.int p)]/\H=H1) (fun N hN=>?_) ?_
 ·walk_at "gzn"
  refine aL (fun z=>?_) fun z=>hN _ _ ⟨rfl,rfl⟩
  clear hN
  walk_at "gzn"
  refine⟨t,rfl,cf (by lia),?_⟩
  walk_at "gzn"
  refine⟨a,ns,18,rfl,hS,hn,by lia,fun c hc=>?_⟩
  walk_at "gzn"
  have l1:=Txt.slice_le t none (some p)
  have l2:=Txt.slice_le t (some (p+1)) none
  refine⟨_,rfl,_,rfl,cf (by lia),?_⟩
  walk_at "gzn"
  refine⟨t,rfl,cf (by lia),?_⟩
  walk_at "gzn"
  exact⟨_,rfl,_,rfl,cf (by rw[eK];lia),q _ _ (by rw[eK,eK];lia) (ai.refl _)⟩
 rintro σ z ⟨rfl,rfl⟩
 refine aM (fun σ H1=>σ=[some (.ref a),some (.ref wl),some (.int b),some (.int wy),some (.str t),some (.int p)]/\H=H1) (fun N hN=>?_) ?_
 ·walk_at "gzn"
  refine aL (fun z=>?_) fun z=>hN _ _ ⟨rfl,rfl⟩
  clear hN
  walk_at "gzn"
  exact⟨rfl,t,rfl,by lia,fun y hy=>q y _ (by lia) (ai.refl _)⟩
 rintro σ z ⟨rfl,rfl⟩
 walk_at "gzn"
 refine⟨_,rfl,_,rfl,cf (by lia),_,rfl,_,rfl,cf (by lia),by decide,fun l fl=>⟨a,ns,_,_,_,rfl,(ak fl).seq hS,hn,by lia,by decide,by decide,fun r r0 r1=>?_⟩⟩
 obtain⟨x,hx,hat⟩:=uF (ys:=["","  "," " ++ t,t ++ " "]) r0 r1
 have kZ:x.length<=100000:=by
  simp only[List.mem_cons,List.not_mem_nil,or_false] at hx
  rcases hx with rfl|rfl|rfl|rfl
  ·decide
  ·decide
  ·rw[eK];lia
  ·rw[eK];lia
 exact bC (ar.of aj) hat (q x _ kZ (ak fl))
end
section
seal L2.PE L2.PS L2.aS L2.PA
variable{P:Program}{w:World}{K:PySem.W.Frag}{mg:Str->Option Value}{base:Heap}
theorem fz{e:En}(h:fits "N" e):∃ n,e=some n:=by
 rcases h with h|⟨y,h⟩
 ·exact absurd h (by decide)
 ·cases e with
  | none=>exact absurd rfl h
  | some n=>exact⟨n,rfl⟩
theorem Rl{x f:PySem.Str}(h:ow x f){es:List En}(hl:es.length=(aU f).length)(hf:∀ (i:Nat) (c:PySem.Str) (e:En),(aU f)[i]?=some (V.str c)->es[i]?=some e->fits c e):∃ t,bM t=x/\bK t=es/\rm t=f:=by
 rcases h with ⟨rfl,rfl⟩|⟨rfl,rfl⟩|⟨rfl,rfl⟩|⟨rfl,rfl⟩|⟨rfl,rfl⟩|⟨rfl,rfl⟩
 ·match es,hl with
  | [a,b,c],_ =>
   obtain⟨i,rfl⟩:=fz (hf 0 "N" a rfl rfl)
   obtain⟨j,rfl⟩:=fz (hf 1 "N" b rfl rfl)
   obtain⟨s,rfl⟩:=fz (hf 2 "N" c rfl rfl)
   exact⟨.over i j s,rfl,rfl,rfl⟩
 ·match es,hl with
  | [a,b,c],_ =>
   obtain⟨i,rfl⟩:=fz (hf 0 "N" a rfl rfl)
   obtain⟨j,rfl⟩:=fz (hf 1 "N" b rfl rfl)
   obtain⟨s,rfl⟩:=fz (hf 2 "N" c rfl rfl)
   exact⟨.under i j s,rfl,rfl,rfl⟩
 ·match es,hl with
  | [a,b,c,d],_ =>
   obtain⟨i,rfl⟩:=fz (hf 0 "N" a rfl rfl)
   obtain⟨j,rfl⟩:=fz (hf 1 "N" b rfl rfl)
   exact⟨.stay i j c d,rfl,rfl,rfl⟩
 ·match es,hl with
  | [a,b,c,d],_ =>
   obtain⟨i,rfl⟩:=fz (hf 0 "N" a rfl rfl)
   obtain⟨j,rfl⟩:=fz (hf 1 "N" b rfl rfl)
   obtain⟨l,rfl⟩:=fz (hf 2 "N" c rfl rfl)
   obtain⟨m,rfl⟩:=fz (hf 3 "N" d rfl rfl)
   exact⟨.rose i j l m,rfl,rfl,rfl⟩
 ·match es,hl with
  | [a,b,c,d],_ =>
   obtain⟨i,rfl⟩:=fz (hf 0 "N" a rfl rfl)
   obtain⟨j,rfl⟩:=fz (hf 1 "N" b rfl rfl)
   exact⟨.pace i j c d,rfl,rfl,rfl⟩
 ·match es,hl with
  | [a],_ =>
   obtain⟨i,rfl⟩:=fz (hf 0 "N" a rfl rfl)
   exact⟨.turn i,rfl,rfl,rfl⟩
theorem F4{x f:PySem.Str}(h:ow x f){rt:Rt}(hw:cV rt=x):∃ t,rt = .leaf t/\bM t=x/\rm t=f:=by
 cases rt with
 | leaf t =>
  refine⟨t,rfl,hw,?_⟩
  cases t<;>simp only[cV,bM] at hw<;>subst hw<;>rcases h with ⟨e,rfl⟩|⟨e,rfl⟩|⟨e,rfl⟩|⟨e,rfl⟩|⟨e,rfl⟩|⟨e,rfl⟩<;>first|rfl|exact absurd e (by decide)
 | nay a=>simp only[cV] at hw;subst hw;rcases h with ⟨e,y⟩|⟨e,y⟩|⟨e,y⟩|⟨e,y⟩|⟨e,y⟩|⟨e,y⟩<;>exact absurd e (by decide)
 | both a b=>simp only[cV] at hw;subst hw;rcases h with ⟨e,y⟩|⟨e,y⟩|⟨e,y⟩|⟨e,y⟩|⟨e,y⟩|⟨e,y⟩<;>exact absurd e (by decide)
 | either a b=>simp only[cV] at hw;subst hw;rcases h with ⟨e,y⟩|⟨e,y⟩|⟨e,y⟩|⟨e,y⟩|⟨e,y⟩|⟨e,y⟩<;>exact absurd e (by decide)
theorem rz{x f:PySem.Str}(h:rp x f){rt:Rt}(hw:cV rt=x):(∀ t,rt ≠ .leaf t)/\(eR rt).length=(aU f).length:=by
 cases rt with
 | leaf t =>
  have:=jI t
  simp only[cV] at hw
  subst hw
  rcases h with ⟨e,y⟩|⟨e,y⟩|⟨e,y⟩
  ·exact absurd e this.1
  ·exact absurd e this.2.1
  ·exact absurd e this.2.2
 | nay a =>
  simp only[cV] at hw
  subst hw
  refine⟨fun y z=>(nomatch z),?_⟩
  rcases h with ⟨e,rfl⟩|⟨e,rfl⟩|⟨e,rfl⟩<;>first|rfl|exact absurd e (by decide)
 | both a b =>
  simp only[cV] at hw
  subst hw
  refine⟨fun y z=>(nomatch z),?_⟩
  rcases h with ⟨e,rfl⟩|⟨e,rfl⟩|⟨e,rfl⟩<;>first|rfl|exact absurd e (by decide)
 | either a b =>
  simp only[cV] at hw
  subst hw
  refine⟨fun y z=>(nomatch z),?_⟩
  rcases h with ⟨e,rfl⟩|⟨e,rfl⟩|⟨e,rfl⟩<;>first|rfl|exact absurd e (by decide)
theorem uH{x f:PySem.Str}(h:rp x f){cs:List Rt}(hl:cs.length=(aU f).length):∃ rt,cV rt=x/\eR rt=cs:=by
 rcases h with ⟨rfl,rfl⟩|⟨rfl,rfl⟩|⟨rfl,rfl⟩
 ·match cs,hl with
  | [a,b],_=>exact⟨.both a b,rfl,rfl⟩
 ·match cs,hl with
  | [a,b],_=>exact⟨.either a b,rfl,rfl⟩
 ·match cs,hl with
  | [a],_=>exact⟨.nay a,rfl,rfl⟩
theorem Rm{x f:PySem.Str}(h:rp x f):aU f=List.replicate (aU f).length (V.str "R"):=by
 rcases h with ⟨y,rfl⟩|⟨y,rfl⟩|⟨y,rfl⟩<;>rfl
theorem uI:∀ {rt:Rt},(∀ t,rt ≠ .leaf t)->(cu rt ↔ ∀ c∈eR rt,cu c)
 | .leaf t,h=>absurd rfl (h t)
 | .nay a,_=>by simp[cu,eR]
 | .both a b,_=>by simp[cu,eR]
 | .either a b,_=>by simp[cu,eR]
theorem Rn{t u:Tr}(h1:bM t=bM u)(h2:bK t=bK u):t=u:=by
 cases t<;>cases u<;>simp only[bM] at h1<;>first|exact absurd h1 (by decide)|(simp only[bK,List.cons.injEq,Option.some.injEq,and_true] at h2;simp[h2])
theorem Ro{t u:Tr}(h1:bM t=bM u):(bK t).length=(bK u).length:=by
 cases t<;>cases u<;>simp only[bM] at h1<;>first|rfl|exact absurd h1 (by decide)
theorem map_inj:∀ {as bs:List En},(∀ a∈as,c6 a)->(∀ b∈bs,c6 b)->as.map bL=bs.map bL->as=bs
 | [],[],_,_,_=>rfl
 | [],_::_,_,_,h=>nomatch h
 | _::_,[],_,_,h=>nomatch h
 | a::as,b::bs,ha,hb,h=>by
  rw[List.map_cons,List.map_cons] at h
  injection h with h1 h2
  rw[QV (ha a (.head _)) (hb b (.head _)) h1,map_inj (fun x hx=>ha x (.tail _ hx)) (fun x hx=>hb x (.tail _ hx)) h2]
theorem jJ:∀ {rt ru:Rt} {r s:List PySem.Str},cu rt->cu ru->az rt++r=az ru++s->rt=ru/\r=s
 | .leaf t,.leaf u,r,s,h1,h2,e=>by
  have e:dg t++r=dg u++s:=e
  rw[i4,i4,List.cons_append,List.cons_append] at e
  injection e with e1 e2
  obtain⟨e3,e4⟩:=List.append_inj e2 (by rw[List.length_map,List.length_map,Ro e1])
  exact⟨by rw[Rn e1 (map_inj h1 h2 e3)],e4⟩
 | .nay a,.nay b,r,s,h1,h2,e=>by
  have e:("not" : PySem.Str)::(az a++r)=("not" : PySem.Str)::(az b++s):=e
  injection e with _ e
  obtain⟨e1,e2⟩:=jJ (rt:=a) (ru:=b) h1 h2 e
  exact⟨by rw[e1],e2⟩
 | .both a b,.both c d,r,s,h1,h2,e=>by
  have e:("both" : PySem.Str)::((az a++az b)++r)=("both" : PySem.Str)::((az c++az d)++s):=e
  injection e with _ e
  rw[List.append_assoc,List.append_assoc] at e
  obtain⟨e1,e⟩:=jJ h1.1 h2.1 e
  obtain⟨e2,e3⟩:=jJ h1.2 h2.2 e
  exact⟨by rw[e1,e2],e3⟩
 | .either a b,.either c d,r,s,h1,h2,e=>by
  have e:("either" : PySem.Str)::((az a++az b)++r)=("either" : PySem.Str)::((az c++az d)++s):=e
  injection e with _ e
  rw[List.append_assoc,List.append_assoc] at e
  obtain⟨e1,e⟩:=jJ h1.1 h2.1 e
  obtain⟨e2,e3⟩:=jJ h1.2 h2.2 e
  exact⟨by rw[e1,e2],e3⟩
 | .leaf t,.nay b,r,s,_,_,e=>by
  obtain⟨x,hx⟩:=cv (.leaf t)
  obtain⟨y,hy⟩:=cv (.nay b)
  rw[hx,hy] at e
  injection e with e _
  exact absurd e ((jI t).2.2)
 | .leaf t,.both b c,r,s,_,_,e=>by
  obtain⟨x,hx⟩:=cv (.leaf t)
  obtain⟨y,hy⟩:=cv (.both b c)
  rw[hx,hy] at e
  injection e with e _
  exact absurd e ((jI t).1)
 | .leaf t,.either b c,r,s,_,_,e=>by
  obtain⟨x,hx⟩:=cv (.leaf t)
  obtain⟨y,hy⟩:=cv (.either b c)
  rw[hx,hy] at e
  injection e with e _
  exact absurd e ((jI t).2.1)
 | .nay a,.leaf t,r,s,_,_,e=>by
  obtain⟨x,hx⟩:=cv (.nay a)
  obtain⟨y,hy⟩:=cv (.leaf t)
  rw[hx,hy] at e
  injection e with e _
  exact absurd e (fun z=>(jI t).2.2 z.symm)
 | .both a b,.leaf t,r,s,_,_,e=>by
  obtain⟨x,hx⟩:=cv (.both a b)
  obtain⟨y,hy⟩:=cv (.leaf t)
  rw[hx,hy] at e
  injection e with e _
  exact absurd e (fun z=>(jI t).1 z.symm)
 | .either a b,.leaf t,r,s,_,_,e=>by
  obtain⟨x,hx⟩:=cv (.either a b)
  obtain⟨y,hy⟩:=cv (.leaf t)
  rw[hx,hy] at e
  injection e with e _
  exact absurd e (fun z=>(jI t).2.1 z.symm)
 | .nay a,.both b c,r,s,_,_,e=>by
  obtain⟨x,hx⟩:=cv (.nay a)
  obtain⟨y,hy⟩:=cv (.both b c)
  rw[hx,hy] at e
  injection e with e _
  exact absurd e (show ("not" : PySem.Str) ≠ "both" by decide)
 | .nay a,.either b c,r,s,_,_,e=>by
  obtain⟨x,hx⟩:=cv (.nay a)
  obtain⟨y,hy⟩:=cv (.either b c)
  rw[hx,hy] at e
  injection e with e _
  exact absurd e (show ("not" : PySem.Str) ≠ "either" by decide)
 | .both a b,.nay c,r,s,_,_,e=>by
  obtain⟨x,hx⟩:=cv (.both a b)
  obtain⟨y,hy⟩:=cv (.nay c)
  rw[hx,hy] at e
  injection e with e _
  exact absurd e (show ("both" : PySem.Str) ≠ "not" by decide)
 | .both a b,.either c d,r,s,_,_,e=>by
  obtain⟨x,hx⟩:=cv (.both a b)
  obtain⟨y,hy⟩:=cv (.either c d)
  rw[hx,hy] at e
  injection e with e _
  exact absurd e (show ("both" : PySem.Str) ≠ "either" by decide)
 | .either a b,.nay c,r,s,_,_,e=>by
  obtain⟨x,hx⟩:=cv (.either a b)
  obtain⟨y,hy⟩:=cv (.nay c)
  rw[hx,hy] at e
  injection e with e _
  exact absurd e (show ("either" : PySem.Str) ≠ "not" by decide)
 | .either a b,.both c d,r,s,_,_,e=>by
  obtain⟨x,hx⟩:=cv (.either a b)
  obtain⟨y,hy⟩:=cv (.both c d)
  rw[hx,hy] at e
  injection e with e _
  exact absurd e (show ("either" : PySem.Str) ≠ "both" by decide)
theorem F5:∀ {cs ds:List Rt} {r s:List PySem.Str},(∀ c∈cs,cu c)->(∀ c∈ds,cu c)->cs.length<=ds.length->cs.flatMap az++r=ds.flatMap az++s->r=(ds.drop cs.length).flatMap az++s
 | [],_,_,_,_,_,_,e=>e
 | c::cs,[],_,_,_,_,h,_=>absurd h (by simp)
 | c::cs,d::ds,r,s,h1,h2,h,e=>by
  rw[List.flatMap_cons,List.flatMap_cons,List.append_assoc,List.append_assoc] at e
  obtain⟨y,e⟩:=jJ (h1 c (.head _)) (h2 d (.head _)) e
  rw[List.length_cons,List.drop_succ_cons]
  exact F5 (fun x hx=>h1 x (.tail _ hx)) (fun x hx=>h2 x (.tail _ hx)) (by simpa using h) e
end
section
seal L2.PE L2.PS L2.aS L2.PA
variable{P:Program}{w:World}{K:PySem.W.Frag}{mg:Str->Option Value}{base:Heap}
def Rp(ws:List PySem.Str):Prop:=∃ rt rest,ws=az rt++rest/\cu rt
inductive AL(K:PySem.W.Frag)(C:Addr)(N:Nat)(vs:List V)(H:Hp)(Q:VK)(E:XK):Prop
 | mk(wl:Addr)(ws:List PySem.Str)(k:Nat)(_:vs=[.ref wl,.int k])(_:ar K H wl (ws.map V.str))(_:(∀ x∈ws,x.length<=100000))(_:ws.length<=60)(_:k<=ws.length)(_:ws.length<N+k)(_:(∀ rt rest v q H',ws.drop k=az rt++rest->cu rt->ai H H'->H' q=some (.tup [v,.int ((k+(az rt).length:Nat):Int)])->cU H H' v rt->Q (.ref q) H'))(_:(¬ Rp (ws.drop k)->∀ H',ai H H'->E (.ref C) none H'))
inductive Rq(H:Hp)(wl l:Addr)(k:Nat)(f:PySem.Str)(ws:List PySem.Str)(i:Nat)(σ:St)(H1:Hp):Prop
 | mk(e:Option V)(es:List En)(_:σ=[some (.ref wl),some (.int k),some (.ref l),some (.int ((k+1+i:Nat):Int)),e,none])(_:ai H H1)(_:H1 l=some (.lst (es.map ev)))(_:es.length=i)(_:(∀ o∈es,c6 o))(_:(∀ (j:Nat) (c:PySem.Str) (o:En),(aU f)[j]?=some (V.str c)->es[j]?=some o->fits c o))(_:∀ (j:Nat) (o:En),es[j]?=some o->ws[k+1+j]?=some (bL o))
inductive Rr(H:Hp)(wl l:Addr)(k:Nat)(ws:List PySem.Str)(i:Nat)(σ:St)(H1:Hp):Prop
 | mk(xs:List V)(cs:List Rt)(r:List PySem.Str)(e1 e2:Option V)(_:σ=[some (.ref wl),some (.int k),some (.ref l),some (.int ((k+1+(cs.flatMap az).length:Nat):Int)),e1,e2])(_:ai H H1)(_:H1 l=some (.lst xs))(_:aD (cU (upd H l (.lst [])) H1) xs cs)(_:cs.length=i)(_:(∀ c∈cs,cu c))(_:ws.drop (k+1)=cs.flatMap az++r)
theorem F6{ws:List PySem.Str}:∀ {es:List En} {k:Nat},(∀ (j:Nat) (o:En),es[j]?=some o->ws[k+j]?=some (bL o))->ws.drop k=es.map bL++ws.drop (k+es.length)
 | [],_,_=>rfl
 | e::es,k,h=>by
  have h0:ws[k]?=some (bL e):=h 0 e rfl
  have hk:=(List.getElem?_eq_some_iff.mp h0).1
  rw[List.drop_eq_getElem_cons hk,(List.getElem?_eq_some_iff.mp h0).2,F6 (es:=es) (k:=k+1) fun j o ho=>by rw[show k+1+j=k+(j+1) by lia];exact h (j+1) o ho,List.map_cons,List.cons_append,List.length_cons,show k+1+es.length=k+(es.length+1) by lia]
theorem Ru(T:Tx w K mg)(N:Nat)(ih:Ok P w base (N+6) T.gn (AL K T.bQ N)):Ok P w base (N+1+6) T.gn (AL K T.bQ (N+1)):=by
 refine kg iT ?_
 rintro u u u u H u u u hr ⟨wl,ws,k,rfl,hw,hb,i5,hk,VA,q,q0⟩
 refine⟨_,(aq (aE (PW.pt (dn (tQ (aa 1) (bj c8 (by rfl) T.dj df (ae (aa 0) ah))) (eS (rP (Nk T.forms.m (T.forms.d _) (aw (aa 0) (aa 1))))))) (ao (iN iO rfl T.kX T.iX rfl (ae au ah))) aH) (aq (aN 2 iT.nd (ck ah)) (aq (aN 3 iT.nd (ax a9 (aa 1) ag)) (aq (jV PassesOwn.leaving rfl (tV (Nj T.forms.m (T.forms.d _) (aw (aa 0) (aa 1)))) (jw 4 iT.nd) (ao (aE (aP (aa 4) au) (aq (aN 5 iT.nd (fT ih (hr.mono (by lia)) rfl T.gn.m T.gn.F.kp T.gn.b .nil cS (ae (aa 0) (ae (aa 3) ah)))) (aq (fh (eN PySem.F.plainAttrs_list PySem.F.slot_list_append PySem.F.type_list_append lF (aa 2) (ae (aw (aa 5) ag) ah))) (ao (aN 3 iT.nd (aw (aa 5) ag))))) (aq (fh (eN PySem.F.plainAttrs_list PySem.F.slot_list_append PySem.F.type_list_append lF (aa 2) (ae (fT (QY T) (hr.mono (by lia)) rfl T.kS.m T.kS.F.kp T.kS.b .nil cS (ae (aa 0) (ae (aa 3) (ae (aa 4) ah)))) ah))) (ao (aN 3 iT.nd (ax a9 (aa 3) ag))))))) (ao (ay (bg (ae (bg (ae (aw (aa 0) (aa 1)) (ae (aa 2) ah))) (ae (aa 3) ah))))))))),?_⟩
 have low:∀ {x:PySem.Str},ws[k]?=some x->∀ {rt:Rt} {rest:List PySem.Str},ws.drop k=az rt++rest->cV rt=x:=fun hx rt rest e=>by
  obtain⟨r0,e0⟩:=cv rt
  have z:=congrArg (fun l=>l[0]?) e
  simp only[List.getElem?_drop,Nat.add_zero,e0,List.cons_append,List.getElem?_cons_zero,hx,Option.some.injEq] at z
  exact z.symm
 refine aM (fun σ H1=>∃ x f,σ=[some (.ref wl),some (.int k),none,none,none,none]/\H=H1/\ws[k]?=some x/\bX FORMS (.inr x)=some (.str f)/\(ow x f∨rp x f)) (fun N hN=>?_) ?_
 ·walk_at "gzn"
  refine⟨_,dI hw,?_⟩
  rw[List.length_map]
  refine aL (fun hk=>⟨by decide,q0 (fun ⟨rt,rest,e,_⟩=>?_) _ (ai.refl _)⟩) fun hk=>?_
  ·rw[List.drop_eq_nil_of_le (by lia)] at e
   obtain⟨r0,e0⟩:=cv rt
   rw[e0] at e
   cases e
  have kl:k<ws.length:=by lia
  obtain⟨x,hx⟩:∃ x,ws[k]?=some x:=⟨ws[k],List.getElem?_eq_getElem kl⟩
  refine bC hw (v:=.str x) (j5 (by rw[List.getElem?_map,hx];rfl)) ⟨.inr x,rfl,?_⟩
  cases hv:bX FORMS (.inr x) with
  | none =>
   walk_at "gzn"
   refine⟨by decide,q0 (fun ⟨rt,rest,e,_⟩=>?_) _ (ai.refl _)⟩
   have:=FW rt
   rw[low hx e,hv] at this
   cases this
  | some v =>
   obtain⟨f,rfl,hf⟩:=kinds hv
   exact hN _ _ ⟨x,f,rfl,rfl,hx,hv,hf⟩
 rintro σ H1 ⟨x,f,rfl,rfl,hx,hv,hf⟩
 have kl:=(List.getElem?_eq_some_iff.mp hx).1
 have dk:ws.drop k=x::ws.drop (k+1):=by rw[List.drop_eq_getElem_cons kl,(List.getElem?_eq_some_iff.mp hx).2]
 have ou:cD (ws.map V.str) (k:Int)=some (.str x):=j5 (by rw[List.getElem?_map,hx];rfl)
 refine aM (fun σ H1=>∃ l,σ=[some (.ref wl),some (.int k),some (.ref l),none,none,none]/\ai H H1/\H l=none/\H1 l=some (.lst [])) (fun N hN=>?_) ?_
 ·walk_at "gzn"
  exact⟨by decide,fun l fl=>hN _ _ ⟨l,rfl,ak fl,fl,aj⟩⟩
 rintro σ H1 ⟨l,rfl,s1,fl,hl⟩
 refine aM (fun σ H2=>σ=[some (.ref wl),some (.int k),some (.ref l),some (.int ((k+1:Nat):Int)),none,none]/\H1=H2) (fun N hN=>?_) ?_
 ·walk_at "gzn"
  exact hN _ _ ⟨rfl,rfl⟩
 rintro σ H2 ⟨rfl,rfl⟩
 walk_at "gzn"
 refine bC (s1.seq hw) ou ⟨.inr x,rfl,_,hv,_,rfl,?_⟩
 rcases hf with hf|hf
 ·have VB:(aU f).length<=4:=by rcases hf with ⟨u,rfl⟩|⟨u,rfl⟩|⟨u,rfl⟩|⟨u,rfl⟩|⟨u,rfl⟩|⟨u,rfl⟩<;>decide
  refine tW (Rq H wl l k f ws) ⟨none,[],rfl,s1,hl,rfl,fun u h=>absurd h List.not_mem_nil,fun u u u u h=>by simp at h,fun u u h=>by simp at h⟩ ?_ ?_
  ·rintro i v σ H2 hi ⟨e,es,rfl,s2,bo,hle,hsm,iy,hws⟩
   obtain⟨c,rfl,hc⟩:=Q4 hf hi
   have nR:c ≠ "R" := by rcases hc with rfl|rfl<;>decide
   have il:=(List.getElem?_eq_some_iff.mp hi).1
   walk_at "gzn"
   rw[if_neg (by simpa using nR)]
   walk_at "gzn"
   refine⟨.inl ⟨rfl,_,ar.of bo⟩,wl,ws,k+1+i,c,rfl,s2.seq hw,hb,hc,fun o H3 Rv Rw AM s3=>?_,fun cL H3 s3=>?_⟩
   ·refine⟨_,s3 _ _ bo,by rw[List.length_map];exact Nat.lt_of_lt_of_le (show es.length<5 by lia) (by decide),?_⟩
    refine⟨_,es++[o],rfl,dJ fl (s2.trans s3),by rw[aj,List.map_append];rfl,by rw[List.length_append];show es.length+1=_;lia,fun p hp=>?_,fun j c2 p h1 h2=>?_,fun j p h2=>?_⟩
    ·rcases List.mem_append.mp hp with hp|hp
     ·exact hsm p hp
     ·rw[List.mem_singleton.mp hp];exact Rw
    ·by_cases hj:j<es.length
     ·rw[List.getElem?_append_left hj] at h2
      exact iy j c2 p h1 h2
     ·rw[List.getElem?_append_right (by lia)] at h2
      have h3:=(List.getElem?_eq_some_iff.mp h2).1
      rw[List.length_singleton] at h3
      obtain rfl:j=i:=by lia
      rw[hle,Nat.sub_self] at h2
      rw[hi] at h1
      injection h2 with h2
      injection h1 with h1
      injection h1 with h1
      rw[<- h1,<- h2]
      exact AM
    ·by_cases hj:j<es.length
     ·rw[List.getElem?_append_left hj] at h2
      exact hws j p h2
     ·rw[List.getElem?_append_right (by lia)] at h2
      have h3:=(List.getElem?_eq_some_iff.mp h2).1
      rw[List.length_singleton] at h3
      obtain rfl:j=i:=by lia
      rw[hle,Nat.sub_self] at h2
      injection h2 with h2
      rw[<- h2]
      exact Rv
   ·refine q0 (fun ⟨rt,rest,e,sm⟩=>?_) _ (s2.trans s3)
    obtain⟨t,rfl,u,ft⟩:=F4 hf (low hx e)
    rw[<- ft] at hi
    obtain⟨c2,o,ec,u,ho,AM⟩:=Q1 t hi
    injection ec with ec
    have e2:ws.drop (k+1)=(bK t).map bL++rest:=by
     have e:ws.drop k=dg t++rest:=e
     rw[dk,i4,List.cons_append] at e
     injection e
    refine cL o ?_ (sm o (List.mem_of_getElem? ho)) (by rw[ec];exact AM)
    have z:=congrArg (fun l=>l[i]?) e2
    simp only[List.getElem?_drop] at z
    rw[z,List.getElem?_append_left (by rw[List.length_map];exact (List.getElem?_eq_some_iff.mp ho).1),List.getElem?_map,ho]
    rfl
  ·rintro σ H2 ⟨e,es,rfl,s2,bo,hle,hsm,iy,hws⟩
   obtain⟨t,ht,ha,hft⟩:=Rl hf hle iy
   have er:ws.drop k=dg t++ws.drop (k+1+es.length):=by rw[dk,F6 hws,i4,ht,ha,List.cons_append]
   walk_at "gzn"
   refine bC (s2.seq hw) ou ⟨bJ,fun p hp=>⟨bJ,fun r hr=>?_⟩⟩
   have u2:=ak (o:=.tup [.str x,.ref l]) hp
   refine q (.leaf t) _ (.ref p) r _ er (fun o ho=>hsm o (by rw[<- ha];exact ho)) (s2.trans (u2.trans (ak hr))) ?_ ⟨p,l,rfl,fl,by rw[ht];exact ak hr _ _ aj,by rw[ha];exact (u2.trans (ak hr)) _ _ bo⟩
   rw[aj,show az (.leaf t)=dg t from rfl,i4,List.length_cons,List.length_map,ha,hle,show k+1+(aU f).length=k+((aU f).length+1) by lia]
 ·have fk:=Rm hf
  have f2:(aU f).length<=2:=by rcases hf with ⟨u,rfl⟩|⟨u,rfl⟩|⟨u,rfl⟩<;>decide
  have Gn:∀ b,upd H l (.lst []) b=none->b≠l/\H b=none:=fun b z=>by
   have n:b≠l:=fun y=>by rw[y,aj] at z;cases z
   rw[aO n] at z
   exact⟨n,z⟩
  refine tW (Rr H wl l k ws) ⟨[],[],ws.drop (k+1),none,none,rfl,s1,hl,trivial,rfl,fun u h=>absurd h List.not_mem_nil,rfl⟩ ?_ ?_
  ·rintro i v σ H2 hi ⟨xs,cs,r,e1,e2,rfl,s2,bo,hA,fW,hsm,hr⟩
   have il:=(List.getElem?_eq_some_iff.mp hi).1
   obtain rfl:v = .str "R" := by
    have m:=List.mem_of_getElem? hi
    rw[fk] at m
    exact (List.mem_replicate.mp m).2
   have xl:xs.length<=2:=by
    have:=hA.len
    lia
   have VC:ws.length=k+1+(cs.flatMap az).length+r.length:=by
    have z:=congrArg List.length hr
    rw[List.length_drop,List.length_append] at z
    lia
   have dr:ws.drop (k+1+(cs.flatMap az).length)=r:=by
    rw[<- List.drop_drop,hr,List.drop_left']
    rfl
   walk_at "gzn"
   refine⟨wl,ws,_,rfl,s2.seq hw,hb,i5,by lia,by lia,fun c rest v p H3 hd sc s3 hp hv=>?_,fun cL H3 s3=>?_⟩
   ·walk_at "gzn"
    rw[dr] at hd
    have uJ:=s3 _ _ bo
    have pl:p≠l:=fun z=>by rw[z,uJ] at hp;cases hp
    refine⟨.inl ⟨rfl,_,ar.of uJ⟩,aQ (aB.of hp) rfl ⟨_,uJ,Nat.lt_of_le_of_lt xl (by decide),aK (by rw[aO pl];exact hp) ?_⟩⟩
    have A1:aD (cU (upd H l (.lst [])) (upd H3 l (.lst (xs++[v])))) xs cs:=hA.imp fun x c z=>z.step (fun u y=>y) (fun b o y e=>by rw[aO (Gn b y).1];exact s3 _ _ e) fun p ys e=>by rw[aO (fun z=>by rw[z,bo] at e;cases e)];exact s3 _ _ e
    refine⟨_,cs++[c],rest,_,_,by rw[List.flatMap_append,List.length_append,List.flatMap_cons,List.flatMap_nil,List.append_nil,Nat.add_assoc],dJ fl (s2.trans s3),aj,aD.app A1 ⟨hv.step (fun b y=>?_) (fun b o y e=>?_) fun p ys e=>?_,trivial⟩,by rw[List.length_append];show cs.length+1=_;lia,fun d hd2=>?_,by rw[hr,hd,List.flatMap_append,List.flatMap_cons,List.flatMap_nil,List.append_nil,List.append_assoc]⟩
    ·have n:b≠l:=fun z=>by rw[z,bo] at y;cases y
     rw[aO n]
     exact s2.free y
    ·have n:b≠l:=fun z=>by rw[z,bo] at y;cases y
     rw[aO n]
     exact e
    ·rw[aO (fun z=>by rw[z,uJ] at e;cases e)]
     exact e
    ·rcases List.mem_append.mp hd2 with hd2|hd2
     ·exact hsm d hd2
     ·rw[List.mem_singleton.mp hd2];exact sc
   ·refine q0 (fun ⟨rt,rest,e,sm⟩=>cL ?_) _ (s2.trans s3)
    obtain⟨hL,kn⟩:=rz hf (low hx e)
    have sk:=(uI hL).mp sm
    rw[dk,rn rt hL,List.cons_append] at e
    injection e with _ e
    rw[hr] at e
    have z:=F5 hsm sk (by lia) e
    obtain⟨d,hd⟩:∃ d,(eR rt)[cs.length]?=some d:=⟨_,List.getElem?_eq_getElem (by lia)⟩
    have Rx:=(List.getElem?_eq_some_iff.mp hd).1
    rw[List.drop_eq_getElem_cons Rx,(List.getElem?_eq_some_iff.mp hd).2,List.flatMap_cons,List.append_assoc] at z
    exact⟨d,_,by rw[dr];exact z,sk d (List.mem_of_getElem? hd)⟩
  ·rintro σ H2 ⟨xs,cs,r,e1,e2,rfl,s2,bo,hA,fW,hsm,hr⟩
   obtain⟨rt,gy,hkd⟩:=uH hf fW
   obtain⟨hL,u⟩:=rz hf gy
   have er:ws.drop k=az rt++r:=by rw[dk,rn rt hL,gy,hkd,hr,List.cons_append]
   walk_at "gzn"
   refine bC (s2.seq hw) ou ⟨bJ,fun p hp=>⟨bJ,fun r2 fR=>?_⟩⟩
   have u2:=ak (o:=.tup [.str x,.ref l]) hp
   have u3:=u2.trans (ak (o:=.tup [.ref p,.int ((k+1+(cs.flatMap az).length:Nat):Int)]) fR)
   refine q rt r (.ref p) r2 _ er ((uI hL).mpr fun c hc=>hsm c (by rw[<- hkd];exact hc)) (s2.trans u3) ?_ (Q3 hL fl (by rw[gy];exact ak fR _ _ aj) (u3 _ _ bo) (by rw[hkd];exact hA.imp fun x c z=>z.step (fun b y=>(Gn b y).2) (fun b o u e=>u3 _ _ e) fun p ys e=>u3 _ _ e))
   rw[aj,rn rt hL,hkd,List.length_cons,show k+1+(cs.flatMap az).length=k+((cs.flatMap az).length+1) by lia]
theorem F7(T:Tx w K mg):∀ N:Nat,Ok P w base (N+6) T.gn (AL K T.bQ N)
 | 0=>by
  refine kg (k:=5) iT ?_
  rintro y y y y y y y y y ⟨y,y,y,rfl,y,y,y,h1,h2,y⟩
  lia
 | N+1=>Ru T N (F7 T N)
end
section
seal L2.PE L2.PS L2.aS L2.PA
variable{P:Program}{w:World}{K:PySem.W.Frag}{mg:Str->Option Value}{base:Heap}
theorem Ry:∀ n:Nat,n<=11->((List.range n).map fun k=>n-k).sum=(n+1) * n / 2:=by decide
theorem Rz{i j l h:Int}(hk:bp i j):((fN i j l h).length:Int)=(j-i+1) * (j-i+1-1) / 2:=by
 obtain⟨k0,k1,k2⟩:=hk
 unfold fN
 rw[List.length_flatMap]
 have e:((List.range (j-i).toNat).map fun k:Nat=>((bc (i+(k:Nat)+1) j (some h,none)).map fun p=>[(("at",i+(k:Nat),none,some l):Pa),p]).length)=(List.range (j-i).toNat).map fun k=>(j-i).toNat-k:=by
  apply List.map_congr_left
  intro k hk
  have:=List.mem_range.mp hk
  rw[List.length_map,eO]
  lia
 rw[e,Ry _ (by lia)]
 obtain⟨n,hn⟩:∃ n:Nat,j-i=n:=⟨(j-i).toNat,by lia⟩
 rw[hn,Int.toNat_natCast,Int.natCast_ediv]
 congr 1
 rw[Int.natCast_mul,Int.natCast_add]
 congr 1
 lia
theorem F8(ps:List Pa)(s:S2)(h:∀ p∈ps,p.2.2=s):(bw ps).length=ps.length * (dN s).length:=by
 unfold bw
 rw[List.length_flatMap]
 induction ps with
 | nil=>simp
 | cons p ps ih =>
  rw[List.map_cons,List.sum_cons,ih fun q hq=>h q (.tail _ hq),h p (.head _),List.length_map,List.length_cons,Nat.succ_mul]
  lia
noncomputable def fe:En->Int
 | none=>0
 | some _=>1
theorem uK(e:En):0<=fe e/\fe e<=1:=by cases e<;>simp[fe]
theorem uL(e:En):(if ¬ev e=V.non then (1:Int) else 0)=fe e:=by
 cases e with
 | none=>exact if_neg (fun z=>z rfl)
 | some n=>exact if_pos (fun z=>nomatch z)
theorem F9(l h:En):((dN (l,h)).length:Int)=fe l+fe h:=by cases l<;>cases h<;>rfl
theorem AN{i j:Int}{s:S2}(hk:bp i j):((bw (bc i j s)).length:Int)=(j-i+1) * (dN s).length:=by
 obtain⟨k0,k1,k2⟩:=hk
 rw[F8 _ s fun p hp=>by obtain⟨k,y,rfl⟩:=tL hp;rfl,Int.natCast_mul,eO]
 congr 1
 lia
theorem RA{i j:Int}{s:S2}(hk:bp i j):((bw (dO i j s)).length:Int)=(j-i) * (dN s).length:=by
 obtain⟨k0,k1,k2⟩:=hk
 rw[F8 _ s fun p hp=>by obtain⟨k,y,rfl⟩:=Mq hp;rfl,Int.natCast_mul]
 congr 1
 unfold dO
 rw[List.length_map,List.length_range]
 lia
theorem RB{i j l h:Int}(hk:bp i j):((gU i j l h).length:Int)=j-i+1:=by
 obtain⟨k0,k1,k2⟩:=hk
 unfold gU
 rw[List.length_map,List.length_range]
 lia
def gZ:Rt->Prop
 | .leaf t=>rq t
 | .nay a=>gZ a
 | .both a b=>gZ a/\gZ b
 | .either a b=>gZ a/\gZ b
noncomputable def RC:Tr->Int × Int
 | .stay i j l h=>(1,(j-i+1) * (fe l+fe h))
 | .pace i j l h=>(1,(j-i+1-1) * (fe l+fe h))
 | .over i j _=>(j-i+1,1)
 | .under i j _=>(j-i+1,1)
 | .rose i j _ _=>((j-i+1) * (j-i+1-1) / 2,j-i+1)
 | .turn _=>(1,2)
noncomputable def bY:Rt->Int × Int
 | .leaf t=>RC t
 | .nay a=>((bY a).2,(bY a).1)
 | .both a b=>((bY a).1 * (bY b).1,(bY a).2+(bY b).2)
 | .either a b=>((bY a).1+(bY b).1,(bY a).2 * (bY b).2)
theorem iz:∀ {rt:Rt},eY rt->bY rt=aT rt
 | .leaf t,hg=>by
  have hg:dU t:=hg
  cases t with
  | stay i j l h=>exact (Prod.ext rfl (show ((bw (bc i j (l,h))).length:Int)=_ by rw[AN hg,F9]):aT (.leaf (.stay i j l h))=(1,(j-i+1) * (fe l+fe h))).symm
  | pace i j l h=>exact (Prod.ext rfl (show ((bw (dO i j (l,h))).length:Int)=_ by rw[RA hg,F9,Int.add_sub_cancel]):aT (.leaf (.pace i j l h))=(1,(j-i+1-1) * (fe l+fe h))).symm
  | over i j s=>exact (Prod.ext (show ((bw (bc i j (none,some (s-1)))).length:Int)=_ by rw[AN hg];exact Int.mul_one _) rfl:aT (.leaf (.over i j s))=(j-i+1,1)).symm
  | under i j s=>exact (Prod.ext (show ((bw (bc i j (some (s+1),none))).length:Int)=_ by rw[AN hg];exact Int.mul_one _) rfl:aT (.leaf (.under i j s))=(j-i+1,1)).symm
  | rose i j l h=>exact (Prod.ext (Rz hg.1) (RB hg.1):aT (.leaf (.rose i j l h))=((j-i+1) * (j-i+1-1) / 2,j-i+1)).symm
  | turn t=>rfl
 | .nay a,hg=>by
  show ((bY a).2,(bY a).1)=((aT a).2,(aT a).1)
  rw[iz (rt:=a) hg]
 | .both a b,hg=>by
  show ((bY a).1 * (bY b).1,(bY a).2+(bY b).2)=((aT a).1 * (aT b).1,(aT a).2+(aT b).2)
  rw[iz hg.1,iz hg.2]
 | .either a b,hg=>by
  show ((bY a).1+(bY b).1,(bY a).2 * (bY b).2)=((aT a).1+(aT b).1,(aT a).2 * (aT b).2)
  rw[iz hg.1,iz hg.2]
def fA:Rt->Prop
 | .leaf t=>dU t/\rq t
 | .nay a=>fA a
 | .both a b=>fA a/\fA b
 | .either a b=>fA a/\fA b
def k8(rt:Rt):Prop:=¬ ((bY rt).1<=100/\(bY rt).2<=100)
def i6:Rt->Prop
 | .leaf _=>False
 | .nay a=>i6 a
 | .both a b=>k8 (.both a b)∨i6 a∨i6 b
 | .either a b=>k8 (.either a b)∨i6 a∨i6 b
def rA(rt:Rt):Prop:=cn rt/\gZ rt
def Ga(T:Tx w K mg)(C:Addr)(rt:Rt):Prop:=(C=T.bA/\¬ fA rt)∨(C=T.cq/\i6 rt)
inductive AO(T:Tx w K mg)(N:Nat)(vs:List V)(H:Hp)(Q:VK)(E:XK):Prop
 | mk(v:V)(rt:Rt)(_:vs=[v])(_:fb H v rt)(_:aG rt<N)(_:aG rt<64)(_:(rA rt->∀ v' H',ai H H'->bG T H' v' rt->Q v' H'))(_:(∀ C H',ai H H'->Ga T C rt->E (.ref C) none H'))
theorem RD(T:Tx w K mg)(N:Nat)(ih:Ok P w base (N+77) T.cT (AO T N)):Ok P w base (N+1+77) T.cT (AO T (N+1)):=by
 refine kg nY ?_
 rintro u u u s H u u u hr ⟨v,rt,rfl,hv,hh,h6,q,q0⟩
 refine⟨_,(aq (aN 1 nY.nd (aw (aa 0) ag)) (aq (aN 2 nY.nd (aw (aa 0) ag)) (aq (aE (aP (aa 1) au) (ao (ay (jj T.Ap (FQ T) (hr.mono (by lia)) rfl T.N9 T.iU.b .nil cS (ae (fT ih (hr.mono (by lia)) rfl T.cT.m T.cT.F.kp T.cT.b .nil cS (ae (aw (aa 2) ag) ah)) (ae (fT ih (hr.mono (by lia)) rfl T.cT.m T.cT.F.kp T.cT.b .nil cS (ae (aw (aa 2) ag) ah)) ah))))) aH) (aq (aE (aP (aa 1) au) (ao (ay (jj T.Aq (FQ T) (hr.mono (by lia)) rfl T.Oa T.iU.b .nil cS (ae (fT ih (hr.mono (by lia)) rfl T.cT.m T.cT.F.kp T.cT.b .nil cS (ae (aw (aa 2) ag) ah)) (ae (fT ih (hr.mono (by lia)) rfl T.cT.m T.cT.F.kp T.cT.b .nil cS (ae (aw (aa 2) ag) ah)) ah))))) aH) (aq (aE (aP (aa 1) au) (ao (ay (jj T.Ar (QN T) (hr.mono (by lia)) rfl T.Ob T.my.b .nil fI (ae (fT ih (hr.mono (by lia)) rfl T.cT.m T.cT.F.kp T.cT.b .nil cS (ae (aw (aa 2) ag) ah)) ah)))) aH) (ao (ay (fT (Q6 T) (hr.mono (by lia)) rfl T.kT.m T.kT.F.kp T.kT.b .nil cS (ae (aa 1) (ae (aa 2) ah)))))))))),?_⟩
 cases rt with
 | leaf t =>
  obtain⟨p,m,rfl,hp,hl⟩:=hv
  obtain⟨e1,e2,e3⟩:=jI t
  walk_at "gzn"
  refine aK hp ?_
  walk_at "gzn"
  refine aK hp ?_
  walk_at "gzn"
  rw[if_neg (by simpa using e1),if_neg (by simpa using e2),if_neg (by simpa using e3)]
  exact⟨m,t,rfl,hl,fun gc x H' s' hx=>q gc _ _ s' ⟨x,rfl,hx⟩,fun z H' s'=>q0 _ H' s' (.inl ⟨rfl,z⟩)⟩
 | nay a =>
  obtain⟨p,m,x,rfl,hp,hl,hx⟩:=hv
  have hh:aG a+1<N+1:=hh
  have h6:aG a+1<64:=h6
  walk_at "gzn"
  refine aK hp ?_
  walk_at "gzn"
  refine aK hp ?_
  walk_at "gzn"
  refine bC (ar.of hl) rfl ⟨x,a,rfl,hx,by lia,by lia,fun o1 v1 H1 s1 r1=>?_,fun D H1 s1 hr=>q0 D H1 s1 hr⟩
  walk_at "gzn"
  intro z dz hz rB cP
  have mk:=ju (C:=T.cG) (fs:=[]) hz rB cP
  have s2:ai H1 (upd (upd (upd H1 dz (.own z)) z (.ins T.cG dz [])) z (.ins T.cG dz [("one",v1)])):=dJ hz mk
  exact⟨z,dz,v1,rfl,aj,rfl,q o1 _ _ (s1.trans s2) ⟨z,dz,v1,rfl,aj,r1.same s2⟩⟩
 | both a b =>
  obtain⟨p,m,x,y,rfl,hp,hl,hx,hy⟩:=hv
  have hh:aG a+aG b+1<N+1:=hh
  have h6:aG a+aG b+1<64:=h6
  walk_at "gzn"
  refine aK hp ?_
  walk_at "gzn"
  refine aK hp ?_
  walk_at "gzn"
  refine bC (ar.of hl) rfl ⟨x,a,rfl,hx,by lia,by lia,fun o1 v1 H1 s1 r1=>?_,fun D H1 s1 hr=>q0 D H1 s1 (hr.imp (fun z=>⟨z.1,fun y=>z.2 y.1⟩) fun z=>⟨z.1,.inr (.inl z.2)⟩)⟩
  walk_at "gzn"
  refine bC (ar.of (s1 _ _ hl)) rfl ⟨y,b,rfl,hy.same s1,by lia,by lia,fun o2 v2 H2 s2 r2=>?_,fun D H2 s2 hr=>q0 D H2 (s1.trans s2) (hr.imp (fun z=>⟨z.1,fun y=>z.2 y.2⟩) fun z=>⟨z.1,.inr (.inr z.2)⟩)⟩
  walk_at "gzn"
  intro z dz hz rB cP
  have mk:=ju (C:=T.cA) (fs:=[]) hz rB cP
  refine⟨H2,z,T.cA,dz,v1,v2,a,b,.both a b,rfl,aj,hz,mk,.inl ⟨rfl,rfl⟩,r1.same s2,r2,o1.1,o2.1,by show aG a+aG b+1<64;lia,fun gr H3 s3 h3=>⟨rfl,q ⟨gr,o1.2,o2.2⟩ _ _ (s1.trans (s2.trans s3)) ⟨z,dz,v1,v2,rfl,h3,(r1.same s2).same s3,r2.same s3⟩⟩,fun hz H3 s3=>q0 _ H3 (s1.trans (s2.trans s3)) (.inr ⟨rfl,.inl ?_⟩)⟩
  unfold k8
  rw[iz (rt:=.both a b) ⟨dW o1.1,dW o2.1⟩]
  exact hz
 | either a b =>
  obtain⟨p,m,x,y,rfl,hp,hl,hx,hy⟩:=hv
  have hh:aG a+aG b+1<N+1:=hh
  have h6:aG a+aG b+1<64:=h6
  walk_at "gzn"
  refine aK hp ?_
  walk_at "gzn"
  refine aK hp ?_
  walk_at "gzn"
  refine bC (ar.of hl) rfl ⟨x,a,rfl,hx,by lia,by lia,fun o1 v1 H1 s1 r1=>?_,fun D H1 s1 hr=>q0 D H1 s1 (hr.imp (fun z=>⟨z.1,fun y=>z.2 y.1⟩) fun z=>⟨z.1,.inr (.inl z.2)⟩)⟩
  walk_at "gzn"
  refine bC (ar.of (s1 _ _ hl)) rfl ⟨y,b,rfl,hy.same s1,by lia,by lia,fun o2 v2 H2 s2 r2=>?_,fun D H2 s2 hr=>q0 D H2 (s1.trans s2) (hr.imp (fun z=>⟨z.1,fun y=>z.2 y.2⟩) fun z=>⟨z.1,.inr (.inr z.2)⟩)⟩
  walk_at "gzn"
  intro z dz hz rB cP
  have mk:=ju (C:=T.cB) (fs:=[]) hz rB cP
  refine⟨H2,z,T.cB,dz,v1,v2,a,b,.either a b,rfl,aj,hz,mk,.inr ⟨rfl,rfl⟩,r1.same s2,r2,o1.1,o2.1,by show aG a+aG b+1<64;lia,fun gr H3 s3 h3=>⟨rfl,q ⟨gr,o1.2,o2.2⟩ _ _ (s1.trans (s2.trans s3)) ⟨z,dz,v1,v2,rfl,h3,(r1.same s2).same s3,r2.same s3⟩⟩,fun hz H3 s3=>q0 _ H3 (s1.trans (s2.trans s3)) (.inr ⟨rfl,.inl ?_⟩)⟩
  unfold k8
  rw[iz (rt:=.either a b) ⟨dW o1.1,dW o2.1⟩]
  exact hz
theorem Gb(T:Tx w K mg):∀ N:Nat,Ok P w base (N+77) T.cT (AO T N)
 | 0=>by
  refine kg (k:=76) nY ?_
  rintro y y y y y y y y y ⟨y,y,rfl,y,h,y⟩
  exact absurd h (Nat.not_lt_zero _)
 | N+1=>RD T N (Gb T N)
end
section
seal L2.PE L2.PS L2.aS L2.PA
variable{P:Program}{w:World}{K:PySem.W.Frag}{mg:Str->Option Value}{base:Heap}
theorem i7:∀ rt:Rt,aG rt<(az rt).length
 | .leaf t=>by cases t<;>exact Nat.succ_pos _
 | .nay a=>Nat.succ_lt_succ (i7 a)
 | .both a b=>by
  have:=i7 a
  have:=i7 b
  show aG a+aG b+1<(az a++az b).length+1
  rw[List.length_append]
  lia
 | .either a b=>by
  have:=i7 a
  have:=i7 b
  show aG a+aG b+1<(az a++az b).length+1
  rw[List.length_append]
  lia
def ef(ws:List PySem.Str)(rt:Rt):Prop:=ws=az rt/\cu rt/\ws.length<=60
def Ge(T:Tx w K mg)(C:Addr)(ws:List PySem.Str):Prop:=(C=T.bQ/\¬ ∃ rt,ef ws rt) ∨ ∃ rt,ef ws rt/\Ga T C rt
theorem rC:∀ {l x:List Nat},x∈gg 32 l->x.length<=l.length
 | [],x,h=>by
  rw[show gg 32 []=[[]] from rfl] at h
  rw[List.mem_singleton.mp h]
  exact Nat.le_refl _
 | a::r,x,h=>by
  obtain⟨w,ws,e⟩:=Em 32 r
  unfold gg at h
  split at h
  ·rcases List.mem_cons.mp h with rfl|h
   ·exact Nat.zero_le _
   ·exact Nat.le_succ_of_le (rC h)
  ·rw[e] at h
   rcases List.mem_cons.mp h with rfl|h
   ·have:=rC (l:=r) (x:=w) (by rw[e];exact .head _)
    exact Nat.succ_le_succ this
   ·exact Nat.le_succ_of_le (rC (l:=r) (by rw[e];exact .tail _ h))
inductive RE(T:Tx w K mg)(vs:List V)(H:Hp)(Q:VK)(E:XK):Prop
 | mk(x:PySem.Str)(_:vs=[.str x])(_:x.length<=100000)(_:(∀ rt v H',ef (Txt.split x BL) rt->rA rt->ai H H'->bG T H' v rt->Q v H'))(_:(∀ C H',ai H H'->Ge T C (Txt.split x BL)->E (.ref C) none H'))
theorem RF(T:Tx w K mg):Ok P w base 142 T.kU (RE T):=by
 refine kg qd ?_
 rintro u u u s H u u u hr ⟨x,rfl,kZ,q,q0⟩
 refine⟨_,(aq (aN 1 qd.nd (eN PySem.F.plainAttrs_str PySem.F.slot_str_split PySem.F.type_str_split Eu (aa 0) (ae au ah))) (aq (aE (nN (bj c8 (by rfl) T.dj df (ae (aa 1) ah)) (pM T.O9 rfl)) (ao (iN iO rfl T.kX T.iX rfl (ae au ah))) aH) (aq (aN 2 qd.nd (fT (F7 T 64) hr.m rfl T.gn.m T.gn.F.kp T.gn.b .nil cS (ae (aa 1) (ae ag ah)))) (aq (aE (tR (aw (aa 2) ag) (bj c8 (by rfl) T.dj df (ae (aa 1) ah))) (ao (iN iO rfl T.kX T.iX rfl (ae au ah))) aH) (ao (ay (fT (Gb T 64) hr.m rfl T.cT.m T.cT.F.kp T.cT.b .nil cS (ae (aw (aa 2) ag) ah)))))))),?_⟩
 have hb:∀ y∈Txt.split x BL,y.length<=100000:=fun y hy=>by
  rw[show BL=(⟨#[32]⟩:PySem.Str) from rfl,Ep x 32 (by decide)] at hy
  obtain⟨w,hw,rfl⟩:=List.mem_map.mp hy
  have:=rC hw
  rw[str_len] at kZ ⊢
  show (jy w).cps.toList.length<=_
  unfold jy
  simp only[List.toList_toArray]
  lia
 generalize hws:Txt.split x BL=ws at *
 refine aM (fun σ H1=>∃ l,σ=[some (.str x),some (.ref l),none]/\ai H H1/\H1 l=some (.lst (ws.map V.str))) (fun N hN=>?_) ?_
 ·walk_at "gzn"
  refine⟨rfl,x,rfl,BL,rfl,by decide,Nat.le_trans (Nat.add_le_add_right kZ 2) (by decide),fun l fl=>?_⟩
  rw[hws]
  exact hN _ _ ⟨l,rfl,ak fl,aj⟩
 rintro σ H1 ⟨l,rfl,s1,hl⟩
 have ll:(ws.map V.str).length=ws.length:=List.length_map _
 refine aM (fun σ H2=>σ=[some (.str x),some (.ref l),none]/\H1=H2/\ws.length<=60) (fun N hN=>?_) ?_
 ·walk_at "gzn"
  refine⟨_,dI (ar.of hl),?_⟩
  rw[ll]
  refine aL (fun h=>⟨by decide,q0 _ _ s1 (.inl ⟨rfl,fun ⟨rt,z⟩=>?_⟩)⟩) fun h=>hN _ _ ⟨rfl,rfl,by lia⟩
  have:=z.2.2
  lia
 rintro σ H2 ⟨rfl,rfl,i5⟩
 refine aM (fun σ H2=>∃ p v rt rest,σ=[some (.str x),some (.ref l),some (.ref p)]/\ai H1 H2/\H2 p=some (.tup [v,.int (((az rt).length:Nat):Int)])/\fb H2 v rt/\ws=az rt++rest/\cu rt) (fun N hN=>?_) ?_
 ·walk_at "gzn"
  refine⟨l,ws,0,rfl,ar.of hl,hb,i5,Nat.zero_le _,by lia,fun rt rest v p H2 e sm s2 hp hv=>hN _ _ ⟨p,v,rt,rest,rfl,s2,by rw[hp,Nat.zero_add],hv.is,e,sm⟩,fun cL H2 s2=>q0 _ _ (s1.trans s2) (.inl ⟨rfl,fun ⟨rt,z⟩=>cL ⟨rt,[],by rw[List.drop_zero,List.append_nil];exact z.1,z.2.1⟩⟩)⟩
 rintro σ H2 ⟨p,v,rt,rest,rfl,s2,hp,hv,ew,sm⟩
 refine aM (fun σ H3=>σ=[some (.str x),some (.ref l),some (.ref p)]/\H2=H3/\rest=[]) (fun N hN=>?_) ?_
 ·walk_at "gzn"
  refine aK hp ?_
  walk_at "gzn"
  refine⟨_,dI (ar.of (s2 _ _ hl)),?_⟩
  rw[ll]
  by_cases hr:rest=[]
  ·subst hr
   rw[List.append_nil] at ew
   rw[ew,if_neg (fun z=>z rfl)]
   exact hN _ _ ⟨rfl,rfl,rfl⟩
  ·have hlen:0<rest.length:=List.length_pos_iff.mpr hr
   rw[if_pos (by rw[ew,List.length_append];lia)]
   refine⟨by decide,q0 _ _ (s1.trans s2) (.inl ⟨rfl,fun ⟨ru,z⟩=>?_⟩)⟩
   have e:az rt++rest=az ru++[]:=by rw[List.append_nil,<- ew];exact z.1
   exact hr (jJ sm z.2.1 e).2
 rintro σ H3 ⟨rfl,rfl,rfl⟩
 rw[List.append_nil] at ew
 have hR:ef ws rt:=⟨ew,sm,i5⟩
 have hh:=i7 rt
 have i5:(az rt).length<=60:=by rw[<- ew];exact i5
 walk_at "gzn"
 exact aQ (aB.of hp) rfl ⟨v,rt,rfl,hv,by lia,by lia,fun oe v' H' s' vz=>q rt _ _ hR oe (s1.trans (s2.trans s')) vz,fun D H' s' hr=>q0 D H' (s1.trans (s2.trans s')) (.inr ⟨rt,hR,hr⟩)⟩
end
section
seal L2.PE L2.PS L2.aS L2.PA
variable{P:Program}{w:World}{K:PySem.W.Frag}{mg:Str->Option Value}{base:Heap}
def uM(cs:List Int)(k:Str)(t:Int):Prop:=0<=t/\t<(cs.length:Int)/\(k = "step" -> t+1<(cs.length:Int))
inductive RG(K:PySem.W.Frag)(vs:List V)(H:Hp)(Q:VK)(aW:XK):Prop
 | mk(a:Addr)(cs:List Int)(k:Str)(t:Int)(_:vs=[.ref a,.str k,.int t])(_:ar K H a (cs.map V.int))(_:uM cs k t)(_:Q (.int (gM cs k t)) H)
theorem RH(T:Tx w K mg):Ok P w base 1 T.qj (RG K):=by
 refine bE zt ?_
 rintro y y y y y y y y y ⟨a,cs,k,t,rfl,hS,hk,q⟩
 refine⟨_,(aq (aE (aP (aa 1) au) (ao (ay (ax dD (aw (aa 0) (ax a9 (aa 2) ag)) (aw (aa 0) (aa 2))))) aH) (ao (ay (aw (aa 0) (aa 2))))),?_⟩
 obtain⟨h0,h1,h2⟩:=hk
 unfold gM at q
 walk_at "gz"
 try refine⟨rfl,?_⟩
 by_cases hk:k = "step"
 ·subst hk
  rw[if_pos rfl] at q ⊢
  refine bC hS (int_at (by lia) (h2 rfl)) (bC hS (int_at h0 h1) ?_)
  walk_at "gz"
  exact q
 ·rw[if_neg hk] at q
  rw[if_neg hk]
  exact bC hS (int_at h0 h1) q
inductive RI(K:PySem.W.Frag)(vs:List V)(H:Hp)(Q:VK)(aW:XK):Prop
 | mk(a b:Addr)(cs:List Int)(xs:List V)(ps:List Pa)(_:vs=[.ref a,.ref b])(_:ar K H a (cs.map V.int))(_:ar K H b xs)(_:dA H xs ps)(_:ps.length<=1000)(_:(∀ p∈ps,uM cs p.1 p.2.1))(_:∀ H',ai H H'->Q (.bl (aI cs ps)) H')
theorem RJ(T:Tx w K mg):Ok P w base 3 T.qk (RI K):=by
 refine bE zu ?_
 rintro y y y y H y Q y hr ⟨a,b,cs,xs,ps,rfl,hS,hX,hP,hn,hk,q⟩
 refine⟨_,(ao (ay (bj (sT rfl) (by rfl) T.uj sG (ae (fK (cO [0] ["course"]) rfl (jh (aa 1)) (fun C s2 H2 ex pn=>⟨eU,(aJ (Pf T) hr (ae (gf (K:=K) (aa 0) ag) (ae (aJ (RH T) hr (ae (aa 1) (ae (gf (K:=K) (aa 0) ag) (ae (gf (K:=K) (aa 0) ag) ah)))) ah)))⟩)) ah)))),?_⟩
 have hl:=hP.len
 walk_at "gz"
 refine⟨⟨_,hX⟩,eV lO (Nat.le_trans (by lia:xs.length<=1000) (by decide)) (sV (R:=gK H) (p:=fun y=>true) (f:=fun p=>.bl (hold p.2.2.1 p.2.2.2 (gM cs p.1 p.2.1))) hX hP (fun x p y r Q h=>?_) (fun x p hp y r Q h=>?_) ?_)⟩
 ·walk_at "gz"
  exact h
 ·obtain⟨t,u,rfl,ht,hu⟩:=r
  walk_at "gz"
  refine aK ht (aK ht (aK ht ?_))
  refine⟨a,cs,_,_,rfl,hS,hk p hp,?_⟩
  walk_at "gz"
  exact⟨_,_,_,_,rfl,⟨u,rfl,hu⟩,h⟩
 ·rw[List.nil_append,filter_tt]
  intro l bo
  refine⟨l,rfl,ps.map fun p=>hold p.2.2.1 p.2.2.2 (gM cs p.1 p.2.1),ar.of ?_,?_⟩
  ·rw[aj,List.map_map];rfl
  ·rw[List.all_map]
   exact q _ (ak bo)
end
section
seal L2.PE L2.PS L2.aS L2.PA
variable{P:Program}{w:World}{K:PySem.W.Frag}{mg:Str->Option Value}{base:Heap}
def mJ(H:Hp)(v:V)(ps:List Pa):Prop:=∃ c xs,v = .ref c/\H c=some (.lst xs)/\dA H xs ps
theorem mJ.same{H H':Hp}{v:V}{ps:List Pa}(h:mJ H v ps)(s:ai H H'):mJ H' v ps:=let ⟨c,xs,e,a,b⟩:=h;⟨c,xs,e,s _ _ a,dA.same b s⟩
theorem bD.cm{G H:Hp}{v:V}{ps:List Pa}(h:bD G H v ps):mJ H v ps:=let ⟨c,xs,e,_,a,b⟩:=h;⟨c,xs,e,a,b⟩
noncomputable def eh(as bs:List (List Pa)):List (List Pa):=as.flatMap fun a=>bs.map fun b=>a++b
theorem RK{as bs:List (List Pa)}{i:Nat}{a:List Pa}(h:as[i]?=some a):eh (as.take (i+1)) bs=eh (as.take i) bs++bs.map fun b=>a++b:=by
 unfold eh
 rw[List.take_succ,h,List.flatMap_append]
 simp
theorem AQ(as bs:List (List Pa)):(eh as bs).length=as.length * bs.length:=by
 unfold eh
 induction as with
 | nil=>simp
 | cons a as ih=>rw[List.flatMap_cons,List.length_append,List.length_map,ih,List.length_cons,Nat.add_mul,Nat.one_mul,Nat.add_comm]
inductive RL(K:PySem.W.Frag)(vs:List V)(H:Hp)(Q:VK)(aW:XK):Prop
 | mk(a b:Addr)(xs ys:List V)(as bs:List (List Pa))(_:vs=[.ref a,.ref b])(_:H a=some (.lst xs))(_:H b=some (.lst ys))(_:aD (mJ H) xs as)(_:aD (mJ H) ys bs)(_:as.length<=200)(_:bs.length<=200)(_:(∀ p∈as,p.length<=900))(_:(∀ p∈bs,p.length<=900))(_:∀ l zs H',ai H H'->H l=none->H' l=some (.lst zs)->aD (bD H H') zs (eh as bs)->Q (.ref l) H')
inductive RM(H:Hp)(a b l:Addr)(as bs:List (List Pa))(i:Nat)(σ:St)(H1:Hp):Prop
 | mk(zs:List V)(e:Option V)(_:σ=[some (.ref a),some (.ref b),some (.ref l),e])(_:ai H H1)(_:H1 l=some (.lst zs))(_:aD (fM H l H1) zs (eh (as.take i) bs))
theorem Gf(T:Tx w K mg):Ok P w base 1 T.qu (RL K):=by
 refine bE qa ?_
 rintro y y y s H y Q y y ⟨a,b,xs,ys,as,bs,rfl,ha,hb,hA,hB,al,bl,pa,pb,q⟩
 refine⟨_,(aq (aN 2 qa.nd (ck ah)) (aq (jV PassesOwn.never rfl (jh (aa 0)) (jw 3 qa.nd) (ao (fh (eN PySem.F.plainAttrs_list PySem.F.slot_list_extend PySem.F.type_list_extend vQ (aa 2) (ae (fK (cO [3] ["one"]) rfl (jh (aa 1)) (fun C s2 H2 ex pn=>⟨eU,(ax dt (aa 1) (aa 0))⟩)) ah))))) (ao (ay (aa 2))))),?_⟩
 have xl:=hA.len
 have yl:=hB.len
 refine aM (fun σ H1=>∃ l,σ=[some (.ref a),some (.ref b),some (.ref l),none]/\ai H H1/\H l=none/\H1 l=some (.lst [])) (fun N hN=>?_) ?_
 ·walk_at "gzn"
  exact⟨by decide,fun l hl=>hN _ _ ⟨l,rfl,ak hl,hl,aj⟩⟩
 rintro σ H1 ⟨l,rfl,s1,jH,eZ⟩
 walk_at "gzn"
 refine⟨⟨_,ar.of (s1 _ _ ha)⟩,CJ (xs:=xs) (RM H a b l as bs) ⟨[],_,rfl,s1,eZ,trivial⟩ (fun i σ H2 _ ⟨_,_,_,s2,_,_⟩=>ar.of (s2 _ _ ha)) ?_ ?_⟩
 ·rintro i x σ H2 hx ⟨zs,e,rfl,s2,bo,hz⟩
  obtain⟨ca,hca,c,us,rfl,hc,hP⟩:=hA.get hx
  have il:=(List.getElem?_eq_some_iff.mp hca).1
  have zl:=hz.len
  rw[AQ,List.length_take] at zl
  have zb:zs.length<=200 * 200:=by rw[zl];exact Nat.mul_le_mul (by lia) bl
  have cl:=pa ca (List.mem_of_getElem? hca)
  have ul:=hP.len
  walk_at "gzn"
  refine⟨.inl ⟨rfl,_,ar.of bo⟩,⟨_,ar.of (s2 _ _ hb)⟩,eV lO (Nat.le_trans (by lia:ys.length<=200) (by decide)) (lS (R:=fun H x ps=>mJ H x ps) (R':=fM H l) (f:=fun ps=>ca++ps) (fun y y y y s' h=>h.same s') (fun y y y y s' h=>h.same s') (hB.imp fun y y r=>r.same s2) (bs:=[]) trivial (fun H' s'=>ar.of (s' _ _ (s2 _ _ hb))) (fun x k y H4 s4 r Q h=>?_) (fun x k hk H4 s4 r Q h=>?_) fun H4 ws s4 hw=>?_)⟩
  ·walk_at "gzn"
   exact h
  ·obtain⟨c2,AR,rfl,ng,Gg⟩:=r
   have kl:=pb k hk
   have VD:=Gg.len
   walk_at "gzn"
   refine⟨_,(s2.trans s4) _ _ hc,_,ng,Nat.le_trans (by lia:us.length+AR.length<=1800) (by decide),fun d hd=>?_⟩
   have ud:=ak (o:=.lst (us++AR)) hd
   have dl:d≠l:=fun z=>by rw[z,s4 _ _ bo] at hd;cases hd
   exact h _ _ ud ⟨d,us++AR,rfl,dl,(s2.trans s4).free hd,aj,aD.app (dA.same hP ((s2.trans s4).trans ud)) (dA.same Gg ud)⟩
  ·intro d hd
   rw[List.nil_append] at hw
   have u:=s4.trans (ak (o:=.lst ws) hd)
   have wl:=hw.len
   rw[List.length_map] at wl
   refine⟨l,d,_,_,rfl,rfl,u _ _ bo,aj,Nat.le_trans (by lia:zs.length+ws.length<=50000) (by decide),zs++ws,_,rfl,dJ jH (s2.trans u),aj,?_⟩
   rw[RK hca]
   exact (hz.imp fun y y r=>(r.same u).put (o:=.lst (zs++ws)) (u _ _ bo)).app (hw.imp fun y y r=>(r.same (ak hd)).put (o:=.lst (zs++ws)) (u _ _ bo))
 ·rintro σ H2 ⟨zs,e,rfl,s2,bo,hz⟩
  rw[xl,List.take_length] at hz
  walk_at "gzn"
  exact q l zs H2 s2 jH bo (hz.imp fun y y r=>r.w6)
noncomputable def aX:Bool->Rt->List (List Pa)
 | true,.leaf t=>c7 t
 | false,.leaf t=>gx t
 | b,.nay a=>aX (!b) a
 | true,.both a c=>eh (aX true a) (aX true c)
 | false,.both a c=>aX false a++aX false c
 | true,.either a c=>aX true a++aX true c
 | false,.either a c=>eh (aX false a) (aX false c)
theorem Gh(b:Bool)(a:Rt):aX b (.nay a)=aX (!b) a:=by cases b<;>rfl
theorem oy:∀ rt:Rt,(aT rt).1=((aX true rt).length:Int)/\(aT rt).2=((aX false rt).length:Int)
 | .leaf _=>⟨rfl,rfl⟩
 | .nay a=>let ⟨x,y⟩:=oy a;⟨y,x⟩
 | .both a c=>by
  obtain⟨x,y⟩:=oy a
  obtain⟨z,v⟩:=oy c
  refine⟨?_,?_⟩
  ·show (aT a).1 * (aT c).1=((eh (aX true a) (aX true c)).length:Int)
   rw[AQ,Int.natCast_mul,x,z]
  ·show (aT a).2+(aT c).2=((aX false a++aX false c).length:Int)
   rw[List.length_append,Int.natCast_add,y,v]
 | .either a c=>by
  obtain⟨x,y⟩:=oy a
  obtain⟨z,v⟩:=oy c
  refine⟨?_,?_⟩
  ·show (aT a).1+(aT c).1=((aX true a++aX true c).length:Int)
   rw[List.length_append,Int.natCast_add,x,z]
  ·show (aT a).2 * (aT c).2=((eh (aX false a) (aX false c)).length:Int)
   rw[AQ,Int.natCast_mul,y,v]
theorem jK{rt:Rt}(hg:cn rt)(b:Bool):(aX b rt).length<=200:=by
 obtain⟨y,h1,y,h2⟩:=i0 hg
 obtain⟨e1,e2⟩:=oy rt
 cases b<;>lia
noncomputable def cg:Rt->Nat
 | .leaf _=>1
 | .nay a=>cg a
 | .both a b=>cg a+cg b
 | .either a b=>cg a+cg b
theorem k9:∀ rt:Rt,2 * cg rt<=(az rt).length
 | .leaf t=>by cases t<;>simp[cg,az,dg]
 | .nay a=>by
  have:=k9 a
  show 2 * cg a<=(az a).length+1
  lia
 | .both a b=>by
  have:=k9 a
  have:=k9 b
  show 2 * (cg a+cg b)<=(az a++az b).length+1
  rw[List.length_append]
  lia
 | .either a b=>by
  have:=k9 a
  have:=k9 b
  show 2 * (cg a+cg b)<=(az a++az b).length+1
  rw[List.length_append]
  lia
theorem rD{qs:List Pa}{ps:List Pa}(h:ps∈bw qs):ps.length<=12:=by
 obtain⟨y,y,y,y,rfl⟩:=xb h
 show 1<=12
 decide
theorem RN{t:Tr}(hg:dU t):(∀ ps∈c7 t,ps.length<=12)/\∀ ps∈gx t,ps.length<=12:=by
 have AS:∀ {i j:Int} {s:S2},bp i j->∀ ps∈[bc i j s],ps.length<=12:=fun hk ps hp=>by
  obtain⟨k0,k1,k2⟩:=hk
  rw[List.mem_singleton.mp hp,eO]
  lia
 cases t with
 | stay i j l h=>exact⟨AS hg,fun ps hp=>rD hp⟩
 | over i j s=>exact⟨fun ps hp=>rD hp,AS hg⟩
 | under i j s=>exact⟨fun ps hp=>rD hp,AS hg⟩
 | rose i j l h =>
  obtain⟨⟨k0,k1,k2⟩,y⟩:=hg
  refine⟨fun ps hp=>?_,fun ps hp=>?_⟩
  ·obtain⟨y,y,y,y,rfl⟩:=DX hp
   show 2<=12
   decide
  ·unfold gx gU at hp
   obtain⟨k,hk,rfl⟩:=List.mem_map.mp hp
   have:=List.mem_range.mp hk
   rw[List.length_append,eO,eO]
   lia
 | pace i j l h =>
  refine⟨fun ps hp=>?_,fun ps hp=>rD hp⟩
  obtain⟨k0,k1,k2⟩:=hg
  rw[List.mem_singleton.mp hp]
  unfold dO
  rw[List.length_map,List.length_range]
  lia
 | turn t =>
  refine⟨fun ps hp=>?_,fun ps hp=>rD hp⟩
  rw[List.mem_singleton.mp hp]
  show 2<=12
  decide
theorem mem_join{as bs:List (List Pa)}{ps:List Pa}(h:ps∈eh as bs):∃ a∈as,∃ b∈bs,ps=a++b:=by
 unfold eh at h
 obtain⟨a,ha,h⟩:=List.mem_flatMap.mp h
 obtain⟨b,hb,rfl⟩:=List.mem_map.mp h
 exact⟨a,ha,b,hb,rfl⟩
theorem i8(R:List Pa->Nat->Prop)(iA:∀ {x y:List Pa} {m n:Nat},R x m->R y n->R (x++y) (m+n))(gA:∀ {x:List Pa} {m n:Nat},m<=n->R x m->R x n)(iB:∀ t,dU t->(∀ ps∈c7 t,R ps 1)/\∀ ps∈gx t,R ps 1):∀ {rt:Rt},eY rt->∀ b,∀ ps∈aX b rt,R ps (cg rt)
 | .leaf t,hg,true=>(iB t hg).1
 | .leaf t,hg,false=>(iB t hg).2
 | .nay a,hg,b=>fun ps hp=>by
  rw[Gh] at hp
  exact i8 R iA gA iB (rt:=a) hg (!b) ps hp
 | .both a c,hg,true=>fun ps hp=>by
  obtain⟨x,hx,y,hy,rfl⟩:=mem_join hp
  exact iA (i8 R iA gA iB hg.1 true x hx) (i8 R iA gA iB hg.2 true y hy)
 | .both a c,hg,false=>fun ps hp=>by
  rcases List.mem_append.mp hp with h|h
  ·exact gA (Nat.le_add_right _ _) (i8 R iA gA iB hg.1 false ps h)
  ·exact gA (Nat.le_add_left _ _) (i8 R iA gA iB hg.2 false ps h)
 | .either a c,hg,false=>fun ps hp=>by
  obtain⟨x,hx,y,hy,rfl⟩:=mem_join hp
  exact iA (i8 R iA gA iB hg.1 false x hx) (i8 R iA gA iB hg.2 false y hy)
 | .either a c,hg,true=>fun ps hp=>by
  rcases List.mem_append.mp hp with h|h
  ·exact gA (Nat.le_add_right _ _) (i8 R iA gA iB hg.1 true ps h)
  ·exact gA (Nat.le_add_left _ _) (i8 R iA gA iB hg.2 true ps h)
theorem rE{rt:Rt}(hg:cn rt)(h6:(az rt).length<=60)(b:Bool):∀ ps∈aX b rt,ps.length<=900:=fun ps hp=>by
 have h:=i8 (fun ps n=>ps.length<=12 * n) (fun h1 h2=>by rw[List.length_append,Nat.mul_add];lia) (fun h1 h2=>Nat.le_trans h2 (Nat.mul_le_mul_left _ h1)) (fun t ht=>RN ht) (dW hg) b ps hp
 have:=k9 rt
 lia
end
section
seal L2.PE L2.PS L2.aS L2.PA
variable{P:Program}{w:World}{K:PySem.W.Frag}{mg:Str->Option Value}{base:Heap}
theorem Gi{n:Nat}{x:Int}(h:x.natAbs<2 ^ n):Bt n x:=by
 unfold Bt Builtin.Int.intBits
 split
 ·exact Nat.zero_le _
 ·rename_i h0
  have h0:x.natAbs≠0:=fun z=>h0 (by rw[Int.natAbs_eq_zero.mp z];rfl)
  exact (Nat.log2_lt h0).mpr h
theorem RO{n:Nat}{x:Int}(h:Bt n x):x.natAbs<2 ^ n:=by
 unfold Bt Builtin.Int.intBits at h
 split at h
 ·rename_i h0
  rw[eq_of_beq h0]
  exact Nat.two_pow_pos n
 ·rename_i h0
  have h0:x.natAbs≠0:=fun z=>h0 (by rw[Int.natAbs_eq_zero.mp z];rfl)
  exact (Nat.log2_lt h0).mp h
theorem RP{n:Nat}{x:Int}(h:Bt n x):Bt n (x / 2):=Gi (by
 have:=RO h
 exact Nat.lt_of_le_of_lt (by lia) this)
theorem iC{i j:Int}(hi:i.natAbs<10 ^ 60)(hj:j.natAbs<10 ^ 60):Bt 205 (j-i+1)/\Bt 205 (j-i+1-1):=by
 have h:(10:Nat) ^ 60<2 ^ 203:=by decide +kernel
 have e:(2:Nat) ^ 205=4 * 2 ^ 203:=by decide +kernel
 have h1:1<(2:Nat) ^ 203:=by decide +kernel
 constructor<;>apply Gi<;>rw[e]<;>lia
theorem uN(a b:En):Bt 205 (fe a+fe b):=(Bt.small (by have:=uK a;have:=uK b;lia) (by have:=uK a;have:=uK b;lia)).up (by decide)
noncomputable def dX:Rt->Nat
 | .leaf _=>500
 | .nay a=>dX a
 | .both a b=>dX a+dX b+1
 | .either a b=>dX a+dX b+1
theorem jL:∀ rt:Rt,dX rt+1<=501 * cg rt
 | .leaf _=>Nat.le_refl _
 | .nay a=>jL a
 | .both a b=>by
  have:=jL a
  have:=jL b
  show dX a+dX b+1+1<=501 * (cg a+cg b)
  lia
 | .either a b=>by
  have:=jL a
  have:=jL b
  show dX a+dX b+1+1<=501 * (cg a+cg b)
  lia
theorem lg{t:Tr}(h:uE t):∀ {i j:Int} {r:List En},bK t=some i::some j::r->i.natAbs<10 ^ 60/\j.natAbs<10 ^ 60:=fun {i j r} e=>⟨h (some i) (by rw[e];exact .head _),h (some j) (by rw[e];exact .tail _ (.head _))⟩
theorem jM:∀ {rt:Rt},cu rt->Bt (dX rt) (bY rt).1/\Bt (dX rt) (bY rt).2
 | .leaf t,h=>by
  have h:uE t:=h
  have one:Bt 500 1:=(Bt.small (by decide) (by decide)).up (by decide)
  have two:Bt 500 2:=(Bt.small (by decide) (by decide)).up (by decide)
  have u1:205<=500:=by decide
  have u2:205+205<=500:=by decide
  cases t with
  | stay i j l u=>obtain⟨a,b⟩:=lg h rfl;exact⟨one,((iC a b).1.mul (uN l u)).up u2⟩
  | pace i j l u=>obtain⟨a,b⟩:=lg h rfl;exact⟨one,((iC a b).2.mul (uN l u)).up u2⟩
  | over i j s=>obtain⟨a,b⟩:=lg h rfl;exact⟨(iC a b).1.up u1,one⟩
  | under i j s=>obtain⟨a,b⟩:=lg h rfl;exact⟨(iC a b).1.up u1,one⟩
  | rose i j l u=>obtain⟨a,b⟩:=lg h rfl;exact⟨(RP ((iC a b).1.mul (iC a b).2)).up u2,(iC a b).1.up u1⟩
  | turn t=>exact⟨one,two⟩
 | .nay a,h=>let ⟨x,y⟩:=jM (rt:=a) h;⟨y,x⟩
 | .both a b,h=>by
  obtain⟨x,y⟩:=jM h.1
  obtain⟨z,v⟩:=jM h.2
  exact⟨(x.mul z).up (Nat.le_succ _),((y.up (Nat.le_add_right _ (dX b))).add (v.up (Nat.le_add_left _ (dX a))))⟩
 | .either a b,h=>by
  obtain⟨x,y⟩:=jM h.1
  obtain⟨z,v⟩:=jM h.2
  exact⟨((x.up (Nat.le_add_right _ (dX b))).add (z.up (Nat.le_add_left _ (dX a)))),(y.mul v).up (Nat.le_succ _)⟩
inductive AU(N:Nat)(vs:List V)(H:Hp)(Q:VK)(aW:XK):Prop
 | mk(v:V)(rt:Rt)(_:vs=[v])(_:bu H v rt)(_:cu rt)(_:cg rt<=200)(_:aG rt<N)(_:∀ l H',ai H H'->H' l=some (.tup [.int (bY rt).1,.int (bY rt).2])->Q (.ref l) H')
theorem RQ(T:Tx w K mg)(N:Nat)(ih:Ok P w base (N+1) T.mz (AU N)):Ok P w base (N+1+1) T.mz (AU (N+1)):=by
 refine bE jC ?_
 rintro u u u s H u u u hr ⟨v,rt,rfl,hv,hs,i9,hh,q⟩
 refine⟨_,(aq (aE (aP (aw (aa 0) ag) au) (ao (ay (bg (ae ag (ae ag ah))))) aH) (aq (aE (aP (aw (aa 0) ag) au) (aq (aN 1 jC.nd (aJ (hk:=by lia) ih hr (ae (aw (aa 0) ag) ah))) (ao (ay (bg (ae (aw (aa 1) ag) (ae (aw (aa 1) ag) ah)))))) aH) (aq (aE (PW.pt (dn (aP (aw (aa 0) ag) au) (eS (aP (aw (aa 0) ag) au)))) (aq (aN 2 jC.nd (aJ (hk:=by lia) ih hr (ae (aw (aa 0) ag) ah))) (aq (aN 3 jC.nd (aJ (hk:=by lia) ih hr (ae (aw (aa 0) ag) ah))) (aq (aE (aP (aw (aa 0) ag) au) (ao (ay (bg (ae (ax nK (aw (aa 2) ag) (aw (aa 3) ag)) (ae (ax a9 (aw (aa 2) ag) (aw (aa 3) ag)) ah))))) aH) (ao (ay (bg (ae (ax a9 (aw (aa 2) ag) (aw (aa 3) ag)) (ae (ax nK (aw (aa 2) ag) (aw (aa 3) ag)) ah)))))))) aH) (aq (aN 4 jC.nd (ax a9 (ax dD (aw (aa 0) ag) (aw (aa 0) ag)) ag)) (aq (aE (aP (aw (aa 0) ag) au) (ao (ay (bg (ae (ax CF (ax nK (aa 4) (ax dD (aa 4) ag)) ag) (ae (aa 4) ah))))) aH) (aq (aE (PW.pt (dn (aP (aw (aa 0) ag) au) (eS (aP (aw (aa 0) ag) au)))) (ao (ay (bg (ae (aa 4) (ae ag ah))))) aH) (aq (aN 5 jC.nd (ax a9 (j3 vy (by rfl) T.qL pk (ae (mY (oP (aw (aa 0) ag))) ah)) (j3 vy (by rfl) T.qL pk (ae (mY (oP (aw (aa 0) ag))) ah)))) (ao (ay (bg (ae ag (ae (ax nK (ax dD (aa 4) (j3 vy (by rfl) T.qL pk (ae (dH jY (aw (aa 0) ag) au (cQ _)) ah))) (aa 5)) ah)))))))))))),?_⟩
 have big:∀ {n:Nat} {x y:Int},n<=200000->Bt n x->Bt n y->jq x y:=fun h a b=>⟨a.up (Nat.le_trans h (by decide)),b.up (Nat.le_trans h (by decide))⟩
 cases rt with
 | leaf t =>
  obtain⟨p,rfl,hp⟩:=hv
  have hs:uE t:=hs
  cases t with
  | stay i j l h =>
   obtain⟨ia,ja⟩:=lg hs rfl
   replace hp:H p=some (.tup [.str "stay",.int i,.int j,ev l,ev h]):=hp
   walk_at "gzn"
   repeat (refine aK hp ?_;walk_at "gzn")
   refine .inr (aQ (aB.of hp) rfl (.inr (aQ (aB.of hp) rfl ⟨rfl,.inr ?_⟩)))
   walk_at "gzn"
   rw[uL l,uL h,if_neg (show ¬ V.str "stay" = V.str "pace" from fun z=>by injection z with z;exact absurd z (by decide)),Int.sub_zero]
   exact⟨big (by decide) (iC ia ja).1 (uN l h),bJ,fun r hr=>q r _ (ak hr) aj⟩
  | pace i j l h =>
   obtain⟨ia,ja⟩:=lg hs rfl
   replace hp:H p=some (.tup [.str "pace",.int i,.int j,ev l,ev h]):=hp
   walk_at "gzn"
   repeat (refine aK hp ?_;walk_at "gzn")
   refine .inr (aQ (aB.of hp) rfl (.inr (aQ (aB.of hp) rfl ⟨rfl,.inr ?_⟩)))
   walk_at "gzn"
   rw[uL l,uL h]
   exact⟨big (by decide) (iC ia ja).2 (uN l h),bJ,fun r hr=>q r _ (ak hr) aj⟩
  | over i j s =>
   replace hp:H p=some (.tup [.str "over",.int i,.int j,.int s]):=hp
   walk_at "gzn"
   repeat (refine aK hp ?_;walk_at "gzn")
   exact⟨bJ,fun r hr=>q r _ (ak hr) aj⟩
  | under i j s =>
   replace hp:H p=some (.tup [.str "under",.int i,.int j,.int s]):=hp
   walk_at "gzn"
   repeat (refine aK hp ?_;walk_at "gzn")
   exact⟨bJ,fun r hr=>q r _ (ak hr) aj⟩
  | rose i j l h =>
   obtain⟨ia,ja⟩:=lg hs rfl
   replace hp:H p=some (.tup [.str "rose",.int i,.int j,.int l,.int h]):=hp
   walk_at "gzn"
   repeat (refine aK hp ?_;walk_at "gzn")
   exact⟨big (by decide) (iC ia ja).1 (iC ia ja).2,sH (by decide),bJ,fun r hr=>q r _ (ak hr) aj⟩
  | turn t =>
   replace hp:H p=some (.tup [.str "turn",.int t]):=hp
   walk_at "gzn"
   repeat (refine aK hp ?_;walk_at "gzn")
   exact⟨bJ,fun r hr=>q r _ (ak hr) aj⟩
 | nay a =>
  obtain⟨p,x,rfl,hp,hx⟩:=hv
  have hh:aG a+1<N+1:=hh
  walk_at "gzn"
  repeat (refine aK hp ?_;walk_at "gzn")
  refine⟨x,a,rfl,hx,hs,i9,by lia,fun l H1 s1 hl=>?_⟩
  walk_at "gzn"
  exact aQ (aB.of hl) rfl (aQ (aB.of hl) rfl ⟨bJ,fun r hr=>q r _ (s1.trans (ak hr)) aj⟩)
 | both a b =>
  obtain⟨p,x,y,rfl,hp,hx,hy⟩:=hv
  have hh:aG a+aG b+1<N+1:=hh
  have i9:cg a+cg b<=200:=i9
  have ca:=jL a
  have cb:=jL b
  obtain⟨a1,a2⟩:=jM hs.1
  obtain⟨b1,b2⟩:=jM hs.2
  have up:∀ {x y:Int},Bt (dX a) x->Bt (dX b) y->jq x y:=fun h1 h2=>big (n:=200000) (Nat.le_refl _) (h1.up (by lia)) (h2.up (by lia))
  walk_at "gzn"
  repeat (refine aK hp ?_;walk_at "gzn")
  refine⟨x,a,rfl,hx,hs.1,by lia,by lia,fun l1 H1 s1 h1=>?_⟩
  walk_at "gzn"
  refine aQ (aB.of (s1 _ _ hp)) rfl ⟨y,b,rfl,hy.same s1,hs.2,by lia,by lia,fun l2 H2 s2 h2=>?_⟩
  replace h1:=s2 _ _ h1
  walk_at "gzn"
  refine aK ((s1.trans s2) _ _ hp) ?_
  walk_at "gzn"
  refine aK h1 (aK h2 ?_)
  walk_at "gzn"
  exact⟨up a1 b1,aQ (aB.of h1) rfl (aQ (aB.of h2) rfl ⟨bJ,fun r hr=>q r _ (s1.trans (s2.trans (ak hr))) aj⟩)⟩
 | either a b =>
  obtain⟨p,x,y,rfl,hp,hx,hy⟩:=hv
  have hh:aG a+aG b+1<N+1:=hh
  have i9:cg a+cg b<=200:=i9
  have ca:=jL a
  have cb:=jL b
  obtain⟨a1,a2⟩:=jM hs.1
  obtain⟨b1,b2⟩:=jM hs.2
  have up:∀ {x y:Int},Bt (dX a) x->Bt (dX b) y->jq x y:=fun h1 h2=>big (n:=200000) (Nat.le_refl _) (h1.up (by lia)) (h2.up (by lia))
  walk_at "gzn"
  repeat (refine aK hp ?_;walk_at "gzn")
  refine⟨x,a,rfl,hx,hs.1,by lia,by lia,fun l1 H1 s1 h1=>?_⟩
  walk_at "gzn"
  refine aQ (aB.of (s1 _ _ hp)) rfl ⟨y,b,rfl,hy.same s1,hs.2,by lia,by lia,fun l2 H2 s2 h2=>?_⟩
  replace h1:=s2 _ _ h1
  walk_at "gzn"
  refine aK ((s1.trans s2) _ _ hp) ?_
  walk_at "gzn"
  refine aK h1 (aK h2 ?_)
  walk_at "gzn"
  exact aQ (aB.of h1) rfl (aQ (aB.of h2) rfl ⟨up a2 b2,bJ,fun r hr=>q r _ (s1.trans (s2.trans (ak hr))) aj⟩)
theorem uO(T:Tx w K mg):∀ N:Nat,Ok P w base (N+1) T.mz (AU N)
 | 0=>by
  refine bE (k:=0) jC ?_
  rintro y y y y y y y y y ⟨y,y,rfl,y,y,y,h,y⟩
  exact absurd h (Nat.not_lt_zero _)
 | N+1=>RQ T N (uO T N)
end
section
seal L2.PE L2.PS L2.aS L2.PA
variable{P:Program}{w:World}{K:PySem.W.Frag}{mg:Str->Option Value}{base:Heap}
inductive AV(N:Nat)(vs:List V)(H:Hp)(Q:VK)(aW:XK):Prop
 | mk(v:V)(rt:Rt)(_:vs=[v])(_:bu H v rt)(_:cu rt)(_:cg rt<=100)(_:aG rt<N)(_:aG rt<128)(_:(i6 rt->∀ H',ai H H'->Q (.bl true) H'))(_:(¬ i6 rt->∀ H',ai H H'->Q (.bl false) H'))
theorem RS(T:Tx w K mg)(N:Nat)(ih:Ok P w base (N+130) T.mD (AV N)):Ok P w base (N+1+130) T.mD (AV (N+1)):=by
 refine bE uh ?_
 rintro u u u s H u u u hr ⟨v,rt,rfl,hv,hs,i9,hh,h8,q,q0⟩
 refine⟨_,(aq (aE (aP (aw (aa 0) ag) au) (ao (ay (aJ (hk:=by lia) ih hr (ae (aw (aa 0) ag) ah)))) aH) (aq (aE (PW.pt (dn (aP (aw (aa 0) ag) au) (eS (aP (aw (aa 0) ag) au)))) (ao (ay (kf (dH (gN vt) (bj (xw rfl) (by rfl) T.qM pj (ae (aJ (hk:=by lia) (uO T 128) hr (ae (aa 0) ah)) ah)) ag (cQ _)) (kf (aJ (hk:=by lia) ih hr (ae (aw (aa 0) ag) ah)) (eA (aJ (hk:=by lia) ih hr (ae (aw (aa 0) ag) ah))))))) aH) (ao (ay mW)))),?_⟩
 cases rt with
 | leaf t =>
  obtain⟨p,rfl,hp⟩:=hv
  cases t with
  | stay i j l h =>
   replace hp:H p=some (.tup [.str "stay",.int i,.int j,ev l,ev h]):=hp
   walk_at "gzn"
   repeat (refine aK hp ?_;walk_at "gzn")
   exact q0 (fun z=>z) _ (ai.refl _)
  | pace i j l h =>
   replace hp:H p=some (.tup [.str "pace",.int i,.int j,ev l,ev h]):=hp
   walk_at "gzn"
   repeat (refine aK hp ?_;walk_at "gzn")
   exact q0 (fun z=>z) _ (ai.refl _)
  | over i j s =>
   replace hp:H p=some (.tup [.str "over",.int i,.int j,.int s]):=hp
   walk_at "gzn"
   repeat (refine aK hp ?_;walk_at "gzn")
   exact q0 (fun z=>z) _ (ai.refl _)
  | under i j s =>
   replace hp:H p=some (.tup [.str "under",.int i,.int j,.int s]):=hp
   walk_at "gzn"
   repeat (refine aK hp ?_;walk_at "gzn")
   exact q0 (fun z=>z) _ (ai.refl _)
  | rose i j l h =>
   replace hp:H p=some (.tup [.str "rose",.int i,.int j,.int l,.int h]):=hp
   walk_at "gzn"
   repeat (refine aK hp ?_;walk_at "gzn")
   exact q0 (fun z=>z) _ (ai.refl _)
  | turn t =>
   replace hp:H p=some (.tup [.str "turn",.int t]):=hp
   walk_at "gzn"
   repeat (refine aK hp ?_;walk_at "gzn")
   exact q0 (fun z=>z) _ (ai.refl _)
 | nay a =>
  obtain⟨p,x,rfl,hp,hx⟩:=hv
  have hh:aG a+1<N+1:=hh
  have h8:aG a+1<128:=h8
  walk_at "gzn"
  repeat (refine aK hp ?_;walk_at "gzn")
  exact⟨x,a,rfl,hx,hs,i9,by lia,by lia,q,q0⟩
 | both a b =>
  obtain⟨p,x,y,rfl,hp,hx,hy⟩:=hv
  have hh:aG a+aG b+1<N+1:=hh
  have h8:aG a+aG b+1<128:=h8
  have RT:cg a+cg b<=100:=i9
  walk_at "gzn"
  repeat (refine aK hp ?_;walk_at "gzn")
  refine⟨.ref p,.both a b,rfl,⟨p,x,y,rfl,hp,hx,hy⟩,hs,by show cg a+cg b<=200;lia,by show aG a+aG b+1<128;lia,fun l H1 s1 hl=>?_⟩
  walk_at "gzn"
  refine⟨[_,_],aB.of hl,by simp,?_⟩
  by_cases ho:k8 (.both a b)
  ·rw[if_pos (AI ho)]
   exact q (.inl ho) _ s1
  ·have iJ:(bY (.both a b)).1<=100/\(bY (.both a b)).2<=100:=Classical.not_not.mp ho
   rw[if_neg (max_le iJ.1 iJ.2)]
   refine aQ (aB.of (s1 _ _ hp)) rfl ⟨x,a,rfl,hx.same s1,hs.1,by lia,by lia,by lia,fun ma H2 s2=>?_,fun ma H2 s2=>?_⟩
   ·walk_at "gzn"
    exact q (.inr (.inl ma)) _ (s1.trans s2)
   ·walk_at "gzn"
    exact aQ (aB.of ((s1.trans s2) _ _ hp)) rfl ⟨y,b,rfl,hy.same (s1.trans s2),hs.2,by lia,by lia,by lia,fun mb H3 s3=>q (.inr (.inr mb)) _ (s1.trans (s2.trans s3)),fun mb H3 s3=>q0 (fun z=>z.elim ho fun z=>z.elim ma mb) _ (s1.trans (s2.trans s3))⟩
 | either a b =>
  obtain⟨p,x,y,rfl,hp,hx,hy⟩:=hv
  have hh:aG a+aG b+1<N+1:=hh
  have h8:aG a+aG b+1<128:=h8
  have RT:cg a+cg b<=100:=i9
  walk_at "gzn"
  repeat (refine aK hp ?_;walk_at "gzn")
  refine⟨.ref p,.either a b,rfl,⟨p,x,y,rfl,hp,hx,hy⟩,hs,by show cg a+cg b<=200;lia,by show aG a+aG b+1<128;lia,fun l H1 s1 hl=>?_⟩
  walk_at "gzn"
  refine⟨[_,_],aB.of hl,by simp,?_⟩
  by_cases ho:k8 (.either a b)
  ·rw[if_pos (AI ho)]
   exact q (.inl ho) _ s1
  ·have iJ:(bY (.either a b)).1<=100/\(bY (.either a b)).2<=100:=Classical.not_not.mp ho
   rw[if_neg (max_le iJ.1 iJ.2)]
   refine aQ (aB.of (s1 _ _ hp)) rfl ⟨x,a,rfl,hx.same s1,hs.1,by lia,by lia,by lia,fun ma H2 s2=>?_,fun ma H2 s2=>?_⟩
   ·walk_at "gzn"
    exact q (.inr (.inl ma)) _ (s1.trans s2)
   ·walk_at "gzn"
    exact aQ (aB.of ((s1.trans s2) _ _ hp)) rfl ⟨y,b,rfl,hy.same (s1.trans s2),hs.2,by lia,by lia,by lia,fun mb H3 s3=>q (.inr (.inr mb)) _ (s1.trans (s2.trans s3)),fun mb H3 s3=>q0 (fun z=>z.elim ho fun z=>z.elim ma mb) _ (s1.trans (s2.trans s3))⟩
theorem AW(T:Tx w K mg):∀ N:Nat,Ok P w base (N+130) T.mD (AV N)
 | 0=>by
  refine bE (k:=129) uh ?_
  rintro y y y y y y y y y ⟨y,y,rfl,y,y,y,h,y⟩
  exact absurd h (Nat.not_lt_zero _)
 | N+1=>RS T N (AW T N)
end
section
seal L2.PE L2.PS L2.aS L2.PA
variable{P:Program}{w:World}{K:PySem.W.Frag}{mg:Str->Option Value}{base:Heap}
def AX(ws:List PySem.Str)(w:PySem.Str):Prop:=(w = "NoRule" /\ ¬ ∃ rt,ef ws rt) ∨ ∃ rt,ef ws rt/\((w = "NoEvent" /\ ¬ fA rt)∨(w = "TooMany" /\ i6 rt))
inductive RU(T:Tx w K mg)(vs:List V)(H:Hp)(Q:VK)(aW:XK):Prop
 | mk(x:PySem.Str)(_:vs=[.str x])(_:x.length<=100000)(_:(∀ rt v p H',ef (Txt.split x BL) rt->rA rt->ai H H'->bG T H' v rt->H' p=some (.tup [.str "",v])->Q (.ref p) H'))(_:(∀ w p H',ai H H'->AX (Txt.split x BL) w->H' p=some (.tup [.str w,.non])->Q (.ref p) H'))
theorem RV(T:Tx w K mg):Ok P w base 143 T.qE (RU T):=by
 refine bE gk ?_
 rintro y A y y H y y y hr ⟨x,rfl,hx,q,q0⟩
 refine⟨_,(aq (aN 1 gk.nd cK) (aq (aN 2 gk.nd au) (aq (Nq (fun cls y H1=>∃ C,cls = .ref C/\ai H H1/\Ge T C (Txt.split x BL)) 3 rfl rfl rfl T.kX rfl T.mF rfl T.uk gk.nd rfl rfl (fun F pn=>Np (RF T) hr.m rfl T.kU.m T.kU.F.kp T.kU.b .nil (ae (aa 0) ah) (jw 1 gk.nd)) (fun A' pn=>(aq (aN 2 gk.nd au) (ao (aE (PW.pt (dn (jg (d9 (bj (jn (K:=K) rfl) (by rfl) T.gT gG (ae (aa 3) (ae (fF (v:=.ref T.gp) rfl T.Ai rfl) ah))))) (dn (d9 (bj (jn (K:=K) rfl) (by rfl) T.gT gG (ae (aa 3) (ae (fF (v:=.ref T.bA) rfl T.mF rfl) ah)))) (eS (d9 (bj (jn (K:=K) rfl) (by rfl) T.gT gG (ae (aa 3) (ae (fF (v:=.ref T.cq) rfl T.uk rfl) ah)))))))) (ao (aN 2 gk.nd au)) aH)))) (fun A' pn=>(aq (aN 2 gk.nd au) (ao (aE (PW.pt (dn (jg (d9 (bj (jn (K:=K) rfl) (by rfl) T.gT gG (ae (aa 3) (ae (fF (v:=.ref T.gp) rfl T.Ai rfl) ah))))) (dn (d9 (bj (jn (K:=K) rfl) (by rfl) T.gT gG (ae (aa 3) (ae (fF (v:=.ref T.bQ) rfl T.kX rfl) ah)))) (eS (d9 (bj (jn (K:=K) rfl) (by rfl) T.gT gG (ae (aa 3) (ae (fF (v:=.ref T.cq) rfl T.uk rfl) ah)))))))) (ao (aN 2 gk.nd au)) aH)))) (fun A' pn=>(aq (aN 2 gk.nd au) (ao (aE (PW.pt (dn (jg (d9 (bj (jn (K:=K) rfl) (by rfl) T.gT gG (ae (aa 3) (ae (fF (v:=.ref T.gp) rfl T.Ai rfl) ah))))) (dn (d9 (bj (jn (K:=K) rfl) (by rfl) T.gT gG (ae (aa 3) (ae (fF (v:=.ref T.bQ) rfl T.kX rfl) ah)))) (eS (d9 (bj (jn (K:=K) rfl) (by rfl) T.gT gG (ae (aa 3) (ae (fF (v:=.ref T.bA) rfl T.mF rfl) ah)))))))) (ao (aN 2 gk.nd au)) aH))))) (ao (ay (bg (ae (aa 2) (ae (aa 1) ah)))))))),?_⟩
 refine aM (fun σ H1=>σ=[some (.str x),some .non,none,none]/\H=H1) (fun N hN=>?_) ?_
 ·walk_at "gzn"
  exact hN _ _ ⟨rfl,rfl⟩
 rintro σ y ⟨rfl,rfl⟩
 refine aM (fun σ H2=>σ=[some (.str x),some .non,some (.str ""),none]/\H=H2) (fun N hN=>?_) ?_
 ·walk_at "gzn"
  exact hN _ _ ⟨rfl,rfl⟩
 rintro σ y ⟨rfl,rfl⟩
 refine aM (fun σ H3=>(∃ rt v,σ=[some (.str x),some v,some (.str ""),none]/\ai H H3/\ef (Txt.split x BL) rt/\rA rt/\bG T H3 v rt)∨(∃ w,σ=[some (.str x),some .non,some (.str w),none]/\ai H H3/\AX (Txt.split x BL) w)) (fun N hN=>?_) ?_
 ·walk_at "gzn"
  refine⟨⟨x,rfl,hx,fun rt v H1 hR hE s1 hv=>hN _ _ (.inl ⟨rt,v,rfl,s1,hR,hE,hv⟩),fun C H1 s1 hr=>⟨C,rfl,s1,hr⟩⟩,?_⟩
  rintro cls H1 ⟨C,rfl,s1,hr⟩
  refine⟨C,rfl,?_⟩
  rcases hr with ⟨rfl,cL⟩|⟨rt,hR,⟨rfl,ht⟩|⟨rfl,hm⟩⟩
  ·refine .inl ⟨T.OT,fun a ha=>⟨_,_,aj,T.iX,(fun z=>nomatch z),T.OZ,?_⟩⟩
   walk_at "gzn"
   refine⟨_,_,aj,T.iX,(fun z=>nomatch z),T.O2,?_⟩
   walk_at "gzn"
   refine⟨_,_,aj,T.iX,(fun z=>nomatch z),T.O3,?_⟩
   walk_at "gzn"
   exact hN _ _ (.inr ⟨_,rfl,s1.trans (ak ha),.inl ⟨rfl,cL⟩⟩)
  ·refine .inr (.inl ⟨T.OU,T.OV,fun a ha=>⟨_,_,aj,T.jG,(fun z=>nomatch z),T.O0,?_⟩⟩)
   walk_at "gzn"
   refine⟨_,_,aj,T.jG,(fun z=>nomatch z),T.O4,?_⟩
   walk_at "gzn"
   refine⟨_,_,aj,T.jG,(fun z=>nomatch z),T.O5,?_⟩
   walk_at "gzn"
   exact hN _ _ (.inr ⟨_,rfl,s1.trans (ak ha),.inr ⟨rt,hR,.inl ⟨rfl,ht⟩⟩⟩)
  ·refine .inr (.inr ⟨T.OW,T.OX,T.OY,fun a ha=>⟨_,_,aj,T.oh,(fun z=>nomatch z),T.O1,?_⟩⟩)
   walk_at "gzn"
   refine⟨_,_,aj,T.oh,(fun z=>nomatch z),T.O6,?_⟩
   walk_at "gzn"
   refine⟨_,_,aj,T.oh,(fun z=>nomatch z),T.O7,?_⟩
   walk_at "gzn"
   exact hN _ _ (.inr ⟨_,rfl,s1.trans (ak ha),.inr ⟨rt,hR,.inr ⟨rfl,hm⟩⟩⟩)
 rintro σ H3 (⟨rt,v,rfl,s3,hR,hE,hv⟩|⟨w,rfl,s3,hw⟩)
 ·walk_at "gzn"
  exact⟨bJ,fun p hp=>q rt v p _ hR hE (s3.trans (ak hp)) (hv.same (ak hp)) aj⟩
 ·walk_at "gzn"
  exact⟨bJ,fun p hp=>q0 w p _ (s3.trans (ak hp)) hw aj⟩
end
section
seal L2.PE L2.PS L2.aS L2.PA
variable{P:Program}{w:World}{K:PySem.W.Frag}{mg:Str->Option Value}{base:Heap}
noncomputable def gB:List (Key × V):=[(.inr "over",.str "nnn"),(.inr "under",.str "nnn"),(.inr "stay",.str "nnee"),(.inr "rose",.str "nnnn"),(.inr "pace",.str "nnee"),(.inr "turn",.str "n"),(.inr "both",.str "rr"),(.inr "either",.str "rr"),(.inr "not",.str "r")]
def rF(x f:PySem.Str):Prop:=(x = "over" /\ f = "nnn")∨(x = "under" /\ f = "nnn")∨(x = "stay" /\ f = "nnee")∨(x = "rose" /\ f = "nnnn")∨(x = "pace" /\ f = "nnee")∨(x = "turn" /\ f = "n")
def rG(x f:PySem.Str):Prop:=(x = "both" /\ f = "rr")∨(x = "either" /\ f = "rr")∨(x = "not" /\ f = "r")
theorem RW{x:PySem.Str}:(∃ f,bX gB (.inr x)=some (.str f)/\(rF x f∨rG x f))∨(bX gB (.inr x)=none/\bX FORMS (.inr x)=none):=by
 unfold bX gB FORMS
 simp only[List.find?_cons,List.find?_nil,FX]
 by_cases e0:x = "over"
 ·rw[decide_eq_true e0];exact .inl ⟨_,rfl,.inl (.inl ⟨e0,rfl⟩)⟩
 rw[decide_eq_false e0]
 by_cases e1:x = "under"
 ·rw[decide_eq_true e1];exact .inl ⟨_,rfl,.inl (.inr (.inl ⟨e1,rfl⟩))⟩
 rw[decide_eq_false e1]
 by_cases e2:x = "stay"
 ·rw[decide_eq_true e2];exact .inl ⟨_,rfl,.inl (.inr (.inr (.inl ⟨e2,rfl⟩)))⟩
 rw[decide_eq_false e2]
 by_cases e3:x = "rose"
 ·rw[decide_eq_true e3];exact .inl ⟨_,rfl,.inl (.inr (.inr (.inr (.inl ⟨e3,rfl⟩))))⟩
 rw[decide_eq_false e3]
 by_cases e4:x = "pace"
 ·rw[decide_eq_true e4];exact .inl ⟨_,rfl,.inl (.inr (.inr (.inr (.inr (.inl ⟨e4,rfl⟩)))))⟩
 rw[decide_eq_false e4]
 by_cases e5:x = "turn"
 ·rw[decide_eq_true e5];exact .inl ⟨_,rfl,.inl (.inr (.inr (.inr (.inr (.inr ⟨e5,rfl⟩)))))⟩
 rw[decide_eq_false e5]
 by_cases e6:x = "both"
 ·rw[decide_eq_true e6];exact .inl ⟨_,rfl,.inr (.inl ⟨e6,rfl⟩)⟩
 rw[decide_eq_false e6]
 by_cases e7:x = "either"
 ·rw[decide_eq_true e7];exact .inl ⟨_,rfl,.inr (.inr (.inl ⟨e7,rfl⟩))⟩
 rw[decide_eq_false e7]
 by_cases e8:x = "not"
 ·rw[decide_eq_true e8];exact .inl ⟨_,rfl,.inr (.inr (.inr ⟨e8,rfl⟩))⟩
 rw[decide_eq_false e8]
 exact .inr ⟨rfl,rfl⟩
def oz(c:PySem.Str)(e:En):Prop:=c = "e" ∨ (c = "n" /\ e≠none)
theorem fB{e:En}(h:oz "n" e):∃ n,e=some n:=by
 rcases h with h|⟨y,h⟩
 ·exact absurd h (by decide)
 ·cases e with
  | none=>exact absurd rfl h
  | some n=>exact⟨n,rfl⟩
theorem RX{x f:PySem.Str}(h:rF x f){es:List En}(hl:es.length=(aU f).length)(hf:∀ (i:Nat) (c:PySem.Str) (e:En),(aU f)[i]?=some (V.str c)->es[i]?=some e->oz c e):∃ t,bM t=x/\bK t=es:=by
 rcases h with ⟨rfl,rfl⟩|⟨rfl,rfl⟩|⟨rfl,rfl⟩|⟨rfl,rfl⟩|⟨rfl,rfl⟩|⟨rfl,rfl⟩
 ·match es,hl with
  | [a,b,c],_ =>
   obtain⟨a,rfl⟩:=fB (hf 0 "n" a rfl rfl)
   obtain⟨b,rfl⟩:=fB (hf 1 "n" b rfl rfl)
   obtain⟨c,rfl⟩:=fB (hf 2 "n" c rfl rfl)
   exact⟨.over a b c,rfl,rfl⟩
 ·match es,hl with
  | [a,b,c],_ =>
   obtain⟨a,rfl⟩:=fB (hf 0 "n" a rfl rfl)
   obtain⟨b,rfl⟩:=fB (hf 1 "n" b rfl rfl)
   obtain⟨c,rfl⟩:=fB (hf 2 "n" c rfl rfl)
   exact⟨.under a b c,rfl,rfl⟩
 ·match es,hl with
  | [a,b,c,d],_ =>
   obtain⟨a,rfl⟩:=fB (hf 0 "n" a rfl rfl)
   obtain⟨b,rfl⟩:=fB (hf 1 "n" b rfl rfl)
   exact⟨.stay a b c d,rfl,rfl⟩
 ·match es,hl with
  | [a,b,c,d],_ =>
   obtain⟨a,rfl⟩:=fB (hf 0 "n" a rfl rfl)
   obtain⟨b,rfl⟩:=fB (hf 1 "n" b rfl rfl)
   obtain⟨c,rfl⟩:=fB (hf 2 "n" c rfl rfl)
   obtain⟨d,rfl⟩:=fB (hf 3 "n" d rfl rfl)
   exact⟨.rose a b c d,rfl,rfl⟩
 ·match es,hl with
  | [a,b,c,d],_ =>
   obtain⟨a,rfl⟩:=fB (hf 0 "n" a rfl rfl)
   obtain⟨b,rfl⟩:=fB (hf 1 "n" b rfl rfl)
   exact⟨.pace a b c d,rfl,rfl⟩
 ·match es,hl with
  | [a],_ =>
   obtain⟨a,rfl⟩:=fB (hf 0 "n" a rfl rfl)
   exact⟨.turn a,rfl,rfl⟩
theorem RY{x f:PySem.Str}(h:rF x f){rt:Rt}(hw:cV rt=x):∃ t,rt = .leaf t/\(bK t).length=(aU f).length/\∀ (i:Nat) (c:PySem.Str),(aU f)[i]?=some (V.str c)->∃ e,(bK t)[i]?=some e/\oz c e:=by
 have hK:∃ g,ow x g:=by
  rcases h with ⟨rfl,y⟩|⟨rfl,y⟩|⟨rfl,y⟩|⟨rfl,y⟩|⟨rfl,y⟩|⟨rfl,y⟩
  ·exact⟨_,(.inl ⟨rfl,rfl⟩)⟩
  ·exact⟨_,(.inr (.inl ⟨rfl,rfl⟩))⟩
  ·exact⟨_,(.inr (.inr (.inl ⟨rfl,rfl⟩)))⟩
  ·exact⟨_,(.inr (.inr (.inr (.inl ⟨rfl,rfl⟩))))⟩
  ·exact⟨_,(.inr (.inr (.inr (.inr (.inl ⟨rfl,rfl⟩)))))⟩
  ·exact⟨_,(.inr (.inr (.inr (.inr (.inr ⟨rfl,rfl⟩)))))⟩
 obtain⟨g,hK⟩:=hK
 obtain⟨t,rfl,ht,y⟩:=F4 hK hw
 have e4:aU "nnee" = [.str "n",.str "n",.str "e",.str "e"]:=rfl
 have e3:aU "nnn" = [.str "n",.str "n",.str "n"]:=rfl
 have e5:aU "nnnn" = [.str "n",.str "n",.str "n",.str "n"]:=rfl
 have e1:aU "n" = [.str "n"]:=rfl
 refine⟨t,rfl,?_,fun i c hc=>?_⟩
 ·cases t<;>simp only[bM] at ht<;>subst ht<;>rcases h with ⟨e,rfl⟩|⟨e,rfl⟩|⟨e,rfl⟩|⟨e,rfl⟩|⟨e,rfl⟩|⟨e,rfl⟩<;>first|rfl|exact absurd e (by decide)
 ·cases t<;>simp only[bM] at ht<;>subst ht<;>rcases h with ⟨e,rfl⟩|⟨e,rfl⟩|⟨e,rfl⟩|⟨e,rfl⟩|⟨e,rfl⟩|⟨e,rfl⟩<;>first|exact absurd e (by decide)|(
   simp only[e1,e3,e4,e5] at hc
   rcases i with y|y|y|y|i<;>simp only[List.getElem?_cons_zero,List.getElem?_cons_succ,List.getElem?_nil,reduceCtorEq,Option.some.injEq,V.str.injEq] at hc<;>(subst hc;exact⟨_,rfl,by first|exact .inl rfl|exact .inr ⟨rfl,fun z=>nomatch z⟩⟩))
theorem Gj{x f:PySem.Str}(h:rG x f){rt:Rt}(hw:cV rt=x):(∀ t,rt ≠ .leaf t)/\(eR rt).length=(aU f).length:=by
 rcases h with ⟨rfl,rfl⟩|⟨rfl,rfl⟩|⟨rfl,rfl⟩
 ·exact rz (.inl ⟨rfl,rfl⟩) hw
 ·exact rz (.inr (.inl ⟨rfl,rfl⟩)) hw
 ·exact rz (.inr (.inr ⟨rfl,rfl⟩)) hw
theorem RZ{x f:PySem.Str}(h:rG x f){cs:List Rt}(hl:cs.length=(aU f).length):∃ rt,cV rt=x/\eR rt=cs:=by
 rcases h with ⟨rfl,rfl⟩|⟨rfl,rfl⟩|⟨rfl,rfl⟩
 ·exact uH (.inl ⟨rfl,rfl⟩) hl
 ·exact uH (.inr (.inl ⟨rfl,rfl⟩)) hl
 ·exact uH (.inr (.inr ⟨rfl,rfl⟩)) hl
theorem R0{x f:PySem.Str}(h:rG x f):aU f=List.replicate (aU f).length (V.str "r"):=by
 rcases h with ⟨y,rfl⟩|⟨y,rfl⟩|⟨y,rfl⟩<;>rfl
theorem R1{x f:PySem.Str}(h:rF x f){i:Nat}{v:V}(hv:(aU f)[i]?=some v):∃ c,v = .str c/\(c = "n" ∨ c = "e"):=by
 have e4:aU "nnee" = [.str "n",.str "n",.str "e",.str "e"]:=rfl
 have e3:aU "nnn" = [.str "n",.str "n",.str "n"]:=rfl
 have e5:aU "nnnn" = [.str "n",.str "n",.str "n",.str "n"]:=rfl
 have e1:aU "n" = [.str "n"]:=rfl
 have m:=List.mem_of_getElem? hv
 rcases h with ⟨y,rfl⟩|⟨y,rfl⟩|⟨y,rfl⟩|⟨y,rfl⟩|⟨y,rfl⟩|⟨y,rfl⟩<;>simp only[e1,e3,e4,e5,List.mem_cons,List.not_mem_nil,or_false] at m
 all_goals (rcases m with rfl|rfl|rfl|rfl)<;>first|exact⟨_,rfl,.inl rfl⟩|exact⟨_,rfl,.inr rfl⟩
def isKey(x:PySem.Str):Prop:=bX FORMS (.inr x)≠none
theorem Gk(rt:Rt):isKey (cV rt):=fun z=>by rw[FW] at z;cases z
theorem R3(e:En):∃ c r,(bL e).cps.toList=c::r/\c<60:=by
 cases e with
 | none=>exact⟨42,[],rfl,by decide⟩
 | some n =>
  rcases pU n with ⟨m,rfl⟩|⟨m,rfl⟩
  ·obtain⟨d,r,e,y⟩:=md m
   have hd:=nP m d (by rw[e];exact .head _)
   exact⟨d,r,(show (bz (m:Int)).cps.toList=_ from km m).trans e,by lia⟩
  ·exact⟨45,cY (m+1),(show (bz (-((m+1:Nat):Int))).cps.toList=_ from nQ m),by decide⟩
theorem Gm(e:En):¬ isKey (bL e):=fun h=>by
 obtain⟨c,r,he,hc⟩:=R3 e
 have no:∀ {y:PySem.Str} {d:Nat} {s:List Nat},y.cps.toList=d::s->60<=d->bL e≠y:=fun hy hd z=>by
  rw[z,hy] at he
  have:=(List.cons.inj he).1
  lia
 cases hv:bX FORMS (.inr (bL e)) with
 | none=>exact h hv
 | some v =>
  obtain⟨f,u,hk⟩:=kinds hv
  rcases hk with (h|h|h|h|h|h)|(h|h|h)
  all_goals exact no (d:=_) (s:=_) (by rfl) (by decide) h.1
end
section
seal L2.PE L2.PS L2.aS L2.PA
variable{P:Program}{w:World}{K:PySem.W.Frag}{mg:Str->Option Value}{base:Heap}
theorem oA:∀ {rt:Rt} {tl pre s:List PySem.Str} {x:PySem.Str},cu rt->az rt++tl=pre++x::s->pre.length<(az rt).length->isKey x->∃ ru rest,cu ru/\x::s=az ru++rest
 | rt,tl,[],s,x,h,e,_,_=>⟨rt,tl,h,e.symm⟩
 | .leaf t,tl,p::pre,s,x,h,e,hl,hk=>by
  have e:dg t++tl=p::(pre++x::s):=e
  have hl:pre.length+1<(dg t).length:=hl
  rw[i4] at e hl
  rw[List.cons_append] at e
  injection e with _ e
  rw[List.length_cons,List.length_map] at hl
  have z:=congrArg (fun l=>l[pre.length]?) e
  simp only[List.getElem?_append_right (Nat.le_refl _),Nat.sub_self,List.getElem?_cons_zero] at z
  rw[List.getElem?_append_left (by rw[List.length_map];lia),List.getElem?_map] at z
  obtain⟨o,y,ho⟩:=Option.map_eq_some_iff.mp z
  rw[<- ho] at hk
  exact absurd hk (Gm o)
 | .nay a,tl,p::pre,s,x,h,e,hl,hk=>by
  have e:("not" : PySem.Str)::(az a++tl)=p::(pre++x::s):=e
  have hl:pre.length+1<(az a).length+1:=hl
  injection e with _ e
  exact oA (rt:=a) h e (by lia) hk
 | .both a b,tl,p::pre,s,x,h,e,hl,hk=>by
  have e:("both" : PySem.Str)::((az a++az b)++tl)=p::(pre++x::s):=e
  have hl:pre.length+1<(az a++az b).length+1:=hl
  injection e with _ e
  rw[List.append_assoc] at e
  rw[List.length_append] at hl
  by_cases hp:pre.length<(az a).length
  ·exact oA h.1 e hp hk
  ·have e1:pre=az a++pre.drop (az a).length:=by
    have z:=congrArg (fun l=>l.take (az a).length) e
    simp only[List.take_left',List.take_append_of_le_length (show (az a).length<=pre.length by lia)] at z
    conv=>lhs;rw[<- List.take_append_drop (az a).length pre,<- z]
   rw[e1,List.append_assoc] at e
   have e2:=List.append_cancel_left e
   exact oA h.2 e2 (by rw[List.length_drop];lia) hk
 | .either a b,tl,p::pre,s,x,h,e,hl,hk=>by
  have e:("either" : PySem.Str)::((az a++az b)++tl)=p::(pre++x::s):=e
  have hl:pre.length+1<(az a++az b).length+1:=hl
  injection e with _ e
  rw[List.append_assoc] at e
  rw[List.length_append] at hl
  by_cases hp:pre.length<(az a).length
  ·exact oA h.1 e hp hk
  ·have e1:pre=az a++pre.drop (az a).length:=by
    have z:=congrArg (fun l=>l.take (az a).length) e
    simp only[List.take_left',List.take_append_of_le_length (show (az a).length<=pre.length by lia)] at z
    conv=>lhs;rw[<- List.take_append_drop (az a).length pre,<- z]
   rw[e1,List.append_assoc] at e
   have e2:=List.append_cancel_left e
   exact oA h.2 e2 (by rw[List.length_drop];lia) hk
inductive It where
 | w (x:PySem.Str)|t (rt:Rt)
noncomputable def dF:It->List PySem.Str
 | .w x=>[x]
 | .t rt=>az rt
def uP:It->Prop
 | .w x=>¬ isKey x
 | .t rt=>cu rt
theorem R4(i:It):dF i≠[]:=by
 cases i with
 | w x=>simp[dF]
 | t rt=>exact QL rt
theorem Gq:∀ {es:List En} {st:List It} {rest:List PySem.Str},st.flatMap dF=es.map bL++rest->∀ (i:Nat) (e:En),es[i]?=some e->st[i]?=some (.w (bL e))
 | [],_,_,_,i,e,h=>by simp at h
 | a::es,[],_,h,_,_,_=>by simp at h
 | a::es,.t rv::st,rest,h,_,_,_=>by
  rw[List.flatMap_cons] at h
  obtain⟨r0,e0⟩:=cv rv
  rw[show dF (.t rv)=az rv from rfl,e0,List.map_cons,List.cons_append,List.cons_append] at h
  injection h with h _
  exact absurd (h ▸ Gk rv) (Gm a)
 | a::es,.w y::st,rest,h,i,e,he=>by
  rw[List.flatMap_cons,show dF (.w y)=[y] from rfl,List.map_cons,List.cons_append,List.cons_append] at h
  injection h with h1 h2
  cases i with
  | zero =>
   rw[List.getElem?_cons_zero] at he
   injection he with he
   rw[List.getElem?_cons_zero,h1,he]
  | succ i=>exact Gq (es:=es) (st:=st) h2 i e he
theorem AY:∀ {cs:List Rt} {st:List It} {rest:List PySem.Str},(∀ i∈st,uP i)->(∀ c∈cs,cu c)->st.flatMap dF=cs.flatMap az++rest->∀ (i:Nat) (c:Rt),cs[i]?=some c->st[i]?=some (.t c)
 | [],_,_,_,_,_,i,e,h=>by simp at h
 | a::cs,[],_,_,_,h,_,_,_=>by
  obtain⟨r0,e0⟩:=cv a
  rw[List.flatMap_cons,e0] at h
  simp at h
 | a::cs,.w y::st,rest,ho,_,h,_,_,_=>by
  obtain⟨r0,e0⟩:=cv a
  rw[List.flatMap_cons,show dF (.w y)=[y] from rfl,List.flatMap_cons,e0,List.cons_append,List.cons_append,List.cons_append] at h
  injection h with h _
  exact absurd (h ▸ Gk a) (ho _ (.head _))
 | a::cs,.t rv::st,rest,ho,hs,h,i,c,hc=>by
  rw[List.flatMap_cons,show dF (.t rv)=az rv from rfl,List.flatMap_cons,List.append_assoc] at h
  obtain⟨e1,e2⟩:=jJ (ho (.t rv) (.head _):cu rv) (hs a (.head _)) h
  cases i with
  | zero =>
   rw[List.getElem?_cons_zero] at hc
   injection hc with hc
   rw[List.getElem?_cons_zero,e1,hc]
  | succ i=>exact AY (cs:=cs) (st:=st) (fun i hi=>ho i (.tail _ hi)) (fun c hc=>hs c (.tail _ hc)) e2 i c hc
theorem R5{st:List It}{rt:Rt}(ho:∀ i∈st,uP i)(hs:cu rt)(h:st.flatMap dF=az rt):st=[.t rt]:=by
 have z:=AY (cs:=[rt]) (rest:=[]) ho (fun c hc=>by rw[List.mem_singleton.mp hc];exact hs) (by simpa using h) 0 rt rfl
 match st,z with
 | i::cj,z =>
  rw[List.getElem?_cons_zero] at z
  injection z with z
  subst z
  rw[List.flatMap_cons,show dF (.t rt)=az rt from rfl] at h
  have e:cj.flatMap dF=[]:=List.append_cancel_left (h.trans (List.append_nil _).symm)
  cases cj with
  | nil=>rfl
  | cons j VE =>
   rw[List.flatMap_cons] at e
   exact absurd (List.append_eq_nil_iff.mp e).1 (R4 j)
end
section
seal L2.PE L2.PS L2.aS L2.PA
variable{P:Program}{w:World}{K:PySem.W.Frag}{mg:Str->Option Value}{base:Heap}
open PySem.Builtin PySem.Builtin.Str PySem.StrLaws in
theorem R6(n:Nat):strSliceIndices none (some 1) 1 n=List.range (min 1 n):=by
 unfold strSliceIndices sliceRange
 simp only[show ((1:Int) > 0)=True from eq_true (by decide),if_true,show ((1:Int)<0)=False from eq_false (by decide),if_false]
 cases n with
 | zero=>rfl
 | succ n =>
  have e1:max (0:Int) (min 1 ((n+1:Nat):Int))=1:=by lia
  rw[e1]
  have e2:min 1 (n+1)=1:=by lia
  rw[e2]
  rfl
theorem Gr(x:PySem.Str):(Txt.slice x none (some 1)).cps.toList=x.cps.toList.take 1:=by
 unfold Txt.slice
 rw[R6,str_len,List.length_range]
 cases h:x.cps.toList with
 | nil=>rw[if_pos (by simp),h];rfl
 | cons d r =>
  have e:min 1 (d::r).length=1:=by rw[List.length_cons];lia
  rw[e]
  split
  ·rename_i hl
   rw[List.length_cons] at hl
   have:r=[]:=List.length_eq_zero_iff.mp (by lia)
   rw[h,this]
   rfl
  ·show ((List.range 1).filterMap (x.cps[·]?)).toArray.toList=[d]
   have z:x.cps[0]?=some d:=by rw[<- Array.getElem?_toList,h];rfl
   rw[show List.range 1=[0] from rfl,List.filterMap_cons,z]
   rfl
theorem Gs(x:PySem.Str):(Txt.slice x none (some 1) = "-")↔jA x=true:=by
 rw[show jA x=decide (x.cps.toList.head?=some 45) from nV x 45,decide_eq_true_iff]
 constructor
 ·intro h
  have z:=Gr x
  rw[h] at z
  cases hx:x.cps.toList with
  | nil=>rw[hx] at z;exact absurd z (by decide)
  | cons d r =>
   rw[hx] at z
   have:[45]=[d]:=z
   rw[List.head?_cons,(List.cons.inj this).1]
 ·intro h
  apply tX
  rw[Gr]
  cases hx:x.cps.toList with
  | nil=>rw[hx] at h;cases h
  | cons d r =>
   rw[hx] at h
   injection h with h
   rw[h]
   rfl
noncomputable def uQ:V->V
 | .str i=>.bl (!(!(Builtin.Str.occurrences eQ i 0 eQ.length 1).isEmpty))
 | v=>v
theorem R7(x:PySem.Str):((aU x).filter fun y=>true).map uQ=(x.cps.toList.map fun c=>!(!(Builtin.Str.occurrences eQ ⟨#[c]⟩ 0 eQ.length 1).isEmpty)).map V.bl:=by
 rw[List.filter_eq_self.mpr fun y y=>rfl]
 unfold aU
 rw[List.map_map,List.map_map]
 rfl
theorem R8(x:PySem.Str):(x.cps.toList.map fun c=>!(!(Builtin.Str.occurrences eQ ⟨#[c]⟩ 0 eQ.length 1).isEmpty)).any id = !ko x:=by
 unfold ko
 rw[List.any_map,List.not_all_eq_any_not]
 congr 1
 funext c
 show (!(!(Builtin.Str.occurrences eQ ⟨#[c]⟩ 0 eQ.length 1).isEmpty))=_
 rw[ED c]
theorem R9{x:PySem.Str}(h:dR x=true):∃ n,PySem.intText? x=some n/\x=bz n/\n.natAbs<10 ^ 60:=by
 obtain⟨n,rfl,hn⟩:=AK h
 exact⟨n,tT hn,rfl,hn⟩
theorem AZ{x:PySem.Str}(h:gQ (cutD x)=false):dR x=false:=by
 unfold dR
 by_cases h0:x = "0"
 ·subst h0
  exact absurd h (by decide)
 ·rw[h,show (x == ("0" : PySem.Str))=false from beq_eq_false_iff_ne.mpr h0]
  rfl
inductive Sa(vs:List V)(H:Hp)(Q:VK)(aW:XK):Prop
 | mk(x:PySem.Str)(_:vs=[.str x])(_:x.length<=100000)(_:(∀ n H',dR x=true->x=bz n->n.natAbs<10 ^ 60->ai H H'->Q (.int n) H'))(_:(dR x=false->∀ H',ai H H'->Q .non H'))
theorem Sb(T:Tx w K mg):Ok P w base 1 T.qB Sa:=by
 refine bE qe ?_
 rintro y y y s H y Q y hr ⟨x,rfl,hx,q,q0⟩
 refine⟨_,(aq (aN 1 qe.nd (aa 0)) (aq (aE (aP (cM jz (aa 0) de (cy ag)) au) (ao (aN 1 qe.nd (cM jz (aa 0) (cy ag) de))) aH) (aq (aE (PW.pt (dn (aP (aa 1) au) (dn (nN (bj c8 (by rfl) T.dj df (ae (aa 1) ah)) ag) (eS (d9 (bj (wB rfl) (by rfl) T.Ag vW (ae (fK (cO [] []) rfl (tV (aa 1)) (fun C s2 H2 ex pn=>⟨eU,(dH Jb (aa 0) au (by with_unfolding_all rfl))⟩)) ah))))))) (ao (ay cK)) aH) (aq (aE (PW.pt (lx (aP (vx (aa 1) ag (fun y y=>rfl)) au) (mZ (tR (aa 0) au)))) (ao (ay cK)) aH) (ao (ay (j3 Ey (by rfl) T.qL pk (ae (aa 0) ah)))))))),?_⟩
 refine aM (fun σ H1=>σ=[some (.str x),some (.str x)]/\H=H1) (fun N hN=>?_) ?_
 ·walk_at "gzn"
  exact hN _ _ ⟨rfl,rfl⟩
 rintro σ y ⟨rfl,rfl⟩
 refine aM (fun σ H1=>σ=[some (.str x),some (.str (cutD x))]/\H=H1) (fun N hN=>?_) ?_
 ·walk_at "gzn"
  refine⟨x,rfl,Nat.le_trans hx (by decide),?_⟩
  show if _ then _ else _
  refine aL (fun h=>?_) fun h=>?_
  ·walk_at "gzn"
   refine⟨x,rfl,Nat.le_trans hx (by decide),?_⟩
   have e:Txt.slice x (some 1) none=cutD x:=by unfold cutD;rw[if_pos ((Gs x).mp h)]
   rw[e]
   exact hN _ _ ⟨rfl,rfl⟩
  ·walk_at "gzn"
   have e:cutD x=x:=by unfold cutD;rw[if_neg fun z=>h ((Gs x).mpr z)]
   rw[e] at hN
   exact hN _ _ ⟨rfl,rfl⟩
 rintro σ y ⟨rfl,rfl⟩
 have hy:(cutD x).length<=100000:=by
  unfold cutD
  split
  ·exact Nat.le_trans (Txt.slice_le _ _ _) hx
  ·exact hx
 walk_at "gzn"
 refine aL (fun he=>q0 (AZ (by rw[he];rfl)) _ (ai.refl _)) fun he=>⟨(cutD x).length,⟨Nat.le_trans hy (by decide),rfl⟩,aL (fun hl=>q0 (AZ ?_) _ (ai.refl _)) fun hl=>⟨_,rfl,?_⟩⟩
 ·unfold gQ
  rw[decide_eq_false (show ¬ (cutD x).length<=60 by lia)]
  simp
 have eZ:1<=(cutD x).length:=by
  rcases Nat.eq_zero_or_pos (cutD x).length with z|z
  ·exact absurd (tX (by rw[str_len] at z;rw[List.length_eq_zero_iff.mp z];rfl)) he
  ·exact z
 have Sd:(aU (cutD x)).length<=sizeLine:=by
  rw[pV]
  exact Nat.le_trans (show (cutD x).cps.size<=100000 from hy) (by decide)
 refine eV EA Sd (pG (p:=fun y=>true) (f:=uQ) trivial (fun y y Q h=>h) (fun v hv y Q h=>?_) fun l hn=>?_)
 ·unfold aU at hv
  obtain⟨c,y,rfl⟩:=List.mem_map.mp hv
  walk_at "gzn"
  exact⟨_,rfl,_,rfl,h⟩
 ·have s1:=ak (o:=.lst (((aU (cutD x)).filter fun y=>true).map uQ)) hn
  rw[List.nil_append]
  refine⟨l,rfl,_,ar.of (by rw[aj,R7]),?_⟩
  rw[R8]
  cases hd:ko (cutD x) with
  | false =>
   walk_at "gzn"
   exact q0 (AZ (by unfold gQ;rw[hd,Bool.and_false])) _ s1
  | true =>
   have Se:gQ (cutD x)=true:=by
    unfold gQ
    rw[hd,decide_eq_true eZ,decide_eq_true (show (cutD x).length<=60 by lia)]
    rfl
   walk_at "gzn"
   obtain⟨c,r,hc⟩:∃ c r,(cutD x).cps.toList=c::r:=by
    rw[str_len] at eZ
    cases hz:(cutD x).cps.toList with
    | nil=>rw[hz] at eZ;cases eZ
    | cons c r=>exact⟨c,r,rfl⟩
   have st:Txt.startswith (cutD x) "0" = decide (c=48):=by
    rw[show Txt.startswith (cutD x) "0" = _ from nV (cutD x) 48,hc,List.head?_cons]
    simp
   have fin:dR x=true->∃ A0,V.str x=V.str A0/\∃ n,intText? A0=some n/\A0.length<=640/\Q (V.int n) (upd H l (.lst (((aU (cutD x)).filter fun y=>true).map uQ))):=fun hb=>by
    obtain⟨n,hr,rfl,Gu⟩:=R9 hb
    exact⟨_,rfl,n,hr,Nat.le_trans (dQ Gu) (by decide),q n _ hb rfl Gu s1⟩
   refine⟨_,rfl,by lia,c,by rw[<- Array.getElem?_toList,hc];rfl,?_⟩
   by_cases h0:c=48
   ·subst h0
    rw[if_pos (show (⟨#[48]⟩:PySem.Str) = "0" from rfl)]
    by_cases uR:x = "0"
    ·rw[if_neg (fun z=>z uR)]
     exact fin (by rw[uR];rfl)
    ·rw[if_pos uR]
     refine q0 ?_ _ s1
     unfold dR
     rw[st,show (x == ("0" : PySem.Str))=false from beq_eq_false_iff_ne.mpr uR]
     simp
   ·rw[if_neg (fun z=>h0 (by
     have z:=congrArg (fun s:PySem.Str=>s.cps.toList) z
     exact (List.cons.inj (show [c]=[48] from z)).1))]
    exact fin (by unfold dR;rw[Se,st,decide_eq_false h0,Bool.or_eq_true];exact .inr rfl)
end
section
seal L2.PE L2.PS L2.aS L2.PA
variable{P:Program}{w:World}{K:PySem.W.Frag}{mg:Str->Option Value}{base:Heap}
inductive Sf(K:PySem.W.Frag)(vs:List V)(H:Hp)(Q:VK)(aW:XK):Prop
 | mk(a:Addr)(ns:List Int)(k so b:Int)(_:vs=[.ref a,.int k,.int so,.int 12,.int b])(_:ar K H a (ns.map V.int))(_:fY ns)(_:(0<=k/\k<=1000))(_ : -999999999999999999999999999999999999999999999999999999999900<=b)(_:b<=999999999999999999999999999999999999999999999999999999999900)(_:∀ r tr H',ai H H'->H' r=some (.tup (uv tr))->dU tr->AF tr->rq tr->Q (.ref r) H')
theorem Sg(T:Tx w K mg):Ok P w base 2 T.qz (Sf K):=by
 refine bE gj ?_
 rintro z z z z H z z z hr ⟨a,ns,k,so,b,rfl,hS,hn,⟨k0,k1⟩,b0,b1,q⟩
 refine⟨_,(aq (aN 5 gj.nd (aJ (dm T) hr (ae (aa 0) (ae (aa 1) (ae ag (ae (aa 3) ah)))))) (aq (aN 6 gj.nd (ax a9 (aa 5) (aJ (dm T) hr (ae (aa 0) (ae (ax a9 (aa 1) ag) (ae ag (ae (ax dD (aa 3) (aa 5)) ah))))))) (aq (aN 7 gj.nd (ax dD (aJ (dm T) hr (ae (aa 0) (ae (ax a9 (aa 1) ag) (ae ag (ae ag ah))))) ag)) (aq (aN 8 gj.nd (aJ (dm T) hr (ae (aa 0) (ae (ax a9 (aa 1) ag) (ae ag (ae ag ah)))))) (aq (aE (aP (aa 2) ag) (ao (ay (bg (ae au (ae (aa 5) (ae (aa 6) (ae (ax a9 (aa 4) (aa 7)) ah))))))) aH) (aq (aE (aP (aa 2) ag) (ao (ay (bg (ae au (ae (aa 5) (ae (aa 6) (ae (ax a9 (aa 4) (aa 7)) ah))))))) aH) (aq (aE (aP (aa 2) ag) (ao (ay (bg (ae au (ae (aa 5) (ae (aa 6) (ae (ax a9 (aa 4) (aa 7)) (ae (ax a9 (ax a9 (ax a9 (aa 4) (aa 7)) ag) (ax CF (aa 8) ag)) ah)))))))) aH) (aq (aE (PW.pt (lx (aP (aa 2) ag) (mZ (nN (aa 3) ag)))) (ao (ay (bg (ae au (ae (ax a9 ag (ax pS (aa 5) (ax dD (aa 3) ag))) ah))))) aH) (aq (aN 9 gj.nd (aJ (dm T) hr (ae (aa 0) (ae (ax a9 (aa 1) ag) (ae ag (ae ag ah)))))) (aq (aN 10 gj.nd (ax dD (aa 7) ag)) (aq (aE (aP (aa 2) ag) (ao (aN 10 gj.nd (ax a9 (aa 4) (aa 7)))) aH) (aq (aN 11 gj.nd (ax a9 (aa 10) (aa 8))) (aq (aE (PW.pt (dn (aP (aa 9) ag) (eS (aP (aa 9) ag)))) (ao (aN 10 gj.nd cK)) aH) (aq (aE (PW.pt (dn (aP (aa 9) ag) (eS (aP (aa 9) ag)))) (ao (aN 11 gj.nd cK)) aH) (aq (aE (aP (aa 2) ag) (ao (ay (bg (ae au (ae (aa 5) (ae (aa 6) (ae (aa 10) (ae (aa 11) ah)))))))) aH) (ao (ay (bg (ae au (ae (aa 5) (ae (aa 6) (ae (aa 10) (ae (aa 11) ah))))))))))))))))))))))),?_⟩
 refine aM (fun σ H2=>∃ fi:Int,σ=[some (.ref a),some (.int k),some (.int so),some (.int 12),some (.int b),some (.int fi),none,none,none,none,none,none]/\H=H2/\0<=fi/\fi<12) (fun N hN=>?_) ?_
 ·walk_at "gzn"
  refine⟨a,ns,_,_,_,rfl,hS,hn,by lia,by lia,by lia,fun p p1 p2=>?_⟩
  exact hN _ _ ⟨_,rfl,rfl,p1,p2⟩
 rintro σ z ⟨fi,rfl,rfl,f0,f1⟩
 refine aM (fun σ H2=>∃ la:Int,σ=[some (.ref a),some (.int k),some (.int so),some (.int 12),some (.int b),some (.int fi),some (.int la),none,none,none,none,none]/\H=H2/\fi<=la/\la<12) (fun N hN=>?_) ?_
 ·walk_at "gzn"
  refine⟨a,ns,_,_,_,rfl,hS,hn,by lia,by lia,by lia,fun p p1 p2=>?_⟩
  walk_at "gzn"
  exact hN _ _ ⟨_,rfl,rfl,by lia,by lia⟩
 rintro σ z ⟨la,rfl,rfl,l0,l1⟩
 refine aM (fun σ H2=>∃ lo:Int,σ=[some (.ref a),some (.int k),some (.int so),some (.int 12),some (.int b),some (.int fi),some (.int la),some (.int lo),none,none,none,none]/\H=H2/\-2<=lo/\lo<=6) (fun N hN=>?_) ?_
 ·walk_at "gzn"
  refine⟨a,ns,_,_,_,rfl,hS,hn,by lia,by lia,by lia,fun p p1 p2=>?_⟩
  walk_at "gzn"
  exact hN _ _ ⟨_,rfl,rfl,by lia,by lia⟩
 rintro σ z ⟨lo,rfl,rfl,o0,o1⟩
 refine aM (fun σ H2=>∃ mo:Int,σ=[some (.ref a),some (.int k),some (.int so),some (.int 12),some (.int b),some (.int fi),some (.int la),some (.int lo),some (.int mo),none,none,none]/\H=H2/\0<=mo/\mo<=6) (fun N hN=>?_) ?_
 ·walk_at "gzn"
  refine⟨a,ns,_,_,_,rfl,hS,hn,by lia,by lia,by lia,fun p p1 p2=>?_⟩
  exact hN _ _ ⟨_,rfl,rfl,by lia,by lia⟩
 rintro σ z ⟨mo,rfl,rfl,m0,m1⟩
 refine aM (fun σ H2=>σ=[some (.ref a),some (.int k),some (.int so),some (.int 12),some (.int b),some (.int fi),some (.int la),some (.int lo),some (.int mo),none,none,none]/\H=H2) (fun N hN=>?_) ?_
 ·walk_at "gzn"
  exact aL (fun z=>⟨by decide,fun r hr=>q r (.over fi la _) _ (ak hr) aj ⟨f0,l0,by lia⟩ (mH (by lia) (by lia)) trivial⟩) fun z=>hN _ _ ⟨rfl,rfl⟩
 rintro σ z ⟨rfl,rfl⟩
 refine aM (fun σ H2=>σ=[some (.ref a),some (.int k),some (.int so),some (.int 12),some (.int b),some (.int fi),some (.int la),some (.int lo),some (.int mo),none,none,none]/\H=H2) (fun N hN=>?_) ?_
 ·walk_at "gzn"
  exact aL (fun z=>⟨by decide,fun r hr=>q r (.under fi la _) _ (ak hr) aj ⟨f0,l0,by lia⟩ (mH (by lia) (by lia)) trivial⟩) fun z=>hN _ _ ⟨rfl,rfl⟩
 rintro σ z ⟨rfl,rfl⟩
 refine aM (fun σ H2=>σ=[some (.ref a),some (.int k),some (.int so),some (.int 12),some (.int b),some (.int fi),some (.int la),some (.int lo),some (.int mo),none,none,none]/\H=H2) (fun N hN=>?_) ?_
 ·walk_at "gzn"
  exact aL (fun z=>⟨sH (by decide),by decide,fun r hr=>q r (.rose fi la _ _) _ (ak hr) aj ⟨⟨f0,l0,by lia⟩,by lia⟩ ⟨(mH (by lia) (by lia)),(mH (by lia) (by lia))⟩ trivial⟩) fun z=>hN _ _ ⟨rfl,rfl⟩
 rintro σ z ⟨rfl,rfl⟩
 refine aM (fun σ H2=>σ=[some (.ref a),some (.int k),some (.int so),some (.int 12),some (.int b),some (.int fi),some (.int la),some (.int lo),some (.int mo),none,none,none]/\H=H2) (fun N hN=>?_) ?_
 ·walk_at "gzn"
  refine aL (fun z=>?_) fun z=>hN _ _ ⟨rfl,rfl⟩
  exact⟨by decide,fun r hr=>q r (.turn _) _ (ak hr) aj ⟨by lia,by lia⟩ trivial trivial⟩
 rintro σ z ⟨rfl,rfl⟩
 refine aM (fun σ H2=>∃ oe:Int,σ=[some (.ref a),some (.int k),some (.int so),some (.int 12),some (.int b),some (.int fi),some (.int la),some (.int lo),some (.int mo),some (.int oe),none,none]/\H=H2) (fun N hN=>?_) ?_
 ·walk_at "gzn"
  refine⟨a,ns,_,_,_,rfl,hS,hn,by lia,by lia,by lia,fun p p1 p2=>?_⟩
  exact hN _ _ ⟨_,rfl,rfl⟩
 rintro σ z ⟨oe,rfl,rfl⟩
 refine aM (fun σ H2=>∃ xa:Int,σ=[some (.ref a),some (.int k),some (.int so),some (.int 12),some (.int b),some (.int fi),some (.int la),some (.int lo),some (.int mo),some (.int oe),some (.int xa),none]/\H=H2/\xa=lo-3) (fun N hN=>?_) ?_
 ·walk_at "gzn"
  exact hN _ _ ⟨_,rfl,rfl,rfl⟩
 rintro σ z ⟨xa,rfl,rfl,ea⟩
 refine aM (fun σ H2=>∃ xl:Int,σ=[some (.ref a),some (.int k),some (.int so),some (.int 12),some (.int b),some (.int fi),some (.int la),some (.int lo),some (.int mo),some (.int oe),some (.int xl),none]/\H=H2/\-999999999999999999999999999999999999999999999999999999999900-5<=xl/\xl<=999999999999999999999999999999999999999999999999999999999900+6) (fun N hN=>?_) ?_
 ·walk_at "gzn"
  exact aL (fun z=>hN _ _ ⟨_,rfl,rfl,by lia,by lia⟩) fun z=>hN _ _ ⟨_,rfl,rfl,by lia,by lia⟩
 rintro σ z ⟨xl,rfl,rfl,x0,x1⟩
 refine aM (fun σ H2=>∃ xh:Int,σ=[some (.ref a),some (.int k),some (.int so),some (.int 12),some (.int b),some (.int fi),some (.int la),some (.int lo),some (.int mo),some (.int oe),some (.int xl),some (.int xh)]/\H=H2/\xl<=xh/\xh<=xl+6) (fun N hN=>?_) ?_
 ·walk_at "gzn"
  exact hN _ _ ⟨_,rfl,rfl,by lia,by lia⟩
 rintro σ z ⟨xh,rfl,rfl,h0,h1⟩
 refine aM (fun σ H2=>∃ x:En,σ=[some (.ref a),some (.int k),some (.int so),some (.int 12),some (.int b),some (.int fi),some (.int la),some (.int lo),some (.int mo),some (.int oe),some (ev x),some (.int xh)]/\H=H2/\(x=none∨x=some xl)) (fun N hN=>?_) ?_
 ·walk_at "gzn"
  exact aL (fun z=>hN _ _ ⟨none,rfl,rfl,.inl rfl⟩) fun z=>aL (fun z=>hN _ _ ⟨none,rfl,rfl,.inl rfl⟩) fun z=>hN _ _ ⟨some xl,rfl,rfl,.inr rfl⟩
 rintro σ z ⟨x,rfl,rfl,ex⟩
 refine aM (fun σ H2=>∃ y:En,σ=[some (.ref a),some (.int k),some (.int so),some (.int 12),some (.int b),some (.int fi),some (.int la),some (.int lo),some (.int mo),some (.int oe),some (ev x),some (ev y)]/\H=H2/\(y=none∨y=some xh)) (fun N hN=>?_) ?_
 ·walk_at "gzn"
  exact aL (fun z=>hN _ _ ⟨none,rfl,rfl,.inl rfl⟩) fun z=>aL (fun z=>hN _ _ ⟨none,rfl,rfl,.inl rfl⟩) fun z=>hN _ _ ⟨some xh,rfl,rfl,.inr rfl⟩
 rintro σ z ⟨y,rfl,rfl,ey⟩
 have sx:c6 x:=by
  rcases ex with rfl|rfl
  ·trivial
  ·exact mH (by lia) (by lia)
 have sy:c6 y:=by
  rcases ey with rfl|rfl
  ·trivial
  ·exact mH (by lia) (by lia)
 have cr:dw x y=false:=by
  rcases ex with rfl|rfl<;>rcases ey with rfl|rfl<;>first|rfl|exact decide_eq_false (by lia)
 walk_at "gzn"
 exact aL (fun z=>⟨by decide,fun r hr=>q r (.stay fi la x y) _ (ak hr) aj ⟨f0,l0,by lia⟩ ⟨sx,sy⟩ cr⟩) fun z=>⟨by decide,fun r hr=>q r (.pace fi la x y) _ (ak hr) aj ⟨f0,l0,by lia⟩ ⟨sx,sy⟩ cr⟩
end
section
seal L2.PE L2.PS L2.aS L2.PA
variable{P:Program}{w:World}{K:PySem.W.Frag}{mg:Str->Option Value}{base:Heap}
theorem oB:∀ {rt:Rt},eY rt->i3 rt->cu rt
 | .leaf _,h,s=>FT h s
 | .nay a,h,s=>oB (rt:=a) h s
 | .both _ _,h,s=>⟨oB h.1 s.1,oB h.2 s.2⟩
 | .either _ _,h,s=>⟨oB h.1 s.1,oB h.2 s.2⟩
theorem bu.tup{H H':Hp}(s:∀ p xs,H p=some (.tup xs)->H' p=some (.tup xs)):∀ {rt:Rt} {v:V},bu H v rt->bu H' v rt
 | .leaf _,_,h=>let ⟨x,e,h⟩:=h;⟨x,e,s _ _ h⟩
 | .nay _,_,h=>let ⟨x,c,e,h,a⟩:=h;⟨x,c,e,s _ _ h,bu.tup s a⟩
 | .both _ _,_,h=>let ⟨x,c,d,e,h,a,b⟩:=h;⟨x,c,d,e,s _ _ h,bu.tup s a,bu.tup s b⟩
 | .either _ _,_,h=>let ⟨x,c,d,e,h,a,b⟩:=h;⟨x,c,d,e,s _ _ h,bu.tup s a,bu.tup s b⟩
theorem Sh{R:V->Rt->Prop}{xs:List V}{cI:List Rt}(h:aD R xs cI)(h2:2<=xs.length):∃ ys x y ss r s,xs=ys++[x,y]/\cI=ss++[r,s]/\aD R ys ss/\R x r/\R y s:=by
 have hd:=aD.drop (xs.length-2) h
 have ht:=aD.take (xs.length-2) h
 have e1:=(List.take_append_drop (xs.length-2) xs).symm
 have e2:=(List.take_append_drop (xs.length-2) cI).symm
 have l2:(xs.drop (xs.length-2)).length=2:=by rw[List.length_drop];lia
 revert hd e1 e2 l2
 generalize xs.drop (xs.length-2)=u
 generalize cI.drop (xs.length-2)=v
 intro hd e1 e2 l2
 match u,v,hd,l2 with
 | [x,y],[r,s],hd,_=>exact⟨_,x,y,_,r,s,e1,e2,ht,hd.1,hd.2.1⟩
theorem mK(ys:List V)(x y:V):(((ys++[x,y]).length:Nat):Int)=(ys.length:Int)+2:=by
 rw[List.length_append]
 rfl
theorem A2(ys:List V)(x y:V):cD (ys++[x,y]) (-1)=some y:=by
 unfold cD fU
 rw[if_neg (by decide),if_pos (by rw[mK];lia),mK,show (-1+((ys.length:Int)+2)).toNat=ys.length+1 by lia]
 show (ys++[x,y])[ys.length+1]?=some y
 rw[List.getElem?_append_right (by lia),Nat.add_sub_cancel_left]
 rfl
theorem Si(ys:List V)(x y:V):cD (ys++[x,y]) (-2)=some x:=by
 unfold cD fU
 rw[if_neg (by decide),if_pos (by rw[mK];lia),mK,show (-2+((ys.length:Int)+2)).toNat=ys.length by lia]
 show (ys++[x,y])[ys.length]?=some x
 rw[List.getElem?_append_right (Nat.le_refl _),Nat.sub_self]
 rfl
theorem Sj(ys:List V)(x y:V):fU (ys++[x,y]).length (-1)=some (ys.length+1):=by
 unfold fU
 rw[if_neg (by decide),if_pos (by rw[mK];lia),mK,show (-1+((ys.length:Int)+2)).toNat=ys.length+1 by lia]
theorem Sk(ys:List V)(x y z:V):(ys++[x,y]).set (ys.length+1) z=ys++[x,z]:=by
 rw[List.set_append_right _ _ (by lia),Nat.add_sub_cancel_left]
 rfl
theorem Sl(ys:List V)(x y:V):eF (ys++[x,y]) none (some (-2))=ys:=by
 have e:HT.bb (ys++[x,y]).length (ys++[x,y]).length (some (-2))=ys.length:=by
  show (if (-2:Int)<0 then ((-2:Int)+((ys++[x,y]).length:Int)).toNat else min (-2:Int).toNat (ys++[x,y]).length)=_
  rw[if_pos (by decide),mK]
  lia
 unfold eF
 rw[HT.vG,e,List.drop_zero,Nat.sub_zero,List.take_left']
 rfl
inductive Gv(H:Hp)(a:Addr)(b m:Int)(i:Nat)(σ:St)(H1:Hp):Prop
 | mk(l:Addr)(xs:List V)(cI:List Rt)(e1 e2 e3:Option V)(_:σ=[some (.ref a),some (.int b),some (.int m),some (.ref l),e1,e2,e3])(_:ai H H1)(_:H l=none)(_:H1 l=some (.lst xs))(_:aD (bu H1) xs cI)(_:(∀ rt∈cI,uB rt/\gZ rt))(_:cI.length<=i)(_:(0<i->cI≠[]))
inductive Sm(K:PySem.W.Frag)(vs:List V)(H:Hp)(Q:VK)(aW:XK):Prop
 | mk(a:Addr)(ns:List Int)(b m:Int)(_:vs=[.ref a,.int b,.int m])(_:ar K H a (ns.map V.int))(_:fY ns)(_ : -999999999999999999999999999999999999999999999999999999999900<=b)(_:b<=999999999999999999999999999999999999999999999999999999999900)(_:1<=m)(_:m<=44)(_:∀ l xs cI H',ai H H'->H' l=some (.lst xs)->aD (bu H') xs cI->(∀ rt∈cI,uB rt/\gZ rt)->cI.length<=44->cI≠[]->Q (.ref l) H')
theorem Sn(T:Tx w K mg):Ok P w base 132 T.qA (Sm K):=by
 refine bE kq ?_
 rintro v v v v H v v v hr ⟨a,ns,b,m,rfl,hS,hn,b0,b1,m1,VF,q⟩
 refine⟨_,(aq (aN 3 kq.nd (ck ah)) (aq (jV PassesOwn.never rfl (rW rfl T.jF (ae (aa 2) ah)) (jw 4 kq.nd) (aq (aN 5 kq.nd (aJ (dm T) hr (ae (aa 0) (ae (ax a9 ag (aa 4)) (ae ag (ae ag ah)))))) (ao (aE (PW.pt (dn (tP (aa 5) ag) (eS (tP (bj c8 (by rfl) T.dj df (ae (aa 3) ah)) ag)))) (ao (fh (eN PySem.F.plainAttrs_list PySem.F.slot_list_append PySem.F.type_list_append lF (aa 3) (ae (aJ (Sg T) hr (ae (aa 0) (ae (ax a9 ag (ax xu ag (aa 4))) (ae (aJ (dm T) hr (ae (aa 0) (ae (ax a9 ag (aa 4)) (ae ag (ae ag ah))))) (ae ag (ae (aa 1) ah)))))) ah)))) (ao (aE (aP (aa 5) ag) (ao (aE (tP (bj c8 (by rfl) T.dj df (ae (aJ (uD T 128) hr (ae (aw (aa 3) (jX ke ag)) ah)) ah)) ag) (ao (II (bg (ae au (ae (aw (aa 3) (jX ke ag)) ah))) (IH (aa 3) (jX ke ag) set_list))) aH)) (aq (aN 6 kq.nd (bg (ae (aw (bg (ae au (ae au ah))) (aJ (dm T) hr (ae (aa 0) (ae (ax a9 ag (aa 4)) (ae ag (ae ag ah)))))) (ae (aw (aa 3) (jX ke ag)) (ae (aw (aa 3) (jX ke ag)) ah))))) (ao (aE (PW.pt (lx (D7 (bj c8 (by rfl) T.dj df (ae (aJ (uD T 128) hr (ae (aa 6) ah)) ah)) ag) (mZ (D7 (bj (xw rfl) (by rfl) T.qM pj (ae (aJ (uO T 128) hr (ae (aa 6) ah)) ah)) ag)))) (ao (aN 3 kq.nd (ax dt (cM fv (aa 3) de (cy (jX ke ag))) (ck (ae (aa 6) ah))))) aH))))))))) (ao (ay (aa 3))))),?_⟩
 refine aM (fun σ H1=>∃ l,σ=[some (.ref a),some (.int b),some (.int m),some (.ref l),none,none,none]/\ai H H1/\H l=none/\H1 l=some (.lst [])) (fun N hN=>?_) ?_
 ·walk_at "gzn"
  exact⟨by decide,fun l fl=>hN _ _ ⟨l,rfl,ak fl,fl,aj⟩⟩
 rintro σ H1 ⟨l,rfl,s1,fl,hl⟩
 walk_at "gzn"
 refine⟨by lia,by lia,CI (Gv H a b m) ⟨l,[],[],_,_,_,rfl,s1,fl,hl,trivial,fun v h=>absurd h List.not_mem_nil,Nat.le_refl _,fun h=>absurd h (Nat.lt_irrefl _)⟩ ?_ ?_⟩
 ·clear hl s1 fl
  rintro i σ H1 hi ⟨l,xs,cI,e1,e2,e3,rfl,s1,fl,hl,hA,aA,hlen,dM⟩
  have hx:=hA.len
  refine aM (fun σ H2=>∃ p:Int,σ=[some (.ref a),some (.int b),some (.int m),some (.ref l),some (.int (0+(i:Int))),some (.int p),e3]/\H1=H2/\0<=p/\p<5) (fun N hN=>?_) ?_
  ·walk_at "gzn"
   exact⟨a,ns,_,_,_,rfl,s1.seq hS,hn,by lia,by lia,by lia,fun p p1 p2=>hN _ _ ⟨p,rfl,rfl,p1,p2⟩⟩
  rintro σ v ⟨p,rfl,rfl,p0,p5⟩
  have tp:∀ {H2:Hp} {o:HO},ai H1 H2->∀ p xs,H1 p=some (.tup xs)->upd H2 l o p=some (.tup xs):=fun s2 p ys e=>by
   rw[aO (fun z=>by rw[z,hl] at e;cases e)]
   exact s2 _ _ e
  refine M9 fun B hB=>?_
  have app:∀ D:Ends,D.nx=Gv H a b m (i+1)->B D [some (.ref a),some (.int b),some (.int m),some (.ref l),some (.int (0+(i:Int))),some (.int p),e3] H1:=fun D hD=>by
   subst hB
   walk_at "gzn"
   rw[hD]
   refine⟨.inl ⟨rfl,_,ar.of hl⟩,v5 (by lia) (by lia),a,ns,_,_,_,rfl,s1.seq hS,hn,by lia,by lia,by lia,fun so VG VH=>?_⟩
   walk_at "gzn"
   refine⟨a,ns,_,so,b,rfl,s1.seq hS,hn,by lia,b0,b1,fun r tr H2 s2 hr gd sm cr=>?_⟩
   refine⟨_,s2 _ _ hl,Nat.lt_of_le_of_lt (show xs.length<=44 by lia) (by decide),l,xs++[.ref r],cI++[.leaf tr],_,_,_,rfl,dJ fl (s1.trans s2),fl,aj,?_,fun rt h=>?_,?_,fun v z=>by simp at z⟩
   ·refine (hA.imp fun x c z=>z.tup (tp s2)).snoc ⟨r,rfl,?_⟩
    rw[aO (fun z=>by rw[z,s2 _ _ hl] at hr;cases hr)]
    exact hr
   ·rcases List.mem_append.mp h with h|h
    ·exact aA rt h
    ·obtain rfl:=List.mem_singleton.mp h
     exact⟨⟨gd,sm,by show (dg tr).length<=60;cases tr<;>simp[dg]⟩,cr⟩
   ·rw[List.length_append]
    show cI.length+1<=i+1
    lia
  clear hB
  walk_at "gzn"
  refine aL (fun h2=>app _ rfl) fun h2=>⟨_,dI (ar.of hl),aL (fun h3=>app _ rfl) fun h3=>?_⟩
  clear app
  obtain⟨ys,x,y,ss,r,t,rfl,rfl,Gw,lI,fJ⟩:=Sh hA (by lia)
  have ej:=aA t (by simp)
  have mL:=aA r (by simp)
  have VI:=i7 t
  have VJ:=i7 r
  have r6:=mL.1.2.2
  have t6:=ej.1.2.2
  refine aL (fun fL=>bC (ar.of hl) (A2 _ _ _) ⟨y,t,rfl,fJ,dW ej.1.1,ej.1.2.1,by lia,by lia,fun l2 H2 s2 h2=>⟨_,dI (ar.of h2),aL (fun h6=>bC (ar.of (s2 _ _ hl)) (A2 _ _ _) ⟨bJ,fun z hz=>⟨_,ak hz _ _ (s2 _ _ hl),_,Sj _ _ _,?_⟩⟩) fun v=>?_⟩⟩) fun fL=>?_
  ·rw[Sk]
   rw[List.length_map] at h6
   have sz:=s2.trans (ak (o:=.tup [.str "not",y]) hz)
   have nz:z≠l:=fun e=>by rw[e,s2 _ _ hl] at hz;cases hz
   refine⟨l,ys++[x,.ref z],ss++[r,.nay t],_,_,_,rfl,dJ fl (s1.trans sz),fl,aj,?_,fun rt h=>?_,?_,fun v z=>by simp at z⟩
   ·refine aD.app (Gw.imp fun x c z=>z.tup (tp sz)) ⟨lI.tup (tp sz),⟨z,y,rfl,?_,fJ.tup (tp sz)⟩,trivial⟩
    rw[aO nz,aj]
   ·simp only[List.mem_append,List.mem_cons,List.not_mem_nil,or_false] at h
    rcases h with h|rfl|rfl
    ·exact aA rt (by simp[h])
    ·exact mL
    ·exact⟨⟨ej.1.1,ej.1.2.1,by show (az t).length+1<=60;lia⟩,ej.2⟩
   ·simp only[List.length_append,List.length_cons,List.length_nil] at hlen ⊢
    lia
  ·exact⟨l,_,_,_,_,_,rfl,s1.trans s2,fl,s2 _ _ hl,hA.imp fun x c z=>z.same s2,aA,by lia,fun v z=>by simp at z⟩
  ·refine⟨bJ,fun z0 Gx=>⟨a,ns,_,_,_,rfl,(ak Gx).seq (s1.seq hS),hn,by lia,by lia,by lia,fun dr d0 d1=>?_⟩⟩
   obtain⟨wd,C,hw,hC⟩:∃ wd C,cD [V.str "both",V.str "either"] dr=some (.str wd)/\((wd = "both" /\ C=Rt.both r t)∨(wd = "either" /\ C = .either r t)):=by
    rcases (by lia:dr=0∨dr=1) with rfl|rfl
    ·exact⟨_,_,rfl,.inl ⟨rfl,rfl⟩⟩
    ·exact⟨_,_,rfl,.inr ⟨rfl,rfl⟩⟩
   have fc:eY C/\i3 C/\uy C/\gZ C/\aG C=aG r+aG t+1/\(az C).length=(az r).length+(az t).length+1/\((aT C).1<=100->(aT C).2<=100->cn C):=by
    rcases hC with ⟨v,rfl⟩|⟨v,rfl⟩<;>exact⟨⟨dW mL.1.1,dW ej.1.1⟩,⟨mL.1.2.1,ej.1.2.1⟩,⟨mL.1.1,ej.1.1⟩,⟨mL.2,ej.2⟩,rfl,by show (az r++az t).length+1=_;rw[List.length_append],fun z1 z2=>⟨mL.1.1,ej.1.1,z1,z2⟩⟩
   obtain⟨A3,A4,oM,So,VL,VM,Sq⟩:=fc
   have atC:∀ {p:Addr} {H2:Hp},H2 p=some (.tup [.str wd,x,y])->bu H2 x r->bu H2 y t->bu H2 (.ref p) C:=fun h1 h2 h3=>by
    rcases hC with ⟨rfl,rfl⟩|⟨rfl,rfl⟩<;>exact⟨_,x,y,rfl,h1,h2,h3⟩
   have u0:=ak (o:=.tup [.str "both",.str "either"]) Gx
   refine aQ (aB.of aj) hw (bC (ar.of (u0 _ _ hl)) (Si _ _ _) (bC (ar.of (u0 _ _ hl)) (A2 _ _ _) ⟨by decide,fun pt Sr=>?_⟩))
   have u1:=u0.trans (ak (o:=.tup [.str wd,x,y]) Sr)
   refine⟨.ref pt,C,rfl,atC aj (lI.same u1) (fJ.same u1),A3,A4,by lia,by lia,fun l2 H2 s2 h2=>⟨_,dI (ar.of h2),aL (fun h6=>?_) fun v=>?_⟩⟩
   ·have Gy:=s2 _ _ (aj (H:=upd H1 z0 (.tup [.str "both",.str "either"])) (a:=pt) (o:=.tup [.str wd,x,y]))
    replace u1:=u1.trans s2
    rw[List.length_map] at h6
    refine⟨.ref pt,C,rfl,atC Gy (lI.same u1) (fJ.same u1),(oB A3 A4),(by have:=k9 C;lia),by lia,fun l3 H3 s3 h3=>⟨l3,rfl,[_,_],aB.of h3,by simp,aL (fun h9=>?_) fun v=>?_⟩⟩
    ·replace u1:=u1.trans s3
     have Ss:=s3 _ _ Gy
     have h7:=(lQ (ns:=[(bY C).1,(bY C).2]) (by simp)).2
     have g1:=h7 _ (.head _)
     have g2:=h7 _ (.tail _ (.head _))
     have ce:=iz A3
     rw[ce] at g1 g2 h9
     have Su:uB C/\gZ C:=⟨⟨Sq (by lia) (by lia),A4,by lia⟩,So⟩
     refine⟨_,ar.of (u1 _ _ hl),fun p1 f1=>⟨by decide,fun p2 f2=>?_⟩⟩
     rw[Sl] at f2 ⊢
     refine⟨_,ak f2 _ _ aj,_,aj,Nat.le_trans (show ys.length+1<=45 by simp only[List.length_append,List.length_cons,List.length_nil] at hlen hx;lia) (by decide),fun p3 f3=>?_⟩
     have u2:=u1.trans ((ak f1).trans ((ak f2).trans (ak (o:=.lst (ys++[.ref pt])) f3)))
     have u3:ai H3 _:=(ak f1).trans ((ak f2).trans (ak (o:=.lst (ys++[.ref pt])) f3))
     refine⟨p3,ys++[.ref pt],ss++[C],_,_,_,rfl,s1.trans u2,?_,aj,(Gw.imp fun x c z=>z.same u2).snoc (atC (u3 _ _ Ss) (lI.same u2) (fJ.same u2)),fun rt h=>?_,?_,fun v z=>by simp at z⟩
     ·exact (s1.trans (u1.trans ((ak f1).trans (ak f2)))).free f3
     ·rcases List.mem_append.mp h with h|h
      ·exact aA rt (by simp[h])
      ·obtain rfl:=List.mem_singleton.mp h
       exact Su
     ·simp only[List.length_append,List.length_cons,List.length_nil] at hlen ⊢
      lia
    ·exact⟨l,_,_,_,_,_,rfl,s1.trans (u1.trans s3),fl,(u1.trans s3) _ _ hl,hA.imp fun x c z=>z.same (u1.trans s3),aA,by lia,fun v z=>by simp at z⟩
   ·exact⟨l,_,_,_,_,_,rfl,s1.trans (u1.trans s2),fl,(u1.trans s2) _ _ hl,hA.imp fun x c z=>z.same (u1.trans s2),aA,by lia,fun v z=>by simp at z⟩
 ·rintro σ H1 ⟨l,xs,cI,e1,e2,e3,rfl,s1,fl,hl,hA,aA,hlen,dM⟩
  walk_at "gzn"
  exact q l xs cI H1 s1 hl hA aA (by lia) (dM (by lia))
end
section
seal L2.PE L2.PS L2.aS L2.PA
variable{P:Program}{w:World}{K:PySem.W.Frag}{mg:Str->Option Value}{base:Heap}
theorem Sv{K:PySem.W.Frag}:PySem.W.kitOne K (.type "str") (.type "tuple")=some false:=ph (by decide +kernel) (by decide +kernel) (by decide)
theorem A5{K:PySem.W.Frag}{H:Hp}{Q:VK}{x:Str}(q:Q (.bl false) H):ib K (.str x) (.ty "tuple") H Q:=⟨_,_,dq.str x,(fun z=>nomatch z),Sv,q⟩
def iD(H:Hp)(v:V):It->Prop
 | .w x=>v = .str x
 | .t rt=>bu H v rt
theorem iD.tup{H H':Hp}(s:∀ p xs,H p=some (.tup xs)->H' p=some (.tup xs)){v:V}{i:It}(h:iD H v i):iD H' v i:=by
 cases i with
 | w x=>exact h
 | t rt=>exact bu.tup s h
theorem uS{H:Hp}{v:V}{rt:Rt}(h:bu H v rt):∃ p xs,v = .ref p/\H p=some (.tup xs):=by
 cases rt with
 | leaf t=>obtain⟨p,e,h⟩:=h;exact⟨p,_,e,h⟩
 | nay a=>obtain⟨p,x,e,h,z⟩:=h;exact⟨p,_,e,h⟩
 | both a b=>obtain⟨p,x,y,e,h,z⟩:=h;exact⟨p,_,e,h⟩
 | either a b=>obtain⟨p,x,y,e,h,z⟩:=h;exact⟨p,_,e,h⟩
def GA(c:PySem.Str)(i:It)(v u:V):Prop:=(c = "r" /\ (∃ rt,i = .t rt)/\u=v)∨(c ≠ "r" /\ ∃ e,i = .w (bL e)/\c6 e/\oz c e/\u=ev e)
inductive Sw(vs:List V)(H:Hp)(Q:VK)(aW:XK):Prop
 | mk(c:PySem.Str)(v:V)(i:It)(_:vs=[.str c,v])(_:iD H v i)(_:(∀ x,i = .w x->x.length<=100000))(_:(c = "r" ∨ c = "n" ∨ c = "e"))(_:(∀ u p H',GA c i v u->ai H H'->H' p=some (.tup [u])->Q (.ref p) H'))(_:((∀ u,¬ GA c i v u)->∀ H',ai H H'->Q .non H'))
theorem Sx(T:Tx w K mg):Ok P w base 2 T.qC Sw:=by
 refine bE uf ?_
 rintro y y y y H y Q y hr ⟨c,v,i,rfl,hi,hb,hc,q,q0⟩
 refine⟨_,(aq (aE (aP (aa 0) au) (aq (aE (d9 (bj vZ (by rfl) T.gT gG (ae (aa 1) (ae (vf (v:=.ty "tuple") rfl T.Ah vX rfl) ah)))) (ao (ay (bg (ae (aa 1) ah)))) aH) (ao (ay cK))) aH) (aq (aE (d9 (bj vZ (by rfl) T.gT gG (ae (aa 1) (ae (vf (v:=.ty "tuple") rfl T.Ah vX rfl) ah)))) (ao (ay cK)) aH) (aq (aE (PW.pt (lx (aP (aa 0) au) (mZ (aP (aa 1) au)))) (ao (ay (bg (ae cK ah)))) aH) (aq (aN 2 uf.nd (aJ (Sb T) hr (ae (aa 1) ah))) (aq (aE (nO (aa 2)) (ao (ay cK)) aH) (ao (ay (bg (ae (aa 2) ah))))))))),?_⟩
 by_cases cr:c = "r"
 ·subst cr
  cases i with
  | w x =>
   have hi:v = .str x:=hi
   subst hi
   walk_at "gzn"
   refine A5 ?_
   walk_at "gzn"
   exact q0 (fun u z=>z.elim (fun z=>by obtain⟨y,⟨y,e⟩,y⟩:=z;cases e) fun z=>z.1 rfl) _ (ai.refl _)
  | t rt =>
   obtain⟨p,xs,rfl,hp⟩:=uS hi
   walk_at "gzn"
   refine v3 hp ?_
   walk_at "gzn"
   exact⟨by decide,fun r hr=>q _ r _ (.inl ⟨rfl,⟨rt,rfl⟩,rfl⟩) (ak hr) aj⟩
 ·cases i with
  | t rt =>
   obtain⟨p,xs,rfl,hp⟩:=uS hi
   walk_at "gzn"
   rw[if_neg cr]
   refine v3 hp ?_
   walk_at "gzn"
   exact q0 (fun u z=>z.elim (fun z=>cr z.1) fun z=>by obtain⟨y,y,e,y⟩:=z;cases e) _ (ai.refl _)
  | w x =>
   have hi:v = .str x:=hi
   subst hi
   have hx:=hb x rfl
   walk_at "gzn"
   rw[if_neg cr]
   refine A5 ?_
   walk_at "gzn"
   have go:¬ (c = "e" /\ x = "*")->(∀ n H',dR x=true->x=bz n->n.natAbs<10 ^ 60->ai H H'->∀ r,H' r=none->Q (.ref r) (upd H' r (.tup [.int n])))/\(dR x=false->∀ H',ai H H'->Q .non H'):=fun dM=>by
    refine⟨fun n H' hn e hs s1 r hr=>q (.int n) r _ (.inr ⟨cr,some n,by rw[e];rfl,hs,?_,rfl⟩) (s1.trans (ak hr)) aj,fun hn H' s1=>q0 (fun u z=>?_) _ s1⟩
    ·rcases hc with h|rfl|rfl
     ·exact absurd h cr
     ·exact .inr ⟨rfl,fun z=>nomatch z⟩
     ·exact .inl rfl
    ·rcases z with z|⟨y,e,he,hs,hf,y⟩
     ·exact cr z.1
     ·injection he with he
      cases e with
      | none =>
       rcases hf with hf|⟨y,hf⟩
       ·exact dM ⟨hf,he⟩
       ·exact hf rfl
      | some n =>
       rw[he,show dR (bL (some n))=true from EH hs] at hn
       cases hn
   refine aL (fun ce=>aL (fun xe=>⟨by decide,fun r hr=>q .non r _ (.inr ⟨cr,none,by rw[xe];rfl,trivial,.inl ce,rfl⟩) (ak hr) aj⟩) fun xe=>?_) fun ce=>?_
   ·obtain⟨g1,g2⟩:=go fun z=>xe z.2
    exact⟨x,rfl,hx,fun n H' hn e hs s1=>⟨by decide,g1 n H' hn e hs s1⟩,fun hn H' s1=>g2 hn H' s1⟩
   ·obtain⟨g1,g2⟩:=go fun z=>ce z.1
    exact⟨x,rfl,hx,fun n H' hn e hs s1=>⟨by decide,g1 n H' hn e hs s1⟩,fun hn H' s1=>g2 hn H' s1⟩
end
section
seal L2.PE L2.PS L2.aS L2.PA
variable{P:Program}{w:World}{K:PySem.W.Frag}{mg:Str->Option Value}{base:Heap}
theorem GB{H:Hp}:∀ {us:List V} {cs:List Rt},aD (iD H) us (cs.map It.t)->aD (bu H) us cs
 | [],[],_=>trivial
 | _::_,_::_,h=>⟨h.1,GB h.2⟩
 | [],_::_,h=>h.elim
 | _::_,[],h=>h.elim
theorem Sy{H:Hp}{p:Addr}{us:List V}{rt:Rt}(hL:∀ t,rt ≠ .leaf t)(hp:H p=some (.tup (.str (cV rt)::us)))(hA:aD (bu H) us (eR rt)):bu H (.ref p) rt:=by
 cases rt with
 | leaf t=>exact absurd rfl (hL t)
 | nay a =>
  match us,hA with
  | [x],hA=>exact⟨p,x,rfl,hp,hA.1⟩
 | both a b =>
  match us,hA with
  | [x,y],hA=>exact⟨p,x,y,rfl,hp,hA.1,hA.2.1⟩
 | either a b =>
  match us,hA with
  | [x,y],hA=>exact⟨p,x,y,rfl,hp,hA.1,hA.2.1⟩
inductive Sz(K:PySem.W.Frag)(vs:List V)(H:Hp)(Q:VK)(aW:XK):Prop
 | mk(x:PySem.Str)(_:vs=[.str x])(_:x.length<=100000)(_:(∀ rt v H',ef (Txt.split x BL) rt->ai H H'->bu H' v rt->Q v H'))(_:((¬ ∃ rt,ef (Txt.split x BL) rt)->∀ H',ai H H'->Q .non H'))
inductive SA(H:Hp)(x:PySem.Str)(nd wl l:Addr)(ws:List PySem.Str)(i:Nat)(σ:St)(H1:Hp):Prop
 | mk(xs:List V)(bq:List It)(e1 e2 e3 e4:Option V)(_:σ=[some (.str x),some (.ref nd),some (.ref wl),some (.ref l),e1,e2,e3,e4])(_:ai H H1)(_:H1 l=some (.lst xs.reverse))(_:aD (iD H1) xs bq)(_:(∀ i∈bq,uP i))(_:(∀ y,.w y∈bq->y∈ws))(_:ws.drop (ws.length-i)=bq.flatMap dF)(_:H1 nd=some (.dK gB))(_:H1 wl=some (.lst (ws.map V.str)))(_:xs.length<=i)
inductive SD(H:Hp)(x:PySem.Str)(nd wl l:Addr)(y f:PySem.Str)(ws:List PySem.Str)(xs:List V)(bq:List It)(i:Nat)(σ:St)(H1:Hp):Prop
 | mk(es:List En)(tr:Addr)(e3 e4:Option V)(_:σ=[some (.str x),some (.ref nd),some (.ref wl),some (.ref l),some (.str y),some (.ref tr),e3,e4])(_:ai H H1)(_:H1 l=some (.lst (xs.drop i).reverse))(_:aD (iD H1) xs bq)(_:H1 tr=some (.tup (.str y::es.map ev)))(_:es.length=i)(_:(∀ o∈es,c6 o))(_:(∀ (j:Nat) (c:PySem.Str) (o:En),(aU f)[j]?=some (V.str c)->es[j]?=some o->oz c o))(_:bq.take i=es.map (fun e=>It.w (bL e)))(_:H1 nd=some (.dK gB))(_:H1 wl=some (.lst (ws.map V.str)))
inductive SE(H:Hp)(x:PySem.Str)(nd wl l:Addr)(y:PySem.Str)(ws:List PySem.Str)(xs:List V)(bq:List It)(i:Nat)(σ:St)(H1:Hp):Prop
 | mk(cs:List Rt)(tr:Addr)(e3 e4:Option V)(_:σ=[some (.str x),some (.ref nd),some (.ref wl),some (.ref l),some (.str y),some (.ref tr),e3,e4])(_:ai H H1)(_:H1 l=some (.lst (xs.drop i).reverse))(_:aD (iD H1) xs bq)(_:H1 tr=some (.tup (.str y::xs.take i)))(_:cs.length=i)(_:bq.take i=cs.map It.t)(_:H1 nd=some (.dK gB))(_:H1 wl=some (.lst (ws.map V.str)))
theorem SF(T:Tx w K mg):Ok P w base 3 T.qD (Sz K):=by
 refine bE ir ?_
 rintro n n n s H n n n hr ⟨x,rfl,hx,q,q0⟩
 refine⟨_,(aq (aN 1 ir.nd (Ml (nH au au (nH au au (nH au au (nH au au (nH au au (nH au au Mi)))))) rfl rfl (by simp) (by decide))) (aq (wR (pd hr) (aa 1) au au rfl) (aq (wR (pd hr) (aa 1) au au rfl) (aq (wR (pd hr) (aa 1) au au rfl) (aq (aN 2 ir.nd (eN PySem.F.plainAttrs_str PySem.F.slot_str_split PySem.F.type_str_split Eu (aa 0) (ae au ah))) (aq (aE (nN (bj c8 (by rfl) T.dj df (ae (aa 2) ah)) ag) (ao (ay cK)) aH) (aq (aN 3 ir.nd (ck ah)) (aq (jV PassesOwn.never rfl (LD rfl T.N2 (ae (aa 2) ah)) (jw 4 ir.nd) (aq (aE (rP (Mg (pd hr) (aa 4) (aa 1))) (aq (fh (eN PySem.F.plainAttrs_list PySem.F.slot_list_append PySem.F.type_list_append lF (aa 3) (ae (aa 4) ah))) (ao IB)) aH) (aq (aN 5 ir.nd (bg (ae (aa 4) ah))) (aq (jV PassesOwn.never rfl (tV (Mf (pd hr) (aa 1) (aa 4) (fun n n=>rfl))) (jw 6 ir.nd) (aq (aE (aP (bj c8 (by rfl) T.dj df (ae (aa 3) ah)) ag) (ao (ay cK)) aH) (aq (aN 7 ir.nd (aJ (Sx T) hr (ae (aa 6) (ae (Cu PySem.F.plainAttrs_list PySem.F.slot_list_pop PySem.F.type_list_pop J0 (aa 3)) ah)))) (aq (aE (nO (aa 7)) (ao (ay cK)) aH) (ao (aN 5 ir.nd (ax JK (aa 5) (aa 7)))))))) (ao (fh (eN PySem.F.plainAttrs_list PySem.F.slot_list_append PySem.F.type_list_append lF (aa 3) (ae (aa 5) ah)))))))) (aq (aE (PW.pt (dn (tR (bj c8 (by rfl) T.dj df (ae (aa 3) ah)) ag) (eS (jg (d9 (bj vZ (by rfl) T.gT gG (ae (aw (aa 3) ag) (ae (vf (v:=.ty "tuple") rfl T.Ah vX rfl) ah)))))))) (ao (ay cK)) aH) (ao (ay (aw (aa 3) ag)))))))))))),?_⟩
 refine aM (fun σ H1=>∃ nd,σ=[some (.str x),some (.ref nd),none,none,none,none,none,none]/\ai H H1/\H nd=none/\H1 nd=some (.dK (gB.take 6))) (fun N hN=>?_) ?_
 ·walk_at "gzn"
  intro nd fn
  dsimp only [tF,tC]
  exact⟨aj,gB.take 6,rfl,by decide,hN _ _ ⟨nd,rfl,dJ fn (ak fn),fn,by rw[aj];rfl⟩⟩
 rintro σ H1 ⟨nd,rfl,s1,fn,A6⟩
 refine aM (fun σ H2=>σ=[some (.str x),some (.ref nd),none,none,none,none,none,none]/\ai H H2/\H2 nd=some (.dK (gB.take 7))) (fun N hN=>?_) ?_
 ·dsimp only [tE]
  walk_at "gzn"
  exact⟨_,jr.k (k:=.inr "both") A6 (by decide),hN _ _ ⟨rfl,dJ fn s1,by rw[aj];rfl⟩⟩
 rintro σ H2 ⟨rfl,s2,o5⟩
 refine aM (fun σ H2=>σ=[some (.str x),some (.ref nd),none,none,none,none,none,none]/\ai H H2/\H2 nd=some (.dK (gB.take 8))) (fun N hN=>?_) ?_
 ·dsimp only [tE]
  walk_at "gzn"
  exact⟨_,jr.k (k:=.inr "either") o5 (by decide),hN _ _ ⟨rfl,dJ fn s2,by rw[aj];rfl⟩⟩
 rintro σ H3 ⟨rfl,s3,SG⟩
 refine aM (fun σ H2=>σ=[some (.str x),some (.ref nd),none,none,none,none,none,none]/\ai H H2/\H2 nd=some (.dK gB)) (fun N hN=>?_) ?_
 ·dsimp only [tE]
  walk_at "gzn"
  exact⟨_,jr.k (k:=.inr "not") SG (by decide),hN _ _ ⟨rfl,dJ fn s3,by rw[aj];rfl⟩⟩
 rintro σ H4 ⟨rfl,s4,SH⟩
 have hb:∀ y∈Txt.split x BL,y.length<=100000:=fun y hy=>by
  rw[show BL=(⟨#[32]⟩:PySem.Str) from rfl,Ep x 32 (by decide)] at hy
  obtain⟨w,hw,rfl⟩:=List.mem_map.mp hy
  have:=rC hw
  rw[str_len] at hx ⊢
  show (jy w).cps.toList.length<=_
  unfold jy
  simp only[List.toList_toArray]
  lia
 generalize hws:Txt.split x BL=ws at *
 refine aM (fun σ H5=>∃ wl,σ=[some (.str x),some (.ref nd),some (.ref wl),none,none,none,none,none]/\ai H4 H5/\H5 wl=some (.lst (ws.map V.str))) (fun N hN=>?_) ?_
 ·walk_at "gzn"
  refine⟨rfl,x,rfl,BL,rfl,by decide,Nat.le_trans (Nat.add_le_add_right hx 2) (by decide),fun l fl=>?_⟩
  rw[hws]
  exact hN _ _ ⟨l,rfl,ak fl,aj⟩
 rintro σ H5 ⟨wl,rfl,s5,rH⟩
 have ll:(ws.map V.str).length=ws.length:=List.length_map _
 refine aM (fun σ H6=>σ=[some (.str x),some (.ref nd),some (.ref wl),none,none,none,none,none]/\H5=H6/\ws.length<=60) (fun N hN=>?_) ?_
 ·walk_at "gzn"
  refine⟨_,dI (ar.of rH),?_⟩
  rw[ll]
  refine aL (fun h=>q0 (fun ⟨rt,z⟩=>?_) _ (s4.trans s5)) fun h=>hN _ _ ⟨rfl,rfl,by lia⟩
  have:=z.2.2
  lia
 rintro σ H6 ⟨rfl,rfl,i5⟩
 refine aM (fun σ H6=>∃ l,σ=[some (.str x),some (.ref nd),some (.ref wl),some (.ref l),none,none,none,none]/\ai H5 H6/\H5 l=none/\H6 l=some (.lst [])) (fun N hN=>?_) ?_
 ·walk_at "gzn"
  exact⟨by decide,fun l fl=>hN _ _ ⟨l,rfl,ak fl,fl,aj⟩⟩
 rintro σ H6 ⟨l,rfl,s6,fl,SI⟩
 have uT:H l=none:=(s4.trans s5).free fl
 have SJ:H5 l=none:=fl
 refine aM (fun σ H7=>∃ (xs:List V) (bq:List It) (e1 e2 e3 e4:Option V),σ=[some (.str x),some (.ref nd),some (.ref wl),some (.ref l),e1,e2,e3,e4]/\ai H H7/\H7 l=some (.lst xs.reverse)/\aD (iD H7) xs bq/\(∀ i∈bq,uP i)/\ws=bq.flatMap dF) (fun N hN=>?_) ?_
 ·walk_at "gzn"
  refine⟨_,ar.of (s6 _ _ rH),LI (xs:=ws.map V.str) (SA H x nd wl l ws) ⟨[],[],_,_,_,_,rfl,s4.trans (s5.trans s6),SI,trivial,fun n h=>absurd h List.not_mem_nil,fun n h=>absurd h List.not_mem_nil,by rw[Nat.sub_zero,List.drop_length];rfl,(s5.trans s6) _ _ SH,s6 _ _ rH,Nat.le_refl _⟩ (fun i σ H7 _ ⟨_,_,_,_,_,_,_,_,_,_,_,_,_,_,hw,_⟩=>ar.of hw) ?_ ?_⟩
  ·rintro i v σ H7 hv ⟨xs,bq,e1,e2,e3,e4,rfl,s7,hl,hA,aA,gy,hsf,cP,nj,kZ⟩
   have SK:i<ws.length:=by
    have:=(List.getElem?_eq_some_iff.mp hv).1
    rw[List.length_reverse,ll] at this
    exact this
   obtain⟨y,rfl,hy⟩:∃ y,v = .str y/\ws[ws.length-(i+1)]?=some y:=by
    rw[List.getElem?_reverse (by rw[ll];exact SK),ll,List.getElem?_map] at hv
    obtain⟨y,hy,rfl⟩:=Option.map_eq_some_iff.mp hv
    exact⟨y,rfl,by rw[show ws.length-(i+1)=ws.length-1-i by lia];exact hy⟩
   have gX:=(List.getElem?_eq_some_iff.mp hy).1
   have ym:=List.mem_of_getElem? hy
   have dy:ws.drop (ws.length-(i+1))=y::bq.flatMap dF:=by
    rw[List.drop_eq_getElem_cons gX,(List.getElem?_eq_some_iff.mp hy).2,show ws.length-(i+1)+1=ws.length-i by lia,hsf]
   have tp:∀ {H2:Hp} {o:HO},ai H7 H2->∀ p xs,H7 p=some (.tup xs)->upd H2 l o p=some (.tup xs):=fun s2 p ys e=>by
    rw[aO (fun z=>by rw[z,hl] at e;cases e)]
    exact s2 _ _ e
   have nl:nd≠l:=fun z=>by rw[z,hl] at cP;cases cP
   have uU:wl≠l:=fun z=>by rw[z,SJ] at rH;cases rH
   change rS _ _ _ _ _
   refine aM (fun σ H8=>∃ f,σ=[some (.str x),some (.ref nd),some (.ref wl),some (.ref l),some (.str y),e2,e3,e4]/\H8=H7/\bX gB (.inr y)=some (.str f)/\(rF y f∨rG y f)) (fun N hN=>?_) ?_
   ·dsimp only [DS]
    walk_at "gzn"
    refine⟨nd,_,rfl,fZ.k (k:=.inr y) cP,?_⟩
    rcases RW (x:=y) with ⟨f,hf,hk⟩|⟨SM,SN⟩
    ·rw[hf]
     walk_at "gzn"
     exact hN _ _ ⟨f,rfl,rfl,hf,hk⟩
    ·rw[SM]
     walk_at "gzn"
     refine⟨.inl ⟨rfl,_,ar.of hl⟩,_,hl,by rw[List.length_reverse];exact Nat.lt_of_le_of_lt (show xs.length<=60 by lia) (by decide),?_⟩
     refine⟨.str y::xs,.w y::bq,_,_,_,_,rfl,dJ uT s7,by rw[aj,List.reverse_cons],⟨rfl,hA.imp fun n n z=>z.tup (tp (ai.refl _))⟩,fun j hj=>?_,fun u hu=>?_,by rw[dy];rfl,by rw[aO nl];exact cP,by rw[aO uU];exact nj,by rw[List.length_cons];lia⟩
     ·rcases List.mem_cons.mp hj with rfl|hj
      ·exact fun z=>z SN
      ·exact aA j hj
     ·rcases List.mem_cons.mp hu with hu|hu
      ·injection hu with hu
       rw[hu]
       exact ym
      ·exact gy u hu
   rintro σ H8 ⟨f,rfl,rfl,hf,hk⟩
   have yk:isKey y:=by
    rcases hk with hk|hk
    ·rcases hk with ⟨rfl,n⟩|⟨rfl,n⟩|⟨rfl,n⟩|⟨rfl,n⟩|⟨rfl,n⟩|⟨rfl,n⟩<;>exact fun z=>nomatch z
    ·rcases hk with ⟨rfl,n⟩|⟨rfl,n⟩|⟨rfl,n⟩<;>exact fun z=>nomatch z
   have sub:∀ rt,ef ws rt->∃ ru rest,cu ru/\cV ru=y/\y::bq.flatMap dF=az ru++rest:=fun rt hR=>by
    obtain⟨ru,rest,h1,h2⟩:=oA (rt:=rt) (tl:=[]) (pre:=ws.take (ws.length-(i+1))) (s:=bq.flatMap dF) (x:=y) hR.2.1 (by rw[List.append_nil,<- hR.1,<- dy,List.take_append_drop]) (by rw[<- hR.1,List.length_take];lia) yk
    obtain⟨r0,e0⟩:=cv ru
    refine⟨ru,rest,h1,?_,h2⟩
    rw[e0,List.cons_append] at h2
    exact (List.cons.inj h2).1.symm
   have VN:=hA.len
   refine aM (fun σ H9=>∃ tr,σ=[some (.str x),some (.ref nd),some (.ref wl),some (.ref l),some (.str y),some (.ref tr),e3,e4]/\ai H8 H9/\H9 tr=some (.tup [.str y])) (fun N hN=>?_) ?_
   ·walk_at "gzn"
    exact⟨by decide,fun tr ft=>hN _ _ ⟨tr,rfl,ak ft,aj⟩⟩
   rintro σ H9 ⟨tr,rfl,s9,GC⟩
   refine aM (fun σ el=>∃ (tr:Addr) (k:Nat) (rt:Rt) (e3 e4:Option V),σ=[some (.str x),some (.ref nd),some (.ref wl),some (.ref l),some (.str y),some (.ref tr),e3,e4]/\ai H el/\el l=some (.lst (xs.drop k).reverse)/\aD (iD el) xs bq/\bu el (.ref tr) rt/\cu rt/\y::bq.flatMap dF=az rt++(bq.drop k).flatMap dF/\el nd=some (.dK gB)/\el wl=some (.lst (ws.map V.str))) (fun N hN=>?_) ?_
   ·dsimp only [DR]
    walk_at "gzn"
    refine⟨nd,_,rfl,hf ▸ fZ.k (k:=.inr y) (s9 _ _ cP),f,rfl,?_⟩
    rcases hk with hk|hk
    ·have f4:(aU f).length<=4:=by rcases hk with ⟨n,rfl⟩|⟨n,rfl⟩|⟨n,rfl⟩|⟨n,rfl⟩|⟨n,rfl⟩|⟨n,rfl⟩<;>decide
     refine tW (SD H x nd wl l y f ws xs bq) ⟨[],tr,_,_,rfl,s7.trans s9,s9 _ _ hl,hA.imp fun n n z=>z.tup fun p ys e=>s9 _ _ e,GC,rfl,fun n h=>absurd h List.not_mem_nil,fun n n n n h=>by simp at h,rfl,s9 _ _ cP,s9 _ _ nj⟩ ?_ ?_
     ·rintro j v σ el hj ⟨es,tr,e3,e4,rfl,iE,en,g8,htr,hle,hsm,iy,gF,jN,jO⟩
      obtain⟨c,rfl,hc⟩:=R1 hk hj
      have jl:=(List.getElem?_eq_some_iff.mp hj).1
      have good:∀ rt,ef ws rt->∃ e,bq[j]?=some (.w (bL e))/\c6 e/\oz c e:=fun rt hR=>by
       obtain⟨ru,rest,sm,hw,er⟩:=sub rt hR
       obtain⟨t,rfl,al,af⟩:=RY hk hw
       obtain⟨e,he,hfe⟩:=af j c hj
       have er:y::bq.flatMap dF=dg t++rest:=er
       rw[i4,List.cons_append] at er
       exact⟨e,Gq (List.cons.inj er).2 j e he,sm e (List.mem_of_getElem? he),hfe⟩
      walk_at "gzn"
      have fE:c ≠ "r" := by rcases hc with rfl|rfl<;>decide
      refine⟨_,dI (ar.of en),?_⟩
      rw[List.length_reverse,List.length_drop]
      refine aL (fun h0=>q0 (fun ⟨rt,hR⟩=>?_) _ iE) fun h0=>?_
      ·obtain⟨e,he,n⟩:=good rt hR
       have:=(List.getElem?_eq_some_iff.mp he).1
       lia
      obtain⟨v0,lh⟩:∃ v0,xs[j]?=some v0:=⟨_,List.getElem?_eq_getElem (show j<xs.length by lia)⟩
      have fy:xs.drop j=v0::xs.drop (j+1):=by
       have jx:=(List.getElem?_eq_some_iff.mp lh).1
       rw[List.drop_eq_getElem_cons jx,(List.getElem?_eq_some_iff.mp lh).2]
      obtain⟨it,hit,hat⟩:=g8.get lh
      rw[fy] at en
      have rJ:ai H (upd el l (.lst (xs.drop (j+1)).reverse)):=dJ uT iE
      have mM:∀ p ys,el p=some (.tup ys)->upd el l (.lst (xs.drop (j+1)).reverse) p=some (.tup ys):=fun p ys e=>by
       rw[aO (fun z=>by rw[z,en] at e;cases e)]
       exact e
      refine⟨.inl ⟨rfl,_,ar.of en⟩,l,_,v0,rfl,rfl,en,by rw[List.reverse_cons];simp,?_⟩
      rw[show (v0::xs.drop (j+1)).reverse.dropLast=(xs.drop (j+1)).reverse by rw[List.reverse_cons,List.dropLast_concat]]
      refine⟨c,v0,it,rfl,hat.tup mM,fun u hu=>hb u (gy u (by rw[<- hu];exact List.mem_of_getElem? hit)),by rcases hc with rfl|rfl;exact .inr (.inl rfl);exact .inr (.inr rfl),fun u p A7 ej jP hp=>?_,fun cL A7 jP=>?_⟩
      ·rcases ej with ej|⟨n,e,rfl,hse,hfe,rfl⟩
       ·exact absurd ej.1 fE
       walk_at "gzn"
       have A8:=jP _ _ (mM _ _ htr)
       refine⟨tr,p,_,_,rfl,rfl,aB.of A8,aB.of hp,by simp,?_,fun z=>(nomatch z),fun n r hr=>?_⟩
       ·rw[List.length_cons,List.length_map]
        exact Nat.le_trans (show es.length+1+1<=6 by lia) (by decide)
       have u:=jP.trans (ak (o:=.tup (.str y::es.map ev++[ev e])) hr)
       refine⟨es++[e],r,_,_,rfl,rJ.trans u,u _ _ aj,g8.imp fun n n z=>(z.tup mM).tup fun p ys e=>u _ _ e,by rw[aj,List.map_append];rfl,by rw[List.length_append];show es.length+1=_;lia,fun o ho=>?_,fun a c2 o h1 h2=>?_,by rw[List.take_succ,hit,gF,List.map_append];rfl,u _ _ (by rw[aO nl];exact jN),u _ _ (by rw[aO uU];exact jO)⟩
       ·rcases List.mem_append.mp ho with ho|ho
        ·exact hsm o ho
        ·rw[List.mem_singleton.mp ho];exact hse
       ·by_cases ha:a<es.length
        ·rw[List.getElem?_append_left ha] at h2
         exact iy a c2 o h1 h2
        ·rw[List.getElem?_append_right (by lia)] at h2
         have h3:=(List.getElem?_eq_some_iff.mp h2).1
         rw[List.length_singleton] at h3
         obtain rfl:a=j:=by lia
         rw[hle,Nat.sub_self] at h2
         rw[hj] at h1
         injection h2 with h2
         injection h1 with h1
         injection h1 with h1
         rw[<- h1,<- h2]
         exact hfe
      ·walk_at "gzn"
       refine q0 (fun ⟨rt,hR⟩=>?_) _ (rJ.trans jP)
       obtain⟨e,he,hse,hfe⟩:=good rt hR
       rw[hit] at he
       injection he with he
       exact cL (ev e) (.inr ⟨fE,e,he,hse,hfe,rfl⟩)
     ·rintro σ el ⟨es,tr,e3,e4,rfl,iE,en,g8,htr,hle,hsm,iy,gF,jN,jO⟩
      obtain⟨t,th,ta⟩:=RX hk hle iy
      refine hN _ _ ⟨tr,(aU f).length,.leaf t,_,_,rfl,iE,en,g8,⟨tr,rfl,by rw[htr,FR,th,ta]⟩,fun o ho=>hsm o (by rw[<- ta];exact ho),?_,jN,jO⟩
      show y::bq.flatMap dF=dg t++_
      rw[i4,th,ta,List.cons_append]
      congr 1
      conv=>lhs;rw[<- List.take_append_drop (aU f).length bq,List.flatMap_append,gF]
      congr 1
      rw[List.flatMap_map]
      exact (List.map_eq_flatMap (f:=bL) (l:=es)).symm
    ·have fk:=R0 hk
     have f2:(aU f).length<=2:=by rcases hk with ⟨n,rfl⟩|⟨n,rfl⟩|⟨n,rfl⟩<;>decide
     refine tW (SE H x nd wl l y ws xs bq) ⟨[],tr,_,_,rfl,s7.trans s9,s9 _ _ hl,hA.imp fun n n z=>z.tup fun p ys e=>s9 _ _ e,GC,rfl,rfl,s9 _ _ cP,s9 _ _ nj⟩ ?_ ?_
     ·rintro j v σ el hj ⟨cs,tr,e3,e4,rfl,iE,en,g8,htr,fW,gF,jN,jO⟩
      have jl:=(List.getElem?_eq_some_iff.mp hj).1
      obtain rfl:v = .str "r" := by
       have m:=List.mem_of_getElem? hj
       rw[fk] at m
       exact (List.mem_replicate.mp m).2
      have good:∀ rt,ef ws rt->∃ c,bq[j]?=some (.t c):=fun rt hR=>by
       obtain⟨ru,rest,sm,hw,er⟩:=sub rt hR
       obtain⟨hL,kn⟩:=Gj hk hw
       rw[rn ru hL,List.cons_append] at er
       obtain⟨d,hd⟩:∃ d,(eR ru)[j]?=some d:=⟨_,List.getElem?_eq_getElem (show j<(eR ru).length by lia)⟩
       exact⟨d,AY aA ((uI hL).mp sm) (List.cons.inj er).2 j d hd⟩
      walk_at "gzn"
      refine⟨_,dI (ar.of en),?_⟩
      rw[List.length_reverse,List.length_drop]
      refine aL (fun h0=>q0 (fun ⟨rt,hR⟩=>?_) _ iE) fun h0=>?_
      ·obtain⟨e,he⟩:=good rt hR
       have:=(List.getElem?_eq_some_iff.mp he).1
       lia
      obtain⟨v0,lh⟩:∃ v0,xs[j]?=some v0:=⟨_,List.getElem?_eq_getElem (show j<xs.length by lia)⟩
      have fy:xs.drop j=v0::xs.drop (j+1):=by
       have jx:=(List.getElem?_eq_some_iff.mp lh).1
       rw[List.drop_eq_getElem_cons jx,(List.getElem?_eq_some_iff.mp lh).2]
      obtain⟨it,hit,hat⟩:=g8.get lh
      rw[fy] at en
      have rJ:ai H (upd el l (.lst (xs.drop (j+1)).reverse)):=dJ uT iE
      have mM:∀ p ys,el p=some (.tup ys)->upd el l (.lst (xs.drop (j+1)).reverse) p=some (.tup ys):=fun p ys e=>by
       rw[aO (fun z=>by rw[z,en] at e;cases e)]
       exact e
      refine⟨.inl ⟨rfl,_,ar.of en⟩,l,_,v0,rfl,rfl,en,by rw[List.reverse_cons];simp,?_⟩
      rw[show (v0::xs.drop (j+1)).reverse.dropLast=(xs.drop (j+1)).reverse by rw[List.reverse_cons,List.dropLast_concat]]
      refine⟨"r",v0,it,rfl,hat.tup mM,fun u hu=>hb u (gy u (by rw[<- hu];exact List.mem_of_getElem? hit)),.inl rfl,fun u p A7 ej jP hp=>?_,fun cL A7 jP=>?_⟩
      ·obtain⟨r0,rfl,rfl⟩:∃ r0,it = .t r0/\v0=u:=by
        rcases ej with ⟨n,⟨r0,e1⟩,e2⟩|ej
        ·exact⟨r0,e1,e2.symm⟩
        ·exact absurd rfl ej.1
       walk_at "gzn"
       have A8:=jP _ _ (mM _ _ htr)
       refine⟨tr,p,_,_,rfl,rfl,aB.of A8,aB.of hp,by simp,?_,fun z=>(nomatch z),fun n r hr=>?_⟩
       ·rw[List.length_cons,List.length_take]
        exact Nat.le_trans (show min j xs.length+1+1<=6 by lia) (by decide)
       have u:=jP.trans (ak (o:=.tup (.str y::xs.take j++[v0])) hr)
       exact⟨cs++[r0],r,_,_,rfl,rJ.trans u,u _ _ aj,g8.imp fun n n z=>(z.tup mM).tup fun p ys e=>u _ _ e,by rw[aj,List.take_succ,lh];rfl,by rw[List.length_append];show cs.length+1=_;lia,by rw[List.take_succ,hit,gF,List.map_append];rfl,u _ _ (by rw[aO nl];exact jN),u _ _ (by rw[aO uU];exact jO)⟩
      ·walk_at "gzn"
       refine q0 (fun ⟨rt,hR⟩=>?_) _ (rJ.trans jP)
       obtain⟨r0,he⟩:=good rt hR
       rw[hit] at he
       injection he with he
       exact cL v0 (.inl ⟨rfl,⟨r0,he⟩,rfl⟩)
     ·rintro σ el ⟨cs,tr,e3,e4,rfl,iE,en,g8,htr,fW,gF,jN,jO⟩
      obtain⟨rt,hwr,hkd⟩:=RZ hk fW
      obtain⟨hL,n⟩:=Gj hk hwr
      have hT:=aD.take (aU f).length g8
      rw[gF] at hT
      refine hN _ _ ⟨tr,(aU f).length,rt,_,_,rfl,iE,en,g8,Sy hL (by rw[hwr];exact htr) (by rw[hkd];exact GB hT),(uI hL).mpr fun c hc=>?_,?_,jN,jO⟩
      ·rw[hkd] at hc
       have m:It.t c∈bq.take (aU f).length:=by rw[gF];exact List.mem_map.mpr ⟨c,hc,rfl⟩
       exact aA (.t c) (List.mem_of_mem_take m)
      ·rw[rn rt hL,hwr,hkd,List.cons_append]
       congr 1
       conv=>lhs;rw[<- List.take_append_drop (aU f).length bq,List.flatMap_append,gF]
       congr 1
       rw[List.flatMap_map]
       rfl
   rintro σ el ⟨tr,k,rt,e3,e4,rfl,iE,en,g8,hrt,sm,er,jN,jO⟩
   have GD:∀ p ys,el p=some (.tup ys)->upd el l (.lst ((xs.drop k).reverse++[.ref tr])) p=some (.tup ys):=fun p ys e=>by
    rw[aO (fun z=>by rw[z,en] at e;cases e)]
    exact e
   walk_at "gzn"
   refine⟨.inl ⟨rfl,_,ar.of en⟩,_,en,by rw[List.length_reverse,List.length_drop];exact Nat.lt_of_le_of_lt (show xs.length-k<=60 by lia) (by decide),?_⟩
   refine⟨.ref tr::xs.drop k,.t rt::bq.drop k,_,_,_,_,rfl,dJ uT iE,by rw[aj,List.reverse_cons],⟨bu.tup GD hrt,(aD.drop k g8).imp fun n n z=>z.tup GD⟩,fun j hj=>?_,fun u hu=>?_,by rw[dy,er];rfl,by rw[aO nl];exact jN,by rw[aO uU];exact jO,by rw[List.length_cons,List.length_drop];lia⟩
   ·rcases List.mem_cons.mp hj with rfl|hj
    ·exact sm
    ·exact aA j (List.mem_of_mem_drop hj)
   ·rcases List.mem_cons.mp hu with hu|hu
    ·cases hu
    ·exact gy u (List.mem_of_mem_drop hu)
  ·rintro σ H7 ⟨xs,bq,e1,e2,e3,e4,rfl,s7,hl,hA,aA,gy,hsf,cP,nj,kZ⟩
   rw[ll,Nat.sub_self,List.drop_zero] at hsf
   exact hN _ _ ⟨xs,bq,_,_,_,_,rfl,s7,hl,hA,aA,hsf⟩
 rintro σ H7 ⟨xs,bq,e1,e2,e3,e4,rfl,s7,hl,hA,aA,hsf⟩
 walk_at "gzn"
 refine⟨_,dI (ar.of hl),?_⟩
 rw[List.length_reverse]
 by_cases hR:∃ rt,ef ws rt
 ·obtain⟨rt,hR⟩:=hR
  have hk:=R5 aA hR.2.1 (by rw[<- hsf];exact hR.1)
  subst hk
  match xs,hA with
  | [v],hA =>
   have hv:bu H7 v rt:=hA.1
   obtain⟨p,ys,rfl,hp⟩:=uS hv
   rw[if_neg (fun z=>z rfl)]
   refine bC (ar.of hl) rfl (v3 hp ?_)
   walk_at "gzn"
   exact bC (ar.of hl) rfl (q rt _ _ hR s7 hv)
 ·refine aL (fun n=>q0 hR _ s7) fun hn=>?_
  have hn:xs.length=1:=by lia
  match xs,bq,hA,hn with
  | [v],[i],hA,_ =>
   have hv:iD H7 v i:=hA.1
   cases i with
   | w y =>
    have hv:v = .str y:=hv
    subst hv
    refine bC (ar.of hl) rfl (A5 ?_)
    walk_at "gzn"
    exact q0 hR _ s7
   | t rt=>exact absurd ⟨rt,by rw[hsf];simp[dF],aA (.t rt) (.head _),i5⟩ hR
end
section
seal L2.PE L2.PS L2.aS L2.PA
variable{P:Program}{w:World}{K:PySem.W.Frag}{mg:Str->Option Value}{base:Heap}
noncomputable abbrev mO:Bool->Str
 | true => "ways"
 | false => "breaks"
def gi(rt:Rt):Prop:=cn rt/\(az rt).length<=60
inductive mP(T:Tx w K mg)(N:Nat)(b:Bool)(x:V)(H:Hp)(Q:VK):Prop
 | mk(rt:Rt)(_:bG T H x rt)(_:gi rt)(_:aG rt<N)(_:∀ l ys H',ai H H'->H l=none->H' l=some (.lst ys)->aD (bD H H') ys (aX b rt)->Q (.ref l) H')
inductive SO(T:Tx w K mg)(N:Nat)(vs:List V)(H:Hp)(Q:VK)(aW:XK):Prop
 | mk(x dx:Addr)(c:V)(a:Rt)(_:vs=[.ref x])(_:H x=some (.ins T.cG dx [("one",c)]))(_:bG T H c a)(_:gi a)(_:aG a<N)(_:∀ l ys H',ai H H'->H l=none->H' l=some (.lst ys)->aD (bD H H') ys (aX false a)->Q (.ref l) H')
theorem SQ(T:Tx w K mg)(N:Nat)(ih:∀ (b:Bool) {A:Around} {n:Nat},ba n A->N+4<=n->∀ x H Q,mP T N b x H Q->cN P w K mg base A (mO b) x H Q):Om P w mg base (N+4+1) T.kP (SO T N):=by
 refine cH z9 ?_
 rintro y y y y y y y y hr ⟨x,dx,c,a,rfl,hx,hc,ga,hN,q⟩
 refine⟨_,(ao (ay (dP (fun x H Q=>ih false hr (Nat.le_refl _) x H Q) (bH rfl (aa 0) rfl)))),?_⟩
 walk_at "gzn"
 exact⟨_,_,_,hx,T.iW,T.og,_,rfl,a,hc,ga,hN,q⟩
inductive SR(T:Tx w K mg)(N:Nat)(vs:List V)(H:Hp)(Q:VK)(aW:XK):Prop
 | mk(x dx:Addr)(c:V)(a:Rt)(_:vs=[.ref x])(_:H x=some (.ins T.cG dx [("one",c)]))(_:bG T H c a)(_:gi a)(_:aG a<N)(_:∀ l ys H',ai H H'->H l=none->H' l=some (.lst ys)->aD (bD H H') ys (aX true a)->Q (.ref l) H')
theorem SS(T:Tx w K mg)(N:Nat)(ih:∀ (b:Bool) {A:Around} {n:Nat},ba n A->N+4<=n->∀ x H Q,mP T N b x H Q->cN P w K mg base A (mO b) x H Q):Om P w mg base (N+4+1) T.kQ (SR T N):=by
 refine cH Aa ?_
 rintro y y y y y y y y hr ⟨x,dx,c,a,rfl,hx,hc,ga,hN,q⟩
 refine⟨_,(ao (ay (dP (fun x H Q=>ih true hr (Nat.le_refl _) x H Q) (bH rfl (aa 0) rfl)))),?_⟩
 walk_at "gzn"
 exact⟨_,_,_,hx,T.iW,T.og,_,rfl,a,hc,ga,hN,q⟩
inductive SU(T:Tx w K mg)(N:Nat)(vs:List V)(H:Hp)(Q:VK)(aW:XK):Prop
 | mk(x dx:Addr)(c d:V)(a b:Rt)(_:vs=[.ref x])(_:H x=some (.ins T.cA dx [("one",c),("other",d)]))(_:bG T H c a)(_:bG T H d b)(_:gi a)(_:gi b)(_:aG a<N)(_:aG b<N)(_:∀ l ys H',ai H H'->H l=none->H' l=some (.lst ys)->aD (bD H H') ys (eh (aX true a) (aX true b))->Q (.ref l) H')
theorem SV(T:Tx w K mg)(N:Nat)(ih:∀ (b:Bool) {A:Around} {n:Nat},ba n A->N+4<=n->∀ x H Q,mP T N b x H Q->cN P w K mg base A (mO b) x H Q):Om P w mg base (N+4+1) T.kJ (SU T N):=by
 refine cH zY ?_
 rintro y y y y y y y y hr ⟨x,dx,c,d,a,b,rfl,hx,hc,hd,ga,gb,hA,hB,q⟩
 refine⟨_,(ao (ay (aJ (hk:=by lia) (Gf T) hr (ae (dP (fun x H Q=>ih true hr (Nat.le_refl _) x H Q) (bH rfl (aa 0) rfl)) (ae (dP (fun x H Q=>ih true hr (Nat.le_refl _) x H Q) (bH rfl (aa 0) rfl)) ah))))),?_⟩
 walk_at "gzn"
 refine⟨_,_,_,hx,T.gu,T.n5,_,rfl,a,hc,ga,hA,fun l1 jQ H1 s1 f1 eZ jR=>?_⟩
 walk_at "gzn"
 refine⟨_,_,_,s1 _ _ hx,T.gu,T.n6,_,rfl,b,hd.same s1,gb,hB,fun l2 jS H2 s2 f2 bo jT=>?_⟩
 exact⟨l1,l2,jQ,jS,_,_,rfl,s2 _ _ eZ,bo,jR.imp fun y y r=>(bD.cm r).same s2,jT.imp fun y y r=>bD.cm r,jK ga.1 _,jK gb.1 _,rE ga.1 ga.2 _,rE gb.1 gb.2 _,fun l zs H3 s3 fl hl hz=>q l zs H3 (s1.trans (s2.trans s3)) ((s1.trans s2).free fl) hl (hz.imp fun y y r=>r.back (s1.trans s2))⟩
inductive SW(T:Tx w K mg)(N:Nat)(vs:List V)(H:Hp)(Q:VK)(aW:XK):Prop
 | mk(x dx:Addr)(c d:V)(a b:Rt)(_:vs=[.ref x])(_:H x=some (.ins T.cA dx [("one",c),("other",d)]))(_:bG T H c a)(_:bG T H d b)(_:gi a)(_:gi b)(_:aG a<N)(_:aG b<N)(_:∀ l ys H',ai H H'->H l=none->H' l=some (.lst ys)->aD (bD H H') ys (aX false a++aX false b)->Q (.ref l) H')
theorem SX(T:Tx w K mg)(N:Nat)(ih:∀ (b:Bool) {A:Around} {n:Nat},ba n A->N+4<=n->∀ x H Q,mP T N b x H Q->cN P w K mg base A (mO b) x H Q):Om P w mg base (N+4+1) T.kK (SW T N):=by
 refine cH zZ ?_
 rintro y y y y y y y y hr ⟨x,dx,c,d,a,b,rfl,hx,hc,hd,ga,gb,hA,hB,q⟩
 refine⟨_,(ao (ay (ax dt (dP (fun x H Q=>ih false hr (Nat.le_refl _) x H Q) (bH rfl (aa 0) rfl)) (dP (fun x H Q=>ih false hr (Nat.le_refl _) x H Q) (bH rfl (aa 0) rfl))))),?_⟩
 have la:=jK ga.1 false
 have lb:=jK gb.1 false
 walk_at "gzn"
 refine⟨_,_,_,hx,T.gu,T.n5,_,rfl,a,hc,ga,hA,fun l1 jQ H1 s1 f1 eZ jR=>?_⟩
 walk_at "gzn"
 refine⟨_,_,_,s1 _ _ hx,T.gu,T.n6,_,rfl,b,hd.same s1,gb,hB,fun l2 jS H2 s2 f2 bo jT=>?_⟩
 have e1:=jR.len
 have e2:=jT.len
 refine⟨l2,rfl,_,s2 _ _ eZ,_,bo,Nat.le_trans (by lia:jQ.length+jS.length<=400) (by decide),fun c hc=>?_⟩
 have uc:=ak (o:=.lst (jQ++jS)) hc
 exact q c _ _ (s1.trans (s2.trans uc)) ((s1.trans s2).free hc) aj (aD.app (jR.imp fun y y r=>r.same (s2.trans uc)) (jT.imp fun y y r=>(r.back s1).same uc))
inductive SY(T:Tx w K mg)(N:Nat)(vs:List V)(H:Hp)(Q:VK)(aW:XK):Prop
 | mk(x dx:Addr)(c d:V)(a b:Rt)(_:vs=[.ref x])(_:H x=some (.ins T.cB dx [("one",c),("other",d)]))(_:bG T H c a)(_:bG T H d b)(_:gi a)(_:gi b)(_:aG a<N)(_:aG b<N)(_:∀ l ys H',ai H H'->H l=none->H' l=some (.lst ys)->aD (bD H H') ys (eh (aX false a) (aX false b))->Q (.ref l) H')
theorem S0(T:Tx w K mg)(N:Nat)(ih:∀ (b:Bool) {A:Around} {n:Nat},ba n A->N+4<=n->∀ x H Q,mP T N b x H Q->cN P w K mg base A (mO b) x H Q):Om P w mg base (N+4+1) T.kN (SY T N):=by
 refine cH z7 ?_
 rintro y y y y y y y y hr ⟨x,dx,c,d,a,b,rfl,hx,hc,hd,ga,gb,hA,hB,q⟩
 refine⟨_,(ao (ay (aJ (hk:=by lia) (Gf T) hr (ae (dP (fun x H Q=>ih false hr (Nat.le_refl _) x H Q) (bH rfl (aa 0) rfl)) (ae (dP (fun x H Q=>ih false hr (Nat.le_refl _) x H Q) (bH rfl (aa 0) rfl)) ah))))),?_⟩
 walk_at "gzn"
 refine⟨_,_,_,hx,T.gv,T.n9,_,rfl,a,hc,ga,hA,fun l1 jQ H1 s1 f1 eZ jR=>?_⟩
 walk_at "gzn"
 refine⟨_,_,_,s1 _ _ hx,T.gv,T.oa,_,rfl,b,hd.same s1,gb,hB,fun l2 jS H2 s2 f2 bo jT=>?_⟩
 exact⟨l1,l2,jQ,jS,_,_,rfl,s2 _ _ eZ,bo,jR.imp fun y y r=>(bD.cm r).same s2,jT.imp fun y y r=>bD.cm r,jK ga.1 _,jK gb.1 _,rE ga.1 ga.2 _,rE gb.1 gb.2 _,fun l zs H3 s3 fl hl hz=>q l zs H3 (s1.trans (s2.trans s3)) ((s1.trans s2).free fl) hl (hz.imp fun y y r=>r.back (s1.trans s2))⟩
inductive S1(T:Tx w K mg)(N:Nat)(vs:List V)(H:Hp)(Q:VK)(aW:XK):Prop
 | mk(x dx:Addr)(c d:V)(a b:Rt)(_:vs=[.ref x])(_:H x=some (.ins T.cB dx [("one",c),("other",d)]))(_:bG T H c a)(_:bG T H d b)(_:gi a)(_:gi b)(_:aG a<N)(_:aG b<N)(_:∀ l ys H',ai H H'->H l=none->H' l=some (.lst ys)->aD (bD H H') ys (aX true a++aX true b)->Q (.ref l) H')
theorem S6(T:Tx w K mg)(N:Nat)(ih:∀ (b:Bool) {A:Around} {n:Nat},ba n A->N+4<=n->∀ x H Q,mP T N b x H Q->cN P w K mg base A (mO b) x H Q):Om P w mg base (N+4+1) T.kM (S1 T N):=by
 refine cH z6 ?_
 rintro y y y y y y y y hr ⟨x,dx,c,d,a,b,rfl,hx,hc,hd,ga,gb,hA,hB,q⟩
 refine⟨_,(ao (ay (ax dt (dP (fun x H Q=>ih true hr (Nat.le_refl _) x H Q) (bH rfl (aa 0) rfl)) (dP (fun x H Q=>ih true hr (Nat.le_refl _) x H Q) (bH rfl (aa 0) rfl))))),?_⟩
 have la:=jK ga.1 true
 have lb:=jK gb.1 true
 walk_at "gzn"
 refine⟨_,_,_,hx,T.gv,T.n9,_,rfl,a,hc,ga,hA,fun l1 jQ H1 s1 f1 eZ jR=>?_⟩
 walk_at "gzn"
 refine⟨_,_,_,s1 _ _ hx,T.gv,T.oa,_,rfl,b,hd.same s1,gb,hB,fun l2 jS H2 s2 f2 bo jT=>?_⟩
 have e1:=jR.len
 have e2:=jT.len
 refine⟨l2,rfl,_,s2 _ _ eZ,_,bo,Nat.le_trans (by lia:jQ.length+jS.length<=400) (by decide),fun c hc=>?_⟩
 have uc:=ak (o:=.lst (jQ++jS)) hc
 exact q c _ _ (s1.trans (s2.trans uc)) ((s1.trans s2).free hc) aj (aD.app (jR.imp fun y y r=>r.same (s2.trans uc)) (jT.imp fun y y r=>(r.back s1).same uc))
theorem S7(T:Tx w K mg):∀ N:Nat,∀ (b:Bool) {A:Around} {n:Nat},ba n A->N+4<=n->∀ x H Q,mP T N b x H Q->cN P w K mg base A (mO b) x H Q:=by
 intro N
 induction N with
 | zero =>
  rintro b A n hr hn v H Q ⟨rt,y,y,h,y⟩
  exact absurd h (Nat.not_lt_zero _)
 | succ N ih =>
  rintro b A n hr hn v H Q ⟨rt,hv,⟨hg,hl⟩,hh,q⟩
  cases rt with
  | leaf t =>
   obtain⟨x,rfl,he⟩:=hv
   cases b with
   | true=>exact FI T hr (by lia) _ _ _ ⟨x,t,rfl,he,hg,q⟩
   | false=>exact FK T hr (by lia) _ _ _ ⟨x,t,rfl,he,hg,q⟩
  | nay a =>
   obtain⟨x,dx,c,rfl,hx,hc⟩:=hv
   have hl:(az a).length+1<=60:=hl
   cases b with
   | true=>exact cN.of (hk:=by lia) hx T.iW T.OR (SQ T N ih) hr T.kP.b ⟨x,dx,c,a,rfl,hx,hc,⟨hg,by lia⟩,Nat.lt_of_succ_lt_succ hh,q⟩
   | false=>exact cN.of (hk:=by lia) hx T.iW T.OS (SS T N ih) hr T.kQ.b ⟨x,dx,c,a,rfl,hx,hc,⟨hg,by lia⟩,Nat.lt_of_succ_lt_succ hh,q⟩
  | both a c =>
   obtain⟨x,dx,v1,v2,rfl,hx,hc,he⟩:=hv
   have hh:aG a+aG c+1<N+1:=hh
   have hl:(az a++az c).length+1<=60:=hl
   rw[List.length_append] at hl
   cases b with
   | true=>exact cN.of (hk:=by lia) hx T.gu T.OI (SV T N ih) hr T.kJ.b ⟨x,dx,v1,v2,a,c,rfl,hx,hc,he,⟨hg.1,by lia⟩,⟨hg.2.1,by lia⟩,by lia,by lia,q⟩
   | false=>exact cN.of (hk:=by lia) hx T.gu T.OJ (SX T N ih) hr T.kK.b ⟨x,dx,v1,v2,a,c,rfl,hx,hc,he,⟨hg.1,by lia⟩,⟨hg.2.1,by lia⟩,by lia,by lia,q⟩
  | either a c =>
   obtain⟨x,dx,v1,v2,rfl,hx,hc,he⟩:=hv
   have hh:aG a+aG c+1<N+1:=hh
   have hl:(az a++az c).length+1<=60:=hl
   rw[List.length_append] at hl
   cases b with
   | true=>exact cN.of (hk:=by lia) hx T.gv T.ON (S6 T N ih) hr T.kM.b ⟨x,dx,v1,v2,a,c,rfl,hx,hc,he,⟨hg.1,by lia⟩,⟨hg.2.1,by lia⟩,by lia,by lia,q⟩
   | false=>exact cN.of (hk:=by lia) hx T.gv T.OO (S0 T N ih) hr T.kN.b ⟨x,dx,v1,v2,a,c,rfl,hx,hc,he,⟨hg.1,by lia⟩,⟨hg.2.1,by lia⟩,by lia,by lia,q⟩
end
section
seal L2.PE L2.PS L2.aS L2.PA
variable{P:Program}{w:World}{K:PySem.W.Frag}{mg:Str->Option Value}{base:Heap}
noncomputable def jb(a b:Int):Int:=if a<b then b else a
noncomputable def eo:Rt->Int
 | .leaf t=>iY t
 | .nay a=>eo a
 | .both a b=>jb (eo a) (eo b)
 | .either a b=>jb (eo a) (eo b)
theorem S8(s:S2)(n:Int):(dN s).any (fun o=>hold o.1 o.2 n) = !hold s.1 s.2 n:=by
 obtain⟨a,b⟩:=s
 rcases a with y|a<;>rcases b with y|b
 ·simp[dN,hold,dw]
 all_goals (rw[Bool.eq_iff_iff];simp[dN,hold,dw];lia)
theorem rK(cs:List Int)(ps:List Pa):(bw ps).any (aI cs) = !aI cs ps:=by
 unfold bw
 rw[List.any_flatMap]
 induction ps with
 | nil=>rfl
 | cons p ps ih =>
  rw[List.any_cons,ih,List.any_map]
  have e:((dN p.2.2).any (aI cs ∘ fun o=>[((p.1,p.2.1,o):Pa)])) = !hold p.2.2.1 p.2.2.2 (gM cs p.1 p.2.1):=by
   rw[<- S8]
   congr 1
   funext o
   simp[aI]
  rw[e]
  simp only[aI,List.all_cons,Bool.not_and]
theorem S9{cs:List Int}{i j l h:Int}(lR:i<=j):((gU i j l h).any (aI cs))=true↔¬ ∃ a b,a<b/\b<(j+1-i).toNat/\aZ cs i a<=l/\h<=aZ cs i b:=by
 have one:∀ k:Nat,k<(j+1-i).toNat->(aI cs (bc i (i+(k:Nat)-1) (some (l+1),none)++bc (i+(k:Nat)+1) j (none,some (h-1)))=true↔(∀ a,a<k->l<aZ cs i a)/\∀ b,k<b->b<(j+1-i).toNat->aZ cs i b<h):=fun k hk=>by
  have e:aI cs (bc i (i+(k:Nat)-1) (some (l+1),none)++bc (i+(k:Nat)+1) j (none,some (h-1)))=(aI cs (bc i (i+(k:Nat)-1) (some (l+1),none)) && aI cs (bc (i+(k:Nat)+1) j (none,some (h-1)))):=by
   unfold aI
   rw[List.all_append]
  rw[e,Bool.and_eq_true,xf,xf,List.all_eq_true,List.all_eq_true]
  refine and_congr ⟨fun z a ha=>?_,fun z a ha=>?_⟩ ⟨fun z b hb hn=>?_,fun z b hb=>?_⟩
  ·have:=(iq.mp (z a (List.mem_range.mpr (by lia)))).1 _ rfl
   lia
  ·have ha:=List.mem_range.mp ha
   refine iq.mpr ⟨fun x hx=>?_,fun x hx=>(nomatch hx)⟩
   cases hx
   have:=z a (by lia)
   lia
  ·have:=(iq.mp (z (b-k-1) (List.mem_range.mpr (by lia)))).2 _ rfl
   unfold aZ at *
   rw[show i+(k:Int)+1+((b-k-1:Nat):Int)=i+(b:Int) by lia] at this
   lia
  ·have hb:=List.mem_range.mp hb
   refine iq.mpr ⟨fun x hx=>(nomatch hx),fun x hx=>?_⟩
   cases hx
   have:=z (k+1+b) (by lia) (by lia)
   unfold aZ at *
   rw[show i+((k+1+b:Nat):Int)=i+(k:Int)+1+(b:Int) by lia] at this
   lia
 unfold gU
 rw[List.any_map,List.any_eq_true]
 constructor
 ·rintro ⟨k,hk,hm⟩ ⟨a,b,lJ,hb,h1,h2⟩
  have hk:=List.mem_range.mp hk
  obtain⟨m1,m2⟩:=(one k hk).mp hm
  by_cases ha:a<k
  ·have:=m1 a ha;lia
  ·have:=m2 b (by lia) hb;lia
 ·intro cL
  by_cases hex:∃ a,a<(j+1-i).toNat/\aZ cs i a<=l
  ·obtain⟨a,⟨ha,hl⟩,hmin⟩:∃ a,(a<(j+1-i).toNat/\aZ cs i a<=l)/\∀ b,b<a->¬ (b<(j+1-i).toNat/\aZ cs i b<=l):=by
    obtain⟨a,ha⟩:=hex
    induction a using Nat.strongRecOn with
    | _ a ih =>
     by_cases h9:∃ b,b<a/\(b<(j+1-i).toNat/\aZ cs i b<=l)
     ·obtain⟨b,hb,z⟩:=h9
      exact ih b hb z
     ·exact⟨a,ha,fun b hb z=>h9 ⟨b,hb,z⟩⟩
   refine⟨a,List.mem_range.mpr ha,(one a ha).mpr ⟨fun b hb=>?_,fun b hb hn=>?_⟩⟩
   ·have:=hmin b hb
    by_cases hz:aZ cs i b<=l
    ·exact absurd ⟨by lia,hz⟩ this
    ·lia
   ·by_cases hz:h<=aZ cs i b
    ·exact absurd ⟨a,b,hb,hn,hl,hz⟩ cL
    ·lia
  ·have hn:(j+1-i).toNat-1<(j+1-i).toNat:=by lia
   refine⟨(j+1-i).toNat-1,List.mem_range.mpr hn,(one _ hn).mpr ⟨fun b hb=>?_,fun b hb hn=>by lia⟩⟩
   by_cases hz:aZ cs i b<=l
   ·exact absurd ⟨b,by lia,hz⟩ hex
   ·lia
theorem Ta{tr:Tr}(hg:dU tr)(cs:List Int):(gx tr).any (aI cs) = !(c7 tr).any (aI cs):=by
 have one:∀ ps:List Pa,([ps].any (aI cs))=aI cs ps:=fun ps=>Bool.or_false _
 cases tr with
 | over i j s =>
  show ([bc i j (none,some (s-1))].any (aI cs)) = !((bw (bc i j (none,some (s-1)))).any (aI cs))
  rw[one,rK,Bool.not_not]
 | under i j s =>
  show ([bc i j (some (s+1),none)].any (aI cs)) = !((bw (bc i j (some (s+1),none))).any (aI cs))
  rw[one,rK,Bool.not_not]
 | rose i j l h =>
  have e:=S9 (cs:=cs) (l:=l) (h:=h) (hg.1:bp i j).2.1
  have f:=D0 (cs:=cs) (i:=i) (j:=j) (l:=l) (h:=h)
  show ((gU i j l h).any (aI cs)) = !((fN i j l h).any (aI cs))
  rw[Bool.eq_iff_iff,e,<- f]
  cases (fN i j l h).any (aI cs)<;>simp
 | turn t =>
  show ((bw (ix t)).any (aI cs)) = !([ix t].any (aI cs))
  rw[one,rK]
 | stay i j l h =>
  show ((bw (bc i j (l,h))).any (aI cs)) = !([bc i j (l,h)].any (aI cs))
  rw[one,rK]
 | pace i j l h =>
  show ((bw (dO i j (l,h))).any (aI cs)) = !([dO i j (l,h)].any (aI cs))
  rw[one,rK]
theorem Tc(cs:List Int)(a b:List Pa):aI cs (a++b)=(aI cs a && aI cs b):=by
 unfold aI
 rw[List.all_append]
theorem Td(cs:List Int)(a:List Pa)(bs:List (List Pa)):(bs.map fun b=>a++b).any (aI cs)=(aI cs a && bs.any (aI cs)):=by
 induction bs with
 | nil=>simp
 | cons b bs ih =>
  rw[List.map_cons,List.any_cons,ih,List.any_cons,Tc]
  cases aI cs a<;>rfl
theorem A9(cs:List Int)(as bs:List (List Pa)):(eh as bs).any (aI cs)=(as.any (aI cs) && bs.any (aI cs)):=by
 unfold eh
 rw[List.any_flatMap]
 induction as with
 | nil=>rfl
 | cons a as ih =>
  rw[List.any_cons,List.any_cons,ih,Td]
  cases aI cs a<;>cases as.any (aI cs)<;>cases bs.any (aI cs)<;>rfl
theorem oE{cs:List Int}:∀ {rt:Rt},eY rt->(aX false rt).any (aI cs) = !(aX true rt).any (aI cs)
 | .leaf _,h=>Ta h cs
 | .nay a,h=>by
  show (aX true a).any (aI cs) = !(aX false a).any (aI cs)
  rw[oE (rt:=a) h,Bool.not_not]
 | .both a b,h=>by
  show (aX false a++aX false b).any (aI cs) = !(eh (aX true a) (aX true b)).any (aI cs)
  rw[List.any_append,A9,oE h.1,oE h.2,Bool.not_and]
 | .either a b,h=>by
  show (eh (aX false a) (aX false b)).any (aI cs) = !(aX true a++aX true b).any (aI cs)
  rw[List.any_append,A9,oE h.1,oE h.2,Bool.not_or]
theorem max_lt{a b n:Int}(h:jb a b<n):a<n/\b<n:=by
 unfold jb at h
 split at h<;>exact⟨by lia,by lia⟩
theorem GF{cs:List Int}{ps:List Pa}(h:gL (cs.length:Int) ps):∀ p∈ps,uM cs p.1 p.2.1:=fun p hp=>by
 have ok:=h p hp
 by_cases e:p.1 = "step"
 ·rw[e] at ok ⊢
  obtain⟨j0,j1⟩:=tK.mp ok
  exact⟨j0,by lia,fun y=>j1⟩
 ·obtain⟨y,j0,j1⟩:=(DW e).mp ok
  exact⟨j0,j1,fun z=>absurd z e⟩
theorem jc{cs:List Int}:∀ {rt:Rt},eY rt->eo rt<(cs.length:Int)->∀ b,∀ ps∈aX b rt,∀ p∈ps,uM cs p.1 p.2.1
 | .leaf t,hg,hf,true=>fun ps hp=>GF ((AE hg hf).2.1 ps hp).2
 | .leaf t,hg,hf,false=>fun ps hp=>GF ((AE hg hf).1 ps hp).2
 | .nay a,hg,hf,b=>fun ps hp=>by
  rw[Gh] at hp
  exact jc (rt:=a) hg hf (!b) ps hp
 | .both a c,hg,hf,true=>fun ps hp p h=>by
  obtain⟨x,hx,y,hy,rfl⟩:=mem_join hp
  obtain⟨f1,f2⟩:=max_lt hf
  rcases List.mem_append.mp h with h|h
  ·exact jc hg.1 f1 true x hx p h
  ·exact jc hg.2 f2 true y hy p h
 | .both a c,hg,hf,false=>fun ps hp=>by
  obtain⟨f1,f2⟩:=max_lt hf
  rcases List.mem_append.mp hp with h|h
  ·exact jc hg.1 f1 false ps h
  ·exact jc hg.2 f2 false ps h
 | .either a c,hg,hf,false=>fun ps hp p h=>by
  obtain⟨x,hx,y,hy,rfl⟩:=mem_join hp
  obtain⟨f1,f2⟩:=max_lt hf
  rcases List.mem_append.mp h with h|h
  ·exact jc hg.1 f1 false x hx p h
  ·exact jc hg.2 f2 false y hy p h
 | .either a c,hg,hf,true=>fun ps hp=>by
  obtain⟨f1,f2⟩:=max_lt hf
  rcases List.mem_append.mp hp with h|h
  ·exact jc hg.1 f1 true ps h
  ·exact jc hg.2 f2 true ps h
inductive Te(T:Tx w K mg)(vs:List V)(H:Hp)(Q:VK)(aW:XK):Prop
 | mk(x:V)(a:Addr)(rt:Rt)(cs:List Int)(_:vs=[x,.ref a])(_:bG T H x rt)(_:gi rt)(_:aG rt<64)(_:ar K H a (cs.map V.int))(_:eo rt<(cs.length:Int))(_:∀ H',ai H H'->Q (.bl ((aX true rt).any (aI cs))) H')
theorem Tf(T:Tx w K mg):Om P w mg base 69 T.cp (Te T):=by
 refine cH zA ?_
 rintro y y y s H y Q y hr ⟨x,a,rt,cs,rfl,hv,hw,hh,hS,hf,q⟩
 refine⟨_,(ao (ay (bj (wB rfl) (by rfl) T.Ag vW (ae (fK (cO [1] ["course"]) rfl (jh (dP (fun x H Q h=>S7 T 64 true hr (by decide) x H Q h) (aa 0))) (fun C s2 H2 ex pn=>⟨eU,(aJ (RJ T) hr (ae (aa 1) (ae (aa 0) ah)))⟩)) ah)))),?_⟩
 walk_at "gzn"
 refine⟨rt,hv,hw,hh,fun l ys H1 s1 y hl Tg=>?_⟩
 have hy:=Tg.imp fun y y r=>r.cl
 have hlen:=hy.len
 have hb:=jK hw.1 true
 refine⟨l,rfl,⟨_,ar.of hl⟩,eV lO (Nat.le_trans (by lia:ys.length<=200) (by decide)) (nC (R:=nJ) (p:=fun y=>true) (f:=fun ps=>.bl (aI cs ps)) (fun y y y y s h=>h.same s) hy (fun H' s'=>ar.of (s' _ _ hl)) (fun x ps y H2 s2 r Q h=>?_) (fun x ps ka y H2 s2 r Q h=>?_) fun H2 s2=>?_)⟩
 ·walk_at "gzn"
  exact h _ (ai.refl _)
 ·obtain⟨c,xs,rfl,hc,hP⟩:=r
  have da:=rE hw.1 hw.2 true ps ka
  walk_at "gzn"
  exact⟨a,c,cs,xs,ps,rfl,(s1.trans s2).seq hS,ar.of hc,hP,by lia,jc (dW hw.1) hf true ps ka,fun H3 s3=>h H3 s3⟩
 ·rw[List.nil_append,filter_tt]
  intro m hm
  refine⟨m,rfl,(aX true rt).map (aI cs),ar.of ?_,?_⟩
  ·rw[aj,List.map_map];rfl
  ·rw[List.any_map]
   exact q _ (s1.trans (s2.trans (ak hm)))
end
section
seal L2.PE L2.PS L2.aS L2.PA
variable{P:Program}{w:World}{K:PySem.W.Frag}{mg:Str->Option Value}{base:Heap}
inductive Th(K:PySem.W.Frag)(vs:List V)(H:Hp)(Q:VK)(aW:XK):Prop
 | mk(p:Addr)(lo hi:En)(n:Int)(_:vs=[.ref p,.int n])(_:aB K H p [ev lo,ev hi])(_:Q (.bl (hold lo hi n)) H)
theorem GG(T:Tx w K mg):Ok P w base 1 T.qy (Th K):=by
 refine bE Af ?_
 rintro y y y y H y Q y y ⟨p,lo,hi,n,rfl,hp,q⟩
 refine⟨_,(ao (ay (gO (kf (mY (vg (aw (aa 0) ag))) (eA (dH (gN fj) (aw (aa 0) ag) (aa 1) (cQ _)))) (eA (kf (mY (vg (aw (aa 0) ag))) (eA (dH (gN fj) (aa 1) (aw (aa 0) ag) (cQ _)))))))),?_⟩
 rcases lo with y|lo<;>rcases hi with y|hi
 all_goals simp only[DG,DH] at hp
 all_goals
  walk_at "gzn"
  repeat' first
  | refine aQ hp rfl ?_
  | (walk_at "gzp")
  | (refine aL (fun hc=>?_) fun hc=>?_)
 all_goals first
  | exact q
  | exact (congrArg (fun b=>Q (V.bl b) H) (show hold _ _ n=_ by rw[Bool.eq_iff_iff,iq];simp<;>lia)).mp q
theorem Ti{cs:List Int}{t:Int}(h:0<t):(c7 (.turn t)).any (aI cs)=true↔cs.getD (t-1).toNat 0<cs.getD t.toNat 0/\cs.getD (t+1).toNat 0<cs.getD t.toNat 0:=by
 rw[show (c7 (.turn t)).any (aI cs)=aI cs (ix t) from Bool.or_false _]
 unfold aI ix
 simp only[List.all_cons,List.all_nil,Bool.and_true,Bool.and_eq_true,iq]
 unfold gM
 rw[if_pos rfl,if_pos rfl,show t-1+1=t by lia]
 constructor
 ·rintro ⟨⟨h1,y⟩,y,h2⟩
  have a:=h1 _ rfl
  have b:=h2 _ rfl
  lia
 ·rintro ⟨h1,h2⟩
  refine⟨⟨fun x hx=>?_,fun x hx=>(nomatch hx)⟩,fun x hx=>(nomatch hx),fun x hx=>?_⟩
  ·cases hx;lia
  ·cases hx;lia
inductive Tj(K:PySem.W.Frag)(vs:List V)(H:Hp)(Q:VK)(aW:XK):Prop
 | mk(p a:Addr)(tr:Tr)(cs:List Int)(_:vs=[.ref p,.ref a])(_:H p=some (.tup (uv tr)))(_:dU tr)(_:ar K H a (cs.map V.int))(_:cs.length<=100)(_:iY tr<(cs.length:Int))(_:∀ H',ai H H'->Q (.bl ((c7 tr).any (aI cs))) H')
theorem Tn(T:Tx w K mg):Ok P w base 2 T.kW (Tj K):=by
 refine bE jB ?_
 rintro y y y s H y Q y hr ⟨p,a,tr,cs,rfl,hp,hg,hS,hn,hf,q⟩
 refine⟨_,(aq (aN 2 jB.nd (aw (aa 0) ag)) (aq (aE (aP (aa 2) au) (ao (ay wK)) aH) (aq (aE (aP (aa 2) au) (ao (ay wK)) aH) (aq (aE (aP (aa 2) au) (ao (ay wK)) aH) (aq (aE (aP (aa 2) au) (ao (ay (gO (dH (gN o3) (aw (aa 1) (ax dD (aw (aa 0) ag) ag)) (aw (aa 1) (aw (aa 0) ag)) (cQ _)) (eA (dH (gN o3) (aw (aa 1) (ax a9 (aw (aa 0) ag) ag)) (aw (aa 1) (aw (aa 0) ag)) (cQ _)))))) aH) (aq (aE (aP (aa 2) au) (aq (De (i:=3) (cO [1] ["_law_course"]) rfl jB.nd rfl rfl (oU rfl T.jF (ae (aw (aa 0) ag) (ae (aw (aa 0) ag) ah))) (fun C s2 H2 ex pn=>⟨eU,(ax dD (gf (K:=K) (aa 1) (ax a9 (aa 0) ag)) (gf (K:=K) (aa 1) (aa 0)))⟩)) (ao (ay (bj (sT rfl) (by rfl) T.uj sG (ae (fK (cO [0] ["_law_tree"]) rfl (jh (aa 3)) (fun C s2 H2 ex pn=>⟨eU,(aJ (GG T) hr (ae (bg (ae (gf (K:=K) (aa 1) ag) (ae (gf (K:=K) (aa 1) ag) ah))) (ae (aa 0) ah)))⟩)) ah))))) aH) (aq (aN 4 jB.nd (cM fv (aa 1) (cy (aw (aa 0) ag)) (cy (ax a9 (aw (aa 0) ag) ag)))) (aq (aE (aP (aa 2) au) (ao (ay (bj (sT rfl) (by rfl) T.uj sG (ae (fK (cO [0] ["_law_tree"]) rfl (jh (aa 4)) (fun C s2 H2 ex pn=>⟨eU,(aJ (GG T) hr (ae (bg (ae (gf (K:=K) (aa 1) ag) (ae (gf (K:=K) (aa 1) ag) ah))) (ae (aa 0) ah)))⟩)) ah)))) aH) (aq (aE (aP (aa 2) au) (ao (ay (dH (gN vv) (bj (Dl rfl) (by rfl) T.qM pj (ae (aa 4) ah)) (aw (aa 0) ag) (cQ _)))) aH) (aq (aE (aP (aa 2) au) (ao (ay (dH (gN fj) (bj (Dm rfl) (by rfl) T.E4 CG (ae (aa 4) ah)) (aw (aa 0) ag) (cQ _)))) aH) (ao (ay (bj (wB rfl) (by rfl) T.Ag vW (ae (fK (cO [0,4] ["_law_tree","_law_seen"]) rfl (rW rfl T.jF (ae (ax dD (bj c8 (by rfl) T.dj df (ae (aa 4) ah)) ag) ah)) (fun C s2 H2 ex pn=>⟨eU,(gO (dH (gN fj) (bj (Ms (K:=K) rfl rfl) (by rfl) T.E4 CG (ae (cM (Dt (K:=K) rfl) (aa 2) de (cy (ax a9 (aa 0) ag))) ah)) (gf (K:=K) (aa 1) ag) (cQ _)) (eA (dH (gN vv) (bj (Mr (K:=K) rfl rfl) (by rfl) T.qM pj (ae (cM (Dt (K:=K) rfl) (aa 2) (cy (ax a9 (aa 0) ag)) de) ah)) (gf (K:=K) (aa 1) ag) (cQ _))))⟩)) ah)))))))))))))),?_⟩
 cases tr with
 | turn t =>
  obtain⟨g1,g2⟩:=(hg:0<t/\t<11)
  simp only[iY] at hf
  walk_at "gzn"
  refine aK hp ?_
  walk_at "gzn"
  refine aK hp ?_
  walk_at "gzn"
  refine bC hS (int_at (by lia) (by lia)) (aQ (aB.of hp) rfl (bC hS (int_at (by lia) (by lia)) ?_))
  walk_at "gzn"
  have tm:=Ti (cs:=cs) g1
  refine aL (fun hc=>?_) fun hc=>?_
  ·refine aK hp ?_
   walk_at "gzn"
   refine bC hS (int_at (by lia) (by lia)) (aQ (aB.of hp) rfl (bC hS (int_at (by lia) (by lia)) ?_))
   walk_at "gzn"
   have:=q _ (ai.refl _)
   rw[show decide (cs.getD (t+1).toNat 0<cs.getD t.toNat 0)=(c7 (.turn t)).any (aI cs) from by
    rw[Bool.eq_iff_iff,decide_eq_true_eq,tm]
    exact⟨fun z=>⟨hc,z⟩,fun z=>z.2⟩]
   exact this
  ·have:=q _ (ai.refl _)
   rw[show (c7 (.turn t)).any (aI cs)=false from Bool.eq_false_iff.mpr fun z=>hc (tm.mp z).1] at this
   exact this
 | stay i j l h =>
  obtain⟨g1,g2,g3⟩:=(hg:bp i j)
  simp only[iY] at hf
  walk_at "gzn"
  refine aK hp ?_
  walk_at "gzn"
  refine aK hp ?_
  walk_at "gzn"
  refine aK hp ?_
  walk_at "gzn"
  refine⟨_,hS,?_⟩
  rw[tM g1 g2 hf]
  intro d hd
  have sd:=ak (o:=.lst (((List.range (j+1-i).toNat).map (aZ cs i)).map V.int)) hd
  have ed:upd H d (.lst (((List.range (j+1-i).toNat).map (aZ cs i)).map V.int)) d=some (.lst (((List.range (j+1-i).toNat).map (aZ cs i)).map V.int)):=aj
  generalize upd H d (.lst (((List.range (j+1-i).toNat).map (aZ cs i)).map V.int))=H1 at sd ed ⊢
  refine⟨⟨_,ar.of ed⟩,eV lO (by rw[List.length_map,List.length_map,List.length_range];exact Nat.le_trans (by lia:_<=12) (by decide)) (nC (R:=fun _ x (n:Int)=>x=V.int n) (p:=fun y=>true) (f:=fun n=>.bl (hold l h n)) (fun y y y y y h=>h) (Gz.aD.ints _) (fun H' s'=>ar.of (s' _ _ ed)) (fun x n y H2 s2 r Q h=>?_) (fun x n y y H2 s2 r Q h=>?_) fun H2 s2=>?_)⟩
  ·walk_at "gzn"
   exact h _ (ai.refl _)
  ·subst r
   walk_at "gzn"
   refine aQ (aB.of ((sd.trans s2) _ _ hp)) rfl (aQ (aB.of ((sd.trans s2) _ _ hp)) rfl ⟨bJ,fun t ht=>?_⟩)
   exact⟨t,l,_,n,rfl,aB.of aj,h _ (ak ht)⟩
  ·rw[List.nil_append,filter_tt]
   intro m hm
   refine⟨m,rfl,((List.range (j+1-i).toNat).map (aZ cs i)).map (hold l h),ar.of ?_,?_⟩
   ·rw[aj];simp only[List.map_map,Function.comp_def]
   ·rw[List.all_map,List.all_map]
    have e:(c7 (.stay i j l h)).any (aI cs)=(List.range (j+1-i).toNat).all ((id ∘ hold l h) ∘ aZ cs i):=by
     rw[show (c7 (.stay i j l h)).any (aI cs)=aI cs (bc i j (l,h)) from Bool.or_false _,xf]
     rfl
    rw[<- e]
    exact q _ (sd.trans (s2.trans (ak hm)))
 | pace i j l h =>
  obtain⟨g1,g2,g3⟩:=(hg:bp i j)
  simp only[iY] at hf
  walk_at "gzn"
  refine aK hp ?_
  walk_at "gzn"
  refine aK hp (aK hp ?_)
  walk_at "gzn"
  refine⟨by lia,by lia,by lia,by lia,eV lP (by rw[List.length_map,List.length_range];exact Nat.le_trans (by lia:_<=12) (by decide)) (sV (R:=fun x (k:Nat)=>x=V.int (i+k)) (p:=fun y=>true) (f:=fun k=>.int (cs.getD (i+(k:Int)+1).toNat 0-aZ cs i k)) trivial (aD.iF _) (fun x k y r Q h=>?_) (fun x k hk y r Q h=>?_) ?_)⟩
  ·walk_at "gzn"
   exact h
  ·subst r
   have hk:=List.mem_range.mp hk
   walk_at "gzn"
   refine bC hS (int_at (by lia) (by lia)) (bC hS (int_at (by lia) (by lia)) ?_)
   walk_at "gzn"
   exact h
  rw[List.nil_append,filter_tt]
  intro d hd
  rw[show ((List.range (j-i).toNat).map fun (k:Nat)=>V.int (cs.getD (i+(k:Int)+1).toNat 0-aZ cs i k))=((List.range (j-i).toNat).map fun (k:Nat)=>cs.getD (i+(k:Int)+1).toNat 0-aZ cs i k).map V.int by rw[List.map_map];rfl]
  generalize eg:((List.range (j-i).toNat).map fun (k:Nat)=>cs.getD (i+(k:Int)+1).toNat 0-aZ cs i k)=gs
  have sd:=ak (o:=.lst (gs.map V.int)) hd
  have ed:upd H d (.lst (gs.map V.int)) d=some (.lst (gs.map V.int)):=aj
  have AA:gs.length<=12:=by rw[<- eg,List.length_map,List.length_range];lia
  generalize upd H d (.lst (gs.map V.int))=H1 at sd ed ⊢
  refine⟨d,rfl,⟨_,ar.of ed⟩,eV lO (by rw[List.length_map];exact Nat.le_trans AA (by decide)) (nC (R:=fun _ x (n:Int)=>x=V.int n) (p:=fun y=>true) (f:=fun n=>.bl (hold l h n)) (fun y y y y y h=>h) (Gz.aD.ints _) (fun H' s'=>ar.of (s' _ _ ed)) (fun x n y H2 s2 r Q h=>?_) (fun x n y y H2 s2 r Q h=>?_) fun H2 s2=>?_)⟩
  ·walk_at "gzn"
   exact h _ (ai.refl _)
  ·subst r
   walk_at "gzn"
   refine aQ (aB.of ((sd.trans s2) _ _ hp)) rfl (aQ (aB.of ((sd.trans s2) _ _ hp)) rfl ⟨bJ,fun t ht=>?_⟩)
   exact⟨t,l,_,n,rfl,aB.of aj,h _ (ak ht)⟩
  ·rw[List.nil_append,filter_tt]
   intro m hm
   refine⟨m,rfl,gs.map (hold l h),ar.of ?_,?_⟩
   ·rw[aj];simp only[List.map_map,Function.comp_def]
   ·have e:(c7 (.pace i j l h)).any (aI cs)=(gs.map (hold l h)).all id:=by
     rw[show (c7 (.pace i j l h)).any (aI cs)=aI cs (dO i j (l,h)) from Bool.or_false _,Mt,List.all_map,<- eg,List.all_map]
     rfl
    rw[<- e]
    exact q _ (sd.trans (s2.trans (ak hm)))
 | over i j s =>
  obtain⟨g1,g2,g3⟩:=(hg:bp i j)
  simp only[iY] at hf
  walk_at "gzn"
  refine aK hp ?_
  walk_at "gzn"
  refine aK hp ?_
  walk_at "gzn"
  refine aK hp ?_
  walk_at "gzn"
  refine⟨_,hS,?_⟩
  rw[tM g1 g2 hf]
  intro d hd
  have sd:=ak (o:=.lst (((List.range (j+1-i).toNat).map (aZ cs i)).map V.int)) hd
  refine⟨_,ar.of aj,by simp;lia,aK (sd _ _ hp) ?_⟩
  walk_at "gzn"
  have:=q _ sd
  rw[show decide (s<=eW ((List.range (j+1-i).toNat).map (aZ cs i)))=(c7 (.over i j s)).any (aI cs) from by
   rw[Bool.eq_iff_iff,decide_eq_true_eq,Mw (by lia)]
   exact Mu.symm]
  exact this
 | under i j s =>
  obtain⟨g1,g2,g3⟩:=(hg:bp i j)
  simp only[iY] at hf
  walk_at "gzn"
  refine aK hp ?_
  walk_at "gzn"
  refine aK hp ?_
  walk_at "gzn"
  refine aK hp ?_
  walk_at "gzn"
  refine⟨_,hS,?_⟩
  rw[tM g1 g2 hf]
  intro d hd
  have sd:=ak (o:=.lst (((List.range (j+1-i).toNat).map (aZ cs i)).map V.int)) hd
  refine⟨_,ar.of aj,by simp;lia,aK (sd _ _ hp) ?_⟩
  walk_at "gzn"
  have:=q _ sd
  rw[show decide (gH ((List.range (j+1-i).toNat).map (aZ cs i))<=s)=(c7 (.under i j s)).any (aI cs) from by
   rw[Bool.eq_iff_iff,decide_eq_true_eq,xg (by lia)]
   exact Mv.symm]
  exact this
 | rose i j l h =>
  obtain⟨g1,g2,g3⟩:=(hg.1:bp i j)
  simp only[iY] at hf
  walk_at "gzn"
  refine aK hp ?_
  walk_at "gzn"
  refine aK hp ?_
  walk_at "gzn"
  refine aK hp ?_
  walk_at "gzn"
  refine⟨_,hS,?_⟩
  rw[tM g1 g2 hf]
  intro d hd
  obtain⟨n,A6,o5⟩:∃ n,(j+1-i).toNat=n/\n<=12:=⟨_,rfl,by lia⟩
  have GH:=D0 (cs:=cs) (i:=i) (j:=j) (l:=l) (h:=h)
  rw[A6] at GH ⊢
  have n1:1<=n:=by lia
  have sd:=ak (o:=.lst (((List.range n).map (aZ cs i)).map V.int)) hd
  have ed:upd H d (.lst (((List.range n).map (aZ cs i)).map V.int)) d=some (.lst (((List.range n).map (aZ cs i)).map V.int)):=aj
  generalize upd H d (.lst (((List.range n).map (aZ cs i)).map V.int))=H1 at sd ed ⊢
  refine⟨_,dI (ar.of ed),?_⟩
  rw[List.length_map,List.length_map,List.length_range]
  refine⟨by lia,by lia,?_⟩
  rw[show ((n:Int)-1).toNat=n-1 by lia]
  refine eV lP (by rw[List.length_map,List.length_range];exact Nat.le_trans (by lia:_<=12) (by decide)) (nC (R:=fun _ x (k:Nat)=>x=V.int ((0:Int)+k)) (p:=fun y=>true) (f:=fun k=>.bl (decide (gH (((List.range n).map (aZ cs i)).take (k+1))<=l) && decide (h<=eW (((List.range n).map (aZ cs i)).drop (k+1))))) (fun y y y y y h=>h) (aD.iF _) (fun y y=>trivial) (fun x k y H2 s2 r Q h=>?_) (fun x k hk y H2 s2 r Q h=>?_) fun H2 s2=>?_)
  ·walk_at "gzn"
   exact h _ (ai.refl _)
  ·subst r
   have hk:=List.mem_range.mp hk
   have len:((List.range n).map (aZ cs i)).length=n:=by rw[List.length_map,List.length_range]
   have ne1:((List.range n).map (aZ cs i)).take (k+1)≠[]:=fun z=>by
    have:=congrArg List.length z
    rw[List.length_take,len] at this
    simp at this
    lia
   have ne2:((List.range n).map (aZ cs i)).drop (k+1)≠[]:=fun z=>by
    have:=congrArg List.length z
    rw[List.length_drop,len] at this
    simp at this
    lia
   walk_at "gzn"
   rw[show (0:Int)+(k:Int)+1=((k+1:Nat):Int) by lia]
   refine⟨_,ar.of (s2 _ _ ed),?_⟩
   rw[LN,<- List.map_take]
   intro p1 fw
   have u1:=ak (o:=.lst ((((List.range n).map (aZ cs i)).take (k+1)).map V.int)) fw
   refine⟨_,ar.of aj,ne1,aQ (aB.of ((sd.trans (s2.trans u1)) _ _ hp)) rfl ?_⟩
   walk_at "gzn"
   refine aL (fun hc=>?_) fun hc=>?_
   ·refine⟨_,ar.of ((s2.trans u1) _ _ ed),?_⟩
    rw[Dy,<- List.map_drop]
    intro p2 fL
    have u2:=ak (o:=.lst ((((List.range n).map (aZ cs i)).drop (k+1)).map V.int)) fL
    refine⟨_,ar.of aj,ne2,aQ (aB.of ((sd.trans (s2.trans (u1.trans u2))) _ _ hp)) rfl ?_⟩
    walk_at "gzn"
    have:=h _ (u1.trans u2)
    rw[decide_eq_true hc,Bool.true_and] at this
    exact this
   ·have:=h _ u1
    rw[decide_eq_false hc,Bool.false_and] at this
    exact this
  ·rw[List.nil_append,filter_tt]
   intro m hm
   refine⟨m,rfl,(List.range (n-1)).map fun k=>decide (gH (((List.range n).map (aZ cs i)).take (k+1))<=l) && decide (h<=eW (((List.range n).map (aZ cs i)).drop (k+1))),ar.of ?_,?_⟩
   ·rw[aj];simp only[List.map_map,Function.comp_def]
   ·rw[List.any_map]
    have e:(c7 (.rose i j l h)).any (aI cs)=((List.range (n-1)).any fun k=>decide (gH (((List.range n).map (aZ cs i)).take (k+1))<=l) && decide (h<=eW (((List.range n).map (aZ cs i)).drop (k+1)))):=by
     rw[Bool.eq_iff_iff,Mx]
     exact GH
    exact (congrArg (fun b=>Q (V.bl b) _) e).mp (q _ (sd.trans (s2.trans (ak hm))))
theorem To{P:Program}{w:World}{K:PySem.W.Frag}{mg:Str->Option Value}{base:Heap}{CX:c9}{k:Nat}{f:Addr}{fd:FuncData}{ps:List Str}{sp o7:Sp}(F:cc P w K mg base CX k f fd ps sp)(G:cc P w K mg base CX k f fd ps o7):cc P w K mg base CX k f fd ps fun vs H Q E=>sp vs H Q E∨o7 vs H Q E :=
 ⟨fun vs H Q E h=>h.elim (F.len vs H Q E) (G.len vs H Q E),fun A outer s H args us vs Q E hr he hb hv h=>h.elim (F.run A outer s H args us vs Q E hr he hb hv) (G.run A outer s H args us vs Q E hr he hb hv)⟩
inductive GI(K:PySem.W.Frag)(N:Nat)(vs:List V)(H:Hp)(Q:VK)(aW:XK):Prop
 | mk(v:V)(a:Addr)(rt:Rt)(cs:List Int)(_:vs=[v,.ref a])(_:bu H v rt)(_:eY rt)(_:ar K H a (cs.map V.int))(_:cs.length<=100)(_:eo rt<(cs.length:Int))(_:aG rt<N)(_:∀ H',ai H H'->Q (.bl ((aX true rt).any (aI cs))) H')
inductive Tp(K:PySem.W.Frag)(N:Nat)(vs:List V)(H:Hp)(Q:VK)(aW:XK):Prop
 | mk(v:V)(a:Addr)(rt:Rt)(cs:List Int)(_:vs=[v,.ref a])(_:bu H v rt)(_:eY rt)(_:ar K H a (cs.map V.int))(_:cs.length<=100)(_:eo rt<(cs.length:Int))(_:aG rt<N)(_:(∀ t,rt ≠ .leaf t))(_:∀ H',ai H H'->Q (.bl ((aX true rt).any (aI cs))) H')
theorem Tq(T:Tx w K mg)(N:Nat)(ih:Ok P w base (N+2) T.kW (GI K N)):Ok P w base (N+1+2) T.kW (Tp K (N+1)):=by
 refine bE jB ?_
 rintro z z z z z z z z hr ⟨v,a,rt,cs,rfl,hv,hg,hS,hn,hf,hh,hL,q⟩
 refine⟨_,(aq (aN 2 jB.nd (aw (aa 0) ag)) (aq (aE (aP (aa 2) au) (ao (ay (gO (aJ (hk:=by lia) ih hr (ae (aw (aa 0) ag) (ae (aa 1) ah))) (eA (aJ (hk:=by lia) ih hr (ae (aw (aa 0) ag) (ae (aa 1) ah))))))) aH) (aq (aE (aP (aa 2) au) (ao (ay (kf (aJ (hk:=by lia) ih hr (ae (aw (aa 0) ag) (ae (aa 1) ah))) (eA (aJ (hk:=by lia) ih hr (ae (aw (aa 0) ag) (ae (aa 1) ah))))))) aH) (aq (aE (aP (aa 2) au) (ao (ay (tS (aJ (hk:=by lia) ih hr (ae (aw (aa 0) ag) (ae (aa 1) ah)))))) aH) ID)))),?_⟩
 cases rt with
 | leaf t=>exact absurd rfl (hL t)
 | nay a' =>
  obtain⟨p,x,rfl,hp,h1⟩:=hv
  have hh:aG a' + 1<N+1:=hh
  walk_at "gzn"
  refine aK hp ?_
  walk_at "gzn"
  refine aQ (aB.of hp) rfl ⟨x,a,a',cs,rfl,h1,hg,hS,hn,hf,by lia,fun H1 s1=>?_⟩
  have e:(aX true (.nay a')).any (aI cs) = !(aX true a').any (aI cs):=oE (rt:=a') hg
  rw[e] at q
  walk_at "gzn"
  exact q _ s1
 | both a' b' =>
  obtain⟨p,x,y,rfl,hp,h1,h2⟩:=hv
  have hh:aG a' + aG b' + 1<N+1:=hh
  obtain⟨f1,f2⟩:=max_lt hf
  walk_at "gzn"
  refine aK hp ?_
  walk_at "gzn"
  refine aQ (aB.of hp) rfl ⟨x,a,a',cs,rfl,h1,hg.1,hS,hn,f1,by lia,fun H1 s1=>?_⟩
  have e:(aX true (.both a' b')).any (aI cs)=((aX true a').any (aI cs) && (aX true b').any (aI cs)):=A9 _ _ _
  rw[e] at q
  cases hb:(aX true a').any (aI cs) with
  | false =>
   rw[hb] at q
   walk_at "gzn"
   exact q _ s1
  | true =>
   rw[hb] at q
   walk_at "gzn"
   exact aQ (aB.of (s1 _ _ hp)) rfl ⟨y,a,b',cs,rfl,h2.same s1,hg.2,s1.seq hS,hn,f2,by lia,fun H2 s2=>q _ (s1.trans s2)⟩
 | either a' b' =>
  obtain⟨p,x,y,rfl,hp,h1,h2⟩:=hv
  have hh:aG a' + aG b' + 1<N+1:=hh
  obtain⟨f1,f2⟩:=max_lt hf
  walk_at "gzn"
  refine aK hp ?_
  walk_at "gzn"
  refine aQ (aB.of hp) rfl ⟨x,a,a',cs,rfl,h1,hg.1,hS,hn,f1,by lia,fun H1 s1=>?_⟩
  have e:(aX true (.either a' b')).any (aI cs)=((aX true a').any (aI cs) || (aX true b').any (aI cs)):=List.any_append
  rw[e] at q
  cases hb:(aX true a').any (aI cs) with
  | true =>
   rw[hb] at q
   walk_at "gzn"
   exact q _ s1
  | false =>
   rw[hb] at q
   walk_at "gzn"
   exact aQ (aB.of (s1 _ _ hp)) rfl ⟨y,a,b',cs,rfl,h2.same s1,hg.2,s1.seq hS,hn,f2,by lia,fun H2 s2=>q _ (s1.trans s2)⟩
theorem GJ(T:Tx w K mg):∀ N:Nat,Ok P w base (N+2) T.kW (GI K N)
 | 0=>by
  refine bE (k:=1) jB ?_
  rintro y y y y y y y y y ⟨y,y,y,y,rfl,y,y,y,y,y,h,y⟩
  exact absurd h (Nat.not_lt_zero _)
 | N+1=>by
  refine (To ((Tn T).mono (by lia)) (Tq T N (GJ T N))).imp fun vs H Q E h=>?_
  obtain⟨v,a,rt,cs,rfl,hv,hg,hS,hn,hf,hh,q⟩:=h
  cases rt with
  | leaf t =>
   obtain⟨p,rfl,hp⟩:=hv
   exact .inl ⟨p,a,t,cs,rfl,hp,hg,hS,hn,hf,q⟩
  | nay a'=>exact .inr ⟨v,a,.nay a',cs,rfl,hv,hg,hS,hn,hf,hh,fun y z=>(nomatch z),q⟩
  | both a' b'=>exact .inr ⟨v,a,.both a' b',cs,rfl,hv,hg,hS,hn,hf,hh,fun y z=>(nomatch z),q⟩
  | either a' b'=>exact .inr ⟨v,a,.either a' b',cs,rfl,hv,hg,hS,hn,hf,hh,fun y z=>(nomatch z),q⟩
end
section
seal L2.PE L2.PS L2.aS L2.PA
variable{P:Program}{w:World}{K:PySem.W.Frag}{mg:Str->Option Value}{base:Heap}
inductive Ba(N:Nat)(vs:List V)(H:Hp)(Q:VK)(aW:XK):Prop
 | mk(v:V)(rt:Rt)(_:vs=[v])(_:bu H v rt)(_:aG rt<N)(_:(fA rt->Q (.bl true) H))(_:(¬ fA rt->Q (.bl false) H))
theorem Ts(T:Tx w K mg)(N:Nat)(ih:Ok P w base (N+1) T.mC (Ba N)):Ok P w base (N+1+1) T.mC (Ba (N+1)):=by
 refine bE ug ?_
 rintro u u u s H u u u hr ⟨v,rt,rfl,hv,hh,q,q0⟩
 refine⟨_,(aq (aE (PW.pt (dn (aP (aw (aa 0) ag) au) (eS (aP (aw (aa 0) ag) au)))) (ao (ay (gO (aJ (hk:=by lia) ih hr (ae (aw (aa 0) ag) ah)) (eA (aJ (hk:=by lia) ih hr (ae (aw (aa 0) ag) ah)))))) aH) (aq (aE (aP (aw (aa 0) ag) au) (ao (ay (aJ (hk:=by lia) ih hr (ae (aw (aa 0) ag) ah)))) aH) (aq (aE (aP (aw (aa 0) ag) au) (ao (ay (BU fj fj ag (aw (aa 0) ag) ag))) aH) (aq (aE (PW.pt (lx (aP (aw (aa 0) ag) au) (mZ (tQ (aw (aa 0) ag) (aw (aa 0) ag))))) (ao (ay mW)) aH) (aq (aE (PW.pt (lx (PW.pt (dn (aP (aw (aa 0) ag) au) (eS (aP (aw (aa 0) ag) au)))) (lx (Ed (aw (aa 0) ag)) (mZ (Ed (aw (aa 0) ag)))))) (ao (aE (nN (aw (aa 0) ag) (aw (aa 0) ag)) (ao (ay mW)) aH)) aH) (ao (ay (L7 fj fj fj ag (aw (aa 0) ag) (aw (aa 0) ag) ag)))))))),?_⟩
 cases rt with
 | leaf t =>
  obtain⟨p,rfl,hp⟩:=hv
  cases t with
  | stay i j l h =>
   replace hp:H p=some (.tup [.str "stay",.int i,.int j,ev l,ev h]):=hp
   have OK:fA (.leaf (.stay i j l h))->bp i j:=fun z=>z.1
   cases l with
   | none =>
    replace hp:H p=some (.tup [.str "stay",.int i,.int j,.non,ev h]):=hp
    walk_at "gzn"
    repeat (refine aK hp ?_;walk_at "gzn")
    refine aL (fun h0=>aQ (aB.of hp) rfl ⟨_,rfl,aL (fun h1=>⟨_,rfl,?_⟩) fun h1=>q0 fun z=>h1 (OK z).2.1⟩) fun h0=>q0 fun z=>h0 (OK z).1
    by_cases h2:j<=11
    ·rw[decide_eq_true h2]
     exact q ⟨⟨h0,h1,h2⟩,rfl⟩
    ·rw[decide_eq_false h2]
     exact q0 fun z=>h2 (OK z).2.2
   | some l =>
    cases h with
    | none =>
     replace hp:H p=some (.tup [.str "stay",.int i,.int j,.int l,.non]):=hp
     walk_at "gzn"
     repeat (refine aK hp ?_;walk_at "gzn")
     refine aL (fun h0=>aQ (aB.of hp) rfl ⟨_,rfl,aL (fun h1=>⟨_,rfl,?_⟩) fun h1=>q0 fun z=>h1 (OK z).2.1⟩) fun h0=>q0 fun z=>h0 (OK z).1
     by_cases h2:j<=11
     ·rw[decide_eq_true h2]
      exact q ⟨⟨h0,h1,h2⟩,rfl⟩
     ·rw[decide_eq_false h2]
      exact q0 fun z=>h2 (OK z).2.2
    | some h =>
     replace hp:H p=some (.tup [.str "stay",.int i,.int j,.int l,.int h]):=hp
     walk_at "gzn"
     repeat (refine aK hp ?_;walk_at "gzn")
     refine aL (fun hc=>q0 fun z=>absurd (show dw (some l) (some h)=false from z.2) (by rw[show dw (some l) (some h)=true from decide_eq_true hc];decide)) fun hc=>?_
     repeat (refine aK hp ?_;walk_at "gzn")
     refine aL (fun h0=>aQ (aB.of hp) rfl ⟨_,rfl,aL (fun h1=>⟨_,rfl,?_⟩) fun h1=>q0 fun z=>h1 (OK z).2.1⟩) fun h0=>q0 fun z=>h0 (OK z).1
     by_cases h2:j<=11
     ·rw[decide_eq_true h2]
      exact q ⟨⟨h0,h1,h2⟩,decide_eq_false hc⟩
     ·rw[decide_eq_false h2]
      exact q0 fun z=>h2 (OK z).2.2
  | pace i j l h =>
   replace hp:H p=some (.tup [.str "pace",.int i,.int j,ev l,ev h]):=hp
   have OK:fA (.leaf (.pace i j l h))->bp i j:=fun z=>z.1
   cases l with
   | none =>
    replace hp:H p=some (.tup [.str "pace",.int i,.int j,.non,ev h]):=hp
    walk_at "gzn"
    repeat (refine aK hp ?_;walk_at "gzn")
    refine aL (fun h0=>aQ (aB.of hp) rfl ⟨_,rfl,aL (fun h1=>⟨_,rfl,?_⟩) fun h1=>q0 fun z=>h1 (OK z).2.1⟩) fun h0=>q0 fun z=>h0 (OK z).1
    by_cases h2:j<=11
    ·rw[decide_eq_true h2]
     exact q ⟨⟨h0,h1,h2⟩,rfl⟩
    ·rw[decide_eq_false h2]
     exact q0 fun z=>h2 (OK z).2.2
   | some l =>
    cases h with
    | none =>
     replace hp:H p=some (.tup [.str "pace",.int i,.int j,.int l,.non]):=hp
     walk_at "gzn"
     repeat (refine aK hp ?_;walk_at "gzn")
     refine aL (fun h0=>aQ (aB.of hp) rfl ⟨_,rfl,aL (fun h1=>⟨_,rfl,?_⟩) fun h1=>q0 fun z=>h1 (OK z).2.1⟩) fun h0=>q0 fun z=>h0 (OK z).1
     by_cases h2:j<=11
     ·rw[decide_eq_true h2]
      exact q ⟨⟨h0,h1,h2⟩,rfl⟩
     ·rw[decide_eq_false h2]
      exact q0 fun z=>h2 (OK z).2.2
    | some h =>
     replace hp:H p=some (.tup [.str "pace",.int i,.int j,.int l,.int h]):=hp
     walk_at "gzn"
     repeat (refine aK hp ?_;walk_at "gzn")
     refine aL (fun hc=>q0 fun z=>absurd (show dw (some l) (some h)=false from z.2) (by rw[show dw (some l) (some h)=true from decide_eq_true hc];decide)) fun hc=>?_
     repeat (refine aK hp ?_;walk_at "gzn")
     refine aL (fun h0=>aQ (aB.of hp) rfl ⟨_,rfl,aL (fun h1=>⟨_,rfl,?_⟩) fun h1=>q0 fun z=>h1 (OK z).2.1⟩) fun h0=>q0 fun z=>h0 (OK z).1
     by_cases h2:j<=11
     ·rw[decide_eq_true h2]
      exact q ⟨⟨h0,h1,h2⟩,decide_eq_false hc⟩
     ·rw[decide_eq_false h2]
      exact q0 fun z=>h2 (OK z).2.2
  | over i j s =>
   replace hp:H p=some (.tup [.str "over",.int i,.int j,.int s]):=hp
   have OK:fA (.leaf (.over i j s))->bp i j:=fun z=>z.1
   walk_at "gzn"
   repeat (refine aK hp ?_;walk_at "gzn")
   refine aL (fun h0=>aQ (aB.of hp) rfl ⟨_,rfl,aL (fun h1=>⟨_,rfl,?_⟩) fun h1=>q0 fun z=>h1 (OK z).2.1⟩) fun h0=>q0 fun z=>h0 (OK z).1
   by_cases h2:j<=11
   ·rw[decide_eq_true h2]
    exact q ⟨⟨h0,h1,h2⟩,trivial⟩
   ·rw[decide_eq_false h2]
    exact q0 fun z=>h2 (OK z).2.2
  | under i j s =>
   replace hp:H p=some (.tup [.str "under",.int i,.int j,.int s]):=hp
   have OK:fA (.leaf (.under i j s))->bp i j:=fun z=>z.1
   walk_at "gzn"
   repeat (refine aK hp ?_;walk_at "gzn")
   refine aL (fun h0=>aQ (aB.of hp) rfl ⟨_,rfl,aL (fun h1=>⟨_,rfl,?_⟩) fun h1=>q0 fun z=>h1 (OK z).2.1⟩) fun h0=>q0 fun z=>h0 (OK z).1
   by_cases h2:j<=11
   ·rw[decide_eq_true h2]
    exact q ⟨⟨h0,h1,h2⟩,trivial⟩
   ·rw[decide_eq_false h2]
    exact q0 fun z=>h2 (OK z).2.2
  | rose i j l h =>
   replace hp:H p=some (.tup [.str "rose",.int i,.int j,.int l,.int h]):=hp
   have OK:fA (.leaf (.rose i j l h))->bp i j:=fun z=>z.1.1
   walk_at "gzn"
   repeat (refine aK hp ?_;walk_at "gzn")
   refine aL (fun hc=>q0 fun z=>by have:=z.1.2;lia) fun hc=>?_
   repeat (refine aK hp ?_;walk_at "gzn")
   refine aL (fun h0=>aQ (aB.of hp) rfl ⟨_,rfl,aL (fun h1=>⟨_,rfl,?_⟩) fun h1=>q0 fun z=>h1 (OK z).2.1⟩) fun h0=>q0 fun z=>h0 (OK z).1
   by_cases h2:j<=11
   ·rw[decide_eq_true h2]
    exact q ⟨⟨⟨h0,h1,h2⟩,by lia⟩,trivial⟩
   ·rw[decide_eq_false h2]
    exact q0 fun z=>h2 (OK z).2.2
  | turn t =>
   replace hp:H p=some (.tup [.str "turn",.int t]):=hp
   walk_at "gzn"
   repeat (refine aK hp ?_;walk_at "gzn")
   refine aL (fun h0=>?_) fun h0=>q0 fun z=>by have:=z.1.1;lia
   by_cases h2:t<=10
   ·rw[decide_eq_true h2]
    exact q ⟨⟨by lia,by lia⟩,trivial⟩
   ·rw[decide_eq_false h2]
    exact q0 fun z=>by have:=z.1.2;lia
 | nay a =>
  obtain⟨p,x,rfl,hp,hx⟩:=hv
  have hh:aG a+1<N+1:=hh
  walk_at "gzn"
  repeat (refine aK hp ?_;walk_at "gzn")
  exact⟨x,a,rfl,hx,by lia,q,q0⟩
 | both a b =>
  obtain⟨p,x,y,rfl,hp,hx,hy⟩:=hv
  have hh:aG a+aG b+1<N+1:=hh
  walk_at "gzn"
  repeat (refine aK hp ?_;walk_at "gzn")
  refine⟨x,a,rfl,hx,by lia,fun ta=>?_,fun ta=>?_⟩
  ·walk_at "gzn"
   exact aQ (aB.of hp) rfl ⟨y,b,rfl,hy,by lia,fun tb=>q ⟨ta,tb⟩,fun tb=>q0 fun z=>tb z.2⟩
  ·walk_at "gzn"
   exact q0 fun z=>ta z.1
 | either a b =>
  obtain⟨p,x,y,rfl,hp,hx,hy⟩:=hv
  have hh:aG a+aG b+1<N+1:=hh
  walk_at "gzn"
  repeat (refine aK hp ?_;walk_at "gzn")
  refine⟨x,a,rfl,hx,by lia,fun ta=>?_,fun ta=>?_⟩
  ·walk_at "gzn"
   exact aQ (aB.of hp) rfl ⟨y,b,rfl,hy,by lia,fun tb=>q ⟨ta,tb⟩,fun tb=>q0 fun z=>tb z.2⟩
  ·walk_at "gzn"
   exact q0 fun z=>ta z.1
theorem GK(T:Tx w K mg):∀ N:Nat,Ok P w base (N+1) T.mC (Ba N)
 | 0=>by
  refine bE (k:=0) ug ?_
  rintro y y y y y y y y y ⟨y,y,rfl,y,h,y⟩
  exact absurd h (Nat.not_lt_zero _)
 | N+1=>Ts T N (GK T N)
end
section
seal L2.PE L2.PS L2.aS L2.PA
variable{P:Program}{w:World}{K:PySem.W.Frag}{mg:Str->Option Value}{base:Heap}
theorem Tt(T:Tx w K mg){H:Hp}{v:V}{rt:Rt}(h:bG T H v rt):∃ x C dx fs,v = .ref x/\H x=some (.ins C dx fs)/\br K C/\Meth K C "held" T.cp.a/\List.lookup ("held" : Str) fs=none:=by
 cases rt with
 | leaf t =>
  obtain⟨x,rfl,h⟩:=h
  cases t with
  | stay i j l h=>obtain⟨dx,p,hx,y⟩:=h;exact⟨x,_,_,_,rfl,hx,T.fO,T.Oc,rfl⟩
  | pace i j l h=>obtain⟨dx,p,hx,y⟩:=h;exact⟨x,_,_,_,rfl,hx,T.gq,T.Oy,rfl⟩
  | over i j s=>obtain⟨dx,hx⟩:=h;exact⟨x,_,_,_,rfl,hx,T.fP,T.Og,rfl⟩
  | under i j s=>obtain⟨dx,hx⟩:=h;exact⟨x,_,_,_,rfl,hx,T.fQ,T.Ol,rfl⟩
  | rose i j l h=>obtain⟨dx,hx⟩:=h;exact⟨x,_,_,_,rfl,hx,T.dS,T.Ou,rfl⟩
  | turn t=>obtain⟨dx,hx⟩:=h;exact⟨x,_,_,_,rfl,hx,T.iw,T.OC,rfl⟩
 | nay a=>obtain⟨x,dx,c,rfl,hx,y⟩:=h;exact⟨x,_,_,_,rfl,hx,T.iW,T.OP,rfl⟩
 | both a b=>obtain⟨x,dx,c,d,rfl,hx,y⟩:=h;exact⟨x,_,_,_,rfl,hx,T.gu,T.OG,rfl⟩
 | either a b=>obtain⟨x,dx,c,d,rfl,hx,y⟩:=h;exact⟨x,_,_,_,rfl,hx,T.gv,T.OL,rfl⟩
theorem oG:∀ {rt:Rt},eY rt->0<=eo rt/\eo rt<=11
 | .leaf t,hg=>by
  have hg:dU t:=hg
  cases t with
  | rose i j l h=>obtain⟨⟨a,b,c⟩,y⟩:=hg;exact⟨by show 0<=j;lia,c⟩
  | turn t=>obtain⟨a,b⟩:=hg;exact⟨by show 0<=t+1;lia,by show t+1<=11;lia⟩
  | stay i j l h=>obtain⟨a,b,c⟩:=hg;exact⟨by show 0<=j;lia,c⟩
  | pace i j l h=>obtain⟨a,b,c⟩:=hg;exact⟨by show 0<=j;lia,c⟩
  | over i j s=>obtain⟨a,b,c⟩:=hg;exact⟨by show 0<=j;lia,c⟩
  | under i j s=>obtain⟨a,b,c⟩:=hg;exact⟨by show 0<=j;lia,c⟩
 | .nay a,hg=>oG (rt:=a) hg
 | .both a b,hg=>by
  have:=oG hg.1
  have:=oG hg.2
  show 0<=jb (eo a) (eo b)/\jb (eo a) (eo b)<=11
  unfold jb
  split<;>lia
 | .either a b,hg=>by
  have:=oG hg.1
  have:=oG hg.2
  show 0<=jb (eo a) (eo b)/\jb (eo a) (eo b)<=11
  unfold jb
  split<;>lia
theorem oH:∀ {rt:Rt},cn rt->gZ rt->fA rt
 | .leaf _,h,c=>⟨h,c⟩
 | .nay a,h,c=>oH (rt:=a) h c
 | .both _ _,h,c=>⟨oH h.1 c.1,oH h.2.1 c.2⟩
 | .either _ _,h,c=>⟨oH h.1 c.1,oH h.2.1 c.2⟩
theorem oI:∀ {rt:Rt},cn rt->¬ i6 rt
 | .leaf _,_,z=>z
 | .nay a,h,z=>oI (rt:=a) h z
 | .both a b,h,z=>by
  rcases z with z|z|z
  ·unfold k8 at z
   rw[iz (dW h)] at z
   exact z h.2.2
  ·exact oI h.1 z
  ·exact oI h.2.1 z
 | .either a b,h,z=>by
  rcases z with z|z|z
  ·unfold k8 at z
   rw[iz (dW h)] at z
   exact z h.2.2
  ·exact oI h.1 z
  ·exact oI h.2.1 z
theorem mQ{ws:List PySem.Str}{rt ru:Rt}(h:ef ws rt)(h':ef ws ru):rt=ru:=(jJ (r:=[]) (s:=[]) h.2.1 h'.2.1 (by rw[List.append_nil,List.append_nil,<- h.1,<- h'.1])).1
inductive Tu(vs:List V)(H:Hp)(Q:VK)(aW:XK):Prop
 | mk(x:PySem.Str)(c:Addr)(cs:List Int)(_:vs=[.str x,.ref c])(_:x.length<=100000)(_:H c=some (.lst (cs.map V.int)))(_:cs.length=12)(_:∀ H',ai H H'->Q (.bl true) H')
theorem Bb(T:Tx w K mg):Ok P w base 195 T.qF Tu:=by
 refine bE qf ?_
 rintro y y y y H y Q y hr ⟨x,c,cs,rfl,hx,hc,fW,q⟩
 refine⟨_,(aq (aN 2 qf.nd (aJ (SF T) hr (ae (aa 0) ah))) (aq (aN 3 qf.nd (aJ (RV T) hr (ae (aa 0) ah))) (aq (aE (nO (aa 2)) (ao (ay (dH jY (aw (aa 3) ag) au (cQ _)))) aH) (aq (aE (jg (d9 (aJ (GK T 64) hr (ae (aa 2) ah)))) (ao (ay (kf (dH jY (aw (aa 3) ag) au (cQ _)) (eA (gO (dH jY (aw (aa 3) ag) au (cQ _)) (eA (aJ (AW T 64) hr (ae (aa 2) ah)))))))) aH) (aq (aE (d9 (aJ (AW T 64) hr (ae (aa 2) ah))) (ao (ay (dH jY (aw (aa 3) ag) au (cQ _)))) aH) (aq (aE (PW.pt (dn (tR (aw (aa 3) ag) au) (eS (si (LJ hr.units) (dP (fun x H Q h=>FN T 64 hr (by decide) x H Q h) (aw (aa 3) ag)) (aJ (uO T 128) hr (ae (aa 2) ah)) (cQ _))))) (ao (ay mW)) aH) (ao (ay (dH jY (LX (aw (aa 3) ag) (Tf T) hr.m T.cp.b .nil fI (ae (j3 JS (by rfl) T.N1 Ko (ae (aa 1) ah)) ah)) (aJ (GJ T 64) hr (ae (aa 2) (ae (aa 1) ah))) (cQ _)))))))))),?_⟩
 refine aM (fun σ H1=>∃ v,σ=[some (.str x),some (.ref c),some v,none]/\ai H H1/\((∃ rt,ef (Txt.split x BL) rt/\bu H1 v rt)∨(v = .non/\¬ ∃ rt,ef (Txt.split x BL) rt))) (fun N hN=>?_) ?_
 ·walk_at "gzn"
  exact⟨x,rfl,hx,fun rt v H1 hR s1 hv=>hN _ _ ⟨v,rfl,s1,.inl ⟨rt,hR,hv⟩⟩,fun cL H1 s1=>hN _ _ ⟨_,rfl,s1,.inr ⟨rfl,cL⟩⟩⟩
 rintro σ H1 ⟨v,rfl,s1,hv⟩
 refine aM (fun σ H2=>∃ p w u,σ=[some (.str x),some (.ref c),some v,some (.ref p)]/\ai H1 H2/\H2 p=some (.tup [.str w,u])/\((∃ rt,w = "" /\ ef (Txt.split x BL) rt/\rA rt/\bG T H2 u rt)∨(AX (Txt.split x BL) w/\(w = "NoRule" ∨ w = "NoEvent" ∨ w = "TooMany")))) (fun N hN=>?_) ?_
 ·walk_at "gzn"
  refine⟨x,rfl,hx,fun rt u p H2 hR hE s2 hu hp=>hN _ _ ⟨p,_,_,rfl,s2,hp,.inl ⟨rt,rfl,hR,hE,hu⟩⟩,fun w p H2 s2 hw hp=>hN _ _ ⟨p,_,_,rfl,s2,hp,.inr ⟨hw,?_⟩⟩⟩
  rcases hw with ⟨rfl,y⟩|⟨y,y,⟨rfl,y⟩|⟨rfl,y⟩⟩
  ·exact .inl rfl
  ·exact .inr (.inl rfl)
  ·exact .inr (.inr rfl)
 rintro σ H2 ⟨p,w,u,rfl,s2,hp,hw⟩
 generalize Txt.split x BL=ws at *
 have t2:=s1.trans s2
 rcases hv with ⟨rt,hR,hv⟩|⟨rfl,cL⟩
 ·obtain⟨tp,ys,rfl,CL⟩:=uS hv
  have rL:=hv.same s2
  have hh:=i7 rt
  have i5:(az rt).length<=60:=by rw[<- hR.1];exact hR.2.2
  have i9:=k9 rt
  walk_at "gzn"
  refine⟨.ref tp,rt,rfl,rL,by lia,fun th=>?_,fun th=>?_⟩
  ·walk_at "gzn"
   refine⟨.ref tp,rt,rfl,rL,hR.2.1,by lia,by lia,by lia,fun mn H3 s3=>?_,fun mn H3 s3=>?_⟩
   ·walk_at "gzn"
    refine aK (s3 _ _ hp) ?_
    rcases hw with ⟨ru,rfl,g9,hE,y⟩|⟨⟨rfl,cL⟩|⟨ru,g9,⟨rfl,ht⟩|⟨rfl,y⟩⟩,y⟩
    ·exact absurd mn (by rw[mQ hR g9];exact oI hE.1)
    ·exact absurd ⟨rt,hR⟩ cL
    ·exact absurd th (by rw[mQ hR g9];exact ht)
    ·exact⟨rfl,by rw[decide_eq_true rfl];exact q _ (t2.trans s3)⟩
   ·walk_at "gzn"
    refine aK (s3 _ _ hp) ?_
    rcases hw with ⟨ru,rfl,g9,hE,hu⟩|⟨⟨rfl,cL⟩|⟨ru,g9,⟨rfl,ht⟩|⟨rfl,hm⟩⟩,y⟩
    ·obtain rfl:=mQ hR g9
     walk_at "gzn"
     refine aQ (aB.of (s3 _ _ hp)) rfl ⟨rt,hu.same s3,oq hE.1,by lia,fun p1 H4 s4 fw=>?_⟩
     refine⟨.ref tp,rt,rfl,(rL.same s3).same s4,hR.2.1,by lia,by lia,fun p2 H5 s5 fL=>?_⟩
     rw[iz (dW hE.1)] at fL
     refine LO (n:=1) (.tup (aB.of (s5 _ _ fw)) (wF [_,_])) (.tup (aB.of fL) (wF [_,_])) rfl (by decide) ⟨_,rfl,?_⟩
     have rM:=s3.trans (s4.trans s5)
     have t5:=t2.trans rM
     obtain⟨xa,C,dx,fs,rfl,hxa,Tv,hme,Az⟩:=Tt T (hu.same rM)
     walk_at "gzn"
     refine aQ (aB.of (rM _ _ hp)) rfl ⟨xa,rfl,_,_,_,hxa,Tv,hme,Az,_,.inl (ar.of (t5 _ _ hc)),fun l fl=>?_⟩
     have ul:=ak (o:=.lst (cs.map V.int)) fl
     have fi:=oG (dW hE.1)
     refine⟨_,l,rt,cs,rfl,(hu.same rM).same ul,⟨hE.1,i5⟩,by lia,ar.of aj,by lia,fun H6 s6=>?_⟩
     refine⟨.ref tp,c,rt,cs,rfl,((rL.same rM).same ul).same s6,dW hE.1,ar.of ((ul.trans s6) _ _ (t5 _ _ hc)),by lia,by lia,by lia,fun H7 s7=>⟨rfl,?_⟩⟩
     rw[decide_eq_true rfl]
     exact q _ (t5.trans (ul.trans (s6.trans s7)))
    ·exact absurd ⟨rt,hR⟩ cL
    ·exact absurd th (by rw[mQ hR g9];exact ht)
    ·exact absurd hm (by rw[<- mQ hR g9];exact mn)
  ·walk_at "gzn"
   refine aK hp ?_
   rcases hw with ⟨ru,rfl,g9,hE,y⟩|⟨⟨rfl,cL⟩|⟨ru,g9,⟨rfl,ht⟩|⟨rfl,hm⟩⟩,y⟩
   ·exact absurd (oH hE.1 hE.2) (by rw[<- mQ hR g9];exact th)
   ·exact absurd ⟨rt,hR⟩ cL
   ·exact⟨rfl,by rw[if_pos rfl];exact q _ t2⟩
   ·obtain rfl:=mQ hR g9
    refine⟨rfl,?_⟩
    rw[if_neg (fun z=>by injection z with z;exact absurd z (by decide))]
    refine aQ (aB.of hp) rfl ⟨rfl,?_⟩
    rw[if_pos rfl]
    exact⟨.ref tp,rt,rfl,rL,hR.2.1,by lia,by lia,by lia,fun y H3 s3=>q _ (t2.trans s3),fun mn=>absurd hm mn⟩
 ·walk_at "gzn"
  refine aK hp ?_
  rcases hw with ⟨rt,y,hR,y⟩|⟨⟨rfl,y⟩|⟨rt,hR,y⟩,y⟩
  ·exact absurd ⟨rt,hR⟩ cL
  ·walk_at "gzn"
   exact⟨rfl,q _ t2⟩
  ·exact absurd ⟨rt,hR⟩ cL
end
section
seal L2.PE L2.PS L2.aS L2.PA
variable{P:Program}{w:World}{K:PySem.W.Frag}{mg:Str->Option Value}{base:Heap}
theorem DC{xs:List V}(h:xs≠[]):cD xs (-1)=xs[xs.length-1]?:=by
 have hl:0<xs.length:=List.length_pos_iff.mpr h
 unfold cD fU
 rw[if_neg (by decide),if_pos (by lia),show ((-1:Int)+xs.length).toNat=xs.length-1 by lia]
 rfl
inductive uV(K:PySem.W.Frag)(vs:List V)(H:Hp)(Q:VK)(aW:XK):Prop
 | mk(a:Addr)(ns:List Int)(_:vs=[.ref a])(_:ar K H a (ns.map V.int))(_:fY ns)(_:∀ H',Q (.bl true) H')
theorem Tw(T:Tx w K mg):Ok P w base 196 T.mE (uV K):=by
 refine bE ku ?_
 rintro v v v v H v Q v hr ⟨a,ns,rfl,hS,hn,q⟩
 refine⟨_,(aq (aN 1 ku.nd (aJ (Ra T) hr (ae (aa 0) ah))) (aq (aN 2 ku.nd (aJ (Sn T) hr (ae (aa 0) (ae (aa 1) (ae ag ah))))) (aq (De (i:=3) (cO [1,0] ["_law_base_here","_law_script"]) rfl ku.nd rfl rfl (rW rfl T.jF (ae ag ah)) (fun C s2 H2 ex pn=>⟨eU,(ax a9 (aa 1) (aJ (dm T) hr (ae (aa 2) (ae (ax a9 ag (aa 0)) (ae ag (ae ag ah))))))⟩)) (aq (aN 4 ku.nd (aJ (uD T 128) hr (ae (aw (aa 2) (jX ke ag)) ah))) (aq (aE (jg (d9 (aJ (Bb T) hr (ae (aJ (Rk T) hr (ae (aa 0) (ae (aa 4) (ae (aa 1) ah)))) (ae (aa 3) ah))))) (ao (ay mW)) aH) (ao (ay (gO (aJ (Bb T) hr (ae (aJ (Rf T) hr (ae (aa 0) ah)) (ae (aa 3) ah))) (eA (aJ (Bb T) hr (ae (eN PySem.F.plainAttrs_str PySem.F.slot_str_join PySem.F.type_str_join xy au (ae (aa 4) ah)) (ae (aa 3) ah)))))))))))),?_⟩
 refine aM (fun σ H1=>∃ b:Int,σ=[some (.ref a),some (.int b),none,none,none]/\ai H H1/\-999999999999999999999999999999999999999999999999999999999900<=b/\b<=999999999999999999999999999999999999999999999999999999999900) (fun N hN=>?_) ?_
 ·walk_at "gzn"
  exact⟨a,ns,rfl,hS,hn,fun b H1 s1 b0 b1=>hN _ _ ⟨b,rfl,s1,b0,b1⟩⟩
 rintro σ H0 ⟨b,rfl,s0,b0,b1⟩
 refine aM (fun σ H1=>∃ l xs cI,σ=[some (.ref a),some (.int b),some (.ref l),none,none]/\ai H0 H1/\H1 l=some (.lst xs)/\aD (bu H1) xs cI/\(∀ rt∈cI,uB rt/\gZ rt)/\cI≠[]) (fun N hN=>?_) ?_
 ·walk_at "gzn"
  exact⟨a,ns,b,_,rfl,s0.seq hS,hn,b0,b1,by decide,by decide,fun l xs cI H2 s2 hl hA aA VO dM=>hN _ _ ⟨l,xs,cI,rfl,s2,hl,hA,aA,dM⟩⟩
 rintro σ H1 ⟨l,xs,cI,rfl,s1,hl,hA,aA,dM⟩
 replace s1:=s0.trans s1
 refine aM (fun σ H2=>∃ (o:Addr) (cs:List Int),σ=[some (.ref a),some (.int b),some (.ref l),some (.ref o),none]/\ai H1 H2/\H2 o=some (.lst (cs.map V.int))/\cs.length=12) (fun N hN=>?_) ?_
 ·walk_at "gzn"
  refine eV lP (by decide) (DL (P:=fun v=>True) trivial (fun x v Q h=>?_) (fun x hx Q h=>?_) fun cs sC v=>?_)
  ·walk_at "gzn"
   exact h
  ·obtain⟨k,hk,rfl⟩:=List.mem_map.mp hx
   have hk:=List.mem_range.mp hk
   walk_at "gzn"
   refine⟨a,ns,_,_,_,rfl,s1.seq hS,hn,by lia,by decide,by decide,fun p v v=>?_⟩
   walk_at "gzn"
   exact h _ trivial
  ·rw[List.nil_append]
   exact fun o fo=>hN _ _ ⟨o,cs,rfl,ak fo,aj,by rw[sC];decide⟩
 rintro σ H2 ⟨o,cs,rfl,s2,ho,hc⟩
 have xn:xs≠[]:=fun z=>by subst z;cases cI with|nil=>exact dM rfl|cons a r=>exact hA.elim
 have xl:0<xs.length:=List.length_pos_iff.mpr xn
 obtain⟨x,hx⟩:∃ x,xs[xs.length-1]?=some x:=⟨_,List.getElem?_eq_getElem (by lia)⟩
 obtain⟨rt,hrt,hv⟩:=hA.get hx
 obtain⟨⟨hg,hs,h6⟩,hcr⟩:=aA rt (List.mem_of_getElem? hrt)
 have hh:=i7 rt
 refine aM (fun σ H3=>∃ wl,σ=[some (.ref a),some (.int b),some (.ref l),some (.ref o),some (.ref wl)]/\ai H2 H3/\H3 wl=some (.lst ((az rt).map V.str))) (fun N hN=>?_) ?_
 ·walk_at "gzn"
  refine bC (ar.of (s2 _ _ hl)) ((DC xn).trans hx) ⟨x,rt,rfl,hv.same s2,dW hg,hs,by lia,by lia,fun wl H3 s3 hw=>hN _ _ ⟨wl,rfl,s3,hw⟩⟩
 rintro σ H3 ⟨wl,rfl,s3,hw⟩
 have t3:=s1.trans (s2.trans s3)
 have dE:∀ y∈az rt,y.length<=70:=fun y hy=>Nat.le_trans (ot hg hs y hy) (by decide)
 refine aM (fun σ H4=>σ=[some (.ref a),some (.int b),some (.ref l),some (.ref o),some (.ref wl)]/\ai H3 H4) (fun N hN=>?_) ?_
 ·walk_at "gzn"
  refine⟨a,wl,ns,az rt,b,rfl,t3.seq hS,hn,b0,b1,hw,⟨by lia,h6⟩,dE,fun y H4 hy s4=>?_⟩
  walk_at "gzn"
  refine⟨y,o,cs,rfl,hy,s4 _ _ (s3 _ _ ho),hc,fun H5 s5=>?_⟩
  walk_at "gzn"
  exact hN _ _ ⟨rfl,s4.trans s5⟩
 rintro σ H4 ⟨rfl,s4⟩
 walk_at "gzn"
 refine⟨a,ns,rfl,(t3.trans s4).seq hS,hn,fun y H5 hy s5=>?_⟩
 walk_at "gzn"
 refine⟨y,o,cs,rfl,by lia,s5 _ _ (s4 _ _ (s3 _ _ ho)),hc,fun H6 s6=>?_⟩
 walk_at "gzn"
 have t6:=s4.trans (s5.trans s6)
 refine⟨rfl,BL,rfl,az rt,ar.of (t6 _ _ hw),AH dE h6 (by decide),?_⟩
 walk_at "gzn"
 exact⟨_,o,cs,rfl,Nat.le_trans (jl dE h6) (by decide),t6 _ _ (s3 _ _ ho),hc,fun H' v=>q H'⟩
end
theorem Fb.fp{K:PySem.W.Frag}{x q:Str}{st:Stmt}{N ps:List Str}{p:Addr->Prop}(b:Fb K x q st p)(S:Sc N ps st):∃ F:Fm K x q st ps,p F.a :=
 let ⟨a,l,c,k⟩:=b;⟨⟨_,_,jm l c k,(jm l c k).binds (S.b x q)⟩,a⟩
inductive FO(p:Params):Obj->Prop
 | mk(a0 b0 a1 b1 a2 b2 a3 b3 a4 b4 a5 b5 a6 b6 a7 b7 a8 b8:Tok)(ep:Nat):FO p { cls:=.type "dict",data:=.dict #[{ hash:=PyData.keyHash p "over",key:=.str "over" a0,val:=.str "NNN" b0 },{ hash:=PyData.keyHash p "under",key:=.str "under" a1,val:=.str "NNN" b1 },{ hash:=PyData.keyHash p "stay",key:=.str "stay" a2,val:=.str "NNEE" b2 },{ hash:=PyData.keyHash p "rose",key:=.str "rose" a3,val:=.str "NNNN" b3 },{ hash:=PyData.keyHash p "pace",key:=.str "pace" a4,val:=.str "NNEE" b4 },{ hash:=PyData.keyHash p "turn",key:=.str "turn" a5,val:=.str "N" b5 },{ hash:=PyData.keyHash p "both",key:=.str "both" a6,val:=.str "RR" b6 },{ hash:=PyData.keyHash p "either",key:=.str "either" a7,val:=.str "RR" b7 },{ hash:=PyData.keyHash p "not",key:=.str "not" a8,val:=.str "R" b8 }] ep }
theorem Tz{w:World}{K:PySem.W.Frag}{h:Heap}{mg:Str->Option Value}{a:Value}{b:Addr}{o:Obj}(X:K.In h)(G:h.Ns mainGlobals mg)(z1:PySem.W.nsIn K mainGlobals "FORMS" = some (some a))(z2:a = .ref b)(z3:K.lookup b=some o)(z4:FO w.params o)(z5:(b == sysModules)=false):Nonempty (E3 w K mg):=by
 subst z2
 refine⟨⟨b,PySem.W.mg_of X G z1,fun P=>⟨fun h' X'=>⟨z5,?_⟩⟩⟩⟩
 obtain⟨a0,b0,a1,b1,a2,b2,a3,b3,a4,b4,a5,b5,a6,b6,a7,b7,a8,b8,ep⟩:=z4
 have ks:∀ (x:Str) (t:Tok),(et P w).is (.inr x) (.str x t)=true:=fun x t=>Bg x t
 refine⟨[(.inr "over",.str "NNN" b0),(.inr "under",.str "NNN" b1),(.inr "stay",.str "NNEE" b2),(.inr "rose",.str "NNNN" b3),(.inr "pace",.str "NNEE" b4),(.inr "turn",.str "N" b5),(.inr "both",.str "RR" b6),(.inr "either",.str "RR" b7),(.inr "not",.str "R" b8)],?_,_,_,_,X' _ _ z3,⟨rfl,rfl,rfl⟩,rfl,?_,?_,show (FORMS.map fun x=>x.1).Nodup from by decide +kernel⟩
 ·repeat' first|exact .nil|refine .cons ⟨rfl,_,rfl⟩ ?_
 ·intro e he
  have he:=Array.mem_toList_iff.mpr he
  simp only[List.mem_cons,List.not_mem_nil,or_false] at he
  rcases he with rfl|rfl|rfl|rfl|rfl|rfl|rfl|rfl|rfl
  all_goals exact⟨.inr _,ks _ _,rfl⟩
 ·repeat' first|exact .nil|refine .cons (ks _ _) rfl ?_
section
seal L2.PE L2.PS L2.aS L2.PA
variable{P:Program}{w:World}{K:PySem.W.Frag}{mg:Str->Option Value}{base:Heap}
end
theorem TB{l:PySem.W.OpenLaw}{w:World}{K:PySem.W.Frag}{h:Heap}{mg:Str->Option Value}{fa:Addr}(X:K.In h)(G:h.Ns mainGlobals mg)(TC:mg "law" = some (.ref fa)){gp bA:Addr}{cq bQ:Addr}{iV cZ:Addr}{bR bS:Addr}{bT bU:Addr}{bO cF:Addr}{eJ cA:Addr}{cB cG:Addr}{TF TH TJ:ClassData}{TK TL:Tok}{TM TN:Tok}{TQ TR:Tok}{aF:Value} {bF:Addr} {oF:Obj}(TU:PySem.W.nsIn K mainGlobals "GazeError" = some (some (.ref gp)))(TV:PySem.W.nsIn K mainGlobals "NoEvent" = some (some (.ref bA)))(TX:PySem.W.nsIn K mainGlobals "TooMany" = some (some (.ref cq)))(TY:PySem.W.nsIn K mainGlobals "NoRule" = some (some (.ref bQ)))(TZ:PySem.W.nsIn K mainGlobals "Event" = some (some (.ref iV)))(T2:PySem.W.nsIn K mainGlobals "Spanned" = some (some (.ref cZ)))(T3:PySem.W.nsIn K mainGlobals "Stayed" = some (some (.ref bR)))(T4:PySem.W.nsIn K mainGlobals "Over" = some (some (.ref bS)))(T5:PySem.W.nsIn K mainGlobals "Under" = some (some (.ref bT)))(T6:PySem.W.nsIn K mainGlobals "Rose" = some (some (.ref bU)))(T7:PySem.W.nsIn K mainGlobals "Paced" = some (some (.ref bO)))(T8:PySem.W.nsIn K mainGlobals "Turned" = some (some (.ref cF)))(T9:PySem.W.nsIn K mainGlobals "Paired" = some (some (.ref eJ)))(Ua:PySem.W.nsIn K mainGlobals "Both" = some (some (.ref cA)))(Ub:PySem.W.nsIn K mainGlobals "Either" = some (some (.ref cB)))(Uc:PySem.W.nsIn K mainGlobals "Nay" = some (some (.ref cG)))(qh:Fb K "is_crossed" "is_crossed" xQ (bx K "is_crossed"))(qi:Fb K "holds" "holds" xR (bx K "holds"))(qj:Fb K "number_at" "number_at" xS (bx K "number_at"))(qk:Fb K "meets" "meets" xT (bx K "meets"))(ql:Fb K "is_figures" "is_figures" xU (bx K "is_figures"))(qm:Fb K "is_number" "is_number" xV (bx K "is_number"))(qo:Fb K "is_end" "is_end" xW (bx K "is_end"))(qp:Fb K "is_formed" "is_formed" xX (bx K "is_formed"))(qq:Fb K "end_of" "end_of" xY (bx K "end_of"))(qr:Fb K "outside" "outside" xZ (bx K "outside"))(qt:Fb K "failures" "failures" x4 (bx K "failures"))(qu:Fb K "joined" "joined" x5 (bx K "joined"))(qv:Fb K "parts_at" "parts_at" x6 (bx K "parts_at"))(cp:Fb K "held" "Event.held" x8 fun f=>aV K iV "held" f/\aV K cZ "held" f/\aV K bR "held" f/\aV K bS "held" f/\aV K bT "held" f/\aV K bU "held" f/\aV K bO "held" f/\aV K cF "held" f/\aV K eJ "held" f/\aV K cA "held" f/\aV K cB "held" f/\aV K cG "held" f)(cz:Fb K "sizes" "Event.sizes" x9 fun f=>aV K iV "sizes" f/\aV K cZ "sizes" f/\aV K bR "sizes" f/\aV K bS "sizes" f/\aV K bT "sizes" f/\aV K bU "sizes" f/\aV K bO "sizes" f/\aV K cF "sizes" f/\aV K eJ "sizes" f)(gm:Fb K "__init__" "Spanned.__init__" ya fun f=>aV K cZ "__init__" f/\PySem.W.findCls K (.ref cZ) (.type "type") "__init__" = some (.val (.ref f)))(di:Fb K "all_at" "Spanned.all_at" yb fun f=>aV K cZ "all_at" f/\aV K bR "all_at" f/\aV K bS "all_at" f/\aV K bT "all_at" f/\aV K bU "all_at" f/\aV K bO "all_at" f)(ml:Fb K "__init__" "Stayed.__init__" yc (aV K bR "__init__"))(kx:Fb K "ways" "Stayed.ways" yd (aV K bR "ways"))(ky:Fb K "breaks" "Stayed.breaks" ye (aV K bR "breaks"))(mm:Fb K "__init__" "Over.__init__" yf (aV K bS "__init__"))(kz:Fb K "ways" "Over.ways" yg (aV K bS "ways"))(kA:Fb K "breaks" "Over.breaks" yh (aV K bS "breaks"))(mq:Fb K "__init__" "Under.__init__" yi (aV K bT "__init__"))(kB:Fb K "ways" "Under.ways" yj (aV K bT "ways"))(kC:Fb K "breaks" "Under.breaks" yn (aV K bT "breaks"))(mv:Fb K "__init__" "Rose.__init__" yo (aV K bU "__init__"))(kD:Fb K "ways" "Rose.ways" yp (aV K bU "ways"))(kE:Fb K "breaks" "Rose.breaks" yq (aV K bU "breaks"))(mw:Fb K "__init__" "Paced.__init__" yr (aV K bO "__init__"))(jD:Fb K "all_steps" "Paced.all_steps" yt (aV K bO "all_steps"))(kF:Fb K "ways" "Paced.ways" yu (aV K bO "ways"))(kG:Fb K "breaks" "Paced.breaks" yw (aV K bO "breaks"))(mx:Fb K "__init__" "Turned.__init__" yx (aV K cF "__init__"))(jE:Fb K "both_steps" "Turned.both_steps" yy (aV K cF "both_steps"))(kH:Fb K "ways" "Turned.ways" yz (aV K cF "ways"))(kI:Fb K "breaks" "Turned.breaks" yA (aV K cF "breaks"))(iU:Fb K "__init__" "Paired.__init__" yB fun f=>aV K eJ "__init__" f/\aV K cA "__init__" f/\aV K cB "__init__" f)(kJ:Fb K "ways" "Both.ways" yC (aV K cA "ways"))(kK:Fb K "breaks" "Both.breaks" yD (aV K cA "breaks"))(kL:Fb K "sizes" "Both.sizes" yE (aV K cA "sizes"))(kM:Fb K "ways" "Either.ways" yF (aV K cB "ways"))(kN:Fb K "breaks" "Either.breaks" yG (aV K cB "breaks"))(kO:Fb K "sizes" "Either.sizes" yH (aV K cB "sizes"))(my:Fb K "__init__" "Nay.__init__" yI (aV K cG "__init__"))(kP:Fb K "ways" "Nay.ways" yJ (aV K cG "ways"))(kQ:Fb K "breaks" "Nay.breaks" yK (aV K cG "breaks"))(kR:Fb K "sizes" "Nay.sizes" yL (aV K cG "sizes"))(kS:Fb K "end_at" "end_at" yM (bx K "end_at"))(gn:Fb K "tree_at" "tree_at" yN (bx K "tree_at"))(iu:Fb K "ends_as_stretch" "ends_as_stretch" yO (bx K "ends_as_stretch"))(kT:Fb K "event_of_numbers" "event_of_numbers" yP (bx K "event_of_numbers"))(cT:Fb K "event_of" "event_of" yQ (bx K "event_of"))(kU:Fb K "read" "read" yR (bx K "read"))(qw:Fb K "_law_draw" "_law_draw" yS (bx K "_law_draw"))(qx:Fb K "_law_base" "_law_base" yT (bx K "_law_base"))(qy:Fb K "_law_within" "_law_within" yU (bx K "_law_within"))(qz:Fb K "_law_leaf" "_law_leaf" yV (bx K "_law_leaf"))(kW:Fb K "_law_truth" "_law_truth" yW (bx K "_law_truth"))(mz:Fb K "_law_counts" "_law_counts" yX (bx K "_law_counts"))(mB:Fb K "_law_row" "_law_row" yY (bx K "_law_row"))(qA:Fb K "_law_trees" "_law_trees" yZ (bx K "_law_trees"))(qB:Fb K "_law_number" "_law_number" y0 (bx K "_law_number"))(qC:Fb K "_law_thing" "_law_thing" y9 (bx K "_law_thing"))(qD:Fb K "_law_tree_of" "_law_tree_of" za (bx K "_law_tree_of"))(mC:Fb K "_law_there" "_law_there" ze (bx K "_law_there"))(mD:Fb K "_law_many" "_law_many" zf (bx K "_law_many"))(qE:Fb K "_law_told" "_law_told" zg (bx K "_law_told"))(qF:Fb K "_law_asked_of" "_law_asked_of" zh (bx K "_law_asked_of"))(qG:Fb K "_law_word_of" "_law_word_of" zi (bx K "_law_word_of"))(qH:Fb K "_law_sign" "_law_sign" zj (bx K "_law_sign"))(qI:Fb K "_law_by_words" "_law_by_words" zk (bx K "_law_by_words"))(qJ:Fb K "_law_changed" "_law_changed" zm (bx K "_law_changed"))(qK:Fb K "_law_great" "_law_great" zo (bx K "_law_great"))(mE:Fb K "law" "law" zp (bx K "law"))(Ud:PySem.W.nsIn K mainGlobals "all" = some none)(Ue:PySem.W.nsIn K mainGlobals "any" = some none)(Ug:PySem.W.nsIn K mainGlobals "int" = some none)(Uh:PySem.W.nsIn K mainGlobals "isinstance" = some none)(Ui:PySem.W.nsIn K mainGlobals "len" = some none)(Uj:PySem.W.nsIn K mainGlobals "list" = some none)(Uk:PySem.W.nsIn K mainGlobals "max" = some none)(Ul:PySem.W.nsIn K mainGlobals "min" = some none)(Um:PySem.W.nsIn K mainGlobals "range" = some none)(Uo:PySem.W.nsIn K mainGlobals "reversed" = some none)(Up:PySem.W.nsIn K mainGlobals "str" = some none)(Uq:PySem.W.nsIn K mainGlobals "tuple" = some none)(E6:br K iV)(E7:br K cZ)(E8:PySem.W.findIn K (.ref cZ) "first" = some none)(E9:PySem.W.findIn K (.ref cZ) "last" = some none)(Fc:PySem.W.makesIn K cZ=true)(Ur:PySem.W.keepIn K (.ref cZ)=true)(fO:br K bR)(qO:PySem.W.findIn K (.ref bR) "first" = some none)(qP:PySem.W.findIn K (.ref bR) "last" = some none)(qQ:PySem.W.findIn K (.ref bR) "stretch" = some none)(Aj:PySem.W.makesIn K bR=true)(Us:PySem.W.keepIn K (.ref bR)=true)(fP:br K bS)(qR:PySem.W.findIn K (.ref bS) "first" = some none)(qS:PySem.W.findIn K (.ref bS) "last" = some none)(qT:PySem.W.findIn K (.ref bS) "sill" = some none)(Ak:PySem.W.makesIn K bS=true)(Ut:PySem.W.keepIn K (.ref bS)=true)(fQ:br K bT)(qU:PySem.W.findIn K (.ref bT) "first" = some none)(qV:PySem.W.findIn K (.ref bT) "last" = some none)(qW:PySem.W.findIn K (.ref bT) "sill" = some none)(Al:PySem.W.makesIn K bT=true)(Uu:PySem.W.keepIn K (.ref bT)=true)(dS:br K bU)(n4:PySem.W.findIn K (.ref bU) "first" = some none)(mG:PySem.W.findIn K (.ref bU) "last" = some none)(qX:PySem.W.findIn K (.ref bU) "low" = some none)(qY:PySem.W.findIn K (.ref bU) "high" = some none)(Am:PySem.W.makesIn K bU=true)(Uv:PySem.W.keepIn K (.ref bU)=true)(gq:br K bO)(um:PySem.W.findIn K (.ref bO) "first" = some none)(uo:PySem.W.findIn K (.ref bO) "last" = some none)(uq:PySem.W.findIn K (.ref bO) "stretch" = some none)(An:PySem.W.makesIn K bO=true)(Uw:PySem.W.keepIn K (.ref bO)=true)(iw:br K cF)(qZ:PySem.W.findIn K (.ref cF) "turn" = some none)(Ao:PySem.W.makesIn K cF=true)(Ux:PySem.W.keepIn K (.ref cF)=true)(Fi:br K eJ)(Fj:PySem.W.findIn K (.ref eJ) "one" = some none)(Fl:PySem.W.findIn K (.ref eJ) "other" = some none)(Fo:PySem.W.makesIn K eJ=true)(Uy:PySem.W.keepIn K (.ref eJ)=true)(gu:br K cA)(n5:PySem.W.findIn K (.ref cA) "one" = some none)(n6:PySem.W.findIn K (.ref cA) "other" = some none)(Ap:PySem.W.makesIn K cA=true)(Uz:PySem.W.keepIn K (.ref cA)=true)(gv:br K cB)(n9:PySem.W.findIn K (.ref cB) "one" = some none)(oa:PySem.W.findIn K (.ref cB) "other" = some none)(Aq:PySem.W.makesIn K cB=true)(UA:PySem.W.keepIn K (.ref cB)=true)(iW:br K cG)(og:PySem.W.findIn K (.ref cG) "one" = some none)(Ar:PySem.W.makesIn K cG=true)(UB:PySem.W.keepIn K (.ref cG)=true)(UC:PySem.W.specialIn K (.ref cZ) "__getattribute__" = some (some (.builtin "type.__getattribute__")))(UD:PySem.W.readsIn K cZ (.type "type")=true)(jG:XC K bA)(iX:XC K bQ)(oh:XC K cq)(Bc:PySem.W.clsIn K bQ=some TF)(Be:PySem.W.typeIn K (.ref bQ)=some (.type "type"))(Bf:PySem.W.subIn K (.ref bQ) (.type "BaseException")=some true)(UE:PySem.W.subIn K (.ref bQ) (.ref bQ)=some true)(UG:PySem.W.subIn K (.ref bA) (.ref bQ)=some false)(GL:PySem.W.clsIn K bA=some TH)(GN:PySem.W.typeIn K (.ref bA)=some (.type "type"))(GO:PySem.W.subIn K (.ref bA) (.type "BaseException")=some true)(UH:PySem.W.subIn K (.ref bA) (.ref bA)=some true)(UI:PySem.W.subIn K (.ref cq) (.ref bQ)=some false)(UJ:PySem.W.subIn K (.ref cq) (.ref bA)=some false)(UK:PySem.W.clsIn K cq=some TJ)(UL:PySem.W.typeIn K (.ref cq)=some (.type "type"))(UM:PySem.W.subIn K (.ref cq) (.type "BaseException")=some true)(UN:PySem.W.subIn K (.ref cq) (.ref cq)=some true)(UO:PySem.W.kitOne K (.ref bQ) (.ref gp)=some true)(UP:PySem.W.kitOne K (.ref bA) (.ref gp)=some true)(UQ:PySem.W.kitOne K (.ref cq) (.ref gp)=some true)(UR:PySem.W.kitOne K (.ref bQ) (.ref bA)=some false)(US:PySem.W.kitOne K (.ref bQ) (.ref cq)=some false)(UT:PySem.W.kitOne K (.ref bA) (.ref bQ)=some false)(UU:PySem.W.kitOne K (.ref bA) (.ref cq)=some false)(UW:PySem.W.kitOne K (.ref cq) (.ref bQ)=some false)(UX:PySem.W.kitOne K (.ref cq) (.ref bA)=some false)(UY:PySem.W.nsIn K mainGlobals "LAST_TURN" = some (some (.int 11 TK)))(UZ:PySem.W.nsIn K mainGlobals "FIGURES_AT_MOST" = some (some (.int 60 TL)))(U0:PySem.W.nsIn K mainGlobals "WORDS_AT_MOST" = some (some (.int 60 TM)))(U1:PySem.W.nsIn K mainGlobals "SIZE_AT_MOST" = some (some (.int 100 TN)))(U2:PySem.W.nsIn K mainGlobals "OPEN_END" = some (some (.str "*" TQ)))(U3:PySem.W.nsIn K mainGlobals "FIGURES" = some (some (.str "0123456789" TR)))(U4:PySem.W.nsIn K mainGlobals "FORMS" = some (some aF))(U5:aF = .ref bF)(U6:K.lookup bF=some oF)(U7:FO w.params oF)(U8:(bF == sysModules)=false)
 : ∃ fd:FuncData,(∀ (s:Shared)(v:Value),BindsTo s fd ⟨[v],[]⟩ [("_law_script",v)])/\∀ base:Heap,K.In base->base.Ns mainGlobals mg->cc l.prog w K mg base (cW l.prog w) 196 fa fd ["_law_script"] (uV K):=by
 obtain⟨qh⟩:=qh.fn X G zq
 obtain⟨qi⟩:=qi.fn X G zr
 obtain⟨qj⟩:=qj.fn X G zt
 obtain⟨qk⟩:=qk.fn X G zu
 obtain⟨ql⟩:=ql.fn X G zv
 obtain⟨qm⟩:=qm.fn X G t9
 obtain⟨qo⟩:=qo.fn X G zw
 obtain⟨qp⟩:=qp.fn X G zx
 obtain⟨qq⟩:=qq.fn X G zy
 obtain⟨qr⟩:=qr.fn X G p8
 obtain⟨qt⟩:=qt.fn X G p9
 obtain⟨qu⟩:=qu.fn X G qa
 obtain⟨qv⟩:=qv.fn X G zz
 obtain⟨cp,GP,GQ,GR,GS,GU,GV,GW,GX,GY,GZ,G0,G7⟩:=Fb.fp cp zA
 obtain⟨cz,G8,G9,Ha,Hb,Hc,Hd,He,Hf,Hg⟩:=Fb.fp cz zB
 obtain⟨gm,Hh,U9⟩:=Fb.fp gm zC
 obtain⟨di,Hi,Hj,Hk,Hl,Hm,Hn⟩:=Fb.fp di zD
 obtain⟨ml,Ho⟩:=ml.fm zE
 obtain⟨kx,Hq⟩:=kx.fm zF
 obtain⟨ky,Hr⟩:=ky.fm zG
 obtain⟨mm,Hs⟩:=mm.fm zH
 obtain⟨kz,Ht⟩:=kz.fm zI
 obtain⟨kA,Hu⟩:=kA.fm zJ
 obtain⟨mq,Hv⟩:=mq.fm zK
 obtain⟨kB,Hw⟩:=kB.fm zL
 obtain⟨kC,Hx⟩:=kC.fm zM
 obtain⟨mv,Hy⟩:=mv.fm zN
 obtain⟨kD,Hz⟩:=kD.fm nX
 obtain⟨kE,HA⟩:=kE.fm zO
 obtain⟨mw,HB⟩:=mw.fm zP
 obtain⟨jD,HC⟩:=jD.fm zQ
 obtain⟨kF,HD⟩:=kF.fm zR
 obtain⟨kG,HE⟩:=kG.fm zS
 obtain⟨mx,HF⟩:=mx.fm zT
 obtain⟨jE,HG⟩:=jE.fm zU
 obtain⟨kH,HH⟩:=kH.fm zV
 obtain⟨kI,HI⟩:=kI.fm zW
 obtain⟨iU,HJ,HK,HL⟩:=Fb.fp iU zX
 obtain⟨kJ,HM⟩:=kJ.fm zY
 obtain⟨kK,HN⟩:=kK.fm zZ
 obtain⟨kL,HP⟩:=kL.fm qb
 obtain⟨kM,HQ⟩:=kM.fm z6
 obtain⟨kN,HR⟩:=kN.fm z7
 obtain⟨kO,HS⟩:=kO.fm qc
 obtain⟨my,HU⟩:=my.fm z8
 obtain⟨kP,HV⟩:=kP.fm z9
 obtain⟨kQ,HW⟩:=kQ.fm Aa
 obtain⟨kR,HX⟩:=kR.fm ua
 obtain⟨kS⟩:=kS.fn X G Ab
 obtain⟨gn⟩:=gn.fn X G iT
 obtain⟨iu⟩:=iu.fn X G Ac
 obtain⟨kT⟩:=kT.fn X G Ad
 obtain⟨cT⟩:=cT.fn X G nY
 obtain⟨kU⟩:=kU.fn X G qd
 obtain⟨qw⟩:=qw.fn X G Ae
 obtain⟨qx⟩:=qx.fn X G ue
 obtain⟨qy⟩:=qy.fn X G Af
 obtain⟨qz⟩:=qz.fn X G gj
 obtain⟨kW⟩:=kW.fn X G jB
 obtain⟨mz⟩:=mz.fn X G jC
 obtain⟨mB⟩:=mB.fn X G nZ
 obtain⟨qA⟩:=qA.fn X G kq
 obtain⟨qB⟩:=qB.fn X G qe
 obtain⟨qC⟩:=qC.fn X G uf
 obtain⟨qD⟩:=qD.fn X G ir
 obtain⟨mC⟩:=mC.fn X G ug
 obtain⟨mD⟩:=mD.fn X G uh
 obtain⟨qE⟩:=qE.fn X G gk
 obtain⟨qF⟩:=qF.fn X G qf
 obtain⟨qG⟩:=qG.fn X G n0
 obtain⟨qH⟩:=qH.fn X G ui
 obtain⟨qI⟩:=qI.fn X G qg
 obtain⟨qJ⟩:=qJ.fn X G n3
 obtain⟨qK⟩:=qK.fn X G kr
 obtain⟨mE⟩:=mE.fn X G ku
 obtain⟨hforms⟩:=Tz X G U4 U5 U6 U7 U8
 cases TC.symm.trans mE.m
 exact⟨_,mE.bt ku,fun y y y=>Tw (⟨qh,qi,qj,qk,ql,qm,qo,qp,qq,qr,qt,qu,qv,cp,cz,gm,di,ml,kx,ky,mm,kz,kA,mq,kB,kC,mv,kD,kE,mw,jD,kF,kG,mx,jE,kH,kI,iU,kJ,kK,kL,kM,kN,kO,my,kP,kQ,kR,kS,gn,iu,kT,cT,kU,qw,qx,qy,qz,kW,mz,mB,qA,qB,qC,qD,mC,mD,qE,qF,qG,qH,qI,qJ,qK,mE,PySem.W.mg_none_of X G Ud,PySem.W.mg_none_of X G Ue,PySem.W.mg_none_of X G Ug,PySem.W.mg_none_of X G Uh,PySem.W.mg_none_of X G Ui,PySem.W.mg_none_of X G Uj,PySem.W.mg_none_of X G Uk,PySem.W.mg_none_of X G Ul,PySem.W.mg_none_of X G Um,PySem.W.mg_none_of X G Uo,PySem.W.mg_none_of X G Up,PySem.W.mg_none_of X G Uq,gp,PySem.W.mg_of X G TU,bA,PySem.W.mg_of X G TV,cq,PySem.W.mg_of X G TX,bQ,PySem.W.mg_of X G TY,iV,PySem.W.mg_of X G TZ,cZ,PySem.W.mg_of X G T2,bR,PySem.W.mg_of X G T3,bS,PySem.W.mg_of X G T4,bT,PySem.W.mg_of X G T5,bU,PySem.W.mg_of X G T6,bO,PySem.W.mg_of X G T7,cF,PySem.W.mg_of X G T8,eJ,PySem.W.mg_of X G T9,cA,PySem.W.mg_of X G Ua,cB,PySem.W.mg_of X G Ub,cG,PySem.W.mg_of X G Uc,E6,⟨GP.1,GP.2,cp.F.kp⟩,⟨G8.1,G8.2,cz.F.kp⟩,E7,E8,E9,⟨GQ.1,GQ.2,cp.F.kp⟩,⟨G9.1,G9.2,cz.F.kp⟩,⟨Fc,Hh.1,Hh.2,Ur⟩,⟨Hi.1,Hi.2,di.F.kp⟩,fO,qO,qP,qQ,⟨GR.1,GR.2,cp.F.kp⟩,⟨Ha.1,Ha.2,cz.F.kp⟩,⟨Aj,Ho.1,Ho.2,Us⟩,⟨Hj.1,Hj.2,di.F.kp⟩,⟨Hq.1,Hq.2,kx.F.kp⟩,⟨Hr.1,Hr.2,ky.F.kp⟩,fP,qR,qS,qT,⟨GS.1,GS.2,cp.F.kp⟩,⟨Hb.1,Hb.2,cz.F.kp⟩,⟨Ak,Hs.1,Hs.2,Ut⟩,⟨Hk.1,Hk.2,di.F.kp⟩,⟨Ht.1,Ht.2,kz.F.kp⟩,⟨Hu.1,Hu.2,kA.F.kp⟩,fQ,qU,qV,qW,⟨GU.1,GU.2,cp.F.kp⟩,⟨Hc.1,Hc.2,cz.F.kp⟩,⟨Al,Hv.1,Hv.2,Uu⟩,⟨Hl.1,Hl.2,di.F.kp⟩,⟨Hw.1,Hw.2,kB.F.kp⟩,⟨Hx.1,Hx.2,kC.F.kp⟩,dS,n4,mG,qX,qY,⟨GV.1,GV.2,cp.F.kp⟩,⟨Hd.1,Hd.2,cz.F.kp⟩,⟨Am,Hy.1,Hy.2,Uv⟩,⟨Hm.1,Hm.2,di.F.kp⟩,⟨Hz.1,Hz.2,kD.F.kp⟩,⟨HA.1,HA.2,kE.F.kp⟩,gq,um,uo,uq,⟨GW.1,GW.2,cp.F.kp⟩,⟨He.1,He.2,cz.F.kp⟩,⟨An,HB.1,HB.2,Uw⟩,⟨Hn.1,Hn.2,di.F.kp⟩,⟨HD.1,HD.2,kF.F.kp⟩,⟨HE.1,HE.2,kG.F.kp⟩,⟨HC.1,HC.2,jD.F.kp⟩,iw,qZ,⟨GX.1,GX.2,cp.F.kp⟩,⟨Hf.1,Hf.2,cz.F.kp⟩,⟨Ao,HF.1,HF.2,Ux⟩,⟨HH.1,HH.2,kH.F.kp⟩,⟨HI.1,HI.2,kI.F.kp⟩,⟨HG.1,HG.2,jE.F.kp⟩,Fi,Fj,Fl,⟨GY.1,GY.2,cp.F.kp⟩,⟨Hg.1,Hg.2,cz.F.kp⟩,⟨Fo,HJ.1,HJ.2,Uy⟩,gu,n5,n6,⟨GZ.1,GZ.2,cp.F.kp⟩,⟨HP.1,HP.2,kL.F.kp⟩,⟨Ap,HK.1,HK.2,Uz⟩,⟨HM.1,HM.2,kJ.F.kp⟩,⟨HN.1,HN.2,kK.F.kp⟩,gv,n9,oa,⟨G0.1,G0.2,cp.F.kp⟩,⟨HS.1,HS.2,kO.F.kp⟩,⟨Aq,HL.1,HL.2,UA⟩,⟨HQ.1,HQ.2,kM.F.kp⟩,⟨HR.1,HR.2,kN.F.kp⟩,iW,og,⟨G7.1,G7.2,cp.F.kp⟩,⟨HX.1,HX.2,kR.F.kp⟩,⟨Ar,HU.1,HU.2,UB⟩,⟨HV.1,HV.2,kP.F.kp⟩,⟨HW.1,HW.2,kQ.F.kp⟩,⟨UC,UD,U9,gm.F.kp⟩,jG,iX,oh,nr Bc Be UE Bf,nr Bc Be UG Bf,nr GL GN UH GO,nr Bc Be UI Bf,nr GL GN UJ GO,nr UK UL UN UM,UO,UP,UQ,UR,US,UT,UU,UW,UX,⟨_,PySem.W.mg_of X G UY⟩,⟨_,PySem.W.mg_of X G UZ⟩,⟨_,PySem.W.mg_of X G U0⟩,⟨_,PySem.W.mg_of X G U1⟩,⟨_,PySem.W.mg_of X G U2⟩,⟨_,PySem.W.mg_of X G U3⟩,hforms⟩:Tx w K mg)⟩
theorem walk{l:PySem.W.OpenLaw}{q:Program}{loose:List Str}{XP:(Str->Option Value)->Heap->Prop}{YP:World->Heap->Prop}{d:DefRec}{K:Params->PySem.W.Frag}(hn:l.most=some 63)(Va:d.params.defaults=[])
 (hY:∀ (w:World) (h:Heap),YP w h->(K w.params).In h)
 (F:∀ (w:World) (mg:Str->Option Value) (fa:Addr) (h:Heap),(K w.params).In h->h.Ns mainGlobals mg->mg d.name=some (.ref fa) ->
   ∃ fd:FuncData,(∀ (s:Shared) (u:Value),BindsTo s fd ⟨[u],[]⟩ [("_law_script",u)])/\∀ base:Heap,(K w.params).In base->base.Ns mainGlobals mg->cc l.prog w (K w.params) mg base (cW l.prog w) 196 fa fd ["_law_script"] (uV (K w.params))) :
 PySem.W.WalkO q loose XP YP l.row.toRowW d [] (fun f vs=>PySem.call f vs) :=
 Gz.L3 (k:=196) (x := "_law_script") (CX:=fun w=>cW l.prog w) (sp:=fun w=>uV (K w.params)) hn Va ⟨rfl,by decide,by decide⟩ hY F (fun y y a ns hl hS=>⟨a,ns,rfl,hS,hl,fun y=>rfl⟩) fun y y y y y z=>Kx z
end t8
local macro_rules | `(tactic| walk_at "gzin") => `(tactic| first | (show _ = _; k_is) | (refine' And.intro ?y7 ?y8; (case y7 => walk_at "gzin"); (case y8 => walk_at "gzin")))
local macro_rules | `(tactic| walk_at "gzfb") => `(tactic| (refine' Gz.Fb.mk ?y1 ?y2 ?y3 ?y4; (case y1 => first | (show _ = _; k_is) | (refine' ⟨?y5, ?y6⟩; (case y5 => k_is); (case y6 => k_is))); (case y2 => k_is); (case y3 => k_is); (case y4 => k_is)))
local macro_rules | `(tactic| walk_at "gzfi") => `(tactic| (refine' Gz.Fb.mk ?y1 ?y2 ?y3 ?y4; (case y1 => walk_at "gzin"); (case y2 => k_is); (case y3 => k_is); (case y4 => k_is)))
local macro_rules | `(tactic| walk_at "gzcl") => `(tactic| (refine' L2.br.mk ?_ ?_ ?_ ?_ <;> k_is))
local macro_rules | `(tactic| walk_at "gzxc") => `(tactic| (refine' Gz.XC.mk ?y1 ?y2 ?y3 ?y4 ?y5 ?y6; (case y1 => k_exc); (case y2 => k_is); (case y3 => k_is); (case y4 => k_is); (case y5 => k_is); (case y6 => k_is)))
namespace PySem.W.Fast
theorem tw10479027689497280091:True:=⟨⟩
theorem tw17038476205331286703:True:=⟨⟩
theorem tw17089221042375257767:True:=⟨⟩
theorem tw1122386856385473064:True:=⟨⟩
theorem tw13841189320061859447:True:=⟨⟩
theorem tw16393685937713546326:True:=⟨⟩
theorem tw17115412373059935754:True:=⟨⟩
theorem tw7082426357224244595:True:=⟨⟩
theorem tw12588216699599354413:True:=⟨⟩
theorem tw3184302353114158693:True:=⟨⟩
theorem tw15634305271105433638:True:=⟨⟩
theorem tw13251819782160574859:True:=⟨⟩
theorem tw682553004863102837:True:=⟨⟩
theorem tw16070898226247687511:True:=⟨⟩
theorem tw13151215393148987708:True:=⟨⟩
theorem tw8835784566478633557:True:=⟨⟩
theorem tw1756026082485535825:True:=⟨⟩
theorem tw13140209543373965045:True:=⟨⟩
theorem tw10118366773705507229:True:=⟨⟩
theorem tw4372761960190944903:True:=⟨⟩
theorem tw14588095485260270708:True:=⟨⟩
theorem tw7136498977357889977:True:=⟨⟩
theorem tw2544356254903195360:True:=⟨⟩
theorem tw4454976218402997608:True:=⟨⟩
theorem tw2167203431119788460:True:=⟨⟩
theorem tw1220394741767119528:True:=⟨⟩
theorem tw12793137015319076419:True:=⟨⟩
theorem tw16372469277202663029:True:=⟨⟩
theorem tw3444559908360347146:True:=⟨⟩
theorem tw15694631249347378462:True:=⟨⟩
theorem tw13085457354446019566:True:=⟨⟩
theorem tw14098660069300988561:True:=⟨⟩
theorem tw17149624084722585751:True:=⟨⟩
theorem tw1696470731882009165:True:=⟨⟩
theorem tw5012807510720738903:True:=⟨⟩
theorem tw9056873237205283127:True:=⟨⟩
theorem tw222396070389294212:True:=⟨⟩
theorem tw10999569253590717726:True:=⟨⟩
theorem tw10622303324701193156:True:=⟨⟩
theorem tw15813875066324550900:True:=⟨⟩
theorem tw4653960377613907569:True:=⟨⟩
theorem tw15754978119322991169:True:=⟨⟩
theorem tw15805915392551141003:True:=⟨⟩
theorem tw15546255551844412951:True:=⟨⟩
theorem tw2608207888457513047:True:=⟨⟩
theorem tw8383275094603628171:True:=⟨⟩
theorem tw16141805598923469727:True:=⟨⟩
theorem tw12544969478842181171:True:=⟨⟩
theorem tw1665782589274787460:True:=⟨⟩
theorem tw13672167353764991066:True:=⟨⟩
theorem tw517862207989964227:True:=⟨⟩
theorem tw18242108987975713549:True:=⟨⟩
theorem tw14742900869308254917:True:=⟨⟩
theorem tw16727694397137167302:True:=⟨⟩
theorem tw3734567390022790878:True:=⟨⟩
theorem tw7444344473824917967:True:=⟨⟩
theorem tw18428740167887249097:True:=⟨⟩
theorem tw4891201543729870505:True:=⟨⟩
theorem tw6413640973348784142:True:=⟨⟩
theorem tw15927709950245419780:True:=⟨⟩
theorem tw3431598009056159998:True:=⟨⟩
theorem tw10267379259738763665:True:=⟨⟩
theorem tw11060983760313041294:True:=⟨⟩
theorem tw2722360177101776982:True:=⟨⟩
theorem tw3305974745372907100:True:=⟨⟩
theorem tw4449883661400782483:True:=⟨⟩
theorem tw14689740949179242918:True:=⟨⟩
theorem tw1012836899157553457:True:=⟨⟩
theorem tw2677557138481535053:True:=⟨⟩
theorem tw12157987748811134718:True:=⟨⟩
theorem tw16439578803621038895:True:=⟨⟩
theorem tw5757994526969808794:True:=⟨⟩
theorem tw8428580818882188353:True:=⟨⟩
theorem tw8540706259302765652:True:=⟨⟩
theorem tw14499756314383069307:True:=⟨⟩
theorem tw80676985187587312:True:=⟨⟩
theorem tw9224025472330160658:True:=⟨⟩
theorem tw4314509588984819603:True:=⟨⟩
theorem tw8709936391556766015:True:=⟨⟩
theorem tw16865519891936401688:True:=⟨⟩
theorem tw15620054680250356403:True:=⟨⟩
theorem tw5038038545621917746:True:=⟨⟩
theorem tw10195219243001633955:True:=⟨⟩
theorem tw7306132837656260063:True:=⟨⟩
theorem tw229668028618814940:True:=⟨⟩
theorem tw13046818031956930715:True:=⟨⟩
theorem tw11942149917483579614:True:=⟨⟩
theorem tw18243960057239540570:True:=⟨⟩
theorem tw13757067412277323494:True:=⟨⟩
theorem tw3377771535585032252:True:=⟨⟩
theorem tw15066316125781125667:True:=⟨⟩
theorem tw15349185320293874056:True:=⟨⟩
theorem tw13064408879658917437:True:=⟨⟩
theorem tw4566352252736486840:True:=⟨⟩
theorem tw16992450003996963268:True:=⟨⟩
theorem tw4543762784720704908:True:=⟨⟩
theorem tw14289114500300980692:True:=⟨⟩
theorem tw5167991668758732286:True:=⟨⟩
theorem tw16404261591830523021:True:=⟨⟩
theorem tw9935151092683785544:True:=⟨⟩
theorem tw2420964810962178067:True:=⟨⟩
theorem tw18149132531901270582:True:=⟨⟩
theorem tw11315269951550617805:True:=⟨⟩
theorem tw2480599594664316924:True:=⟨⟩
theorem tw13284962428910285896:True:=⟨⟩
theorem tw2481155116726873671:True:=⟨⟩
theorem tw17478751808807825241:True:=⟨⟩
theorem tw7665455746846073033:True:=⟨⟩
theorem tw14358262075334683066:True:=⟨⟩
theorem tw3924582521015841957:True:=⟨⟩
theorem tw8630642541087831560:True:=⟨⟩
theorem tw14537733314364960838:True:=⟨⟩
theorem tw7492144486432457992:True:=⟨⟩
theorem tw13871184973173119027:True:=⟨⟩
theorem tw5045439375514868264:True:=⟨⟩
theorem tw13013552644301464208:True:=⟨⟩
theorem tw2176484572819932221:True:=⟨⟩
theorem tw14057695935072690567:True:=⟨⟩
theorem tw7240527561586221991:True:=⟨⟩
theorem tw12246660450937311937:True:=⟨⟩
theorem tw12221864645122143817:True:=⟨⟩
theorem tw17638546759116592988:True:=⟨⟩
theorem tw13061030133731902396:True:=⟨⟩
theorem tw14228607691301296030:True:=⟨⟩
theorem tw11212890413394875101:True:=⟨⟩
theorem tw8287138611090499444:True:=⟨⟩
theorem tw5557531619893745413:True:=⟨⟩
theorem tw8314382666424104174:True:=⟨⟩
theorem tw16118291888602773522:True:=⟨⟩
theorem tw16796259883296749908:True:=⟨⟩
theorem tw9737622656506496461:True:=⟨⟩
theorem tw2494571848547716622:True:=⟨⟩
theorem tw13974510516521878573:True:=⟨⟩
theorem tw14828359398598363195:True:=⟨⟩
theorem tw9465224417312866943:True:=⟨⟩
theorem tw2214567930354499060:True:=⟨⟩
theorem tw15949821139383899314:True:=⟨⟩
theorem tw7789124196741675364:True:=⟨⟩
theorem tw351114736715848875:True:=⟨⟩
theorem tw1862256131055374374:True:=⟨⟩
theorem tw11270053360841839768:True:=⟨⟩
theorem tw10748697082307673143:True:=⟨⟩
theorem tw16530455729543474041:True:=⟨⟩
theorem tw12916784641042827997:True:=⟨⟩
theorem tw10368192092753595180:True:=⟨⟩
theorem tw15903224332114916780:True:=⟨⟩
theorem tw16144272002148851983:True:=⟨⟩
theorem tw12915676116117109560:True:=⟨⟩
theorem tw13017270941697683228:True:=⟨⟩
theorem tw16276090605899689490:True:=⟨⟩
theorem tw16630437797495951823:True:=⟨⟩
theorem tw13643903138847855786:True:=⟨⟩
theorem tw14760533284074325195:True:=⟨⟩
theorem tw1526711835748103347:True:=⟨⟩
theorem tw10619301677647219047:True:=⟨⟩
theorem tw6045511937889494214:True:=⟨⟩
theorem tw4729493227449081583:True:=⟨⟩
theorem tw14233843057779873201:True:=⟨⟩
theorem tw7144958326762003325:True:=⟨⟩
theorem tw3911156442962225033:True:=⟨⟩
theorem tw17726981218034620510:True:=⟨⟩
theorem tw12267500398444284961:True:=⟨⟩
theorem tw13542409070061574203:True:=⟨⟩
theorem tw16895742756253620014:True:=⟨⟩
theorem tw1052328547946787359:True:=⟨⟩
theorem tw12884782046907999318:True:=⟨⟩
theorem tw4268279332592496709:True:=⟨⟩
theorem tw16734401248128703065:True:=⟨⟩
theorem tw8668225388486114219:True:=⟨⟩
theorem tw17382517720654805709:True:=⟨⟩
theorem tw12281885234980826424:True:=⟨⟩
theorem tw4945073984926082161:True:=⟨⟩
theorem tw5941010869795796237:True:=⟨⟩
theorem tw3472698681033623670:True:=⟨⟩
theorem tw16302491551735343120:True:=⟨⟩
theorem tw18172740792751876440:True:=⟨⟩
theorem tw623618484304026208:True:=⟨⟩
theorem tw9502353872954202735:True:=⟨⟩
theorem tw17511992884792723604:True:=⟨⟩
theorem tw4305439295428879153:True:=⟨⟩
theorem tw14575337255738399923:True:=⟨⟩
theorem tw10399667214156778699:True:=⟨⟩
theorem tw14829445188593339966:True:=⟨⟩
theorem tw9005196878122513521:True:=⟨⟩
theorem tw3216361522331560369:True:=⟨⟩
theorem tw8316026592299746613:True:=⟨⟩
theorem tw2076225560225767530:True:=⟨⟩
theorem tw5940522697298504220:True:=⟨⟩
theorem tw16373135563347458321:True:=⟨⟩
theorem tw8461598068708588821:True:=⟨⟩
theorem tw12836637456777887658:True:=⟨⟩
theorem tw7550650039961357893:True:=⟨⟩
theorem tw6780597182640957718:True:=⟨⟩
theorem tw2017832527244304941:True:=⟨⟩
theorem tw13746215508155825459:True:=⟨⟩
theorem tw8335859749438468946:True:=⟨⟩
theorem tw15667076112256462701:True:=⟨⟩
theorem tw14803654985614052242:True:=⟨⟩
theorem tw8647550778068853756:True:=⟨⟩
theorem tw5174986784038597149:True:=⟨⟩
theorem tw10170517290532607738:True:=⟨⟩
theorem tw5419095665287748053:True:=⟨⟩
theorem tw7500641758775543779:True:=⟨⟩
theorem tw9578987934471961467:True:=⟨⟩
theorem tw11263119198710435813:True:=⟨⟩
theorem tw17149395029009136084:True:=⟨⟩
theorem tw2254468596707767175:True:=⟨⟩
theorem tw7374650366787240378:True:=⟨⟩
theorem tw10194491813181735838:True:=⟨⟩
theorem tw9629273186012939801:True:=⟨⟩
theorem tw2552892331497568078:True:=⟨⟩
theorem tw2007597486877476030:True:=⟨⟩
theorem tw9886378451117300458:True:=⟨⟩
theorem tw12037001652303421308:True:=⟨⟩
theorem tw8296514668718941490:True:=⟨⟩
theorem tw13695785226310836623:True:=⟨⟩
theorem tw394499884063389272:True:=⟨⟩
theorem tw7856855143538106232:True:=⟨⟩
theorem tw13984910768585499845:True:=⟨⟩
theorem tw14754959574505679671:True:=⟨⟩
theorem tw4774812385725322726:True:=⟨⟩
theorem tw14145695991445683012:True:=⟨⟩
theorem tw2764341506918194875:True:=⟨⟩
theorem tw11087555564591155450:True:=⟨⟩
theorem tw4303220743335791850:True:=⟨⟩
theorem tw12357304647287958894:True:=⟨⟩
theorem tw12888562455406448320:True:=⟨⟩
theorem tw11751394606010178324:True:=⟨⟩
theorem tw18417213467796143425:True:=⟨⟩
theorem tw2624523597621258041:True:=⟨⟩
theorem tw12250655711017617204:True:=⟨⟩
theorem tw4636938188450349262:True:=⟨⟩
theorem tw15429017008987357218:True:=⟨⟩
theorem tw15226871141072587216:True:=⟨⟩
theorem tw15635250481722255009:True:=⟨⟩
theorem tw6521292317587415811:True:=⟨⟩
theorem tw14843466183361839520:True:=⟨⟩
theorem tw14702622476299868815:True:=⟨⟩
theorem tw2694308910007767046:True:=⟨⟩
theorem tw17362514380589292880:True:=⟨⟩
theorem tw7879443342620313527:True:=⟨⟩
theorem tw1679149774144674908:True:=⟨⟩
theorem tw12332721831064702409:True:=⟨⟩
theorem tw6834415713551520210:True:=⟨⟩
theorem tw7393280177055958019:True:=⟨⟩
theorem tw15551614827005323659:True:=⟨⟩
theorem tw6216146833781626998:True:=⟨⟩
theorem tw9207983171587054655:True:=⟨⟩
theorem tw3813168049192430842:True:=⟨⟩
theorem tw17562474471156085906:True:=⟨⟩
theorem tw12091934913834771468:True:=⟨⟩
theorem tw16270464964945410549:True:=⟨⟩
theorem tw3483588569672938834:True:=⟨⟩
theorem tw16809430742656148373:True:=⟨⟩
theorem tw5195145196540915896:True:=⟨⟩
theorem tw46057391875087393:True:=⟨⟩
theorem tw13739202425926145429:True:=⟨⟩
theorem tw13749863883172958732:True:=⟨⟩
theorem tw11825896540066887152:True:=⟨⟩
theorem tw17490727572340243157:True:=⟨⟩
theorem tw727966793128231400:True:=⟨⟩
theorem tw238926780188141876:True:=⟨⟩
theorem tw8162581280468697642:True:=⟨⟩
theorem tw7419861568054665522:True:=⟨⟩
theorem tw17577866922137533476:True:=⟨⟩
theorem tw7510254090540761296:True:=⟨⟩
theorem tw5512287632731879223:True:=⟨⟩
theorem tw17747741624551597035:True:=⟨⟩
theorem tw3147444948455779383:True:=⟨⟩
theorem tw1944579628695987759:True:=⟨⟩
theorem tw10252933627402138241:True:=⟨⟩
theorem tw6815131102809778772:True:=⟨⟩
theorem tw8164929754822782522:True:=⟨⟩
theorem tw5334864986835281020:True:=⟨⟩
theorem tw6772207477819934659:True:=⟨⟩
theorem tw12221817944298156691:True:=⟨⟩
theorem tw11669176751636282455:True:=⟨⟩
theorem tw12213402394066878372:True:=⟨⟩
theorem tw13019560810359889621:True:=⟨⟩
theorem tw7988159540606840413:True:=⟨⟩
theorem tw15290792225451357181:True:=⟨⟩
theorem tw11464218939026015709:True:=⟨⟩
theorem tw9776953373075679848:True:=⟨⟩
theorem tw16611318414459403309:True:=⟨⟩
theorem tw1063351217104691114:True:=⟨⟩
theorem tw18392936139989208640:True:=⟨⟩
theorem tw8666910312465784758:True:=⟨⟩
theorem tw12365785030388198330:True:=⟨⟩
theorem tw10027731195303464108:True:=⟨⟩
theorem tw10835628445272812490:True:=⟨⟩
theorem tw275490145969563246:True:=⟨⟩
theorem tw1039113007877515629:True:=⟨⟩
theorem tw23128060034491204:True:=⟨⟩
theorem tw5537995556212119468:True:=⟨⟩
theorem tw2773218346031049417:True:=⟨⟩
theorem tw7875359526588548576:True:=⟨⟩
theorem tw322709709722282013:True:=⟨⟩
theorem tw3475181216749210091:True:=⟨⟩
theorem tw7520644127343396106:True:=⟨⟩
theorem tw29225376698078807:True:=⟨⟩
theorem tw631099068928663887:True:=⟨⟩
theorem tw17534477260422589595:True:=⟨⟩
theorem tw4397130646686829551:True:=⟨⟩
theorem tw3870392066210292685:True:=⟨⟩
theorem tw5557794591470632582:True:=⟨⟩
theorem tw17996484733554731419:True:=⟨⟩
theorem tw7929812520408065158:True:=⟨⟩
theorem tw10586704025148483016:True:=⟨⟩
theorem tw11751608837887277506:True:=⟨⟩
theorem tw8032747822872162189:True:=⟨⟩
theorem tw12858207960330966649:True:=⟨⟩
theorem tw9739031244502901814:True:=⟨⟩
theorem tw7579642617130181724:True:=⟨⟩
theorem tw2393004422655522542:True:=⟨⟩
theorem tw4719208257338616727:True:=⟨⟩
theorem tw17382420803443965111:True:=⟨⟩
theorem tw10938461699420403713:True:=⟨⟩
theorem tw14956249458251834298:True:=⟨⟩
theorem tw1293273447417918435:True:=⟨⟩
theorem tw1934771960635717917:True:=⟨⟩
theorem tw14381824681430021597:True:=⟨⟩
theorem tw12574142902534492081:True:=⟨⟩
theorem tw9722276736092894028:True:=⟨⟩
theorem tw16169830679064631267:True:=⟨⟩
theorem tw3801314359287948089:True:=⟨⟩
theorem tw16156068268286804352:True:=⟨⟩
theorem tw15758775399072413250:True:=⟨⟩
theorem tw7295784932907223153:True:=⟨⟩
theorem tw17254826742289729525:True:=⟨⟩
theorem tw9613108289166135813:True:=⟨⟩
theorem tw6980536656000379803:True:=⟨⟩
theorem tw951749352775259111:True:=⟨⟩
theorem tw835274670709603987:True:=⟨⟩
theorem tw3359275606120754098:True:=⟨⟩
theorem tw12731139194814201059:True:=⟨⟩
theorem tw2302935838528349611:True:=⟨⟩
theorem tw18369056338872579932:True:=⟨⟩
theorem tw3593069601833778448:True:=⟨⟩
theorem tw3229185954775919586:True:=⟨⟩
theorem tw4159696229072022716:True:=⟨⟩
theorem tw18149384583860799635:True:=⟨⟩
theorem tw11705196773367951143:True:=⟨⟩
theorem tw17707883822808073850:True:=⟨⟩
theorem tw7550259590915513889:True:=⟨⟩
theorem tw7913530713377396759:True:=⟨⟩
theorem tw3870037345808633053:True:=⟨⟩
theorem tw15739958903495054355:True:=⟨⟩
theorem tw1195836400531731233:True:=⟨⟩
theorem tw830963545053293267:True:=⟨⟩
theorem tw11577206360210920124:True:=⟨⟩
theorem tw4972256860321077954:True:=⟨⟩
theorem tw7982995620824063210:True:=⟨⟩
theorem tw3977126712062140336:True:=⟨⟩
theorem tw1199001663556708752:True:=⟨⟩
theorem tw4367974000230380755:True:=⟨⟩
theorem tw10426409835136205708:True:=⟨⟩
theorem tw15699853647249454305:True:=⟨⟩
theorem tw14758400906662436914:True:=⟨⟩
theorem tw3039719039821198657:True:=⟨⟩
theorem tw7709618717566846052:True:=⟨⟩
theorem tw7991887420929049237:True:=⟨⟩
theorem tw5279105156642087219:True:=⟨⟩
theorem tw9093848065508967430:True:=⟨⟩
theorem tw16731418831365436185:True:=⟨⟩
theorem tw6134868231921532331:True:=⟨⟩
theorem tw12522118194764717078:True:=⟨⟩
theorem tw17567665325871773518:True:=⟨⟩
theorem tw11616825344027607908:True:=⟨⟩
theorem tw7999572261409875903:True:=⟨⟩
theorem tw14150504944476871151:True:=⟨⟩
theorem tw12359197893408664730:True:=⟨⟩
theorem tw16351597839334826670:True:=⟨⟩
theorem tw4298726700963105272:True:=⟨⟩
theorem tw17151015837016226545:True:=⟨⟩
theorem tw2085453084794490179:True:=⟨⟩
theorem tw14465123919087227636:True:=⟨⟩
theorem tw16779417785525422087:True:=⟨⟩
theorem tw8013938380008140555:True:=⟨⟩
theorem tw10077237955436115237:True:=⟨⟩
theorem tw10856134195575438754:True:=⟨⟩
theorem tw9799967334759183982:True:=⟨⟩
theorem tw13977124758877048494:True:=⟨⟩
theorem tw6535577202696677274:True:=⟨⟩
theorem tw11528568657609911469:True:=⟨⟩
theorem tw17808956804889115627:True:=⟨⟩
theorem tw11967912575295251371:True:=⟨⟩
theorem tw11497971070376363156:True:=⟨⟩
theorem tw15635123199025758917:True:=⟨⟩
theorem tw17350445879764299150:True:=⟨⟩
theorem tw4335522728483432978:True:=⟨⟩
theorem tw17040778422803250766:True:=⟨⟩
theorem tw4030887144300642876:True:=⟨⟩
theorem tw10235215310886777896:True:=⟨⟩
theorem tw4360705795597605306:True:=⟨⟩
theorem tw613392185959378373:True:=⟨⟩
theorem tw13517806132896710624:True:=⟨⟩
theorem tw13688206719547251411:True:=⟨⟩
theorem tw7689875754579916841:True:=⟨⟩
theorem tw4395391074974056527:True:=⟨⟩
theorem tw5821469194670473249:True:=⟨⟩
theorem tw3385761279045264210:True:=⟨⟩
theorem tw11780083955110983510:True:=⟨⟩
theorem tw18440123761565818729:True:=⟨⟩
theorem tw7045732218564915774:True:=⟨⟩
theorem tw17527908449088737277:True:=⟨⟩
theorem tw13994842094633492578:True:=⟨⟩
theorem tw16572186174014253710:True:=⟨⟩
theorem tw1449184011194038091:True:=⟨⟩
theorem tw4690940496628618261:True:=⟨⟩
theorem tw16850655756408533738:True:=⟨⟩
theorem tw18319450763082680097:True:=⟨⟩
theorem tw2461306292379907576:True:=⟨⟩
theorem tw12662016669292176465:True:=⟨⟩
theorem tw1985891742563362203:True:=⟨⟩
theorem tw14368259745206238674:True:=⟨⟩
theorem tw1354900246535953996:True:=⟨⟩
theorem tw1108283364910269259:True:=⟨⟩
theorem tw16624710482375933959:True:=⟨⟩
theorem tw4019912228666683738:True:=⟨⟩
theorem tw14778742904152018869:True:=⟨⟩
theorem tw17174109737476426686:True:=⟨⟩
theorem tw8803342438494559115:True:=⟨⟩
theorem tw10612458260814450129:True:=⟨⟩
theorem tw7641346291103924986:True:=⟨⟩
theorem tw12332068376837680553:True:=⟨⟩
theorem tw14883918480638677799:True:=⟨⟩
theorem tw15751340236637668150:True:=⟨⟩
theorem tw7448047092273379016:True:=⟨⟩
theorem tw2547808367038779922:True:=⟨⟩
theorem tw18153371812693399756:True:=⟨⟩
theorem tw28978983625354843:True:=⟨⟩
theorem tw1856368440279793885:True:=⟨⟩
theorem tw2598883657954405242:True:=⟨⟩
theorem tw15542426303990593054:True:=⟨⟩
theorem tw8910377901427459925:True:=⟨⟩
theorem tw1740410098019703264:True:=⟨⟩
theorem tw12877876161017342955:True:=⟨⟩
theorem tw10076950908197947748:True:=⟨⟩
theorem tw8556903478524196823:True:=⟨⟩
theorem tw8637669928576499055:True:=⟨⟩
theorem tw886379655014293029:True:=⟨⟩
theorem tw2078177707431382696:True:=⟨⟩
theorem tw4141739227825039461:True:=⟨⟩
theorem tw11297042786724503701:True:=⟨⟩
theorem tw16989831764031016482:True:=⟨⟩
theorem tw95721084956561634:True:=⟨⟩
theorem tw13381439995503469729:True:=⟨⟩
theorem tw2204197382031911395:True:=⟨⟩
theorem tw5431377896872246977:True:=⟨⟩
theorem tw17097074937069026877:True:=⟨⟩
theorem tw6759505387152507344:True:=⟨⟩
theorem tw8548377519813234369:True:=⟨⟩
theorem tw15129844601703695822:True:=⟨⟩
theorem tw7471387418317632426:True:=⟨⟩
theorem tw5065080894998646631:True:=⟨⟩
theorem tw14384827106845481912:True:=⟨⟩
theorem tw5187488198197999020:True:=⟨⟩
theorem tw10479326983815430150:True:=⟨⟩
theorem tw3053524574705468048:True:=⟨⟩
theorem tw12487664665689706009:True:=⟨⟩
theorem tw14193386428648748543:True:=⟨⟩
theorem tw13896186149867572284:True:=⟨⟩
theorem tw3118776087629863234:True:=⟨⟩
theorem tw17341400446652641407:True:=⟨⟩
theorem tw10483922671756405099:True:=⟨⟩
theorem tw14808760056692242765:True:=⟨⟩
theorem tw7729954449650149358:True:=⟨⟩
theorem tw17524568787172179458:True:=⟨⟩
theorem tw13899901886249332449:True:=⟨⟩
theorem tw5952636714221551596:True:=⟨⟩
theorem tw6277873746580037993:True:=⟨⟩
theorem tw30738984910453329:True:=⟨⟩
theorem tw5208097958783471226:True:=⟨⟩
theorem tw5029140723393061242:True:=⟨⟩
theorem tw4016969243762723907:True:=⟨⟩
theorem tw1940492939278470562:True:=⟨⟩
theorem tw11875237101865581884:True:=⟨⟩
theorem tw12538296059033609188:True:=⟨⟩
theorem tw18233185954722442849:True:=⟨⟩
theorem tw4057686003977858289:True:=⟨⟩
theorem tw8362524319657857212:True:=⟨⟩
theorem tw17888430237110891018:True:=⟨⟩
theorem tw17992593327571401293:True:=⟨⟩
theorem tw10266886244170850223:True:=⟨⟩
theorem tw5807686912560145555:True:=⟨⟩
theorem tw10248904639775332599:True:=⟨⟩
theorem tw9270073374452197206:True:=⟨⟩
theorem tw14429048855353591167:True:=⟨⟩
theorem tw2972935003545054729:True:=⟨⟩
theorem tw1677923154618161808:True:=⟨⟩
theorem tw3002452810332483368:True:=⟨⟩
theorem tw5899432557226454718:True:=⟨⟩
theorem tw187953474783263160:True:=⟨⟩
theorem tw15181123087807933555:True:=⟨⟩
theorem tw3747457250532265161:True:=⟨⟩
theorem tw5492477839062526254:True:=⟨⟩
theorem tw17563669574838625501:True:=⟨⟩
theorem tw15306416704627739663:True:=⟨⟩
theorem tw16864809756613868081:True:=⟨⟩
theorem tw18215531288138765457:True:=⟨⟩
theorem tw5690560312003472969:True:=⟨⟩
theorem tw14220272983300933543:True:=⟨⟩
theorem tw14610125018756662759:True:=⟨⟩
theorem tw7504372356390006155:True:=⟨⟩
theorem tw12139684956995780343:True:=⟨⟩
theorem tw3323586101966160763:True:=⟨⟩
theorem tw5719207834767786100:True:=⟨⟩
theorem tw12243144864764899046:True:=⟨⟩
theorem tw12087358303478095373:True:=⟨⟩
theorem tw7415246513828856385:True:=⟨⟩
theorem tw6107845929844937647:True:=⟨⟩
theorem tw14608535007083795492:True:=⟨⟩
theorem tw10168520440824454686:True:=⟨⟩
theorem tw12754397408425532603:True:=⟨⟩
theorem tw17245882004167686152:True:=⟨⟩
theorem tw10272537821839822461:True:=⟨⟩
theorem tw1213949085207144788:True:=⟨⟩
theorem tw12061255953267914621:True:=⟨⟩
theorem tw8379942330589973029:True:=⟨⟩
theorem tw8333083193161290914:True:=⟨⟩
theorem tw14315376730616587236:True:=⟨⟩
theorem tw6225533854768981205:True:=⟨⟩
theorem tw8741011033054555081:True:=⟨⟩
theorem tw6957331281677909399:True:=⟨⟩
theorem tw14387078982981472808:True:=⟨⟩
theorem tw17547017566503870973:True:=⟨⟩
theorem tw15605750816486702523:True:=⟨⟩
theorem tw8914916683352266993:True:=⟨⟩
theorem tw16707915675383057509:True:=⟨⟩
theorem tw5415522868744155490:True:=⟨⟩
theorem tw13912700888034377015:True:=⟨⟩
theorem tw584475925033691979:True:=⟨⟩
theorem tw8262179035827919400:True:=⟨⟩
theorem tw2257317952289761635:True:=⟨⟩
theorem tw17650705026790441589:True:=⟨⟩
theorem tw7084760814408957394:True:=⟨⟩
theorem tw610266306953036105:True:=⟨⟩
theorem tw17805784605880054841:True:=⟨⟩
theorem tw8923359360806316995:True:=⟨⟩
theorem tw880733850693762678:True:=⟨⟩
theorem tw14439420024953542976:True:=⟨⟩
theorem tw7479470832986022150:True:=⟨⟩
theorem tw8058767335377165492:True:=⟨⟩
theorem tw5834549830626347267:True:=⟨⟩
theorem tw7125942787242292984:True:=⟨⟩
theorem tw1246498557872463036:True:=⟨⟩
theorem tw13981958759152794436:True:=⟨⟩
theorem tw10074437331767869498:True:=⟨⟩
theorem tw4984145059636019000:True:=⟨⟩
theorem tw11141327620808505291:True:=⟨⟩
theorem tw8446560789522333226:True:=⟨⟩
theorem tw15339828606730253578:True:=⟨⟩
theorem tw3404747633421144682:True:=⟨⟩
theorem tw6792155816920516010:True:=⟨⟩
theorem tw12314506625691106012:True:=⟨⟩
theorem tw11448089957733781737:True:=⟨⟩
theorem tw17582846302672293533:True:=⟨⟩
theorem tw13056682645210634375:True:=⟨⟩
theorem tw18296311684530164969:True:=⟨⟩
theorem tw7389223605354808624:True:=⟨⟩
theorem tw16540690687739511236:True:=⟨⟩
theorem tw11895320069445813547:True:=⟨⟩
theorem tw9261568840205202119:True:=⟨⟩
theorem tw2171699057199785280:True:=⟨⟩
theorem tw7681147850857408668:True:=⟨⟩
theorem tw11560923126200282600:True:=⟨⟩
theorem tw15387132158849334444:True:=⟨⟩
theorem tw13256166614340670504:True:=⟨⟩
theorem tw13911996974478421328:True:=⟨⟩
theorem tw2705257129716156204:True:=⟨⟩
theorem tw9594282194540163698:True:=⟨⟩
theorem tw9146777276366647277:True:=⟨⟩
theorem tw4766604749946568008:True:=⟨⟩
theorem tw12847263761109031814:True:=⟨⟩
theorem tw9239588859844407099:True:=⟨⟩
theorem tw13973487362834309585:True:=⟨⟩
theorem tw2153444934718144383:True:=⟨⟩
theorem tw7265919515904339014:True:=⟨⟩
theorem tw964636371870033519:True:=⟨⟩
theorem tw16597688844253447532:True:=⟨⟩
theorem tw2319708587624155345:True:=⟨⟩
theorem tw13130779492357893748:True:=⟨⟩
theorem tw14479995606113370229:True:=⟨⟩
theorem tw16992837136709433392:True:=⟨⟩
theorem tw12164901488873430132:True:=⟨⟩
theorem tw1854485075217173699:True:=⟨⟩
theorem tw9943715670186571363:True:=⟨⟩
theorem tw15808179623474159766:True:=⟨⟩
theorem tw6895297457736753018:True:=⟨⟩
theorem tw16707512123207609431:True:=⟨⟩
theorem tw13423647865926934125:True:=⟨⟩
theorem tw9450236826554750245:True:=⟨⟩
theorem tw15284799815218319693:True:=⟨⟩
theorem tw7285679310938767618:True:=⟨⟩
theorem tw18434975212114428348:True:=⟨⟩
theorem tw6866556095261256179:True:=⟨⟩
theorem tw5353773730443893135:True:=⟨⟩
theorem tw12223984306719455680:True:=⟨⟩
theorem tw856413648706744979:True:=⟨⟩
theorem tw14481899971356458794:True:=⟨⟩
end PySem.W.Fast
open PySem PySem.W PyProof.Rows
set_option maxRecDepth 100000 in
set_option maxHeartbeats 0 in
theorem PySem.Challenge.cw_gaze_k72_what_is_no_rule_holds : PySem.Challenge.rw_gaze_k72_what_is_no_rule.Holds := by
 w_on;o_law;k_head;(case hw=>w_witness2)
 k_fill
 refine t8.walk (l:=PySem.Challenge.rw_gaze_k72_what_is_no_rule) rfl rfl (fun w h Y=>PySem.W.kIn_of Y) ?F
 case F =>
  intro w mg fa h KX G Vb
  refine' t8.TB KX G Vb ?_ ?_ ?_ ?_ ?_ ?_ ?_ ?_ ?_ ?_ ?_ ?_ ?_ ?_ ?_ ?_ ?_ ?_ ?_ ?_ ?_ ?_ ?_ ?_ ?_ ?_ ?_ ?_ ?_ ?_ ?_ ?_ ?_ ?_ ?_ ?_ ?_ ?_ ?_ ?_ ?_ ?_ ?_ ?_ ?_ ?_ ?_ ?_ ?_ ?_ ?_ ?_ ?_ ?_ ?_ ?_ ?_ ?_ ?_ ?_ ?_ ?_ ?_ ?_ ?_ ?_ ?_ ?_ ?_ ?_ ?_ ?_ ?_ ?_ ?_ ?_ ?_ ?_ ?_ ?_ ?_ ?_ ?_ ?_ ?_ ?_ ?_ ?_ ?_ ?_ ?_ ?_ ?_ ?_ ?_ ?_ ?_ ?_ ?_ ?_ ?_ ?_ ?_ ?_ ?_ ?_ ?_ ?_ ?_ ?_ ?_ ?_ ?_ ?_ ?_ ?_ ?_ ?_ ?_ ?_ ?_ ?_ ?_ ?_ ?_ ?_ ?_ ?_ ?_ ?_ ?_ ?_ ?_ ?_ ?_ ?_ ?_ ?_ ?_ ?_ ?_ ?_ ?_ ?_ ?_ ?_ ?_ ?_ ?_ ?_ ?_ ?_ ?_ ?_ ?_ ?_ ?_ ?_ ?_ ?_ ?_ ?_ ?_ ?_ ?_ ?_ ?_ ?_ ?_ ?_ ?_ ?_ ?_ ?_ ?_ ?_ ?_ ?_ ?_ ?_ ?_ ?_ ?_ ?_ ?_ ?_ ?_ ?_ ?_ ?_ ?_ ?_ ?_ ?_ ?_ ?_ ?_ ?_ ?_ ?_ ?_ ?_ ?_
  rotate_left 28
  iterate 16 k_is
  iterate 13 walk_at "gzfb"
  iterate 4 walk_at "gzfi"
  iterate 20 walk_at "gzfb"
  walk_at "gzfi"
  iterate 37 walk_at "gzfb"
  iterate 12 k_is
  iterate 2 walk_at "gzcl"
  iterate 4 k_is
  walk_at "gzcl"
  iterate 5 k_is
  walk_at "gzcl"
  iterate 5 k_is
  walk_at "gzcl"
  iterate 5 k_is
  walk_at "gzcl"
  iterate 6 k_is
  walk_at "gzcl"
  iterate 5 k_is
  walk_at "gzcl"
  iterate 3 k_is
  walk_at "gzcl"
  iterate 4 k_is
  walk_at "gzcl"
  iterate 4 k_is
  walk_at "gzcl"
  iterate 4 k_is
  walk_at "gzcl"
  iterate 5 k_is
  iterate 3 walk_at "gzxc"
  iterate 15 k_is
  iterate 9 kit_is
  iterate 7 k_is
  rfl
  k_is
  exact t8.FO.mk ..
  rfl
#print axioms PySem.Challenge.cw_gaze_k72_what_is_no_rule_holds
