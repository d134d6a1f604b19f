import PyProof.Rows.All
import Wide.All
import OpenK.AllK
import Wide.FinOn
import Lean
import PyProof.EqAt
import PyProof.EqKinds
import PyProof.TupleCall
import PySem.Unicode
import PyProof.StrLawsReplace
import PyProof.StrLawsTight
import PyProof.StrLawsWords2
import PyProof.StrLawsAffix
import PyProof.StrLawsNeg
import KE.IntTextLaws
import KE.KSortTup
import KE.KItemsList
import KE.KDictSum
import Wide.Seal
import PyProof.ReprRoads
import KE.KSortKey
import PyProof.ReprLen
import PyProof.SetKind
import PyProof.TupleKey
import PyProof.NeKinds
import PySem.Challenge.RW_wildtakes_k60_whole_alls
set_option linter.all false
set_option maxRecDepth 100000
set_option maxHeartbeats 0
set_option Elab.async false
namespace L2
open PySem PySem.Spec PyProof.Rows
abbrev Key:=Sum Int Str
def lM:Key->Value->Bool
 | .inl k,v=>Value.isInt k v
 | .inr x,v=>Value.isStrOf x v
def Mx(w:World):Key->Int
 | .inl k=>hashInt k
 | .inr x=>hashStr w x
theorem bG: ∀ {k:Key} {v:Value},lM k v=true->(∃i t,k=Sum.inl i/\v=Value.int i t)\/(∃x t,k=Sum.inr x/\v=Value.str x t)
 | .inl i,v,h=>by
  obtain⟨t,e⟩:=Value.isInt_shape (k:=i) (v:=v) h
  exact .inl ⟨i,t,rfl,e⟩
 | .inr x,v,h=>by
  obtain⟨t,e⟩:=Value.isStrOf_shape (x:=x) (v:=v) h
  exact .inr ⟨x,t,rfl,e⟩
theorem xN(i:Int)(t:Tok):lM (.inl i) (.int i t)=true:=by simp[lM,Value.isInt]
theorem xO(x:Str)(t:Tok):lM (.inr x) (.str x t)=true:=by simp[lM,Value.isStrOf]
theorem Gb(a b:Int):decide ((Sum.inl a:Key)=Sum.inl b)=(a==b):=by
 by_cases e:a=b
 ·subst e;simp
 ·have h: ¬(Sum.inl a:Key)=Sum.inl b:=fun q=>e (Sum.inl.inj q)
  rw[decide_eq_false h]
  exact(beq_eq_false_iff_ne.mpr e).symm
theorem Ge(a b:Str):decide ((Sum.inr a:Key)=Sum.inr b)=decide (a=b):=by
 by_cases e:a=b
 ·subst e;simp
 ·have h: ¬(Sum.inr a:Key)=Sum.inr b:=fun q=>e (Sum.inr.inj q)
  rw[decide_eq_false h,decide_eq_false e]
theorem Gc(a:Int)(b:Str):decide ((Sum.inl a:Key)=Sum.inr b)=false:=decide_eq_false (fun q=>nomatch q)
theorem Gd(a:Str)(b:Int):decide ((Sum.inr a:Key)=Sum.inl b)=false:=decide_eq_false (fun q=>nomatch q)
def aO(prog:Program)(w:World):PySem.KeyKind prog w Key where
 is:=lM
 hash:=Mx w
 inj:=fun v a b ha hb=>by
  rcases bG ha with⟨i,t,rfl,rfl⟩|⟨x,t,rfl,rfl⟩
  ·rcases bG hb with⟨j,u,rfl,e⟩|⟨y,u,rfl,e⟩
   ·injection e with e1 _;rw[e1]
   ·exact nomatch e
  ·rcases bG hb with⟨j,u,rfl,e⟩|⟨y,u,rfl,e⟩
   ·exact nomatch e
   ·injection e with e1 _;rw[e1]
 byValue:=fun k v h=>by
  rcases bG h with⟨i,t,rfl,rfl⟩|⟨x,t,rfl,rfl⟩<;>rfl
 pyHash:=fun hv h=>by
  rcases bG hv with⟨i,t,rfl,rfl⟩|⟨x,t,rfl,rfl⟩
  ·exact wpAny_pyHash_int h
  ·exact wpAny_pyHash_str h
 eqBool:=fun hu hv h=>by
  rcases bG hu with⟨i,t,rfl,rfl⟩|⟨x,t,rfl,rfl⟩
  ·rcases bG hv with⟨j,u,rfl,rfl⟩|⟨y,u,rfl,rfl⟩
   ·rw[Gb]at h;exact wpAny_eqBool_int h
   ·rw[Gc]at h;exact SeqAt.EqAt.int_str i t y u _ _ _ _ h
  ·rcases bG hv with⟨j,u,rfl,rfl⟩|⟨y,u,rfl,rfl⟩
   ·rw[Gd]at h;exact SeqAt.EqAt.str_int x t j u _ _ _ _ h
   ·rw[Ge]at h;exact wpAny_eqBool_str h
 «strs»:=fun k x t v h=>by
  rcases bG h with⟨i,u,rfl,e⟩|⟨y,u,rfl,e⟩
  ·exact nomatch e
  ·injection e with e1 _
   subst e1
   cases v<;>rfl
theorem rK(prog:Program)(w:World)(i:Int)(t:Tok):(aO prog w).is (.inl i) (.int i t)=true:=xN i t
theorem eU(prog:Program)(w:World)(x:Str)(t:Tok):(aO prog w).is (.inr x) (.str x t)=true:=xO x t
end L2
namespace L2
open PySem PySem.Spec PyProof.Rows
inductive V where
 |aH|bl (b:Bool)|int (i:Int)|str (x:Str)|tu (b:Array UInt8)|CK (b:UInt64)|ref (a:Addr)|ty (n:String)
 deriving DecidableEq
def RelV:V->Value->Prop
 | .aH,u=>u=Value.none
 | .bl b,u=>u=Value.bool b
 | .int i,u=> ∃t,u=Value.int i t
 | .str x,u=> ∃t,u=Value.str x t
 | .tu b,u=> ∃t,u=Value.bytes b t
 | .CK b,u=> ∃t,u=Value.float b t
 | .ref a,u=>u=Value.ref a
 | .ty n,u=>u=Value.type n
abbrev Vals:List V->List Value->Prop:=Paired RelV
theorem Vals.length{xs:List V}{us:List Value}(r:Vals xs us):xs.length=us.length:=Paired.length r
theorem Vals.get: ∀ {xs:List V} {us:List Value} {i:Nat} {x:V},Vals xs us->xs[i]? =some x-> ∃u,us[i]? =some u/\RelV x u
 |_,_,_,_,.nil,e=>by simp at e
 |_,_,0,_,.cons r _,e=>by simp at e;subst e;exact⟨_,rfl,r⟩
 |_,_,i+1,x,.cons _ t,e=>by
  obtain⟨u,h1,h2⟩:=Vals.get (i:=i) (x:=x) t (by simpa using e)
  exact⟨u,by simpa using h1,h2⟩
theorem Vals.set{x:V}{u:Value}(r:RelV x u): ∀ {xs:List V} {us:List Value} (i:Nat),Vals xs us->Vals (xs.set i x) (us.set i u)
 |_,_,_,.nil=> .nil
 |_,_,0,.cons _ t=> .cons r t
 |_,_,i+1,.cons q t=> .cons q (Vals.set r i t)
theorem Vals.append: ∀ {xs ys:List V} {us ws:List Value},Vals xs us->Vals ys ws->Vals (xs++ys) (us++ws)
 |_,_,_,_,.nil,s=>s
 |_,_,_,_,.cons r t,s=> .cons r (Vals.append t s)
theorem Vals.take: ∀ {xs:List V} {us:List Value} (n:Nat),Vals xs us->Vals (xs.take n) (us.take n)
 |_,_,0,_=> .nil
 |_,_,_+1,.nil=> .nil
 |_,_,n+1,.cons r t=> .cons r (Vals.take n t)
theorem Vals.drop: ∀ {xs:List V} {us:List Value} (n:Nat),Vals xs us->Vals (xs.drop n) (us.drop n)
 |_,_,0,r=>r
 |_,_,_+1,.nil=> .nil
 |_,_,n+1,.cons _ t=>Vals.drop n t
def fb:Option V->Option Value->Prop
 |some v,some u=>RelV v u
 |none,none=>True
 |_,_=>False
def KV{κ:Type}:List (κ×V)->List (κ×Value)->Prop:=Paired fun(p:κ×V) (q:κ×Value)=>p.1=q.1/\RelV p.2 q.2
def kV:Key->V
 | .inl i=> .int i
 | .inr x=> .str x
inductive HO where
 |lst (xs:List V)
 |tup (xs:List V)
 |dK (kvs:List (Key×V))|dT (kvs:List (List Key×V))
 |set (S:Int->Bool) (n:Nat)
 |ins (C dx:Addr) (fs:List (Str×V))
 |own (x:Addr)
 |xd (fs:List (Str×V))
 |met (f x:Addr)
 |yG (lo hi:Int)
 |fY (o:Obj) (u:HO)
 |Ek (ps:Array Value)
 |ext (φ:Heap->Prop)
abbrev Hp:=Addr->Option HO
def upd(H:Hp)(a:Addr)(o:HO):Hp:=fun b=>if b=a then some o else H b
theorem ac{H:Hp}{a:Addr}{o:HO}:upd H a o a=some o:=by unfold upd;rw[if_pos rfl]
theorem ak{H:Hp}{a b:Addr}{o:HO}(h:b≠a):upd H a o b=H b:=by unfold upd;rw[if_neg h]
theorem Em{H:Hp}{a:Addr}{o u:HO}:upd (upd H a o) a u=upd H a u:=by
 funext b;unfold upd;split<;>rfl
theorem nR{H:Hp}{a b:Addr}{o u:HO}(h:H a=some o)(h':H b=some u)(d:o≠u):a≠b:=by
 intro e;subst e;rw[h]at h';exact d (Option.some.inj h')
theorem ay{H:Hp}{a b:Addr}{o:HO}(h:H a=some o)(h':H b=none):a≠b:=by
 intro e;subst e;rw[h]at h';cases h'
section
variable(P:Program)(w:World)
def bw(H:Hp)(h:Heap)(a:Addr):HO->Prop
 | .lst xs=>xs.length<=sizeLine/\ ∃ (its:List Value) (n:Nat),Vals xs its/\h.get? a=some {cls:= .type "list",data:= .seq its.toArray n}
 | .tup xs=>xs.length<=sizeLine/\ ∃its:List Value,Vals xs its/\IsTup h a its.toArray
 | .dK kvs=>kvs.length<=sizeLine/\(a==sysModules)=false/\ ∃vs,KV kvs vs/\h.DictOf (aO P w) a vs
 | .dT kvs=>kvs.length<=sizeLine/\(a==sysModules)=false/\ ∃xs:List (List Key×Addr×Value),
   Paired (fun(p:List Key×V) (q:List Key×Addr×Value)=>p.1=q.1/\H q.2.1=some (.tup (p.1.map kV))/\RelV p.2 q.2.2) kvs xs/\
   ∃o es ep,h.get? a=some o/\o.ExactDict/\o.data= .dict es ep/\es.toList=xs.map (entryOfKey (tupleKind (aO P w)))/\(xs.map (·.1)).Nodup
 | .set S n=>h.SetOf (intKind P w) a S n
 | .ins C dx fs=>H dx=some (.own a)/\fs.length<=1000/\dx≠a/\h.get? a=some (PySem.W.instObj C dx)/\
   ∃mA,h.Ns1 dx mA/\(∀f,fb (fs.lookup f) (mA f))/\PySem.Within mA (fs.map (·.1))
 | .own _=> ∃o,h.get? a=some o
 | .xd fs=> ∃mA,h.Ns1 a mA/\ ∀f,fb (fs.lookup f) (mA f)
 | .yG lo hi=> ∃t u v,h.get? a=some {cls:= .type "range",data:= .fields #[.int lo t,.int hi u,.int 1 v]}
 | .fY o u=>h.get? a=some o/\bw H h a u
 | .Ek ps=>h.get? a=some {cls:= .none,data:= .fields ps}
 | .met f x=>h.get? a=some (PySem.W.methodObj (.ref f) (.ref x))
 | .ext φ=>φ h/\(∃o,h.get? a=some o)/\ ∀h1 h2:Heap,φ h1->(∀o,h1.get? a=some o->h2.get? a=some o)->φ h2
def fH(H:Hp)(h:Heap):Prop:= ∀a o,H a=some o->bw P w H h a o
end
section
variable{P:Program}{w:World}{H H':Hp}{h h':Heap}{a:Addr}{o:HO}
theorem bw.lt(x:bw P w H h a o):a<h.objs.size:=by
 cases o with
 |lst xs=>obtain⟨_,_,_,_,e⟩:=x;exact Heap.lt_size e
 |tup xs=>obtain⟨_,_,_,p⟩:=x;exact p.lt
 |dK kvs=>obtain⟨_,_,_,_,o,_,_,e,_⟩:=x;exact Heap.lt_size e
 |dT kvs=>obtain⟨_,_,_,_,o,_,_,e,_⟩:=x;exact Heap.lt_size e
 |set S n=>obtain⟨o,_,_,_,e,_⟩:=x;exact Heap.lt_size e
 |ins C dx fs=>obtain⟨_,_,_,e,_⟩:=x;exact Heap.lt_size e
 |own y=>obtain⟨_,e⟩:=x;exact Heap.lt_size e
 |xd fs=>obtain⟨_,⟨_,_,_,e,_⟩,_⟩:=x;exact Heap.lt_size e
 |yG lo hi=>obtain⟨_,_,_,e⟩:=x;exact Heap.lt_size e
 |fY ob u=>obtain⟨e,_⟩:=x;exact Heap.lt_size e
 |Ek ps=>exact Heap.lt_size (show h.get? a=some _ from x)
 |met f y=>exact Heap.lt_size (show h.get? a=some _ from x)
 |ext φ=>obtain⟨_,⟨_,e⟩,_⟩:=x;exact Heap.lt_size e
theorem Paired.Dm{α β:Type}{F G:α->β->Prop}: ∀ {l₁:List α} {l₂:List β},Paired F l₁ l₂->(∀a b,F a b->G a b)->Paired G l₁ l₂
 |_,_,.nil,_=> .nil
 |_,_,.cons r t,f=> .cons (f _ _ r) (Paired.Dm t f)
theorem bw.stay(x:bw P w H h a o)(k: ∀b u,(b=a\/H b=some (.own a))->h.get? b=some u->h'.get? b=some u)
  (ho: ∀b,H b=some (.own a)->H' b=some (.own a))(ht: ∀b xs,H b=some (.tup xs)->H' b=some (.tup xs)):bw P w H' h' a o:=by
 induction o with
 |lst xs=>obtain⟨z,its,n,r,e⟩:=x;exact⟨z,its,n,r,k _ _ (.inl rfl) e⟩
 |tup xs=>obtain⟨z,its,r,ob,e,c⟩:=x;exact⟨z,its,r,ob,k _ _ (.inl rfl) e,c⟩
 |dK kvs=>obtain⟨z,y,vs,r,ob,es,ep,e,c⟩:=x;exact⟨z,y,vs,r,ob,es,ep,k _ _ (.inl rfl) e,c⟩
 |dT kvs=>
  obtain⟨z,y,xs,r,ob,es,ep,e,c⟩:=x
  exact⟨z,y,xs,Paired.Dm r fun p q z=>⟨z.1,ht _ _ z.2.1,z.2.2⟩,ob,es,ep,k _ _ (.inl rfl) e,c⟩
 |set S n=>obtain⟨ob,es,ep,t,e,c⟩:=x;exact⟨ob,es,ep,t,k _ _ (.inl rfl) e,c⟩
 |ins C dx fs=>
  obtain⟨d,z,ne,e,mA,⟨od,es,ep,e2,c⟩,r⟩:=x
  exact⟨ho _ d,z,ne,k _ _ (.inl rfl) e,mA,⟨od,es,ep,k _ _ (.inr d) e2,c⟩,r⟩
 |own y=>obtain⟨ob,e⟩:=x;exact⟨ob,k _ _ (.inl rfl) e⟩
 |xd fs=>obtain⟨mA,⟨od,es,ep,e,c⟩,r⟩:=x;exact⟨mA,⟨od,es,ep,k _ _ (.inl rfl) e,c⟩,r⟩
 |yG lo hi=>obtain⟨t,u,v,e⟩:=x;exact⟨t,u,v,k _ _ (.inl rfl) e⟩
 |fY ob u ih=>obtain⟨e,q⟩:=x;exact⟨k _ _ (.inl rfl) e,ih q⟩
 |Ek ps=>
  have e:h.get? a=some {cls:= .none,data:= .fields ps}:=x
  show h'.get? a=some {cls:= .none,data:= .fields ps}
  exact k a _ (.inl rfl) e
 |met f y=>
  have e:h.get? a=some (PySem.W.methodObj (.ref f) (.ref y)):=x
  show h'.get? a=some (PySem.W.methodObj (.ref f) (.ref y))
  exact k a _ (.inl rfl) e
 |ext φ=>obtain⟨p,⟨o,e⟩,st⟩:=x;exact⟨st _ _ p fun o q=>k _ _ (.inl rfl) q,⟨o,k _ _ (.inl rfl) e⟩,st⟩
theorem fH.lt(x:fH P w H h)(e:H a=some o):a<h.objs.size:=(x a o e).lt
theorem fH.fresh(x:fH P w H h)(e:h.objs.size<=a):H a=none:=by
 cases q:H a with
 |none=>rfl
 |some u=>exact absurd (Nat.lt_of_lt_of_le (x.lt q) e) (Nat.lt_irrefl _)
theorem fH.kept(x:fH P w H h)(k: ∀b u,h.get? b=some u->h'.get? b=some u):fH P w H h':=fun a o e=>
 (x a o e).stay (fun b u _ q=>k b u q) (fun _ q=>q) fun _ _ q=>q
theorem fH.laid(x:fH P w H h)(k: ∀b u,h.get? b=some u->h'.get? b=some u)(hp:h.objs.size<=a)(new:bw P w (upd H a o) h' a o):fH P w (upd H a o) h':=fun b u e=>by
 have hn:=x.fresh hp
 by_cases hb:b=a
 ·subst hb;rw[ac]at e;cases e;exact new
 ·rw[ak hb]at e
  exact(x b u e).stay (fun c v _ q=>k c v q) (fun c q=>by rw[ak (ay q hn)];exact q) fun c xs q=>by rw[ak (ay q hn)];exact q
end
def Rd(H:Hp)(a:Addr)(u:HO):Prop:=H a=some u\/ ∃o,H a=some (.fY o u)
theorem Rd.ok{P:Program}{w:World}{H:Hp}{h:Heap}{a:Addr}{u:HO}(r:Rd H a u)(x:fH P w H h):bw P w H h a u:=by
 rcases r with r|⟨o,r⟩
 ·exact x a u r
 ·obtain⟨_,q⟩:=x a _ r
  exact q
def Ix:Option HO->Prop
 |some (.lst _)=>True
 |some (.dK _)=>True
 |some (.dT _)=>True
 |some (.set _ _)=>True
 |some (.ins _ _ _)=>True
 |some (.ext _)=>True
 |_=>False
section
variable{P:Program}{w:World}{H:Hp}{h h':Heap}{x e:Addr}{o':HO}
theorem fH.write(ok:fH P w H h)(mu:Ix (H x))(he:e=x\/H e=some (.own x))(k: ∀b u,b≠e->h.get? b=some u->h'.get? b=some u)(HU: ∃u,h'.get? e=some u)
  (new:bw P w (upd H x o') h' x o'):fH P w (upd H x o') h':=fun b u q=>by
 have JP: ∀c y,H c=some (.own y)->c≠x:=fun c y r z=>by subst z;rw[r]at mu;exact mu
 have MW: ∀c xs,H c=some (.tup xs)->c≠x:=fun c xs r z=>by subst z;rw[r]at mu;exact mu
 by_cases hb:b=x
 ·subst hb;rw[ac]at q;cases q;exact new
 ·rw[ak hb]at q
  by_cases Co:b=e
  ·have q':H b=some (.own x):=by
    rcases he with z|z
    ·exact absurd (Co.trans z) hb
    ·rw[Co];exact z
   rw[q]at q';cases q'
   obtain⟨v,hv⟩:=HU
   exact⟨v,by rw[Co];exact hv⟩
  ·refine(ok b u q).stay (fun c v hc r=>k c v ?_ r) (fun c r=>by rw[ak (JP c b r)];exact r) fun c xs r=>by rw[ak (MW c xs r)];exact r
   rcases hc with rfl|hc
   ·exact Co
   ·rintro rfl
    rcases he with z|z
    ·exact JP c b hc z
    ·rw[hc]at z;cases z;exact hb rfl
end
structure Un(fs ex:List Addr)(H H':Hp)(h h':Heap):Prop where
 keep: ∀b o,h.get? b=some o->H b=none->b∉fs->b∉ex->h'.get? b=some o
 slot: ∀b o,h.get? b=some o->H b=none->b∈fs->b∉ex-> ∃sl,h'.get? b=some {o with slots:=sl}
 free: ∀b o,h.get? b=some o->H b=none->b∉ex->H' b=none
 there: ∀b o,h.get? b=some o->b∉ex-> ∃o',h'.get? b=some o'
 tups: ∀b xs,H b=some (.tup xs)->H' b=some (.tup xs)
 ik: ∀b o u,H b=some (.fY o u)->H' b=some (.fY o u)
 jS: ∀b ps,H b=some (.Ek ps)-> ∃more,H' b=some (.Ek (ps++more))
section
variable{fs fs' ex ex':List Addr}{H H1 H2:Hp}{h h1 h2 h':Heap}{a x e:Addr}{o:HO}
theorem Un.any(u:Un fs ex H H1 h h1){b:Addr}{ob:Obj}(q:h.get? b=some ob)(n:H b=none)(hx:b∉ex): ∃sl,h1.get? b=some {ob with slots:=sl}:=by
 by_cases hb:b∈fs
 ·exact u.slot b ob q n hb hx
 ·exact⟨ob.slots,u.keep b ob q n hb hx⟩
theorem Un.kept(k: ∀b u,h.get? b=some u->h'.get? b=some u):Un fs ex H H h h':=
 ⟨fun b ob q _ _ _=>k b ob q,fun b ob q _ _ _=>⟨ob.slots,k b ob q⟩,fun _ _ _ n _=>n,fun b ob q _=>⟨ob,k b ob q⟩,fun _ _ q=>q,fun _ _ _ q=>q,fun _ ps q=>⟨#[],by rw[q];simp⟩⟩
theorem Un.refl:Un fs ex H H h h:=Un.kept fun _ _ q=>q
theorem Un.laid(k: ∀b u,h.get? b=some u->h'.get? b=some u)(hp:h.objs.size<=a)(hn:H a=none):Un fs ex H (upd H a o) h h' where
 keep:=fun b u q _ _ _=>k b u q
 slot:=fun b u q _ _ _=>⟨u.slots,k b u q⟩
 free:=fun b u q n _=>by rw[ak (Nat.ne_of_lt (Nat.lt_of_lt_of_le (Heap.lt_size q) hp))];exact n
 there:=fun b u q _=>⟨u,k b u q⟩
 tups:=fun b xs q=>by rw[ak (ay q hn)];exact q
 ik:=fun b u xs q=>by rw[ak (ay q hn)];exact q
 jS:=fun b ps q=>⟨#[],by rw[ak (ay q hn),q];simp⟩
theorem Un.write(mu:Ix (H x))(he:e=x\/H e=some (.own x))(k: ∀b u,b≠e->h.get? b=some u->h'.get? b=some u)(HU: ∃u,h'.get? e=some u):Un fs ex H (upd H x o) h h':=by
 have hx: ∀b,H b=none->b≠x:=fun b n z=>by subst z;rw[n]at mu;exact mu
 have hb: ∀b,H b=none->b≠e:=fun b n z=>by
  subst z
  rcases he with r|r
  ·exact hx b n r
  ·rw[n]at r;cases r
 have hm: ∀b u,H b=some u-> ¬Ix (some u)->b≠x:=fun b u q nm z=>by subst z;rw[q]at mu;exact nm mu
 refine⟨fun b u q n _ _=>k b u (hb b n) q,fun b u q n _ _=>⟨u.slots,k b u (hb b n) q⟩,fun b u q n _=>by rw[ak (hx b n)];exact n,fun b u q _=> ?_,
  fun b xs q=>by rw[ak (hm b _ q fun z=>z)];exact q,fun b u xs q=>by rw[ak (hm b _ q fun z=>z)];exact q,fun b ps q=>⟨#[],by rw[ak (hm b _ q fun z=>z),q];simp⟩⟩
 by_cases Co:b=e
 ·subst Co;exact HU
 ·exact⟨u,k b u Co q⟩
end
def Lg(h:Heap)(H:Hp):List Addr:=(List.range h.objs.size).filter fun a=>(H a).isSome
def ph(h:Heap)(H:Hp):Heap:=PySem.W.hideAll h (Lg h H)
theorem xF(h:Heap)(H:Hp):(ph h H).objs.size=h.objs.size:=PySem.W.hideAll_size _ _
theorem Ag{h:Heap}{H:Hp}{b:Addr}{o:Obj}(e:h.get? b=some o)(n:H b=none):(ph h H).get? b=some o:=
 PySem.W.hideAll_get _ e fun hm=>by
  have q:(H b).isSome=true:=(List.mem_filter.mp hm).2
  rw[n]at q;simp at q
theorem Ds{h:Heap}{H:Hp}{b:Addr}{o:Obj}(e:(ph h H).get? b=some o):h.get? b=some o/\H b=none:=by
 have e':h.get? b=some o:=PySem.W.of_hideAll (Lg h H) e
 refine⟨e',?_⟩
 cases q:H b with
 |none=>rfl
 |some x=>
  have hm:b∈Lg h H:=List.mem_filter.mpr ⟨List.mem_range.mpr (Heap.lt_size e'),by simp[q]⟩
  have z:(ph h H).get? b=none:=PySem.W.hideAll_none (Lg h H) hm
  rw[z]at e;cases e
end L2
namespace L2
open PySem PySem.Spec PyProof.Rows
structure Mod(K:PySem.W.Frag)(mg:Str->Option Value)(base:Heap):Prop where
 EV:K.In base
 glob:base.Ns mainGlobals mg
 blt: ∃mb,base.Ns builtinsNs mb/\ ∀x:Str,x≠ "__name__"->mb x=bootBuiltins x
 nolimit:base.NoLimit
structure Cx where
 prog:Program
 w:World
 K:PySem.W.Frag
 mg:Str->Option Value
 base:Heap
 A:Around
 N:List Str
 s₀:Shared
 H₀:Hp
 env:Env
 outer:List Env
 stack:List Env
 ex:List Addr
 fn:Str->Bool
 calm:Bool
 pn:List (Addr×Obj)
 xe:Value->Shared->Prop
def frs(l:List Env):List Addr:=l.filterMap (·.frame)
abbrev Cx.fs(X:Cx):List Addr:=frs X.outer
def KG(sc:Scope)(x:Str):Prop:=sc.names.lookup x=some .local\/sc.names.lookup x=some .cell\/sc.names.lookup x=some .free
def Loc(sc:Scope)(x:Str):Prop:=sc.names.lookup x=some .local\/sc.names.lookup x=some .cell
def Look(env:Env)(h:Heap)(m:Str->Option Value)(x:Str)(u:Value):Prop:=
 (env.kindOf x=some .local/\m x=some u)\/((env.kindOf x=some .cell\/env.kindOf x=some .free)/\ ∃c,env.cells.lookup x=some c/\h.IsCell c (some u))
structure Cx.Ok(X:Cx):Prop where
 mod:Mod X.K X.mg X.base
 kind:X.env.scope.kind= .function
 glob:X.env.globals=mainGlobals
 blt:X.env.builtins=builtinsNs
 above:X.s₀.heap.objs.size<=X.env.locals
 inj: ∀x y c,X.env.cells.lookup x=some c->X.env.cells.lookup y=some c->x=y
 has: ∀x,(X.env.kindOf x=some .cell\/X.env.kindOf x=some .free)-> ∃c,X.env.cells.lookup x=some c
 Fx: ∀x c,X.fn x=true->X.env.cells.lookup x=some c->X.s₀.heap.objs.size<=c
 hd:X.calm=true->X.A.handled=none
 frames:X.A.frames=some X.stack
 stk:X.stack=X.outer\/(X.stack=X.env::X.outer/\X.env.frame=some X.env.locals)
 zf: ∀b∈X.ex,b≠X.env.locals/\ ∀x c,X.env.cells.lookup x=some c->c≠b
 bs: ∀b o,X.base.get? b=some o->X.s₀.heap.get? b=some o/\X.H₀ b=none
 zy:X.base.objs.size<=X.s₀.heap.objs.size
 uG: ∀b o,X.base.get? b=some o->b∉X.ex
 mS: ∀b∈X.ex,b∉X.fs
 iY:X.s₀.heap.FunFrames X.base X.outer
 CN: ∀b∈X.fs,X.H₀ b=none
structure Inv(X:Cx)(pins:List (Addr×Obj))(σ:List (Option V))(H:Hp)(s:Shared):Prop where
 ok:X.Ok
 os:s.os=X.s₀.os
 bare:AllBare s.gens
 base:Un X.fs X.ex X.H₀ H X.s₀.heap s.heap
 loc: ∃m,s.heap.Ns X.env.locals m/\ ∀ (i:Nat) (x:Str) (v:V),X.N[i]? =some x->σ[i]? =some (some v)->KG X.env.scope x-> ∃u,RelV v u/\Look X.env s.heap m x u
 cell: ∀x c,X.env.cells.lookup x=some c-> ∃v,s.heap.IsCell c v
 free:H X.env.locals=none
 cQ: ∀x c,X.env.cells.lookup x=some c->H c=none
 pin: ∀p∈X.pn++pins,s.heap.get? p.1=some p.2/\H p.1=none/\p.1≠X.env.locals/\p.1∉X.fs/\ ∀v,p.2.data≠ .cell v
 hok:fH X.prog X.w H s.heap
 len:σ.length=X.N.length
section
variable{X:Cx}{pins:List (Addr×Obj)}{σ:List (Option V)}{H H':Hp}{s:Shared}{h':Heap}
theorem Cx.Ok.MT(ok:X.Ok){b:Addr}{o:Obj}(e:X.base.get? b=some o):b∉X.fs:=fun hb=>by
 have:=(ok.iY.mem hb).1
 rw[e]at this;cases this
theorem Inv.bs(I:Inv X pins σ H s): ∀b o,X.base.get? b=some o->s.heap.get? b=some o/\H b=none:=fun b o e=>
 ⟨I.base.keep b o (I.ok.bs b o e).1 (I.ok.bs b o e).2 (I.ok.MT e) (I.ok.uG b o e),I.base.free b o (I.ok.bs b o e).1 (I.ok.bs b o e).2 (I.ok.uG b o e)⟩
theorem Inv.bk(I:Inv X pins σ H s): ∀b o,X.base.get? b=some o->s.heap.get? b=some o:=fun b o e=>(I.bs b o e).1
theorem Inv.mod(I:Inv X pins σ H s):Mod X.K X.mg X.base:=I.ok.mod
theorem Inv.fZ(I:Inv X pins σ H s):X.K.In s.heap:=I.ok.mod.EV.keeps I.bk
theorem Inv.lt(I:Inv X pins σ H s):X.env.locals<s.heap.objs.size:=let⟨_,hn,_⟩:=I.loc;hn.lt
theorem Inv.sz(I:Inv X pins σ H s):X.s₀.heap.objs.size<=s.heap.objs.size:=Nat.le_trans I.ok.above (Nat.le_of_lt I.lt)
theorem Inv.MU(I:Inv X pins σ H s){a:Addr}(h:s.heap.objs.size<=a):a∉X.fs:=fun hb=>by
 obtain⟨_,o,ho,_⟩:=I.ok.iY.mem hb
 exact absurd (Nat.lt_of_lt_of_le (Heap.lt_size ho) (Nat.le_trans I.sz h)) (Nat.lt_irrefl _)
theorem Inv.Fy(I:Inv X pins σ H s): ∀x c,X.env.cells.lookup x=some c->c≠X.env.locals:=fun x c e z=>by
 obtain⟨v,o,ho,hd⟩:=I.cell x c e
 obtain⟨m,⟨o',es,ep,ho',hd',_⟩,_⟩:=I.loc
 rw[z,ho']at ho;cases ho;rw[hd']at hd;cases hd
theorem Inv.iY(I:Inv X pins σ H s):s.heap.FunFrames X.base X.outer:=by
 have all: ∀ (l:List Env),(∀b∈frs l,b∈X.fs)->X.s₀.heap.FunFrames X.base l->s.heap.FunFrames X.base l:=by
  intro l
  induction l with
  |nil=>intro _ _;trivial
  |cons env r ih=>
   intro hs hl
   obtain⟨hk,⟨L,o,hf,hn,ho,hd⟩,hr⟩:=hl
   have hL:L∈X.fs:=hs L (by unfold frs;rw[List.filterMap_cons,hf];exact List.mem_cons_self)
   obtain⟨sl,e⟩:=I.base.slot L o ho (I.ok.CN L hL) hL fun z=>I.ok.mS L z hL
   exact⟨hk,⟨L,_,hf,hn,e,hd⟩,ih (fun b hb=>hs b (by unfold frs;rw[List.filterMap_cons,hf];exact List.mem_cons_of_mem _ hb)) hr⟩
 exact all X.outer (fun _ hb=>hb) I.ok.iY
theorem Inv.stack(I:Inv X pins σ H s):s.heap.FunFrames X.base X.stack:=by
 rcases I.ok.stk with e|⟨e,hf⟩
 ·rw[e];exact I.iY
 ·rw[e]
  obtain⟨m,hn,_⟩:=I.loc
  refine .cons (by rw[I.ok.kind];decide) hf hn ?_ I.iY
  exact Heap.get?_none_of_le (Nat.le_trans I.ok.zy I.ok.above)
theorem Inv.qm(I:Inv X pins σ H s): ∀b∈frs X.stack,b∈X.env.locals::X.fs:=fun b hb=>by
 rcases I.ok.stk with e|⟨e,hf⟩
 ·rw[e]at hb;exact List.mem_cons_of_mem _ hb
 ·rw[e]at hb
  unfold frs at hb
  rw[List.filterMap_cons,hf]at hb
  exact hb
theorem Inv.wW(I:Inv X pins σ H s): ∀b∈frs X.stack,H b=none:=fun b hb=>by
 rcases List.mem_cons.mp (I.qm b hb)with e|hb
 ·rw[e];exact I.free
 ·obtain⟨_,o,ho,_⟩:=I.ok.iY.mem hb
  exact I.base.free b o ho (I.ok.CN b hb) fun z=>I.ok.mS b z hb
theorem Inv.step{g':Array GenState}{t':Nat}{d':Drawn}{ch:List Addr}(I:Inv X pins σ H s)
  (hch: ∀b∈ch,(b∈X.ex\/X.s₀.heap.objs.size<=b)/\b≠X.env.locals/\(∀x c,X.env.cells.lookup x=some c->c≠b)/\ ∀p∈X.pn++pins,p.1≠b)
  (keep: ∀b o,b≠X.env.locals->b∉X.fs->b∉ch->s.heap.get? b=some o->H b=none->h'.get? b=some o)
  (slot: ∀b o,b≠X.env.locals->b∈X.fs->b∉ch->s.heap.get? b=some o->H b=none-> ∃sl,h'.get? b=some {o with slots:=sl})(free: ∀b o,b∉ch->s.heap.get? b=some o->H b=none->H' b=none)
  (there: ∀b o,b∉ch->s.heap.get? b=some o-> ∃o',h'.get? b=some o')
  (tups: ∀b xs,H b=some (.tup xs)->H' b=some (.tup xs))(ik: ∀b o u,H b=some (.fY o u)->H' b=some (.fY o u))(jS: ∀b ps,H b=some (.Ek ps)-> ∃more,H' b=some (.Ek (ps++more)))
  (ns: ∀m,s.heap.Ns X.env.locals m->h'.Ns X.env.locals m)(hok:fH X.prog X.w H' h')(hg:AllBare g'):
  Inv X pins σ H' {s with heap:=h',gens:=g',drawn:=d',toks:=t'}:=by
 have Oz: ∀b o,X.s₀.heap.get? b=some o->b≠X.env.locals:=fun b o e=>Nat.ne_of_lt (Nat.lt_of_lt_of_le (Heap.lt_size e) I.ok.above)
 have K0: ∀b o,X.s₀.heap.get? b=some o->b∉X.ex->b∉ch:=fun b o e hx hb=>by
  rcases(hch b hb).1 with z|z
  ·exact hx z
  ·exact absurd (Nat.lt_of_lt_of_le (Heap.lt_size e) z) (Nat.lt_irrefl _)
 have cellK: ∀x c,X.env.cells.lookup x=some c-> ∀v,s.heap.IsCell c v->h'.IsCell c v:=fun x c e v ⟨o,ho,hd⟩=>by
  have JJ:c∉ch:=fun z=>(hch c z).2.2.1 x c e rfl
  by_cases hc:c∈X.fs
  ·obtain⟨sl,q⟩:=slot c o (I.Fy x c e) hc JJ ho (I.cQ x c e)
   exact⟨_,q,hd⟩
  ·exact⟨o,keep c o (I.Fy x c e) hc JJ ho (I.cQ x c e),hd⟩
 refine⟨I.ok,I.os,hg,⟨fun b o e n hb hx=> ?_,fun b o e n hb hx=> ?_,fun b o e n hx=> ?_,fun b o e hx=> ?_,fun b xs e=>tups b xs (I.base.tups b xs e),fun b o xs e=>ik b o xs (I.base.ik b o xs e),fun b ps e=> ?_⟩,?_,fun x c e=> ?_,?_,fun x c e=> ?_,fun p hp=> ?_,hok,I.len⟩
 ·exact keep b o (Oz b o e) hb (K0 b o e hx) (I.base.keep b o e n hb hx) (I.base.free b o e n hx)
 ·obtain⟨sl,e1⟩:=I.base.slot b o e n hb hx
  obtain⟨Se,e2⟩:=slot b _ (Oz b o e) hb (K0 b o e hx) e1 (I.base.free b o e n hx)
  exact⟨Se,e2⟩
 ·obtain⟨o',e1⟩:=I.base.there b o e hx
  exact free b o' (K0 b o e hx) e1 (I.base.free b o e n hx)
 ·obtain⟨o',e1⟩:=I.base.there b o e hx
  exact there b o' (K0 b o e hx) e1
 ·obtain⟨m1,e1⟩:=I.base.jS b ps e
  obtain⟨m2,e2⟩:=jS b _ e1
  exact⟨m1++m2,by rw[e2,Array.append_assoc]⟩
 ·obtain⟨m,hn,hl⟩:=I.loc
  refine⟨m,ns m hn,fun i x v e1 e2 e3=> ?_⟩
  obtain⟨u,r,l⟩:=hl i x v e1 e2 e3
  refine⟨u,r,?_⟩
  rcases l with l|⟨k,c,e,z⟩
  ·exact .inl l
  ·exact .inr ⟨k,c,e,cellK x c e _ z⟩
 ·obtain⟨v,z⟩:=I.cell x c e
  exact⟨v,cellK x c e v z⟩
 ·obtain⟨m,⟨o,_,_,ho,_⟩,_⟩:=I.loc
  exact free _ o (fun z=>(hch _ z).2.1 rfl) ho I.free
 ·obtain⟨v,o,ho,hd⟩:=I.cell x c e
  exact free c o (fun z=>(hch c z).2.2.1 x c e rfl) ho (I.cQ x c e)
 ·obtain⟨e,n,ne,nf,d⟩:=I.pin p hp
  have JJ:p.1∉ch:=fun z=>(hch p.1 z).2.2.2 p hp rfl
  exact⟨keep p.1 p.2 ne nf JJ e n,free p.1 p.2 JJ e n,ne,nf,d⟩
theorem Inv.un{t':Nat}(I:Inv X pins σ H s)(u:Un X.fs [] H H' s.heap h')(hok:fH X.prog X.w H' h'):Inv X pins σ H' {s with heap:=h',toks:=t'}:=by
 obtain⟨m,⟨o,es,ep,ho,r⟩,_⟩:=id I.loc
 obtain⟨sl,hL⟩:=u.any ho I.free (by simp)
 exact I.step (g':=s.gens) (d':=s.drawn) (ch:= []) (fun _ z=>nomatch z) (fun b o _ hb _ e n=>u.keep b o e n hb (by simp)) (fun b o _ hb _ e n=>u.slot b o e n hb (by simp)) (fun b o _ e n=>u.free b o e n (by simp)) (fun b o _ e=>u.there b o e (by simp)) u.tups u.ik u.jS (fun m' hm=>by
  obtain⟨o',es',EG,ho',r'⟩:=hm
  rw[ho]at ho';cases ho'
  exact⟨_,es',EG,hL,r'⟩) hok I.bare
theorem Inv.call{g':Array GenState}{t':Nat}{d':Drawn}{ch:List Addr}(I:Inv X pins σ H s)(u:Un (frs X.stack) ch H H' s.heap h')(hok:fH X.prog X.w H' h')(hg:AllBare g')
  (hch: ∀b∈ch,(b∈X.ex\/X.s₀.heap.objs.size<=b)/\b≠X.env.locals/\(∀x c,X.env.cells.lookup x=some c->c≠b)/\ ∀p∈X.pn++pins,p.1≠b):
  Inv X pins σ H' {s with heap:=h',gens:=g',drawn:=d',toks:=t'}:=by
 obtain⟨m,⟨o,es,ep,ho,r⟩,_⟩:=id I.loc
 obtain⟨sl,hL⟩:=u.any ho I.free fun z=>(hch _ z).2.1 rfl
 exact I.step (ch:=ch) hch (fun b o hL hb hc e n=>u.keep b o e n (fun z=>(List.mem_cons.mp (I.qm b z)).elim hL hb) hc) (fun b o _ _ hc e n=>u.any e n hc) (fun b o hc e n=>u.free b o e n hc) (fun b o hc e=>u.there b o e hc) u.tups u.ik u.jS (fun m' hm=>by
  obtain⟨o',es',EG,ho',r'⟩:=hm
  rw[ho]at ho';cases ho'
  exact⟨_,es',EG,hL,r'⟩) hok hg
theorem Inv.turned{t':Nat}{it:Addr}(I:Inv X pins σ H s)(k: ∀b o,b≠it->s.heap.get? b=some o->h'.get? b=some o)(hn:H it=none)(hL:it≠X.env.locals)
  (h1:it∈X.ex\/X.s₀.heap.objs.size<=it)(h2: ∀x c,X.env.cells.lookup x=some c->c≠it)(h3: ∀p∈X.pn++pins,p.1≠it):Inv X pins σ H {s with heap:=h',toks:=t'}:=by
 have OA: ∀b u,H b=some u->b≠it:=fun b u e z=>by rw[z,hn]at e;cases e
 refine I.step (g':=s.gens) (d':=s.drawn) (ch:= [it]) (fun b hb=> ?_) (fun b o _ _ hc e _=>k b o (fun z=>hc (by simp[z])) e) (fun b o _ _ hc e _=>⟨o.slots,k b o (fun z=>hc (by simp[z])) e⟩) (fun _ _ _ _ n=>n)
  (fun b o hc e=>⟨o,k b o (fun z=>hc (by simp[z])) e⟩) (fun _ _ e=>e) (fun _ _ _ e=>e) (fun b ps e=>⟨#[],by rw[e];simp⟩) (fun m hm=> ?_) (fun b u e=> ?_) I.bare
 ·have e:b=it:=by simpa using hb
  subst e
  exact⟨h1,hL,h2,h3⟩
 ·obtain⟨o,es,ep,ho,r⟩:=hm
  exact⟨o,es,ep,k _ o (Ne.symm hL) ho,r⟩
 ·refine(I.hok b u e).stay (fun c v hc q=>k c v ?_ q) (fun _ q=>q) fun _ _ q=>q
  rcases hc with z|z
  ·rw[z];exact OA b u e
  ·exact OA c _ z
theorem Inv.tok(I:Inv X pins σ H s)(t:Nat):Inv X pins σ H {s with toks:=t}:=I.un (h':=s.heap) (t':=t) Un.refl I.hok
theorem Inv.kept{t':Nat}(I:Inv X pins σ H s)(k: ∀b u,s.heap.get? b=some u->h'.get? b=some u):Inv X pins σ H {s with heap:=h',toks:=t'}:=I.un (Un.kept k) (I.hok.kept k)
theorem Inv.laid{a:Addr}{o:HO}{t':Nat}(I:Inv X pins σ H s)(k: ∀b u,s.heap.get? b=some u->h'.get? b=some u)(hp:s.heap.objs.size<=a)(new:bw X.prog X.w (upd H a o) h' a o):
  Inv X pins σ (upd H a o) {s with heap:=h',toks:=t'}:=I.un (Un.laid k hp (I.hok.fresh hp)) (I.hok.laid k hp new)
theorem Inv.write{x e:Addr}{o:HO}{t':Nat}(I:Inv X pins σ H s)(mu:Ix (H x))(he:e=x\/H e=some (.own x))(k: ∀b u,b≠e->s.heap.get? b=some u->h'.get? b=some u)(HU: ∃u,h'.get? e=some u)
  (new:bw X.prog X.w (upd H x o) h' x o):Inv X pins σ (upd H x o) {s with heap:=h',toks:=t'}:=I.un (Un.write mu he k HU) (I.hok.write mu he k HU new)
theorem Inv.weak{σ':List (Option V)}(I:Inv X pins σ H s)(hl:σ'.length=σ.length)(w: ∀ (i:Nat) v,σ'[i]? =some (some v)->σ[i]? =some (some v)):Inv X pins σ' H s:=
 ⟨I.ok,I.os,I.bare,I.base,let⟨m,hn,hl'⟩:=I.loc;⟨m,hn,fun i x v e1 e2 e3=>hl' i x v e1 (w i v e2) e3⟩,I.cell,I.free,I.cQ,I.pin,I.hok,hl.trans I.len⟩
theorem Inv.du{j6:List (Addr×Obj)}(I:Inv X pins σ H s)(h: ∀p∈j6,s.heap.get? p.1=some p.2/\H p.1=none/\p.1≠X.env.locals/\p.1∉X.fs/\ ∀v,p.2.data≠ .cell v):Inv X j6 σ H s:=
 ⟨I.ok,I.os,I.bare,I.base,I.loc,I.cell,I.free,I.cQ,fun p hp=>(List.mem_append.mp hp).elim (fun z=>I.pin p (List.mem_append_left _ z)) (h p),I.hok,I.len⟩
theorem rR{N:List Str}(hN:N.Nodup){i j:Nat}{x:Str}(a:N[i]? =some x)(b:N[j]? =some x):i=j:=by
 obtain⟨h1,e1⟩:=List.getElem?_eq_some_iff.mp a
 obtain⟨h2,e2⟩:=List.getElem?_eq_some_iff.mp b
 exact(List.getElem_inj hN).mp (e1.trans e2.symm)
theorem oG{M:Model}{A:Around}{E:Value->Shared->Prop}{i:Nat}{x:Str}{v:V}{u:Value}{Q:Unit->Shared->Prop}(I:Inv X pins σ H s)(hN:X.N.Nodup)(hi:X.N[i]? =some x)(hx:Loc X.env.scope x)(r:RelV v u)
  (h: ∀s',Inv X pins (σ.set i (some v)) H s'->(∃a,Heap.SameBut a s.heap s'.heap/\(a=X.env.locals\/X.env.cells.lookup x=some a))->Q () s')(hf:X.fn x=true\/X.env.scope.names.lookup x=some .local:=by first|exact .inl rfl|exact .inr rfl|assumption):wpAny M A (storeName X.env x u) Q E s:=by
 obtain⟨m,hn,hl⟩:=id I.loc
 have hcls:(X.env.scope.kind== .class||(X.env.scope.kind== .module&&X.env.locals !=X.env.globals))=false:=by rw[I.ok.kind];rfl
 have Ji:i<σ.length:=by rw[I.len];exact(List.getElem?_eq_some_iff.mp hi).1
 have Fy:=I.Fy
 have tracked: ∀ {a:Addr} {h':Heap},(∃o,s.heap.get? a=some o/\H a=none)->Heap.SameBut a s.heap h'->fH X.prog X.w H h':=fun{a h'} ha hs b ob e=>by
  obtain⟨_,_,hfree⟩:=ha
  refine(I.hok b ob e).stay (fun c w' hc q=>(hs.2 c ?_).trans q) (fun _ q=>q) fun _ _ q=>q
  rintro rfl
  rcases hc with rfl|hc
  ·rw[hfree]at e;cases e
  ·rw[hfree]at hc;cases hc
 rcases hx with hk|hk
 ·refine wpAny_storeName_local hk hn (fun h' hn' hs=> ?_) hcls
  obtain⟨oL,_,_,QX,_⟩:=id hn
  refine h _ ⟨I.ok,I.os,I.bare,⟨fun b o e n hb hx=> ?_,fun b o e n hb hx=> ?_,I.base.free,fun b o e hx=> ?_,I.base.tups,I.base.ik,I.base.jS⟩,⟨_,hn',fun j y v' e1 e2 e3=> ?_⟩,fun y c e=> ?_,I.free,I.cQ,fun p hp=> ?_,tracked ⟨oL,QX,I.free⟩ hs,by simpa using I.len⟩ ⟨_,hs,.inl rfl⟩
  ·exact(hs.2 b (Nat.ne_of_lt (Nat.lt_of_lt_of_le (Heap.lt_size e) I.ok.above))).trans (I.base.keep b o e n hb hx)
  ·obtain⟨sl,e1⟩:=I.base.slot b o e n hb hx
   exact⟨sl,(hs.2 b (Nat.ne_of_lt (Nat.lt_of_lt_of_le (Heap.lt_size e) I.ok.above))).trans e1⟩
  ·obtain⟨o',e1⟩:=I.base.there b o e hx
   exact⟨o',(hs.2 b (Nat.ne_of_lt (Nat.lt_of_lt_of_le (Heap.lt_size e) I.ok.above))).trans e1⟩
  ·by_cases hj:j=i
   ·subst hj
    rw[hi]at e1;cases e1
    rw[List.getElem?_set_self Ji]at e2
    cases e2
    exact⟨u,r,.inl ⟨hk,by simp⟩⟩
   ·rw[List.getElem?_set_ne (Ne.symm hj)]at e2
    obtain⟨u',r',q⟩:=hl j y v' e1 e2 e3
    refine⟨u',r',?_⟩
    rcases q with⟨k,e⟩|⟨k,c,e,z⟩
    ·refine .inl ⟨k,?_⟩
     have:y≠x:=fun e=>hj (rR hN e1 (e▸hi))
     simp[this,e]
    ·exact .inr ⟨k,c,e,z.sameBut hs (Fy y c e)⟩
  ·obtain⟨w',z⟩:=I.cell y c e
   exact⟨w',z.sameBut hs (Fy y c e)⟩
  ·obtain⟨e,n,ne,nf,d⟩:=I.pin p hp
   exact⟨(hs.2 p.1 ne).trans e,n,ne,nf,d⟩
 ·have hfn:X.fn x=true:=by
   rcases hf with z|z
   ·exact z
   ·rw[z]at hk;cases hk
  obtain⟨c,hc⟩:=I.ok.has x (.inl hk)
  obtain⟨w',z⟩:=I.cell x c hc
  refine wpAny_storeName_cell I.ok.kind hk hc z (fun h' hc' hs=> ?_)
  obtain⟨oc,hoc,L8⟩:=id z
  refine h {s with heap:=h'} ⟨I.ok,I.os,I.bare,⟨fun b o e n hb hx=> ?_,fun b o e n hb hx=> ?_,I.base.free,fun b o e hx=> ?_,I.base.tups,I.base.ik,I.base.jS⟩,⟨m,hn.sameBut hs (Ne.symm (Fy x c hc)),fun j y v' e1 e2 e3=> ?_⟩,fun y c' e=> ?_,I.free,I.cQ,fun p hp=> ?_,tracked ⟨oc,hoc,I.cQ x c hc⟩ hs,by simpa using I.len⟩ ⟨c,hs,.inr hc⟩
  ·exact(hs.2 b (Nat.ne_of_lt (Nat.lt_of_lt_of_le (Heap.lt_size e) (I.ok.Fx x c hfn hc)))).trans (I.base.keep b o e n hb hx)
  ·obtain⟨sl,e1⟩:=I.base.slot b o e n hb hx
   exact⟨sl,(hs.2 b (Nat.ne_of_lt (Nat.lt_of_lt_of_le (Heap.lt_size e) (I.ok.Fx x c hfn hc)))).trans e1⟩
  ·obtain⟨o',e1⟩:=I.base.there b o e hx
   exact⟨o',(hs.2 b (Nat.ne_of_lt (Nat.lt_of_lt_of_le (Heap.lt_size e) (I.ok.Fx x c hfn hc)))).trans e1⟩
  ·by_cases hj:j=i
   ·subst hj
    rw[hi]at e1;cases e1
    rw[List.getElem?_set_self Ji]at e2
    cases e2
    exact⟨u,r,.inr ⟨.inl hk,c,hc,hc'⟩⟩
   ·rw[List.getElem?_set_ne (Ne.symm hj)]at e2
    obtain⟨u',r',q⟩:=hl j y v' e1 e2 e3
    refine⟨u',r',?_⟩
    rcases q with q|⟨k,c',e,z'⟩
    ·exact .inl q
    ·refine .inr ⟨k,c',e,z'.sameBut hs ?_⟩
     rintro rfl
     exact hj (rR hN e1 (I.ok.inj _ _ _ e hc▸hi))
  ·by_cases hcc:c'=c
   ·subst hcc;exact⟨_,hc'⟩
   ·obtain⟨w2,z2⟩:=I.cell y c' e
    exact⟨w2,z2.sameBut hs hcc⟩
  ·obtain⟨e,n,ne,nf,d⟩:=I.pin p hp
   refine⟨(hs.2 p.1 ?_).trans e,n,ne,nf,d⟩
   intro q
   rw[q,hoc]at e
   have q':oc=p.2:=Option.some.inj e
   exact d w' (by rw[<-q'];exact L8)
theorem mE{M:Model}{A:Around}{E:Value->Shared->Prop}{i:Nat}{x:Str}{v:V}{u:Value}{Q:Unit->Shared->Prop}(I:Inv X pins σ H s)(hN:X.N.Nodup)(hi:X.N[i]? =some x)(hx:Loc X.env.scope x)(r:RelV v u)
  (h: ∀s',Inv X pins (σ.set i (some v)) H s'->Q () s')(hf:X.fn x=true\/X.env.scope.names.lookup x=some .local:=by first|exact .inl rfl|exact .inr rfl|assumption):wpAny M A (storeName X.env x u) Q E s:=
 oG I hN hi hx r (fun s' I' _=>h s' I') hf
theorem Inv.EC{s':Shared}{ch:List Addr}(I:Inv X pins σ H s)(ho:s'.os=s.os)(u:Un (frs X.stack) ch H H' s.heap s'.heap)(hok:fH X.prog X.w H' s'.heap)(hg:AllBare s'.gens)
  (hch: ∀b∈ch,(b∈X.ex\/X.s₀.heap.objs.size<=b)/\b≠X.env.locals/\(∀x c,X.env.cells.lookup x=some c->c≠b)/\ ∀p∈X.pn++pins,p.1≠b):Inv X pins σ H' s':=by
 obtain⟨h',g',d',t',o'⟩:=s'
 have e:o'=s.os:=ho
 subst e
 exact I.call (g':=g') (t':=t') (d':=d') u hok hg hch
end
abbrev XK:=Value->Option Addr->Hp->Prop
abbrev St:=List (Option V)
abbrev VK:=V->Hp->Prop
abbrev TE:=St->Hp->VK->Prop
abbrev TT:=St->Hp->(Bool->Hp->Prop)->Prop
abbrev TA:=St->Hp->(List V->Hp->Prop)->Prop
structure Ends where
 nx:St->Hp->Prop
 rt:VK
 bk:St->Hp->Prop:=fun _ _=>False
 ct:St->Hp->Prop:=fun _ _=>False
abbrev TS:=Ends->St->Hp->Prop
inductive EP(X:Cx)(pins:List (Addr×Obj))(σ:St)(Q:VK)(u:Value)(s':Shared):Prop
 |mk (v H':_) (_:Inv X pins σ H' s') (_:RelV v u) (_:Q v H')
inductive TP(X:Cx)(pins:List (Addr×Obj))(σ:St)(Q:Bool->Hp->Prop)(b:Bool)(s':Shared):Prop
 |mk (H':_) (_:Inv X pins σ H' s') (_:Q b H')
inductive AP(X:Cx)(pins:List (Addr×Obj))(σ:St)(Q:List V->Hp->Prop)(us:List Value)(s':Shared):Prop
 |mk (vs H':_) (_:Inv X pins σ H' s') (_:Vals vs us) (_:Q vs H')
def SP(X:Cx)(pins:List (Addr×Obj))(D:Ends)(f:Flow)(s':Shared):Prop:=
 match f with
 | .next=> ∃σ' H',Inv X pins σ' H' s'/\D.nx σ' H'
 | .brk=> ∃σ' H',Inv X pins σ' H' s'/\D.bk σ' H'
 | .cont=> ∃σ' H',Inv X pins σ' H' s'/\D.ct σ' H'
 | .ret u=> ∃v σ' H',Inv X pins σ' H' s'/\RelV v u/\D.rt v H'
def PE(X:Cx)(e:Expr)(t:TE):Prop:=
 ∀ (pins:List (Addr×Obj)) (s:Shared) (σ:St) (H:Hp) (Q:VK),Inv X pins σ H s->t σ H Q->wpAny (model X.prog X.w) X.A (eval e X.env) (EP X pins σ Q) X.xe s
def PT(X:Cx)(e:Expr)(t:TT):Prop:=
 ∀ (pins:List (Addr×Obj)) (s:Shared) (σ:St) (H:Hp) (Q:Bool->Hp->Prop),Inv X pins σ H s->t σ H Q->wpAny (model X.prog X.w) X.A (isTrue e X.env (eval e X.env)) (TP X pins σ Q) X.xe s
def PW(X:Cx)(e:Expr)(t:TT):Prop:=
 ∀ (whole:Sem Value) (pins:List (Addr×Obj)) (s:Shared) (σ:St) (H:Hp) (Q:Bool->Hp->Prop),Inv X pins σ H s->t σ H Q->wpAny (model X.prog X.w) X.A (isTrue e X.env whole) (TP X pins σ Q) X.xe s
theorem PW.pt{X:Cx}{e:Expr}{t:TT}(h:PW X e t):PT X e t:=h _
def PA(X:Cx)(es:List Expr)(t:TA):Prop:=
 ∀ (pos:Pos) (pins:List (Addr×Obj)) (s:Shared) (σ:St) (H:Hp) (Q:List V->Hp->Prop),Inv X pins σ H s->t σ H Q->wpAny (model X.prog X.w) X.A (spliced (backTo pos (starEach es X.env))) (AP X pins σ Q) X.xe s
def PS(X:Cx)(st:Stmt)(t:TS):Prop:=
 ∀ (pins:List (Addr×Obj)) (s:Shared) (σ:St) (H:Hp) (D:Ends),Inv X pins σ H s->t D σ H->wpAny (model X.prog X.w) X.A (exec st X.env) (SP X pins D) X.xe s
def vF(X:Cx)(st:List Stmt)(t:TS):Prop:=
 ∀ (pins:List (Addr×Obj)) (s:Shared) (σ:St) (H:Hp) (D:Ends),Inv X pins σ H s->t D σ H->wpAny (model X.prog X.w) X.A (execs st X.env) (SP X pins D) X.xe s
theorem aL{α:Type}{t:Sem α}{Q Q':α->Shared->Prop}{M:Model}{A:Around}{E:Value->Shared->Prop}{s:Shared}(h:wpAny M A t Q E s)(hQ: ∀a s,Q a s->Q' a s):wpAny M A t Q' E s:=wpAny_mono h hQ fun _ _ x=>x
end L2
namespace L2
open PySem PySem.Spec PyProof.Rows
section
variable{X:Cx}
inductive cu(i:Nat)(σ:St)(H:Hp)(Q:VK):Prop
 |mk (v:_) (_:σ[i]? =some (some v)) (_:Q v H)
def tC(v:V):TE:=fun _ H Q=>Q v H
theorem GL{i:Nat}{x:Str}{pos:Pos}(hN:X.N[i]? =some x)(hv:KG X.env.scope x)(hd:(x==("__debug__":Str))=false:=by decide)(hcd:(x==("__classdict__":Str))=false:=by decide):PE X (.Name x pos) (cu i):=by
 intro pins s σ H Q I h
 obtain⟨v,e,h⟩:=h
 obtain⟨m,hn,hl⟩:=I.loc
 obtain⟨u,r,l⟩:=hl i x v hN e hv
 have fin:EP X pins σ Q u s:=⟨v,H,I,r,h⟩
 rcases l with⟨hk,hm⟩|⟨hk,c,hc,hcell⟩
 ·exact wpAny_Name (wpAny_loadName_local I.ok.kind hk hn hm fin) hd
 ·rcases hk with hk|hk
  ·exact wpAny_Name (wpAny_loadName_cell I.ok.kind hk hc hcell fin) hd
  ·exact wpAny_Name (wpAny_loadName_free I.ok.kind hk hc hcell fin hcd) hd
theorem au{i j pos}:PE X (.Constant (.int i) j pos) (tC (.int i)):=fun _ _ _ H _ I h=>wpAny_Constant_int ⟨.int i,H,I.tok _,⟨_,rfl⟩,h⟩
theorem fV{b j pos}:PE X (.Constant (.bool b) j pos) (tC (.bl b)):=fun _ _ _ H _ I h=>Constant_bool ⟨.bl b,H,I,rfl,h⟩
theorem jL{j pos}:PE X (.Constant .none j pos) (tC .aH):=fun _ _ _ H _ I h=>Constant_none ⟨.aH,H,I,rfl,h⟩
theorem bB{x j pos}:PE X (.Constant (.str x) j pos) (tC (.str x)):=fun _ _ _ H _ I h=>Calls.Constant_str ⟨.str x,H,I.tok _,⟨_,rfl⟩,h⟩
def Gl(X:Cx)(x:Str):Prop:=X.env.kindOf x=some .globalImplicit
theorem i7{E:Value->Shared->Prop}{pins:List (Addr×Obj)}{s:Shared}{σ:St}{H:Hp}{x:Str}{u:Value}{pos:Pos}{Q:Value->Shared->Prop}(I:Inv X pins σ H s)(hg:Gl X x)(hm:X.mg x=some u)(h:Q u s)
  (hd:(x==("__debug__":Str))=false:=by decide):wpAny (model X.prog X.w) X.A (eval (.Name x pos) X.env) Q E s:=
 Calls.Name_function_global I.ok.kind hg (Calls.loadGlobal_global (by rw[I.ok.glob];exact I.mod.glob.keeps I.bk) hm h) hd
theorem gn{E:Value->Shared->Prop}{pins:List (Addr×Obj)}{s:Shared}{σ:St}{H:Hp}{x:Str}{u:Value}{pos:Pos}{Q:Value->Shared->Prop}(I:Inv X pins σ H s)(hg:Gl X x)(hm:X.mg x=none)(hv:bootBuiltins x=some u)(h:Q u s)
  (hn:x≠ "__name__":=by decide)(hd:(x==("__debug__":Str))=false:=by decide):wpAny (model X.prog X.w) X.A (eval (.Name x pos) X.env) Q E s:=by
 obtain⟨mb,h1,h2⟩:=I.mod.blt
 exact Calls.Name_function_global I.ok.kind hg (Calls.loadGlobal_builtin (by rw[I.ok.glob];exact I.mod.glob.keeps I.bk) hm (by rw[I.ok.blt];exact h1.keeps I.bk) ((h2 x hn).trans hv) h) hd
theorem cc{x:Str}{v:V}{u:Value}{pos:Pos}(hg:Gl X x)(hm:X.mg x=some u)(r:RelV v u)(hd:(x==("__debug__":Str))=false:=by decide):PE X (.Name x pos) (tC v):=
 fun _ _ _ H _ I h=>i7 I hg hm ⟨v,H,I,r,h⟩ hd
theorem cM{x:Str}{v:V}{u:Value}{pos:Pos}(hg:Gl X x)(hm:X.mg x=none)(hv:bootBuiltins x=some u)(r:RelV v u)(hn:x≠ "__name__":=by decide)(hd:(x==("__debug__":Str))=false:=by decide):PE X (.Name x pos) (tC v):=
 fun _ _ _ H _ I h=>gn I hg hm hv ⟨v,H,I,r,h⟩ hn hd
variable{a b:Expr}{ta tb:TE}{pos:Pos}
def PC(X:Cx)(op:CmpOp)(a b:Expr)(t:TE):Prop:=
 ∀ (pins:List (Addr×Obj)) (s:Shared) (σ:St) (H:Hp) (Q:VK),Inv X pins σ H s->t σ H Q->
  wpAny (model X.prog X.w) X.A (eval a X.env) (fun v s₁=>wpAny (model X.prog X.w) X.A (eval b X.env) (fun u s₂=>wpAny (model X.prog X.w) X.A (compareOp op v u) (EP X pins σ Q) X.xe s₂) X.xe s₁) X.xe s
theorem rQ(b:Expr){op:CmpOp}(h:op≠ .In)(h2:op≠ .NotIn):behindInMarks op b=false:=by
 have e1:(op==CmpOp.In)=false:=by cases op<;>first|rfl|exact absurd rfl h
 have e2:(op==CmpOp.NotIn)=false:=by cases op<;>first|rfl|exact absurd rfl h2
 cases b<;>simp[behindInMarks,e1,e2]
def Nr(ta:TE):TE:=fun σ H Q=>ta σ H fun x H1=>Q (.bl (decide (x= .aH))) H1
def Kt(ta:TE):TE:=fun σ H Q=>ta σ H fun x H1=>Q (.bl (!decide (x= .aH))) H1
theorem RelV.rS{x:V}{v:Value}(r:RelV x v):(v==Value.none)=decide (x= .aH):=by
 cases x with
 |aH=>cases r;rfl
 |bl _=>cases r;rfl
 |int _=>obtain⟨t,rfl⟩:=r;rfl
 |str _=>obtain⟨t,rfl⟩:=r;rfl
 |tu _=>obtain⟨t,rfl⟩:=r;rfl
 |CK _=>obtain⟨t,rfl⟩:=r;rfl
 |ref _=>cases r;rfl
 |ty _=>cases r;rfl
theorem ir{j pos'}(ha:PE X a ta):PC X .Is a (.Constant .none j pos') (Nr ta):=by
 intro pins s σ H Q I h
 refine aL (ha pins s σ H _ I h) fun v s1 ⟨x,H1,I1,r1,q1⟩=> ?_
 exact Constant_none (is_none_gen ⟨.bl _,H1,I1,by rw[r1.rS];rfl,q1⟩)
theorem DM{j pos'}(ha:PE X a ta):PC X .IsNot a (.Constant .none j pos') (Kt ta):=by
 intro pins s σ H Q I h
 refine aL (ha pins s σ H _ I h) fun v s1 ⟨x,H1,I1,r1,q1⟩=> ?_
 exact Constant_none (isnot_none_gen ⟨.bl _,H1,I1,by rw[r1.rS];rfl,q1⟩)
inductive JX(Q:Bool->Hp->Prop)(x:V)(H:Hp):Prop
 |mk (c:_) (_:x= .bl c) (_:Q c H)
def tB(t:TE):TT:=fun σ H Q=>t σ H (JX Q)
theorem pO{op:CmpOp}{t:TE}(h:PC X op a b t)(h1:behindInMarks op b=false:=by first|exact rQ _ (by decide) (by decide)|rfl):PE X (.Compare a [op] [b] pos) t:=fun pins s σ H Q I hw=>wpAny_Compare1 (h pins s σ H Q I hw) h1
theorem jM{op:CmpOp}{t:TE}(h:PC X op a b t)(h1:behindInMarks op b=false:=by first|exact rQ _ (by decide) (by decide)|rfl):PT X (.Compare a [op] [b] pos) (tB t):=by
 intro pins s σ H Q I hw
 refine wpAny_isTrue_Compare1 (aL (h pins s σ H _ I hw) fun v s1 h1=>aL h1 fun u s2 h2=>aL h2 fun c s3 ⟨x,H1,I1,r1,q1⟩=> ?_) h1
 obtain⟨d,rfl,q⟩:=q1
 cases r1
 exact wpAny_truthy_bool ⟨H1,I1,q⟩
theorem cp{e:Expr}{t:TE}(h:PE X e t)(he: ∀whole,isTrue e X.env whole=(do let v<-whole;standAt e.pos;holding [v] (truthy v)):=by intro _;rfl):PT X e (tB t):=by
 intro pins s σ H Q I hw
 refine isTrue_plain (aL (h pins s σ H _ I hw) fun v s1 ⟨x,H1,I1,r1,q1⟩=> ?_) (he _)
 obtain⟨d,rfl,q⟩:=q1
 cases r1
 exact wpAny_truthy_bool ⟨H1,I1,q⟩
variable{tA Lf:TT}{rest:List Expr}
def Km(t u:TT):TT:=fun σ H Q=>t σ H fun c H1=>if c=true then u σ H1 Q else Q false H1
def O7(t u:TT):TT:=fun σ H Q=>t σ H fun c H1=>if c=true then Q true H1 else u σ H1 Q
def Nt(t:TT):TT:=fun σ H Q=>t σ H fun c H1=>Q (!c) H1
theorem pS(ha:PT X a tA):PW X (.BoolOp .And [a] pos) tA:=by
 intro wh pins s σ H Q I h
 refine isTrue_and (aL (ha pins s σ H Q I h) fun c s1 e=> ?_)
 cases c with
 |true=>exact isTrue_and_nil e
 |false=>exact e
theorem gz(ha:PT X a tA):PW X (.BoolOp .Or [a] pos) tA:=by
 intro wh pins s σ H Q I h
 refine isTrue_or (aL (ha pins s σ H Q I h) fun c s1 e=> ?_)
 cases c with
 |false=>exact isTrue_or_nil e
 |true=>exact e
theorem uW(ha:PT X a tA)(hb:PW X (.BoolOp .And (b::rest) pos) Lf):PW X (.BoolOp .And (a::b::rest) pos) (Km tA Lf):=by
 intro wh pins s σ H Q I h
 refine isTrue_and (aL (ha pins s σ H _ I h) fun c s1 ⟨H1,I1,q1⟩=> ?_)
 cases c with
 |true=>exact hb wh pins s1 σ H1 Q I1 q1
 |false=>exact⟨H1,I1,q1⟩
theorem gy(ha:PT X a tA)(hb:PW X (.BoolOp .Or (b::rest) pos) Lf):PW X (.BoolOp .Or (a::b::rest) pos) (O7 tA Lf):=by
 intro wh pins s σ H Q I h
 refine isTrue_or (aL (ha pins s σ H _ I h) fun c s1 ⟨H1,I1,q1⟩=> ?_)
 cases c with
 |true=>exact⟨H1,I1,q1⟩
 |false=>exact hb wh pins s1 σ H1 Q I1 q1
theorem dH(ha:PT X a tA):PT X (.UnaryOp .Not a pos) (Nt tA):=by
 intro pins s σ H Q I h
 exact isTrue_not (aL (ha pins s σ H (fun c H1=>Q (!c) H1) I h) fun _ _ ⟨H1,I1,q⟩=>⟨H1,I1,q⟩)
def Kn(ta tb:TE):TE:=fun σ H Q=>ta σ H (JX fun c H1=>if c=true then tb σ H1 Q else Q (.bl false) H1)
def Nu(ta tb:TE):TE:=fun σ H Q=>ta σ H (JX fun c H1=>if c=true then Q (.bl true) H1 else tb σ H1 Q)
def Ku(ta:TE):TE:=fun σ H Q=>ta σ H (JX fun c H1=>Q (.bl (!c)) H1)
theorem fg{op}{t:TE}(h:PE X a t):PE X (.BoolOp op [a] pos) t:=fun pins s σ H Q I hw=>BoolOp_one (h pins s σ H Q I hw)
theorem iu(ha:PE X a ta)(hb:PE X (.BoolOp .And (b::rest) pos) tb):PE X (.BoolOp .And (a::b::rest) pos) (Kn ta tb):=by
 intro pins s σ H Q I h
 refine BoolOp_and (aL (ha pins s σ H _ I h) fun v s1 ⟨x,H1,I1,r1,q1⟩=> ?_)
 obtain⟨c,rfl,q1⟩:=q1
 cases r1
 refine wpAny_truthy_bool ?_
 cases c with
 |true=>exact hb pins s1 σ H1 Q I1 q1
 |false=>exact⟨.bl false,H1,I1,rfl,q1⟩
theorem Bb(ha:PE X a ta)(hb:PE X (.BoolOp .Or (b::rest) pos) tb):PE X (.BoolOp .Or (a::b::rest) pos) (Nu ta tb):=by
 intro pins s σ H Q I h
 refine BoolOp_or (aL (ha pins s σ H _ I h) fun v s1 ⟨x,H1,I1,r1,q1⟩=> ?_)
 obtain⟨c,rfl,q1⟩:=q1
 cases r1
 refine wpAny_truthy_bool ?_
 cases c with
 |false=>exact hb pins s1 σ H1 Q I1 q1
 |true=>exact⟨.bl true,H1,I1,rfl,q1⟩
theorem Ba(ha:PE X a ta):PE X (.UnaryOp .Not a pos) (Ku ta):=by
 intro pins s σ H Q I h
 refine UnaryOp_ (aL (ha pins s σ H _ I h) fun v s1 ⟨x,H1,I1,r1,q1⟩=> ?_)
 obtain⟨c,rfl,q1⟩:=q1
 cases r1
 exact not_of (wpAny_truthy_bool ⟨.bl (!c),H1,I1,rfl,q1⟩)
def O6(t:TT)(ta tb:TE):TE:=fun σ H Q=>t σ H fun c H1=>if c=true then ta σ H1 Q else tb σ H1 Q
theorem fz{c:Expr}(hc:PT X c tA)(ha:PE X a ta)(hb:PE X b tb):PE X (.IfExp c a b pos) (O6 tA ta tb):=by
 intro pins s σ H Q I h
 refine wpAny_IfExp (aL (hc pins s σ H _ I h) fun d s1 ⟨H1,I1,q1⟩=> ?_)
 cases d with
 |true=>exact ha pins s1 σ H1 Q I1 q1
 |false=>exact hb pins s1 σ H1 Q I1 q1
end
end L2
namespace L2
open PySem PySem.Spec PyProof.Rows
def aN(K:PySem.W.Frag)(H:Hp)(a:Addr)(xs:List V):Prop:=
 Rd H a (.lst xs)\/
  ∃ (o:Obj) (its:Array Value) (n:Nat),K.lookup a=some o/\o.cls= .type "list"/\o.dict=none/\o.data= .seq its n/\its.size<=sizeLine/\Vals xs its.toList
def bn(K:PySem.W.Frag)(H:Hp)(a:Addr)(xs:List V):Prop:=
 Rd H a (.tup xs)\/
  ∃ (o:Obj) (its:Array Value) (n:Nat),K.lookup a=some o/\o.cls= .type "tuple"/\o.data= .seq its n/\its.size<=sizeLine/\Vals xs its.toList
def Lv:Value->Option V
 | .none=>some .aH
 | .bool b=>some (.bl b)
 | .int i _=>some (.int i)
 | .str x _=>some (.str x)
 | .bytes b _=>some (.tu b)
 | .float b _=>some (.CK b)
 | .ref a=>some (.ref a)
 | .type n=>some (.ty n)
 |_=>none
theorem RelV.abs{x:V}{u:Value}(r:RelV x u):Lv u=some x:=by
 cases x with
 |aH=>cases r;rfl
 |bl _=>cases r;rfl
 |int _=>obtain⟨t,rfl⟩:=r;rfl
 |str _=>obtain⟨t,rfl⟩:=r;rfl
 |tu _=>obtain⟨t,rfl⟩:=r;rfl
 |CK _=>obtain⟨t,rfl⟩:=r;rfl
 |ref _=>cases r;rfl
 |ty _=>cases r;rfl
theorem RelV.inj{x y:V}{u:Value}(r:RelV x u)(q:RelV y u):x=y:=Option.some.inj (r.abs.symm.trans q.abs)
theorem Vals.inj: ∀ {xs ys:List V} {us:List Value},Vals xs us->Vals ys us->xs=ys
 |_,_,_,.nil,.nil=>rfl
 |_,_,_,.cons r t,.cons r' t'=>by rw[r.inj r',Vals.inj t t']
section
variable{X:Cx}{pins:List (Addr×Obj)}{σ:St}{H:Hp}{s:Shared}{a:Addr}{xs ys:List V}
theorem aN.of{K:PySem.W.Frag}(h:H a=some (.lst xs)):aN K H a xs:= .inl (.inl h)
theorem bn.of{K:PySem.W.Frag}(h:H a=some (.tup xs)):bn K H a xs:= .inl (.inl h)
theorem Inv.list(I:Inv X pins σ H s)(h:aN X.K H a xs): ∃its:List Value,Vals xs its/\PlainL s.heap a its.toArray/\xs.length<=sizeLine:=by
 rcases h with h|⟨o,its,n,hk,hc,hd,hs,hz,r⟩
 ·obtain⟨z,its,n,r,e⟩:=h.ok I.hok
  exact⟨its,r,⟨_,n,e,rfl,rfl,rfl⟩,z⟩
 ·refine⟨its.toList,r,⟨o,n,I.fZ a o hk,hc,hd,by simpa using hs⟩,?_⟩
  have e:=r.length
  simp only[Array.length_toList]at e
  omega
theorem Inv.tuple(I:Inv X pins σ H s)(h:bn X.K H a xs): ∃its:List Value,Vals xs its/\IsTup s.heap a its.toArray/\xs.length<=sizeLine:=by
 rcases h with h|⟨o,its,n,hk,hc,hs,hz,r⟩
 ·obtain⟨z,its,r,p⟩:=h.ok I.hok
  exact⟨its,r,p,z⟩
 ·refine⟨its.toList,r,⟨o,I.fZ a o hk,hc,n,by simpa using hs⟩,?_⟩
  have e:=r.length
  simp only[Array.length_toList]at e
  omega
theorem Inv.Ar(I:Inv X pins σ H s)(h:aN X.K H a xs)(h':aN X.K H a ys):xs=ys:=by
 obtain⟨its,r,⟨o,n,e,_,_,d⟩,_⟩:=I.list h
 obtain⟨its',r',⟨o',n',e',_,_,d'⟩,_⟩:=I.list h'
 rw[e]at e';cases e'
 rw[d]at d'
 injection d' with d1 _
 have:its=its':=by simpa using congrArg Array.toList d1
 subst this
 exact r.inj r'
theorem Inv.yX(I:Inv X pins σ H s)(h:bn X.K H a xs)(h':bn X.K H a ys):xs=ys:=by
 obtain⟨its,r,⟨o,e,_,n,d⟩,_⟩:=I.tuple h
 obtain⟨its',r',⟨o',e',_,n',d'⟩,_⟩:=I.tuple h'
 rw[e]at e';cases e'
 rw[d]at d'
 injection d' with d1 _
 have:its=its':=by simpa using congrArg Array.toList d1
 subst this
 exact r.inj r'
end
abbrev Cx.mY(X:Cx)(E:Value->Shared->Prop):Cx:= {X with xe:=E}
abbrev Cx.K3(X:Cx):Cx:=X.mY fun _ _=>False
theorem Cx.Ok.mY{X:Cx}(ok:X.Ok)(E:Value->Shared->Prop):(X.mY E).Ok:=
 ⟨ok.mod,ok.kind,ok.glob,ok.blt,ok.above,ok.inj,ok.has,ok.Fx,ok.hd,ok.frames,ok.stk,ok.zf,ok.bs,ok.zy,ok.uG,ok.mS,ok.iY,ok.CN⟩
theorem Cx.Ok.gD{X:Cx}{E:Value->Shared->Prop}(ok:(X.mY E).Ok):X.Ok:=
 ⟨ok.mod,ok.kind,ok.glob,ok.blt,ok.above,ok.inj,ok.has,ok.Fx,ok.hd,ok.frames,ok.stk,ok.zf,ok.bs,ok.zy,ok.uG,ok.mS,ok.iY,ok.CN⟩
section
variable{X:Cx}{pins:List (Addr×Obj)}{σ:St}{H:Hp}{s:Shared}{E:Value->Shared->Prop}
theorem Inv.mY(I:Inv X pins σ H s)(E:Value->Shared->Prop):Inv (X.mY E) pins σ H s:=⟨I.ok.mY E,I.os,I.bare,I.base,I.loc,I.cell,I.free,I.cQ,I.pin,I.hok,I.len⟩
theorem Inv.gD(I:Inv (X.mY E) pins σ H s):Inv X pins σ H s:=⟨I.ok.gD,I.os,I.bare,I.base,I.loc,I.cell,I.free,I.cQ,I.pin,I.hok,I.len⟩
theorem SP.gD{D:Ends}{f:Flow}{s':Shared}(h:SP (X.mY E) pins D f s'):SP X pins D f s':=by
 cases f with
 |next=>obtain⟨σ',H',I,q⟩:=h;exact⟨σ',H',I.gD,q⟩
 |brk=>obtain⟨σ',H',I,q⟩:=h;exact⟨σ',H',I.gD,q⟩
 |cont=>obtain⟨σ',H',I,q⟩:=h;exact⟨σ',H',I.gD,q⟩
 |ret u=>obtain⟨v,σ',H',I,r,q⟩:=h;exact⟨v,σ',H',I.gD,r,q⟩
theorem vF.K3{st:List Stmt}{t:TS}(h:vF X.K3 st t):vF X st t:=fun pins s σ H D I hw=>
 wpAny_mono (h pins s σ H D (I.mY _) hw) (fun _ _ q=>q.gD) fun _ _ z=>False.elim z
end
section
variable{X:Cx}{st:Stmt}{rest:List Stmt}{t u:TS}{e:Expr}{te:TE}{pos:Pos}
def Ca:TS:=fun D σ H=>D.nx σ H
def vq(t u:TS):TS:=fun D σ H=>t {D with nx:=u D} σ H
theorem aU:vF X [] Ca:=fun _ _ σ H _ I h=>wpAny_execs_nil ⟨σ,H,I,h⟩
theorem ag(h1:PS X st t)(h2:vF X rest u):vF X (st::rest) (vq t u):=by
 intro pins s σ H D I h
 refine wpAny_execs_cons (aL (h1 pins s σ H {D with nx:=u D} I h) fun f s1 q=> ?_)
 cases f with
 |next=>
  obtain⟨σ',H',I',q⟩:=q
  exact h2 pins s1 σ' H' D I' q
 |ret v=>exact q
 |brk=>exact q
 |cont=>exact q
theorem ap(h1:PS X st t):vF X [st] t:=by
 intro pins s σ H D I h
 refine wpAny_execs_cons (aL (h1 pins s σ H D I h) fun f s1 q=> ?_)
 cases f with
 |next=>exact wpAny_execs_nil q
 |ret v=>exact q
 |brk=>exact q
 |cont=>exact q
def Hn:TS:=fun D σ H=>D.bk σ H
theorem Bk:PS X (.Break pos) Hn:=fun _ _ σ H _ I h=>wpAny_Break ⟨σ,H,I,h⟩
theorem Inv.quiet{pins:List (Addr×Obj)}{σ:St}{H:Hp}{s:Shared}(I:Inv X pins σ H s):interactive X.env=false:=by simp[interactive,I.ok.kind]
def Fb(te:TE):TS:=fun D σ H=>te σ H fun _ H1=>D.nx σ H1
theorem aT(he:PE X e te)(hs:swapsWith e none pos.line X.env=pure false:=by rfl):PS X (.Expr e pos) (Fb te):=by
 intro pins s σ H D I h
 exact wpAny_Expr_any (aL (he pins s σ H _ I h) fun v s1 ⟨x,H1,I1,r1,q1⟩=>⟨σ,H1,I1,q1⟩) I.quiet hs
def HD(te:TE):TS:=fun D σ H=>te σ H D.rt
theorem aE(he:PE X e te):PS X (.Return (some e) pos) (HD te):=by
 intro pins s σ H D I h
 exact wpAny_Return_some (aL (he pins s σ H _ I h) fun v s1 ⟨x,H1,I1,r1,q1⟩=>⟨x,σ,H1,I1,r1,q1⟩)
def Hy(c:TT)(t u:TS):TS:=fun D σ H=>c σ H fun b H1=>if b=true then t D σ H1 else u D σ H1
theorem bL{c:Expr}{a b:List Stmt}{tc:TT}(hc:PT X c tc)(ha:vF X a t)(hb:vF X b u):PS X (.If c a b pos) (Hy tc t u):=by
 intro pins s σ H D I h
 refine wpAny_If (aL (hc pins s σ H _ I h) fun d s1 ⟨H1,I1,q1⟩=> ?_)
 cases d with
 |true=>exact ha pins s1 σ H1 D I1 q1
 |false=>exact hb pins s1 σ H1 D I1 q1
end
abbrev TG:=V->St->Hp->(St->Hp->Prop)->Prop
abbrev HM:=List V->St->Hp->(St->Hp->Prop)->Prop
def PG(X:Cx)(target:Expr)(t:TG):Prop:=
 ∀ (pins:List (Addr×Obj)) (s:Shared) (σ:St) (H:Hp) (v:V) (u:Value) (Q:St->Hp->Prop),Inv X pins σ H s->RelV v u->t v σ H Q->
  wpAny (model X.prog X.w) X.A (assign target X.env u) (fun _ s'=> ∃σ' H',Inv X pins σ' H' s'/\Q σ' H') X.xe s
def KF(X:Cx)(ts:List Expr)(t:HM):Prop:=
 ∀ (pins:List (Addr×Obj)) (s:Shared) (σ:St) (H:Hp) (vs:List V) (us:List Value) (Q:St->Hp->Prop),Inv X pins σ H s->Vals vs us->t vs σ H Q->
  wpAny (model X.prog X.w) X.A (assignInOrder ((assignEach ts X.env).map (·.2)) us) (fun _ s'=> ∃σ' H',Inv X pins σ' H' s'/\Q σ' H') X.xe s
abbrev Fp:=V->V->V->Hp->(Hp->Prop)->Prop
def IB(X:Cx)(t:Fp):Prop:=
 ∀ (pins:List (Addr×Obj)) (s:Shared) (σ:St) (H:Hp) (o i v:V) (ov iv u:Value) (Q:Hp->Prop),Inv X pins σ H s->RelV o ov->RelV i iv->RelV v u->t o i v H Q->
  wpAny (model X.prog X.w) X.A (setItem ov iv u) (fun _ s'=> ∃H',Inv X pins σ H' s'/\Q H') X.xe s
abbrev Lr:=V->V->Hp->VK->Prop
def NQ(X:Cx)(op:Operator)(t:Lr):Prop:=
 ∀ (pins:List (Addr×Obj)) (s:Shared) (σ:St) (H:Hp) (x y:V) (v u:Value) (Q:VK),Inv X pins σ H s->RelV x v->RelV y u->t x y H Q->
  wpAny (model X.prog X.w) X.A (inplaceOp op v u) (EP X pins σ Q) X.xe s
section
variable{X:Cx}{pos:Pos}
def bR(i:Nat):TG:=fun v σ H Q=>Q (σ.set i (some v)) H
theorem aG{i:Nat}{x:Str}(hN:X.N.Nodup)(hi:X.N[i]? =some x)(hx:Loc X.env.scope x)(hf:X.fn x=true\/X.env.scope.names.lookup x=some .local:=by first|exact .inl rfl|exact .inr rfl|assumption):PG X (.Name x pos) (bR i):=by
 intro pins s σ H v u Q I r h
 exact wpAny_assign_Name (mE I hN hi hx r (fun s' I'=>⟨_,H,I',h⟩) hf)
def IT:HM:=fun vs σ H Q=>vs= []/\Q σ H
inductive zV(t:TG)(u:HM)(vs:List V)(σ:St)(H:Hp)(Q:(St->Hp->Prop)):Prop
 |mk (v r:_) (_:vs=v::r) (_:t v σ H fun σ' H'=>u r σ' H' Q)
theorem jc:KF X [] IT:=by
 intro pins s σ H vs us Q I r h
 obtain⟨e,h⟩:=h
 subst e
 cases r
 exact assignInOrder_nil ⟨σ,H,I,h⟩
theorem cJ{e:Expr}{es:List Expr}{t:TG}{u:HM}(h1:PG X e t)(h2:KF X es u)
  (hs:(assignEach (e::es) X.env).map (·.2)=assign e X.env::(assignEach es X.env).map (·.2):=by rfl):KF X (e::es) (zV t u):=by
 intro pins s σ H vs us Q I r h
 obtain⟨v,vr,e1,h⟩:=h
 subst e1
 cases r with
 |cons r rr=>
  rw[hs]
  refine assignInOrder_cons (aL (h1 pins s σ H _ _ _ I r h) fun _ s1 ⟨σ1,H1,I1,q1⟩=> ?_)
  exact h2 pins s1 σ1 H1 _ _ Q I1 rr q1
inductive IU(K:PySem.W.Frag)(n:Nat)(t:HM)(v:V)(σ:St)(H:Hp)(Q:(St->Hp->Prop)):Prop
 |mk (a xs:_) (_:v= .ref a) (_:bn K H a xs) (_:xs.length=n) (_:t xs σ H Q)
theorem lX{es:List Expr}{k:Nat}{t:HM}{n:Nat}(hc:X.calm=true)(h:KF X es t)
  (hn:(assignEach es X.env).length=n:=by rfl)(hst:(assignEach es X.env).findIdx? (·.1)=none:=by rfl):PG X (.Tuple es k pos) (IU X.K n t):=by
 intro pins s σ H v u Q I r hw
 obtain⟨a,xs,e1,hq,hl,hw⟩:=hw
 subst e1
 cases r
 obtain⟨its,rv,ht,hz⟩:=I.tuple hq
 refine assign_Tuple_tuple (I.ok.hd hc) ht (by simp[hn,<-hl,rv.length]) hst fun h' hx=> ?_
 have I1:Inv X pins σ H {s with heap:=h'}:=I.kept (t':=s.toks) fun b o e=>hx b o (Nat.ne_of_lt (Heap.lt_size e)) e
 exact h pins _ σ H xs _ Q I1 (by simpa using rv) hw
def LP(to ti:TE)(t:Fp):TG:=fun v σ H Q=>to σ H fun o H1=>ti σ H1 fun i H2=>t o i v H2 fun H3=>Q σ H3
theorem Bd{o i:Expr}{to ti:TE}{t:Fp}(ho:PE X o to)(hi:PE X i ti)(hs:IB X t)
  (ha: ∀v,assign (.Subscript o i pos) X.env v=(do
   let ov<-holding [v] (eval o X.env)
   let iv<-holding [v,ov] (eval i X.env)
   standAt pos
   holding [v,ov,iv] (setItem ov iv v)
   release [v,ov,iv] []):=by intro _;rfl):PG X (.Subscript o i pos) (LP to ti t):=by
 intro pins s σ H v u Q I r h
 rw[ha]
 refine wpAny_bind (wpAny_holding (aL (ho pins s σ H _ I h) fun ov s1 ⟨x,H1,I1,r1,q1⟩=> ?_))
 refine wpAny_bind (wpAny_holding (aL (hi pins s1 σ H1 _ I1 q1) fun iv s2 ⟨y,H2,I2,r2,q2⟩=> ?_))
 refine wpAny_bind (wpAny_standAt (wpAny_bind (wpAny_holding (aL (hs pins s2 σ H2 x y v ov iv u _ I2 r1 r2 r q2) fun _ s3 ⟨H3,I3,q3⟩=> ?_))))
 exact wpAny_release ⟨σ,H3,I3,q3⟩
def qo(te:TE)(g:TG):TS:=fun D σ H=>te σ H fun x H1=>g x σ H1 D.nx
theorem uV{tg e:Expr}{te:TE}{g:TG}(he:PE X e te)(hg:PG X tg g)(hs:swapsWithSole [tg] e pos.line X.env=pure false:=by rfl)(hw:swappedStores [tg] e X.env=pure none:=by rfl)
  (h1:(assignEach [tg] X.env).map (·.2)= [assign tg X.env]:=by rfl):PS X (.Assign [tg] e pos) (qo te g):=by
 intro pins s σ H D I h
 refine wpAny_Assign_stores (aL (he pins s σ H _ I h) fun v s1 ⟨x,H1,I1,r1,q1⟩=> ?_) hs hw
 rw[h1]
 exact aL (hg pins s1 σ H1 x v _ I1 r1 q1) fun _ s2 q=>q
theorem aJ{i:Nat}{x:Str}{e:Expr}{te:TE}{pos':Pos}(hN:X.N.Nodup)(hi:X.N[i]? =some x)(hx:Loc X.env.scope x)(he:PE X e te)(hs:swapsWith e (some (.Name x pos')) pos.line X.env=pure false:=by rfl)(hf:X.fn x=true\/X.env.scope.names.lookup x=some .local:=by first|exact .inl rfl|exact .inr rfl|assumption):
  PS X (.Assign [.Name x pos'] e pos) (qo te (bR i)):=by
 intro pins s σ H D I h
 refine wpAny_Assign_Name (aL (he pins s σ H _ I h) fun v s1 ⟨y,H1,I1,r1,q1⟩=> ?_) hs
 exact mE I1 hN hi hx r1 (fun s2 I2=>⟨_,H1,I2,q1⟩) hf
inductive Nn(i:Nat)(te:TE)(ti:Lr)(D:Ends)(σ:St)(H:Hp):Prop
 |mk (x:_) (_:σ[i]? =some (some x)) (_:te σ H fun y H1=>ti x y H1 fun z H2=>D.nx (σ.set i (some z)) H2)
theorem Bj{i:Nat}{x:Str}{e:Expr}{te:TE}{op:Operator}{ti:Lr}{pos':Pos}(hN:X.N.Nodup)(hi:X.N[i]? =some x)(hx:Loc X.env.scope x)(he:PE X e te)(ho:NQ X op ti)(hf:X.fn x=true\/X.env.scope.names.lookup x=some .local:=by first|exact .inl rfl|exact .inr rfl|assumption):
  PS X (.AugAssign (.Name x pos') op e pos) (Nn i te ti):=by
 intro pins s σ H D I h
 obtain⟨v,e1,h⟩:=h
 obtain⟨m,hn,hl⟩:=I.loc
 have vis:KG X.env.scope x:=by rcases hx with k|k;exact .inl k;exact .inr (.inl k)
 obtain⟨u,r,l⟩:=hl i x v hi e1 vis
 refine wpAny_AugAssign_Name ?_
 have go:wpAny (model X.prog X.w) X.A (eval e X.env) (fun w s₂=>wpAny (model X.prog X.w) X.A (inplaceOp op u w) (fun r s₃=>wpAny (model X.prog X.w) X.A (storeName X.env x r) (fun _=>SP X pins D .next) X.xe s₃) X.xe s₂) X.xe s:=by
  refine aL (he pins s σ H _ I h) fun w s1 ⟨y,H1,I1,r1,q1⟩=> ?_
  refine aL (ho pins s1 σ H1 v y u w _ I1 r r1 q1) fun z s2 ⟨zv,H2,I2,r2,q2⟩=> ?_
  exact mE I2 hN hi hx r2 (fun s3 I3=>⟨_,H2,I3,q2⟩) hf
 rcases l with⟨hk,hm⟩|⟨hk,c,hc,hcell⟩
 ·exact wpAny_loadName_local I.ok.kind hk hn hm go
 ·rcases hk with hk|hk
  ·exact wpAny_loadName_cell I.ok.kind hk hc hcell go
  ·rcases hx with k|k
   ·have:X.env.scope.names.lookup x=some .free:=hk
    rw[k]at this;cases this
   ·have:X.env.scope.names.lookup x=some .free:=hk
    rw[k]at this;cases this
inductive Rk(f:Int->Int->Int)(x:V)(y:V)(H:Hp)(Q:VK):Prop
 |mk (i j:_) (_:x= .int i) (_:y= .int j) (_:Q (.int (f i j)) H)
theorem uh:NQ X .Add (Rk fun i j=>i+j):=by
 intro pins s σ H x y v u Q I r1 r2 h
 obtain⟨i,j,e1,e2,q⟩:=h
 subst e1;subst e2
 obtain⟨t,rfl⟩:=r1
 obtain⟨t',rfl⟩:=r2
 exact iadd_int ⟨.int _,H,I.tok _,⟨_,rfl⟩,q⟩
end
section
variable{X:Cx}{pos:Pos}
inductive HE(c:TT)(tb:TS)(D:Ends)(σ:St)(H:Hp):Prop
 |mk (W:Nat->St->Hp->Prop) (_:(∃m,W m σ H)) (_: ∀m σ H,W m σ H->c σ H fun b H1=>if b=true then ∃N:St->Hp->Prop,(∀σ' H',N σ' H'-> ∃m',m'<m/\W m' σ' H')/\tb {D with nx:=N,ct:=N,bk:=D.nx} σ H1 else D.nx σ H1)
theorem jf{c:Expr}{body:List Stmt}{tc:TT}{tb:TS}(hp:PassesOwn (model X.prog X.w) X.A X.env X.xe)(hc:PT X c tc)(hb:vF X body tb):PS X (.While c body [] pos) (HE tc tb):=by
 intro pins s σ H D I h
 obtain⟨W,⟨m0,w0⟩,turn⟩:=h
 refine wpAny_While (codeAny_whileLoop (fun n s'=> ∃σ' H',Inv X pins σ' H' s'/\W n σ' H') ?_ m0 ⟨σ,H,I,w0⟩)
 rintro n s1 ⟨σ1,H1,I1,w1⟩
 refine wpAny_passesOwn hp (aL (hc pins s1 σ1 H1 _ I1 (turn n σ1 H1 w1)) fun b s2 ⟨H2,I2,q2⟩=> ?_)
 cases b with
 |true=>
  obtain⟨N,hN,q2⟩:=q2
  rw[if_pos rfl]
  refine wpAny_passesOwn hp (aL (hb pins s2 σ1 H2 _ I2 q2) fun f s3 q3=> ?_)
  cases f with
  |next=>
   obtain⟨σ3,H3,I3,n3⟩:=q3
   obtain⟨m',hm,w3⟩:=hN σ3 H3 n3
   exact⟨m',hm,σ3,H3,I3,w3⟩
  |cont=>
   obtain⟨σ3,H3,I3,n3⟩:=q3
   obtain⟨m',hm,w3⟩:=hN σ3 H3 n3
   exact⟨m',hm,σ3,H3,I3,w3⟩
  |brk=>exact q3
  |ret v=>exact q3
 |false=>
  rw[if_neg Bool.false_ne_true]
  exact wpAny_execs_nil ⟨σ1,H2,I2,q2⟩
end
structure It where
 go:Nat->Hp->Prop
 mZ:Nat->Hp->V->Hp->Prop
 stop:Nat->Hp->Prop
def dD(X:Cx)(pins:List (Addr×Obj))(H:Hp)(b:Addr):Prop:=
 H b=none/\b≠X.env.locals/\b∉X.fs/\(b∈X.ex\/X.s₀.heap.objs.size<=b)/\(∀x c,X.env.cells.lookup x=some c->c≠b)/\ ∀p∈X.pn++pins,p.1≠b
theorem Inv.lB{X:Cx}{pins:List (Addr×Obj)}{σ:St}{H H':Hp}{s:Shared}{b:Addr}(I:Inv X pins σ H s)(hb:s.heap.objs.size<=b)(hn:H' b=none):dD X pins H' b:=by
 refine⟨hn,Nat.ne_of_gt (Nat.lt_of_lt_of_le I.lt hb),I.MU hb,.inr (Nat.le_trans I.sz hb),fun x c e z=> ?_,fun p hp z=> ?_⟩
 ·obtain⟨v,q⟩:=I.cell x c e
  exact absurd (Nat.lt_of_lt_of_le q.lt (by rw[z];exact hb)) (Nat.lt_irrefl _)
 ·exact absurd (Nat.lt_of_lt_of_le (Heap.lt_size (I.pin p hp).1) (by rw[z];exact hb)) (Nat.lt_irrefl _)
structure Turn(P:Program)(w:World)(K:PySem.W.Frag)(tg:Expr)(J:It)(fp:List Addr)(it:Addr)(tn:Nat->Heap->Prop):Prop where
 mem:it∈fp
 obj: ∀i h,tn i h-> ∀b∈fp,∃o,h.get? b=some o/\ ∀v,o.data≠ .cell v
 keep: ∀i h h',tn i h->(∀b∈fp,∀o,h.get? b=some o->h'.get? b=some o)->tn i h'
 item: ∀ (X:Cx),X.prog=P->X.w=w->X.K=K->X.calm=true-> ∀ (i:Nat) (pins:List (Addr×Obj)) (s:Shared) (σ:St) (H:Hp) (E:Value->Shared->Prop),Inv X pins σ H s->(∀b∈fp,dD X pins H b)->tn i s.heap->J.go i H->
  wpAny (model P w) X.A (pyNext (.ref it)) (fun r s1=> ∃u,r=some u/\
   wpAny (model P w) X.A (letOwnedTupleGo tg (.ref it) u) (fun _ s2=> ∃x H',Inv X pins σ H' s2/\RelV x u/\J.mZ i H x H'/\tn (i+1) s2.heap/\ ∀b∈fp,H' b=none) E s1) E s
 done: ∀ (X:Cx),X.prog=P->X.w=w->X.K=K->X.calm=true-> ∀ (i:Nat) (pins:List (Addr×Obj)) (s:Shared) (σ:St) (H:Hp) (E:Value->Shared->Prop),Inv X pins σ H s->(∀b∈fp,dD X pins H b)->tn i s.heap->J.stop i H->
  wpAny (model P w) X.A (pyNext (.ref it)) (fun r s1=>r=none/\Inv X pins σ H s1) E s
 self: ∀ (A:Around) (i:Nat) (s:Shared) (Q:Value->Shared->Prop) (E:Value->Shared->Prop),tn i s.heap->Q (.ref it) s->wpAny (model P w) A (pyIter (.ref it)) Q E s
abbrev TI:=St->Hp->(It->Hp->Prop)->Prop
inductive Lp(X:Cx)(pins:List (Addr×Obj))(σ:St)(tg:Expr)(R:It->Hp->Prop)(itv:Value)(s2:Shared):Prop
 |mk (it:Addr) (fp:List Addr) (tn:Nat->Heap->Prop) (J:It) (H':Hp) (_:itv= .ref it) (_:Inv X pins σ H' s2) (_:Turn X.prog X.w X.K tg J fp it tn) (_:tn 0 s2.heap) (_:(∀b∈fp,dD X pins H' b)) (_:R J H')
def PI(X:Cx)(tg iter:Expr)(wi:TI):Prop:=
 ∀ (pins:List (Addr×Obj)) (s:Shared) (σ:St) (H:Hp) (R:It->Hp->Prop),Inv X pins σ H s->wi σ H R->
  wpAny (model X.prog X.w) X.A (eval iter X.env) (fun v s1=>wpAny (model X.prog X.w) X.A (pyIter v) (Lp X pins σ tg R) X.xe s1) X.xe s
theorem q9{M:Model}{A:Around}{E:Value->Shared->Prop}{s:Shared}{tg:Expr}{it:Addr}{u:Value}{o:Obj}{n:String}{vs:Array Value}{Q:Unit->Shared->Prop}(ho:s.heap.get? it=some o)(hc:o.cls= .type n)(hd:o.data= .fields vs)
  (hn: ["enumerate", "zip", "dict_itemiterator", "dict_reverseitemiterator", "odict_iterator", "itertools.zip_longest", "itertools.pairwise"].contains n=false)(hQ:Q () s):wpAny M A (letOwnedTupleGo tg (.ref it) u) Q E s:=by
 unfold letOwnedTupleGo
 cases tg<;>first
  |exact wpAny_pure hQ
  |(cases u<;>first
    |exact wpAny_pure hQ
    |(refine wpAny_bind (wpAny_load ho ?_)
      rw[hc,hd]
      show wpAny M A (if(["enumerate", "zip", "dict_itemiterator", "dict_reverseitemiterator", "odict_iterator", "itertools.zip_longest", "itertools.pairwise"].contains n&&vs[0]? ==some (rawInt _))=true then _ else _) Q E s
      rw[if_neg (by intro h;rw[hn,Bool.false_and]at h;cases h)]
      exact wpAny_pure hQ))
def NO(K:PySem.W.Frag)(a:Addr):It:=
 ⟨fun i H=> ∃xs x,aN K H a xs/\xs[i]? =some x,fun i H x H'=>H'=H/\ ∀xs,aN K H a xs->xs[i]? =some x,fun i H=> ∃xs,aN K H a xs/\xs.length<=i⟩
def Iu(K:PySem.W.Frag)(a:Addr):It:=
 ⟨fun i H=> ∃xs x,bn K H a xs/\xs[i]? =some x,fun i H x H'=>H'=H/\ ∀xs,bn K H a xs->xs[i]? =some x,fun i H=> ∃xs,bn K H a xs/\xs.length<=i⟩
def Ln(lo:Int)(n:Nat):It:=⟨fun i _=>i<n,fun i H x H'=>H'=H/\x= .int (lo+i),fun i _=>n<=i⟩
theorem yZ{P:Program}{w:World}{K:PySem.W.Frag}{tg:Expr}(a it:Addr):Turn P w K tg (NO K a) [it] it (fun i h=>h.IsListIter it a i)where
 mem:=by simp
 obj:=fun i h st b hb=>by
  have e:b=it:=by simpa using hb
  subst e
  obtain⟨o,e,c,d⟩:=st
  exact⟨o,e,fun v z=>by rw[d]at z;cases z⟩
 keep:=fun i h h' st k=>st.at fun o e=>k it (by simp) o e
 item:=by
  intro X hP hw hK hc i pins s σ H E I hf st hg
  subst hP hw hK
  obtain⟨xs,x,hq,hx⟩:=hg
  obtain⟨its,rv,p,hz⟩:=I.list hq
  obtain⟨u,hu,ru⟩:=rv.get hx
  obtain⟨f0,f1,f2,f3,f4,f5⟩:=hf it (by simp)
  refine wpAny_pyNext_list_item st p.isList (x:=u) (by simpa using hu) fun h' st' sb=> ?_
  have I1:Inv X pins σ H {s with heap:=h'}:=I.turned (t':=s.toks) (fun b o hb e=>(sb.2 b hb).trans e) f0 f1 f3 f4 f5
  obtain⟨o,e,c,d⟩:=id st'
  exact⟨u,rfl,q9 (s:= {s with heap:=h'}) e c d (by decide) ⟨x,H,I1,ru,⟨rfl,fun ys hy=>by rw[I.Ar hy hq];exact hx⟩,st',fun b hb=>(hf b hb).1⟩⟩
 done:=by
  intro X hP hw hK hc i pins s σ H E I hf st hg
  subst hP hw hK
  obtain⟨xs,hq,hx⟩:=hg
  obtain⟨its,rv,p,hz⟩:=I.list hq
  obtain⟨f0,f1,f2,f3,f4,f5⟩:=hf it (by simp)
  have hl:=rv.length
  exact wpAny_pyNext_list_end (I.ok.hd hc) st p.isList (by simp;omega) fun h' eb=>⟨rfl,I.turned (t':=s.toks) (fun b o hb e=>eb b o hb e) f0 f1 f3 f4 f5⟩
 self:=fun _ _ _ _ _ st h=>wpAny_pyIter_listiter st h
theorem vB{P:Program}{w:World}{K:PySem.W.Frag}{tg:Expr}(a it:Addr):Turn P w K tg (Iu K a) [it] it (fun i h=>h.IsTupleIter it a i)where
 mem:=by simp
 obj:=fun i h st b hb=>by
  have e:b=it:=by simpa using hb
  subst e
  obtain⟨o,e,c,d⟩:=st
  exact⟨o,e,fun v z=>by rw[d]at z;cases z⟩
 keep:=fun i h h' st k=>st.at fun o e=>k it (by simp) o e
 item:=by
  intro X hP hw hK hc i pins s σ H E I hf st hg
  subst hP hw hK
  obtain⟨xs,x,hq,hx⟩:=hg
  obtain⟨its,rv,p,hz⟩:=I.tuple hq
  obtain⟨u,hu,ru⟩:=rv.get hx
  obtain⟨f0,f1,f2,f3,f4,f5⟩:=hf it (by simp)
  refine wpAny_pyNext_tuple_item st (show s.heap.IsTuple a its.toArray from p) (x:=u) (by simpa using hu) fun h' st' sb=> ?_
  have I1:Inv X pins σ H {s with heap:=h'}:=I.turned (t':=s.toks) (fun b o hb e=>(sb.2 b hb).trans e) f0 f1 f3 f4 f5
  obtain⟨o,e,c,d⟩:=id st'
  exact⟨u,rfl,q9 (s:= {s with heap:=h'}) e c d (by decide) ⟨x,H,I1,ru,⟨rfl,fun ys hy=>by rw[I.yX hy hq];exact hx⟩,st',fun b hb=>(hf b hb).1⟩⟩
 done:=by
  intro X hP hw hK hc i pins s σ H E I hf st hg
  subst hP hw hK
  obtain⟨xs,hq,hx⟩:=hg
  obtain⟨its,rv,p,hz⟩:=I.tuple hq
  obtain⟨f0,f1,f2,f3,f4,f5⟩:=hf it (by simp)
  have hl:=rv.length
  exact wpAny_pyNext_tuple_end (I.ok.hd hc) st (show s.heap.IsTuple a its.toArray from p) (by simp;omega) fun h' eb=>⟨rfl,I.turned (t':=s.toks) (fun b o hb e=>eb b o hb e) f0 f1 f3 f4 f5⟩
 self:=fun _ _ _ _ _ st h=>wpAny_pyIter_tupleiter st h
theorem vA{P:Program}{w:World}{K:PySem.W.Frag}{tg:Expr}(it:Addr)(lo:Int)(n:Nat):Turn P w K tg (Ln lo n) [it] it (fun i h=>IsRangeIter h it (lo+(i:Nat)*1) ((n:Int)- (i:Nat)) 1)where
 mem:=by simp
 obj:=fun i h st b hb=>by
  have e:b=it:=by simpa using hb
  subst e
  exact⟨_,st,fun v z=>by
   have z':Data.fields _=Data.cell v:=z
   cases z'⟩
 keep:=fun i h h' st k=>k it (by simp) _ st
 item:=by
  intro X hP hw hK hc i pins s σ H E I hf st hg
  subst hP hw hK
  obtain⟨f0,f1,f2,f3,f4,f5⟩:=hf it (by simp)
  have W:=Walks.range (prog:=X.prog) (w:=X.w) (I.ok.hd hc) it lo 1 n
  refine W.item i s _ _ hg st fun v h' tk hv st' kk=> ?_
  obtain⟨t,rfl⟩:=hv
  have I1:Inv X pins σ H {s with heap:=h',toks:=tk}:=I.turned (fun b o hb e=>kk b o (by simpa using hb) e) f0 f1 f3 f4 f5
  refine⟨_,rfl,q9 (s:= {s with heap:=h',toks:=tk}) (n:= "range_iterator") st' rfl rfl (by decide) ⟨.int (lo+i),H,I1,⟨t,?_⟩,⟨rfl,rfl⟩,st',fun b hb=>(hf b hb).1⟩⟩
  rw[Int.mul_one]
 done:=by
  intro X hP hw hK hc i pins s σ H E I hf st hg
  subst hP hw hK
  obtain⟨f0,f1,f2,f3,f4,f5⟩:=hf it (by simp)
  exact wpAny_pyNext_range_end (I.ok.hd hc) st (by have:n<=i:=hg;omega) fun h' eb=>⟨rfl,I.turned (t':=s.toks) (fun b o hb e=>eb b o hb e) f0 f1 f3 f4 f5⟩
 self:=fun _ _ _ _ _ st h=>wpAny_pyIter_rangeiter st h
end L2
namespace L2
open PySem PySem.Spec PyProof.Rows
section
variable{X:Cx}{tg:Expr}
def ES(K:PySem.W.Frag)(tl:TE):TI:=fun σ H R=>tl σ H fun x H1=> ∃a,x= .ref a/\(∃xs,aN K H1 a xs)/\R (NO K a) H1
def JA(K:PySem.W.Frag)(tl:TE):TI:=fun σ H R=>tl σ H fun x H1=> ∃a,x= .ref a/\(∃xs,bn K H1 a xs)/\R (Iu K a) H1
theorem cz{l:Expr}{tl:TE}(hl:PE X l tl):PI X tg l (ES X.K tl):=by
 intro pins s σ H R I h
 refine aL (hl pins s σ H _ I h) fun v s1 ⟨x,H1,I1,r1,q1⟩=> ?_
 obtain⟨a,e,⟨xs,hq⟩,q⟩:=q1
 subst e
 cases r1
 obtain⟨its,rv,p,hz⟩:=I1.list hq
 refine wpAny_pyIter_list p.isList ?_
 refine⟨s1.heap.objs.size,[s1.heap.objs.size],_,_,H1,rfl,I1.kept (t':=s1.toks) fun b o e=>Heap.get?_push_of_some _ e,yZ a _,⟨_,Heap.get?_push_size _ rfl,rfl,rfl⟩,fun b hb=> ?_,q⟩
 have e:b=s1.heap.objs.size:=by simpa using hb
 subst e
 exact I1.lB (Nat.le_refl _) (I1.hok.fresh (Nat.le_refl _))
theorem lY{l:Expr}{tl:TE}(hl:PE X l tl):PI X tg l (JA X.K tl):=by
 intro pins s σ H R I h
 refine aL (hl pins s σ H _ I h) fun v s1 ⟨x,H1,I1,r1,q1⟩=> ?_
 obtain⟨a,e,⟨xs,hq⟩,q⟩:=q1
 subst e
 cases r1
 obtain⟨its,rv,p,hz⟩:=I1.tuple hq
 refine wpAny_pyIter_tuple (show s1.heap.IsTuple a its.toArray from p) ?_
 refine⟨s1.heap.objs.size,[s1.heap.objs.size],_,_,H1,rfl,I1.kept (t':=s1.toks) fun b o e=>Heap.get?_push_of_some _ e,vB a _,⟨_,Heap.get?_push_size _ rfl,rfl,rfl⟩,fun b hb=> ?_,q⟩
 have e:b=s1.heap.objs.size:=by simpa using hb
 subst e
 exact I1.lB (Nat.le_refl _) (I1.hok.fresh (Nat.le_refl _))
theorem Bt{pins:List (Addr×Obj)}{σ:St}{H:Hp}{s:Shared}{R:It->Hp->Prop}{E:Value->Shared->Prop}{lo hi:Int}{t u v:Tok}{tk:Nat}(I:Inv X pins σ H s)(h1: -(2^62)<=lo)(h2:lo<2^62)(h3: -(2^62)<=hi)(h4:hi<2^62)
  (q:R (Ln lo (hi-lo).toNat) H):wpAny (model X.prog X.w) X.A (pyIter (.ref s.heap.objs.size)) (Lp X pins σ tg R) E {s with heap:=s.heap.push {cls:= .type "range",data:= .fields #[.int lo t,.int hi u,.int 1 v]},toks:=tk}:=by
 refine wpAny_pyIter_range (IsRange.new ..) (small_one h1 h2 h3 h4) ?_
 have I1:Inv X pins σ H {s with heap:=s.heap.push {cls:= .type "range",data:= .fields #[.int lo t,.int hi u,.int 1 v]},toks:=tk}:=I.kept fun b o e=>Heap.get?_push_of_some _ e
 refine⟨(s.heap.push {cls:= .type "range",data:= .fields #[.int lo t,.int hi u,.int 1 v]}).objs.size,[(s.heap.push {cls:= .type "range",data:= .fields #[.int lo t,.int hi u,.int 1 v]}).objs.size],_,_,H,rfl,
  I1.kept (t':=tk) fun b o e=>Heap.get?_push_of_some _ e,vA _ lo (hi-lo).toNat,?_,fun b hb=> ?_,q⟩
 ·have e1:lo+((0:Nat):Int)*1=lo:=by simp
  have e2:(((hi-lo).toNat:Nat):Int)- ((0:Nat):Int)=Builtin.Range.rangeSize lo hi 1:=by rw[rangeSize_one];split<;>omega
  show IsRangeIter _ _ (lo+((0:Nat):Int)*1) ((((hi-lo).toNat:Nat):Int)- ((0:Nat):Int)) 1
  rw[e1,e2]
  exact Heap.get?_push_size _ rfl
 ·have e:b=(s.heap.push {cls:= .type "range",data:= .fields #[.int lo t,.int hi u,.int 1 v]}).objs.size:=by simpa using hb
  subst e
  exact I1.lB (Nat.le_refl _) (I1.hok.fresh (Nat.le_refl _))
inductive J3(R:It->Hp->Prop)(vs:List V)(H1:Hp):Prop
 |mk (j:Int) (_:vs= [.int j]) (_: -(2^62)<=j) (_:j<2^62) (_:R (Ln 0 j.toNat) H1)
def jY(ta:TA):TI:=fun σ H R=>ta σ H (J3 R)
theorem cA{a:Expr}{ta:TA}{p pos:Pos}(hg:Gl X "range")(hm:X.mg "range"=none)(ha:PA X [a] ta)(hs:starEach [a] X.env= [(false,eval a X.env)]:=by rfl):PI X tg (.Call (.Name "range" p) [a] [] pos) (jY ta):=by
 intro pins s σ H R I h
 refine Call_ (gn I hg hm boot_range (PyProof.Rows.callWith_type1 (aL (ha pos pins s σ H _ I h) fun us s1 ⟨vs,H1,I1,r1,q1⟩=> ?_) hs rfl))
 obtain⟨j,e,q1,q2,q⟩:=q1
 subst e
 cases r1 with
 |cons r rr=>
  cases rr
  obtain⟨t,rfl⟩:=r
  exact call_range_1 (Bt I1 (by omega) (by omega) q1 q2 (by simpa using q))
def yU(wi:TI)(g:TG)(tb:TS):TS:=fun D σ H=>wi σ H fun J H1=> ∃W:Nat->Nat->St->Hp->Prop,(∃m,W 0 m σ H1)/\ ∀i m σ H,W i m σ H->
 (J.stop i H/\D.nx σ H)\/(J.go i H/\ ∃N:St->Hp->Prop,(∀σ' H',N σ' H'-> ∃m',m'<m/\W (i+1) m' σ' H')/\ ∀x H',J.mZ i H x H'->g x σ H' fun σ2 H2=>tb {D with nx:=N,ct:=N,bk:=D.nx} σ2 H2)
def gw(fp:List Addr)(h:Heap):List (Addr×Obj):=fp.filterMap fun b=>(h.get? b).map fun o=>(b,o)
theorem bd{fp:List Addr}{h:Heap}{b:Addr}{o:Obj}(hb:b∈fp)(e:h.get? b=some o):(b,o)∈gw fp h:=List.mem_filterMap.mpr ⟨b,hb,by rw[e];rfl⟩
theorem ye{fp:List Addr}{h:Heap}{p:Addr×Obj}(hp:p∈gw fp h):p.1∈fp/\h.get? p.1=some p.2:=by
 obtain⟨b,hb,e⟩:=List.mem_filterMap.mp hp
 cases q:h.get? b with
 |none=>rw[q]at e;cases e
 |some o=>
  rw[q]at e
  have e':(b,o)=p:=Option.some.inj e
  subst e'
  exact⟨hb,q⟩
theorem Inv.pinned{pins:List (Addr×Obj)}{σ:St}{H:Hp}{s:Shared}{fp:List Addr}(I:Inv X pins σ H s)(hf: ∀b∈fp,dD X pins H b)(ho: ∀b∈fp,∃o,s.heap.get? b=some o/\ ∀v,o.data≠ .cell v):Inv X (pins++gw fp s.heap) σ H s:=
 I.du fun p hp=>(List.mem_append.mp hp).elim (fun z=>I.pin p (List.mem_append_right _ z)) fun z=>by
  obtain⟨hb,e⟩:=ye z
  obtain⟨f0,f1,f2,_⟩:=hf p.1 hb
  obtain⟨o,e',d⟩:=ho p.1 hb
  rw[e]at e';cases e'
  exact⟨e,f0,f1,f2,d⟩
theorem Inv.mH{pins pl:List (Addr×Obj)}{σ:St}{H:Hp}{s:Shared}(I:Inv X (pins++pl) σ H s):Inv X pins σ H s:=I.du fun p hp=>I.pin p (List.mem_append_right _ (List.mem_append_left _ hp))
theorem cX{iter:Expr}{body:List Stmt}{wi:TI}{g:TG}{tb:TS}{pos:Pos}(hp:PassesOwn (model X.prog X.w) X.A X.env X.xe)(hc:X.calm=true)(hi:PI X tg iter wi)(hg:PG X tg g)(hb:vF X body tb)
  (hs: ∀x,foldedSetIterable iter X.env x=pure x:=by intro _;rfl):PS X (.For tg iter body [] pos) (yU wi g tb):=by
 intro pins s σ H D I h
 refine wpAny_For (aL (hi pins s σ H _ I h) fun v s1 h1=>aL h1 fun itv s2 h2=> ?_) hs
 obtain⟨it,fp,tn,J,H2,e,I2,T,st2,f2,W,⟨m0,w0⟩,turn⟩:=h2
 subst e
 have Hm: ∀ {H':Hp},(∀b∈fp,H' b=none)-> ∀b∈fp,dD X pins H' b:=fun hn b hb=>⟨hn b hb,(f2 b hb).2⟩
 refine codeAny_forLoop_any (fun n s'=> ∃i σ' H',Inv X pins σ' H' s'/\tn i s'.heap/\(∀b∈fp,H' b=none)/\W i n σ' H') ?_ m0 ⟨0,σ,H2,I2,st2,fun b hb=>(f2 b hb).1,w0⟩
 rintro n s3 ⟨i,σ3,H3,I3,st3,tw,w3⟩
 rcases turn i n σ3 H3 w3 with⟨stop,qn⟩|⟨go,N,hN,step⟩
 ·refine wpAny_passesOwn hp (aL (T.done X rfl rfl rfl hc i pins s3 σ3 H3 X.xe I3 (Hm tw) st3 stop) fun r s4 ⟨hr,I4⟩=> ?_)
  subst hr
  exact wpAny_execs_nil ⟨σ3,H3,I4,qn⟩
 ·refine wpAny_passesOwn hp (aL (T.item X rfl rfl rfl hc i pins s3 σ3 H3 X.xe I3 (Hm tw) st3 go) fun r s4 ⟨u,hr,h4⟩=> ?_)
  subst hr
  refine wpAny_passesOwn hp (aL h4 fun _ s5 ⟨x,H5,I5,r5,y5,ki,tX⟩=> ?_)
  have Cw:=I5.pinned (Hm tX) (T.obj _ _ ki)
  refine wpAny_passesOwn hp (aL (hg _ s5 σ3 H5 x u _ Cw r5 (step x H5 y5)) fun _ s6 ⟨zk,H6,I6,q6⟩=> ?_)
  refine wpAny_passesOwn hp (aL (hb _ s6 zk H6 _ I6 q6) fun f s7 q7=> ?_)
  have again: ∀ {zc:St} {H7:Hp},Inv X (pins++gw fp s5.heap) zc H7 s7->N zc H7-> ∃m,m<n/\ ∃i σ' H',Inv X pins σ' H' s7/\tn i s7.heap/\(∀b∈fp,H' b=none)/\W i m σ' H':=fun{zc H7} I7 n7=>by
   obtain⟨m',hm,w7⟩:=hN zc H7 n7
   refine⟨m',hm,i+1,zc,H7,I7.mH,T.keep _ _ _ ki fun b hb o e=>(I7.pin (b,o) (List.mem_append_right _ (List.mem_append_right _ (bd hb e)))).1,fun b hb=> ?_,w7⟩
   obtain⟨o,e,d⟩:=T.obj _ _ ki b hb
   exact(I7.pin (b,o) (List.mem_append_right _ (List.mem_append_right _ (bd hb e)))).2.1
  cases f with
  |next=>obtain⟨zc,H7,I7,n7⟩:=q7;exact again I7 n7
  |cont=>obtain⟨zc,H7,I7,n7⟩:=q7;exact again I7 n7
  |brk=>obtain⟨zc,H7,I7,q7⟩:=q7;exact⟨zc,H7,I7.mH,q7⟩
  |ret v=>obtain⟨x7,zc,H7,I7,r7,q7⟩:=q7;exact⟨x7,zc,H7,I7.mH,r7,q7⟩
end
theorem vT{K:PySem.W.Frag}{a:Addr}{xs:List V}{g:TG}{tb:TS}{D:Ends}{σ:St}{H:Hp}(Pv:Nat->St->Hp->Prop)(h0:Pv 0 σ H)(hl: ∀i σ H,i<=xs.length->Pv i σ H->bn K H a xs)
  (hs: ∀i x σ H,xs[i]? =some x->Pv i σ H->g x σ H fun σ2 H2=>tb {D with nx:=Pv (i+1),ct:=Pv (i+1),bk:=D.nx} σ2 H2)(hd: ∀σ H,Pv xs.length σ H->D.nx σ H):
  ∃W:Nat->Nat->St->Hp->Prop,(∃m,W 0 m σ H)/\ ∀i m σ H,W i m σ H->
   ((Iu K a).stop i H/\D.nx σ H)\/((Iu K a).go i H/\ ∃N:St->Hp->Prop,(∀σ' H',N σ' H'-> ∃m',m'<m/\W (i+1) m' σ' H')/\ ∀x H',(Iu K a).mZ i H x H'->g x σ H' fun σ2 H2=>tb {D with nx:=N,ct:=N,bk:=D.nx} σ2 H2):=by
 refine⟨fun i m σ H=>m=xs.length-i/\i<=xs.length/\Pv i σ H,⟨xs.length,by simp,Nat.zero_le _,h0⟩,?_⟩
 rintro i m σ H ⟨rfl,hi,p⟩
 have q:=hl i σ H hi p
 by_cases hlt:i<xs.length
 ·refine .inr ⟨⟨xs,xs[i],q,by simp[hlt]⟩,Pv (i+1),fun σ' H' p'=>⟨xs.length- (i+1),by omega,rfl,hlt,p'⟩,fun x H' y=> ?_⟩
  obtain⟨e,y⟩:=y
  subst e
  exact hs i x σ _ (y xs q) p
 ·have e:i=xs.length:=by omega
  subst e
  exact .inl ⟨⟨xs,q,Nat.le_refl _⟩,hd σ H p⟩
end L2
namespace L2
open PySem PySem.Spec PyProof.Rows
abbrev R2:=V->V->Hp->VK->Prop
def gG(X:Cx)(f:Value->Value->Sem Value)(r:R2):Prop:=
 ∀ (pins:List (Addr×Obj)) (s:Shared) (σ:St) (H:Hp) (x y:V) (v u:Value) (Q:VK),Inv X pins σ H s->RelV x v->RelV y u->r x y H Q->
  wpAny (model X.prog X.w) X.A (f v u) (EP X pins σ Q) X.xe s
def Lu(X:Cx)(f:Value->Sem Value)(r:V->Hp->VK->Prop):Prop:=
 ∀ (pins:List (Addr×Obj)) (s:Shared) (σ:St) (H:Hp) (x:V) (v:Value) (Q:VK),Inv X pins σ H s->RelV x v->r x H Q->
  wpAny (model X.prog X.w) X.A (f v) (EP X pins σ Q) X.xe s
def dc(X:Cx)(f:Value)(r:List V->Hp->VK->Prop):Prop:=
 ∀ (pins:List (Addr×Obj)) (s:Shared) (σ:St) (H:Hp) (xs:List V) (us:List Value) (Q:VK),Inv X pins σ H s->Vals xs us->r xs H Q->
  wpAny (model X.prog X.w) X.A (call f us) (EP X pins σ Q) X.xe s
def Ls(X:Cx)(r:V->Hp->(Bool->Hp->Prop)->Prop):Prop:=
 ∀ (pins:List (Addr×Obj)) (s:Shared) (σ:St) (H:Hp) (x:V) (v:Value) (Q:Bool->Hp->Prop),Inv X pins σ H s->RelV x v->r x H Q->
  wpAny (model X.prog X.w) X.A (truthy v) (TP X pins σ Q) X.xe s
def j8(r:R2)(ta tb:TE):TE:=fun σ H Q=>ta σ H fun x H1=>tb σ H1 fun y H2=>r x y H2 Q
def Nv(r:V->Hp->VK->Prop)(ta:TE):TE:=fun σ H Q=>ta σ H fun x H1=>r x H1 Q
inductive rI(C:Int->Int->Prop)(g:Int->Int->V)(x:V)(y:V)(H:Hp)(Q:VK):Prop
 |mk (i j:_) (_:x= .int i) (_:y= .int j) (_:C i j) (_:Q (g i j) H)
inductive Cs(g:Int->Int->V)(x:V)(y:V)(H:Hp)(Q:VK):Prop
 |mk (i j:_) (_:x= .int i) (_:y= .int j) (_:Q (g i j) H)
inductive rU(g:Int->V)(x:V)(H:Hp)(Q:VK):Prop
 |mk (i:_) (_:x= .int i) (_:Q (g i) H)
section
variable{X:Cx}{a b c:Expr}{ta tb tc:TE}{pos:Pos}
theorem Fv(ha:PE X a ta)(hb:PE X b tb){pins:List (Addr×Obj)}{s:Shared}{σ:St}{H:Hp}{R:V->V->Hp->Prop}(I:Inv X pins σ H s)
  (h:ta σ H fun x H1=>tb σ H1 fun y H2=>R x y H2){Q:Value->Shared->Prop}{f:Value->Value->Sem Value}
  (hf: ∀v u s2 x y H2,Inv X pins σ H2 s2->RelV x v->RelV y u->R x y H2->wpAny (model X.prog X.w) X.A (f v u) Q X.xe s2):
  wpAny (model X.prog X.w) X.A (eval a X.env) (fun v s₁=>wpAny (model X.prog X.w) X.A (eval b X.env) (fun u s₂=>wpAny (model X.prog X.w) X.A (f v u) Q X.xe s₂) X.xe s₁) X.xe s:=by
 refine aL (ha pins s σ H _ I h) fun v s1 ⟨x,H1,I1,r1,q1⟩=> ?_
 refine aL (hb pins s1 σ H1 _ I1 q1) fun u s2 ⟨y,H2,I2,r2,q2⟩=> ?_
 exact hf v u s2 x y H2 I2 r1 r2 q2
theorem bp{op:Operator}{r:R2}(ho:gG X (binaryOp op) r)(ha:PE X a ta)(hb:PE X b tb):PE X (.BinOp a op b pos) (j8 r ta tb):=by
 intro pins s σ H Q I h
 exact wpAny_BinOp (Fv ha hb I h fun v u s2 x y H2 I2 rx ry q=>ho pins s2 σ H2 x y v u Q I2 rx ry q)
theorem wB{op:UnaryOp}{r:V->Hp->VK->Prop}(ho:Lu X (unaryOp op) r)(ha:PE X a ta):PE X (.UnaryOp op a pos) (Nv r ta):=by
 intro pins s σ H Q I h
 exact UnaryOp_ (aL (ha pins s σ H _ I h) fun v s1 ⟨x,H1,I1,r1,q1⟩=>ho pins s1 σ H1 x v Q I1 r1 q1)
theorem K5{f:Value->Value->Sem Value}{C:Int->Int->Prop}{g:Int->Int->Int}
  (rule: ∀ (i j:Int) (t u:Tok) (s:Shared) (Q:Value->Shared->Prop) (E:Value->Shared->Prop),C i j->Q (.int (g i j) s.toks) {s with toks:=s.toks+1}->wpAny (model X.prog X.w) X.A (f (.int i t) (.int j u)) Q E s):
  gG X f (rI C fun i j=> .int (g i j)):=by
 intro pins s σ H x y v u Q I rx ry h
 obtain⟨i,j,rfl,rfl,hc,q⟩:=h
 obtain⟨t,rfl⟩:=rx
 obtain⟨t',rfl⟩:=ry
 exact rule i j t t' s _ _ hc ⟨.int (g i j),H,I.tok _,⟨_,rfl⟩,q⟩
theorem MX{f:Value->Value->Sem Value}{g:Int->Int->Int}
  (rule: ∀ (i j:Int) (t u:Tok) (s:Shared) (Q:Value->Shared->Prop) (E:Value->Shared->Prop),Q (.int (g i j) s.toks) {s with toks:=s.toks+1}->wpAny (model X.prog X.w) X.A (f (.int i t) (.int j u)) Q E s):
  gG X f (Cs fun i j=> .int (g i j)):=by
 intro pins s σ H x y v u Q I rx ry h
 obtain⟨i,j,rfl,rfl,q⟩:=h
 obtain⟨t,rfl⟩:=rx
 obtain⟨t',rfl⟩:=ry
 exact rule i j t t' s _ _ ⟨.int (g i j),H,I.tok _,⟨_,rfl⟩,q⟩
theorem GD{f:Value->Value->Sem Value}{g:Int->Int->Bool}
  (rule: ∀ (i j:Int) (t u:Tok) (s:Shared) (Q:Value->Shared->Prop) (E:Value->Shared->Prop),Q (.bool (g i j)) s->wpAny (model X.prog X.w) X.A (f (.int i t) (.int j u)) Q E s):
  gG X f (Cs fun i j=> .bl (g i j)):=by
 intro pins s σ H x y v u Q I rx ry h
 obtain⟨i,j,rfl,rfl,q⟩:=h
 obtain⟨t,rfl⟩:=rx
 obtain⟨t',rfl⟩:=ry
 exact rule i j t t' s _ _ ⟨.bl (g i j),H,I,rfl,q⟩
def Lj(i j:Int):Prop:=0<j/\j<1073741824
def Lk(i j:Int):Prop:=0<=j/\j<=1000000/\i.natAbs<2^64
def Fl(i j:Int):Prop:=(-(2^64)<i/\i<2^64)\/(-(2^64)<j/\j<2^64)
theorem Fl.ok{i j:Int}(h:Fl i j):IntMulOk i j:=by
 rcases h with⟨h1,h2⟩|⟨h1,h2⟩
 ·exact .of_left (intBits_le_64 h1 h2)
 ·exact .of_right (intBits_le_64 h1 h2)
theorem fQ:gG X (binaryOp .Add) (Cs fun i j=> .int (i+j)):=MX fun _ _ _ _ _ _ _ q=>add_int q
theorem pL:gG X (binaryOp .Mult) (rI Fl fun i j=> .int (i*j)):=K5 fun _ _ _ _ _ _ _ hc q=>mul_int q hc.ok
theorem kD:gG X (binaryOp .FloorDiv) (rI Lj fun i j=> .int (i/j)):=K5 fun i j _ _ _ _ _ hc q=>by
 have h1:(0:Int)<j:=hc.1
 have h2:j<1073741824:=hc.2
 exact floordiv_int (by omega) (by rw[Int.fdiv_eq_ediv_of_nonneg i (by omega)];exact q) (.inl (PyProof.noPylong_small (by omega)))
theorem ip:gG X (binaryOp .Mod) (rI (fun _ j=>0<j) fun i j=> .int (i%j)):=K5 fun i j _ _ _ _ _ hc q=>by
 have h1:(0:Int)<j:=hc
 exact mod_int' (by omega) (by rw[Int.fmod_eq_emod_of_nonneg i (by omega)];exact q)
theorem AY:gG X (binaryOp .Pow) (rI Lk fun i j=> .int (i^j.toNat)):=K5 fun _ _ _ _ _ _ _ hc q=>pow_int_small hc.1 hc.2.1 hc.2.2 q
theorem So{f:Value->Sem Value}{g:Int->Int}
  (rule: ∀ (i:Int) (t:Tok) (s:Shared) (Q:Value->Shared->Prop) (E:Value->Shared->Prop),Q (.int (g i) s.toks) {s with toks:=s.toks+1}->wpAny (model X.prog X.w) X.A (f (.int i t)) Q E s):
  Lu X f (rU fun i=> .int (g i)):=by
 intro pins s σ H x v Q I rx h
 obtain⟨i,rfl,q⟩:=h
 obtain⟨t,rfl⟩:=rx
 exact rule i t s _ _ ⟨.int (g i),H,I.tok _,⟨_,rfl⟩,q⟩
theorem qq:Lu X (unaryOp .USub) (rU fun i=> .int (-i)):=So fun _ _ _ _ _ q=>neg_int q
end
def Kj:V->V->Bool
 | .aH,.aH=>true| .aH,.int _=>true| .int _,.aH=>true| .aH,.bl _=>true| .bl _,.aH=>true| .aH,.str _=>true| .str _,.aH=>true
 | .int _,.int _=>true| .bl _,.bl _=>true| .str _,.str _=>true| .tu _,.tu _=>true
 | .int _,.str _=>true| .str _,.int _=>true| .bl _,.str _=>true| .str _,.bl _=>true
 |_,_=>false
def R3:R2:=fun x y H Q=>Kj x y=true/\Q (.bl (decide (x=y))) H
def OI:R2:=fun x y H Q=>Kj x y=true/\Q (.bl (!decide (x=y))) H
theorem vN{i j:Int}:decide (V.int i=V.int j)=(i==j):=by
 rw[Bool.eq_iff_iff]
 simp
theorem zF{i j:Bool}:decide (V.bl i=V.bl j)=(i==j):=by
 rw[Bool.eq_iff_iff]
 simp
theorem vO{i j:Str}:decide (V.str i=V.str j)=(i==j):=by
 rw[Bool.eq_iff_iff]
 simp
theorem vM{i j:Array UInt8}:decide (V.tu i=V.tu j)=(i.toList==j.toList):=by
 rw[Bool.eq_iff_iff]
 cases i
 cases j
 simp
section
variable{X:Cx}{a b c:Expr}{ta tb tc:TE}{pos:Pos}
theorem aX{pins:List (Addr×Obj)}{σ:St}{H:Hp}{s:Shared}{Q:VK}{k k':Bool}(I:Inv X pins σ H s)(q:Q (.bl k) H)(e:k=k'):EP X pins σ Q (.bool k') s:=by
 subst e
 exact⟨.bl k,H,I,rfl,q⟩
theorem hJ:gG X (compareOp .Eq) R3:=by
 intro pins s σ H x y v u Q I rx ry h
 obtain⟨hs,q⟩:=h
 cases x with
 |aH=>
  cases rx
  cases y with
  |aH=>cases ry;exact PySem.EqNone.eq_none_none (aX I q (by simp))
  |bl j=>cases ry;exact PySem.EqNone.eq_none_bool (aX I q (by simp))
  |int j=>obtain⟨t',rfl⟩:=ry;exact PySem.EqNone.eq_none_int (aX I q (by simp))
  |str j=>obtain⟨t',rfl⟩:=ry;exact PySem.EqNone.eq_none_str (aX I q (by simp))
  |_=>exact absurd (show false=true from hs) Bool.false_ne_true
 |bl i=>
  cases rx
  cases y with
  |aH=>cases ry;exact PySem.EqNone.eq_bool_none (aX I q (by simp))
  |bl j=>cases ry;exact eq_bool (aX I q zF)
  |str j=>obtain⟨t',rfl⟩:=ry;exact PySem.EqMixed.eq_bool_str (aX I q (by simp))
  |_=>exact absurd (show false=true from hs) Bool.false_ne_true
 |int i=>
  obtain⟨t,rfl⟩:=rx
  cases y with
  |aH=>cases ry;exact PySem.EqNone.eq_int_none (aX I q (by simp))
  |int j=>obtain⟨t',rfl⟩:=ry;exact eq_int (aX I q vN)
  |str j=>obtain⟨t',rfl⟩:=ry;exact PySem.EqMixed.eq_int_str (aX I q (by simp))
  |_=>exact absurd (show false=true from hs) Bool.false_ne_true
 |str i=>
  obtain⟨t,rfl⟩:=rx
  cases y with
  |aH=>cases ry;exact PySem.EqNone.eq_str_none (aX I q (by simp))
  |bl j=>cases ry;exact PySem.EqMixed.eq_str_bool (aX I q (by simp))
  |int j=>obtain⟨t',rfl⟩:=ry;exact PySem.EqMixed.eq_str_int (aX I q (by simp))
  |str j=>obtain⟨t',rfl⟩:=ry;exact eq_str (aX I q vO)
  |_=>exact absurd (show false=true from hs) Bool.false_ne_true
 |tu i=>
  obtain⟨t,rfl⟩:=rx
  cases y with
  |tu j=>obtain⟨t',rfl⟩:=ry;exact PySem.W.eq_bytes (aX I q vM)
  |_=>exact absurd (show false=true from hs) Bool.false_ne_true
 |_=>cases y<;>exact absurd (show false=true from hs) Bool.false_ne_true
theorem nU:gG X (compareOp .NotEq) OI:=by
 intro pins s σ H x y v u Q I rx ry h
 obtain⟨hs,q⟩:=h
 cases x with
 |aH=>
  cases rx
  cases y with
  |aH=>cases ry;exact PySem.EqNone.ne_none_none (aX I q (by simp))
  |bl j=>cases ry;exact PySem.EqNone.ne_none_bool (aX I q (by simp))
  |int j=>obtain⟨t',rfl⟩:=ry;exact PySem.EqNone.ne_none_int (aX I q (by simp))
  |str j=>obtain⟨t',rfl⟩:=ry;exact PySem.EqNone.ne_none_str (aX I q (by simp))
  |_=>exact absurd (show false=true from hs) Bool.false_ne_true
 |bl i=>
  cases rx
  cases y with
  |aH=>cases ry;exact PySem.EqNone.ne_bool_none (aX I q (by simp))
  |bl j=>cases ry;exact ne_bool (aX I q (congrArg not zF))
  |str j=>obtain⟨t',rfl⟩:=ry;exact PySem.EqMixed.ne_bool_str (aX I q (by simp))
  |_=>exact absurd (show false=true from hs) Bool.false_ne_true
 |int i=>
  obtain⟨t,rfl⟩:=rx
  cases y with
  |aH=>cases ry;exact PySem.EqNone.ne_int_none (aX I q (by simp))
  |int j=>obtain⟨t',rfl⟩:=ry;exact ne_int (aX I q (congrArg not vN))
  |str j=>obtain⟨t',rfl⟩:=ry;exact PySem.EqMixed.ne_int_str (aX I q (by simp))
  |_=>exact absurd (show false=true from hs) Bool.false_ne_true
 |str i=>
  obtain⟨t,rfl⟩:=rx
  cases y with
  |aH=>cases ry;exact PySem.EqNone.ne_str_none (aX I q (by simp))
  |bl j=>cases ry;exact PySem.EqMixed.ne_str_bool (aX I q (by simp))
  |int j=>obtain⟨t',rfl⟩:=ry;exact PySem.EqMixed.ne_str_int (aX I q (by simp))
  |str j=>obtain⟨t',rfl⟩:=ry;exact ne_str (aX I q (congrArg not vO))
  |_=>exact absurd (show false=true from hs) Bool.false_ne_true
 |tu i=>
  obtain⟨t,rfl⟩:=rx
  cases y with
  |tu j=>obtain⟨t',rfl⟩:=ry;exact PySem.W.ne_bytes (aX I q (congrArg not vM))
  |_=>exact absurd (show false=true from hs) Bool.false_ne_true
 |_=>cases y<;>exact absurd (show false=true from hs) Bool.false_ne_true
theorem gu:gG X (compareOp .LtE) (Cs fun i j=> .bl (decide (i<=j))):=GD fun _ _ _ _ _ _ _ q=>le_int q
theorem nS:gG X (compareOp .Gt) (Cs fun i j=> .bl (decide (j<i))):=GD fun _ _ _ _ _ _ _ q=>gt_int q
theorem JT:gG X (compareOp .GtE) (Cs fun i j=> .bl (decide (j<=i))):=GD fun _ _ _ _ _ _ _ q=>ge_int q
theorem yq:gG X (compareOp .In) (fun x y H Q=> ∃i j,x= .str i/\y= .str j/\Q (.bl (!(Builtin.Str.occurrences j i 0 j.length 1).isEmpty)) H):=by
 intro pins s σ H x y v u Q I rx ry h
 obtain⟨i,j,rfl,rfl,q⟩:=h
 obtain⟨t,rfl⟩:=rx
 obtain⟨t',rfl⟩:=ry
 exact in_str (aX I q rfl)
theorem aY(b:Expr){op:CmpOp}(h:op≠ .In:=by decide)(h2:op≠ .NotIn:=by decide):behindInMarks op b=false:=by
 have e1:(op==CmpOp.In)=false:=by cases op<;>first|rfl|exact absurd rfl h
 have e2:(op==CmpOp.NotIn)=false:=by cases op<;>first|rfl|exact absurd rfl h2
 cases b<;>simp[behindInMarks,e1,e2]
theorem dO{op:CmpOp}{r:R2}(ho:gG X (compareOp op) r)(ha:PE X a ta)(hb:PE X b tb)(hm:behindInMarks op b=false):PE X (.Compare a [op] [b] pos) (j8 r ta tb):=by
 intro pins s σ H Q I h
 exact wpAny_Compare1 (Fv ha hb I h fun v u s2 x y H2 I2 rx ry q=>ho pins s2 σ H2 x y v u Q I2 rx ry q) hm
def mF(t:TE):TT:=fun σ H Q=>t σ H (JX Q)
theorem aP{op:CmpOp}{r:R2}(ho:gG X (compareOp op) r)(ha:PE X a ta)(hb:PE X b tb)(hm:behindInMarks op b=false):PT X (.Compare a [op] [b] pos) (mF (j8 r ta tb)):=by
 intro pins s σ H Q I h
 refine wpAny_isTrue_Compare1 (aL (ha pins s σ H _ I h) fun v s1 ⟨x,H1,I1,r1,q1⟩=>aL (hb pins s1 σ H1 _ I1 q1) fun u s2 ⟨y,H2,I2,r2,q2⟩=>
  aL (ho pins s2 σ H2 x y v u _ I2 r1 r2 q2) fun c s3 ⟨z,H3,I3,r3,k,e,q3⟩=> ?_) hm
 subst e
 cases r3
 exact wpAny_truthy_bool ⟨H3,I3,q3⟩
def B9(r r':R2)(ta tb tc:TE):TE:=fun σ H Q=>ta σ H fun x H1=>tb σ H1 fun y H2=>r x y H2 fun z H3=> ∃k,z= .bl k/\
 (if k=true then tc σ H3 fun w' H4=>r' y w' H4 Q else Q (.bl false) H3)
theorem lW{op op':CmpOp}{r r':R2}(ho:gG X (compareOp op) r)(ho':gG X (compareOp op') r')(ha:PE X a ta)(hb:PE X b tb)(hc:PE X c tc)
  (hm:lastMarks [op,op'] [b,c]=false:=by with_unfolding_all rfl):PE X (.Compare a [op,op'] [b,c] pos) (B9 r r' ta tb tc):=by
 intro pins s σ H Q I h
 refine Compare_chain (aL (ha pins s σ H _ I h) fun v s1 ⟨x,H1,I1,r1,q1⟩=>chain_link (aL (hb pins s1 σ H1 _ I1 q1) fun u s2 ⟨y,H2,I2,r2,q2⟩=>
  aL (ho pins s2 σ H2 x y v u _ I2 r1 r2 q2) fun d s3 ⟨z,H3,I3,r3,k,e,q3⟩=> ?_)) hm
 subst e
 cases r3
 refine wpAny_truthy_bool ?_
 cases k with
 |false=>exact ite_ff ⟨.bl false,H3,I3,rfl,q3⟩
 |true=>exact ite_tt (chain_last (aL (hc pins s3 σ H3 _ I3 q3) fun w' s4 ⟨z',H4,I4,r4,q4⟩=>ho' pins s4 σ H4 y z' u w' Q I4 r2 r4 q4))
theorem sq{op op':CmpOp}{r r':R2}(ho:gG X (compareOp op) r)(ho':gG X (compareOp op') r')(ha:PE X a ta)(hb:PE X b tb)(hc:PE X c tc)
  (hm:lastMarks [op,op'] [b,c]=false:=by with_unfolding_all rfl):PT X (.Compare a [op,op'] [b,c] pos) (mF (B9 r r' ta tb tc)):=by
 intro pins s σ H Q I h
 refine isTrue_chain (aL (ha pins s σ H _ I h) fun v s1 ⟨x,H1,I1,r1,q1⟩=>test_link (aL (hb pins s1 σ H1 _ I1 q1) fun u s2 ⟨y,H2,I2,r2,q2⟩=>
  aL (ho pins s2 σ H2 x y v u _ I2 r1 r2 q2) fun d s3 ⟨z,H3,I3,r3,k,e,q3⟩=> ?_)) hm
 subst e
 cases r3
 refine wpAny_truthy_bool ?_
 cases k with
 |false=>
  obtain⟨k',e',q'⟩:=q3
  cases e'
  exact ite_ff ⟨H3,I3,q'⟩
 |true=>
  refine ite_tt (test_last (aL (hc pins s3 σ H3 _ I3 q3) fun w' s4 ⟨z',H4,I4,r4,q4⟩=>aL (ho' pins s4 σ H4 y z' u w' _ I4 r2 r4 q4) fun d' s5 ⟨z2,H5,I5,r5,k2,e2,q5⟩=> ?_))
  subst e2
  cases r5
  exact wpAny_truthy_bool ⟨H5,I5,q5⟩
def IE(K:PySem.W.Frag)(x:V)(H:Hp)(k:Bool):Prop:=
 match x with
 | .aH=>k=false
 | .bl b=>k=b
 | .int i=>k=(i !=0)
 | .str y=>y.length<=sizeLine/\k=((y.length:Int) !=0)
 | .tu y=>y.size<=sizeLine/\k=((y.size:Int) !=0)
 | .ref p=>(∃xs,aN K H p xs/\k= !xs.isEmpty)\/(∃xs,bn K H p xs/\k= !xs.isEmpty)\/ ∃kvs,H p=some (.dK kvs)/\k= !kvs.isEmpty
 |_=>False
theorem ui{κ:Type}{kvs:List (κ×V)}{vs:List (κ×Value)}(r:KV kvs vs):(!vs.isEmpty)= !kvs.isEmpty:=by
 cases r<;>rfl
theorem lH{xs:List V}{its:List Value}(r:Vals xs its):(!its.toArray.isEmpty)= !xs.isEmpty:=by
 cases r<;>simp
theorem jG:(sizeLine:Nat)<2^63:=by rw[sizeLine_eq];decide
theorem HG:Ls X (fun x H Q=> ∃k,IE X.K x H k/\Q k H):=by
 intro pins s σ H x v Q I rx h
 obtain⟨k,e,q⟩:=h
 have hl:=jG
 have hs:sizeLine=16777216:=sizeLine_eq
 cases x with
 |aH=>
  cases rx
  have e':k=false:=e
  subst e'
  exact truthy_none ⟨H,I,q⟩
 |bl b=>
  cases rx
  have e':k=b:=e
  subst e'
  exact wpAny_truthy_bool ⟨H,I,q⟩
 |int i=>
  obtain⟨t,rfl⟩:=rx
  have e':k=(i !=0):=e
  subst e'
  exact PySem.P.truthy_int ⟨H,I,q⟩
 |str y=>
  obtain⟨t,rfl⟩:=rx
  obtain⟨hy,e'⟩:y.length<=sizeLine/\k=((y.length:Int) !=0):=e
  subst e'
  exact PySem.P.truthy_str (by omega) ⟨H,I.tok _,q⟩
 |tu y=>
  obtain⟨t,rfl⟩:=rx
  obtain⟨hy,e'⟩:y.size<=sizeLine/\k=((y.size:Int) !=0):=e
  subst e'
  exact PySem.W.truthy_bytes (by omega) ⟨H,I.tok _,q⟩
 |ref p=>
  cases rx
  have e':(∃xs,aN X.K H p xs/\k= !xs.isEmpty)\/(∃xs,bn X.K H p xs/\k= !xs.isEmpty)\/ ∃kvs,H p=some (.dK kvs)/\k= !kvs.isEmpty:=e
  rcases e' with⟨xs,hx,e'⟩|⟨xs,hx,e'⟩|⟨kvs,hx,e'⟩
  ·subst e'
   obtain⟨its,r,pl,hz⟩:=I.list hx
   have hlen:=r.length
   exact wpAny_truthy_list pl.isList (by simp only[List.size_toArray];omega) ⟨H,I.tok _,by rw[lH r];exact q⟩
  ·subst e'
   obtain⟨its,r,pl,hz⟩:=I.tuple hx
   have hlen:=r.length
   exact truthy_tuple pl (by simp only[List.size_toArray];omega) ⟨H,I.tok _,by rw[lH r];exact q⟩
  ·subst e'
   obtain⟨hz,hS,vs,r,m⟩:kvs.length<=sizeLine/\(p==sysModules)=false/\ ∃vs,KV kvs vs/\s.heap.DictOf (aO X.prog X.w) p vs:=I.hok p _ hx
   have hlen:kvs.length=vs.length:=Paired.length r
   exact wpAny_truthy_dict hS m (by omega) ⟨H,I.tok _,by rw[ui r];exact q⟩
 |_=>exact(show False from e).elim
theorem jh(ha:PE X a ta)(he: ∀whole,isTrue a X.env whole=(do let v<-whole;standAt a.pos;holding [v] (truthy v))):
  PT X a (fun σ H Q=>ta σ H fun x H'=> ∃k,IE X.K x H' k/\Q k H'):=by
 intro pins s σ H Q I h
 exact isTrue_plain (aL (ha pins s σ H _ I h) fun v s1 ⟨x,H1,I1,r1,q1⟩=>HG pins s1 σ H1 x v Q I1 r1 q1) (he _)
theorem vals1{x:V}{us:List Value}(r:Vals [x] us): ∃u,us= [u]/\RelV x u:=by
 cases r with
 |cons r1 r2=>cases r2;exact⟨_,rfl,r1⟩
theorem vals2{x y:V}{us:List Value}(r:Vals [x,y] us): ∃u w',us= [u,w']/\RelV x u/\RelV y w':=by
 cases r with
 |cons r1 r2=>
  cases r2 with
  |cons r3 r4=>cases r4;exact⟨_,_,rfl,r1,r3⟩
end
end L2
namespace L2
open PySem PySem.Spec PyProof.Rows
structure tH(h:Heap)(x dx C:Addr)(mA:Str->Option Value):Prop where
 obj:h.get? x=some (PySem.W.instObj C dx)
 ns:h.Ns1 dx mA
 ne:dx≠x
theorem xS{h:Heap}{dx:Addr}{mA:Str->Option Value}(n:h.Ns1 dx mA): ∃od,h.get? dx=some od/\ ∀name,PySem.W.lookIn name od=some (mA name):=by
 obtain⟨o,es,ep,ho,hd,hk,_,hm⟩:=n
 refine⟨o,ho,fun name=> ?_⟩
 have e:=hm name
 unfold nsFind findBy at e
 rw[<-Array.find?_toList]at e
 unfold PySem.W.lookIn
 rw[hd]
 dsimp only
 split
 ·rename_i y q
  rw[q]at e
  exact congrArg some e
 ·rename_i q
  rw[q]at e
  have a:es.toList.any (·.refKey)=false:=by
   rw[List.any_eq_false]
   intro y hy
   obtain⟨z,t,hkey⟩:=hk y (Array.mem_toList_iff.mp hy)
   simp[DictEntry.refKey,hkey]
  have a': ¬es.toList.any (·.refKey)=true:=by rw[a];exact Bool.false_ne_true
  rw[if_neg a']
  exact congrArg some e
theorem tH.look{h:Heap}{x dx C:Addr}{mA:Str->Option Value}(I:tH h x dx C mA): ∃od,PySem.W.InstAt h x (PySem.W.instObj C dx) C (some od)/\ ∀name,PySem.W.lookIn name od=some (mA name):=
 let⟨od,ho,hl⟩:=xS I.ns
 ⟨od,⟨I.obj,rfl,rfl,ho⟩,hl⟩
section
variable{prog:Program}{w:World}{A:Around}{E:Value->Shared->Prop}{s:Shared}{K:PySem.W.Frag}{x dx C f:Addr}{mA:Str->Option Value}{name:Str}{v:Value}
theorem get_map{expr:Bool}{Q:Value->Shared->Prop}(X:K.In s.heap)(I:tH s.heap x dx C mA)(hg:PySem.W.plainGet K C name=true)(hh:PySem.W.hasDictIn K C=true)
  (ha:PySem.W.findIn K (.ref C) name=some none)(hv:mA name=some v)(hv':PySem.W.handedIn v=true)(h:Q v {s with toks:=s.toks+1}):
  wpAny (model prog w) A (getAttr (.ref x) name expr) Q E s:=by
 obtain⟨od,J,hl⟩:=I.look
 exact PySem.W.get_value X J (PySem.W.plainGet_of hg).1 (PySem.W.findObj_own hh ha rfl (by rw[hl,hv])) hv' h
theorem zW{pl:Sem Bool}{Q:Value×List Value->Shared->Prop}(X:K.In s.heap)(I:tH s.heap x dx C mA)(hg:PySem.W.plainGet K C name=true)
  (hf:PySem.W.findIn K (.ref C) name=some (some (.ref f)))(ht:PySem.W.isFn K (.ref f)=true)(hv:mA name=none)(h:Q (.ref f,[.ref x]) s):
  wpAny (model prog w) A (getMethod (.ref x) name pl) Q E s:=by
 obtain⟨od,J,hl⟩:=I.look
 exact PySem.W.method_fn X J (PySem.W.plainGet_of hg).1 (PySem.W.plainGet_of hg).2 hf (beq_iff_eq.mp ht) (by show(PySem.W.lookIn name od).map (·.isSome)=some false;rw[hl,hv];rfl) h
theorem gP{ns:List Str}{Q:Unit->Shared->Prop}(X:K.In s.heap)(I:tH s.heap x dx C mA)
  (hs:PySem.W.findIn K (.ref C) "__setattr__"=some (some (.builtin "object.__setattr__")))(hp:PySem.W.plainOver K C=true)(ht:PySem.W.takerIn K C name=some none)(hh:PySem.W.hasDictIn K C=true)
  (hw:PySem.Within mA ns)(hsz:ns.length<=sizeLine)
  (h: ∀h',tH h' x dx C (fun y=>if y=name then some v else mA y)->Heap.SameBut dx s.heap h'->Q () {s with heap:=h',toks:=s.toks+2}):
  wpAny (model prog w) A (setAttr (.ref x) name v) Q E s:=by
 obtain⟨od,J,hl⟩:=I.look
 refine PySem.W.set_plain X J hs (PySem.W.osa_open (s:= {s with toks:=s.toks+1}) (r:=none) X J hp ht fun b=> ?_)
 obtain⟨cd,hc,hd'⟩:=PySem.W.any_some hh
 have hx:s.heap.get? x=some ⟨.ref C,some dx,.plain, #[]⟩:=I.obj
 refine wpAny_bind (wpAny_pure (wpAny_bind (wpAny_bind (wpAny_loadPart hx (wpAny_bind (PySem.W.Looks.here (s:= {s with toks:=s.toks+1}) (PySem.W.looks_clsIn X hc) ?_))))))
 rw[hd']
 refine wpAny_pure (a:=some dx) (wpAny_bind (wpAny_pure (wpAny_bind ?_)))
 refine wpAny_nsSet1 (s:= {s with toks:=s.toks+1}) I.ns fun h' hn2 hs2=> ?_
 obtain⟨oD,esD,SA,QW,QB,Qz⟩:=hn2.count (PySem.Within.cons name v hw)
 refine wpAny_bind (wpAny_lookBehind QW (by rw[QB];exact pastItsLine_dict (Nat.le_trans Qz (by rw[List.length_cons];omega))) ?_)
 exact wpAny_pure (h _ ⟨(hs2.2 _ (Ne.symm I.ne)).trans I.obj,hn2,I.ne⟩ hs2)
theorem rJ{R:Result->Shared->Prop}{vs:List Value}{kw:List (Str×Value)}(X:K.In s.heap)(hm:PySem.W.makesIn K C=true)
  (hi:PySem.W.findIn K (.ref C) "__init__"=some (some (.ref f)))(hf:PySem.W.typeIn K (.ref f)=some (.type "function"))
  (h:codeAny (model prog w) (A.under (.builtin "type.__call__" ⟨.ref C::vs,kw⟩)) (.call (.ref f) ⟨.ref (s.heap.objs.size+1)::vs,kw⟩) (PySem.W.InitBack (s.heap.objs.size+1) R)
   {s with heap:=(s.heap.push PySem.W.emptyDict).push (PySem.W.instObj C s.heap.objs.size)}):
  codeAny (model prog w) A (.call (.ref C) ⟨vs,kw⟩) R s:=by
 obtain⟨hh,g,d,t,os⟩:=s
 exact PySem.W.make_core (PySem.W.makes_of X hm) (PySem.W.looks_findIn X hi) (fun self=>PySem.W.bind_fn X self hf) (.inl rfl) h
end
def bP(f:Str)(v:V):List (Str×V)->List (Str×V)
 | []=> [(f,v)]
 |(g,x)::r=>if g=f then(g,v)::r else(g,x)::bP f v r
theorem gp(f g:Str)(v:V): ∀fs:List (Str×V),(bP f v fs).lookup g=if g=f then some v else fs.lookup g
 | []=>by
  show List.lookup g [(f,v)]=_
  by_cases h:g=f
  ·have hb:(g==f)=true:=beq_iff_eq.mpr h
   simp only[List.lookup,hb,if_pos h]
  ·have hb:(g==f)=false:=beq_eq_false_iff_ne.mpr h
   simp only[List.lookup,hb,if_neg h]
 |(k,x)::r=>by
  have ih:=gp f g v r
  rw[show bP f v ((k,x)::r)=(if k=f then(k,v)::r else(k,x)::bP f v r)from rfl]
  by_cases hk:k=f
  ·rw[if_pos hk]
   by_cases h:g=k
   ·have hb:(g==k)=true:=beq_iff_eq.mpr h
    simp only[List.lookup,hb,if_pos (h.trans hk)]
   ·have hb:(g==k)=false:=beq_eq_false_iff_ne.mpr h
    simp only[List.lookup,hb,if_neg (fun e:g=f=>h (e.trans hk.symm))]
  ·rw[if_neg hk]
   by_cases h:g=k
   ·have hb:(g==k)=true:=beq_iff_eq.mpr h
    simp only[List.lookup,hb,if_neg (fun e:g=f=>hk (h.symm.trans e))]
   ·have hb:(g==k)=false:=beq_eq_false_iff_ne.mpr h
    simp only[List.lookup,hb]
    exact ih
theorem jD(f:Str)(v:V): ∀fs:List (Str×V),f∈(bP f v fs).map (·.1)/\ ∀g,g∈fs.map (·.1)->g∈(bP f v fs).map (·.1)
 | []=>⟨by simp[bP],fun g h=>by simp at h⟩
 |(k,x)::r=>by
  obtain⟨i1,i2⟩:=jD f v r
  rw[show bP f v ((k,x)::r)=(if k=f then(k,v)::r else(k,x)::bP f v r)from rfl]
  by_cases hk:k=f
  ·rw[if_pos hk]
   subst hk
   exact⟨by simp,fun g h=>by simpa using h⟩
  ·rw[if_neg hk]
   refine⟨?_,fun g h=> ?_⟩
   ·rw[List.map_cons]
    exact List.mem_cons_of_mem _ i1
   ·rw[List.map_cons]at h⊢
    rcases List.mem_cons.mp h with e|e
    ·exact List.mem_cons.mpr (.inl e)
    ·exact List.mem_cons_of_mem _ (i2 g e)
theorem j4(f:Str)(v:V): ∀fs:List (Str×V),(bP f v fs).length<=fs.length+1
 | []=>by simp[bP]
 |(k,x)::r=>by
  have ih:=j4 f v r
  rw[show bP f v ((k,x)::r)=(if k=f then(k,v)::r else(k,x)::bP f v r)from rfl]
  by_cases hk:k=f
  ·rw[if_pos hk,List.length_cons,List.length_cons];omega
  ·rw[if_neg hk,List.length_cons,List.length_cons];omega
theorem fb.some_of{v:V}{o:Option Value}(r:fb (some v) o): ∃u,o=some u/\RelV v u:=by
 cases o with
 |none=>exact(show False from r).elim
 |some u=>exact⟨u,rfl,r⟩
theorem fb.none_of{o:Option Value}(r:fb none o):o=none:=by
 cases o with
 |none=>rfl
 |some u=>exact(show False from r).elim
theorem xE{v:V}{u:Value}(r:RelV v u):PySem.W.handedIn u=true:=by
 cases v with
 |aH=>cases(show u=Value.none from r);rfl
 |bl b=>cases(show u=Value.bool b from r);rfl
 |int i=>obtain⟨t,e⟩:=(show ∃t,u=Value.int i t from r);cases e;rfl
 |str x=>obtain⟨t,e⟩:=(show ∃t,u=Value.str x t from r);cases e;rfl
 |tu b=>obtain⟨t,e⟩:=(show ∃t,u=Value.bytes b t from r);cases e;rfl
 |CK b=>obtain⟨t,e⟩:=(show ∃t,u=Value.float b t from r);cases e;rfl
 |ref a=>cases(show u=Value.ref a from r);rfl
 |ty n=>cases(show u=Value.type n from r);rfl
section
variable{P:Program}{w:World}{H H':Hp}{h h':Heap}{a C dx:Addr}{fs fs':List (Str×V)}
theorem kz(hok:fH P w H h)(e:H a=some (.ins C dx fs)): ∃mA,tH h a dx C mA/\(∀f,fb (fs.lookup f) (mA f))/\PySem.Within mA (fs.map (·.1))/\fs.length<=1000/\H dx=some (.own a):=by
 obtain⟨d,z,ne,ob,mA,n,r,q⟩:=(show bw P w H h a (.ins C dx fs)from hok a _ e)
 exact⟨mA,⟨ob,n,ne⟩,r,q,z,d⟩
end
structure vC(K:PySem.W.Frag)(C:Addr):Prop where
 pg:PySem.W.plainGet K C Str.empty=true
 hd:PySem.W.hasDictIn K C=true
 po:PySem.W.plainOver K C=true
 sa:PySem.W.findIn K (.ref C) "__setattr__"=some (some (.builtin "object.__setattr__"))
theorem vC.get{K:PySem.W.Frag}{C:Addr}(c:vC K C)(f:Str):PySem.W.plainGet K C f=true:=c.pg
def bh(K:PySem.W.Frag)(C:Addr)(f:Str):Prop:=PySem.W.findIn K (.ref C) f=some none
theorem bh.Kw{K:PySem.W.Frag}{C:Addr}{f:Str}(n:bh K C f):PySem.W.takerIn K C f=some none:=by
 unfold PySem.W.takerIn
 rw[show PySem.W.findIn K (.ref C) f=some none from n]
 rfl
structure Meth(K:PySem.W.Frag)(C:Addr)(m:Str)(f:Addr):Prop where
 at_:PySem.W.findIn K (.ref C) m=some (some (.ref f))
 fn:PySem.W.isFn K (.ref f)=true
 kp:PySem.W.keepIn K (.ref f)=true
section
variable{X:Cx}{pins:List (Addr×Obj)}{σ:St}{H:Hp}{s:Shared}{a C dx:Addr}{fs:List (Str×V)}{f:Str}{v:V}{A:Around}{E:Value->Shared->Prop}
theorem lD{b:Bool}{Q:Value->Shared->Prop}(I:Inv X pins σ H s)(e:H a=some (.ins C dx fs))(c:vC X.K C)(n:bh X.K C f)(l:fs.lookup f=some v)
  (h: ∀u s',Inv X pins σ H s'->RelV v u->Q u s'):wpAny (model X.prog X.w) A (getAttr (.ref a) f b) Q E s:=by
 obtain⟨mA,O,r,_,_,_⟩:=kz I.hok e
 obtain⟨u,hu,ru⟩:=fb.some_of (v:=v) (o:=mA f) (by rw[<-l];exact r f)
 exact get_map I.fZ O (c.get f) c.hd n hu (xE ru) (h u _ (I.tok _) ru)
theorem lE{m:Str}{g:Addr}{pl:Sem Bool}{Q:Value×List Value->Shared->Prop}(I:Inv X pins σ H s)(e:H a=some (.ins C dx fs))(c:vC X.K C)(k:Meth X.K C m g)(l:fs.lookup m=none)
  (h:Q (.ref g,[.ref a]) s):wpAny (model X.prog X.w) A (getMethod (.ref a) m pl) Q E s:=by
 obtain⟨mA,O,r,_,_,_⟩:=kz I.hok e
 have hn:mA m=none:=fb.none_of (by rw[<-l];exact r m)
 exact zW I.fZ O (c.get m) k.at_ k.fn hn h
theorem mx{y:V}{u:Value}{Q:Unit->Shared->Prop}(I:Inv X pins σ H s)(e:H a=some (.ins C dx fs))(c:vC X.K C)(n:bh X.K C f)(hl:fs.length<1000)(ry:RelV y u)
  (h: ∀s',Inv X pins σ (upd H a (.ins C dx (bP f y fs))) s'->Q () s'):wpAny (model X.prog X.w) A (setAttr (.ref a) f u) Q E s:=by
 obtain⟨mA,O,r,wi,_,ho⟩:=kz I.hok e
 have hz:(fs.map (·.1)).length<=sizeLine:=by rw[List.length_map,sizeLine_eq];omega
 refine gP I.fZ O c.sa c.po n.Kw c.hd wi hz fun h' O' sb=>h _ ?_
 have hd: ∃o,h'.get? dx=some o:=let⟨o,_,_,e',_⟩:=O'.ns;⟨o,e'⟩
 refine I.write (x:=a) (e:=dx) (by rw[e];exact True.intro) (.inr ho) (fun b q hb z=>(sb.2 b hb).trans z) hd ?_
 refine⟨by rw[ak O.ne];exact ho,?_,O.ne,O'.obj,_,O'.ns,fun g=> ?_,fun g hg=> ?_⟩
 ·have:=j4 f y fs;omega
 ·show fb ((bP f y fs).lookup g) (if g=f then some u else mA g)
  rw[gp]
  by_cases q:g=f
  ·rw[if_pos q,if_pos q];exact ry
  ·rw[if_neg q,if_neg q];exact r g
 ·by_cases q:g=f
  ·rw[q];exact(jD f y fs).1
  ·refine(jD f y fs).2 g (wi g fun z=>hg ?_)
   show(if g=f then some u else mA g)=none
   rw[if_neg q];exact z
theorem Inv.made(I:Inv X pins σ H s):Inv X pins σ (upd (upd H s.heap.objs.size (.own (s.heap.objs.size+1))) (s.heap.objs.size+1) (.ins C s.heap.objs.size []))
  {s with heap:=(s.heap.push PySem.W.emptyDict).push (PySem.W.instObj C s.heap.objs.size)}:=by
 have e1:(s.heap.push PySem.W.emptyDict).get? s.heap.objs.size=some PySem.W.emptyDict:=Heap.get?_push_size s.heap rfl
 have e2:((s.heap.push PySem.W.emptyDict).push (PySem.W.instObj C s.heap.objs.size)).get? (s.heap.objs.size+1)=some (PySem.W.instObj C s.heap.objs.size):=by
  have:=Heap.get?_push_size (s.heap.push PySem.W.emptyDict) (o:=PySem.W.instObj C s.heap.objs.size) rfl
  rwa [Heap.size_push]at this
 have e3:(s.heap.push PySem.W.emptyDict).Ns s.heap.objs.size (fun _=>none):=⟨PySem.W.emptyDict, #[],_,e1,rfl,(fun e he=>absurd he (by simp)),fun _=>rfl⟩
 have I1:=I.laid (a:=s.heap.objs.size) (o:= .own (s.heap.objs.size+1)) (h':=s.heap.push PySem.W.emptyDict) (t':=s.toks) (fun b u q=>Heap.get?_push_of_some _ q) (Nat.le_refl _) ⟨_,e1⟩
 refine I1.laid (a:=s.heap.objs.size+1) (o:= .ins C s.heap.objs.size []) (t':=s.toks) (fun b u q=>Heap.get?_push_of_some _ q) (Nat.le_of_eq (Heap.size_push _ _)) ?_
 have ne:s.heap.objs.size≠s.heap.objs.size+1:=Nat.ne_of_lt (Nat.lt_succ_self _)
 refine⟨by rw[ak ne,ac],Nat.zero_le _,ne,e2,fun _=>none,(Heap.Ns1.of_empty e3).at fun o q=>Heap.get?_push_of_some _ q,fun _=>True.intro,fun y hy=>absurd rfl hy⟩
theorem CC{prog:Program}{w:World}{env:Env}{e:Expr}{f:Str}{pos:Pos}{s:Shared}{Q:Value->Shared->Prop}(hb:attributeBase e f env (eval e env)=eval e env)
  (h:wpAny (model prog w) A (eval e env) (fun o s₁=>wpAny (model prog w) A (getAttr o f true) Q E s₁) E s):wpAny (model prog w) A (eval (.Attribute e f pos) env) Q E s:=
 Attribute_any_ h (by rw[arm_eval_Attribute,hb])
end
inductive M6(K:PySem.W.Frag)(f:Str)(Q:VK)(x:V)(H1:Hp):Prop
 |mk (a C dx fs v:_) (_:x= .ref a) (_:H1 a=some (.ins C dx fs)) (_:vC K C) (_:bh K C f) (_:fs.lookup f=some v) (_:Q v H1)
def Kp(K:PySem.W.Frag)(ta:TE)(f:Str):TE:=fun σ H Q=>ta σ H (M6 K f Q)
inductive J4(K:PySem.W.Frag)(f:Str)(y:V)(N:Hp->Prop)(x:V)(H2:Hp):Prop
 |mk (a C dx fs:_) (_:x= .ref a) (_:H2 a=some (.ins C dx fs)) (_:vC K C) (_:bh K C f) (_:fs.length<1000) (_:N (upd H2 a (.ins C dx (bP f y fs))))
def Ni(K:PySem.W.Frag)(ta tv:TE)(f:Str):TS:=fun D σ H=>tv σ H fun y H1=>ta σ H1 (J4 K f y (D.nx σ))
def Lm(X:Cx)(op:Operator)(rd:V->V->Hp->VK->Prop):Prop:=
 ∀ (pins:List (Addr×Obj)) (s:Shared) (σ:St) (H:Hp) (x y:V) (u v:Value) (Q:VK),Inv X pins σ H s->RelV x u->RelV y v->rd x y H Q->wpAny (model X.prog X.w) X.A (inplaceOp op u v) (EP X pins σ Q) X.xe s
def DZ(K:PySem.W.Frag)(ta tv:TE)(rd:V->V->Hp->VK->Prop)(f:Str):TS:=fun D σ H=>ta σ H fun x H1=> ∃a C dx fs v,x= .ref a/\H1 a=some (.ins C dx fs)/\vC K C/\bh K C f/\fs.lookup f=some v/\
 tv σ H1 fun y H2=>rd v y H2 fun z H3=> ∃HR fs',H3 a=some (.ins C HR fs')/\fs'.length<1000/\D.nx σ (upd H3 a (.ins C HR (bP f z fs')))
section
variable{X:Cx}{o e value:Expr}{f:Str}{pos pos' tpos:Pos}{ta tv:TE}
theorem bq(he:PE X e ta)(hb:attributeBase e f X.env (eval e X.env)=eval e X.env):PE X (.Attribute e f pos) (Kp X.K ta f):=by
 intro pins s σ H Q I h
 refine CC hb (aL (he pins s σ H _ I h) fun u s1 ⟨x,H1,I1,rx,a,C,dx,fs,v,ex,ea,c,n,l,q⟩=> ?_)
 subst ex
 obtain rfl:u=Value.ref a:=rx
 exact lD I1 ea c n l fun u' s2 I2 ru=>⟨v,H1,I2,ru,q⟩
theorem bZ(ha:PE X o ta)(hv:PE X value tv)(hs:swapsWith value (some (.Attribute o f pos')) pos.line X.env=pure false):PS X (.Assign [.Attribute o f pos'] value pos) (Ni X.K ta tv f):=by
 intro pins s σ H D I h
 refine plainObj_wpAny_Assign_Attribute (aL (hv pins s σ H _ I h) fun u s1 ⟨y,H1,I1,ry,q⟩=>aL (ha pins s1 σ H1 _ I1 q) fun ov s2 ⟨x,H2,I2,rx,a,C,dx,fs,ex,ea,c,n,l,q2⟩=> ?_) hs
 subst ex
 obtain rfl:ov=Value.ref a:=rx
 exact mx I2 ea c n l ry fun s3 I3=>⟨σ,_,I3,q2⟩
theorem yE{op:Operator}{rd:V->V->Hp->VK->Prop}(ha:PE X o ta)(hv:PE X value tv)(hop:Lm X op rd):PS X (.AugAssign (.Attribute o f tpos) op value pos) (DZ X.K ta tv rd f):=by
 intro pins s σ H D I h
 refine wpAny_AugAssign_AttributeAny (aL (ha pins s σ H _ I h) fun ov s1 ⟨x,H1,I1,rx,a,C,dx,fs,v,ex,ea,c,n,l,q⟩=> ?_)
 subst ex
 obtain rfl:ov=Value.ref a:=rx
 refine lD I1 ea c n l fun u s2 I2 ru=>aL (hv pins s2 σ H1 _ I2 q) fun w3 s3 ⟨y,H2,I3,ry,q3⟩=>aL (hop pins s3 σ H2 v y u w3 _ I3 ru ry q3) fun w4 s4 ⟨z,H3,I4,rz,HR,fs',ea',l',q4⟩=> ?_
 exact mx I4 ea' c n l' rz fun s5 I5=>⟨σ,_,I5,q4⟩
end
section
variable{X:Cx}{pins:List (Addr×Obj)}{σ:St}{H:Hp}{s:Shared}{A:Around}{E:Value->Shared->Prop}{Q:Value->Shared->Prop}{c:Value}{b:Bool}
inductive ie(K:PySem.W.Frag)(H:Hp):V->Value->Prop where
 |aH:ie K H .aH (.type "NoneType")
 |bl (x:Bool):ie K H (.bl x) (.type "bool")
 |int (i:Int):ie K H (.int i) (.type "int")
 |str (x:Str):ie K H (.str x) (.type "str")
 |CK (x:UInt64):ie K H (.CK x) (.type "float")
 |lst {a:Addr} {xs:List V} (e:H a=some (.lst xs)):ie K H (.ref a) (.type "list")
 |fY {a:Addr} {o:Obj} {xs:List V} (e:H a=some (.fY o (.lst xs))):ie K H (.ref a) (.type "list")
 |tup {a:Addr} {xs:List V} (e:H a=some (.tup xs)):ie K H (.ref a) (.type "tuple")
 |dK {a:Addr} {kvs:List (Key×V)} (e:H a=some (.dK kvs)):ie K H (.ref a) (.type "dict")
 |dT {a:Addr} {kvs:List (List Key×V)} (e:H a=some (.dT kvs)):ie K H (.ref a) (.type "dict")
 |ins {a C dx:Addr} {fs:List (Str×V)} (e:H a=some (.ins C dx fs)) (cl:vC K C) (ha:PySem.W.findIn K (.ref C) "__class__"=some (some (.builtin "object.__class__")))
   (hn:PySem.W.specialIn K (.builtin "object.__class__") "__get__"=some (some (.builtin "getset_descriptor.__get__"))) (htk:PySem.W.takesIn K (.builtin "object.__class__")=some true)
   (hm:PySem.W.mroIn K C (.type "object")=some true):ie K H (.ref a) (.ref C)
theorem xK{x:V}{u t:Value}(I:Inv X pins σ H s)(rx:RelV x u)(ty:ie X.K H x t)(e:PySem.W.kitOne X.K t c=some b)(h: ∀tk,Q (.bool b) {s with toks:=tk}):
  wpAny (model X.prog X.w) A (call (.builtin "isinstance") [u,c]) Q E s:=by
 cases ty with
 |aH=>cases(show u=Value.none from rx);exact PySem.W.kia_one PySem.W.kitx_none I.fZ True.intro e (fun z=>nomatch z) h
 |bl y=>cases(show u=Value.bool y from rx);exact PySem.W.kia_one PySem.W.kitx_bool I.fZ True.intro e (fun z=>nomatch z) h
 |int i=>obtain⟨t,q⟩:=(show ∃t,u=Value.int i t from rx);cases q;exact PySem.W.kia_one PySem.W.kitx_int I.fZ True.intro e (fun z=>nomatch z) h
 |str y=>obtain⟨t,q⟩:=(show ∃t,u=Value.str y t from rx);cases q;exact PySem.W.kia_one PySem.W.kitx_str I.fZ True.intro e (fun z=>nomatch z) h
 |CK y=>obtain⟨t,q⟩:=(show ∃t,u=Value.float y t from rx);cases q;exact PySem.W.kia_one PySem.W.kitx_float I.fZ True.intro e (fun z=>nomatch z) h
 | @lst a xs ea=>
  cases(show u=Value.ref a from rx)
  obtain⟨_,_,n,_,h1⟩:=(show bw X.prog X.w H s.heap a (.lst xs)from I.hok a _ ea)
  exact PySem.W.kia_one PySem.W.kitx_list I.fZ ⟨_,h1,rfl⟩ e (fun z=>nomatch z) h
 | @fY a ob xs ea=>
  cases(show u=Value.ref a from rx)
  obtain⟨_,_,_,n,_,h1⟩:=(show bw X.prog X.w H s.heap a (.fY ob (.lst xs))from I.hok a _ ea)
  exact PySem.W.kia_one PySem.W.kitx_list I.fZ ⟨_,h1,rfl⟩ e (fun z=>nomatch z) h
 | @tup a xs ea=>
  cases(show u=Value.ref a from rx)
  obtain⟨_,_,_,p⟩:=(show bw X.prog X.w H s.heap a (.tup xs)from I.hok a _ ea)
  obtain⟨o,h1,h2,_⟩:=p
  exact PySem.W.kia_one PySem.W.kitx_tuple I.fZ ⟨o,h1,h2⟩ e (fun z=>nomatch z) h
 | @dK a kvs ea=>
  cases(show u=Value.ref a from rx)
  obtain⟨_,_,vs,_,p⟩:=(show bw X.prog X.w H s.heap a (.dK kvs)from I.hok a _ ea)
  obtain⟨o,es,ep,h1,h2,_⟩:=p
  exact PySem.W.kia_one PySem.W.kitx_dict I.fZ ⟨o,h1,h2.1⟩ e (fun z=>nomatch z) h
 | @dT a kvs ea=>
  cases(show u=Value.ref a from rx)
  obtain⟨_,_,xs,_,o,es,ep,h1,h2,_⟩:=(show bw X.prog X.w H s.heap a (.dT kvs)from I.hok a _ ea)
  exact PySem.W.kia_one PySem.W.kitx_dict I.fZ ⟨o,h1,h2.1⟩ e (fun z=>nomatch z) h
 | @ins a C dx fs ea cl ha hn htk hm=>
  cases(show u=Value.ref a from rx)
  obtain⟨mA,O,_⟩:=kz I.hok ea
  obtain⟨od,J,_⟩:=O.look
  exact PySem.W.kia_one (PySem.W.kitx_own (cl.get _) cl.hd ha hn htk hm) I.fZ J e (fun z=>nomatch z) h
end
end L2
namespace L2
open PySem PySem.Spec PyProof.Rows
structure cU(k:Nat)(A:Around):Prop where
 hd:A.handled=none
 dp:A.depth+3*k+5<recursionLimit
 un:A.units+16*k+200<cLine
 gd:A.guards=some []
theorem cU.mono{j k:Nat}{A:Around}(r:cU k A)(h:j<=k):cU j A:=⟨r.hd,by have:=r.dp;omega,by have:=r.un;omega,r.gd⟩
theorem cU.deeper{k:Nat}{A:Around}(r:cU (k+1) A)(env:Env):cU k (A.deeper env):=
 ⟨r.hd,by have:=r.dp;show A.depth+1+3*k+5<_;omega,by have:=r.un;show A.units+3+16*k+200<_;omega,r.gd⟩
theorem uA{A:Around}{C:Addr}{us:List Value}{kw:List (Str×Value)}:(A.under (.builtin "type.__call__" ⟨.ref C::us,kw⟩)).depth=A.depth+1:=by
 first|rfl|simp[Around.under,Code.weight,Code.isCreation,Code.isGuard,Code.isCaller,Code.frames,Code.isFrame,guardIds]
theorem uB{A:Around}{C:Addr}{us:List Value}{kw:List (Str×Value)}:(A.under (.builtin "type.__call__" ⟨.ref C::us,kw⟩)).units=A.units+1:=by
 first|rfl|simp[Around.under,Code.cUnits,Code.frames,Code.isFrame]
theorem rH{A:Around}{C:Addr}{us:List Value}{kw:List (Str×Value)}(h:A.guards=some []):(A.under (.builtin "type.__call__" ⟨.ref C::us,kw⟩)).guards=some []:=by
 unfold Around.under;simp only[h];rfl
theorem cU.make{k:Nat}{A:Around}(r:cU (k+1) A)(C:Addr)(us:List Value)(kw:List (Str×Value)):cU k (A.under (.builtin "type.__call__" ⟨.ref C::us,kw⟩)):=
 ⟨r.hd,by have:=r.dp;rw[uA];omega,by have:=r.un;rw[uB];omega,rH r.gd⟩
theorem cU.depth{k:Nat}{A:Around}(r:cU k A):A.depth<recursionLimit:=by have:=r.dp;omega
theorem cU.HI{k:Nat}{A:Around}(r:cU k A):A.units<cLine:=by have:=r.un;omega
def bH:TA:=fun _ H Q=>Q [] H
def bD(ta:TE)(tr:TA):TA:=fun σ H Q=>ta σ H fun x H1=>tr σ H1 fun xs H2=>Q (x::xs) H2
section
variable{X:Cx}{e:Expr}{es:List Expr}{te:TE}{t:TA}{pos:Pos}
theorem af:PA X [] bH:=fun _ _ _ _ H Q I h=>Calls.spliced_nil ⟨[],H,I,.nil,h⟩
theorem aa(ha:PE X e te)(hr:PA X es t)(hs:starEach (e::es) X.env=(false,eval e X.env)::starEach es X.env:=by rfl):PA X (e::es) (bD te t):=by
 intro pos pins s σ H Q I h
 rw[hs]
 show wpAny _ _ (spliced ((false,eval e X.env)::backTo pos (starEach es X.env))) _ _ s
 refine Calls.spliced_cons (aL (ha pins s σ H _ I h) fun u s1 ⟨x,H1,I1,r1,q1⟩=> ?_)
 exact aL (hr pos pins s1 σ H1 _ I1 q1) fun us s2 ⟨xs,H2,I2,r2,q2⟩=>⟨x::xs,H2,I2,.cons r1 r2,q2⟩
def sS(t:TA):TE:=fun σ H Q=>t σ H fun xs H1=>xs.length<=sizeLine/\ ∀p,H1 p=none->Q (.ref p) (upd H1 p (.tup xs))
def Hz(t:TA):TE:=fun σ H Q=>t σ H fun xs H1=>xs.length<=sizeLine/\ ∀p,H1 p=none->Q (.ref p) (upd H1 p (.lst xs))
theorem bC{x1}(h:PA X es t):PE X (.Tuple es x1 pos) (sS t):=by
 intro pins s σ H Q I hq
 refine wpAny_Tuple_spliced (aL (h pos pins s σ H _ I hq) fun us s1 ⟨xs,H1,I1,r,z,q⟩=>⟨by rw[<-r.length];exact z,?_⟩)
 have hf:H1 s1.heap.objs.size=none:=I1.hok.fresh (Nat.le_refl _)
 refine⟨.ref s1.heap.objs.size,upd H1 s1.heap.objs.size (.tup xs),I1.laid (t':=s1.toks) (fun b u e=>Heap.get?_push_of_some _ e) (Nat.le_refl _) ?_,rfl,q _ hf⟩
 exact⟨z,us,r,⟨_,Heap.get?_push_size _ rfl,rfl,_,rfl⟩⟩
theorem bS(h:PA X es t):PE X (.List es pos) (Hz t):=by
 intro pins s σ H Q I hq
 refine wpAny_List_spliced (aL (h pos pins s σ H _ I hq) fun us s1 ⟨xs,H1,I1,r,z,q⟩=>⟨by rw[<-r.length];exact z,?_⟩)
 have hf:H1 s1.heap.objs.size=none:=I1.hok.fresh (Nat.le_refl _)
 refine⟨.ref s1.heap.objs.size,upd H1 s1.heap.objs.size (.lst xs),I1.laid (t':=s1.toks) (fun b u e=>Heap.get?_push_of_some _ e) (Nat.le_refl _) ?_,rfl,q _ hf⟩
 exact⟨z,us,0,r,Heap.get?_push_size _ rfl⟩
end
abbrev Sp:=List V->Hp->VK->XK->Prop
abbrev tj:=List Env->Hp->Shared->XK->Value->Shared->Prop
structure tG(P:Program)(w:World)(K:PySem.W.Frag)(mg:Str->Option Value)(base:Heap)(A:Around)(outer:List Env)(s:Shared)(H:Hp):Prop where
 frames:A.frames=some outer
 mod:Mod K mg base
 bs: ∀b o,base.get? b=some o->s.heap.get? b=some o/\H b=none
 zy:base.objs.size<=s.heap.objs.size
 iY:s.heap.FunFrames base outer
 CN: ∀b∈frs outer,H b=none
 hok:fH P w H s.heap
 bare:AllBare s.gens
inductive CE(outer:List Env)(P:Program)(w:World)(H:Hp)(s:Shared)(Q:VK)(u:Value)(s':Shared):Prop
 |mk (v H':_) (_:s'.os=s.os) (_:AllBare s'.gens) (_:Un (frs outer) [] H H' s.heap s'.heap) (_:fH P w H' s'.heap) (_:RelV v u) (_:Q v H')
def CR(CX:tj)(outer:List Env)(P:Program)(w:World)(H:Hp)(s:Shared)(Q:VK)(E:XK)(r:Result)(s':Shared):Prop:=
 match r with
 | .ok (.ret u)=>CE outer P w H s Q u s'
 | .ok _=>False
 | .error e=>CX outer H s E e s'
structure aI(P:Program)(w:World)(K:PySem.W.Frag)(mg:Str->Option Value)(base:Heap)(CX:tj)(k:Nat)(f:Addr)(fd:FuncData)(ps:List Str)(sp:Sp):Prop where
 len: ∀vs H Q E,sp vs H Q E->vs.length=ps.length
 run: ∀ (A:Around) (outer:List Env) (s:Shared) (H:Hp) (args:Args) (us:List Value) (vs:List V) (Q:VK) (E:XK),cU k A->tG P w K mg base A outer s H->BindsTo s fd args (ps.zip us)->Vals vs us->sp vs H Q E->
  codeAny (model P w) A (.call (.ref f) args) (CR CX outer P w H s Q E) s
theorem aI.mono{P:Program}{w:World}{K:PySem.W.Frag}{mg:Str->Option Value}{base:Heap}{CX:tj}{j k:Nat}{f:Addr}{fd:FuncData}{ps:List Str}{sp:Sp}(F:aI P w K mg base CX j f fd ps sp)(h:j<=k):
  aI P w K mg base CX k f fd ps sp:=⟨F.len,fun A outer s H args us vs Q E hr=>F.run A outer s H args us vs Q E (hr.mono h)⟩
theorem tG.make{P:Program}{w:World}{K:PySem.W.Frag}{mg:Str->Option Value}{base:Heap}{A:Around}{outer:List Env}{s:Shared}{H:Hp}(e:tG P w K mg base A outer s H)(C:Addr)(us:List Value)(kw:List (Str×Value)):
  tG P w K mg base (A.under (.builtin "type.__call__" ⟨.ref C::us,kw⟩)) outer s H:=⟨by first|exact e.frames|(simpa [Around.under,Code.envs,Code.isFrame,pushEnvs]using e.frames),e.mod,e.bs,e.zy,e.iY,e.CN,e.hok,e.bare⟩
section
variable{X:Cx}{pins:List (Addr×Obj)}{σ:St}{H:Hp}{s s':Shared}
theorem Inv.CI(I:Inv X pins σ H s):tG X.prog X.w X.K X.mg X.base X.A X.stack s H:=
 ⟨I.ok.frames,I.ok.mod,I.bs,Nat.le_trans I.ok.zy I.sz,I.stack,I.wW,I.hok,I.bare⟩
theorem Inv.after{Q:VK}{u:Value}(I:Inv X pins σ H s)(h:CE X.stack X.prog X.w H s Q u s'):EP X pins σ Q u s':=by
 obtain⟨v,H',os,bare,un,hok,r,q⟩:=h
 obtain⟨hh,g,d,t,os'⟩:=s'
 obtain rfl:os'=s.os:=os
 exact⟨v,H',I.call (h':=hh) (g':=g) (d':=d) (t':=t) (ch:= []) un hok bare (fun b z=>absurd z (by simp)),r,q⟩
end
def wX(sp:Sp)(kr:List V)(E:XK)(t:TA):TE:=fun σ H Q=>t σ H fun vs H1=>sp (vs++kr) H1 Q E
inductive J0(C:Addr)(m:Str)(T:V->Hp->Prop)(x:V)(H1:Hp):Prop
 |mk (a dx fs:_) (_:x= .ref a) (_:H1 a=some (.ins C dx fs)) (_:fs.lookup m=none) (_:T x H1)
def wZ(C:Addr)(m:Str)(sp:Sp)(kr:List V)(E:XK)(ta:TE)(t:TA):TE:=fun σ H Q=>ta σ H (J0 C m fun x H1=>t σ H1 fun vs H2=>sp (x::(vs++kr)) H2 Q E)
def Ks(C:Addr)(sp:Sp)(kr:List V)(E:XK)(t:TA):TE:=fun σ H Q=>t σ H fun vs H1=> ∀x dx,H1 x=none->H1 dx=none->dx≠x->
 sp (.ref x::(vs++kr)) (upd (upd H1 dx (.own x)) x (.ins C dx [])) (fun v H2=>v= .aH/\Q (.ref x) H2) E
def Binds(K:PySem.W.Frag)(fd:FuncData)(ps:List Str)(ds:List Value):Prop:=
 ∀ (s:Shared) (us:List Value),K.In s.heap->(us++ds).length=ps.length->BindsTo s fd ⟨us,[]⟩ (ps.zip (us++ds))
theorem Binds.all{K:PySem.W.Frag}{fd:FuncData}{ps:List Str}(h: ∀us:List Value,us.length=ps.length->bindArgs fd ⟨us,[]⟩=pure (ps.zip us)):Binds K fd ps []:=fun s us _ hl=>by
 rw[List.append_nil]at hl⊢
 exact .of_eq (h us hl)
def Passes(CX:tj)(X:Cx)(E:XK):Prop:= ∀ (pins:List (Addr×Obj)) (σ:St) (H:Hp) (s:Shared) (e:Value) (s':Shared),Inv X pins σ H s->CX X.stack H s E e s'->X.xe e s'
section
variable{X:Cx}{CX:tj}{k:Nat}{f C:Addr}{fd:FuncData}{ps:List Str}{sp:Sp}{kr:List V}{ds:List Value}{E:XK}{x m:Str}{p pos apos:Pos}{e o:Expr}{es:List Expr}{ta:TE}{t:TA}
theorem pV{pins:List (Addr×Obj)}{σ:St}{H:Hp}{s:Shared}{Q:VK}{us:List Value}{vs:List V}(F:aI X.prog X.w X.K X.mg X.base CX k f fd ps sp)(hr:cU k X.A)(hb:Binds X.K fd ps ds)(hd:Vals kr ds)(hx:Passes CX X E)
  (I:Inv X pins σ H s)(r:Vals vs us)(h:sp (vs++kr) H Q E):wpAny (model X.prog X.w) X.A (call (.ref f) us) (EP X pins σ Q) X.xe s:=by
 have r2:Vals (vs++kr) (us++ds):=r.append hd
 have hl:(us++ds).length=ps.length:=by rw[<-r2.length];exact F.len _ _ _ _ h
 refine wpAny_call (codeAny_mono (F.run X.A X.stack s H ⟨us,[]⟩ (us++ds) (vs++kr) Q E hr I.CI (hb s us I.fZ hl) r2 h) fun r s' hq=> ?_)
 cases r with
 |error e=>exact hx pins σ H s e s' I hq
 |ok fl=>
  cases fl with
  |ret u=>exact I.after hq
  |next=>exact False.elim hq
  |brk=>exact False.elim hq
  |cont=>exact False.elim hq
theorem ww(F:aI X.prog X.w X.K X.mg X.base CX k f fd ps sp)(hr:cU k X.A)(hg:Gl X x)(hm:X.mg x=some (.ref f))(hk:PySem.W.keepIn X.K (.ref f)=true)(hb:Binds X.K fd ps ds)(hd:Vals kr ds)(hx:Passes CX X E)
  (ha:PA X (e::es) t)(hdb:(x==("__debug__":Str))=false:=by decide)(he:starEach (e::es) X.env=(false,eval e X.env)::starEach es X.env:=by rfl)(hpl:(backTo pos (starEach es X.env)).any (·.1)=false:=by rfl):
  PE X (.Call (.Name x p) (e::es) [] pos) (wX sp kr E t):=by
 intro pins s σ H Q I h
 refine wpAny_Call_Name_kw (i7 I hg hm ?_ hdb)
 refine PySem.W.callWith_K (h₀:=X.base) I.ok.mod.EV hk (aL (ha pos pins s σ H _ I h) fun us s1 ⟨vs,H1,I1,r,q⟩=>⟨I1.fZ,?_⟩) he hpl
 exact pV F hr hb hd hx I1 r q
theorem bQ{pl:Sem Bool}(he:PE X o ta)(c:vC X.K C)(hm:Meth X.K C m f)(F:aI X.prog X.w X.K X.mg X.base CX k f fd ps sp)(hr:cU k X.A)(hb:Binds X.K fd ps ds)(hd:Vals kr ds)(hx:Passes CX X E)(ha:PA X (e::es) t)
  (hst:starEach (e::es) X.env=(false,eval e X.env)::starEach es X.env:=by rfl)(hpl:(backTo pos (starEach es X.env)).any (·.1)=false:=by rfl)
  (ht:eval (.Call (.Attribute o m apos) (e::es) [] pos) X.env=(do
   let ov<-eval o X.env
   standAt apos.atName
   let(f,first) <-holding [ov] (getMethod ov m pl)
   callWith pos f first (backTo pos (starEach (e::es) X.env)) (backToKw pos (keywordEach [] X.env))):=by rfl):
  PE X (.Call (.Attribute o m apos) (e::es) [] pos) (wZ C m sp kr E ta t):=by
 intro pins s σ H Q I h
 refine PySem.W.methodCall_KW (pl:=pl) (aL (he pins s σ H _ I h) fun u s1 ⟨x,H1,I1,rx,a,dx,fs,ex,ea,l,q⟩=> ?_) ht
 subst ex
 obtain rfl:u=Value.ref a:=rx
 refine lE I1 ea c hm l ?_
 refine PySem.W.callWith_K (first:= [.ref a]) (h₀:=X.base) I.ok.mod.EV hm.kp (aL (ha pos pins s1 σ H1 _ I1 q) fun us s2 ⟨vs,H2,I2,r,q2⟩=>⟨I2.fZ,?_⟩) hst hpl
 exact pV (us:= .ref a::us) (vs:= .ref a::vs) F hr hb hd hx I2 (.cons rfl r) q2
theorem bo{pl:Sem Bool}(he:PE X o ta)(c:vC X.K C)(hm:Meth X.K C m f)(F:aI X.prog X.w X.K X.mg X.base CX k f fd ps sp)(hr:cU k X.A)(hb:Binds X.K fd ps ds)(hd:Vals kr ds)(hx:Passes CX X E)
  (ht:eval (.Call (.Attribute o m apos) [] [] pos) X.env=(do
   let ov<-eval o X.env
   standAt apos.atName
   let(f,first) <-holding [ov] (getMethod ov m pl)
   callWith pos f first (backTo pos (starEach [] X.env)) (backToKw pos (keywordEach [] X.env))):=by rfl):
  PE X (.Call (.Attribute o m apos) [] [] pos) (wZ C m sp kr E ta bH):=by
 intro pins s σ H Q I h
 refine PySem.W.methodCall_KW (pl:=pl) (aL (he pins s σ H _ I h) fun u s1 ⟨x,H1,I1,rx,a,dx,fs,ex,ea,l,q⟩=> ?_) ht
 subst ex
 obtain rfl:u=Value.ref a:=rx
 refine lE I1 ea c hm l ?_
 exact PySem.W.callWith_K0 (first:= [.ref a]) I1.fZ hm.kp (pV (us:= [.ref a]) (vs:= [.ref a]) F hr hb hd hx I1 (.cons rfl .nil) q)
structure Mk(K:PySem.W.Frag)(C f:Addr):Prop where
 makes:PySem.W.makesIn K C=true
 init:PySem.W.findIn K (.ref C) "__init__"=some (some (.ref f))
 fn:PySem.W.isFn K (.ref f)=true
 kp:PySem.W.keepIn K (.ref C)=true
theorem BA{pins:List (Addr×Obj)}{σ:St}{H:Hp}{s:Shared}{Q:VK}{us:List Value}{vs:List V}(M:Mk X.K C f)(F:aI X.prog X.w X.K X.mg X.base CX k f fd ps sp)(hr:cU (k+1) X.A)(hb:Binds X.K fd ps ds)(hd:Vals kr ds)
  (hx:Passes CX X E)(I:Inv X pins σ H s)(r:Vals vs us)
  (h: ∀x dx,H x=none->H dx=none->dx≠x->sp (.ref x::(vs++kr)) (upd (upd H dx (.own x)) x (.ins C dx [])) (fun v H2=>v= .aH/\Q (.ref x) H2) E):
  wpAny (model X.prog X.w) X.A (call (.ref C) us) (EP X pins σ Q) X.xe s:=by
 have hq:=h (s.heap.objs.size+1) s.heap.objs.size (I.hok.fresh (Nat.le_succ _)) (I.hok.fresh (Nat.le_refl _)) (Nat.ne_of_lt (Nat.lt_succ_self _))
 have I2:=Inv.made (C:=C) I
 have r2:Vals (V.ref (s.heap.objs.size+1)::(vs++kr)) (Value.ref (s.heap.objs.size+1)::(us++ds)):= .cons rfl (r.append hd)
 have hl:(Value.ref (s.heap.objs.size+1)::us++ds).length=ps.length:=by
  have e:=r2.length
  rw[F.len _ _ _ _ hq]at e
  exact e.symm
 refine wpAny_call (rJ (f:=f) I.fZ M.makes M.init (beq_iff_eq.mp M.fn) (codeAny_mono (F.run _ X.stack _ _ ⟨Value.ref (s.heap.objs.size+1)::us,[]⟩ (Value.ref (s.heap.objs.size+1)::(us++ds)) _ _ E (hr.make C us [])
  (I2.CI.make C us []) (hb _ (Value.ref (s.heap.objs.size+1)::us) I2.fZ hl) r2 hq) fun r s' hq'=> ?_))
 cases r with
 |error e=>exact hx pins σ _ _ e s' I2 hq'
 |ok fl=>
  cases fl with
  |ret u=>
   obtain⟨v,H',I3,rv,ev,q3⟩:=I2.after hq'
   subst ev
   exact⟨rv,⟨V.ref (s.heap.objs.size+1),H',I3,rfl,q3⟩⟩
  |next=>exact False.elim hq'
  |brk=>exact False.elim hq'
  |cont=>exact False.elim hq'
theorem wA(M:Mk X.K C f)(F:aI X.prog X.w X.K X.mg X.base CX k f fd ps sp)(hr:cU (k+1) X.A)(hg:Gl X x)(hm:X.mg x=some (.ref C))(hb:Binds X.K fd ps ds)(hd:Vals kr ds)(hx:Passes CX X E)
  (ha:PA X (e::es) t)(hdb:(x==("__debug__":Str))=false:=by decide)(he:starEach (e::es) X.env=(false,eval e X.env)::starEach es X.env:=by rfl)(hpl:(backTo pos (starEach es X.env)).any (·.1)=false:=by rfl):
  PE X (.Call (.Name x p) (e::es) [] pos) (Ks C sp kr E t):=by
 intro pins s σ H Q I h
 refine wpAny_Call_Name_kw (i7 I hg hm ?_ hdb)
 refine PySem.W.callWith_K (h₀:=X.base) I.ok.mod.EV M.kp (aL (ha pos pins s σ H _ I h) fun us s1 ⟨vs,H1,I1,r,q⟩=>⟨I1.fZ,?_⟩) he hpl
 exact BA M F hr hb hd hx I1 r q
end
def PK(X:Cx)(kws:List Keyword)(t:TA):Prop:=
 ∀ (pos:Pos) (pins:List (Addr×Obj)) (s:Shared) (σ:St) (H:Hp) (Q:List V->Hp->Prop),Inv X pins σ H s->t σ H Q->wpAny (model X.prog X.w) X.A (evalAll ((backToKw pos (keywordEach kws X.env)).map (·.2))) (AP X pins σ Q) X.xe s
section
variable{X:Cx}{CX:tj}{k:Nat}{f C:Addr}{fd:FuncData}{ps ks:List Str}{sp:Sp}{E:XK}{x m:Str}{p pos apos kpos:Pos}{e o:Expr}{es:List Expr}{kws:List Keyword}{te ta:TE}{t tk:TA}{nm:Option Str}
theorem pP:PK X [] bH:=fun _ _ _ _ H Q I h=>wpAny_evalAll_nil ⟨[],H,I,.nil,h⟩
theorem kG(ha:PE X e te)(hr:PK X kws t):PK X (⟨nm,e,kpos⟩::kws) (bD te t):=by
 intro pos pins s σ H Q I h
 show wpAny _ _ (evalAll ((do let v<-eval e X.env;standAt pos;pure v)::(backToKw pos (keywordEach kws X.env)).map (·.2))) _ _ s
 refine wpAny_evalAll_cons (wpAny_bind (aL (ha pins s σ H _ I h) fun u s1 ⟨x,H1,I1,r1,q1⟩=>wpAny_bind (wpAny_standAt (wpAny_pure ?_))))
 exact aL (hr pos pins s1 σ H1 _ I1 q1) fun us s2 ⟨xs,H2,I2,r2,q2⟩=>⟨x::xs,H2,I2,.cons r1 r2,q2⟩
structure fJ(K:PySem.W.Frag)(fd:FuncData)(ps ks:List Str)(g:List Value->List Value->List Value)(gV:List V->List V->List V):Prop where
 to: ∀ (s:Shared) (us ws:List Value),K.In s.heap->(g us ws).length=ps.length->BindsTo s fd ⟨us,ks.zip ws⟩ (ps.zip (g us ws))
 rel: ∀ {vs:List V} {us:List Value} {zs:List V} {ws:List Value},Vals vs us->Vals zs ws->Vals (gV vs zs) (g us ws)
def Hq(sp:Sp)(gV:List V->List V->List V)(E:XK)(t tk:TA):TE:=fun σ H Q=>t σ H fun vs H1=>tk σ H1 fun zs H2=>sp (gV vs zs) H2 Q E
variable{g:List Value->List Value->List Value}{gV:List V->List V->List V}
theorem DW{pins:List (Addr×Obj)}{σ:St}{H:Hp}{s:Shared}{Q:VK}{us ws:List Value}{vs zs:List V}(F:aI X.prog X.w X.K X.mg X.base CX k f fd ps sp)(hr:cU k X.A)(hb:fJ X.K fd ps ks g gV)(hx:Passes CX X E)
  (I:Inv X pins σ H s)(r:Vals vs us)(rz:Vals zs ws)(h:sp (gV vs zs) H Q E):wpAny (model X.prog X.w) X.A (call (.ref f) us (ks.zip ws)) (EP X pins σ Q) X.xe s:=by
 have r2:=hb.rel r rz
 have hl:(g us ws).length=ps.length:=by rw[<-r2.length];exact F.len _ _ _ _ h
 refine wpAny_call (codeAny_mono (F.run X.A X.stack s H ⟨us,ks.zip ws⟩ (g us ws) (gV vs zs) Q E hr I.CI (hb.to s us ws I.fZ hl) r2 h) fun r s' hq=> ?_)
 cases r with
 |error e=>exact hx pins σ H s e s' I hq
 |ok fl=>
  cases fl with
  |ret u=>exact I.after hq
  |next=>exact False.elim hq
  |brk=>exact False.elim hq
  |cont=>exact False.elim hq
theorem si(F:aI X.prog X.w X.K X.mg X.base CX k f fd ps sp)(hr:cU k X.A)(hg:Gl X x)(hm:X.mg x=some (.ref f))(hk:PySem.W.keepIn X.K (.ref f)=true)(hb:fJ X.K fd ps ks g gV)(hx:Passes CX X E)
  (ha:PA X (e::es) t)(hkw:PK X kws tk)(hall:(backToKw pos (keywordEach kws X.env)).all (·.1.isSome)=true:=by rfl)(hks:(backToKw pos (keywordEach kws X.env)).filterMap (·.1)=ks:=by rfl)
  (hdb:(x==("__debug__":Str))=false:=by decide)(he:starEach (e::es) X.env=(false,eval e X.env)::starEach es X.env:=by rfl)
  (hpl:((backTo pos (starEach (e::es) X.env)).any (·.1)||(backToKw pos (keywordEach kws X.env)).any (·.1.isNone))=false:=by rfl):
  PE X (.Call (.Name x p) (e::es) kws pos) (Hq sp gV E t tk):=by
 intro pins s σ H Q I h
 refine wpAny_Call_Name_kw (i7 I hg hm ?_ hdb)
 refine PySem.W.callWith_KW (h₀:=X.base) I.ok.mod.EV hk hall (aL (ha pos pins s σ H _ I h) fun us s1 ⟨vs,H1,I1,r,q⟩=> ?_) hpl he
 refine aL (hkw pos pins s1 σ H1 _ I1 q) fun ws s2 ⟨zs,H2,I2,rz,q2⟩=>⟨I2.fZ,?_⟩
 rw[hks]
 exact DW F hr hb hx I2 r rz q2
end
structure av(N P:List Str)(sc:Scope):Prop where
 kind:sc.kind= .function
 co:sc.isCoroutine=false
 gen:sc.isGenerator=false
 nd:N.Nodup
 pre:N.take P.length=P
 par: ∀x∈P,sc.names.lookup x=some .local\/sc.names.lookup x=some .cell
 Gv: ∀y∈sc.names,y.2≠ .free
theorem nv{kindOf:Str->Option NameKind}{x:Str}: ∀ {binds:List (Str×Value)} {m:Str->Option Value},(∀v,(x,v) ∉binds)->bindL kindOf binds m x=m x
 | [],_,_=>rfl
 |(n,v)::r,m,h=>by
  unfold bindL
  rw[nv fun w hw=>h w (List.mem_cons_of_mem _ hw)]
  split
  ·have:x≠n:=by rintro rfl;exact h v List.mem_cons_self
   simp[this]
  ·rfl
theorem nq{kindOf:Str->Option NameKind}{x:Str}: ∀ {binds:List (Str×Value)} {m:Str->Option Value},(∀v,(x,v) ∉binds)->bindC kindOf binds m x=m x
 | [],_,_=>rfl
 |(n,v)::r,m,h=>by
  unfold bindC
  rw[nq fun w hw=>h w (List.mem_cons_of_mem _ hw)]
  split
  ·rfl
  ·have:x≠n:=by rintro rfl;exact h v List.mem_cons_self
   simp[this]
theorem nr{kindOf:Str->Option NameKind}{x:Str}{v:Value}: ∀ {P:List Str} {vs:List Value} {i:Nat} {m:Str->Option Value},P.Nodup->P[i]? =some x->vs[i]? =some v->kindOf x=some .local->
  bindL kindOf (P.zip vs) m x=some v
 | [],_,_,_,_,h,_,_=>by simp at h
 |_::_,[],_,_,_,_,h,_=>by simp at h
 |p::P,w::vs,0,m,nd,h1,h2,hk=>by
  simp at h1 h2;subst h1;subst h2
  show bindL kindOf ((p,w)::P.zip vs) m p=_
  unfold bindL
  rw[nv fun v hv=>(List.nodup_cons.mp nd).1 (List.of_mem_zip hv).1,if_pos hk]
  simp
 |p::P,w::vs,i+1,m,nd,h1,h2,hk=>by
  show bindL kindOf ((p,w)::P.zip vs) m x=_
  unfold bindL
  exact nr (i:=i) (List.nodup_cons.mp nd).2 (by simpa using h1) (by simpa using h2) hk
theorem nj{kindOf:Str->Option NameKind}{x:Str}{v:Value}: ∀ {P:List Str} {vs:List Value} {i:Nat} {m:Str->Option Value},P.Nodup->P[i]? =some x->vs[i]? =some v->kindOf x≠some .local->
  bindC kindOf (P.zip vs) m x=some v
 | [],_,_,_,_,h,_,_=>by simp at h
 |_::_,[],_,_,_,_,h,_=>by simp at h
 |p::P,w::vs,0,m,nd,h1,h2,hk=>by
  simp at h1 h2;subst h1;subst h2
  show bindC kindOf ((p,w)::P.zip vs) m p=_
  unfold bindC
  rw[nq fun v hv=>(List.nodup_cons.mp nd).1 (List.of_mem_zip hv).1,if_neg hk]
  simp
 |p::P,w::vs,i+1,m,nd,h1,h2,hk=>by
  show bindC kindOf ((p,w)::P.zip vs) m x=_
  unfold bindC
  exact nj (i:=i) (List.nodup_cons.mp nd).2 (by simpa using h1) (by simpa using h2) hk
def start(N:List Str)(vs:List V):St:=vs.map some++List.replicate (N.length-vs.length) none
def xq(CX:tj)(P:Program)(w:World)(K:PySem.W.Frag)(mg:Str->Option Value)(base:Heap)(N:List Str)(qual:Str)(scope:Scope)(f:Addr)(cd:Value)(A:Around)(outer:List Env)(s:Shared)(H:Hp)(E:XK):Cx where
 prog:=P
 w:=w
 K:=K
 mg:=mg
 base:=base
 A:=A.deeper (envOfC qual scope s.heap.objs.size f cd)
 N:=N
 s₀:=s
 H₀:=H
 env:=envOfC qual scope s.heap.objs.size f cd
 outer:=outer
 stack:=envOfC qual scope s.heap.objs.size f cd::outer
 ex:= []
 calm:=true
 fn:=fun _=>true
 pn:= []
 xe:=fun e s'=>wpAny (model P w) (A.deeper (envOfC qual scope s.heap.objs.size f cd)) (leaving (envOfC qual scope s.heap.objs.size f cd) e) (fun _ s''=>CX outer H s E e s'') (fun e' s''=>CX outer H s E e' s'') s'
theorem qM{sc:Scope}{n:Nat}{x:Str}(h:sc.names.lookup x=some .cell): ∃c,(cellsFrom n sc.names []).lookup x=some c:=by
 have q:=PySem.W.cellsFrom_some sc.names n [] (.inl h)
 exact Option.isSome_iff_exists.mp q
theorem xJ{CX:tj}{P:Program}{w:World}{K:PySem.W.Frag}{mg:Str->Option Value}{base:Heap}{N ps:List Str}{qual:Str}{scope:Scope}{f:Addr}{cd:Value}{A:Around}{outer:List Env}{s s1:Shared}{H:Hp}{E:XK}{us:List Value}{vs:List V}
  (S:av N ps scope)(hd:A.handled=none)(e0:tG P w K mg base A outer s H)(hl:vs.length=ps.length)(r:Vals vs us)
  (x:InCallC s s.heap.objs.size (bindL (envOfC qual scope s.heap.objs.size f cd).kindOf (ps.zip us) fun _=>none) (cellsFrom (s.heap.objs.size+1) scope.names []) (bindC (envOfC qual scope s.heap.objs.size f cd).kindOf (ps.zip us) fun _=>none) s1):
  Inv (xq CX P w K mg base N qual scope f cd A outer s H E) [] (start N vs) H s1:=by
 have hpl:ps.length<=N.length:=by have:=congrArg List.length S.pre;rw[List.length_take]at this;omega
 obtain⟨h1,tk,rfl,hk⟩:=x.done
 have JO: ∀b:Addr,b∉ (xq CX P w K mg base N qual scope f cd A outer s H E).ex:=fun b z=>absurd (show b∈([]:List Addr)from z) (by simp)
 refine⟨⟨e0.mod,S.kind,rfl,rfl,Nat.le_refl _,fun y z c h1 h2=> ?_,fun y hy=> ?_,fun y c _ h=> ?_,fun _=>hd,Around.frames_deeper e0.frames,.inr ⟨rfl,rfl⟩,fun b z=>absurd z (JO b),e0.bs,e0.zy,fun b _ _=>JO b,fun b z=>absurd z (JO b),e0.iY,e0.CN⟩,
  rfl,e0.bare,Un.kept hk,⟨_,x.toInCall.ns,fun i y v h1 h2 h3=> ?_⟩,fun y c h=>⟨_,x.cell y c h⟩,e0.hok.fresh (Nat.le_refl _),fun y c h=> ?_,fun p hp=>absurd (show p∈([]:List (Addr×Obj))from hp) (by simp),e0.hok.kept hk,?_⟩
 ·exact name_of_addr x.apart (PySem.mem_of_lookup h1) (PySem.mem_of_lookup h2)
 ·have hy:scope.names.lookup y=some .cell\/scope.names.lookup y=some .free:=hy
  rcases hy with hy|hy
  ·exact qM hy
  ·exact absurd rfl (S.Gv _ (PySem.mem_of_lookup hy))
 ·exact Nat.le_of_lt (x.above y c (PySem.mem_of_lookup h))
 ·have hi:i<vs.length:=by
   unfold start at h2
   by_cases hi:i<vs.length
   ·exact hi
   ·rw[List.getElem?_append_right (by simpa using hi)]at h2
    rw[List.getElem?_replicate]at h2
    split at h2<;>cases h2
  have ha:vs[i]? =some v:=by
   unfold start at h2
   rw[List.getElem?_append_left (by simpa using hi),List.getElem?_map]at h2
   cases e:vs[i]? with
   |none=>rw[e]at h2;cases h2
   |some a=>rw[e]at h2;cases h2;rfl
  obtain⟨u,hu,rv⟩:=r.get ha
  have hp:ps[i]? =some y:=by
   rw[<-S.pre,List.getElem?_take_of_lt (by omega)];exact h1
  have Oy:ps.Nodup:=by rw[<-S.pre];exact S.nd.sublist (List.take_sublist _ _)
  refine⟨u,rv,?_⟩
  rcases S.par y (List.mem_of_getElem? hp)with k|k
  ·exact .inl ⟨k,nr Oy hp hu k⟩
  ·obtain⟨c,e⟩:=qM (n:=s.heap.objs.size+1) k
   refine .inr ⟨.inl k,c,e,?_⟩
   have q:=x.cell y c e
   rw[nj Oy hp hu (by show scope.names.lookup y≠_;rw[k];decide)]at q
   exact q
 ·exact e0.hok.fresh (Nat.le_of_lt (x.above y c (PySem.mem_of_lookup h)))
 ·unfold start
  show _=N.length
  rw[List.length_append,List.length_map,List.length_replicate]
  omega
theorem IN{CX:tj}{P:Program}{w:World}{K:PySem.W.Frag}{mg:Str->Option Value}{base:Heap}{k:Nat}{f:Addr}{name qual:Str}{params:Arguments}{body:List Stmt}{scope:Scope}{dV kV doc pm cdv ct oc:Value}{an od:Option Addr}
  {osl:Array (Option Value)}{N ps:List Str}{sp:Sp}(lk:K.lookup f=some ⟨oc,od,.func (PySem.W.fnOf name qual params body scope dV kV doc pm an cdv ct),osl⟩)(hcd:PySem.W.codeIn K cdv qual=true)(S:av N ps scope)
  (len: ∀vs H Q E,sp vs H Q E->vs.length=ps.length)
  (hbody: ∀ (A:Around) (outer:List Env) (s:Shared) (H:Hp) (vs:List V) (Q:VK) (E:XK),cU k (A.deeper (envOfC qual scope s.heap.objs.size f cdv))->sp vs H Q E->
   ∃t,vF (xq CX P w K mg base N qual scope f cdv A outer s H E) body t/\t {nx:=fun _ H'=>Q .aH H',rt:=Q} (start N vs) H):
  aI P w K mg base CX (k+1) f (PySem.W.fnOf name qual params body scope dV kV doc pm an cdv ct) ps sp:=by
 refine⟨len,fun A outer s H args us vs Q E hr e0 hb r ER=> ?_⟩
 have hl:=len _ _ _ _ ER
 have KX:K.In s.heap:=e0.mod.EV.keeps fun b o e=>(e0.bs b o e).1
 have lim:s.heap.NoLimit:=e0.mod.nolimit.keeps fun b o e=>(e0.bs b o e).1
 have hkind: ∀y∈ps.zip us,scope.names.lookup y.1=some .local\/(scope.names.lookup y.1=some .cell/\((cellsFrom (s.heap.objs.size+1) scope.names []).lookup y.1).isSome=true):=fun⟨n,v⟩ hy=>by
  rcases S.par n (List.of_mem_zip hy).1 with q|q
  ·exact .inl q
  ·exact .inr ⟨q,PySem.W.cellsFrom_some _ _ _ (.inl q)⟩
 refine codeAny_call_function hr.depth (KX _ _ lk) rfl S.co S.gen rfl (PySem.W.codeRec_of KX hcd) (hb _ _ _ _ ?_)
 refine wpAny_newFunctionEnv_cells S.kind hkind fun env he s1 x=> ?_
 subst he
 refine⟨lim.keeps x.toInCall.keep,codeAny_func ?_⟩
 obtain⟨t,ht,hq⟩:=hbody A outer s H vs Q E (hr.deeper _) ER
 have I:Inv (xq CX P w K mg base N qual scope f cdv A outer s H E) [] (start N vs) H s1:=xJ S hr.hd e0 hl r x
 refine wpAny_mono (ht [] s1 (start N vs) H _ I hq) (fun fl s' hs=> ?_) fun e s' hs=>hs
 have fin: ∀ {σ':St} {H':Hp} {v:V} {u:Value},Inv (xq CX P w K mg base N qual scope f cdv A outer s H E) [] σ' H' s'->RelV v u->Q v H'->CE outer P w H s Q u s':=
  fun{σ' H' v u} J rv q=>⟨v,H',J.os,J.bare,J.base,J.hok,rv,q⟩
 cases fl with
 |ret u=>
  obtain⟨v,σ',H',J,rv,q⟩:=hs
  exact fin J rv q
 |next=>
  obtain⟨σ',H',J,q⟩:=hs
  exact fin (v:=V.aH) (u:=Value.none) J rfl q
 |brk=>
  obtain⟨_,_,_,q⟩:=hs
  exact False.elim q
 |cont=>
  obtain⟨_,_,_,q⟩:=hs
  exact False.elim q
end L2
namespace L2
open PySem PySem.Spec PyProof.Rows
section
variable{X:Cx}{x:Str}{p pos:Pos}{e:Expr}{es:List Expr}{t:TA}{id T:String}{r:List V->Hp->VK->Prop}
def Ho(r:List V->Hp->VK->Prop)(t:TA):TE:=fun σ H Q=>t σ H fun vs H1=>r vs H1 Q
theorem aA(hc:dc X (.builtin id) r)(hg:Gl X x)(hm:X.mg x=none)(hv:bootBuiltins x=some (.builtin id))(ha:PA X (e::es) t)(hn:x≠ "__name__":=by decide)(hdb:(x==("__debug__":Str))=false:=by decide)
  (he:starEach (e::es) X.env=(false,eval e X.env)::starEach es X.env:=by rfl)(hpl:(backTo pos (starEach es X.env)).any (·.1)=false:=by rfl):PE X (.Call (.Name x p) (e::es) [] pos) (Ho r t):=by
 intro pins s σ H Q I h
 refine wpAny_Call_Name_kw (gn I hg hm hv ?_ hn hdb)
 exact PyProof.Rows.callWith_builtin1 (aL (ha pos pins s σ H _ I h) fun us s1 ⟨vs,H1,I1,r1,q1⟩=>hc pins s1 σ H1 vs us Q I1 r1 q1) he hpl
theorem bf(hc:dc X (.type T) r)(hg:Gl X x)(hm:X.mg x=none)(hv:bootBuiltins x=some (.type T))(ha:PA X (e::es) t)(hn:x≠ "__name__":=by decide)(hdb:(x==("__debug__":Str))=false:=by decide)
  (he:starEach (e::es) X.env=(false,eval e X.env)::starEach es X.env:=by rfl)(hpl:(backTo pos (starEach es X.env)).any (·.1)=false:=by rfl):PE X (.Call (.Name x p) (e::es) [] pos) (Ho r t):=by
 intro pins s σ H Q I h
 refine wpAny_Call_Name_kw (gn I hg hm hv ?_ hn hdb)
 exact PyProof.Rows.callWith_type1 (aL (ha pos pins s σ H _ I h) fun us s1 ⟨vs,H1,I1,r1,q1⟩=>hc pins s1 σ H1 vs us Q I1 r1 q1) he hpl
end
end L2
namespace HT
open PySem PyProof.Rows
section
open PySem.SeqAt
open PySem.AutoSeq1 (wpAny_loadPart')
open PySem.MeetsSeq PySem.MeetsSeq2 PySem.MeetsSeq3
end
section
variable{prog:Program}{w:World}{A:Around}{E:Value->Shared->Prop}{s:Shared}
theorem CF{t b:Addr}{vs ws:List Value}{Q:Value->Shared->Prop}(ht:IsTup s.heap t vs.toArray)(hb:IsTup s.heap b ws.toArray)(hv:vs≠ [])
  (h1:ws= []->Q (.ref t) s)(h2:ws≠ []->Q (.ref s.heap.objs.size) {s with heap:=s.heap.push {cls:= .type "tuple",data:= .seq (vs++ws).toArray}})
  (hsz:vs.length+ws.length<=sizeLine):wpAny (model prog w) A (binaryOp .Add (.ref t) (.ref b)) Q E s:=by
 obtain⟨⟨cls,dd,data,sl⟩,ho,hc,n,hd⟩:=id ht
 obtain⟨⟨LB,dd2,data2,sl2⟩,ho2,hc2,n2,hd2⟩:=id hb
 simp only at hc hd hc2 hd2
 subst hc hd hc2 hd2
 have e:vs.toArray++ws.toArray=(vs++ws).toArray:=by simp
 by_cases hw:ws= []
 ·exact concat_meets ⟨_,ho,rfl⟩ ⟨_,ho2,rfl⟩ noFill_tuple_add seq_tuple_add PySem.F.slot_tuple_add PySem.F.entry_tuple_add (PySem.F.args_tuple_add_2 _ _)
   (tuple_addW1 t b vs.toArray ws.toArray n n2 dd dd2 sl sl2 (by simpa using hv) (by simp[hw])) ⟨ho,ho2,h1 hw⟩
 ·refine concat_meets ⟨_,ho,rfl⟩ ⟨_,ho2,rfl⟩ noFill_tuple_add seq_tuple_add PySem.F.slot_tuple_add PySem.F.entry_tuple_add (PySem.F.args_tuple_add_2 _ _)
   (tuple_addW2 t b vs.toArray ws.toArray n n2 dd dd2 sl sl2 (by simpa using hv) (by simpa using hw) (by rw[List.size_toArray,List.size_toArray];exact hsz)) ⟨ho,ho2,?_⟩
  rw[e]
  exact h2 hw
def cF(n d:Nat):Option Int->Nat
 |none=>d
 |some v=>if v<0 then(v+(n:Int)).toNat else min v.toNat n
theorem mq(n d:Nat):cF n d none=d:=rfl
theorem wL(n d k:Nat):cF n d (some (k:Int))=min k n:=by
 show(if(k:Int)<0 then((k:Int)+(n:Int)).toNat else min (k:Int).toNat n)=min k n
 rw[if_neg (by omega),Int.toNat_natCast]
theorem G9(n d:Nat)(hd:d<=n)(o:Option Int):cF n d o<=n:=by
 cases o with
 |none=>exact hd
 |some v=>
  show(if v<0 then(v+(n:Int)).toNat else min v.toNat n)<=n
  by_cases hv:v<0
  ·rw[if_pos hv];omega
  ·rw[if_neg hv];exact Nat.min_le_right _ _
theorem vK(v:Int)(n d:Nat):(if v<0 then max (v+(n:Int)) 0 else min v (n:Int))=((cF n d (some v):Nat):Int):=by
 show(if v<0 then max (v+(n:Int)) 0 else min v (n:Int))=(((if v<0 then(v+(n:Int)).toNat else min v.toNat n):Nat):Int)
 by_cases hv:v<0
 ·simp only[if_pos hv];omega
 ·simp only[if_neg hv];omega
theorem tI(lo hi:Option Int)(n:Nat):Builtin.Slice.sliceAdjust lo hi 1 (n:Int)=(((cF n 0 lo:Nat):Int),((cF n n hi:Nat):Int)):=by
 have h1: ¬((1:Int)<0):=by omega
 unfold Builtin.Slice.sliceAdjust
 simp only[h1,if_false]
 refine Prod.ext ?_ ?_
 ·cases lo with
  |none=>rfl
  |some v=>exact vK v n 0
 ·cases hi with
  |none=>rfl
  |some v=>exact vK v n n
theorem uT(i j:Nat):Builtin.Slice.slicePlaces (i:Int) (j:Int) 1=j-i:=by
 unfold Builtin.Slice.slicePlaces
 have h1:(1:Int) >0:=by omega
 simp only[h1,if_true,Int.ediv_one]
 split<;>omega
theorem my{v:Value}{o:Option Int}{Q:Option Int->Shared->Prop}(p:IsPart v o)(h:Q o s):wpAny (model prog w) A (Builtin.Slice.slicePartIndex v) Q E s:=by
 cases p with
 |none=>exact slicePart_none h
 |int i t=>exact slicePart_int h
theorem fD{sl:Addr}{vl vu:Value}{lo hi:Option Int}{n:Nat}{Q:Int×Int×Nat->Shared->Prop}(hs:s.heap.IsSliceOf sl vl vu .none)(pl:IsPart vl lo)(pu:IsPart vu hi)
  (h:Q (((cF n 0 lo:Nat):Int),1,cF n n hi-cF n 0 lo) s):wpAny (model prog w) A (Builtin.Slice.sliceApplied (.ref sl) (pure (n:Int))) Q E s:=by
 obtain⟨os,hos,hcs,hds⟩:=id hs
 unfold Builtin.Slice.sliceApplied Builtin.Slice.sliceFields
 refine wpAny_bind (wpAny_bind (wpAny_field hos hds (x:=vl) rfl (wpAny_bind (wpAny_field hos hds (x:=vu) rfl (wpAny_bind (wpAny_field hos hds (x:= .none) rfl (wpAny_pure ?_)))))))
 refine wpAny_bind (slicePart_none ?_)
 show wpAny _ _ (if((1:Int)==0)=true then _ else _) _ _ s
 rw[if_neg (by decide)]
 refine wpAny_bind (my pl (wpAny_bind (my pu (wpAny_bind (wpAny_pure ?_)))))
 show wpAny _ _ (match Builtin.Slice.sliceAdjust lo hi 1 (n:Int)with|(lo,hi)=>pure (lo,(1:Int),Builtin.Slice.slicePlaces lo hi 1)) _ _ s
 rw[tI lo hi n]
 show wpAny _ _ (pure (((cF n 0 lo:Nat):Int),(1:Int),Builtin.Slice.slicePlaces ((cF n 0 lo:Nat):Int) ((cF n n hi:Nat):Int) 1)) _ _ s
 rw[uT]
 exact wpAny_pure h
theorem Bh(xs:Array Value)(i k:Nat):((List.range k).filterMap fun(m:Nat)=>xs[((i:Int)+(m:Int)*1).toNat]?).toArray=((xs.toList.drop i).take k).toArray:=by
 have e:(fun(m:Nat)=>xs[((i:Int)+(m:Int)*1).toNat]?)=fun m=>xs[i+m]? :=by
  funext m
  have:((i:Int)+(m:Int)*1).toNat=i+m:=by omega
  rw[this]
 rw[e]
 have:=pick_run xs i k
 rw[List.filterMap_map]at this
 have e2:((fun x=>xs[x]?) ∘fun x=>i+x)=fun m=>xs[i+m]? :=rfl
 rw[e2]at this
 rw[this]
theorem iZ{t sl:Addr}{items:Array Value}{vl vu:Value}{lo hi:Option Int}{Q:Value->Shared->Prop}(ht:IsTup s.heap t items)(hs:s.heap.IsSliceOf sl vl vu .none)(pl:IsPart vl lo)(pu:IsPart vu hi)
  (hw: ¬(cF items.size 0 lo=0/\cF items.size items.size hi=items.size))
  (h:Q (.ref s.heap.objs.size) {s with heap:=s.heap.push {cls:= .type "tuple",data:= .seq ((items.toList.drop (cF items.size 0 lo)).take (cF items.size items.size hi-cF items.size 0 lo)).toArray}})
  (hsz:items.size<=sizeLine):wpAny (model prog w) A (getItem (.ref t) (.ref sl)) Q E s:=by
 have wc:sizeOk (.seq ((items.toList.drop (cF items.size 0 lo)).take (cF items.size items.size hi-cF items.size 0 lo)).toArray):=by
  show((items.toList.drop (cF items.size 0 lo)).take (cF items.size items.size hi-cF items.size 0 lo)).toArray.size<=sizeLine
  rw[List.size_toArray,List.length_take,List.length_drop,Array.length_toList]
  omega
 have hj:cF items.size items.size hi<=items.size:=G9 _ _ (Nat.le_refl _) hi
 obtain⟨os,hos,hcs,hds⟩:=id hs
 have KL:s.TypeIs (.ref sl) "slice":=⟨os,hos,hcs⟩
 unfold getItem
 try with_reducible refine wpAny_holding ?_
 first|refine wpAny_bind (wpAny_pure ?_)|skip
 refine wpAny_bind (wpAny_sequenceKey ht.typeIs (by decide) ?_)
 refine wpAny_bind (wpAny_callSpecial?_slot (name:=Str.ofString "__getitem__") ht.typeIs PyProof.Rows.slot_tuple_getitem
  (wpAny_call_entry PyProof.Rows.slot_tuple_getitem ht.typeIs entry_tuple_getitem ?_ (args_tuple_getitem _ _)))
 show wpAny _ _ (Builtin.Tuple.tupleItemsOf (.ref t) >>=_) _ _ s
 refine wpAny_bind (tupleItemsOf_ ht ?_)
 refine wpAny_bind (wpAny_typeOf KL ?_)
 rw[if_pos (by decide)]
 refine wpAny_bind (fD hs pl pu ?_)
 have hno: ¬((((cF items.size 0 lo:Nat):Int)==0&& (1:Int)==1&& (cF items.size items.size hi-cF items.size 0 lo)==items.size)=true):=by
  intro q
  rw[Bool.and_eq_true,Bool.and_eq_true]at q
  have q1:((cF items.size 0 lo:Nat):Int)=0:=eq_of_beq q.1.1
  have q2:cF items.size items.size hi-cF items.size 0 lo=items.size:=eq_of_beq q.2
  exact hw ⟨by omega,by omega⟩
 show wpAny _ _ (if(((cF items.size 0 lo:Nat):Int)==0&& (1:Int)==1&& (cF items.size items.size hi-cF items.size 0 lo)==items.size)=true then _ else _) _ _ s
 rw[if_neg hno,Bh]
 first
  |exact wpAny_bind (m:=Builtin.Tuple.tupleExact _) (wpAny_newObj_type (wpAny_pure ⟨_,rfl,wpAny_pure h⟩) wc)
  |exact wpAny_bind (m:=Builtin.Tuple.tupleExact _) (wpAny_newObj_type (wpAny_bind (wpAny_pure (wpAny_pure ⟨_,rfl,wpAny_pure h⟩))) wc)
  |exact wpAny_bind (wpAny_bind (m:=Builtin.Tuple.tupleExact _) (wpAny_newObj_type (wpAny_pure (wpAny_pure ⟨_,rfl,wpAny_pure h⟩)) wc))
  |exact wpAny_bind (wpAny_bind (m:=Builtin.Tuple.tupleExact _) (wpAny_newObj_type (wpAny_pure ⟨_,rfl,wpAny_pure h⟩) wc))
end
end HT
namespace L2
open PySem PySem.Spec PyProof.Rows
abbrev TO:=St->Hp->(Option Int->Hp->Prop)->Prop
def PO(X:Cx)(e:Option Expr)(t:TO):Prop:=
 ∀ (pins:List (Addr×Obj)) (s:Shared) (σ:St) (H:Hp) (Q:Option Int->Hp->Prop),Inv X pins σ H s->t σ H Q->
  wpAny (model X.prog X.w) X.A (evalPart e X.env) (fun u s'=> ∃o H',Inv X pins σ H' s'/\IsPart u o/\Q o H') X.xe s
def w6:TO:=fun _ H Q=>Q none H
def Fd(t:TE):TO:=fun σ H Q=>t σ H fun x H1=> ∃i,x= .int i/\Q (some i) H1
section
variable{X:Cx}{e:Expr}{te:TE}{lo hi:Option Expr}{tl th:TO}{pos p2:Pos}
theorem jd:PO X none w6:=by
 intro pins s σ H Q I h
 rw[evalPart_none]
 exact wpAny_pure ⟨none,H,I,.none,h⟩
theorem je(h:PE X e te):PO X (some e) (Fd te):=by
 intro pins s σ H Q I hw
 rw[evalPart_some]
 refine aL (h pins s σ H _ I hw) fun u s1 ⟨x,H1,I1,r1,q1⟩=> ?_
 obtain⟨i,rfl,q⟩:=q1
 obtain⟨t,rfl⟩:=r1
 exact⟨some i,H1,I1,.int i t,q⟩
def HL(X:Cx)(r:V->Option Int->Option Int->Hp->VK->Prop):Prop:=
 ∀ (pins:List (Addr×Obj)) (s:Shared) (σ:St) (H:Hp) (x:V) (v vl vu:Value) (lo hi:Option Int) (sl:Addr) (Q:VK),Inv X pins σ H s->RelV x v->s.heap.IsSliceOf sl vl vu .none->IsPart vl lo->IsPart vu hi->r x lo hi H Q->
  ∃T id,typeLookup (.type T) "__getitem__"=pure (some (.builtin id))/\s.TypeIs v T/\wpAny (model X.prog X.w) X.A (getItem v (.ref sl)) (EP X pins σ Q) X.xe s
def O8(r:V->Option Int->Option Int->Hp->VK->Prop)(te:TE)(tl th:TO):TE:=fun σ H Q=>te σ H fun x H1=>tl σ H1 fun l H2=>th σ H2 fun u H3=>r x l u H3 Q
theorem gv{r:V->Option Int->Option Int->Hp->VK->Prop}(hr:HL X r)(he:PE X e te)(hl:PO X lo tl)(hu:PO X hi th):PE X (.Subscript e (.Slice lo hi none p2) pos) (O8 r te tl th):=by
 intro pins s σ H Q I h
 refine Subscript_ (aL (he pins s σ H _ I h) fun v s1 ⟨x,H1,I1,r1,q1⟩=> ?_)
 refine wpAny_Slice (aL (hl pins s1 σ H1 _ I1 q1) fun vl s2 ⟨l,H2,I2,pl,q2⟩=>aL (hu pins s2 σ H2 _ I2 q2) fun vu s3 ⟨u,H3,I3,pu,q3⟩=> ?_)
 rw[evalPart_none]
 refine wpAny_pure ?_
 have I4:Inv X pins σ H3 {s3 with heap:=s3.heap.push {cls:= .type "slice",data:= .fields #[vl,vu,.none]}}:=I3.kept (t':=s3.toks) fun b ob q=>Heap.get?_push_of_some _ q
 obtain⟨T,id,hT,ht,hg⟩:=hr pins {s3 with heap:=s3.heap.push {cls:= .type "slice",data:= .fields #[vl,vu,.none]}} σ H3 x v vl vu l u s3.heap.objs.size Q I4 r1 (Heap.IsSliceOf.new ..) pl pu q3
 show wpAny (model X.prog X.w) X.A (subscriptTail e (.Slice lo hi none p2) v (.ref s3.heap.objs.size)) (EP X pins σ Q) X.xe {s3 with heap:=s3.heap.push {cls:= .type "slice",data:= .fields #[vl,vu,.none]}}
 exact tail_any (ops:= [.ref s3.heap.objs.size,v]) ht hT hg (by with_unfolding_all rfl)
def gR(xs:List V)(lo hi:Option Int):List V:=(xs.drop (HT.cF xs.length 0 lo)).take (HT.cF xs.length xs.length hi-HT.cF xs.length 0 lo)
theorem jW(xs:List V)(lo hi:Option Int):(gR xs lo hi).length<=xs.length:=by
 unfold gR
 rw[List.length_take,List.length_drop]
 omega
inductive Nb(K:PySem.W.Frag)(x:V)(lo:Option Int)(hi:Option Int)(H:Hp)(Q:VK):Prop
 |mk (a xs:_) (_:x= .ref a) (_:bn K H a xs) (_: ¬(HT.cF xs.length 0 lo=0/\HT.cF xs.length xs.length hi=xs.length)) (_: ∀p,H p=none->Q (.ref p) (upd H p (.tup (gR xs lo hi))))
theorem BY:HL X (Nb X.K):=by
 intro pins s σ H x v vl vu lo hi sl Q I rx hs pl pu h
 obtain⟨a,xs,rfl,hx,hw,q⟩:=h
 cases rx
 obtain⟨its,r,ht,hz⟩:=I.tuple hx
 have hlen:its.toArray.size=xs.length:=by rw[List.size_toArray];exact r.length.symm
 refine⟨"tuple",_,PyProof.Rows.slot_tuple_getitem.lookup,ht.typeIs,?_⟩
 refine HT.iZ ht hs pl pu (by rw[hlen];exact hw) ?_ (by rw[hlen];exact hz)
 rw[hlen]
 refine⟨.ref s.heap.objs.size,_,I.laid (t':=s.toks) (o:= .tup (gR xs lo hi)) (fun b ob q=>Heap.get?_push_of_some _ q) (Nat.le_refl _) ?_,rfl,q _ (I.hok.fresh (Nat.le_refl _))⟩
 exact⟨Nat.le_trans (jW xs lo hi) hz,_,(r.drop (HT.cF xs.length 0 lo)).take (HT.cF xs.length xs.length hi-HT.cF xs.length 0 lo),IsTup.new _ _⟩
inductive Bo(K:PySem.W.Frag)(x:V)(y:V)(H:Hp)(Q:VK):Prop
 |mk (a b xs ys:_) (_:x= .ref a) (_:y= .ref b) (_:bn K H a xs) (_:bn K H b ys) (_:xs≠ []) (_:xs.length+ys.length<=sizeLine) (_:(ys= []->Q (.ref a) H)) (_:(ys≠ []-> ∀p,H p=none->Q (.ref p) (upd H p (.tup (xs++ys)))))
theorem Vals.kB{xs:List V}{us:List Value}(r:Vals xs us):us= [] ↔xs= []:=by
 cases r with
 |nil=>simp
 |cons _ _=>simp
theorem kC:gG X (binaryOp .Add) (Bo X.K):=by
 intro pins s σ H x y v u Q I rx ry h
 obtain⟨a,b,xs,ys,rfl,rfl,ha,hb,hx,hz,q1,q2⟩:=h
 cases rx
 cases ry
 obtain⟨its,r1,p1,_⟩:=I.tuple ha
 obtain⟨its2,r2,p2,_⟩:=I.tuple hb
 refine HT.CF p1 p2 (fun z=>hx (r1.kB.mp z)) (fun z=>⟨.ref a,H,I,rfl,q1 (r2.kB.mp z)⟩) (fun z=> ?_) (by rw[<-r1.length,<-r2.length];exact hz)
 refine⟨.ref s.heap.objs.size,_,I.laid (t':=s.toks) (o:= .tup (xs++ys)) (fun b ob q=>Heap.get?_push_of_some _ q) (Nat.le_refl _) ?_,rfl,q2 (fun w=>z (r2.kB.mpr w)) _ (I.hok.fresh (Nat.le_refl _))⟩
 exact⟨by rw[List.length_append];exact hz,_,r1.append r2,IsTup.new _ _⟩
end
end L2
namespace L2
open PySem PySem.Spec PyProof.Rows
def xL(n:Nat)(i:Int):Option Nat:=if 0<=i then(if i<n then some i.toNat else none)else if-(n:Int)<=i then some (i+n).toNat else none
def tq{α:Type}(xs:List α)(i:Int):Option α:=(xL xs.length i).bind fun j=>xs[j]?
theorem wf{n:Nat}{i:Int}{j:Nat}(h:xL n i=some j):seqIndex? i n=some j/\j<n∧ -(n:Int)<=i/\i<n:=by
 unfold xL at h
 by_cases h0:0<=i
 ·rw[if_pos h0]at h
  by_cases h1:i<n
  ·rw[if_pos h1]at h
   have e:i.toNat=j:=Option.some.inj h
   exact⟨by rw[seqIndex_of h0 h1,e],by omega,by omega,h1⟩
  ·rw[if_neg h1]at h;cases h
 ·rw[if_neg h0]at h
  by_cases h1: -(n:Int)<=i
  ·rw[if_pos h1]at h
   have e:(i+n).toNat=j:=Option.some.inj h
   exact⟨by rw[seqIndex_neg (by omega) h1,e],by omega,h1,by omega⟩
  ·rw[if_neg h1]at h;cases h
theorem vH{α:Type}{xs:List α}{i:Int}{v:α}(h:tq xs i=some v): ∃j,seqIndex? i xs.length=some j/\xs[j]? =some v/\j<xs.length∧ -(xs.length:Int)<=i/\i<xs.length:=by
 unfold tq at h
 cases e:xL xs.length i with
 |none=>rw[e]at h;cases h
 |some j=>
  rw[e]at h
  obtain⟨h1,h2,h3,h4⟩:=wf e
  exact⟨j,h1,h,h2,h3,h4⟩
theorem bc{α:Type}{xs:List α}{j:Nat}{v:α}(h:xs[j]? =some v):tq xs (j:Int)=some v:=by
 have hj:j<xs.length:=(List.getElem?_eq_some_iff.mp h).1
 have e:xL xs.length (j:Int)=some j:=by
  unfold xL
  rw[if_pos (by omega),if_pos (by omega)];simp
 unfold tq;rw[e];exact h
theorem zw{α:Type}(xs:List α)(v:α):tq (xs++ [v]) (-1)=some v:=by
 have hl:(xs++ [v]).length=xs.length+1:=by simp
 have e:xL (xs++ [v]).length (-1)=some xs.length:=by
  unfold xL
  rw[hl,if_neg (by decide),if_pos (by omega)]
  congr 1
  omega
 unfold tq
 rw[e]
 show(xs++ [v])[xs.length]? =some v
 simp
def Cz(b:Expr):Prop:= ∀o i,subscripted b false o i=operate [o,i] (getItem o i)
def Iw(X:Cx)(r:R2):Prop:=
 ∀ (value slice:Expr) (pins:List (Addr×Obj)) (s:Shared) (σ:St) (H:Hp) (x y:V) (v u:Value) (Q:VK),Inv X pins σ H s->RelV x v->RelV y u->r x y H Q->
  subscripted slice false v u=operate [v,u] (getItem v u)->wpAny (model X.prog X.w) X.A (subscriptTail value slice v u) (EP X pins σ Q) X.xe s
def KC(X:Cx)(id:String)(r:V->List V->Hp->VK->Prop):Prop:=
 ∀ (pins:List (Addr×Obj)) (s:Shared) (σ:St) (H:Hp) (x:V) (xs:List V) (v:Value) (us:List Value) (Q:VK),Inv X pins σ H s->RelV x v->Vals xs us->r x xs H Q->
  wpAny (model X.prog X.w) X.A (call (.builtin id) (v::us)) (EP X pins σ Q) X.xe s
section
variable{X:Cx}{a b:Expr}{ta tb:TE}{pos:Pos}
theorem aK{r:R2}(hr:Iw X r)(ha:PE X a ta)(hb:PE X b tb)(hs:Cz b):PE X (.Subscript a b pos) (j8 r ta tb):=by
 intro pins s σ H Q I h
 exact Subscript_ (Fv ha hb I h fun v u s2 x y H2 I2 rx ry q=>hr a b pins s2 σ H2 x y v u Q I2 rx ry q (hs _ _))
inductive sr(K:PySem.W.Frag)(x:V)(y:V)(H:Hp)(Q:VK):Prop
 |mk (p xs i v:_) (_:x= .ref p) (_:y= .int i) (_:aN K H p xs) (_:tq xs i=some v) (_:Q v H)
inductive GR(K:PySem.W.Frag)(x:V)(y:V)(H:Hp)(Q:VK):Prop
 |mk (p xs i v:_) (_:x= .ref p) (_:y= .int i) (_:bn K H p xs) (_:tq xs i=some v) (_:Q v H)
theorem bm:Iw X (sr X.K):=by
 intro value slice pins s σ H x y v u Q I rx ry h hs
 obtain⟨p,xs,i,z,rfl,rfl,hq,he,q⟩:=h
 cases rx
 obtain⟨t,rfl⟩:=ry
 obtain⟨its,r,pl,hz⟩:=I.list hq
 obtain⟨j,h1,h2,h3,h4,h5⟩:=vH he
 obtain⟨w,ew,rw'⟩:=r.get h2
 have hl:=r.length
 have hn:=jG
 have fin:EP X pins σ Q w s:=⟨z,H,I,rw',q⟩
 by_cases h0:0<=i
 ·have hj:i.toNat=j:=by
   rw[seqIndex_of h0 h5]at h1
   exact Option.some.inj h1
  exact item_listR pl.isList h0 (by omega) (by rw[hj];simpa using ew) fin hs
 ·have hj:(i+(its.toArray.size:Int)).toNat=j:=by
   rw[seqIndex_neg (by omega) h4]at h1
   rw[List.size_toArray,<-hl]
   exact Option.some.inj h1
  exact subscriptTail_builtinR (x:=w) pl.isList.typeIs slot_list_getitem.lookup
   (wpAny_getItem_list_neg (Q:=fun r s'=>r=w/\EP X pins σ Q r s') pl.isList (by omega) (by rw[List.size_toArray]<;>omega) (by omega) (by rw[hj];simpa using ew) ⟨rfl,fin⟩) hs
theorem dk:Iw X (GR X.K):=by
 intro value slice pins s σ H x y v u Q I rx ry h hs
 obtain⟨p,xs,i,z,rfl,rfl,hq,he,q⟩:=h
 cases rx
 obtain⟨t,rfl⟩:=ry
 obtain⟨its,r,pl,hz⟩:=I.tuple hq
 obtain⟨j,h1,h2,h3,h4,h5⟩:=vH he
 obtain⟨w,ew,rw'⟩:=r.get h2
 have hl:=r.length
 have hn:=jG
 have fin:EP X pins σ Q w s:=⟨z,H,I,rw',q⟩
 exact subscriptTail_builtinR (x:=w) pl.typeIs slot_tuple_getitem.lookup
  (getItem_tuple (j:=j) (Q:=fun r s'=>r=w/\EP X pins σ Q r s') pl (by omega) (by omega) (by rw[List.size_toArray,<-hl];exact h1) (by simpa using ew) ⟨rfl,fin⟩) hs
theorem uC(its:List Value)(n j:Nat)(u:Value):Obj.mapSeq (·.setIfInBounds j u) {cls:= .type "list",data:= .seq its.toArray n}= {cls:= .type "list",data:= .seq (its.set j u).toArray n}:=by
 simp[Obj.mapSeq]
theorem Inv.lst{pins:List (Addr×Obj)}{σ:St}{H:Hp}{s:Shared}{p:Addr}{xs:List V}(I:Inv X pins σ H s)(h:H p=some (.lst xs)):
  ∃ (its:List Value) (n:Nat),Vals xs its/\s.heap.get? p=some {cls:= .type "list",data:= .seq its.toArray n}/\xs.length<=sizeLine:=by
 obtain⟨z,its,n,r,e⟩:=I.hok p _ h
 exact⟨its,n,r,e,z⟩
theorem Inv.Gj{pins:List (Addr×Obj)}{σ:St}{H:Hp}{s:Shared}{p:Addr}{xs ys:List V}{its its':List Value}{n n':Nat}{f:Obj->Obj}(I:Inv X pins σ H s)(h:H p=some (.lst xs))
  (ho:s.heap.get? p=some {cls:= .type "list",data:= .seq its.toArray n})(hf:f {cls:= .type "list",data:= .seq its.toArray n}= {cls:= .type "list",data:= .seq its'.toArray n'})(r:Vals ys its')(hz:ys.length<=sizeLine)(t:Nat):
  Inv X pins σ (upd H p (.lst ys)) {s with heap:=s.heap.update p f,toks:=t}:=by
 have e:(s.heap.update p f).get? p=some {cls:= .type "list",data:= .seq its'.toArray n'}:=by
  rw[Heap.get?_update_self f ho (by rw[hf]<;>rfl),hf]
 refine I.write (x:=p) (e:=p) (by rw[h];trivial) (.inl rfl) (fun b u hb q=>(Heap.get?_update_other _ _ (Ne.symm hb)).trans q) ⟨_,e⟩ ?_
 exact⟨hz,its',n',r,e⟩
inductive J6(o:V)(i:V)(v:V)(H:Hp)(Q:(Hp->Prop)):Prop
 |mk (p xs k j:_) (_:o= .ref p) (_:i= .int k) (_:H p=some (.lst xs)) (_:xL xs.length k=some j) (_:Q (upd H p (.lst (xs.set j v))))
theorem set_list:IB X J6:=by
 intro pins s σ H o i v ov iv u Q I ro ri rv h
 obtain⟨p,xs,k,j,rfl,rfl,hp,hj,q⟩:=h
 cases ro
 obtain⟨t,rfl⟩:=ri
 obtain⟨its,n,r,ho,hz⟩:=I.lst hp
 obtain⟨h1,h2,h3,h4⟩:=wf hj
 have hl:=r.length
 have hn:=jG
 have I':Inv X pins σ (upd H p (.lst (xs.set j v))) {s with heap:=s.heap.update p (Obj.mapSeq (·.setIfInBounds j u))}:=
  I.Gj hp ho (uC its n j u) (r.set rv j) (by rw[List.length_set];exact hz) s.toks
 by_cases h0:0<=k
 ·have hk:k.toNat=j:=by
   rw[seqIndex_of h0 h4]at h1
   exact Option.some.inj h1
  exact PySem.W.ki_setAt ho h0 (by omega) (by rw[List.size_toArray,<-hl];exact h4) (by rw[hk];exact⟨_,I',q⟩)
 ·have hk:(k+(its.toArray.size:Int)).toNat=j:=by
   rw[seqIndex_neg (by omega) h3]at h1
   rw[List.size_toArray,<-hl]
   exact Option.some.inj h1
  exact PySem.W.ki_setBack ho (by omega) (by rw[List.size_toArray,<-hl];exact h3) (by omega) (by rw[hk];exact⟨_,I',q⟩)
theorem qf(lo hi:Option Int)(n:Nat):(sliceBounds lo hi none n).1=((HT.cF n 0 lo:Nat):Int)/\(sliceBounds lo hi none n).2.1=((HT.cF n n hi:Nat):Int)/\(sliceBounds lo hi none n).2.2=1:=by
 refine⟨?_,?_,rfl⟩
 ·cases lo with
  |none=>simp[sliceBounds,HT.cF]
  |some i=>
   simp only[sliceBounds,HT.cF,Option.getD_none,show(1:Int) >0 by decide,if_true]
   by_cases h:i<0
   ·simp only[h,if_true]<;>omega
   ·simp only[h,if_false]<;>omega
 ·cases hi with
  |none=>simp[sliceBounds,HT.cF]
  |some i=>
   simp only[sliceBounds,HT.cF,Option.getD_none,show(1:Int) >0 by decide,if_true]
   by_cases h:i<0
   ·simp only[h,if_true]<;>omega
   ·simp only[h,if_false]<;>omega
theorem mW(its:List Value)(lo hi:Option Int):slicePick its.toArray lo hi none=((its.drop (HT.cF its.length 0 lo)).take (HT.cF its.length its.length hi-HT.cF its.length 0 lo)).toArray:=by
 obtain⟨h1,h2,h3⟩:=qf lo hi its.toArray.size
 unfold slicePick
 rw[h1,h2,h3]
 simp only[sliceRange_one,pick_run,List.size_toArray]<;>rfl
inductive GS(K:PySem.W.Frag)(x:V)(lo:Option Int)(hi:Option Int)(H:Hp)(Q:VK):Prop
 |mk (a xs:_) (_:x= .ref a) (_:aN K H a xs) (_: ∀p,H p=none->Q (.ref p) (upd H p (.lst (gR xs lo hi))))
theorem wO:HL X (GS X.K):=by
 intro pins s σ H x v vl vu lo hi sl Q I rx hs pl pu h
 obtain⟨a,xs,rfl,hx,q⟩:=h
 cases rx
 obtain⟨its,r,ht,hz⟩:=I.list hx
 have hlen:=r.length
 refine⟨"list",_,slot_list_getitem.lookup,ht.isList.typeIs,?_⟩
 refine wpAny_getItem_list_slice ht.isList hs pl pu .none (by simp) ?_ (by rw[List.size_toArray]<;>omega)
 rw[mW,<-hlen]
 refine⟨.ref s.heap.objs.size,_,I.laid (t':=s.toks) (o:= .lst (gR xs lo hi)) (fun b ob q=>Heap.get?_push_of_some _ q) (Nat.le_refl _) ?_,rfl,q _ (I.hok.fresh (Nat.le_refl _))⟩
 exact⟨Nat.le_trans (jW xs lo hi) hz,_,0,(r.drop (HT.cF xs.length 0 lo)).take (HT.cF xs.length xs.length hi-HT.cF xs.length 0 lo),Heap.get?_push_size _ rfl⟩
def eN:V->Bool
 | .aH=>true
 | .bl _=>true
 | .int _=>true
 | .str _=>true
 |_=>false
def xy:V->V->Bool
 | .aH,.aH=>true
 | .bl a,.bl b=>a==b
 | .bl a,.int b=>(if a then 1 else 0)==b
 | .int a,.bl b=>a==(if b then 1 else 0)
 | .int a,.int b=>a==b
 | .str a,.str b=>a==b
 |_,_=>false
theorem lq{A:Around}{s:Shared}{y x:V}{u v:Value}(ry:RelV y u)(rx:RelV x v)(fy:eN y=true)(fx:eN x=true):SeqAt.EqAt A s u v (xy y x):=by
 cases y with
 |aH=>
  cases ry
  cases x with
  |aH=>cases rx;exact SeqAt.EqAt.same _
  |bl b=>cases rx;exact SeqAt.EqAt.none_bool b
  |int b=>obtain⟨t,rfl⟩:=rx;exact SeqAt.EqAt.none_int b t
  |str b=>obtain⟨t,rfl⟩:=rx;exact SeqAt.EqAt.none_str b t
  |_=>exact absurd (show false=true from fx) Bool.false_ne_true
 |bl a=>
  cases ry
  cases x with
  |aH=>cases rx;exact SeqAt.EqAt.bool_none a
  |bl b=>cases rx;exact SeqAt.EqAt.bool_bool a b
  |int b=>obtain⟨t,rfl⟩:=rx;exact SeqAt.EqAt.bool_int a b t
  |str b=>obtain⟨t,rfl⟩:=rx;exact SeqAt.EqAt.bool_str a b t
  |_=>exact absurd (show false=true from fx) Bool.false_ne_true
 |int a=>
  obtain⟨t',rfl⟩:=ry
  cases x with
  |aH=>cases rx;exact SeqAt.EqAt.int_none a t'
  |bl b=>cases rx;exact SeqAt.EqAt.int_bool a t' b
  |int b=>obtain⟨t,rfl⟩:=rx;exact SeqAt.EqAt.int_int a t' b t
  |str b=>obtain⟨t,rfl⟩:=rx;exact SeqAt.EqAt.int_str a t' b t
  |_=>exact absurd (show false=true from fx) Bool.false_ne_true
 |str a=>
  obtain⟨t',rfl⟩:=ry
  cases x with
  |aH=>cases rx;exact SeqAt.EqAt.str_none a t'
  |bl b=>cases rx;exact SeqAt.EqAt.str_bool a t' b
  |int b=>obtain⟨t,rfl⟩:=rx;exact SeqAt.EqAt.str_int a t' b t
  |str b=>obtain⟨t,rfl⟩:=rx;exact SeqAt.EqAt.str_str a t' b t
  |_=>exact absurd (show false=true from fx) Bool.false_ne_true
 |_=>exact absurd (show false=true from fy) Bool.false_ne_true
def tU(x:V)(u:Value):Bool:=match u with
 | .none=>xy .aH x
 | .bool b=>xy (.bl b) x
 | .int i _=>xy (.int i) x
 | .str z _=>xy (.str z) x
 |_=>false
theorem zM{x y:V}{u:Value}(r:RelV y u)(f:eN y=true):tU x u=xy y x:=by
 cases y with
 |aH=>cases r;rfl
 |bl b=>cases r;rfl
 |int i=>obtain⟨t,rfl⟩:=r;rfl
 |str z=>obtain⟨t,rfl⟩:=r;rfl
 |_=>exact absurd (show false=true from f) Bool.false_ne_true
theorem iR{x:V}: ∀ {xs:List V} {us:List Value},Vals xs us->xs.all eN=true->us.any (tU x)=xs.any fun y=>xy y x
 |_,_,.nil,_=>rfl
 |y::xs,u::us,.cons r t,f=>by
  rw[List.all_cons,Bool.and_eq_true]at f
  rw[List.any_cons,List.any_cons,zM r f.1,iR t f.2]
theorem gr{A:Around}{s:Shared}{x:V}{v:Value}(rx:RelV x v)(fx:eN x=true): ∀ {xs:List V} {us:List Value},Vals xs us->xs.all eN=true-> ∀u∈us,SeqAt.EqAt A s u v (tU x u)
 |_,_,.nil,_=>fun u hu=>by cases hu
 |y::xs,u::us,.cons r t,f=>fun u' hu=>by
  rw[List.all_cons,Bool.and_eq_true]at f
  rcases List.mem_cons.mp hu with rfl|hu
  ·rw[zM r f.1];exact lq r rx f.1 fx
  ·exact gr rx fx t f.2 u' hu
def tD(x:V)(xs:List V):Bool:=xs.any fun y=>xy y x
inductive K7(K:PySem.W.Frag)(neg:Bool)(x:V)(y:V)(H:Hp)(Q:VK):Prop
 |mk (p xs:_) (_:y= .ref p) (_:(aN K H p xs\/bn K H p xs)) (_:eN x=true) (_:xs.all eN=true) (_:Q (.bl (if neg then !tD x xs else tD x xs)) H)
theorem fw:gG X (compareOp .In) (K7 X.K false):=by
 intro pins s σ H x y v u Q I rx ry h
 obtain⟨p,xs,rfl,hq,fx,fs,q⟩:=h
 cases ry
 rcases hq with hq|hq
 ·obtain⟨its,r,pl,hz⟩:=I.list hq
  refine SeqAt.in_listAt (tU x) pl.isList (fun w hw=>gr rx fx r fs w (by simpa using hw)) ⟨.bl _,H,I,rfl,?_⟩
  rw[show its.toArray.any (tU x)=its.any (tU x)by simp,iR r fs]
  exact q
 ·obtain⟨its,r,pl,hz⟩:=I.tuple hq
  refine SeqAt.in_tupleAt (tU x) pl (fun w hw=>gr rx fx r fs w (by simpa using hw)) ⟨.bl _,H,I,rfl,?_⟩
  rw[show its.toArray.any (tU x)=its.any (tU x)by simp,iR r fs]
  exact q
theorem pM:gG X (compareOp .NotIn) (K7 X.K true):=by
 intro pins s σ H x y v u Q I rx ry h
 obtain⟨p,xs,rfl,hq,fx,fs,q⟩:=h
 cases ry
 rcases hq with hq|hq
 ·obtain⟨its,r,pl,hz⟩:=I.list hq
  refine SeqAt.notIn_listAt (tU x) pl.isList (fun w hw=>gr rx fx r fs w (by simpa using hw)) ⟨.bl _,H,I,rfl,?_⟩
  rw[show its.toArray.any (tU x)=its.any (tU x)by simp,iR r fs]
  exact q
 ·obtain⟨its,r,pl,hz⟩:=I.tuple hq
  refine SeqAt.notIn_tupleAt (tU x) pl (fun w hw=>gr rx fx r fs w (by simpa using hw)) ⟨.bl _,H,I,rfl,?_⟩
  rw[show its.toArray.any (tU x)=its.any (tU x)by simp,iR r fs]
  exact q
theorem aR:dc X (.builtin "len") (fun xs H Q=> ∃p ys,xs= [.ref p]/\(aN X.K H p ys\/bn X.K H p ys)/\Q (.int ys.length) H):=by
 intro pins s σ H xs us Q I r h
 obtain⟨p,ys,rfl,hq,q⟩:=h
 obtain⟨u,rfl,rx⟩:=vals1 r
 cases rx
 have hn:=jG
 rcases hq with hq|hq
 ·obtain⟨its,r',pl,hz⟩:=I.list hq
  have hlen:=r'.length
  exact Calls.call_len_list pl.isList (by simp only[List.size_toArray]<;>omega) ⟨.int ys.length,H,I.tok _,⟨s.toks+1,by rw[List.size_toArray,hlen]⟩,q⟩
 ·obtain⟨its,r',pl,hz⟩:=I.tuple hq
  have hlen:=r'.length
  exact len_tuple pl (by simp only[List.size_toArray]<;>omega) ⟨.int ys.length,H,I.tok _,⟨s.toks+1,by rw[List.size_toArray,hlen]⟩,q⟩
theorem oY:dc X (.builtin "len") (fun xs H Q=> ∃z,xs= [.str z]/\z.length<=sizeLine/\Q (.int z.length) H):=by
 intro pins s σ H xs us Q I r h
 obtain⟨z,rfl,hz,q⟩:=h
 obtain⟨u,rfl,t,rfl⟩:=vals1 r
 have hn:=jG
 exact len_str (by omega) ⟨.int z.length,H,I.tok _,⟨_,rfl⟩,q⟩
theorem fK:dc X (.type "list") (fun xs H Q=> ∃p ys,xs= [.ref p]/\(aN X.K H p ys\/bn X.K H p ys)/\ ∀l,H l=none->Q (.ref l) (upd H l (.lst ys))):=by
 intro pins s σ H xs us Q I r h
 obtain⟨p,ys,rfl,hq,q⟩:=h
 obtain⟨u,rfl,rx⟩:=vals1 r
 cases rx
 have fin: ∀ (its:List Value),Vals ys its->ys.length<=sizeLine-> ∀ (h':Heap) (c':Nat),(∀b o',s.heap.get? b=some o'->h'.get? b=some o')->
   h'.get? s.heap.objs.size=some {cls:= .type "list",dict:=none,data:= .seq its.toArray c',slots:= #[]}->EP X pins σ Q (.ref s.heap.objs.size) {s with heap:=h'}:=fun its r' hz h' c' kp e=>
  ⟨.ref s.heap.objs.size,_,I.laid (t':=s.toks) kp (Nat.le_refl _) (show bw X.prog X.w _ h' _ (.lst ys)from⟨hz,its,c',r',e⟩),rfl,q _ (I.hok.fresh (Nat.le_refl _))⟩
 rcases hq with hq|hq
 ·obtain⟨its,r',pl,hz⟩:=I.list hq
  have hlen:=r'.length
  obtain⟨o,ho,hc,n,hd⟩:=pl.isList
  exact call_list_seq p (.inl rfl) ho hc hd (fun h' c' kp e=>fin its r' hz h' c' kp e) (by simp only[List.size_toArray]<;>omega)
 ·obtain⟨its,r',pl,hz⟩:=I.tuple hq
  have hlen:=r'.length
  obtain⟨o,ho,hc,n,hd⟩:=pl
  exact call_list_seq p (.inr rfl) ho hc hd (fun h' c' kp e=>fin its r' hz h' c' kp e) (by simp only[List.size_toArray]<;>omega)
theorem bN:dc X (.type "tuple") (fun xs H Q=> ∃p ys,xs= [.ref p]/\((aN X.K H p ys/\ ∀l,H l=none->Q (.ref l) (upd H l (.tup ys)))\/(bn X.K H p ys/\Q (.ref p) H))):=by
 intro pins s σ H xs us Q I r h
 obtain⟨p,ys,rfl,h⟩:=h
 obtain⟨u,rfl,rx⟩:=vals1 r
 cases rx
 rcases h with⟨hq,q⟩|⟨hq,q⟩
 ·obtain⟨its,r',pl,hz⟩:=I.list hq
  have hlen:=r'.length
  refine call_tuple_list pl.isList (fun h' kp=> ?_) (by simp only[List.size_toArray]<;>omega)
  have I1:Inv X pins σ H {s with heap:=h'}:=I.kept (t':=s.toks) kp
  have I2:Inv X pins σ (upd H h'.objs.size (.tup ys)) {s with heap:=h'.push {cls:= .type "tuple",data:= .seq its.toArray}}:=
   I1.laid (t':=s.toks) (fun b o e=>Heap.get?_push_of_some _ e) (Nat.le_refl _) (show bw X.prog X.w _ _ _ (.tup ys)from⟨hz,its,r',IsTup.new _ _⟩)
  exact⟨.ref h'.objs.size,_,I2,rfl,q _ (I1.hok.fresh (Nat.le_refl _))⟩
 ·obtain⟨its,r',pl,hz⟩:=I.tuple hq
  exact call_tuple_same pl ⟨.ref p,H,I,rfl,q⟩
def Nx(K:PySem.W.Frag)(T:String)(x:V)(H:Hp):Prop:=match x with
 | .str _=>T= "str"
 | .int _=>T= "int"
 | .ref p=>(T= "list"/\ ∃xs,aN K H p xs)\/(T= "tuple"/\ ∃o,K.lookup p=some o/\o.cls= .type "tuple"/\o.dict=none)\/
   (T= "dict"/\((∃kvs,H p=some (.dK kvs))\/ ∃kvs,H p=some (.dT kvs)))\/(T= "set"/\ ∃S n,H p=some (.set S n))
 |_=>False
theorem Cg{pins:List (Addr×Obj)}{σ:St}{H:Hp}{s:Shared}{T:String}{x:V}{v:Value}(I:Inv X pins σ H s)(r:RelV x v)(ty:Nx X.K T x H):
  s.TypeIs v T/\ ∀a,v= .ref a-> ∃ob,s.heap.get? a=some ob/\ob.dict=none:=by
 cases x with
 |str z=>
  obtain⟨t,rfl⟩:=r
  cases(show T= "str" from ty)
  exact⟨typeIs_str s z t,fun _ e=>nomatch e⟩
 |int i=>
  obtain⟨t,rfl⟩:=r
  cases(show T= "int" from ty)
  exact⟨typeIs_int s i t,fun _ e=>nomatch e⟩
 |ref p=>
  cases r
  rcases ty with⟨rfl,xs,hq⟩|⟨rfl,o,hk,hc,hd⟩|⟨rfl,hk⟩|⟨rfl,S,n,hk⟩
  ·obtain⟨its,_,pl,_⟩:=I.list hq
   refine⟨pl.isList.typeIs,fun a e=> ?_⟩
   cases e
   obtain⟨o,n,e,c,hd,_⟩:=pl
   exact⟨o,e,hd⟩
  ·refine⟨⟨o,I.fZ p o hk,hc⟩,fun a e=> ?_⟩
   cases e
   exact⟨o,I.fZ _ o hk,hd⟩
  ·have z: ∃o,s.heap.get? p=some o/\o.ExactDict:=by
    rcases hk with⟨kvs,hk⟩|⟨kvs,hk⟩
    ·obtain⟨_,_,_,_,o,_,_,e,ex,_⟩:=I.hok p _ hk
     exact⟨o,e,ex⟩
    ·obtain⟨_,_,_,_,o,_,_,e,ex,_⟩:=I.hok p _ hk
     exact⟨o,e,ex⟩
   obtain⟨o,e,ex⟩:=z
   refine⟨⟨o,e,ex.1⟩,fun a e2=> ?_⟩
   cases e2
   exact⟨o,e,ex.2.1⟩
  ·obtain⟨o,_,_,_,e,ex,_⟩:=I.hok p _ hk
   refine⟨⟨o,e,ex.1⟩,fun a e2=> ?_⟩
   cases e2
   exact⟨o,e,ex.2.1⟩
 |_=>exact False.elim ty
def No(K:PySem.W.Frag)(T:String)(r:V->List V->Hp->VK->Prop)(to:TE):TE:=fun σ H Q=>to σ H fun x H1=>Nx K T x H1/\r x [] H1 Q
def O5(K:PySem.W.Frag)(T:String)(r:V->List V->Hp->VK->Prop)(to:TE)(t:TA):TE:=fun σ H Q=>to σ H fun x H1=>Nx K T x H1/\t σ H1 fun xs H2=>r x xs H2 Q
variable{o e:Expr}{es:List Expr}{to:TE}{t:TA}{name:Str}{apos cpos:Pos}{T id:String}{r:V->List V->Hp->VK->Prop}
theorem uS(pa:PlainAttrs T)(slot:Slot T name id)(hty:typeOf (.builtin id)=pure (.type "method_descriptor"))(hm:KC X id r)(ho:PE X o to)
  (hbase:attributeBase o name X.env (eval o X.env)=eval o X.env:=by rfl)(hline:(apos.endLine==cpos.line)=true:=by rfl):PE X (.Call (.Attribute o name apos) [] [] cpos) (No X.K T r to):=by
 intro pins s σ H Q I h
 refine wpAny_Call_method0_late hbase hline (aL (ho pins s σ H _ I h) fun v s1 ⟨x,H1,I1,r1,ty,q1⟩=> ?_)
 obtain⟨h1,h2⟩:=Cg I1 r1 ty
 exact⟨T,id,pa,slot,hty,h1,h2,Calls.callWith_builtin rfl (PySem.evalArgs_none (hm pins s1 σ H1 x [] v [] Q I1 r1 .nil q1))⟩
theorem i9(pa:PlainAttrs T)(slot:Slot T name id)(hty:typeOf (.builtin id)=pure (.type "method_descriptor"))(hm:KC X id r)(ho:PE X o to)(ha:PA X (e::es) t)
  (hbase:attributeBase o name X.env (eval o X.env)=eval o X.env:=by rfl)
  (hfew:((backTo cpos (starEach (e::es) X.env)).all (fun x=> !x.1) && (backToKw cpos (keywordEach [] X.env)).all (fun x=>x.1.isSome)
   &&decide ((e::es).length+([]:List Keyword).length+(if([]:List Keyword).isEmpty then 0 else 1)<30))=true:=by rfl)
  (hline:(apos.endLine==cpos.line)=true:=by rfl)(hs:starEach (e::es) X.env=(false,eval e X.env)::starEach es X.env:=by rfl)(hplain:(backTo cpos (starEach es X.env)).any (·.1)=false:=by rfl):
  PE X (.Call (.Attribute o name apos) (e::es) [] cpos) (O5 X.K T r to t):=by
 intro pins s σ H Q I h
 refine wpAny_Call_method_late hbase hfew hline rfl (aL (ho pins s σ H _ I h) fun v s1 ⟨x,H1,I1,r1,ty,q1⟩=> ?_)
 obtain⟨h1,h2⟩:=Cg I1 r1 ty
 refine⟨T,id,pa,slot,hty,h1,h2,?_⟩
 have hA:=ha cpos pins s1 σ H1 _ I1 q1
 rw[hs]at hA⊢
 refine Calls.callWith_builtin (by show(false||(backTo cpos (starEach es X.env)).any (·.1))=false;rw[hplain]<;>rfl) (Calls.evalArgs_plain ?_)
 exact aL hA fun us s2 ⟨vs,H2,I2,r2,q2⟩=>hm pins s2 σ H2 x vs v us Q I2 r1 r2 q2
end
end L2
namespace L2
open PySem PySem.Spec PyProof.Rows
def Lo(X:Cx)(id:String)(r:V->List V->Hp->VK->Prop):Prop:=
 ∀ (pins:List (Addr×Obj)) (s:Shared) (σ:St) (H:Hp) (x:V) (xs:List V) (v:Value) (us:List Value) (Q:VK),Inv X pins σ H s->RelV x v->Vals xs us->r x xs H Q->
  wpAny (model X.prog X.w) X.A (call (.builtin id) (v::us)) (EP X pins σ Q) X.xe s
theorem Vals.one: ∀ {x:V} {us:List Value},Vals [x] us-> ∃u,us= [u]/\RelV x u
 |_,_,.cons r .nil=>⟨_,rfl,r⟩
theorem Vals.two: ∀ {x y:V} {us:List Value},Vals [x,y] us-> ∃u v,us= [u,v]/\RelV x u/\RelV y v
 |_,_,_,.cons r (.cons q .nil)=>⟨_,_,rfl,r,q⟩
theorem Vals.zero: ∀ {us:List Value},Vals [] us->us= []
 |_,.nil=>rfl
theorem Vals.dropLast{xs:List V}{us:List Value}(h:Vals xs us):Vals xs.dropLast us.dropLast:=by
 induction h with
 |nil=>exact .nil
 |cons r t ih=>
  cases t with
  |nil=>exact .nil
  |cons q t'=>exact .cons r ih
theorem tV{α:Type}(l:List α):l.eraseIdx (l.length-1)=l.dropLast:=by
 induction l with
 |nil=>rfl
 |cons a r ih=>
  cases r with
  |nil=>rfl
  |cons b r=>
   have e:(a::b::r).length-1=((b::r).length-1)+1:=by
    have h1:(a::b::r).length=r.length+2:=rfl
    have h2:(b::r).length=r.length+1:=rfl
    omega
   rw[e,List.eraseIdx_cons_succ,ih]
   all_goals rfl
section
variable{X:Cx}{pins:List (Addr×Obj)}{σ:St}{H:Hp}{s:Shared}{l b:Addr}{xs ys zs:List V}
theorem Inv.Gi{its its':List Value}{n:Nat}{f:Array Value->Array Value}{t':Nat}(I:Inv X pins σ H s)(hH:H l=some (.lst xs))
  (e:s.heap.get? l=some {cls:= .type "list",data:= .seq its.toArray n})(hf:f its.toArray=its'.toArray)(hv:Vals ys its')(hz:ys.length<=sizeLine):
  Inv X pins σ (upd H l (.lst ys)) {s with heap:=s.heap.update l (Obj.mapSeq f),toks:=t'}:=by
 have q:=PySem.IsL.update e f
 rw[hf]at q
 refine I.write (x:=l) (e:=l) (by rw[hH];exact trivial) (.inl rfl) (fun b' u hb hu=>(Heap.get?_update_other s.heap (Obj.mapSeq f) (Ne.symm hb)).trans hu) ⟨_,q⟩ ?_
 exact⟨hz,its',_,hv,q⟩
theorem Inv.ME{its:List Value}{t':Nat}(I:Inv X pins σ H s)(hv:Vals ys its)(hz:ys.length<=sizeLine):
  Inv X pins σ (upd H s.heap.objs.size (.lst ys)) {s with heap:=s.heap.push {cls:= .type "list",data:= .seq its.toArray},toks:=t'}:=
 I.laid (fun _ _ q=>Heap.get?_push_of_some _ q) (Nat.le_refl _) ⟨hz,its,0,hv,Heap.get?_push_size _ rfl⟩
theorem Inv.fresh(I:Inv X pins σ H s):H s.heap.objs.size=none:=I.hok.fresh (Nat.le_refl _)
theorem Inv.xU(I:Inv X pins σ H s)(hH:H l=some (.lst xs)):xs.length<=sizeLine/\ ∃ (its:List Value) (n:Nat),Vals xs its/\xs.length=its.length/\s.heap.get? l=some {cls:= .type "list",data:= .seq its.toArray n}:=by
 obtain⟨z,its,n,r,e⟩:=I.hok l _ hH
 exact⟨z,its,n,r,r.length,e⟩
theorem AF{n:Nat}(h:n<=sizeLine):Builtin.List.listTooLong n=false:=by
 unfold Builtin.List.listTooLong
 exact decide_eq_false (by omega)
end
section
variable{X:Cx}
inductive wF(x:V)(vs:List V)(H:Hp)(Q:VK):Prop
 |mk (l xs y:_) (_:x= .ref l) (_:vs= [y]) (_:H l=some (.lst xs)) (_:xs.length<sizeLine) (_:Q .aH (upd H l (.lst (xs++ [y]))))
theorem dR:Lo X "list.append" wF:=by
 intro pins s σ H x vs v us Q I rx rv h
 obtain⟨l,xs,y,rfl,rfl,hH,hz,q⟩:=h
 cases rx
 obtain⟨u,rfl,ru⟩:=rv.one
 obtain⟨z,its,n,r,hl,e⟩:=I.xU hH
 refine call_meets F.slot_list_append ⟨_,e,rfl⟩ F.entry_list_append (F.args_list_append_2 _ _) (PySem.list_append l its.toArray n u (by rw[List.size_toArray];omega)) ⟨e,?_⟩
 refine⟨.aH,_,I.Gi (its':=its++ [u]) hH e (by simp) (r.append (.cons ru .nil)) ?_,rfl,q⟩
 rw[List.length_append,List.length_singleton]
 omega
inductive DT(x:V)(vs:List V)(H:Hp)(Q:VK):Prop
 |mk (l b xs zs:_) (_:x= .ref l) (_:vs= [.ref b]) (_:H l=some (.lst xs)) (_:H b=some (.lst zs)) (_:xs.length+zs.length<=sizeLine) (_:Q .aH (upd H l (.lst (xs++zs))))
theorem jI:Lo X "list.extend" DT:=by
 intro pins s σ H x vs v us Q I rx rv h
 obtain⟨l,b,xs,zs,rfl,rfl,hH,hB,hz,q⟩:=h
 cases rx
 obtain⟨u,rfl,ru⟩:=rv.one
 cases ru
 obtain⟨z,its,n,r,hl,e⟩:=I.xU hH
 obtain⟨z2,its2,n2,r2,hl2,e2⟩:=I.xU hB
 have hsz:its.toArray.size+its2.toArray.size<=sizeLine:=by rw[List.size_toArray,List.size_toArray];omega
 have Jl: ¬(!its.toArray.isEmpty&&Builtin.List.listTooLong (its.toArray.size+its2.toArray.size))=true:=by
  rw[AF hsz,Bool.and_false]
  exact Bool.false_ne_true
 refine call_meets F.slot_list_extend ⟨_,e,rfl⟩ F.entry_list_extend (F.args_list_extend_2 _ _)
  (AutoSeq1.list_extend_list_list_0 l its.toArray n b its2.toArray n2 Jl (by rw[List.size_toArray];omega) (by omega)) ⟨e,e2,?_⟩
 refine⟨.aH,_,I.Gi (its':=its++its2) hH e (by simp) (r.append r2) ?_,rfl,q⟩
 rw[List.length_append]
 omega
inductive Na(x:V)(vs:List V)(H:Hp)(Q:VK):Prop
 |mk (l xs y:_) (_:x= .ref l) (_:vs= []) (_:H l=some (.lst xs)) (_:xs[xs.length-1]? =some y) (_:Q y (upd H l (.lst xs.dropLast)))
theorem uE:Lo X "list.pop" Na:=by
 intro pins s σ H x vs v us Q I rx rv h
 obtain⟨l,xs,y,rfl,rfl,hH,hy,q⟩:=h
 cases rx
 have Ra:=rv.zero
 subst Ra
 obtain⟨z,its,n,r,hl,e⟩:=I.xU hH
 obtain⟨u,hu,ru⟩:=r.get hy
 have hy':its.toArray[its.toArray.size-1]? =some u:=by
  show its.toArray[its.length-1]? =some u
  rw[<-Array.getElem?_toList,<-hl]
  exact hu
 refine call_meets F.slot_list_pop ⟨_,e,rfl⟩ F.entry_list_pop (F.args_list_pop_1 _) (MeetsSeq.list_pop_last l its.toArray n u hy' (by rw[List.size_toArray];omega)) ⟨e,?_⟩
 refine⟨y,_,I.Gi (its':=its.dropLast) hH e ?_ r.dropLast ?_,ru,q⟩
 ·show its.toArray.eraseIdxIfInBounds (its.toArray.size-1)=its.dropLast.toArray
  rw[List.size_toArray,List.eraseIdxIfInBounds_toArray,tV]
 ·rw[List.length_dropLast]
  omega
inductive GP(x:V)(y:V)(H:Hp)(Q:VK):Prop
 |mk (l b xs zs:_) (_:x= .ref l) (_:y= .ref b) (_:H l=some (.lst xs)) (_:H b=some (.lst zs)) (_:xs.length+zs.length<=sizeLine) (_: ∀p,H p=none->Q (.ref p) (upd H p (.lst (xs++zs))))
theorem lT:gG X (binaryOp .Add) GP:=by
 intro pins s σ H x y v u Q I rx ry h
 obtain⟨l,b,xs,zs,rfl,rfl,hH,hB,hz,q⟩:=h
 cases rx
 cases ry
 obtain⟨z,its,n,r,hl,e⟩:=I.xU hH
 obtain⟨z2,its2,n2,r2,hl2,e2⟩:=I.xU hB
 refine PySem.P.add_list e e2 ?_ (by rw[List.size_toArray,List.size_toArray];omega)
 have ea:its.toArray++its2.toArray=(its++its2).toArray:=by simp
 rw[ea]
 exact⟨.ref _,_,I.ME (t':=s.toks) (r.append r2) (by rw[List.length_append];omega),rfl,q _ I.fresh⟩
end
section
variable{prog:Program}{w:World}{A:Around}{E:Value->Shared->Prop}{s:Shared}
set_option maxRecDepth 100000 in
end
section
variable{X:Cx}
end
end L2
namespace NJ
open PySem PySem.W PySem.Calls PyProof.Rows
theorem kg{P:Params}{h:Heap}: ∀ (ns:List Int) (vs:List Value),WellAll P h vs (ns.map WData.int)->IntsAre vs ns:=by
 intro ns
 induction ns with
 |nil=>
  intro vs w
  rw[List.map_nil]at w
  cases w
  exact .nil
 |cons n ns ih=>
  intro vs w
  rw[List.map_cons]at w
  cases w with
  |cons a b=>
   cases a
   exact .cons _ _ (ih _ b)
theorem yN{l:OpenLaw}{n:Nat}(hn:l.most=some n){P:Params}{h:Heap}{args:List WData}{vals:List Value}
  (hpre:l.row.toRowW.claim.pre args=true)(hwl:WellAll P h vals args):
  ∃a vs ns,vals= [Value.ref a]/\args= [WData.list (ns.map WData.int)]/\h.get? a=some {cls:= .type "list",data:= .seq vs.toArray}/\IntsAre vs ns/\ns.length<=n:=by
 have hsh:WShape.hasAll [] args [.list .int]=true:=(pre_splitW hpre).1
 have hc:l.pre.holds [] {args:=args}=true:=(pre_splitW hpre).2
 obtain⟨d,r,rfl,h1,h2⟩:=hasAllW_cons hsh
 obtain rfl:=hasAllW_nil h2
 obtain⟨xs,rfl,h3⟩:=hasW_list h1
 obtain⟨ns,rfl⟩:=items_int h3
 have hlen:ns.length<=n:=by
  unfold OpenLaw.pre at hc
  have h4:(WTm.not (.lt (.lit (.int (n:Int))) (.len (.arg 0)))).holds [] {args:= [.list (ns.map .int)]}=true:=by
   have h4:=(holds_andW hc).1
   rw[hn]at h4
   exact h4
  have h5:=condW_of h4 (w_not (w_lt w_lit (w_len_list (w_arg rfl))))
  rw[List.length_map]at h5
  refine Nat.le_of_not_lt fun q=> ?_
  have q':(n:Int)<((ns.length:Nat):Int):=by omega
  first
   |(rw[decide_eq_true q']at h5;exact absurd h5 (by decide))
   |(simp at h5;omega)
 cases hwl with
 |cons w1 w2=>
  cases w2
  cases w1 with
  |list ho hall=>exact⟨_,_,ns,rfl,rfl,ho,kg ns _ hall,hlen⟩
theorem yD(l:OpenLaw)(args:List WData):l.row.toRowW.claim.post args (.bool true) args=true:=
 postW_of (r:=l.row.toRowW) (X:=(true==true))
  (show WShape.has [] (.bool true) .bool=true by first|rfl|decide|simp[WShape.has,WShape.arms,WShape.armsAll])
  (show(WTm.eq .res (.lit (.bool true))).value [] {args:=args,res:=some (.bool true),after:=args}=some (.bool (true==true))from w_eq_bool (w_res rfl) w_lit) rfl
theorem qB{l:OpenLaw}{n:Nat}{q:Program}{loose:List Str}{XP:(Str->Option Value)->Heap->Prop}{YP:World->Heap->Prop}{d:DefRec}
  (hn:l.most=some n)(hdf:d.params.defaults= [])
  (call: ∀ (w:World) (s₀ s₁:Shared) (mg mb:Str->Option Value) (fa:Addr) (o:Obj) (pm cd doc:Value) (a:Addr) (vs:List Value) (ns:List Int),
   Ground q loose [] XP w s₀ mg mb s₁.heap->YP w s₁.heap->
   s₁.heap.get? fa=some o->o.data= .func (docDef d.name d.params d.body d.scope pm cd doc)->s₁.heap.CodeRec cd d.name->mg d.name=some (.ref fa)->
   s₁.heap.get? a=some {cls:= .type "list",data:= .seq vs.toArray}->IntsAre vs ns->ns.length<=n->s₁.gens= #[]->
   codeAny (model l.prog w) callerA (.call (.ref fa) ⟨[.ref a],[]⟩) (fun r s'=>r= .ok (.ret (.bool true))/\OldK s₁.heap s'.heap/\s'.os=s₁.os/\AllBare s'.gens) s₁):
  WalkO q loose XP YP l.row.toRowW d [] (fun f vs=>PySem.call f vs):=by
 intro w s₀ s₁ mg mb G Y fa o pm cd doc dV kV ho hd hcd hD hmg hg args vals as hpre hlay hrd hwl hlo
 obtain rfl:dV= .none:=Dflts.none hD hdf
 obtain rfl:kV= .none:=Dflts.noKw hD
 obtain⟨a,vs,ns,rfl,rfl,hobj,hints,hlen⟩:=yN hn hpre hwl
 refine enter_call (codeAny_mono (call w s₀ s₁ mg mb fa o pm cd doc a vs ns G Y ho (fd_plain hd) hcd hmg hobj hints hlen hg) fun r s' hq=> ?_)
 obtain⟨rfl,h2,h3,h4⟩:=hq
 exact⟨.inl ⟨.bool true,.bool true,[],rfl,fun _=>rfl,.bool true,yD l _,fun _=>⟨List.Pairwise.nil,fun _ hm=>(nomatch hm)⟩⟩,h2,h3,h4⟩
section
variable{prog:Program}{w:World}{A:Around}{E:Value->Shared->Prop}{s:Shared}{K:Frag}
end
end NJ
namespace L2
open PySem PySem.Spec PyProof.Rows
theorem oM: ∀ {vs:List Value} {ns:List Int},IntsAre vs ns->Vals (ns.map V.int) vs
 |_,_,.nil=> .nil
 |_,_,.cons n t h=> .cons ⟨t,rfl⟩ (oM h)
def Cy(H:Hp):Prop:= ∀b,H b=none\/ ∃o xs,H b=some (.fY o (.lst xs))
theorem Ap{P:Program}{w:World}{K:PySem.W.Frag}{mg mb:Str->Option Value}{CX:tj}{k:Nat}{fa a:Addr}{fd:FuncData}{x:Str}{sp:Sp}{s₁:Shared}{vs:List Value}{ns:List Int}
  (KX:K.In s₁.heap)(hns:s₁.heap.Ns mainGlobals mg)(hb:s₁.heap.Ns builtinsNs mb)(Qw: ∀x:Str,x≠ "__name__"->mb x=bootBuiltins x)(hlim:s₁.heap.NoLimit)(hg:s₁.gens= #[])
  (ha:s₁.heap.get? a=some {cls:= .type "list",data:= .seq vs.toArray})(hi:IntsAre vs ns)(hl:ns.length<=sizeLine)(hr:cU k callerA)
  (F: ∀base:Heap,K.In base->base.Ns mainGlobals mg->aI P w K mg base CX k fa fd [x] sp)(hbind: ∀ (s:Shared) (u:Value),BindsTo s fd ⟨[u],[]⟩ [(x,u)])
  (ER: ∀H:Hp,Cy H->aN K H a (ns.map V.int)->sp [.ref a] H (fun v _=>v= .bl true) fun _ _ _=>False)
  (LQ: ∀H e s',CX [] H s₁ (fun _ _ _=>False) e s'->False):
  codeAny (model P w) callerA (.call (.ref fa) ⟨[.ref a],[]⟩) (fun r s'=>r= .ok (.ret (.bool true))/\OldK s₁.heap s'.heap/\s'.os=s₁.os/\AllBare s'.gens) s₁:=by
 have rv:=oM hi
 have MC:=hi.length
 have core: ∀H:Hp,Cy H->aN K H a (ns.map V.int)->fH P w H s₁.heap->(∀b,H b≠none->b=a)->(H a≠none->K.lookup a=none)->
   codeAny (model P w) callerA (.call (.ref fa) ⟨[.ref a],[]⟩) (fun r s'=>r= .ok (.ret (.bool true))/\OldK s₁.heap s'.heap/\s'.os=s₁.os/\AllBare s'.gens) s₁:=by
  intro H hO hS hok hA hK
  have vI: ∀ {b:Addr} {o:Obj},s₁.heap.get? b=some o->H b=none->(ph s₁.heap H).get? b=some o:=fun e n=>Ag e n
  have JO: ∀ {b:Addr} {o:Obj} {es:Array DictEntry} {ep:Nat},s₁.heap.get? b=some o->o.data= .dict es ep->H b=none:=fun{b o es ep} e d=>by
   cases q:H b with
   |none=>rfl
   |some u=>
    have e':b=a:=hA b (by rw[q];simp)
    subst e'
    rw[ha]at e;cases e
    have d':Data.seq vs.toArray _=Data.dict es ep:=d
    cases d'
  have K4: ∀ {b:Addr} {m:Str->Option Value},s₁.heap.Ns b m->(ph s₁.heap H).Ns b m:=fun{b m} ⟨o,es,ep,e,d,r⟩=>⟨o,es,ep,vI e (JO e d),d,r⟩
  have N9:K.In (ph s₁.heap H):=fun b o e=>vI (KX b o e) (by
   cases q:H b with
   |none=>rfl
   |some u=>
    have e':b=a:=hA b (by rw[q];simp)
    subst e'
    rw[hK (by rw[q];simp)]at e;cases e)
  have hM:Mod K mg (ph s₁.heap H):=⟨N9,K4 hns,⟨mb,K4 hb,Qw⟩,let⟨mc,h1,h2⟩:=hlim;⟨mc,K4 h1,h2⟩⟩
  have e0:tG P w K mg (ph s₁.heap H) callerA [] s₁ H:=⟨rfl,hM,fun b o e=>Ds e,Nat.le_of_eq (xF _ _),trivial,fun b hb=>absurd (show b∈([]:List Addr)from hb) (by simp),hok,.of_eq hg⟩
  refine codeAny_mono ((F _ N9 (K4 hns)).run callerA [] s₁ H ⟨[.ref a],[]⟩ [.ref a] [.ref a] _ _ hr e0 (hbind s₁ (.ref a)) (.cons rfl .nil) (ER H hO hS)) fun r s' h=> ?_
  cases r with
  |error e=>exact(LQ H e s' h).elim
  |ok fl=>
   cases fl with
   |next=>exact False.elim h
   |brk=>exact False.elim h
   |cont=>exact False.elim h
   |ret u=>
    obtain⟨v,H',os,bare,un,Ma,r',q⟩:=h
    have q':v= .bl true:=q
    subst q'
    obtain rfl:u=Value.bool true:=r'
    refine⟨rfl,OldK.of_keep fun b o e=> ?_,os,bare⟩
    cases q:H b with
    |none=>exact un.keep b o e q (by intro z;exact absurd (show b∈([]:List Addr)from z) (by simp)) (by simp)
    |some u=>
     rcases hO b with z|⟨ob,xs,z⟩
     ·rw[q]at z;cases z
     ·have z2:=un.ik b ob _ z
      obtain⟨e1,_⟩:=hok b _ z
      obtain⟨e2,_⟩:=Ma b _ z2
      rw[e]at e1;cases e1
      exact e2
 cases hk:K.lookup a with
 |some o=>
  have e:=KX a o hk
  rw[ha]at e
  cases e
  refine core (fun _=>none) (fun _=> .inl rfl) (.inr ⟨_,vs.toArray,_,hk,rfl,rfl,rfl,by rw[List.size_toArray,MC];exact hl,by simpa using rv⟩) (fun b u z=>by have z':(none:Option HO)=some u:=z;cases z') (fun b z=>absurd rfl z) fun z=>absurd rfl z
 |none=>
  refine core (fun b=>if b=a then some (.fY {cls:= .type "list",data:= .seq vs.toArray} (.lst (ns.map V.int)))else none) (fun b=> ?_) (.inl (.inr ⟨{cls:= .type "list",data:= .seq vs.toArray},if_pos rfl⟩)) (fun b u z=> ?_) (fun b z=> ?_) fun _=>hk
  ·by_cases hb:b=a
   ·exact .inr ⟨_,_,if_pos hb⟩
   ·exact .inl (if_neg hb)
  ·by_cases hb:b=a
   ·have z':=(if_pos hb).symm.trans z
    cases z'
    subst hb
    exact⟨ha,by rw[List.length_map];exact hl,vs,_,rv,ha⟩
   ·have z':=(if_neg hb).symm.trans z
    cases z'
  ·by_cases hb:b=a
   ·exact hb
   ·exact absurd (if_neg hb) z
end L2
namespace L2
open PySem PySem.Spec PyProof.Rows
abbrev KOf{K:PySem.W.Frag}{h:Heap}(_:K.In h):PySem.W.Frag:=K
theorem Eo{l:PySem.W.OpenLaw}{n k:Nat}{q:Program}{loose:List Str}{XP:(Str->Option Value)->Heap->Prop}{YP:World->Heap->Prop}{d:DefRec}{K:Params->PySem.W.Frag}{CX:World->tj}{sp:World->Sp}{x:Str}
  (hn:l.most=some n)(hn2:n<=sizeLine)(hdf:d.params.defaults= [])(hr:cU k callerA)
  (hY: ∀ (w:World) (h:Heap),YP w h->(K w.params).In h)
  (F: ∀ (w:World) (mg:Str->Option Value) (fa:Addr) (h:Heap),(K w.params).In h->h.Ns mainGlobals mg->mg d.name=some (.ref fa)->
   ∃fd:FuncData,(∀ (s:Shared) (u:Value),BindsTo s fd ⟨[u],[]⟩ [(x,u)])/\
    ∀base:Heap,(K w.params).In base->base.Ns mainGlobals mg->aI l.prog w (K w.params) mg base (CX w) k fa fd [x] (sp w))
  (ER: ∀ (w:World) (H:Hp) (a:Addr) (ns:List Int),ns.length<=n->Cy H->aN (K w.params) H a (ns.map V.int)->sp w [.ref a] H (fun v _=>v= .bl true) fun _ _ _=>False)
  (LQ: ∀ (w:World) (H:Hp) (s:Shared) (e:Value) (s':Shared),CX w [] H s (fun _ _ _=>False) e s'->False):
  PySem.W.WalkO q loose XP YP l.row.toRowW d [] (fun f vs=>PySem.call f vs):=by
 refine NJ.qB hn hdf fun w s₀ s₁ mg mb fa o pm cd doc a vs ns G Y ho hd hcd hmg hobj hints hlen hg=> ?_
 have KX:=hY w _ Y
 obtain⟨fd,hb,hF⟩:=F w mg fa _ KX G.T.g hmg
 exact Ap KX G.T.g G.T.b G.T.builtins G.T.nolimit hg hobj hints (Nat.le_trans hlen hn2) hr hF hb (fun H hO hS=>ER w H a ns hlen hO hS) fun H e s'=>LQ w H s₁ e s'
end L2
namespace L2
open PySem PySem.Spec PyProof.Rows
def inClass(s:Stmt)(j:Nat):Stmt:=match s with
 | .ClassDef _ _ _ body _ _ _ _ _ _ _=>body.getD j (.Pass ⟨0,0,0,0⟩)
 |_=> .Pass ⟨0,0,0,0⟩
def bK(s:Stmt):Arguments:=match s with
 | .FunctionDef _ a _ _ _ _ _ _ _ _=>a
 |_=> {posonlyargs:= [],args:= [],vararg:=none,kwonlyargs:= [],kw_defaults:= [],kwarg:=none,defaults:= []}
def bJ(s:Stmt):List Stmt:=match s with
 | .FunctionDef _ _ b _ _ _ _ _ _ _=>b
 |_=> []
def am(s:Stmt):Scope:=match s with
 | .FunctionDef _ _ _ _ _ _ sc _ _ _=>sc
 |_=> {kind:= .function,names:= [],isGenerator:=false,isCoroutine:=false}
abbrev br:tj:=fun _ _ _ _ _ _=>False
abbrev E0:XK:=fun _ _ _=>False
theorem aD{X:Cx}:Passes br X E0:=fun _ _ _ _ _ _ _ h=>h.elim
structure cE(K:PySem.W.Frag)(x qual:Str)(st:Stmt)(f:Addr)(fd:FuncData):Prop where
 ex: ∃ (oc:Value) (od:Option Addr) (kV doc pm:Value) (an:Option Addr) (cdv ct:Value) (osl:Array (Option Value)),
  fd=PySem.W.fnOf x qual (bK st) (bJ st) (am st) .none kV doc pm an cdv ct/\K.lookup f=some ⟨oc,od,.func fd,osl⟩/\PySem.W.codeIn K cdv qual=true
 kp:PySem.W.keepIn K (.ref f)=true
section
variable{P:Program}{w:World}{K:PySem.W.Frag}{mg:Str->Option Value}{base:Heap}
theorem cE.ok{x qual:Str}{st:Stmt}{f:Addr}{fd:FuncData}{N ps:List Str}{k:Nat}{sp:Sp}(F:cE K x qual st f fd)(S:av N ps (am st))(len: ∀vs H Q E,sp vs H Q E->vs.length=ps.length)
  (hbody: ∀ (cdv:Value) (A:Around) (outer:List Env) (s:Shared) (H:Hp) (vs:List V) (Q:VK) (E:XK),cU k (A.deeper (envOfC qual (am st) s.heap.objs.size f cdv))->sp vs H Q E->
   ∃t,vF (xq br P w K mg base N qual (am st) f cdv A outer s H E).K3 (bJ st) t/\t {nx:=fun _ H'=>Q .aH H',rt:=Q} (start N vs) H):aI P w K mg base br (k+1) f fd ps sp:=by
 obtain⟨oc,od,kV,doc,pm,an,cdv,ct,osl,rfl,lk,hcd⟩:=F.ex
 refine IN lk hcd S len fun A outer s H vs Q E hr ER=> ?_
 obtain⟨t,h,q⟩:=hbody cdv A outer s H vs Q E hr ER
 exact⟨t,h.K3,q⟩
theorem cE.binds{x qual:Str}{st:Stmt}{f:Addr}{fd:FuncData}{ps:List Str}(F:cE K x qual st f fd)
  (h: ∀ (kV doc pm:Value) (an:Option Addr) (cdv ct:Value) (us:List Value),us.length=ps.length->bindArgs (PySem.W.fnOf x qual (bK st) (bJ st) (am st) .none kV doc pm an cdv ct) ⟨us,[]⟩=pure (ps.zip us)):Binds K fd ps []:=by
 obtain⟨oc,od,kV,doc,pm,an,cdv,ct,osl,rfl,lk,hcd⟩:=F.ex
 exact .all (h kV doc pm an cdv ct)
theorem pb{x qual:Str}{st:Stmt}{f:Addr}{oc:Value}{od an:Option Addr}{osl:Array (Option Value)}{kV doc pm cdv ct:Value}(l:K.lookup f=some ⟨oc,od,.func (PySem.W.fnOf x qual (bK st) (bJ st) (am st) .none kV doc pm an cdv ct),osl⟩)
  (c:PySem.W.codeIn K cdv qual=true)(k:PySem.W.keepIn K (.ref f)=true):cE K x qual st f (PySem.W.fnOf x qual (bK st) (bJ st) (am st) .none kV doc pm an cdv ct):=⟨⟨oc,od,kV,doc,pm,an,cdv,ct,osl,rfl,l,c⟩,k⟩
end
theorem ou{n:Nat}(h:n<=1000):n<sizeLine:=Nat.lt_of_le_of_lt h (by decide)
section
variable{X:Cx}
theorem pv(i:Nat){x:Str}{pos:Pos}(hN:X.N[i]? =some x:=by rfl)(hv:KG X.env.scope x:=by first|exact Or.inl rfl|exact Or.inr (Or.inl rfl)|exact Or.inr (Or.inr rfl))(hd:(x==("__debug__":Str))=false:=by decide)
  (hcd:(x==("__classdict__":Str))=false:=by decide):PE X (.Name x pos) (cu i):=GL hN hv hd hcd
end
theorem bO{A B:Prop}(h:B):if false=true then A else B:=by
 rw[if_neg Bool.false_ne_true]
 exact h
theorem ce{A B:Prop}(h:A):if true=true then A else B:=by
 rw[if_pos rfl]
 exact h
theorem bY{c A B:Prop} [Decidable c](h1:c->A)(h2: ¬c->B):if c then A else B:=by
 by_cases h:c
 ·rw[if_pos h]
  exact h1 h
 ·rw[if_neg h]
  exact h2 h
def aw(H H':Hp):Prop:= ∀b o,H b=some o->H' b=some o
theorem aw.refl(H:Hp):aw H H:=fun _ _ h=>h
theorem aw.trans{H H1 H2:Hp}(a:aw H H1)(b:aw H1 H2):aw H H2:=fun c o h=>b c o (a c o h)
theorem aw.free{H H':Hp}(e:aw H H'){l:Addr}(h:H' l=Option.none):H l=Option.none:=by
 cases q:H l with
 |none=>rfl
 |some o=>
  rw[e l o q]at h
  cases h
theorem aw.seq{K:PySem.W.Frag}{H H':Hp}{a:Addr}{xs:List V}(e:aw H H')(h:aN K H a xs):aN K H' a xs:=by
 rcases h with(h|⟨o,h⟩)|h
 ·exact .inl (.inl (e _ _ h))
 ·exact .inl (.inr ⟨o,e _ _ h⟩)
 ·exact .inr h
end L2
namespace K2
abbrev T:=List Nat
inductive Atom where
 |aH|int (i:Int)|str (x:T)
 deriving DecidableEq
inductive PV where
 |at(a:Atom)|tup (xs:List PV)
def hZ:T:= [115,101,110,100]
def cC:T:= [116,97,107,101]
def fF:T:= [112,111,115,116]
def fW:T:= [119,97,105,116]
def cZ:T:= [116,101,108,108]
def kj:T:= [97,100,100]
def df:T:= [99,97,115,101]
def gU:T:= [97,108,108]
inductive Kind where
 |hand|mark|thing|bU|cw|box|number|rows
 deriving DecidableEq
def gS(x:T):Option (List Kind):=
 if x=hZ then some [.hand,.mark,.thing]
 else if x=cC then some [.bU,.cw,.box]
 else if x=fF then some [.box,.bU,.cw,.box]
 else if x=fW then some [.box]
 else if x=cZ then some [.thing]
 else if x=kj then some [.box,.thing,.thing]
 else if x=df then some [.box,.number,.rows,.rows]
 else if x=gU then some []
 else none
def uD:Option Kind->Bool
 |some .bU=>true
 |some .cw=>true
 |_=>false
end K2
namespace K2
def fO:PV->Bool
 | .at (.int i)=>decide (0<=i) &&decide (i<=9)
 |_=>false
def isNumber:PV->Bool
 | .at (.int i)=>decide (-1000000<=i) &&decide (i<=1000000)
 |_=>false
def gh:PV->Bool
 | .at (.str x)=>decide (1<=x.length) &&decide (x.length<=3) &&x.all fun c=>decide (97<=c) &&decide (c<=122)
 |_=>false
def dM(p:PV):Bool:=isNumber p||gh p
def pA:PV->Bool
 | .tup _=>true
 |_=>false
def uj(others:List Int):PV->Bool
 | .at (.int i)=>others.contains i
 |_=>false
def fits(others:List Int):PV->Kind->Bool
 | .at .aH,k=>uD (some k)
 |p,.hand=>uj others p
 |p,.bU=>uj others p
 |p,.mark=>fO p
 |p,.cw=>fO p
 |p,.number=>isNumber p
 |p,.box=>gh p
 |p,.thing=>dM p
 |p,.rows=>pA p
def fN(others:List Int)(its:List PV)(ks:List Kind):Bool:=(its.zip ks).all fun q=>fits others q.1 q.2
def cW(others:List Int):PV->Bool
 | .tup (.at (.str x)::its)=>match gS x with
  |some ks=>decide (its.length=ks.length) &&fN others its ks
  |none=>false
 |_=>false
def eF:PV->List PV
 | .tup [.at (.str x),_,_,a,b]=>if x=df then [a,b]else []
 |_=> []
def walk(others:List Int):Nat->Nat->List PV->Option Nat
 |0,_,_=>none
 |_+1,many,[]=>some many
 |_+1,_,.at _::_=>none
 |f+1,many,.tup rs::rest=>if 40<many+rs.length then none else if rs.all (cW others)then walk others f (many+rs.length) ((rs.flatMap eF).reverse++rest)else none
def count(others:List Int)(script:PV):Option Nat:=walk others 100 0 [script]
def cI(n hand:Nat):List Int:=((List.range n).filter (· ≠hand)).map fun(k:Nat)=>(k:Int)
def bW(n:Nat):Nat->List PV->Option Nat
 |_,[]=>some 0
 |i,s::r=>(count (cI n i) s).bind fun a=>(bW n (i+1) r).map fun b=>a+b
def dZ:PV->Bool
 | .tup ss=>decide (2<=ss.length) &&decide (ss.length<=5) && (match bW ss.length 0 ss with|some m=>decide (m<=40)|none=>false)
 |_=>false
theorem uZ(p:PV):(eF p).length<=2:=by
 unfold eF
 split
 ·split<;>simp
 ·simp
theorem qX(rs:List PV):(rs.flatMap eF).length<=2*rs.length:=by
 induction rs with
 |nil=>simp
 |cons a r ih=>
  have:=uZ a
  simp only[List.flatMap_cons,List.length_append,List.length_cons]
  omega
theorem rl{others:List Int}{p:PV}(h:cW others p=true): ∃x its ks,p= .tup (.at (.str x)::its)/\gS x=some ks/\its.length=ks.length/\fN others its ks=true:=by
 unfold cW at h
 split at h
 ·rename_i x its
  split at h
  ·rename_i ks hf
   simp only[Bool.and_eq_true,decide_eq_true_eq]at h
   exact⟨x,its,ks,rfl,hf,h.1,h.2⟩
  ·cases h
 ·cases h
end K2
namespace K2
theorem zR{x:T}{ks:List Kind}(h:gS x=some ks):x.length<=4/\ks.length<=4/\ ∃c r,x=c::r/\c≠32:=by
 unfold gS at h
 repeat' split at h
 all_goals first
  |(rename_i e;cases h;subst e;exact⟨by decide,by decide,_,_,rfl,by decide⟩)
  |cases h
end K2
namespace K2
end K2
namespace K2
open PySem PySem.Builtin PySem.Builtin.Str PySem.NumText
def S(x:T):Str:=⟨x.toArray⟩
def L(x:Str):T:=x.cps.toList
theorem iO{x y:T}(h:S x=S y):x=y:=by have:=congrArg L h;exact this
theorem JH(x:Str):x.length=(L x).length:=by simp[L,Str.length]
theorem EX(x:T):(S x).length=x.length:=by rw[JH];rfl
end K2
namespace L2
open PySem PySem.Spec PyProof.Rows K2
section
variable{X:Cx}
theorem cf:dc X (.builtin "isinstance") (fun xs H Q=> ∃ (x c:V) (t cv:Value) (b:Bool),xs= [x,c]/\ie X.K H x t/\(∀u,RelV c u->u=cv)/\PySem.W.kitOne X.K t cv=some b/\Q (.bl b) H):=by
 intro pins s σ H xs us Q I r h
 obtain⟨x,c,t,cv,b,rfl,ty,hc,hk,q⟩:=h
 obtain⟨u,v,rfl,ru,rv⟩:=vals2 r
 cases hc v rv
 exact xK I ru ty hk fun tk=>⟨.bl b,H,I.tok tk,rfl,q⟩
theorem iV(hc:X.calm=true):dc X (.builtin "all") (fun xs H Q=> ∃ (a:Addr) (bs:List Bool),xs= [.ref a]/\aN X.K H a (bs.map V.bl)/\Q (.bl (bs.all id)) H):=by
 intro pins s σ H xs us Q I r h
 obtain⟨a,bs,rfl,hq,q⟩:=h
 obtain⟨u,rfl,ru⟩:=vals1 r
 cases ru
 obtain⟨its,rv,pl,hz⟩:=I.list hq
 refine call_all_walkS (wpAny_pyIter_list pl.isList ?_)
 have hlt:a<s.heap.objs.size:=by
  obtain⟨o,n,e,_⟩:=pl
  exact Heap.lt_size e
 have hlen:=rv.length
 have htr: ∀i v,its.toArray[i]? =some v->v=Value.bool (bs.getD i true):=fun i v e=>by
  have e':its[i]? =some v:=by simpa using e
  have hi:i<its.length:=(List.getElem?_eq_some_iff.mp e').1
  have hb:(bs.map V.bl)[i]? =some (.bl (bs.getD i true)):=by
   rw[List.length_map]at hlen
   have hi2:i<bs.length:=by omega
   simp[hi2]
  obtain⟨w',e2,rw'⟩:=rv.get hb
  rw[e']at e2
  cases e2
  exact rw'
 refine⟨s.heap.objs.size,_,_,_,_,_,_,fun i=>bs.getD i true,rfl,(Walks.list (A:=X.A.in1) (show X.A.in1.handled=none from I.ok.hd hc) s.heap.objs.size a (Nat.ne_of_lt hlt) its.toArray).toS,?_,?_,?_⟩
 ·exact⟨⟨_,Heap.get?_push_size _ rfl,rfl,rfl⟩,pl.isList.push _⟩
 ·intro i v s' Q' E' hv hq'
  rw[htr i v hv]
  exact wpAny_truthy_bool hq'
 ·intro s' mv
  obtain⟨hh,g,d,tk,os⟩:=s'
  have h1:g=s.gens:=mv.gens
  have h2:d=s.drawn:=mv.drawn
  have h3:os=s.os:=mv.os
  subst h1 h2 h3
  have I1:Inv X pins σ H {s with heap:=s.heap.push {cls:= .type "list_iterator",data:= .fields #[.ref a,.int 0 0]}}:=I.kept (t':=s.toks) fun b o e=>Heap.get?_push_of_some _ e
  have I2:Inv X pins σ H ⟨hh,s.gens,s.drawn,tk,s.os⟩:=by
   obtain⟨f0,f1,f2,f3,f4,f5⟩:=I.lB (b:=s.heap.objs.size) (Nat.le_refl _) I.fresh
   have:=I1.turned (it:=s.heap.objs.size) (h':=hh) (t':=tk) (fun b o hb e=>mv.heap b o (by simpa using hb) e) f0 f1 f3 f4 f5
   exact this
  refine⟨.bl _,H,I2,rfl,?_⟩
  have e:(List.range its.toArray.size).all (fun i=>bs.getD i true)=bs.all id:=by
   rw[List.size_toArray,<-hlen,List.length_map]
   rw[Bool.eq_iff_iff,List.all_eq_true,List.all_eq_true]
   constructor
   ·intro h b hb
    obtain⟨i,hi,e⟩:=List.getElem_of_mem hb
    have:=h i (List.mem_range.mpr hi)
    simpa [hi,e]using this
   ·intro h i hi
    have hi':=List.mem_range.mp hi
    have:=h bs[i] (List.getElem_mem hi')
    simpa [hi']using this
  rw[e]
  exact q
theorem yt:gG X (compareOp .IsNot) (fun x y H Q=> ∃b c,x= .bl b/\y= .bl c/\Q (.bl (!(b==c))) H):=by
 intro pins s σ H x y v u Q I rx ry h
 obtain⟨b,c,rfl,rfl,q⟩:=h
 cases rx
 cases ry
 show wpAny _ _ (do return Value.bool (!(<-isSame (.bool b) (.bool c)))) _ _ s
 refine wpAny_bind (wpAny_pure (wpAny_pure ⟨.bl _,H,I,rfl,?_⟩))
 have e:(Value.bool b==Value.bool c)=(b==c):=by cases b<;>cases c<;>rfl
 rw[e]
 exact q
end
end L2
namespace L2
open PySem PySem.Spec PyProof.Rows
section
variable{prog:Program}{w:World}{A:Around}{R:Result->Shared->Prop}{s:Shared}
abbrev ju(ifs:List Expr)(env:Env):Sem Bool:=forIn ifs true fun c r=>if r=true then do let ok<-isTrue c env (eval c env);pure (ForInStep.yield ok)else pure (ForInStep.yield r)
theorem o3{elt target iter:Expr}{ifs:List Expr}{scope:Scope}{pos:Pos}{it acc:Value}{env:Env}(Iv:Nat->Shared->Prop)(Ex:Value->Shared->Prop)
  (gT: ∀e s',Ex e s'->notedBy (model prog w) A env (fun e s'=>R (.error e) s') e s')
  (turn: ∀n s,Iv n s->wpAny (model prog w) A (pyNext it) (fun r s1=>match r with
   |none=>R (.ok .next) s1
   |some v=>wpAny (model prog w) A (letOwnedTupleGo target it v) (fun _ s2=>wpAny (model prog w) A (assign target env v) (fun _ s3=>wpAny (model prog w) A (ju ifs env) (fun ok s4=>
     if ok=true then wpAny (model prog w) A (eval elt env) (fun x s5=>wpAny (model prog w) A (call (.builtin "list.append") [acc,x]) (fun _ s6=> ∃m,m<n/\Iv m s6) Ex s5) Ex s4
     else ∃m,m<n/\Iv m s4) Ex s3) Ex s2) Ex s1) Ex s)(n:Nat)(h:Iv n s):
  codeAny (model prog w) A (.compLoop (.ListComp elt [⟨target,iter,ifs,0⟩] scope pos) 0 it acc env) R s:=by
 refine codeAny_loop rfl Iv (fun n s hI=> ?_) n h
 show wpAny (model prog w) A ((compTurn (.ListComp elt [⟨target,iter,ifs,0⟩] scope pos) 0 it acc env).onRaise (fun x=>do noteFrame x env;theTreesLotGoes x)) _ _ s
 refine wpAny_noted ?_
 rw[compTurn_list]
 refine wpAny_bind (wpAny_standAt (wpAny_bind (wpAny_mono (turn n s hI) (fun r s1 h1=> ?_) gT)))
 cases r with
 |none=>exact wpAny_pure h1
 |some v=>
  refine wpAny_bind (wpAny_mono h1 (fun _ s2 h2=>wpAny_bind (wpAny_mono h2 (fun _ s3 h3=>wpAny_bind (wpAny_mono h3 (fun ok s4 h4=> ?_) gT)) gT)) gT)
  cases ok with
  |false=>exact wpAny_pure ⟨rfl,h4⟩
  |true=>exact wpAny_bind (wpAny_bind (wpAny_mono h4 (fun x s5 h5=>wpAny_bind (wpAny_mono h5 (fun _ s6 h6=>wpAny_pure (wpAny_pure ⟨rfl,h6⟩)) gT)) gT))
end
def cO(cells:List (Str×Addr)):List (Str×NameKind)->List (Str×Addr)->List (Str×Addr)
 | [],cs=>cs
 |(n,k)::r,cs=>if k== .free then(match cells.lookup n with|some c=>cO cells r ((n,c)::cs)|none=>cO cells r cs)else cO cells r cs
theorem kZ{env:Env}: ∀ (names:List (Str×NameKind)) (cs:List (Str×Addr)),(∀n,(n,NameKind.free)∈names-> ∃c,env.cells.lookup n=some c)->
  (forIn names cs (fun(x:Str×NameKind) (r:List (Str×Addr))=>if(x.2==NameKind.free)=true then do let c<-cellOf env x.1;pure (ForInStep.yield ((x.1,c)::r))else pure (ForInStep.yield r)):Sem (List (Str×Addr)))=pure (cO env.cells names cs)
 | [],cs,_=>rfl
 |(n,k)::r,cs,h=>by
  have ih:=fun cs=>kZ (env:=env) r cs fun m hm=>h m (List.mem_cons_of_mem _ hm)
  rw[List.forIn_cons]
  unfold cO
  by_cases hk:(k==NameKind.free)=true
  ·have e:k= .free:=eq_of_beq hk
   subst e
   obtain⟨c,hc⟩:=h n List.mem_cons_self
   simp only[hk,if_true,hc]
   have ec:cellOf env n=pure c:=by unfold cellOf;rw[hc]
   rw[ec]
   exact ih _
  ·simp only[hk,if_false,Bool.false_eq_true]
   exact ih _
theorem dX{scope:Scope}{env:Env}(h: ∀n,(n,NameKind.free)∈scope.names-> ∃c,env.cells.lookup n=some c):closureFor scope env=pure (cO env.cells scope.names []):=by
 unfold closureFor
 have:=kZ (env:=env) scope.names [] h
 refine Eq.trans ?_ (congrArg (· >>=pure) this)
 rfl
theorem iW{cells:List (Str×Addr)}{x:Str}{c:Addr}: ∀ {names:List (Str×NameKind)} {cs:List (Str×Addr)},(cO cells names cs).lookup x=some c->cs.lookup x=some c\/cells.lookup x=some c
 | [],cs,h=> .inl h
 |(n,k)::r,cs,h=>by
  unfold cO at h
  split at h
  ·split at h
   ·rename_i c' hc'
    rcases iW h with q|q
    ·rw[List.lookup_cons]at q
     by_cases e:(x==n)=true
     ·rw[e]at q
      cases q
      right
      rw[eq_of_beq e];exact hc'
     ·rw[Bool.eq_false_iff.mpr e]at q
      exact .inl q
    ·exact .inr q
   ·exact iW h
  ·exact iW h
theorem fM{cells:List (Str×Addr)}{x:Str}: ∀ {names:List (Str×NameKind)} {cs:List (Str×Addr)},(∃c,cs.lookup x=some c)-> ∃c,(cO cells names cs).lookup x=some c
 | [],cs,h=>h
 |(n,k)::r,cs,h=>by
  unfold cO
  split
  ·split
   ·refine fM ?_
    rw[List.lookup_cons]
    cases(x==n)
    ·exact h
    ·exact⟨_,rfl⟩
   ·exact fM h
  ·exact fM h
theorem gb{cells:List (Str×Addr)}{x:Str}{c0:Addr}(hc:cells.lookup x=some c0): ∀ {names:List (Str×NameKind)} {cs:List (Str×Addr)},(x,NameKind.free)∈names-> ∃c,(cO cells names cs).lookup x=some c
 | [],cs,h=>by cases h
 |(n,k)::r,cs,h=>by
  unfold cO
  rcases List.mem_cons.mp h with e|h
  ·cases e
   rw[if_pos (by rfl),hc]
   refine fM ⟨c0,?_⟩
   rw[List.lookup_cons,beq_self_eq_true]
  ·split
   ·split
    ·exact gb hc h
    ·exact gb hc h
   ·exact gb hc h
theorem ji{scope:Scope}{env:Env}{x:Str}(hn: ∀y∈scope.names,y.2≠ .cell)(h:(relabel scope env).names.lookup x=some .cell\/(relabel scope env).names.lookup x=some .free):(x,NameKind.free)∈scope.names:=by
 have main: ∀names:List (Str×NameKind),(∀y∈names,y.2≠ .cell)-> ∀k,(names.map fun(n,k)=>if(k==NameKind.free&&env.scope.kind== .function&&env.kindOf n==some .cell)then(n,NameKind.cell)else(n,k)).lookup x=some k->k= .cell\/k= .free->(x,NameKind.free)∈names:=by
  intro names
  induction names with
  |nil=>intro _ k h;cases h
  |cons p r ih=>
   intro hy k h hk
   obtain⟨n,k0⟩:=p
   rw[List.map_cons]at h
   have ih':=ih (fun y hy'=>hy y (List.mem_cons_of_mem _ hy')) k
   dsimp only at h
   by_cases hc:(k0==NameKind.free&&env.scope.kind== .function&&env.kindOf n==some .cell)=true
   ·rw[if_pos hc]at h
    have e0:k0= .free:=by
     simp only[Bool.and_eq_true]at hc
     exact eq_of_beq hc.1.1
    subst e0
    rw[List.lookup_cons]at h
    by_cases e:(x==n)=true
    ·rw[eq_of_beq e];exact List.mem_cons_self
    ·rw[Bool.eq_false_iff.mpr e]at h
     exact List.mem_cons_of_mem _ (ih' h hk)
   ·rw[if_neg hc]at h
    rw[List.lookup_cons]at h
    by_cases e:(x==n)=true
    ·rw[e]at h
     cases h
     rcases hk with rfl|rfl
     ·exact absurd rfl (hy _ List.mem_cons_self)
     ·rw[eq_of_beq e];exact List.mem_cons_self
    ·rw[Bool.eq_false_iff.mpr e]at h
     exact List.mem_cons_of_mem _ (ih' h hk)
 rcases h with h|h
 ·exact main scope.names hn _ h (.inl rfl)
 ·exact main scope.names hn _ h (.inr rfl)
def aM(X:Cx)(T:List Str)(scope:Scope)(C:Addr)(s:Shared)(H:Hp)(ex:List Addr)(pn:List (Addr×Obj))(E:Value->Shared->Prop):Cx:=
 {X with N:=T++X.N,s₀:=s,H₀:=H,env:=compEnvC scope (cO X.env.cells scope.names []) C X.env,outer:=X.stack,stack:=X.stack,ex:=ex,fn:=fun _=>false,pn:=pn,xe:=E}
structure eL(X:Cx)(T:List Str)(scope:Scope):Prop where
 kind:scope.kind= .function
 io: ∀y∈scope.names,y.2≠ .cell
 loc: ∀x∈scope.names,x.2= .local->scope.names.lookup x.1=some .local
 cap: ∀n,(n,NameKind.free)∈scope.names->X.env.kindOf n=some .cell\/X.env.kindOf n=some .free
 P1: ∀x∈X.N,scope.names.lookup x≠some .local
section
variable{X:Cx}{T:List Str}{scope:Scope}{pins:List (Addr×Obj)}{σ:St}{H:Hp}{s s1:Shared}{C:Addr}{fp:List Addr}{m:Str->Option Value}{E:Value->Shared->Prop}
theorem cP{env:Env}{x:Str}: ∀ {names:List (Str×NameKind)},(names.map fun(n,k)=>if(k==NameKind.free&&env.scope.kind== .function&&env.kindOf n==some .cell)then(n,NameKind.cell)else(n,k)).lookup x=some .local->names.lookup x=some .local
 | [],h=>by cases h
 |(n,k)::r,h=>by
  rw[List.map_cons]at h
  dsimp only at h
  rw[List.lookup_cons]
  by_cases hc:(k==NameKind.free&&env.scope.kind== .function&&env.kindOf n==some .cell)=true
  ·rw[if_pos hc,List.lookup_cons]at h
   cases e:(x==n)
   ·rw[e]at h;exact cP h
   ·rw[e]at h;cases h
  ·rw[if_neg hc,List.lookup_cons]at h
   cases e:(x==n)
   ·rw[e]at h;exact cP h
   ·rw[e]at h;exact h
theorem dY(S:eL X T scope)(I:Inv X pins σ H s)(hf: ∀b∈fp,dD X pins H b)(hfl: ∀b∈fp,b<s.heap.objs.size)(hk: ∀b o,s.heap.get? b=some o->s1.heap.get? b=some o)
  (hC:s.heap.objs.size<=C)(hn:s1.heap.Ns C m)(hos:s1.os=s.os)(hg:s1.gens=s.gens):Inv (aM X T scope C s H fp (X.pn++pins) E) [] (List.replicate T.length none++σ) H s1:=by
 have hL:X.env.locals<s.heap.objs.size:=I.lt
 have sub: ∀x c,(cO X.env.cells scope.names []).lookup x=some c->X.env.cells.lookup x=some c:=fun x c e=>(iW e).elim (fun z=>by cases z) id
 have Ri: ∀b∈frs X.stack,b<s.heap.objs.size:=fun b hb=>by
  obtain⟨_,o,ho,_⟩:=I.stack.mem hb
  exact Heap.lt_size ho
 have Lz: ∀x c,X.env.cells.lookup x=some c->c<s.heap.objs.size:=fun x c e=>by
  obtain⟨v,q⟩:=I.cell x c e
  exact q.lt
 refine⟨⟨I.ok.mod,S.kind,I.ok.glob,I.ok.blt,hC,fun x y c h1 h2=>I.ok.inj x y c (sub x c h1) (sub y c h2),fun x hx=> ?_,fun x c hx _=>(by cases hx),I.ok.hd,I.ok.frames,.inl rfl,fun b hb=>⟨Nat.ne_of_lt (Nat.lt_of_lt_of_le (hfl b hb) hC),fun x c e=>(hf b hb).2.2.2.2.1 x c (sub x c e)⟩,
  I.bs,Nat.le_trans I.ok.zy I.sz,fun b o e hb=> ?_,fun b hb z=> ?_,I.stack,I.wW⟩,hos,hg▸I.bare,Un.kept hk,⟨m,hn,fun i x v h1 h2 h3=> ?_⟩,fun x c e=> ?_,I.hok.fresh hC,fun x c e=>I.cQ x c (sub x c e),fun p hp=> ?_,I.hok.kept hk,?_⟩
 ·have hx':(relabel scope X.env).names.lookup x=some .cell\/(relabel scope X.env).names.lookup x=some .free:=hx
  have hm:=ji S.io hx'
  obtain⟨c0,hc0⟩:=I.ok.has x (S.cap x hm)
  exact gb hc0 hm
 ·rcases(hf b hb).2.2.2.1 with z|z
  ·exact I.ok.uG b o e z
  ·exact absurd (Nat.lt_of_lt_of_le (Heap.lt_size e) (Nat.le_trans I.ok.zy z)) (Nat.lt_irrefl _)
 ·rcases List.mem_cons.mp (I.qm b z)with q|q
  ·exact(hf b hb).2.1 q
  ·exact(hf b hb).2.2.1 q
 ·have hi: ¬i<T.length:=fun hi=>by
   rw[List.getElem?_append_left (by rw[List.length_replicate];exact hi),List.getElem?_replicate,if_pos hi]at h2
   cases h2
  have CS:X.N[i-T.length]? =some x:=by
   have CS:(T++X.N)[i]? =some x:=h1
   rw[List.getElem?_append_right (by omega)]at CS
   exact CS
  have h2':σ[i-T.length]? =some (some v):=by
   rw[List.getElem?_append_right (by rw[List.length_replicate];omega),List.length_replicate]at h2
   exact h2
  have h3':(relabel scope X.env).names.lookup x=some .cell\/(relabel scope X.env).names.lookup x=some .free:=by
   rcases h3 with h3|h3
   ·exact absurd (cP h3) (S.P1 x (List.mem_of_getElem? CS))
   ·exact h3
  have hm:=ji S.io h3'
  have hcap:=S.cap x hm
  obtain⟨mm,_,hl⟩:=I.loc
  obtain⟨u,ru,lk⟩:=hl _ x v CS h2' (hcap.elim (fun z=> .inr (.inl z)) fun z=> .inr (.inr z))
  refine⟨u,ru,.inr ⟨h3',?_⟩⟩
  rcases lk with⟨z,_⟩|⟨_,c,ec,hcell⟩
  ·rcases hcap with q|q
   ·rw[z]at q;cases q
   ·rw[z]at q;cases q
  ·obtain⟨c',NW⟩:=gb (cs:= []) ec hm
   have:c'=c:=by
    have:=sub x c' NW
    rw[ec]at this
    exact(Option.some.inj this).symm
   subst this
   obtain⟨o,ho,hd⟩:=hcell
   exact⟨c',NW,⟨o,hk _ _ ho,hd⟩⟩
 ·obtain⟨v,o,ho,hd⟩:=I.cell x c (sub x c e)
  exact⟨v,o,hk _ _ ho,hd⟩
 ·have Md:p∈X.pn++pins:=by
   rcases List.mem_append.mp hp with z|z
   ·exact z
   ·cases z
  obtain⟨e,n,ne,nf,d⟩:=I.pin p Md
  refine⟨hk _ _ e,n,Nat.ne_of_lt (Nat.lt_of_lt_of_le (Heap.lt_size e) hC),fun z=> ?_,d⟩
  rcases List.mem_cons.mp (I.qm p.1 z)with q|q
  ·exact ne q
  ·exact nf q
 ·show(List.replicate T.length none++σ).length=(T++X.N).length
  rw[List.length_append,List.length_append,List.length_replicate,I.len]
theorem qP{σ':St}{H':Hp}{s':Shared}{h':Heap}{pl:List (Addr×Obj)}{D:Addr}{ys:List V}{us:List Value}{n:Nat}(I:Inv X pins σ H s)(hf: ∀b∈fp,dD X pins H b)(hC:s.heap.objs.size<=C)(hD:s.heap.objs.size<=D)(hDC:D≠C)
  (J:Inv (aM X T scope C s H fp (X.pn++pins) E) pl σ' H' s')(kf:Heap.SameBut C s'.heap h')(N8:H' D=none)(EI:s'.heap.get? D=some {cls:= .type "list",data:= .seq us.toArray n})(hv:Vals ys us)(hz:ys.length<=sizeLine):
  Inv X pins σ (upd H' D (.lst ys)) {s' with heap:=h'}:=by
 have g9: ∀b o,b≠C->s'.heap.get? b=some o->h'.get? b=some o:=fun b o hb e=>kf.extBut b o hb e
 have Gk: ∀b o,s.heap.get? b=some o->b≠C:=fun b o e=>Nat.ne_of_lt (Nat.lt_of_lt_of_le (Heap.lt_size e) hC)
 have Rv: ∀b o,s.heap.get? b=some o->b≠D:=fun b o e=>Nat.ne_of_lt (Nat.lt_of_lt_of_le (Heap.lt_size e) hD)
 have LR:H' C=none:=J.free
 have LW:H D=none:=I.hok.fresh hD
 have u:=J.base
 have FY:fH X.prog X.w H' h':=fun a o e=>by
  have nC: ∀b o,H' b=some o->b≠C:=fun b o e z=>by rw[z,LR]at e;cases e
  refine(J.hok a o e).stay (fun b v hb q=>g9 b v ?_ q) (fun _ q=>q) fun _ _ q=>q
  rcases hb with rfl|hb
  ·exact nC _ _ e
  ·exact nC _ _ hb
 have Mb:fH X.prog X.w (upd H' D (.lst ys)) h':=fun a o e=>by
  by_cases ha:a=D
  ·subst ha
   rw[ac]at e
   cases e
   exact⟨hz,us,n,hv,g9 _ _ hDC EI⟩
  ·rw[ak ha]at e
   exact(FY a o e).stay (fun _ _ _ q=>q) (fun b q=>by rw[ak (ay q N8)];exact q) fun b xs q=>by rw[ak (ay q N8)];exact q
 refine I.EC (ch:=fp) (s':= {s' with heap:=h'}) J.os ⟨fun b o e n hb hx=>g9 b o (Gk b o e) (u.keep b o e n hb hx),fun b o e n hb hx=> ?_,fun b o e n hx=> ?_,fun b o e hx=> ?_,fun b xs e=> ?_,fun b o v e=> ?_,fun b ps e=> ?_⟩ Mb J.bare fun b hb=> ?_
 ·obtain⟨sl,q⟩:=u.slot b o e n hb hx
  exact⟨sl,g9 b _ (Gk b o e) q⟩
 ·rw[ak (Rv b o e)];exact u.free b o e n hx
 ·obtain⟨o',q⟩:=u.there b o e hx
  exact⟨o',g9 b o' (Gk b o e) q⟩
 ·have hb:b≠D:=ay e LW
  rw[ak hb];exact u.tups b xs e
 ·have hb:b≠D:=ay e LW
  rw[ak hb];exact u.ik b o v e
 ·have hb:b≠D:=ay e LW
  rw[ak hb];exact u.jS b ps e
 ·obtain⟨_,f1,_,f3,f4,f5⟩:=hf b hb
  exact⟨f3,f1,f4,f5⟩
end
def kP(X:Cx)(ifs:List Expr)(t:TT):Prop:=
 ∀ (pins:List (Addr×Obj)) (s:Shared) (σ:St) (H:Hp) (Q:Bool->Hp->Prop),Inv X pins σ H s->t σ H Q->wpAny (model X.prog X.w) X.A (ju ifs X.env) (TP X pins σ Q) X.xe s
def Cd:TT:=fun _ H Q=>Q true H
theorem cK{X:Cx}:kP X [] Cd:=fun _ _ _ H _ I h=>wpAny_tests_nil ⟨H,I,h⟩
theorem fA{X:Cx}{c:Expr}{t:TT}(h:PT X c t):kP X [c] t:=fun pins s σ H Q I q=>wpAny_tests_one (h pins s σ H Q I q)
def wY(k:Nat)(wi:TI)(g:TG)(tt:TT)(te:TE):TE:=fun σ H Q=>wi σ H fun J H1=> ∃W:Nat->Nat->List V->Hp->Prop,(∃m,W 0 m [] H1)/\ ∀i m ys H,W i m ys H->
 (J.stop i H/\ ∀p,H p=none->Q (.ref p) (upd H p (.lst ys)))\/
 (J.go i H/\ys.length<sizeLine/\ ∀x H',J.mZ i H x H'->g x (List.replicate k none++σ) H' fun σ2 H2=>tt σ2 H2 fun b H3=>
  if b=true then te σ2 H3 fun y H4=> ∃m',m'<m/\W (i+1) m' (ys++ [y]) H4 else ∃m',m'<m/\W (i+1) m' ys H3)
def ic(k:Nat)(g:TG):Prop:= ∀ (x:V) (σ:St) (H:Hp) (Q:St->Hp->Prop),g x (List.replicate k none++σ) H Q->g x (List.replicate k none++σ) H fun σ2 H2=>σ2.length=k+σ.length/\(∀i,k<=i->σ2[i]? =σ[i-k]?)/\Q σ2 H2
theorem bA:ic 1 (bR 0):=fun x σ H Q h=>by
 refine⟨by simp[Nat.add_comm],fun i hi=> ?_,h⟩
 obtain⟨j,rfl⟩: ∃j,i=j+1:=⟨i-1,by omega⟩
 simp
theorem lA{K:PySem.W.Frag}:ic 2 (IU K 2 (zV (bR 0) (zV (bR 1) IT))):=fun x σ H Q h=>by
 obtain⟨a,xs,rfl,hs,hl,v,r,e1,v2,r2,e2,e3,q⟩:=h
 refine⟨a,xs,rfl,hs,hl,v,r,e1,v2,r2,e2,e3,by simp;omega,fun i hi=> ?_,q⟩
 obtain⟨j,rfl⟩: ∃j,i=j+2:=⟨i-2,by omega⟩
 simp
inductive bE(X:Cx)(T:List Str)(scope:Scope)(E:Value->Shared->Prop):Cx->Prop where
 |mk (C:Addr) (s:Shared) (H:Hp) (ex:List Addr) (pn:List (Addr×Obj)):bE X T scope E (aM X T scope C s H ex pn E)
section
variable{X:Cx}{T:List Str}{scope:Scope}{elt iter tg:Expr}{ifs:List Expr}{pos:Pos}{wi:TI}{g:TG}{tt:TT}{te:TE}
theorem nD{pins:List (Addr×Obj)}{σ:St}{H:Hp}{s s1:Shared}{C D it:Addr}{fp:List Addr}{tn:Nat->Heap->Prop}{J:It}{Ex:Value->Shared->Prop}{R:Result->Shared->Prop}{W:Nat->Nat->List V->Hp->Prop}{m0:Nat}{Qe:List V->Hp->Prop}
  (hc:X.calm=true)(hg:PG (aM X T scope C s H fp (X.pn++pins) Ex) tg g)(hgf:ic T.length g)(ht:kP (aM X T scope C s H fp (X.pn++pins) Ex) ifs tt)(he:PE (aM X T scope C s H fp (X.pn++pins) Ex) elt te)
  (Tn:Turn X.prog X.w X.K tg J fp it tn)(hf: ∀b∈fp,dD X pins H b)(hfl: ∀b∈fp,b<s.heap.objs.size)(hC:s.heap.objs.size<=C)(hD:s.heap.objs.size<=D)(hDC:D≠C)(Ml: ∀p∈X.pn++pins,p.1<s.heap.objs.size)(hst: ∀b∈frs X.stack,b<s.heap.objs.size)(Qm:H D=none)
  (I1:Inv (aM X T scope C s H fp (X.pn++pins) Ex) [] (List.replicate T.length none++σ) H s1)(st1:tn 0 s1.heap)(EI:s1.heap.get? D=some {cls:= .type "list",data:= .seq ([]:List Value).toArray})
  (gT: ∀e s',Ex e s'->notedBy (model X.prog X.w) X.A (compEnvC scope (cO X.env.cells scope.names []) C X.env) (fun e s'=>R (.error e) s') e s')(w0:W 0 m0 [] H)
  (turn: ∀i m ys H,W i m ys H->(J.stop i H/\Qe ys H)\/(J.go i H/\ys.length<sizeLine/\ ∀x H',J.mZ i H x H'->g x (List.replicate T.length none++σ) H' fun σ2 H2=>tt σ2 H2 fun b H3=>
   if b=true then te σ2 H3 fun y H4=> ∃m',m'<m/\W (i+1) m' (ys++ [y]) H4 else ∃m',m'<m/\W (i+1) m' ys H3))
  (hR: ∀s2 σ2 H2 ys us n,Inv (aM X T scope C s H fp (X.pn++pins) Ex) [] σ2 H2 s2->H2 D=none->s2.heap.get? D=some {cls:= .type "list",data:= .seq us.toArray n}->Vals ys us->ys.length<=sizeLine->Qe ys H2->R (.ok .next) s2):
  codeAny (model X.prog X.w) X.A (.compLoop (.ListComp elt [⟨tg,iter,ifs,0⟩] scope pos) 0 (.ref it) (.ref D) (compEnvC scope (cO X.env.cells scope.names []) C X.env)) R s1:=by
 have Ob: ∀b∈fp,b≠D:=fun b hb=>Nat.ne_of_lt (Nat.lt_of_lt_of_le (hfl b hb) hD)
 have QY: ∀p∈X.pn++pins,p.1≠D:=fun p hp=>Nat.ne_of_lt (Nat.lt_of_lt_of_le (Ml p hp) hD)
 have hDf:D∉frs X.stack:=fun hb=>Nat.lt_irrefl _ (Nat.lt_of_lt_of_le (hst D hb) hD)
 have cD: ∀x c,(cO X.env.cells scope.names []).lookup x=some c->c≠D:=fun x c e z=>by
  obtain⟨v,o,ho,hd⟩:=I1.cell x c e
  rw[z,EI]at ho
  cases ho
  cases hd
 have lC: ∀ (pl:List (Addr×Obj)) (H':Hp),(∀b∈fp,H' b=none)->(∀p∈pl,p.1=D)-> ∀b∈fp,dD (aM X T scope C s H fp (X.pn++pins) Ex) pl H' b:=fun pl H' hn hpl b hb=>
  ⟨hn b hb,(I1.ok.zf b hb).1,I1.ok.mS b hb,.inl hb,(I1.ok.zf b hb).2,fun p hp=>by
   rcases List.mem_append.mp hp with z|z
   ·exact(hf b hb).2.2.2.2.2 p z
   ·rw[hpl p z];exact Ne.symm (Ob b hb)⟩
 refine o3 (fun m s'=> ∃i ys us n H',Inv (aM X T scope C s H fp (X.pn++pins) Ex) [] (List.replicate T.length none++σ) H' s'/\tn i s'.heap/\(∀b∈fp,H' b=none)/\H' D=none/\
  s'.heap.get? D=some {cls:= .type "list",data:= .seq us.toArray n}/\Vals ys us/\ys.length<=sizeLine/\W i m ys H') Ex gT ?_ m0
  ⟨0,[],[],0,H,I1,st1,fun b hb=>(hf b hb).1,Qm,EI,.nil,Nat.zero_le _,w0⟩
 rintro m s3 ⟨i,ys,us,n,H3,I3,st3,tw,N7,LV,KP,Op,w3⟩
 have NL:Inv (aM X T scope C s H fp (X.pn++pins) Ex) [(D,{cls:= .type "list",data:= .seq us.toArray n})] (List.replicate T.length none++σ) H3 s3:=I3.du fun p hp=>by
  have e:p=(D,{cls:= .type "list",data:= .seq us.toArray n}):=by simpa using hp
  subst e
  exact⟨LV,N7,hDC,hDf,fun v z=>by cases z⟩
 have MZ: ∀p∈ [((D,{cls:= .type "list",data:= .seq us.toArray n}):Addr×Obj)],p.1=D:=fun p hp=>by
  have e:p=(D,{cls:= .type "list",data:= .seq us.toArray n}):=by simpa using hp
  rw[e]
 rcases turn i m ys H3 w3 with⟨stop,qe⟩|⟨go,hlt,step⟩
 ·refine aL (Tn.done (aM X T scope C s H fp (X.pn++pins) Ex) rfl rfl rfl hc i _ s3 _ H3 Ex NL (lC _ H3 tw MZ) st3 stop) fun r s4 ⟨hr,I4⟩=> ?_
  subst hr
  have p4:=I4.pin (D,{cls:= .type "list",data:= .seq us.toArray n}) (List.mem_append_right _ (by simp))
  exact hR s4 _ H3 ys us n (I4.du fun p hp=>by cases hp) N7 p4.1 KP Op qe
 ·refine aL (Tn.item (aM X T scope C s H fp (X.pn++pins) Ex) rfl rfl rfl hc i _ s3 _ H3 Ex NL (lC _ H3 tw MZ) st3 go) fun r s4 ⟨u,hr,h4⟩=> ?_
  subst hr
  refine aL h4 fun _ s5 ⟨x,H5,I5,r5,y5,ki,tX⟩=> ?_
  have Cw:=I5.pinned (lC _ H5 tX MZ) (Tn.obj _ _ ki)
  refine aL (hg _ s5 _ H5 x u _ Cw r5 (hgf x σ H5 _ (step x H5 y5))) fun _ s6 ⟨zk,H6,I6,Jk,Mn,q6⟩=> ?_
  refine aL (ht _ s6 zk H6 _ I6 q6) fun ok s7 ⟨H7,I7,q7⟩=> ?_
  have back: ∀ {H8:Hp} {s8:Shared},Inv (aM X T scope C s H fp (X.pn++pins) Ex) ([(D,{cls:= .type "list",data:= .seq us.toArray n})]++gw fp s5.heap) zk H8 s8->
    Inv (aM X T scope C s H fp (X.pn++pins) Ex) [] (List.replicate T.length none++σ) H8 s8/\tn (i+1) s8.heap/\(∀b∈fp,H8 b=none)/\H8 D=none/\s8.heap.get? D=some {cls:= .type "list",data:= .seq us.toArray n}:=fun{H8 s8} I8=>by
   refine⟨(I8.du (j6:= []) fun p hp=>by cases hp).weak ?_ fun j v e=> ?_,Tn.keep _ _ _ ki fun b hb o e=>(I8.pin (b,o) (List.mem_append_right _ (List.mem_append_right _ (bd hb e)))).1,fun b hb=> ?_,?_,?_⟩
   ·rw[Jk,List.length_append,List.length_replicate]
   ·by_cases hj:j<T.length
    ·rw[List.getElem?_append_left (by rw[List.length_replicate];exact hj),List.getElem?_replicate,if_pos hj]at e
     cases e
    ·rw[List.getElem?_append_right (by rw[List.length_replicate];omega),List.length_replicate]at e
     rw[Mn j (by omega)]
     exact e
   ·obtain⟨o,e,d⟩:=Tn.obj _ _ ki b hb
    exact(I8.pin (b,o) (List.mem_append_right _ (List.mem_append_right _ (bd hb e)))).2.1
   ·exact(I8.pin (D,{cls:= .type "list",data:= .seq us.toArray n}) (List.mem_append_right _ (List.mem_append_left _ (by simp)))).2.1
   ·exact(I8.pin (D,{cls:= .type "list",data:= .seq us.toArray n}) (List.mem_append_right _ (List.mem_append_left _ (by simp)))).1
  cases ok with
  |false=>
   simp only[Bool.false_eq_true,if_false]at q7⊢
   obtain⟨m',hm,w7⟩:=q7
   obtain⟨J8,mX,tY,KJ,FL⟩:=back I7
   exact⟨m',hm,i+1,ys,us,n,H7,J8,mX,tY,KJ,FL,KP,Op,w7⟩
  |true=>
   simp only[if_true]at q7⊢
   refine aL (he _ s7 zk H7 _ I7 q7) fun uy s8 ⟨y,H8,I8,ry,m',hm,w8⟩=> ?_
   obtain⟨J8,mX,tY,KJ,FL⟩:=back I8
   have hsz:us.toArray.size<=sizeLine:=by
    have e1:=KP.length
    rw[List.size_toArray];omega
   refine wpAny_list_append_plain (hsz:=hsz) (⟨_,FL⟩:s8.heap.PlainList D us.toArray) fun h9 L3 KO=> ?_
   obtain⟨n9,e9⟩:=L3
   have J9:Inv (aM X T scope C s H fp (X.pn++pins) Ex) [] (List.replicate T.length none++σ) H8 {s8 with heap:=h9}:=
    J8.turned (it:=D) (t':=s8.toks) (fun b o hb e=>KO.extBut b o hb e) KJ hDC (.inr hD) cD fun p hp=>by
     rcases List.mem_append.mp hp with z|z
     ·exact QY p z
     ·cases z
   refine⟨m',hm,i+1,ys++ [y],us++ [uy],n9,H8,J9,Tn.keep _ _ _ mX fun b hb o e=>KO.extBut b o (Ob b hb) e,tY,KJ,?_,KP.append (.cons ry .nil),?_,w8⟩
   ·rw[e9];simp
   ·rw[List.length_append,List.length_singleton];omega
theorem dP(S:eL X T scope)(hc:X.calm=true)(hi:PI X tg iter wi)(hg: ∀Y,bE X T scope (fun _ _=>False) Y->PG Y tg g)(hgf:ic T.length g)(ht: ∀Y,bE X T scope (fun _ _=>False) Y->kP Y ifs tt)
  (he: ∀Y,bE X T scope (fun _ _=>False) Y->PE Y elt te)(hs: ∀x,foldedSetIterable iter X.env x=pure x:=by intro _;rfl):PE X (.ListComp elt [⟨tg,iter,ifs,0⟩] scope pos) (wY T.length wi g tt te):=by
 intro pins s σ H Q I h
 rw[eval_ListComp]
 refine wpAny_comprehension_free (use:=none) (cl:=cO X.env.cells scope.names []) rfl hs (dX fun n hn=>I.ok.has n (S.cap n hn)) S.kind S.loc ?_
 refine aL (hi pins s σ H _ I h) fun v s1 h1=>aL h1 fun itv s2 h2=> ?_
 obtain⟨it,fp,tn,J,H2,e,I2,Tn,st2,f2,W,⟨m0,w0⟩,turn⟩:=h2
 subst e
 have hfl: ∀b∈fp,b<s2.heap.objs.size:=fun b hb=>by
  obtain⟨o,ho,_⟩:=Tn.obj _ _ st2 b hb
  exact Heap.lt_size ho
 refine wpAny_newObj_type (wpAny_newFunctionEnv S.io (by intro y hy;cases hy) (fun h4 hns kf=> ?_) S.kind)
 dsimp only at hns kf⊢
 generalize tz:s2.heap.push {cls:= .type "list",dict:=none,data:= .seq ([]:List Value).toArray}=H3 at hns kf⊢
 have hC:H3.objs.size=s2.heap.objs.size+1:=by rw[<-tz,Heap.size_push]
 have i8: ∀b o,H3.get? b=some o->h4.get? b=some o:=fun b o e=>kf.extBut b o (Nat.ne_of_lt (Heap.lt_size e)) (Heap.get?_push_of_some _ e)
 have old: ∀b o,s2.heap.get? b=some o->h4.get? b=some o:=fun b o e=>i8 b o (by rw[<-tz];exact Heap.get?_push_of_some _ e)
 have EI:h4.get? s2.heap.objs.size=some {cls:= .type "list",data:= .seq ([]:List Value).toArray}:=i8 _ _ (by rw[<-tz];exact Heap.get?_push_size _ rfl)
 have hDC:s2.heap.objs.size≠H3.objs.size:=by omega
 have loop: ∀s4:Shared,s4= {s2 with heap:=h4,toks:=s2.toks+([]:List (Str×Value)).length}->
   codeAny (model X.prog X.w) X.A (.compLoop (.ListComp elt [⟨tg,iter,ifs,0⟩] scope pos) 0 (.ref it) (.ref s2.heap.objs.size) (compEnvC scope (cO X.env.cells scope.names []) H3.objs.size X.env))
    (compPost (model X.prog X.w) X.A X.xe none (EP X pins σ Q) (.ref s2.heap.objs.size) H3.objs.size) s4:=by
  rintro s4 rfl
  have I4:Inv (aM X T scope H3.objs.size s2 H2 fp (X.pn++pins) (fun _ _=>False)) [] (List.replicate T.length none++σ) H2 {s2 with heap:=h4,toks:=s2.toks+([]:List (Str×Value)).length}:=
   dY S I2 f2 hfl old (by omega) hns rfl rfl
  refine nD (Qe:=fun ys H=> ∀p,H p=none->Q (.ref p) (upd H p (.lst ys))) hc (hg _ (.mk ..)) hgf (ht _ (.mk ..)) (he _ (.mk ..)) Tn f2 hfl (by omega) (Nat.le_refl _) hDC (fun p hp=>Heap.lt_size (I2.pin p hp).1) (fun b hb=> ?_) I2.fresh I4 ?_ EI (fun _ _ z=>z.elim) w0 turn ?_
  ·obtain⟨_,o,ho,_⟩:=I2.stack.mem hb
   exact Heap.lt_size ho
  ·exact Tn.keep _ _ _ st2 fun b hb o e=>old b o e
  ·intro s5 Pi H5 ys us n I5 IX FK hv hz q
   obtain⟨mm,zi,_⟩:=I5.loc
   exact⟨mm,zi,fun h' pq=>⟨.ref s2.heap.objs.size,_,qP I2 f2 (by omega) (Nat.le_refl _) hDC I5 pq IX FK hv hz,rfl,q _ IX⟩⟩
 refine codeAny_compStart_list (loop _ rfl) (Tn.self _ 0 _ _ _ ?_ (loop _ rfl))
 exact Tn.keep _ _ _ st2 fun b hb o e=>old b o e
end
end L2
namespace L2
open PySem PySem.Spec PyProof.Rows
section
variable{M:Model}{A:Around}{E:Value->Shared->Prop}{s:Shared}{B:Heap}{env:Env}{outer l:List Env}{L e:Addr}{C:Value}{tb:Bool}
end
section
variable{P:Program}{w:World}{fs ex:List Addr}{H₀ H':Hp}{s₀ s':Shared}{l:List Env}{B h':Heap}
end
section
variable{X:Cx}{pins:List (Addr×Obj)}{σ:St}{H:Hp}{s s':Shared}{E:XK}{e:Value}
end
section
variable{X:Cx}{E:XK}{x:Str}{C:Addr}{e:Expr}{es:List Expr}{t:TA}{np cpos pos:Pos}
end
end L2
namespace L2
open PySem PySem.Spec PyProof.Rows K2
section
variable{X:Cx}
theorem C5(x:T)(c:Nat):(!(Builtin.Str.occurrences (S x) (S [c]) 0 (S x).length 1).isEmpty)=x.contains c:=by
 have h:=StrLaws.found_one (S x) c
 rw[show(S [c]:Str)=⟨#[c]⟩from rfl,h]
 show decide (c∈x)=_
 rw[List.contains_eq_mem]
inductive M8(x:V)(y:V)(H:Hp)(Q:VK):Prop
 |mk (c:Nat) (t:T) (_:x= .str (S [c])) (_:y= .str (S t)) (_:Q (.bl (t.contains c)) H)
theorem uQ:gG X (compareOp .In) M8:=by
 intro pins s σ H x y v u Q I rx ry h
 obtain⟨c,t,rfl,rfl,q⟩:=h
 refine yq pins s σ H _ _ v u Q I rx ry ⟨_,_,rfl,rfl,?_⟩
 rw[C5];exact q
theorem wu(hu:X.A.units<cLine):gG X (compareOp .Eq) (fun x y H Q=> ∃a b xs,x= .ref a/\y= .ref b/\aN X.K H a xs/\aN X.K H b []/\Q (.bl xs.isEmpty) H):=by
 intro pins s σ H x y v u Q I rx ry h
 obtain⟨a,b,xs,rfl,rfl,ha,hb,q⟩:=h
 cases rx;cases ry
 obtain⟨its,r,pl,_⟩:=I.list ha
 obtain⟨its2,r2,K6,_⟩:=I.list hb
 cases r2
 cases xs with
 |nil=>
  cases r
  refine SeqAt.eq_listAt (e:=fun _=>true) pl.isList K6.isList rfl hu (fun j h1 _=>absurd h1 (by simp)) ⟨.bl true,H,I,rfl,q⟩
 |cons z zs=>
  cases r with
  |cons rz SZ=>exact SeqAt.eq_list_lengthsAt pl.isList K6.isList (by simp) hu ⟨.bl false,H,I,rfl,q⟩
end
end L2
namespace L2
open PySem PySem.Spec PyProof.Rows K2
section
variable{prog:Program}{w:World}{A:Around}{E:Value->Shared->Prop}{s:Shared}
theorem fT{j l:Addr}{i:Nat}{items:Array Value}{x:Value}{Q:Value->Shared->Prop}(hj:s.heap.IsTupleIter j l i)(hl:s.heap.IsTuple l items)(hx:items[i]? =some x)
  (hQ: ∀h',h'.IsTupleIter j l (i+1)->Heap.SameBut j s.heap h'->Q x {s with heap:=h'}):wpAny (model prog w) A (Builtin.SmallTypes.nextOf (.ref j)) Q E s:=by
 obtain⟨o,ho,hc,hd⟩:=id hj
 obtain⟨ol,HY,_,nl,hdl⟩:=hl
 unfold Builtin.SmallTypes.nextOf
 refine wpAny_bind (wpAny_callSpecial?_slot (name:=Str.ofString "__next__") hj.typeIs F.slot_tuple_iterator_next (wpAny_call_entry F.slot_tuple_iterator_next hj.typeIs F.entry_tuple_iterator_next ?_ (F.args_tuple_iterator_next_1 _)))
 show wpAny _ _ (field (.ref j) 0>>=_) _ _ s;refine wpAny_bind (wpAny_field ho hd (x:= .ref l) rfl ?_)
 show wpAny _ _ (if(Value.ref l==Value.none)=true then _ else _) _ _ s;rw[if_neg (show ¬((Value.ref l==Value.none)=true)from Bool.false_ne_true)]
 show wpAny _ _ (field (.ref j) 1>>=_) _ _ s;refine wpAny_bind (wpAny_field ho hd (x:= .int i 0) rfl ?_)
 show wpAny _ _ (seqItems? (.ref l) >>=_) _ _ s;refine wpAny_bind (wpAny_seqItems HY hdl ?_)
 simp only[Int.toNat_natCast,hx]
 refine wpAny_bind (wpAny_setField ho hd (by simp) (wpAny_pure ⟨x,rfl,wpAny_pure (hQ _ ?_ (Heap.SameBut.update ..))⟩))
 exact⟨_,Heap.get?_update_self _ ho (Obj.isFreed_of_fields (Obj.data_mapFields hd _)),(Obj.cls_mapFields ..).trans hc,by rw[Obj.data_mapFields hd];simp[rawInt]⟩
theorem j9{j l:Addr}{i:Nat}{items:Array Value}{Q:Value->Shared->Prop}(hh:A.handled=none)(hj:s.heap.IsTupleIter j l i)(hl:s.heap.IsTuple l items)(hx:items[i]? =none)
  (hE: ∀h' e,Heap.ExtBut j s.heap h'->(∃o,h'.get? e=some o/\o.cls= .type "StopIteration")->E (.ref e) {s with heap:=h'}):wpAny (model prog w) A (Builtin.SmallTypes.nextOf (.ref j)) Q E s:=by
 obtain⟨o,ho,hc,hd⟩:=id hj
 obtain⟨ol,HY,_,nl,hdl⟩:=hl
 unfold Builtin.SmallTypes.nextOf
 refine wpAny_bind (wpAny_callSpecial?_slot (name:=Str.ofString "__next__") hj.typeIs F.slot_tuple_iterator_next (wpAny_call_entry F.slot_tuple_iterator_next hj.typeIs F.entry_tuple_iterator_next ?_ (F.args_tuple_iterator_next_1 _)))
 show wpAny _ _ (field (.ref j) 0>>=_) _ _ s;refine wpAny_bind (wpAny_field ho hd (x:= .ref l) rfl ?_)
 show wpAny _ _ (if(Value.ref l==Value.none)=true then _ else _) _ _ s;rw[if_neg (show ¬((Value.ref l==Value.none)=true)from Bool.false_ne_true)]
 show wpAny _ _ (field (.ref j) 1>>=_) _ _ s;refine wpAny_bind (wpAny_field ho hd (x:= .int i 0) rfl ?_)
 show wpAny _ _ (seqItems? (.ref l) >>=_) _ _ s;refine wpAny_bind (wpAny_seqItems HY hdl ?_)
 simp only[Int.toNat_natCast,hx]
 refine wpAny_bind (wpAny_rule (wpAny_bind (wpAny_setField ho hd (by simp) ?_)));show wpAny _ _ (newExc (.type "StopIteration") [] >>=_) _ _ _;refine wpAny_bind ?_
 simp only[newExc,newTuple];refine wpAny_bind (wpAny_newObj_type ?_ (by size_fits))
 refine wpAny_bind (m:=firstArgMember _ _) (wpAny_of_eq (a:=Value.none) (by first|rfl|(simp only[firstArgMember];rfl)) ?_);refine wpAny_newObj_type ?_ (by size_fits)
 simp only[raiseNew];refine wpAny_bind (wpAny_handled ?_)
 first|rw[show A.in1.handled=none from hh]|rw[hh]
 refine wpAny_bind (wpAny_pure (wpAny_throw ?_));exact hE _ _ (((Heap.SameBut.update ..).extBut.push _).push _) ⟨_,Heap.get?_push_size _ rfl,rfl⟩
theorem xx(hh:A.handled=none)(j l:Addr)(hne:l≠j)(items:Array Value):Draws prog w A j [j,l] items.size (fun i v=>items[i]? =some v) (fun i h=>h.IsTupleIter j l i/\h.IsTuple l items)where
 live:=fun _ _ st=>by obtain⟨o,ho,_⟩:=st.1;exact⟨o,ho⟩
 frame:=fun _ _ _ st hk=>⟨st.1.at fun o e=>hk j (by simp) o e,by obtain⟨o,ho,r⟩:=st.2;exact⟨o,hk l (by simp) o ho,r⟩⟩
 item:=fun i s Q E hi st hQ=>fT st.1 st.2 (x:=items[i]) (by simp[hi]) fun h' hj' hs'=>hQ _ h' s.toks (by simp[hi]) ⟨hj',by obtain⟨o,ho,r⟩:=st.2;exact⟨o,hs'.extBut _ _ hne ho,r⟩⟩ hs'
 done:=fun s Q E st hE=>j9 hh st.1 st.2 (by simp) hE
theorem zK(l:Addr)(items:Array Value)(n:Nat)(dct:Option Addr)(sl:Array (Option Value)):
  Meets (Builtin.«enumerate.__new__» ⟨[.type "enumerate",.ref l],[]⟩) (fun _ R s=>s.heap.get? l=some {cls:= .type "tuple",dict:=dct,data:= .seq items n,slots:=sl}/\
   R (.ok (.ret (.ref (s.heap.push {cls:= .type "tuple_iterator",data:= .fields #[.ref l,.int 0 0]}).objs.size)))
    {s with heap:=(s.heap.push {cls:= .type "tuple_iterator",data:= .fields #[.ref l,.int 0 0]}).push {cls:= .type "enumerate",data:= .fields #[.none,.bool false,.ref s.heap.objs.size,rawInt 0,.none,.none]}}):=
 .of_wp fun prog w A R s h=>by
  obtain⟨hp,g,d,tk,os⟩:=s
  obtain⟨hl,h⟩:=h
  have hsub:=sub_enumerate
  have hT:Heap.IsTuple (Shared.heap ⟨hp,g,d,tk,os⟩) l items:=⟨_,hl,rfl,n,rfl⟩
  wp_walk using AutoSeq1.wpAny_loadPart' hl
  refine wpAny_stack_any fun st=>wpAny_pure ?_
  split
  ·rename_i c _ _ _ _ _
   cases(c==Value.type "enumerate")<;>(wp_walk using AutoSeq1.wpAny_loadPart' hl,wpAny_pyIter_tuple hT;exact⟨_,rfl,h⟩)
  ·wp_walk using AutoSeq1.wpAny_loadPart' hl,wpAny_pyIter_tuple hT
   exact⟨_,rfl,h⟩
theorem xj{l:Addr}{items:Array Value}{Q:Value->Shared->Prop}(hL:s.heap.IsTuple l items)
  (h: ∀h',IsEnum h' (s.heap.objs.size+1) s.heap.objs.size 0 .none->h'.IsTupleIter s.heap.objs.size l 0->h'.objs.size=s.heap.objs.size+2->(∀b o,s.heap.get? b=some o->h'.get? b=some o)->Q (.ref (s.heap.objs.size+1)) {s with heap:=h'}):
  wpAny (model prog w) A (call (.type "enumerate") [.ref l]) Q E s:=by
 obtain⟨⟨c,dct,dt,sl⟩,hl,hc,n,hd⟩:=hL
 obtain rfl:c= .type "tuple":=hc
 obtain rfl:dt= .seq items n:=hd
 refine callType_new F.called_enumerate (by decide) (F.typeCall_enumerate_1 _) (F.newCall_enumerate_1 _) (fun obj=>F.args_object_init_2 obj _) F.entry_enumerate_new (zK l items n dct sl) ⟨hl,?_⟩
 have hz:(s.heap.push {cls:= .type "tuple_iterator",data:= .fields #[.ref l,.int 0 0]}).objs.size=s.heap.objs.size+1:=Heap.size_push ..
 show _/\_
 rw[hz]
 have he:IsEnum ((s.heap.push {cls:= .type "tuple_iterator",data:= .fields #[.ref l,.int 0 0]}).push {cls:= .type "enumerate",data:= .fields #[.none,.bool false,.ref s.heap.objs.size,rawInt 0,.none,.none]}) (s.heap.objs.size+1) s.heap.objs.size 0 .none:=by
  have q:=Heap.get?_push_size (s.heap.push {cls:= .type "tuple_iterator",data:= .fields #[.ref l,.int 0 0]}) (o:= {cls:= .type "enumerate",data:= .fields #[.none,.bool false,.ref s.heap.objs.size,rawInt 0,.none,.none]}) rfl
  rw[hz]at q
  exact q
 exact⟨⟨_,he,rfl⟩,h _ he ⟨_,Heap.get?_push_of_some _ (Heap.get?_push_size _ rfl),rfl,rfl⟩ (by rw[Heap.size_push,hz]) fun b o x=>Heap.get?_push_of_some _ (Heap.get?_push_of_some _ x)⟩
end
def NP(n:Nat)(val:Nat->V):It:=⟨fun i _=>i<n,fun i H x H'=>H'=H/\x=val i,fun i _=>i=n⟩
def KB(n:Nat)(val:Nat->List V)(G:Hp->Prop):It:=⟨fun i H=>i<n/\G H,fun i H x H'=> ∃t,H t=none/\x= .ref t/\H'=upd H t (.tup (val i)),fun i H=>i=n/\G H⟩
theorem y7{P:Program}{w:World}{K:PySem.W.Frag}{tg:Expr}{it:Addr}{n:Nat}{Pv:Nat->Value->Prop}{St:Nat->Heap->Prop}{val:Nat->V}(W: ∀A:Around,A.handled=none->Walks P w A it [it] [it] n Pv St)
  (hv: ∀i u,Pv i u->RelV (val i) u)(fr: ∀i h h',St i h->(∀b∈ [it],∀o,h.get? b=some o->h'.get? b=some o)->St i h')
  (ob: ∀i h,St i h-> ∃o vs ty,h.get? it=some o/\o.cls= .type ty/\o.data= .fields vs/\ ["enumerate", "zip", "dict_itemiterator", "dict_reverseitemiterator", "odict_iterator", "itertools.zip_longest", "itertools.pairwise"].contains ty=false)
  (sf: ∀ (A:Around) (i:Nat) (s:Shared) (Q:Value->Shared->Prop) (E:Value->Shared->Prop),St i s.heap->Q (.ref it) s->wpAny (model P w) A (pyIter (.ref it)) Q E s):Turn P w K tg (NP n val) [it] it St where
 mem:=by simp
 obj:=fun i h st b hb=>by
  obtain rfl:b=it:=by simpa using hb
  obtain⟨o,vs,ty,e,_,d,_⟩:=ob i h st
  exact⟨o,e,fun v z=>by rw[d]at z;cases z⟩
 keep:=fr
 item:=by
  intro X hP hw hK hc i pins s σ H E I hf st hg
  subst hP hw hK
  obtain⟨f0,f1,f2,f3,f4,f5⟩:=hf it (by simp)
  refine(W X.A (I.ok.hd hc)).item i s _ _ hg st fun v h' tk hP st' kk=> ?_
  have I1:Inv X pins σ H {s with heap:=h',toks:=tk}:=I.turned (fun b o hb e=>kk b o (by simpa using hb) e) f0 f1 f3 f4 f5
  obtain⟨o,vs,ty,e,c,d,nn⟩:=ob (i+1) h' st'
  exact⟨v,rfl,q9 (s:= {s with heap:=h',toks:=tk}) e c d nn ⟨val i,H,I1,hv i v hP,⟨rfl,rfl⟩,st',fun b hb=>(hf b hb).1⟩⟩
 done:=by
  intro X hP hw hK hc i pins s σ H E I hf st hg
  subst hP hw hK
  obtain rfl:i=n:=hg
  obtain⟨f0,f1,f2,f3,f4,f5⟩:=hf it (by simp)
  exact(W X.A (I.ok.hd hc)).done s _ _ st fun h' tk kk=>⟨rfl,I.turned (fun b o hb e=>kk b o (by simpa using hb) e) f0 f1 f3 f4 f5⟩
 self:=sf
section
variable{X:Cx}{tg:Expr}
def Ms(tl:TE):TI:=fun σ H R=>tl σ H fun x H1=> ∃t:T,x= .str (S t)/\R (NP t.length fun i=> .str (S [t.getD i 0])) H1
theorem GM{l:Expr}{tl:TE}(hl:PE X l tl):PI X tg l (Ms tl):=by
 intro pins s σ H R I h
 refine aL (hl pins s σ H _ I h) fun v s1 ⟨x,H1,I1,r1,q1⟩=> ?_
 obtain⟨t,rfl,q⟩:=q1
 obtain⟨tk,rfl⟩:=r1
 have sgn: ∀i u,SignAt (S t) i u->RelV (.str (S [t.getD i 0])) u:=fun i u hu=>by
  obtain⟨c,k,e1,rfl⟩:=hu
  have e2:t[i]? =some c:=by simpa [S]using e1
  refine⟨k,?_⟩
  have:t.getD i 0=c:=by simp[List.getD,e2]
  rw[this]
  rfl
 have fin: ∀ (ty:String) (hty: ["enumerate", "zip", "dict_itemiterator", "dict_reverseitemiterator", "odict_iterator", "itertools.zip_longest", "itertools.pairwise"].contains ty=false)
   (W: ∀A:Around,A.handled=none->Walks X.prog X.w A s1.heap.objs.size [s1.heap.objs.size] [s1.heap.objs.size] (S t).cps.size (SignAt (S t)) (fun i h=>h.IsStrIter s1.heap.objs.size ty (S t) tk i))
   (sf: ∀ (A:Around) (i:Nat) (s:Shared) (Q:Value->Shared->Prop) (E:Value->Shared->Prop),s.heap.IsStrIter s1.heap.objs.size ty (S t) tk i->Q (.ref s1.heap.objs.size) s->wpAny (model X.prog X.w) A (pyIter (.ref s1.heap.objs.size)) Q E s),
   Lp X pins σ tg R (.ref s1.heap.objs.size) {s1 with heap:=s1.heap.push {cls:= .type ty,data:= .fields #[.str (S t) tk,.int 0 0]}}:=fun ty hty W sf=>by
  refine⟨s1.heap.objs.size,[s1.heap.objs.size],_,_,H1,rfl,I1.kept (t':=s1.toks) fun b o e=>Heap.get?_push_of_some _ e,y7 W sgn ?_ ?_ sf,⟨_,Heap.get?_push_size _ rfl,rfl,rfl⟩,fun b hb=> ?_,q⟩
  ·intro i h h' st k
   obtain⟨o,ho,r⟩:=st
   exact⟨o,k _ (by simp) o ho,r⟩
  ·intro i h st
   obtain⟨o,ho,c,d⟩:=st
   exact⟨o,_,ty,ho,c,d,hty⟩
  ·obtain rfl:b=s1.heap.objs.size:=by simpa using hb
   exact I1.lB (Nat.le_refl _) (I1.hok.fresh (Nat.le_refl _))
 cases ha:(S t).cps.all (· <128)
 ·exact wpAny_pyIter_wide ha (fin _ (by decide) (fun A hA=>Walks.strWide hA _ (S t) tk) fun A i s Q E st hq=>wpAny_pyIter_striter_wide st hq)
 ·exact wpAny_pyIter_ascii ha (fin _ (by decide) (fun A hA=>Walks.strAscii hA _ (S t) tk) fun A i s Q E st hq=>wpAny_pyIter_striter_ascii st hq)
end
theorem iJ{P:Program}{w:World}{K:PySem.W.Frag}{elts:List Expr}{kt:Nat}{pt:Pos}{it:Addr}{fp KI:List Addr}{wr:List Addr}{n:Nat}{δ:Type}{Ok:δ->Prop}{Src:δ->Heap->Prop}{Pt:δ->Nat->Array Value->Prop}{St:Nat->Heap->Prop}{Mid:δ->Nat->Addr->Heap->Prop}{val:Nat->List V}{G:Hp->Prop}
  (W: ∀ (A:Around) (d:δ),A.handled=none->Ok d->WalksT P w A it KI wr n (Pt d) (fun i h=>St i h/\Src d h) (Mid d))(src: ∀ (X:Cx) (pins:List (Addr×Obj)) (σ:L2.St) (H:Hp) (s:Shared),X.K=K->Inv X pins σ H s->G H-> ∃d,Ok d/\Src d s.heap)
  (hv: ∀d i us,Ok d->Pt d i us->Vals (val i) us.toList)(hz: ∀i,(val i).length<=sizeLine)(hit:it∈wr)(fr: ∀i h h',St i h->(∀b∈fp,∀o,h.get? b=some o->h'.get? b=some o)->St i h')
  (big: ∀i h,St i h-> ∀b∈fp,∃o,h.get? b=some o/\ ∀v,o.data≠ .cell v)
  (sf: ∀ (A:Around) (i:Nat) (s:Shared) (Q:Value->Shared->Prop) (E:Value->Shared->Prop),St i s.heap->Q (.ref it) s->wpAny (model P w) A (pyIter (.ref it)) Q E s)(hsub: ∀b∈wr,b∈fp):Turn P w K (.Tuple elts kt pt) (KB n val G) fp it St where
 mem:=hsub _ hit
 obj:=big
 keep:=fr
 item:=by
  intro X hP hw hK hc i pins s σ H E I hf st hg
  subst hP hw hK
  obtain⟨hg,hG⟩:=hg
  obtain⟨dd,okd,Hk⟩:=src X pins σ H s rfl I hG
  have W0:=W X.A dd (I.ok.hd hc) okd
  refine W0.item i s _ _ hg ⟨st,Hk⟩ fun Tp vals h' tk hp KL hT mid kk=> ?_
  refine⟨.ref Tp,rfl,?_⟩
  refine W0.go elts kt pt i Tp {s with heap:=h',toks:=tk} _ _ mid fun h2 ⟨st2,_⟩ Ot=> ?_
  have Qs:=W0.apart i Tp h' mid
  have hn:H Tp=none:=I.hok.fresh KL
  have lt: ∀b o,s.heap.get? b=some o->b≠Tp:=fun b o e=>Nat.ne_of_lt (Nat.lt_of_lt_of_le (Heap.lt_size e) KL)
  have kp: ∀b o,b∉wr->s.heap.get? b=some o->h2.get? b=some o:=fun b o hb e=>Ot b o hb (kk b o hb e)
  have nw: ∀b,H b≠none->b∉wr:=fun b hb hm=>hb (hf b (hsub b hm)).1
  obtain⟨oT,eT,cT,nT,dT⟩:=hT
  have hv':=hv dd i vals okd hp
  have J:Inv X pins σ (upd H Tp (.tup (val i))) {s with heap:=h2,gens:=s.gens,drawn:=s.drawn,toks:=tk}:=by
   refine I.step (ch:=wr) (fun b hb=> ?_) (fun b o _ _ hb e _=>kp b o hb e) (fun b o _ _ hb e _=>⟨o.slots,kp b o hb e⟩) (fun b o hb e n0=>by rw[ak (lt b o e)];exact n0)
    (fun b o hb e=>⟨o,kp b o hb e⟩) (fun b xs e=>by rw[ak (ay e hn)];exact e) (fun b o u e=>by rw[ak (ay e hn)];exact e) (fun b ps e=>⟨#[],by rw[ak (ay e hn),e];simp⟩) (fun m hm=> ?_) (fun a o e=> ?_) I.bare
   ·obtain⟨_,f1,_,f3,f4,f5⟩:=hf b (hsub b hb)
    exact⟨f3,f1,f4,f5⟩
   ·obtain⟨o,es,ep,ho,r⟩:=hm
    exact⟨o,es,ep,kp _ o (fun z=>(hf _ (hsub _ z)).2.1 rfl) ho,r⟩
   ·by_cases ha:a=Tp
    ·subst ha
     rw[ac]at e
     cases e
     exact⟨hz i,vals.toList,hv',oT,Ot _ _ Qs eT,cT,nT,by simpa using dT⟩
    ·rw[ak ha]at e
     refine(I.hok a o e).stay (fun b u hb q=>kp b u (nw b ?_) q) (fun b q=>by rw[ak (ay q hn)];exact q) fun b xs q=>by rw[ak (ay q hn)];exact q
     rcases hb with rfl|hb
     ·rw[e];simp
     ·rw[hb];simp
  refine⟨.ref Tp,upd H Tp (.tup (val i)),J,rfl,⟨Tp,hn,rfl,rfl⟩,st2,fun b hb=> ?_⟩
  have hb1:=(hf b hb).1
  obtain⟨o,ho,_⟩:=big i s.heap st b hb
  rw[ak (lt b o ho)]
  exact hb1
 done:=by
  intro X hP hw hK hc i pins s σ H E I hf st hg
  subst hP hw hK
  obtain⟨rfl,hG⟩:=hg
  obtain⟨dd,okd,Hk⟩:=src X pins σ H s rfl I hG
  have W0:=W X.A dd (I.ok.hd hc) okd
  have nw: ∀b,H b≠none->b∉wr:=fun b hb hm=>hb (hf b (hsub b hm)).1
  refine W0.done s _ _ ⟨st,Hk⟩ fun h' tk kp=>⟨rfl,?_⟩
  refine I.step (g':=s.gens) (d':=s.drawn) (t':=tk) (ch:=wr) (fun b hb=> ?_) (fun b o _ _ hb e _=>kp b o hb e) (fun b o _ _ hb e _=>⟨o.slots,kp b o hb e⟩) (fun _ _ _ _ n0=>n0)
   (fun b o hb e=>⟨o,kp b o hb e⟩) (fun _ _ e=>e) (fun _ _ _ e=>e) (fun b ps e=>⟨#[],by rw[e];simp⟩) (fun m hm=> ?_) (fun a o e=> ?_) I.bare
  ·obtain⟨_,f1,_,f3,f4,f5⟩:=hf b (hsub b hb)
   exact⟨f3,f1,f4,f5⟩
  ·obtain⟨o,es,ep,ho,r⟩:=hm
   exact⟨o,es,ep,kp _ o (fun z=>(hf _ (hsub _ z)).2.1 rfl) ho,r⟩
  ·refine(I.hok a o e).stay (fun b u hb q=>kp b u (nw b ?_) q) (fun _ q=>q) fun _ _ q=>q
   rcases hb with rfl|hb
   ·rw[e];simp
   ·rw[hb];simp
 self:=sf
section
variable{X:Cx}
def Jz(K:PySem.W.Frag)(tl:TA):TI:=fun σ H R=>tl σ H fun vs H1=> ∃a xs,vs= [.ref a]/\bn K H1 a xs/\R (KB xs.length (fun i=> [.int i,xs.getD i .aH]) fun H=>bn K H a xs) H1
theorem DQ{l:Expr}{tl:TA}{elts:List Expr}{kt:Nat}{pt p pos:Pos}(hg:Gl X "enumerate")(hm:X.mg "enumerate"=none)(hl:PA X [l] tl)(hs:starEach [l] X.env= [(false,eval l X.env)]:=by rfl):
  PI X (.Tuple elts kt pt) (.Call (.Name "enumerate" p) [l] [] pos) (Jz X.K tl):=by
 intro pins s σ H R I h
 refine Call_ (gn I hg hm boot_enumerate (PyProof.Rows.callWith_type1 (aL (hl pos pins s σ H _ I h) fun us s1 ⟨vs,H1,I1,r1,q1⟩=> ?_) hs rfl))
 obtain⟨a,xs,rfl,hq,q⟩:=q1
 obtain⟨u,rfl,ru⟩:=vals1 r1
 cases ru
 obtain⟨its,rv,ht,hz⟩:=I1.tuple hq
 have ht':s1.heap.IsTuple a its.toArray:=ht
 refine xj ht' fun h' he hi hsz kp=> ?_
 have I2:Inv X pins σ H1 {s1 with heap:=h'}:=I1.kept (t':=s1.toks) kp
 have alt:a<s1.heap.objs.size:=by
  obtain⟨o,e,_⟩:=ht'
  exact Heap.lt_size e
 refine wpAny_pyIter_enum he ?_
 refine⟨s1.heap.objs.size+1,[s1.heap.objs.size+1,s1.heap.objs.size],fun i h=>(∃old,IsEnum h (s1.heap.objs.size+1) s1.heap.objs.size i old)/\h.IsTupleIter s1.heap.objs.size a i,_,H1,rfl,I2,?_,⟨⟨_,he⟩,hi⟩,fun b hb=> ?_,q⟩
 ·refine iJ (KI:=(s1.heap.objs.size+1):: [s1.heap.objs.size,a]) (wr:= [s1.heap.objs.size+1,s1.heap.objs.size]) (δ:=Array Value) (Ok:=fun items=>Vals xs items.toList) (Src:=fun items h=>h.IsTuple a items)
   (Pt:=fun items i vals=> ∃t x,items[i]? =some x/\vals= #[.int i t,x]) (Mid:=fun items i T h=>(∃x,IsEnumOut h (s1.heap.objs.size+1) s1.heap.objs.size ((i:Int)+1) x T)/\(h.IsTupleIter s1.heap.objs.size a (i+1)/\h.IsTuple a items)/\T≠s1.heap.objs.size+1/\T≠s1.heap.objs.size)
   (fun A items hA hok=> ?_) (fun Y pins σ H s hK J hG=> ?_) (fun items i us hok hp=> ?_) (fun i=>by show 2<=sizeLine;decide) (by simp) (fun i h h' st k=> ?_) (fun i h st b hb=> ?_) (fun A i s Q E st hq=> ?_) (fun b hb=>hb)
  ·have hn:items.size=xs.length:=by have:=hok.length;simp at this;exact this.symm
   have D:=xx (prog:=X.prog) (w:=X.w) (A:=A.in1) (show A.in1.handled=none from hA) s1.heap.objs.size a (Nat.ne_of_lt alt) items
   have WT:=WalksT.enumerateD D (s1.heap.objs.size+1) (Nat.succ_ne_self _) (fun hm=>by
    rcases List.mem_cons.mp hm with z|z
    ·exact Nat.succ_ne_self _ z
    ·have z':s1.heap.objs.size+1=a:=by simpa using z
     exact absurd alt (by rw[<-z'];exact Nat.not_lt.mpr (Nat.le_succ _))) (by simp)
   rw[hn]at WT
   exact⟨WT.sub,fun i h h' st k=>by
     obtain⟨⟨x1,x2⟩,x3⟩:=st
     obtain⟨y1,y2,y3⟩:=WT.frame i h h' ⟨x1,x2,x3⟩ k
     exact⟨⟨y1,y2⟩,y3⟩,
    fun i s Q E hi st hQ=>WT.item i s Q E hi ⟨st.1.1,st.1.2,st.2⟩ hQ,fun e k pos i T s Q E m hQ=>WT.go e k pos i T s Q E m fun h' st' kk=>hQ h' ⟨⟨st'.1,st'.2.1⟩,st'.2.2⟩ kk,WT.apart,
    fun s Q E st hQ=>WT.done s Q E ⟨st.1.1,st.1.2,st.2⟩ hQ,fun i s Q E st hQ=>WT.self i s Q E ⟨st.1.1,st.1.2,st.2⟩ hQ⟩
  ·rw[<-hK]at hG
   obtain⟨its',Ct,ht',_⟩:=J.tuple hG
   exact⟨its'.toArray,by simpa using Ct,ht'⟩
  ·obtain⟨t,x,e,rfl⟩:=hp
   have e':items.toList[i]? =some x:=by simpa using e
   have hi:i<items.toList.length:=(List.getElem?_eq_some_iff.mp e').1
   have hl:=hok.length
   have hx:xs[i]? =some (xs.getD i .aH):=by
    have:i<xs.length:=by omega
    simp[this]
   obtain⟨u,e2,ru⟩:=hok.get hx
   rw[e']at e2
   cases e2
   exact .cons ⟨t,rfl⟩ (.cons ru .nil)
  ·obtain⟨⟨old,x1⟩,x2⟩:=st
   exact⟨⟨old,k _ (by simp) _ x1⟩,x2.at fun o e=>k _ (by simp) o e⟩
  ·obtain⟨⟨old,x1⟩,o2,x2,_,d2⟩:=st
   rcases List.mem_cons.mp hb with rfl|hb
   ·exact⟨_,x1,fun v z=>by cases z⟩
   ·obtain rfl:b=s1.heap.objs.size:=by simpa using hb
    exact⟨o2,x2,fun v z=>by rw[d2]at z;cases z⟩
  ·obtain⟨⟨old,x1⟩,_⟩:=st
   exact wpAny_pyIter_enum x1 hq
 ·have hle:s1.heap.objs.size<=b:=by
   rcases List.mem_cons.mp hb with rfl|hb
   ·omega
   ·obtain rfl:b=s1.heap.objs.size:=by simpa using hb
    omega
  exact I1.lB hle (I1.hok.fresh hle)
end
end L2
namespace L2
open PySem PySem.Spec PyProof.Rows K2
structure oQ(z a b i j l m:Addr):Prop where
 az:a≠z
 bz:b≠z
 iz:i≠z
 jz:j≠z
 ab:a≠b
 ai:a≠i
 aj:a≠j
 bi:b≠i
 bj:b≠j
 ij:i≠j
 lz:l≠z
 lb:l≠b
 li:l≠i
 lj:l≠j
 mz:m≠z
 mb:m≠b
 mi:m≠i
 mj:m≠j
theorem hW{h h':Heap}{l:Addr}{xs:Array Value}(t:h.IsTuple l xs)(k: ∀o,h.get? l=some o->h'.get? l=some o):h'.IsTuple l xs:=by
 obtain⟨o,e,r⟩:=t
 exact⟨o,k o e,r⟩
section
variable{prog:Program}{w:World}{A:Around}{E:Value->Shared->Prop}{s:Shared}{z a b i j l m:Addr}{k1 k2:Nat}{xs ys:Array Value}{x y u v:Value}
theorem qt{Q:Value->Shared->Prop}(D:oQ z a b i j l m)(hz:IsZip s.heap z a b .none)(ha:IsPair s.heap a (.ref i) (.ref j))(hb:IsPair s.heap b u v)
  (h1:s.heap.IsTupleIter i l k1)(h2:s.heap.IsTupleIter j m k2)(hl:s.heap.IsTuple l xs)(hm:s.heap.IsTuple m ys)(hx:xs[k1]? =some x)(hy:ys[k2]? =some y)
  (hQ: ∀h',IsZip h' z a b (rawInt s.heap.objs.size)->IsPair h' b x y->h'.IsTupleIter i l (k1+1)->h'.IsTupleIter j m (k2+1)->IsPair h' s.heap.objs.size x y->h'.objs.size=s.heap.objs.size+1->
   (∀c o,c≠z->c≠b->c≠i->c≠j->s.heap.get? c=some o->h'.get? c=some o)->Q (.ref s.heap.objs.size) {s with heap:=h'}):
  wpAny (model prog w) A (Builtin.«zip.__next__» ⟨[.ref z],[]⟩) (fun fin s'=> ∃v,fin= .done (.ret v)/\Q v s') E s:=by
 show wpAny _ _ (field (.ref z) 2>>=_) _ _ _;refine wpAny_bind (wpAny_field hz rfl (x:= .bool false) rfl ?_)
 show wpAny _ _ (field (.ref z) 3>>=_) _ _ _;refine wpAny_bind (wpAny_field hz rfl (x:= .ref a) rfl ?_)
 refine wpAny_bind (wpAny_seqItems ha rfl ?_);show wpAny _ _ (Builtin.SmallTypes.ownedTupleIsFree (.ref z) >>=_) _ _ _
 refine wpAny_bind ?_;unfold Builtin.SmallTypes.ownedTupleIsFree
 refine wpAny_bind (wpAny_field hz rfl (x:= .none) rfl (wpAny_pure ?_));simp only[if_true]
 refine wpAny_bind (wpAny_rule ?_);refine wpAny_bind (wpAny_field hz rfl (x:= .ref b) rfl ?_)
 refine wpAny_bind (wpAny_setField_rec hz (by simp) fun g1 z1 s1=> ?_)
 have z1:IsZip g1 z a b .ellipsis:=z1
 refine wpAny_bind ?_;simp only[List.zipIdx_cons,List.zipIdx_nil,List.forIn_cons,List.forIn_nil]
 refine wpAny_bind (wpAny_bind (wpAny_onRaise ?_));show wpAny _ _ (Builtin.SmallTypes.nextOf (.ref i) >>=_) _ _ _
 refine wpAny_bind (fT (h1.at fun o e=>s1.extBut _ _ D.iz e) (hW hl fun o e=>s1.extBut _ _ D.lz e) hx fun g2 t2 s2=>wpAny_pure ?_)
 have b2:IsPair g2 b u v:=s2.extBut _ _ D.bi (s1.extBut _ _ D.bz hb)
 refine wpAny_bind (wpAny_seqItems b2 rfl ?_);refine wpAny_bind (wpAny_updateSeq_pair b2 fun g3 b3 s3=> ?_)
 have b3:IsPair g3 b x v:=b3
 refine wpAny_bind (wpAny_letGo (wpAny_pure ?_))
 refine wpAny_bind (wpAny_bind (wpAny_onRaise ?_));show wpAny _ _ (Builtin.SmallTypes.nextOf (.ref j) >>=_) _ _ _
 refine wpAny_bind (fT (h2.at fun o e=>s3.extBut _ _ D.bj.symm (s2.extBut _ _ D.ij.symm (s1.extBut _ _ D.jz e))) (hW hm fun o e=>s3.extBut _ _ D.mb (s2.extBut _ _ D.mi (s1.extBut _ _ D.mz e))) hy fun g4 t4 s4=>wpAny_pure ?_)
 have b4:IsPair g4 b x v:=s4.extBut _ _ D.bj b3
 refine wpAny_bind (wpAny_seqItems b4 rfl ?_);refine wpAny_bind (wpAny_updateSeq_pair b4 fun g5 b5 s5=> ?_)
 have b5:IsPair g5 b x y:=b5
 refine wpAny_bind (wpAny_letGo (wpAny_pure (wpAny_pure ?_)));refine wpAny_bind (wpAny_seqItems b5 rfl ?_)
 refine wpAny_bind (wpAny_newTuple ?_)
 have sz:g5.objs.size=s.heap.objs.size:=by rw[s5.1,s4.1,s3.1,s2.1,s1.1]
 have z5:IsZip g5 z a b .ellipsis:=s5.extBut _ _ D.bz.symm (s4.extBut _ _ D.jz.symm (s3.extBut _ _ D.bz.symm (s2.extBut _ _ D.iz.symm z1)))
 have kp: ∀c o,c≠z->c≠b->c≠i->c≠j->s.heap.get? c=some o->g5.get? c=some o:=fun c o c1 c2 c3 c4 e=>s5.extBut _ _ c2 (s4.extBut _ _ c4 (s3.extBut _ _ c2 (s2.extBut _ _ c3 (s1.extBut _ _ c1 e))))
 have t5:g5.IsTupleIter i l (k1+1):=t2.at fun o e=>s5.extBut _ _ D.bi.symm (s4.extBut _ _ D.ij (s3.extBut _ _ D.bi.symm e))
 have r5:g5.IsTupleIter j m (k2+1):=t4.at fun o e=>s5.extBut _ _ D.bj.symm e
 have Ph:z<g5.objs.size:=Heap.lt_size z5
 show wpAny _ _ (Builtin.SmallTypes.ownedTupleHandOut (.ref z) (.ref g5.objs.size) >>=_) _ _ _
 refine wpAny_bind ?_;unfold Builtin.SmallTypes.ownedTupleHandOut
 have z6:IsZip (g5.push {cls:= .type "tuple",data:= .seq #[x,y]}) z a b .ellipsis:=Heap.get?_push_of_some _ z5
 refine wpAny_bind (wpAny_setField_rec z6 (by simp) fun g7 z7 s7=> ?_)
 have z7:IsZip g7 z a b (rawInt g5.objs.size):=z7
 refine wpAny_setField_rec z7 (by simp) fun g8 z8 s8=> ?_
 have z8:IsZip g8 z a b (rawInt g5.objs.size):=z8
 have up: ∀c o,c≠z->g5.get? c=some o->g8.get? c=some o:=fun c o c1 e=>s8.extBut _ _ c1 (s7.extBut _ _ c1 (Heap.get?_push_of_some _ e))
 have p8:IsPair g8 g5.objs.size x y:=s8.extBut _ _ (Nat.ne_of_gt Ph) (s7.extBut _ _ (Nat.ne_of_gt Ph) (Heap.get?_push_size _ rfl))
 have n8:g8.objs.size=g5.objs.size+1:=by rw[s8.1,s7.1,Heap.size_push]
 rw[sz]at z8 p8 n8
 refine wpAny_pure ⟨_,rfl,?_⟩
 show Q (.ref g5.objs.size) _
 rw[sz]
 exact hQ g8 z8 (up _ _ D.bz b5) (t5.at fun o e=>up _ o D.iz e) (r5.at fun o e=>up _ o D.jz e) p8 n8 fun c o c1 c2 c3 c4 e=>up c o c1 (kp c o c1 c2 c3 c4 e)
theorem tf{Q:Fin->Shared->Prop}(hh:A.handled=none)(D:oQ z a b i j l m)(hz:IsZip s.heap z a b .none)(ha:IsPair s.heap a (.ref i) (.ref j))(hb:IsPair s.heap b u v)
  (h1:s.heap.IsTupleIter i l k1)(hl:s.heap.IsTuple l xs)(hx:xs[k1]? =none)
  (hE: ∀h' e,(∀c o,c≠z->c≠b->c≠i->c≠j->s.heap.get? c=some o->h'.get? c=some o)->(∃o,h'.get? e=some o/\o.cls= .type "StopIteration")->E (.ref e) {s with heap:=h'}):
  wpAny (model prog w) A (Builtin.«zip.__next__» ⟨[.ref z],[]⟩) Q E s:=by
 show wpAny _ _ (field (.ref z) 2>>=_) _ _ _;refine wpAny_bind (wpAny_field hz rfl (x:= .bool false) rfl ?_)
 show wpAny _ _ (field (.ref z) 3>>=_) _ _ _;refine wpAny_bind (wpAny_field hz rfl (x:= .ref a) rfl ?_)
 refine wpAny_bind (wpAny_seqItems ha rfl ?_);show wpAny _ _ (Builtin.SmallTypes.ownedTupleIsFree (.ref z) >>=_) _ _ _
 refine wpAny_bind ?_;unfold Builtin.SmallTypes.ownedTupleIsFree
 refine wpAny_bind (wpAny_field hz rfl (x:= .none) rfl (wpAny_pure ?_));simp only[if_true]
 refine wpAny_bind (wpAny_rule ?_);refine wpAny_bind (wpAny_field hz rfl (x:= .ref b) rfl ?_)
 refine wpAny_bind (wpAny_setField_rec hz (by simp) fun g1 z1 s1=> ?_)
 have z1:IsZip g1 z a b .ellipsis:=z1
 refine wpAny_bind ?_;simp only[List.zipIdx_cons,List.zipIdx_nil,List.forIn_cons,List.forIn_nil]
 refine wpAny_bind (wpAny_bind (wpAny_onRaise ?_));show wpAny _ _ (Builtin.SmallTypes.nextOf (.ref i) >>=_) _ _ _
 refine wpAny_bind (j9 hh (h1.at fun o e=>s1.extBut _ _ D.iz e) (hW hl fun o e=>s1.extBut _ _ D.lz e) hx fun g2 e s2 he=> ?_)
 obtain⟨oe,L9,hce⟩:=he
 have z2:IsZip g2 z a b .ellipsis:=s2 _ _ D.iz.symm z1
 have ez:e≠z:=fun q=>by subst q;rw[z2]at L9;cases L9;simp at hce
 exact wpAny_setField_rec z2 (by simp) fun g3 _ s3=>hE g3 e (fun c o c1 _ c3 _ q=>s3.extBut _ _ c1 (s2 _ _ c3 (s1.extBut _ _ c1 q))) ⟨oe,s3.extBut _ _ ez L9,hce⟩
end
theorem Es(l m:Addr)(xs ys:Array Value):Meets (Builtin.«zip.__new__» ⟨[.type "zip",.ref l,.ref m],[]⟩) (fun _ R s=>s.heap.IsTuple l xs/\s.heap.IsTuple m ys/\
  ∀h1 h2 h3 h4 h5,h1=s.heap.push {cls:= .type "tuple_iterator",data:= .fields #[.ref l,.int 0 0]}->h2=h1.push {cls:= .type "tuple_iterator",data:= .fields #[.ref m,.int 0 0]}->
   h3=h2.push {cls:= .type "tuple",data:= .seq #[.ref s.heap.objs.size,.ref h1.objs.size]}->h4=h3.push {cls:= .type "tuple",data:= .seq #[.none,.none]}->
   h5=h4.push {cls:= .type "zip",data:= .fields #[.none,.bool false,.bool false,.ref h2.objs.size,.ref h3.objs.size]}->R (.ok (.ret (.ref h4.objs.size))) {s with heap:=h5}):=
 .of_wp fun prog w A R s h=>by
  obtain⟨hp,g,d,tk,os⟩:=s
  obtain⟨hl1,hl2,h⟩:=h
  have hsub:=sub_zip
  have Qn:Heap.IsTuple (Shared.heap ⟨hp,g,d,tk,os⟩) l xs:=hl1
  have Qo:Heap.IsTuple (Shared.heap ⟨hp.push {cls:= .type "tuple_iterator",data:= .fields #[.ref l,.int 0 0]},g,d,tk,os⟩) m ys:=hW hl2 fun o e=>Heap.get?_push_of_some _ e
  wp_walk using wpAny_pyIter_tuple Qn,wpAny_pyIter_tuple Qo
  exact⟨_,rfl,h _ _ _ _ _ rfl rfl rfl rfl rfl⟩
section
variable{prog:Program}{w:World}{A:Around}{E:Value->Shared->Prop}{s:Shared}
theorem xm{l m:Addr}{xs ys:Array Value}{Q:Value->Shared->Prop}(hl:s.heap.IsTuple l xs)(hm:s.heap.IsTuple m ys)
  (h: ∀h',IsZip h' (s.heap.objs.size+4) (s.heap.objs.size+2) (s.heap.objs.size+3) .none->IsPair h' (s.heap.objs.size+2) (.ref s.heap.objs.size) (.ref (s.heap.objs.size+1))->IsPair h' (s.heap.objs.size+3) .none .none->
   h'.IsTupleIter s.heap.objs.size l 0->h'.IsTupleIter (s.heap.objs.size+1) m 0->(∀c o,s.heap.get? c=some o->h'.get? c=some o)->Q (.ref (s.heap.objs.size+4)) {s with heap:=h'}):
  wpAny (model prog w) A (call (.type "zip") [.ref l,.ref m]) Q E s:=by
 refine callType_new F.called_zip (by decide) (F.typeCall_zip_2 _ _) (F.newCall_zip_2 _ _) (fun obj=>F.args_object_init_3 obj _ _) F.entry_zip_new (Es l m xs ys) ⟨hl,hm,?_⟩
 intro h1 h2 h3 h4 h5 e1 e2 e3 e4 e5
 have n1:h1.objs.size=s.heap.objs.size+1:=by rw[e1,Heap.size_push]
 have n2:h2.objs.size=s.heap.objs.size+2:=by rw[e2,Heap.size_push,n1]
 have n3:h3.objs.size=s.heap.objs.size+3:=by rw[e3,Heap.size_push,n2]
 have n4:h4.objs.size=s.heap.objs.size+4:=by rw[e4,Heap.size_push,n3]
 have Pf: ∀c o,h4.get? c=some o->h5.get? c=some o:=fun c o q=>by rw[e5];exact Heap.get?_push_of_some _ q
 have Pe: ∀c o,h3.get? c=some o->h5.get? c=some o:=fun c o q=>Pf c o (by rw[e4];exact Heap.get?_push_of_some _ q)
 have Pd: ∀c o,h2.get? c=some o->h5.get? c=some o:=fun c o q=>Pe c o (by rw[e3];exact Heap.get?_push_of_some _ q)
 have Pc: ∀c o,h1.get? c=some o->h5.get? c=some o:=fun c o q=>Pd c o (by rw[e2];exact Heap.get?_push_of_some _ q)
 have up1: ∀c o,s.heap.get? c=some o->h5.get? c=some o:=fun c o q=>Pc c o (by rw[e1];exact Heap.get?_push_of_some _ q)
 have g5:IsZip h5 (s.heap.objs.size+4) (s.heap.objs.size+2) (s.heap.objs.size+3) .none:=by
  rw[<-n4,<-n3,<-n2,e5];exact Heap.get?_push_size _ rfl
 have g4:IsPair h5 (s.heap.objs.size+3) .none .none:=Pf _ _ (by rw[<-n3,e4];exact Heap.get?_push_size _ rfl)
 have g3:IsPair h5 (s.heap.objs.size+2) (.ref s.heap.objs.size) (.ref (s.heap.objs.size+1)):=Pe _ _ (by rw[<-n2,<-n1,e3];exact Heap.get?_push_size _ rfl)
 have g2:h5.IsTupleIter (s.heap.objs.size+1) m 0:=⟨_,Pd _ _ (by rw[<-n1,e2];exact Heap.get?_push_size _ rfl),rfl,rfl⟩
 have g1:h5.IsTupleIter s.heap.objs.size l 0:=⟨_,Pc _ _ (by rw[e1];exact Heap.get?_push_size _ rfl),rfl,rfl⟩
 rw[n4]
 exact⟨⟨_,g5,rfl⟩,h _ g5 g3 g4 g1 g2 up1⟩
theorem zb(hh:A.handled=none)(z a b i j l m:Addr)(D:oQ z a b i j l m)(xs ys:Array Value)(hsz:xs.size=ys.size):
  WalksT prog w A z [z,a,b,i,j,l,m] [z,b,i,j] xs.size (fun k vals=> ∃x y,xs[k]? =some x/\ys[k]? =some y/\vals= #[x,y])
   (fun k h=>(IsZip h z a b .none/\IsPair h a (.ref i) (.ref j)/\(∃u v,IsPair h b u v)/\h.IsTupleIter i l k/\h.IsTupleIter j m k)/\h.IsTuple l xs/\h.IsTuple m ys)
   (fun k T h=>IsZip h z a b (rawInt T)/\IsPair h a (.ref i) (.ref j)/\(∃u v,IsPair h b u v)/\h.IsTupleIter i l (k+1)/\h.IsTupleIter j m (k+1)/\h.IsTuple l xs/\h.IsTuple m ys/\T≠z/\T≠b/\T≠i/\T≠j)where
 sub:=fun c hc=>by
  simp only[List.mem_cons,List.not_mem_nil,or_false]at hc⊢
  rcases hc with q|q|q|q<;>simp[q]
 frame:=fun k h h' st kp=>by
  obtain⟨⟨x1,x2,⟨u,v,x3⟩,x4,x5⟩,x6,x7⟩:=st
  exact⟨⟨kp z (by simp) _ x1,kp a (by simp) _ x2,⟨u,v,kp b (by simp) _ x3⟩,x4.at fun o e=>kp i (by simp) o e,x5.at fun o e=>kp j (by simp) o e⟩,hW x6 fun o e=>kp l (by simp) o e,hW x7 fun o e=>kp m (by simp) o e⟩
 item:=fun k s Q E hk st hQ=>by
  obtain⟨⟨x1,x2,⟨u,v,x3⟩,x4,x5⟩,x6,x7⟩:=st
  have hT:s.TypeIs (.ref z) "zip":=⟨_,x1,rfl⟩
  have ky:k<ys.size:=by omega
  unfold pyNext
  refine wpAny_bind (wpAny_attempt (wpAny_callSpecial?_slot (name:=Str.ofString "__next__") hT F.slot_zip_next (wpAny_call_entry F.slot_zip_next hT F.entry_zip_next (qt D x1 x2 x3 x4 x5 x6 x7 (Array.getElem?_eq_getElem hk) (Array.getElem?_eq_getElem ky) fun h' a1 a2 a3 a4 a5 a6 kp=>wpAny_pure ?_) (F.args_zip_next_1 _))))
  have lt: ∀ {c o},s.heap.get? c=some o->s.heap.objs.size≠c:=fun e=>Nat.ne_of_gt (Heap.lt_size e)
  refine hQ s.heap.objs.size #[xs[k],ys[k]] h' s.toks ⟨_,_,Array.getElem?_eq_getElem hk,Array.getElem?_eq_getElem ky,rfl⟩ (Nat.le_refl _) ⟨_,a5,rfl,_,rfl⟩
   ⟨a1,kp _ _ D.az D.ab D.ai D.aj x2,⟨_,_,a2⟩,a3,a4,hW x6 fun o e=>kp _ o D.lz D.lb D.li D.lj e,hW x7 fun o e=>kp _ o D.mz D.mb D.mi D.mj e,lt x1,lt x3,?_,?_⟩ fun c o hc e=>kp c o (fun q=>hc (by simp[q])) (fun q=>hc (by simp[q])) (fun q=>hc (by simp[q])) (fun q=>hc (by simp[q])) e
  ·obtain⟨_,e,_⟩:=x4;exact lt e
  ·obtain⟨_,e,_⟩:=x5;exact lt e
 go:=fun elts kk pos k T s Q E md hQ=>by
  obtain⟨x1,x2,⟨u,v,x3⟩,x4,x5,x6,x7,_⟩:=md
  exact wpAny_letOwnedTupleGo_zip x1 fun h' z' s'=>hQ h' ⟨⟨z',s'.extBut _ _ D.az x2,⟨u,v,s'.extBut _ _ D.bz x3⟩,x4.at fun o e=>s'.extBut _ _ D.iz e,x5.at fun o e=>s'.extBut _ _ D.jz e⟩,hW x6 fun o e=>s'.extBut _ _ D.lz e,hW x7 fun o e=>s'.extBut _ _ D.mz e⟩ fun c o hc e=>s'.extBut _ _ (fun q=>hc (by simp[q])) e
 apart:=fun k T h md hT=>by
  obtain⟨_,_,_,_,_,_,_,t1,t2,t3,t4⟩:=md
  simp at hT
  rcases hT with q|q|q|q
  ·exact t1 q
  ·exact t2 q
  ·exact t3 q
  ·exact t4 q
 done:=fun s Q E st hQ=>by
  obtain⟨⟨x1,x2,⟨u,v,x3⟩,x4,x5⟩,x6,x7⟩:=st
  have hT:s.TypeIs (.ref z) "zip":=⟨_,x1,rfl⟩
  unfold pyNext
  refine wpAny_bind (wpAny_attempt (wpAny_callSpecial?_slot (name:=Str.ofString "__next__") hT F.slot_zip_next (wpAny_call_entry F.slot_zip_next hT F.entry_zip_next (tf (A:=A.in1) hh D x1 x2 x3 x4 x6 (Array.getElem?_eq_none (Nat.le_refl _)) fun h' e kp he=> ?_) (F.args_zip_next_1 _))))
  obtain⟨o,ho,hc⟩:=he
  refine wpAny_bind (wpAny_isInstance (T:= "StopIteration") (b:=true) ⟨o,ho,hc⟩ isSubtype_stop ?_)
  exact wpAny_pure (hQ _ s.toks fun c o hc e=>kp c o (fun q=>hc (by simp[q])) (fun q=>hc (by simp[q])) (fun q=>hc (by simp[q])) (fun q=>hc (by simp[q])) e)
 self:=fun k s Q E st hQ=>wpAny_pyIter_zip st.1.1 hQ
end
section
variable{X:Cx}
def Mt(K:PySem.W.Frag)(tl:TA):TI:=fun σ H R=>tl σ H fun vs H1=> ∃a b xs ys,vs= [.ref a,.ref b]/\bn K H1 a xs/\bn K H1 b ys/\xs.length=ys.length/\R (KB xs.length (fun i=> [xs.getD i .aH,ys.getD i .aH]) fun H=>bn K H a xs/\bn K H b ys) H1
theorem GN{l l':Expr}{tl:TA}{elts:List Expr}{kt:Nat}{pt p pos:Pos}(hg:Gl X "zip")(hm:X.mg "zip"=none)(hl:PA X [l,l'] tl)(hs:starEach [l,l'] X.env= [(false,eval l X.env),(false,eval l' X.env)]:=by rfl)(hs2:starEach [l'] X.env= [(false,eval l' X.env)]:=by rfl):
  PI X (.Tuple elts kt pt) (.Call (.Name "zip" p) [l,l'] [] pos) (Mt X.K tl):=by
 intro pins s σ H R I h
 refine Call_ (gn I hg hm boot_zip (PyProof.Rows.callWith_type1 (aL (hl pos pins s σ H _ I h) fun us s1 ⟨vs,H1,I1,r1,q1⟩=> ?_) (by rw[hs,hs2]) (by rw[hs2];rfl)))
 obtain⟨a,b,xs,ys,rfl,hq1,hq2,hlen,q⟩:=q1
 obtain⟨u,v,rfl,ru,rv⟩:=vals2 r1
 cases ru
 cases rv
 obtain⟨its,w1,t1,z1⟩:=I1.tuple hq1
 obtain⟨Rn,w2,t2,z2⟩:=I1.tuple hq2
 have t1':s1.heap.IsTuple a its.toArray:=t1
 have O4:s1.heap.IsTuple b Rn.toArray:=t2
 refine xm t1' O4 fun h' y1 y2 y3 y4 y5 kp=> ?_
 have I2:Inv X pins σ H1 {s1 with heap:=h'}:=I1.kept (t':=s1.toks) kp
 have MF:a<s1.heap.objs.size:=by obtain⟨o,e,_⟩:=t1';exact Heap.lt_size e
 have MG:b<s1.heap.objs.size:=by obtain⟨o,e,_⟩:=O4;exact Heap.lt_size e
 generalize hN:s1.heap.objs.size=N at y1 y2 y3 y4 y5 MF MG⊢
 have MF: @LT.lt Nat _ a N:=MF
 have MG: @LT.lt Nat _ b N:=MG
 have D:oQ (N+4) (N+2) (N+3) N (N+1) a b:=by
  constructor<;>(show(_:Nat)≠_;omega)
 refine wpAny_pyIter_zip y1 ?_
 refine⟨N+4,[N+4,N+2,N+3,N,N+1],fun k h=>IsZip h (N+4) (N+2) (N+3) .none/\IsPair h (N+2) (.ref N) (.ref (N+1))/\(∃u v,IsPair h (N+3) u v)/\h.IsTupleIter N a k/\h.IsTupleIter (N+1) b k,_,H1,rfl,I2,?_,⟨y1,y2,⟨_,_,y3⟩,y4,y5⟩,fun c hc=> ?_,q⟩
 ·refine iJ (KI:= [N+4,N+2,N+3,N,N+1,a,b]) (wr:= [N+4,N+3,N,N+1]) (δ:=Array Value×Array Value) (Ok:=fun d=>Vals xs d.1.toList/\Vals ys d.2.toList) (Src:=fun d h=>h.IsTuple a d.1/\h.IsTuple b d.2)
   (Pt:=fun d k vals=> ∃x y,d.1[k]? =some x/\d.2[k]? =some y/\vals= #[x,y])
   (Mid:=fun d k T h=>IsZip h (N+4) (N+2) (N+3) (rawInt T)/\IsPair h (N+2) (.ref N) (.ref (N+1))/\(∃u v,IsPair h (N+3) u v)/\h.IsTupleIter N a (k+1)/\h.IsTupleIter (N+1) b (k+1)/\h.IsTuple a d.1/\h.IsTuple b d.2/\T≠N+4/\T≠N+3/\T≠N/\T≠N+1)
   (fun A d hA hok=> ?_) (fun Y pins σ H s hK J hG=> ?_) (fun d k us hok hp=> ?_) (fun i=>by show 2<=sizeLine;decide) (by simp) (fun k h h' st kk=> ?_) (fun k h st c hc=> ?_) (fun A k s Q E st hq=>wpAny_pyIter_zip st.1 hq) (fun c hc=> ?_)
  ·have e1:d.1.size=xs.length:=by have:=hok.1.length;simp at this;exact this.symm
   have e2:d.2.size=ys.length:=by have:=hok.2.length;simp at this;exact this.symm
   have WT:=zb (prog:=X.prog) (w:=X.w) hA (N+4) (N+2) (N+3) N (N+1) a b D d.1 d.2 (by omega)
   rw[e1]at WT
   exact WT
  ·rw[<-hK]at hG
   obtain⟨i1,v1,u1,_⟩:=J.tuple hG.1
   obtain⟨i2,v2,u2,_⟩:=J.tuple hG.2
   exact⟨(i1.toArray,i2.toArray),⟨by simpa using v1,by simpa using v2⟩,u1,u2⟩
  ·obtain⟨x,y,ex,ey,rfl⟩:=hp
   have ex':d.1.toList[k]? =some x:=by simpa using ex
   have Qa:d.2.toList[k]? =some y:=by simpa using ey
   have hi:k<d.1.toList.length:=(List.getElem?_eq_some_iff.mp ex').1
   have hl1:=hok.1.length
   have hl2:=hok.2.length
   have hx:xs[k]? =some (xs.getD k .aH):=by
    have:k<xs.length:=by omega
    simp[this]
   have hy:ys[k]? =some (ys.getD k .aH):=by
    have:k<ys.length:=by omega
    simp[this]
   obtain⟨u1,g1,R9⟩:=hok.1.get hx
   obtain⟨u2,g2,Kd⟩:=hok.2.get hy
   rw[ex']at g1
   rw[Qa]at g2
   cases g1
   cases g2
   exact .cons R9 (.cons Kd .nil)
  ·obtain⟨x1,x2,⟨u,v,x3⟩,x4,x5⟩:=st
   exact⟨kk _ (by simp) _ x1,kk _ (by simp) _ x2,⟨u,v,kk _ (by simp) _ x3⟩,x4.at fun o e=>kk _ (by simp) o e,x5.at fun o e=>kk _ (by simp) o e⟩
  ·obtain⟨x1,x2,⟨u,v,x3⟩,⟨o4,x4,_,d4⟩,⟨o5,x5,_,d5⟩⟩:=st
   simp only[List.mem_cons,List.not_mem_nil,or_false]at hc
   rcases hc with rfl|rfl|rfl|rfl|rfl
   ·exact⟨_,x1,fun v z=>by cases z⟩
   ·exact⟨_,x2,fun v z=>by cases z⟩
   ·exact⟨_,x3,fun v z=>by cases z⟩
   ·exact⟨o4,x4,fun v z=>by rw[d4]at z;cases z⟩
   ·exact⟨o5,x5,fun v z=>by rw[d5]at z;cases z⟩
  ·simp only[List.mem_cons,List.not_mem_nil,or_false]at hc⊢
   rcases hc with q|q|q|q<;>simp[q]
 ·have hle:s1.heap.objs.size<=c:=by
   rw[hN]
   simp only[List.mem_cons,List.not_mem_nil,or_false]at hc
   rcases hc with rfl|rfl|rfl|rfl|rfl
   ·exact Nat.le_add_right _ _
   ·exact Nat.le_add_right _ _
   ·exact Nat.le_add_right _ _
   ·exact Nat.le_refl _
   ·exact Nat.le_add_right _ _
  exact I1.lB hle (I1.hok.fresh hle)
end
end L2
namespace L2
open PySem PySem.Spec PyProof.Rows
section
variable{X:Cx}{pins:List (Addr×Obj)}{σ:St}{H:Hp}{s s':Shared}{E:XK}{e:Value}
end
section
variable{X:Cx}{T:List Str}{scope:Scope}{elt iter tg:Expr}{ifs:List Expr}{pos:Pos}{wi:TI}{g:TG}{tt:TT}{te:TE}{E:XK}
end
end L2
namespace L2
open PySem PySem.Spec PyProof.Rows
section
variable{X:Cx}{pins:List (Addr×Obj)}{σ:St}{H:Hp}{s:Shared}
end
section
variable{X:Cx}{k:Nat}{f CT:Addr}{fd:FuncData}{ps:List Str}{sp:Sp}{kr:List V}{ds:List Value}{fx x y z n:Str}{e:Expr}{es:List Expr}{t:TA}{i j:Nat}{p cpos pos apos xp hp tp np S0 yp:Pos}
end
end L2
namespace L2
open PySem PySem.Spec PyProof.Rows K2
mutual
def Rep(H:Hp):PV->V->Prop
 | .at .aH,v=>v= .aH
 | .at (.int i),v=>v= .int i
 | .at (.str x),v=>v= .str (S x)/\x.length<=1000000
 | .tup ps,v=> ∃a vs,v= .ref a/\H a=some (.tup vs)/\aq H ps vs
def aq(H:Hp):List PV->List V->Prop
 | [],vs=>vs= []
 |p::ps,vs=> ∃v r,vs=v::r/\Rep H p v/\aq H ps r
end
def bV(H H':Hp):Prop:= ∀b xs,H b=some (.tup xs)->H' b=some (.tup xs)
mutual
theorem Rep.mono{H H':Hp}(h:bV H H'): ∀ (p:PV) (v:V),Rep H p v->Rep H' p v
 | .at .aH,v,r=>r
 | .at (.int i),v,r=>r
 | .at (.str x),v,r=>r
 | .tup ps,v,r=>by
  simp only[Rep]at r⊢
  obtain⟨a,vs,e,h1,h2⟩:=r
  exact⟨a,vs,e,h a vs h1,aq.mono h ps vs h2⟩
theorem aq.mono{H H':Hp}(h:bV H H'): ∀ (ps:List PV) (vs:List V),aq H ps vs->aq H' ps vs
 | [],vs,r=>r
 |p::ps,vs,r=>by
  simp only[aq]at r⊢
  obtain⟨v,t,e,h1,h2⟩:=r
  exact⟨v,t,e,Rep.mono h p v h1,aq.mono h ps t h2⟩
end
theorem aq.len{H:Hp}: ∀ {ps:List PV} {vs:List V},aq H ps vs->ps.length=vs.length
 | [],vs,r=>by simp only[aq]at r;subst r;rfl
 |p::ps,vs,r=>by
  simp only[aq]at r
  obtain⟨v,t,rfl,_,h2⟩:=r
  simp[aq.len h2]
theorem aq.get{H:Hp}: ∀ {ps:List PV} {vs:List V} {i:Nat} {v:V},aq H ps vs->vs[i]? =some v-> ∃p,ps[i]? =some p/\Rep H p v
 | [],vs,i,v,r,e=>by simp only[aq]at r;subst r;simp at e
 |p::ps,vs,i,v,r,e=>by
  simp only[aq]at r
  obtain⟨w,t,rfl,h1,h2⟩:=r
  cases i with
  |zero=>simp at e;subst e;exact⟨p,rfl,h1⟩
  |succ i=>simp at e⊢;exact aq.get h2 e
theorem aq.get'{H:Hp}{ps:List PV}{vs:List V}{i:Nat}{p:PV}(r:aq H ps vs)(e:ps[i]? =some p): ∃v,vs[i]? =some v/\Rep H p v:=by
 have h1:i<vs.length:=by rw[<-r.len];exact(List.getElem?_eq_some_iff.mp e).1
 obtain⟨q,h2,h3⟩:=r.get (List.getElem?_eq_getElem h1)
 rw[e]at h2;cases h2
 exact⟨_,List.getElem?_eq_getElem h1,h3⟩
theorem aq.append{H:Hp}: ∀ {ps qs:List PV} {vs ws:List V},aq H ps vs->aq H qs ws->aq H (ps++qs) (vs++ws)
 | [],_,vs,_,r,s=>by simp only[aq]at r;subst r;exact s
 |p::ps,qs,vs,ws,r,s=>by
  simp only[aq]at r
  obtain⟨v,t,rfl,h1,h2⟩:=r
  simp only[List.cons_append,aq]
  exact⟨v,t++ws,rfl,h1,aq.append h2 s⟩
theorem aq.one{H:Hp}{p:PV}{v:V}(h:Rep H p v):aq H [p] [v]:=by simp only[aq];exact⟨v,[],rfl,h,rfl⟩
theorem aq.nil{H:Hp}:aq H [] []:=by simp only[aq]
theorem aq.cons{H:Hp}{p:PV}{ps:List PV}{v:V}{vs:List V}(h:Rep H p v)(t:aq H ps vs):aq H (p::ps) (v::vs):=by simp only[aq];exact⟨v,vs,rfl,h,t⟩
theorem aq.drop{H:Hp}: ∀ (n:Nat) {ps:List PV} {vs:List V},aq H ps vs->aq H (ps.drop n) (vs.drop n)
 |0,_,_,r=>r
 |n+1,[],vs,r=>by simp only[aq]at r;subst r;exact aq.nil
 |n+1,p::ps,vs,r=>by
  simp only[aq]at r
  obtain⟨v,t,rfl,h1,h2⟩:=r
  exact aq.drop n h2
theorem aq.take{H:Hp}: ∀ (n:Nat) {ps:List PV} {vs:List V},aq H ps vs->aq H (ps.take n) (vs.take n)
 |0,_,_,r=>aq.nil
 |n+1,[],vs,r=>by simp only[aq]at r;subst r;exact aq.nil
 |n+1,p::ps,vs,r=>by
  simp only[aq]at r
  obtain⟨v,t,rfl,h1,h2⟩:=r
  exact aq.cons h1 (aq.take n h2)
theorem aw.tups{H H':Hp}(h:aw H H'):bV H H':=fun b xs e=>h b _ e
theorem bV.refl(H:Hp):bV H H:=fun _ _ e=>e
theorem bV.trans{H H1 H2:Hp}(a:bV H H1)(b:bV H1 H2):bV H H2:=fun c xs e=>b c xs (a c xs e)
theorem ah{H:Hp}{p:Addr}(h:H p=none)(o:HO):aw H (upd H p o):=fun b u q=>by rw[ak (ay q h)];exact q
theorem aw.rep{H H':Hp}(h:aw H H'){p:PV}{v:V}(r:Rep H p v):Rep H' p v:=Rep.mono h.tups p v r
theorem aw.reps{H H':Hp}(h:aw H H'){p:List PV}{v:List V}(r:aq H p v):aq H' p v:=aq.mono h.tups p v r
theorem aw.Lc{K:PySem.W.Frag}{H H':Hp}(h:aw H H'){a:Addr}{xs:List V}(r:bn K H a xs):bn K H' a xs:=by
 rcases r with(r|⟨o,r⟩)|r
 ·exact .inl (.inl (h _ _ r))
 ·exact .inl (.inr ⟨o,h _ _ r⟩)
 ·exact .inr r
theorem Rep.tup{H:Hp}{ps:List PV}{v:V}(r:Rep H (.tup ps) v): ∃a vs,v= .ref a/\H a=some (.tup vs)/\aq H ps vs:=by simpa only[Rep]using r
theorem Rep.mk{H:Hp}{ps:List PV}{a:Addr}{vs:List V}(h:H a=some (.tup vs))(r:aq H ps vs):Rep H (.tup ps) (.ref a):=by simp only[Rep];exact⟨a,vs,rfl,h,r⟩
theorem Rep.ty{K:PySem.W.Frag}{H:Hp}: ∀ {p:PV} {v:V},Rep H p v-> ∃t,ie K H v (.type t)/\((∃xs,p= .tup xs/\t= "tuple")\/(∃i,p= .at (.int i)/\t= "int")\/(∃x,p= .at (.str x)/\t= "str")\/(p= .at .aH/\t= "NoneType"))
 | .at .aH,v,r=>by simp only[Rep]at r;subst r;exact⟨_,.aH,.inr (.inr (.inr ⟨rfl,rfl⟩))⟩
 | .at (.int i),v,r=>by simp only[Rep]at r;subst r;exact⟨_,.int i,.inr (.inl ⟨i,rfl,rfl⟩)⟩
 | .at (.str x),v,r=>by simp only[Rep]at r;obtain⟨r,_⟩:=r;subst r;exact⟨_,.str _,.inr (.inr (.inl ⟨x,rfl,rfl⟩))⟩
 | .tup ps,v,r=>by obtain⟨a,vs,rfl,h,_⟩:=r.tup;exact⟨_,.tup h,.inl ⟨ps,rfl,rfl⟩⟩
structure f9(P:Program)(w:World)(K:PySem.W.Frag)(mg:Str->Option Value)(base:Heap)(CX:tj)(k:Nat)(x:Str)(ps:List Str)(sp:Sp):Prop where
 ex: ∃f fd,aI P w K mg base CX k f fd ps sp/\Binds K fd ps []/\mg x=some (.ref f)/\PySem.W.keepIn K (.ref f)=true
theorem aF{X:Cx}{CX:tj}{k j:Nat}{x:Str}{ps:List Str}{sp:Sp}{E:XK}{p pos:Pos}{e:Expr}{es:List Expr}{t:TA}(h:f9 X.prog X.w X.K X.mg X.base CX k x ps sp)(hr:cU j X.A)(hg:Gl X x)(hx:Passes CX X E)(ha:PA X (e::es) t)(hkj:k<=j:=by first|decide|omega)
  (hdb:(x==("__debug__":Str))=false:=by decide)(he:starEach (e::es) X.env=(false,eval e X.env)::starEach es X.env:=by rfl)(hpl:(backTo pos (starEach es X.env)).any (·.1)=false:=by rfl):
  PE X (.Call (.Name x p) (e::es) [] pos) (wX sp [] E t):=by
 obtain⟨f,fd,F,B,m,kp⟩:=h.ex
 exact ww F (hr.mono hkj) hg m kp B .nil hx ha hdb he hpl
end L2
namespace L2
open PySem PySem.Spec PyProof.Rows K2
mutual
def dp:PV->Nat
 | .at _=>0
 | .tup ps=>kq ps+1
def kq:List PV->Nat
 | []=>0
 |p::ps=>max (dp p) (kq ps)
end
section
variable{X:Cx}{pins:List (Addr×Obj)}{σ:St}{H:Hp}{s:Shared}
theorem in1_units{A:Around}:A.in1.units=A.units+1:=rfl
mutual
theorem IL(I:Inv X pins σ H s): ∀ (p:PV) (x y:V) (u w:Value) (A:Around),A.units+dp p<cLine->Rep H p x->Rep H p y->RelV x u->RelV y w->SeqAt.EqAt A s u w true
 | .at .aH,x,y,u,w,A,_,rx,ry,hu,hw=>by
  simp only[Rep]at rx ry;subst rx ry
  exact lq hu hw rfl rfl
 | .at (.int i),x,y,u,w,A,_,rx,ry,hu,hw=>by
  simp only[Rep]at rx ry;subst rx ry
  have:=lq (A:=A) (s:=s) hu hw rfl rfl
  simpa [xy]using this
 | .at (.str z),x,y,u,w,A,_,rx,ry,hu,hw=>by
  simp only[Rep]at rx ry;obtain⟨rx,_⟩:=rx;obtain⟨ry,_⟩:=ry;subst rx ry
  have:=lq (A:=A) (s:=s) hu hw rfl rfl
  simpa [xy]using this
 | .tup ps,x,y,u,w,A,hA,rx,ry,hu,hw=>by
  obtain⟨a,vs,rfl,ha,ra⟩:=rx.tup
  obtain⟨b,ws,rfl,hb,rb⟩:=ry.tup
  cases hu;cases hw
  by_cases e:a=b
  ·subst e;exact SeqAt.EqAt.same _
  ·obtain⟨i1,r1,t1,_⟩:=I.tuple (bn.of (K:=X.K) ha)
   obtain⟨i2,r2,t2,_⟩:=I.tuple (bn.of (K:=X.K) hb)
   have l1:=r1.length
   have l2:=r2.length
   have l3:=ra.len
   have l4:=rb.len
   simp only[dp]at hA
   have:=SeqAt.RcAt.tuples (A:=A) (s:=s) (e:=fun _=>true) t1 t2 (by omega) fun j h1 h2=>by
    simp only[List.size_toArray]at h1 h2
    exact tT I ps vs ws i1 i2 A.in1 (by rw[in1_units];omega) ra rb r1 r2 j _ _ (by simp[List.getElem?_eq_getElem h1]) (by simp[List.getElem?_eq_getElem h2])
   refine SeqAt.EqAt.of_refs e ?_
   have e2:((List.range (min i1.toArray.size i2.toArray.size)).all (fun _=>true) &&i1.toArray.size==i2.toArray.size)=true:=by
    simp only[List.size_toArray,Bool.and_eq_true,List.all_eq_true,beq_iff_eq]
    exact⟨fun _ _=>by trivial,by omega⟩
   rw[e2]at this
   exact this
theorem tT(I:Inv X pins σ H s): ∀ (ps:List PV) (xs ys:List V) (us ws:List Value) (A:Around),A.units+kq ps<cLine->aq H ps xs->aq H ps ys->Vals xs us->Vals ys ws-> ∀ (j:Nat) (u w:Value),us[j]? =some u->ws[j]? =some w->SeqAt.EqAt A s u w true
 | [],xs,ys,us,ws,A,_,rx,ry,hu,hw,j,u,w,e1,e2=>by
  simp only[aq]at rx;subst rx
  cases hu;simp at e1
 |p::ps,xs,ys,us,ws,A,hA,rx,ry,hu,hw,j,u,w,e1,e2=>by
  simp only[aq]at rx ry
  obtain⟨x,xr,rfl,Nf,Ng⟩:=rx
  obtain⟨y,yr,rfl,Nh,E6⟩:=ry
  cases hu with
  |cons hu1 Jv=>
  cases hw with
  |cons hw1 Jw=>
  simp only[kq]at hA
  cases j with
  |zero=>simp at e1 e2;subst e1 e2;exact IL I p x y _ _ A (by omega) Nf Nh hu1 hw1
  |succ j=>simp at e1 e2;exact tT I ps xr yr _ _ A (by omega) Ng E6 Jv Jw j u w e1 e2
end
end
end L2
namespace L2
open PySem PySem.Spec PyProof.Rows K2
section
variable{X:Cx}
end
end L2
namespace L2
open PySem PySem.Spec PyProof.Rows
section
variable{X:Cx}
end
end L2
namespace L2
open PySem PySem.Spec PyProof.Rows
section
variable{κ:Type} [DecidableEq κ]
def fX(kvs:List (κ×V))(k:κ):Option V:=(kvs.find? fun kv=>decide (kv.1=k)).map (·.2)
def putK(kvs:List (κ×V))(k:κ)(v:V):List (κ×V):=
 if(kvs.any fun kv=>decide (kv.1=k))=true then kvs.map (fun kv=>if kv.1=k then(kv.1,v)else kv)else kvs++ [(k,v)]
theorem gF{p:κ×V}{r:List (κ×V)}{k:κ}(e:p.1=k):fX (p::r) k=some p.2:=by simp[fX,List.find?_cons,e]
theorem gE{p:κ×V}{r:List (κ×V)}{k:κ}(e: ¬p.1=k):fX (p::r) k=fX r k:=by simp[fX,List.find?_cons,e]
theorem mK(k:κ): ∀kvs:List (κ×V),(kvs.any fun kv=>decide (kv.1=k))=(fX kvs k).isSome
 | []=>rfl
 |p::r=>by
  rw[List.any_cons]
  by_cases e:p.1=k
  ·simp only[gF e,decide_eq_true e,Bool.true_or,Option.isSome_some]
  ·rw[gE e,decide_eq_false e,Bool.false_or];exact mK k r
theorem dw(kvs:List (κ×V))(k:κ)(v:V):(putK kvs k v).length<=kvs.length+1:=by
 unfold putK
 split
 ·rw[List.length_map];omega
 ·rw[List.length_append,List.length_cons,List.length_nil];omega
theorem Bm{kvs:List (κ×V)}{k:κ}(v:V)(h:fX kvs k=none):putK kvs k v=kvs++ [(k,v)]:=by
 unfold putK
 rw[mK,h]
 exact if_neg (by decide)
theorem fb.fq{o:Option V}{u:Option Value}(r:fb o u):o.isSome=u.isSome:=by
 cases o with
 |none=>cases u with
  |none=>rfl
  |some _=>exact(show False from r).elim
 |some _=>cases u with
  |none=>exact(show False from r).elim
  |some _=>rfl
theorem fb.getD{o:Option V}{u:Option Value}{d:V}{d':Value}(r:fb o u)(rd:RelV d d'):RelV (o.getD d) (u.getD d'):=by
 cases o with
 |none=>cases u with
  |none=>exact rd
  |some _=>exact(show False from r).elim
 |some _=>cases u with
  |none=>exact(show False from r).elim
  |some _=>exact r
theorem KV.val{kvs:List (κ×V)}{vs:List (κ×Value)}(r:KV kvs vs)(k:κ):fb (fX kvs k) (valueAt vs k):=by
 unfold KV at r
 induction r with
 |nil=>exact True.intro
 | @cons p q ps qs h t ih=>
  obtain⟨h1,h2⟩:=h
  by_cases e:p.1=k
  ·have e':q.1=k:=h1.symm.trans e
   have b:valueAt (q::qs) k=some q.2:=by simp[valueAt,List.find?_cons,e']
   rw[gF e,b];exact h2
  ·have e': ¬q.1=k:=fun z=>e (h1.trans z)
   have b:valueAt (q::qs) k=valueAt qs k:=by simp[valueAt,List.find?_cons,e']
   rw[gE e,b];exact ih
theorem KV.any{kvs:List (κ×V)}{vs:List (κ×Value)}(r:KV kvs vs)(k:κ):(kvs.any fun kv=>decide (kv.1=k))=vs.any fun kv=>decide (kv.1=k):=by
 unfold KV at r
 induction r with
 |nil=>rfl
 |cons h t ih=>rw[List.any_cons,List.any_cons,ih,h.1]
theorem KV.repl{kvs:List (κ×V)}{vs:List (κ×Value)}(r:KV kvs vs)(k:κ){y:V}{u:Value}(ry:RelV y u):
  KV (kvs.map fun kv=>if kv.1=k then(kv.1,y)else kv) (vs.map fun kv=>if kv.1=k then(kv.1,u)else kv):=by
 unfold KV at r⊢
 induction r with
 |nil=>exact .nil
 | @cons p q ps qs h t ih=>
  rw[List.map_cons,List.map_cons]
  refine .cons ?_ ih
  obtain⟨h1,h2⟩:=h
  by_cases e:p.1=k
  ·rw[if_pos e,if_pos (h1.symm.trans e)];exact⟨h1,ry⟩
  ·rw[if_neg e,if_neg (fun z=>e (h1.trans z))];exact⟨h1,h2⟩
theorem KV.put{kvs:List (κ×V)}{vs:List (κ×Value)}(r:KV kvs vs)(k:κ){y:V}{u:Value}(ry:RelV y u):KV (putK kvs k y) (stored vs k u):=by
 unfold putK stored
 rw[r.any k]
 by_cases e:(vs.any fun kv=>decide (kv.1=k))=true
 ·rw[if_pos e,if_pos e];exact r.repl k ry
 ·rw[if_neg e,if_neg e];exact Paired.snoc r ⟨rfl,ry⟩
theorem KV.length{kvs:List (κ×V)}{vs:List (κ×Value)}(r:KV kvs vs):kvs.length=vs.length:=Paired.length r
end
theorem lI{P:Program}{w:World}{k:Key}{u:Value}(r:RelV (kV k) u):(aO P w).is k u=true:=by
 cases k with
 |inl i=>obtain⟨t,e⟩:=(show ∃t,u=Value.int i t from r);subst e;exact rK P w i t
 |inr x=>obtain⟨t,e⟩:=(show ∃t,u=Value.str x t from r);subst e;exact eU P w x t
theorem nK{P:Program}{w:World}: ∀ {ks:List Key} {us:List Value},Vals (ks.map kV) us->ItemsAre (aO P w) ks us
 | [],_,r=>by rw[List.map_nil]at r;cases r;exact .nil
 |k::ks,_,r=>by
  rw[List.map_cons]at r
  cases r with
  |cons h t=>exact .cons (lI h) (nK t)
abbrev KT(H:Hp):List (List Key×V)->List (List Key×Addr×Value)->Prop:=Paired fun p q=>p.1=q.1/\H q.2.1=some (.tup (p.1.map kV))/\RelV p.2 q.2.2
theorem KT.val{H:Hp}{kvs:List (List Key×V)}{xs:List (List Key×Addr×Value)}(r:KT H kvs xs)(k:List Key):fb (fX kvs k) ((atKey xs k).map (·.2)):=by
 induction r with
 |nil=>exact True.intro
 | @cons p q ps qs h t ih=>
  obtain⟨h1,_,h2⟩:=h
  by_cases e:p.1=k
  ·have e':q.1=k:=h1.symm.trans e
   have b:atKey (q::qs) k=some q.2:=by simp[atKey,List.find?_cons,e']
   rw[gF e,b];exact h2
  ·have e': ¬q.1=k:=fun z=>e (h1.trans z)
   have b:atKey (q::qs) k=atKey qs k:=by simp[atKey,List.find?_cons,e']
   rw[gE e,b];exact ih
theorem KT.repl{H:Hp}{kvs:List (List Key×V)}{xs:List (List Key×Addr×Value)}(r:KT H kvs xs)(k:List Key){y:V}{u:Value}(ry:RelV y u):
  KT H (kvs.map fun kv=>if kv.1=k then(kv.1,y)else kv) (xs.map (putAt k u)):=by
 induction r with
 |nil=>exact .nil
 | @cons p q ps qs h t ih=>
  rw[List.map_cons,List.map_cons]
  refine .cons ?_ ih
  obtain⟨h1,h2,h3⟩:=h
  unfold putAt
  by_cases e:p.1=k
  ·rw[if_pos e,if_pos (h1.symm.trans e)];exact⟨h1,h2,ry⟩
  ·rw[if_neg e,if_neg (fun z=>e (h1.trans z))];exact⟨h1,h2,h3⟩
theorem KT.put{H:Hp}{kvs:List (List Key×V)}{xs:List (List Key×Addr×Value)}(r:KT H kvs xs)(k:List Key){b:Addr}{y:V}{u:Value}(hb:H b=some (.tup (k.map kV)))(ry:RelV y u):
  KT H (putK kvs k y) (storedH xs k b u):=by
 have e:(kvs.any fun kv=>decide (kv.1=k))=(atKey xs k).isSome:=by
  rw[mK,(r.val k).fq,Option.isSome_map]
 unfold putK storedH
 rw[e]
 by_cases q:(atKey xs k).isSome=true
 ·rw[if_pos q,if_pos q];exact r.repl k ry
 ·rw[if_neg q,if_neg q];exact Paired.snoc r ⟨rfl,hb,ry⟩
theorem KT.keeps{H H':Hp}{kvs:List (List Key×V)}{xs:List (List Key×Addr×Value)}(r:KT H kvs xs)(ht: ∀b ys,H b=some (.tup ys)->H' b=some (.tup ys)):KT H' kvs xs:=
 Paired.Dm r fun _ _ z=>⟨z.1,ht _ _ z.2.1,z.2.2⟩
section
variable{P:Program}{w:World}{H:Hp}{h:Heap}{a:Addr}
theorem E4{u:HO}(ok:fH P w H h)(e:Rd H a u):bw P w H h a u:=e.ok ok
theorem k9{kvs:List (Key×V)}(ok:fH P w H h)(e:Rd H a (.dK kvs)):kvs.length<=sizeLine/\(a==sysModules)=false/\ ∃vs,KV kvs vs/\h.DictOf (aO P w) a vs:=
 show bw P w H h a (.dK kvs)from E4 ok e
theorem EE{kvs:List (Key×V)}(ok:fH P w H h)(e:H a=some (.dK kvs)):kvs.length<=sizeLine/\(a==sysModules)=false/\ ∃vs,KV kvs vs/\h.DictOf (aO P w) a vs:=k9 ok (.inl e)
theorem im{ks:List Key}(ok:fH P w H h)(e:H a=some (.tup (ks.map kV))):(tupleKind (aO P w)).is h ks a:=by
 obtain⟨_,its,r,o,h1,h2,n,h3⟩:=(show bw P w H h a (.tup (ks.map kV))from ok a _ e)
 exact⟨o,its.toArray,n,h1,h2,h3,by simpa using nK r⟩
theorem lm{kvs:List (List Key×V)}(ok:fH P w H h)(e:Rd H a (.dT kvs)):kvs.length<=sizeLine/\(a==sysModules)=false/\
  ∃xs,KT H kvs xs/\h.DictOfH (tupleKind (aO P w)) a xs:=by
 obtain⟨z,y,xs,r,o,es,ep,h1,h2,h3,h4,h5⟩:=(show bw P w H h a (.dT kvs)from E4 ok e)
 refine⟨z,y,xs,r,o,es,ep,h1,h2,h3,h4,fun x hx=> ?_,h5⟩
 have all: ∀ {l:List (List Key×V)} {m:List (List Key×Addr×Value)},KT H l m-> ∀x∈m,(tupleKind (aO P w)).is h x.1 x.2.1:=by
  intro l m q
  induction q with
  |nil=>intro x hx;exact nomatch hx
  | @cons p q ps qs hq t ih=>
   intro x hx
   rcases List.mem_cons.mp hx with e|hx
   ·subst e
    exact im ok (by rw[<-hq.1];exact hq.2.1)
   ·exact ih x hx
 exact all r x hx
theorem EF{kvs:List (List Key×V)}(ok:fH P w H h)(e:H a=some (.dT kvs)):kvs.length<=sizeLine/\(a==sysModules)=false/\
  ∃xs,KT H kvs xs/\h.DictOfH (tupleKind (aO P w)) a xs:=lm ok (.inl e)
end
def iM(H:Hp)(a:Addr)(y:V)(r:Option V):Prop:=
 (∃kvs k,Rd H a (.dK kvs)/\y=kV k/\r=fX kvs k)\/ ∃kvs k b,Rd H a (.dT kvs)/\y= .ref b/\H b=some (.tup (k.map kV))/\r=fX kvs k
def ib(H:Hp)(a:Addr)(y v:V)(H':Hp):Prop:=
 (∃kvs k,H a=some (.dK kvs)/\y=kV k/\kvs.length<sizeLine/\H'=upd H a (.dK (putK kvs k v)))\/
 ∃kvs k b,H a=some (.dT kvs)/\y= .ref b/\H b=some (.tup (k.map kV))/\kvs.length<sizeLine/\H'=upd H a (.dT (putK kvs k v))
theorem iM.k{H:Hp}{a:Addr}{kvs:List (Key×V)}{k:Key}(e:H a=some (.dK kvs)):iM H a (kV k) (fX kvs k):= .inl ⟨kvs,k,.inl e,rfl,rfl⟩
theorem ib.k{H:Hp}{a:Addr}{kvs:List (Key×V)}{k:Key}{v:V}(e:H a=some (.dK kvs))(hl:kvs.length<sizeLine):ib H a (kV k) v (upd H a (.dK (putK kvs k v))):= .inl ⟨kvs,k,e,rfl,hl,rfl⟩
theorem ib.t{H:Hp}{a b:Addr}{kvs:List (List Key×V)}{k:List Key}{v:V}(e:H a=some (.dT kvs))(eb:H b=some (.tup (k.map kV)))(hl:kvs.length<sizeLine):
  ib H a (.ref b) v (upd H a (.dT (putK kvs k v))):= .inr ⟨kvs,k,b,e,rfl,eb,hl,rfl⟩
section
variable{X:Cx}{pins:List (Addr×Obj)}{σ:St}{H:Hp}{s:Shared}{a:Addr}{y v:V}{u r:Value}{o:Option V}{A:Around}{E:Value->Shared->Prop}
theorem Inv.big(I:Inv X pins σ H s):sysModules<s.heap.objs.size:=by
 have h:mainGlobals<s.heap.objs.size:=(I.mod.glob.keeps I.bk).lt
 exact Nat.lt_trans (by decide) h
theorem xt{Q:Value->Shared->Prop}(hu:A.units+1<cLine)(I:Inv X pins σ H s)(g:iM H a y (some v))(ry:RelV y u)(h: ∀w' s',Inv X pins σ H s'->RelV v w'->Q w' s'):
  wpAny (model X.prog X.w) A (getItem (.ref a) u) Q E s:=by
 rcases g with⟨kvs,k,e,ey,l⟩|⟨kvs,k,b,e,ey,eb,l⟩
 ·subst ey
  obtain⟨z,hd,vs,rel,dd⟩:=k9 I.hok e
  obtain⟨w',hw,rw'⟩:=fb.some_of (v:=v) (o:=valueAt vs k) (by rw[l];exact rel.val k)
  exact wpAny_getItem_of (lI ry) dd.mapOf hw (h w' _ (I.tok _) rw')
 ·subst ey
  cases(show u=Value.ref b from ry)
  obtain⟨z,hd,xs,rel,dd⟩:=lm I.hok e
  obtain⟨w',hw,rw'⟩:=fb.some_of (v:=v) (o:=(atKey xs k).map (·.2)) (by rw[l];exact rel.val k)
  obtain⟨p,hp,hp2⟩:=Option.map_eq_some_iff.mp hw
  refine wpAny_getItem_heap (tupleKind_room_in1 hu) (im I.hok eb) dd hp ?_
  rw[hp2]
  exact h w' _ (I.tok _) rw'
theorem LF{Q:Value->Shared->Prop}(hu:A.units+1<cLine)(I:Inv X pins σ H s)(g:iM H a y o)(ry:RelV y u)(h: ∀s',Inv X pins σ H s'->Q (.bool o.isSome) s'):
  wpAny (model X.prog X.w) A (compareOp .In u (.ref a)) Q E s:=by
 rcases g with⟨kvs,k,e,ey,l⟩|⟨kvs,k,b,e,ey,eb,l⟩
 ·subst ey
  obtain⟨z,hd,vs,rel,dd⟩:=k9 I.hok e
  refine wpAny_in_of (lI ry) hd dd.mapOf ?_
  rw[<- (rel.val k).fq,<-l]
  exact h _ (I.tok _)
 ·subst ey
  cases(show u=Value.ref b from ry)
  obtain⟨z,hd,xs,rel,dd⟩:=lm I.hok e
  refine wpAny_in_heap (tupleKind_room_in1 hu) (im I.hok eb) hd dd ?_
  have q:=(rel.val k).fq
  rw[Option.isSome_map]at q
  rw[<-q,<-l]
  exact h _ (I.tok _)
theorem CG{Q:Value->Shared->Prop}(hu:A.units+1<cLine)(I:Inv X pins σ H s)(g:iM H a y o)(ry:RelV y u)(h: ∀s',Inv X pins σ H s'->Q (.bool (!o.isSome)) s'):
  wpAny (model X.prog X.w) A (compareOp .NotIn u (.ref a)) Q E s:=by
 rcases g with⟨kvs,k,e,ey,l⟩|⟨kvs,k,b,e,ey,eb,l⟩
 ·subst ey
  obtain⟨z,hd,vs,rel,dd⟩:=k9 I.hok e
  refine wpAny_notIn_of (lI ry) hd dd.mapOf ?_
  rw[<- (rel.val k).fq,<-l]
  exact h _ (I.tok _)
 ·subst ey
  cases(show u=Value.ref b from ry)
  obtain⟨z,hd,xs,rel,dd⟩:=lm I.hok e
  refine wpAny_notIn_heap (tupleKind_room_in1 hu) (im I.hok eb) hd dd ?_
  have q:=(rel.val k).fq
  rw[Option.isSome_map]at q
  rw[<-q,<-l]
  exact h _ (I.tok _)
theorem gI{h':Heap}{t':Nat}{ob:HO}(I:Inv X pins σ H s)(mu:Ix (H a))(hs:Heap.SameBut a s.heap h')(he: ∃q,h'.get? a=some q)(new:bw X.prog X.w (upd H a ob) h' a ob):
  Inv X pins σ (upd H a ob) {s with heap:=h',toks:=t'}:=
 I.write (x:=a) (e:=a) mu (.inl rfl) (fun b q hb z=>(hs.2 b hb).trans z) he new
theorem zJ{P:Program}{w:World}{H':Hp}{h':Heap}{kvs:List (Key×V)}{vs:List (Key×Value)}(z:kvs.length<=sizeLine)(hd:(a==sysModules)=false)(rel:KV kvs vs)(dd:h'.DictOf (aO P w) a vs):
  bw P w H' h' a (.dK kvs):=⟨z,hd,vs,rel,dd⟩
theorem xu{H':Hp}{Q:Unit->Shared->Prop}(hu:A.units+1<cLine)(I:Inv X pins σ H s)(g:ib H a y v H')(ry:RelV y u)(rv:RelV v r)(h: ∀s',Inv X pins σ H' s'->Q () s'):
  wpAny (model X.prog X.w) A (setItem (.ref a) u r) Q E s:=by
 rcases g with⟨kvs,k,e,ey,l,eH⟩|⟨kvs,k,b,e,ey,eb,l,eH⟩
 ·subst ey eH
  obtain⟨z,hd,vs,rel,dd⟩:=EE I.hok e
  have hz:vs.length<=sizeLine:=by rw[<-rel.length];exact z
  have hl:(putK kvs k v).length<=sizeLine:=by have:=dw kvs k v;omega
  refine wpAny_setItem_pairs (hsz:=hz) (lI ry) dd fun h' CH hs=>h _ ?_
  have he: ∃q,h'.get? a=some q:=let⟨q,_,_,hq,_⟩:=CH;⟨q,hq⟩
  exact gI I (by rw[e];exact True.intro) hs he (zJ hl hd (rel.put k rv) CH)
 ·subst ey eH
  cases(show u=Value.ref b from ry)
  obtain⟨z,hd,xs,rel,dd⟩:=EF I.hok e
  have hz:xs.length<=sizeLine:=by rw[<-Paired.length rel];exact z
  have hl:(putK kvs k v).length<=sizeLine:=by have:=dw kvs k v;omega
  refine wpAny_setItem_heap (hsz:=hz) (tupleKind_room_in1 hu) (im I.hok eb) dd fun h' CH hs=>h _ ?_
  obtain⟨q,es,ep,hq,h2,h3,h4,_,h5⟩:=CH
  refine gI I (by rw[e];exact True.intro) hs ⟨q,hq⟩ ⟨hl,hd,_,(rel.put k eb rv).keeps fun c ys ec=> ?_,q,es,ep,hq,h2,h3,h4,h5⟩
  rw[ak (nR ec e (fun z=>nomatch z))]
  exact ec
end
section
variable{X:Cx}{pins:List (Addr×Obj)}{σ:St}{H:Hp}{s:Shared}{a:Addr}{kvs:List (Key×V)}{k:Key}{u:Value}{A:Around}{E:Value->Shared->Prop}
end
def Iz(i:Expr):Prop:= ∀ov iv,subscripted i false ov iv=operate [ov,iv] (getItem ov iv)
theorem Eh{prog:Program}{w:World}{A:Around}{E:Value->Shared->Prop}{s:Shared}{env:Env}{value slice:Expr}{pos:Pos}{T id:String}{Q:Value->Shared->Prop}
  (hl:typeLookup (.type T) "__getitem__"=pure (some (.builtin id)))(hs:Iz slice)
  (h:wpAny (model prog w) A (eval value env) (fun o s₁=>wpAny (model prog w) A (eval slice env) (fun i s₂=>s₂.TypeIs o T/\wpAny (model prog w) A (getItem o i) Q E s₂) E s₁) E s):
  wpAny (model prog w) A (eval (.Subscript value slice pos) env) Q E s:=by
 refine Subscript_ (wpAny_mono h (fun o s₁ h₁=>wpAny_mono h₁ (fun i s₂ h₂=> ?_) fun _ _ x=>x) fun _ _ x=>x)
 obtain⟨hT,h₂⟩:=h₂
 unfold subscriptTail
 refine wpAny_bind ?_
 rw[getitemInPython_of_ne hT.not_modules]
 refine wpAny_bind (wpAny_specialOf hT hl ?_)
 have fin:wpAny (model prog w) A (subscripted slice false o i) (fun r s₃=>wpAny (model prog w) A (letTemporaryGo value o r>>=fun _=>pure r) Q E s₃) E s₂:=by
  rw[hs o i]
  exact wpAny_operating (wpAny_mono h₂ (fun r s₃ h₃=>wpAny_bind (wpAny_letTemporaryGo (wpAny_pure h₃))) fun _ _ x=>x)
 first
  |exact wpAny_pure (wpAny_bind fin)
  |exact wpAny_bind (wpAny_pure (wpAny_bind fin))
  |exact wpAny_bind fin
theorem qT{X:Cx}{pins:List (Addr×Obj)}{σ:St}{H:Hp}{s:Shared}{a:Addr}{y:V}{o:Option V}(I:Inv X pins σ H s)(g:iM H a y o):s.TypeIs (.ref a) "dict":=by
 rcases g with⟨kvs,k,e,_,_⟩|⟨kvs,k,b,e,_,_,_⟩
 ·obtain⟨_,_,vs,_,dd⟩:=k9 I.hok e
  exact dd.typeIs
 ·obtain⟨_,_,xs,_,dd⟩:=lm I.hok e
  exact dd.typeIs
inductive JY(x:V)(Q:VK)(y:V)(H2:Hp):Prop
 |mk (a v:_) (_:x= .ref a) (_:iM H2 a y (some v)) (_:Q v H2)
def Ko(td ty:TE):TE:=fun σ H Q=>td σ H fun x H1=>ty σ H1 (JY x Q)
def Nq(ty td:TE):TE:=fun σ H Q=>ty σ H fun y H1=>td σ H1 fun x H2=> ∃a o,x= .ref a/\iM H2 a y o/\Q (.bl o.isSome) H2
def Ej(ty td:TE):TE:=fun σ H Q=>ty σ H fun y H1=>td σ H1 fun x H2=> ∃a o,x= .ref a/\iM H2 a y o/\Q (.bl (!o.isSome)) H2
def Kf(td ty tv:TE):TS:=fun D σ H=>tv σ H fun v H1=>td σ H1 fun x H2=>ty σ H2 fun y H3=> ∃a H4,x= .ref a/\ib H3 a y v H4/\D.nx σ H4
section
variable{X:Cx}{o i e value:Expr}{pos pos' tpos:Pos}{td ty tv:TE}
theorem kE(hu:X.A.units+1<cLine)(ho:PE X o td)(hi:PE X i ty)(hs:Iz i):PE X (.Subscript o i pos) (Ko td ty):=by
 intro pins s σ H Q I h
 refine Eh PySem.F.slot_dict_getitem.lookup hs (aL (ho pins s σ H _ I h) fun u s1 ⟨x,H1,I1,rx,q1⟩=>aL (hi pins s1 σ H1 _ I1 q1) fun iv s2 ⟨y,H2,I2,ry,a,v,ex,g,q2⟩=> ?_)
 subst ex
 obtain rfl:u=Value.ref a:=rx
 exact⟨qT I2 g,xt hu I2 g ry fun w' s3 I3 rw'=>⟨v,H2,I3,rw',q2⟩⟩
theorem GJ(hu:X.A.units+1<cLine)(hi:PE X i ty)(ho:PE X o td):PC X .In i o (Nq ty td):=by
 intro pins s σ H Q I h
 refine aL (hi pins s σ H _ I h) fun iv s1 ⟨y,H1,I1,ry,q1⟩=>aL (ho pins s1 σ H1 _ I1 q1) fun u s2 ⟨x,H2,I2,rx,a,ov,ex,g,q2⟩=> ?_
 subst ex
 obtain rfl:u=Value.ref a:=rx
 exact LF hu I2 g ry fun s3 I3=>⟨.bl ov.isSome,H2,I3,rfl,q2⟩
theorem yA(hu:X.A.units+1<cLine)(hi:PE X i ty)(ho:PE X o td):PC X .NotIn i o (Ej ty td):=by
 intro pins s σ H Q I h
 refine aL (hi pins s σ H _ I h) fun iv s1 ⟨y,H1,I1,ry,q1⟩=>aL (ho pins s1 σ H1 _ I1 q1) fun u s2 ⟨x,H2,I2,rx,a,ov,ex,g,q2⟩=> ?_
 subst ex
 obtain rfl:u=Value.ref a:=rx
 exact CG hu I2 g ry fun s3 I3=>⟨.bl (!ov.isSome),H2,I3,rfl,q2⟩
theorem wD(hu:X.A.units+1<cLine)(ho:PE X o td)(hi:PE X i ty)(hv:PE X value tv)(hs:swapsWith value (some (.Subscript o i pos')) pos.line X.env=pure false):
  PS X (.Assign [.Subscript o i pos'] value pos) (Kf td ty tv):=by
 intro pins s σ H D I h
 refine wpAny_Assign_Subscript (aL (hv pins s σ H _ I h) fun r s1 ⟨v,H1,I1,rv,q1⟩=>aL (ho pins s1 σ H1 _ I1 q1) fun u s2 ⟨x,H2,I2,rx,q2⟩=>aL (hi pins s2 σ H2 _ I2 q2) fun iv s3 ⟨y,H3,I3,ry,a,H4,ex,g,q3⟩=> ?_) hs
 subst ex
 obtain rfl:u=Value.ref a:=rx
 exact xu hu I3 g ry rv fun s4 I4=>⟨σ,H4,I4,q3⟩
end
theorem k7{P:Program}{w:World}{H:Hp}(h:Heap)(hb:sysModules<h.objs.size):bw P w H (h.push {cls:= .type "dict",data:= .dict #[]}) h.objs.size (.dK []):=
 ⟨Nat.zero_le _,beq_eq_false_iff_ne.mpr (Ne.symm (Nat.ne_of_lt hb)),[],.nil,Heap.DictOf.new h⟩
theorem lf{P:Program}{w:World}{H:Hp}(h:Heap)(hb:sysModules<h.objs.size):bw P w H (h.push {cls:= .type "dict",data:= .dict #[]}) h.objs.size (.dT []):=
 ⟨Nat.zero_le _,beq_eq_false_iff_ne.mpr (Ne.symm (Nat.ne_of_lt hb)),[],.nil,_, #[],0,Heap.get?_push_size _ rfl,⟨rfl,rfl,rfl⟩,rfl,rfl,List.nodup_nil⟩
def Hv:TE:=fun _ H Q=> ∀p,H p=none->Q (.ref p) (upd H p (.dK []))
def Hw:TE:=fun _ H Q=> ∀p,H p=none->Q (.ref p) (upd H p (.dT []))
section
variable{X:Cx}{pos:Pos}
theorem ja:PE X (.Dict [] [] pos) Hv:=fun pins s σ H Q I h=>
 wpAny_Dict_empty ⟨.ref s.heap.objs.size,_,I.laid (a:=s.heap.objs.size) (o:= .dK []) (t':=s.toks) (fun _ _ q=>Heap.get?_push_of_some _ q) (Nat.le_refl _) (k7 s.heap I.big),rfl,h _ (I.hok.fresh (Nat.le_refl _))⟩
theorem jb:PE X (.Dict [] [] pos) Hw:=fun pins s σ H Q I h=>
 wpAny_Dict_empty ⟨.ref s.heap.objs.size,_,I.laid (a:=s.heap.objs.size) (o:= .dT []) (t':=s.toks) (fun _ _ q=>Heap.get?_push_of_some _ q) (Nat.le_refl _) (lf s.heap I.big),rfl,h _ (I.hok.fresh (Nat.le_refl _))⟩
end
structure M2(X:Cx)(o:Expr)(m:Str)(apos:Pos)(e f:Expr)(cpos:Pos):Prop where
 base:attributeBase o m X.env (eval o X.env)=eval o X.env
 few:((backTo cpos (starEach [e,f] X.env)).all (fun x=> !x.1) && (backToKw cpos (keywordEach [] X.env)).all (fun x=>x.1.isSome)
  &&decide (([e,f]:List Expr).length+([]:List Keyword).length+(if([]:List Keyword).isEmpty then 0 else 1)<30))=true
 line:(apos.endLine==cpos.line)=true
 trees:backTo cpos (starEach [e,f] X.env)= [(false,eval e X.env),(false,eval f X.env)]
def NM(H:Hp)(a:Addr):Prop:=(∃kvs,Rd H a (.dK kvs))\/ ∃kvs,Rd H a (.dT kvs)
theorem Ga{X:Cx}{pins:List (Addr×Obj)}{σ:St}{H:Hp}{s:Shared}{a:Addr}(I:Inv X pins σ H s)(d:NM H a):
  s.TypeIs (.ref a) "dict"/\(∀b,Value.ref a= .ref b-> ∃ob,s.heap.get? b=some ob/\ob.dict=none)/\(a==sysModules)=false:=by
 rcases d with⟨kvs,e⟩|⟨kvs,e⟩
 ·obtain⟨_,hd,vs,_,dd⟩:=k9 I.hok e
  refine⟨dd.typeIs,fun b q=> ?_,hd⟩
  cases q
  obtain⟨ob,_,_,h1,h2,_⟩:=dd
  exact⟨ob,h1,h2.2.1⟩
 ·obtain⟨_,hd,xs,_,dd⟩:=lm I.hok e
  refine⟨dd.typeIs,fun b q=> ?_,hd⟩
  cases q
  obtain⟨ob,_,_,h1,h2,_⟩:=dd
  exact⟨ob,h1,h2.2.1⟩
section
variable{X:Cx}{pins:List (Addr×Obj)}{σ:St}{H:Hp}{s:Shared}{a:Addr}{y d:V}{u r:Value}{o:Option V}{A:Around}{E:Value->Shared->Prop}
theorem FA{Q:Value->Shared->Prop}(hu:A.units+1<cLine)(I:Inv X pins σ H s)(g:iM H a y o)(ry:RelV y u)(rd:RelV d r)(h: ∀w' s',Inv X pins σ H s'->RelV (o.getD d) w'->Q w' s'):
  wpAny (model X.prog X.w) A (call (.builtin "dict.get") [.ref a,u,r]) Q E s:=by
 rcases g with⟨kvs,k,e,ey,l⟩|⟨kvs,k,b,e,ey,eb,l⟩
 ·subst ey
  obtain⟨z,hd,vs,rel,dd⟩:=k9 I.hok e
  refine call_meetsIn PySem.F.slot_dict_get dd.typeIs PySem.F.entry_dict_get (PySem.F.args_dict_get_3 _ _ _) (meets_dict_get_default (aO X.prog X.w) a (lI ry) hd r) ⟨_,dd.mapOf,h _ _ (I.tok _) ?_⟩
  rw[l]
  exact(rel.val k).getD rd
 ·subst ey
  cases(show u=Value.ref b from ry)
  obtain⟨z,hd,xs,rel,dd⟩:=lm I.hok e
  refine call_meetsIn PySem.F.slot_dict_get dd.typeIs PySem.F.entry_dict_get (PySem.F.args_dict_get_3 _ _ _) (meetsH_dict_get_default (tupleKind (aO X.prog X.w)) a b hd r) ⟨tupleKind_room_in1 hu,k,xs,im I.hok eb,dd,h _ _ (I.tok _) ?_⟩
  rw[l]
  exact(rel.val k).getD rd
end
def Hu(td ty tx:TE):TE:=fun σ H Q=>td σ H fun x H1=> ∃a,x= .ref a/\NM H1 a/\ty σ H1 fun y H2=>tx σ H2 fun z H3=> ∃o,iM H3 a y o/\Q (o.getD z) H3
section
variable{X:Cx}{o e f:Expr}{apos cpos:Pos}{td ty tx:TE}
theorem A6(hu:X.A.units+1<cLine)(ho:PE X o td)(he:PE X e ty)(hf:PE X f tx)(m:M2 X o "get" apos e f cpos):PE X (.Call (.Attribute o "get" apos) [e,f] [] cpos) (Hu td ty tx):=by
 intro pins s σ H Q I h
 refine wpAny_Call_method m.base m.few m.line PySem.F.plainAttrs_dict PySem.F.slot_dict_get PySem.F.type_dict_get (aL (ho pins s σ H _ I h) fun u s1 ⟨x,H1,I1,rx,a,ex,d,q1⟩=> ?_)
 subst ex
 obtain rfl:u=Value.ref a:=rx
 obtain⟨t1,t2,_⟩:=Ga I1 d
 refine⟨t1,t2,?_⟩
 rw[m.trees]
 refine Calls.callWith_builtin rfl (Calls.evalArgs_plain (Calls.spliced_cons (aL (he pins s1 σ H1 _ I1 q1) fun iv s2 ⟨y,H2,I2,ry,q2⟩=>
  Calls.spliced_cons (aL (hf pins s2 σ H2 _ I2 q2) fun fv s3 ⟨z,H3,I3,rz,ov,g,q3⟩=>Calls.spliced_nil ?_))))
 exact FA hu I3 g ry rz fun w' s4 I4 rw'=>⟨_,H3,I4,rw',q3⟩
end
section
variable{X:Cx}{pins:List (Addr×Obj)}{σ:St}{H:Hp}{s:Shared}{a:Addr}{kvs:List (Key×V)}{A:Around}{E:Value->Shared->Prop}
end
section
variable{X:Cx}{pins:List (Addr×Obj)}{σ:St}{H:Hp}{s:Shared}{a:Addr}{y:V}{u:Value}{A:Around}{E:Value->Shared->Prop}
end
end L2
namespace L2
open PySem PySem.Spec PyProof.Rows
section
variable{X:Cx}
end
section
variable{κ:Type} [DecidableEq κ]
theorem wp: ∀ {l:List κ} {k:κ},l.Nodup-> ¬k∈l->(l++ [k]).Nodup
 | [],k,_,_=>by simp
 |a::r,k,h,hk=>by
  obtain⟨h1,h2⟩:=List.nodup_cons.mp h
  show(a::(r++ [k])).Nodup
  refine List.nodup_cons.mpr ⟨fun m=> ?_,wp h2 fun m=>hk (List.mem_cons.mpr (Or.inr m))⟩
  rcases List.mem_append.mp m with q|q
  ·exact h1 q
  ·exact hk (List.mem_cons.mpr (Or.inl (List.mem_singleton.mp q).symm))
end
end L2
namespace L2
open PySem PySem.Spec PyProof.Rows K2
def iK(kvs:List (Str×V))(x:Str):Option V:=kvs.lookup x
structure KDict(P:Program)(w:World)(K:PySem.W.Frag)(a:Addr)(kvs:List (Str×V)):Prop where
 ns:(a==sysModules)=false
 at_: ∀h,K.In h-> ∃vs:List (Key×Value),KV (kvs.map fun p=>((Sum.inr p.1:Key),p.2)) vs/\h.DictOf (aO P w) a vs
theorem pC(x:Str): ∀ {kvs:List (Str×V)} {vs:List (Key×Value)},KV (kvs.map fun p=>((Sum.inr p.1:Key),p.2)) vs->fb (iK kvs x) (valueAt vs (Sum.inr x:Key))
 | [],_,r=>by cases r;exact True.intro
 |(y,v)::t,_,r=>by
  cases r with
  | @cons _ q _ qs h1 h2=>
  obtain⟨k,u⟩:=q
  obtain⟨e,rv⟩:=h1
  simp only at e rv
  subst e
  unfold iK valueAt
  rw[List.lookup_cons,List.find?_cons]
  by_cases hx:x=y
  ·subst hx
   simp only[beq_self_eq_true,decide_true]
   exact rv
  ·have h3:(x==y)=false:=by simpa using hx
   have h4:decide ((Sum.inr y:Key)=Sum.inr x)=false:=by simp only[decide_eq_false_iff_not];intro z;exact hx (by injection z with z;exact z.symm)
   simp only[h3,h4]
   exact pC x h2
theorem key_is{P:Program}{w:World}{x:Str}{u:Value}(r:RelV (.str x) u):(aO P w).is (Sum.inr x) u=true:=by
 obtain⟨t,e⟩:=(show ∃t,u=Value.str x t from r);subst e;exact eU P w x t
section
variable{X:Cx}{T id:String}{name:Str}{r:V->List V->Hp->VK->Prop}{o e:Expr}{es:List Expr}{to:TE}{t:TA}{apos cpos pos:Pos}
theorem GK{ty:V->Hp->Prop}(hT: ∀ (pins:List (Addr×Obj)) (σ:St) (H:Hp) (s:Shared) (x:V) (v:Value),Inv X pins σ H s->RelV x v->ty x H->s.TypeIs v T/\ ∀a,v= .ref a-> ∃ob,s.heap.get? a=some ob/\ob.dict=none)
  (pa:PlainAttrs T)(slot:Slot T name id)(hty:typeOf (.builtin id)=pure (.type "method_descriptor"))(hm:KC X id r)(ho:PE X o to)(ha:PA X (e::es) t)
  (hbase:attributeBase o name X.env (eval o X.env)=eval o X.env:=by rfl)
  (hfew:((backTo cpos (starEach (e::es) X.env)).all (fun x=> !x.1) && (backToKw cpos (keywordEach [] X.env)).all (fun x=>x.1.isSome) &&decide ((e::es).length+([]:List Keyword).length+(if([]:List Keyword).isEmpty then 0 else 1)<30))=true:=by rfl)
  (hline:(apos.endLine==cpos.line)=true:=by rfl)(hs:starEach (e::es) X.env=(false,eval e X.env)::starEach es X.env:=by rfl)(hplain:(backTo cpos (starEach es X.env)).any (·.1)=false:=by rfl):
  PE X (.Call (.Attribute o name apos) (e::es) [] cpos) (fun σ H Q=>to σ H fun x H1=>ty x H1/\t σ H1 fun xs H2=>r x xs H2 Q):=by
 intro pins s σ H Q I h
 refine wpAny_Call_method_late hbase hfew hline rfl (aL (ho pins s σ H _ I h) fun v s1 ⟨x,H1,I1,r1,q0,q1⟩=> ?_)
 obtain⟨h1,h2⟩:=hT _ _ _ _ x v I1 r1 q0
 have hA:=ha cpos pins s1 σ H1 _ I1 q1
 refine⟨T,id,pa,slot,hty,h1,h2,?_⟩
 rw[hs]at hA⊢
 exact Calls.callWith_builtin (by show(false||(backTo cpos (starEach es X.env)).any (·.1))=false;rw[hplain]<;>rfl) (Calls.evalArgs_plain (aL hA fun us s2 ⟨vs,H2,I2,r2,q2⟩=>hm pins s2 σ H2 x vs v us Q I2 r1 r2 q2))
variable{a:Addr}{kvs:List (Str×V)}
def Rl(a:Addr):V->Hp->Prop:=fun x _=>x= .ref a
theorem C7(D:KDict X.prog X.w X.K a kvs): ∀ (pins:List (Addr×Obj)) (σ:St) (H:Hp) (s:Shared) (x:V) (v:Value),Inv X pins σ H s->RelV x v->Rl a x H->s.TypeIs v "dict"/\ ∀a,v= .ref a-> ∃ob,s.heap.get? a=some ob/\ob.dict=none:=fun pins σ H s x v I rx e=>by
 cases(show x= .ref a from e)
 cases rx
 obtain⟨vs,_,dd⟩:=D.at_ _ I.fZ
 refine⟨dd.typeIs,fun b q=> ?_⟩
 cases q
 obtain⟨ob,_,_,h1,h2,_⟩:=dd
 exact⟨ob,h1,h2.2.1⟩
def JZ(a:Addr)(kvs:List (Str×V)):V->List V->Hp->VK->Prop:=fun x vs H Q=>x= .ref a/\ ∃y,(vs= [.str y]/\Q ((iK kvs y).getD .aH) H)\/ ∃d,vs= [.str y,d]/\Q ((iK kvs y).getD d) H
theorem nW{o:Option V}{p:Option Value}{d:V}{u:Value}(r:fb o p)(rd:RelV d u):RelV (o.getD d) (p.getD u):=by
 cases o<;>cases p<;>first|exact rd|exact r|cases r
theorem Dp(D:KDict X.prog X.w X.K a kvs):KC X "dict.get" (JZ a kvs):=by
 intro pins s σ H x vs v us Q I rx rv h
 obtain⟨rfl,y,⟨rfl,q⟩|⟨d,rfl,q⟩⟩:=h
 ·cases rx
  obtain⟨u,rfl,ru⟩:=rv.one
  obtain⟨vs,rel,dd⟩:=D.at_ _ I.fZ
  exact call_meetsIn PySem.F.slot_dict_get dd.typeIs PySem.F.entry_dict_get (PySem.F.args_dict_get_2 _ _) (meets_dict_get (aO X.prog X.w) a (key_is ru) D.ns) ⟨_,dd.mapOf,⟨_,H,I.tok _,nW (d:= .aH) (pC y rel) rfl,q⟩⟩
 ·cases rx
  obtain⟨u,u2,rfl,ru,Kd⟩:=rv.two
  obtain⟨vs,rel,dd⟩:=D.at_ _ I.fZ
  exact call_meetsIn PySem.F.slot_dict_get dd.typeIs PySem.F.entry_dict_get (PySem.F.args_dict_get_3 _ _ _) (meets_dict_get_default (aO X.prog X.w) a (key_is ru) D.ns u2) ⟨_,dd.mapOf,⟨_,H,I.tok _,nW (pC y rel) Kd,q⟩⟩
inductive M9(a:Addr)(kvs:List (Str×V))(x:V)(y:V)(H:Hp)(Q:VK):Prop
 |mk (z v:_) (_:x= .ref a) (_:y= .str z) (_:iK kvs z=some v) (_:Q v H)
theorem rA(D:KDict X.prog X.w X.K a kvs):Iw X (M9 a kvs):=by
 intro value slice pins s σ H x y v u Q I rx ry h hs
 obtain⟨z,w',rfl,rfl,hz,q⟩:=h
 cases rx
 obtain⟨vs,rel,dd⟩:=D.at_ _ I.fZ
 have h1:=pC z rel
 rw[hz]at h1
 obtain⟨uu,hw,ru⟩:=fb.some_of h1
 exact tail_any dd.typeIs PySem.F.slot_dict_getitem.lookup (wpAny_getItem_of (key_is ry) dd.mapOf hw ⟨w',H,I.tok _,ru,q⟩) hs
theorem sj{k:Nat}{x:Str}{p:Pos}(i:Nat)(hr:cU k X.A)(ha:PA X (e::es) t)(hN:X.N[i]? =some x:=by rfl)(hl:X.env.scope.names.lookup x=some .local:=by rfl)
  (hdb:(x==("__debug__":Str))=false:=by decide)(he:starEach (e::es) X.env=(false,eval e X.env)::starEach es X.env:=by rfl)(hpl:(backTo pos (starEach es X.env)).any (·.1)=false:=by rfl):
  PE X (.Call (.Name x p) (e::es) [] pos) (fun σ H Q=> ∃f fd ps sp,σ[i]? =some (some (.ref f))/\aI X.prog X.w X.K X.mg X.base br k f fd ps sp/\Binds X.K fd ps []/\PySem.W.keepIn X.K (.ref f)=true/\t σ H fun vs H1=>sp (vs++ []) H1 Q E0):=by
 intro pins s σ H Q I h
 obtain⟨f,fd,ps,sp,e1,F,B,kp,h⟩:=h
 obtain⟨m,hn,QR⟩:=I.loc
 obtain⟨u,r,l⟩:=QR i x _ hN e1 (.inl hl)
 cases r
 have hm:m x=some (.ref f):=by
  rcases l with⟨_,hm⟩|⟨hk,_⟩
  ·exact hm
  ·rcases hk with hk|hk<;>(rw[show X.env.kindOf x=some .local from hl]at hk;cases hk)
 refine wpAny_Call_Name_kw (wpAny_Name (wpAny_loadName_local I.ok.kind hl hn hm ?_) hdb)
 refine PySem.W.callWith_K (h₀:=X.base) I.ok.mod.EV kp (aL (ha pos pins s σ H _ I h) fun us s1 ⟨vs,H1,I1,r,q⟩=>⟨I1.fZ,?_⟩) he hpl
 exact pV F hr B .nil aD I1 r q
end
def Wc(n:Nat)(Iv:Nat->List V->Hp->Prop):Nat->Nat->List V->Hp->Prop:=fun i m ys H=>i<=n/\m=n-i/\Iv i ys H
theorem Wc.next{n:Nat}{Iv:Nat->List V->Hp->Prop}{i:Nat}{ys:List V}{H:Hp}(hi:i<n)(h:Iv (i+1) ys H): ∃m',m'<n-i/\Wc n Iv (i+1) m' ys H:=⟨n- (i+1),by omega,by omega,rfl,h⟩
theorem cy{J:It}{n k:Nat}{g:TG}{tt:TT}{te:TE}{σ:St}{H0:Hp}{Q:Addr->List V->Hp->Prop}(Iv:Nat->List V->Hp->Prop)(h0:Iv 0 [] H0)
  (hgo: ∀i ys H,i<n->Iv i ys H->J.go i H/\ys.length<sizeLine/\ ∀x H',J.mZ i H x H'->g x (List.replicate k none++σ) H' fun σ2 H2=>tt σ2 H2 fun b H3=>
   if b=true then te σ2 H3 fun y H4=> ∃m',m'<n-i/\Wc n Iv (i+1) m' (ys++ [y]) H4 else ∃m',m'<n-i/\Wc n Iv (i+1) m' ys H3)
  (hstop: ∀ys H,Iv n ys H->J.stop n H/\ ∀p,H p=none->Q p ys H):
  ∃W:Nat->Nat->List V->Hp->Prop,(∃m,W 0 m [] H0)/\ ∀i m ys H,W i m ys H->
   (J.stop i H/\ ∀p,H p=none->Q p ys H)\/
   (J.go i H/\ys.length<sizeLine/\ ∀x H',J.mZ i H x H'->g x (List.replicate k none++σ) H' fun σ2 H2=>tt σ2 H2 fun b H3=>
    if b=true then te σ2 H3 fun y H4=> ∃m',m'<m/\W (i+1) m' (ys++ [y]) H4 else ∃m',m'<m/\W (i+1) m' ys H3):=by
 refine⟨Wc n Iv,⟨n,Nat.zero_le _,rfl,h0⟩,fun i m ys H ⟨hi,hm,h⟩=> ?_⟩
 subst hm
 by_cases e:i=n
 ·subst e;exact .inl (hstop ys H h)
 ·exact .inr (hgo i ys H (by omega) h)
theorem take_one{α:Type}{x:List α}{i:Nat}(hi:i<x.length):x.take (i+1)=x.take i++ [x[i]]:=by rw[List.take_add_one,List.getElem?_eq_getElem hi];rfl
theorem getD_at{α:Type}{x:List α}{i:Nat}(hi:i<x.length)(d:α):x.getD i d=x[i]:=by simp[List.getD,List.getElem?_eq_getElem hi]
theorem Nz{σ:St}{H:Hp}{A B:Hp->Prop}(h:A H):Cd σ H fun b H3=>if b=true then A H3 else B H3:=by show(if true=true then A H else B H);rw[if_pos rfl];exact h
theorem ka{i:Nat}{v:V}{σ:St}{H:Hp}{A B:St->Hp->Prop}(h:A (σ.set i (some v)) H):bR i v σ H fun σ2 H2=>Cd σ2 H2 fun b H3=>if b=true then A σ2 H3 else B σ2 H3:=by
 show(if true=true then A (σ.set i (some v)) H else B (σ.set i (some v)) H);rw[if_pos rfl];exact h
theorem dF{J:It}{n:Nat}{g:TG}{tb:TS}{D:Ends}{Kz:St}{H0:Hp}(Pv:Nat->St->Hp->Prop)(h0:Pv 0 Kz H0)
  (hgo: ∀i σ H,i<n->Pv i σ H->J.go i H/\ ∀x H',J.mZ i H x H'->g x σ H' fun σ2 H2=>tb {D with nx:=Pv (i+1),ct:=Pv (i+1),bk:=D.nx} σ2 H2)
  (hstop: ∀σ H,Pv n σ H->J.stop n H/\D.nx σ H):
  ∃W:Nat->Nat->St->Hp->Prop,(∃m,W 0 m Kz H0)/\ ∀i m σ H,W i m σ H->
   (J.stop i H/\D.nx σ H)\/(J.go i H/\ ∃N:St->Hp->Prop,(∀σ' H',N σ' H'-> ∃m',m'<m/\W (i+1) m' σ' H')/\ ∀x H',J.mZ i H x H'->g x σ H' fun σ2 H2=>tb {D with nx:=N,ct:=N,bk:=D.nx} σ2 H2):=by
 refine⟨fun i m σ H=>i<=n/\m=n-i/\Pv i σ H,⟨n,Nat.zero_le _,rfl,h0⟩,fun i m σ H ⟨hi,hm,h⟩=> ?_⟩
 subst hm
 by_cases e:i=n
 ·subst e;exact .inl (hstop σ H h)
 ·obtain⟨a,b⟩:=hgo i σ H (by omega) h
  exact .inr ⟨a,Pv (i+1),fun σ' H' q=>⟨n- (i+1),by omega,by omega,rfl,q⟩,b⟩
def qN(scope sc:Scope)(N:List Str):Bool:=
 scope.kind== .function&&scope.names.all (fun y=>y.2 != .cell) &&scope.names.all (fun x=>x.2 != .local||scope.names.lookup x.1==some .local) &&
  scope.names.all (fun y=>y.2 != .free||(sc.names.lookup y.1==some .cell||sc.names.lookup y.1==some .free)) &&N.all fun x=>scope.names.lookup x !=some .local
theorem cr{X:Cx}{T:List Str}{scope:Scope}(sc:Scope)(N:List Str)(e1:X.env.scope=sc)(e2:X.N=N)(h:qN scope sc N=true):eL X T scope:=by
 unfold qN at h
 simp only[Bool.and_eq_true,List.all_eq_true,Bool.or_eq_true,bne_iff_ne,beq_iff_eq,ne_eq]at h
 obtain⟨⟨⟨⟨h1,h2⟩,h3⟩,h4⟩,h5⟩:=h
 refine⟨h1,fun y hy=>h2 y hy,fun x hx q=> ?_,fun n hn=> ?_,fun x hx=> ?_⟩
 ·rcases h3 x hx with z|z
  ·exact absurd q z
  ·exact z
 ·unfold Env.kindOf
  rw[e1]
  rcases h4 (n,.free) hn with z|z
  ·exact absurd rfl z
  ·exact z
 ·rw[e2]at hx;exact h5 x hx
theorem cY{H:Hp}{a:Addr}{xs:List V}{o:HO}(h:H a=some (.lst xs)):bV H (upd H a o):=fun b ys e=>by rw[ak (nR e h (by intro z;cases z))];exact e
theorem eG{H0 H:Hp}{a:Addr}{o:HO}(h:H0 a=none)(sm:aw H0 H):aw H0 (upd H a o):=fun b u e=>by rw[ak (ay e h)];exact sm b u e
theorem bV.rep{H H':Hp}(h:bV H H'){p:PV}{v:V}(r:Rep H p v):Rep H' p v:=Rep.mono h p v r
theorem bV.reps{H H':Hp}(h:bV H H'){p:List PV}{v:List V}(r:aq H p v):aq H' p v:=aq.mono h p v r
theorem jN{H:Hp}: ∀ {ps:List PV} {p:PV} {vs:List V},aq H (ps++ [p]) vs-> ∃dl y,vs=dl++ [y]/\aq H ps dl/\Rep H p y
 | [],p,vs,r=>by
  simp only[List.nil_append,aq]at r
  obtain⟨v,t,rfl,h1,rfl⟩:=r
  exact⟨[],v,rfl,aq.nil,h1⟩
 |q::ps,p,vs,r=>by
  simp only[List.cons_append,aq]at r
  obtain⟨v,t,rfl,h1,h2⟩:=r
  obtain⟨dl,y,rfl,h3,h4⟩:=jN h2
  exact⟨v::dl,y,rfl,aq.cons h1 h3,h4⟩
end L2
namespace L2
open PySem PySem.Spec PyProof.Rows K2
mutual
def mN:PV->PV->Bool
 | .at a,.at b=>decide (a=b)
 | .tup ps,.tup qs=>lu ps qs
 |_,_=>false
def lu:List PV->List PV->Bool
 | [],[]=>true
 |p::ps,q::qs=>mN p q&&lu ps qs
 |_,_=>false
end
mutual
theorem iX: ∀ (p q:PV),mN p q=true↔p=q
 | .at a,.at b=>by simp[mN]
 | .tup ps,.tup qs=>by simp[mN,qW ps qs]
 | .at a,.tup qs=>by simp[mN]
 | .tup ps,.at b=>by simp[mN]
theorem qW: ∀ (ps qs:List PV),lu ps qs=true↔ps=qs
 | [],[]=>by simp[lu]
 |p::ps,q::qs=>by simp[lu,iX p q,qW ps qs]
 | [],q::qs=>by simp[lu]
 |p::ps,[]=>by simp[lu]
end
theorem IC{x y:K2.T}:xy (.str (S x)) (.str (S y))=decide (Atom.str x=Atom.str y):=by
 show(S x==S y)=_
 by_cases h:x=y
 ·subst h;simp
 ·have h1: ¬S x=S y:=fun z=>h (iO z)
  have h2: ¬Atom.str x=Atom.str y:=fun z=>h (by injection z)
  rw[decide_eq_false h2];simpa using h1
theorem zL(p:PV):mN p p=true:=(iX p p).mpr rfl
instance:DecidableEq PV:=fun p q=>decidable_of_iff _ (iX p q)
theorem o9(p q:PV):mN p q=decide (p=q):=by
 by_cases h:p=q
 ·rw[decide_eq_true h];exact(iX p q).mpr h
 ·rw[decide_eq_false h]
  cases e:mN p q with
  |false=>rfl
  |true=>exact absurd ((iX p q).mp e) h
theorem lw: ∀ (ps qs:List PV),lu ps qs=((List.range (min ps.length qs.length)).all (fun j=>mN (ps.getD j (.at .aH)) (qs.getD j (.at .aH))) &&ps.length==qs.length)
 | [],[]=>rfl
 | [],q::qs=>by simp[lu]
 |p::ps,[]=>by simp[lu]
 |p::ps,q::qs=>by
  simp only[lu,List.length_cons]
  rw[lw ps qs,show min (ps.length+1) (qs.length+1)=min ps.length qs.length+1 by omega,List.range_succ_eq_map,List.all_cons,List.all_map]
  simp only[Function.comp_def,List.getD_cons_zero,List.getD_cons_succ,Bool.and_assoc]
  congr 2
  rw[Bool.eq_iff_iff];simp
mutual
theorem Rep.inj{H:Hp}: ∀ {p q:PV} {v:V},Rep H p v->Rep H q v->p=q
 | .at .aH,.at .aH,_,_,_=>rfl
 | .at .aH,.at (.int i),v,r,r'=>by simp only[Rep]at r r';subst r;cases r'
 | .at .aH,.at (.str i),v,r,r'=>by simp only[Rep]at r r';subst r;cases r'.1
 | .at .aH,.tup ps,v,r,r'=>by simp only[Rep]at r r';subst r;obtain⟨a,vs,z,_⟩:=r';cases z
 | .at (.int i),.at .aH,v,r,r'=>by simp only[Rep]at r r';subst r;cases r'
 | .at (.int i),.at (.int j),v,r,r'=>by simp only[Rep]at r r';subst r;cases r';rfl
 | .at (.int i),.at (.str j),v,r,r'=>by simp only[Rep]at r r';subst r;cases r'.1
 | .at (.int i),.tup ps,v,r,r'=>by simp only[Rep]at r r';subst r;obtain⟨a,vs,z,_⟩:=r';cases z
 | .at (.str i),.at .aH,v,r,r'=>by simp only[Rep]at r r';rw[r.1]at r';cases r'
 | .at (.str i),.at (.int j),v,r,r'=>by simp only[Rep]at r r';rw[r.1]at r';cases r'
 | .at (.str i),.at (.str j),v,r,r'=>by
  simp only[Rep]at r r'
  have:=r.1.symm.trans r'.1
  injection this with e
  rw[iO e]
 | .at (.str i),.tup ps,v,r,r'=>by simp only[Rep]at r r';rw[r.1]at r';obtain⟨a,vs,z,_⟩:=r';cases z
 | .tup ps,.at .aH,v,r,r'=>by simp only[Rep]at r r';subst r';obtain⟨a,vs,z,_⟩:=r;cases z
 | .tup ps,.at (.int j),v,r,r'=>by simp only[Rep]at r r';subst r';obtain⟨a,vs,z,_⟩:=r;cases z
 | .tup ps,.at (.str j),v,r,r'=>by simp only[Rep]at r r';rw[r'.1]at r;obtain⟨a,vs,z,_⟩:=r;cases z
 | .tup ps,.tup qs,v,r,r'=>by
  simp only[Rep]at r r'
  obtain⟨a,vs,rfl,h,rs⟩:=r
  obtain⟨b,ws,e,h',rs'⟩:=r'
  cases e
  rw[h]at h';cases h'
  rw[aq.inj rs rs']
theorem aq.inj{H:Hp}: ∀ {ps qs:List PV} {vs:List V},aq H ps vs->aq H qs vs->ps=qs
 | [],[],_,_,_=>rfl
 | [],q::qs,vs,r,r'=>by simp only[aq]at r r';subst r;obtain⟨v,t,z,_⟩:=r';cases z
 |p::ps,[],vs,r,r'=>by simp only[aq]at r r';subst r';obtain⟨v,t,z,_⟩:=r;cases z
 |p::ps,q::qs,vs,r,r'=>by
  simp only[aq]at r r'
  obtain⟨v,t,rfl,h1,h2⟩:=r
  obtain⟨v',t',e,CS,h2'⟩:=r'
  cases e
  rw[Rep.inj h1 CS,aq.inj h2 h2']
end
section
variable{X:Cx}{pins:List (Addr×Obj)}{σ:St}{H:Hp}{s:Shared}
theorem zN{a b:Atom}{x y:V}(rx:Rep H (.at a) x)(ry:Rep H (.at b) y):eN x=true/\eN y=true/\xy x y=decide (a=b):=by
 cases a with
 |aH=>cases b<;>simp only[Rep]at rx ry<;>first|(obtain⟨ry,_⟩:=ry;subst rx;subst ry;exact⟨rfl,rfl,rfl⟩)|(subst rx;subst ry;exact⟨rfl,rfl,rfl⟩)
 |int i=>
  cases b with
  |int k=>
   simp only[Rep]at rx ry;subst rx;subst ry
   refine⟨rfl,rfl,?_⟩
   show(i==k)=decide (Atom.int i=Atom.int k)
   rw[Bool.eq_iff_iff];simp
  |_=>simp only[Rep]at rx ry;first|(obtain⟨ry,_⟩:=ry;subst rx;subst ry;exact⟨rfl,rfl,rfl⟩)|(subst rx;subst ry;exact⟨rfl,rfl,rfl⟩)
 |str z=>
  cases b with
  |str k=>
   simp only[Rep]at rx ry;obtain⟨rx,_⟩:=rx;obtain⟨ry,_⟩:=ry;subst rx;subst ry
   exact⟨rfl,rfl,IC⟩
  |_=>simp only[Rep]at rx ry;obtain⟨rx,_⟩:=rx;subst rx;subst ry;exact⟨rfl,rfl,rfl⟩
mutual
theorem NZ(I:Inv X pins σ H s): ∀ (p q:PV) (x y:V) (u w:Value) (A:Around),A.units+dp p+dp q<cLine->Rep H p x->Rep H q y->RelV x u->RelV y w->SeqAt.EqAt A s u w (mN p q)
 | .at a,.at b,x,y,u,w,A,_,rx,ry,hu,hw=>by
  obtain⟨f1,f2,e⟩:=zN rx ry
  have:=lq (A:=A) (s:=s) hu hw f1 f2
  rw[e]at this
  exact this
 | .at a,.tup qs,x,y,u,w,A,hA,rx,ry,hu,hw=>by
  obtain⟨b,ws,rfl,hb,rb⟩:=ry.tup
  cases hw
  obtain⟨i2,r2,t2,_⟩:=I.tuple (bn.of (K:=X.K) hb)
  simp only[dp]at hA
  have g6:A.units<cLine:=by omega
  show SeqAt.EqAt A s u _ false
  cases a with
  |aH=>simp only[Rep]at rx;subst rx;cases hu;exact .none_tuple t2 g6
  |int i=>simp only[Rep]at rx;subst rx;obtain⟨t,rfl⟩:=hu;exact .int_tuple _ _ t2 g6
  |str z=>simp only[Rep]at rx;obtain⟨rx,_⟩:=rx;subst rx;obtain⟨t,rfl⟩:=hu;exact .str_tuple _ _ t2 g6
 | .tup ps,.at b,x,y,u,w,A,hA,rx,ry,hu,hw=>by
  obtain⟨a,vs,rfl,ha,ra⟩:=rx.tup
  cases hu
  obtain⟨i1,r1,t1,_⟩:=I.tuple (bn.of (K:=X.K) ha)
  simp only[dp]at hA
  have g6:A.units<cLine:=by omega
  show SeqAt.EqAt A s _ w false
  cases b with
  |aH=>simp only[Rep]at ry;subst ry;cases hw;exact .tuple_none t1 g6
  |int i=>simp only[Rep]at ry;subst ry;obtain⟨t,rfl⟩:=hw;exact .tuple_int _ _ t1 g6
  |str z=>simp only[Rep]at ry;obtain⟨ry,_⟩:=ry;subst ry;obtain⟨t,rfl⟩:=hw;exact .tuple_str _ _ t1 g6
 | .tup ps,.tup qs,x,y,u,w,A,hA,rx,ry,hu,hw=>by
  obtain⟨a,vs,rfl,ha,ra⟩:=rx.tup
  obtain⟨b,ws,rfl,hb,rb⟩:=ry.tup
  cases hu;cases hw
  by_cases e:a=b
  ·subst e
   have:PV.tup ps=PV.tup qs:=Rep.inj (Rep.mk ha ra) (Rep.mk hb rb)
   rw[this,zL]
   exact SeqAt.EqAt.same _
  ·obtain⟨i1,r1,t1,_⟩:=I.tuple (bn.of (K:=X.K) ha)
   obtain⟨i2,r2,t2,_⟩:=I.tuple (bn.of (K:=X.K) hb)
   have l1:=r1.length
   have l2:=r2.length
   have l3:=ra.len
   have l4:=rb.len
   simp only[dp]at hA
   have:=SeqAt.RcAt.tuples (A:=A) (s:=s) (e:=fun j=>mN (ps.getD j (.at .aH)) (qs.getD j (.at .aH))) t1 t2 (by omega) fun j h1 h2=>by
    simp only[List.size_toArray]at h1 h2
    exact FE I ps qs vs ws i1 i2 A.in1 (by rw[in1_units];omega) ra rb r1 r2 j _ _ (by simp[List.getElem?_eq_getElem h1]) (by simp[List.getElem?_eq_getElem h2])
   refine SeqAt.EqAt.of_refs e ?_
   have e2:((List.range (min i1.toArray.size i2.toArray.size)).all (fun j=>mN (ps.getD j (.at .aH)) (qs.getD j (.at .aH))) &&i1.toArray.size==i2.toArray.size)=mN (.tup ps) (.tup qs):=by
    simp only[List.size_toArray,mN]
    rw[lw,<-l1,<-l2,<-l3,<-l4]
   rw[e2]at this
   exact this
theorem FE(I:Inv X pins σ H s): ∀ (ps qs:List PV) (xs ys:List V) (us ws:List Value) (A:Around),A.units+kq ps+kq qs<cLine->aq H ps xs->aq H qs ys->Vals xs us->Vals ys ws-> ∀ (j:Nat) (u w:Value),us[j]? =some u->ws[j]? =some w->SeqAt.EqAt A s u w (mN (ps.getD j (.at .aH)) (qs.getD j (.at .aH)))
 | [],_,xs,ys,us,ws,A,_,rx,ry,hu,hw,j,u,w,e1,e2=>by
  simp only[aq]at rx;subst rx
  cases hu;simp at e1
 |_::_,[],xs,ys,us,ws,A,_,rx,ry,hu,hw,j,u,w,e1,e2=>by
  simp only[aq]at ry;subst ry
  cases hw;simp at e2
 |p::ps,q::qs,xs,ys,us,ws,A,hA,rx,ry,hu,hw,j,u,w,e1,e2=>by
  simp only[aq]at rx ry
  obtain⟨x,xr,rfl,Nf,Ng⟩:=rx
  obtain⟨y,yr,rfl,Nh,E6⟩:=ry
  cases hu with
  |cons hu1 Jv=>
  cases hw with
  |cons hw1 Jw=>
  simp only[kq]at hA
  cases j with
  |zero=>simp at e1 e2;subst e1 e2;exact NZ I p q x y _ _ A (by omega) Nf Nh hu1 hw1
  |succ j=>simp at e1 e2;exact FE I ps qs xr yr _ _ A (by omega) Ng E6 Jv Jw j u w e1 e2
end
theorem R4(I:Inv X pins σ H s){p q:PV}{x y:V}{u w:Value}{A:Around}(hA:A.units+dp p+dp q<cLine)(rx:Rep H p x)(ry:Rep H q y)(hu:RelV x u)(hw:RelV y w):SeqAt.RcAt A s u w (mN p q):=by
 cases p with
 |«at» a=>
  cases q with
  |«at» b=>
   obtain⟨f1,f2,e⟩:=zN rx ry
   show SeqAt.RcAt A s u w (decide (a=b))
   rw[<-e]
   cases a<;>cases b<;>simp only[Rep]at rx ry
   ·subst rx ry;cases hu;cases hw;exact .none_none
   ·subst rx ry;cases hu;obtain⟨t,rfl⟩:=hw;exact .none_int _ _
   ·obtain⟨ry,_⟩:=ry;subst rx ry;cases hu;obtain⟨t,rfl⟩:=hw;exact .none_str _ _
   ·subst rx ry;cases hw;obtain⟨t,rfl⟩:=hu;exact .int_none _ _
   ·subst rx ry;obtain⟨t,rfl⟩:=hu;obtain⟨t',rfl⟩:=hw;exact .int_int _ _ _ _
   ·obtain⟨ry,_⟩:=ry;subst rx ry;obtain⟨t,rfl⟩:=hu;obtain⟨t',rfl⟩:=hw;exact .int_str _ _ _ _
   ·obtain⟨rx,_⟩:=rx;subst rx ry;cases hw;obtain⟨t,rfl⟩:=hu;exact .str_none _ _
   ·obtain⟨rx,_⟩:=rx;subst rx ry;obtain⟨t,rfl⟩:=hu;obtain⟨t',rfl⟩:=hw;exact .str_int _ _ _ _
   ·obtain⟨rx,_⟩:=rx;obtain⟨ry,_⟩:=ry;subst rx ry;obtain⟨t,rfl⟩:=hu;obtain⟨t',rfl⟩:=hw;exact .str_str _ _ _ _
  |tup qs=>
   obtain⟨b,ws,rfl,hb,rb⟩:=ry.tup
   cases hw
   obtain⟨i2,r2,t2,_⟩:=I.tuple (bn.of (K:=X.K) hb)
   simp only[dp]at hA
   have g6:A.units<cLine:=by omega
   show SeqAt.RcAt A s u _ false
   cases a with
   |aH=>simp only[Rep]at rx;subst rx;cases hu;exact .none_tuple t2 g6
   |int i=>simp only[Rep]at rx;subst rx;obtain⟨t,rfl⟩:=hu;exact .int_tuple _ _ t2 g6
   |str z=>simp only[Rep]at rx;obtain⟨rx,_⟩:=rx;subst rx;obtain⟨t,rfl⟩:=hu;exact .str_tuple _ _ t2 g6
 |tup ps=>
  obtain⟨a,vs,rfl,ha,ra⟩:=rx.tup
  cases hu
  obtain⟨i1,r1,t1,_⟩:=I.tuple (bn.of (K:=X.K) ha)
  simp only[dp]at hA
  have g6:A.units<cLine:=by omega
  cases q with
  |«at» b=>
   show SeqAt.RcAt A s _ w false
   cases b with
   |aH=>simp only[Rep]at ry;subst ry;cases hw;exact .tuple_none t1 g6
   |int i=>simp only[Rep]at ry;subst ry;obtain⟨t,rfl⟩:=hw;exact .tuple_int _ _ t1 g6
   |str z=>simp only[Rep]at ry;obtain⟨ry,_⟩:=ry;subst ry;obtain⟨t,rfl⟩:=hw;exact .tuple_str _ _ t1 g6
  |tup qs=>
   obtain⟨b,ws,rfl,hb,rb⟩:=ry.tup
   cases hw
   obtain⟨i2,r2,t2,_⟩:=I.tuple (bn.of (K:=X.K) hb)
   have l1:=r1.length
   have l2:=r2.length
   have l3:=ra.len
   have l4:=rb.len
   simp only[dp]at hA
   have:=SeqAt.RcAt.tuples (A:=A) (s:=s) (e:=fun j=>mN (ps.getD j (.at .aH)) (qs.getD j (.at .aH))) t1 t2 (by omega) fun j h1 h2=>by
    simp only[List.size_toArray]at h1 h2
    exact FE I ps qs vs ws i1 i2 A.in1 (by rw[in1_units];omega) ra rb r1 r2 j _ _ (by simp[List.getElem?_eq_getElem h1]) (by simp[List.getElem?_eq_getElem h2])
   have e2:((List.range (min i1.toArray.size i2.toArray.size)).all (fun j=>mN (ps.getD j (.at .aH)) (qs.getD j (.at .aH))) &&i1.toArray.size==i2.toArray.size)=mN (.tup ps) (.tup qs):=by
    simp only[List.size_toArray,mN]
    rw[lw,<-l1,<-l2,<-l3,<-l4]
   rw[e2]at this
   exact this
theorem AX:gG X (compareOp .Eq) (fun x y H Q=> ∃p q,X.A.units+dp p+dp q<cLine/\Rep H p x/\Rep H q y/\Q (.bl (decide (p=q))) H):=by
 intro pins s σ H x y v u Q I rx ry h
 obtain⟨p,q,hA,h1,h2,k⟩:=h
 have:=R4 I hA h1 h2 rx ry X.prog X.w X.xe (EP X pins σ Q)
 exact this ⟨.bl (decide (p=q)),H,I,by rw[o9];rfl,k⟩
open Classical in
theorem Gr(I:Inv X pins σ H s){q:PV}{x:V}{v:Value}{A:Around}{n:Nat}(hA:A.units+n+dp q<cLine)(rx:Rep H q x)(hx:RelV x v): ∀ {ps:List PV} {xs:List V} {us:List Value},kq ps<=n->aq H ps xs->Vals xs us->
  (∀u∈us,SeqAt.EqAt A s u v (decide (∃z,RelV z u/\Rep H q z)))/\us.any (fun u=>decide (∃z,RelV z u/\Rep H q z))=ps.contains q
 | [],_,us,_,r,hv=>by
  simp only[aq]at r;subst r;cases hv
  exact⟨fun u hu=>(nomatch hu),rfl⟩
 |p::ps,_,us,hn,r,hv=>by
  simp only[aq]at r
  obtain⟨y,yr,rfl,r1,r2⟩:=r
  cases hv with
  | @cons _ u _ us hu hv=>
  simp only[kq]at hn
  obtain⟨h1,h2⟩:=Gr I hA rx hx (ps:=ps) (by omega) r2 hv
  have e:decide (∃z,RelV z u/\Rep H q z)=mN p q:=by
   rw[o9]
   congr 1
   apply propext
   constructor
   ·rintro⟨z,hz,rz⟩
    have:z=y:=by
     cases p with
     |tup ps=>
      obtain⟨a,vs,rfl,ha,ra⟩:=r1.tup
      cases hu
      cases z with
      |ref b=>cases hz;rfl
      |aH=>cases hz
      |bl b=>cases hz
      |int b=>obtain⟨_,h⟩:=hz;cases h
      |str b=>obtain⟨_,h⟩:=hz;cases h
      |tu b=>obtain⟨_,h⟩:=hz;cases h
      |CK b=>obtain⟨_,h⟩:=hz;cases h
      |ty b=>cases hz
     |«at» a=>
      have hy:eN y=true:=by
       cases a<;>simp only[Rep]at r1<;>first|(obtain⟨r1,_⟩:=r1;subst r1;rfl)|(subst r1;rfl)
      cases y with
      |aH=>cases hu;cases z<;>first|rfl|(cases hz;done)|(obtain⟨_,h⟩:=hz;cases h)
      |bl b=>cases hu;cases z<;>first|(cases hz;rfl)|(cases hz;done)|(obtain⟨_,h⟩:=hz;cases h)
      |int b=>obtain⟨t,rfl⟩:=hu;cases z<;>first|(obtain⟨_,h⟩:=hz;cases h;rfl)|(cases hz;done)|(obtain⟨_,h⟩:=hz;cases h;done)
      |str b=>obtain⟨t,rfl⟩:=hu;cases z<;>first|(obtain⟨_,h⟩:=hz;cases h;rfl)|(cases hz;done)|(obtain⟨_,h⟩:=hz;cases h;done)
      |_=>cases hy
    subst this
    exact Rep.inj r1 rz
   ·rintro rfl
    exact⟨y,hu,r1⟩
  refine⟨fun u' g6=> ?_,?_⟩
  ·rcases List.mem_cons.mp g6 with rfl|hm
   ·rw[e]
    exact NZ I p q y x _ _ A (by omega) r1 rx hu hx
   ·exact h1 u' hm
  ·rw[List.any_cons,h2,e,List.contains_cons,o9]
   congr 1
   by_cases h:p=q
   ·subst h;simp
   ·rw[decide_eq_false h]
    have: ¬q=p:=fun z=>h z.symm
    simpa using this
inductive M7(K:PySem.W.Frag)(un:Nat)(neg:Bool)(x:V)(y:V)(H:Hp)(Q:VK):Prop
 |mk (p ps xs q:_) (_:y= .ref p) (_:(aN K H p xs\/bn K H p xs)) (_:aq H ps xs) (_:Rep H q x) (_:un+1+kq ps+dp q<cLine) (_:Q (.bl (if neg then !ps.contains q else ps.contains q)) H)
open Classical in
open Classical in
theorem yu:gG X (compareOp .NotIn) (M7 X.K X.A.units true):=by
 intro pins s σ H x y v u Q I rx ry h
 obtain⟨p,ps,xs,q,rfl,hq,rs,rq,hA,k⟩:=h
 cases ry
 rcases hq with hq|hq
 ·obtain⟨its,r,pl,hz⟩:=I.list hq
  obtain⟨h1,h2⟩:=Gr I (A:=X.A.in1) (n:=kq ps) (by rw[in1_units];omega) rq rx (Nat.le_refl _) rs r
  refine SeqAt.notIn_listAt (fun u=>decide (∃z,RelV z u/\Rep H q z)) pl.isList (fun w hw=>h1 w (by simpa using hw)) ⟨.bl _,H,I,rfl,?_⟩
  rw[show its.toArray.any (fun u=>decide (∃z,RelV z u/\Rep H q z))=its.any (fun u=>decide (∃z,RelV z u/\Rep H q z))by simp,h2]
  exact k
 ·obtain⟨its,r,pl,hz⟩:=I.tuple hq
  obtain⟨h1,h2⟩:=Gr I (A:=X.A.in1) (n:=kq ps) (by rw[in1_units];omega) rq rx (Nat.le_refl _) rs r
  refine SeqAt.notIn_tupleAt (fun u=>decide (∃z,RelV z u/\Rep H q z)) pl (fun w hw=>h1 w (by simpa using hw)) ⟨.bl _,H,I,rfl,?_⟩
  rw[show its.toArray.any (fun u=>decide (∃z,RelV z u/\Rep H q z))=its.any (fun u=>decide (∃z,RelV z u/\Rep H q z))by simp,h2]
  exact k
end
end L2
namespace SQ
open PySem PySem.W PyProof.Rows
structure Ord(lt:Nat->Nat->Bool):Prop where
 IG: ∀a b,lt a b=true->lt b a=false
 neg: ∀a b c,lt b a=false->lt c b=false->lt c a=false
section
variable{lt:Nat->Nat->Bool}
def le(lt:Nat->Nat->Bool)(a b:Nat):Prop:=lt b a=false
theorem Ord.refl(o:Ord lt)(a:Nat):le lt a a:=by
 unfold le
 cases h:lt a a with
 |false=>rfl
 |true=>rw[o.IG a a h]at h;cases h
theorem Ord.trans(o:Ord lt){a b c:Nat}(h1:le lt a b)(h2:le lt b c):le lt a c:=o.neg a b c h1 h2
theorem Ord.of_lt(o:Ord lt){a b:Nat}(h:lt a b=true):le lt a b:=o.IG a b h
def ev{α:Type}(lt:Nat->Nat->Bool):KasT α->α
 | .ret a=>a
 | .ask i j k=>ev lt (k (lt i j))
theorem gJ{α β:Type}(f:α->KasT β): ∀t:KasT α,ev lt (t.bind f)=ev lt (f (ev lt t))
 | .ret _=>rfl
 | .ask i j k=>gJ f (k (lt i j))
def ia{α:Type}(n:Nat):KasT α->Prop
 | .ret _=>True
 | .ask i j k=>i<n/\j<n/\ ∀b,ia n (k b)
abbrev at_(p:Array Nat)(i:Nat):Nat:=p.getD i 0
def Up(lt:Nat->Nat->Bool)(p:Array Nat)(n:Nat):Prop:= ∀x y,x<=y->y<n->le lt (at_ p x) (at_ p y)
def Dn(lt:Nat->Nat->Bool)(p:Array Nat)(n:Nat):Prop:= ∀x y,x<=y->y<n->le lt (at_ p y) (at_ p x)
theorem Up.succ(o:Ord lt){p:Array Nat}{n:Nat}(h:Up lt p n)(hn:1<=n)(e:lt (at_ p n) (at_ p (n-1))=false):Up lt p (n+1):=by
 intro x y hx hy
 by_cases Jy:y<n
 ·exact h x y hx Jy
 ·obtain rfl:y=n:=by omega
  by_cases hxn:x=y
  ·subst hxn;exact o.refl _
  ·exact o.trans (h x (y-1) (by omega) (by omega)) e
theorem Dn.succ(o:Ord lt){p:Array Nat}{n:Nat}(h:Dn lt p n)(hn:1<=n)(e:le lt (at_ p n) (at_ p (n-1))):Dn lt p (n+1):=by
 intro x y hx hy
 by_cases Jy:y<n
 ·exact h x y hx Jy
 ·obtain rfl:y=n:=by omega
  by_cases hxn:x=y
  ·subst hxn;exact o.refl _
  ·exact o.trans e (h x (y-1) (by omega) (by omega))
theorem tK(o:Ord lt){p:Array Nat}: ∀ (f n:Nat),1<=n->Up lt p n->Up lt p (ev lt (kas_asc p f n))/\n<=ev lt (kas_asc p f n)/\ev lt (kas_asc p f n)<=n+f
 |0,n,_,h=>⟨h,Nat.le_refl _,Nat.le_refl _⟩
 |f+1,n,hn,h=>by
  unfold kas_asc
  simp only[ev]
  cases e:lt (p.getD n 0) (p.getD (n-1) 0)with
  |true=>simp only[if_true,ev];exact⟨h,Nat.le_refl _,by omega⟩
  |false=>
   simp only[Bool.false_eq_true,if_false]
   obtain⟨h1,h2,h3⟩:=tK o f (n+1) (by omega) (h.succ o hn e)
   exact⟨h1,by omega,by omega⟩
theorem fm{p:Array Nat}{i j:Nat}(hj:j<=p.size)(k:Nat):at_ (kas_rev p i j) k=if i<=k/\k<j then at_ p (i+j-1-k)else at_ p k:=by
 unfold at_ kas_rev
 rw[Array.getD_eq_getD_getElem?,Array.getD_eq_getD_getElem?,Array.getD_eq_getD_getElem?,getElem?_mirror_all hj k]
 split<;>rfl
theorem qz(o:Ord lt){p:Array Nat}: ∀ (f n:Nat),ev lt (kas_asc p f n)=n+f\/lt (at_ p (ev lt (kas_asc p f n))) (at_ p (ev lt (kas_asc p f n)-1))=true
 |0,n=> .inl rfl
 |f+1,n=>by
  unfold kas_asc
  simp only[ev]
  cases e:lt (p.getD n 0) (p.getD (n-1) 0)with
  |true=>simp only[if_true,ev];exact .inr e
  |false=>
   simp only[Bool.false_eq_true,if_false]
   rcases qz o f (n+1)with h|h
   ·exact .inl (h.trans (by omega))
   ·exact .inr h
def Eqv(lt:Nat->Nat->Bool)(a b:Nat):Prop:=le lt a b/\le lt b a
theorem Ord.eqv(o:Ord lt){a b c:Nat}(h1:Eqv lt a b)(h2:Eqv lt b c):Eqv lt a c:=⟨o.trans h1.1 h2.1,o.trans h2.2 h1.2⟩
def HK(lt:Nat->Nat->Bool)(p:Array Nat)(n q:Nat):Prop:= ∀x,n-1-q<=x->x<n->Eqv lt (at_ p x) (at_ p (n-1))
theorem wJ(o:Ord lt){p:Array Nat}{n q:Nat}(hq:q+1<=n)(hn:n<=p.size)(hb:HK lt p n q)(k:Nat):Eqv lt (at_ (kas_rev p (n- (q+1)) n) k) (at_ p k):=by
 rw[fm hn]
 split
 ·rename_i h
  have h1:=hb k (by omega) (by omega)
  have h2:=hb (n- (q+1)+n-1-k) (by omega) (by omega)
  exact o.eqv h2 ⟨h1.2,h1.1⟩
 ·exact⟨o.refl _,o.refl _⟩
theorem Dn.eqv(o:Ord lt){p p':Array Nat}{n:Nat}(h:Dn lt p n)(e: ∀k,Eqv lt (at_ p' k) (at_ p k)):Dn lt p' n:=fun x y hx hy=>o.trans (e y).1 (o.trans (h x y hx hy) (e x).2)
theorem cL(p:Array Nat)(i j:Nat):(kas_rev p i j).Perm p:=mirror_perm _ _ _ _
theorem ko(o:Ord lt): ∀ (f:Nat) (p:Array Nat) (n q:Nat),q+1<=n->n+f<=p.size->Dn lt p n->HK lt p n q->
  (ev lt (kas_desc f p n q)).1.Perm p/\n<=(ev lt (kas_desc f p n q)).2.1/\(ev lt (kas_desc f p n q)).2.1<=n+f/\(ev lt (kas_desc f p n q)).2.2+1<=(ev lt (kas_desc f p n q)).2.1/\
   Dn lt (ev lt (kas_desc f p n q)).1 (ev lt (kas_desc f p n q)).2.1/\HK lt (ev lt (kas_desc f p n q)).1 (ev lt (kas_desc f p n q)).2.1 (ev lt (kas_desc f p n q)).2.2
 |0,p,n,q,hq,_,h,hb=>⟨Array.Perm.refl _,Nat.le_refl _,Nat.le_refl _,hq,h,hb⟩
 |f+1,p,n,q,hq,hz,h,hb=>by
  unfold kas_desc
  simp only[ev]
  cases e:lt (p.getD n 0) (p.getD (n-1) 0)with
  |true=>
   simp only[if_true]
   have e':le lt (at_ p n) (at_ p (n-1)):=o.of_lt e
   have one: ∀p':Array Nat,HK lt p' (n+1) 0:=fun p' x hx hy=>by
    obtain rfl:x=n:=by omega
    exact⟨o.refl _,o.refl _⟩
   by_cases Oj:q>0
   ·rw[if_pos Oj]
    have ek:=wJ o hq (by omega) hb
    have hs:(kas_rev p (n- (q+1)) n).size=p.size:=mirror_size _ _ _ _
    have d1:Dn lt (kas_rev p (n- (q+1)) n) (n+1):=Dn.eqv o (h.succ o (by omega) e') ek
    obtain⟨a1,a2,a3,a4,a5,a6⟩:=ko o f (kas_rev p (n- (q+1)) n) (n+1) 0 (by omega) (by rw[hs];omega) d1 (one _)
    exact⟨a1.trans (cL _ _ _),by omega,by omega,a4,a5,a6⟩
   ·rw[if_neg Oj]
    obtain⟨a1,a2,a3,a4,a5,a6⟩:=ko o f p (n+1) 0 (by omega) (by omega) (h.succ o (by omega) e') (one _)
    exact⟨a1,by omega,by omega,a4,a5,a6⟩
  |false=>
   simp only[Bool.false_eq_true,if_false,ev]
   cases e2:lt (p.getD (n-1) 0) (p.getD n 0)with
   |true=>simp only[if_true,ev];exact⟨Array.Perm.refl _,Nat.le_refl _,by omega,hq,h,hb⟩
   |false=>
    simp only[Bool.false_eq_true,if_false]
    have eq:Eqv lt (at_ p (n-1)) (at_ p n):=⟨e,e2⟩
    have bl:HK lt p (n+1) (q+1):=fun x hx hy=>by
     by_cases hxn:x=n
     ·subst hxn;exact⟨o.refl _,o.refl _⟩
     ·exact o.eqv (hb x (by omega) (by omega)) eq
    obtain⟨a1,a2,a3,a4,a5,a6⟩:=ko o f p (n+1) (q+1) (by omega) (by omega) (h.succ o (by omega) e2) bl
    exact⟨a1,by omega,by omega,a4,a5,a6⟩
theorem GY(o:Ord lt){p:Array Nat}{n:Nat}(hn:n<=p.size)(h:Dn lt p n):Up lt (kas_rev p 0 n) n:=fun x y hx hy=>by
 rw[fm hn,fm hn,if_pos ⟨by omega,by omega⟩,if_pos ⟨by omega,by omega⟩]
 exact h _ _ (by omega) (by omega)
structure zr(lt:Nat->Nat->Bool)(p0:Array Nat)(nrem lo:Nat)(r:Nat×Array Nat):Prop where
 perm:r.2.Perm p0
 lo:lo<=r.1
 hi:r.1<=nrem
 up:Up lt r.2 r.1
theorem sT(o:Ord lt){p:Array Nat}{n nrem:Nat}(hn:1<=n)(hr:n<=nrem)(hz:nrem<=p.size)(h:Dn lt p n):zr lt p nrem n (ev lt (kas_tail3 n nrem p)):=by
 unfold kas_tail3
 rw[gJ]
 obtain⟨h1,h2,h3⟩:=tK o (p:=kas_rev p 0 n) (nrem-n) n hn (GY o (by omega) h)
 exact⟨cL _ _ _,h2,by show ev lt (kas_asc (kas_rev p 0 n) (nrem-n) n)<=_;omega,h1⟩
theorem jX(o:Ord lt){p:Array Nat}{n nrem:Nat}(hr:n<nrem)(hz:nrem<=p.size)(h:Dn lt p (n+1)):zr lt p nrem 1 (ev lt (kas_descPart n nrem p)):=by
 unfold kas_descPart
 rw[gJ]
 have bl:HK lt p (n+1) 0:=fun x hx hy=>by
  obtain rfl:x=n:=by omega
  exact⟨o.refl _,o.refl _⟩
 obtain⟨a1,a2,a3,a4,a5,a6⟩:=ko o (nrem- (n+1)) p (n+1) 0 (by omega) (by omega) h bl
 generalize ev lt (kas_desc (nrem- (n+1)) p (n+1) 0)=r at a1 a2 a3 a4 a5 a6
 obtain⟨p1,m,q⟩:=r
 have hs:p1.size=p.size:=a1.size_eq
 dsimp only at a1 a2 a3 a4 a5 a6⊢
 by_cases hq:q>0
 ·rw[if_pos hq]
  have hs2:(kas_rev p1 (m- (q+1)) m).size=p1.size:=mirror_size _ _ _ _
  have:=sT o (p:=kas_rev p1 (m- (q+1)) m) (n:=m) (nrem:=nrem) (by omega) (by omega) (by omega) (Dn.eqv o a5 (wJ o a4 (by omega) a6))
  exact⟨this.perm.trans ((cL _ _ _).trans a1),by have:=this.lo;omega,this.hi,this.up⟩
 ·rw[if_neg hq]
  have:=sT o (p:=p1) (n:=m) (nrem:=nrem) (by omega) (by omega) (by omega) a5
  exact⟨this.perm.trans a1,by have:=this.lo;omega,this.hi,this.up⟩
theorem zA(o:Ord lt){p:Array Nat}{nrem:Nat}(h1:1<=nrem)(hz:nrem<=p.size):zr lt p nrem 1 (ev lt (kas_count nrem p)):=by
 unfold kas_count
 rw[gJ]
 have u1:Up lt p 1:=fun x y hx hy=>by
  obtain rfl:x=0:=by omega
  obtain rfl:y=0:=by omega
  exact o.refl _
 obtain⟨a1,a2,a3⟩:=tK o (p:=p) (nrem-1) 1 (Nat.le_refl _) u1
 have a4:=qz o (p:=p) (nrem-1) 1
 generalize ev lt (kas_asc p (nrem-1) 1)=n at a1 a2 a3 a4
 by_cases hn:(n==nrem)=true
 ·rw[if_pos hn]
  have he:n=nrem:=by simpa using hn
  exact⟨Array.Perm.refl _,a2,Nat.le_of_eq he,a1⟩
 ·rw[if_neg hn]
  have hne:n≠nrem:=fun z=>hn (by simp[z])
  have hlt:lt (at_ p n) (at_ p (n-1))=true:=by
   rcases a4 with a4|a4
   ·omega
   ·exact a4
  by_cases hn1:n>1
  ·rw[if_pos hn1]
   simp only[ev]
   cases e:lt (p.getD 0 0) (p.getD (n-1) 0)with
   |true=>simp only[if_true,ev];exact⟨Array.Perm.refl _,by omega,by omega,a1⟩
   |false=>
    simp only[Bool.false_eq_true,if_false]
    have hs:(kas_rev p 0 n).size=p.size:=mirror_size _ _ _ _
    have all: ∀x,x<n->Eqv lt (at_ p x) (at_ p (n-1)):=fun x hx=>⟨a1 x (n-1) (by omega) (by omega),o.trans e (a1 0 x (by omega) hx)⟩
    have d:Dn lt (kas_rev p 0 n) (n+1):=by
     intro x y hx hy
     have ex: ∀k,k<n->Eqv lt (at_ (kas_rev p 0 n) k) (at_ p (n-1)):=fun k hk=>by
      rw[fm (by omega),if_pos ⟨by omega,hk⟩]
      exact all _ (by omega)
     by_cases Jy:y<n
     ·exact o.trans (ex y Jy).1 (ex x (by omega)).2
     ·obtain rfl:y=n:=by omega
      by_cases hxy:x=y
      ·subst hxy;exact o.refl _
      ·have e1:at_ (kas_rev p 0 y) y=at_ p y:=by rw[fm (by omega),if_neg (by omega)]
       rw[e1]
       exact o.trans (o.of_lt hlt) (ex x (by omega)).2
    have:=jX o (p:=kas_rev p 0 n) (n:=n) (nrem:=nrem) (by omega) (by omega) d
    exact⟨this.perm.trans (cL _ _ _),this.lo,this.hi,this.up⟩
  ·rw[if_neg hn1]
   obtain rfl:n=1:=by omega
   have d:Dn lt p (1+1):=by
    intro x y hx hy
    by_cases hxy:x=y
    ·subst hxy;exact o.refl _
    ·obtain rfl:x=0:=by omega
     obtain rfl:y=1:=by omega
     exact o.of_lt hlt
   exact jX o (by omega) hz d
theorem lZ(o:Ord lt){p:Array Nat}{k:Nat}(h:Up lt p k): ∀ (f l r:Nat),l<=r->r<=k->r-l<=f->(∀x,x<l->le lt (at_ p x) (at_ p k))->(∀x,r<=x->x<k->le lt (at_ p k) (at_ p x))->
  ev lt (kas_place p k f l r)<=k/\(∀x,x<ev lt (kas_place p k f l r)->le lt (at_ p x) (at_ p k))/\(∀x,ev lt (kas_place p k f l r)<=x->x<k->le lt (at_ p k) (at_ p x))
 |0,l,r,h1,h2,h3,h4,h5=>by
  obtain rfl:l=r:=by omega
  exact⟨h2,h4,h5⟩
 |f+1,l,r,h1,h2,h3,h4,h5=>by
  unfold kas_place
  by_cases hlr:l>=r
  ·rw[if_pos hlr]
   obtain rfl:l=r:=by omega
   exact⟨h2,h4,h5⟩
  ·rw[if_neg hlr]
   simp only[ev]
   cases e:lt (p.getD k 0) (p.getD ((l+r) /2) 0)with
   |true=>
    simp only[if_true]
    exact lZ o h f l ((l+r) /2) (by omega) (by omega) (by omega) h4 fun x hx hk=>o.trans (o.of_lt e) (h _ _ hx hk)
   |false=>
    simp only[Bool.false_eq_true,if_false]
    exact lZ o h f ((l+r) /2+1) r (by omega) h2 (by omega) (fun x hx=>o.trans (h x ((l+r) /2) (by omega) (by omega)) e) h5
theorem xh{p:Array Nat}{src d:Nat}(hs:src<p.size)(hd:d<=src)(k:Nat):at_ (bubble p src d) k=if k=src-d then at_ p src else if src-d<k/\k<=src then at_ p (k-1)else at_ p k:=by
 unfold at_
 simp only[Array.getD_eq_getD_getElem?]
 rw[getElem?_bubble hs d hd k]
 repeat' split
 all_goals rfl
theorem zx(o:Ord lt): ∀ (f:Nat) (p:Array Nat) (k:Nat),k+f=p.size->Up lt p k->(ev lt (kas_bin f p k)).Perm p/\Up lt (ev lt (kas_bin f p k)) p.size
 |0,p,k,hz,h=>by
  obtain rfl:k=p.size:=by omega
  exact⟨Array.Perm.refl _,h⟩
 |f+1,p,k,hz,h=>by
  unfold kas_bin
  rw[gJ]
  obtain⟨a1,a2,a3⟩:=lZ o h k 0 k (by omega) (Nat.le_refl _) (by omega) (fun x hx=>absurd hx (by omega)) fun x hx hk=>absurd hx (by omega)
  generalize ev lt (kas_place p k k 0 k)=l at a1 a2 a3
  have hs:(bubble p k (k-l)).size=p.size:=bubble_size _ _ _
  have ab:=xh (p:=p) (src:=k) (d:=k-l) (by omega) (by omega)
  have up:Up lt (bubble p k (k-l)) (k+1):=by
   intro x y hx hy
   rw[ab x,ab y]
   have e:k- (k-l)=l:=by omega
   rw[e]
   by_cases y1:y=l
   ·rw[if_pos y1]
    by_cases x1:x=l
    ·rw[if_pos x1];exact o.refl _
    ·rw[if_neg x1,if_neg (by omega)];exact a2 x (by omega)
   ·rw[if_neg y1]
    by_cases y2:l<y/\y<=k
    ·rw[if_pos y2]
     by_cases x1:x=l
     ·rw[if_pos x1];exact a3 (y-1) (by omega) (by omega)
     ·rw[if_neg x1]
      by_cases x2:l<x/\x<=k
      ·rw[if_pos x2];exact h _ _ (by omega) (by omega)
      ·rw[if_neg x2];exact h _ _ (by omega) (by omega)
    ·rw[if_neg y2,if_neg (by omega),if_neg (by omega)]
     exact h _ _ hx (by omega)
  obtain⟨b1,b2⟩:=zx o f (bubble p k (k-l)) (k+1) (by omega) up
  rw[hs]at b2
  exact⟨b1.trans (bubble_perm _ _ _),b2⟩
theorem Ed(o:Ord lt){n:Nat}(h1:1<=n):(ev lt (kas_sort n)).toList.Perm (List.range n)/\Up lt (ev lt (kas_sort n)) n:=by
 unfold kas_sort
 rw[gJ]
 have c:=zA o (p:=(List.range n).toArray) (nrem:=n) h1 (by simp)
 generalize ev lt (kas_count n (List.range n).toArray)=r at c
 have hs:r.2.size=n:=by rw[c.perm.size_eq];simp
 have l1:=c.lo
 have l2:=c.hi
 have pl:r.2.toList.Perm (List.range n):=by
  have:=Array.perm_iff_toList_perm.mp c.perm
  simpa using this
 by_cases h:r.1<n
 ·rw[if_pos h]
  have e:max r.1 1=r.1:=by omega
  rw[e]
  obtain⟨b1,b2⟩:=zx o (n-r.1) r.2 r.1 (by omega) c.up
  rw[hs]at b2
  exact⟨(Array.perm_iff_toList_perm.mp b1).trans pl,b2⟩
 ·rw[if_neg h]
  have e:r.1=n:=by omega
  have u:=c.up
  rw[e]at u
  exact⟨pl,u⟩
def In(N:Nat)(p:Array Nat):Prop:= ∀i,at_ p i<N
theorem In.perm{N:Nat}{p p':Array Nat}(h:In N p)(e:p'.Perm p)(h0:0<N):In N p':=fun i=>by
 unfold at_
 rw[Array.getD_eq_getD_getElem?]
 cases q:p'[i]? with
 |none=>exact h0
 |some v=>
  have hm:v∈p':=Array.mem_of_getElem? q
  have hm2:v∈p:=e.mem_iff.mp hm
  obtain⟨j,hj,ej⟩:=Array.mem_iff_getElem.mp hm2
  have:=h j
  unfold at_ at this
  rw[Array.getD_eq_getD_getElem?,Array.getElem?_eq_getElem hj,ej]at this
  exact this
theorem kT{N:Nat}{p:Array Nat}(h:In N p): ∀f n,ia N (kas_asc p f n)
 |0,n=>trivial
 |f+1,n=>by
  unfold kas_asc
  refine⟨h _,h _,fun b=> ?_⟩
  dsimp only
  split
  ·trivial
  ·exact kT h f (n+1)
theorem gH{N:Nat}(h0:0<N): ∀ (f:Nat) (p:Array Nat) (n q:Nat),In N p->ia N (kas_desc f p n q)
 |0,p,n,q,h=>trivial
 |f+1,p,n,q,h=>by
  unfold kas_desc
  refine⟨h _,h _,fun b=> ?_⟩
  dsimp only
  split
  ·split
   ·exact gH h0 f _ _ _ (h.perm (cL _ _ _) h0)
   ·exact gH h0 f _ _ _ h
  ·refine⟨h _,h _,fun b=> ?_⟩
   dsimp only
   split
   ·trivial
   ·exact gH h0 f _ _ _ h
def All{α:Type}(G:α->Prop):KasT α->Prop
 | .ret a=>G a
 | .ask _ _ k=> ∀b,All G (k b)
theorem dh{α β:Type}{n:Nat}{f:α->KasT β}{G:α->Prop}: ∀t:KasT α,ia n t->All G t->(∀a,G a->ia n (f a))->ia n (t.bind f)
 | .ret a,_,g,h=>h a g
 | .ask i j k,⟨h1,h2,h3⟩,g,h=>⟨h1,h2,fun b=>dh (k b) (h3 b) (g b) h⟩
theorem all_bind{α β:Type}{f:α->KasT β}{G:α->Prop}{G':β->Prop}: ∀t:KasT α,All G t->(∀a,G a->All G' (f a))->All G' (t.bind f)
 | .ret a,g,h=>h a g
 | .ask i j k,g,h=>fun b=>all_bind (k b) (g b) h
theorem all_true{α:Type}: ∀t:KasT α,All (fun _=>True) t
 | .ret _=>trivial
 | .ask _ _ k=>fun b=>all_true (k b)
theorem ga{N:Nat}(h0:0<N): ∀ (f:Nat) (p:Array Nat) (n q:Nat),In N p->All (fun r:Array Nat×Nat×Nat=>In N r.1) (kas_desc f p n q)
 |0,p,n,q,h=>h
 |f+1,p,n,q,h=>by
  unfold kas_desc
  intro b
  dsimp only
  split
  ·split
   ·exact ga h0 f _ _ _ (h.perm (cL _ _ _) h0)
   ·exact ga h0 f _ _ _ h
  ·intro b
   dsimp only
   split
   ·exact h
   ·exact ga h0 f _ _ _ h
theorem kU{N:Nat}(h0:0<N){p:Array Nat}(h:In N p)(n nrem:Nat):ia N (kas_tail3 n nrem p)/\All (fun r:Nat×Array Nat=>In N r.2) (kas_tail3 n nrem p):=by
 unfold kas_tail3
 have h':=h.perm (cL p 0 n) h0
 exact⟨dh _ (kT h' _ _) (all_true _) fun _ _=>trivial,all_bind _ (all_true _) fun _ _=>h'⟩
theorem ff{N:Nat}(h0:0<N){p:Array Nat}(h:In N p)(n nrem:Nat):ia N (kas_descPart n nrem p)/\All (fun r:Nat×Array Nat=>In N r.2) (kas_descPart n nrem p):=by
 unfold kas_descPart
 have k: ∀r:Array Nat×Nat×Nat,In N r.1->ia N (if r.2.2>0 then kas_tail3 r.2.1 nrem (kas_rev r.1 (r.2.1- (r.2.2+1)) r.2.1)else kas_tail3 r.2.1 nrem r.1)/\All (fun r:Nat×Array Nat=>In N r.2) (if r.2.2>0 then kas_tail3 r.2.1 nrem (kas_rev r.1 (r.2.1- (r.2.2+1)) r.2.1)else kas_tail3 r.2.1 nrem r.1):=fun r hr=>by
  split
  ·exact kU h0 (hr.perm (cL _ _ _) h0) _ _
  ·exact kU h0 hr _ _
 exact⟨dh _ (gH h0 _ _ _ _ h) (ga h0 _ _ _ _ h) fun r hr=>(k r hr).1,all_bind _ (ga h0 _ _ _ _ h) fun r hr=>(k r hr).2⟩
theorem tL{N:Nat}(h0:0<N){p:Array Nat}(h:In N p)(nrem:Nat):ia N (kas_count nrem p)/\All (fun r:Nat×Array Nat=>In N r.2) (kas_count nrem p):=by
 unfold kas_count
 have k: ∀n:Nat,(fun t:KasT (Nat×Array Nat)=>ia N t/\All (fun r:Nat×Array Nat=>In N r.2) t) (if(n==nrem)=true then .ret (n,p)else if n>1 then .ask (p.getD 0 0) (p.getD (n-1) 0) fun c=>if c=true then .ret (n,p)else kas_descPart n nrem (kas_rev p 0 n)else kas_descPart n nrem p):=fun n=>by
  dsimp only
  split
  ·exact⟨trivial,h⟩
  ·split
   ·refine⟨⟨h _,h _,fun b=> ?_⟩,fun b=> ?_⟩<;>dsimp only<;>split
    ·trivial
    ·exact(ff h0 (h.perm (cL _ _ _) h0) _ _).1
    ·exact h
    ·exact(ff h0 (h.perm (cL _ _ _) h0) _ _).2
   ·exact ff h0 h _ _
 exact⟨dh _ (kT h _ _) (all_true _) fun n _=>(k n).1,all_bind _ (all_true _) fun n _=>(k n).2⟩
theorem ii{N:Nat}{p:Array Nat}(h:In N p)(k:Nat): ∀f l r,ia N (kas_place p k f l r)
 |0,l,r=>trivial
 |f+1,l,r=>by
  unfold kas_place
  split
  ·trivial
  ·refine⟨h _,h _,fun b=> ?_⟩
   dsimp only
   split
   ·exact ii h k f _ _
   ·exact ii h k f _ _
theorem qA{N:Nat}(h0:0<N): ∀ (f:Nat) (p:Array Nat) (k:Nat),In N p->ia N (kas_bin f p k)
 |0,p,k,h=>trivial
 |f+1,p,k,h=>by
  unfold kas_bin
  exact dh _ (ii h _ _ _ _) (all_true _) fun l _=>qA h0 f _ _ (h.perm (bubble_perm _ _ _) h0)
theorem xg{n:Nat}(h1:1<=n):ia n (kas_sort n):=by
 unfold kas_sort
 have h:In n (List.range n).toArray:=fun i=>by
  unfold at_
  rw[Array.getD_eq_getD_getElem?,List.getElem?_toArray]
  by_cases hi:i<n
  ·rw[List.getElem?_range hi];exact hi
  ·rw[List.getElem?_eq_none (by simpa using Nat.le_of_not_lt hi)];exact h1
 obtain⟨a,b⟩:=tL (by omega) h n
 refine dh _ a b fun r hr=> ?_
 split
 ·exact qA (by omega) _ _ _ hr
 ·trivial
theorem Fh{α:Type}{lt:Nat->Nat->Bool}{n:Nat}{cmp:Nat->Nat->(Bool->Shared->Prop)->Shared->Prop}{s:Shared}(hc: ∀i j C,i<n->j<n->C (lt i j) s->cmp i j C s){Q:α->Shared->Prop}: ∀t:KasT α,ia n t->Q (ev lt t) s->t.kasWp cmp Q s
 | .ret a,_,q=>q
 | .ask i j k,⟨h1,h2,h3⟩,q=>hc i j _ h1 h2 (Fh hc (k (lt i j)) (h3 _) q)
end
end SQ
namespace L2
open PySem PySem.Spec PyProof.Rows PySem.W K2
def gL(h:Heap)(L:Addr):List (Addr×Obj):=(List.range h.objs.size).filterMap fun a=>if a=L then none else(h.get? a).map fun o=>(a,o)
theorem dz{h:Heap}{L a:Addr}{o:Obj}:(a,o)∈gL h L↔h.get? a=some o/\a≠L:=by
 unfold gL
 rw[List.mem_filterMap]
 constructor
 ·rintro⟨b,hb,e⟩
  by_cases hL:b=L
  ·rw[if_pos hL]at e;cases e
  ·rw[if_neg hL]at e
   cases q:h.get? b with
   |none=>rw[q]at e;cases e
   |some u=>rw[q]at e;cases e;exact⟨q,hL⟩
 ·rintro⟨q,hL⟩
  exact⟨a,List.mem_range.mpr (Heap.lt_size q),by rw[if_neg hL,q];rfl⟩
def pI:Heap:= {}
theorem lS(a:Addr):pI.get? a=none:=by unfold pI Heap.get?;simp
theorem yd(h:Heap)(L:Addr):News pI L h (gL h L):=fun p hp=>by
 obtain⟨a,o⟩:=p
 obtain⟨q,hL⟩:=dz.mp hp
 exact⟨q,hL,lS a⟩
theorem bw.has{P:Program}{w:World}{H:Hp}{h:Heap}{a:Addr}: ∀ {o:HO},bw P w H h a o-> ∃u,h.get? a=some u
 | .lst xs,x=>by obtain⟨_,_,_,_,e⟩:=x;exact⟨_,e⟩
 | .tup xs,x=>by obtain⟨_,_,_,o,e,_⟩:=x;exact⟨_,e⟩
 | .dK kvs,x=>by obtain⟨_,_,_,_,o,_,_,e,_⟩:=x;exact⟨_,e⟩
 | .dT kvs,x=>by obtain⟨_,_,_,_,o,_,_,e,_⟩:=x;exact⟨_,e⟩
 | .set S n,x=>by obtain⟨o,_,_,_,e,_⟩:=x;exact⟨_,e⟩
 | .ins C dx fs,x=>by obtain⟨_,_,_,e,_⟩:=x;exact⟨_,e⟩
 | .own y,x=>by obtain⟨_,e⟩:=x;exact⟨_,e⟩
 | .xd fs,x=>by obtain⟨_,⟨_,_,_,e,_⟩,_⟩:=x;exact⟨_,e⟩
 | .yG lo hi,x=>by obtain⟨_,_,_,e⟩:=x;exact⟨_,e⟩
 | .fY ob u,x=>by obtain⟨e,_⟩:=x;exact⟨_,e⟩
 | .Ek ps,x=>⟨_,(show h.get? a=some _ from x)⟩
 | .met f y,x=>⟨_,(show h.get? a=some _ from x)⟩
 | .ext φ,x=>by obtain⟨_,⟨_,e⟩,_⟩:=x;exact⟨_,e⟩
theorem Gw{h:Heap}{a:Addr}{m m':Str->Option Value}(x:h.Ns a m)(y:h.Ns a m'):m=m':=by
 obtain⟨o,es,ep,e,d,_,f⟩:=x
 obtain⟨o',es',EG,e',d',_,f'⟩:=y
 rw[e]at e';cases e'
 rw[d]at d';cases d'
 funext n;rw[<-f,f']
section
variable{X:Cx}{pins:List (Addr×Obj)}{σ:St}{H:Hp}{s:Shared}
theorem Inv.Fw{m:Str->Option Value}{D:Addr}{h':Heap}{ys:List V}{us:List Value}{c:Nat}(I:Inv X pins σ H s)(hm:s.heap.Ns X.env.locals m)(F:h'.Ns X.env.locals m)(N: ∀p∈gL s.heap X.env.locals,h'.get? p.1=some p.2)
  (hD: ∀p∈gL s.heap X.env.locals,p.1<D)(hDL:D≠X.env.locals)(eD:h'.get? D=some (seqObj "list" us.toArray c))(hz:ys.length<=sizeLine)(r:Vals ys us):
  H D=none/\Inv X pins σ (upd H D (.lst ys)) {s with heap:=h'}:=by
 have hn: ∀b,H b≠none->b≠X.env.locals:=fun b hb z=>hb (by rw[z];exact I.free)
 have kp: ∀b o,b≠X.env.locals->s.heap.get? b=some o->h'.get? b=some o:=fun b o hb e=>N (b,o) (dz.mpr ⟨e,hb⟩)
 have fr:H D=none:=by
  cases q:H D with
  |none=>rfl
  |some u=>
   obtain⟨o,e⟩:=(I.hok D u q).has
   exact absurd (hD (D,o) (dz.mpr ⟨e,hDL⟩)) (Nat.lt_irrefl _)
 have RP: ∀b o,s.heap.get? b=some o->b≠D:=fun b o e z=>by
  subst z
  exact absurd (hD (b,o) (dz.mpr ⟨e,hDL⟩)) (Nat.lt_irrefl _)
 refine⟨fr,?_⟩
 refine I.step (g':=s.gens) (d':=s.drawn) (t':=s.toks) (ch:= []) (fun b hb=>nomatch hb) (fun b o hL _ _ e _=>kp b o hL e) (fun b o hL _ _ e _=>⟨o.slots,kp b o hL e⟩)
  (fun b o _ e n0=>by rw[ak (RP b o e)];exact n0) (fun b o _ e=> ?_) (fun b xs e=>by rw[ak (ay e fr)];exact e) (fun b o u e=>by rw[ak (ay e fr)];exact e) (fun b ps e=>⟨#[],by rw[ak (ay e fr),e];simp⟩)
  (fun m' hm'=>by rw[<-Gw hm hm'];exact F) (fun a o e=> ?_) I.bare
 ·by_cases hb:b=X.env.locals
  ·subst hb;obtain⟨o',_,_,e',_⟩:=F;exact⟨o',e'⟩
  ·exact⟨o,kp b o hb e⟩
 ·by_cases ha:a=D
  ·subst ha
   rw[ac]at e
   cases e
   exact⟨hz,us,c,r,eD⟩
  ·rw[ak ha]at e
   refine(I.hok a o e).stay (fun b u hb q=>kp b u (hn b ?_) q) (fun b q=>by rw[ak (ay q fr)];exact q) fun b xs q=>by rw[ak (ay q fr)];exact q
   rcases hb with rfl|hb
   ·rw[e];simp
   ·rw[hb];simp
end
def lexLt:List Int->List Int->Bool
 |a::as,b::bs=>if a=b then lexLt as bs else decide (a<b)
 |_,_=>false
theorem lQ: ∀as bs:List Int,lexLt as bs=true->lexLt bs as=false
 | [],_,h=>by cases h
 |_::_,[],h=>by cases h
 |a::as,b::bs,h=>by
  simp only[lexLt]at h⊢
  by_cases e:a=b
  ·rw[if_pos e]at h;rw[if_pos e.symm];exact lQ as bs h
  ·rw[if_neg e]at h
   rw[if_neg fun z=>e z.symm]
   have:=of_decide_eq_true h
   exact decide_eq_false (by omega)
theorem nQ: ∀as bs cs:List Int,as.length=bs.length->bs.length=cs.length->lexLt bs as=false->lexLt cs bs=false->lexLt cs as=false
 | [],_,[],_,_,_,_=>rfl
 | [],_,_::_,_,_,_,_=>rfl
 |a::as,b::bs,c::cs,h1,h2,e1,e2=>by
  simp only[lexLt]at e1 e2⊢
  simp only[List.length_cons,Nat.add_right_cancel_iff]at h1 h2
  by_cases x:b=a
  ·rw[if_pos x]at e1
   by_cases y:c=b
   ·rw[if_pos y]at e2
    rw[if_pos (y.trans x)]
    exact nQ as bs cs h1 h2 e1 e2
   ·rw[if_neg y]at e2
    rw[if_neg (by rw[<-x];exact y),<-x]
    exact e2
  ·rw[if_neg x]at e1
   have d1:=of_decide_eq_false e1
   by_cases y:c=b
   ·rw[if_pos y]at e2
    rw[if_neg (by rw[y];exact x),y]
    exact e1
   ·rw[if_neg y]at e2
    have d2:=of_decide_eq_false e2
    rw[if_neg (by omega)]
    exact decide_eq_false (by omega)
 |_::_,[],_,h1,_,_,_=>by simp at h1
 |_::_,_::_,[],_,h2,_,_=>by simp at h2
section
variable{prog:Program}{w:World}{A:Around}{E:Value->Shared->Prop}{s:Shared}
theorem DE(f:Bool){x y:Int}{t u:Tok}{Q:Bool->Shared->Prop}(h:Q (decide (x<y)) s):wpAny (model prog w) A (oneLt' f (.int x t) (.int y u)) Q E s:=by
 cases f with
 |true=>exact oneLt_int h
 |false=>exact kat_one _ _ (lt_int h)
theorem ut{b:Bool}{Q:Bool->Shared->Prop}: ∀ (ns ms:List Int) (us ws:List Value) (i:Nat),ns.length=ms.length->Vals (ns.map V.int) us->Vals (ms.map V.int) ws->Q (lexLt ns ms) s->KatLex prog w A b false Q (us.zip ws) i s
 | [],[],_,_,_,_,hu,hw,q=>by cases hu;cases hw;exact kat_nil q
 |n::ns,m::ms,_,_,i,hl,hu,hw,q=>by
  cases hu with
  |cons hu1 Jv=>
  cases hw with
  |cons hw1 Jw=>
  obtain⟨t,rfl⟩:=hu1
  obtain⟨t',rfl⟩:=hw1
  simp only[List.length_cons,Nat.add_right_cancel_iff]at hl
  refine kat_cons (SeqAt.EqAt.int_int n t m t' prog w _ _ ?_)
  simp only[lexLt]at q
  by_cases e:n=m
  ·rw[if_pos e]at q
   rw[show(n==m)=true by simp[e]]
   exact kat_yes (ut ns ms _ _ (i+1) hl Jv Jw q)
  ·rw[if_neg e]at q
   rw[show(n==m)=false by simp[e]]
   exact kat_no (DE _ q)
 | [],_::_,_,_,_,h,_,_,_=>by simp at h
 |_::_,[],_,_,_,h,_,_,_=>by simp at h
end
def EL:Option K2.T->List Atom
 |none=> []
 |some x=> [.str x]
def tupI(hd:Option K2.T)(ns:List Int):PV:= .tup ((EL hd++ns.map Atom.int).map PV.at)
theorem cS{H:Hp}: ∀ {ns:List Int} {vs:List V},aq H ((ns.map Atom.int).map PV.at) vs->vs=ns.map V.int
 | [],vs,r=>by simp only[List.map_nil,aq]at r;exact r
 |n::ns,vs,r=>by
  simp only[List.map_cons,aq]at r
  obtain⟨v,t,rfl,h1,h2⟩:=r
  simp only[Rep]at h1
  rw[h1,cS h2];rfl
theorem Bu{H:Hp}{hd:Option K2.T}{ns:List Int}{v:V}(r:Rep H (tupI hd ns) v): ∃a,v= .ref a/\H a=some (.tup ((match hd with|none=> []|some x=> [V.str (S x)])++ns.map V.int)):=by
 obtain⟨a,vs,rfl,h,rs⟩:=Rep.tup r
 refine⟨a,rfl,?_⟩
 cases hd with
 |none=>rw[h,cS rs];rfl
 |some x=>
  simp only[EL,List.singleton_append,List.map_cons,aq]at rs
  obtain⟨y,t,rfl,h1,h2⟩:=rs
  simp only[Rep]at h1
  rw[h,h1.1,cS h2];rfl
end L2
namespace L2
open PySem PySem.Spec PyProof.Rows K2
def kN:HO->Prop
 | .lst _=>True
 | .dK _=>True
 | .dT _=>True
 |_=>False
section
variable{X:Cx}{pins:List (Addr×Obj)}{σ:St}{H:Hp}{s:Shared}{a:Addr}{u:HO}{o:Obj}
theorem fH.sub{P:Program}{w:World}{H H':Hp}{h:Heap}(x:fH P w H h)(ha: ∀v,H' a=some v->bw P w H' h a v)(same: ∀b,b≠a->H' b=H b)(no: ∀y,H a≠some (.own y))(nt: ∀xs,H a≠some (.tup xs)):fH P w H' h:=fun b v e=>by
 by_cases hb:b=a
 ·subst hb;exact ha v e
 ·rw[same b hb]at e
  exact(x b v e).stay (fun _ _ _ q=>q) (fun c q=>by rw[same c (fun z=>no b (by rw[<-z];exact q))];exact q) fun c xs q=>by rw[same c (fun z=>nt xs (by rw[<-z];exact q))];exact q
theorem uf(hu:kN u)(e:H a=some u):(∀y,H a≠some (.own y))/\(∀xs,H a≠some (.tup xs))/\(∀o v,H a≠some (.fY o v))/\(∀ps,H a≠some (.Ek ps)):=by
 rw[e]
 cases u<;>first|exact(show False from hu).elim|exact⟨fun _ z=>(by cases z),fun _ z=>(by cases z),fun _ _ z=>(by cases z),fun _ z=>(by cases z)⟩
theorem rV{P:Program}{w:World}{H H':Hp}{h:Heap}(hu:kN u)(x:bw P w H h a u)(ht: ∀b xs,H b=some (.tup xs)->H' b=some (.tup xs)):bw P w H' h a u:=by
 cases u with
 |lst xs=>exact x
 |dK kvs=>exact x
 |dT kvs=>
  obtain⟨z,y,xs,r,ob,es,ep,e,c⟩:=x
  exact⟨z,y,xs,Paired.Dm r fun p q z=>⟨z.1,ht _ _ z.2.1,z.2.2⟩,ob,es,ep,e,c⟩
 |_=>exact hu.elim
theorem Inv.hold(I:Inv X pins σ H s)(hu:kN u)(e:H a=some u): ∃o,s.heap.get? a=some o/\Inv X pins σ (upd H a (.fY o u)) s/\ ∀o' v,X.H₀ a≠some (.fY o' v):=by
 obtain⟨o,ho⟩:=(I.hok a u e).has
 obtain⟨n1,n2,n3,n4⟩:=uf hu e
 have ne: ∀b,H b=none->b≠a:=fun b hb z=>by subst z;rw[e]at hb;cases hb
 have hok:fH X.prog X.w (upd H a (.fY o u)) s.heap:=I.hok.sub (a:=a) (fun v q=>by
  rw[ac]at q;cases q
  exact⟨ho,rV hu (I.hok a u e) fun b xs q=>by rw[ak (fun z=>n2 xs (by rw[<-z];exact q))];exact q⟩) (fun b hb=>ak hb) n1 n2
 have f0: ∀o' v,X.H₀ a≠some (.fY o' v):=fun o' v z=>n3 o' v (I.base.ik a o' v z)
 refine⟨o,ho,⟨I.ok,I.os,I.bare,?_,I.loc,I.cell,?_,?_,?_,hok,I.len⟩,f0⟩
 ·refine⟨I.base.keep,I.base.slot,fun b ob h1 h2 h3=> ?_,I.base.there,fun b xs q=> ?_,fun b o' v q=> ?_,fun b ps q=> ?_⟩
  ·have:=I.base.free b ob h1 h2 h3
   rw[ak (ne b this)];exact this
  ·have:=I.base.tups b xs q
   rw[ak (fun z=>n2 xs (by rw[<-z];exact this))];exact this
  ·have:=I.base.ik b o' v q
   rw[ak (fun z=>n3 o' v (by rw[<-z];exact this))];exact this
  ·obtain⟨more,this⟩:=I.base.jS b ps q
   exact⟨more,by rw[ak (fun z=>n4 _ (by rw[<-z];exact this))];exact this⟩
 ·rw[ak (ne _ I.free)];exact I.free
 ·exact fun x c q=>by rw[ak (ne _ (I.cQ x c q))];exact I.cQ x c q
 ·exact fun p hp=>by
   obtain⟨h1,h2,h3⟩:=I.pin p hp
   exact⟨h1,by rw[ak (ne _ h2)];exact h2,h3⟩
theorem Inv.wm(I:Inv X pins σ H s)(hu:kN u)(e:H a=some (.fY o u))(f0: ∀o' v,X.H₀ a≠some (.fY o' v)):Inv X pins σ (upd H a u) s:=by
 have ne: ∀b,H b=none->b≠a:=fun b hb z=>by subst z;rw[e]at hb;cases hb
 have nt: ∀xs,H a≠some (.tup xs):=fun xs z=>by rw[e]at z;cases z
 have no: ∀y,H a≠some (.own y):=fun y z=>by rw[e]at z;cases z
 have hok:fH X.prog X.w (upd H a u) s.heap:=I.hok.sub (a:=a) (fun v q=>by
  rw[ac]at q;cases q
  exact rV hu (I.hok a _ e).2 fun b xs q=>by rw[ak (fun z=>nt xs (by rw[<-z];exact q))];exact q) (fun b hb=>ak hb) no nt
 refine⟨I.ok,I.os,I.bare,?_,I.loc,I.cell,?_,?_,?_,hok,I.len⟩
 ·refine⟨I.base.keep,I.base.slot,fun b ob h1 h2 h3=> ?_,I.base.there,fun b xs q=> ?_,fun b o' v q=> ?_,fun b ps q=> ?_⟩
  ·have:=I.base.free b ob h1 h2 h3
   rw[ak (ne b this)];exact this
  ·have:=I.base.tups b xs q
   rw[ak (fun z=>nt xs (by rw[<-z];exact this))];exact this
  ·have:=I.base.ik b o' v q
   rw[ak (fun z=>f0 o' v (by rw[<-z];exact q))];exact this
  ·obtain⟨more,this⟩:=I.base.jS b ps q
   exact⟨more,by rw[ak (fun z=>by rw[z,e]at this;cases this)];exact this⟩
 ·rw[ak (ne _ I.free)];exact I.free
 ·exact fun x c q=>by rw[ak (ne _ (I.cQ x c q))];exact I.cQ x c q
 ·exact fun p hp=>by
   obtain⟨h1,h2,h3⟩:=I.pin p hp
   exact⟨h1,by rw[ak (ne _ h2)];exact h2,h3⟩
end
section
variable{X:Cx}
def Ends.held(D:Ends)(a:Addr)(o:Obj)(u:HO):Ends where
 nx:=fun σ H=>H a=some (.fY o u)/\D.nx σ (upd H a u)
 rt:=fun v H=>H a=some (.fY o u)/\D.rt v (upd H a u)
 bk:=fun σ H=>H a=some (.fY o u)/\D.bk σ (upd H a u)
 ct:=fun σ H=>H a=some (.fY o u)/\D.ct σ (upd H a u)
inductive Kq(t:TS)(D:Ends)(σ:St)(H:Hp):Prop
 |mk (a u:_) (_:kN u) (_:H a=some u) (_: ∀o,t (D.held a o u) σ (upd H a (.fY o u)))
theorem DS{st:Stmt}{t:TS}(h:PS X st t):PS X st (Kq t):=by
 intro pins s σ H D I q
 obtain⟨a,u,hu,e,q⟩:=q
 obtain⟨o,ho,J,f0⟩:=I.hold hu e
 refine wpAny_mono (h pins s σ _ _ J (q o)) (fun f s' r=> ?_) fun _ _ z=>z
 cases f with
 |next=>obtain⟨σ',H',K',k1,k2⟩:=r;exact⟨σ',_,K'.wm hu k1 f0,k2⟩
 |brk=>obtain⟨σ',H',K',k1,k2⟩:=r;exact⟨σ',_,K'.wm hu k1 f0,k2⟩
 |cont=>obtain⟨σ',H',K',k1,k2⟩:=r;exact⟨σ',_,K'.wm hu k1 f0,k2⟩
 |ret v=>obtain⟨v',σ',H',K',rv,k1,k2⟩:=r;exact⟨v',σ',_,K'.wm hu k1 f0,rv,k2⟩
end
end L2
namespace L2
open PySem PySem.Spec PyProof.Rows K2
theorem Ao{κ:Type}: ∀ {kvs:List (κ×V)} {vs:List (κ×Value)} {i:Nat} {k:κ} {x:Value},KV kvs vs->vs[i]? =some (k,x)-> ∃v,kvs[i]? =some (k,v)/\RelV v x
 |_,_,_,_,_,.nil,e=>by simp at e
 |(k',v')::_,_,0,_,_,.cons h _,e=>by simp at e;subst e;obtain⟨h1,h2⟩:=h;simp only at h1 h2;subst h1;exact⟨v',rfl,h2⟩
 |_,_,i+1,k,x,.cons _ t,e=>by obtain⟨v,h1,h2⟩:=Ao (i:=i) t (by simpa using e);exact⟨v,by simpa using h1,h2⟩
theorem uq{κ:Type}: ∀ {kvs:List (κ×V)} {vs:List (κ×Value)},KV kvs vs->kvs.length=vs.length
 |_,_,.nil=>rfl
 |_,_,.cons _ t=>by simp[uq t]
theorem wg{k:Key}{v:Value}(h:lM k v=true):RelV (kV k) v:=by
 rcases bG h with⟨i,t,rfl,rfl⟩|⟨x,t,rfl,rfl⟩
 ·exact⟨t,rfl⟩
 ·exact⟨t,rfl⟩
section
variable{X:Cx}
end
end L2
namespace L2
open PySem PySem.Spec PyProof.Rows K2
section
variable{prog:Program}{w:World}{A:Around}{E:Value->Shared->Prop}{s:Shared}
structure qu(o:Obj)(es:Array DictEntry)(ep:Nat):Prop where
 ex:o.ExactDict
 da:o.data= .dict es ep
theorem sv{d:Addr}{o:Obj}{es:Array DictEntry}{ep:Nat}{Q:Value->Shared->Prop}(hd:(d==sysModules)=false)(ho:s.heap.get? d=some o)(R:qu o es ep)
  (hQ:Q (.ref s.heap.objs.size) {s with heap:=s.heap.push {cls:= .type "dict_keyiterator",data:= .fields #[.ref d,.int 0 0,.int es.size 0,.int ep 0]}}):wpAny (model prog w) A (pyIter (.ref d)) Q E s:=by
 have T0:s.TypeIs (.ref d) "dict":=⟨o,ho,R.ex.1⟩
 refine wpAny_pyIter_slot T0 PySem.F.slot_dict_iter (wpAny_call_entry PySem.F.slot_dict_iter T0 PySem.F.entry_dict_iter ?_ (PySem.F.args_dict_iter_1 _))
 unfold Builtin.«dict.__iter__» Builtin.Dict.dictSlotNone
 refine wpAny_bind (wpAny_bind (wpAny_notOrdered_dict T0 ?_))
 show wpAny _ _ (pure (Value.ref d)) _ _ s
 refine wpAny_pure ?_
 show wpAny _ _ (Builtin.Dict.showsAll d>>=_) _ _ s
 unfold Builtin.Dict.showsAll
 rw[if_neg (by rw[hd];exact Bool.false_ne_true)]
 refine wpAny_bind (wpAny_pure (wpAny_bind (wpAny_dictEntries ho R.da (wpAny_bind (wpAny_dictEpoch ho R.da (wpAny_bind (wpAny_newObj_type (wpAny_pure ⟨_,rfl, "dict_keyiterator",_,⟨_,Heap.get?_push_size _ rfl,rfl⟩,PySem.F.slot_dict_keyiterator_next.lookup,?_⟩))))))))
 simpa [rawInt]using hQ
theorem su{it d:Addr}{i ep:Nat}{o:Obj}{es:Array DictEntry}{Q:Option Value->Shared->Prop}(hit:s.heap.IsKeyIter it d i es.size ep)(ho:s.heap.get? d=some o)(R:qu o es ep)(hi:i<es.size)
  (hQ: ∀h',h'.IsKeyIter it d (i+1) es.size ep->Heap.SameBut it s.heap h'->Q (some es[i].key) {s with heap:=h'}):wpAny (model prog w) A (pyNext (.ref it)) Q E s:=by
 obtain⟨oi,EN,ci,di⟩:=id hit
 have T0:=hit.typeIs
 unfold pyNext
 refine wpAny_bind (wpAny_attempt (wpAny_callSpecial?_slot (name:=Str.ofString "__next__") T0 PySem.F.slot_dict_keyiterator_next (wpAny_call_entry PySem.F.slot_dict_keyiterator_next T0 PySem.F.entry_dict_keyiterator_next ?_ (PySem.F.args_dict_keyiterator_next_1 _))))
 refine wpAny_bind (wpAny_pure (wpAny_bind (wpAny_bind ?_)))
 first|refine wpAny_bind (wpAny_typeNameOfWhole_keyiter T0 (wpAny_pure (wpAny_bind (wpAny_fieldsOf EN di ?_))))|refine wpAny_bind (wpAny_typeNameOf_keyiter T0 (wpAny_pure (wpAny_bind (wpAny_fieldsOf EN di ?_))))
 simp only[show Builtin.Dict_items.ownsTuple "dict_keyiterator"=false by decide,Bool.false_eq_true,if_false]
 show wpAny _ _ (if(Value.ref d==Value.none)=true then _ else _) _ _ s
 rw[show(Value.ref d==Value.none)=false from rfl,if_neg Bool.false_ne_true]
 refine wpAny_bind (wpAny_pure (wpAny_bind (wpAny_dictEntries ho R.da ?_)))
 rw[if_neg (by simp)]
 refine wpAny_bind (wpAny_pure (wpAny_bind (wpAny_dictEpoch ho R.da ?_)))
 rw[if_neg (by simp)]
 refine wpAny_pure ?_
 simp only[show ¬((i:Int)<0)from by omega,if_false,Int.toNat_natCast,Array.getElem?_eq_getElem hi]
 refine wpAny_bind ?_
 first|refine wpAny_bind (wpAny_typeNameOfWhole_keyiter T0 (wpAny_pure (wpAny_bind (wpAny_isOneOf_keyiter T0 ?_))))|refine wpAny_bind (wpAny_typeNameOf_keyiter T0 (wpAny_pure (wpAny_bind (wpAny_isOneOf_keyiter T0 ?_))))
 show wpAny _ _ (setField (.ref it) 1 (rawInt ((i:Int)+1)) >>=_) _ _ s
 refine wpAny_bind (wpAny_setField EN di (by simp) ?_)
 have we:(s.heap.update it (Obj.mapFields (·.setIfInBounds 1 (rawInt ((i:Int)+1))))).IsKeyIter it d (i+1) es.size ep:=⟨_,Heap.get?_update_self _ EN (Obj.isFreed_of_fields (Obj.data_mapFields di _)),(Obj.cls_mapFields ..).trans ci,by rw[Obj.data_mapFields di];simp[rawInt]⟩
 refine wpAny_bind (wpAny_holding (wpAny_bind (wpAny_isOneOf_keyiter (s:= {s with heap:=s.heap.update it (Obj.mapFields (·.setIfInBounds 1 (rawInt ((i:Int)+1))))}) we.typeIs ?_)))
 show wpAny _ _ (pure es[i].key) _ _ _
 exact wpAny_pure (wpAny_pure ⟨_,rfl,wpAny_pure (hQ _ we (Heap.SameBut.update ..))⟩)
theorem wH{it d:Addr}{i ep:Nat}{o:Obj}{es:Array DictEntry}{Q:Option Value->Shared->Prop}(hh:A.handled=none)(hit:s.heap.IsKeyIter it d i es.size ep)(ho:s.heap.get? d=some o)(R:qu o es ep)(hi:es.size<=i)
  (hQ: ∀h',Heap.ExtBut it s.heap h'->Q none {s with heap:=h'}):wpAny (model prog w) A (pyNext (.ref it)) Q E s:=by
 obtain⟨oi,EN,ci,di⟩:=id hit
 have T0:=hit.typeIs
 unfold pyNext
 refine wpAny_bind (wpAny_attempt (wpAny_callSpecial?_slot (name:=Str.ofString "__next__") T0 PySem.F.slot_dict_keyiterator_next (wpAny_call_entry PySem.F.slot_dict_keyiterator_next T0 PySem.F.entry_dict_keyiterator_next ?_ (PySem.F.args_dict_keyiterator_next_1 _))))
 refine wpAny_bind (wpAny_pure (wpAny_bind (wpAny_bind ?_)))
 first|refine wpAny_bind (wpAny_typeNameOfWhole_keyiter T0 (wpAny_pure (wpAny_bind (wpAny_fieldsOf EN di ?_))))|refine wpAny_bind (wpAny_typeNameOf_keyiter T0 (wpAny_pure (wpAny_bind (wpAny_fieldsOf EN di ?_))))
 simp only[show Builtin.Dict_items.ownsTuple "dict_keyiterator"=false by decide,Bool.false_eq_true,if_false]
 show wpAny _ _ (if(Value.ref d==Value.none)=true then _ else _) _ _ s
 rw[show(Value.ref d==Value.none)=false from rfl,if_neg Bool.false_ne_true]
 refine wpAny_bind (wpAny_pure (wpAny_bind (wpAny_dictEntries ho R.da ?_)))
 rw[if_neg (by simp)]
 refine wpAny_bind (wpAny_pure (wpAny_bind (wpAny_dictEpoch ho R.da ?_)))
 rw[if_neg (by simp)]
 refine wpAny_pure ?_
 simp only[show ¬((i:Int)<0)from by omega,if_false,Int.toNat_natCast,Array.getElem?_eq_none hi]
 refine wpAny_bind ?_
 first|refine wpAny_bind (wpAny_typeNameOfWhole_keyiter T0 (wpAny_pure ?_))|refine wpAny_bind (wpAny_typeNameOf_keyiter T0 (wpAny_pure ?_))
 show wpAny _ _ (setField (.ref it) 0 .none>>=_) _ _ s
 refine wpAny_bind (wpAny_setField EN di (by simp) ?_)
 show wpAny _ _ (newExc (.type "StopIteration") [] >>=_) _ _ _
 simp only[newExc,newTuple]
 refine wpAny_bind (wpAny_bind (wpAny_newObj_type (wpAny_bind (m:=firstArgMember _ _) (wpAny_of_eq (a:=Value.none) (by first|rfl|(simp only[firstArgMember];rfl)) (wpAny_newObj_type ?_ (by size_fits)))) (by size_fits)))
 simp only[raiseNew]
 refine wpAny_bind (wpAny_handled ?_)
 rw[show A.in1.handled=none from hh];refine wpAny_bind (wpAny_pure (wpAny_throw ?_))
 refine wpAny_bind (wpAny_isInstance (T:= "StopIteration") (b:=true) ⟨_,Heap.get?_push_size _ rfl,rfl⟩ isSubtype_stop ?_);exact wpAny_pure (hQ _ (((Heap.SameBut.update ..).extBut.push _).push _))
theorem sw(hh:A.handled=none)(I d:Addr)(hne:d≠I){o:Obj}{es:Array DictEntry}{ep:Nat}(R:qu o es ep):
  Walks prog w A I [I,d] [I] es.size (fun i v=> ∃e,es[i]? =some e/\v=e.key) (fun i h=>h.IsKeyIter I d i es.size ep/\h.get? d=some o)where
 sub:=fun b hb=>by simp at hb;simp[hb]
 frame:=fun _ _ _ st hk=>⟨st.1.at fun o e=>hk I (by simp) o e,hk d (by simp) _ st.2⟩
 item:=fun i s Q E hi st hQ=>su st.1 st.2 R hi fun h' we hs=>hQ _ h' s.toks ⟨es[i],by simp[hi],rfl⟩ ⟨we,hs.extBut d o hne st.2⟩ fun b o hb e=>hs.extBut b o (fun z=>hb (by simp[z])) e
 done:=fun s Q E st hQ=>wH hh st.1 st.2 R (Nat.le_refl _) fun h' he=>hQ h' s.toks fun b o hb e=>he b o (fun z=>hb (by simp[z])) e
 self:=fun _ _ _ _ st hQ=>wpAny_pyIter_keyiter st.1 hQ
end
end L2
namespace L2
open PySem PySem.Spec PyProof.Rows
section
variable{X:Cx}{CX:tj}{k:Nat}{f C:Addr}{fd:FuncData}{ps ks:List Str}{sp:Sp}{E:XK}{x:Str}{p pos:Pos}{e:Expr}{es:List Expr}{kws:List Keyword}{t tk:TA}{g:List Value->List Value->List Value}{gV:List V->List V->List V}
def HB(C:Addr)(sp:Sp)(gV:List V->List V->List V)(E:XK)(t tk:TA):TE:=fun σ H Q=>t σ H fun vs H1=>tk σ H1 fun zs H2=> ∀x dx,H2 x=none->H2 dx=none->dx≠x->
 sp (gV (.ref x::vs) zs) (upd (upd H2 dx (.own x)) x (.ins C dx [])) (fun v H3=>v= .aH/\Q (.ref x) H3) E
theorem yH{pins:List (Addr×Obj)}{σ:St}{H:Hp}{s:Shared}{Q:VK}{us ws:List Value}{vs zs:List V}(M:Mk X.K C f)(F:aI X.prog X.w X.K X.mg X.base CX k f fd ps sp)(hr:cU (k+1) X.A)(hb:fJ X.K fd ps ks g gV)
  (hx:Passes CX X E)(I:Inv X pins σ H s)(r:Vals vs us)(rz:Vals zs ws)
  (h: ∀x dx,H x=none->H dx=none->dx≠x->sp (gV (.ref x::vs) zs) (upd (upd H dx (.own x)) x (.ins C dx [])) (fun v H2=>v= .aH/\Q (.ref x) H2) E):
  wpAny (model X.prog X.w) X.A (call (.ref C) us (ks.zip ws)) (EP X pins σ Q) X.xe s:=by
 have q0:=h (s.heap.objs.size+1) s.heap.objs.size (I.hok.fresh (Nat.le_succ _)) (I.hok.fresh (Nat.le_refl _)) (Nat.ne_of_lt (Nat.lt_succ_self _))
 have I2:=Inv.made (C:=C) I
 have r2:=hb.rel (vs:=V.ref (s.heap.objs.size+1)::vs) (us:=Value.ref (s.heap.objs.size+1)::us) (.cons rfl r) rz
 have hl:(g (Value.ref (s.heap.objs.size+1)::us) ws).length=ps.length:=by rw[<-r2.length];exact F.len _ _ _ _ q0
 refine wpAny_call (rJ (f:=f) I.fZ M.makes M.init (beq_iff_eq.mp M.fn) (codeAny_mono (F.run _ X.stack _ _ ⟨Value.ref (s.heap.objs.size+1)::us,ks.zip ws⟩ (g (Value.ref (s.heap.objs.size+1)::us) ws) _ _ E (hr.make C us (ks.zip ws))
  (I2.CI.make C us (ks.zip ws)) (hb.to _ (Value.ref (s.heap.objs.size+1)::us) ws I2.fZ hl) r2 q0) fun r s' q1=> ?_))
 cases r with
 |error e=>exact hx pins σ _ _ e s' I2 q1
 |ok fl=>
  cases fl with
  |ret u=>
   obtain⟨v,H',I3,rv,ev,q3⟩:=I2.after q1
   subst ev
   exact⟨rv,⟨V.ref (s.heap.objs.size+1),H',I3,rfl,q3⟩⟩
  |next=>exact False.elim q1
  |brk=>exact False.elim q1
  |cont=>exact False.elim q1
theorem A7(M:Mk X.K C f)(F:aI X.prog X.w X.K X.mg X.base CX k f fd ps sp)(hr:cU (k+1) X.A)(hg:Gl X x)(hm:X.mg x=some (.ref C))(hb:fJ X.K fd ps ks g gV)(hx:Passes CX X E)
  (ha:PA X (e::es) t)(hkw:PK X kws tk)(hall:(backToKw pos (keywordEach kws X.env)).all (·.1.isSome)=true:=by rfl)(hks:(backToKw pos (keywordEach kws X.env)).filterMap (·.1)=ks:=by rfl)
  (hdb:(x==("__debug__":Str))=false:=by decide)(he:starEach (e::es) X.env=(false,eval e X.env)::starEach es X.env:=by rfl)
  (hpl:((backTo pos (starEach (e::es) X.env)).any (·.1)||(backToKw pos (keywordEach kws X.env)).any (·.1.isNone))=false:=by rfl):
  PE X (.Call (.Name x p) (e::es) kws pos) (HB C sp gV E t tk):=by
 intro pins s σ H Q I h
 refine wpAny_Call_Name_kw (i7 I hg hm ?_ hdb)
 refine PySem.W.callWith_KW (h₀:=X.base) I.ok.mod.EV M.kp hall (aL (ha pos pins s σ H _ I h) fun us s1 ⟨vs,H1,I1,r,q⟩=> ?_) hpl he
 refine aL (hkw pos pins s1 σ H1 _ I1 q) fun ws s2 ⟨zs,H2,I2,rz,q2⟩=>⟨I2.fZ,?_⟩
 rw[hks]
 exact yH M F hr hb hx I2 r rz q2
end
end L2
namespace L2
open PySem PySem.Spec PyProof.Rows
theorem mM: ∀ {xs:List V} {us:List Value},xs.length=us.length->(∀ (i:Nat) x u,xs[i]? =some x->us[i]? =some u->RelV x u)->Vals xs us
 | [],[],_,_=> .nil
 |x::xs,u::us,h,k=> .cons (k 0 x u rfl rfl) (mM (by simpa using h) fun i y v e1 e2=>k (i+1) y v (by simpa using e1) (by simpa using e2))
 | [],_::_,h,_=>by simp at h
 |_::_,[],h,_=>by simp at h
theorem Cm{n:Nat}{acc:Array Value}(hs:acc.size=n)(h: ∀ (j:Nat) v,acc[j]? =some v-> ∃t,v=Value.int (0+(j:Int)*1) t):Vals ((List.range n).map fun(i:Nat)=>V.int i) acc.toList:=by
 refine mM (by simp[hs]) fun i x u e1 e2=> ?_
 rw[Array.getElem?_toList]at e2
 obtain⟨t,rfl⟩:=h i u e2
 rw[List.getElem?_map]at e1
 have hi:i<n:=by
  have:=(Array.getElem?_eq_some_iff.mp e2).1
  omega
 rw[List.getElem?_range hi]at e1
 cases e1
 exact⟨t,by simp⟩
section
variable{X:Cx}
theorem qI:dc X (.type "range") (fun xs H Q=> ∃n:Nat,xs= [.int n]/\ ∀r,H r=none->Q (.ref r) (upd H r (.yG 0 n))):=by
 intro pins s σ H xs us Q I r h
 obtain⟨n,rfl,q⟩:=h
 obtain⟨u,rfl,ru⟩:=vals1 r
 obtain⟨t,rfl⟩:=ru
 refine call_range_1 ⟨.ref s.heap.objs.size,_,I.laid (a:=s.heap.objs.size) (o:= .yG 0 n) (t':=s.toks+1+1) (fun b o e=>Heap.get?_push_of_some _ e) (Nat.le_refl _) ⟨_,_,_,Heap.get?_push_size _ rfl⟩,rfl,q _ (I.hok.fresh (Nat.le_refl _))⟩
theorem gX(hc:X.calm=true):dc X (.type "list") (fun xs H Q=> ∃ (p:Addr) (n:Nat),xs= [.ref p]/\H p=some (.yG 0 n)/\n<=1000/\ ∀l,H l=none->Q (.ref l) (upd H l (.lst ((List.range n).map fun(i:Nat)=>V.int i)))):=by
 intro pins s σ H xs us Q I r h
 obtain⟨p,n,rfl,hp,hn,q⟩:=h
 obtain⟨u,rfl,ru⟩:=vals1 r
 cases ru
 obtain⟨t,t2,t3,e⟩:=I.hok p _ hp
 have sz:Builtin.Range.rangeSize 0 (n:Int) 1=n:=by
  unfold Builtin.Range.rangeSize
  rw[if_pos (by decide)]
  split<;>omega
 refine call_list_range (n:=n) (I.ok.hd hc) e (small_one (by omega) (by omega) (by omega) (by omega)) sz (by omega) fun h' tk acc c' kp e1 it=> ?_
 refine⟨.ref s.heap.objs.size,_,I.laid (a:=s.heap.objs.size) (o:= .lst ((List.range n).map fun(i:Nat)=>V.int i)) (t':=tk) kp (Nat.le_refl _) ⟨?_,acc.toList,c',?_,by simpa using e1⟩,rfl,q _ (I.hok.fresh (Nat.le_refl _))⟩
 ·rw[List.length_map,List.length_range];exact Nat.le_trans hn (by decide)
 ·exact Cm it.1 it.2
end
end L2
namespace L2
open PySem PySem.Spec PyProof.Rows K2
section
variable{X:Cx}{e o:Expr}{te to:TE}{x:Str}{j:Nat}{p apos cpos:Pos}
end
end L2
namespace L2
open PySem PySem.Spec PyProof.Rows
section
variable{prog:Program}{w:World}{A:Around}{E:Value->Shared->Prop}{s:Shared}
theorem yW{t sl:Addr}{items:Array Value}{vl vu:Value}{lo hi:Option Int}{Q:Value->Shared->Prop}(ht:IsTup s.heap t items)(hs:s.heap.IsSliceOf sl vl vu .none)(pl:IsPart vl lo)(pu:IsPart vu hi)
  (h0:HT.cF items.size 0 lo=0)(h1:HT.cF items.size items.size hi=items.size)(h:Q (.ref t) s):wpAny (model prog w) A (getItem (.ref t) (.ref sl)) Q E s:=by
 obtain⟨os,hos,hcs,hds⟩:=id hs
 have Sm:s.TypeIs (.ref sl) "slice":=⟨os,hos,hcs⟩
 unfold getItem
 try with_reducible refine wpAny_holding ?_
 first|refine wpAny_bind (wpAny_pure ?_)|skip
 refine wpAny_bind (wpAny_sequenceKey ht.typeIs (by decide) (wpAny_bind (wpAny_callSpecial?_slot (name:=Str.ofString "__getitem__") ht.typeIs PyProof.Rows.slot_tuple_getitem (wpAny_call_entry PyProof.Rows.slot_tuple_getitem ht.typeIs entry_tuple_getitem ?_ (args_tuple_getitem _ _)))))
 show wpAny _ _ (Builtin.Tuple.tupleItemsOf (.ref t) >>=_) _ _ s
 refine wpAny_bind (tupleItemsOf_ ht (wpAny_bind (wpAny_typeOf Sm ?_)));rw[if_pos (by decide)]
 refine wpAny_bind (HT.fD hs pl pu ?_)
 have yes:(((HT.cF items.size 0 lo:Nat):Int)==0&& (1:Int)==1&& (HT.cF items.size items.size hi-HT.cF items.size 0 lo)==items.size)=true:=by rw[h0,h1];simp
 show wpAny _ _ (if(((HT.cF items.size 0 lo:Nat):Int)==0&& (1:Int)==1&& (HT.cF items.size items.size hi-HT.cF items.size 0 lo)==items.size)=true then _ else _) _ _ s
 rw[if_pos yes]
 unfold Builtin.Tuple.tupleIsExact
 first
  |refine wpAny_bind (wpAny_bind (wpAny_typeOf ht.typeIs (wpAny_pure ?_)))
  |refine wpAny_bind (wpAny_bind (wpAny_bind (wpAny_typeOf ht.typeIs (wpAny_pure ?_))))
 rw[if_pos (by decide)]
 exact wpAny_bind (wpAny_rule (wpAny_pure ⟨_,rfl,wpAny_pure h⟩))
end
section
variable{X:Cx}
inductive E3(K:PySem.W.Frag)(x:V)(lo:Option Int)(hi:Option Int)(H:Hp)(Q:VK):Prop
 |mk (a xs:_) (_:x= .ref a) (_:bn K H a xs) (_:(∀b H',(b=a/\H'=H/\gR xs lo hi=xs)\/(H b=none/\H'=upd H b (.tup (gR xs lo hi)))->Q (.ref b) H'))
theorem Ec:HL X (E3 X.K):=by
 intro pins s σ H x v vl vu lo hi sl Q I rx hs pl pu h
 obtain⟨a,xs,rfl,hx,q⟩:=h
 by_cases hw:HT.cF xs.length 0 lo=0/\HT.cF xs.length xs.length hi=xs.length
 ·cases rx
  obtain⟨its,r,ht,hz⟩:=I.tuple hx
  have hlen:its.toArray.size=xs.length:=by rw[List.size_toArray];exact r.length.symm
  refine⟨"tuple",_,PyProof.Rows.slot_tuple_getitem.lookup,ht.typeIs,yW ht hs pl pu (by rw[hlen];exact hw.1) (by rw[hlen];exact hw.2) ⟨.ref a,H,I,rfl,q a H (.inl ⟨rfl,rfl,?_⟩)⟩⟩
  unfold gR
  rw[hw.1,hw.2];simp
 ·exact BY pins s σ H (.ref a) v vl vu lo hi sl Q I rx hs pl pu ⟨a,xs,rfl,hx,hw,fun p hp=>q p _ (.inr ⟨hp,rfl⟩)⟩
end
section
variable{X:Cx}(K:PySem.W.Frag)(hK:X.K=K)
include hK
theorem bF:Iw X (GR K):=hK▸dk
theorem sG:HL X (E3 K):=hK▸Ec
theorem DR{tg l:Expr}{tl:TE}(hl:PE X l tl):PI X tg l (JA K tl):=hK▸lY hl
end
def nB(scope:Scope)(N:List Str):Bool:=
 scope.kind== .function&&scope.names.all (fun y=>y.2 != .cell&&y.2 != .free) &&scope.names.all (fun x=>x.2 != .local||scope.names.lookup x.1==some .local) &&N.all fun x=>scope.names.lookup x !=some .local
theorem bT{X:Cx}{T:List Str}{scope:Scope}(N:List Str)(e2:X.N=N)(h:nB scope N=true):eL X T scope:=by
 unfold nB at h
 simp only[Bool.and_eq_true,List.all_eq_true,Bool.or_eq_true,bne_iff_ne,beq_iff_eq,ne_eq]at h
 obtain⟨⟨⟨h1,h2⟩,h3⟩,h5⟩:=h
 refine⟨h1,fun y hy=>(h2 y hy).1,fun x hx q=> ?_,fun n hn=>absurd rfl (h2 (n,.free) hn).2,fun x hx=> ?_⟩
 ·rcases h3 x hx with z|z
  ·exact absurd q z
  ·exact z
 ·rw[e2]at hx;exact h5 x hx
end L2
namespace L2
open PySem PySem.Spec PyProof.Rows K2
section
variable{X:Cx}{pins:List (Addr×Obj)}{σ:St}{H:Hp}{s:Shared}{a:Addr}{A:Around}{E:Value->Shared->Prop}{y v:V}{u r:Value}
theorem nE{H':Hp}{Q:Unit->Shared->Prop}(hu:A.units+1<cLine)(I:Inv X pins σ H s)(g:ib H a y v H')(ry:RelV y u)(rv:RelV v r)(h: ∀s',Inv X pins σ H' s'->Q () s'):
  wpAny (model X.prog X.w) A (dictSet a u r) Q E s:=by
 rcases g with⟨kvs,k,e,ey,l,eH⟩|⟨kvs,k,b,e,ey,eb,l,eH⟩
 ·subst ey eH
  obtain⟨z,hd,vs,rel,dd⟩:=EE I.hok e
  have hz:vs.length<=sizeLine:=by rw[<-rel.length];exact z
  have hl:(putK kvs k v).length<=sizeLine:=by have:=dw kvs k v;omega
  refine wpAny_dictSet_pairs (hsz:=hz) (lI ry) dd fun h' CH hs=>h _ ?_
  have he: ∃q,h'.get? a=some q:=let⟨q,_,_,hq,_⟩:=CH;⟨q,hq⟩
  exact gI I (by rw[e];exact True.intro) hs he (zJ hl hd (rel.put k rv) CH)
 ·subst ey eH
  cases(show u=Value.ref b from ry)
  obtain⟨z,hd,xs,rel,dd⟩:=EF I.hok e
  have hz:xs.length<=sizeLine:=by rw[<-Paired.length rel];exact z
  have hl:(putK kvs k v).length<=sizeLine:=by have:=dw kvs k v;omega
  refine wpAny_dictSet_heap (hsz:=hz) (show A.units<cLine by omega) (im I.hok eb) dd fun h' CH hs=>h _ ?_
  obtain⟨q,es,ep,hq,h2,h3,h4,_,h5⟩:=CH
  refine gI I (by rw[e];exact True.intro) hs ⟨q,hq⟩ ⟨hl,hd,_,(rel.put k eb rv).keeps fun c ys ec=> ?_,q,es,ep,hq,h2,h3,h4,h5⟩
  rw[ak (nR ec e (by intro z;cases z))];exact ec
end
section
variable{prog:Program}{w:World}{A:Around}{R:Result->Shared->Prop}{s:Shared}
theorem xw{kx vx target iter:Expr}{ifs:List Expr}{scope:Scope}{pos:Pos}{it:Value}{D:Addr}{env:Env}(Iv:Nat->Shared->Prop)(Ex:Value->Shared->Prop)
  (gT: ∀e s',Ex e s'->notedBy (model prog w) A env (fun e s'=>R (.error e) s') e s')
  (turn: ∀n s,Iv n s->wpAny (model prog w) A (pyNext it) (fun r s1=>match r with
   |none=>R (.ok .next) s1
   |some v=>wpAny (model prog w) A (letOwnedTupleGo target it v) (fun _ s2=>wpAny (model prog w) A (assign target env v) (fun _ s3=>wpAny (model prog w) A (ju ifs env) (fun ok s4=>
     if ok=true then wpAny (model prog w) A (eval kx env) (fun x s5=>wpAny (model prog w) A (eval vx env) (fun y s6=>wpAny (model prog w) A (dictSet D x y) (fun _ s7=> ∃m,m<n/\Iv m s7) Ex s6) Ex s5) Ex s4
     else ∃m,m<n/\Iv m s4) Ex s3) Ex s2) Ex s1) Ex s)(n:Nat)(h:Iv n s):
  codeAny (model prog w) A (.compLoop (.DictComp kx vx [⟨target,iter,ifs,0⟩] scope pos) 0 it (.ref D) env) R s:=by
 refine codeAny_loop rfl Iv (fun n s hI=> ?_) n h
 show wpAny (model prog w) A ((compTurn (.DictComp kx vx [⟨target,iter,ifs,0⟩] scope pos) 0 it (.ref D) env).onRaise (fun x=>do noteFrame x env;theTreesLotGoes x)) _ _ s
 refine wpAny_noted ?_
 rw[compTurn_dict]
 refine wpAny_bind (wpAny_standAt (wpAny_bind (wpAny_mono (turn n s hI) (fun r s1 h1=> ?_) gT)))
 cases r with
 |none=>exact wpAny_pure h1
 |some v=>
  refine wpAny_bind (wpAny_mono h1 (fun _ s2 h2=>wpAny_bind (wpAny_mono h2 (fun _ s3 h3=>wpAny_bind (wpAny_mono h3 (fun ok s4 h4=> ?_) gT)) gT)) gT)
  cases ok with
  |false=>exact wpAny_pure ⟨rfl,h4⟩
  |true=>
   refine wpAny_bind (wpAny_bind (wpAny_mono h4 (fun x s5 h5=>wpAny_bind (wpAny_holding (wpAny_mono h5 (fun y s6 h6=> ?_) gT))) gT))
   exact wpAny_bind (wpAny_standAt (wpAny_holding (wpAny_mono h6 (fun _ s7 h7=>wpAny_pure ⟨rfl,h7⟩) gT)))
end
section
variable{X:Cx}{T:List Str}{scope:Scope}{pins:List (Addr×Obj)}{σ:St}{H:Hp}{s:Shared}{C:Addr}{fp:List Addr}{E:Value->Shared->Prop}
theorem jx{σ':St}{H':Hp}{s':Shared}{h':Heap}{pl:List (Addr×Obj)}(I:Inv X pins σ H s)(hf: ∀b∈fp,dD X pins H b)(hC:s.heap.objs.size<=C)
  (J:Inv (aM X T scope C s H fp (X.pn++pins) E) pl σ' H' s')(kf:Heap.SameBut C s'.heap h'):Inv X pins σ H' {s' with heap:=h'}:=by
 have g9: ∀b o,b≠C->s'.heap.get? b=some o->h'.get? b=some o:=fun b o hb e=>kf.extBut b o hb e
 have Gk: ∀b o,s.heap.get? b=some o->b≠C:=fun b o e=>Nat.ne_of_lt (Nat.lt_of_lt_of_le (Heap.lt_size e) hC)
 have LR:H' C=none:=J.free
 have u:=J.base
 have FY:fH X.prog X.w H' h':=fun a o e=>by
  have nC: ∀b o,H' b=some o->b≠C:=fun b o e z=>by rw[z,LR]at e;cases e
  refine(J.hok a o e).stay (fun b v hb q=>g9 b v ?_ q) (fun _ q=>q) fun _ _ q=>q
  rcases hb with rfl|hb
  ·exact nC _ _ e
  ·exact nC _ _ hb
 refine I.EC (ch:=fp) (s':= {s' with heap:=h'}) J.os ⟨fun b o e n hb hx=>g9 b o (Gk b o e) (u.keep b o e n hb hx),fun b o e n hb hx=> ?_,fun b o e n hx=>u.free b o e n hx,fun b o e hx=> ?_,fun b xs e=>u.tups b xs e,fun b o v e=>u.ik b o v e,fun b ps e=>u.jS b ps e⟩ FY J.bare fun b hb=> ?_
 ·obtain⟨sl,q⟩:=u.slot b o e n hb hx
  exact⟨sl,g9 b _ (Gk b o e) q⟩
 ·obtain⟨o',q⟩:=u.there b o e hx
  exact⟨o',g9 b o' (Gk b o e) q⟩
 ·obtain⟨_,f1,_,f3,f4,f5⟩:=hf b hb
  exact⟨f3,f1,f4,f5⟩
end
def Iy(u:HO):Prop:=u= .dK []\/u= .dT []
def Ht(k:Nat)(wi:TI)(g:TG)(tt:TT)(tk tv:TE):TE:=fun σ H Q=>wi σ H fun J H1=> ∃u,Iy u/\ ∀D,H1 D=none-> ∃W:Nat->Nat->Hp->Prop,(∃m,W 0 m (upd H1 D u))/\ ∀i m H,W i m H->
 (J.stop i H/\Q (.ref D) H)\/(J.go i H/\ ∀x H',J.mZ i H x H'->g x (List.replicate k none++σ) H' fun σ2 H2=>tt σ2 H2 fun b H3=>
  if b=true then tk σ2 H3 fun y H4=>tv σ2 H4 fun z H5=> ∃H6,ib H5 D y z H6/\(∀b,H5 b=none->b≠D)/\ ∃m',m'<m/\W (i+1) m' H6 else ∃m',m'<m/\W (i+1) m' H3)
section
variable{X:Cx}{T:List Str}{scope:Scope}{kx vx iter tg:Expr}{ifs:List Expr}{pos:Pos}{wi:TI}{g:TG}{tt:TT}{tk tv:TE}
theorem tS{pins:List (Addr×Obj)}{σ:St}{H:Hp}{s s1:Shared}{C D it:Addr}{fp:List Addr}{tn:Nat->Heap->Prop}{J:It}{Ex:Value->Shared->Prop}{R:Result->Shared->Prop}{W:Nat->Nat->Hp->Prop}{m0:Nat}{Qe:Hp->Prop}
  (hu:X.A.units+1<cLine)(hc:X.calm=true)(hg:PG (aM X T scope C s H fp (X.pn++pins) Ex) tg g)(hgf:ic T.length g)(ht:kP (aM X T scope C s H fp (X.pn++pins) Ex) ifs tt)(hk:PE (aM X T scope C s H fp (X.pn++pins) Ex) kx tk)(hv:PE (aM X T scope C s H fp (X.pn++pins) Ex) vx tv)
  (Tn:Turn X.prog X.w X.K tg J fp it tn)(hf: ∀b∈fp,dD X pins H b)
  (I1:Inv (aM X T scope C s H fp (X.pn++pins) Ex) [] (List.replicate T.length none++σ) H s1)(st1:tn 0 s1.heap)
  (gT: ∀e s',Ex e s'->notedBy (model X.prog X.w) X.A (compEnvC scope (cO X.env.cells scope.names []) C X.env) (fun e s'=>R (.error e) s') e s')(w0:W 0 m0 H)
  (turn: ∀i m H,W i m H->(J.stop i H/\Qe H)\/(J.go i H/\ ∀x H',J.mZ i H x H'->g x (List.replicate T.length none++σ) H' fun σ2 H2=>tt σ2 H2 fun b H3=>
   if b=true then tk σ2 H3 fun y H4=>tv σ2 H4 fun z H5=> ∃H6,ib H5 D y z H6/\(∀b,H5 b=none->b≠D)/\ ∃m',m'<m/\W (i+1) m' H6 else ∃m',m'<m/\W (i+1) m' H3))
  (hR: ∀s2 σ2 H2,Inv (aM X T scope C s H fp (X.pn++pins) Ex) [] σ2 H2 s2->Qe H2->R (.ok .next) s2):
  codeAny (model X.prog X.w) X.A (.compLoop (.DictComp kx vx [⟨tg,iter,ifs,0⟩] scope pos) 0 (.ref it) (.ref D) (compEnvC scope (cO X.env.cells scope.names []) C X.env)) R s1:=by
 have lC: ∀ (H':Hp),(∀b∈fp,H' b=none)-> ∀b∈fp,dD (aM X T scope C s H fp (X.pn++pins) Ex) [] H' b:=fun H' hn b hb=>
  ⟨hn b hb,(I1.ok.zf b hb).1,I1.ok.mS b hb,.inl hb,(I1.ok.zf b hb).2,fun p hp=>by
   rcases List.mem_append.mp hp with z|z
   ·exact(hf b hb).2.2.2.2.2 p z
   ·cases z⟩
 refine xw (fun m s'=> ∃i H',Inv (aM X T scope C s H fp (X.pn++pins) Ex) [] (List.replicate T.length none++σ) H' s'/\tn i s'.heap/\(∀b∈fp,H' b=none)/\W i m H') Ex gT ?_ m0 ⟨0,H,I1,st1,fun b hb=>(hf b hb).1,w0⟩
 rintro m s3 ⟨i,H3,I3,st3,tw,w3⟩
 rcases turn i m H3 w3 with⟨stop,qe⟩|⟨go,step⟩
 ·refine aL (Tn.done (aM X T scope C s H fp (X.pn++pins) Ex) rfl rfl rfl hc i _ s3 _ H3 Ex I3 (lC H3 tw) st3 stop) fun r s4 ⟨hr,I4⟩=> ?_
  subst hr
  exact hR s4 _ H3 I4 qe
 ·refine aL (Tn.item (aM X T scope C s H fp (X.pn++pins) Ex) rfl rfl rfl hc i _ s3 _ H3 Ex I3 (lC H3 tw) st3 go) fun r s4 ⟨u,hr,h4⟩=> ?_
  subst hr
  refine aL h4 fun _ s5 ⟨x,H5,I5,r5,y5,ki,tX⟩=> ?_
  have Cw:=I5.pinned (lC H5 tX) (Tn.obj _ _ ki)
  refine aL (hg _ s5 _ H5 x u _ Cw r5 (hgf x σ H5 _ (step x H5 y5))) fun _ s6 ⟨zk,H6,I6,Jk,Mn,q6⟩=> ?_
  refine aL (ht _ s6 zk H6 _ I6 q6) fun ok s7 ⟨H7,I7,q7⟩=> ?_
  have back: ∀ {H8:Hp} {s8:Shared},Inv (aM X T scope C s H fp (X.pn++pins) Ex) ([]++gw fp s5.heap) zk H8 s8->
    Inv (aM X T scope C s H fp (X.pn++pins) Ex) [] (List.replicate T.length none++σ) H8 s8/\tn (i+1) s8.heap/\(∀b∈fp,H8 b=none):=fun{H8 s8} I8=>by
   refine⟨(I8.du (j6:= []) fun p hp=>(by
    have:=I8.pin p (List.mem_append_left _ (by simpa using hp))
    exact this)).weak ?_ fun j v e=> ?_,Tn.keep _ _ _ ki fun b hb o e=>(I8.pin (b,o) (List.mem_append_right _ (List.mem_append_right _ (bd hb e)))).1,fun b hb=> ?_⟩
   ·rw[Jk,List.length_append,List.length_replicate]
   ·by_cases hj:j<T.length
    ·rw[List.getElem?_append_left (by rw[List.length_replicate];exact hj),List.getElem?_replicate,if_pos hj]at e
     cases e
    ·rw[List.getElem?_append_right (by rw[List.length_replicate];omega),List.length_replicate]at e
     rw[Mn j (by omega)]
     exact e
   ·obtain⟨o,e,d⟩:=Tn.obj _ _ ki b hb
    exact(I8.pin (b,o) (List.mem_append_right _ (List.mem_append_right _ (bd hb e)))).2.1
  cases ok with
  |false=>
   simp only[Bool.false_eq_true,if_false]at q7⊢
   obtain⟨m',hm,w7⟩:=q7
   obtain⟨J8,mX,tY⟩:=back I7
   exact⟨m',hm,i+1,H7,J8,mX,tY,w7⟩
  |true=>
   simp only[if_true]at q7⊢
   refine aL (hk _ s7 zk H7 _ I7 q7) fun uk s8 ⟨y,H8,I8,ry,q8⟩=> ?_
   refine aL (hv _ s8 zk H8 _ I8 q8) fun uv s9 ⟨z,H9,I9,rz,vD,dp,dn,m',hm,w9⟩=> ?_
   refine nE (X:=aM X T scope C s H fp (X.pn++pins) Ex) hu I9 dp ry rz fun yJ Ir=> ?_
   obtain⟨J8,mX,tY⟩:=back Ir
   exact⟨m',hm,i+1,vD,J8,mX,tY,w9⟩
theorem A5(hu:X.A.units+1<cLine)(S:eL X T scope)(hc:X.calm=true)(hi:PI X tg iter wi)(hg: ∀Y,bE X T scope (fun _ _=>False) Y->PG Y tg g)(hgf:ic T.length g)(ht: ∀Y,bE X T scope (fun _ _=>False) Y->kP Y ifs tt)
  (hk: ∀Y,bE X T scope (fun _ _=>False) Y->PE Y kx tk)(hv: ∀Y,bE X T scope (fun _ _=>False) Y->PE Y vx tv)(hs: ∀x,foldedSetIterable iter X.env x=pure x:=by intro _;rfl):PE X (.DictComp kx vx [⟨tg,iter,ifs,0⟩] scope pos) (Ht T.length wi g tt tk tv):=by
 intro pins s σ H Q I h
 rw[arm_eval_DictComp]
 refine wpAny_comprehension_free (use:=none) (cl:=cO X.env.cells scope.names []) rfl hs (dX fun n hn=>I.ok.has n (S.cap n hn)) S.kind S.loc ?_
 refine aL (hi pins s σ H _ I h) fun v s1 h1=>aL h1 fun itv s2 h2=> ?_
 obtain⟨it,fp,tn,J,H2,e,I2,Tn,st2,f2,u,nu,q2⟩:=h2
 subst e
 have hfl: ∀b∈fp,b<s2.heap.objs.size:=fun b hb=>by
  obtain⟨o,ho,_⟩:=Tn.obj _ _ st2 b hb
  exact Heap.lt_size ho
 have IQ:=I2.hok.fresh (Nat.le_refl s2.heap.objs.size)
 obtain⟨W,⟨m0,w0⟩,turn⟩:=q2 s2.heap.objs.size IQ
 refine wpAny_newObj_type (wpAny_newFunctionEnv S.io (by intro y hy;cases hy) (fun h4 hns kf=> ?_) S.kind)
 dsimp only at hns kf⊢
 have I3:Inv X pins σ (upd H2 s2.heap.objs.size u) {s2 with heap:=s2.heap.push {cls:= .type "dict",data:= .dict #[]}}:=by
  rcases nu with rfl|rfl
  ·exact I2.laid (a:=s2.heap.objs.size) (o:= .dK []) (t':=s2.toks) (fun _ _ q=>Heap.get?_push_of_some _ q) (Nat.le_refl _) (k7 s2.heap I2.big)
  ·exact I2.laid (a:=s2.heap.objs.size) (o:= .dT []) (t':=s2.toks) (fun _ _ q=>Heap.get?_push_of_some _ q) (Nat.le_refl _) (lf s2.heap I2.big)
 generalize tz:s2.heap.push {cls:= .type "dict",data:= .dict #[]}=H3 at hns kf I3⊢
 have hC:H3.objs.size=s2.heap.objs.size+1:=by rw[<-tz,Heap.size_push]
 have i8: ∀b o,H3.get? b=some o->h4.get? b=some o:=fun b o e=>kf.extBut b o (Nat.ne_of_lt (Heap.lt_size e)) (Heap.get?_push_of_some _ e)
 have old: ∀b o,s2.heap.get? b=some o->h4.get? b=some o:=fun b o e=>i8 b o (by rw[<-tz];exact Heap.get?_push_of_some _ e)
 have f3: ∀b∈fp,dD X pins (upd H2 s2.heap.objs.size u) b:=fun b hb=>by
  obtain⟨g1,g2⟩:=f2 b hb
  exact⟨by rw[ak (Nat.ne_of_lt (hfl b hb))];exact g1,g2⟩
 have loop: ∀s4:Shared,s4= {s2 with heap:=h4,toks:=s2.toks+([]:List (Str×Value)).length}->
   codeAny (model X.prog X.w) X.A (.compLoop (.DictComp kx vx [⟨tg,iter,ifs,0⟩] scope pos) 0 (.ref it) (.ref s2.heap.objs.size) (compEnvC scope (cO X.env.cells scope.names []) H3.objs.size X.env))
    (compPost (model X.prog X.w) X.A X.xe none (EP X pins σ Q) (.ref s2.heap.objs.size) H3.objs.size) s4:=by
  rintro s4 rfl
  have I4:Inv (aM X T scope H3.objs.size {s2 with heap:=H3} (upd H2 s2.heap.objs.size u) fp (X.pn++pins) (fun _ _=>False)) [] (List.replicate T.length none++σ) (upd H2 s2.heap.objs.size u) {s2 with heap:=h4,toks:=s2.toks+([]:List (Str×Value)).length}:=
   dY S I3 f3 (fun b hb=>Nat.lt_of_lt_of_le (hfl b hb) (by show s2.heap.objs.size<=H3.objs.size;rw[hC];exact Nat.le_succ _)) i8 (Nat.le_refl _) hns rfl rfl
  refine tS (Qe:=fun H=>Q (.ref s2.heap.objs.size) H) hu hc (hg _ (.mk ..)) hgf (ht _ (.mk ..)) (hk _ (.mk ..)) (hv _ (.mk ..)) Tn f3 I4 ?_ (fun e s' z=>z.elim) w0 turn fun s5 Pi H5 I5 q=> ?_
  ·exact Tn.keep _ _ _ st2 fun b hb o e=>old b o e
  ·obtain⟨mm,zi,_⟩:=I5.loc
   exact⟨mm,zi,fun h' pq=>⟨.ref s2.heap.objs.size,_,jx I3 f3 (Nat.le_refl _) I5 pq,rfl,q⟩⟩
 refine codeAny_compStart_dict (loop _ rfl) (Tn.self _ 0 _ _ _ ?_ (loop _ rfl))
 exact Tn.keep _ _ _ st2 fun b hb o e=>old b o e
end
end L2
namespace L2
open PySem PySem.Spec PyProof.Rows K2
theorem sX(kx vx t1 i1 t2 i2:Expr)(ifs:List Expr)(scope:Scope)(pos:Pos)(it:Value)(D:Addr)(env:Env):
  compTurn (.DictComp kx vx [⟨t1,i1,[],0⟩,⟨t2,i2,ifs,0⟩] scope pos) 0 it (.ref D) env=(do
   standAt i1.pos
   match<-pyNext it with
   |none=>pure (.done .next)
   |some v=>
    letOwnedTupleGo t1 it v
    assign t1 env v
    let x<-eval i2 env
    standAt i2.pos
    let x<-foldedSetIterable i2 env x
    let _<-runOwn (.compStart (.DictComp kx vx [⟨t1,i1,[],0⟩,⟨t2,i2,ifs,0⟩] scope pos) 1 (<-holding [x] (pyIter x)) (.ref D) env) env
    again (.compLoop (.DictComp kx vx [⟨t1,i1,[],0⟩,⟨t2,i2,ifs,0⟩] scope pos) 0 it (.ref D) env)):=by rfl
theorem sW(kx vx t1 i1 t2 i2:Expr)(ifs:List Expr)(scope:Scope)(pos:Pos)(it:Value)(D:Addr)(env:Env):
  compTurn (.DictComp kx vx [⟨t1,i1,[],0⟩,⟨t2,i2,ifs,0⟩] scope pos) 1 it (.ref D) env=(do
   standAt i2.pos
   match<-pyNext it with
   |none=>pure (.done .next)
   |some v=>
    letOwnedTupleGo t2 it v
    assign t2 env v
    let mut ok:=true
    for c in ifs do
     if ok then ok<-isTrue c env (eval c env)
    if ok then
     (do
      let kv<-eval kx env
      let vv<-holding [kv] (eval vx env)
      standAt {kx.pos with endLine:=vx.pos.endLine,endCol:=vx.pos.endCol}
      holding [kv,vv] (dictSet D kv vv))
    again (.compLoop (.DictComp kx vx [⟨t1,i1,[],0⟩,⟨t2,i2,ifs,0⟩] scope pos) 1 it (.ref D) env)):=by rfl
section
variable{prog:Program}{w:World}{A:Around}{R:Result->Shared->Prop}{s:Shared}{kx vx t1 i1 t2 i2:Expr}{ifs:List Expr}{scope:Scope}{pos:Pos}{D:Addr}{env:Env}
theorem xG{it:Value}(Iv:Nat->Shared->Prop)(Ex:Value->Shared->Prop)
  (gT: ∀e s',Ex e s'->notedBy (model prog w) A env (fun e s'=>R (.error e) s') e s')
  (turn: ∀n s,Iv n s->wpAny (model prog w) A (pyNext it) (fun r s1=>match r with
   |none=>R (.ok .next) s1
   |some v=>wpAny (model prog w) A (letOwnedTupleGo t2 it v) (fun _ s2=>wpAny (model prog w) A (assign t2 env v) (fun _ s3=>wpAny (model prog w) A (ju ifs env) (fun ok s4=>
     if ok=true then wpAny (model prog w) A (eval kx env) (fun x s5=>wpAny (model prog w) A (eval vx env) (fun y s6=>wpAny (model prog w) A (dictSet D x y) (fun _ s7=> ∃m,m<n/\Iv m s7) Ex s6) Ex s5) Ex s4
     else ∃m,m<n/\Iv m s4) Ex s3) Ex s2) Ex s1) Ex s)(n:Nat)(h:Iv n s):
  codeAny (model prog w) A (.compLoop (.DictComp kx vx [⟨t1,i1,[],0⟩,⟨t2,i2,ifs,0⟩] scope pos) 1 it (.ref D) env) R s:=by
 refine codeAny_loop rfl Iv (fun n s hI=> ?_) n h
 show wpAny (model prog w) A ((compTurn (.DictComp kx vx [⟨t1,i1,[],0⟩,⟨t2,i2,ifs,0⟩] scope pos) 1 it (.ref D) env).onRaise (fun x=>do noteFrame x env;theTreesLotGoes x)) _ _ s
 refine wpAny_noted ?_
 rw[sW]
 refine wpAny_bind (wpAny_standAt (wpAny_bind (wpAny_mono (turn n s hI) (fun r s1 h1=> ?_) gT)))
 cases r with
 |none=>exact wpAny_pure h1
 |some v=>
  refine wpAny_bind (wpAny_mono h1 (fun _ s2 h2=>wpAny_bind (wpAny_mono h2 (fun _ s3 h3=>wpAny_bind (wpAny_mono h3 (fun ok s4 h4=> ?_) gT)) gT)) gT)
  cases ok with
  |false=>exact wpAny_pure ⟨rfl,h4⟩
  |true=>
   refine wpAny_bind (wpAny_bind (wpAny_mono h4 (fun x s5 h5=>wpAny_bind (wpAny_holding (wpAny_mono h5 (fun y s6 h6=> ?_) gT))) gT))
   exact wpAny_bind (wpAny_standAt (wpAny_holding (wpAny_mono h6 (fun _ s7 h7=>wpAny_pure ⟨rfl,h7⟩) gT)))
theorem rh{it acc:Value}(h0:codeAny (model prog w) A (.compLoop (.DictComp kx vx [⟨t1,i1,[],0⟩,⟨t2,i2,ifs,0⟩] scope pos) 1 it acc env) R s)
  (h:wpAny (model prog w) A (pyIter it) (fun it' s'=>codeAny (model prog w) A (.compLoop (.DictComp kx vx [⟨t1,i1,[],0⟩,⟨t2,i2,ifs,0⟩] scope pos) 1 it' acc env) R s') (notedBy (model prog w) A env fun x s'=>R (.error x) s') s):
  codeAny (model prog w) A (.compStart (.DictComp kx vx [⟨t1,i1,[],0⟩,⟨t2,i2,ifs,0⟩] scope pos) 1 it acc env) R s:=by
 refine codeAny_of_tree ?_
 show wpAny _ A ((compStart (.DictComp kx vx [⟨t1,i1,[],0⟩,⟨t2,i2,ifs,0⟩] scope pos) 1 it acc env).onRaise (fun x=>do noteFrame x env;standAt theWindowsPlace)) _ _ s
 refine wpAny_notedAt ?_
 unfold compStart
 show wpAny _ A (ask>>=_) _ _ s
 refine wpAny_bind (wpAny_askSetting (wpAny_ite ?_));split
 ·first|exact wpAny_bind (wpAny_pure (wpAny_pure (And.intro rfl h0)))|exact wpAny_pure (And.intro rfl h0)
 ·refine wpAny_bind (wpAny_rule ?_);show wpAny _ _ (standAt i2.pos>>=_) _ _ s;exact wpAny_bind (wpAny_standAt (wpAny_bind (wpAny_mono h (fun it' s' h'=>wpAny_pure (And.intro rfl h')) fun _ _ x=>x)))
theorem yw{it:Value}(Iv:Nat->Shared->Prop)(hs: ∀x,foldedSetIterable i2 env x=pure x)
  (turn: ∀n s,Iv n s->wpAny (model prog w) A (pyNext it) (fun r s1=>match r with
   |none=>R (.ok .next) s1
   |some v=>wpAny (model prog w) A (letOwnedTupleGo t1 it v) (fun _ s2=>wpAny (model prog w) A (assign t1 env v) (fun _ s3=>wpAny (model prog w) A (eval i2 env) (fun x s4=>wpAny (model prog w) A (pyIter x) (fun we s5=>
     codeAny (model prog w) A (.compStart (.DictComp kx vx [⟨t1,i1,[],0⟩,⟨t2,i2,ifs,0⟩] scope pos) 1 we (.ref D) env) (fun r s6=>match r with| .ok _=> ∃m,m<n/\Iv m s6| .error _=>False) s5) (fun _ _=>False) s4) (fun _ _=>False) s3) (fun _ _=>False) s2) (fun _ _=>False) s1) (fun _ _=>False) s)(n:Nat)(h:Iv n s):
  codeAny (model prog w) A (.compLoop (.DictComp kx vx [⟨t1,i1,[],0⟩,⟨t2,i2,ifs,0⟩] scope pos) 0 it (.ref D) env) R s:=by
 refine codeAny_loop rfl Iv (fun n s hI=> ?_) n h
 show wpAny (model prog w) A ((compTurn (.DictComp kx vx [⟨t1,i1,[],0⟩,⟨t2,i2,ifs,0⟩] scope pos) 0 it (.ref D) env).onRaise (fun x=>do noteFrame x env;theTreesLotGoes x)) _ _ s
 refine wpAny_noted ?_
 rw[sX]
 refine wpAny_bind (wpAny_standAt (wpAny_bind (wpAny_mono (turn n s hI) (fun r s1 h1=> ?_) fun _ _ z=>z.elim)))
 cases r with
 |none=>exact wpAny_pure h1
 |some v=>
  refine wpAny_bind (wpAny_mono h1 (fun _ s2 h2=>wpAny_bind (wpAny_mono h2 (fun _ s3 h3=>wpAny_bind (wpAny_mono h3 (fun x s4 h4=> ?_) fun _ _ z=>z.elim)) fun _ _ z=>z.elim)) fun _ _ z=>z.elim)
  refine wpAny_bind (wpAny_standAt (wpAny_bind (wpAny_of_eq (hs x) (wpAny_bind (wpAny_holding (wpAny_mono h4 (fun we s5 h5=> ?_) fun _ _ z=>z.elim))))))
  refine wpAny_bind (wpAny_runOwn (codeAny_mono h5 fun r s6 h6=> ?_))
  cases r with
  |error e=>exact h6.elim
  |ok f=>exact wpAny_pure ⟨rfl,h6⟩
end
def Ei(Ep Er:TI)(tt:TT)(tk tv:TE):TE:=fun σ H Q=>Ep σ H fun J1 H1=> ∃u,Iy u/\ ∀D,H1 D=none-> ∃W:Nat->Nat->Hp->Prop,(∃m,W 0 m (upd H1 D u))/\ ∀i m H,W i m H->
 (J1.stop i H/\Q (.ref D) H)\/(J1.go i H/\ ∀x H',J1.mZ i H x H'->Er (some x::none::σ) H' fun J2 H3=> ∃U:Nat->Nat->Hp->Prop,(∃n,U 0 n H3)/\ ∀j n H,U j n H->
  (J2.stop j H/\ ∃m',m'<m/\W (i+1) m' H)\/(J2.go j H/\ ∀y H',J2.mZ j H y H'->tt (some x::some y::σ) H' fun b H5=>
   if b=true then tk (some x::some y::σ) H5 fun k H6=>tv (some x::some y::σ) H6 fun z H7=> ∃H8,ib H7 D k z H8/\ ∃n',n'<n/\U (j+1) n' H8 else ∃n',n'<n/\U (j+1) n' H5))
section
variable{Y:Cx}{kx vx t1 i1 t2 i2:Expr}{ifs:List Expr}{scope:Scope}{pos:Pos}{tt:TT}{tk tv:TE}
theorem Al{pl:List (Addr×Obj)}{σ:St}{x:V}{H:Hp}{s:Shared}{D it:Addr}{fp:List Addr}{tn:Nat->Heap->Prop}{J:It}{R:Result->Shared->Prop}{U:Nat->Nat->Hp->Prop}{n0:Nat}{Qe:Hp->Prop}
  (hu:Y.A.units+1<cLine)(hc:Y.calm=true)(hx:Y.xe=fun _ _=>False)(hg:PG Y t2 (bR 1))(ht:kP Y ifs tt)(hk:PE Y kx tk)(hv:PE Y vx tv)(Tn:Turn Y.prog Y.w Y.K t2 J fp it tn)(hf: ∀b∈fp,dD Y pl H b)
  (I1:Inv Y pl (some x::none::σ) H s)(st1:tn 0 s.heap)(w0:U 0 n0 H)
  (turn: ∀j n H,U j n H->(J.stop j H/\Qe H)\/(J.go j H/\ ∀y H',J.mZ j H y H'->tt (some x::some y::σ) H' fun b H5=>
   if b=true then tk (some x::some y::σ) H5 fun k H6=>tv (some x::some y::σ) H6 fun z H7=> ∃H8,ib H7 D k z H8/\ ∃n',n'<n/\U (j+1) n' H8 else ∃n',n'<n/\U (j+1) n' H5))
  (hR: ∀s2 H2,Inv Y pl (some x::none::σ) H2 s2->Qe H2->R (.ok .next) s2):
  codeAny (model Y.prog Y.w) Y.A (.compLoop (.DictComp kx vx [⟨t1,i1,[],0⟩,⟨t2,i2,ifs,0⟩] scope pos) 1 (.ref it) (.ref D) Y.env) R s:=by
 have lC: ∀ (H':Hp),(∀b∈fp,H' b=none)-> ∀b∈fp,dD Y pl H' b:=fun H' hn b hb=>⟨hn b hb,(hf b hb).2⟩
 refine xG (fun n s'=> ∃j H',Inv Y pl (some x::none::σ) H' s'/\tn j s'.heap/\(∀b∈fp,H' b=none)/\U j n H') Y.xe (fun e s' z=>by rw[hx]at z;exact z.elim) ?_ n0 ⟨0,H,I1,st1,fun b hb=>(hf b hb).1,w0⟩
 rintro n s3 ⟨j,H3,I3,st3,tw,w3⟩
 rcases turn j n H3 w3 with⟨stop,qe⟩|⟨go,step⟩
 ·refine aL (Tn.done Y rfl rfl rfl hc j _ s3 _ H3 Y.xe I3 (lC H3 tw) st3 stop) fun r s4 ⟨hr,I4⟩=> ?_
  subst hr
  exact hR s4 H3 I4 qe
 ·refine aL (Tn.item Y rfl rfl rfl hc j _ s3 _ H3 Y.xe I3 (lC H3 tw) st3 go) fun r s4 ⟨u,hr,h4⟩=> ?_
  subst hr
  refine aL h4 fun _ s5 ⟨y,H5,I5,r5,y5,ki,tX⟩=> ?_
  have Cw:=I5.pinned (lC H5 tX) (Tn.obj _ _ ki)
  refine aL (hg _ s5 _ H5 y u (fun σ2 H2=>σ2=some x::some y::σ/\H2=H5) Cw r5 ⟨rfl,rfl⟩) fun _ s6 ⟨zk,H6,I6,e6,LK⟩=> ?_
  subst e6 LK
  refine aL (ht _ s6 _ H6 _ I6 (step y H6 y5)) fun ok s7 ⟨H7,I7,q7⟩=> ?_
  have back: ∀ {H8:Hp} {s8:Shared},Inv Y (pl++gw fp s5.heap) (some x::some y::σ) H8 s8->Inv Y pl (some x::none::σ) H8 s8/\tn (j+1) s8.heap/\(∀b∈fp,H8 b=none):=fun{H8 s8} I8=>by
   refine⟨(I8.du (j6:=pl) fun p hp=>I8.pin p (List.mem_append_right _ (List.mem_append_left _ hp))).weak (by simp) fun k v e=> ?_,Tn.keep _ _ _ ki fun b hb o e=>(I8.pin (b,o) (List.mem_append_right _ (List.mem_append_right _ (bd hb e)))).1,fun b hb=> ?_⟩
   ·cases k with
    |zero=>simpa using e
    |succ k=>
     cases k with
     |zero=>simp at e
     |succ k=>simpa using e
   ·obtain⟨o,e,d⟩:=Tn.obj _ _ ki b hb
    exact(I8.pin (b,o) (List.mem_append_right _ (List.mem_append_right _ (bd hb e)))).2.1
  cases ok with
  |false=>
   simp only[Bool.false_eq_true,if_false]at q7⊢
   obtain⟨m',hm,w7⟩:=q7
   obtain⟨J8,mX,tY⟩:=back I7
   exact⟨m',hm,j+1,H7,J8,mX,tY,w7⟩
  |true=>
   simp only[if_true]at q7⊢
   refine aL (hk _ s7 _ H7 _ I7 q7) fun uk s8 ⟨k,H8,I8,rk,q8⟩=> ?_
   refine aL (hv _ s8 _ H8 _ I8 q8) fun uv s9 ⟨z,H9,I9,rz,vD,dp,m',hm,w9⟩=> ?_
   refine nE hu I9 dp rk rz fun yJ Ir=> ?_
   obtain⟨J8,mX,tY⟩:=back Ir
   exact⟨m',hm,j+1,vD,J8,mX,tY,w9⟩
end
section
variable{X:Cx}{n1 n2:Str}{scope:Scope}{kx vx t1 i1 t2 i2:Expr}{ifs:List Expr}{pos:Pos}{Ep Er:TI}{tt:TT}{tk tv:TE}
theorem yC(hu:X.A.units+1<cLine)(S:eL X [n1,n2] scope)(hc:X.calm=true)(hi:PI X t1 i1 Ep)(jA: ∀Y,bE X [n1,n2] scope (fun _ _=>False) Y->PG Y t1 (bR 0))(gK: ∀Y,bE X [n1,n2] scope (fun _ _=>False) Y->PG Y t2 (bR 1))
  (hi2: ∀Y,bE X [n1,n2] scope (fun _ _=>False) Y->PI Y t2 i2 Er)(ht: ∀Y,bE X [n1,n2] scope (fun _ _=>False) Y->kP Y ifs tt)
  (hk: ∀Y,bE X [n1,n2] scope (fun _ _=>False) Y->PE Y kx tk)(hv: ∀Y,bE X [n1,n2] scope (fun _ _=>False) Y->PE Y vx tv)(hs: ∀x,foldedSetIterable i1 X.env x=pure x:=by intro _;rfl)(hs2: ∀env x,foldedSetIterable i2 env x=pure x:=by intro _ _;rfl):
  PE X (.DictComp kx vx [⟨t1,i1,[],0⟩,⟨t2,i2,ifs,0⟩] scope pos) (Ei Ep Er tt tk tv):=by
 intro pins s σ H Q I h
 rw[arm_eval_DictComp]
 refine wpAny_comprehension_free (use:=none) (cl:=cO X.env.cells scope.names []) rfl hs (dX fun n hn=>I.ok.has n (S.cap n hn)) S.kind S.loc ?_
 refine aL (hi pins s σ H _ I h) fun v s1 h1=>aL h1 fun itv s2 h2=> ?_
 obtain⟨it,fp,tn,J,H2,e,I2,Tn,st2,f2,u,nu,q2⟩:=h2
 subst e
 have hfl: ∀b∈fp,b<s2.heap.objs.size:=fun b hb=>by
  obtain⟨o,ho,_⟩:=Tn.obj _ _ st2 b hb
  exact Heap.lt_size ho
 have IQ:=I2.hok.fresh (Nat.le_refl s2.heap.objs.size)
 obtain⟨W,⟨m0,w0⟩,turn⟩:=q2 s2.heap.objs.size IQ
 refine wpAny_newObj_type (wpAny_newFunctionEnv S.io (by intro y hy;cases hy) (fun h4 hns kf=> ?_) S.kind)
 dsimp only at hns kf⊢
 have I3:Inv X pins σ (upd H2 s2.heap.objs.size u) {s2 with heap:=s2.heap.push {cls:= .type "dict",data:= .dict #[]}}:=by
  rcases nu with rfl|rfl
  ·exact I2.laid (a:=s2.heap.objs.size) (o:= .dK []) (t':=s2.toks) (fun _ _ q=>Heap.get?_push_of_some _ q) (Nat.le_refl _) (k7 s2.heap I2.big)
  ·exact I2.laid (a:=s2.heap.objs.size) (o:= .dT []) (t':=s2.toks) (fun _ _ q=>Heap.get?_push_of_some _ q) (Nat.le_refl _) (lf s2.heap I2.big)
 generalize tz:s2.heap.push {cls:= .type "dict",data:= .dict #[]}=H3 at hns kf I3⊢
 have hC:H3.objs.size=s2.heap.objs.size+1:=by rw[<-tz,Heap.size_push]
 have i8: ∀b o,H3.get? b=some o->h4.get? b=some o:=fun b o e=>kf.extBut b o (Nat.ne_of_lt (Heap.lt_size e)) (Heap.get?_push_of_some _ e)
 have old: ∀b o,s2.heap.get? b=some o->h4.get? b=some o:=fun b o e=>i8 b o (by rw[<-tz];exact Heap.get?_push_of_some _ e)
 have f3: ∀b∈fp,dD X pins (upd H2 s2.heap.objs.size u) b:=fun b hb=>by
  obtain⟨g1,g2⟩:=f2 b hb
  exact⟨by rw[ak (Nat.ne_of_lt (hfl b hb))];exact g1,g2⟩
 have loop: ∀s4:Shared,s4= {s2 with heap:=h4,toks:=s2.toks+([]:List (Str×Value)).length}->
   codeAny (model X.prog X.w) X.A (.compLoop (.DictComp kx vx [⟨t1,i1,[],0⟩,⟨t2,i2,ifs,0⟩] scope pos) 0 (.ref it) (.ref s2.heap.objs.size) (compEnvC scope (cO X.env.cells scope.names []) H3.objs.size X.env))
    (compPost (model X.prog X.w) X.A X.xe none (EP X pins σ Q) (.ref s2.heap.objs.size) H3.objs.size) s4:=by
  rintro s4 rfl
  have I4:Inv (aM X [n1,n2] scope H3.objs.size {s2 with heap:=H3} (upd H2 s2.heap.objs.size u) fp (X.pn++pins) (fun _ _=>False)) [] (none::none::σ) (upd H2 s2.heap.objs.size u) {s2 with heap:=h4,toks:=s2.toks+([]:List (Str×Value)).length}:=
   dY S I3 f3 (fun b hb=>Nat.lt_of_lt_of_le (hfl b hb) (by show s2.heap.objs.size<=H3.objs.size;rw[hC];exact Nat.le_succ _)) i8 (Nat.le_refl _) hns rfl rfl
  have cmp:bE X [n1,n2] scope (fun _ _=>False) (aM X [n1,n2] scope H3.objs.size {s2 with heap:=H3} (upd H2 s2.heap.objs.size u) fp (X.pn++pins) (fun _ _=>False)):= .mk ..
  generalize hY:aM X [n1,n2] scope H3.objs.size {s2 with heap:=H3} (upd H2 s2.heap.objs.size u) fp (X.pn++pins) (fun _ _=>False)=Y at I4 cmp
  have eA:Y.A=X.A:=by rw[<-hY];rfl
  have eP:Y.prog=X.prog:=by rw[<-hY];rfl
  have eW:Y.w=X.w:=by rw[<-hY];rfl
  have eK:Y.K=X.K:=by rw[<-hY];rfl
  have eE:Y.env=compEnvC scope (cO X.env.cells scope.names []) H3.objs.size X.env:=by rw[<-hY];rfl
  have eC:Y.calm=true:=by rw[<-hY];exact hc
  have eX:Y.xe=fun _ _=>False:=by rw[<-hY];rfl
  have LM:Y.pn=X.pn++pins:=by rw[<-hY];rfl
  have LJ:Y.ex=fp:=by rw[<-hY];rfl
  have lC: ∀ (H':Hp),(∀b∈fp,H' b=none)-> ∀b∈fp,dD Y [] H' b:=fun H' hn b hb=>by
   have hb':b∈Y.ex:=by rw[LJ];exact hb
   exact⟨hn b hb,(I4.ok.zf b hb').1,I4.ok.mS b hb',.inl hb',(I4.ok.zf b hb').2,fun p hp=>by
    rw[LM]at hp
    rcases List.mem_append.mp hp with z|z
    ·exact(f3 b hb).2.2.2.2.2 p z
    ·cases z⟩
  have lp:=yw (prog:=Y.prog) (w:=Y.w) (A:=Y.A) (kx:=kx) (vx:=vx) (t1:=t1) (i1:=i1) (t2:=t2) (i2:=i2) (ifs:=ifs) (scope:=scope) (pos:=pos) (D:=s2.heap.objs.size) (env:=Y.env) (it:= .ref it) (s:= {s2 with heap:=h4,toks:=s2.toks+([]:List (Str×Value)).length})
   (R:=compPost (model X.prog X.w) X.A X.xe none (EP X pins σ Q) (.ref s2.heap.objs.size) H3.objs.size) (fun m s'=> ∃i H',Inv Y [] (none::none::σ) H' s'/\tn i s'.heap/\(∀b∈fp,H' b=none)/\W i m H') (hs2 _) ?_ m0 ⟨0,_,I4,Tn.keep _ _ _ st2 fun b hb o e=>old b o e,fun b hb=>(f3 b hb).1,w0⟩
  ·rw[eP,eW,eA,eE]at lp;exact lp
  rintro m s3 ⟨i,H5,I5,ki,tX,w5⟩
  have Fq:Turn Y.prog Y.w Y.K t1 J fp it tn:=by rw[eP,eW,eK];exact Tn
  rcases turn i m H5 w5 with⟨stop,qe⟩|⟨go,step⟩
  ·refine aL (Fq.done Y rfl rfl rfl eC i _ s3 _ H5 _ I5 (lC H5 tX) ki stop) fun r s4 ⟨hr,I6⟩=> ?_
   subst hr
   rw[<-hY]at I6
   obtain⟨mm,zi,_⟩:=I6.loc
   exact⟨mm,zi,fun h' pq=>⟨.ref s2.heap.objs.size,_,jx I3 f3 (Nat.le_refl _) I6 pq,rfl,qe⟩⟩
  ·refine aL (Fq.item Y rfl rfl rfl eC i _ s3 _ H5 _ I5 (lC H5 tX) ki go) fun r s4 ⟨uu,hr,h5⟩=> ?_
   subst hr
   refine aL h5 fun _ s5 ⟨x,H6,I6,r6,y6,Hl,LO⟩=> ?_
   have Ll:=I6.pinned (lC H6 LO) (Fq.obj _ _ Hl)
   have a1:=jA Y cmp _ s5 _ H6 x uu (fun σ2 H2=>σ2=some x::none::σ/\H2=H6) Ll r6 ⟨rfl,rfl⟩
   rw[eX]at a1
   refine aL a1 fun _ s6 ⟨zc,H7,I7,e7,LL⟩=> ?_
   subst e7 LL
   have a2:=hi2 Y cmp _ s6 _ H7 _ I7 (step x H7 y6)
   rw[eX]at a2
   refine aL a2 fun xv s7 h7=>aL h7 fun Mu s8 h8=> ?_
   obtain⟨we,Qb,El,J2,H8,e8,I8,ID,mX,f8,U,⟨n0,u0⟩,Cf⟩:=h8
   subst e8
   have qU: ∀ {n':Nat} {s9:Shared},n'=n'->codeAny (model Y.prog Y.w) Y.A (.compLoop (.DictComp kx vx [⟨t1,i1,[],0⟩,⟨t2,i2,ifs,0⟩] scope pos) 1 (.ref we) (.ref s2.heap.objs.size) Y.env)
     (fun r s6=>match r with| .ok _=> ∃m',m'<m/\ ∃i H',Inv Y [] (none::none::σ) H' s6/\tn i s6.heap/\(∀b∈fp,H' b=none)/\W i m' H'| .error _=>False) s8:=fun _=>by
    refine Al (Qe:=fun H=> ∃m',m'<m/\W (i+1) m' H) (by rw[eA];exact hu) eC eX (gK Y cmp) (ht Y cmp) (hk Y cmp) (hv Y cmp) ID f8 I8 mX u0 Cf fun s9 H9 I9 ⟨m',hm,w9⟩=> ?_
    refine⟨m',hm,i+1,H9,(I9.du (j6:= []) fun p hp=>I9.pin p ?_).weak (by simp) fun k v e=> ?_,Tn.keep _ _ _ Hl fun b hb o e=>(I9.pin (b,o) (List.mem_append_right _ (List.mem_append_right _ (bd hb e)))).1,fun b hb=> ?_,w9⟩
    ·exact List.mem_append_left _ (by simpa using hp)
    ·cases k with
     |zero=>simp at e
     |succ k=>
      cases k with
      |zero=>simp at e
      |succ k=>simpa using e
    ·obtain⟨o,e,d⟩:=Tn.obj _ _ Hl b hb
     exact(I9.pin (b,o) (List.mem_append_right _ (List.mem_append_right _ (bd hb e)))).2.1
   exact rh (qU (n':=0) (s9:=s8) rfl) (ID.self _ 0 _ _ _ mX (qU (n':=0) (s9:=s8) rfl))
 refine codeAny_compStart_dict (loop _ rfl) (Tn.self _ 0 _ _ _ ?_ (loop _ rfl))
 exact Tn.keep _ _ _ st2 fun b hb o e=>old b o e
end
end L2
namespace L2
open PySem PySem.Spec PyProof.Rows K2 PySem.W
section
variable{prog:Program}{w:World}
theorem vt(vs:List (Key×Value))(ep:Nat)(r d:Addr)(hn:vs.length<=sizeLine):
  MeetsIn prog w (Builtin.«tuple.__new__» ⟨[.type "tuple",.ref r],[]⟩)
   (fun A R s=>A.handled=none/\s.heap.IsItemsView r d/\s.heap.DictAt (aO prog w) d vs ep/\ ∀ (h':Heap) (tk:Nat) (as:List Addr),(∀b o,s.heap.get? b=some o->h'.get? b=some o)->as.length=vs.length->KdxG (aO prog w) vs s.heap.objs.size h' as->
    R (.ok (.ret (.ref h'.objs.size))) {s with heap:=h'.push {cls:= .type "tuple",data:= .seq (as.map Value.ref).toArray},toks:=tk}):=
 .of_wp fun A R s h=>by
  obtain⟨hp,g,dr,tk,os⟩:=s
  obtain⟨hh,hv,hm,h⟩:=h
  have hsub:=sub_tuple_self
  have Oe:=init_tuple_lookup
  have SI:=madeHere_tuple
  obtain⟨ov,hov,QA,SG⟩:=id hv
  have hT:Shared.TypeIs ⟨hp,g,dr,tk,os⟩ (.ref r) "dict_items":=⟨ov,hov,QA⟩
  wp_walk using wpAny_loadPart' hov,wpAny_typeOf hT,kdx_collect (knd:=aO prog w) (kvs:=vs) (ep:=ep) (A:=A.in1) (show A.in1.handled=none from hh) hv hm hn
  intro h' tk' as kp hl G
  show wpAny _ _ (Builtin.Tuple.tupleExact (as.map Value.ref).toArray>>=fun v=>ret v) _ _ _
  unfold Builtin.Tuple.tupleExact
  exact wpAny_bind (wpAny_newObj_type (wpAny_pure ⟨_,rfl,h h' tk' as kp hl G⟩) (by show(as.map Value.ref).toArray.size<=sizeLine;rw[List.size_toArray,List.length_map,hl];exact hn))
end
section
variable{X:Cx}{pins:List (Addr×Obj)}{σ:St}{H:Hp}{s:Shared}
theorem Inv.Kx{a:Addr}{o:HO}(I:Inv X pins σ H s)(hf:dD X pins H a)(new:bw X.prog X.w (upd H a o) s.heap a o):Inv X pins σ (upd H a o) s:=by
 obtain⟨hn,f1,f2,f3,f4,f5⟩:=hf
 refine⟨I.ok,I.os,I.bare,⟨I.base.keep,I.base.slot,fun b ob h1 h2 h3=> ?_,I.base.there,fun b xs q=> ?_,fun b o' v q=> ?_,fun b ps q=> ?_⟩,I.loc,I.cell,?_,fun x c q=> ?_,fun p hp=> ?_,fun b u e=> ?_,I.len⟩
 ·have:=I.base.free b ob h1 h2 h3
  by_cases hb:b=a
  ·subst hb
   rcases f3 with z|z
   ·exact absurd z h3
   ·exact absurd (Heap.lt_size h1) (Nat.not_lt.mpr z)
  ·rw[ak hb];exact this
 ·have:=I.base.tups b xs q
  rw[ak (ay this hn)];exact this
 ·have:=I.base.ik b o' v q
  rw[ak (ay this hn)];exact this
 ·obtain⟨more,this⟩:=I.base.jS b ps q
  exact⟨more,by rw[ak (ay this hn)];exact this⟩
 ·rw[ak (Ne.symm f1)];exact I.free
 ·rw[ak (f4 x c q)];exact I.cQ x c q
 ·obtain⟨h1,h2,h3⟩:=I.pin p hp
  exact⟨h1,by rw[ak (f5 p hp)];exact h2,h3⟩
 ·by_cases hb:b=a
  ·subst hb
   rw[ac]at e;cases e
   exact new
  ·rw[ak hb]at e
   exact(I.hok b u e).stay (fun _ _ _ q=>q) (fun c q=>by rw[ak (ay q hn)];exact q) fun c xs q=>by rw[ak (ay q hn)];exact q
theorem Inv.sV(lo:Addr)(free: ∀H':Hp,∀a,lo<=a->H' a=none->dD X pins H' a): ∀ (as:List Addr) (vals:List (List V)) (H:Hp),Inv X pins σ H s->as.Pairwise (· < ·)->as.length=vals.length->(∀a∈as,lo<=a/\H a=none)->
  (∀ (i:Nat) a xs,as[i]? =some a->vals[i]? =some xs->xs.length<=sizeLine/\ ∃us:List Value,Vals xs us/\IsTup s.heap a us.toArray)->
  ∃H',Inv X pins σ H' s/\aw H H'/\(∀b,b∉as->H' b=H b)/\ ∀ (i:Nat) a xs,as[i]? =some a->vals[i]? =some xs->H' a=some (.tup xs)
 | [],[],H,I,_,_,_,_=>⟨H,I,aw.refl _,fun _ _=>rfl,fun i a xs e=>by simp at e⟩
 |a::as,xs::vals,H,I,hp,hl,hn,ht=>by
  obtain⟨h1,h2⟩:=hn a (.head _)
  obtain⟨z,us,rv,tp⟩:=ht 0 a xs rfl rfl
  have I2:=I.Kx (o:= .tup xs) (free H a h1 h2) ⟨z,us,rv,tp⟩
  obtain⟨p1,p2⟩:=List.pairwise_cons.mp hp
  obtain⟨H',J,sm,MY,at_⟩:=Inv.sV lo free as vals (upd H a (.tup xs)) I2 p2 (by simpa using hl) (fun b hb=>⟨(hn b (.tail _ hb)).1,by rw[ak (Nat.ne_of_gt (p1 b hb))];exact(hn b (.tail _ hb)).2⟩) fun i b ys e1 e2=>ht (i+1) b ys (by simpa using e1) (by simpa using e2)
  have na:a∉as:=fun hm=>Nat.lt_irrefl _ (p1 a hm)
  refine⟨H',J,(ah h2 _).trans sm,fun b hb=> ?_,fun i b ys e1 e2=> ?_⟩
  ·have hb2:b≠a:=fun z=>hb (by rw[z];exact .head _)
   rw[MY b (fun z=>hb (.tail _ z)),ak hb2]
  ·cases i with
   |zero=>simp at e1 e2;subst e1 e2;rw[MY _ na,ac]
   |succ i=>exact at_ i b ys (by simpa using e1) (by simpa using e2)
 | [],_::_,_,_,_,h,_,_=>by simp at h
 |_::_,[],_,_,_,h,_,_=>by simp at h
end
section
variable{X:Cx}
def Kv(to:TE):TE:=fun σ H Q=>to σ H fun x H1=> ∃a kvs,x= .ref a/\Rd H1 a (.dK kvs)/\ ∀vw,H1 vw=none->Q (.ref vw) (upd H1 vw (.ext fun h=>h.IsItemsView vw a))
theorem DO{l:Expr}{to:TE}{apos cpos:Pos}(hl:PE X l to)(hbase:attributeBase l "items" X.env (eval l X.env)=eval l X.env:=by rfl)(hline:(apos.endLine==cpos.line)=true:=by rfl):
  PE X (.Call (.Attribute l "items" apos) [] [] cpos) (Kv to):=by
 intro pins s σ H Q I h
 refine wpAny_Call_method0_late hbase hline (aL (hl pins s σ H _ I h) fun v s1 ⟨x,H1,I1,r1,q1⟩=> ?_)
 obtain⟨a,kvs,rfl,ha,q⟩:=q1
 cases r1
 obtain⟨hz,hS,vs,rv,hD⟩:=ha.ok I1.hok
 have Qk:=hD
 obtain⟨o,es,ep,e0,c0,d0,k0,p0,n0⟩:=Qk
 refine⟨"dict", "dict.items",PySem.F.plainAttrs_dict,PySem.F.slot_dict_items,PySem.F.type_dict_items,hD.typeIs,fun b z=> ?_,Calls.callWith_builtin rfl (PySem.evalArgs_none ?_)⟩
 ·cases z;exact⟨o,e0,c0.2.1⟩
 refine call_meetsIn PySem.F.slot_dict_items hD.typeIs PySem.F.entry_dict_items (PySem.F.args_dict_items_1 _) (meets_dict_items (aO X.prog X.w) a hS) ⟨⟨vs,hD⟩,?_⟩
 have hv:(s1.heap.push {cls:= .type "dict_items",data:= .fields #[.ref a]}).IsItemsView s1.heap.objs.size a:=⟨_,Heap.get?_push_size _ rfl,rfl,rfl⟩
 refine⟨.ref s1.heap.objs.size,_,I1.laid (a:=s1.heap.objs.size) (o:= .ext fun h=>h.IsItemsView s1.heap.objs.size a) (t':=s1.toks) (fun b u e=>Heap.get?_push_of_some _ e) (Nat.le_refl _) ⟨hv,⟨_,Heap.get?_push_size _ rfl⟩,fun h1 h2 x k=> ?_⟩,rfl,q _ (I1.hok.fresh (Nat.le_refl _))⟩
 obtain⟨ov,e,r⟩:=x
 exact⟨ov,k ov e,r⟩
inductive DV(xs:List V)(H:Hp)(Q:VK):Prop
 |mk (vw a:Addr) (kvs:List (Key×V)) (_:xs= [.ref vw]) (_:H vw=some (.ext fun h=>h.IsItemsView vw a)) (_:Rd H a (.dK kvs)) (_: ∀ (l:Addr) (H2:Hp) (bs:List Addr),aw H H2->H l=none->bs.length=kvs.length->(∀ (i:Nat) k v b,kvs[i]? =some (k,v)->bs[i]? =some b->H2 b=some (.tup [kV k,v]))->H2 l=some (.tup (bs.map V.ref))->Q (.ref l) H2)
theorem oO: ∀as:List Addr,Vals (as.map V.ref) (as.map Value.ref)
 | []=> .nil
 |_::as=> .cons rfl (oO as)
theorem qJ(hc:X.calm=true):dc X (.type "tuple") DV:=by
 intro pins s σ H xs us Q I r h
 obtain⟨vw,a,kvs,rfl,hv,ha,q⟩:=h
 obtain⟨u,rfl,ru⟩:=vals1 r
 cases ru
 obtain⟨hz,hS,vs,rv,o,es,ep,e0,c0,d0,k0,p0,n0⟩:=ha.ok I.hok
 have L5:=uq rv
 have hD:s.heap.DictAt (aO X.prog X.w) a vs ep:=⟨o,es,e0,c0,d0,k0,p0,n0⟩
 refine callType_newIn PySem.F.called_tuple (by decide) (PySem.F.typeCall_tuple_1 _) (PySem.F.newCall_tuple_1 _) (fun obj=>PySem.F.args_object_init_2 obj _) PySem.F.entry_tuple_new (vt vs ep vw a (by omega)) ⟨I.ok.hd hc,(I.hok vw _ hv).1,hD,fun h' tk as kp la G=>⟨⟨_,Heap.get?_push_size _ rfl,rfl⟩,?_⟩⟩
 have I1:Inv X pins σ H {s with heap:=h',toks:=tk}:=I.kept kp
 have free: ∀H':Hp,∀b,s.heap.objs.size<=b->H' b=none->dD X pins H' b:=fun H' b hb hn=>I.lB hb hn
 obtain⟨H2,J,sm,MY,at_⟩:=Inv.sV s.heap.objs.size free as (kvs.map fun p=> [kV p.1,p.2]) H I1 G.rise (by rw[List.length_map];omega) (fun b hb=>⟨Nat.le_of_lt (G.above b hb),I.hok.fresh (Nat.le_of_lt (G.above b hb))⟩) fun i b ys e1 e2=>by
  obtain⟨key,k,x,g1,g2,g3⟩:=G.pairs i b e1
  obtain⟨v,e3,e4⟩:=Ao rv g1
  rw[List.getElem?_map,e3]at e2
  cases e2
  exact⟨by show 2<=sizeLine;decide,[key,x],.cons (wg g2) (.cons e4 .nil),_,g3,rfl,_,rfl⟩
 have I3:=J.laid (a:=h'.objs.size) (o:= .tup (as.map V.ref)) (t':=tk) (h':=h'.push {cls:= .type "tuple",data:= .seq (as.map Value.ref).toArray}) (fun b u e=>Heap.get?_push_of_some _ e) (Nat.le_refl _) ⟨by rw[List.length_map];omega,as.map Value.ref,oO as,IsTup.new _ _⟩
 have hfr:H2 h'.objs.size=none:=J.hok.fresh (Nat.le_refl _)
 refine⟨.ref h'.objs.size,_,I3,rfl,q _ _ as (sm.trans (ah hfr _)) (I1.hok.fresh (Nat.le_refl _)) (by omega) (fun i k v b e1 e2=> ?_) ac⟩
 have h2:=at_ i b [kV k,v] e2 (by rw[List.getElem?_map,e1];rfl)
 rw[ak (ay h2 hfr)]
 exact h2
end
end L2
namespace L2
open PySem PySem.Spec PyProof.Rows K2 PySem.W
section
variable{prog:Program}{w:World}{A:Around}{E:Value->Shared->Prop}{s:Shared}
theorem qh{x:Value}{Q:Value->Shared->Prop}
  (h:wpAny (model prog w) A.in1 (collect x) (fun vs s1=> ∃ss,StrsAre vs ss/\vs.length<64/\ ∀ (h':Heap) (D:Addr) (out:Array Value) (ss':List Str) (c:Nat),(∀b o,s1.heap.get? b=some o->h'.get? b=some o)->s1.heap.objs.size<=D->h'.get? D=some (seqObj "list" out c)->
   StrsAre out.toList ss'->ss'.Perm ss->sortedS ss'=true->Q (.ref D) {s1 with heap:=h'}) E s):
  wpAny (model prog w) A (call (.builtin "sorted") [x]) Q E s:=by
 refine Calls.call_function_entry kind_sorted plain_sorted entry_sorted (args_sorted1 _) ?_
 unfold Builtin.«sorted»
 refine wpAny_bind (m:=checkCount "sorted" 1 1 _) (wpAny_pure (wpAny_bind (wpAny_mono h (fun vs s1 hq=> ?_) fun _ _ z=>z)))
 obtain⟨ss,hS,h64,k⟩:=hq
 refine wpAny_bind (wpAny_newList ?_ (by rw[sizeLine_eq];omega))
 have o1:=Heap.get?_push_size s1.heap (o:=seqObj "list" vs.toArray 0) rfl
 show wpAny _ _ _ _ _ {s1 with heap:=s1.heap.push (seqObj "list" vs.toArray 0)}
 refine wpAny_bind (wpAny_holding (wpAny_call_entry slot_list_sort ⟨_,o1,rfl⟩ entry_list_sort (list_sort_treeK strKind_oneLt o1 hS.keysOf (fun v1 v2 rest e=>keyKind_strs (by rw[<-e];exact hS)) h64 fun st' hp hs=>⟨_,rfl,wpAny_pure ⟨_,rfl,?_⟩⟩) (args_list_sort _)))
 obtain⟨ss',a1,a2,a3⟩:=sorted_out_str hS hp hs
 obtain⟨c,e1⟩:=sortedHeap_at (out:=(arrOf st').map (·.2)) o1
 refine k _ _ _ ss' c (fun b o e=> ?_) (Nat.le_refl _) e1 a1 a2 a3
 rw[sortedHeap_old (Nat.ne_of_lt (Heap.lt_size e)) (by rw[size_push'];exact Nat.lt_succ_of_lt (Heap.lt_size e))]
 exact Heap.get?_push_of_some _ e
end
theorem kb: ∀ {xs:List V} {us:List Value},xs.length=us.length->(∀ (i:Nat) x u,xs[i]? =some x->us[i]? =some u->RelV x u)->Vals xs us
 | [],[],_,_=> .nil
 |x::xs,u::us,h,k=> .cons (k 0 x u rfl rfl) (kb (by simpa using h) fun i y v e1 e2=>k (i+1) y v (by simpa using e1) (by simpa using e2))
 | [],_::_,h,_=>by simp at h
 |_::_,[],h,_=>by simp at h
theorem oH: ∀ {us:List Value} {ss:List Str},StrsAre us ss->Vals (ss.map V.str) us
 |_,_,.nil=> .nil
 |_,_,.cons y t r=> .cons ⟨t,rfl⟩ (oH r)
theorem jt: ∀ {us:List Value} {ss:List Str},Vals (ss.map V.str) us->StrsAre us ss
 |_,[],r=>by cases r;exact .nil
 |_,s::ss,r=>by
  cases r with
  |cons r1 r2=>obtain⟨t,rfl⟩:=r1;exact .cons s t (jt r2)
section
variable{X:Cx}
inductive Bs(xs:List V)(H:Hp)(Q:VK):Prop
 |mk (a:Addr) (kvs:List (Str×V)) (_:xs= [.ref a]) (_:Rd H a (.dK (kvs.map fun p=>((Sum.inr p.1:Key),p.2)))) (_:kvs.length<64) (_: ∀ (l:Addr) (ks:List Str),H l=none->ks.Perm (kvs.map (·.1))->sortedS ks=true->Q (.ref l) (upd H l (.lst (ks.map V.str))))
theorem o0(hc:X.calm=true):dc X (.builtin "sorted") Bs:=by
 intro pins s σ H xs us Q I r h
 obtain⟨a,kvs,rfl,ha,h64,q⟩:=h
 obtain⟨u,rfl,ru⟩:=vals1 r
 cases ru
 obtain⟨hz,hS,vs,rv,o,es,ep,e0,c0,d0,k0,p0,n0⟩:=ha.ok I.hok
 have L5:=uq rv
 rw[List.length_map]at L5 hz
 have hD:s.heap.DictAt (aO X.prog X.w) a vs ep:=⟨o,es,e0,c0,d0,k0,p0,n0⟩
 refine qh (kdu_collect (kdl_dict (knd:=aO X.prog X.w) (kvs:=vs) (ep:=ep) hS) (show X.A.in1.handled=none from I.ok.hd hc) hD (by omega) fun h' tk acc kp it=> ?_)
 have sa:StrsAre acc.toList (kvs.map (·.1)):=by
  refine jt (kb ?_ fun i x v e1 e2=> ?_)
  ·simp[it.1,L5]
  ·rw[Array.getElem?_toList]at e2
   obtain⟨k,x',g1,g2⟩:=it.2 i v e2
   obtain⟨v',g3,_⟩:=Ao rv g1
   rw[List.getElem?_map]at g3
   rw[List.getElem?_map,List.getElem?_map]at e1
   cases g4:kvs[i]? with
   |none=>rw[g4]at e1;cases e1
   |some y=>
    rw[g4]at e1 g3
    cases e1
    simp only[Option.map_some,Option.some.injEq,Prod.mk.injEq]at g3
    rw[<-g3.1]at g2
    exact wg (k:=Sum.inr y.1) (v:=v) g2
 refine⟨_,sa,by rw[Array.length_toList,it.1];omega,fun h3 D out ks c Dd IW eD so pm st=> ?_⟩
 have I1:Inv X pins σ H {s with heap:=h',toks:=tk}:=I.kept kp
 have pl:=pm.length_eq
 rw[List.length_map]at pl
 refine⟨.ref D,_,I1.laid (a:=D) (o:= .lst (ks.map V.str)) (t':=tk) Dd IW ⟨?_,out.toList,c,oH so,by simpa using eD⟩,rfl,q D ks (I1.hok.fresh IW) pm st⟩
 rw[List.length_map,pl,sizeLine_eq];omega
end
end L2
namespace L2
open PySem PySem.Spec PyProof.Rows PySem.W K2
section
variable{prog:Program}{w:World}{A:Around}{E:Value->Shared->Prop}{s:Shared}
theorem rF{a:Addr}{vs:List Value}{n:Nat}{P:Fin->Shared->Prop}(ho:s.heap.get? a=some (seqObj "list" vs.toArray n))(h1:vs.length<2)
  (h:P (.done (.ret .none)) {s with heap:=sortedHeap s.heap a vs vs.toArray}):wpAny (model prog w) A (Builtin.«list.sort» ⟨[.ref a],[]⟩) P E s:=by
 rw[list_sort_plain]
 have la:a<s.heap.objs.size:=Heap.lt_size ho
 have zl:vs.toArray.size=vs.length:=by simp
 refine wpAny_bind (listItems_at ho rfl (wpAny_bind (listUpdate_at ho rfl ?_)))
 obtain⟨e1,o1⟩: ∃e1,(s.heap.update a (Obj.mapSeq fun _=> #[])).get? a=some (seqObj "list" #[] e1):=⟨_,get?_update_seq ho _⟩
 refine wpAny_bind (seqEpoch_at o1 rfl (wpAny_bind (wpAny_newTuple (wpAny_bind (wpAny_newList (wpAny_holding ?_))))))
 have o6:(((s.heap.update a (Obj.mapSeq fun _=> #[])).push (seqObj "tuple" vs.toArray 0)).push (seqObj "list" #[] 0)).get? a=some (seqObj "list" #[] e1):=by
  have b1:a≠((s.heap.update a (Obj.mapSeq fun _=> #[])).push (seqObj "tuple" vs.toArray 0)).objs.size:=by rw[size_push',Heap.size_update];exact Nat.ne_of_lt (Nat.lt_succ_of_lt la)
  have b2:a≠(s.heap.update a (Obj.mapSeq fun _=> #[])).objs.size:=by rw[Heap.size_update];exact Nat.ne_of_lt la
  rw[Heap.get?_push_ne _ _ _ b1,Heap.get?_push_ne _ _ _ b2];exact o1
 dsimp only
 have c2:vs.toArray.size<2:=by omega
 rw[if_pos c2,if_pos c2]
 refine wpAny_bind (wpAny_pure ?_)
 rw[StateT.run_pure]
 refine wpAny_bind (wpAny_pure (wpAny_bind (seqEpoch_at o6 rfl ?_)))
 have ze:((vs.toArray.zip vs.toArray).map (·.2))=vs.toArray:=by
  match vs,h1 with
  | [],_=>simp
  | [v],_=>simp
  |_::_::_,h=>exact absurd h (by simp)
 refine wpAny_bind (listUpdate_at o6 rfl ?_ (hsz2:=by show((vs.toArray.zip vs.toArray).map (·.2)).size<=_;rw[ze,zl,sizeLine_eq];omega))
 simp only[bne_self_eq_false,Bool.false_eq_true,if_false]
 refine wpAny_pure ?_
 have e2:((arrOf (SortSt.mk' general' (vs.toArray.zip vs.toArray) #[] 7 none)).map (·.2))=vs.toArray:=ze
 rw[e2]
 exact h
theorem qg{l:Addr}{vs:List Value}{Q:Value->Shared->Prop}(hl:s.heap.IsList l vs.toArray)(h1:vs.length<2)(h:Q (.ref (s.heap.objs.size+1)) {s with heap:=sortedAll s.heap vs vs.toArray}):
  wpAny (model prog w) A (call (.builtin "sorted") [.ref l]) Q E s:=by
 refine Calls.call_function_entry kind_sorted plain_sorted entry_sorted (args_sorted1 _) ?_
 unfold Builtin.«sorted»
 refine wpAny_bind (m:=checkCount "sorted" 1 1 _) (wpAny_pure (wpAny_bind (collect_list hl (wpAny_bind (wpAny_newList ?_ (by rw[sizeLine_eq];omega))) (by rw[sizeLine_eq];omega))))
 have z1:((s.heap.push (seqObj "list" #[] 0)).update s.heap.objs.size (Obj.mapSeq (· ++vs.toArray))).objs.size=s.heap.objs.size+1:=by rw[Heap.size_update,size_push']
 have o1:=Heap.get?_push_size ((s.heap.push (seqObj "list" #[] 0)).update s.heap.objs.size (Obj.mapSeq (· ++vs.toArray))) (o:=seqObj "list" vs.toArray 0) rfl
 rw[z1]at o1
 show wpAny _ _ _ _ _ {s with heap:=((s.heap.push (seqObj "list" #[] 0)).update s.heap.objs.size (Obj.mapSeq (· ++vs.toArray))).push (seqObj "list" vs.toArray 0)}
 rw[z1]
 exact wpAny_bind (wpAny_holding (wpAny_call_entry slot_list_sort ⟨_,o1,rfl⟩ entry_list_sort (rF o1 h1 ⟨_,rfl,wpAny_pure ⟨_,rfl,h⟩⟩) (args_list_sort _)))
end
theorem ua{α:Type}(d:α): ∀l:List α,(List.range l.length).map (fun i=>l.getD i d)=l:=fun l=>by
 apply List.ext_getElem?
 intro i
 rw[List.getElem?_map]
 by_cases h:i<l.length
 ·rw[List.getElem?_range h,List.getElem?_eq_getElem h];simp[List.getD,List.getElem?_eq_getElem h]
 ·rw[List.getElem?_eq_none (by simpa using Nat.le_of_not_lt h),List.getElem?_eq_none (Nat.le_of_not_lt h)];rfl
theorem wI{H:Hp}: ∀ {ps:List PV} {vs:List V} {i:Nat} {p:PV},aq H ps vs->ps[i]? =some p-> ∃v,vs[i]? =some v/\Rep H p v
 | [],_,_,_,_,e=>by simp at e
 |q::ps,vs,i,p,r,e=>by
  simp only[aq]at r
  obtain⟨v,t,rfl,h1,h2⟩:=r
  cases i with
  |zero=>simp at e;subst e;exact⟨v,rfl,h1⟩
  |succ i=>simp at e;obtain⟨u,h3,h4⟩:=wI h2 e;exact⟨u,by simpa using h3,h4⟩
theorem nX{H:Hp}{α:Type}{f:α->PV}{d:α}{l:List α}{vs:List V}(r:aq H (l.map f) vs): ∀idx:List Nat,(∀i∈idx,i<l.length)->aq H (idx.map fun i=>f (l.getD i d)) (idx.map fun i=>vs.getD i .aH)
 | [],_=>by simp[aq]
 |i::idx,h=>by
  have hi:=h i (.head _)
  have e:(l.map f)[i]? =some (f (l.getD i d)):=by rw[List.getElem?_map,List.getElem?_eq_getElem hi];simp[List.getD,List.getElem?_eq_getElem hi]
  obtain⟨v,h1,h2⟩:=wI r e
  simp only[List.map_cons,aq]
  exact⟨vs.getD i .aH,_,rfl,by rw[show vs.getD i .aH=v by simp[List.getD,h1]];exact h2,nX r idx fun j hj=>h j (.tail _ hj)⟩
theorem oN{vs:List V}{us:List Value}(r:Vals vs us): ∀idx:List Nat,(∀i∈idx,i<vs.length)->Vals (idx.map fun i=>vs.getD i .aH) (idx.map fun i=>us.getD i Value.none)
 | [],_=> .nil
 |i::idx,h=>by
  have hi:=h i (.head _)
  obtain⟨u,h1,h2⟩:=r.get (List.getElem?_eq_getElem hi)
  refine .cons ?_ (oN r idx fun j hj=>h j (.tail _ hj))
  simp only[List.getD,List.getElem?_eq_getElem hi,h1,Option.getD_some]
  exact h2
def fu(nss:List (List Int))(k i:Nat):List Int:=nss.getD i (List.replicate k 0)
theorem dQ{nss:List (List Int)}{k:Nat}(h: ∀ns∈nss,ns.length=k)(i:Nat):(fu nss k i).length=k:=by
 unfold fu
 by_cases hi:i<nss.length
 ·simp only[List.getD,List.getElem?_eq_getElem hi,Option.getD_some]
  exact h _ (List.getElem_mem hi)
 ·simp only[List.getD,List.getElem?_eq_none (Nat.le_of_not_lt hi),Option.getD_none,List.length_replicate]
theorem Da{nss:List (List Int)}{k:Nat}(h: ∀ns∈nss,ns.length=k):SQ.Ord fun i j=>lexLt (fu nss k i) (fu nss k j):=
 ⟨fun a b=>lQ _ _,fun a b c=>nQ _ _ _ (by rw[dQ h,dQ h]) (by rw[dQ h,dQ h])⟩
def EM:Option K2.T->List V
 |none=> []
 |some x=> [.str (S x)]
def ue:Option K2.T->Value
 |none=> .type "int"
 |some _=> .type "str"
inductive DU(K:PySem.W.Frag)(xs:List V)(H:Hp)(Q:VK):Prop
 |mk (p:Addr) (ys:List V) (hd:Option K2.T) (nss:List (List Int)) (k:Nat) (_:xs= [.ref p]) (_:aN K H p ys) (_:aq H (nss.map (tupI hd)) ys) (_:(∀ns∈nss,ns.length=k)) (_:1<=k) (_:nss.length<64) (_: ∀ (l:Addr) (Gx:List (List Int)) (ys':List V),H l=none->Gx.Perm nss->Gx.Pairwise (fun a b=>lexLt b a=false)->aq H (Gx.map (tupI hd)) ys'->Q (.ref l) (upd H l (.lst ys')))
theorem Bv{H:Hp}{hd:Option K2.T}{ns:List Int}{v:V}(r:Rep H (tupI hd ns) v): ∃a,v= .ref a/\H a=some (.tup (EM hd++ns.map V.int)):=by
 obtain⟨a,e,h⟩:=Bu r
 refine⟨a,e,?_⟩
 cases hd with
 |none=>exact h
 |some x=>exact h
inductive kO(h:Heap)(hd:Option K2.T)(u:Value)(ns:List Int):Prop
 |mk (a o xs n:_) (_:u= .ref a) (_:h.get? a=some o) (_:o.cls= .type "tuple") (_:o.data= .seq xs n) (_:Vals (EM hd++ns.map V.int) xs.toList)
theorem xa{h:Heap}{hd:Option K2.T}{k:Nat}(hk1:1<=k): ∀ {us:List Value} {nss:List (List Int)},Paired (kO h hd) us nss->(∀ns∈nss,ns.length=k)-> ∃fs,KatTups h us fs/\fs.length=us.length/\ ∀ (M:Model),∀v∈fs,Looks M h (typeOf v) (ue hd)
 | [],[],_,_=>⟨[],.nil,rfl,fun _ v hv=>nomatch hv⟩
 |u::us,ns::nss,.cons hi hr,hk=>by
  obtain⟨fs,h1,h2,h3⟩:=xa hk1 hr fun ns h=>hk ns (.tail _ h)
  obtain⟨a,o,xs,n,rfl,e,c,d,r⟩:=hi
  have hl:=hk ns (.head _)
  cases hd with
  |some x=>
   have r':Vals (V.str (S x)::ns.map V.int) xs.toList:=r
   cases hx:xs.toList with
   |nil=>rw[hx]at r';cases r'
   |cons f rest=>
    rw[hx]at r'
    cases r' with
    |cons r1 r2=>
    obtain⟨t,rfl⟩:=r1
    refine⟨_::fs,.cons e c d (by rw[<-Array.getElem?_toList,hx];rfl) h1,by simp[h2],fun M v hv=> ?_⟩
    rcases List.mem_cons.mp hv with rfl|hv
    ·exact Looks.of_pure rfl
    ·exact h3 M v hv
  |none=>
   have r':Vals (ns.map V.int) xs.toList:=r
   cases ns with
   |nil=>simp at hl;omega
   |cons n0 ns=>
    cases hx:xs.toList with
    |nil=>rw[hx]at r';cases r'
    |cons f rest=>
     rw[hx]at r'
     cases r' with
     |cons r1 r2=>
     obtain⟨t,rfl⟩:=r1
     refine⟨_::fs,.cons e c d (by rw[<-Array.getElem?_toList,hx];rfl) h1,by simp[h2],fun M v hv=> ?_⟩
     rcases List.mem_cons.mp hv with rfl|hv
     ·exact Looks.of_pure rfl
     ·exact h3 M v hv
theorem C6{prog:Program}{w:World}{A:Around}{s:Shared}{hd:Option K2.T}{u v:Value}{ns ms:List Int}{C:Bool->Shared->Prop}(hu:kO s.heap hd u ns)(hv:kO s.heap hd v ms)(hl:ns.length=ms.length)(h:C (lexLt ns ms) s):
  wpAny (model prog w) A (keyLt' (tuples' true) u v) C (fun _ _=>False) s:=by
 obtain⟨a,o,xs,n,rfl,e,c,d,r⟩:=hu
 obtain⟨a',o',xs',n',rfl,e',c',d',r'⟩:=hv
 have l1:=r.length
 have l2:=r'.length
 simp only[List.length_append,List.length_map,Array.length_toList]at l1 l2
 have sz:decide (xs.size<xs'.size)=false:=decide_eq_false (by omega)
 refine kat_lt e d e' d' ?_
 rw[sz]
 cases hd with
 |none=>exact ut ns ms _ _ 0 hl r r' h
 |some x=>
  have r1:Vals (V.str (S x)::ns.map V.int) xs.toList:=r
  have r2:Vals (V.str (S x)::ms.map V.int) xs'.toList:=r'
  cases hx:xs.toList with
  |nil=>rw[hx]at r1;cases r1
  |cons f rest=>
   cases hy:xs'.toList with
   |nil=>rw[hy]at r2;cases r2
   |cons g rest'=>
    rw[hx]at r1;rw[hy]at r2
    cases r1 with
    |cons p1 p2=>
    cases r2 with
    |cons q1 q2=>
    obtain⟨t,rfl⟩:=p1
    obtain⟨t',rfl⟩:=q1
    refine kat_cons (SeqAt.EqAt.str_str (S x) t (S x) t' prog w _ _ ?_)
    rw[show(S x==S x)=true by simp]
    exact kat_yes (ut ns ms _ _ 1 hl p2 q2 h)
theorem nV{α β:Type}{F:α->β->Prop}: ∀ {l:List α} {m:List β} {i:Nat} {a:α} {b:β},Paired F l m->l[i]? =some a->m[i]? =some b->F a b
 |_,_,_,_,_,.nil,e,_=>by simp at e
 |_,_,0,_,_,.cons h _,e1,e2=>by simp at e1 e2;subst e1 e2;exact h
 |_,_,i+1,_,_,.cons _ t,e1,e2=>nV t (by simpa using e1) (by simpa using e2)
section
variable{X:Cx}
theorem rn{pins:List (Addr×Obj)}{σ:St}{H:Hp}{s:Shared}{h':Heap}{hd:Option K2.T}(I:Inv X pins σ H s)(kp: ∀b o,b≠X.env.locals->s.heap.get? b=some o->h'.get? b=some o):
  ∀ {nss:List (List Int)} {ys:List V} {us:List Value},aq H (nss.map (tupI hd)) ys->Vals ys us->Paired (kO h' hd) us nss
 | [],ys,us,r,v=>by simp only[List.map_nil,aq]at r;subst r;cases v;exact .nil
 |ns::nss,ys,us,r,v=>by
  simp only[List.map_cons,aq]at r
  obtain⟨y,t,rfl,h1,h2⟩:=r
  cases v with
  |cons v1 v2=>
  refine .cons ?_ (rn I kp h2 v2)
  obtain⟨a,rfl,ha⟩:=Bv h1
  cases v1
  obtain⟨its,ri,⟨o,e,c,n,d⟩,_⟩:=I.tuple (bn.of (K:=X.K) ha)
  exact⟨a,o,its.toArray,n,rfl,kp a o (fun z=>by rw[z,I.free]at ha;cases ha) e,c,d,by simpa using ri⟩
theorem fL:dc X (.builtin "sorted") (DU X.K):=by
 intro pins s σ H xs us Q I r h
 obtain⟨p,ys,hd,nss,k,rfl,hq,rs,hk,hk1,h64,q⟩:=h
 obtain⟨u,rfl,ru⟩:=vals1 r
 cases ru
 obtain⟨its,ri,pl,hz⟩:=I.list hq
 have l1:=ri.length
 have l2:=rs.len
 rw[List.length_map]at l2
 by_cases h2:its.length<2
 ·refine qg pl.isList h2 ?_
  obtain⟨e,he⟩:=sortedAll_at s.heap its its.toArray
  refine⟨.ref (s.heap.objs.size+1),_,I.laid (a:=s.heap.objs.size+1) (o:= .lst ys) (t':=s.toks) (fun b o hb=>sortedAll_old hb) (Nat.le_succ _) ⟨hz,its,e,ri,he⟩,rfl,?_⟩
  refine q _ nss ys (I.hok.fresh (Nat.le_succ _)) (List.Perm.refl _) ?_ rs
  match nss,l2 with
  | [],_=>exact .nil
  | [_],_=>exact List.pairwise_singleton _ _
  |_::_::_,h=>simp only[List.length_cons]at h;omega
 ·obtain⟨m,hm,_⟩:=I.loc
  refine kat_sorted (h₀:=pI) (L:=X.env.locals) (m:=m) (news:=gL s.heap X.env.locals) ⟨hm,fun b o e=>(by rw[lS]at e;cases e),Nat.zero_le _⟩ (yd _ _) pl.isList (by omega) (by omega) fun D e1 h' F' N' hD=> ?_
  have kp: ∀b o,b≠X.env.locals->s.heap.get? b=some o->h'.get? b=some o:=fun b o hb e=>(N' (b,o) (.tail _ (dz.mpr ⟨e,hb⟩))).1
  have pr:=rn I kp rs ri
  obtain⟨fs,t1,t2,t3⟩:=xa hk1 pr hk
  refine kat_kind (T:=ue hd) t1 (by omega) (t3 _) (by cases hd<;>rfl) ?_
  have kt:(ue hd !=Value.type "tuple")=true:=by cases hd<;>rfl
  rw[kt]
  have o:=Da hk
  obtain⟨p1,p2⟩:=SQ.Ed o (n:=its.length) (by omega)
  refine SQ.Fh (lt:=fun i j=>lexLt (fu nss k i) (fu nss k j)) (n:=its.length) (fun i j C hi hj hC=> ?_) (kas_sort its.length) (SQ.xg (by omega)) ?_
  ·unfold kas_ask
   have fi: ∀i,i<its.length->kO h' hd (its.getD i Value.none) (fu nss k i):=fun i hi=>by
    have hn:i<nss.length:=by omega
    have:=nV pr (List.getElem?_eq_getElem hi) (List.getElem?_eq_getElem hn)
    unfold fu
    simpa [List.getD,List.getElem?_eq_getElem hi,List.getElem?_eq_getElem hn]using this
   exact C6 (s:= {s with heap:=h'}) (fi i hi) (fi j hj) (by rw[dQ hk,dQ hk]) hC
  ·generalize SQ.ev (fun i j=>lexLt (fu nss k i) (fu nss k j)) (kas_sort its.length)=pp at p1 p2
   refine KasFin.intro F' N' (.head fun p hp=>Nat.ne_of_lt (hD p hp)) fun h3 c F3 N3=> ?_
   have KR: ∀i∈pp.toList,i<its.length:=fun i hi=>List.mem_range.mp (p1.mem_iff.mp hi)
   have hh:=Inv.Fw (ys:=pp.toList.map fun i=>ys.getD i .aH) (us:=pp.toList.map fun i=>its.getD i Value.none) (c:=c) I hm F3.ns (fun p hp=>(N3 p (.tail _ hp)).1) hD (N3 _ (.head _)).2.1 (N3 _ (.head _)).1
    (by rw[List.length_map,p1.length_eq,List.length_range,<-l1];exact hz) (oN ri pp.toList fun i hi=>by have:=KR i hi;omega)
   refine⟨.ref D,_,hh.2,rfl,q D (pp.toList.map fun i=>fu nss k i) _ hh.1 ?_ ?_ ?_⟩
   ·have e:=ua (List.replicate k 0) nss
    have p3:=p1.map fun i=>fu nss k i
    have e2:nss.length=its.length:=by omega
    rw[e2]at e
    rw[show(List.range its.length).map (fun i=>fu nss k i)=nss from e]at p3
    exact p3
   ·rw[List.pairwise_map]
    rw[List.pairwise_iff_getElem]
    intro i j hi hj hij
    have sz:pp.toList.length=its.length:=by rw[p1.length_eq,List.length_range]
    have:=p2 i j (by omega) (by omega)
    unfold SQ.le SQ.at_ at this
    simp only[Array.length_toList]at hi hj
    simpa [Array.getD_eq_getD_getElem?,Array.getElem?_eq_getElem hi,Array.getElem?_eq_getElem hj]using this
   ·rw[List.map_map]
    exact nX rs pp.toList fun i hi=>by have:=KR i hi;omega
end
end L2
namespace L2
open PySem PySem.Spec PyProof.Rows K2 MeetsSeq
section
variable{X:Cx}
theorem qH(hc:X.calm=true):dc X (.builtin "any") (fun xs H Q=> ∃ (a:Addr) (bs:List Bool),xs= [.ref a]/\aN X.K H a (bs.map V.bl)/\Q (.bl (bs.any id)) H):=by
 intro pins s σ H xs us Q I r h
 obtain⟨a,bs,rfl,hq,q⟩:=h
 obtain⟨u,rfl,ru⟩:=vals1 r
 cases ru
 obtain⟨its,rv,pl,hz⟩:=I.list hq
 refine call_any_walkS (wpAny_pyIter_list pl.isList ?_)
 have hlt:a<s.heap.objs.size:=by
  obtain⟨o,n,e,_⟩:=pl
  exact Heap.lt_size e
 have hlen:=rv.length
 have htr: ∀i v,its.toArray[i]? =some v->v=Value.bool (bs.getD i true):=fun i v e=>by
  have e':its[i]? =some v:=by simpa using e
  have hi:i<its.length:=(List.getElem?_eq_some_iff.mp e').1
  have hb:(bs.map V.bl)[i]? =some (.bl (bs.getD i true)):=by
   rw[List.length_map]at hlen
   have hi2:i<bs.length:=by omega
   simp[hi2]
  obtain⟨w',e2,rw'⟩:=rv.get hb
  rw[e']at e2
  cases e2
  exact rw'
 refine⟨s.heap.objs.size,_,_,_,_,_,_,fun i=>bs.getD i true,rfl,(Walks.list (A:=X.A.in1) (show X.A.in1.handled=none from I.ok.hd hc) s.heap.objs.size a (Nat.ne_of_lt hlt) its.toArray).toS,?_,?_,?_⟩
 ·exact⟨⟨_,Heap.get?_push_size _ rfl,rfl,rfl⟩,pl.isList.push _⟩
 ·intro i v s' Q' E' hv hq'
  rw[htr i v hv]
  exact wpAny_truthy_bool hq'
 ·intro s' mv
  obtain⟨hh,g,d,tk,os⟩:=s'
  have h1:g=s.gens:=mv.gens
  have h2:d=s.drawn:=mv.drawn
  have h3:os=s.os:=mv.os
  subst h1 h2 h3
  have I1:Inv X pins σ H {s with heap:=s.heap.push {cls:= .type "list_iterator",data:= .fields #[.ref a,.int 0 0]}}:=I.kept (t':=s.toks) fun b o e=>Heap.get?_push_of_some _ e
  have I2:Inv X pins σ H ⟨hh,s.gens,s.drawn,tk,s.os⟩:=by
   obtain⟨f0,f1,f2,f3,f4,f5⟩:=I.lB (b:=s.heap.objs.size) (Nat.le_refl _) I.fresh
   have:=I1.turned (it:=s.heap.objs.size) (h':=hh) (t':=tk) (fun b o hb e=>mv.heap b o (by simpa using hb) e) f0 f1 f3 f4 f5
   exact this
  refine⟨.bl _,H,I2,rfl,?_⟩
  have e:(List.range its.toArray.size).any (fun i=>bs.getD i true)=bs.any id:=by
   rw[List.size_toArray,<-hlen,List.length_map]
   rw[Bool.eq_iff_iff,List.any_eq_true,List.any_eq_true]
   constructor
   ·rintro⟨i,hi,h⟩
    have hi':=List.mem_range.mp hi
    exact⟨bs[i],List.getElem_mem hi',by simpa [hi']using h⟩
   ·rintro⟨b,hb,h⟩
    obtain⟨i,hi,e⟩:=List.getElem_of_mem hb
    exact⟨i,List.mem_range.mpr hi,by simpa [hi,e]using h⟩
  rw[e]
  exact q
end
end L2
namespace L2
open PySem PySem.Spec PyProof.Rows K2
def pD(X:Cx)(k:Nat):Cx:= {X with N:=X.N.take k}
theorem Gg{X:Cx}(ok:X.Ok)(k:Nat):(pD X k).Ok:=by
 cases ok
 constructor<;>assumption
theorem Inv.less{X:Cx}{pins:List (Addr×Obj)}{σ:List (Option V)}{H:Hp}{s:Shared}(I:Inv X pins σ H s)(k:Nat):Inv (pD X k) pins (σ.take k) H s:=by
 refine⟨Gg I.ok k,I.os,I.bare,I.base,?_,I.cell,I.free,I.cQ,I.pin,I.hok,?_⟩
 ·obtain⟨m,hm,h⟩:=I.loc
  refine⟨m,hm,fun i x v e1 e2 hv=> ?_⟩
  have FC:(X.N.take k)[i]? =some x:=e1
  rw[List.getElem?_take]at FC e2
  split at FC
  ·rename_i hi
   rw[if_pos hi]at e2
   exact h i x v FC e2 hv
  ·cases FC
 ·show(σ.take k).length=(X.N.take k).length
  rw[List.length_take,List.length_take,I.len]
theorem Inv.unless{X:Cx}(ok:X.Ok){pins:List (Addr×Obj)}{σ:List (Option V)}{H:Hp}{s:Shared}{k:Nat}(hl:σ.length=X.N.length)(hn: ∀i,k<=i-> ∀v,σ[i]? ≠some (some v))(I:Inv (pD X k) pins (σ.take k) H s):Inv X pins σ H s:=by
 refine⟨ok,I.os,I.bare,I.base,?_,I.cell,I.free,I.cQ,I.pin,I.hok,hl⟩
 obtain⟨m,hm,h⟩:=I.loc
 refine⟨m,hm,fun i x v e1 e2 hv=> ?_⟩
 by_cases hi:i<k
 ·refine h i x v ?_ ?_ hv
  ·show(X.N.take k)[i]? =some x
   rw[List.getElem?_take,if_pos hi];exact e1
  ·rw[List.getElem?_take,if_pos hi];exact e2
 ·exact absurd e2 (hn i (by omega) v)
def Kr(k:Nat)(t:TE):TE:=fun σ H Q=>(∀i,k<=i-> ∀v,σ[i]? ≠some (some v))/\t (σ.take k) H Q
theorem DN{X:Cx}(k:Nat){e:Expr}{t:TE}(h:PE (pD X k) e t):PE X e (Kr k t):=by
 intro pins s σ H Q I q
 obtain⟨hn,q⟩:=q
 refine aL (h pins s (σ.take k) H Q (I.less k) q) fun v s1 ⟨x,H1,I1,r1,q1⟩=> ?_
 exact⟨x,H1,I1.unless I.ok I.len hn,r1,q1⟩
end L2
namespace L2
open PySem PySem.Spec PyProof.Rows K2
theorem sk{h:Heap}{a:Addr}{its:Array Value}(p:PlainL h a its):h.IsList a its:=by
 obtain⟨o,n,e,c,_,d⟩:=p
 exact⟨o,e,c,n,d⟩
section
variable{X:Cx}
def F8(K:PySem.W.Frag)(tl:TA):TI:=fun σ H R=>tl σ H fun vs H1=> ∃a xs,vs= [.ref a]/\aN K H1 a xs/\R (KB xs.length (fun i=> [.int i,xs.getD i .aH]) fun H=>aN K H a xs) H1
theorem Be{l:Expr}{tl:TA}{elts:List Expr}{kt:Nat}{pt p pos:Pos}(hg:Gl X "enumerate")(hm:X.mg "enumerate"=none)(hl:PA X [l] tl)(hs:starEach [l] X.env= [(false,eval l X.env)]:=by rfl):
  PI X (.Tuple elts kt pt) (.Call (.Name "enumerate" p) [l] [] pos) (F8 X.K tl):=by
 intro pins s σ H R I h
 refine Call_ (gn I hg hm boot_enumerate (PyProof.Rows.callWith_type1 (aL (hl pos pins s σ H _ I h) fun us s1 ⟨vs,H1,I1,r1,q1⟩=> ?_) hs rfl))
 obtain⟨a,xs,rfl,hq,q⟩:=q1
 obtain⟨u,rfl,ru⟩:=vals1 r1
 cases ru
 obtain⟨its,rv,ht,hz⟩:=I1.list hq
 have ht':s1.heap.IsList a its.toArray:=sk ht
 refine call_enumerate_list ht' fun h' he hi hsz kp=> ?_
 have I2:Inv X pins σ H1 {s1 with heap:=h'}:=I1.kept (t':=s1.toks) kp
 have alt:a<s1.heap.objs.size:=by
  obtain⟨o,e,_⟩:=ht'
  exact Heap.lt_size e
 refine wpAny_pyIter_enum he ?_
 refine⟨s1.heap.objs.size+1,[s1.heap.objs.size+1,s1.heap.objs.size],fun i h=>(∃old,IsEnum h (s1.heap.objs.size+1) s1.heap.objs.size i old)/\h.IsListIter s1.heap.objs.size a i,_,H1,rfl,I2,?_,⟨⟨_,he⟩,hi⟩,fun b hb=> ?_,q⟩
 ·refine iJ (KI:=(s1.heap.objs.size+1):: [s1.heap.objs.size,a]) (wr:= [s1.heap.objs.size+1,s1.heap.objs.size]) (δ:=Array Value) (Ok:=fun items=>Vals xs items.toList) (Src:=fun items h=>h.IsList a items)
   (Pt:=fun items i vals=> ∃t x,items[i]? =some x/\vals= #[.int i t,x]) (Mid:=fun items i T h=>(∃x,IsEnumOut h (s1.heap.objs.size+1) s1.heap.objs.size ((i:Int)+1) x T)/\(h.IsListIter s1.heap.objs.size a (i+1)/\h.IsList a items)/\T≠s1.heap.objs.size+1/\T≠s1.heap.objs.size)
   (fun A items hA hok=> ?_) (fun Y pins σ H s hK J hG=> ?_) (fun items i us hok hp=> ?_) (fun i=>by show 2<=sizeLine;decide) (by simp) (fun i h h' st k=> ?_) (fun i h st b hb=> ?_) (fun A i s Q E st hq=> ?_) (fun b hb=>hb)
  ·have hn:items.size=xs.length:=by have:=hok.length;simp at this;exact this.symm
   have D:=Draws.list (prog:=X.prog) (w:=X.w) (A:=A.in1) (show A.in1.handled=none from hA) s1.heap.objs.size a (Nat.ne_of_lt alt) items
   have WT:=WalksT.enumerateD D (s1.heap.objs.size+1) (Nat.succ_ne_self _) (fun hm=>by
    rcases List.mem_cons.mp hm with z|z
    ·exact Nat.succ_ne_self _ z
    ·have z':s1.heap.objs.size+1=a:=by simpa using z
     exact absurd alt (by rw[<-z'];exact Nat.not_lt.mpr (Nat.le_succ _))) (by simp)
   rw[hn]at WT
   exact⟨WT.sub,fun i h h' st k=>by
     obtain⟨⟨x1,x2⟩,x3⟩:=st
     obtain⟨y1,y2,y3⟩:=WT.frame i h h' ⟨x1,x2,x3⟩ k
     exact⟨⟨y1,y2⟩,y3⟩,
    fun i s Q E hi st hQ=>WT.item i s Q E hi ⟨st.1.1,st.1.2,st.2⟩ hQ,fun e k pos i T s Q E m hQ=>WT.go e k pos i T s Q E m fun h' st' kk=>hQ h' ⟨⟨st'.1,st'.2.1⟩,st'.2.2⟩ kk,WT.apart,
    fun s Q E st hQ=>WT.done s Q E ⟨st.1.1,st.1.2,st.2⟩ hQ,fun i s Q E st hQ=>WT.self i s Q E ⟨st.1.1,st.1.2,st.2⟩ hQ⟩
  ·rw[<-hK]at hG
   obtain⟨its',Ct,ht',_⟩:=J.list hG
   exact⟨its'.toArray,by simpa using Ct,sk ht'⟩
  ·obtain⟨t,x,e,rfl⟩:=hp
   have e':items.toList[i]? =some x:=by simpa using e
   have hi:i<items.toList.length:=(List.getElem?_eq_some_iff.mp e').1
   have hl:=hok.length
   have hx:xs[i]? =some (xs.getD i .aH):=by
    have:i<xs.length:=by omega
    simp[this]
   obtain⟨u,e2,ru⟩:=hok.get hx
   rw[e']at e2
   cases e2
   exact .cons ⟨t,rfl⟩ (.cons ru .nil)
  ·obtain⟨⟨old,x1⟩,x2⟩:=st
   exact⟨⟨old,k _ (by simp) _ x1⟩,x2.at fun o e=>k _ (by simp) o e⟩
  ·obtain⟨⟨old,x1⟩,o2,x2,_,d2⟩:=st
   rcases List.mem_cons.mp hb with rfl|hb
   ·exact⟨_,x1,fun v z=>by cases z⟩
   ·obtain rfl:b=s1.heap.objs.size:=by simpa using hb
    exact⟨o2,x2,fun v z=>by rw[d2]at z;cases z⟩
  ·obtain⟨⟨old,x1⟩,_⟩:=st
   exact wpAny_pyIter_enum x1 hq
 ·have hle:s1.heap.objs.size<=b:=by
   rcases List.mem_cons.mp hb with rfl|hb
   ·omega
   ·obtain rfl:b=s1.heap.objs.size:=by simpa using hb
    omega
  exact I1.lB hle (I1.hok.fresh hle)
end
end L2
namespace L2
open PySem PySem.Spec PyProof.Rows K2
def NN(n:Nat)(val:Nat->V)(G:Hp->Prop):It:=⟨fun i H=>i<n/\G H,fun i H x H'=>H'=H/\x=val i,fun i H=>i=n/\G H⟩
theorem yY{P:Program}{w:World}{K:PySem.W.Frag}{tg:Expr}{it a:Addr}{o:Obj}{u:HO}{es:Array DictEntry}{ep:Nat}{val:Nat->V}(hne:a≠it)(R:qu o es ep)(hv: ∀ (i:Nat) e,es[i]? =some e->RelV (val i) e.key):
  Turn P w K tg (NN es.size val fun H=>H a=some (.fY o u)) [it] it (fun i h=>h.IsKeyIter it a i es.size ep)where
 mem:=by simp
 obj:=fun i h st b hb=>by
  obtain rfl:b=it:=by simpa using hb
  obtain⟨oi,e,_,d⟩:=st
  exact⟨oi,e,fun v z=>by rw[d]at z;cases z⟩
 keep:=fun i h h' st k=>st.at fun o e=>k it (by simp) o e
 item:=by
  intro X hP hw hK hc i pins s σ H E I hf st hg
  subst hP hw hK
  obtain⟨hi,hG⟩:=hg
  obtain⟨f0,f1,f2,f3,f4,f5⟩:=hf it (by simp)
  refine(sw (I.ok.hd hc) it a hne R).item i s _ _ hi ⟨st,(I.hok a _ hG).1⟩ fun v h' tk hp st' kk=> ?_
  obtain⟨e,he,rfl⟩:=hp
  have I1:Inv X pins σ H {s with heap:=h',toks:=tk}:=I.turned (fun b o hb e=>kk b o (by simpa using hb) e) f0 f1 f3 f4 f5
  obtain⟨oi,e1,c1,d1⟩:=id st'.1
  exact⟨e.key,rfl,q9 (s:= {s with heap:=h',toks:=tk}) e1 c1 d1 (by decide) ⟨val i,H,I1,hv i e he,⟨rfl,rfl⟩,st'.1,fun b hb=>(hf b hb).1⟩⟩
 done:=by
  intro X hP hw hK hc i pins s σ H E I hf st hg
  subst hP hw hK
  obtain⟨rfl,hG⟩:=hg
  obtain⟨f0,f1,f2,f3,f4,f5⟩:=hf it (by simp)
  exact(sw (I.ok.hd hc) it a hne R).done s _ _ ⟨st,(I.hok a _ hG).1⟩ fun h' tk kk=>⟨rfl,I.turned (fun b o hb e=>kk b o (by simpa using hb) e) f0 f1 f3 f4 f5⟩
 self:=fun A i s Q E st hq=>wpAny_pyIter_keyiter st hq
section
variable{X:Cx}{tg:Expr}
def F9(to:TE):TI:=fun σ H R=>to σ H fun x H1=> ∃a o kvs,x= .ref a/\H1 a=some (.fY o (.dT kvs))/\
 ∀bs:List Addr,bs.length=kvs.length->(∀ (i:Nat) k v b,kvs[i]? =some (k,v)->bs[i]? =some b->H1 b=some (.tup (k.map kV)))->R (NN kvs.length (fun i=> .ref (bs.getD i 0)) fun H=>H a=some (.fY o (.dT kvs))) H1
theorem pairs_len{α β:Type}{F:α->β->Prop}: ∀ {l:List α} {m:List β},Paired F l m->l.length=m.length
 |_,_,.nil=>rfl
 |_,_,.cons _ t=>by simp[pairs_len t]
theorem lU{α β:Type}{F:α->β->Prop}: ∀ {l:List α} {m:List β} {i:Nat} {x:α} {y:β},Paired F l m->l[i]? =some x->m[i]? =some y->F x y
 |_,_,_,_,_,.nil,e,_=>by simp at e
 |_,_,0,_,_,.cons h _,e1,e2=>by simp at e1 e2;subst e1 e2;exact h
 |_,_,i+1,_,_,.cons _ t,e1,e2=>lU t (by simpa using e1) (by simpa using e2)
theorem Bf{l:Expr}{to:TE}(hl:PE X l to):PI X tg l (F9 to):=by
 intro pins s σ H R I h
 refine aL (hl pins s σ H _ I h) fun v s1 ⟨x,H1,I1,r1,q1⟩=> ?_
 obtain⟨a,o,kvs,rfl,ha,q⟩:=q1
 cases r1
 obtain⟨ho,hz,hS,xs,rp,o',es,ep,e0,c0,d0,he,n0⟩:=I1.hok a _ ha
 rw[ho]at e0;cases e0
 have R0:qu o es ep:=⟨c0,d0⟩
 have zl:es.size=xs.length:=by rw[<-Array.length_toList,he,List.length_map]
 have pl:=pairs_len rp
 have alt:a<s1.heap.objs.size:=Heap.lt_size ho
 refine sv hS ho R0 ?_
 have I2:Inv X pins σ H1 {s1 with heap:=s1.heap.push {cls:= .type "dict_keyiterator",data:= .fields #[.ref a,.int 0 0,.int es.size 0,.int ep 0]}}:=I1.kept (t':=s1.toks) fun b u e=>Heap.get?_push_of_some _ e
 have q':=q (xs.map (·.2.1)) (by rw[List.length_map];omega) fun i k v b e1 e2=>by
  rw[List.getElem?_map]at e2
  cases e3:xs[i]? with
  |none=>rw[e3]at e2;cases e2
  |some y=>
   rw[e3]at e2
   cases e2
   obtain⟨h1,h2,_⟩:=lU rp e1 e3
   simp only at h1
   exact h2
 rw[show kvs.length=es.size by omega]at q'
 refine⟨s1.heap.objs.size,[s1.heap.objs.size],_,_,H1,rfl,I2,yY (Nat.ne_of_lt alt) R0 (fun i e ee=> ?_),⟨_,Heap.get?_push_size _ rfl,rfl,rfl⟩,fun b hb=> ?_,q'⟩
 ·have e2:es.toList[i]? =some e:=by rw[Array.getElem?_toList];exact ee
  rw[he,List.getElem?_map]at e2
  cases e3:xs[i]? with
  |none=>rw[e3]at e2;cases e2
  |some y=>
   rw[e3]at e2
   cases e2
   show _=_
   simp[List.getD,List.getElem?_map,e3,entryOfKey]
 ·obtain rfl:b=s1.heap.objs.size:=by simpa using hb
  exact I1.lB (Nat.le_refl _) (I1.hok.fresh (Nat.le_refl _))
end
end L2
namespace L2
open PySem PySem.Spec PyProof.Rows
section
variable{X:Cx}{T:List Str}{scope:Scope}{elt iter tg:Expr}{ifs:List Expr}{pos:Pos}{wi:TI}{g:TG}{tt:TT}{te:TE}
theorem fR{i:Nat}{y:Str}{py spos:Pos}(S:eL X T scope)(hc:X.calm=true)(hN:X.N.Nodup)(hi:X.N[i]? =some y)(hy:X.env.scope.names.lookup y=some .local)(hit:PI X tg iter wi)(hg: ∀Y,bE X T scope (fun _ _=>False) Y->PG Y tg g)(hgf:ic T.length g)
  (ht: ∀Y,bE X T scope (fun _ _=>False) Y->kP Y ifs tt)(he: ∀Y,bE X T scope (fun _ _=>False) Y->PE Y elt te)
  (hsw:swapsWith (.ListComp elt [⟨tg,iter,ifs,0⟩] scope pos) (some (.Name y py)) spos.line X.env=pure true:=by rfl)(hs: ∀x,foldedSetIterable iter X.env x=pure x:=by intro _;rfl):
  PS X (.Assign [.Name y py] (.ListComp elt [⟨tg,iter,ifs,0⟩] scope pos) spos) (qo (wY T.length wi g tt te) (bR i)):=by
 intro pins s σ H D I h
 rw[exec_Assign_Name_used _ _ _ _ hsw]
 refine wpAny_bind (wpAny_standAt (wpAny_bind ?_))
 show wpAny _ X.A (do let _<-comprehension (.ListComp elt [⟨tg,iter,ifs,0⟩] scope pos) scope X.env _ (newList []) false (eval iter X.env) (some (assign (.Name y py) X.env))) _ _ s
 refine wpAny_bind (wpAny_mono (wpAny_comprehension_free (use:=some (assign (.Name y py) X.env)) (cl:=cO X.env.cells scope.names []) (Q:=fun _ s'=>SP X pins D .next s') rfl hs (dX fun n hn=>I.ok.has n (S.cap n hn)) S.kind S.loc ?_) (fun _ s' hq=>wpAny_pure (wpAny_pure hq)) fun _ _ e=>e)
 refine aL (hit pins s σ H _ I h) fun v s1 h1=>aL h1 fun itv s2 h2=> ?_
 obtain⟨it,fp,tn,J,H2,e,I2,Tn,st2,f2,W,⟨m0,w0⟩,turn⟩:=h2
 subst e
 have hfl: ∀b∈fp,b<s2.heap.objs.size:=fun b hb=>by
  obtain⟨o,ho,_⟩:=Tn.obj _ _ st2 b hb
  exact Heap.lt_size ho
 refine wpAny_newObj_type (wpAny_newFunctionEnv S.io (by intro y hy;cases hy) (fun h4 hns kf=> ?_) S.kind)
 dsimp only at hns kf⊢
 generalize tz:s2.heap.push {cls:= .type "list",dict:=none,data:= .seq ([]:List Value).toArray}=H3 at hns kf⊢
 have hC:H3.objs.size=s2.heap.objs.size+1:=by rw[<-tz,Heap.size_push]
 have i8: ∀b o,H3.get? b=some o->h4.get? b=some o:=fun b o e=>kf.extBut b o (Nat.ne_of_lt (Heap.lt_size e)) (Heap.get?_push_of_some _ e)
 have old: ∀b o,s2.heap.get? b=some o->h4.get? b=some o:=fun b o e=>i8 b o (by rw[<-tz];exact Heap.get?_push_of_some _ e)
 have EI:h4.get? s2.heap.objs.size=some {cls:= .type "list",data:= .seq ([]:List Value).toArray}:=i8 _ _ (by rw[<-tz];exact Heap.get?_push_size _ rfl)
 have hDC:s2.heap.objs.size≠H3.objs.size:=by omega
 have loop: ∀s4:Shared,s4= {s2 with heap:=h4,toks:=s2.toks+([]:List (Str×Value)).length}->
   codeAny (model X.prog X.w) X.A (.compLoop (.ListComp elt [⟨tg,iter,ifs,0⟩] scope pos) 0 (.ref it) (.ref s2.heap.objs.size) (compEnvC scope (cO X.env.cells scope.names []) H3.objs.size X.env))
    (compPost (model X.prog X.w) X.A X.xe (some (assign (.Name y py) X.env)) (fun _ s'=>SP X pins D .next s') (.ref s2.heap.objs.size) H3.objs.size) s4:=by
  rintro s4 rfl
  have I4:Inv (aM X T scope H3.objs.size s2 H2 fp (X.pn++pins) (fun _ _=>False)) [] (List.replicate T.length none++σ) H2 {s2 with heap:=h4,toks:=s2.toks+([]:List (Str×Value)).length}:=
   dY S I2 f2 hfl old (by omega) hns rfl rfl
  refine nD (Qe:=fun ys H=> ∀p,H p=none->D.nx (σ.set i (some (.ref p))) (upd H p (.lst ys))) hc (hg _ (.mk ..)) hgf (ht _ (.mk ..)) (he _ (.mk ..)) Tn f2 hfl (by omega) (Nat.le_refl _) hDC (fun p hp=>Heap.lt_size (I2.pin p hp).1) (fun b hb=> ?_) I2.fresh I4 ?_ EI (fun _ _ z=>z.elim) w0 turn ?_
  ·obtain⟨_,o,ho,_⟩:=I2.stack.mem hb
   exact Heap.lt_size ho
  ·exact Tn.keep _ _ _ st2 fun b hb o e=>old b o e
  ·intro s5 Pi H5 ys us n I5 IX FK hv hz q
   obtain⟨mm,zi,_⟩:=I5.loc
   have L6:s5.heap.Ns H3.objs.size mm:=zi
   have I6:Inv X pins σ (upd H5 s2.heap.objs.size (.lst ys)) {s5 with heap:=s5.heap}:=qP I2 f2 (by omega) (Nat.le_refl _) hDC I5 (Heap.SameBut.refl ..) IX FK hv hz
   have hCf:H5 H3.objs.size=none:=I5.free
   show wpAny _ X.A (assign (.Name y py) X.env (.ref s2.heap.objs.size)) _ _ s5
   refine wpAny_assign_Name (oG (v:= .ref s2.heap.objs.size) I6 hN hi (.inl hy) rfl (fun s7 I7 ⟨b,Mo,hb⟩=> ?_) (.inr hy))
   have N6:H3.objs.size≠X.env.locals:=fun z=>by have:=I2.lt;rw[<-z]at this;exact absurd (show H3.objs.size<s2.heap.objs.size from this) (by omega)
   have hcC: ∀x c,X.env.cells.lookup x=some c->c≠H3.objs.size:=fun x c e z=>by
    obtain⟨v,o,ho,_⟩:=I2.cell x c e
    have:=Heap.lt_size ho
    rw[z]at this;exact absurd (show H3.objs.size<s2.heap.objs.size from this) (by omega)
   have Qv:H3.objs.size≠b:=by
    rcases hb with rfl|hb
    ·exact N6
    ·exact fun z=>hcC _ _ hb z.symm
   refine⟨mm,L6.sameBut Mo Qv,fun h' pq=>⟨_,_,?_,q _ IX⟩⟩
   refine I7.turned (it:=H3.objs.size) (t':=s7.toks) (fun b o hb e=>pq.extBut b o hb e) ?_ N6 (.inr ?_) hcC fun p hp=> ?_
   ·rw[ak (Ne.symm hDC)];exact hCf
   ·have:=I2.sz;omega
   ·have:=Heap.lt_size (I2.pin p hp).1
    exact fun z=>absurd (show H3.objs.size<s2.heap.objs.size from z▸this) (by omega)
 refine codeAny_compStart_list (loop _ rfl) (Tn.self _ 0 _ _ _ ?_ (loop _ rfl))
 exact Tn.keep _ _ _ st2 fun b hb o e=>old b o e
end
end L2
namespace L2
open PySem PySem.Spec PyProof.Rows K2
section
variable{X:Cx}{pins:List (Addr×Obj)}{σ:St}{H:Hp}{s:Shared}
end
section
variable{X:Cx}
end
end L2
namespace K2
end K2
namespace L2
open PySem PySem.Spec PyProof.Rows K2
mutual
def be:PV->PyData
 | .at .aH=> .none
 | .at (.int i)=> .int i
 | .at (.str x)=> .str (S x)
 | .tup ps=> .tuple (dI ps)
def dI:List PV->List PyData
 | []=> []
 |p::ps=>be p::dI ps
end
section
variable{P:Program}{w:World}
mutual
theorem Rep.reads{H:Hp}{h:Heap}(ok:fH P w H h): ∀ {p:PV} {v:V} {u:Value},Rep H p v->RelV v u->Reads h u (be p) []
 | .at .aH,v,u,r,e=>by simp only[Rep]at r;subst r;cases(show u=Value.none from e);exact .none
 | .at (.int i),v,u,r,e=>by simp only[Rep]at r;subst r;obtain⟨t,rfl⟩:=e;exact .int i t
 | .at (.str x),v,u,r,e=>by simp only[Rep]at r;obtain⟨rfl,_⟩:=r;obtain⟨t,rfl⟩:=e;exact .str _ t
 | .tup ps,v,u,r,e=>by
  obtain⟨a,vs,rfl,ha,rs⟩:=r.tup
  obtain rfl:u=Value.ref a:=e
  obtain⟨_,its,rv,o,e0,c0,n,d0⟩:=ok a _ ha
  exact .tuple e0 c0 d0 (aq.reads ok rs rv)
theorem aq.reads{H:Hp}{h:Heap}(ok:fH P w H h): ∀ {ps:List PV} {vs:List V} {us:List Value},aq H ps vs->Vals vs us->ReadsAll h us (dI ps) []
 | [],vs,us,r,e=>by simp only[aq]at r;subst r;cases e;exact .nil
 |p::ps,vs,us,r,e=>by
  obtain⟨v,rest,rfl,r1,r2⟩:=(by simpa only[aq]using r: ∃v r,vs=v::r/\Rep H p v/\aq H ps r)
  cases e with
  |cons e1 e2=>exact .cons (as:= []) (bs:= []) (Rep.reads ok r1 e1) (aq.reads ok r2 e2)
end
end
section
variable{prog:Program}{w:World}{E:Value->Shared->Prop}
mutual
theorem lF: ∀ (p:PV) (u:Value) (A:Around) (s:Shared) (Q:Int->Shared->Prop),Reads s.heap u (be p) []->A.units+(be p).depth<cLine->(∀n tk,Q n {s with toks:=tk})->wpAny (model prog w) A (pyHash u) Q E s
 | .at .aH,u,A,s,Q,r,hu,h=>by
  simp only[be]at r
  cases r
  exact PySem.W.pyHash_slot (T:= "NoneType") rfl F.slot_NoneType_hash F.entry_NoneType_hash (F.args_NoneType_hash_1 _) (beq_builtin_none _) (.inr (by omega)) (wpAny_bind (wpAny_pure (wpAny_bind (wpAny_mkInt (wpAny_pure ⟨_,_,rfl,h _ _⟩)))))
 | .at (.int i),u,A,s,Q,r,hu,h=>by
  simp only[be]at r
  cases r
  exact wpAny_pyHash_int (h _ _)
 | .at (.str x),u,A,s,Q,r,hu,h=>by
  simp only[be]at r
  cases r
  exact wpAny_pyHash_str (h _ _)
 | .tup ps,u,A,s,Q,r,hu,h=>by
  simp only[be]at r hu
  cases r with
  | @tuple a o vs n _ _ e0 c0 d0 rs=>
   simp only[PyData.depth]at hu
   refine PySem.W.pyHash_slot (T:= "tuple") ⟨_,e0,c0⟩ F.slot_tuple_hash F.entry_tuple_hash (F.args_tuple_hash_1 _) (beq_builtin_none _) (.inr (by omega)) ?_
   show wpAny _ _ (Builtin.Tuple.tupleItemsOf (.ref a) >>=_) _ _ s
   refine wpAny_bind (wpAny_tupleItemsOf e0 d0 ?_)
   refine wpAny_bind ?_
   rw[<-Array.forIn_toList]
   refine nI ps vs.toList A.in1 s #[] _ rs (by simp only[Around.in1_units];omega) fun tk b=> ?_
   show wpAny _ _ (retInt (Builtin.Tuple.tupleHashOf b.toList)) _ _ _
   exact wpAny_bind (wpAny_mkInt (wpAny_pure ⟨_,_,rfl,h _ _⟩))
theorem nI: ∀ (ps:List PV) (vs:List Value) (A:Around) (s:Shared) (b:Array Int) (Q:Array Int->Shared->Prop),ReadsAll s.heap vs (dI ps) []->A.units+PyData.depthAll (dI ps)<cLine->
  (∀tk b',Q b' {s with toks:=tk})->
  wpAny (model prog w) A (forIn vs b fun x r=>do let h<-pyHash x;pure PUnit.unit;pure (ForInStep.yield (r.push h))) Q E s
 | [],vs,A,s,b,Q,x,_,h=>by
  simp only[dI]at x
  cases x
  exact wpAny_pure (h s.toks b)
 |p::ps,vs,A,s,b,Q,x,hu,h=>by
  simp only[dI,PyData.depthAll]at x hu
  generalize hz:([]:List Addr)=z at x
  cases x with
  | @cons v vs d ds as bs x1 x2=>
   obtain⟨rfl,rfl⟩:=List.append_eq_nil_iff.mp hz.symm
   simp only[List.forIn_cons]
   refine wpAny_bind (wpAny_bind (lF p v A s _ x1 (by omega) fun n tk=> ?_))
   refine wpAny_bind (wpAny_pure (wpAny_pure ?_))
   exact nI ps vs A {s with toks:=tk} _ Q x2 (by omega) fun tk' b'=>h tk' b'
end
end
section
variable{prog:Program}{w:World}{A:Around}{E:Value->Shared->Prop}{s:Shared}
theorem qS{d a:Addr}{o:Obj}{ep:Nat}{h:Int}{Q:Option Nat->Shared->Prop}(ho:s.heap.get? d=some o)(hd:o.data= .dict #[] ep)(hq:Q none s):wpAny (model prog w) A (dictFind d (.ref a) h) Q E s:=by
 unfold dictFind
 try with_reducible refine wpAny_holding ?_
 refine wpAny_bind (wpAny_dictEntries ho hd ?_)
 have e:placesWithHash (#[]:Array DictEntry).size (fun i=>(#[]:Array DictEntry)[i]?.map (·.hash)) h= []:=by
  simp[placesWithHash]
 dsimp only
 rw[e]
 have e2:(Value.ref a::List.filterMap (fun i:Nat=>Option.map (fun x:DictEntry=>x.key) (#[]:Array DictEntry)[i]?) []).all carriedByValue=false:=by simp[carriedByValue]
 rw[e2]
 simp only[Bool.false_eq_true,if_false,List.filterMap_nil,tableMayTell,List.isEmpty_nil,if_true]
 rw[if_neg (by simp),if_neg (by simp)]
 refine wpAny_bind (wpAny_pure ?_)
 rw[if_neg (by simp)]
 refine wpAny_bind (wpAny_pure ?_)
 exact wpAny_pure hq
theorem mV{d a:Addr}{o:Obj}{ep:Nat}{p:PV}{v:Value}{Q:Unit->Shared->Prop}(ho:s.heap.get? d=some o)(hc:o.ExactDict)(hd:o.data= .dict #[] ep)
  (hw:Reads s.heap (.ref a) (be p) [])(hu:A.units+1+(be p).depth<cLine)
  (hQ: ∀h' tk o' h0,h'.get? d=some o'->o'.ExactDict->o'.data= .dict #[⟨h0,.ref a,v⟩] (ep+1)->Heap.SameBut d s.heap h'->Q () {s with heap:=h',toks:=tk}):
  wpAny (model prog w) A (setItem (.ref d) (.ref a) v) Q E s:=by
 have ht:s.TypeIs (.ref d) "dict":=⟨o,ho,hc.1⟩
 unfold setItem
 try with_reducible refine wpAny_holding ?_
 refine wpAny_bind (wpAny_sequenceKey ht (by decide) ?_)
 refine wpAny_bind (wpAny_callSpecial?_slot (name:=Str.ofString "__setitem__") ht slot_dict_setitem
  (wpAny_call_entry slot_dict_setitem ht entry_dict_setitem ?_ (args_dict_setitem _ _ _)))
 show wpAny _ _ (Builtin.Dict.notOrdered "__setitem__" ⟨[.ref d,.ref a,v],[]⟩ >>=_) _ _ s
 refine wpAny_bind (wpAny_notOrdered_dict ht ?_)
 show wpAny _ _ (dictSet d (.ref a) v>>=_) _ _ s
 refine wpAny_bind ?_
 unfold dictSet
 try with_reducible refine wpAny_holding ?_
 refine wpAny_bind (lF p (.ref a) A.in1 s _ hw (by simp only[Around.in1_units];omega) fun hh tk=> ?_)
 unfold dictSetHashed
 try with_reducible refine wpAny_holding ?_
 refine wpAny_bind (qS (s:= {s with toks:=tk}) ho hd ?_)
 refine wpAny_bind (wpAny_rule (wpAny_updateDictKeys (hz:=by simp[sizeLine]) (s:= {s with toks:=tk}) ho hd ?_))
 exact wpAny_pure ⟨.none,rfl,wpAny_pure (hQ _ tk _ _ (Heap.get?_update_self _ ho (Obj.isFreed_of_dict (Obj.data_mapDictKeys hd _))) (hc.mapDictKeys _) (Obj.data_mapDictKeys hd _) (Heap.SameBut.update ..))⟩
end
def pK(d b:Addr):HO:= .ext fun h=>(d==sysModules)=false/\ ∃o h0 v ep,h.get? d=some o/\o.ExactDict/\o.data= .dict #[⟨h0,.ref b,v⟩] ep
inductive GQ(un:Nat)(N:Hp->Prop)(x y:V)(H:Hp):Prop
 |mk (a b:Addr) (p:PV) (_:x= .ref a) (_:y= .ref b) (_:H a=some (.dT [])) (_:Rep H p (.ref b)) (_:un+1+(be p).depth<cLine) (_:N (upd H a (pK a b)))
def G8(un:Nat)(td ty tv:TE):TS:=fun D σ H=>tv σ H fun _ H1=>td σ H1 fun x H2=>ty σ H2 fun y H3=>GQ un (D.nx σ) x y H3
section
variable{X:Cx}{o i value:Expr}{td ty tv:TE}{pos pos':Pos}
theorem Bl(ho:PE X o td)(hi:PE X i ty)(hv:PE X value tv)(hs:swapsWith value (some (.Subscript o i pos')) pos.line X.env=pure false):
  PS X (.Assign [.Subscript o i pos'] value pos) (G8 X.A.units td ty tv):=by
 intro pins s σ H D I h
 refine wpAny_Assign_Subscript (aL (hv pins s σ H _ I h) fun r s1 ⟨v,H1,I1,rv,q1⟩=>aL (ho pins s1 σ H1 _ I1 q1) fun u s2 ⟨x,H2,I2,rx,q2⟩=>aL (hi pins s2 σ H2 _ I2 q2) fun iv s3 ⟨y,H3,I3,ry,q3⟩=> ?_) hs
 obtain⟨a,b,p,rfl,rfl,ha,rp,hu,q⟩:=q3
 obtain rfl:u=Value.ref a:=rx
 obtain rfl:iv=Value.ref b:=ry
 obtain⟨_,hsm,xs,rel,oo,es,ep,e0,c0,d0,k0,_⟩:=I3.hok a _ ha
 cases rel
 have e1:es= #[]:=by apply Array.toList_inj.mp;simpa using k0
 subst e1
 refine mV (p:=p) e0 c0 d0 (Rep.reads I3.hok rp rfl) hu fun h' tk o' h0 g1 g2 g3 sb=>⟨σ,_,gI (ob:=pK a b) I3 (by rw[ha];exact True.intro) sb ⟨_,g1⟩ ⟨⟨hsm,o',h0,_,_,g1,g2,g3⟩,⟨_,g1⟩,?_⟩,q⟩
 rintro h1 h2 ⟨z,o1,k1,v1,p1,y1,y2,y3⟩ hk
 exact⟨z,o1,k1,v1,p1,hk _ y1,y2,y3⟩
end
def Np(r:List V->List V->Hp->VK->Prop)(t tk:TA):TE:=fun σ H Q=>t σ H fun vs H1=>tk σ H1 fun zs H2=>r vs zs H2 Q
section
variable{X:Cx}{id:String}{x:Str}{p pos:Pos}{e:Expr}{es:List Expr}{kws:List Keyword}{t tk:TA}{ks:List Str}
theorem yB{r:List V->List V->Hp->VK->Prop}(hc: ∀ (pins:List (Addr×Obj)) (s:Shared) (σ:St) (H:Hp) (vs zs:List V) (us ws:List Value) (Q:VK),Inv X pins σ H s->Vals vs us->Vals zs ws->r vs zs H Q->wpAny (model X.prog X.w) X.A (call (.builtin id) us (ks.zip ws)) (EP X pins σ Q) X.xe s)
  (hg:Gl X x)(hm:X.mg x=none)(hv:bootBuiltins x=some (.builtin id))(ha:PA X (e::es) t)(hkw:PK X kws tk)(hn:x≠ "__name__":=by decide)(hall:(backToKw pos (keywordEach kws X.env)).all (·.1.isSome)=true:=by rfl)(hks:(backToKw pos (keywordEach kws X.env)).filterMap (·.1)=ks:=by rfl)
  (hdb:(x==("__debug__":Str))=false:=by decide)(he:starEach (e::es) X.env=(false,eval e X.env)::starEach es X.env:=by rfl)
  (hpl:((backTo pos (starEach (e::es) X.env)).any (·.1)||(backToKw pos (keywordEach kws X.env)).any (·.1.isNone))=false:=by rfl):
  PE X (.Call (.Name x p) (e::es) kws pos) (Np r t tk):=by
 intro pins s σ H Q I h
 refine wpAny_Call_Name_kw (gn I hg hm hv ?_ hn hdb)
 refine PySem.W.callWith_of (P:=X.K.In) hpl (fun h _=>⟨Keeper.machine,.inr (.inl rfl),PySem.W.Looks.of_pure rfl⟩) (evalArgs_kw2 hall (aL (ha pos pins s σ H _ I h) fun us s1 ⟨vs,H1,I1,r,q⟩=> ?_) he)
 refine aL (hkw pos pins s1 σ H1 _ I1 q) fun ws s2 ⟨zs,H2,I2,rz,q2⟩=>⟨I2.fZ,?_⟩
 rw[hks]
 exact hc pins s2 σ H2 vs zs us ws Q I2 r rz q2
end
end L2
namespace L2
open PySem PySem.Spec PyProof.Rows K2 PySem.W
mutual
theorem iy{h h':Heap}(hk: ∀x o,h.get? x=some o->o.cls= .type "tuple"->h'.get? x=some o): ∀ (p:PV) (u:Value),Reads h u (be p) []->Reads h' u (be p) []
 | .at .aH,u,r=>by simp only[be]at r⊢;cases r;exact .none
 | .at (.int i),u,r=>by simp only[be]at r⊢;cases r;exact .int _ _
 | .at (.str x),u,r=>by simp only[be]at r⊢;cases r;exact .str _ _
 | .tup ps,u,r=>by
  simp only[be]at r⊢
  cases r with
  | @tuple a o vs n _ _ e0 c0 d0 rs=>exact .tuple (hk _ _ e0 c0) c0 d0 (hU hk ps _ rs)
theorem hU{h h':Heap}(hk: ∀x o,h.get? x=some o->o.cls= .type "tuple"->h'.get? x=some o): ∀ (ps:List PV) (us:List Value),ReadsAll h us (dI ps) []->ReadsAll h' us (dI ps) []
 | [],us,r=>by simp only[dI]at r⊢;cases r;exact .nil
 |p::ps,us,r=>by
  simp only[dI]at r⊢
  generalize hz:([]:List Addr)=z at r
  cases r with
  | @cons v vs d ds as bs x1 x2=>
   obtain⟨rfl,rfl⟩:=List.append_eq_nil_iff.mp hz.symm
   exact .cons (as:= []) (bs:= []) (iy hk p v x1) (hU hk ps vs x2)
end
section
variable{prog:Program}{w:World}{A:Around}{E:Value->Shared->Prop}{s:Shared}
theorem Ka{a b kS:Addr}{e1:Nat}{p:PV}{P:PySem.Fin->Shared->Prop}(na:s.heap.get? a=some (seqObj "list" #[] e1))(nk:s.heap.get? kS=some (seqObj "list" #[] 0))(hka:kS≠a)
  (r:Reads s.heap (.ref b) (be p) [])(hs:(be p).showable=true)(Ja:(be p).hasDict=false)(hz:(be p).shown.length<=sizeLine)(hg:A.guards=some [])(hu:A.units+((be p).depth+3)<cLine)
  (h: ∀h' tk c,(∀x o,x≠a->x≠kS->s.heap.get? x=some o->h'.get? x=some o)->h'.get? a=some (seqObj "list" #[.ref b] c)->P (.done (.ret .none)) {s with heap:=h',toks:=tk}):
  wpAny (model prog w) A (ksk_rest a (.type "str") false #[.ref b] e1 (.ref kS)) P E s:=by
 unfold ksk_rest
 refine wpAny_bind (wpAny_rule ?_)
 rw[<-Array.forIn_toList]
 simp only[List.forIn_cons,List.forIn_nil]
 refine wpAny_bind (wpAny_bind (wpAny_bind (wpAny_attempt (wpAny_mono (str_of_reads (A:=A) (E:=fun _ _=>False) (s:=s) r hs (fun z=>by rw[Ja]at z;cases z) hg hu (fun _ _ e=>e) (Q:=fun v s2=> ∃h2 u tk,v= .str (be p).shown u/\s2= {s with heap:=h2,toks:=tk}/\ ∀c o,s.heap.get? c=some o->h2.get? c=some o) (fun h2 u tk k=>⟨h2,u,tk,rfl,rfl,k⟩) hz) (fun v s2 he=> ?_) fun _ _ hF=>hF.elim))))
 obtain⟨h2,u,tk,rfl,rfl,kp⟩:=he
 dsimp only
 have OB:=kp _ _ nk
 have RN:=kp _ _ na
 have s1:=Heap.SameBut.update h2 kS (Obj.mapSeq (·.push (.str (be p).shown u)))
 obtain⟨c2,hc2⟩: ∃c2,(h2.update kS (Obj.mapSeq (·.push (.str (be p).shown u)))).get? kS=some (seqObj "list" #[.str (be p).shown u] c2):=⟨_,get?_update_seq OB (·.push (.str (be p).shown u))⟩
 refine wpAny_bind (listUpdate_at OB rfl ?_ (by simp[sizeLine_eq]) (by simp[sizeLine_eq]))
 refine wpAny_pure (wpAny_pure ?_)
 refine wpAny_bind (listItems_at hc2 rfl ?_)
 unfold ksk_end
 dsimp only
 have hlt:(#[Value.ref b]:Array Value).size<2:=Nat.lt_succ_self 1
 rw[if_neg Bool.false_ne_true,if_pos hlt,if_pos hlt]
 refine wpAny_bind (wpAny_pure ?_)
 rw[StateT.run_pure]
 refine wpAny_bind (wpAny_pure ?_)
 have RO:(h2.update kS (Obj.mapSeq (·.push (.str (be p).shown u)))).get? a=some (seqObj "list" #[] e1):=(s1.2 a hka.symm).trans RN
 have s3:=Heap.SameBut.update (h2.update kS (Obj.mapSeq (·.push (.str (be p).shown u)))) kS (Obj.mapSeq fun _=>(#[]:Array Value))
 have MN:=(s3.2 a hka.symm).trans RO
 dsimp only
 have eo:(arrOf (SortSt.mk' general' (#[Value.str (be p).shown u].zip #[Value.ref b]) #[] 7 none)).map (·.2)= #[Value.ref b]:=by
  have e0:arrOf (SortSt.mk' general' (#[Value.str (be p).shown u].zip #[Value.ref b]) #[] 7 none)= #[Value.str (be p).shown u].zip #[Value.ref b]:=rfl
  rw[e0];simp
 have ef:failedOf (SortSt.mk' general' (#[Value.str (be p).shown u].zip #[Value.ref b]) #[] 7 none)=none:=rfl
 rw[if_neg Bool.false_ne_true]
 unfold ksk_tail
 rw[eo,ef]
 dsimp only
 refine wpAny_bind (listUpdate_at hc2 rfl ?_ (by simp[sizeLine_eq]) (Nat.zero_le _))
 refine wpAny_bind (wpAny_letGo ?_)
 refine wpAny_bind (seqEpoch_at MN rfl ?_)
 rw[if_neg Bool.false_ne_true]
 have s5:=Heap.SameBut.update ((h2.update kS (Obj.mapSeq (·.push (.str (be p).shown u)))).update kS (Obj.mapSeq fun _=>(#[]:Array Value))) a (Obj.mapSeq fun _=>(#[Value.ref b]:Array Value))
 obtain⟨c5,hc5⟩: ∃c5,(((h2.update kS (Obj.mapSeq (·.push (.str (be p).shown u)))).update kS (Obj.mapSeq fun _=>(#[]:Array Value))).update a (Obj.mapSeq fun _=>(#[Value.ref b]:Array Value))).get? a=some (seqObj "list" #[Value.ref b] c5):=⟨_,get?_update_seq MN fun _=> #[Value.ref b]⟩
 refine wpAny_bind (listUpdate_at MN rfl ?_ (Nat.zero_le _) (by simp[sizeLine_eq]))
 simp only[bne_self_eq_false,Bool.false_eq_true,if_false]
 refine wpAny_pure (h _ _ c5 (fun x o n1 n2 e=> ?_) hc5)
 exact(s5.2 x n1).trans ((s3.2 x n2).trans ((s1.2 x n2).trans (kp x o e)))
theorem Kk{a b:Addr}{n:Nat}{p:PV}{P:PySem.Fin->Shared->Prop}(ho:s.heap.get? a=some (seqObj "list" #[.ref b] n))(r:Reads s.heap (.ref b) (be p) [])(hs:(be p).showable=true)(Ja:(be p).hasDict=false)
  (hz:(be p).shown.length<=sizeLine)(hg:A.guards=some [])(hu:A.units+((be p).depth+3)<cLine)
  (h: ∀h' tk c,(∀x o,x≠a->s.heap.get? x=some o->h'.get? x=some o)->h'.get? a=some (seqObj "list" #[.ref b] c)->P (.done (.ret .none)) {s with heap:=h',toks:=tk}):
  wpAny (model prog w) A (ksk_tree a (.type "str") false) P E s:=by
 have ha:a<s.heap.objs.size:=Heap.lt_size ho
 have s1:=Heap.SameBut.update s.heap a (Obj.mapSeq fun _=>(#[]:Array Value))
 obtain⟨e1,Oh⟩: ∃e1,(s.heap.update a (Obj.mapSeq fun _=>(#[]:Array Value))).get? a=some (seqObj "list" #[] e1):=⟨_,get?_update_seq ho fun _=> #[]⟩
 have Of:((s.heap.update a (Obj.mapSeq fun _=>(#[]:Array Value))).push (seqObj "tuple" #[.ref b] 0)).objs.size=s.heap.objs.size+1:=by rw[size_push',Heap.size_update]
 unfold ksk_tree
 refine wpAny_bind (listItems_at ho rfl ?_)
 refine wpAny_bind (listUpdate_at ho rfl ?_ (by simp[sizeLine_eq]) (Nat.zero_le _))
 refine wpAny_bind (seqEpoch_at Oh rfl ?_)
 refine wpAny_bind (wpAny_newTuple ?_ (by simp[sizeLine_eq]))
 refine wpAny_bind (wpAny_newList ?_ (Nat.zero_le _))
 refine wpAny_holding ?_
 have hk2: ∀x o,x≠a->s.heap.get? x=some o->(((s.heap.update a (Obj.mapSeq fun _=>(#[]:Array Value))).push (seqObj "tuple" #[.ref b] 0)).push (seqObj "list" #[] 0)).get? x=some o:=fun x o n1 e=>Heap.get?_push_of_some _ (Heap.get?_push_of_some _ ((s1.2 x n1).trans e))
 refine Ka (s:= {s with heap:=((s.heap.update a (Obj.mapSeq fun _=>(#[]:Array Value))).push (seqObj "tuple" #[.ref b] 0)).push (seqObj "list" #[] 0)}) (kS:=((s.heap.update a (Obj.mapSeq fun _=>(#[]:Array Value))).push (seqObj "tuple" #[.ref b] 0)).objs.size) (p:=p)
  (Heap.get?_push_of_some _ (Heap.get?_push_of_some _ Oh)) (Heap.get?_push_size _ rfl) (by rw[Of];exact Nat.ne_of_gt (Nat.lt_succ_of_lt ha)) (iy (fun x o e c=>hk2 x o (fun z=> ?_) e) p _ r) hs Ja hz hg hu fun h' tk c k1 k2=> ?_
 ·subst z;rw[ho]at e;cases e;simp[seqObj]at c
 ·refine h h' tk c (fun x o n1 e=>k1 x o n1 (fun z=> ?_) (hk2 x o n1 e)) k2
  have hlt:=Heap.lt_size e
  rw[z.trans Of]at hlt
  exact absurd hlt (Nat.not_lt.mpr (Nat.le_succ _))
theorem Ee{x:Value}{b:Addr}{p:PV}{Q:Value->Shared->Prop}(hs:(be p).showable=true)(Ja:(be p).hasDict=false)(hz:(be p).shown.length<=sizeLine)(hg:A.guards=some [])(hu:A.units+2+((be p).depth+3)<cLine)
  (h:wpAny (model prog w) A.in1 (collect x) (fun vs s1=>vs= [.ref b]/\Reads s1.heap (.ref b) (be p) []/\ ∀h' tk D c,(∀y o,s1.heap.get? y=some o->h'.get? y=some o)->s1.heap.objs.size<=D->h'.get? D=some (seqObj "list" #[.ref b] c)->Q (.ref D) {s1 with heap:=h',toks:=tk}) E s):
  wpAny (model prog w) A (call (.builtin "sorted") [x] [(Str.ofString "key",.type "str")]) Q E s:=by
 refine call_function_entry_kw kind_sorted plain_sorted entry_sorted (ksk_s1 _ _) ?_
 unfold Builtin.«sorted»
 refine wpAny_bind (m:=checkCount "sorted" 1 1 _) (wpAny_pure (wpAny_bind (wpAny_mono h (fun vs s1 hq=> ?_) fun _ _ z=>z)))
 obtain⟨rfl,r,k⟩:=hq
 refine wpAny_bind (wpAny_newList ?_ (by simp[sizeLine_eq]))
 have o1:=Heap.get?_push_size s1.heap (o:=seqObj "list" #[.ref b] 0) rfl
 show wpAny _ _ _ _ _ {s1 with heap:=s1.heap.push (seqObj "list" #[.ref b] 0)}
 refine wpAny_bind (wpAny_holding (wpAny_call_entry_kw slot_list_sort ⟨_,o1,rfl⟩ entry_list_sort ?_ (ksk_l1 _ _)))
 show wpAny (model prog w) A.in1.in1 (ksk_tree s1.heap.objs.size (.type "str") false) _ _ _
 refine Kk (s:= {s1 with heap:=s1.heap.push (seqObj "list" #[.ref b] 0)}) (p:=p) o1 (iy (fun y o e _=>Heap.get?_push_of_some _ e) p _ r) hs Ja hz hg (by show A.units+1+1+_<_;omega) fun h' tk c k1 k2=>⟨_,rfl,wpAny_pure ⟨_,rfl,k h' tk _ c (fun y o e=>k1 y o (Nat.ne_of_lt (Heap.lt_size e)) (Heap.get?_push_of_some _ e)) (Nat.le_refl _) k2⟩⟩
end
end L2
namespace L2
open PySem PySem.Spec PyProof.Rows K2 PySem.W
section
variable{prog:Program}{w:World}
theorem y9{A:Around}{d I:Addr}{o:Obj}{es:Array DictEntry}{ep:Nat}(hh:A.handled=none)(hne:d≠I)(R:qu o es ep):
  Walks prog w A I [I,d] [I] es.size (fun i v=> ∃e,es[i]? =some e/\v=e.key) (fun i h=>h.IsKeyIter I d i es.size ep/\h.get? d=some o)where
 sub:=fun b hb=>by simp at hb;simp[hb]
 frame:=fun _ _ _ st hk=>⟨st.1.at fun o e=>hk I (by simp) o e,hk d (by simp) _ st.2⟩
 item:=fun i s Q E hi st hQ=>su st.1 st.2 R hi fun h' it' sb=>hQ _ h' s.toks ⟨es[i],Array.getElem?_eq_getElem hi,rfl⟩ ⟨it',(sb.2 d hne).trans st.2⟩ fun b o hb e=>(sb.2 b fun z=>hb (by simp[z])).trans e
 done:=fun s Q E st hQ=>wH hh st.1 st.2 R (Nat.le_refl _) fun h' he'=>hQ h' s.toks fun b o hb e=>he' b o (fun h=>hb (by simp[h])) e
 self:=fun _ _ _ _ st hQ=>wpAny_pyIter_keyiter st.1 hQ
theorem C8{d:Addr}{o:Obj}{es:Array DictEntry}{ep:Nat}(lo:(d==sysModules)=false)(R:qu o es ep):KdlSrc prog w "dict" d d es.size (fun i v=> ∃e,es[i]? =some e/\v=e.key) (fun h=>h.get? d=some o)where
 type:=fun s e=>⟨o,e,R.ex.1⟩
 there:=fun h e=>⟨Heap.lt_size e,Heap.lt_size e⟩
 keep:=fun h h' e hk=>hk d (.inl rfl) o e
 notList:=by decide
 notTuple:=by decide
 hint:=fun _ _ _ _ e hq=>kdl_hint_dict ⟨o,e,R.ex.1⟩ hq
 iter:=fun _ _ hh e=>⟨_,_,(fun _ _ hq=>sv lo e R hq),y9 hh (Nat.ne_of_lt (Heap.lt_size e)) R,⟨⟨_,Heap.get?_push_size _ rfl,rfl,rfl⟩,Heap.get?_push_of_some _ e⟩⟩
end
mutual
theorem noDict: ∀p:PV,(be p).hasDict=false
 | .at .aH=>rfl
 | .at (.int _)=>rfl
 | .at (.str _)=>rfl
 | .tup ps=>by simp only[be,PyData.hasDict];exact noDicts ps
theorem noDicts: ∀ps:List PV,PyData.hasDictAll (dI ps)=false
 | []=>rfl
 |p::ps=>by simp only[dI,PyData.hasDictAll,noDict p,noDicts ps,Bool.or_false]
end
inductive Br(un:Nat)(vs zs:List V)(H:Hp)(Q:VK):Prop
 |mk (d b:Addr) (p:PV) (_:vs= [.ref d]) (_:zs= [.ty "str"]) (_:H d=some (pK d b)) (_:Rep H p (.ref b)) (_:(be p).showable=true) (_:(be p).shown.length<=sizeLine) (_:un+2+((be p).depth+3)<cLine) (_: ∀l,H l=none->Q (.ref l) (upd H l (.lst [.ref b])))
section
variable{X:Cx}
theorem oZ(hc:X.calm=true)(hg:X.A.guards=some [])(pins:List (Addr×Obj))(s:Shared)(σ:St)(H:Hp)(vs zs:List V)(us ws:List Value)(Q:VK)(I:Inv X pins σ H s)(r:Vals vs us)(rz:Vals zs ws)(h:Br X.A.units vs zs H Q):
  wpAny (model X.prog X.w) X.A (call (.builtin "sorted") us ((["key"]:List Str).zip ws)) (EP X pins σ Q) X.xe s:=by
 obtain⟨d,b,p,rfl,rfl,hd,rp,hs,hz,hu,q⟩:=h
 obtain⟨u,rfl,ru⟩:=vals1 r
 cases ru
 obtain⟨u2,rfl,Kd⟩:=vals1 rz
 cases Kd
 obtain⟨⟨lo,o,h0,v,ep,e0,x0,d0⟩,_,_⟩:=I.hok d _ hd
 refine Ee (b:=b) (p:=p) hs (noDict p) hz hg hu (kdu_collect (C8 (es:= #[⟨h0,.ref b,v⟩]) lo ⟨x0,d0⟩) (show X.A.in1.handled=none from I.ok.hd hc) e0 (by simp[sizeLine_eq]) fun h' tk acc kp it=> ?_)
 have ea:acc.toList= [.ref b]:=by
  have hl:acc.toList.length=1:=by rw[Array.length_toList];exact it.1
  obtain⟨x,hx⟩:=List.length_eq_one_iff.mp hl
  obtain⟨e,he,rfl⟩:=it.2 0 x (by rw[<-Array.getElem?_toList,hx];rfl)
  rw[hx]
  cases he
  rfl
 have I1:Inv X pins σ H {s with heap:=h',toks:=tk}:=I.kept kp
 refine⟨ea,Rep.reads I1.hok rp rfl,fun h3 Sj D c Dd IW eD=> ?_⟩
 refine⟨.ref D,_,I1.laid (a:=D) (o:= .lst [.ref b]) (t':=Sj) Dd IW ⟨by simp[sizeLine_eq],[.ref b],c,.cons rfl .nil,by simpa using eD⟩,rfl,q D (I1.hok.fresh IW)⟩
end
end L2
namespace L2
open PySem PySem.Spec PyProof.Rows K2
theorem pH(kx t1 i1 t2 i2:Expr)(ifs:List Expr)(scope:Scope)(pos:Pos)(it:Value)(D:Addr)(env:Env):
  compTurn (.ListComp kx [⟨t1,i1,[],0⟩,⟨t2,i2,ifs,0⟩] scope pos) 0 it (.ref D) env=(do
   standAt i1.pos
   match<-pyNext it with
   |none=>pure (.done .next)
   |some v=>
    letOwnedTupleGo t1 it v
    assign t1 env v
    let x<-eval i2 env
    standAt i2.pos
    let x<-foldedSetIterable i2 env x
    let _<-runOwn (.compStart (.ListComp kx [⟨t1,i1,[],0⟩,⟨t2,i2,ifs,0⟩] scope pos) 1 (<-holding [x] (pyIter x)) (.ref D) env) env
    again (.compLoop (.ListComp kx [⟨t1,i1,[],0⟩,⟨t2,i2,ifs,0⟩] scope pos) 0 it (.ref D) env)):=by rfl
theorem pG(kx t1 i1 t2 i2:Expr)(ifs:List Expr)(scope:Scope)(pos:Pos)(it:Value)(D:Addr)(env:Env):
  compTurn (.ListComp kx [⟨t1,i1,[],0⟩,⟨t2,i2,ifs,0⟩] scope pos) 1 it (.ref D) env=(do
   standAt i2.pos
   match<-pyNext it with
   |none=>pure (.done .next)
   |some v=>
    letOwnedTupleGo t2 it v
    assign t2 env v
    let mut ok:=true
    for c in ifs do
     if ok then ok<-isTrue c env (eval c env)
    if ok then
     (do let _<-call (.builtin "list.append") [.ref D,<-eval kx env])
    again (.compLoop (.ListComp kx [⟨t1,i1,[],0⟩,⟨t2,i2,ifs,0⟩] scope pos) 1 it (.ref D) env)):=by rfl
section
variable{prog:Program}{w:World}{A:Around}{R:Result->Shared->Prop}{s:Shared}{kx t1 i1 t2 i2:Expr}{ifs:List Expr}{scope:Scope}{pos:Pos}{D:Addr}{env:Env}
theorem uw{it:Value}(Iv:Nat->Shared->Prop)(Ex:Value->Shared->Prop)
  (gT: ∀e s',Ex e s'->notedBy (model prog w) A env (fun e s'=>R (.error e) s') e s')
  (turn: ∀n s,Iv n s->wpAny (model prog w) A (pyNext it) (fun r s1=>match r with
   |none=>R (.ok .next) s1
   |some v=>wpAny (model prog w) A (letOwnedTupleGo t2 it v) (fun _ s2=>wpAny (model prog w) A (assign t2 env v) (fun _ s3=>wpAny (model prog w) A (ju ifs env) (fun ok s4=>
     if ok=true then wpAny (model prog w) A (eval kx env) (fun x s5=>wpAny (model prog w) A (call (.builtin "list.append") [.ref D,x]) (fun _ s6=> ∃m,m<n/\Iv m s6) Ex s5) Ex s4
     else ∃m,m<n/\Iv m s4) Ex s3) Ex s2) Ex s1) Ex s)(n:Nat)(h:Iv n s):
  codeAny (model prog w) A (.compLoop (.ListComp kx [⟨t1,i1,[],0⟩,⟨t2,i2,ifs,0⟩] scope pos) 1 it (.ref D) env) R s:=by
 refine codeAny_loop rfl Iv (fun n s hI=> ?_) n h
 show wpAny (model prog w) A ((compTurn (.ListComp kx [⟨t1,i1,[],0⟩,⟨t2,i2,ifs,0⟩] scope pos) 1 it (.ref D) env).onRaise (fun x=>do noteFrame x env;theTreesLotGoes x)) _ _ s
 refine wpAny_noted ?_
 rw[pG]
 refine wpAny_bind (wpAny_standAt (wpAny_bind (wpAny_mono (turn n s hI) (fun r s1 h1=> ?_) gT)))
 cases r with
 |none=>exact wpAny_pure h1
 |some v=>
  refine wpAny_bind (wpAny_mono h1 (fun _ s2 h2=>wpAny_bind (wpAny_mono h2 (fun _ s3 h3=>wpAny_bind (wpAny_mono h3 (fun ok s4 h4=> ?_) gT)) gT)) gT)
  cases ok with
  |false=>exact wpAny_pure ⟨rfl,h4⟩
  |true=>exact wpAny_bind (wpAny_bind (wpAny_mono h4 (fun x s5 h5=>wpAny_bind (wpAny_mono h5 (fun _ s6 h6=>wpAny_pure (wpAny_pure ⟨rfl,h6⟩)) gT)) gT))
theorem pF{it acc:Value}(h0:codeAny (model prog w) A (.compLoop (.ListComp kx [⟨t1,i1,[],0⟩,⟨t2,i2,ifs,0⟩] scope pos) 1 it acc env) R s)
  (h:wpAny (model prog w) A (pyIter it) (fun it' s'=>codeAny (model prog w) A (.compLoop (.ListComp kx [⟨t1,i1,[],0⟩,⟨t2,i2,ifs,0⟩] scope pos) 1 it' acc env) R s') (notedBy (model prog w) A env fun x s'=>R (.error x) s') s):
  codeAny (model prog w) A (.compStart (.ListComp kx [⟨t1,i1,[],0⟩,⟨t2,i2,ifs,0⟩] scope pos) 1 it acc env) R s:=by
 refine codeAny_of_tree ?_
 show wpAny _ A ((compStart (.ListComp kx [⟨t1,i1,[],0⟩,⟨t2,i2,ifs,0⟩] scope pos) 1 it acc env).onRaise (fun x=>do noteFrame x env;standAt theWindowsPlace)) _ _ s
 refine wpAny_notedAt ?_
 unfold compStart
 show wpAny _ A (ask>>=_) _ _ s
 refine wpAny_bind (wpAny_askSetting (wpAny_ite ?_));split
 ·first|exact wpAny_bind (wpAny_pure (wpAny_pure (And.intro rfl h0)))|exact wpAny_pure (And.intro rfl h0)
 ·refine wpAny_bind (wpAny_rule ?_);show wpAny _ _ (standAt i2.pos>>=_) _ _ s;exact wpAny_bind (wpAny_standAt (wpAny_bind (wpAny_mono h (fun it' s' h'=>wpAny_pure (And.intro rfl h')) fun _ _ x=>x)))
theorem ux{it:Value}(Iv:Nat->Shared->Prop)(hs: ∀x,foldedSetIterable i2 env x=pure x)
  (turn: ∀n s,Iv n s->wpAny (model prog w) A (pyNext it) (fun r s1=>match r with
   |none=>R (.ok .next) s1
   |some v=>wpAny (model prog w) A (letOwnedTupleGo t1 it v) (fun _ s2=>wpAny (model prog w) A (assign t1 env v) (fun _ s3=>wpAny (model prog w) A (eval i2 env) (fun x s4=>wpAny (model prog w) A (pyIter x) (fun we s5=>
     codeAny (model prog w) A (.compStart (.ListComp kx [⟨t1,i1,[],0⟩,⟨t2,i2,ifs,0⟩] scope pos) 1 we (.ref D) env) (fun r s6=>match r with| .ok _=> ∃m,m<n/\Iv m s6| .error _=>False) s5) (fun _ _=>False) s4) (fun _ _=>False) s3) (fun _ _=>False) s2) (fun _ _=>False) s1) (fun _ _=>False) s)(n:Nat)(h:Iv n s):
  codeAny (model prog w) A (.compLoop (.ListComp kx [⟨t1,i1,[],0⟩,⟨t2,i2,ifs,0⟩] scope pos) 0 it (.ref D) env) R s:=by
 refine codeAny_loop rfl Iv (fun n s hI=> ?_) n h
 show wpAny (model prog w) A ((compTurn (.ListComp kx [⟨t1,i1,[],0⟩,⟨t2,i2,ifs,0⟩] scope pos) 0 it (.ref D) env).onRaise (fun x=>do noteFrame x env;theTreesLotGoes x)) _ _ s
 refine wpAny_noted ?_
 rw[pH]
 refine wpAny_bind (wpAny_standAt (wpAny_bind (wpAny_mono (turn n s hI) (fun r s1 h1=> ?_) fun _ _ z=>z.elim)))
 cases r with
 |none=>exact wpAny_pure h1
 |some v=>
  refine wpAny_bind (wpAny_mono h1 (fun _ s2 h2=>wpAny_bind (wpAny_mono h2 (fun _ s3 h3=>wpAny_bind (wpAny_mono h3 (fun x s4 h4=> ?_) fun _ _ z=>z.elim)) fun _ _ z=>z.elim)) fun _ _ z=>z.elim)
  refine wpAny_bind (wpAny_standAt (wpAny_bind (wpAny_of_eq (hs x) (wpAny_bind (wpAny_holding (wpAny_mono h4 (fun we s5 h5=> ?_) fun _ _ z=>z.elim))))))
  refine wpAny_bind (wpAny_runOwn (codeAny_mono h5 fun r s6 h6=> ?_))
  cases r with
  |error e=>exact h6.elim
  |ok f=>exact wpAny_pure ⟨rfl,h6⟩
end
section
variable{X:Cx}{pins:List (Addr×Obj)}{σ:St}{H:Hp}{s:Shared}{a:Addr}{A:Around}{E:Value->Shared->Prop}{v:V}{r:Value}
theorem zD{ys:List V}{Q:Shared->Prop}(I:Inv X pins σ H s)(e:H a=some (.lst ys))(hl:ys.length<sizeLine)(rv:RelV v r)(h: ∀s',Inv X pins σ (upd H a (.lst (ys++ [v]))) s'->Q s'):
  wpAny (model X.prog X.w) A (call (.builtin "list.append") [.ref a,r]) (fun _ s'=>Q s') E s:=by
 obtain⟨z,us,n,hv,ho⟩:=I.hok a _ e
 have hsz:us.toArray.size<=sizeLine:=by
  have e1:=hv.length
  rw[List.size_toArray];omega
 refine wpAny_list_append_plain (hsz:=hsz) (⟨_,ho⟩:s.heap.PlainList a us.toArray) fun h9 L3 KO=>h _ ?_
 obtain⟨n9,e9⟩:=L3
 refine gI I (by rw[e];exact True.intro) KO ⟨_,e9⟩ ⟨?_,us++ [r],n9,hv.append (.cons rv .nil),?_⟩
 ·rw[List.length_append,List.length_singleton];omega
 ·rw[e9];simp
end
def Hs(Ep Er:TI)(tt:TT)(tk:TE):TE:=fun σ H Q=>Ep σ H fun J1 H1=> ∀D,H1 D=none-> ∃W:Nat->Nat->Hp->Prop,(∃m,W 0 m (upd H1 D (.lst [])))/\ ∀i m H,W i m H->
 (J1.stop i H/\Q (.ref D) H)\/(J1.go i H/\ ∀x H',J1.mZ i H x H'->Er (some x::none::σ) H' fun J2 H3=> ∃U:Nat->Nat->Hp->Prop,(∃n,U 0 n H3)/\ ∀j n H,U j n H->
  (J2.stop j H/\ ∃m',m'<m/\W (i+1) m' H)\/(J2.go j H/\ ∀y H',J2.mZ j H y H'->tt (some x::some y::σ) H' fun b H5=>
   if b=true then tk (some x::some y::σ) H5 fun z H7=> ∃ys,H7 D=some (.lst ys)/\ys.length<sizeLine/\ ∃n',n'<n/\U (j+1) n' (upd H7 D (.lst (ys++ [z])))else ∃n',n'<n/\U (j+1) n' H5))
section
variable{Y:Cx}{kx t1 i1 t2 i2:Expr}{ifs:List Expr}{scope:Scope}{pos:Pos}{tt:TT}{tk:TE}
theorem xR{pl:List (Addr×Obj)}{σ:St}{x:V}{H:Hp}{s:Shared}{D it:Addr}{fp:List Addr}{tn:Nat->Heap->Prop}{J:It}{R:Result->Shared->Prop}{U:Nat->Nat->Hp->Prop}{n0:Nat}{Qe:Hp->Prop}
  (hc:Y.calm=true)(hx:Y.xe=fun _ _=>False)(hg:PG Y t2 (bR 1))(ht:kP Y ifs tt)(hk:PE Y kx tk)(Tn:Turn Y.prog Y.w Y.K t2 J fp it tn)(hf: ∀b∈fp,dD Y pl H b)
  (I1:Inv Y pl (some x::none::σ) H s)(st1:tn 0 s.heap)(w0:U 0 n0 H)
  (turn: ∀j n H,U j n H->(J.stop j H/\Qe H)\/(J.go j H/\ ∀y H',J.mZ j H y H'->tt (some x::some y::σ) H' fun b H5=>
   if b=true then tk (some x::some y::σ) H5 fun z H7=> ∃ys,H7 D=some (.lst ys)/\ys.length<sizeLine/\ ∃n',n'<n/\U (j+1) n' (upd H7 D (.lst (ys++ [z])))else ∃n',n'<n/\U (j+1) n' H5))
  (hR: ∀s2 H2,Inv Y pl (some x::none::σ) H2 s2->Qe H2->R (.ok .next) s2):
  codeAny (model Y.prog Y.w) Y.A (.compLoop (.ListComp kx [⟨t1,i1,[],0⟩,⟨t2,i2,ifs,0⟩] scope pos) 1 (.ref it) (.ref D) Y.env) R s:=by
 have lC: ∀ (H':Hp),(∀b∈fp,H' b=none)-> ∀b∈fp,dD Y pl H' b:=fun H' hn b hb=>⟨hn b hb,(hf b hb).2⟩
 refine uw (fun n s'=> ∃j H',Inv Y pl (some x::none::σ) H' s'/\tn j s'.heap/\(∀b∈fp,H' b=none)/\U j n H') Y.xe (fun e s' z=>by rw[hx]at z;exact z.elim) ?_ n0 ⟨0,H,I1,st1,fun b hb=>(hf b hb).1,w0⟩
 rintro n s3 ⟨j,H3,I3,st3,tw,w3⟩
 rcases turn j n H3 w3 with⟨stop,qe⟩|⟨go,step⟩
 ·refine aL (Tn.done Y rfl rfl rfl hc j _ s3 _ H3 Y.xe I3 (lC H3 tw) st3 stop) fun r s4 ⟨hr,I4⟩=> ?_
  subst hr
  exact hR s4 H3 I4 qe
 ·refine aL (Tn.item Y rfl rfl rfl hc j _ s3 _ H3 Y.xe I3 (lC H3 tw) st3 go) fun r s4 ⟨u,hr,h4⟩=> ?_
  subst hr
  refine aL h4 fun _ s5 ⟨y,H5,I5,r5,y5,ki,tX⟩=> ?_
  have Cw:=I5.pinned (lC H5 tX) (Tn.obj _ _ ki)
  refine aL (hg _ s5 _ H5 y u (fun σ2 H2=>σ2=some x::some y::σ/\H2=H5) Cw r5 ⟨rfl,rfl⟩) fun _ s6 ⟨zk,H6,I6,e6,LK⟩=> ?_
  subst e6 LK
  refine aL (ht _ s6 _ H6 _ I6 (step y H6 y5)) fun ok s7 ⟨H7,I7,q7⟩=> ?_
  have back: ∀ {H8:Hp} {s8:Shared},Inv Y (pl++gw fp s5.heap) (some x::some y::σ) H8 s8->Inv Y pl (some x::none::σ) H8 s8/\tn (j+1) s8.heap/\(∀b∈fp,H8 b=none):=fun{H8 s8} I8=>by
   refine⟨(I8.du (j6:=pl) fun p hp=>I8.pin p (List.mem_append_right _ (List.mem_append_left _ hp))).weak (by simp) fun k v e=> ?_,Tn.keep _ _ _ ki fun b hb o e=>(I8.pin (b,o) (List.mem_append_right _ (List.mem_append_right _ (bd hb e)))).1,fun b hb=> ?_⟩
   ·cases k with
    |zero=>simpa using e
    |succ k=>
     cases k with
     |zero=>simp at e
     |succ k=>simpa using e
   ·obtain⟨o,e,d⟩:=Tn.obj _ _ ki b hb
    exact(I8.pin (b,o) (List.mem_append_right _ (List.mem_append_right _ (bd hb e)))).2.1
  cases ok with
  |false=>
   simp only[Bool.false_eq_true,if_false]at q7⊢
   obtain⟨m',hm,w7⟩:=q7
   obtain⟨J8,mX,tY⟩:=back I7
   exact⟨m',hm,j+1,H7,J8,mX,tY,w7⟩
  |true=>
   simp only[if_true]at q7⊢
   refine aL (hk _ s7 _ H7 _ I7 q7) fun uz s9 ⟨z,H9,I9,rz,ys,hD,hlt,m',hm,w9⟩=> ?_
   refine zD I9 hD hlt rz fun yJ Ir=> ?_
   obtain⟨J8,mX,tY⟩:=back Ir
   exact⟨m',hm,j+1,_,J8,mX,tY,w9⟩
end
section
variable{X:Cx}{n1 n2:Str}{scope:Scope}{kx t1 i1 t2 i2:Expr}{ifs:List Expr}{pos:Pos}{Ep Er:TI}{tt:TT}{tk:TE}
theorem A4(S:eL X [n1,n2] scope)(hc:X.calm=true)(hi:PI X t1 i1 Ep)(jA: ∀Y,bE X [n1,n2] scope (fun _ _=>False) Y->PG Y t1 (bR 0))(gK: ∀Y,bE X [n1,n2] scope (fun _ _=>False) Y->PG Y t2 (bR 1))
  (hi2: ∀Y,bE X [n1,n2] scope (fun _ _=>False) Y->PI Y t2 i2 Er)(ht: ∀Y,bE X [n1,n2] scope (fun _ _=>False) Y->kP Y ifs tt)
  (hk: ∀Y,bE X [n1,n2] scope (fun _ _=>False) Y->PE Y kx tk)(hs: ∀x,foldedSetIterable i1 X.env x=pure x:=by intro _;rfl)(hs2: ∀env x,foldedSetIterable i2 env x=pure x:=by intro _ _;rfl):
  PE X (.ListComp kx [⟨t1,i1,[],0⟩,⟨t2,i2,ifs,0⟩] scope pos) (Hs Ep Er tt tk):=by
 intro pins s σ H Q I h
 rw[eval_ListComp]
 refine wpAny_comprehension_free (use:=none) (cl:=cO X.env.cells scope.names []) rfl hs (dX fun n hn=>I.ok.has n (S.cap n hn)) S.kind S.loc ?_
 refine aL (hi pins s σ H _ I h) fun v s1 h1=>aL h1 fun itv s2 h2=> ?_
 obtain⟨it,fp,tn,J,H2,e,I2,Tn,st2,f2,q2⟩:=h2
 subst e
 have hfl: ∀b∈fp,b<s2.heap.objs.size:=fun b hb=>by
  obtain⟨o,ho,_⟩:=Tn.obj _ _ st2 b hb
  exact Heap.lt_size ho
 have IQ:=I2.hok.fresh (Nat.le_refl s2.heap.objs.size)
 obtain⟨W,⟨m0,w0⟩,turn⟩:=q2 s2.heap.objs.size IQ
 refine wpAny_newObj_type (wpAny_newFunctionEnv S.io (by intro y hy;cases hy) (fun h4 hns kf=> ?_) S.kind)
 dsimp only at hns kf⊢
 have I3:Inv X pins σ (upd H2 s2.heap.objs.size (.lst [])) {s2 with heap:=s2.heap.push {cls:= .type "list",data:= .seq ([]:List Value).toArray}}:=by
  exact I2.laid (a:=s2.heap.objs.size) (o:= .lst []) (t':=s2.toks) (fun _ _ q=>Heap.get?_push_of_some _ q) (Nat.le_refl _) ⟨Nat.zero_le _,[],0,.nil,Heap.get?_push_size _ rfl⟩
 generalize tz:s2.heap.push {cls:= .type "list",data:= .seq ([]:List Value).toArray}=H3 at hns kf I3⊢
 have hC:H3.objs.size=s2.heap.objs.size+1:=by rw[<-tz,Heap.size_push]
 have i8: ∀b o,H3.get? b=some o->h4.get? b=some o:=fun b o e=>kf.extBut b o (Nat.ne_of_lt (Heap.lt_size e)) (Heap.get?_push_of_some _ e)
 have old: ∀b o,s2.heap.get? b=some o->h4.get? b=some o:=fun b o e=>i8 b o (by rw[<-tz];exact Heap.get?_push_of_some _ e)
 have f3: ∀b∈fp,dD X pins (upd H2 s2.heap.objs.size (.lst [])) b:=fun b hb=>by
  obtain⟨g1,g2⟩:=f2 b hb
  exact⟨by rw[ak (Nat.ne_of_lt (hfl b hb))];exact g1,g2⟩
 have loop: ∀s4:Shared,s4= {s2 with heap:=h4,toks:=s2.toks+([]:List (Str×Value)).length}->
   codeAny (model X.prog X.w) X.A (.compLoop (.ListComp kx [⟨t1,i1,[],0⟩,⟨t2,i2,ifs,0⟩] scope pos) 0 (.ref it) (.ref s2.heap.objs.size) (compEnvC scope (cO X.env.cells scope.names []) H3.objs.size X.env))
    (compPost (model X.prog X.w) X.A X.xe none (EP X pins σ Q) (.ref s2.heap.objs.size) H3.objs.size) s4:=by
  rintro s4 rfl
  have I4:Inv (aM X [n1,n2] scope H3.objs.size {s2 with heap:=H3} (upd H2 s2.heap.objs.size (.lst [])) fp (X.pn++pins) (fun _ _=>False)) [] (none::none::σ) (upd H2 s2.heap.objs.size (.lst [])) {s2 with heap:=h4,toks:=s2.toks+([]:List (Str×Value)).length}:=
   dY S I3 f3 (fun b hb=>Nat.lt_of_lt_of_le (hfl b hb) (by show s2.heap.objs.size<=H3.objs.size;rw[hC];exact Nat.le_succ _)) i8 (Nat.le_refl _) hns rfl rfl
  have cmp:bE X [n1,n2] scope (fun _ _=>False) (aM X [n1,n2] scope H3.objs.size {s2 with heap:=H3} (upd H2 s2.heap.objs.size (.lst [])) fp (X.pn++pins) (fun _ _=>False)):= .mk ..
  generalize hY:aM X [n1,n2] scope H3.objs.size {s2 with heap:=H3} (upd H2 s2.heap.objs.size (.lst [])) fp (X.pn++pins) (fun _ _=>False)=Y at I4 cmp
  have eA:Y.A=X.A:=by rw[<-hY];rfl
  have eP:Y.prog=X.prog:=by rw[<-hY];rfl
  have eW:Y.w=X.w:=by rw[<-hY];rfl
  have eK:Y.K=X.K:=by rw[<-hY];rfl
  have eE:Y.env=compEnvC scope (cO X.env.cells scope.names []) H3.objs.size X.env:=by rw[<-hY];rfl
  have eC:Y.calm=true:=by rw[<-hY];exact hc
  have eX:Y.xe=fun _ _=>False:=by rw[<-hY];rfl
  have LM:Y.pn=X.pn++pins:=by rw[<-hY];rfl
  have LJ:Y.ex=fp:=by rw[<-hY];rfl
  have lC: ∀ (H':Hp),(∀b∈fp,H' b=none)-> ∀b∈fp,dD Y [] H' b:=fun H' hn b hb=>by
   have hb':b∈Y.ex:=by rw[LJ];exact hb
   exact⟨hn b hb,(I4.ok.zf b hb').1,I4.ok.mS b hb',.inl hb',(I4.ok.zf b hb').2,fun p hp=>by
    rw[LM]at hp
    rcases List.mem_append.mp hp with z|z
    ·exact(f3 b hb).2.2.2.2.2 p z
    ·cases z⟩
  have lp:=ux (prog:=Y.prog) (w:=Y.w) (A:=Y.A) (kx:=kx) (t1:=t1) (i1:=i1) (t2:=t2) (i2:=i2) (ifs:=ifs) (scope:=scope) (pos:=pos) (D:=s2.heap.objs.size) (env:=Y.env) (it:= .ref it) (s:= {s2 with heap:=h4,toks:=s2.toks+([]:List (Str×Value)).length})
   (R:=compPost (model X.prog X.w) X.A X.xe none (EP X pins σ Q) (.ref s2.heap.objs.size) H3.objs.size) (fun m s'=> ∃i H',Inv Y [] (none::none::σ) H' s'/\tn i s'.heap/\(∀b∈fp,H' b=none)/\W i m H') (hs2 _) ?_ m0 ⟨0,_,I4,Tn.keep _ _ _ st2 fun b hb o e=>old b o e,fun b hb=>(f3 b hb).1,w0⟩
  ·rw[eP,eW,eA,eE]at lp;exact lp
  rintro m s3 ⟨i,H5,I5,ki,tX,w5⟩
  have Fq:Turn Y.prog Y.w Y.K t1 J fp it tn:=by rw[eP,eW,eK];exact Tn
  rcases turn i m H5 w5 with⟨stop,qe⟩|⟨go,step⟩
  ·refine aL (Fq.done Y rfl rfl rfl eC i _ s3 _ H5 _ I5 (lC H5 tX) ki stop) fun r s4 ⟨hr,I6⟩=> ?_
   subst hr
   rw[<-hY]at I6
   obtain⟨mm,zi,_⟩:=I6.loc
   exact⟨mm,zi,fun h' pq=>⟨.ref s2.heap.objs.size,_,jx I3 f3 (Nat.le_refl _) I6 pq,rfl,qe⟩⟩
  ·refine aL (Fq.item Y rfl rfl rfl eC i _ s3 _ H5 _ I5 (lC H5 tX) ki go) fun r s4 ⟨uu,hr,h5⟩=> ?_
   subst hr
   refine aL h5 fun _ s5 ⟨x,H6,I6,r6,y6,Hl,LO⟩=> ?_
   have Ll:=I6.pinned (lC H6 LO) (Fq.obj _ _ Hl)
   have a1:=jA Y cmp _ s5 _ H6 x uu (fun σ2 H2=>σ2=some x::none::σ/\H2=H6) Ll r6 ⟨rfl,rfl⟩
   rw[eX]at a1
   refine aL a1 fun _ s6 ⟨zc,H7,I7,e7,LL⟩=> ?_
   subst e7 LL
   have a2:=hi2 Y cmp _ s6 _ H7 _ I7 (step x H7 y6)
   rw[eX]at a2
   refine aL a2 fun xv s7 h7=>aL h7 fun Mu s8 h8=> ?_
   obtain⟨we,Qb,El,J2,H8,e8,I8,ID,mX,f8,U,⟨n0,u0⟩,Cf⟩:=h8
   subst e8
   have qU: ∀ {n':Nat} {s9:Shared},n'=n'->codeAny (model Y.prog Y.w) Y.A (.compLoop (.ListComp kx [⟨t1,i1,[],0⟩,⟨t2,i2,ifs,0⟩] scope pos) 1 (.ref we) (.ref s2.heap.objs.size) Y.env)
     (fun r s6=>match r with| .ok _=> ∃m',m'<m/\ ∃i H',Inv Y [] (none::none::σ) H' s6/\tn i s6.heap/\(∀b∈fp,H' b=none)/\W i m' H'| .error _=>False) s8:=fun _=>by
    refine xR (Qe:=fun H=> ∃m',m'<m/\W (i+1) m' H) eC eX (gK Y cmp) (ht Y cmp) (hk Y cmp) ID f8 I8 mX u0 Cf fun s9 H9 I9 ⟨m',hm,w9⟩=> ?_
    refine⟨m',hm,i+1,H9,(I9.du (j6:= []) fun p hp=>I9.pin p ?_).weak (by simp) fun k v e=> ?_,Tn.keep _ _ _ Hl fun b hb o e=>(I9.pin (b,o) (List.mem_append_right _ (List.mem_append_right _ (bd hb e)))).1,fun b hb=> ?_,w9⟩
    ·exact List.mem_append_left _ (by simpa using hp)
    ·cases k with
     |zero=>simp at e
     |succ k=>
      cases k with
      |zero=>simp at e
      |succ k=>simpa using e
    ·obtain⟨o,e,d⟩:=Tn.obj _ _ Hl b hb
     exact(I9.pin (b,o) (List.mem_append_right _ (List.mem_append_right _ (bd hb e)))).2.1
   exact pF (qU (n':=0) (s9:=s8) rfl) (ID.self _ 0 _ _ _ mX (qU (n':=0) (s9:=s8) rfl))
 refine codeAny_compStart_list (loop _ rfl) (Tn.self _ 0 _ _ _ ?_ (loop _ rfl))
 exact Tn.keep _ _ _ st2 fun b hb o e=>old b o e
end
end L2
namespace L2
open PySem PySem.Spec PyProof.Rows
theorem jJ:fillsNumberSlot (.type "tuple") "mul"=pure false:=
 PySem.fillsNumberSlot_seq (id:= "tuple.__mul__") (r:=some (.builtin "tuple.__rmul__")) F.slot_tuple_mul.lookup (by decide+kernel) F.slot_tuple_rmul.lookup (by decide+kernel)
theorem pT:seqRepeat? (.type "tuple")=pure (some (.builtin "tuple.__mul__")):=by
 unfold seqRepeat?
 rw[PySem.seqSlot_of (T:= "tuple") (name:= "__mul__") (id:= "tuple.__mul__") F.slot_tuple_mul.lookup (by decide+kernel),PySem.seqSlot_of (T:= "tuple") (name:= "__rmul__") (id:= "tuple.__rmul__") F.slot_tuple_rmul.lookup (by decide+kernel)]
 rfl
theorem uY(a:Int)(t:Tok)(l:Addr)(items:Array Value)(n:Nat)(dd:Option Addr)(sl:Array (Option Value)):
  Meets (Builtin.«int.__rmul__» ⟨[.int a t,.ref l],[]⟩) (fun _ R s=>s.heap.get? l=some {cls:= .type "tuple",dict:=dd,data:= .seq items n,slots:=sl}/\R (.ok (.ret Value.notImplemented)) s):=
 .of_wp fun prog w A R s h=>by obtain⟨hp,g,d,tk,os⟩:=s;obtain⟨hl,h⟩:=h;wp_walk;exact⟨_,rfl,h⟩
theorem vy(l:Addr)(items:Array Value)(n:Nat)(dd:Option Addr)(sl:Array (Option Value))(u:Tok):
  Meets (Builtin.«tuple.__mul__» ⟨[.ref l,.int 1 u],[]⟩) (fun _ R s=>s.heap.get? l=some {cls:= .type "tuple",dict:=dd,data:= .seq items n,slots:=sl}/\R (.ok (.ret (.ref l))) s):=
 .of_wp fun prog w A R s h=>by obtain⟨hp,g,d,tk,os⟩:=s;obtain⟨hl,h⟩:=h;have f1:=AutoSeq1.idx_int;have f2:=AutoSeq1.sub_tuple_tuple;wp_walk using wpAny_loadPart' hl;exact⟨_,rfl,h⟩
theorem vz(l:Addr)(x:Value)(n:Nat)(dd:Option Addr)(sl:Array (Option Value))(u:Tok):
  Meets (Builtin.«tuple.__mul__» ⟨[.ref l,.int 2 u],[]⟩) (fun _ R s=>s.heap.get? l=some {cls:= .type "tuple",dict:=dd,data:= .seq #[x] n,slots:=sl}/\R (.ok (.ret (.ref s.heap.objs.size))) {s with heap:=s.heap.push {cls:= .type "tuple",data:= .seq #[x,x]}}):=
 .of_wp fun prog w A R s h=>by obtain⟨hp,g,d,tk,os⟩:=s;obtain⟨hl,h⟩:=h;have f1:=AutoSeq1.idx_int;have f2:=AutoSeq1.sub_tuple_tuple;wp_walk using wpAny_loadPart' hl;exact⟨_,rfl,h⟩
section
variable{X:Cx}
inductive Bp(K:PySem.W.Frag)(x:V)(y:V)(H:Hp)(Q:VK):Prop
 |mk (a:Addr) (v:V) (k:Int) (_:x= .ref a) (_:y= .int k) (_:bn K H a [v]) (_:(k=1/\Q (.ref a) H)\/(k=2/\ ∀p,H p=none->Q (.ref p) (upd H p (.tup [v,v]))))
theorem DF:gG X (binaryOp .Mult) (Bp X.K):=by
 intro pins s σ H x y v u Q I rx ry h
 obtain⟨a,z,k,rfl,rfl,ha,q⟩:=h
 cases rx
 obtain⟨t,rfl⟩:=ry
 obtain⟨its,r1,p1,_⟩:=I.tuple ha
 obtain⟨x,rfl,rz⟩:=vals1 r1
 obtain⟨⟨cls,dd,data,sl⟩,ho,hc,n,hd⟩:=id p1
 simp only at hc hd
 subst hc hd
 refine wpAny_binaryOp_repeat_ref (T:= "tuple") (U:= "int") (by decide) ⟨_,ho,rfl⟩ (fun s'=>typeIs_int s' k t) jJ F.fills_int_mul F.slot_int_rmul pT F.slot_int_index.lookup
  (call_meets F.slot_int_rmul (typeIs_int s k t) F.entry_int_rmul (F.args_int_rmul_2 _ _) (uY k t a _ n dd sl) ⟨ho,rfl,⟨_,ho,rfl⟩,?_⟩)
 rcases q with⟨rfl,q⟩|⟨rfl,q⟩
 ·exact call_meets F.slot_tuple_mul ⟨_,ho,rfl⟩ F.entry_tuple_mul (F.args_tuple_mul_2 _ _) (vy a _ n dd sl t) ⟨ho,.ref a,H,I,rfl,q⟩
 ·refine call_meets F.slot_tuple_mul ⟨_,ho,rfl⟩ F.entry_tuple_mul (F.args_tuple_mul_2 _ _) (vz a x n dd sl t) ⟨ho,?_⟩
  refine⟨.ref s.heap.objs.size,_,I.laid (t':=s.toks) (o:= .tup [z,z]) (fun b ob q=>Heap.get?_push_of_some _ q) (Nat.le_refl _) ?_,rfl,q _ (I.hok.fresh (Nat.le_refl _))⟩
  exact⟨by show 2<=sizeLine;decide,[x,x],.cons rz (.cons rz .nil),IsTup.new _ _⟩
inductive wG(K:PySem.W.Frag)(x:V)(y:V)(H:Hp)(Q:VK):Prop
 |mk (a b:Addr) (xs ys:List V) (_:x= .ref a) (_:y= .ref b) (_:bn K H a xs) (_:bn K H b ys) (_:ys≠ []) (_:xs.length+ys.length<=sizeLine) (_:xs= []->Q (.ref b) H) (_:xs≠ []-> ∀p,H p=none->Q (.ref p) (upd H p (.tup (xs++ys))))
theorem wq:gG X (binaryOp .Add) (wG X.K):=by
 intro pins s σ H x y v u Q I rx ry h
 obtain⟨a,b,xs,ys,rfl,rfl,ha,hb,hy,hz,q1,q2⟩:=h
 by_cases hx:xs= []
 ·subst hx
  cases rx
  cases ry
  obtain⟨its,r1,p1,_⟩:=I.tuple ha
  obtain⟨its2,r2,p2,_⟩:=I.tuple hb
  have e0:=r1.kB.mpr rfl
  subst e0
  obtain⟨⟨cls,dd,data,sl⟩,ho,hc,n,hd⟩:=id p1
  obtain⟨⟨LB,dd2,data2,sl2⟩,ho2,hc2,n2,hd2⟩:=id p2
  simp only at hc hd hc2 hd2
  subst hc hd hc2 hd2
  exact concat_meets ⟨_,ho,rfl⟩ ⟨_,ho2,rfl⟩ noFill_tuple_add seq_tuple_add PySem.F.slot_tuple_add PySem.F.entry_tuple_add (PySem.F.args_tuple_add_2 _ _)
   (tuple_addW0 a b _ _ n n2 dd dd2 sl sl2 (by simp)) ⟨ho,ho2,.ref b,H,I,rfl,q1 rfl⟩
 ·exact kC pins s σ H _ _ v u Q I rx ry ⟨a,b,xs,ys,rfl,rfl,ha,hb,hx,hz,fun z=>absurd z hy,fun _=>q2 hx⟩
end
end L2
namespace L2
open PySem
def KY(m i:Nat):Nat:=(i*5+1) % (m+1)
def iter(m:Nat):Nat->Nat->Nat
 |0,i=>i
 |k+1,i=>iter m k (KY m i)
theorem i6(m:Nat): ∀ (a b i:Nat),iter m (a+b) i=iter m b (iter m a i)
 |0,b,i=>by rw[Nat.zero_add];rfl
 |a+1,b,i=>by rw[show a+1+b=(a+b)+1 by omega];exact i6 m a b (KY m i)
def rY(m:Nat):Nat->Nat->List Nat
 |0,_=> []
 |k+1,i=>i::rY m k (KY m i)
theorem jH(m:Nat): ∀ (k i x:Nat),x∈rY m k i-> ∃a,a<k/\iter m a i=x
 |0,_,_,h=>by cases h
 |k+1,i,x,h=>by
  rcases List.mem_cons.mp h with e|h
  ·exact⟨0,Nat.succ_pos k,e.symm⟩
  ·obtain⟨a,ha,e⟩:=jH m k _ x h
   exact⟨a+1,by omega,e⟩
def gg(m:Nat):Prop:=m=7\/m=31\/m=127
theorem yv{m:Nat}(h:gg m):(∀x,x<=m->x∈rY m (m+1) 0)/\iter m (m+1) 0=0:=by
 have key: ∀n:Nat,((List.range (n+1)).all fun x=>(rY n (n+1) 0).contains x)=true-> ∀x,x<=n->x∈rY n (n+1) 0:=fun n hn x hx=>
  List.contains_iff_mem.mp (List.all_eq_true.mp hn x (List.mem_range.mpr (by omega)))
 rcases h with rfl|rfl|rfl
 ·exact⟨key 7 (by decide+kernel),by decide+kernel⟩
 ·exact⟨key 31 (by decide+kernel),by decide+kernel⟩
 ·exact⟨key 127 (by decide+kernel),by decide+kernel⟩
theorem reach{m:Nat}(h:gg m){i e:Nat}(hi:i<=m)(he:e<=m): ∃s,s<=m/\iter m s i=e:=by
 obtain⟨h1,h2⟩:=yv h
 obtain⟨a,ha,ea⟩:=jH m _ _ _ (h1 i hi)
 obtain⟨b,hb,eb⟩:=jH m _ _ _ (h1 e he)
 by_cases c:a<=b
 ·refine⟨b-a,by omega,?_⟩
  rw[<-ea,<-i6,show a+(b-a)=b by omega];exact eb
 ·refine⟨m+1-a+b,by omega,?_⟩
  rw[<-ea,<-i6,show a+(m+1-a+b)=(m+1)+b by omega,i6,h2];exact eb
def dL(m:Nat):Nat->Nat->Nat->Nat×Nat
 |0,i,q=>(i,q)
 |r+1,i,q=>dL m r (SetTable.leap m i q).1 (SetTable.leap m i q).2
theorem oa(m:Nat): ∀ (a b i q:Nat),dL m (a+b) i q=dL m b (dL m a i q).1 (dL m a i q).2
 |0,b,i,q=>by rw[Nat.zero_add];rfl
 |a+1,b,i,q=>by rw[show a+1+b=(a+b)+1 by omega];exact oa m a b _ _
theorem wK(m:Nat): ∀ (r i q:Nat),(dL m r i q).2=q/32^r
 |0,i,q=>by simp[dL]
 |r+1,i,q=>by
  rw[dL,wK m r]
  show q/32/32^r=_
  rw[Nat.div_div_eq_div_mul,Nat.pow_succ,Nat.mul_comm]
theorem sy(m:Nat): ∀ (r i q:Nat),i<=m->(dL m r i q).1<=m
 |0,i,q,h=>h
 |r+1,i,q,h=>sy m r _ _ (by show(i*5+1+q/32) % (m+1)<=m;have:=Nat.mod_lt (i*5+1+q/32) (show m+1>0 by omega);omega)
theorem mh(m:Nat): ∀ (s i:Nat),dL m s i 0=(iter m s i,0)
 |0,i=>rfl
 |s+1,i=>by
  show dL m s ((i*5+1+0/32) % (m+1)) (0/32)=_
  rw[show(0:Nat) /32=0 from rfl,Nat.add_zero]
  exact mh m s (KY m i)
theorem yI{m:Nat}(h:gg m){i q e:Nat}(hi:i<=m)(hq:q<2^64)(he:e<=m): ∃r,r<=m+13/\(dL m r i q).1=e:=by
 have hz:(dL m 13 i q).2=0:=by
  rw[wK]
  exact Nat.div_eq_of_lt (Nat.lt_trans hq (by decide))
 obtain⟨s,hs,es⟩:=reach h (sy m 13 i q hi) he
 refine⟨13+s,by omega,?_⟩
 rw[oa,hz,mh];exact es
end L2
namespace L2
open PySem
def gC(m i q:Nat):SetTable.Probe:= {j:=i,more:=SetTable.runEnd m i-i,i:=i,perturb:=q,dummy:=none}
def fS(t:SetTable):Nat->SetTable.Probe->SetTable.Probe
 |0,p=>p
 |k+1,p=>fS t k (t.advance p)
theorem iH(t:SetTable): ∀ (a b:Nat) (p:SetTable.Probe),fS t (a+b) p=fS t b (fS t a p)
 |0,b,p=>by rw[Nat.zero_add];rfl
 |a+1,b,p=>by rw[show a+1+b=(a+b)+1 by omega];exact iH t a b _
theorem jO{m i:Nat}(h:i<=m):SetTable.runEnd m i<=m/\i<=SetTable.runEnd m i/\SetTable.runEnd m i<=i+9:=by
 unfold SetTable.runEnd
 split<;>omega
theorem qx{t:SetTable}{p:SetTable.Probe}(h:0<p.more):t.advance p= {p with j:=p.j+1,more:=p.more-1}:=by
 unfold SetTable.advance
 rw[if_pos h]
theorem qw{t:SetTable}{p:SetTable.Probe}(h:p.more=0)(hd:p.dummy=none):t.advance p=gC t.mask (SetTable.leap t.mask p.i p.perturb).1 (SetTable.leap t.mask p.i p.perturb).2:=by
 unfold SetTable.advance gC
 rw[if_neg (by omega)]
 simp only[hd]
theorem sQ(t:SetTable): ∀ (k:Nat) (p:SetTable.Probe),k<=p.more->fS t k p= {p with j:=p.j+k,more:=p.more-k}
 |0,p,_=>rfl
 |k+1,p,h=>by
  rw[fS,qx (by omega),sQ t k _ (by simp only;omega)]
  simp only[SetTable.Probe.mk.injEq,and_true,true_and]
  omega
theorem yS(t:SetTable){i q:Nat}(hi:i<=t.mask): ∃k,k<=10/\fS t k (gC t.mask i q)=gC t.mask (SetTable.leap t.mask i q).1 (SetTable.leap t.mask i q).2:=by
 obtain⟨h1,h2,h3⟩:=jO hi
 refine⟨(gC t.mask i q).more+1,by show SetTable.runEnd t.mask i-i+1<=10;omega,?_⟩
 rw[iH,sQ t _ _ (Nat.le_refl _)]
 exact qw (by simp) rfl
theorem wl(m i q:Nat):(SetTable.leap m i q).1<=m:=by
 show(i*5+1+q/32) % (m+1)<=m
 have:=Nat.mod_lt (i*5+1+q/32) (show m+1>0 by omega)
 omega
theorem mD(t:SetTable): ∀ (r i q:Nat),i<=t.mask-> ∃k,k<=10*r/\fS t k (gC t.mask i q)=gC t.mask (dL t.mask r i q).1 (dL t.mask r i q).2
 |0,i,q,_=>⟨0,Nat.le_refl _,rfl⟩
 |r+1,i,q,hi=>by
  obtain⟨k1,h1,e1⟩:=yS t (q:=q) hi
  obtain⟨k2,h2,e2⟩:=mD t r _ _ (wl t.mask i q)
  exact⟨k1+k2,by omega,by rw[iH,e1,e2];rfl⟩
def KA(t:SetTable)(p:SetTable.Probe):Prop:=p.j+p.more<=t.mask/\p.dummy=none
theorem KA.Pl{t:SetTable}{p:SetTable.Probe}(h:KA t p):KA t (t.advance p):=by
 by_cases c:0<p.more
 ·rw[qx c]
  exact⟨by have:=h.1;simp only;omega,h.2⟩
 ·rw[qw (by omega) h.2]
  have h1:=wl t.mask p.i p.perturb
  obtain⟨h2,h3,_⟩:=jO h1
  exact⟨by show(SetTable.leap t.mask p.i p.perturb).1+(SetTable.runEnd t.mask (SetTable.leap t.mask p.i p.perturb).1- (SetTable.leap t.mask p.i p.perturb).1)<=t.mask;omega,rfl⟩
theorem qZ{t:SetTable}{hashAt:Nat->Int}{h:Int}(hs: ∀j,t.slot j= .empty\/ ∃i,t.slot j= .live i/\(hashAt i==h)=false): ∀ (fuel:Nat) (p:SetTable.Probe),KA t p->(∃k,k<fuel/\t.slot (fS t k p).j= .empty)-> ∃j,j<=t.mask/\t.slot j= .empty/\SetTable.probe.go t hashAt h fuel p=some (.empty j none)
 |0,p,_,⟨k,hk,_⟩=>absurd hk (Nat.not_lt_zero _)
 |fuel+1,p,hi,⟨k,hk,e⟩=>by
  rcases hs p.j with c|⟨i,c,d⟩
  ·refine⟨p.j,by have:=hi.1;omega,c,?_⟩
   rw[SetTable.probe.go,c]
   simp only[hi.2]
  ·cases k with
   |zero=>
    have e':t.slot p.j= .empty:=e
    rw[c]at e';cases e'
   |succ k=>
    obtain⟨j,h1,h2,h3⟩:=qZ hs fuel (t.advance p) hi.Pl ⟨k,by omega,e⟩
    refine⟨j,h1,h2,?_⟩
    rw[SetTable.probe.go,c]
    simp only[d]
    exact h3
theorem List.Nodup.jF{l m:List Nat}(hn:l.Nodup)(h: ∀x∈l,x∈m):l.length<=m.length:=by
 induction l generalizing m with
 |nil=>exact Nat.zero_le _
 |cons x l ih=>
  obtain⟨h1,h2⟩:=List.nodup_cons.mp hn
  have hx:=h x List.mem_cons_self
  have q:=ih (m:=m.erase x) h2 fun y hy=>(List.mem_erase_of_ne (show y≠x from fun e=>h1 (by rw[<-e];exact hy))).mpr (h y (List.mem_cons_of_mem _ hy))
  rw[List.length_erase_of_mem hx]at q
  have:=List.length_pos_of_mem hx
  rw[List.length_cons];omega
theorem yQ{l:List Nat}{m:Nat}(h:l.length<=m): ∃j,j<=m/\j∉l:=by
 apply Classical.byContradiction
 intro hn
 have hall: ∀j,j<=m->j∈l:=fun j hj=>Classical.byContradiction fun hc=>hn ⟨j,hj,hc⟩
 have:=List.Nodup.jF (l:=List.range (m+1)) (m:=l) List.nodup_range fun j hj=>hall j (by have:=List.mem_range.mp hj;omega)
 rw[List.length_range]at this
 omega
end L2
namespace L2
open PySem
theorem iD{t:SetTable}(hd:t.dummies= #[])(j:Nat):(t.slot j= .empty/\t.place[SetTable.below t.place j]? ≠some j)\/ ∃i,t.slot j= .live i/\t.place[i]? =some j:=by
 unfold SetTable.slot
 by_cases c:(t.place[SetTable.below t.place j]? ==some j)=true
 ·refine .inr ⟨SetTable.below t.place j,?_,by simpa using c⟩
  simp only[c,if_true]
 ·refine .inl ⟨?_,by simpa using c⟩
  simp only[c,if_false,Bool.false_eq_true]
  rw[hd]
  rw[if_neg]
  unfold SetTable.has
  simp
theorem yO{t:SetTable}(hd:t.dummies= #[]){j:Nat}(hj:j∉t.place.toList):t.slot j= .empty:=by
 rcases iD hd j with⟨h,_⟩|⟨i,_,h⟩
 ·exact h
 ·exact absurd (by rw[Array.mem_toList_iff];exact Array.mem_of_getElem? h) hj
theorem CD(h:Int):SetTable.bits h<2^64:=by
 unfold SetTable.bits
 have h1:0<=h% (2^64:Int):=Int.emod_nonneg _ (by decide)
 have h2:h% (2^64:Int)<2^64:=Int.emod_lt_of_pos _ (by decide)
 omega
theorem uU{t:SetTable}(hm:gg t.mask)(hd:t.dummies= #[])(hf:t.place.size<=t.mask){hashAt:Nat->Int}{h:Int}(hne: ∀i,i<t.place.size->(hashAt i==h)=false): ∃j,j<=t.mask/\t.slot j= .empty/\t.probe hashAt h (t.probeStart h)=some (.empty j none):=by
 have hi:SetTable.bits h% (t.mask+1)<=t.mask:=by
  have:=Nat.mod_lt (SetTable.bits h) (show t.mask+1>0 by omega)
  omega
 have es:t.probeStart h=gC t.mask (SetTable.bits h% (t.mask+1)) (SetTable.bits h):=rfl
 have hs: ∀j,t.slot j= .empty\/ ∃i,t.slot j= .live i/\(hashAt i==h)=false:=fun j=>by
  rcases iD hd j with⟨h,_⟩|⟨i,h,e⟩
  ·exact .inl h
  ·exact .inr ⟨i,h,hne i (Array.getElem?_eq_some_iff.mp e).1⟩
 obtain⟨e,he,hne'⟩:=yQ (l:=t.place.toList) (m:=t.mask) (by simpa using hf)
 obtain⟨r,hr,er⟩:=yI hm hi (CD h) he
 obtain⟨k,hk,ek⟩:=mD t r _ (SetTable.bits h) hi
 obtain⟨h2,h3,_⟩:=jO hi
 refine qZ hs _ _ ?_ ⟨k,?_,?_⟩
 ·rw[es]
  exact⟨by show SetTable.bits h% (t.mask+1)+(SetTable.runEnd t.mask (SetTable.bits h% (t.mask+1))-SetTable.bits h% (t.mask+1))<=t.mask;omega,rfl⟩
 ·show k<10*(t.mask+15)
  omega
 ·rw[es,ek]
  show t.slot (dL t.mask r _ _).1= .empty
  rw[er]
  exact yO hd hne'
theorem jZ{α:Type}(xs:Array α)(p:Nat)(x:α):(SetTable.insertAt xs p x).toList=xs.toList.take p++x::xs.toList.drop p:=by
 unfold SetTable.insertAt
 simp only[Array.toList_append,Array.toList_push,Array.toList_extract,List.extract_eq_take_drop]
 simp[List.take_of_length_le]
theorem j0{α:Type}(xs:Array α)(p:Nat)(x:α):(SetTable.insertAt xs p x).toList.Perm (x::xs.toList):=by
 rw[jZ]
 refine List.perm_middle.trans ?_
 rw[List.take_append_drop]
theorem j1{α:Type}(xs:Array α)(p:Nat)(x:α):(SetTable.insertAt xs p x).size=xs.size+1:=by
 have:=(j0 xs p x).length_eq
 simpa using this
def jV(xs:Array Nat):Prop:=xs.toList.Pairwise (· < ·)
theorem kW{xs:Array Nat}(hr:jV xs){j:Nat}: ∀ (fuel lo hi:Nat),hi<=xs.size->lo<=hi->hi-lo<=fuel->(∀i,i<lo-> ∀x,xs[i]? =some x->x<j)->(∀i,hi<=i-> ∀x,xs[i]? =some x->j<=x)->(∀i,i<SetTable.below.go xs j fuel lo hi-> ∀x,xs[i]? =some x->x<j)/\(∀i,SetTable.below.go xs j fuel lo hi<=i-> ∀x,xs[i]? =some x->j<=x)/\SetTable.below.go xs j fuel lo hi<=xs.size
 |0,lo,hi,h1,h2,h3,h4,h5=>by
  have:lo=hi:=by omega
  subst this
  exact⟨h4,h5,h1⟩
 |fuel+1,lo,hi,h1,h2,h3,h4,h5=>by
  rw[SetTable.below.go]
  by_cases c:lo<hi
  ·rw[if_pos c]
   have hm:(lo+hi) /2<xs.size:=by omega
   have hget:xs[(lo+hi) /2]? =some xs[(lo+hi) /2]:=by simp[hm]
   have hD:xs.getD ((lo+hi) /2) j=xs[(lo+hi) /2]:=by simp[hm]
   have hmono: ∀a b,a<b-> ∀x y,xs[a]? =some x->xs[b]? =some y->x<y:=fun a b hab x y hx hy=>by
    obtain⟨ha,ea⟩:=Array.getElem?_eq_some_iff.mp hx
    obtain⟨hb,eb⟩:=Array.getElem?_eq_some_iff.mp hy
    have:=(List.pairwise_iff_getElem.mp hr) a b (by simpa using ha) (by simpa using hb) hab
    simp only[Array.getElem_toList]at this
    rw[ea,eb]at this
    exact this
   simp only[hD]
   by_cases d:xs[(lo+hi) /2]<j
   ·rw[if_pos d]
    refine kW hr fuel _ _ h1 (by omega) (by omega) (fun i hi' x hx=> ?_) h5
    by_cases e:i=(lo+hi) /2
    ·subst e;rw[hget]at hx;cases hx;exact d
    ·exact Nat.lt_trans (hmono i _ (by omega) x _ hx hget) d
   ·rw[if_neg d]
    refine kW hr fuel _ _ (by omega) (by omega) (by omega) h4 (fun i hi' x hx=> ?_)
    by_cases e:i=(lo+hi) /2
    ·subst e;rw[hget]at hx;cases hx;omega
    ·have:=hmono _ i (by omega) _ x hget hx
     omega
  ·rw[if_neg c]
   have:lo=hi:=by omega
   subst this
   exact⟨h4,h5,h1⟩
theorem kX{xs:Array Nat}(hr:jV xs)(j:Nat):(∀i,i<SetTable.below xs j-> ∀x,xs[i]? =some x->x<j)/\(∀i,SetTable.below xs j<=i-> ∀x,xs[i]? =some x->j<=x)/\SetTable.below xs j<=xs.size:=
 kW hr xs.size 0 xs.size (Nat.le_refl _) (Nat.zero_le _) (by omega) (fun i hi=>absurd hi (Nat.not_lt_zero _)) (fun i hi x hx=>by
  have:=(Array.getElem?_eq_some_iff.mp hx).1
  omega)
theorem pz{xs:Array Nat}(hr:jV xs){j:Nat}(hj:xs[SetTable.below xs j]? ≠some j):jV (SetTable.insertAt xs (SetTable.below xs j) j)/\j∉xs.toList:=by
 obtain⟨h1,h2,h3⟩:=kX hr j
 have lo: ∀x∈xs.toList.take (SetTable.below xs j),x<j:=fun x hx=>by
  obtain⟨i,hi,e⟩:=List.getElem_of_mem hx
  rw[List.length_take]at hi
  rw[List.getElem_take]at e
  refine h1 i (by omega) x ?_
  rw[<-Array.getElem?_toList,List.getElem?_eq_getElem (by omega),e]
 have up: ∀x∈xs.toList.drop (SetTable.below xs j),j<x:=fun x hx=>by
  obtain⟨i,hi,e⟩:=List.getElem_of_mem hx
  rw[List.length_drop]at hi
  rw[List.getElem_drop]at e
  have hget:xs[SetTable.below xs j+i]? =some x:=by
   rw[<-Array.getElem?_toList,List.getElem?_eq_getElem (by omega),e]
  have h4:=h2 _ (Nat.le_add_right _ _) x hget
  by_cases c:x=j
  ·exfalso
   subst c
   by_cases z:i=0
   ·subst z;rw[Nat.add_zero]at hget;exact hj hget
   ·have hb:SetTable.below xs x<xs.toList.length:=by omega
    have h5:=(List.pairwise_iff_getElem.mp hr) (SetTable.below xs x) (SetTable.below xs x+i) hb (by omega) (by omega)
    rw[e]at h5
    have h6:=h2 (SetTable.below xs x) (Nat.le_refl _) (xs.toList[SetTable.below xs x]) (by rw[<-Array.getElem?_toList,List.getElem?_eq_getElem hb])
    omega
  ·omega
 constructor
 ·unfold jV
  rw[jZ,List.pairwise_append]
  refine⟨hr.sublist (List.take_sublist _ _),List.pairwise_cons.mpr ⟨up,hr.sublist (List.drop_sublist _ _)⟩,fun a ha b hb=> ?_⟩
  rcases List.mem_cons.mp hb with e|hb
  ·rw[e];exact lo a ha
  ·exact Nat.lt_trans (lo a ha) (up b hb)
 ·intro hm
  rw[<-List.take_append_drop (SetTable.below xs j) xs.toList]at hm
  rcases List.mem_append.mp hm with hm|hm
  ·exact Nat.lt_irrefl _ (lo j hm)
  ·exact Nat.lt_irrefl _ (up j hm)
end L2
namespace L2
open PySem
end L2
namespace L2
open PySem
end L2
namespace L2
open PySem
end L2
namespace L2
open PySem PySem.Spec PyProof.Rows PySem.W
def fC(es:Array (Int×Value))(ep:Nat)(t:SetTable):Obj:= {cls:= .type "set",dict:=none,data:= .set es ep t}
structure TabOk(es:Array (Int×Value))(t:SetTable):Prop where
 mask:gg t.mask
 KH:t.dummies= #[]
 sz:t.place.size=es.size
 Bw:jV t.place
 plain:t.plain=true
 free:t.place.size*5<t.mask*3
theorem TabOk.le{es:Array (Int×Value)}{t:SetTable}(T:TabOk es t):t.place.size<=t.mask:=by have:=T.free;omega
theorem TabOk.fits{es:Array (Int×Value)}{t:SetTable}(T:TabOk es t):t.fits es.size=true:=by
 have h1:=T.le
 have h2:=T.sz
 unfold SetTable.fits SetTable.fill
 rw[T.KH]
 simp[h2]
 omega
section
variable{prog:Program}{w:World}{A:Around}{E:Value->Shared->Prop}{s:Shared}
end
end L2
namespace L2
open PySem PySem.Spec PyProof.Rows PySem.W
section
variable{prog:Program}{w:World}{A:Around}{R:Result->Shared->Prop}{I:Addr}{fp wr:List Addr}{G:Array GenState->Array GenState->Prop}{P:Nat->Value->Prop}{St:Nat->Shared->Prop}{qs:List ((Nat×Nat)×Addr)}
end
end L2
namespace L2
open PySem PySem.Spec PyProof.Rows PySem.W
section
variable{prog:Program}{w:World}{A:Around}{E:Value->Shared->Prop}{s:Shared}
theorem code_set_new(a:Value){Q₁:Value->Shared->Prop}
  (h:Q₁ (.ref s.heap.objs.size) {s with heap:=s.heap.push (fC #[] 0 (.fresh 0 0 (!w.params.followText "set-order")))}):
  codeAny (model prog w) A (.call (.builtin "set.__new__") ⟨[.type "set",a],[]⟩) (wants Q₁ E) s:=by
 refine codeAny_of_tree ?_
 show wpAny _ A.in1 (do checkBuiltinCall "set.__new__" ⟨[.type "set",a],[]⟩;again (.builtin "set.__new__" ⟨[.type "set",a],[]⟩)) _ _ s
 refine wpAny_bind (wpAny_of_eq (F.newCall_set_1 a) (wpAny_pure ⟨plainId_quiet F.plain_set_new _,codeAny_builtin F.entry_set_new ?_⟩))
 rw[Around.under_plainId F.plain_set_new _]
 unfold Builtin.«set.__new__» Builtin.Frozenset.newClass
 have hsub:=sub_set_self
 obtain⟨hp,g,d,tk,os⟩:=s
 dsimp only
 wp_walk
 refine wpAny_askSetting (wpAny_pure ?_)
 dsimp only
 simp only[newObj]
 refine wpAny_bind (wpAny_alloc (wpAny_pure ?_))
 exact wpAny_pure h
theorem yV(led:Bool):TabOk #[] (.fresh 0 0 led):=⟨.inl rfl,rfl,rfl,List.Pairwise.nil,rfl,by show 0*5<7*3;decide⟩
end
end L2
namespace L2
open PySem PySem.Spec PyProof.Rows PySem.W
theorem sg:Manifest.owners.lookup (String.ofList "set_iterator".toList.reverse.reverse)=some Manifest.sig_set_iterator:=by kernel_rfl
theorem cB:Slot "set_iterator" "__next__" "set_iterator.__next__":=
 .of (owner:= "set_iterator") (n:= "__next__") (by rw[typeLookup_type,builtinLookup_eq_fast];kernel_rfl) (by decide+kernel) (by decide+kernel) (by decide+kernel)
  (by first|exact .inl (by decide+kernel)|exact .inr (by decide+kernel)) (by rw[isSubtype_type];kernel_rfl)
theorem gZ:entryFor table "set_iterator.__next__"=some Builtin.«set_iterator.__next__»:=entryFor_of_tree (by kernel_rfl)
theorem iS(a:Value):argsOk "set_iterator.__next__" ⟨[a],[]⟩:=by
 unfold argsOk;rw[signature?_of (id:= "set_iterator.__next__") (n:= "__next__".toList.reverse) (o:= "set_iterator".toList.reverse) (by kernel_rfl) sg];kernel_rfl
theorem jq:Slot "set_iterator" "__iter__" "set_iterator.__iter__":=
 .of (owner:= "set_iterator") (n:= "__iter__") (by rw[typeLookup_type,builtinLookup_eq_fast];kernel_rfl) (by decide+kernel) (by decide+kernel) (by decide+kernel)
  (by first|exact .inl (by decide+kernel)|exact .inr (by decide+kernel)) (by rw[isSubtype_type];kernel_rfl)
theorem mR:entryFor table "set_iterator.__iter__"=some Builtin.«dict_keyiterator.__iter__»:=
 entryFor_alias (id':= "dict_keyiterator.__iter__") (by kernel_rfl) rfl (by decide+kernel) (by kernel_rfl)
theorem oV(a:Value):argsOk "set_iterator.__iter__" ⟨[a],[]⟩:=by
 unfold argsOk;rw[signature?_of (id:= "set_iterator.__iter__") (n:= "__iter__".toList.reverse) (o:= "set_iterator".toList.reverse) (by kernel_rfl) sg];kernel_rfl
theorem o8:entryFor table "set.__iter__"=some Builtin.«frozenset.__iter__»:=
 entryFor_alias (id':= "frozenset.__iter__") (by kernel_rfl) rfl (by decide+kernel) (by kernel_rfl)
end L2
namespace L2
open PySem PySem.Spec PyProof.Rows PySem.W
theorem tW{α:Type}{l:List α}{i:Nat}(h:i<l.length):(l[i]::l.eraseIdx i).Perm l:=by
 rw[List.eraseIdx_eq_take_drop_succ]
 refine(List.perm_middle (l₁:=l.take i) (a:=l[i]) (l₂:=l.drop (i+1))).symm.trans ?_
 rw[List.getElem_cons_drop,List.take_append_drop]
theorem wC{α:Type}(next:Nat->Nat): ∀ (fuel k:Nat) (left:List α) (out:Array α),left.length=fuel->(pickOrder.go next fuel k left out).toList.Perm (out.toList++left)
 |0,k,left,out,h=>by
  have:left= []:=List.length_eq_zero_iff.mp h
  subst this
  simp[pickOrder.go]
 |fuel+1,k,left,out,h=>by
  have hlt:next k%left.length<left.length:=Nat.mod_lt _ (by omega)
  rw[pickOrder.go,List.getElem?_eq_getElem hlt]
  dsimp only
  refine(wC next fuel (k+1) _ _ (by rw[List.length_eraseIdx_of_lt hlt];omega)).trans ?_
  rw[Array.toList_push,List.append_assoc]
  exact List.Perm.append_left _ (tW hlt)
def db(w:World)(a:Addr)(es:Array (Int×Value))(ep:Nat):Array (Int×Value):=if w.params.followText "set-order" then pickOrder (w.params.setOrder a ep) es else es
theorem oP(w:World)(a:Addr)(es:Array (Int×Value))(ep:Nat):(db w a es ep).toList.Perm es.toList:=by
 unfold db
 split
 ·exact(wC _ es.size 0 es.toList #[] (by simp)).trans (by simp)
 ·exact List.Perm.refl _
theorem jU(w:World)(a:Addr)(es:Array (Int×Value))(ep:Nat):(db w a es ep).size=es.size:=by
 have:=(oP w a es ep).length_eq
 simpa using this
theorem tN{xs:Array Nat}(hr:jV xs):SetTable.below xs 0=0:=by
 obtain⟨h1,h2,h3⟩:=kX hr 0
 rcases Nat.eq_zero_or_pos (SetTable.below xs 0)with h|h
 ·exact h
 ·exact absurd (h1 0 h xs[0] (by simp)) (by omega)
theorem tM{xs:Array Nat}(hr:jV xs){i j:Nat}(hi:xs[i]? =some j):SetTable.below xs (j+1)=i+1:=by
 obtain⟨h1,h2,h3⟩:=kX hr (j+1)
 obtain⟨hlt,e⟩:=Array.getElem?_eq_some_iff.mp hi
 have a1:i<SetTable.below xs (j+1):=by
  rcases Nat.lt_or_ge i (SetTable.below xs (j+1))with h|h
  ·exact h
  ·have:=h2 i h j hi;omega
 rcases Nat.lt_or_ge (i+1) (SetTable.below xs (j+1))with h|h
 ·exfalso
  have hl2:i+1<xs.size:=by omega
  have b1:=h1 (i+1) h xs[i+1] (by simp[hl2])
  have b2:=(List.pairwise_iff_getElem.mp hr) i (i+1) (by simpa using hlt) (by simpa using hl2) (by omega)
  simp only[Array.getElem_toList]at b2
  rw[e]at b2
  omega
 ·omega
def j2(a:Addr)(slot i n ep:Nat):Obj:= {cls:= .type "set_iterator",data:= .fields #[.int slot 0,.int i 0,.ref a,.int n 0,.int ep 0]}
section
variable{prog:Program}{w:World}{A:Around}{E:Value->Shared->Prop}{s:Shared}
theorem rP{a:Addr}{es:Array (Int×Value)}{ep:Nat}{t:SetTable}{slot i:Nat}{Q:Option (Value×Nat)->Shared->Prop}(ho:s.heap.get? a=some (fC es ep t))(T:TabOk es t)(hl:t.led= !w.params.followText "set-order")
  (hsl:w.params.followText "set-order"=false->SetTable.below t.place slot=i)
  (h0:es.size<=i->Q none s)(h1: ∀e slot',(db w a es ep)[i]? =some e->(w.params.followText "set-order"=false->SetTable.below t.place slot'=i+1)->Q (some (e.2,slot')) s):
  wpAny (model prog w) A (setNext a slot i ep) Q E s:=by
 unfold setNext
 refine wpAny_bind (wpAny_setState_of ho rfl T.fits ?_)
 dsimp only
 unfold setsByText
 refine wpAny_bind (wpAny_bind (wpAny_askSetting (wpAny_pure ?_)))
 dsimp only
 have hm:(model prog w).w.params.followText "set-order"=w.params.followText "set-order":=rfl
 rw[hm]
 by_cases c:w.params.followText "set-order"=true
 ·rw[c]
  simp only[if_true,bne_self_eq_false,Bool.false_eq_true,if_false]
  unfold setWalk
  refine wpAny_bind (wpAny_bind (wpAny_setState_of ho rfl T.fits ?_))
  dsimp only
  unfold setsByText
  refine wpAny_bind (wpAny_bind (wpAny_askSetting (wpAny_pure ?_)))
  dsimp only
  rw[hm,c]
  simp only[if_true]
  refine wpAny_bind (wpAny_askSetting (wpAny_pure ?_))
  dsimp only
  refine wpAny_pure ?_
  have ew:db w a es ep=pickOrder (w.params.setOrder a ep) es:=by unfold db;rw[c];rfl
  show Q (((pickOrder (w.params.setOrder a ep) es)[i]?).map fun e=>(e.2,slot)) s
  rw[<-ew]
  cases e:(db w a es ep)[i]? with
  |none=>
   refine h0 ?_
   have:=jU w a es ep
   have:=Array.getElem?_eq_none_iff.mp e
   omega
  |some y=>exact h1 y slot e (fun z=>by rw[c]at z;cases z)
 ·have c:w.params.followText "set-order"=false:=by simpa using c
  rw[c]
  simp only[Bool.false_eq_true,if_false]
  have ew:db w a es ep=es:=by unfold db;rw[c];rfl
  have hs:=hsl c
  have L4:t.led=true:=by rw[hl,c];rfl
  refine wpAny_ite_split (fun z=>absurd (show(!t.plain&&decide (es.size>1))=true from z) (by rw[T.plain];simp)) (fun _=> ?_)
  refine wpAny_bind ?_
  wp_delta
  rw[L4]
  simp only[Bool.not_true,Bool.false_and,Bool.false_eq_true,if_false]
  refine wpAny_pure (wpAny_pure ?_)
  rw[hs]
  by_cases d:i<es.size
  ·have d2:i<t.place.size:=by rw[T.sz];exact d
   have e1:es[i]? =some es[i]:=by simp[d]
   have e2:t.place[i]? =some t.place[i]:=by simp[d2]
   rw[e1,e2]
   exact h1 es[i] _ (by rw[ew];exact e1) (fun _=>tM T.Bw e2)
  ·have e1:es[i]? =none:=Array.getElem?_eq_none (by omega)
   rw[e1]
   exact h0 (by omega)
theorem ig{a I:Addr}{slot i n ep:Nat}(hI:s.heap.get? I=some (j2 a slot i n ep)):s.TypeIs (.ref I) "set_iterator":=⟨_,hI,rfl⟩
theorem cG{a:Addr}{es:Array (Int×Value)}{ep:Nat}{t:SetTable}{Q:Array (Int×Value)->Shared->Prop}(ho:s.heap.get? a=some (fC es ep t))(T:TabOk es t)(h:Q es s):wpAny (model prog w) A (setEntries a) Q E s:=by
 unfold setEntries
 exact wpAny_bind (wpAny_setState_of ho rfl T.fits (wpAny_pure h))
theorem uX{a:Addr}{es:Array (Int×Value)}{ep:Nat}{t:SetTable}{Q:Value->Shared->Prop}(ho:s.heap.get? a=some (fC es ep t))(T:TabOk es t)
  (h:Q (.ref s.heap.objs.size) {s with heap:=s.heap.push (j2 a 0 0 es.size ep)}):wpAny (model prog w) A (pyIter (.ref a)) Q E s:=by
 have hT:s.TypeIs (.ref a) "set":=⟨_,ho,rfl⟩
 refine wpAny_pyIter_slot hT F.slot_set_iter (wpAny_call_entry F.slot_set_iter hT o8 ?_ (F.args_set_iter_1 _))
 unfold Builtin.«frozenset.__iter__» Builtin.Frozenset.slot0 slotArgs
 simp only[List.isEmpty_nil,Bool.not_true,Bool.false_eq_true,↓reduceIte,bind_assoc,List.length_nil,bne_self_eq_false]
 unfold Builtin.Frozenset.addrOf Builtin.Frozenset.sizeOf
 refine wpAny_bind (wpAny_pure ?_)
 try dsimp only
 refine wpAny_bind (wpAny_pure ?_)
 refine wpAny_bind (wpAny_bind (cG ho T (wpAny_pure ?_)))
 unfold setDrawn
 refine wpAny_bind (wpAny_bind (wpAny_setState_of ho rfl T.fits ?_))
 dsimp only
 unfold setsByText
 refine wpAny_bind (wpAny_bind (wpAny_askSetting (wpAny_pure ?_)))
 dsimp only
 refine wpAny_pure ?_
 refine wpAny_ite_split (fun z=>absurd (show(!(model prog w).w.params.followText "set-order"&& (!t.plain&&decide (es.size>1)))=true from z) (by rw[T.plain];simp)) (fun _=> ?_)
 refine wpAny_bind (wpAny_pure ?_)
 unfold setEpoch
 refine wpAny_bind (wpAny_bind (wpAny_setState_of ho rfl T.fits (wpAny_pure ?_)))
 refine wpAny_bind (wpAny_newObj_type (wpAny_pure ⟨_,rfl, "set_iterator",_,⟨_,Heap.get?_push_size _ rfl,rfl⟩,cB.lookup,?_⟩))
 exact h
end
end L2
namespace L2
open PySem PySem.Spec PyProof.Rows PySem.W
section
variable{prog:Program}{w:World}{A:Around}{E:Value->Shared->Prop}{s:Shared}
theorem kh{I a:Addr}{es:Array (Int×Value)}{ep:Nat}{t:SetTable}{slot i:Nat}{Q:Option Value->Shared->Prop}(hI:s.heap.get? I=some (j2 a slot i es.size ep))(ho:s.heap.get? a=some (fC es ep t))(T:TabOk es t)(hl:t.led= !w.params.followText "set-order")
  (hsl:w.params.followText "set-order"=false->SetTable.below t.place slot=i)(hi:i<es.size)
  (h: ∀e slot' h',(db w a es ep)[i]? =some e->(w.params.followText "set-order"=false->SetTable.below t.place slot'=i+1)->h'.get? I=some (j2 a slot' (i+1) es.size ep)->(∀b,b≠I->h'.get? b=s.heap.get? b)->Q (some e.2) {s with heap:=h'}):
  wpAny (model prog w) A (pyNext (.ref I)) Q E s:=by
 unfold pyNext
 refine wpAny_bind (wpAny_attempt (wpAny_callSpecial?_slot (name:=Str.ofString "__next__") (ig hI) cB
  (wpAny_call_entry cB (ig hI) gZ ?_ (iS _))))
 unfold Builtin.«set_iterator.__next__» slotArgs
 simp only[List.isEmpty_nil,Bool.not_true,Bool.false_eq_true,↓reduceIte,bind_assoc,List.length_nil,bne_self_eq_false]
 refine wpAny_bind (wpAny_pure ?_)
 refine wpAny_bind (wpAny_fieldsOf hI rfl ?_)
 dsimp only
 refine wpAny_bind (cG ho T ?_)
 rw[if_neg (by simp)]
 refine wpAny_bind (rP (slot:=((slot:Int)).toNat) (i:=((i:Int)).toNat) ho T hl hsl (fun z=>absurd hi (by have:((i:Int)).toNat=i:=rfl;omega)) fun e slot' h1 h2=> ?_)
 dsimp only
 refine wpAny_bind (wpAny_setField hI rfl (by show 0<5;decide) ?_)
 have g1:(s.heap.update I (Obj.mapFields (·.setIfInBounds 0 (rawInt slot')))).get? I=some (j2 a slot' i es.size ep):=Heap.get?_update_self _ hI rfl
 refine wpAny_bind (wpAny_setField (s:= {s with heap:=s.heap.update I (Obj.mapFields (·.setIfInBounds 0 (rawInt slot')))}) g1 rfl (by show 1<5;decide) ?_)
 have g2:((s.heap.update I (Obj.mapFields (·.setIfInBounds 0 (rawInt slot')))).update I (Obj.mapFields (·.setIfInBounds 1 (rawInt ((i:Int)+1))))).get? I=some (j2 a slot' (i+1) es.size ep):=Heap.get?_update_self _ g1 rfl
 show wpAny _ _ (ret e.2) _ _ _
 refine wpAny_pure ⟨_,rfl,wpAny_pure (h e slot' _ h1 h2 g2 fun b hb=> ?_)⟩
 rw[Heap.get?_update_other _ _ (Ne.symm hb),Heap.get?_update_other _ _ (Ne.symm hb)]
theorem mf{I a:Addr}{es:Array (Int×Value)}{ep:Nat}{t:SetTable}{slot i:Nat}{Q:Option Value->Shared->Prop}(hh:A.handled=none)(hI:s.heap.get? I=some (j2 a slot i es.size ep))(ho:s.heap.get? a=some (fC es ep t))(T:TabOk es t)(hl:t.led= !w.params.followText "set-order")
  (hsl:w.params.followText "set-order"=false->SetTable.below t.place slot=i)(hi:i=es.size)
  (h: ∀h',(∀b o,b≠I->s.heap.get? b=some o->h'.get? b=some o)->Q none {s with heap:=h'}):
  wpAny (model prog w) A (pyNext (.ref I)) Q E s:=by
 unfold pyNext
 refine wpAny_bind (wpAny_attempt (wpAny_callSpecial?_slot (name:=Str.ofString "__next__") (ig hI) cB
  (wpAny_call_entry cB (ig hI) gZ ?_ (iS _))))
 unfold Builtin.«set_iterator.__next__» slotArgs
 simp only[List.isEmpty_nil,Bool.not_true,Bool.false_eq_true,↓reduceIte,bind_assoc,List.length_nil,bne_self_eq_false]
 refine wpAny_bind (wpAny_pure ?_)
 refine wpAny_bind (wpAny_fieldsOf hI rfl ?_)
 dsimp only
 refine wpAny_bind (cG ho T ?_)
 rw[if_neg (by simp)]
 refine wpAny_bind (rP (slot:=((slot:Int)).toNat) (i:=((i:Int)).toNat) ho T hl hsl (fun z=> ?_) fun e slot' h1 h2=> ?_)
 ·dsimp only
  refine wpAny_bind (wpAny_setField hI rfl (by show 2<5;decide) ?_)
  show wpAny _ _ (newExc (.type "StopIteration") [] >>=_) _ _ _
  refine wpAny_bind ?_
  simp only[newExc,newTuple]
  refine wpAny_bind (wpAny_newObj_type ?_ (by size_fits))
  refine wpAny_bind (m:=firstArgMember _ _) (wpAny_of_eq (a:=Value.none) (by first|rfl|(simp only[firstArgMember];rfl)) ?_)
  refine wpAny_newObj_type ?_ (by size_fits)
  simp only[raiseNew]
  refine wpAny_bind (wpAny_handled ?_)
  rw[show A.in1.handled=none from hh]
  refine wpAny_bind (wpAny_pure (wpAny_throw ?_))
  refine wpAny_bind (wpAny_isInstance (T:= "StopIteration") (b:=true) ⟨_,Heap.get?_push_size _ rfl,rfl⟩ isSubtype_stop ?_)
  exact wpAny_pure (h _ (((Heap.SameBut.update ..).extBut.push _).push _))
 ·exfalso
  have e1:((i:Int)).toNat=i:=rfl
  rw[e1]at h1
  have:=(Array.getElem?_eq_some_iff.mp h1).1
  rw[jU]at this
  omega
theorem za(hh:A.handled=none)(I a:Addr)(hne:a≠I){es:Array (Int×Value)}{ep:Nat}{t:SetTable}(T:TabOk es t)(hl:t.led= !w.params.followText "set-order"):
  Walks prog w A I [I,a] [I] es.size (fun i v=>((db w a es ep)[i]?).map (·.2)=some v) (fun i h=>(∃slot,h.get? I=some (j2 a slot i es.size ep)/\(w.params.followText "set-order"=false->SetTable.below t.place slot=i))/\h.get? a=some (fC es ep t))where
 sub:=fun b hb=>by simp at hb;simp[hb]
 frame:=fun _ _ _ st hk=>⟨let⟨sl,h1,h2⟩:=st.1;⟨sl,hk I (by simp) _ h1,h2⟩,hk a (by simp) _ st.2⟩
 item:=fun i s Q E hi st hQ=>by
  obtain⟨⟨sl,h1,h2⟩,h3⟩:=st
  refine kh h1 h3 T hl h2 hi fun e slot' h' k1 k2 k3 k4=> ?_
  exact hQ e.2 h' s.toks (by show((db w a es ep)[i]?).map (·.2)=_;rw[k1];rfl) ⟨⟨slot',k3,k2⟩,by rw[k4 a hne];exact h3⟩ fun b o hb e=>by rw[k4 b (fun h=>hb (by simp[h]))];exact e
 done:=fun s Q E st hQ=>by
  obtain⟨⟨sl,h1,h2⟩,h3⟩:=st
  exact mf hh h1 h3 T hl h2 rfl fun h' he'=>hQ h' s.toks fun b o hb e=>he' b o (fun h=>hb (by simp[h])) e
 self:=fun i s Q E st hQ=>by
  obtain⟨⟨sl,h1,h2⟩,h3⟩:=st
  refine wpAny_pyIter_slot (ig h1) jq (wpAny_call_entry jq (ig h1) mR ?_ (oV _))
  show wpAny _ _ (ret (.ref I)) _ _ s
  exact wpAny_pure ⟨_,rfl, "set_iterator",_,ig h1,cB.lookup,hQ⟩
theorem Ah{r:Addr}{Q:Bool->Shared->Prop}(hT:s.TypeIs (.ref r) "set")(h:Q false s):wpAny (model prog w) A (Builtin.List.listLengthHint (.ref r)) Q E s:=by
 unfold Builtin.List.listLengthHint
 refine wpAny_bind (wpAny_specialOf hT PySem.F.slot_set_len.lookup ?_)
 generalize hid:("set.__len__":String)=Rh
 wp_delta
 rw[show splitId Rh=some ("set", "__len__")from by subst hid;decide+kernel]
 subst hid
 refine wpAny_bind (wpAny_isInstance (T:= "set") (b:=true) hT (by rw[isSubtype_type];kernel_rfl) ?_)
 refine wpAny_ite_split (fun hab=>absurd hab (by decide)) (fun _=> ?_)
 refine wpAny_ite_split (fun _=> ?_) (fun hab=>absurd (by decide+kernel) hab)
 refine wpAny_bind (wpAny_typeOf hT ?_)
 exact wpAny_pure h
theorem Ef(prog:Program)(w:World)(a:Addr){es:Array (Int×Value)}{ep:Nat}{t:SetTable}(T:TabOk es t)(hl:t.led= !w.params.followText "set-order"):
  KdlSrc prog w "set" a a es.size (fun i v=>((db w a es ep)[i]?).map (·.2)=some v) (fun h=>h.get? a=some (fC es ep t))where
 type:=fun _ hm=>⟨_,hm,rfl⟩
 there:=fun _ hm=>⟨Heap.lt_size hm,Heap.lt_size hm⟩
 keep:=fun _ _ hm hk=>hk a (.inl rfl) _ hm
 notList:=by decide
 notTuple:=by decide
 hint:=fun _ _ _ _ hm hq=>Ah ⟨_,hm,rfl⟩ hq
 iter:=fun _ s hh hm=>⟨_,_,(fun _ _ hq=>uX hm T hq),za hh _ a (Nat.ne_of_lt (Heap.lt_size hm)) T hl,⟨0,Heap.get?_push_size _ rfl,fun _=>tN T.Bw⟩,Heap.get?_push_of_some _ hm⟩
end
end L2
namespace L2
open PySem PySem.Spec PyProof.Rows PySem.W K2
section
variable{prog:Program}{w:World}{A:Around}{E:Value->Shared->Prop}{s:Shared}
theorem sI{x:Value}{Q:Value->Shared->Prop}(h:wpAny (model prog w) A.in1 (collect x) (fun vs s1=>vs.length<64/\wpAny (model prog w) A.in1 (call (.builtin "list.sort") [.ref s1.heap.objs.size]) (fun _ s'=>Q (.ref s1.heap.objs.size) s') E {s1 with heap:=s1.heap.push (seqObj "list" vs.toArray 0)}) E s):
  wpAny (model prog w) A (call (.builtin "sorted") [x]) Q E s:=by
 refine Calls.call_function_entry kind_sorted plain_sorted entry_sorted (args_sorted1 _) ?_
 unfold Builtin.«sorted»
 refine wpAny_bind (m:=checkCount "sorted" 1 1 _) (wpAny_pure (wpAny_bind (wpAny_mono h (fun vs s1 hq=> ?_) fun _ _ z=>z)))
 refine wpAny_bind (wpAny_newList ?_ (by have:=hq.1;rw[sizeLine_eq];omega))
 refine wpAny_bind (wpAny_holding (wpAny_mono hq.2 (fun _ s' x=> ?_) fun _ _ e=>e))
 exact wpAny_pure ⟨_,rfl,x⟩
end
section
variable{X:Cx}
end
end L2
namespace L2
open PySem PySem.Spec PyProof.Rows PySem.W
theorem Df{es:Array (Int×Value)}{t:SetTable}(T:TabOk es t)(h:Int)(x:Value)(hn:(es.size+1)*5<t.mask*3):
  ∃es' t',layNew t es h x=(es',t',false,false)/\TabOk es' t'/\t'.led=t.led/\es'.toList.Perm ((h,x)::es.toList)/\t'.tooFull=false:=by
 obtain⟨j,h1,hs,h3⟩:=uU (hashAt:=fun _=>h+1) (h:=h) T.mask T.KH T.le (fun i hi=>by
  show(h+1==h)=false
  rw[beq_eq_false_iff_ne];omega)
 have ef:t.freeSlot h=some (j,false):=by
  unfold SetTable.freeSlot
  rw[h3]
  rfl
 have hd:(if SetTable.has t.dummies j then SetTable.eraseAt t.dummies (SetTable.below t.dummies j)else t.dummies)= #[]:=by
  rw[T.KH]
  rw[if_neg]
  unfold SetTable.has
  simp
 have P8:t.put j=({t with place:=SetTable.insertAt t.place (SetTable.below t.place j) j,dummies:= #[]},SetTable.below t.place j):=by
  unfold SetTable.put
  simp only[hd]
 have hsl:t.place[SetTable.below t.place j]? ≠some j:=by
  rcases iD T.KH j with⟨_,z⟩|⟨i,z,_⟩
  ·exact z
  ·rw[hs]at z;cases z
 obtain⟨u1,u2⟩:=pz T.Bw hsl
 have i1:=j1 t.place (SetTable.below t.place j) j
 have i2:=j1 es (SetTable.below t.place j) (h,x)
 have i3:=j0 es (SetTable.below t.place j) (h,x)
 have sz:=T.sz
 have fr:=T.free
 have F4:({t with place:=SetTable.insertAt t.place (SetTable.below t.place j) j,dummies:= #[]}:SetTable).fill=es.size+1:=by
  unfold SetTable.fill
  simp[i1,sz]
 have q1:TabOk (SetTable.insertAt es (SetTable.below t.place j) (h,x)) {t with place:=SetTable.insertAt t.place (SetTable.below t.place j) j,dummies:= #[]}:=
  ⟨T.mask,rfl,by show(SetTable.insertAt t.place _ j).size=_;rw[i1,i2,sz],u1,T.plain,by show(SetTable.insertAt t.place _ j).size*5<_;rw[i1,sz];exact hn⟩
 have q3:({t with place:=SetTable.insertAt t.place (SetTable.below t.place j) j,dummies:= #[]}:SetTable).tooFull=false:=by
  unfold SetTable.tooFull
  rw[F4]
  exact decide_eq_false (by show ¬(es.size+1)*5>=t.mask*3;omega)
 refine⟨_,_,?_,q1,rfl,i3,q3⟩
 unfold layNew
 rw[ef]
 dsimp only
 rw[P8]
 dsimp only
 unfold SetTable.orStandIn
 rw[q1.fits]
 rfl
section
variable{prog:Program}{w:World}{A:Around}{E:Value->Shared->Prop}{s:Shared}
theorem add_int{a:Addr}{n:Int}{x:Value}{es:Array (Int×Value)}{ep:Nat}{t:SetTable}{Q:Bool->Shared->Prop}(ho:s.heap.get? a=some (fC es ep t))(T:TabOk es t)(hel:ElemsOf (intKind prog w) es.toList)
  (hx:(intKind prog w).is n x=true)(hsc:x.scannable=true)(hfew:es.size<=40)
  (hyes:(∃e∈es.toList,(intKind prog w).is n e.2=true)->Q false s)
  (hno:(∀e∈es.toList,(intKind prog w).is n e.2=false)->es.size+1<=4/\ ∀h' es' EG t',Heap.SameBut a s.heap h'->h'.get? a=some (fC es' EG t')->TabOk es' t'->t'.led=t.led->es'.toList.Perm (((intKind prog w).hash n,x)::es.toList)->Q true {s with heap:=h'}):
  wpAny (model prog w) A (setAddHashed a x ((intKind prog w).hash n)) Q E s:=by
 have hb:es.size<scanBound:=by show es.size<4096;omega
 unfold setAddHashed setAddHashedIn
 refine wpAny_holding (wpAny_bind (wpAny_setState_of ho rfl T.fits ?_))
 dsimp only
 rw[byScan_of hsc hb hel]
 simp only[↓reduceIte]
 unfold setAddByScan
 refine wpAny_bind ?_
 refine wpAny_bind (wpAny_rule ?_)
 refine wpAny_bind (wpAny_setScan_of hx ho rfl T.fits hel ?_)
 cases hr:List.findIdx? (fun e=>(intKind prog w).is n e.2) es.toList with
 |some j=>
  dsimp only
  obtain⟨hj,QZ,_⟩:=List.findIdx?_eq_some_iff_getElem.mp hr
  exact wpAny_pure (wpAny_pure (hyes ⟨es.toList[j],List.getElem_mem hj,QZ⟩))
 |none=>
  dsimp only
  obtain⟨h4,hq⟩:=hno fun e he=>by simpa using List.findIdx?_eq_none_iff.mp hr e he
  have hm:(es.size+1)*5<t.mask*3:=by
   rcases T.mask with z|z|z<;>rw[z]<;>omega
  obtain⟨es',t',e1,q1,q2,q3,q4⟩:=Df T ((intKind prog w).hash n) x hm
  rw[e1]
  dsimp only
  refine wpAny_bind (wpAny_pure ?_)
  rw[q1.plain]
  simp only[if_true]
  have pk:plainKind x=true:=by obtain⟨tk,rfl⟩:=Value.isInt_shape hx;rfl
  rw[hashByValue_scannable 8 hsc,pk]
  refine wpAny_bind (wpAny_pure ?_)
  simp only[if_true]
  have l3:=q3.length_eq
  rw[List.length_cons,Array.length_toList,Array.length_toList]at l3
  refine wpAny_bind (wpAny_storeSet_of ho rfl ?_ (by rw[sizeLine_eq];omega))
  rw[q4]
  simp only[Bool.not_false,Bool.and_false,Bool.false_eq_true,if_false]
  refine wpAny_pure (wpAny_pure ?_)
  have hg:(s.heap.update a (Obj.putSet es' t')).get? a=some (fC es' (ep+1) t'):=Heap.get?_update_self _ ho rfl
  exact hq _ es' (ep+1) t' (Heap.SameBut.update s.heap a _) hg q1 q2 q3
end
end L2
namespace L2
open PySem PySem.Spec PyProof.Rows PySem.W
def CA(prog:Program)(w:World)(h:Heap)(S:Addr)(vs:List Value):Prop:= ∃es ep t,h.get? S=some (fC es ep t)/\TabOk es t/\t.led=(!w.params.followText "set-order")/\ElemsOf (intKind prog w) es.toList/\(es.toList.map (·.2)).Perm vs
theorem CA.keep{prog:Program}{w:World}{h h':Heap}{S:Addr}{l:List Value}(H:CA prog w h S l)(k: ∀o,h.get? S=some o->h'.get? S=some o):CA prog w h' S l:=
 let⟨es,ep,t,h1,h2⟩:=H;⟨es,ep,t,k _ h1,h2⟩
def gW(prog:Program)(w:World)(h:Heap)(S:Addr)(ms:List Int):Prop:= ∃vs ns,CA prog w h S vs/\IntsAre vs ns/\ns.Nodup/\ ∀k,k∈ns↔k∈ms
theorem gW.keep{prog:Program}{w:World}{h h':Heap}{S:Addr}{l:List Int}(H:gW prog w h S l)(k: ∀o,h.get? S=some o->h'.get? S=some o):gW prog w h' S l:=
 let⟨vs,ns,h1,h2⟩:=H;⟨vs,ns,h1.keep k,h2⟩
theorem ints_get: ∀ {vs:List Value} {ns:List Int} {i:Nat} {v:Value},IntsAre vs ns->vs[i]? =some v-> ∃m t,ns[i]? =some m/\v= .int m t
 |_,_,0,v,.cons n t r,h=>by cases h;exact⟨n,t,rfl,rfl⟩
 |_,_,i+1,v,.cons n t r,h=>by
  obtain⟨m,t',e1,e2⟩:=ints_get r (show _=some v by simpa using h)
  exact⟨m,t',by simpa using e1,e2⟩
theorem rj: ∀ {vs:List Value} {ns:List Int} {v:Value} {m:Int},IntsAre vs ns->v∈vs->Value.isInt m v=true->m∈ns
 |_,_,v,m,.cons n t r,h,hi=>by
  rcases List.mem_cons.mp h with rfl|h
  ·obtain⟨t',e⟩:=Value.isInt_shape hi
   cases e
   exact List.mem_cons_self
  ·exact List.mem_cons_of_mem _ (rj r h hi)
theorem ints_of: ∀ {vs:List Value} {ns:List Int} {m:Int},IntsAre vs ns->m∈ns-> ∃v∈vs,Value.isInt m v=true
 |_,_,m,.cons n t r,h=>by
  rcases List.mem_cons.mp h with rfl|h
  ·exact⟨_,List.mem_cons_self,by simp[Value.isInt]⟩
  ·obtain⟨v,h1,h2⟩:=ints_of r h
   exact⟨v,List.mem_cons_of_mem _ h1,h2⟩
section
variable{prog:Program}{w:World}{A:Around}{R:Result->Shared->Prop}{I:Addr}{fp wr:List Addr}{G:Array GenState->Array GenState->Prop}{P:Nat->Value->Prop}{St:Nat->Shared->Prop}{ms:List Int}
theorem xT(W:WalksS prog w A.in1 I fp wr G ms.length P St)(S:Addr)(hSf:S∉fp)(hval: ∀i v,P i v-> ∃m t,ms[i]? =some m/\v= .int m t)
  (hfew: ∀ns:List Int,ns.Nodup->(∀k∈ns,k∈ms)->ns.length<=4):
  ∀ (k i:Nat) (s:Shared),ms.length-i=k->i<=ms.length->St i s->gW prog w s.heap S (ms.take i)->
   (∀s',Moved (S::wr) G s s'->gW prog w s'.heap S ms->R (.ok (.ret .none)) s')->
   codeAny (model prog w) A (.builtin "set.update.loop" ⟨[.ref S,.ref I],[]⟩) R s:=by
 have Oa:S∉wr:=fun h=>hSf (W.sub _ h)
 have hsub: ∀b∈wr,b∈S::wr:=fun b hb=>List.mem_cons_of_mem _ hb
 intro k
 induction k with
 |zero=>
  intro i s hk hi hst hS hR
  have hin:i=ms.length:=by omega
  subst hin
  rw[List.take_length]at hS
  refine codeAny_builtin F.entry_set_update_loop ?_
  rw[Around.under_plainId F.plain_set_update_loop _]
  show wpAny _ A.in1 (pyNext (.ref I) >>=_) _ _ s
  refine wpAny_bind (W.done s _ _ hst fun s' hm=> ?_)
  show wpAny _ A.in1 (ret Value.none) _ _ s'
  exact wpAny_pure (hR s' (hm.mono hsub) (hS.keep fun o e=>hm.heap S o Oa e))
 |succ k ih=>
  intro i s hk hi hst hS hR
  have hlt:i<ms.length:=by omega
  refine codeAny_builtin F.entry_set_update_loop ?_
  rw[Around.under_plainId F.plain_set_update_loop _]
  show wpAny _ A.in1 (pyNext (.ref I) >>=_) _ _ s
  refine wpAny_bind (W.item i s _ _ hlt hst fun v s' hPv Mq hm=> ?_)
  obtain⟨m,tv,hq,rfl⟩:=hval i v hPv
  obtain⟨vs,ns,⟨es,ep,t,g1,g2,g3,g4,g5⟩,a1,a2,a3⟩:=hS.keep fun o e=>hm.heap S o Oa e
  have EH:ms.take (i+1)=ms.take i++ [m]:=by rw[List.take_add_one,hq];rfl
  have JB: ∀k∈ns,k∈ms:=fun k hk=>List.mem_of_mem_take ((a3 k).mp hk)
  have lens:es.size=ns.length:=by
   have:=g5.length_eq
   rw[List.length_map,Array.length_toList]at this
   rw[this];exact IntsAre.length a1
  have h4:=hfew ns a2 JB
  show wpAny _ A.in1 (holding [Value.int m tv] (setAdd S (.int m tv)) >>=_) _ _ s'
  refine wpAny_bind (wpAny_holding ?_)
  unfold setAdd
  refine wpAny_holding ?_
  have hx:(intKind prog w).is m (Value.int m tv)=true:=by show Value.isInt m (.int m tv)=true;simp[Value.isInt]
  refine wpAny_bind ((intKind prog w).pyHash hx ?_)
  have key: ∀ (h':Heap),Heap.SameBut S s'.heap h'->gW prog w h' S (ms.take (i+1))->codeAny (model prog w) A (.builtin "set.update.loop" ⟨[.ref S,.ref I],[]⟩) R {s' with heap:=h',toks:=s'.toks+1}:=fun h' k1 Qr=>by
   refine ih (i+1) _ (by omega) hlt (W.frame _ s' _ _ Mq (Nat.le_add_right _ _) fun b hb o e=> ?_) Qr fun s'' FW LX=> ?_
   ·rw[k1.2 b (fun h:b=S=>hSf (by rw[<-h];exact hb))];exact e
   ·refine hR s'' (Moved.trans W.gtrans ((hm.mono hsub).then_heap (Nat.le_add_right _ _) fun b o hb e=> ?_) FW) LX
    rw[k1.2 b (fun h:b=S=>hb (by rw[h];exact List.mem_cons_self))];exact e
  refine add_int (s:= {s' with toks:=s'.toks+1}) g1 g2 g4 hx rfl (by omega) (fun hy=> ?_) (fun hno=> ?_)
  ·refine wpAny_pure ⟨plainId_quiet F.plain_set_update_loop _,key s'.heap (Heap.SameBut.refl S s'.heap) ⟨vs,ns,⟨es,ep,t,g1,g2,g3,g4,g5⟩,a1,a2,fun k=> ?_⟩⟩
   obtain⟨e,he,hi'⟩:=hy
   have hm':m∈ns:=rj a1 (g5.mem_iff.mp (List.mem_map.mpr ⟨e,he,rfl⟩)) hi'
   rw[EH,List.mem_append,List.mem_singleton,<-a3 k]
   exact⟨.inl,fun z=>z.elim id fun z=>by rw[z];exact hm'⟩
  ·have hn':m∉ns:=fun z=>by
    obtain⟨v,hv,hi'⟩:=ints_of a1 z
    obtain⟨e,he,rfl⟩:=List.mem_map.mp (g5.mem_iff.mpr hv)
    have:=hno e he
    have hi2:(intKind prog w).is m e.2=true:=hi'
    rw[hi2]at this;cases this
   have nd:(m::ns).Nodup:=List.nodup_cons.mpr ⟨hn',a2⟩
   have QT:m∈ms:=List.mem_of_getElem? hq
   have l4:=hfew (m::ns) nd fun k hk=>(List.mem_cons.mp hk).elim (fun z=>by rw[z];exact QT) (JB k)
   rw[List.length_cons]at l4
   refine⟨by omega,fun h' es' EG t' k1 k2 k3 k4 k5=> ?_⟩
   refine wpAny_pure ⟨plainId_quiet F.plain_set_update_loop _,key h' k1 ⟨.int m tv::vs,m::ns,⟨es',EG,t',k2,k3,k4.trans g3,fun e he=> ?_,?_⟩,.cons m tv a1,nd,fun k=> ?_⟩⟩
   ·rcases List.mem_cons.mp (k5.mem_iff.mp he)with rfl|he
    ·exact⟨⟨m,hx,rfl⟩,rfl⟩
    ·exact g4 e he
   ·exact(k5.map (·.2)).trans (List.Perm.cons _ g5)
   ·rw[EH,List.mem_append,List.mem_singleton,List.mem_cons,<-a3 k]
    exact Or.comm
end
section
variable{prog:Program}{w:World}{A:Around}{E:Value->Shared->Prop}{s:Shared}
theorem mQ{l:Addr}{items:Array Value}{ms:List Int}{Q:Value->Shared->Prop}
  (hh:A.handled=none)(hl:s.heap.IsList l items)(hit:IntsAre items.toList ms)
  (hfew: ∀ns:List Int,ns.Nodup->(∀k∈ns,k∈ms)->ns.length<=4)
  (h: ∀ (h':Heap) (tk:Nat),gW prog w h' s.heap.objs.size ms->
   (∀b o,b<s.heap.objs.size->s.heap.get? b=some o->h'.get? b=some o)->Q (.ref s.heap.objs.size) {s with heap:=h',toks:=tk}):
  wpAny (model prog w) A (call (.type "set") [.ref l]) Q E s:=by
 obtain⟨c,tl,QU⟩:=F.called_set.mro
 have hmade:=F.called_set.made
 have hsub:=F.called_set.sub
 refine wpAny_call (codeAny_of_tree ?_)
 show wpAny _ _ (callAny (.type "set") _) _ _ _
 refine wpAny_pure ⟨Code.quiet_builtin _ (by decide+kernel),codeAny_builtin F.entry_type_call ?_⟩
 rw[Around.under_plain (weight_type_call_type "set" [.ref l] []) rfl]
 have h1:=F.called_set.notType
 have h2:=F.called_set.canCreate
 have hct:=F.typeCall_set_1 (.ref l)
 repeat (any_goals (first|assumption|wp_step))
 refine codeAny_mono (code_set_new (.ref l) (E:=E) (Q₁:=fun obj s₁=>obj= .ref s.heap.objs.size/\s₁= {s with heap:=s.heap.push (fC #[] 0 (.fresh 0 0 (!w.params.followText "set-order")))}) ⟨rfl,rfl⟩) fun r s₁ hr=> ?_
 generalize hob:fC #[] 0 (.fresh 0 0 (!w.params.followText "set-order"))=ob at hr
 have hcls:ob.cls= .type "set":=by rw[<-hob];rfl
 cases r with
 |error e=>exact hr
 |ok fl=>
  cases fl with
  |ret obj=>
   obtain⟨rfl,rfl⟩:=hr
   have hS:(s.heap.push ob).get? s.heap.objs.size=some ob:=Heap.get?_push_size _ (by rw[<-hob];rfl)
   have hT:Shared.TypeIs {s with heap:=s.heap.push ob} (.ref s.heap.objs.size) "set":=⟨_,hS,hcls⟩
   have hli:=F.called_set.init.lookup
   have hbi:=F.called_set.init.bind (.ref s.heap.objs.size)
   repeat (any_goals (first|assumption|wp_step))
   refine codeAny_mono (codeAny_call_builtin (R:=wants (fun r s₂=>r= .none/\ ∃h' tk,s₂= {s with heap:=h',toks:=tk}/\
     gW prog w h' s.heap.objs.size ms/\
     (∀b o,b<s.heap.objs.size->s.heap.get? b=some o->h'.get? b=some o)) E) F.called_set.init.plain F.entry_set_init (check_set_init_1 hT ?_)) fun r₂ s₂ Ak=> ?_
   ·obtain⟨ol,HY,hcl,nl,hdl⟩:=hl
    obtain⟨RZ,JR,OG,GG⟩:=ol
    simp only at hcl hdl
    subst hcl;subst hdl
    have Mc:(s.heap.push ob).get? l=some {cls:= .type "list",dict:=JR,data:= .seq items nl,slots:=GG}:=Heap.get?_push_of_some _ HY
    have Q6:=F.sub_list_set
    have Q5:=F.sub_list_frozenset
    have hne:(Value.type "list"==Value.type "dict")=false:=by decide
    have hl1:(s.heap.push ob).IsList l items:=⟨_,Mc,rfl,nl,rfl⟩
    unfold Builtin.«set.__init__» noKeywords Builtin.Frozenset.updateFrom
    generalize Qp:pyIter=PI
    subst hob
    unfold fC at*
    wp_walk
    subst Qp
    refine wpAny_pyIter_list hl1 ?_
    refine wpAny_bind (wpAny_runValue ?_)
    have hlS:l<s.heap.objs.size:=Heap.lt_size HY
    have QH:A.in1.in1.in1.handled=none:=by simp[hh]
    have hsz:(s.heap.push (fC #[] 0 (.fresh 0 0 (!w.params.followText "set-order")))).objs.size=s.heap.objs.size+1:=by rw[Heap.size_push]
    have L7:l≠(s.heap.push (fC #[] 0 (.fresh 0 0 (!w.params.followText "set-order")))).objs.size:=by
     rw[hsz];exact Nat.ne_of_lt (Nat.lt_succ_of_lt hlS)
    have hSf:s.heap.objs.size∉ [(s.heap.push (fC #[] 0 (.fresh 0 0 (!w.params.followText "set-order")))).objs.size,l]:=by
     rw[hsz];simp only[List.mem_cons,List.mem_singleton,List.not_mem_nil,or_false,not_or]
     exact⟨Nat.ne_of_lt (Nat.lt_succ_self _),Nat.ne_of_gt hlS⟩
    have hsi:items.size=ms.length:=by rw[<-Array.length_toList];exact IntsAre.length hit
    have hval: ∀ (i:Nat) (v:Value),items[i]? =some v-> ∃m t,ms[i]? =some m/\v= .int m t:=fun i v hv=>by
     rw[<-Array.getElem?_toList]at hv
     exact ints_get hit hv
    have W:=(Walks.list (prog:=prog) (w:=w) QH (s.heap.push (fC #[] 0 (.fresh 0 0 (!w.params.followText "set-order")))).objs.size l L7 items).toS
    rw[hsi]at W
    refine xT W s.heap.objs.size hSf hval hfew (ms.length-0) 0 _ rfl (Nat.zero_le _)
     ⟨⟨_,Heap.get?_push_size _ rfl,rfl,rfl⟩,(hl1.push _)⟩ ?Qq ?hR
    case Qq=>
     exact⟨[],[],⟨#[],0,_,Heap.get?_push_of_some _ hS,yV _,rfl,fun e he=>by simp at he,List.Perm.nil⟩,.nil,List.nodup_nil,fun k=>by simp⟩
    case hR=>
     intro s' hm hS'
     obtain⟨h',g',d',tk',os'⟩:=s'
     have eg:g'=s.gens:=hm.gens
     have ed:d'=s.drawn:=hm.drawn
     have eo:os'=s.os:=hm.os
     subst eg;subst ed;subst eo
     show wpAny _ _ _ _ _ _
     refine wpAny_pure ?_
     show wpAny _ _ (ret Value.none) _ _ _
     refine wpAny_pure ⟨rfl,h',tk',rfl,hS',fun b o hb e=> ?_⟩
     have hb1:b≠s.heap.objs.size:=Nat.ne_of_lt hb
     have hb2:b≠(s.heap.push (fC #[] 0 (.fresh 0 0 (!w.params.followText "set-order")))).objs.size:=by
      rw[hsz];exact Nat.ne_of_lt (Nat.lt_succ_of_lt hb)
     exact hm.heap b o (by simp only[List.mem_cons,List.mem_singleton,List.not_mem_nil,or_false,not_or];exact⟨hb1,hb2⟩) (Heap.get?_push_of_some _ (Heap.get?_push_of_some _ e))
   ·cases r₂ with
    |error e=>exact Ak
    |ok IM=>
     cases IM with
     |ret r=>
      obtain⟨rfl,h',tk,rfl,hS',hk'⟩:=Ak
      repeat (any_goals (first|assumption|wp_step))
      exact h _ _ hS' hk'
     |_=>exact Ak.elim
  |_=>exact hr.elim
end
end L2
namespace L2
open PySem PySem.Spec PyProof.Rows
theorem lG: ∀ {ns:List Int} {us:List Value},Vals (ns.map V.int) us->IntsAre us ns
 | [],us,r=>by cases r;exact .nil
 |n::ns,us,r=>by
  rw[List.map_cons]at r
  cases r with
  |cons r1 r2=>
   obtain⟨t,rfl⟩:=r1
   exact .cons n t (lG r2)
section
variable{X:Cx}
theorem nA(hc:X.calm=true):dc X (.builtin "max") (fun xs H Q=> ∃ (a:Addr) (ns:List Int),xs= [.ref a]/\aN X.K H a (ns.map V.int)/\ns≠ []/\ ∀M,M∈ns->(∀a∈ns,a<=M)->Q (.int M) H):=by
 intro pins s σ H xs us Q I r h
 obtain⟨a,ns,rfl,hq,hne,q⟩:=h
 obtain⟨u,rfl,ru⟩:=vals1 r
 cases ru
 obtain⟨its,rv,pl,hz⟩:=I.list hq
 have hi:=lG rv
 obtain⟨xs,e⟩:=hi.allInts.items
 have hns:ns=xs.toList.map (·.1):=by
  rw[<-hi.numsOf,<-nums_intItems,<-e]
 have hsz:0<xs.size:=by
  have h3:0<ns.length:=List.length_pos_iff.mpr hne
  rw[hns,List.length_map,Array.length_toList]at h3;exact h3
 have hl:=pl.isList
 rw[e]at hl
 refine max_intList (I.ok.hd hc) hl hsz fun v h' tk hv hk=> ?_
 obtain⟨t,rfl⟩:=intItems_at hv
 obtain⟨h1,h2⟩:=argBest_gt (numAt xs) (xs.size-1)
 refine⟨.int _,H,I.kept hk,⟨_,rfl⟩,q _ ?_ fun a ha=> ?_⟩
 ·rw[hns,numAt_eq];exact getD_mem (by rw[List.length_map,Array.length_toList];omega)
 ·rw[hns]at ha
  obtain⟨j,hj,rfl⟩:=mem_getD ha
  rw[List.length_map,Array.length_toList]at hj
  rw[<-numAt_eq];exact h2 j (by omega)
end
end L2
namespace L2
open PySem PySem.Spec PyProof.Rows PySem.W K2
def ot(P:Program)(w:World)(S:Addr)(ms:List Int):HO:= .ext fun h=>gW P w h S ms
inductive E2(P:Program)(w:World)(K:PySem.W.Frag)(xs:List V)(H:Hp)(Q:VK):Prop
 |mk (p:Addr) (ms:List Int) (_:xs= [.ref p]) (_:aN K H p (ms.map V.int)) (_: ∀ns:List Int,ns.Nodup->(∀k∈ns,k∈ms)->ns.length<=4) (_: ∀S,H S=none->Q (.ref S) (upd H S (ot P w S ms)))
inductive Bq(P:Program)(w:World)(xs:List V)(H:Hp)(Q:VK):Prop
 |mk (S:Addr) (ms:List Int) (_:xs= [.ref S]) (_:H S=some (ot P w S ms)) (_: ∀ns:List Int,ns.Nodup->(∀k∈ns,k∈ms)->ns.length<=4) (_: ∀ (l:Addr) (ns:List Int),H l=none->ns.Nodup->ns.Pairwise (· <= ·)->(∀k,k∈ns↔k∈ms)->Q (.ref l) (upd H l (.lst (ns.map V.int))))
theorem mL: ∀ {us:List Value} {ns:List Int},IntsAre us ns->Vals (ns.map V.int) us
 |_,_,.nil=> .nil
 |_,_,.cons n t r=> .cons ⟨t,rfl⟩ (mL r)
theorem xI{us us':List Value}(h:us.Perm us'): ∀ {ns':List Int},IntsAre us' ns'-> ∃ns,ns.Perm ns'/\IntsAre us ns:=by
 induction h with
 |nil=>intro ns' r;exact⟨ns',List.Perm.refl _,r⟩
 |cons x p ih=>
  intro ns' r
  cases r with
  |cons n t r=>
   obtain⟨ns,h1,h2⟩:=ih r
   exact⟨n::ns,h1.cons n,.cons n t h2⟩
 |swap x y l=>
  intro ns' r
  cases r with
  |cons n t r=>
   cases r with
   |cons m u r=>exact⟨_,List.Perm.swap n m _,.cons m u (.cons n t r)⟩
 |trans _ _ i1 i2=>
  intro ns' r
  obtain⟨ns,h1,h2⟩:=i2 r
  obtain⟨ms,h3,h4⟩:=i1 h2
  exact⟨ms,h3.trans h1,h4⟩
section
variable{X:Cx}
theorem xl(hc:X.calm=true):dc X (.type "set") (E2 X.prog X.w X.K):=by
 intro pins s σ H xs us Q I r h
 obtain⟨p,ms,rfl,hq,hfew,q⟩:=h
 obtain⟨u,rfl,ru⟩:=vals1 r
 cases ru
 obtain⟨its,ri,pl,hz⟩:=I.list hq
 refine mQ (ms:=ms) (I.ok.hd hc) pl.isList (lG ri) hfew fun h' tk hS kp=> ?_
 have there: ∃o,h'.get? s.heap.objs.size=some o:=by
  obtain⟨vs,ns,⟨es,ep,t,g1,_⟩,_⟩:=hS
  exact⟨_,g1⟩
 refine⟨.ref s.heap.objs.size,_,I.laid (a:=s.heap.objs.size) (o:=ot X.prog X.w s.heap.objs.size ms) (t':=tk) (fun b o e=>kp b o (Heap.lt_size e) e) (Nat.le_refl _) ⟨hS,there,?_⟩,rfl,q _ (I.hok.fresh (Nat.le_refl _))⟩
 intro h1 h2 hs k
 exact gW.keep hs fun o e=>k _ e
theorem tP(hc:X.calm=true):dc X (.builtin "sorted") (Bq X.prog X.w):=by
 intro pins s σ H xs us Q I r h
 obtain⟨S,ms,rfl,hS,hfew,q⟩:=h
 obtain⟨u,rfl,ru⟩:=vals1 r
 cases ru
 obtain⟨⟨vs,ns,⟨es,ep,t,g1,g2,g3,g4,g5⟩,a1,a2,a3⟩,_⟩:=I.hok S _ hS
 have h4:=hfew ns a2 fun k hk=>(a3 k).mp hk
 have ln:es.size=ns.length:=by
  have h1:=g5.length_eq
  rw[List.length_map,Array.length_toList]at h1
  rw[h1];exact IntsAre.length a1
 refine sI (kdu_collect (A:=X.A.in1) (Ef X.prog X.w S (ep:=ep) g2 g3) (show X.A.in1.handled=none from I.ok.hd hc) g1 (by rw[sizeLine_eq];omega) fun h' tk acc kp it=> ?_)
 have I1:Inv X pins σ H {s with heap:=h',toks:=tk}:=I.kept kp
 have ea:acc.toList=(db X.w S es ep).toList.map (·.2):=by
  apply List.ext_getElem?
  intro i
  rw[List.getElem?_map,Array.getElem?_toList,Array.getElem?_toList]
  by_cases hi:i<acc.size
  ·have e1:acc[i]? =some acc[i]:=by simp[hi]
   rw[e1]
   exact(it.2 i _ e1).symm
  ·have h1:=it.1
   have h2:=jU X.w S es ep
   rw[Array.getElem?_eq_none (by omega),Array.getElem?_eq_none (by omega)];rfl
 have pa:acc.toList.Perm vs:=by rw[ea];exact((oP X.w S es ep).map _).trans g5
 obtain⟨SR,p1,b1⟩:=xI pa a1
 have al:acc.toList.length<64:=by rw[Array.length_toList,it.1];omega
 refine⟨al,?_⟩
 have o1:(h'.push (seqObj "list" acc.toList.toArray 0)).get? h'.objs.size=some (seqObj "list" acc.toList.toArray 0):=Heap.get?_push_size _ rfl
 refine wpAny_call_entry slot_list_sort ⟨_,o1,rfl⟩ entry_list_sort (list_sort_tree (s:= {s with heap:=h'.push (seqObj "list" acc.toList.toArray 0),toks:=tk}) o1 b1 al fun out ns' c1 c2 c3=>⟨_,rfl,?_⟩) (args_list_sort _)
 obtain⟨e,he⟩:=sortedHeap_at (out:=out) o1
 have lo:ns'.length<=4:=by rw[c2.length_eq,p1.length_eq];exact h4
 refine⟨.ref h'.objs.size,_,I1.laid (a:=h'.objs.size) (o:= .lst (ns'.map V.int)) (t':=tk) (fun b o hb=> ?_) (Nat.le_refl _) ⟨by rw[List.length_map,sizeLine_eq];omega,out.toList,e,mL c1,he⟩,rfl,?_⟩
 ·rw[sortedHeap_old (Nat.ne_of_lt (Heap.lt_size hb)) (by rw[size_push'];exact Nat.lt_succ_of_lt (Heap.lt_size hb))]
  exact Heap.get?_push_of_some _ hb
 ·have pp:=c2.trans p1
  exact q _ ns' (I1.hok.fresh (Nat.le_refl _)) (pp.nodup_iff.mpr a2) c3 fun k=>(pp.mem_iff).trans (a3 k)
end
end L2
namespace L2
open PySem PySem.Spec PyProof.Rows
def Cx.masked(X:Cx)(j:Nat)(d:Str):Cx:= {X with N:=X.N.set j d}
section
variable{X:Cx}{j:Nat}{d:Str}{pins:List (Addr×Obj)}{σ:St}{H:Hp}{s:Shared}
theorem Inv.mask(I:Inv X pins σ H s):Inv (X.masked j d) pins (σ.set j none) H s:=by
 refine⟨⟨I.ok.mod,I.ok.kind,I.ok.glob,I.ok.blt,I.ok.above,I.ok.inj,I.ok.has,I.ok.Fx,I.ok.hd,I.ok.frames,I.ok.stk,I.ok.zf,I.ok.bs,I.ok.zy,I.ok.uG,I.ok.mS,I.ok.iY,I.ok.CN⟩,I.os,I.bare,I.base,?_,I.cell,I.free,I.cQ,I.pin,I.hok,?_⟩
 ·obtain⟨m,h1,h2⟩:=I.loc
  refine⟨m,h1,fun i x v e1 e2 vis=> ?_⟩
  by_cases hij:j=i
  ·subst hij
   rw[List.getElem?_set]at e2
   simp at e2
  ·have FC:(X.N.set j d)[i]? =some x:=e1
   rw[List.getElem?_set_ne hij]at FC e2
   exact h2 i x v FC e2 vis
 ·show(σ.set j none).length=(X.N.set j d).length
  rw[List.length_set,List.length_set];exact I.len
theorem Inv.qr(I:Inv (X.masked j d) pins σ H s):Inv X pins (σ.set j none) H s:=by
 refine⟨⟨I.ok.mod,I.ok.kind,I.ok.glob,I.ok.blt,I.ok.above,I.ok.inj,I.ok.has,I.ok.Fx,I.ok.hd,I.ok.frames,I.ok.stk,I.ok.zf,I.ok.bs,I.ok.zy,I.ok.uG,I.ok.mS,I.ok.iY,I.ok.CN⟩,I.os,I.bare,I.base,?_,I.cell,I.free,I.cQ,I.pin,I.hok,?_⟩
 ·obtain⟨m,h1,h2⟩:=I.loc
  refine⟨m,h1,fun i x v e1 e2 vis=> ?_⟩
  by_cases hij:j=i
  ·subst hij
   rw[List.getElem?_set]at e2
   simp at e2
  ·rw[List.getElem?_set_ne hij]at e2
   exact h2 i x v (show(X.N.set j d)[i]? =some x by rw[List.getElem?_set_ne hij];exact e1) e2 vis
 ·have:=I.len
  have e:(X.masked j d).N.length=X.N.length:=List.length_set ..
  rw[List.length_set,this,e]
theorem wE{st:Stmt}{t:TS}(h:PS (X.masked j d) st t):PS X st (fun D σ H=>t {nx:=fun σ' H'=>D.nx (σ'.set j none) H',rt:=D.rt,bk:=fun σ' H'=>D.bk (σ'.set j none) H',ct:=fun σ' H'=>D.ct (σ'.set j none) H'} (σ.set j none) H):=by
 intro pins s σ H D I q
 refine aL (h pins s _ H _ I.mask q) fun f s' hf=> ?_
 cases f with
 |next=>
  obtain⟨σ',H',I2,q2⟩:=hf
  exact⟨_,H',I2.qr,q2⟩
 |brk=>
  obtain⟨σ',H',I2,q2⟩:=hf
  exact⟨_,H',I2.qr,q2⟩
 |cont=>
  obtain⟨σ',H',I2,q2⟩:=hf
  exact⟨_,H',I2.qr,q2⟩
 |ret u=>
  obtain⟨v,σ',H',I2,r2,q2⟩:=hf
  exact⟨v,_,H',I2.qr,r2,q2⟩
end
end L2
namespace L2
open PySem PySem.Spec PyProof.Rows K2
section
variable{X:Cx}
theorem GF:gG X (compareOp .Is) (fun x y H Q=> ∃b c,x= .bl b/\y= .bl c/\Q (.bl (b==c)) H):=by
 intro pins s σ H x y v u Q I rx ry h
 obtain⟨b,c,rfl,rfl,q⟩:=h
 cases rx
 cases ry
 show wpAny _ _ (do return Value.bool (<-isSame (.bool b) (.bool c))) _ _ s
 refine wpAny_bind (wpAny_pure (wpAny_pure ⟨.bl _,H,I,rfl,?_⟩))
 have e:(Value.bool b==Value.bool c)=(b==c):=by cases b<;>cases c<;>rfl
 rw[e]
 exact q
theorem DG(hu:X.A.units+100<cLine):gG X (compareOp .NotEq) (fun x y H Q=> ∃a b xs ys ps,x= .ref a/\y= .ref b/\aN X.K H a xs/\aN X.K H b ys/\kq ps<=50/\aq H ps xs/\aq H ps ys/\Q (.bl false) H):=by
 intro pins s σ H x y v u Q I rx ry h
 obtain⟨a,b,xs,ys,ps,rfl,rfl,ha,hb,hd,r1,r2,q⟩:=h
 cases rx;cases ry
 obtain⟨i1,v1,pl,_⟩:=I.list ha
 obtain⟨i2,v2,K6,_⟩:=I.list hb
 have l1:=v1.length
 have l2:=v2.length
 have l3:=r1.len
 have l4:=r2.len
 refine PySem.SeqAt.RcNeAt.lists (e:=fun _=>true) pl.isList K6.isList (by simp only[List.size_toArray];omega) (show X.A.units<cLine by omega) (fun j h1 h2=> ?_) _ _ _ _ ⟨.bl false,H,I,?_,q⟩
 ·simp only[List.size_toArray]at h1 h2
  exact tT I ps xs ys i1 i2 X.A.in1 (by rw[in1_units];omega) r1 r2 v1 v2 j _ _ (by simp[List.getElem?_eq_getElem h1]) (by simp[List.getElem?_eq_getElem h2])
 ·have e2:((List.range i1.toArray.size).all (fun _=>true))=true:=by simp
  rw[e2];rfl
end
end L2
namespace W2
open PySem PySem.Spec PyProof.Rows K2 L2
def top(i:Nat):Stmt:=PySem.Challenge.pw_wildtakes_k60_whole_alls.main.body.getD i (.Pass ⟨0,0,0,0⟩)
abbrev vh:Stmt:=top 29
abbrev BG:Stmt:=top 30
abbrev qa:Stmt:=top 31
abbrev DY:Stmt:=top 32
abbrev vg:Stmt:=top 33
abbrev BJ:Stmt:=top 34
abbrev G7:Stmt:=top 36
abbrev BE:Stmt:=top 37
abbrev D0:Stmt:=top 38
abbrev kI:Stmt:=top 39
abbrev u9:Stmt:=top 40
abbrev jo:Stmt:=top 41
abbrev u8:Stmt:=top 42
structure Tx(mg:Str->Option Value):Prop where
 Am:mg "isinstance"=none
 int:mg "int"=none
 bool:mg "bool"=none
 str:mg "str"=none
 len:mg "len"=none
 all:mg "all"=none
 tuple:mg "tuple"=none
 zip:mg "zip"=none
 enum:mg "enumerate"=none
 range:mg "range"=none
 list:mg "list"=none
 SN:mg "LookupError"=none
 Dg: ∃t,mg "LETTERS"=some (.str "abcdefghijklmnopqrstuvwxyz" t)
 MA: ∃t,mg "LONGEST_BOX"=some (.int 3 t)
 Jm: ∃t,mg "HIGHEST_MARK"=some (.int 9 t)
 hnum: ∃t,mg "HIGHEST_NUMBER"=some (.int 1000000 t)
 Gh: ∃t,mg "LEAST_HANDS"=some (.int 2 t)
 Gs: ∃t,mg "MOST_HANDS"=some (.int 5 t)
 EZ: ∃t,mg "MOST_ROWS"=some (.int 40 t)
section
variable{P:Program}{w:World}{K:PySem.W.Frag}{mg:Str->Option Value}{base:Heap}
theorem k_same(t:String):PySem.W.kitOne K (.type t) (.type t)=some true:=by unfold PySem.W.kitOne;rw[if_pos (by simp)]
theorem lJ:PySem.W.kitOne K (.type "int") (.type "bool")=some false:=rfl
theorem rC:PySem.W.kitOne K (.type "tuple") (.type "int")=some false:=rfl
theorem xM:PySem.W.kitOne K (.type "str") (.type "int")=some false:=rfl
theorem ul:PySem.W.kitOne K (.type "NoneType") (.type "int")=some false:=rfl
theorem j3:PySem.W.kitOne K (.type "tuple") (.type "str")=some false:=rfl
theorem jC:PySem.W.kitOne K (.type "int") (.type "str")=some false:=rfl
theorem lK:PySem.W.kitOne K (.type "NoneType") (.type "str")=some false:=rfl
theorem eQ:PySem.W.kitOne K (.type "int") (.type "tuple")=some false:=rfl
theorem eS:PySem.W.kitOne K (.type "str") (.type "tuple")=some false:=rfl
theorem dN:PySem.W.kitOne K (.type "NoneType") (.type "tuple")=some false:=rfl
def isWhole:PV->Bool
 | .at (.int _)=>true
 |_=>false
inductive B0(f:PV->Bool)(vs:List V)(H:Hp)(Q:VK)(fG:XK):Prop
 |mk (p v:_) (_:vs= [v]) (_:Rep H p v) (_: ∀H',aw H H'->Q (.bl (f p)) H')
theorem eY{f:PV->Bool}(vs:List V)(H:Hp)(Q:VK)(E:XK)(h:B0 f vs H Q E):vs.length=1:=by obtain⟨p,v,rfl,_⟩:=h;rfl
theorem Ea:av ["thing"] ["thing"] (am vh):=⟨rfl,rfl,rfl,by decide+kernel,rfl,by decide+kernel,by decide+kernel⟩
theorem AU{f:Addr}{fd:FuncData}(F:cE K "is_whole" "is_whole" vh f fd)(T:Tx mg):aI P w K mg base br 1 f fd ["thing"] (B0 isWhole):=by
 refine F.ok Ea eY (fun cdv A outer s H vs Q E hr h=> ?_)
 obtain⟨p,v,rfl,rp,q⟩:=h
 refine⟨_,ap (aE (iu (aA cf rfl T.Am boot_isinstance (aa (pv 0) (aa (cM rfl T.int boot_int (v:= .ty "int") rfl) af)))
  (fg (Ba (aA cf rfl T.Am boot_isinstance (aa (pv 0) (aa (cM rfl T.bool boot_bool (v:= .ty "bool") rfl) af))))))),?_⟩
 obtain⟨t,ty,c⟩:=rp.ty (K:=K)
 have fin:=q H (aw.refl H)
 rcases c with⟨xs,rfl,rfl⟩|⟨i,rfl,rfl⟩|⟨x,rfl,rfl⟩|⟨rfl,rfl⟩
 ·exact⟨_,rfl,_,_,_,_,_,rfl,ty,fun u z=>z,rC,_,rfl,bO fin⟩
 ·exact⟨_,rfl,_,_,_,_,_,rfl,ty,fun u z=>z,k_same _,_,rfl,ce ⟨_,rfl,_,_,_,_,_,rfl,ty,fun u z=>z,lJ,_,rfl,fin⟩⟩
 ·exact⟨_,rfl,_,_,_,_,_,rfl,ty,fun u z=>z,xM,_,rfl,bO fin⟩
 ·exact⟨_,rfl,_,_,_,_,_,rfl,ty,fun u z=>z,ul,_,rfl,bO fin⟩
abbrev jv(P:Program)(w:World)(K:PySem.W.Frag)(mg:Str->Option Value)(base:Heap)(k:Nat)(x:Str)(f:PV->Bool):Prop:=f9 P w K mg base br k x ["thing"] (B0 f)
theorem Hd:av ["thing"] ["thing"] (am BG):=⟨rfl,rfl,rfl,by decide+kernel,rfl,by decide+kernel,by decide+kernel⟩
theorem Dx{f:Addr}{fd:FuncData}(F:cE K "is_mark" "is_mark" BG f fd)(T:Tx mg)(hw:jv P w K mg base 1 "is_whole" isWhole):aI P w K mg base br 2 f fd ["thing"] (B0 fO):=by
 refine F.ok Hd eY (fun cdv A outer s H vs Q E hr h=> ?_)
 obtain⟨p,v,rfl,rp,q⟩:=h
 obtain⟨t9,e9⟩:=T.Jm
 refine⟨_,ap (aE (iu (aF hw hr rfl aD (aa (pv 0) af)) (fg (lW gu gu au (pv 0) (cc rfl e9 (v:= .int 9) ⟨_,rfl⟩))))),?_⟩
 refine⟨_,rfl,p,v,rfl,rp,fun H' sm=>⟨_,rfl,?_⟩⟩
 have fin:=q H' sm
 cases p with
 |tup ps=>exact bO fin
 |«at» a=>
  cases a with
  |aH=>exact bO fin
  |str x=>exact bO fin
  |int i=>
   cases(show v= .int i from rp)
   refine ce ⟨_,rfl,_,_,rfl,rfl,_,rfl,bY (fun c=>⟨_,_,rfl,rfl,?_⟩) (fun c=> ?_)⟩
   ·have e:fO (.at (.int i))=decide (i<=9):=by show(decide (0<=i) &&decide (i<=9))=_;rw[c];rfl
    rw[e]at fin;exact fin
   ·have e:fO (.at (.int i))=false:=by show(decide (0<=i) &&decide (i<=9))=_;rw[Bool.eq_false_iff.mpr c];rfl
    rw[e]at fin;exact fin
theorem BU:av ["thing"] ["thing"] (am qa):=⟨rfl,rfl,rfl,by decide+kernel,rfl,by decide+kernel,by decide+kernel⟩
theorem yl{f:Addr}{fd:FuncData}(F:cE K "is_number" "is_number" qa f fd)(T:Tx mg)(hw:jv P w K mg base 1 "is_whole" isWhole):aI P w K mg base br 2 f fd ["thing"] (B0 isNumber):=by
 refine F.ok BU eY (fun cdv A outer s H vs Q E hr h=> ?_)
 obtain⟨p,v,rfl,rp,q⟩:=h
 obtain⟨t9,e9⟩:=T.hnum
 refine⟨_,ap (aE (iu (aF hw hr rfl aD (aa (pv 0) af)) (fg (lW gu gu (wB qq (cc rfl e9 (v:= .int 1000000) ⟨_,rfl⟩)) (pv 0) (cc rfl e9 (v:= .int 1000000) ⟨_,rfl⟩))))),?_⟩
 refine⟨_,rfl,p,v,rfl,rp,fun H' sm=>⟨_,rfl,?_⟩⟩
 have fin:=q H' sm
 cases p with
 |tup ps=>exact bO fin
 |«at» a=>
  cases a with
  |aH=>exact bO fin
  |str x=>exact bO fin
  |int i=>
   cases(show v= .int i from rp)
   refine ce ⟨_,rfl,_,rfl,_,_,rfl,rfl,_,rfl,bY (fun c=>⟨_,_,rfl,rfl,?_⟩) (fun c=> ?_)⟩
   ·have e:isNumber (.at (.int i))=decide (i<=1000000):=by show(decide (-1000000<=i) &&decide (i<=1000000))=_;rw[show decide (-1000000<=i)=true from c];rfl
    rw[e]at fin;exact fin
   ·have e:isNumber (.at (.int i))=false:=by show(decide (-1000000<=i) &&decide (i<=1000000))=_;rw[show decide (-1000000<=i)=false from Bool.eq_false_iff.mpr c];rfl
    rw[e]at fin;exact fin
def mT:T:= [97,98,99,100,101,102,103,104,105,106,107,108,109,110,111,112,113,114,115,116,117,118,119,120,121,122]
theorem xQ:("abcdefghijklmnopqrstuvwxyz":Str)=S mT:=by decide+kernel
theorem pE(c:Nat):mT.contains c=(decide (97<=c) &&decide (c<=122)):=by
 by_cases h:c<128
 ·have: ∀c<128,mT.contains c=(decide (97<=c) &&decide (c<=122)):=by decide+kernel
  exact this c h
 ·have e1:mT.contains c=false:=by
   rw[List.contains_eq_mem,decide_eq_false_iff_not]
   intro hm
   have: ∀x∈mT,x<128:=by decide
   exact h (this c hm)
  rw[e1,show decide (c<=122)=false from decide_eq_false (by omega),Bool.and_false]
theorem small{n:Nat}(h:n<=1000):n<=sizeLine:=Nat.le_of_lt (ou h)
theorem JM:(["sign", "thing"]:List Str).Nodup:=by decide+kernel
theorem Ki:av ["thing"] ["thing"] (am DY):=⟨rfl,rfl,rfl,by decide+kernel,rfl,by decide+kernel,by decide+kernel⟩
theorem Gz{f:Addr}{fd:FuncData}(F:cE K "is_box" "is_box" DY f fd)(T:Tx mg):aI P w K mg base br 1 f fd ["thing"] (B0 gh):=by
 refine F.ok Ki eY (fun cdv A outer s H vs Q E hr h=> ?_)
 obtain⟨p,v,rfl,rp,q⟩:=h
 obtain⟨t3,e3⟩:=T.MA
 obtain⟨tl,el⟩:=T.Dg
 refine⟨_,ag (bL (PW.pt (gy (dH (cp (aA cf rfl T.Am boot_isinstance (aa (pv 0) (aa (cM rfl T.str boot_str (v:= .ty "str") rfl) af)))))
   (gz (dH (sq gu gu au (aA oY rfl T.len PySem.boot_len (aa (pv 0) af)) (cc rfl e3 (v:= .int 3) ⟨_,rfl⟩)))))) (ap (aE fV)) aU)
  (ap (aE (aA (iV rfl) rfl T.all boot_all (aa (dP (T:= ["sign"]) (cr (am DY) ["thing"] rfl rfl (by decide+kernel)) rfl (GM (pv 0)) (fun Y hY=>by cases hY;exact aG (i:=0) JM rfl (Or.inl rfl)) bA (fun Y _=>cK)
   (fun Y hY=>by cases hY;exact dO uQ (pv 0) (cc rfl el (v:= .str "abcdefghijklmnopqrstuvwxyz") ⟨_,rfl⟩) rfl)) af)))),?_⟩
 obtain⟨t,ty,c⟩:=rp.ty (K:=K)
 rcases c with⟨xs,rfl,rfl⟩|⟨i,rfl,rfl⟩|⟨x,rfl,rfl⟩|⟨rfl,rfl⟩
 ·exact⟨_,rfl,_,_,_,_,_,rfl,ty,fun u z=>z,j3,_,rfl,ce (q H (aw.refl H))⟩
 ·exact⟨_,rfl,_,_,_,_,_,rfl,ty,fun u z=>z,jC,_,rfl,ce (q H (aw.refl H))⟩
 ·obtain⟨e,hx⟩:=(show v= .str (S x)/\x.length<=1000000 from rp)
  subst e
  have hz:(S x).length<=sizeLine:=by rw[EX,sizeLine_eq];omega
  refine⟨_,rfl,_,_,_,_,_,rfl,ty,fun u z=>z,k_same _,_,rfl,bO ⟨_,rfl,S x,rfl,hz,_,_,rfl,rfl,_,rfl,?_⟩⟩
  rw[EX]
  refine bY (fun c1=>⟨_,_,rfl,rfl,_,rfl,?_⟩) (fun c1=>⟨_,rfl,ce ?_⟩)
  ·refine bY (fun c2=> ?_) (fun c2=> ?_)
   ·have fin:=q H (aw.refl H)
    have e:gh (.at (.str x))=false:=by
     have h3: ¬(x.length:Int)<=3:=by simpa using c2
     show(decide (1<=x.length) &&decide (x.length<=3) &&_)=false
     rw[show decide (x.length<=3)=false from decide_eq_false (by omega)];simp
    rw[e]at fin;exact fin
   ·refine⟨_,rfl,x,rfl,cy (n:=x.length) (fun i ys H'=>H'=H/\ys=((x.take i).map fun c=>mT.contains c).map V.bl) ⟨rfl,by simp⟩ ?_ ?_⟩
    ·rintro i ys _ hi ⟨rfl,rfl⟩
     refine⟨hi,?_,?_⟩
     ·simp only[List.length_map,List.length_take];exact Nat.lt_of_le_of_lt (Nat.min_le_left _ _) (Nat.lt_of_lt_of_le hi (by rw[sizeLine_eq];omega))
     ·rintro y _ ⟨rfl,rfl⟩
      refine ka ?_
      refine⟨_,rfl,_,mT,rfl,by rw[xQ],Wc.next hi ⟨rfl,?_⟩⟩
      rw[take_one hi,List.map_append,List.map_append,getD_at hi];rfl
    ·rintro ys _ ⟨rfl,rfl⟩
     refine⟨rfl,fun p hp=>⟨p,(x.take x.length).map fun c=>mT.contains c,rfl,aN.of ac,?_⟩⟩
     have fin:=q _ (ah hp (.lst (((x.take x.length).map fun c=>mT.contains c).map V.bl)))
     have e:gh (.at (.str x))=((x.take x.length).map fun c=>mT.contains c).all id:=by
      show(decide (1<=x.length) &&decide (x.length<=3) &&_)=_
      have h1:(1:Int)<=x.length:=by simpa using c1
      have h3:(x.length:Int)<=3:=by simpa using c2
      rw[show decide (1<=x.length)=true from decide_eq_true (by omega),show decide (x.length<=3)=true from decide_eq_true (by omega),List.take_length]
      simp only[Bool.and_self,Bool.true_and,List.all_map]
      congr 1
      funext c
      exact(pE c).symm
     rw[e]at fin;exact fin
  ·have fin:=q H (aw.refl H)
   have e:gh (.at (.str x))=false:=by
    have h1: ¬(1:Int)<=x.length:=by simpa using c1
    show(decide (1<=x.length) &&decide (x.length<=3) &&_)=false
    rw[show decide (1<=x.length)=false from decide_eq_false (by omega)];simp
   rw[e]at fin;exact fin
 ·exact⟨_,rfl,_,_,_,_,_,rfl,ty,fun u z=>z,lK,_,rfl,ce (q H (aw.refl H))⟩
end
end W2
namespace W2
open PySem PySem.Spec PyProof.Rows K2 L2
section
variable{P:Program}{w:World}{K:PySem.W.Frag}{mg:Str->Option Value}{base:Heap}
theorem D9:av ["thing"] ["thing"] (am vg):=⟨rfl,rfl,rfl,by decide+kernel,rfl,by decide+kernel,by decide+kernel⟩
theorem AT{f:Addr}{fd:FuncData}(F:cE K "is_thing" "is_thing" vg f fd)(hn:jv P w K mg base 2 "is_number" isNumber)(hb:jv P w K mg base 1 "is_box" gh):aI P w K mg base br 3 f fd ["thing"] (B0 dM):=by
 refine F.ok D9 eY (fun cdv A outer s H vs Q E hr h=> ?_)
 obtain⟨p,v,rfl,rp,q⟩:=h
 refine⟨_,ap (aE (Bb (aF hn hr rfl aD (aa (pv 0) af)) (fg (aF hb hr rfl aD (aa (pv 0) af))))),?_⟩
 refine⟨_,rfl,p,v,rfl,rp,fun H1 s1=>⟨_,rfl,bY (fun c=> ?_) (fun c=>⟨_,rfl,p,v,rfl,s1.rep rp,fun H2 s2=> ?_⟩)⟩⟩
 ·have fin:=q H1 s1
  rw[show dM p=true by unfold dM;rw[c];rfl]at fin;exact fin
 ·have fin:=q H2 (s1.trans s2)
  rw[show dM p=gh p by unfold dM;rw[Bool.eq_false_iff.mpr c];rfl]at fin;exact fin
theorem Hf:av ["thing"] ["thing"] (am BJ):=⟨rfl,rfl,rfl,by decide+kernel,rfl,by decide+kernel,by decide+kernel⟩
theorem Dz{f:Addr}{fd:FuncData}(F:cE K "is_rows" "is_rows" BJ f fd)(T:Tx mg):aI P w K mg base br 1 f fd ["thing"] (B0 pA):=by
 refine F.ok Hf eY (fun cdv A outer s H vs Q E hr h=> ?_)
 obtain⟨p,v,rfl,rp,q⟩:=h
 refine⟨_,ap (aE (aA cf rfl T.Am boot_isinstance (aa (pv 0) (aa (cM rfl T.tuple boot_tuple (v:= .ty "tuple") rfl) af)))),?_⟩
 obtain⟨t,ty,c⟩:=rp.ty (K:=K)
 have fin:=q H (aw.refl H)
 rcases c with⟨xs,rfl,rfl⟩|⟨i,rfl,rfl⟩|⟨x,rfl,rfl⟩|⟨rfl,rfl⟩
 ·exact⟨_,rfl,_,_,_,_,_,rfl,ty,fun u z=>z,k_same _,fin⟩
 ·exact⟨_,rfl,_,_,_,_,_,rfl,ty,fun u z=>z,eQ,fin⟩
 ·exact⟨_,rfl,_,_,_,_,_,rfl,ty,fun u z=>z,eS,fin⟩
 ·exact⟨_,rfl,_,_,_,_,_,rfl,ty,fun u z=>z,dN,fin⟩
def bb:K2.Kind->T
 | .hand=> [104,97,110,100]
 | .mark=> [109,97,114,107]
 | .thing=> [116,104,105,110,103]
 | .bU=> [97,110,121,32,104,97,110,100]
 | .cw=> [97,110,121,32,109,97,114,107]
 | .box=> [98,111,120]
 | .number=> [110,117,109,98,101,114]
 | .rows=> [114,111,119,115]
def wj:Option K2.Kind->V
 |none=> .aH
 |some k=> .str (S (bb k))
theorem jk:("any hand":Str)=S (bb .bU):=by decide+kernel
theorem jl:("any mark":Str)=S (bb .cw):=by decide+kernel
theorem E7:("hand":Str)=S (bb .hand):=by decide+kernel
theorem vR(x y:T):xy (.str (S x)) (.str (S y))=decide (x=y):=by
 show(S x==S y)=_
 by_cases h:x=y
 ·subst h;simp
 ·rw[decide_eq_false h];exact beq_false_of_ne fun z=>h (iO z)
theorem Fu(k:Option K2.Kind):tD (wj k) [.str "any hand",.str "any mark"]=uD k:=by
 rw[jk,jl]
 unfold tD
 cases k with
 |none=>rfl
 |some k=>
  simp only[List.any_cons,List.any_nil,wj,vR]
  cases k<;>decide
theorem vZ(k:K2.Kind):tD (.str (S (bb k))) [.str "hand",.str "any hand"]=(decide (k= .hand)||decide (k= .bU)):=by
 rw[jk,E7]
 unfold tD
 simp only[List.any_cons,List.any_nil,vR]
 cases k<;>decide
theorem Kh:av ["kind"] ["kind"] (am G7):=⟨rfl,rfl,rfl,by decide+kernel,rfl,by decide+kernel,by decide+kernel⟩
inductive E9(vs:List V)(H:Hp)(Q:VK)(fG:XK):Prop
 |mk (k:_) (_:vs= [wj k]) (_: ∀H',aw H H'->Q (.bl (uD k)) H')
theorem uo(k:Option K2.Kind):eN (wj k)=true:=by cases k<;>rfl
theorem Gy{f:Addr}{fd:FuncData}(F:cE K "may_be_any" "may_be_any" G7 f fd):aI P w K mg base br 1 f fd ["kind"] E9:=by
 refine F.ok Kh (fun vs H Q E h=> ?_) (fun cdv A outer s H vs Q E hr h=> ?_)
 ·obtain⟨k,rfl,_⟩:=h;rfl
 obtain⟨k,rfl,q⟩:=h
 refine⟨_,ap (aE (dO fw (pv 0) (bC (aa bB (aa bB af))) rfl)),?_⟩
 refine⟨_,rfl,(by show 2<=sizeLine;decide),fun t ht=>⟨t,_,rfl,.inr (bn.of ac),uo k,rfl,?_⟩⟩
 have fin:=q _ (ah ht (.tup [.str "any hand",.str "any mark"]))
 rw[<-Fu]at fin;exact fin
def ED:K2.Kind->PV->Bool
 | .mark=>fO
 | .cw=>fO
 | .number=>isNumber
 | .box=>gh
 | .thing=>dM
 | .rows=>pA
 |_=>fun _=>false
structure zm(P:Program)(w:World)(K:PySem.W.Frag)(mg:Str->Option Value)(base:Heap):Prop where
 ex: ∃a kvs,mg "CHECKS"=some (.ref a)/\KDict P w K a kvs/\ ∀k:K2.Kind,k≠ .hand->k≠ .bU-> ∃f fd,iK kvs (S (bb k))=some (.ref f)/\aI P w K mg base br 3 f fd ["thing"] (B0 (ED k))/\Binds K fd ["thing"] []/\PySem.W.keepIn K (.ref f)=true
def aC(os:List Int):List V:=os.map V.int
inductive BZ(vs:List V)(H:Hp)(Q:VK)(fG:XK):Prop
 |mk (p v k o os:_) (_:vs= [v,.str (S (bb k)),.ref o]) (_:Rep H p v) (_:H o=some (.lst (aC os))) (_: ∀H',aw H H'->Q (.bl (fits os p k)) H')
theorem ug(os:List Int):(aC os).all eN=true:=by unfold aC;rw[List.all_map];exact List.all_eq_true.mpr fun _ _=>rfl
theorem C4(i:Int)(os:List Int):tD (.int i) (aC os)=os.contains i:=by
 unfold tD aC
 rw[List.any_map,List.contains_eq_any_beq]
 congr 1;funext y
 show(y==i)=(i==y)
 exact Bool.beq_comm
theorem BQ:av ["thing", "kind", "others", "check"] ["thing", "kind", "others"] (am BE):=⟨rfl,rfl,rfl,by decide+kernel,rfl,by decide+kernel,by decide+kernel⟩
theorem xz{os:List Int}{p:PV}{k:K2.Kind}(hn:p≠ .at .aH)(hk:k= .hand\/k= .bU):fits os p k=uj os p:=by
 rcases hk with rfl|rfl<;>(cases p with
  |tup ps=>rfl
  |«at» a=>cases a<;>first|rfl|exact absurd rfl hn)
theorem zQ{os:List Int}{p:PV}{k:K2.Kind}(hn:p≠ .at .aH)(h1:k≠ .hand)(h2:k≠ .bU):fits os p k=ED k p:=by
 cases k<;>first|exact absurd rfl h1|exact absurd rfl h2|(cases p with
  |tup ps=>rfl
  |«at» a=>cases a<;>first|rfl|exact absurd rfl hn)
theorem GW{H:Hp}{p:PV}{v:V}(r:Rep H p v)(hn:p≠ .at .aH):v≠ .aH:=by
 cases p with
 |tup ps=>obtain⟨a,vs,rfl,_⟩:=r.tup;exact fun z=>by cases z
 |«at» a=>
  cases a with
  |aH=>exact absurd rfl hn
  |int i=>cases(show v= .int i from r);exact fun z=>by cases z
  |str x=>obtain⟨e,_⟩:=(show v= .str (S x)/\_ from r);subst e;exact fun z=>by cases z
theorem Dv{f:Addr}{fd:FuncData}(F:cE K "fits_place" "fits_place" BE f fd)(T:Tx mg)(hm:f9 P w K mg base br 1 "may_be_any" ["kind"] E9)(hw:jv P w K mg base 1 "is_whole" isWhole)(C:zm P w K mg base):
  aI P w K mg base br 4 f fd ["thing", "kind", "others"] BZ:=by
 refine F.ok BQ (fun vs H Q E h=> ?_) (fun cdv A outer s H vs Q E hr h=> ?_)
 ·obtain⟨p,v,k,o,os,rfl,_⟩:=h;rfl
 obtain⟨p,v,k,o,os,rfl,rp,ho,q⟩:=h
 obtain⟨a,kvs,ma,D,ck⟩:=C.ex
 refine⟨_,ag (bL (jM (ir (pv 0))) (ap (aE (aF hm hr rfl aD (aa (pv 1) af)))) aU)
  (ag (bL (aP fw (pv 1) (bC (aa bB (aa bB af))) rfl) (ap (aE (iu (aF hw hr rfl aD (aa (pv 0) af)) (fg (dO fw (pv 0) (pv 2) rfl))))) aU)
  (ag (aJ (i:=3) BQ.nd rfl (Or.inl rfl) (aK (rA D) (cc rfl ma (v:= .ref a) rfl) (pv 1) (fun _ _=>rfl)))
  (ap (aE (sj (k:=3) 3 hr (aa (pv 0) af)))))),?_⟩
 by_cases hn:p= .at .aH
 ·subst hn
  cases(show v= .aH from rp)
  exact⟨_,rfl,_,rfl,ce ⟨_,rfl,some k,rfl,fun H' sm=>q H' sm⟩⟩
 have hv:=GW rp hn
 refine⟨_,rfl,_,rfl,bY (fun c=>absurd (of_decide_eq_true c) hv) (fun _=> ?_)⟩
 refine⟨_,rfl,(by show 2<=sizeLine;decide),fun t ht=>⟨t,_,rfl,.inr (bn.of ac),rfl,rfl,_,rfl,?_⟩⟩
 have s0:aw H (upd H t (.tup [.str "hand",.str "any hand"])):=ah ht _
 refine bY (fun c=> ?_) (fun c=> ?_)
 ·have hk:k= .hand\/k= .bU:=by
   have c':tD (.str (S (bb k))) [.str "hand",.str "any hand"]=true:=c
   rw[vZ]at c'
   simpa using c'
  refine⟨_,rfl,p,v,rfl,s0.rep rp,fun H1 s1=>⟨_,rfl,?_⟩⟩
  have fin:=q H1 (s0.trans s1)
  rw[xz hn hk]at fin
  cases p with
  |tup ps=>exact bO fin
  |«at» b=>
   cases b with
   |aH=>exact bO fin
   |str x=>exact bO fin
   |int i=>
    cases(show v= .int i from rp)
    refine ce ⟨_,rfl,_,rfl,o,_,rfl,.inl (aN.of (s1 _ _ (s0 _ _ ho))),rfl,ug os,?_⟩
    show Q (.bl (tD (.int i) (aC os))) H1
    rw[C4];exact fin
 ·have hk: ¬(k= .hand\/k= .bU):=fun z=>c (by
   show tD (.str (S (bb k))) [.str "hand",.str "any hand"]=true
   rw[vZ];simpa using z)
  have h1:k≠ .hand:=fun z=>hk (.inl z)
  have h2:k≠ .bU:=fun z=>hk (.inr z)
  obtain⟨f2,LN,e2,F2,B2,Dd⟩:=ck k h1 h2
  refine⟨_,rfl,_,_,rfl,rfl,e2,f2,LN,_,_,rfl,F2,B2,Dd,_,rfl,p,v,rfl,s0.rep rp,fun H1 s1=> ?_⟩
  have fin:=q H1 (s0.trans s1)
  rw[zQ hn h1 h2]at fin
  exact fin
end
end W2
namespace W2
open PySem PySem.Spec PyProof.Rows K2 L2
section
variable{P:Program}{w:World}{K:PySem.W.Frag}{mg:Str->Option Value}{base:Heap}
def fP(ks:List K2.Kind):List V:=ks.map fun k=> .str (S (bb k))
structure Eu(P:Program)(w:World)(K:PySem.W.Frag)(mg:Str->Option Value):Prop where
 ex: ∃a kvs,mg "FORMS"=some (.ref a)/\KDict P w K a kvs/\(∀x ks,gS x=some ks-> ∃b,iK kvs (S x)=some (.ref b)/\ ∀H,bn K H b (fP ks))/\ ∀x,gS x=none->iK kvs (S x)=none
inductive Fa(vs:List V)(H:Hp)(Q:VK)(fG:XK):Prop
 |mk (p v o os:_) (_:vs= [v,.ref o]) (_:Rep H p v) (_:H o=some (.lst (aC os))) (_: ∀H',aw H H'->Q (.bl (cW os p)) H')
theorem qR(v:V)(vr:List V):gR (v::vr) (some 1) none=vr:=by
 unfold gR
 have e:HT.cF (v::vr).length 0 (some 1)=1:=by
  have:=HT.wL (v::vr).length 0 1
  rw[show((1:Nat):Int)=1 from rfl]at this
  rw[this,List.length_cons];omega
 rw[e,HT.mq]
 simp
theorem E1:(["thing", "kind", "row", "others", "form"]:List Str).Nodup:=by decide+kernel
theorem E8:av ["row", "others", "form"] ["row", "others"] (am D0):=⟨rfl,rfl,rfl,by decide+kernel,rfl,by decide+kernel,by decide+kernel⟩
theorem GB{f:Addr}{fd:FuncData}(F:cE K "is_row" "is_row" D0 f fd)(T:Tx mg)(hf:f9 P w K mg base br 4 "fits_place" ["thing", "kind", "others"] BZ)(C:Eu P w K mg):aI P w K mg base br 5 f fd ["row", "others"] Fa:=by
 refine F.ok E8 (fun vs H Q E h=> ?_) (fun cdv A outer s H vs Q E hr h=> ?_)
 ·obtain⟨p,v,o,os,rfl,_⟩:=h;rfl
 obtain⟨p,v,o,os,rfl,rp,ho,q⟩:=h
 obtain⟨a,kvs,ma,D,IS,IP⟩:=C.ex
 refine⟨_,ag (bL (PW.pt (gy (dH (cp (aA cf rfl T.Am boot_isinstance (aa (pv 0) (aa (cM rfl T.tuple boot_tuple (v:= .ty "tuple") rfl) af)))))
   (gy (aP hJ (aA aR rfl T.len PySem.boot_len (aa (pv 0) af)) au (aY _))
   (gz (dH (cp (aA cf rfl T.Am boot_isinstance (aa (aK dk (pv 0) au (fun _ _=>rfl)) (aa (cM rfl T.str boot_str (v:= .ty "str") rfl) af))))))))) (ap (aE fV)) aU)
  (ag (aJ (i:=2) E8.nd rfl (Or.inl rfl) (GK (C7 D) PySem.F.plainAttrs_dict PySem.F.slot_dict_get PySem.F.type_dict_get (Dp D) (cc rfl ma (v:= .ref a) rfl) (aa (aK dk (pv 0) au (fun _ _=>rfl)) af)))
  (ag (bL (PW.pt (gy (jM (ir (pv 2))) (gz (aP nU (aA aR rfl T.len PySem.boot_len (aa (pv 0) af)) (bp fQ (aA aR rfl T.len PySem.boot_len (aa (pv 2) af)) au) (aY _))))) (ap (aE fV)) aU)
  (ap (aE (aA (iV rfl) rfl T.all boot_all (aa (dP (T:= ["thing", "kind"]) (cr (am D0) ["row", "others", "form"] rfl rfl (by decide+kernel)) rfl (GN rfl T.zip (aa (gv BY (pv 0) (je au) jd) (aa (pv 2) af)))
   (fun Y hY=>by cases hY;exact lX rfl (cJ (aG (i:=0) E1 rfl (Or.inl rfl)) (cJ (aG (i:=1) E1 rfl (Or.inl rfl)) jc))) lA (fun Y _=>cK)
   (fun Y hY=>by cases hY;exact aF hf hr rfl aD (aa (pv 0) (aa (pv 1) (aa (pv 3) af))))) af)))))),?_⟩
 have no:cW os p=false->Q (.bl false) H:=fun e=>by have fin:=q H (aw.refl H);rw[e]at fin;exact fin
 obtain⟨t,ty,c⟩:=rp.ty (K:=K)
 rcases c with⟨ps,rfl,rfl⟩|⟨i,rfl,rfl⟩|⟨x,rfl,rfl⟩|⟨rfl,rfl⟩
 rotate_left
 ·exact⟨_,rfl,_,_,_,_,_,rfl,ty,fun u z=>z,eQ,_,rfl,ce (no rfl)⟩
 ·exact⟨_,rfl,_,_,_,_,_,rfl,ty,fun u z=>z,eS,_,rfl,ce (no rfl)⟩
 ·exact⟨_,rfl,_,_,_,_,_,rfl,ty,fun u z=>z,dN,_,rfl,ce (no rfl)⟩
 obtain⟨b,vs,rfl,hb,rs⟩:=rp.tup
 refine⟨_,rfl,_,_,_,_,_,rfl,ty,fun u z=>z,k_same _,_,rfl,bO ?_⟩
 refine⟨_,rfl,b,_,rfl,.inr (bn.of hb),rfl,_,rfl,?_⟩
 cases ps with
 |nil=>
  cases(show vs= []from by simpa only[aq]using rs)
  exact bY (fun _=>ce (no rfl)) (fun c=>absurd rfl c)
 |cons p0 pr=>
  obtain⟨v0,vr,rfl,r0,rr⟩:=(show ∃v r,vs=v::r/\Rep H p0 v/\aq H pr r from by simpa only[aq]using rs)
  refine bY (fun c=> ?_) (fun _=> ?_)
  ·have z:=of_decide_eq_true c
   injection z with z
   rw[List.length_cons]at z
   omega
  have zd:tq (v0::vr) 0=some v0:=bc (j:=0) rfl
  obtain⟨t0,Lh,c0⟩:=r0.ty (K:=K)
  rcases c0 with⟨qs,rfl,rfl⟩|⟨i,rfl,rfl⟩|⟨x,rfl,rfl⟩|⟨rfl,rfl⟩
  ·exact⟨_,rfl,b,_,0,v0,rfl,rfl,bn.of hb,zd,_,_,_,_,_,rfl,Lh,fun u z=>z,j3,_,rfl,ce (no rfl)⟩
  ·exact⟨_,rfl,b,_,0,v0,rfl,rfl,bn.of hb,zd,_,_,_,_,_,rfl,Lh,fun u z=>z,jC,_,rfl,ce (no rfl)⟩
  rotate_left
  ·exact⟨_,rfl,b,_,0,v0,rfl,rfl,bn.of hb,zd,_,_,_,_,_,rfl,Lh,fun u z=>z,lK,_,rfl,ce (no rfl)⟩
  obtain⟨e0,hx⟩:=(show v0= .str (S x)/\x.length<=1000000 from r0)
  subst e0
  refine⟨_,rfl,b,_,0,_,rfl,rfl,bn.of hb,zd,_,_,_,_,_,rfl,Lh,fun u z=>z,k_same _,_,rfl,bO ?_⟩
  refine⟨rfl,_,rfl,b,_,0,_,rfl,rfl,bn.of hb,zd,rfl,S x,.inl ⟨rfl,?_⟩⟩
  cases hfm:gS x with
  |none=>
   rw[IP x hfm]
   refine⟨_,rfl,_,rfl,ce (ce (no ?_))⟩
   show(match gS x with|some ks=>_|none=>false)=false
   rw[hfm]
  |some ks=>
   obtain⟨fa,e1,e2⟩:=IS x ks hfm
   rw[e1]
   refine⟨_,rfl,_,rfl,bY (fun c=>absurd (of_decide_eq_true c) (by intro z;cases z)) (fun _=> ?_)⟩
   refine⟨_,rfl,b,_,rfl,.inr (bn.of hb),_,rfl,fa,_,rfl,.inr (e2 _),_,_,rfl,rfl,rfl,_,rfl,?_⟩
   have lk:(fP ks).length=ks.length:=by unfold fP;rw[List.length_map]
   have lr:=rr.len
   have Bx:cW os (.tup (.at (.str x)::pr))=(decide (pr.length=ks.length) &&fN os pr ks):=by
    show(match gS x with|some ks=>_|none=>false)=_
    rw[hfm]
   refine bY (fun c=> ?_) (fun c=> ?_)
   ·refine no ?_
    have: ¬(V.int (((V.str (S x)::vr).length:Nat):Int)=V.int (((fP ks).length:Int)+1)):=by simpa using c
    rw[Bx,show decide (pr.length=ks.length)=false from decide_eq_false fun z=>this (by rw[List.length_cons,lk,<-lr,z];simp)]
    rfl
   ·have hl:pr.length=ks.length:=by
     have:V.int (((V.str (S x)::vr).length:Nat):Int)=V.int (((fP ks).length:Int)+1):=by simpa using c
     injection this with z
     rw[List.length_cons,lk]at z
     omega
    refine⟨_,rfl,1,rfl,b,_,rfl,bn.of hb,?_,fun t ht=> ?_⟩
    ·rw[show HT.cF (V.str (S x)::vr).length 0 (some 1)=1 from by
      have:=HT.wL (V.str (S x)::vr).length 0 1
      rw[show((1:Nat):Int)=1 from rfl]at this
      rw[this,List.length_cons];omega]
     intro z;exact absurd z.1 (by decide)
    rw[qR]
    have s0:aw H (upd H t (.tup vr)):=ah ht _
    refine⟨_,rfl,t,fa,vr,_,rfl,bn.of ac,e2 _,by omega,?_⟩
    refine cy (n:=vr.length) (fun i ys H'=>aw (upd H t (.tup vr)) H'/\ys=(((pr.zip ks).take i).map fun z=>fits os z.1 z.2).map V.bl) ⟨aw.refl _,by simp⟩ ?_ ?_
    ·rintro i ys H1 hi ⟨s1,rfl⟩
     refine⟨⟨hi,s1.Lc (bn.of ac),e2 _⟩,?_,?_⟩
     ·simp only[List.length_map,List.length_take]
      exact Nat.lt_of_le_of_lt (Nat.min_le_left _ _) (Nat.lt_of_lt_of_le hi (small (by have:=(zR hfm).2.1;omega)))
     ·rintro y _ ⟨t2,Q7,rfl,rfl⟩
      have s2:=ah Q7 (.tup [vr.getD i .aH,(fP ks).getD i .aH])
      have hp:i<pr.length:=by omega
      have hk:i<ks.length:=by omega
      have hkv:i<(fP ks).length:=by omega
      obtain⟨w1,hw1,Nd⟩:=rr.get' (List.getElem?_eq_getElem hp)
      have ew:vr.getD i .aH=w1:=by rw[getD_at hi];rw[List.getElem?_eq_getElem hi]at hw1;exact Option.some.inj hw1
      have ek:(fP ks).getD i .aH= .str (S (bb ks[i])):=by rw[getD_at hkv];simp[fP]
      refine⟨t2,_,rfl,bn.of ac,rfl,_,_,rfl,_,_,rfl,rfl,Nz ?_⟩
      refine⟨_,rfl,_,rfl,_,rfl,pr[i],_,ks[i],o,os,by rw[ek];rfl,?_,?_,fun H3 s3=>Wc.next hi ⟨?_,?_⟩⟩
      ·rw[ew];exact(s0.trans (s1.trans s2)).rep Nd
      ·exact s2 _ _ (s1 _ _ (s0 _ _ ho))
      ·exact s1.trans (s2.trans s3)
      ·rw[take_one (by rw[List.length_zip];omega),List.map_append,List.map_append];simp
    ·rintro ys H1 ⟨s1,rfl⟩
     refine⟨⟨rfl,s1.Lc (bn.of ac),e2 _⟩,fun p hp=>⟨p,((pr.zip ks).take vr.length).map fun z=>fits os z.1 z.2,rfl,aN.of ac,?_⟩⟩
     have fin:=q _ (s0.trans (s1.trans (ah hp (.lst ((((pr.zip ks).take vr.length).map fun z=>fits os z.1 z.2).map V.bl)))))
     rw[Bx,decide_eq_true hl,Bool.true_and]at fin
     have e9:fN os pr ks=(((pr.zip ks).take vr.length).map fun z=>fits os z.1 z.2).all id:=by
      unfold fN
      rw[List.take_of_length_le (by rw[List.length_zip];omega),List.all_map];rfl
     rw[e9]at fin;exact fin
end
end W2
namespace W2
open PySem PySem.Spec PyProof.Rows K2 L2
section
variable{P:Program}{w:World}{K:PySem.W.Frag}{mg:Str->Option Value}{base:Heap}
theorem BC:("case":Str)=S df:=by decide+kernel
inductive sP(vs:List V)(H:Hp)(Q:VK)(fG:XK):Prop
 |mk (p v os:_) (_:vs= [v]) (_:Rep H p v) (_:cW os p=true) (_: ∀r ws H',aw H H'->H' r=some (.lst ws)->aq H' (eF p) ws->ws.length<=2->Q (.ref r) H')
theorem sF:av ["row"] ["row"] (am kI):=⟨rfl,rfl,rfl,by decide+kernel,rfl,by decide+kernel,by decide+kernel⟩
theorem yo{f:Addr}{fd:FuncData}(F:cE K "rows_within" "rows_within" kI f fd):aI P w K mg base br 1 f fd ["row"] sP:=by
 refine F.ok sF (fun vs H Q E h=> ?_) (fun cdv A outer s H vs Q E hr h=> ?_)
 ·obtain⟨p,v,os,rfl,_⟩:=h;rfl
 obtain⟨p,v,os,rfl,rp,hp,q⟩:=h
 refine⟨_,ap (aE (fz (aP hJ (aK dk (pv 0) au (fun _ _=>rfl)) bB (aY _)) (bS (aa (aK dk (pv 0) au (fun _ _=>rfl)) (aa (aK dk (pv 0) au (fun _ _=>rfl)) af))) (bS af))),?_⟩
 obtain⟨x,its,ks,rfl,hf,hl,Oc⟩:=rl hp
 obtain⟨b,vs,rfl,hb,rs⟩:=rp.tup
 obtain⟨v0,vr,rfl,r0,rr⟩:=(show ∃v r,vs=v::r/\Rep H (.at (.str x)) v/\aq H its r from by simpa only[aq]using rs)
 obtain⟨e0,hx⟩:=(show v0= .str (S x)/\x.length<=1000000 from r0)
 subst e0
 refine⟨_,rfl,b,_,0,_,rfl,rfl,bn.of hb,bc (j:=0) rfl,rfl,_,rfl,bY (fun c=> ?_) (fun c=> ?_)⟩
 ·have hxc:x=df:=by
   have z:=of_decide_eq_true c
   injection z with z
   exact iO (z.trans BC)
  subst hxc
  have hks:ks= [.box,.number,.rows,.rows]:=by
   have:gS df=some [.box,.number,.rows,.rows]:=by decide
   rw[this]at hf;exact(Option.some.inj hf).symm
  subst hks
  match its,hl,rr,vr,hb with
  | [i1,i2,i3,i4],_,rr,vr,hb=>
   simp only[aq]at rr
   obtain⟨w1,r1,rfl,h1,w2,r2,rfl,h2,w3,r3,rfl,h3,w4,r4,rfl,h4,rfl⟩:=rr
   refine⟨_,rfl,b,_,3,w3,rfl,rfl,bn.of hb,bc (j:=3) rfl,_,rfl,b,_,4,w4,rfl,rfl,bn.of hb,bc (j:=4) rfl,(by show 2<=sizeLine;decide),fun r hr'=> ?_⟩
   have s0:aw H (upd H r (.lst [w3,w4])):=ah hr' _
   exact q r _ _ s0 ac (by show aq _ [i3,i4] _;exact aq.cons (s0.rep h3) (aq.one (s0.rep h4))) (Nat.le_refl 2)
 ·refine⟨(by show 0<=sizeLine;decide),fun r hr'=> ?_⟩
  have e:eF (.tup (.at (.str x)::its))= []:=by
   have hxc:x≠df:=fun z=>c (by subst z;rw[BC];simp)
   unfold eF
   split
   ·rename_i y _ _ _ _ z
    injection z with z
    injection z with z _
    injection z with z
    injection z with z
    subst z
    rw[if_neg hxc]
   ·rfl
  refine q r _ _ (ah hr' (.lst [])) ac ?_ (by decide)
  rw[e];exact aq.nil
def JU:Option Nat->V
 |none=> .aH
 |some n=> .int n
inductive wP(vs:List V)(H:Hp)(Q:VK)(fG:XK):Prop
 |mk (p v o os:_) (_:vs= [v,.ref o]) (_:Rep H p v) (_:H o=some (.lst (aC os))) (_: ∀H',aw H H'->Q (JU (count os p)) H')
theorem gO:av ["script", "others", "many", "pending", "rows", "row"] ["script", "others"] (am u9):=⟨rfl,rfl,rfl,by decide+kernel,rfl,by decide+kernel,by decide+kernel⟩
structure Im(H0:Hp)(os:List Int)(o:Addr)(v:V)(res:Option Nat)(pd:Addr)(f:Nat)(σ:L2.St)(H:Hp):Prop where
 ex: ∃ (many:Nat) (st:List PV) (vs:List V) (r1 r2:Option V),σ= [some v,some (.ref o),some (.int many),some (.ref pd),r1,r2]/\aw H0 H/\H pd=some (.lst vs)/\aq H st.reverse vs/\many<=40/\walk os f many st=res/\2*(40-many)+st.length<f/\f<=100
theorem AK{f:Addr}{fd:FuncData}(F:cE K "count_rows" "count_rows" u9 f fd)(T:Tx mg)(Mm:f9 P w K mg base br 5 "is_row" ["row", "others"] Fa)(hwi:f9 P w K mg base br 1 "rows_within" ["row"] sP):
  aI P w K mg base br 6 f fd ["script", "others"] wP:=by
 refine F.ok gO (fun vs H Q E h=> ?_) (fun cdv A outer s H vs Q E hr h=> ?_)
 ·obtain⟨p,v,o,os,rfl,_⟩:=h;rfl
 obtain⟨p,v,o,os,rfl,rp,ho,q⟩:=h
 obtain⟨Si,LG⟩:=T.EZ
 refine⟨_,(ag (aJ (i:=2) gO.nd rfl (Or.inl rfl) au)
  (ag (aJ (i:=3) gO.nd rfl (Or.inl rfl) (bS (aa (pv 0) af)))
  (ag (jf PassesOwn.never (jh (pv 3) (fun _=>rfl)) (ag (aJ (i:=4) gO.nd rfl (Or.inl rfl) (uS PySem.F.plainAttrs_list PySem.F.slot_list_pop PySem.F.type_list_pop uE (pv 3)))
  (ag (bL (dH (cp (aA cf rfl T.Am boot_isinstance (aa (pv 4) (aa (cM rfl T.tuple boot_tuple (v:= .ty "tuple") rfl) af))))) (ap (aE jL)) aU)
  (ag (Bj (i:=2) gO.nd rfl (Or.inl rfl) (aA aR rfl T.len PySem.boot_len (aa (pv 4) af)) uh)
  (ag (bL (aP nS (pv 2) (cc rfl LG (v:= .int 40) ⟨_,rfl⟩) (aY _)) (ap (aE jL)) aU)
  (ap (cX PassesOwn.never rfl (lY (pv 4)) (aG (i:=5) gO.nd rfl (Or.inl rfl)) (ag (bL (dH (cp (aF Mm hr rfl aD (aa (pv 5) (aa (pv 1) af))))) (ap (aE jL)) aU)
  (ap (aT (i9 PySem.F.plainAttrs_list PySem.F.slot_list_extend PySem.F.type_list_extend jI (pv 3) (aa (aF hwi hr rfl aD (aa (pv 5) af)) af))))))))))))
  (ap (aE (pv 2)))))),?_⟩
 refine⟨_,rfl,(by show 1<=sizeLine;decide),fun pd zj=> ?_⟩
 have s0:aw H (upd H pd (.lst [v])):=ah zj _
 refine⟨Im H os o v (count os p) pd,⟨100,0,[p],[v],none,none,rfl,s0,ac,aq.one (s0.rep rp),by decide,rfl,(by show 2*40+1<100;decide),by decide⟩,?_⟩
 rintro m σ H1 ⟨many,st,vs,r1,r2,rfl,s1,h1,rs,hm,hw,hf,Qi⟩
 refine⟨_,rfl, !vs.isEmpty,.inl ⟨_,aN.of h1,rfl⟩,?_⟩
 obtain⟨m',rfl⟩: ∃m',m=m'+1:=⟨m-1,by omega⟩
 cases st with
 |nil=>
  cases(show vs= []from by simpa only[List.reverse_nil,aq]using rs)
  have fin:=q H1 s1
  rw[<-hw]at fin
  exact bO ⟨_,rfl,fin⟩
 |cons x rest=>
  rw[List.reverse_cons]at rs
  obtain⟨dl,y,rfl,J7,ry⟩:=jN rs
  have Rs:=J7.len
  rw[List.length_reverse]at Rs
  rw[List.length_cons]at hf
  have hne:(!(dl++ [y]).isEmpty)=true:=by cases dl<;>rfl
  rw[if_pos hne]
  refine⟨Im H os o v (count os p) pd m',fun σ' H' z=>⟨m',Nat.lt_succ_self _,z⟩,?_⟩
  refine⟨_,rfl,.inl ⟨rfl,_,aN.of h1⟩,pd,_,y,rfl,rfl,h1,(by simp),?_⟩
  rw[List.dropLast_concat]
  have t2:bV H1 (upd H1 pd (.lst dl)):=cY h1
  have s2:aw H (upd H1 pd (.lst dl)):=eG zj s1
  have E6:=t2.rep ry
  obtain⟨tt,ty,c⟩:=E6.ty (K:=K)
  have no:count os p=none-> ∀H',aw H H'->Q .aH H':=fun e H' z=>by have fin:=q H' z;rw[e]at fin;exact fin
  rcases c with⟨ps,rfl,rfl⟩|⟨i,rfl,rfl⟩|⟨x,rfl,rfl⟩|⟨rfl,rfl⟩
  rotate_left
  ·exact⟨_,rfl,_,_,_,_,_,rfl,ty,fun u z=>z,eQ,_,rfl,ce (no hw.symm _ s2)⟩
  ·exact⟨_,rfl,_,_,_,_,_,rfl,ty,fun u z=>z,eS,_,rfl,ce (no hw.symm _ s2)⟩
  ·exact⟨_,rfl,_,_,_,_,_,rfl,ty,fun u z=>z,dN,_,rfl,ce (no hw.symm _ s2)⟩
  obtain⟨b,ws,rfl,hb,rws⟩:=E6.tup
  have JI:=rws.len
  have il:(if 40<many+ps.length then none else if ps.all (cW os)then walk os m' (many+ps.length) ((ps.flatMap eF).reverse++rest)else none)=count os p:=hw
  refine⟨_,rfl,_,_,_,_,_,rfl,ty,fun u z=>z,k_same _,_,rfl,bO ?_⟩
  refine⟨_,rfl,_,rfl,b,_,rfl,.inr (bn.of hb),_,_,rfl,rfl,?_⟩
  refine⟨_,rfl,_,_,rfl,rfl,_,rfl,bY (fun c=> ?_) (fun c=> ?_)⟩
  ·have Qj:(40:Int)<(many:Int)+(ws.length:Int):=of_decide_eq_true c
   rw[if_pos (by omega)]at il
   exact no il.symm _ s2
  have Qj: ¬(40:Int)<(many:Int)+(ws.length:Int):=fun z=>c (decide_eq_true z)
  rw[if_neg (by omega)]at il
  refine⟨_,rfl,b,rfl,⟨_,bn.of hb⟩,vT (xs:=ws) (fun i σ' H'=> ∃us r5,σ'= [some v,some (.ref o),some (.int ((many:Int)+(ws.length:Int))),some (.ref pd),some (.ref b),r5]/\aw H H'/\H' pd=some (.lst (dl++us))/\
   aq H' rest.reverse dl/\aq H' ps ws/\H' b=some (.tup ws)/\aq H' ((ps.take i).flatMap eF) us/\(ps.take i).all (cW os)=true) ?_ ?_ ?_ ?_⟩
  ·exact⟨[],_,rfl,s2,by rw[List.append_nil];exact ac,t2.reps J7,rws,hb,by simp[aq],by simp⟩
  ·rintro i σ' H' _ ⟨us,r5,_,_,_,_,_,hb',_⟩;exact bn.of hb'
  ·rintro i x σ' H' hx ⟨us,r5,rfl,s3,h3,r3,r4,Cn,JW,hall⟩
   obtain⟨pi,HZ,OM⟩:=r4.get hx
   have hi:i<ps.length:=(List.getElem?_eq_some_iff.mp HZ).1
   have Jr:ps[i]=pi:=by rw[List.getElem?_eq_getElem hi]at HZ;exact Option.some.inj HZ
   refine⟨_,rfl,_,rfl,pi,x,o,os,rfl,OM,s3 _ _ ho,fun H4 s4=>⟨_,rfl,bY (fun c=> ?_) (fun c=> ?_)⟩⟩
   ·have hbad:cW os pi=false:=by simpa using c
    rw[if_neg (by
     intro hz
     have:=List.all_eq_true.mp hz pi (List.mem_of_getElem? HZ)
     rw[hbad]at this;cases this)]at il
    exact no il.symm _ (s3.trans s4)
   ·have hgood:cW os pi=true:=by simpa using c
    have h4:=s4 _ _ h3
    refine⟨_,rfl,.inl ⟨rfl,_,aN.of h4⟩,_,rfl,pi,x,os,rfl,s4.rep OM,hgood,fun r Ny H5 s5 Q3 R8 hz=> ?_⟩
    have h5:=s5 _ _ h4
    have l1:=JW.len
    have l2:=qX (ps.take i)
    rw[List.length_take]at l2
    refine⟨pd,r,_,Ny,rfl,rfl,h5,Q3,?_,?_⟩
    ·rw[List.length_append];exact small (by omega)
    have t6:bV H5 (upd H5 pd (.lst (dl++us++Ny))):=cY h5
    have Le:=(s4.trans s5).tups.trans t6
    refine⟨us++Ny,_,rfl,eG zj (s3.trans (s4.trans s5)),by rw[<-List.append_assoc];exact ac,Le.reps r3,Le.reps r4,Le _ _ Cn,?_,?_⟩
    ·rw[take_one hi,List.flatMap_append,Jr]
     refine(Le.reps JW).append ?_
     simp only[List.flatMap_cons,List.flatMap_nil,List.append_nil]
     exact t6.reps R8
    ·rw[take_one hi,List.all_append,hall,Jr];simp[hgood]
  ·rintro σ' H' ⟨us,r5,rfl,s3,h3,r3,r4,Cn,JW,hall⟩
   rw[List.take_of_length_le (by omega)]at JW hall
   rw[if_pos hall]at il
   refine⟨many+ps.length,_,_,some (.ref b),r5,?_,s3,h3,?_,by omega,il,?_,by omega⟩
   ·rw[JI];simp
   ·rw[List.reverse_append,List.reverse_reverse];exact r3.append JW
   ·have:=qX ps
    rw[List.length_append,List.length_reverse];omega
end
end W2
namespace W2
open PySem PySem.Spec PyProof.Rows K2 L2
section
variable{P:Program}{w:World}{K:PySem.W.Frag}{mg:Str->Option Value}{base:Heap}
theorem yb:(["other", "thing", "many", "hand", "script", "others", "rows"]:List Str).Nodup:=by decide+kernel
theorem dm:av ["thing", "many", "hand", "script", "others", "rows"] ["thing"] (am jo):=⟨rfl,rfl,rfl,by decide+kernel,rfl,by decide+kernel,by decide+kernel⟩
theorem j5(i hand:Nat):(((List.range (i+1)).filter (· ≠hand)).map fun(k:Nat)=>(k:Int))=(((List.range i).filter (· ≠hand)).map fun(k:Nat)=>(k:Int))++(if i≠hand then [(i:Int)]else []):=by
 rw[List.range_succ,List.filter_append,List.map_append]
 by_cases h:i=hand<;>simp[h]
theorem uN{f:Addr}{fd:FuncData}(F:cE K "is_program" "is_program" jo f fd)(T:Tx mg)(hc:f9 P w K mg base br 6 "count_rows" ["script", "others"] wP):aI P w K mg base br 7 f fd ["thing"] (B0 dZ):=by
 refine F.ok dm eY (fun cdv A outer s H vs Q E hr h=> ?_)
 obtain⟨p,v,rfl,rp,q⟩:=h
 obtain⟨Si,LG⟩:=T.EZ
 obtain⟨t2,e2⟩:=T.Gh
 obtain⟨t5,e5⟩:=T.Gs
 refine⟨_,(ag (bL (PW.pt (gy (dH (cp (aA cf rfl T.Am boot_isinstance (aa (pv 0) (aa (cM rfl T.tuple boot_tuple (v:= .ty "tuple") rfl) af))))) (gz (dH (sq gu gu (cc rfl e2 (v:= .int 2) ⟨_,rfl⟩) (aA aR rfl T.len PySem.boot_len (aa (pv 0) af)) (cc rfl e5 (v:= .int 5) ⟨_,rfl⟩)))))) (ap (aE fV)) aU)
  (ag (aJ (i:=1) dm.nd rfl (Or.inl rfl) au)
  (ag (cX PassesOwn.never rfl (DQ rfl T.enum (aa (pv 0) af)) (lX rfl (cJ (aG (i:=2) dm.nd rfl (Or.inr rfl)) (cJ (aG (i:=3) dm.nd rfl (Or.inl rfl)) jc))) (ag (fR (i:=4) (T:= ["other"]) (cr (am jo) ["thing", "many", "hand", "script", "others", "rows"] rfl rfl (by decide+kernel)) rfl dm.nd rfl rfl (cA rfl T.range (aa (aA aR rfl T.len PySem.boot_len (aa (pv 0) af)) af)) (fun Y hY=>by cases hY;exact aG (i:=0) yb rfl (Or.inl rfl)) bA (fun Y hY=>by cases hY;exact fA (aP nU (pv 0) (pv 3) (aY _))) (fun Y hY=>by cases hY;exact pv 0))
  (ag (aJ (i:=5) dm.nd rfl (Or.inl rfl) (aF hc hr rfl aD (aa (pv 3) (aa (pv 4) af))))
  (ag (bL (jM (ir (pv 5))) (ap (aE fV)) aU)
  (ap (Bj (i:=1) dm.nd rfl (Or.inl rfl) (pv 5) uh))))))
  (ap (aE (dO gu (pv 1) (cc rfl LG (v:= .int 40) ⟨_,rfl⟩) (aY _))))))),?_⟩
 obtain⟨t,ty,c⟩:=rp.ty (K:=K)
 have no:dZ p=false-> ∀H',aw H H'->Q (.bl false) H':=fun e H' z=>by have fin:=q H' z;rw[e]at fin;exact fin
 rcases c with⟨ss,rfl,rfl⟩|⟨i,rfl,rfl⟩|⟨x,rfl,rfl⟩|⟨rfl,rfl⟩
 rotate_left
 ·exact⟨_,rfl,_,_,_,_,_,rfl,ty,fun u z=>z,eQ,_,rfl,ce (ce (no rfl H (aw.refl H)))⟩
 ·exact⟨_,rfl,_,_,_,_,_,rfl,ty,fun u z=>z,eS,_,rfl,ce (ce (no rfl H (aw.refl H)))⟩
 ·exact⟨_,rfl,_,_,_,_,_,rfl,ty,fun u z=>z,dN,_,rfl,ce (ce (no rfl H (aw.refl H)))⟩
 obtain⟨a,vs,rfl,ha,rs⟩:=rp.tup
 have ls:=rs.len
 have pR:dZ (.tup ss)=(decide (2<=ss.length) &&decide (ss.length<=5) && (match bW ss.length 0 ss with|some m=>decide (m<=40)|none=>false)):=rfl
 refine⟨_,rfl,_,_,_,_,_,rfl,ty,fun u z=>z,k_same _,_,rfl,bO ?_⟩
 refine⟨_,rfl,a,_,rfl,.inr (bn.of ha),_,_,rfl,rfl,_,rfl,bY (fun c1=>⟨_,_,rfl,rfl,_,rfl,?_⟩) (fun c1=>⟨_,rfl,ce ?_⟩)⟩
 rotate_left
 ·have: ¬(2:Int)<=vs.length:=by simpa using c1
  refine no ?_ H (aw.refl H)
  rw[pR,show decide (2<=ss.length)=false from decide_eq_false (by omega)];rfl
 refine bY (fun c2=> ?_) (fun c2=> ?_)
 ·have: ¬(vs.length:Int)<=5:=by simpa using c2
  refine no ?_ H (aw.refl H)
  rw[pR,show decide (ss.length<=5)=false from decide_eq_false (by omega),Bool.and_false];rfl
 have h2:(2:Int)<=vs.length:=by simpa using c1
 have h5:(vs.length:Int)<=5:=by simpa using c2
 have sn:dZ (.tup ss)=(match bW ss.length 0 ss with|some m=>decide (m<=40)|none=>false):=by
  rw[pR,show decide (2<=ss.length)=true from decide_eq_true (by omega),show decide (ss.length<=5)=true from decide_eq_true (by omega)];rfl
 refine⟨_,rfl,a,_,rfl,bn.of ha,?_⟩
 refine dF (n:=vs.length) (fun i σ' H'=> ∃ (m:Nat) (r2 r3 r4 r5:Option V),σ'= [some (.ref a),some (.int m),r2,r3,r4,r5]/\aw H H'/\bW ss.length 0 ss=(bW ss.length i (ss.drop i)).map (m+ ·)) ?_ ?_ ?_
 ·exact⟨0,none,none,none,none,rfl,aw.refl H,by simp⟩
 ·rintro i σ' H1 hi ⟨m,r2,r3,r4,r5,rfl,s1,hm⟩
  refine⟨⟨hi,s1.Lc (bn.of ha)⟩,?_⟩
  rintro x _ ⟨tp,htp,rfl,rfl⟩
  have s2:=ah htp (.tup [.int (i:Int),vs.getD i .aH])
  refine⟨tp,_,rfl,bn.of ac,rfl,_,_,rfl,_,_,rfl,rfl,?_⟩
  have s12:=s1.trans s2
  refine⟨_,rfl,a,_,rfl,.inr (bn.of (s12 _ _ ha)),(vs.length:Int),rfl,(by omega),(by omega),?_⟩
  refine cy (n:=vs.length) (fun j ys H'=>H'=upd H1 tp (.tup [.int (i:Int),vs.getD i .aH])/\ys=aC (((List.range j).filter (· ≠i)).map fun(k:Nat)=>(k:Int))) ⟨rfl,rfl⟩ ?_ ?_
  ·rintro j ys _ hj ⟨rfl,rfl⟩
   refine⟨hj,?_,?_⟩
   ·have h1:=List.length_filter_le (fun x=>decide (x≠i)) (List.range j)
    rw[List.length_range]at h1
    unfold aC
    rw[List.length_map,List.length_map]
    exact Nat.lt_of_le_of_lt h1 (ou (by omega))
   ·rintro x _ ⟨rfl,rfl⟩
    refine⟨_,rfl,_,rfl,rfl,_,rfl,bY (fun c=>⟨_,rfl,Wc.next hj ⟨rfl,?_⟩⟩) (fun c=>Wc.next hj ⟨rfl,?_⟩)⟩
    ·have hne:j≠i:=fun z=>by subst z;simp at c
     rw[j5,if_pos hne];simp[aC]
    ·have he:j=i:=by
      have z:V.int (0+(j:Int))=V.int (i:Int):=by simpa using c
      injection z with z;omega
     rw[j5,if_neg (by simpa using he)];simp
  ·rintro ys _ ⟨rfl,rfl⟩
   refine⟨Nat.le_refl _,fun o ho=> ?_⟩
   have e3:aC (((List.range vs.length).filter (· ≠i)).map fun(k:Nat)=>(k:Int))=aC (cI ss.length i):=by rw[<-ls];rfl
   rw[e3]
   have s3:=s12.trans (ah ho (.lst (aC (cI ss.length i))))
   have hi':i<ss.length:=by omega
   obtain⟨w1,hw1,Nd⟩:=rs.get' (List.getElem?_eq_getElem hi')
   have ew:vs.getD i .aH=w1:=by rw[getD_at hi];rw[List.getElem?_eq_getElem hi]at hw1;exact Option.some.inj hw1
   refine⟨_,rfl,_,rfl,ss[i],_,o,cI ss.length i,rfl,?_,ac,fun H4 s4=> ?_⟩
   ·exact s3.rep (by rw[ew];exact Nd)
   have s5:=s3.trans s4
   have hd:ss.drop i=ss[i]::ss.drop (i+1):=List.drop_eq_getElem_cons hi'
   rw[hd]at hm
   have hm':bW ss.length 0 ss=((count (cI ss.length i) ss[i]).bind fun a=>(bW ss.length (i+1) (ss.drop (i+1))).map fun b=>a+b).map (m+ ·):=hm
   cases hcn:count (cI ss.length i) ss[i]with
   |none=>
    rw[hcn]at hm'
    refine⟨_,rfl,_,rfl,ce (no ?_ H4 s5)⟩
    rw[sn,hm'];rfl
   |some n1=>
    rw[hcn]at hm'
    refine⟨_,rfl,_,rfl,bO ⟨_,rfl,_,rfl,_,_,rfl,rfl,m+n1,some (.int (i:Int)),some (vs.getD i .aH),some (.ref o),some (JU (some n1)),rfl,s5,?_⟩⟩
    ·rw[hm']
     simp only[Option.bind_some,Option.map_map]
     congr 1
     funext b
     simp[Nat.add_assoc]
 ·rintro σ' H1 ⟨m,r2,r3,r4,r5,rfl,s1,hm⟩
  refine⟨⟨rfl,s1.Lc (bn.of ha)⟩,?_⟩
  refine⟨_,rfl,_,_,rfl,rfl,?_⟩
  rw[<-ls,List.drop_length]at hm
  have fin:=q H1 s1
  rw[sn,hm]at fin
  have e4:(match Option.map (fun x=>m+x) (bW ss.length ss.length [])with|some m=>decide (m<=40)|none=>false)=decide ((m:Int)<=40):=by
   show decide (m+0<=40)=_
   rw[Nat.add_zero]
   exact decide_eq_decide.mpr (by omega)
  rw[e4]at fin;exact fin
end
end W2
namespace W2
open PySem PySem.Spec PyProof.Rows K2 L2
abbrev BM:Stmt:=top 61
abbrev BD:Stmt:=top 62
abbrev BI:Stmt:=top 63
abbrev mU:Stmt:=top 64
section
variable{P:Program}{w:World}{K:PySem.W.Frag}{mg:Str->Option Value}{base:Heap}
def qv(K:PySem.W.Frag)(H:Hp)(a:Addr)(ns:List Int):Prop:=(∃o,H a=some (.fY o (.lst (aC ns))))\/
 ∃ (o:Obj) (its:Array Value) (n:Nat),K.lookup a=some o/\o.cls= .type "list"/\o.dict=none/\o.data= .seq its n/\its.size<=sizeLine/\Vals (aC ns) its.toList
theorem qv.sql{H:Hp}{a:Addr}{ns:List Int}(h:qv K H a ns):aN K H a (aC ns):=by
 rcases h with⟨o,h⟩|h
 ·exact .inl (.inr ⟨o,h⟩)
 ·exact .inr h
def Kept(t:Addr)(H H':Hp):Prop:= ∀b o,b≠t->H b=some o->H' b=some o
theorem Kept.refl(t:Addr)(H:Hp):Kept t H H:=fun _ _ _ e=>e
theorem Kept.trans{t:Addr}{H H1 H2:Hp}(a:Kept t H H1)(b:Kept t H1 H2):Kept t H H2:=fun c o n e=>b c o n (a c o n e)
theorem Kept.of{t:Addr}{H H':Hp}(s:aw H H'):Kept t H H':=fun b o _ e=>s b o e
theorem Kept.upd{t:Addr}{H:Hp}(o:HO):Kept t H (upd H t o):=fun b u n e=>by rw[ak n];exact e
inductive Tn(H:Hp)(t:Addr)(n:Nat)(c:Int):Prop
 |mk (cells:List Int) (_:H t=some (.lst (.int c::aC cells))) (_:cells.length=n)
theorem Kept.tups{t:Addr}{H H':Hp}{n:Nat}{c:Int}(k:Kept t H H')(h:Tn H t n c):bV H H':=fun b xs e=>by
 obtain⟨cells,h,_⟩:=h
 exact k b _ (nR e h (by intro z;cases z)) e
theorem Kept.vm{t:Addr}{H H':Hp}{n:Nat}{c:Int}(k:Kept t H H')(h:Tn H t n c){a:Addr}{ns:List Int}(s:qv K H a ns):qv K H' a ns:=by
 obtain⟨cells,h,_⟩:=h
 rcases s with⟨o,s⟩|s
 ·exact .inl ⟨o,k a _ (nR s h (by intro z;cases z)) s⟩
 ·exact .inr s
theorem Tn.same{t:Addr}{H H':Hp}{n:Nat}{c:Int}(s:aw H H')(h:Tn H t n c):Tn H' t n c:=by
 obtain⟨cells,h,l⟩:=h
 exact⟨cells,s _ _ h,l⟩
theorem Tn.ne{t p:Addr}{H:Hp}{n:Nat}{c:Int}(h:Tn H t n c)(hp:H p=none):p≠t:=by
 obtain⟨cells,h,l⟩:=h
 exact(ay h hp).symm
theorem dj(ns:List Int):(aC ns).length=ns.length:=List.length_map _
theorem nJ{ns:List Int}{i:Nat}(h:i<ns.length):(aC ns)[i]? =some (.int ns[i]):=by unfold aC;rw[List.getElem?_map,List.getElem?_eq_getElem h];rfl
theorem xH(ns:List Int)(i:Nat)(z:Int):(aC ns).set i (.int z)=aC (ns.set i z):=by unfold aC;rw[List.map_set]
inductive B5(K:PySem.W.Frag)(vs:List V)(H:Hp)(Q:VK)(fG:XK):Prop
 |mk (a ns:_) (_:vs= [.ref a]) (_:qv K H a ns) (_:ns.length<=63) (_: ∀t H',aw H H'->H t=none->Tn H' t ns.length 0->Q (.ref t) H')
theorem Hh:av ["_law_script"] ["_law_script"] (am BM):=⟨rfl,rfl,rfl,by decide+kernel,rfl,by decide+kernel,by decide+kernel⟩
theorem DC{f:Addr}{fd:FuncData}(F:cE K "_law_town" "_law_town" BM f fd)(T:Tx mg):aI P w K mg base br 1 f fd ["_law_script"] (B5 K):=by
 refine F.ok Hh (fun vs H Q E h=> ?_) (fun cdv A outer s H vs Q E hr h=> ?_)
 ·obtain⟨a,ns,rfl,_⟩:=h;rfl
 obtain⟨a,ns,rfl,hs,h63,q⟩:=h
 refine⟨_,(ap (aE (bp lT (bS (aa au af)) (bf fK rfl T.list boot_list (aa (pv 0) af))))),?_⟩
 refine⟨(by show 1<=sizeLine;decide),fun p hp=> ?_⟩
 have s1:aw H (upd H p (.lst [.int 0])):=ah hp _
 refine⟨_,rfl,a,_,rfl,.inl (s1.seq hs.sql),fun p2 hp2=> ?_⟩
 have s2:=ah hp2 (.lst (aC ns))
 refine⟨p,p2,_,_,rfl,rfl,s2 _ _ ac,ac,?_,fun t ht=> ?_⟩
 ·rw[dj];exact small (by simp;omega)
 exact q t _ (s1.trans (s2.trans (ah ht _))) (s1.free (s2.free ht)) ⟨ns,ac,rfl⟩
structure Dr(K:PySem.W.Frag)(H:Hp)(a t:Addr)(ns:List Int)(c:Int):Prop where
 vm:qv K H a ns
 tn:Tn H t ns.length c
 h63:ns.length<=63
 c0:0<=c
 c1:c<2^40
inductive mB(K:PySem.W.Frag)(vs:List V)(H:Hp)(Q:VK)(fG:XK):Prop
 |mk (a t ns c m:_) (_:vs= [.ref a,.ref t,.int m]) (_:Dr K H a t ns c) (_:1<=m) (_:m<=1000000) (_: ∀d H',0<=d->d<m->Kept t H H'->Tn H' t ns.length (c+1)->Q (.int d) H')
theorem mw:av ["_law_script", "_law_town_here", "_law_many", "_law_at", "_law_left", "_law_number"] ["_law_script", "_law_town_here", "_law_many"] (am BD):=⟨rfl,rfl,rfl,by decide+kernel,rfl,by decide+kernel,by decide+kernel⟩
theorem Dt{f:Addr}{fd:FuncData}(F:cE K "_law_draw" "_law_draw" BD f fd)(T:Tx mg):aI P w K mg base br 1 f fd ["_law_script", "_law_town_here", "_law_many"] (mB K):=by
 refine F.ok mw (fun vs H Q E h=> ?_) (fun cdv A outer s H vs Q E hr h=> ?_)
 ·obtain⟨a,t,ns,c,m,rfl,_⟩:=h;rfl
 obtain⟨a,t,ns,c,m,rfl,dr,m1,m2,q⟩:=h
 have hu:=hr.HI
 refine⟨_,(ag (uV (bp fQ (aK bm (pv 1) au (fun _ _=>rfl)) au) (Bd (pv 1) au set_list))
  (ag (bL (aP (wu hu) (pv 0) (bS af) (aY _)) (ap (aE (bp ip (bp kD (bp pL (bp pL (aK bm (pv 1) au (fun _ _=>rfl)) (aK bm (pv 1) au (fun _ _=>rfl))) au) au) (pv 2)))) aU)
  (ag (aJ (i:=3) mw.nd rfl (Or.inl rfl) (bp ip (aK bm (pv 1) au (fun _ _=>rfl)) (aA aR rfl T.len PySem.boot_len (aa (pv 0) af))))
  (ag (aJ (i:=4) mw.nd rfl (Or.inl rfl) (aK bm (pv 1) (bp fQ au (pv 3)) (fun _ _=>rfl)))
  (ag (bL (PW.pt (uW (aP JT (aK bm (pv 0) (pv 3) (fun _ _=>rfl)) (bp AY au au) (aY _)) (pS (aP nS (pv 4) au (aY _))))) (ag (uV (bp kD (pv 4) (pv 2)) (Bd (pv 1) (bp fQ au (pv 3)) set_list))
  (ap (aE (bp ip (pv 4) (pv 2))))) aU)
  (ag (aJ (i:=5) mw.nd rfl (Or.inl rfl) (bp ip (bp fQ (aK bm (pv 0) (pv 3) (fun _ _=>rfl)) (bp pL au (aK bm (pv 1) au (fun _ _=>rfl)))) au))
  (ag (aJ (i:=5) mw.nd rfl (Or.inl rfl) (bp ip (bp AY (pv 5) au) au))
  (ap (aE (bp ip (bp kD (bp ip (bp fQ (bp pL (bp kD (pv 5) au) au) (pv 5)) au) au) (pv 2))))))))))),?_⟩
 obtain⟨cells,ht,lc⟩:=dr.tn
 have c0:=dr.c0
 have c1:=dr.c1
 have h63:=dr.h63
 have zd: ∀ (z:Int) (zs:List V),tq (V.int z::zs) 0=some (.int z):=fun z zs=>bc (j:=0) rfl
 refine⟨_,rfl,t,_,0,_,rfl,rfl,aN.of ht,zd _ _,_,_,rfl,rfl,_,rfl,t,_,0,0,rfl,rfl,ht,?_,?_⟩
 ·show xL (V.int c::aC cells).length 0=some 0
  unfold xL;rw[if_pos (by decide),if_pos (by simp)];rfl
 have h1:upd H t (.lst ((V.int c::aC cells).set 0 (.int (c+1)))) t=some (.lst (.int (c+1)::aC cells)):=ac
 have k1:Kept t H (upd H t (.lst ((V.int c::aC cells).set 0 (.int (c+1))))):=Kept.upd _
 generalize upd H t (.lst ((V.int c::aC cells).set 0 (.int (c+1))))=H1 at h1 k1⊢
 have OV:qv K H1 a ns:=k1.vm dr.tn dr.vm
 have mpos:0<m:=by omega
 refine⟨_,rfl,(by show 0<=sizeLine;decide),fun e he=> ?_⟩
 have s2:aw H1 (upd H1 e (.lst [])):=ah he _
 refine⟨a,e,_,rfl,rfl,s2.seq OV.sql,aN.of ac,_,rfl,?_⟩
 have h2:=s2 _ _ h1
 have k2:=k1.trans (Kept.of (t:=t) s2)
 have Kg:aN K (upd H1 e (.lst [])) a (aC ns):=s2.seq OV.sql
 generalize upd H1 e (.lst [])=H2 at h2 k2 Kg⊢
 have El:Tn H2 t ns.length (c+1):=⟨cells,h2,lc⟩
 have p1:(0:Int)<4294967291:=by decide
 have p2:(0:Int)<4294967279:=by decide
 have p3:(0:Int)<4294967231:=by decide
 refine bY (fun hz=> ?_) (fun hz=> ?_)
 ·refine⟨_,rfl,t,_,0,_,rfl,rfl,aN.of h2,zd _ _,_,rfl,t,_,0,_,rfl,rfl,aN.of h2,zd _ _,_,_,rfl,rfl,.inl ⟨by omega,by omega⟩,_,_,rfl,rfl,.inr ⟨by decide,by decide⟩,_,_,rfl,rfl,⟨by decide,by decide⟩,_,rfl,_,_,rfl,rfl,mpos,?_⟩
  exact q _ H2 (Int.emod_nonneg _ (by omega)) (Int.emod_lt_of_pos _ mpos) k2 El
 ·have hlen:0<ns.length:=by
   cases ns with
   |nil=>exact absurd rfl hz
   |cons=>simp
  refine⟨_,rfl,t,_,0,_,rfl,rfl,aN.of h2,zd _ _,_,rfl,a,_,rfl,.inl Kg,_,_,rfl,rfl,?_,?_⟩
  ·rw[dj];omega
  rw[dj]
  have i0:=Int.emod_nonneg (c+1) (by omega:(ns.length:Int)≠0)
  have i1:=Int.emod_lt_of_pos (c+1) (by omega:(0:Int)<ns.length)
  obtain⟨j,hj⟩: ∃j:Nat,(c+1) % (ns.length:Int)=(j:Int):=⟨((c+1) % (ns.length:Int)).toNat,by omega⟩
  rw[hj]at i0 i1
  have hjl:j<ns.length:=by omega
  have QM:j<cells.length:=by omega
  have Ly:tq (aC ns) ((c+1) % (ns.length:Int))=some (.int ns[j]):=by rw[hj];exact bc (nJ hjl)
  have P5:(1:Int)+(j:Int)=((j+1:Nat):Int):=by omega
  have Pn:tq (V.int (c+1)::aC cells) (1+(c+1) % (ns.length:Int))=some (.int cells[j]):=by rw[hj,P5];exact bc (by simpa using nJ QM)
  refine⟨_,rfl,_,rfl,_,_,rfl,rfl,t,_,_,_,rfl,rfl,aN.of h2,Pn,?_⟩
  refine⟨_,rfl,_,rfl,a,_,_,_,rfl,rfl,Kg,Ly,_,_,rfl,rfl,⟨by decide,by decide,by decide⟩,_,_,rfl,rfl,_,rfl,bY (fun c3=>⟨_,rfl,_,_,rfl,rfl,_,rfl,bY (fun c4=> ?_) (fun c4=> ?_)⟩) (fun c3=>bO ?_)⟩
  ·have hpos:(0:Int)<cells[j]:=of_decide_eq_true c4
   refine⟨_,rfl,_,rfl,_,_,rfl,rfl,⟨mpos,by omega⟩,_,rfl,_,rfl,_,_,rfl,rfl,t,_,_,j+1,rfl,rfl,h2,?_,?_⟩
   ·show xL (V.int (c+1)::aC cells).length (1+(c+1) % (ns.length:Int))=some (j+1)
    rw[hj]
    unfold xL
    rw[if_pos (by omega),if_pos (by rw[List.length_cons,dj];omega)]
    congr 1;omega
   ·refine⟨_,rfl,_,rfl,_,_,rfl,rfl,mpos,?_⟩
    refine q _ _ (Int.emod_nonneg _ (by omega)) (Int.emod_lt_of_pos _ mpos) (k2.trans (Kept.upd _)) ⟨cells.set j (cells[j] /m),?_,by rw[List.length_set];exact lc⟩
    rw[<-xH];exact ac
  ·refine⟨_,rfl,_,rfl,a,_,_,_,rfl,rfl,Kg,Ly,_,rfl,t,_,0,_,rfl,rfl,aN.of h2,zd _ _,_,_,rfl,rfl,.inr ⟨by omega,by omega⟩,_,_,rfl,rfl,_,_,rfl,rfl,p1,?_⟩
   have y0:=Int.emod_nonneg (ns[j]+104729*(c+1)) (by decide:(4294967291:Int)≠0)
   have y1:=Int.emod_lt_of_pos (ns[j]+104729*(c+1)) (by decide:(0:Int)<4294967291)
   refine⟨_,rfl,_,_,rfl,rfl,⟨by decide,by decide,by omega⟩,_,_,rfl,rfl,p2,?_⟩
   refine⟨_,rfl,_,_,rfl,rfl,⟨by decide,by decide⟩,_,_,rfl,rfl,.inr ⟨by decide,by decide⟩,_,rfl,_,_,rfl,rfl,_,_,rfl,rfl,p3,_,_,rfl,rfl,⟨by decide,by decide⟩,_,rfl,_,_,rfl,rfl,mpos,?_⟩
   exact q _ H2 (Int.emod_nonneg _ (by omega)) (Int.emod_lt_of_pos _ mpos) k2 El
  ·refine⟨_,rfl,_,rfl,a,_,_,_,rfl,rfl,Kg,Ly,_,rfl,t,_,0,_,rfl,rfl,aN.of h2,zd _ _,_,_,rfl,rfl,.inr ⟨by omega,by omega⟩,_,_,rfl,rfl,_,_,rfl,rfl,p1,?_⟩
   have y0:=Int.emod_nonneg (ns[j]+104729*(c+1)) (by decide:(4294967291:Int)≠0)
   have y1:=Int.emod_lt_of_pos (ns[j]+104729*(c+1)) (by decide:(0:Int)<4294967291)
   refine⟨_,rfl,_,_,rfl,rfl,⟨by decide,by decide,by omega⟩,_,_,rfl,rfl,p2,?_⟩
   refine⟨_,rfl,_,_,rfl,rfl,⟨by decide,by decide⟩,_,_,rfl,rfl,.inr ⟨by decide,by decide⟩,_,rfl,_,_,rfl,rfl,_,_,rfl,rfl,p3,_,_,rfl,rfl,⟨by decide,by decide⟩,_,rfl,_,_,rfl,rfl,mpos,?_⟩
   exact q _ H2 (Int.emod_nonneg _ (by omega)) (Int.emod_lt_of_pos _ mpos) k2 El
end
end W2
namespace W2
open PySem PySem.Spec PyProof.Rows K2 L2
section
variable{P:Program}{w:World}{K:PySem.W.Frag}{mg:Str->Option Value}{base:Heap}
theorem Dr.same{H H':Hp}{a t:Addr}{ns:List Int}{c:Int}(s:aw H H')(d:Dr K H a t ns c):Dr K H' a t ns c:=⟨(Kept.of s).vm d.tn d.vm,d.tn.same s,d.h63,d.c0,d.c1⟩
inductive B3(K:PySem.W.Frag)(vs:List V)(H:Hp)(Q:VK)(fG:XK):Prop
 |mk (a t ns c l xs:_) (_:vs= [.ref a,.ref t,.ref l]) (_:Dr K H a t ns c) (_:l≠t) (_:H l=some (.lst xs)) (_:1<=xs.length) (_:xs.length<=1000) (_: ∀x H',x∈xs->Kept t H H'->Tn H' t ns.length (c+1)->Q x H')
theorem He:av ["_law_script", "_law_town_here", "_law_some"] ["_law_script", "_law_town_here", "_law_some"] (am BI):=⟨rfl,rfl,rfl,by decide+kernel,rfl,by decide+kernel,by decide+kernel⟩
theorem Dy{f:Addr}{fd:FuncData}(F:cE K "_law_pick" "_law_pick" BI f fd)(T:Tx mg)(hd:f9 P w K mg base br 1 "_law_draw" ["_law_script", "_law_town_here", "_law_many"] (mB K)):aI P w K mg base br 2 f fd ["_law_script", "_law_town_here", "_law_some"] (B3 K):=by
 refine F.ok He (fun vs H Q E h=> ?_) (fun cdv A outer s H vs Q E hr h=> ?_)
 ·obtain⟨a,t,ns,c,l,xs,rfl,_⟩:=h;rfl
 obtain⟨a,t,ns,c,l,xs,rfl,d,hlt,hl,h1,h2,q⟩:=h
 refine⟨_,(ap (aE (aK bm (pv 2) (aF hd hr rfl aD (aa (pv 0) (aa (pv 1) (aa (aA aR rfl T.len PySem.boot_len (aa (pv 2) af)) af)))) (fun _ _=>rfl)))),?_⟩
 refine⟨_,rfl,_,rfl,_,rfl,_,rfl,l,_,rfl,.inl (aN.of hl),a,t,ns,c,_,rfl,d,by omega,by omega,fun z H' z0 z1 k tn=> ?_⟩
 obtain⟨j,rfl⟩: ∃j:Nat,z=(j:Int):=⟨z.toNat,by omega⟩
 have hj:j<xs.length:=by omega
 refine⟨l,xs,_,xs[j],rfl,rfl,aN.of (k _ _ hlt hl),bc (List.getElem?_eq_getElem hj),q _ H' (List.getElem_mem hj) k tn⟩
theorem sA:("a":Str)=S [97]:=by decide+kernel
end
end W2
namespace W2
open PySem PySem.Spec PyProof.Rows K2 L2
abbrev pZ:Stmt:=top 48
abbrev iA:Stmt:=top 49
section
variable{P:Program}{w:World}{K:PySem.W.Frag}{mg:Str->Option Value}{base:Heap}
theorem jg{X:Cx}{st:List Stmt}:vF X st (fun _ _ _=>False):=fun _ _ _ _ _ _ h=>h.elim
inductive sJ(f:PV->Bool)(vs:List V)(H:Hp)(Q:VK)(fG:XK):Prop
 |mk (p v:_) (_:vs= [v]) (_:Rep H p v) (_:f p=true) (_: ∀H',aw H H'->Q .aH H')
theorem sK{f:PV->Bool}(vs:List V)(H:Hp)(Q:VK)(E:XK)(h:sJ f vs H Q E):vs.length=1:=by obtain⟨p,v,rfl,_⟩:=h;rfl
theorem D3:av ["thing"] ["thing"] (am u8):=⟨rfl,rfl,rfl,by decide+kernel,rfl,by decide+kernel,by decide+kernel⟩
theorem AJ{f:Addr}{fd:FuncData}(F:cE K "check_program" "check_program" u8 f fd)(hp:jv P w K mg base 7 "is_program" dZ):aI P w K mg base br 8 f fd ["thing"] (sJ dZ):=by
 refine F.ok D3 sK (fun cdv A outer s H vs Q E hr h=> ?_)
 obtain⟨p,v,rfl,rp,e,q⟩:=h
 refine⟨_,ap (bL (dH (cp (aF hp hr rfl aD (aa (pv 0) af)))) jg aU),?_⟩
 refine⟨_,rfl,p,v,rfl,rp,fun H' sm=>⟨_,rfl,?_⟩⟩
 rw[e]
 exact bO (q H' sm)
def dG:PV->Bool
 | .at .aH=>true
 | .at (.int i)=>decide (0<=i) &&decide (i<=99)
 |_=>false
theorem BR:av ["thing"] ["thing"] (am pZ):=⟨rfl,rfl,rfl,by decide+kernel,rfl,by decide+kernel,by decide+kernel⟩
theorem yj{f:Addr}{fd:FuncData}(F:cE K "is_room" "is_room" pZ f fd)(LH: ∃t,mg "MOST_ROOM"=some (.int 99 t))(hw:jv P w K mg base 1 "is_whole" isWhole):aI P w K mg base br 2 f fd ["thing"] (B0 dG):=by
 refine F.ok BR eY (fun cdv A outer s H vs Q E hr h=> ?_)
 obtain⟨p,v,rfl,rp,q⟩:=h
 obtain⟨t9,e9⟩:=LH
 refine⟨_,ap (aE (Bb (pO (ir (pv 0))) (fg (iu (aF hw hr rfl aD (aa (pv 0) af)) (fg (lW gu gu au (pv 0) (cc rfl e9 (v:= .int 99) ⟨_,rfl⟩))))))),?_⟩
 obtain⟨t,ty,c⟩:=rp.ty (K:=K)
 rcases c with⟨ss,rfl,rfl⟩|⟨i,rfl,rfl⟩|⟨x,rfl,rfl⟩|⟨rfl,rfl⟩
 ·obtain⟨a,vs,rfl,ha,rs⟩:=rp.tup
  exact⟨_,rfl,_,rfl,bO ⟨_,rfl,_,_,rfl,rp,fun H' sm=>⟨_,rfl,bO (q H' sm)⟩⟩⟩
 ·cases(show v= .int i from rp)
  refine⟨_,rfl,_,rfl,bO ⟨_,rfl,_,_,rfl,rp,fun H' sm=>⟨_,rfl,ce ⟨_,rfl,_,_,rfl,rfl,_,rfl,bY (fun c=>⟨_,_,rfl,rfl,?_⟩) (fun c=> ?_)⟩⟩⟩⟩
  ·have fin:=q H' sm
   have e:dG (.at (.int i))=decide (i<=99):=by show(decide (0<=i) &&decide (i<=99))=_;rw[c];rfl
   rw[e]at fin;exact fin
  ·have fin:=q H' sm
   have e:dG (.at (.int i))=false:=by show(decide (0<=i) &&decide (i<=99))=_;rw[Bool.eq_false_iff.mpr c];rfl
   rw[e]at fin;exact fin
 ·cases(show v= .str (S x)/\x.length<=1000000 from rp).1
  exact⟨_,rfl,_,rfl,bO ⟨_,rfl,.at (.str x),_,rfl,rp,fun H' sm=>⟨_,rfl,bO (q H' sm)⟩⟩⟩
 ·cases(show v= .aH from rp)
  exact⟨_,rfl,_,rfl,ce (q H (aw.refl H))⟩
theorem sC:av ["thing"] ["thing"] (am iA):=⟨rfl,rfl,rfl,by decide+kernel,rfl,by decide+kernel,by decide+kernel⟩
theorem pJ{f:Addr}{fd:FuncData}(F:cE K "check_room" "check_room" iA f fd)(hp:jv P w K mg base 2 "is_room" dG):aI P w K mg base br 3 f fd ["thing"] (sJ dG):=by
 refine F.ok sC sK (fun cdv A outer s H vs Q E hr h=> ?_)
 obtain⟨p,v,rfl,rp,e,q⟩:=h
 refine⟨_,ap (bL (dH (cp (aF hp hr rfl aD (aa (pv 0) af)))) jg aU),?_⟩
 refine⟨_,rfl,p,v,rfl,rp,fun H' sm=>⟨_,rfl,?_⟩⟩
 rw[e]
 exact bO (q H' sm)
end
end W2
namespace W2
open PySem PySem.Spec PyProof.Rows K2 L2
section
variable{P:Program}{w:World}{K:PySem.W.Frag}{mg:Str->Option Value}{base:Heap}
end
end W2
namespace W2
open PySem PySem.Spec PyProof.Rows K2 L2
abbrev fh:Stmt:=top 9
abbrev vc:Stmt:=inClass fh 2
abbrev u6:Stmt:=inClass fh 3
abbrev gN:Stmt:=inClass fh 4
abbrev BF:Stmt:=inClass fh 5
structure ba(K:PySem.W.Frag)(C:Addr):Prop where
 cl:vC K C
 no: ∀f∈(["rows", "waiting", "held", "said", "sends_done", "takes_done", "posted", "tickets", "arrived", "met"]:List Str),bh K C f
section
variable{P:Program}{w:World}{K:PySem.W.Frag}{mg:Str->Option Value}{base:Heap}
theorem ba.rows{C:Addr}(h:ba K C):bh K C "rows":=h.no _ (by simp)
theorem ba.waiting{C:Addr}(h:ba K C):bh K C "waiting":=h.no _ (by simp)
inductive gQ(C:Addr)(vs:List V)(H:Hp)(Q:VK)(fG:XK):Prop
 |mk (x dx fs r xs:_) (_:vs= [.ref x]) (_:H x=some (.ins C dx fs)) (_:fs.lookup ("rows":Str)=some (.ref r)) (_:H r=some (.tup xs)) (_:Q (.bl (decide (xs.length=0))) H)
theorem D5:av ["self"] ["self"] (am vc):=⟨rfl,rfl,rfl,by decide+kernel,rfl,by decide+kernel,by decide+kernel⟩
theorem AN{f C:Addr}{fd:FuncData}(F:cE K "has_ended" "Hand.has_ended" vc f fd)(T:Tx mg)(hC:ba K C):aI P w K mg base br 1 f fd ["self"] (gQ C):=by
 refine F.ok D5 (fun vs H Q E h=> ?_) (fun cdv A outer s H vs Q E hr h=> ?_)
 ·obtain⟨_,_,_,_,_,rfl,_⟩:=h;rfl
 obtain⟨x,dx,fs,r,xs,rfl,hx,hl,hrr,q⟩:=h
 refine⟨_,ap (aE (dO hJ (aA aR rfl T.len boot_len (aa (bq (pv 0) rfl) af)) au (aY _))),?_⟩
 refine⟨_,rfl,x,C,dx,fs,_,rfl,hx,hC.cl,hC.rows,hl,?_⟩
 refine⟨r,xs,rfl,.inr (bn.of hrr),?_⟩
 have e:decide (V.int (xs.length:Int)=V.int 0)=decide (xs.length=0):=decide_eq_decide.mpr ⟨fun z=>by injection z with z;omega,fun z=>by rw[z];rfl⟩
 refine⟨rfl,?_⟩
 show Q (.bl (decide (V.int (xs.length:Int)=V.int 0))) H
 rw[e];exact q
inductive qi(C:Addr)(vs:List V)(H:Hp)(Q:VK)(fG:XK):Prop
 |mk (x dx fs r xs wv:_) (_:vs= [.ref x]) (_:H x=some (.ins C dx fs)) (_:fs.lookup ("rows":Str)=some (.ref r)) (_:H r=some (.tup xs)) (_:fs.lookup ("waiting":Str)=some wv) (_:fs.lookup ("has_ended":Str)=none) (_:Q (.bl (decide (wv= .aH) && !decide (xs.length=0))) H)
theorem D1:av ["self"] ["self"] (am u6):=⟨rfl,rfl,rfl,by decide+kernel,rfl,by decide+kernel,by decide+kernel⟩
theorem AH{f g C:Addr}{fd gd:FuncData}(F:cE K "can_go" "Hand.can_go" u6 f fd)(hC:ba K C)(hm:Meth K C "has_ended" g)(hg:aI P w K mg base br 1 g gd ["self"] (gQ C))(hb:Binds K gd ["self"] []):aI P w K mg base br 2 f fd ["self"] (qi C):=by
 refine F.ok D1 (fun vs H Q E h=> ?_) (fun cdv A outer s H vs Q E hr h=> ?_)
 ·obtain⟨_,_,_,_,_,_,rfl,_⟩:=h;rfl
 obtain⟨x,dx,fs,r,xs,wv,rfl,hx,hl,hrr,hw,hn,q⟩:=h
 refine⟨_,ap (aE (iu (pO (ir (bq (pv 0) rfl))) (fg (Ba (bo (pv 0) hC.cl hm hg hr hb .nil aD))))),?_⟩
 refine⟨_,rfl,x,C,dx,fs,_,rfl,hx,hC.cl,hC.waiting,hw,_,rfl,bY (fun c=> ?_) (fun c=> ?_)⟩
 ·refine⟨_,rfl,x,dx,fs,rfl,hx,hn,x,dx,fs,r,xs,rfl,hx,hl,hrr,_,rfl,?_⟩
  rw[c]at q;exact q
 ·rw[Bool.eq_false_iff.mpr c]at q;exact q
inductive iE(C:Addr)(vs:List V)(H:Hp)(Q:VK)(fG:XK):Prop
 |mk (x dx fs r xs:_) (_:vs= [.ref x]) (_:H x=some (.ins C dx fs)) (_:fs.length<1000) (_:fs.lookup ("rows":Str)=some (.ref r)) (_:H r=some (.tup xs)) (_:(∃wv,fs.lookup ("waiting":Str)=some wv)) (_: ∀r' H',(H' r'=some (.tup (xs.drop 1)))->aw (upd H x (.ins C dx (bP "waiting" .aH fs))) H'->Q .aH (upd H' x (.ins C dx (bP "rows" (.ref r') (bP "waiting" .aH fs)))))
theorem Hc:av ["self"] ["self"] (am BF):=⟨rfl,rfl,rfl,by decide+kernel,rfl,by decide+kernel,by decide+kernel⟩
theorem lP(f:Str)(v:V): ∀fs:List (Str×V),(∃u,fs.lookup f=some u)->(bP f v fs).length=fs.length
 | [],h=>by obtain⟨u,hu⟩:=h;cases hu
 |(g,x)::r,h=>by
  unfold bP
  by_cases e:g=f
  ·rw[if_pos e];rfl
  ·rw[if_neg e]
   show(bP f v r).length+1=r.length+1
   obtain⟨u,hu⟩:=h
   rw[List.lookup_cons,show(f==g)=false from by simpa using fun z=>e z.symm]at hu
   rw[lP f v r ⟨u,hu⟩]
theorem Dw{f C:Addr}{fd:FuncData}(F:cE K "go_on" "Hand.go_on" BF f fd)(hC:ba K C):aI P w K mg base br 1 f fd ["self"] (iE C):=by
 refine F.ok Hc (fun vs H Q E h=> ?_) (fun cdv A outer s H vs Q E hr h=> ?_)
 ·obtain⟨_,_,_,_,_,rfl,_⟩:=h;rfl
 obtain⟨x,dx,fs,r,xs,rfl,hx,hf,hl,hrr,⟨wv,hw⟩,q⟩:=h
 refine⟨_,ag (bZ (pv 0) jL rfl) (ap (bZ (pv 0) (gv (sG K rfl) (bq (pv 0) rfl) (je au) jd) rfl)),?_⟩
 refine⟨_,rfl,x,C,dx,fs,rfl,hx,hC.cl,hC.waiting,hf,?_⟩
 have Rf:r≠x:=fun z=>by subst z;rw[hx]at hrr;cases hrr
 have e1:(bP "waiting" .aH fs).lookup ("rows":Str)=some (.ref r):=by rw[gp,if_neg (by decide+kernel)];exact hl
 have h1:upd H x (.ins C dx (bP "waiting" .aH fs)) r=some (.tup xs):=by rw[ak Rf];exact hrr
 refine⟨_,rfl,x,C,dx,_,_,rfl,ac,hC.cl,hC.rows,e1,?_⟩
 refine⟨1,rfl,r,xs,rfl,bn.of h1,fun b H' c=> ?_⟩
 have ec:gR xs (some 1) none=xs.drop 1:=by
  cases xs with
  |nil=>rfl
  |cons v vr=>exact qR v vr
 refine⟨_,rfl,x,C,dx,_,rfl,?_,hC.cl,hC.rows,by rw[lP _ _ _ ⟨_,hw⟩];exact hf,q b H' ?_ ?_⟩
 ·rcases c with⟨rfl,rfl,e⟩|⟨hb,rfl⟩
  ·exact ac
  ·exact ah hb _ _ _ ac
 ·rcases c with⟨rfl,rfl,e⟩|⟨hb,rfl⟩
  ·rw[h1,<-ec,e]
  ·rw[<-ec];exact ac
 ·rcases c with⟨rfl,rfl,e⟩|⟨hb,rfl⟩
  ·exact aw.refl _
  ·exact ah hb _
end
end W2
namespace W2
open PySem PySem.Spec PyProof.Rows K2 L2
abbrev qd:Stmt:=inClass fh 6
section
variable{P:Program}{w:World}{K:PySem.W.Frag}{mg:Str->Option Value}{base:Heap}
theorem ba.held{C:Addr}(h:ba K C):bh K C "held":=h.no _ (by simp)
def tJ:PV:= .tup [.at (.str (L "all"))]
inductive iF(C:Addr)(vs:List V)(H:Hp)(Q:VK)(fG:XK):Prop
 |mk (x dx fs wv p:_) (_:vs= [.ref x]) (_:H x=some (.ins C dx fs)) (_:fs.lookup ("waiting":Str)=some wv) (_:Rep H p wv) (_:dp p<=50) (_: ∀H',aw H H'->Q (.bl (decide (p=tJ))) H')
theorem vk:av ["self"] ["self"] (am gN):=⟨rfl,rfl,rfl,by decide+kernel,rfl,by decide+kernel,by decide+kernel⟩
theorem CB:(L "all").length<=1000000:=by decide+kernel
theorem rX{f C:Addr}{fd:FuncData}(F:cE K "waits_in_all" "Hand.waits_in_all" gN f fd)(hC:ba K C):aI P w K mg base br 1 f fd ["self"] (iF C):=by
 refine F.ok vk (fun vs H Q E h=> ?_) (fun cdv A outer s H vs Q E hr h=> ?_)
 ·obtain⟨_,_,_,_,_,rfl,_⟩:=h;rfl
 obtain⟨x,dx,fs,wv,p,rfl,hx,hl,rp,hd,q⟩:=h
 refine⟨_,ap (aE (dO AX (bq (pv 0) rfl) (bC (aa bB af)) (aY _))),?_⟩
 have hu:=hr.un
 have z1:1<=sizeLine:=by decide
 refine⟨_,rfl,x,C,dx,fs,_,rfl,hx,hC.cl,hC.waiting,hl,z1,fun l hl1=> ?_⟩
 have s1:=ah hl1 (.tup [.str "all"])
 refine⟨p,tJ,?_,s1.rep rp,⟨l,_,rfl,ac,_,_,rfl,⟨rfl,CB⟩,rfl⟩,q _ s1⟩
 show(A.deeper (envOfC _ (am gN) s.heap.objs.size f cdv)).units+_+_<cLine
 simp only[tJ,kq,dp];omega
inductive ql(C:Addr)(vs:List V)(H:Hp)(Q:VK)(fG:XK):Prop
 |mk (x dx fs d kvs v:_) (_:vs= [.ref x,v]) (_:H x=some (.ins C dx fs)) (_:fs.lookup ("held":Str)=some (.ref d)) (_:H d=some (.dK kvs)) (_:((∃i,v= .int i/\Q v H)\/(∃b,v= .str b/\Q ((fX kvs (.inr b)).getD (.int 0)) H)))
theorem Eb:av ["self", "thing"] ["self", "thing"] (am qd):=⟨rfl,rfl,rfl,by decide+kernel,rfl,by decide+kernel,by decide+kernel⟩
theorem AV{f C:Addr}{fd:FuncData}(F:cE K "worth" "Hand.worth" qd f fd)(T:Tx mg)(hC:ba K C):aI P w K mg base br 1 f fd ["self", "thing"] (ql C):=by
 refine F.ok Eb (fun vs H Q E h=> ?_) (fun cdv A outer s H vs Q E hr h=> ?_)
 ·obtain⟨_,_,_,_,_,_,rfl,_⟩:=h;rfl
 obtain⟨x,dx,fs,d,kvs,v,rfl,hx,hl,hd,q⟩:=h
 have hu:(A.deeper (envOfC "Hand.worth" (am qd) s.heap.objs.size f cdv)).units+1<cLine:=by have:=hr.un;omega
 refine⟨_,ap (aE (fz (cp (aA cf rfl T.Am boot_isinstance (aa (pv 1) (aa (cM rfl T.str boot_str (v:= .ty "str") rfl) af)))) (A6 hu (bq (pv 0) rfl) (pv 1) au ⟨rfl,rfl,rfl,rfl⟩) (pv 1))),?_⟩
 rcases q with⟨i,rfl,q⟩|⟨b,rfl,q⟩
 ·exact⟨_,rfl,_,_,_,_,_,rfl,.int i,fun u z=>z,jC,_,rfl,bO ⟨_,rfl,q⟩⟩
 ·exact⟨_,rfl,_,_,_,_,_,rfl,.str _,fun u z=>z,k_same _,_,rfl,ce ⟨_,rfl,x,C,dx,fs,_,rfl,hx,hC.cl,hC.held,hl,d,rfl,.inl ⟨kvs,.inl hd⟩,_,rfl,_,iM.k (k:= .inr b) hd,q⟩⟩
end
end W2
namespace W2
open PySem PySem.Spec PyProof.Rows K2 L2
abbrev vd:Stmt:=inClass fh 0
abbrev jj:Stmt:=inClass fh 8
section
variable{P:Program}{w:World}{K:PySem.W.Frag}{mg:Str->Option Value}{base:Heap}
theorem ba.said{C:Addr}(h:ba K C):bh K C "said":=h.no _ (by simp)
theorem ba.sends{C:Addr}(h:ba K C):bh K C "sends_done":=h.no _ (by simp)
theorem ba.takes{C:Addr}(h:ba K C):bh K C "takes_done":=h.no _ (by simp)
theorem ba.pQ{C:Addr}(h:ba K C):bh K C "posted":=h.no _ (by simp)
theorem ba.qp{C:Addr}(h:ba K C):bh K C "tickets":=h.no _ (by simp)
theorem ba.oW{C:Addr}(h:ba K C):bh K C "arrived":=h.no _ (by simp)
theorem ba.met{C:Addr}(h:ba K C):bh K C "met":=h.no _ (by simp)
structure Made(C dx x:Addr)(H H':Hp)(fs:List (Str×V))(as:List (Addr×HO)):Prop where
 ob:H' x=some (.ins C dx fs)
 at_: ∀p∈as,H' p.1=some p.2/\H p.1=none/\p.1≠x
 nd:(as.map (·.1)).Nodup
 old: ∀b o,b≠x->H b=some o->H' b=some o
theorem Made.put{C dx x:Addr}{H H':Hp}{fs fs':List (Str×V)}{as:List (Addr×HO)}(m:Made C dx x H H' fs as):Made C dx x H (upd H' x (.ins C dx fs')) fs' as:=
 ⟨ac,fun p hp=>⟨by rw[ak (m.at_ p hp).2.2];exact(m.at_ p hp).1,(m.at_ p hp).2⟩,m.nd,fun b o hb e=>by rw[ak hb];exact m.old b o hb e⟩
theorem Made.lay{C dx x p:Addr}{H H':Hp}{fs:List (Str×V)}{as:List (Addr×HO)}(m:Made C dx x H H' fs as)(hp:H' p=none)(o:HO):Made C dx x H (upd H' p o) fs ((p,o)::as):=by
 have hx:p≠x:=fun z=>by subst z;rw[m.ob]at hp;cases hp
 have hn: ∀q∈as,q.1≠p:=fun q hq z=>by have:=(m.at_ q hq).1;rw[z,hp]at this;cases this
 refine⟨by rw[ak hx.symm];exact m.ob,fun q hq=> ?_,?_,fun b o' hb e=> ?_⟩
 ·rcases List.mem_cons.mp hq with rfl|hq
  ·refine⟨ac,?_,hx⟩
   cases e:H p with
   |none=>rfl
   |some o'=>rw[m.old p o' hx e]at hp;cases hp
  ·exact⟨by rw[ak (hn q hq)];exact(m.at_ q hq).1,(m.at_ q hq).2⟩
 ·rw[List.map_cons,List.nodup_cons]
  refine⟨fun z=> ?_,m.nd⟩
  obtain⟨q,hq,e⟩:=List.mem_map.mp z
  exact hn q hq e
 ·have:b≠p:=fun z=>by subst z;rw[m.old b o' hb e]at hp;cases hp
  rw[ak this];exact m.old b o' hb e
def hf(rows waiting held said:V)(sd td:Int)(pQ qp oW met:V):List (Str×V):=
 [("rows",rows),("waiting",waiting),("held",held),("said",said),("sends_done",.int sd),("takes_done",.int td),("posted",pQ),("tickets",qp),("arrived",oW),("met",met)]
inductive wR(C:Addr)(vs:List V)(H:Hp)(Q:VK)(fG:XK):Prop
 |mk (x dx rows:_) (_:vs= [.ref x,rows]) (_:H x=some (.ins C dx [])) (_: ∀he sa po ti ar me H',Made C dx x H H' (hf rows .aH (.ref he) (.ref sa) 0 0 (.ref po) (.ref ti) (.ref ar) (.ref me)) [(me,.lst []),(ar,.dK []),(ti,.dK []),(po,.dK []),(sa,.lst []),(he,.dK [])]->Q .aH H')
theorem D6:av ["self", "rows"] ["self", "rows"] (am vd):=⟨rfl,rfl,rfl,by decide+kernel,rfl,by decide+kernel,by decide+kernel⟩
theorem cq(f:Str)(v:V): ∀fs:List (Str×V),f∉fs.map (·.1)->bP f v fs=fs++ [(f,v)]
 | [],_=>rfl
 |(g,x)::r,h=>by
  have h1: ¬g=f:=fun z=>h (by rw[z];exact List.mem_cons_self)
  unfold bP
  rw[if_neg h1,cq f v r (fun z=>h (List.mem_cons_of_mem _ z))];rfl
theorem AO{f C:Addr}{fd:FuncData}(F:cE K "__init__" "Hand.__init__" vd f fd)(hC:ba K C):aI P w K mg base br 1 f fd ["self", "rows"] (wR C):=by
 refine F.ok D6 (fun vs H Q E h=> ?_) (fun cdv A outer s H vs Q E hr h=> ?_)
 ·obtain⟨_,_,_,rfl,_⟩:=h;rfl
 obtain⟨x,dx,rows,rfl,hx,q⟩:=h
 refine⟨_,ag (bZ (pv 0) (pv 1) rfl) (ag (bZ (pv 0) jL rfl) (ag (bZ (pv 0) ja rfl) (ag (bZ (pv 0) (bS af) rfl) (ag (bZ (pv 0) au rfl) (ag (bZ (pv 0) au rfl) (ag (bZ (pv 0) ja rfl) (ag (bZ (pv 0) ja rfl) (ag (bZ (pv 0) ja rfl) (ap (bZ (pv 0) (bS af) rfl)))))))))),?_⟩
 have m0:Made C dx x H H [] []:=⟨hx,fun p hp=>(nomatch hp),List.nodup_nil,fun b o _ e=>e⟩
 have z0:0<=sizeLine:=Nat.zero_le _
 refine⟨_,rfl,_,rfl,x,C,dx,[],rfl,m0.ob,hC.cl,hC.rows,by decide,?_⟩
 rw[cq _ _ _ (by decide+kernel)]
 have m1:=m0.put (fs':= [("rows",rows)])
 refine⟨_,rfl,x,C,dx,_,rfl,m1.ob,hC.cl,hC.waiting,by simp,?_⟩
 rw[cq _ _ _ (show("waiting":Str) ∉ (["rows"]:List Str)by decide+kernel)]
 have m2:=m1.put (fs':= [("rows",rows),("waiting",.aH)])
 refine fun he QI=> ?_
 have l2:=m2.lay QI (.dK [])
 refine⟨_,rfl,x,C,dx,_,rfl,l2.ob,hC.cl,hC.held,by simp,?_⟩
 rw[cq _ _ _ (show("held":Str) ∉ (["rows", "waiting"]:List Str)by decide+kernel)]
 have m3:=l2.put (fs':= [("rows",rows),("waiting",.aH),("held",.ref he)])
 refine⟨z0,fun sa EQ=> ?_⟩
 have l3:=m3.lay EQ (.lst [])
 refine⟨_,rfl,x,C,dx,_,rfl,l3.ob,hC.cl,hC.said,by simp,?_⟩
 rw[cq _ _ _ (show("said":Str) ∉ (["rows", "waiting", "held"]:List Str)by decide+kernel)]
 have m4:=l3.put (fs':= [("rows",rows),("waiting",.aH),("held",.ref he),("said",.ref sa)])
 refine⟨_,rfl,x,C,dx,_,rfl,m4.ob,hC.cl,hC.sends,by simp,?_⟩
 rw[cq _ _ _ (show("sends_done":Str) ∉ (["rows", "waiting", "held", "said"]:List Str)by decide+kernel)]
 have m5:=m4.put (fs':= [("rows",rows),("waiting",.aH),("held",.ref he),("said",.ref sa),("sends_done",.int 0)])
 refine⟨_,rfl,x,C,dx,_,rfl,m5.ob,hC.cl,hC.takes,by simp,?_⟩
 rw[cq _ _ _ (show("takes_done":Str) ∉ (["rows", "waiting", "held", "said", "sends_done"]:List Str)by decide+kernel)]
 have m6:=m5.put (fs':= [("rows",rows),("waiting",.aH),("held",.ref he),("said",.ref sa),("sends_done",.int 0),("takes_done",.int 0)])
 refine fun po Q0=> ?_
 have l6:=m6.lay Q0 (.dK [])
 refine⟨_,rfl,x,C,dx,_,rfl,l6.ob,hC.cl,hC.pQ,by simp,?_⟩
 rw[cq _ _ _ (show("posted":Str) ∉ (["rows", "waiting", "held", "said", "sends_done", "takes_done"]:List Str)by decide+kernel)]
 have m7:=l6.put (fs':= [("rows",rows),("waiting",.aH),("held",.ref he),("said",.ref sa),("sends_done",.int 0),("takes_done",.int 0),("posted",.ref po)])
 refine fun ti hti=> ?_
 have l7:=m7.lay hti (.dK [])
 refine⟨_,rfl,x,C,dx,_,rfl,l7.ob,hC.cl,hC.qp,by simp,?_⟩
 rw[cq _ _ _ (show("tickets":Str) ∉ (["rows", "waiting", "held", "said", "sends_done", "takes_done", "posted"]:List Str)by decide+kernel)]
 have m8:=l7.put (fs':= [("rows",rows),("waiting",.aH),("held",.ref he),("said",.ref sa),("sends_done",.int 0),("takes_done",.int 0),("posted",.ref po),("tickets",.ref ti)])
 refine fun ar har=> ?_
 have l8:=m8.lay har (.dK [])
 refine⟨_,rfl,x,C,dx,_,rfl,l8.ob,hC.cl,hC.oW,by simp,?_⟩
 rw[cq _ _ _ (show("arrived":Str) ∉ (["rows", "waiting", "held", "said", "sends_done", "takes_done", "posted", "tickets"]:List Str)by decide+kernel)]
 have m9:=l8.put (fs':= [("rows",rows),("waiting",.aH),("held",.ref he),("said",.ref sa),("sends_done",.int 0),("takes_done",.int 0),("posted",.ref po),("tickets",.ref ti),("arrived",.ref ar)])
 refine⟨z0,fun me HW=> ?_⟩
 have l9:=m9.lay HW (.lst [])
 refine⟨_,rfl,x,C,dx,_,rfl,l9.ob,hC.cl,hC.met,by simp,?_⟩
 rw[cq _ _ _ (show("met":Str) ∉ (["rows", "waiting", "held", "said", "sends_done", "takes_done", "posted", "tickets", "arrived"]:List Str)by decide+kernel)]
 have MJ:=l9.put (fs':= [("rows",rows),("waiting",.aH),("held",.ref he),("said",.ref sa),("sends_done",.int 0),("takes_done",.int 0),("posted",.ref po),("tickets",.ref ti),("arrived",.ref ar),("met",.ref me)])
 exact q he sa po ti ar me _ MJ
inductive ow(C:Addr)(vs:List V)(H:Hp)(Q:VK)(fG:XK):Prop
 |mk (x dx:Addr) (fs:List (Str×V)) (d:Addr) (kvs:List (Key×V)) (n:Int) (wh mk bx:V) (_:vs= [.ref x,wh,mk,bx]) (_:H x=some (.ins C dx fs)) (_:fs.length<1000) (_:fs.lookup ("takes_done":Str)=some (.int n)) (_:fs.lookup ("posted":Str)=some (.ref d)) (_:H d=some (.dK kvs)) (_:kvs.length<sizeLine) (_: ∀l,H l=none->Q (.int n) (upd (upd (upd H l (.tup [wh,mk,bx])) d (.dK (putK kvs (.inl n) (.ref l)))) x (.ins C dx (bP "takes_done" (.int (n+1)) fs))))
theorem om:av ["self", "whence", "mark", "box", "number"] ["self", "whence", "mark", "box"] (am jj):=⟨rfl,rfl,rfl,by decide+kernel,rfl,by decide+kernel,by decide+kernel⟩
theorem uH{f C:Addr}{fd:FuncData}(F:cE K "add_take" "Hand.add_take" jj f fd)(hC:ba K C):aI P w K mg base br 1 f fd ["self", "whence", "mark", "box"] (ow C):=by
 refine F.ok om (fun vs H Q E h=> ?_) (fun cdv A outer s H vs Q E hr h=> ?_)
 ·obtain⟨_,_,_,_,_,_,_,_,_,rfl,_⟩:=h;rfl
 obtain⟨x,dx,fs,d,kvs,n,wh,mk,bx,rfl,hx,hf,ht,hp,hd,hk,q⟩:=h
 have hu:(A.deeper (envOfC "Hand.add_take" (am jj) s.heap.objs.size f cdv)).units+1<cLine:=by have:=hr.un;omega
 refine⟨_,ag (aJ (i:=4) om.nd rfl (Or.inl rfl) (bq (pv 0) rfl)) (ag (wD hu (bq (pv 0) rfl) (pv 4) (bC (aa (pv 1) (aa (pv 2) (aa (pv 3) af)))) rfl) (ag (yE (pv 0) au uh) (ap (aE (pv 4))))),?_⟩
 have z3:3<=sizeLine:=by decide
 refine⟨_,rfl,x,C,dx,fs,_,rfl,hx,hC.cl,hC.takes,ht,?_⟩
 refine⟨_,rfl,_,rfl,_,rfl,z3,fun l hl=> ?_⟩
 have s1:=ah hl (.tup [wh,mk,bx])
 have nd:x≠d:=fun z=>by subst z;rw[hx]at hd;cases hd
 refine⟨_,rfl,x,C,dx,fs,_,rfl,s1 _ _ hx,hC.cl,hC.pQ,hp,_,rfl,d,_,rfl,ib.k (k:= .inl n) (s1 _ _ hd) hk,?_⟩
 have h2:upd (upd H l (.tup [wh,mk,bx])) d (.dK (putK kvs (.inl n) (.ref l))) x=some (.ins C dx fs):=by rw[ak nd];exact s1 _ _ hx
 refine⟨_,rfl,x,C,dx,fs,_,rfl,h2,hC.cl,hC.takes,ht,n,1,rfl,rfl,dx,fs,h2,hf,?_⟩
 exact⟨_,rfl,q l hl⟩
end
end W2
namespace W2
open PySem PySem.Spec PyProof.Rows K2 L2
abbrev pW:Stmt:=top 11
abbrev va:Stmt:=top 17
section
variable{P:Program}{w:World}{K:PySem.W.Frag}{mg:Str->Option Value}{base:Heap}
inductive bX(P:Program)(w:World)(K:PySem.W.Frag)(mg:Str->Option Value)(base:Heap)(C:Addr)(k:Nat)(m:Str)(ps:List Str)(sp:Sp):Prop
 |mk (g gd:_) (_:Meth K C m g) (_:aI P w K mg base br k g gd ps sp) (_:Binds K gd ps [])
inductive kL(C:Addr)(vs:List V)(H:Hp)(Q:VK)(fG:XK):Prop
 |mk (x dx:Addr) (fs:List (Str×V)) (row:V) (_:vs= [.ref x,row]) (_:H x=some (.ins C dx fs)) (_:fs.length<1000) (_: ∀l,H l=none->Q .aH (upd (upd H l (.tup [.str "all"])) x (.ins C dx (bP "waiting" (.ref l) fs))))
theorem D4:av ["hand", "row"] ["hand", "row"] (am va):=⟨rfl,rfl,rfl,by decide+kernel,rfl,by decide+kernel,by decide+kernel⟩
theorem AL{f C:Addr}{fd:FuncData}(F:cE K "do_all" "do_all" va f fd)(hC:ba K C):aI P w K mg base br 1 f fd ["hand", "row"] (kL C):=by
 refine F.ok D4 (fun vs H Q E h=> ?_) (fun cdv A outer s H vs Q E hr h=> ?_)
 ·obtain⟨_,_,_,_,rfl,_⟩:=h;rfl
 obtain⟨x,dx,fs,row,rfl,hx,hf,q⟩:=h
 refine⟨_,ap (bZ (pv 0) (bC (aa bB af)) rfl),?_⟩
 have z1:1<=sizeLine:=by decide
 refine⟨z1,fun l hl=> ?_⟩
 exact⟨_,rfl,x,C,dx,fs,rfl,ah hl _ _ _ hx,hC.cl,hC.waiting,hf,q l hl⟩
inductive jr(C:Addr)(vs:List V)(H:Hp)(Q:VK)(fG:XK):Prop
 |mk (x dx:Addr) (fs:List (Str×V)) (d:Addr) (kvs:List (Key×V)) (n:Int) (r:Addr) (nm wh mk bx:V) (_:vs= [.ref x,.ref r]) (_:H r=some (.tup [nm,wh,mk,bx])) (_:H x=some (.ins C dx fs)) (_:fs.length<1000) (_:fs.lookup ("takes_done":Str)=some (.int n)) (_:fs.lookup ("posted":Str)=some (.ref d)) (_:H d=some (.dK kvs)) (_:kvs.length<sizeLine) (_:fs.lookup ("add_take":Str)=none) (_: ∀l l',H l=none->H l'=none->l≠l'->Q .aH (upd (upd (upd (upd (upd H l (.tup [wh,mk,bx])) d (.dK (putK kvs (.inl n) (.ref l)))) x (.ins C dx (bP "takes_done" (.int (n+1)) fs))) l' (.tup [.str "take",.int n])) x (.ins C dx (bP "waiting" (.ref l') (bP "takes_done" (.int (n+1)) fs)))))
theorem BN:av ["hand", "row"] ["hand", "row"] (am pW):=⟨rfl,rfl,rfl,by decide+kernel,rfl,by decide+kernel,by decide+kernel⟩
theorem yf{f C:Addr}{fd:FuncData}(F:cE K "do_take" "do_take" pW f fd)(hC:ba K C)(ha:bX P w K mg base C 1 "add_take" ["self", "whence", "mark", "box"] (ow C)):aI P w K mg base br 2 f fd ["hand", "row"] (jr C):=by
 obtain⟨g,gd,hm,hg,hb⟩:=ha
 refine F.ok BN (fun vs H Q E h=> ?_) (fun cdv A outer s H vs Q E hr h=> ?_)
 ·obtain⟨_,_,_,_,_,_,_,_,_,_,_,rfl,_⟩:=h;rfl
 obtain⟨x,dx,fs,d,kvs,n,r,nm,wh,mk,bx,rfl,hrr,hx,hf,ht,hp,hd,hk,hn,q⟩:=h
 refine⟨_,ap (bZ (pv 0) (bC (aa bB (aa (bQ (pv 0) hC.cl hm hg hr hb .nil aD (aa (aK (bF K rfl) (pv 1) au (fun _ _=>rfl)) (aa (aK (bF K rfl) (pv 1) au (fun _ _=>rfl)) (aa (aK (bF K rfl) (pv 1) au (fun _ _=>rfl)) af)))) af))) rfl),?_⟩
 have z2:2<=sizeLine:=by decide
 refine⟨_,rfl,x,dx,fs,rfl,hx,hn,_,rfl,r,_,1,_,rfl,rfl,bn.of hrr,rfl,_,rfl,r,_,2,_,rfl,rfl,bn.of hrr,rfl,_,rfl,r,_,3,_,rfl,rfl,bn.of hrr,rfl,?_⟩
 refine⟨x,dx,fs,d,kvs,n,wh,mk,bx,rfl,hx,hf,ht,hp,hd,hk,fun l hl=>⟨z2,fun l' hl'=> ?_⟩⟩
 have OE:l'≠x:=fun z=>by subst z;rw[ac]at hl';cases hl'
 have e1:=hl'
 rw[ak OE]at e1
 have nd:l'≠d:=fun z=>by subst z;rw[ac]at e1;cases e1
 rw[ak nd]at e1
 have nl:l'≠l:=fun z=>by subst z;rw[ac]at e1;cases e1
 rw[ak nl]at e1
 refine⟨_,rfl,x,C,dx,_,rfl,?_,hC.cl,hC.waiting,?_,q l l' hl e1 nl.symm⟩
 ·rw[ak OE.symm];exact ac
 ·rw[lP _ _ _ ⟨_,ht⟩];exact hf
end
end W2
namespace W2
open PySem PySem.Spec PyProof.Rows K2 L2
section
variable{P:Program}{w:World}{K:PySem.W.Frag}{mg:Str->Option Value}{base:Heap}
theorem vo{C:Addr}{vs:List V}{H:Hp}{Q Q':VK}{E E':XK}(h:iE C vs H Q E)(hq: ∀H',Q .aH H'->Q' .aH H'):iE C vs H Q' E':=by
 obtain⟨x,dx,fs,r,xs,h1,h2,h3,h4,h5,h6,q⟩:=h
 exact⟨x,dx,fs,r,xs,h1,h2,h3,h4,h5,h6,fun r' H' a b=>hq _ (q r' H' a b)⟩
end
end W2
namespace W2
open PySem PySem.Spec PyProof.Rows K2 L2
abbrev pX:Stmt:=top 14
section
variable{P:Program}{w:World}{K:PySem.W.Frag}{mg:Str->Option Value}{base:Heap}
def vG(kvs:List (Key×V))(v:V)(i:Int):Prop:=v= .int i\/ ∃b,v= .str b/\(fX kvs (.inr b)).getD (.int 0)= .int i
theorem B7{C:Addr}{x dx:Addr}{fs:List (Str×V)}{d:Addr}{kvs:List (Key×V)}{v:V}{i:Int}{H:Hp}{Q:VK}{E:XK}(hx:H x=some (.ins C dx fs))(hl:fs.lookup ("held":Str)=some (.ref d))(hd:H d=some (.dK kvs))(hw:vG kvs v i)(q:Q (.int i) H):ql C [.ref x,v] H Q E:=by
 refine⟨x,dx,fs,d,kvs,v,rfl,hx,hl,hd,?_⟩
 rcases hw with rfl|⟨b,rfl,e⟩
 ·exact .inl ⟨i,rfl,q⟩
 ·exact .inr ⟨b,rfl,by rw[e];exact q⟩
inductive js(C:Addr)(vs:List V)(H:Hp)(Q:VK)(E:XK):Prop
 |mk (x dx:Addr) (fs:List (Str×V)) (d sa:Addr) (kvs:List (Key×V)) (r:Addr) (nm th:V) (i:Int) (xs:List V) (_:vs= [.ref x,.ref r]) (_:H r=some (.tup [nm,th])) (_:H x=some (.ins C dx fs)) (_:fs.lookup ("held":Str)=some (.ref d)) (_:H d=some (.dK kvs)) (_:vG kvs th i) (_:fs.lookup ("said":Str)=some (.ref sa)) (_:H sa=some (.lst xs)) (_:xs.length<sizeLine) (_:fs.lookup ("worth":Str)=none) (_:fs.lookup ("go_on":Str)=none) (_:iE C [.ref x] (upd H sa (.lst (xs++ [.int i]))) Q E)
theorem BO:av ["hand", "row"] ["hand", "row"] (am pX):=⟨rfl,rfl,rfl,by decide+kernel,rfl,by decide+kernel,by decide+kernel⟩
theorem yg{f C:Addr}{fd:FuncData}(F:cE K "do_tell" "do_tell" pX f fd)(hC:ba K C)(ha:bX P w K mg base C 1 "worth" ["self", "thing"] (ql C))(hgo:bX P w K mg base C 1 "go_on" ["self"] (iE C)):aI P w K mg base br 2 f fd ["hand", "row"] (js C):=by
 obtain⟨g,gd,hm,hg,hb⟩:=ha
 obtain⟨g2,zg,hm2,gK,hb2⟩:=hgo
 refine F.ok BO (fun vs H Q E h=> ?_) (fun cdv A outer s H vs Q E hr h=> ?_)
 ·obtain⟨_,_,_,_,_,_,_,_,_,_,_,rfl,_⟩:=h;rfl
 obtain⟨x,dx,fs,d,sa,kvs,r,nm,th,i,xs,rfl,hrr,hx,hl,hd,hw,hs,EQ,hz,hn,hn2,q⟩:=h
 refine⟨_,ag (aT (i9 PySem.F.plainAttrs_list PySem.F.slot_list_append PySem.F.type_list_append dR (bq (pv 0) rfl) (aa (bQ (pv 0) hC.cl hm hg hr hb .nil aD (aa (aK (bF K rfl) (pv 1) au (fun _ _=>rfl)) af)) af))) (ap (aT (bo (pv 0) hC.cl hm2 gK hr hb2 .nil aD))),?_⟩
 have RY:sa≠x:=fun z=>by subst z;rw[hx]at EQ;cases EQ
 refine⟨_,rfl,x,C,dx,fs,_,rfl,hx,hC.cl,hC.said,hs,?_⟩
 refine⟨.inl ⟨rfl,_,aN.of EQ⟩,_,rfl,x,dx,fs,rfl,hx,hn,_,rfl,r,_,1,_,rfl,rfl,bn.of hrr,rfl,B7 hx hl hd hw ?_⟩
 refine⟨sa,xs,_,rfl,rfl,EQ,hz,?_⟩
 refine⟨_,rfl,x,dx,fs,rfl,(by rw[ak RY.symm];exact hx),hn2,?_⟩
 exact vo q fun H' z=>z
end
end W2
namespace W2
open PySem PySem.Spec PyProof.Rows K2 L2
inductive aB where
 |tell (i:Int)|all|take (w m:Int) (b:T)
 deriving DecidableEq
def aB.pv:aB->PV
 | .tell i=> .tup [.at (.str cZ),.at (.int i)]
 | .all=> .tup [.at (.str gU)]
 | .take w m b=> .tup [.at (.str cC),.at (.int w),.at (.int m),.at (.str b)]
inductive AW where
 |go|all|Ij (n:Nat)
 deriving DecidableEq
def AW.pv:AW->PV
 | .go=> .at .aH
 | .all=>tJ
 | .Ij n=> .tup [.at (.str cC),.at (.int n)]
structure HA where
 x:Addr
 dx:Addr
 he:Addr
 sa:Addr
 po:Addr
 ti:Addr
 ar:Addr
 me:Addr
 rows:List aB
 wt:AW
 said:List Int
 td:Nat
def HA.cells(g:HA):List Addr:= [g.x,g.he,g.sa,g.po,g.me]
def HA.fs(g:HA)(rv wv:V):List (Str×V):=hf rv wv (.ref g.he) (.ref g.sa) 0 g.td (.ref g.po) (.ref g.ti) (.ref g.ar) (.ref g.me)
def eZ(F:List Addr)(H H':Hp):Prop:= ∀b o,b∉F->H b=some o->H' b=some o
theorem eZ.trans{F:List Addr}{H H1 H2:Hp}(a:eZ F H H1)(b:eZ F H1 H2):eZ F H H2:=fun c o n e=>b c o n (a c o n e)
theorem eZ.of{F:List Addr}{H H':Hp}(s:aw H H'):eZ F H H':=fun b o _ e=>s b o e
theorem eZ.upd{F:List Addr}{H:Hp}{a:Addr}(h:a∈F)(o:HO):eZ F H (upd H a o):=fun b u n e=>by rw[ak (fun z=>n (by rw[z];exact h))];exact e
theorem eZ.mono{F G:List Addr}{H H':Hp}(h: ∀b∈F,b∈G)(k:eZ F H H'):eZ G H H':=fun b o n e=>k b o (fun z=>n (h b z)) e
theorem eI{H:Hp}{a:Addr}{o:HO}(e:H a=some o)(h: ∀xs,o≠ .tup xs)(o':HO):bV H (upd H a o'):=fun b xs z=>by
 have:b≠a:=fun w=>by subst w;rw[e]at z;exact h xs (Option.some.inj z)
 rw[ak this];exact z
theorem eB{l:List Addr}(h:l.Nodup)(i j:Nat){a b:Addr}(hi:l[i]? =some a)(hj:l[j]? =some b)(hij:i≠j):a≠b:=by
 rintro rfl
 obtain⟨h1,e1⟩:=List.getElem?_eq_some_iff.mp hi
 obtain⟨h2,e2⟩:=List.getElem?_eq_some_iff.mp hj
 rcases Nat.lt_or_gt_of_ne hij with hl|hl
 ·exact(List.pairwise_iff_getElem.mp h) i j h1 h2 hl (e1.trans e2.symm)
 ·exact(List.pairwise_iff_getElem.mp h) j i h2 h1 hl (e2.trans e1.symm)
structure bI(C:Addr)(H:Hp)(g:HA):Prop where
 ob: ∃rv wv,H g.x=some (.ins C g.dx (g.fs rv wv))/\Rep H (.tup (g.rows.map aB.pv)) rv/\Rep H g.wt.pv wv
 he:H g.he=some (.dK [])
 sa:H g.sa=some (.lst (aC g.said))
 po: ∃ps,H g.po=some (.dK ps)/\ps.length<=g.td
 me:H g.me=some (.lst [])
 nd:g.cells.Nodup
theorem DP(v a b c d:V)(e f:Int)(i j k l:V):bP "rows" v (hf a b c d e f i j k l)=hf v b c d e f i j k l:=by rfl
theorem iw(v a b c d:V)(e f:Int)(i j k l:V):bP "waiting" v (hf a b c d e f i j k l)=hf a v c d e f i j k l:=by rfl
theorem Bc(v:Int)(a b c d:V)(e f:Int)(i j k l:V):bP "takes_done" (.int v) (hf a b c d e f i j k l)=hf a b c d e v i j k l:=by rfl
section
variable{C:Addr}{H:Hp}{g:HA}{Q:VK}{E:XK}
theorem bI.ne(I:bI C H g)(i j:Nat){a b:Addr}(hi:g.cells[i]? =some a:=by rfl)(hj:g.cells[j]? =some b:=by rfl)(hij:i≠j:=by decide):a≠b:=eB I.nd i j hi hj hij
theorem bI.frame{H':Hp}(I:bI C H g)(t:bV H H')(e: ∀b∈g.cells,∀o,H b=some o->H' b=some o):bI C H' g:=by
 refine⟨?_,e _ (by simp[HA.cells]) _ I.he,e _ (by simp[HA.cells]) _ I.sa,?_,e _ (by simp[HA.cells]) _ I.me,I.nd⟩
 ·obtain⟨rv,wv,z,r1,r2⟩:=I.ob;exact⟨rv,wv,e _ (by simp[HA.cells]) _ z,t.rep r1,t.rep r2⟩
 ·obtain⟨ps,z,p⟩:=I.po;exact⟨ps,e _ (by simp[HA.cells]) _ z,p⟩
theorem bI.same{H':Hp}(I:bI C H g)(s:aw H H'):bI C H' g:=I.frame s.tups fun b _ o e=>s b o e
theorem bI.keep{H':Hp}{F:List Addr}(I:bI C H g)(t:bV H H')(k:eZ F H H')(h: ∀b∈g.cells,b∉F):bI C H' g:=I.frame t fun b hb o e=>k b o (h b hb) e
structure iP(C:Addr)(H:Hp)(g:HA)(H':Hp)(g':HA):Prop where
 is:bI C H' g'
 keep:eZ g.cells H H'
 tups:bV H H'
theorem iP.trans{H1 H2:Hp}{g1 g2:HA}(a:iP C H g H1 g1)(b:iP C H1 g1 H2 g2)(e:g1.cells=g.cells):iP C H g H2 g2:=⟨b.is,a.keep.trans (e▸b.keep),a.tups.trans b.tups⟩
theorem iP.same{H':Hp}(I:bI C H g)(s:aw H H'):iP C H g H' g:=⟨I.same s,eZ.of s,s.tups⟩
theorem iP.x(I:bI C H g){rows:List aB}{wt:AW}{td:Nat}{rv wv:V}(ht:g.td<=td)(r1:Rep H (.tup (rows.map aB.pv)) rv)(r2:Rep H wt.pv wv):iP C H g (upd H g.x (.ins C g.dx (hf rv wv (.ref g.he) (.ref g.sa) 0 td (.ref g.po) (.ref g.ti) (.ref g.ar) (.ref g.me)))) {g with rows:=rows,wt:=wt,td:=td}:=by
 have t:bV H (upd H g.x (.ins C g.dx (hf rv wv (.ref g.he) (.ref g.sa) 0 td (.ref g.po) (.ref g.ti) (.ref g.ar) (.ref g.me)))):=by
  obtain⟨_,_,z,_⟩:=I.ob;exact eI z (fun _ w=>by cases w) _
 refine⟨⟨⟨rv,wv,ac,t.rep r1,t.rep r2⟩,(ak (I.ne 1 0)).trans I.he,(ak (I.ne 2 0)).trans I.sa,?_,(ak (I.ne 4 0)).trans I.me,I.nd⟩,eZ.upd (by simp[HA.cells]) _,t⟩
 obtain⟨ps,z,p⟩:=I.po
 exact⟨ps,(ak (I.ne 3 0)).trans z,Nat.le_trans p ht⟩
theorem iP.sa(I:bI C H g)(ss:List Int):iP C H g (upd H g.sa (.lst (aC ss))) {g with said:=ss}:=by
 have t:bV H (upd H g.sa (.lst (aC ss))):=eI I.sa (fun _ w=>by cases w) _
 refine⟨⟨?_,(ak (I.ne 1 2)).trans I.he,ac,?_,(ak (I.ne 4 2)).trans I.me,I.nd⟩,eZ.upd (by simp[HA.cells]) _,t⟩
 ·obtain⟨rv,wv,z,r1,r2⟩:=I.ob;exact⟨rv,wv,(ak (I.ne 0 2)).trans z,t.rep r1,t.rep r2⟩
 ·obtain⟨ps,z,p⟩:=I.po;exact⟨ps,(ak (I.ne 3 2)).trans z,p⟩
theorem iP.po(I:bI C H g)(ps:List (Key×V)){td:Nat}(hp:ps.length<=td){rv wv:V}(r1:Rep H (.tup (g.rows.map aB.pv)) rv){wt:AW}(r2:Rep H wt.pv wv):
  iP C H g (upd (upd H g.po (.dK ps)) g.x (.ins C g.dx (hf rv wv (.ref g.he) (.ref g.sa) 0 td (.ref g.po) (.ref g.ti) (.ref g.ar) (.ref g.me)))) {g with wt:=wt,td:=td}:=by
 have t1:bV H (upd H g.po (.dK ps)):=by obtain⟨_,z,_⟩:=I.po;exact eI z (fun _ w=>by cases w) _
 have hx: ∃fs,upd H g.po (.dK ps) g.x=some (.ins C g.dx fs):=by obtain⟨_,_,z,_⟩:=I.ob;exact⟨_,(ak (I.ne 0 3)).trans z⟩
 have t2:bV (upd H g.po (.dK ps)) (upd (upd H g.po (.dK ps)) g.x (.ins C g.dx (hf rv wv (.ref g.he) (.ref g.sa) 0 td (.ref g.po) (.ref g.ti) (.ref g.ar) (.ref g.me)))):=by
  obtain⟨_,z⟩:=hx;exact eI z (fun _ w=>by cases w) _
 have t:=t1.trans t2
 refine⟨⟨⟨rv,wv,ac,t.rep r1,t.rep r2⟩,?_,?_,⟨ps,(ak (I.ne 3 0)).trans ac,hp⟩,?_,I.nd⟩,(eZ.upd (by simp[HA.cells]) _).trans (eZ.upd (by simp[HA.cells]) _),t⟩
 ·exact(ak (I.ne 1 0)).trans ((ak (I.ne 1 3)).trans I.he)
 ·exact(ak (I.ne 2 0)).trans ((ak (I.ne 2 3)).trans I.sa)
 ·exact(ak (I.ne 4 0)).trans ((ak (I.ne 4 3)).trans I.me)
theorem zu(I:bI C H g)(q: ∀H',iP C H g H' {g with rows:=g.rows.drop 1,wt:= .go}->Q .aH H'):iE C [.ref g.x] H Q E:=by
 obtain⟨rv,wv,hx,r1,r2⟩:=I.ob
 obtain⟨r,xs,rfl,hr,rr⟩:=r1.tup
 refine⟨g.x,g.dx,_,r,xs,rfl,hx,(by show 10<1000;decide),rfl,hr,⟨_,rfl⟩,fun r' H' h1 s=> ?_⟩
 have a1:=iP.x I (rows:=g.rows) (wt:= .go) (td:=g.td) (wv:= .aH) (Nat.le_refl _) r1 (by show V.aH= .aH;rfl)
 have e1:bP "waiting" .aH (g.fs (.ref r) wv)=hf (.ref r) .aH (.ref g.he) (.ref g.sa) 0 g.td (.ref g.po) (.ref g.ti) (.ref g.ar) (.ref g.me):=iw _ _ _ _ _ _ _ _ _ _ _
 rw[e1]at s⊢
 rw[DP]
 have a2:=a1.trans (iP.same a1.is s) rfl
 have a3:=a2.trans (iP.x a2.is (rows:=g.rows.drop 1) (wt:= .go) (td:=g.td) (rv:= .ref r') (wv:= .aH) (Nat.le_refl _) (by
  simp only[Rep]
  refine⟨r',_,rfl,h1,?_⟩
  rw[List.map_drop];exact(a2.tups.reps rr).drop 1) (by show V.aH= .aH;rfl)) rfl
 exact q _ a3
theorem Ft(I:bI C H g){i:Int}{rv:V}(hl:g.said.length<sizeLine)(rr:Rep H (aB.tell i).pv rv)(q: ∀H',iP C H g H' {g with rows:=g.rows.drop 1,wt:= .go,said:=g.said++ [i]}->Q .aH H'):js C [.ref g.x,rv] H Q E:=by
 obtain⟨r,vs,rfl,hr,rs⟩:=rr.tup
 obtain⟨rv,wv,hx,r1,r2⟩:=I.ob
 obtain⟨nm,vs,rfl,_,rs⟩:=(by simpa only[aq]using rs: ∃v r,vs=v::r/\Rep H (.at (.str cZ)) v/\aq H [.at (.int i)] r)
 obtain⟨th,vs,rfl,rt,rs⟩:=(by simpa only[aq]using rs: ∃v r,vs=v::r/\Rep H (.at (.int i)) v/\aq H [] r)
 obtain rfl:vs= []:=by simpa only[aq]using rs
 obtain rfl:th= .int i:=by simpa only[Rep]using rt
 have a1:=iP.sa I (g.said++ [i])
 have ei:aC (g.said++ [i])=aC g.said++ [.int i]:=by simp[aC]
 rw[ei]at a1
 have b:=zu (E:=E) (Q:=Q) a1.is fun H' a2=>q _ (a1.trans a2 rfl)
 exact⟨g.x,g.dx,_,g.he,g.sa,[],r,nm,.int i,i,aC g.said,rfl,hr,hx,rfl,I.he,.inl rfl,rfl,I.sa,by simpa [aC]using hl,rfl,rfl,b⟩
theorem IF(I:bI C H g){rv:V}(q: ∀H',iP C H g H' {g with wt:= .all}->Q .aH H'):kL C [.ref g.x,rv] H Q E:=by
 obtain⟨Ct,wv,hx,r1,r2⟩:=I.ob
 refine⟨g.x,g.dx,_,rv,rfl,hx,(by show 10<1000;decide),fun l hl=> ?_⟩
 have s1:=ah hl (.tup [.str "all"])
 have a1:=iP.same I s1
 rw[show bP "waiting" (.ref l) (g.fs Ct wv)=hf Ct (.ref l) (.ref g.he) (.ref g.sa) 0 g.td (.ref g.po) (.ref g.ti) (.ref g.ar) (.ref g.me)from iw _ _ _ _ _ _ _ _ _ _ _]
 refine q _ (a1.trans (iP.x a1.is (rows:=g.rows) (wt:= .all) (td:=g.td) (Nat.le_refl _) (s1.rep r1) ?_) rfl)
 exact Rep.mk ac (aq.cons ⟨by decide+kernel,by decide⟩ aq.nil)
theorem Fs(I:bI C H g){w m:Int}{b:T}{rv:V}(ht:g.td<sizeLine)(rr:Rep H (aB.take w m b).pv rv)(q: ∀H',iP C H g H' {g with wt:= .Ij g.td,td:=g.td+1}->Q .aH H'):jr C [.ref g.x,rv] H Q E:=by
 obtain⟨r,vs,rfl,hr,rs⟩:=rr.tup
 obtain⟨Ct,wv,hx,r1,r2⟩:=I.ob
 obtain⟨ps,hp,pl⟩:=I.po
 obtain⟨v1,vs,rfl,_,rs⟩:=(by simpa only[aq]using rs: ∃v r,vs=v::r/\Rep H (.at (.str cC)) v/\aq H [.at (.int w),.at (.int m),.at (.str b)] r)
 obtain⟨v2,vs,rfl,_,rs⟩:=(by simpa only[aq]using rs: ∃v r,vs=v::r/\Rep H (.at (.int w)) v/\aq H [.at (.int m),.at (.str b)] r)
 obtain⟨v3,vs,rfl,_,rs⟩:=(by simpa only[aq]using rs: ∃v r,vs=v::r/\Rep H (.at (.int m)) v/\aq H [.at (.str b)] r)
 obtain⟨v4,vs,rfl,_,rs⟩:=(by simpa only[aq]using rs: ∃v r,vs=v::r/\Rep H (.at (.str b)) v/\aq H [] r)
 obtain rfl:vs= []:=by simpa only[aq]using rs
 refine⟨g.x,g.dx,_,g.po,ps,(g.td:Int),r,v1,v2,v3,v4,rfl,hr,hx,(by show 10<1000;decide),rfl,rfl,hp,Nat.lt_of_le_of_lt pl ht,rfl,fun l l' hl hl' nl=> ?_⟩
 have s1:=ah hl (.tup [v2,v3,v4])
 have I1:=I.same s1
 have SO:l≠g.x:=fun z=>by rw[z,hx]at hl;cases hl
 have MS:l'≠g.x:=fun z=>by rw[z,hx]at hl';cases hl'
 have MQ:l'≠g.po:=fun z=>by rw[z,hp]at hl';cases hl'
 rw[show bP "takes_done" (.int ((g.td:Int)+1)) (g.fs Ct wv)=hf Ct wv (.ref g.he) (.ref g.sa) 0 ((g.td+1:Nat):Int) (.ref g.po) (.ref g.ti) (.ref g.ar) (.ref g.me)from by rw[show((g.td+1:Nat):Int)=(g.td:Int)+1 from by push_cast;rfl];exact Bc _ _ _ _ _ _ _ _ _ _ _,iw]
 have a1:iP C H g (upd H l (.tup [v2,v3,v4])) g:=iP.same I s1
 have a2:=a1.trans (iP.po I1 (putK ps (.inl (g.td:Int)) (.ref l)) (td:=g.td+1) (by have:=dw ps (.inl (g.td:Int)) (V.ref l);omega) (s1.rep r1) (s1.rep r2)) rfl
 have hn:upd (upd (upd H l (.tup [v2,v3,v4])) g.po (.dK (putK ps (.inl (g.td:Int)) (.ref l)))) g.x (.ins C g.dx (hf Ct wv (.ref g.he) (.ref g.sa) 0 ((g.td+1:Nat):Int) (.ref g.po) (.ref g.ti) (.ref g.ar) (.ref g.me))) l'=none:=by
  rw[ak MS,ak MQ,ak nl.symm];exact hl'
 have s2:=ah hn (.tup [.str "take",.int (g.td:Int)])
 have a3:=a2.trans (iP.same a2.is s2) rfl
 refine q _ (a3.trans (iP.x a3.is (rows:=g.rows) (wt:= .Ij g.td) (td:=g.td+1) (Nat.le_refl _) (a3.tups.rep r1) ?_) rfl)
 exact Rep.mk ac (aq.cons ⟨by decide+kernel,by decide⟩ (aq.cons (by simp only[Rep]) aq.nil))
end
end W2
namespace W2
open PySem PySem.Spec PyProof.Rows K2 L2
abbrev vb:Stmt:=top 19
def HA.step(g:HA):aB->HA
 | .tell i=> {g with rows:=g.rows.drop 1,wt:= .go,said:=g.said++ [i]}
 | .all=> {g with wt:= .all}
 | .take _ _ _=> {g with wt:= .Ij g.td,td:=g.td+1}
theorem HA.iG(g:HA)(d:aB):(g.step d).cells=g.cells:=by cases d<;>rfl
section
variable{P:Program}{w:World}{K:PySem.W.Frag}{mg:Str->Option Value}{base:Heap}
def oR(P:Program)(w:World)(K:PySem.W.Frag)(mg:Str->Option Value)(base:Heap)(kvs:List (Str×V))(x:T)(sp:Sp):Prop:= ∃f fd,iK kvs (S x)=some (.ref f)/\aI P w K mg base br 2 f fd ["hand", "row"] sp/\Binds K fd ["hand", "row"] []/\PySem.W.keepIn K (.ref f)=true
structure Et(P:Program)(w:World)(K:PySem.W.Frag)(mg:Str->Option Value)(base:Heap)(C:Addr):Prop where
 ex: ∃a kvs,mg "DEEDS"=some (.ref a)/\KDict P w K a kvs/\oR P w K mg base kvs cC (jr C)/\oR P w K mg base kvs cZ (js C)/\oR P w K mg base kvs gU (kL C)
inductive wQ(C:Addr)(vs:List V)(H:Hp)(Q:VK)(fG:XK):Prop
 |mk (g:HA) (d:aB) (rv:V) (_:vs= [.ref g.x,rv]) (_:bI C H g) (_:g.said.length<=1000) (_:g.td<=1000) (_:Rep H d.pv rv) (_: ∀H',iP C H g H' (g.step d)->Q .aH H')
theorem wM:av ["hand", "row", "deed"] ["hand", "row"] (am vb):=⟨rfl,rfl,rfl,by decide+kernel,rfl,by decide+kernel,by decide+kernel⟩
theorem big{n:Nat}(h:n<=1000):n<sizeLine:=by rw[sizeLine_eq];omega
theorem AM{f C:Addr}{fd:FuncData}(F:cE K "do_row" "do_row" vb f fd)(D:Et P w K mg base C):aI P w K mg base br 3 f fd ["hand", "row"] (wQ C):=by
 obtain⟨a,kvs,ma,KD,IH,II,LD⟩:=D.ex
 refine F.ok wM (fun vs H Q E h=> ?_) (fun cdv A outer s H vs Q E hr h=> ?_)
 ·obtain⟨_,_,_,rfl,_⟩:=h;rfl
 obtain⟨g,d,rv,rfl,I,hsl,C3,rr,q⟩:=h
 refine⟨_,ag (aJ (i:=2) wM.nd rfl (Or.inl rfl) (aK (rA KD) (cc rfl ma (v:= .ref a) rfl) (aK (bF K rfl) (pv 1) au (fun _ _=>rfl)) (fun _ _=>rfl))) (ap (aT (sj (k:=2) 2 hr (aa (pv 0) (aa (pv 1) af))))),?_⟩
 have fst: ∃p u1 us x,rv= .ref p/\H p=some (.tup (u1::us))/\u1= .str (S x)/\ ∃rest,d.pv= .tup (.at (.str x)::rest):=by
  cases d<;>(obtain⟨p,vs,rfl,hp,rs⟩:=rr.tup;simp only[aq]at rs;obtain⟨v,r,rfl,e,_⟩:=rs;exact⟨p,v,r,_,rfl,hp,e.1,_,rfl⟩)
 obtain⟨p,u1,us,x,rfl,hp,rfl,rest,ex⟩:=fst
 suffices hz: ∃sp,oR P w K mg base kvs x sp/\sp [.ref g.x,.ref p] H (fun _ H'=>Q .aH H') E0 by
  obtain⟨sp,⟨f2,LN,e2,F2,B2,Dd⟩,z⟩:=hz
  exact⟨_,rfl,p,_,0,_,rfl,rfl,bn.of hp,bc (j:=0) rfl,_,_,rfl,rfl,e2,f2,LN,_,sp,rfl,F2,B2,Dd,_,rfl,_,rfl,z⟩
 cases d<;>(simp only[aB.pv,PV.tup.injEq,List.cons.injEq,PV.at.injEq,Atom.str.injEq]at ex;obtain⟨rfl,_⟩:=ex)
 ·exact⟨_,II,Ft I (big hsl) rr q⟩
 ·exact⟨_,LD,IF I q⟩
 ·exact⟨_,IH,Fs I (big C3) rr q⟩
end
end W2
namespace W2
open PySem PySem.Spec PyProof.Rows K2 L2
abbrev eV:Stmt:=top 52
structure Way where
 s:Nat
 t:Nat
 a:Addr
structure RG where
 x:Addr
 dx:Addr
 hl:Addr
 wd:Addr
 hi:Addr
 room:Option Nat
 ae:List HA
 ways:List Way
def dJ:Option Nat->V
 |none=> .aH
 |some n=> .int n
def RG.own(G:RG):List Addr:= [G.x,G.hl,G.wd,G.hi]
def RG.cells(G:RG):List Addr:=G.own++(G.ways.map Way.a++(G.ae.map HA.cells).flatten)
def RG.fs(G:RG):List (Str×V):= [("room",dJ G.room),("hands",.ref G.hl),("ways",.ref G.wd),("history",.ref G.hi)]
def RG.keys(G:RG):List (List Key×V):=G.ways.map fun w=>([Sum.inl (w.s:Int),Sum.inl (w.t:Int)],V.ref w.a)
def RG.aW(G:RG)(i:Nat)(g:HA):RG:= {G with ae:=G.ae.set i g}
theorem JV(G:RG):G.x∈G.own:=by simp[RG.own]
theorem GI(G:RG):G.hl∈G.own:=by simp[RG.own]
theorem AZ(G:RG):G.wd∈G.own:=by simp[RG.own]
theorem GH(G:RG):G.hi∈G.own:=by simp[RG.own]
structure Apart(own ws:List Addr)(hs:List (List Addr)):Prop where
 n1:own.Nodup
 n2: ∀b∈own,b∉ws
 n3: ∀b∈own,∀c∈hs,b∉c
 n4:ws.Nodup
 n5: ∀b∈ws,∀c∈hs,b∉c
 n6:hs.Pairwise fun c d=> ∀b∈c,b∉d
def Pg:Option Obj->HO->HO
 |none,u=>u
 |some o,u=> .fY o u
structure aZ(z:Option Obj)(C R:Addr)(B:Nat)(H:Hp)(G:RG):Prop where
 ob:H G.x=some (.ins R G.dx G.fs)
 hl:H G.hl=some (.lst (G.ae.map fun g=> .ref g.x))
 wd:H G.wd=some (Pg z (.dT G.keys))
 hi: ∃hs,H G.hi=some (.lst hs)/\hs.length<=B
 ae: ∀ (i:Nat) g,G.ae[i]? =some g->bI C H g
 ways: ∀ (j:Nat) w,G.ways[j]? =some w->H w.a=some (.lst [])
 nd:Apart G.own (G.ways.map Way.a) (G.ae.map HA.cells)
theorem bI.live{C:Addr}{H:Hp}{g:HA}(I:bI C H g): ∀b∈g.cells,∃u,H b=some u:=fun b hb=>by
 simp only[HA.cells,List.mem_cons,List.not_mem_nil,or_false]at hb
 rcases hb with rfl|rfl|rfl|rfl|rfl
 ·obtain⟨_,_,e,_⟩:=I.ob;exact⟨_,e⟩
 ·exact⟨_,I.he⟩
 ·exact⟨_,I.sa⟩
 ·obtain⟨_,e,_⟩:=I.po;exact⟨_,e⟩
 ·exact⟨_,I.me⟩
structure dW(K:PySem.W.Frag)(R:Addr):Prop where
 cl:vC K R
 no: ∀f∈(["room", "hands", "ways", "history"]:List Str),bh K R f
section
variable{z:Option Obj}{K:PySem.W.Frag}{C R:Addr}{B:Nat}{H:Hp}{G:RG}
theorem dW.room(h:dW K R):bh K R "room":=h.no _ (by simp)
theorem dW.ae(h:dW K R):bh K R "hands":=h.no _ (by simp)
theorem dW.ways(h:dW K R):bh K R "ways":=h.no _ (by simp)
theorem dW.wb(h:dW K R):bh K R "history":=h.no _ (by simp)
theorem gP{α β:Type}(f:α->β): ∀ (l:List α) (i:Nat) (a b:α),l[i]? =some a->f b=f a->(l.set i b).map f=l.map f
 | [],_,_,_,h,_=>by cases h
 |x::r,0,a,b,h,e=>by cases h;simp[e]
 |x::r,i+1,a,b,h,e=>by
  simp only[List.set_cons_succ,List.map_cons]
  rw[gP f r i a b (by simpa using h) e]
theorem get_set{α:Type}{l:List α}{i j:Nat}{a b:α}(h:(l.set i a)[j]? =some b):(i=j/\b=a)\/(i≠j/\l[j]? =some b):=by
 rw[List.getElem?_set]at h
 split at h
 ·rename_i e
  split at h
  ·cases h;exact .inl ⟨e,rfl⟩
  ·cases h
 ·rename_i e
  exact .inr ⟨e,h⟩
theorem aZ.more(I:aZ z C R B H G){B':Nat}(h:B<=B'):aZ z C R B' H G:=
 ⟨I.ob,I.hl,I.wd,by obtain⟨hs,e,l⟩:=I.hi;exact⟨hs,e,Nat.le_trans l h⟩,I.ae,I.ways,I.nd⟩
theorem aZ.kM(I:aZ z C R B H G){j:Nat}{w:Way}(h:G.ways[j]? =some w):w.a∈G.ways.map Way.a:=List.mem_map.mpr ⟨w,List.mem_of_getElem? h,rfl⟩
theorem aZ.i5(I:aZ z C R B H G){i:Nat}{g:HA}(h:G.ae[i]? =some g):g.cells∈G.ae.map HA.cells:=List.mem_map.mpr ⟨g,List.mem_of_getElem? h,rfl⟩
theorem aZ.frame{H':Hp}(I:aZ z C R B H G)(t:bV H H')(e: ∀b∈G.cells,∀o,H b=some o->H' b=some o):aZ z C R B H' G:=by
 refine⟨e _ (by simp[RG.cells,RG.own]) _ I.ob,e _ (by simp[RG.cells,RG.own]) _ I.hl,e _ (by simp[RG.cells,RG.own]) _ I.wd,?_,fun i g h=> ?_,fun j w h=> ?_,I.nd⟩
 ·obtain⟨hs,z,l⟩:=I.hi;exact⟨hs,e _ (by simp[RG.cells,RG.own]) _ z,l⟩
 ·refine(I.ae i g h).frame t fun b hb o z=>e b ?_ o z
  simp only[RG.cells,List.mem_append,List.mem_flatten]
  exact .inr (.inr ⟨_,I.i5 h,hb⟩)
 ·refine e _ ?_ _ (I.ways j w h)
  simp only[RG.cells,List.mem_append]
  exact .inr (.inl (I.kM h))
theorem aZ.same{H':Hp}(I:aZ z C R B H G)(s:aw H H'):aZ z C R B H' G:=I.frame s.tups fun b _ o e=>s b o e
structure mP(z:Option Obj)(C R:Addr)(B:Nat)(H:Hp)(G:RG)(H':Hp)(G':RG):Prop where
 is:aZ z C R B H' G'
 keep:eZ G.cells H H'
 tups:bV H H'
theorem mP.trans{B1:Nat}{H1 H2:Hp}{G1 G2:RG}(a:mP z C R B1 H G H1 G1)(b:mP z C R B H1 G1 H2 G2)(e:G1.cells=G.cells):mP z C R B H G H2 G2:=⟨b.is,a.keep.trans (e▸b.keep),a.tups.trans b.tups⟩
theorem mP.same{H':Hp}(I:aZ z C R B H G)(s:aw H H'):mP z C R B H G H' G:=⟨I.same s,eZ.of s,s.tups⟩
theorem qy{hs:List (List Addr)}(h:hs.Pairwise fun c d=> ∀b∈c,b∉d){i j:Nat}{c d:List Addr}(hi:hs[i]? =some c)(hj:hs[j]? =some d)(n:i≠j): ∀b∈c,b∉d:=by
 obtain⟨h1,e1⟩:=List.getElem?_eq_some_iff.mp hi
 obtain⟨h2,e2⟩:=List.getElem?_eq_some_iff.mp hj
 subst e1;subst e2
 rcases Nat.lt_or_gt_of_ne n with hl|hl
 ·exact(List.pairwise_iff_getElem.mp h) i j h1 h2 hl
 ·exact fun b hb hd=>(List.pairwise_iff_getElem.mp h) j i h2 h1 hl b hd hb
theorem aZ.hand(I:aZ z C R B H G){i:Nat}{g g':HA}{H':Hp}(h:G.ae[i]? =some g)(a:iP C H g H' g')(ec:g'.cells=g.cells):mP z C R B H G H' (G.aW i g'):=by
 have ex:g'.x=g.x:=by have:=congrArg (·.head?) ec;simpa [HA.cells]using this
 have em:(G.ae.set i g').map HA.cells=G.ae.map HA.cells:=gP _ _ _ _ _ h ec
 have k:=a.keep
 have hc:=I.i5 h
 have Db: ∀b∈G.own,∀o,H b=some o->H' b=some o:=fun b hb o y=>k b o (I.nd.n3 b hb _ hc) y
 refine⟨⟨Db _ (JV G) _ I.ob,?_,Db _ (AZ G) _ I.wd,?_,fun j f hj=> ?_,fun j w hj=> ?_,?_⟩,?_,a.tups⟩
 ·show H' G.hl=some (.lst ((G.ae.set i g').map fun g=> .ref g.x))
  rw[gP (fun g:HA=>V.ref g.x) _ _ _ _ h (by rw[ex])]
  exact Db _ (GI G) _ I.hl
 ·obtain⟨hs,z,l⟩:=I.hi
  exact⟨hs,Db _ (GH G) _ z,l⟩
 ·rcases get_set hj with⟨rfl,rfl⟩|⟨n,hj⟩
  ·exact a.is
  ·refine(I.ae j f hj).keep a.tups k fun b hb=> ?_
   have q1:(G.ae.map HA.cells)[j]? =some f.cells:=by rw[List.getElem?_map,hj];rfl
   have q2:(G.ae.map HA.cells)[i]? =some g.cells:=by rw[List.getElem?_map,h];rfl
   exact qy I.nd.n6 q1 q2 n.symm b hb
 ·exact k _ _ (I.nd.n5 _ (I.kM hj) _ hc) (I.ways j w hj)
 ·show Apart G.own (G.ways.map Way.a) ((G.ae.set i g').map HA.cells)
  rw[em];exact I.nd
 ·refine k.mono fun b hb=> ?_
  simp only[RG.cells,List.mem_append,List.mem_flatten]
  exact .inr (.inr ⟨_,hc,hb⟩)
theorem hV{i:Nat}{g g':HA}(h:G.ae[i]? =some g)(ec:g'.cells=g.cells):(G.aW i g').cells=G.cells:=by
 show G.own++(G.ways.map Way.a++((G.ae.set i g').map HA.cells).flatten)=_
 rw[gP _ _ _ _ _ h ec];rfl
theorem aZ.hist(I:aZ z C R B H G){hs:List V}(hB:hs.length<=B+1):mP z C R (B+1) H G (upd H G.hi (.lst hs)) G:=by
 obtain⟨hs0,z0,_⟩:=I.hi
 have t:bV H (upd H G.hi (.lst hs)):=eI z0 (fun _ w=>by cases w) _
 have J:=I.more (Nat.le_succ B)
 have hin:G.hi∈G.own:=by simp[RG.own]
 refine⟨⟨(ak (eB I.nd.n1 0 3 rfl rfl (by decide))).trans I.ob,(ak (eB I.nd.n1 1 3 rfl rfl (by decide))).trans I.hl,(ak (eB I.nd.n1 2 3 rfl rfl (by decide))).trans I.wd,⟨hs,ac,hB⟩,fun i f hi=> ?_,fun i v hi=> ?_,I.nd⟩,?_,t⟩
 ·refine(J.ae i f hi).frame t fun b hb o z=> ?_
  rw[ak (fun e=>I.nd.n3 _ hin _ (I.i5 hi) (by rw[<-e];exact hb))];exact z
 ·rw[ak (fun e=>I.nd.n2 _ hin (by rw[<-e];exact I.kM hi))];exact I.ways i v hi
 ·exact eZ.upd (by simp[RG.cells,RG.own]) _
theorem aZ.hold(I:aZ none C R B H G)(o:Obj):aZ (some o) C R B (upd H G.wd (.fY o (.dT G.keys))) G:=by
 have t:bV H (upd H G.wd (.fY o (.dT G.keys))):=eI I.wd (fun _ w=>by cases w) _
 have hin:=AZ G
 refine⟨(ak (eB I.nd.n1 0 2 rfl rfl (by decide))).trans I.ob,(ak (eB I.nd.n1 1 2 rfl rfl (by decide))).trans I.hl,ac,?_,fun i f hi=> ?_,fun i v hi=> ?_,I.nd⟩
 ·obtain⟨hs,e,l⟩:=I.hi
  exact⟨hs,(ak (eB I.nd.n1 3 2 rfl rfl (by decide))).trans e,l⟩
 ·refine(I.ae i f hi).frame t fun b hb o y=> ?_
  rw[ak (fun e=>I.nd.n3 _ hin _ (I.i5 hi) (by rw[<-e];exact hb))];exact y
 ·rw[ak (fun e=>I.nd.n2 _ hin (by rw[<-e];exact I.kM hi))];exact I.ways i v hi
theorem FB{a b:Addr}{kvs:List (List Key×V)}{k:List Key}(e:H a=some (Pg z (.dT kvs)))(eb:H b=some (.tup (k.map kV))):iM H a (.ref b) (fX kvs k):=by
 cases z with
 |none=>exact .inr ⟨kvs,k,b,.inl e,rfl,eb,rfl⟩
 |some o=>exact .inr ⟨kvs,k,b,.inr ⟨o,e⟩,rfl,eb,rfl⟩
theorem aZ.live(I:aZ none C R B H G): ∀b∈G.cells,∃u,H b=some u:=fun b hb=>by
 simp only[RG.cells,List.mem_append,List.mem_flatten]at hb
 rcases hb with hb|hb|⟨c,hc,hb⟩
 ·simp only[RG.own,List.mem_cons,List.not_mem_nil,or_false]at hb
  rcases hb with rfl|rfl|rfl|rfl
  ·exact⟨_,I.ob⟩
  ·exact⟨_,I.hl⟩
  ·exact⟨_,I.wd⟩
  ·obtain⟨hs,e,_⟩:=I.hi;exact⟨_,e⟩
 ·obtain⟨w',il,rfl⟩:=List.mem_map.mp hb
  obtain⟨j,hj,ej⟩:=List.getElem_of_mem il
  exact⟨_,I.ways j w' (by rw[List.getElem?_eq_getElem hj,ej])⟩
 ·obtain⟨g',hg',rfl⟩:=List.mem_map.mp hc
  obtain⟨j,hj,ej⟩:=List.getElem_of_mem hg'
  exact(I.ae j g' (by rw[List.getElem?_eq_getElem hj,ej])).live b hb
end
end W2
namespace W2
open PySem PySem.Spec PyProof.Rows K2 L2
structure Ez(mg:Str->Option Value):Prop where
 sorted:mg "sorted"=none
 any:mg "any"=none
 set:mg "set"=none
 str:mg "str"=none
 max:mg "max"=none
theorem Gu{H:Hp}{p:Addr}{a b:PV}{u1 u2:V}(hp:H p=some (.tup [u1,u2]))(h1:Rep H a u1)(h2:Rep H b u2):Rep H (.tup [a,b]) (.ref p):=by
 simp only[Rep];exact⟨p,_,rfl,hp,aq.cons h1 (aq.one h2)⟩
abbrev jn:Stmt:=inClass eV 6
abbrev pY:Stmt:=inClass eV 3
def Fg:T:= [103,111]
theorem Nj:("go":Str)=S Fg:=by decide+kernel
def RG.Keyed(G:RG):Prop:=(G.ways.map fun w=>(w.s,w.t)).Nodup
theorem oK: ∀ {ws:List Way} {j:Nat} {w:Way},(ws.map fun w=>(w.s,w.t)).Nodup->ws[j]? =some w->fX (ws.map fun w=>([Sum.inl (w.s:Int),Sum.inl (w.t:Int)],V.ref w.a)) ([Sum.inl (w.s:Int),Sum.inl (w.t:Int)]:List Key)=some (.ref w.a)
 |z::ws,0,w,_,h=>by cases h;exact gF rfl
 |z::ws,j+1,w,hn,h=>by
  simp only[List.map_cons,List.nodup_cons]at hn
  have h':ws[j]? =some w:=by simpa using h
  rw[List.map_cons,gE]
  ·exact oK hn.2 h'
  ·intro e
   simp only[List.cons.injEq,Sum.inl.injEq,and_true]at e
   refine hn.1 (List.mem_map.mpr ⟨w,List.mem_of_getElem? h',?_⟩)
   have e1:z.s=w.s:=by omega
   have e2:z.t=w.t:=by omega
   rw[e1,e2]
def jQ:Sp:=fun _ _ _ _=>False
section
variable{P:Program}{w:World}{K:PySem.W.Frag}{mg:Str->Option Value}{base:Heap}
theorem nG{k:Nat}{f:Addr}{fd:FuncData}{ps:List Str}:aI P w K mg base br k f fd ps jQ:=⟨fun vs H Q E h=>h.elim,fun A outer s H args us vs Q E _ _ _ _ h=>h.elim⟩
inductive oC(C R:Addr)(vs:List V)(H:Hp)(Q:VK)(fG:XK):Prop
 |mk (z:Option Obj) (G:RG) (B j:Nat) (w:Way) (g:HA) (_:vs= [.ref G.x,.int w.s,.int w.t]) (_:aZ z C R B H G) (_:G.Keyed) (_:G.ways[j]? =some w) (_:G.ae[w.t]? =some g) (_: ∀l H',aw H H'->H' l=some (.lst [])->Q (.ref l) H')
theorem dS:av ["self", "sender", "taker", "way", "hand", "meets", "thing", "take"] ["self", "sender", "taker"] (am jn):=⟨rfl,rfl,rfl,by decide+kernel,rfl,by decide+kernel,by decide+kernel⟩
theorem uL{f C R:Addr}{fd:FuncData}(F:cE K "meets_on" "Run.meets_on" jn f fd)(hC:ba K C)(hR:dW K R)(QF:bX P w K mg base C 2 "first_take" ["self", "sender", "mark"] jQ)(L0:f9 P w K mg base br 2 "first_thing" ["way", "sender", "take"] jQ):aI P w K mg base br 3 f fd ["self", "sender", "taker"] (oC C R):=by
 obtain⟨g2,zg,hm2,gK,hb2⟩:=QF
 refine F.ok dS (fun vs H Q E h=> ?_) (fun cdv A outer s H vs Q E hr h=> ?_)
 ·obtain⟨_,_,_,_,_,_,rfl,_⟩:=h;rfl
 obtain⟨z,G,B,j,wy,g,rfl,I,hk,hj,hg,q⟩:=h
 have hu:(A.deeper (envOfC "Run.meets_on" (am jn) s.heap.objs.size f cdv)).units+1<cLine:=by have:=hr.un;omega
 refine⟨_,ag (aJ (i:=3) dS.nd rfl (Or.inl rfl) (kE hu (bq (pv 0) rfl) (bC (aa (pv 1) (aa (pv 2) af))) (fun _ _=>rfl)))
  (ag (aJ (i:=4) dS.nd rfl (Or.inl rfl) (aK bm (bq (pv 0) rfl) (pv 2) (fun _ _=>rfl)))
  (ag (aJ (i:=5) dS.nd rfl (Or.inl rfl) (bS af))
  (ag (cX PassesOwn.never rfl (cz (pv 3)) (aG (i:=6) dS.nd rfl (Or.inl rfl))
   (ag (aJ (i:=7) dS.nd rfl (Or.inl rfl) (bQ (pv 4) hC.cl hm2 gK hr hb2 .nil aD (aa (pv 1) (aa (aK (bF K rfl) (pv 6) au (fun _ _=>rfl)) af))))
   (ap (bL (PW.pt (uW (jM (DM (pv 7))) (pS (aP AX (aF L0 hr rfl aD (aa (pv 3) (aa (pv 1) (aa (kE hu (bq (pv 4) rfl) (pv 7) (fun _ _=>rfl)) af)))) (pv 6) (aY _)))))
    (ap (aT (i9 PySem.F.plainAttrs_list PySem.F.slot_list_append PySem.F.type_list_append dR (pv 5) (aa (bC (aa bB (aa (pv 1) (aa (aK (bF K rfl) (pv 6) au (fun _ _=>rfl)) (aa (pv 2) (aa (pv 7) af)))))) af))))
    aU))))
  (ap (aE (pv 5)))))),?_⟩
 have z2:2<=sizeLine:=by decide
 have z0:0<=sizeLine:=Nat.zero_le _
 have KQ:=I.ways j wy hj
 refine⟨_,rfl,G.x,R,G.dx,_,_,rfl,I.ob,hR.cl,hR.ways,rfl,_,rfl,_,rfl,z2,fun kt hkt=> ?_⟩
 have s1:=ah hkt (.tup [.int wy.s,.int wy.t])
 have dg:iM (upd H kt (.tup [.int wy.s,.int wy.t])) G.wd (.ref kt) (some (.ref wy.a)):=by
  rw[<-oK hk hj]
  exact FB (z:=z) (k:= [Sum.inl (wy.s:Int),Sum.inl (wy.t:Int)]) (s1 _ _ I.wd) ac
 refine⟨G.wd,_,rfl,dg,?_⟩
 have eh:(G.ae.map fun g=>V.ref g.x)[wy.t]? =some (.ref g.x):=by rw[List.getElem?_map,hg];rfl
 refine⟨_,rfl,G.x,R,G.dx,_,_,rfl,s1 _ _ I.ob,hR.cl,hR.ae,rfl,_,rfl,G.hl,_,(wy.t:Int),_,rfl,rfl,aN.of (s1 _ _ I.hl),bc eh,?_⟩
 refine⟨z0,fun l hl=> ?_⟩
 have s2:=s1.trans (ah hl (.lst []))
 refine⟨_,rfl,wy.a,rfl,⟨[],aN.of (s2 _ _ KQ)⟩,?_⟩
 refine dF (n:=0) (fun i σ' H'=>σ'= [some (.ref G.x),some (.int wy.s),some (.int wy.t),some (.ref wy.a),some (.ref g.x),some (.ref l),none,none]/\aw H H'/\H' l=some (.lst [])) ⟨rfl,s2,ac⟩ (fun i σ' H' hi=>absurd hi (Nat.not_lt_zero i)) ?_
 rintro σ' H' ⟨rfl,sm,hl'⟩
 exact⟨⟨[],aN.of (sm _ _ KQ),Nat.le_refl _⟩,_,rfl,q l H' sm hl'⟩
end
def mO(i:Nat):PV:= .tup [.at (.str Fg),.at (.int i)]
def kY(g:HA):Bool:=decide (g.wt= .go) && !decide (g.rows.length=0)
def RG.ke(G:RG)(i:Nat):Bool:=match G.ae[i]? with
 |some g=>kY g
 |none=>false
def RG.goes(G:RG):List Nat:=(List.range G.ae.length).filter G.ke
structure zn(G:RG):Prop where
 keyed:G.Keyed
 ends: ∀w∈G.ways,w.t<G.ae.length
 few:G.ways.length<=100
 ae:G.ae.length<=10
theorem HJ{H:Hp}{w:AW}{v:V}(r:Rep H w.pv v):decide (v= .aH)=decide (w= .go):=by
 cases w with
 |go=>obtain rfl:v= .aH:=r;simp
 |Ij k=>obtain⟨a,vs,rfl,_⟩:=r.tup;simp
 |all=>obtain⟨a,vs,rfl,_⟩:=r.tup;simp
theorem GV{H:Hp}{m:Addr}{i:Nat}(h:H m=some (.tup [.str "go",.int i])):Rep H (mO i) (.ref m):=Gu h ⟨by rw[Nj],by decide⟩ rfl
section
variable{P:Program}{w:World}{K:PySem.W.Frag}{mg:Str->Option Value}{base:Heap}
theorem CP{C:Addr}{H:Hp}{g:HA}{Q:VK}{E:XK}(I:bI C H g)(q:Q (.bl (kY g)) H):qi C [.ref g.x] H Q E:=by
 obtain⟨rv,wv,hx,r1,r2⟩:=I.ob
 obtain⟨ra,rs,rfl,F5,rrs⟩:=r1.tup
 refine⟨g.x,g.dx,_,ra,rs,wv,rfl,hx,rfl,F5,rfl,rfl,?_⟩
 have e:=rrs.len
 rw[List.length_map]at e
 rw[HJ r2,<-e]
 exact q
inductive fE(C R:Addr)(vs:List V)(H:Hp)(Q:VK)(fG:XK):Prop
 |mk (G:RG) (B:Nat) (_:vs= [.ref G.x]) (_:aZ none C R B H G) (_:zn G) (_: ∀ (l:Addr) (ys:List V) (H':Hp),aw H H'->H l=none->H' l=some (.lst ys)->aq H' (G.goes.map mO) ys->Q (.ref l) H')
theorem gB:av ["self", "goes", "meets", "sender", "taker"] ["self"] (am pY):=⟨rfl,rfl,rfl,by decide+kernel,rfl,by decide+kernel,by decide+kernel⟩
theorem rL:(["number", "hand", "self", "goes", "meets", "sender", "taker"]:List Str).Nodup:=by decide+kernel
theorem yh{f C R:Addr}{fd:FuncData}(F:cE K "events" "Run.events" pY f fd)(T:Tx mg)(T2:Ez mg)(hC:ba K C)(hR:dW K R)(hcg:bX P w K mg base C 2 "can_go" ["self"] (qi C))(hmo:bX P w K mg base R 3 "meets_on" ["self", "sender", "taker"] (oC C R)):aI P w K mg base br 4 f fd ["self"] (fE C R):=by
 obtain⟨g1,CQ,hm1,jA,hb1⟩:=hcg
 obtain⟨g2,zg,hm2,gK,hb2⟩:=hmo
 refine F.ok gB (fun vs H Q E h=> ?_) (fun cdv A outer s H vs Q E hr h=> ?_)
 ·obtain⟨_,_,rfl,_⟩:=h;rfl
 obtain⟨G,B,rfl,I,ev,q⟩:=h
 refine⟨_,ag (fR (i:=1) (T:= ["number", "hand"]) (bT ["self", "goes", "meets", "sender", "taker"] rfl (by decide+kernel)) rfl gB.nd rfl rfl (Be rfl T.enum (aa (bq (pv 0) rfl) af)) (fun Y hY=>by cases hY;exact lX rfl (cJ (aG (i:=0) rL rfl (Or.inl rfl)) (cJ (aG (i:=1) rL rfl (Or.inl rfl)) jc))) lA
   (fun Y hY=>by cases hY;exact fA (cp (bo (pv 1) hC.cl hm1 jA (hr.mono (by decide)) hb1 .nil aD))) (fun Y hY=>by cases hY;exact bC (aa bB (aa (pv 0) af))))
  (ag (aJ (i:=2) gB.nd rfl (Or.inl rfl) (bS af))
  (ag (DS (cX PassesOwn.never rfl (Bf (bq (pv 0) rfl)) (lX rfl (cJ (aG (i:=3) gB.nd rfl (Or.inl rfl)) (cJ (aG (i:=4) gB.nd rfl (Or.inl rfl)) jc)))
   (ap (aT (i9 PySem.F.plainAttrs_list PySem.F.slot_list_extend PySem.F.type_list_extend jI (pv 2) (aa (bQ (pv 0) hR.cl hm2 gK hr hb2 .nil aD (aa (pv 3) (aa (pv 4) af))) af))))))
  (ap (aE (bp lT (pv 1) (aA fL rfl T2.sorted boot_sorted (aa (pv 2) af))))))),?_⟩
 have z2:2<=sizeLine:=by decide
 have z0:0<=sizeLine:=Nat.zero_le _
 have hn:=ev.ae
 refine⟨_,rfl,G.x,R,G.dx,_,_,rfl,I.ob,hR.cl,hR.ae,rfl,G.hl,_,rfl,aN.of I.hl,?_⟩
 refine cy (n:=(G.ae.map fun g=>V.ref g.x).length) (fun i ys H'=>aw H H'/\ys.length<=i/\aq H' (((List.range i).filter G.ke).map mO) ys) ⟨aw.refl _,Nat.le_refl _,aq.nil⟩ ?_ ?_
 ·rintro i ys H' hi ⟨sm,li,ry⟩
  have hi':i<G.ae.length:=by rw[List.length_map]at hi;exact hi
  refine⟨⟨hi,aN.of (sm _ _ I.hl)⟩,big (by rw[List.length_map]at hi;omega),?_⟩
  rintro x H1 ⟨t,ht,rfl,eH⟩
  have eg:G.ae[i]? =some G.ae[i]:=List.getElem?_eq_getElem hi'
  have ex:(G.ae.map fun g=>V.ref g.x).getD i .aH= .ref G.ae[i].x:=by
   rw[List.getD_eq_getElem?_getD,List.getElem?_map,eg];rfl
  have P6:H1=upd H' t (.tup [.int (i:Int),.ref G.ae[i].x]):=by
   rw[eH]
   show upd H' t (.tup [V.int (i:Int),(G.ae.map fun g=>V.ref g.x).getD i .aH])=_
   rw[ex]
  subst P6
  clear eH
  have s1:=ah ht (.tup [.int (i:Int),.ref G.ae[i].x])
  have Ih:=sm.trans s1
  have J:=(I.same Ih).ae i _ eg
  obtain⟨rv,wv,hx,r1,r2⟩:=J.ob
  refine⟨t,_,rfl,bn.of ac,rfl,_,_,rfl,_,_,rfl,rfl,?_⟩
  refine⟨_,rfl,G.ae[i].x,G.ae[i].dx,_,rfl,hx,rfl,?_⟩
  dsimp only[bH]
  refine CP J ⟨_,rfl,?_⟩
  have IJ:G.ke i=kY G.ae[i]:=by unfold RG.ke;rw[eg]
  have er:(List.range (i+1)).filter G.ke=(List.range i).filter G.ke++(if kY G.ae[i]=true then [i]else []):=by
   rw[List.range_succ,List.filter_append,List.filter_cons,List.filter_nil,IJ]
  refine bY (fun c=> ?_) (fun c=> ?_)
  ·refine⟨_,rfl,z2,fun m hm=> ?_⟩
   have s2:=ah hm (.tup [.str "go",.int (i:Int)])
   refine Wc.next hi ⟨Ih.trans s2,by simp;omega,?_⟩
   rw[er,if_pos c,List.map_append]
   exact(s2.reps (s1.reps ry)).append (aq.one (GV ac))
  ·refine Wc.next hi ⟨Ih,by omega,?_⟩
   rw[er,if_neg c,List.append_nil]
   exact s1.reps ry
 rintro gs H1 ⟨sm,lg,rg⟩
 refine⟨⟨rfl,aN.of (sm _ _ I.hl)⟩,fun p hp=> ?_⟩
 rw[List.length_map]at lg rg
 have s1:=ah hp (.lst gs)
 have Ih:=sm.trans s1
 refine⟨z0,fun m hm=> ?_⟩
 have s2:=ah hm (.lst [])
 have Hj:=Ih.trans s2
 have hm0:H m=none:=Ih.free hm
 have hp0:H p=none:=sm.free hp
 have RX:p≠m:=fun z=>by subst z;rw[ac]at hm;cases hm
 have I2:=I.same Hj
 refine⟨G.wd,.dT G.keys,trivial,I2.wd,fun o=> ?_⟩
 have I3:=I2.hold o
 have HX:m≠G.wd:=fun z=>by subst z;rw[I.wd]at hm0;cases hm0
 have Oi:p≠G.wd:=fun z=>by subst z;rw[I.wd]at hp0;cases hp0
 refine⟨_,rfl,G.x,R,G.dx,_,_,rfl,I3.ob,hR.cl,hR.ways,rfl,G.wd,o,G.keys,rfl,I3.wd,fun bs lb Qx=> ?_⟩
 have lk:G.keys.length=G.ways.length:=List.length_map _
 refine dF (n:=G.keys.length) (fun i σ' H'=> ∃ (r3 r4:Option V),σ'= [some (.ref G.x),some (.ref p),some (.ref m),r3,r4]/\(∀b u,upd (upd (upd H1 p (.lst gs)) m (.lst [])) G.wd (.fY o (.dT G.keys)) b=some u->H' b=some u)) ?_ ?_ ?_
 ·exact⟨none,none,rfl,fun b u e=>e⟩
 ·rintro i σ' H' hi ⟨r3,r4,rfl,kp⟩
  have hi':i<G.ways.length:=by omega
  have ew:G.ways[i]? =some G.ways[i]:=List.getElem?_eq_getElem hi'
  have Rj:G.ways[i]∈G.ways:=List.getElem_mem hi'
  have ht:=ev.ends _ Rj
  have eg:G.ae[G.ways[i].t]? =some G.ae[G.ways[i].t]:=List.getElem?_eq_getElem ht
  have I4:aZ (some o) C R B H' G:=I3.same kp
  have hm':H' m=some (.lst []):=kp _ _ ((ak HX).trans ac)
  refine⟨⟨hi,I4.wd⟩,?_⟩
  rintro x H2 ⟨rfl,N0⟩
  have hib:i<bs.length:=by omega
  have eb:bs.getD i 0=bs[i]:=getD_at hib 0
  have P9:x= .ref bs[i]:=by
   rw[N0]
   show V.ref (bs.getD i 0)=_
   rw[eb]
  subst P9
  clear N0
  have ek:G.keys[i]? =some ([Sum.inl (G.ways[i].s:Int),Sum.inl (G.ways[i].t:Int)],V.ref G.ways[i].a):=by
   unfold RG.keys;rw[List.getElem?_map,ew];rfl
  have hb2:H2 bs[i]=some (.tup [.int G.ways[i].s,.int G.ways[i].t]):=kp _ _ (Qx i _ _ _ ek (List.getElem?_eq_getElem hib))
  refine⟨bs[i],_,rfl,bn.of hb2,rfl,_,_,rfl,_,_,rfl,rfl,?_⟩
  refine⟨_,rfl,.inl ⟨rfl,_,aN.of hm'⟩,_,rfl,G.x,G.dx,_,rfl,I4.ob,rfl,_,rfl,_,rfl,?_⟩
  refine⟨some o,G,B,i,G.ways[i],G.ae[G.ways[i].t],rfl,I4,ev.keyed,ew,eg,fun l2 H3 s3 hl2=> ?_⟩
  refine⟨m,l2,[],[],rfl,rfl,s3 _ _ hm',hl2,Nat.zero_le _,_,_,rfl,fun b u e=> ?_⟩
  by_cases nb:b=m
  ·subst nb;rw[ac];rw[ak HX,ac]at e;exact e
  ·rw[ak nb];exact s3 _ _ (kp b u e)
 ·rintro σ' H' ⟨r3,r4,rfl,kp⟩
  have On:H' G.wd=some (.fY o (.dT G.keys)):=kp _ _ ac
  refine⟨⟨rfl,On⟩,On,?_⟩
  have Md:upd H' G.wd (.dT G.keys) p=some (.lst gs):=by
   rw[ak Oi]
   exact kp _ _ (by rw[ak Oi,ak RX];exact ac)
  have FW:upd H' G.wd (.dT G.keys) m=some (.lst []):=(ak HX).trans (kp _ _ ((ak HX).trans ac))
  have OU:aw (upd (upd H1 p (.lst gs)) m (.lst [])) (upd H' G.wd (.dT G.keys)):=fun b u e=>by
   by_cases hb:b=G.wd
   ·subst hb;rw[ac];rw[I2.wd]at e;exact e
   ·rw[ak hb];exact kp b u (by rw[ak hb];exact e)
  have sH:aw H (upd H' G.wd (.dT G.keys)):=Hj.trans OU
  have R5:aq (upd H' G.wd (.dT G.keys)) (((List.range G.ae.length).filter G.ke).map mO) gs:=((s1.trans s2).trans OU).reps rg
  refine⟨_,rfl,_,rfl,m,[],none,[],4,rfl,aN.of FW,aq.nil,fun ns hns=>(by cases hns),by decide,by decide,fun l3 ms ys' hl3 pm so rm=> ?_⟩
  have em:ms= []:=List.perm_nil.mp pm
  subst em
  obtain rfl:ys'= []:=by simpa only[List.map_nil,aq]using rm
  have s6:=ah hl3 (.lst [])
  refine⟨p,l3,gs,[],rfl,rfl,s6 _ _ Md,ac,Nat.le_of_lt (big (by simp;omega)),fun l4 zh=> ?_⟩
  have s7:=ah zh (.lst (gs++ []))
  refine q l4 gs _ (sH.trans (s6.trans s7)) (sH.free (s6.free zh)) (by rw[ac,List.append_nil]) ?_
  exact(s6.trans s7).reps R5
end
end W2
namespace W2
open PySem PySem.Spec PyProof.Rows K2 L2
abbrev BL:Stmt:=inClass eV 9
abbrev mr:Stmt:=inClass eV 12
def HA.on(g:HA):HA:= {g with rows:=g.rows.drop 1,wt:= .go}
def HA.idle(g:HA):Bool:=decide (g.wt= .all)||decide (g.rows.length=0)
def HA.free(g:HA):HA:=if g.wt= .all then g.on else g
theorem HA.tZ(g:HA):g.free.cells=g.cells:=by unfold HA.free;split<;>rfl
def RG.upto(G:RG)(i:Nat):RG:= {G with ae:=(G.ae.take i).map HA.free++G.ae.drop i}
def RG.pass(G:RG):RG:=if G.ae.all HA.idle=true then{G with ae:=G.ae.map HA.free}else G
theorem y8(G:RG):G.upto 0=G:=by unfold RG.upto;simp
theorem mJ(G:RG):G.upto G.ae.length= {G with ae:=G.ae.map HA.free}:=by unfold RG.upto;simp
theorem Ci(G:RG){i:Nat}(h:i<G.ae.length):(G.upto i).ae[i]? =some G.ae[i]:=by
 show((G.ae.take i).map HA.free++G.ae.drop i)[i]? =_
 rw[List.getElem?_append_right (by simp;omega)]
 simp only[List.length_map,List.length_take,Nat.min_eq_left (Nat.le_of_lt h),Nat.sub_self,List.getElem?_drop,Nat.add_zero]
 exact List.getElem?_eq_getElem h
theorem oI(G:RG){i:Nat}(h:i<G.ae.length):(G.upto i).aW i G.ae[i].free=G.upto (i+1):=by
 have e:((G.ae.take i).map HA.free++G.ae.drop i).set i G.ae[i].free=(G.ae.take (i+1)).map HA.free++G.ae.drop (i+1):=by
  rw[List.set_append_right _ _ (by simp;omega)]
  simp only[List.length_map,List.length_take,Nat.min_eq_left (Nat.le_of_lt h),Nat.sub_self]
  rw[take_one h,List.map_append,List.append_assoc,List.drop_eq_getElem_cons h]
  rfl
 show({G with ae:=_}:RG)= {G with ae:=_}
 rw[<-e];rfl
theorem fU(G:RG)(i:Nat):(G.upto i).cells=G.cells:=by
 have e:(((G.ae.take i).map HA.free++G.ae.drop i).map HA.cells)=G.ae.map HA.cells:=by
  rw[List.map_append,List.map_map]
  have:(HA.cells∘HA.free)=HA.cells:=funext fun g=>g.tZ
  rw[this,<-List.map_append,List.take_append_drop]
 show G.own++(G.ways.map Way.a++(((G.ae.take i).map HA.free++G.ae.drop i).map HA.cells).flatten)=_
 rw[e];rfl
theorem GO(w:AW):decide (w.pv=tJ)=decide (w= .all):=by
 cases w with
 |go=>exact decide_eq_decide.mpr ⟨fun h=>(by cases h),fun h=>(by cases h)⟩
 |all=>rfl
 |Ij n=>
  refine decide_eq_decide.mpr ⟨fun h=> ?_,fun h=>(by cases h)⟩
  simp[AW.pv,tJ]at h
section
variable{P:Program}{w:World}{K:PySem.W.Frag}{mg:Str->Option Value}{base:Heap}
theorem vW{C:Addr}{H:Hp}{g:HA}{Q:VK}{E:XK}(I:bI C H g)(q: ∀H',aw H H'->Q (.bl (decide (g.wt= .all))) H'):iF C [.ref g.x] H Q E:=by
 obtain⟨rv,wv,hx,r1,r2⟩:=I.ob
 refine⟨g.x,g.dx,_,wv,g.wt.pv,rfl,hx,rfl,r2,?_,fun H' s=>by rw[GO];exact q H' s⟩
 cases g.wt<;>simp[AW.pv,tJ,dp,kq]
theorem vV{C:Addr}{H:Hp}{g:HA}{Q:VK}{E:XK}(I:bI C H g)(q:Q (.bl (decide (g.rows.length=0))) H):gQ C [.ref g.x] H Q E:=by
 obtain⟨rv,wv,hx,r1,r2⟩:=I.ob
 obtain⟨ra,rs,rfl,F5,rrs⟩:=r1.tup
 have e:=rrs.len
 rw[List.length_map]at e
 exact⟨g.x,g.dx,_,ra,rs,rfl,hx,rfl,F5,by rw[<-e];exact q⟩
inductive oE(C R:Addr)(vs:List V)(H:Hp)(Q:VK)(fG:XK):Prop
 |mk (G:RG) (B:Nat) (_:vs= [.ref G.x]) (_:aZ none C R B H G) (_:G.ae.length<=10) (_: ∀H',mP none C R B H G H' G.pass->Q .aH H')
theorem oq:av ["self", "hand"] ["self"] (am mr):=⟨rfl,rfl,rfl,by decide+kernel,rfl,by decide+kernel,by decide+kernel⟩
theorem ya:(["hand", "self"]:List Str).Nodup:=by decide+kernel
theorem uM{f C R:Addr}{fd:FuncData}(F:cE K "pass_all" "Run.pass_all" mr f fd)(T:Tx mg)(hC:ba K C)(hR:dW K R)(KQ:bX P w K mg base C 1 "waits_in_all" ["self"] (iF C))(hen:bX P w K mg base C 1 "has_ended" ["self"] (gQ C))(hgo:bX P w K mg base C 1 "go_on" ["self"] (iE C)):aI P w K mg base br 2 f fd ["self"] (oE C R):=by
 obtain⟨g1,CQ,hm1,jA,hb1⟩:=KQ
 obtain⟨g2,zg,hm2,gK,hb2⟩:=hen
 obtain⟨g3,N2,FX,FV,Cn⟩:=hgo
 refine F.ok oq (fun vs H Q E h=> ?_) (fun cdv A outer s H vs Q E hr h=> ?_)
 ·obtain⟨_,_,rfl,_⟩:=h;rfl
 obtain⟨G,B,rfl,I,hn,q⟩:=h
 refine⟨_,ap (bL (cp (aA (iV rfl) rfl T.all boot_all (aa (DN 1 (dP (T:= ["hand"]) (bT ["self"] rfl (by decide+kernel)) rfl (cz (bq (pv 0) rfl)) (fun Y hY=>by cases hY;exact aG (i:=0) ya rfl (Or.inl rfl)) bA (fun Y _=>cK) (fun Y hY=>by cases hY;exact Bb (bo (pv 0) hC.cl hm1 jA hr hb1 .nil aD) (fg (bo (pv 0) hC.cl hm2 gK hr hb2 .nil aD))))) af)))
  (ap (cX PassesOwn.never rfl (cz (bq (pv 0) rfl)) (aG (i:=1) oq.nd rfl (Or.inl rfl)) (ap (bL (cp (bo (pv 1) hC.cl hm1 jA hr hb1 .nil aD)) (ap (aT (bo (pv 1) hC.cl FX FV hr Cn .nil aD))) aU)))) aU),?_⟩
 have hless: ∀i,1<=i-> ∀v,([some (V.ref G.x),none]:List (Option V))[i]? ≠some (some v):=fun i hi v=>by
  match i,hi with
  |1,_=>simp
  |i+2,_=>simp
 refine⟨hless,?_⟩
 refine⟨_,rfl,G.x,R,G.dx,_,_,rfl,I.ob,hR.cl,hR.ae,rfl,G.hl,rfl,⟨_,aN.of I.hl⟩,?_⟩
 have lh:(G.ae.map fun g=>V.ref g.x).length=G.ae.length:=List.length_map _
 refine cy (n:=(G.ae.map fun g=>V.ref g.x).length) (fun i ys H'=>aw H H'/\ys=((G.ae.take i).map HA.idle).map V.bl) ⟨aw.refl _,rfl⟩ ?_ ?_
 ·rintro i ys H' hi ⟨sm,rfl⟩
  have hi':i<G.ae.length:=by omega
  have eg:G.ae[i]? =some G.ae[i]:=List.getElem?_eq_getElem hi'
  have zO:(G.ae.map fun g=>V.ref g.x)[i]? =some (.ref G.ae[i].x):=by rw[List.getElem?_map,eg];rfl
  have J:=(I.same sm).ae i _ eg
  obtain⟨rv,wv,hx,r1,r2⟩:=J.ob
  refine⟨⟨_,_,aN.of (sm _ _ I.hl),zO⟩,by rw[List.length_map,List.length_map,List.length_take];exact big (by omega),?_⟩
  rintro x H1 ⟨rfl,hy⟩
  have ex:=hy _ (aN.of (sm _ _ I.hl))
  rw[zO]at ex
  injection ex with ex
  subst ex
  refine ka ?_
  refine⟨_,rfl,G.ae[i].x,G.ae[i].dx,_,rfl,hx,rfl,?_⟩
  dsimp only[bH]
  refine vW J fun H2 s2=>⟨_,rfl,bY (fun c=> ?_) (fun c=> ?_)⟩
  ·have ei:G.ae[i].idle=true:=by unfold HA.idle;rw[c];rfl
   exact Wc.next hi ⟨sm.trans s2,by rw[take_one hi',List.map_append,List.map_append,List.map_cons,ei];rfl⟩
  ·have J2:=J.same s2
   refine⟨_,rfl,G.ae[i].x,G.ae[i].dx,_,rfl,s2 _ _ hx,rfl,?_⟩
   dsimp only[bH]
   refine vV J2 ?_
   have ei:G.ae[i].idle=decide (G.ae[i].rows.length=0):=by unfold HA.idle;rw[(by simpa using c:decide (G.ae[i].wt= .all)=false),Bool.false_or]
   exact Wc.next hi ⟨sm.trans s2,by rw[take_one hi',List.map_append,List.map_append,List.map_cons,ei];rfl⟩
 rintro ys H1 ⟨sm,rfl⟩
 rw[lh,List.take_length]
 refine⟨⟨_,aN.of (sm _ _ I.hl),Nat.le_of_eq lh⟩,fun p hp=> ?_⟩
 have s1:=ah hp (.lst ((G.ae.map HA.idle).map V.bl))
 have a1:=mP.same I (sm.trans s1)
 refine⟨p,G.ae.map HA.idle,rfl,aN.of ac,_,rfl,bY (fun c=> ?_) (fun c=> ?_)⟩
 rotate_left
 ·have ep:G.pass=G:=by unfold RG.pass;rw[if_neg (by simpa using c)]
  exact q _ (by rw[ep];exact a1)
 refine⟨_,rfl,G.x,R,G.dx,_,_,rfl,a1.is.ob,hR.cl,hR.ae,rfl,G.hl,rfl,⟨_,aN.of a1.is.hl⟩,?_⟩
 have ep:G.pass=G.upto G.ae.length:=by rw[mJ];unfold RG.pass;rw[if_pos (by simpa using c)]
 refine dF (n:=G.ae.length) (fun i σ' H'=> ∃ (r1:Option V),σ'= [some (.ref G.x),r1]/\mP none C R B H G H' (G.upto i)) ⟨none,rfl,by rw[y8];exact a1⟩ ?_ ?_
 ·rintro i σ' H' hi ⟨r1,rfl,a⟩
  have eg:=Ci G hi
  have zO:((G.upto i).ae.map fun g=>V.ref g.x)[i]? =some (.ref G.ae[i].x):=by rw[List.getElem?_map,eg];rfl
  have hl':H' G.hl=_:=a.is.hl
  have J:=a.is.ae i _ eg
  obtain⟨rv,wv,hx,_,_⟩:=J.ob
  refine⟨⟨_,_,aN.of hl',zO⟩,?_⟩
  rintro x H1 ⟨rfl,hy⟩
  have ex:=hy _ (aN.of hl')
  rw[zO]at ex
  injection ex with ex
  subst ex
  refine⟨_,rfl,G.ae[i].x,G.ae[i].dx,_,rfl,hx,rfl,?_⟩
  dsimp only[bH]
  refine vW J fun H2 s2=>⟨_,rfl,bY (fun c=> ?_) (fun c=> ?_)⟩
  ·have J2:=J.same s2
   refine⟨_,rfl,G.ae[i].x,G.ae[i].dx,_,rfl,s2 _ _ hx,rfl,?_⟩
   dsimp only[bH]
   refine zu J2 fun H3 b3=> ?_
   have a2:=a.trans (mP.same a.is s2) (fU G i)
   have ef:G.ae[i].free= {G.ae[i]with rows:=G.ae[i].rows.drop 1,wt:= .go}:=by unfold HA.free;rw[if_pos (of_decide_eq_true c)];rfl
   refine⟨_,rfl,?_⟩
   rw[<-oI G hi,ef]
   exact a2.trans (a2.is.hand eg b3 rfl) (fU G i)
  ·have ef:G.ae[i].free=G.ae[i]:=by unfold HA.free;rw[if_neg (fun z=>c (decide_eq_true z))]
   refine⟨_,rfl,?_⟩
   have e2:(G.upto i).aW i G.ae[i].free=G.upto i:=by
    rw[ef]
    show({G.upto i with ae:=(G.upto i).ae.set i G.ae[i]}:RG)=G.upto i
    have:(G.upto i).ae.set i G.ae[i]=(G.upto i).ae:=by
     apply List.ext_getElem?
     intro j
     rw[List.getElem?_set]
     split
     ·rename_i e;subst e
      split
      ·exact eg.symm
      ·rename_i hh
       exact absurd (List.getElem?_eq_some_iff.mp eg).1 hh
     ·rfl
    rw[this]
   rw[<-oI G hi,e2]
   exact a.trans (mP.same a.is s2) (fU G i)
 ·rintro σ' H' ⟨r1,rfl,a⟩
  refine⟨⟨_,aN.of (show H' G.hl=_ from a.is.hl),?_⟩,q H' (by rw[ep];exact a)⟩
  rw[List.length_map,mJ,List.length_map];exact Nat.le_refl _
inductive B4(C R:Addr)(vs:List V)(H:Hp)(Q:VK)(fG:XK):Prop
 |mk (G:RG) (B i:Nat) (g:HA) (d:aB) (rest:List aB) (_:vs= [.ref G.x,.int i]) (_:aZ none C R B H G) (_:G.ae[i]? =some g) (_:g.rows=d::rest) (_:g.said.length<=1000) (_:g.td<=1000) (_: ∀H',mP none C R B H G H' (G.aW i (g.step d))->Q .aH H')
theorem vj:av ["self", "number", "hand", "row"] ["self", "number"] (am BL):=⟨rfl,rfl,rfl,by decide+kernel,rfl,by decide+kernel,by decide+kernel⟩
theorem DA{f C R:Addr}{fd:FuncData}(F:cE K "step" "Run.step" BL f fd)(hC:ba K C)(hR:dW K R)(hse:bX P w K mg base R 2 "send" ["self", "sender", "row"] jQ)(hdo:f9 P w K mg base br 3 "do_row" ["hand", "row"] (wQ C)):aI P w K mg base br 4 f fd ["self", "number"] (B4 C R):=by
 obtain⟨g1,CQ,hm1,jA,hb1⟩:=hse
 refine F.ok vj (fun vs H Q E h=> ?_) (fun cdv A outer s H vs Q E hr h=> ?_)
 ·obtain⟨_,_,_,_,_,_,rfl,_⟩:=h;rfl
 obtain⟨G,B,i,g,d,rest,rfl,I,hg,er,hsl,C3,q⟩:=h
 refine⟨_,ag (aJ (i:=2) vj.nd rfl (Or.inl rfl) (aK bm (bq (pv 0) rfl) (pv 1) (fun _ _=>rfl)))
  (ag (aJ (i:=3) vj.nd rfl (Or.inl rfl) (aK (bF K rfl) (bq (pv 2) rfl) au (fun _ _=>rfl)))
  (ap (bL (aP hJ (aK (bF K rfl) (pv 3) au (fun _ _=>rfl)) bB (aY _)) (ap (aT (bQ (pv 0) hR.cl hm1 jA (hr.mono (by decide)) hb1 .nil aD (aa (pv 1) (aa (pv 3) af))))) (ap (aT (aF hdo hr rfl aD (aa (pv 2) (aa (pv 3) af)))))))),?_⟩
 have J:=I.ae i g hg
 obtain⟨rv,wv,hx,r1,r2⟩:=J.ob
 obtain⟨ra,rs,rfl,F5,rrs⟩:=r1.tup
 rw[er,List.map_cons]at rrs
 obtain⟨dv,dr,rfl,rd,_⟩:=(show ∃v r,rs=v::r/\Rep H d.pv v/\aq H (rest.map aB.pv) r from by simpa only[aq]using rrs)
 have eh:(G.ae.map fun g=>V.ref g.x)[i]? =some (.ref g.x):=by rw[List.getElem?_map,hg];rfl
 refine⟨_,rfl,G.x,R,G.dx,_,_,rfl,I.ob,hR.cl,hR.ae,rfl,_,rfl,G.hl,_,(i:Int),_,rfl,rfl,aN.of I.hl,bc eh,?_⟩
 refine⟨_,rfl,g.x,C,g.dx,_,_,rfl,hx,hC.cl,hC.rows,rfl,ra,_,0,_,rfl,rfl,bn.of F5,bc (j:=0) rfl,?_⟩
 have fst: ∃p us x,dv= .ref p/\H p=some (.tup (.str (S x)::us))/\x≠hZ:=by
  cases d<;>(obtain⟨p,vs,rfl,hp,rs⟩:=rd.tup;simp only[aq]at rs;obtain⟨v,r,rfl,⟨rfl,_⟩,_⟩:=rs;exact⟨p,r,_,rfl,hp,by decide⟩)
 obtain⟨p,us,x,rfl,hp,nx⟩:=fst
 refine⟨_,rfl,p,_,0,_,rfl,rfl,bn.of hp,bc (j:=0) rfl,rfl,_,rfl,?_⟩
 refine bY (fun c=> ?_) (fun c=> ?_)
 ·exfalso
  have z:V.str (S x)=V.str "send":=by simpa using c
  injection z with z
  rw[(by decide+kernel:("send":Str)=S hZ)]at z
  exact nx (iO z)
 ·exact⟨_,rfl,_,rfl,g,d,.ref p,rfl,J,hsl,C3,rd,fun H' a=>q H' (I.hand hg a (g.iG d))⟩
end
end W2
namespace W2
open PySem PySem.Spec PyProof.Rows K2 L2
abbrev jP:Stmt:=top 50
abbrev La:Stmt:=inClass eV 7
abbrev u7:Stmt:=inClass eV 8
theorem E5{H:Hp}{a b:PV}{v:V}(r:Rep H (.tup [a,b]) v): ∃p u1 u2,v= .ref p/\H p=some (.tup [u1,u2])/\Rep H a u1/\Rep H b u2:=by
 obtain⟨p,vs,rfl,hp,rr⟩:=r.tup
 simp only[aq]at rr
 obtain⟨u1,r1,rfl,h1,u2,r2,rfl,h2,rfl⟩:=rr
 exact⟨p,u1,u2,rfl,hp,h1,h2⟩
theorem A3(G:RG):G.pass.x=G.x:=by unfold RG.pass;split<;>rfl
theorem DH(G:RG):G.pass.dx=G.dx:=by unfold RG.pass;split<;>rfl
theorem DI(G:RG):G.pass.fs=G.fs:=by unfold RG.pass;split<;>rfl
theorem DJ(G:RG):G.pass.hi=G.hi:=by unfold RG.pass;split<;>rfl
theorem lV(G:RG):G.pass.cells=G.cells:=by
 unfold RG.pass
 split
 ·rw[<-mJ];exact fU G _
 ·rfl
theorem A2(G:RG):G.pass.ae.length=G.ae.length:=by unfold RG.pass;split<;>simp
section
variable{P:Program}{w:World}{K:PySem.W.Frag}{mg:Str->Option Value}{base:Heap}
theorem um:PySem.W.kitOne K (.type "str") (.type "bool")=some false:=rfl
theorem rB:PySem.W.kitOne K (.type "NoneType") (.type "bool")=some false:=rfl
theorem pB:PySem.W.kitOne K (.type "tuple") (.type "bool")=some false:=rfl
theorem xk{X:Cx}(K:PySem.W.Frag)(hK:X.K=K):dc X (.builtin "isinstance") (fun xs H Q=> ∃ (x c:V) (t cv:Value) (b:Bool),xs= [x,c]/\ie K H x t/\(∀u,RelV c u->u=cv)/\PySem.W.kitOne K t cv=some b/\Q (.bl b) H):=hK▸cf
inductive mC(vs:List V)(H:Hp)(Q:VK)(fG:XK):Prop
 |mk (v:V) (ps:List PV) (_:vs= [v]) (_:Rep H (.tup ps) v) (_:ps.length<=1000) (_: ∀H',aw H H'->Q (.bl false) H')
theorem vi:av ["event"] ["event"] (am jP):=⟨rfl,rfl,rfl,by decide+kernel,rfl,by decide+kernel,by decide+kernel⟩
theorem uF:(["part", "event"]:List Str).Nodup:=by decide+kernel
theorem rW{f:Addr}{fd:FuncData}(F:cE K "has_truth" "has_truth" jP f fd)(T:Tx mg)(T2:Ez mg):aI P w K mg base br 1 f fd ["event"] mC:=by
 refine F.ok vi (fun vs H Q E h=> ?_) (fun cdv A outer s H vs Q E hr h=> ?_)
 ·obtain⟨_,_,rfl,_⟩:=h;rfl
 obtain⟨v,ps,rfl,rp,hl,q⟩:=h
 refine⟨_,ap (aE (aA (qH rfl) rfl T2.any boot_any (aa (dP (T:= ["part"]) (bT ["event"] rfl (by decide+kernel)) rfl (lY (pv 0)) (fun Y hY=>by cases hY;exact aG (i:=0) uF rfl (Or.inl rfl)) bA (fun Y _=>cK) (fun Y hY=>by cases hY;exact aA (xk K rfl) rfl T.Am boot_isinstance (aa (pv 0) (aa (cM rfl T.bool boot_bool (v:= .ty "bool") rfl) af)))) af))),?_⟩
 obtain⟨a,xs,rfl,ha,rs⟩:=rp.tup
 have ll:=rs.len
 refine⟨_,rfl,a,rfl,⟨xs,bn.of ha⟩,?_⟩
 refine cy (n:=xs.length) (fun i ys H'=>H'=H/\ys=(List.replicate i false).map V.bl) ⟨rfl,rfl⟩ ?_ ?_
 ·rintro i ys _ hi ⟨rfl,rfl⟩
  refine⟨⟨xs,xs[i],bn.of ha,List.getElem?_eq_getElem hi⟩,by simp;exact big (by omega),?_⟩
  rintro x H1 ⟨rfl,hy⟩
  have ex:=hy xs (bn.of ha)
  obtain⟨p,ep,Kc⟩:=rs.get ex
  obtain⟨t,ty,c⟩:=Kc.ty (K:=K)
  refine ka ?_
  have fin:(List.replicate i false).map V.bl++ [V.bl false]=(List.replicate (i+1) false).map V.bl:=by rw[List.replicate_succ',List.map_append];rfl
  rcases c with⟨_,rfl,rfl⟩|⟨_,rfl,rfl⟩|⟨_,rfl,rfl⟩|⟨rfl,rfl⟩
  ·exact⟨_,rfl,_,_,_,_,_,rfl,ty,fun u z=>z,pB,Wc.next hi ⟨rfl,fin⟩⟩
  ·exact⟨_,rfl,_,_,_,_,_,rfl,ty,fun u z=>z,lJ,Wc.next hi ⟨rfl,fin⟩⟩
  ·exact⟨_,rfl,_,_,_,_,_,rfl,ty,fun u z=>z,um,Wc.next hi ⟨rfl,fin⟩⟩
  ·exact⟨_,rfl,_,_,_,_,_,rfl,ty,fun u z=>z,rB,Wc.next hi ⟨rfl,fin⟩⟩
 ·rintro ys _ ⟨rfl,rfl⟩
  refine⟨⟨xs,bn.of ha,Nat.le_refl _⟩,fun p hp=>⟨p,_,rfl,aN.of ac,?_⟩⟩
  have e:(List.replicate xs.length false).any id=false:=by
   rw[List.any_eq_false];intro x hx;rw[List.eq_of_mem_replicate hx];decide
  rw[e]
  exact q _ (ah hp _)
inductive kK(C R:Addr)(vs:List V)(H:Hp)(Q:VK)(fG:XK):Prop
 |mk (G:RG) (B:Nat) (ev:V) (i:Nat) (g:HA) (d:aB) (rest:List aB) (_:vs= [.ref G.x,ev]) (_:aZ none C R B H G) (_:zn G) (_:B<=900) (_:Rep H (mO i) ev) (_:G.ae[i]? =some g) (_:g.rows=d::rest) (_:g.wt= .go) (_:g.said.length<=1000) (_:g.td<=1000) (_: ∀H',mP none C R (B+1) H G H' (G.aW i (g.step d)).pass->Q .aH H')
theorem D2:av ["self", "event"] ["self", "event"] (am u7):=⟨rfl,rfl,rfl,by decide+kernel,rfl,by decide+kernel,by decide+kernel⟩
theorem AI{f C R:Addr}{fd:FuncData}(F:cE K "carry_out" "Run.carry_out" u7 f fd)(hR:dW K R)(hst:bX P w K mg base R 4 "step" ["self", "number"] (B4 C R))(HW:bX P w K mg base R 3 "meet" ["self", "sender", "send", "taker", "take"] jQ)(hpa:bX P w K mg base R 2 "pass_all" ["self"] (oE C R)):aI P w K mg base br 5 f fd ["self", "event"] (kK C R):=by
 obtain⟨g1,CQ,hm1,jA,hb1⟩:=hst
 obtain⟨g2,zg,hm2,gK,hb2⟩:=HW
 obtain⟨g3,N2,FX,FV,Cn⟩:=hpa
 refine F.ok D2 (fun vs H Q E h=> ?_) (fun cdv A outer s H vs Q E hr h=> ?_)
 ·obtain⟨_,_,_,_,_,_,_,rfl,_⟩:=h;rfl
 obtain⟨G,B,ev,i,g,d,rest,rfl,I,eo,hB,rp,hg,er,hw,hsl,C3,q⟩:=h
 refine⟨_,ag (bL (aP hJ (aK (bF K rfl) (pv 1) au (fun _ _=>rfl)) bB (aY _)) (ap (aT (bQ (pv 0) hR.cl hm1 jA hr hb1 .nil aD (aa (aK (bF K rfl) (pv 1) au (fun _ _=>rfl)) af))))
   (ap (aT (bQ (pv 0) hR.cl hm2 gK (hr.mono (by decide)) hb2 .nil aD (aa (aK (bF K rfl) (pv 1) au (fun _ _=>rfl)) (aa (aK (bF K rfl) (pv 1) au (fun _ _=>rfl)) (aa (aK (bF K rfl) (pv 1) au (fun _ _=>rfl)) (aa (aK (bF K rfl) (pv 1) au (fun _ _=>rfl)) af))))))))
  (ag (aT (bo (pv 0) hR.cl FX FV (hr.mono (by decide)) Cn .nil aD))
  (ap (aT (i9 PySem.F.plainAttrs_list PySem.F.slot_list_append PySem.F.type_list_append dR (bq (pv 0) rfl) (aa (pv 1) af))))),?_⟩
 obtain⟨pa,u1,u2,rfl,hpa,k1,k2⟩:=E5 (a:= .at (.str Fg)) (b:= .at (.int i)) rp
 obtain⟨rfl,_⟩:=(show u1= .str (S Fg)/\_ from k1)
 obtain rfl:u2= .int i:=k2
 refine⟨_,rfl,pa,_,0,_,rfl,rfl,bn.of hpa,rfl,rfl,_,rfl,bY (fun c=> ?_) (fun c=>absurd (show decide (V.str (S Fg)=V.str "go")=true from by rw[Nj];simp) c)⟩
 refine⟨_,rfl,G.x,G.dx,_,rfl,I.ob,rfl,_,rfl,pa,_,1,_,rfl,rfl,bn.of hpa,rfl,?_⟩
 refine⟨G,B,i,g,d,rest,rfl,I,hg,er,hsl,C3,fun H1 a=> ?_⟩
 have ec:(G.aW i (g.step d)).cells=G.cells:=hV hg (g.iG d)
 refine⟨_,rfl,G.x,G.dx,_,rfl,a.is.ob,rfl,?_⟩
 dsimp only[bH]
 refine⟨G.aW i (g.step d),B,rfl,a.is,by show(G.ae.set i _).length<=10;rw[List.length_set];exact eo.ae,fun H2 a2=> ?_⟩
 have e2:=a2.is.ob
 rw[A3,DH,DI]at e2
 obtain⟨hs,e3,l3⟩:=a2.is.hi
 have a3:=a.trans a2 ec
 have a4:=a3.trans (a2.is.hist (hs:=hs++ [.ref pa]) (by simp;omega)) ((lV _).trans ec)
 rw[DJ]at e3 a4
 exact⟨_,rfl,G.x,R,G.dx,_,_,rfl,e2,hR.cl,hR.wb,rfl,.inl ⟨rfl,_,aN.of e3⟩,_,rfl,G.hi,hs,_,rfl,rfl,e3,big (by omega),q _ a4⟩
def Kl(C R:Addr):Sp:=kK C R
theorem Nk:av ["self", "event"] ["self", "event"] (am La):=⟨rfl,rfl,rfl,by decide+kernel,rfl,by decide+kernel,by decide+kernel⟩
theorem FI{G:RG}{i:Nat}{g:HA}{d:aB}{rest:List aB}(hg:G.ae[i]? =some g)(er:g.rows=d::rest)(hw:g.wt= .go):i∈G.goes:=by
 obtain⟨h,e⟩:=List.getElem?_eq_some_iff.mp hg
 refine List.mem_filter.mpr ⟨List.mem_range.mpr h,?_⟩
 unfold RG.ke
 rw[hg]
 simp[kY,hw,er]
theorem vQ{n:Nat}: ∀ {ps:List PV},(∀p∈ps,dp p<=n)->kq ps<=n
 | [],_=>by simp[kq]
 |p::ps,h=>by
  have h1:=h p List.mem_cons_self
  have h2:=vQ (n:=n) (ps:=ps) fun q hq=>h q (List.mem_cons_of_mem _ hq)
  simp only[kq];omega
theorem JS{f C R:Addr}{fd:FuncData}(F:cE K "do" "Run.do" La f fd)(T:Tx mg)(hR:dW K R)(QK:f9 P w K mg base br 1 "has_truth" ["event"] mC)(hev:bX P w K mg base R 4 "events" ["self"] (fE C R))(hca:bX P w K mg base R 5 "carry_out" ["self", "event"] (kK C R)):aI P w K mg base br 6 f fd ["self", "event"] (Kl C R):=by
 obtain⟨g1,CQ,hm1,jA,hb1⟩:=hev
 obtain⟨g2,zg,hm2,gK,hb2⟩:=hca
 refine F.ok Nk (fun vs H Q E h=> ?_) (fun cdv A outer s H vs Q E hr h=> ?_)
 ·obtain⟨_,_,_,_,_,_,_,rfl,_⟩:=h;rfl
 obtain⟨G,B,ev,i,g,d,rest,rfl,I,eo,hB,rp,hg,er,hw,hsl,C3,q⟩:=h
 refine⟨_,ag (bL (PW.pt (gy (dH (cp (aA cf rfl T.Am boot_isinstance (aa (pv 1) (aa (cM rfl T.tuple boot_tuple (v:= .ty "tuple") rfl) af))))) (gy (cp (aF QK hr rfl aD (aa (pv 1) af))) (gz (aP yu (pv 1) (bo (pv 0) hR.cl hm1 jA (hr.mono (by decide)) hb1 .nil aD) rfl))))) jg aU)
  (ap (aT (bQ (pv 0) hR.cl hm2 gK hr hb2 .nil aD (aa (pv 1) af)))),?_⟩
 obtain⟨t,ty,c⟩:=rp.ty (K:=K)
 have et:t= "tuple":=by
  rcases c with⟨_,_,e⟩|⟨_,e,_⟩|⟨_,e,_⟩|⟨e,_⟩
  ·exact e
  ·cases e
  ·cases e
  ·cases e
 subst et
 have hun:=hr.un
 refine⟨_,rfl,_,_,_,_,_,rfl,ty,fun u z=>z,k_same _,_,rfl,bO ?_⟩
 refine⟨_,rfl,ev,_,rfl,rp,by simp,fun H1 s1=>⟨_,rfl,bO ?_⟩⟩
 have I1:=I.same s1
 refine⟨_,rfl,_,rfl,G.x,G.dx,_,rfl,I1.ob,rfl,?_⟩
 dsimp only[bH]
 refine⟨G,B,rfl,I1,eo,fun l ys H2 s2 Cp hl ry=> ?_⟩
 have KR:mO i∈G.goes.map mO:=List.mem_map.mpr ⟨i,FI hg er hw,rfl⟩
 refine⟨l,_,ys,mO i,rfl,.inl (aN.of hl),ry,(s1.trans s2).rep rp,?_,_,rfl,?_⟩
 ·show(A.deeper (envOfC _ (am La) s.heap.objs.size f cdv)).units+1+_+_<cLine
  have h1:kq (G.goes.map mO)<=10:=vQ fun p hp=>by
   obtain⟨j,_,rfl⟩:=List.mem_map.mp hp
   simp[mO,dp,kq]
  have h2:dp (mO i)<=10:=by simp[mO,dp,kq]
  omega
 show if(if true=true then !(G.goes.map mO).contains (mO i)else _)=true then _ else _
 rw[if_pos rfl,show(G.goes.map mO).contains (mO i)=true from List.contains_iff_mem.mpr KR]
 refine bO ?_
 have a2:=mP.same I (s1.trans s2)
 refine⟨_,rfl,G.x,G.dx,_,rfl,a2.is.ob,rfl,_,rfl,?_⟩
 exact⟨G,B,ev,i,g,d,rest,rfl,a2.is,eo,hB,a2.tups.rep rp,hg,er,hw,hsl,C3,fun H' a=>q H' (a2.trans a rfl)⟩
end
end W2
namespace W2
open PySem PySem.Spec PyProof.Rows K2 L2
abbrev ve:Stmt:=inClass eV 17
abbrev vf:Stmt:=inClass eV 13
abbrev qb:Stmt:=inClass eV 15
abbrev jm:Stmt:=inClass fh 7
abbrev mo:Stmt:=inClass fh 11
theorem wz{X:Cx}(K:PySem.W.Frag)(hK:X.K=K){e:Expr}{f:Str}{ta:TE}{pos:Pos}(he:PE X e ta)(hb:attributeBase e f X.env (eval e X.env)=eval e X.env):PE X (.Attribute e f pos) (Kp K ta f):=hK▸bq he hb
def Wd(n:Nat)(Iv:Nat->Hp->Prop):Nat->Nat->Hp->Prop:=fun i m H=>i<=n/\m=n-i/\Iv i H
theorem zE{J:It}{n k:Nat}{g:TG}{tt:TT}{tk tv:TE}{σ:L2.St}{H0:Hp}{D:Addr}{Q:Hp->Prop}(Iv:Nat->Hp->Prop)(h0:Iv 0 H0)
  (hgo: ∀i H,i<n->Iv i H->J.go i H/\ ∀x H',J.mZ i H x H'->g x (List.replicate k none++σ) H' fun σ2 H2=>tt σ2 H2 fun b H3=>
   if b=true then tk σ2 H3 fun y H4=>tv σ2 H4 fun z H5=> ∃H6,ib H5 D y z H6/\(∀b,H5 b=none->b≠D)/\ ∃m',m'<n-i/\Wd n Iv (i+1) m' H6 else ∃m',m'<n-i/\Wd n Iv (i+1) m' H3)
  (hstop: ∀H,Iv n H->J.stop n H/\Q H):
  ∃W:Nat->Nat->Hp->Prop,(∃m,W 0 m H0)/\ ∀i m H,W i m H->
 (J.stop i H/\Q H)\/(J.go i H/\ ∀x H',J.mZ i H x H'->g x (List.replicate k none++σ) H' fun σ2 H2=>tt σ2 H2 fun b H3=>
  if b=true then tk σ2 H3 fun y H4=>tv σ2 H4 fun z H5=> ∃H6,ib H5 D y z H6/\(∀b,H5 b=none->b≠D)/\ ∃m',m'<m/\W (i+1) m' H6 else ∃m',m'<m/\W (i+1) m' H3):=by
 refine⟨Wd n Iv,⟨n,Nat.zero_le _,rfl,h0⟩,fun i m H ⟨hi,hm,h⟩=> ?_⟩
 subst hm
 by_cases e:i=n
 ·subst e;exact .inl (hstop H h)
 ·exact .inr (hgo i H (by omega) h)
def HA.res(g:HA):PV:= .tup [.tup [],.tup (g.said.map fun i=> .at (.int i)),.tup [],.at (.int g.rows.length)]
theorem cS{H:Hp}: ∀ns:List Int,aq H (ns.map fun i=> .at (.int i)) (aC ns)
 | []=>aq.nil
 |n::ns=>aq.cons (by simp only[Rep]) (cS ns)
section
variable{P:Program}{w:World}{K:PySem.W.Frag}{mg:Str->Option Value}{base:Heap}
inductive qk(C R:Addr)(vs:List V)(H:Hp)(Q:VK)(fG:XK):Prop
 |mk (G:RG) (B i:Nat) (g:HA) (_:vs= [.ref G.x,.int i]) (_:aZ none C R B H G) (_:G.ae[i]? =some g) (_: ∀l,H l=none->Q (.ref l) (upd H l (.lst (aC g.said))))
theorem Hg:av ["self", "hand"] ["self", "hand"] (am ve):=⟨rfl,rfl,rfl,by decide+kernel,rfl,by decide+kernel,by decide+kernel⟩
theorem DB{f C R:Addr}{fd:FuncData}(F:cE K "told" "Run.told" ve f fd)(T:Tx mg)(hC:ba K C)(hR:dW K R):aI P w K mg base br 1 f fd ["self", "hand"] (qk C R):=by
 refine F.ok Hg (fun vs H Q E h=> ?_) (fun cdv A outer s H vs Q E hr h=> ?_)
 ·obtain⟨_,_,_,_,rfl,_⟩:=h;rfl
 obtain⟨G,B,i,g,rfl,I,hg,q⟩:=h
 refine⟨_,ap (aE (bf fK rfl T.list boot_list (aa (bq (aK bm (bq (pv 0) rfl) (pv 1) (fun _ _=>rfl)) rfl) af))),?_⟩
 have J:=I.ae i g hg
 obtain⟨rv,wv,hx,r1,r2⟩:=J.ob
 have eh:(G.ae.map fun g=>V.ref g.x)[i]? =some (.ref g.x):=by rw[List.getElem?_map,hg];rfl
 exact⟨_,rfl,G.x,R,G.dx,_,_,rfl,I.ob,hR.cl,hR.ae,rfl,_,rfl,G.hl,_,(i:Int),_,rfl,rfl,aN.of I.hl,bc eh,g.x,C,g.dx,_,_,rfl,hx,hC.cl,hC.said,rfl,g.sa,_,rfl,.inl (aN.of J.sa),q⟩
inductive wT(C R:Addr)(vs:List V)(H:Hp)(Q:VK)(fG:XK):Prop
 |mk (G:RG) (B:Nat) (_:vs= [.ref G.x]) (_:aZ none C R B H G) (_:zn G) (_:G.goes= []) (_: ∀H',aw H H'->Q (.str (if(G.ae.all fun g=>decide (g.rows.length=0))=true then "done" else "stuck")) H')
theorem D7:av ["self"] ["self"] (am vf):=⟨rfl,rfl,rfl,by decide+kernel,rfl,by decide+kernel,by decide+kernel⟩
theorem lR:(["hand", "self"]:List Str).Nodup:=by decide+kernel
theorem AR{f C R:Addr}{fd:FuncData}(F:cE K "state" "Run.state" vf f fd)(T:Tx mg)(hC:ba K C)(hR:dW K R)(hev:bX P w K mg base R 4 "events" ["self"] (fE C R))(hen:bX P w K mg base C 1 "has_ended" ["self"] (gQ C)):aI P w K mg base br 5 f fd ["self"] (wT C R):=by
 obtain⟨g1,CQ,hm1,jA,hb1⟩:=hev
 obtain⟨g2,zg,hm2,gK,hb2⟩:=hen
 refine F.ok D7 (fun vs H Q E h=> ?_) (fun cdv A outer s H vs Q E hr h=> ?_)
 ·obtain⟨_,_,rfl,_⟩:=h;rfl
 obtain⟨G,B,rfl,I,eo,he,q⟩:=h
 refine⟨_,ag (bL (aP nS (aA aR rfl T.len boot_len (aa (bo (pv 0) hR.cl hm1 jA hr hb1 .nil aD) af)) au (aY _)) (ap (aE bB)) aU)
  (ap (aE (fz (cp (aA (iV rfl) rfl T.all boot_all (aa (dP (T:= ["hand"]) (bT ["self"] rfl (by decide+kernel)) rfl (cz (bq (pv 0) rfl)) (fun Y hY=>by cases hY;exact aG (i:=0) lR rfl (Or.inl rfl)) bA (fun Y _=>cK) (fun Y hY=>by cases hY;exact bo (pv 0) hC.cl hm2 gK (hr.mono (by decide)) hb2 .nil aD)) af))) bB bB))),?_⟩
 refine⟨_,rfl,G.x,G.dx,_,rfl,I.ob,rfl,?_⟩
 dsimp only[bH]
 refine⟨G,B,rfl,I,eo,fun l ys H1 s1 Cp hl ry=> ?_⟩
 have ly:ys.length=0:=by
  have e1:=ry.len
  rw[he]at e1
  exact e1.symm
 refine⟨l,ys,rfl,.inl (aN.of hl),_,_,rfl,rfl,_,rfl,bY (fun c=> ?_) (fun c=> ?_)⟩
 ·have:(0:Int)<(ys.length:Int):=by simpa using c
  omega
 have I1:=I.same s1
 refine⟨_,rfl,G.x,R,G.dx,_,_,rfl,I1.ob,hR.cl,hR.ae,rfl,G.hl,rfl,⟨_,aN.of I1.hl⟩,?_⟩
 have lh:(G.ae.map fun g=>V.ref g.x).length=G.ae.length:=List.length_map _
 have hn:=eo.ae
 refine cy (n:=(G.ae.map fun g=>V.ref g.x).length) (fun i ys H'=>H'=H1/\ys=((G.ae.take i).map fun g=>decide (g.rows.length=0)).map V.bl) ⟨rfl,rfl⟩ ?_ ?_
 ·rintro i ys' H' hi ⟨rfl,rfl⟩
  have hi':i<G.ae.length:=by omega
  have eg:G.ae[i]? =some G.ae[i]:=List.getElem?_eq_getElem hi'
  have zO:(G.ae.map fun g=>V.ref g.x)[i]? =some (.ref G.ae[i].x):=by rw[List.getElem?_map,eg];rfl
  have J:=I1.ae i _ eg
  obtain⟨rv,wv,hx,r1,r2⟩:=J.ob
  refine⟨⟨_,_,aN.of I1.hl,zO⟩,by rw[List.length_map,List.length_map,List.length_take];exact big (by omega),?_⟩
  rintro x H2 ⟨rfl,hy⟩
  have ex:=hy _ (aN.of I1.hl)
  rw[zO]at ex
  injection ex with ex
  subst ex
  refine ka ?_
  refine⟨_,rfl,G.ae[i].x,G.ae[i].dx,_,rfl,hx,rfl,?_⟩
  dsimp only[bH]
  refine vV J ?_
  exact Wc.next hi ⟨rfl,by rw[take_one hi',List.map_append,List.map_append];rfl⟩
 rintro ys' H2 ⟨eH,rfl⟩
 subst eH
 rw[lh,List.take_length]
 refine⟨⟨_,aN.of I1.hl,Nat.le_of_eq lh⟩,fun p hp=> ?_⟩
 have s2:=ah hp (.lst ((G.ae.map fun g=>decide (g.rows.length=0)).map V.bl))
 have ea:(G.ae.map fun g=>decide (g.rows.length=0)).all id=G.ae.all fun g=>decide (g.rows.length=0):=by rw[List.all_map];rfl
 refine⟨p,G.ae.map fun g=>decide (g.rows.length=0),rfl,aN.of ac,_,rfl,bY (fun c=> ?_) (fun c=> ?_)⟩
 ·have h:=q _ (s1.trans s2)
  rw[if_pos (by rw[<-ea];exact c)]at h;exact h
 ·have h:=q _ (s1.trans s2)
  rw[if_neg (by rw[<-ea];exact c)]at h;exact h
inductive sL(C:Addr)(vs:List V)(H:Hp)(Q:VK)(fG:XK):Prop
 |mk (g:HA) (_:vs= [.ref g.x]) (_:bI C H g) (_: ∀d H',aw H H'->H' d=some (.dK [])->Q (.ref d) H')
theorem BP:av ["self"] ["self"] (am jm):=⟨rfl,rfl,rfl,by decide+kernel,rfl,by decide+kernel,by decide+kernel⟩
theorem Ay:(["box", "self"]:List Str).Nodup:=by decide+kernel
theorem yi{f C:Addr}{fd:FuncData}(F:cE K "filled" "Hand.filled" jm f fd)(T2:Ez mg)(hC:ba K C):aI P w K mg base br 1 f fd ["self"] (sL C):=by
 refine F.ok BP (fun vs H Q E h=> ?_) (fun cdv A outer s H vs Q E hr h=> ?_)
 ·obtain⟨_,rfl,_⟩:=h;rfl
 obtain⟨g,rfl,I,q⟩:=h
 have hu:(A.deeper (envOfC "Hand.filled" (am jm) s.heap.objs.size f cdv)).units+1<cLine:=by have:=hr.un;omega
 refine⟨_,ap (aE (A5 (T:= ["box"]) hu (cr (am jm) ["self"] rfl rfl (by decide+kernel)) rfl (cz (aA (o0 rfl) rfl T2.sorted boot_sorted (aa (bq (pv 0) rfl) af))) (fun Y hY=>by cases hY;exact aG (i:=0) Ay rfl (Or.inl rfl)) bA
  (fun Y hY=>by cases hY;exact fA (aP nU (kE (by exact hu) (wz K rfl (pv 1) rfl) (pv 0) (fun _ _=>rfl)) au (aY _))) (fun Y hY=>by cases hY;exact pv 0) (fun Y hY=>by cases hY;exact kE (by exact hu) (wz K rfl (pv 1) rfl) (pv 0) (fun _ _=>rfl)))),?_⟩
 obtain⟨rv,wv,hx,r1,r2⟩:=I.ob
 have hd:=I.he
 refine⟨_,rfl,g.x,C,g.dx,_,_,rfl,hx,hC.cl,hC.held,rfl,g.he,[],rfl,.inl hd,by decide,fun l ys hl pm so=> ?_⟩
 obtain rfl:ys= []:=List.perm_nil.mp pm
 have s1:=ah hl (.lst ([].map V.str))
 refine⟨l,rfl,⟨_,aN.of ac⟩,.dK [],.inl rfl,fun D hD=> ?_⟩
 have HV:l≠D:=fun z=>by subst z;rw[ac]at hD;cases hD
 refine zE (n:=0) (fun i H'=>H' D=some (.dK [])/\ ∀b o,b≠D->upd H l (.lst ([].map V.str)) b=some o->H' b=some o) ⟨ac,fun b o n e=>by rw[ak n];exact e⟩ (fun i H' hi=>absurd hi (Nat.not_lt_zero i)) ?_
 rintro H' ⟨hz,kp⟩
 refine⟨⟨_,aN.of (kp _ _ HV ac),Nat.le_refl _⟩,q D H' (fun b o e=> ?_) hz⟩
 exact kp b o (fun z=>by subst z;rw[s1 _ _ e]at hD;cases hD) (s1 _ _ e)
inductive oB(C:Addr)(vs:List V)(H:Hp)(Q:VK)(fG:XK):Prop
 |mk (g:HA) (_:vs= [.ref g.x]) (_:bI C H g) (_: ∀ (v:V) H',aw H H'->Rep H' g.res v->Q v H')
theorem yL:av ["self"] ["self"] (am mo):=⟨rfl,rfl,rfl,by decide+kernel,rfl,by decide+kernel,by decide+kernel⟩
theorem uK{f C:Addr}{fd:FuncData}(F:cE K "result" "Hand.result" mo f fd)(T:Tx mg)(T2:Ez mg)(hC:ba K C)(QE:bX P w K mg base C 1 "filled" ["self"] (sL C)):aI P w K mg base br 2 f fd ["self"] (oB C):=by
 obtain⟨g2,zg,hm2,gK,hb2⟩:=QE
 refine F.ok yL (fun vs H Q E h=> ?_) (fun cdv A outer s H vs Q E hr h=> ?_)
 ·obtain⟨_,rfl,_⟩:=h;rfl
 obtain⟨g,rfl,I,q⟩:=h
 refine⟨_,ap (aE (bC (aa (bf (qJ rfl) rfl T.tuple boot_tuple (aa (DO (bo (pv 0) hC.cl hm2 gK hr hb2 .nil aD)) af)) (aa (bf bN rfl T.tuple boot_tuple (aa (bq (pv 0) rfl) af)) (aa (bf bN rfl T.tuple boot_tuple (aa (aA fL rfl T2.sorted boot_sorted (aa (bq (pv 0) rfl) af)) af)) (aa (aA aR rfl T.len boot_len (aa (bq (pv 0) rfl) af)) af)))))),?_⟩
 obtain⟨rv,wv,hx,r1,r2⟩:=I.ob
 obtain⟨ra,rs,rfl,F5,rrs⟩:=r1.tup
 have hs:=I.sa
 have hm:=I.me
 have er:=rrs.len
 rw[List.length_map]at er
 refine⟨_,rfl,g.x,g.dx,_,rfl,hx,rfl,?_⟩
 dsimp only[bH]
 refine⟨g,rfl,I,fun d H1 s1 hd=>⟨d,[],rfl,.inl hd,fun vw hvw=> ?_⟩⟩
 have s2:=s1.trans (ah hvw (.ext fun h=>h.IsItemsView vw d))
 refine⟨vw,d,[],rfl,ac,.inl (ah hvw _ _ _ hd),fun l0 H2 bs s3 Cp lb hb hl2=> ?_⟩
 obtain rfl:bs= []:=List.eq_nil_of_length_eq_zero lb
 have s4:=s2.trans s3
 refine⟨_,rfl,g.x,C,g.dx,_,_,rfl,s4 _ _ hx,hC.cl,hC.said,rfl,g.sa,_,rfl,.inl ⟨aN.of (s4 _ _ hs),fun l1 hl1=> ?_⟩⟩
 have t1:=ah hl1 (.tup (aC g.said))
 have s5:=s4.trans t1
 refine⟨_,rfl,g.x,C,g.dx,_,_,rfl,s5 _ _ hx,hC.cl,hC.met,rfl,g.me,[],none,[],3,rfl,aN.of (s5 _ _ hm),aq.nil,fun ns hns=>(by cases hns),by decide,by decide,fun l2 nss ys L1 pm so ry=> ?_⟩
 obtain rfl:nss= []:=List.perm_nil.mp pm
 obtain rfl:ys= []:=by simpa only[List.map_nil,aq]using ry
 have t2:=ah L1 (.lst [])
 have s6:=s5.trans t2
 refine⟨l2,[],rfl,.inl ⟨aN.of ac,fun l3 hl3=> ?_⟩⟩
 have t3:=ah hl3 (.tup [])
 have s7:=s6.trans t3
 refine⟨_,rfl,g.x,C,g.dx,_,_,rfl,s7 _ _ hx,hC.cl,hC.rows,rfl,ra,rs,rfl,.inr (bn.of (s7 _ _ F5)),(by show 4<=sizeLine;decide),fun l4 zh=> ?_⟩
 have s8:=ah zh (.tup [.ref l0,.ref l1,.ref l3,.int rs.length])
 refine q _ _ (s7.trans s8) (Rep.mk ac ?_)
 have e0:=(t1.trans (t2.trans (t3.trans s8))) _ _ hl2
 have e1:=(t2.trans (t3.trans s8)) _ _ (ac (H:=H2) (a:=l1) (o:= .tup (aC g.said)))
 have e3:=s8 l3 _ (ac (o:= .tup []))
 exact aq.cons (Rep.mk e0 aq.nil) (aq.cons (Rep.mk e1 (cS _)) (aq.cons (Rep.mk e3 aq.nil) (aq.cons (by simp only[Rep];rw[er]) aq.nil)))
def RG.res(G:RG):PV:= .tup (G.ae.map HA.res)
inductive sN(C R:Addr)(vs:List V)(H:Hp)(Q:VK)(fG:XK):Prop
 |mk (G:RG) (B:Nat) (_:vs= [.ref G.x]) (_:aZ none C R B H G) (_:G.ae.length<=10) (_: ∀ (v:V) H',aw H H'->Rep H' G.res v->Q v H')
theorem BV:av ["self"] ["self"] (am qb):=⟨rfl,rfl,rfl,by decide+kernel,rfl,by decide+kernel,by decide+kernel⟩
theorem ym{f C R:Addr}{fd:FuncData}(F:cE K "result" "Run.result" qb f fd)(T:Tx mg)(hC:ba K C)(hR:dW K R)(QJ:bX P w K mg base C 2 "result" ["self"] (oB C)):aI P w K mg base br 3 f fd ["self"] (sN C R):=by
 obtain⟨g2,zg,hm2,gK,hb2⟩:=QJ
 refine F.ok BV (fun vs H Q E h=> ?_) (fun cdv A outer s H vs Q E hr h=> ?_)
 ·obtain⟨_,_,rfl,_⟩:=h;rfl
 obtain⟨G,B,rfl,I,hn,q⟩:=h
 refine⟨_,ap (aE (bf bN rfl T.tuple boot_tuple (aa (dP (T:= ["hand"]) (bT ["self"] rfl (by decide+kernel)) rfl (cz (bq (pv 0) rfl)) (fun Y hY=>by cases hY;exact aG (i:=0) lR rfl (Or.inl rfl)) bA (fun Y _=>cK) (fun Y hY=>by cases hY;exact bo (pv 0) hC.cl hm2 gK hr hb2 .nil aD)) af))),?_⟩
 refine⟨_,rfl,G.x,R,G.dx,_,_,rfl,I.ob,hR.cl,hR.ae,rfl,G.hl,rfl,⟨_,aN.of I.hl⟩,?_⟩
 have lh:(G.ae.map fun g=>V.ref g.x).length=G.ae.length:=List.length_map _
 refine cy (n:=(G.ae.map fun g=>V.ref g.x).length) (fun i ys H'=>aw H H'/\ys.length=i/\aq H' ((G.ae.take i).map HA.res) ys) ⟨aw.refl _,rfl,aq.nil⟩ ?_ ?_
 ·rintro i ys H' hi ⟨sm,ly,ry⟩
  have hi':i<G.ae.length:=by omega
  have eg:G.ae[i]? =some G.ae[i]:=List.getElem?_eq_getElem hi'
  have zO:(G.ae.map fun g=>V.ref g.x)[i]? =some (.ref G.ae[i].x):=by rw[List.getElem?_map,eg];rfl
  have J:=(I.same sm).ae i _ eg
  obtain⟨rv,wv,hx,r1,r2⟩:=J.ob
  refine⟨⟨_,_,aN.of (sm _ _ I.hl),zO⟩,big (by omega),?_⟩
  rintro x H2 ⟨rfl,hy⟩
  have ex:=hy _ (aN.of (sm _ _ I.hl))
  rw[zO]at ex
  injection ex with ex
  subst ex
  refine ka ?_
  refine⟨_,rfl,G.ae[i].x,G.ae[i].dx,_,rfl,hx,rfl,?_⟩
  dsimp only[bH]
  refine⟨G.ae[i],rfl,J,fun v H3 s3 k1=> ?_⟩
  refine Wc.next hi ⟨sm.trans s3,by simp[ly],?_⟩
  rw[take_one hi',List.map_append]
  exact(s3.reps ry).append (aq.one k1)
 rintro ys H1 ⟨sm,ly,ry⟩
 rw[lh,List.take_length]at ry
 refine⟨⟨_,aN.of (sm _ _ I.hl),Nat.le_refl _⟩,fun p Ml=> ?_⟩
 have s1:=ah Ml (.lst ys)
 refine⟨p,ys,rfl,.inl ⟨aN.of ac,fun l hl=> ?_⟩⟩
 have s2:=ah hl (.tup ys)
 exact q _ _ (sm.trans (s1.trans s2)) (Rep.mk ac ((s1.trans s2).reps ry))
end
end W2
namespace W2
open PySem PySem.Spec PyProof.Rows K2 L2
abbrev gA:Stmt:=inClass eV 4
theorem yc:(["event", "self", "listed"]:List Str).Nodup:=by decide+kernel
section
variable{P:Program}{w:World}{K:PySem.W.Frag}{mg:Str->Option Value}{base:Heap}
inductive jR(C R:Addr)(vs:List V)(H:Hp)(Q:VK)(fG:XK):Prop
 |mk (G:RG) (B:Nat) (d:V) (_:vs= [.ref G.x,d]) (_:aZ none C R B H G) (_:zn G) (_: ∀ (l:Addr) (ys:List V) (H':Hp),aw H H'->H l=none->H' l=some (.lst ys)->aq H' (G.goes.map mO) ys->Q (.ref l) H')
theorem yM:av ["self", "listed"] ["self", "listed"] (am gA):=⟨rfl,rfl,rfl,by decide+kernel,rfl,by decide+kernel,by decide+kernel⟩
theorem zX(G:RG):G.goes.length<=G.ae.length:=by
 have:=List.length_filter_le G.ke (List.range G.ae.length)
 rw[List.length_range]at this
 exact this
theorem uP{f C R:Addr}{fd:FuncData}(F:cE K "events_within" "Run.events_within" gA f fd)(hR:dW K R)(hev:bX P w K mg base R 4 "events" ["self"] (fE C R))(hop:bX P w K mg base R 1 "is_open_to_any" ["self", "taker", "take"] jQ):aI P w K mg base br 5 f fd ["self", "listed"] (jR C R):=by
 obtain⟨g1,CQ,hm1,jA,hb1⟩:=hev
 obtain⟨g2,zg,hm2,gK,hb2⟩:=hop
 refine F.ok yM (fun vs H Q E h=> ?_) (fun cdv A outer s H vs Q E hr h=> ?_)
 ·obtain⟨_,_,_,rfl,_⟩:=h;rfl
 obtain⟨G,B,d,rfl,I,eo,q⟩:=h
 have hu:(A.deeper (envOfC "Run.events_within" (am gA) s.heap.objs.size f cdv)).units+1<cLine:=by have:=hr.un;omega
 refine⟨_,ap (aE (dP (T:= ["event"]) (cr (am gA) ["self", "listed"] rfl rfl (by decide+kernel)) rfl (cz (bo (pv 0) hR.cl hm1 jA hr hb1 .nil aD)) (fun Y hY=>by cases hY;exact aG (i:=0) yc rfl (Or.inl rfl)) bA
  (fun Y hY=>by cases hY;exact fA (PW.pt (gy (aP hJ (aK (bF K rfl) (pv 0) au (fun _ _=>rfl)) bB (aY _)) (gy (jM (GJ (by exact hu) (gv (sG K rfl) (pv 0) (je au) jd) (pv 2))) (gz (dH (cp (bQ (pv 1) hR.cl hm2 gK (hr.mono (by decide)) hb2 .nil aD (aa (aK (bF K rfl) (pv 0) au (fun _ _=>rfl)) (aa (aK (bF K rfl) (pv 0) au (fun _ _=>rfl)) af))))))))))
  (fun Y hY=>by cases hY;exact pv 0))),?_⟩
 refine⟨_,rfl,G.x,G.dx,_,rfl,I.ob,rfl,?_⟩
 dsimp only[bH]
 refine⟨G,B,rfl,I,eo,fun l ys H1 s1 Cp hl ry=> ?_⟩
 have ly:=ry.len
 rw[List.length_map]at ly
 have gl:=zX G
 have hn:=eo.ae
 refine⟨l,rfl,⟨ys,aN.of hl⟩,?_⟩
 refine cy (n:=ys.length) (fun i zs H'=>H'=H1/\zs=ys.take i) ⟨rfl,rfl⟩ ?_ ?_
 ·rintro i zs _ hi ⟨rfl,rfl⟩
  refine⟨⟨ys,ys[i],aN.of hl,List.getElem?_eq_getElem hi⟩,by rw[List.length_take];exact big (by omega),?_⟩
  rintro x H2 ⟨rfl,hy⟩
  have ex:=hy _ (aN.of hl)
  rw[List.getElem?_eq_getElem hi]at ex
  cases ex
  obtain⟨p,ep,rp⟩:=ry.get (List.getElem?_eq_getElem hi)
  rw[List.getElem?_map]at ep
  obtain⟨k,_,rfl⟩: ∃k,G.goes[i]? =some k/\mO k=p:=by
   cases e:G.goes[i]? with
   |none=>rw[e]at ep;cases ep
   |some k=>rw[e]at ep;cases ep;exact⟨k,rfl,rfl⟩
  obtain⟨pa,u1,u2,NY,hpa,k1,k2⟩:=E5 (a:= .at (.str Fg)) (b:= .at (.int k)) rp
  obtain⟨rfl,_⟩:=(show u1= .str (S Fg)/\_ from k1)
  rw[NY]
  refine⟨_,rfl,pa,_,0,_,rfl,rfl,bn.of hpa,rfl,rfl,_,rfl,?_⟩
  rw[show decide (V.str (S Fg)=V.str "go")=true from by rw[Nj];simp]
  refine ce (ce ?_)
  refine⟨_,rfl,Wc.next hi ⟨rfl,?_⟩⟩
  rw[take_one hi,NY]
 ·rintro zs _ ⟨rfl,rfl⟩
  rw[List.take_length]
  refine⟨⟨ys,aN.of hl,Nat.le_refl _⟩,fun p hp=> ?_⟩
  have s2:=ah hp (.lst ys)
  exact q p ys _ (s1.trans s2) (s1.free hp) ac (s2.reps ry)
end
end W2
namespace W2
open PySem PySem.Spec PyProof.Rows K2 L2
abbrev iB:Stmt:=inClass eV 0
def fk(aV:List (List aB)):PV:= .tup (aV.map fun ds=> .tup (ds.map aB.pv))
theorem Bg{X:Cx}(K:PySem.W.Frag)(hK:X.K=K){tg l:Expr}{tl:TE}(hl:PE X l tl):PI X tg l (ES K tl):=hK▸cz hl
def cb(n i j:Nat):List (Nat×Nat):=((List.range i).flatMap fun a=>((List.range n).filter (· ≠a)).map fun b=>(a,b))++((List.range j).filter (· ≠i)).map fun b=>(i,b)
structure dU(aV:List (List aB))(ro:Option Nat)(G:RG):Prop where
 room:G.room=ro
 len:G.ae.length=aV.length
 ae: ∀ (i:Nat) (g:HA) (ds:List aB),G.ae[i]? =some g->aV[i]? =some ds->g.rows=ds/\g.wt= .go/\g.said= []/\g.td=0
 ways:G.ways.map (fun w=>(w.s,w.t))=cb aV.length aV.length 0
theorem yy{n i:Nat}:cb n i n=cb n (i+1) 0:=by
 unfold cb
 rw[List.range_succ,List.flatMap_append]
 simp
theorem iq{n i j:Nat}:cb n i (j+1)=cb n i j++(if j≠i then [(i,j)]else []):=by
 unfold cb
 rw[List.range_succ,List.filter_append,List.map_append,List.append_assoc]
 congr 2
 by_cases h:j=i
 ·simp[h]
 ·simp[h]
theorem yx: ∀n∈List.range 5,∀i∈List.range n,∀j∈List.range n,(i,j) ∉cb n i j:=by decide
theorem nM{x dx C:Addr}{fs:List (Str×V)}{H H':Hp}(hx:H x=some (.ins C dx fs))(k:Kept x H H'):bV H H':=fun b xs e=>k b _ (fun z=>by subst z;rw[hx]at e;cases e) e
def Ic(ro:Option Nat):List (Str×V):= [("room",dJ ro)]
def Ie(ro:Option Nat)(p:Addr):List (Str×V):= [("room",dJ ro),("hands",.ref p)]
def Ig(ro:Option Nat)(p d:Addr):List (Str×V):= [("room",dJ ro),("hands",.ref p),("ways",.ref d)]
def Kb(ro:Option Nat)(p d h:Addr):List (Str×V):= [("room",dJ ro),("hands",.ref p),("ways",.ref d),("history",.ref h)]
theorem M1(ro:Option Nat):bP "room" (dJ ro) []=Ic ro:=rfl
theorem M3(ro:Option Nat)(p:Addr):bP "hands" (.ref p) (Ic ro)=Ie ro p:=rfl
theorem M4(ro:Option Nat)(p d:Addr):bP "ways" (.ref d) (Ie ro p)=Ig ro p d:=rfl
theorem M5(ro:Option Nat)(p d h:Addr):bP "history" (.ref h) (Ig ro p d)=Kb ro p d h:=rfl
def j7:Option Nat->PV
 |none=> .at .aH
 |some n=> .at (.int n)
theorem sx{H:Hp}(ro:Option Nat):Rep H (j7 ro) (dJ ro):=by cases ro<;>exact rfl
theorem oJ: ∀ (ws:List Way) (a b:Nat),fX (ws.map fun w=>([Sum.inl (w.s:Int),Sum.inl (w.t:Int)],V.ref w.a)) ([Sum.inl (a:Int),Sum.inl (b:Int)]:List Key)=(ws.find? fun w=>decide (w.s=a/\w.t=b)).map fun w=>V.ref w.a
 | [],_,_=>rfl
 |z::ws,a,b=>by
  rw[List.map_cons]
  by_cases e:z.s=a/\z.t=b
  ·rw[List.find?_cons_of_pos (by simpa using e),gF (by rw[e.1,e.2])];rfl
  ·rw[List.find?_cons_of_neg (by simpa using e),gE,oJ ws a b]
   intro h
   simp only[List.cons.injEq,Sum.inl.injEq,and_true]at h
   exact e ⟨by omega,by omega⟩
theorem An{ws:List Way}{i j:Nat}(h:(i,j) ∉ws.map fun w=>(w.s,w.t)):fX (ws.map fun w=>([Sum.inl (w.s:Int),Sum.inl (w.t:Int)],V.ref w.a)) ([Sum.inl (i:Int),Sum.inl (j:Int)]:List Key)=none:=by
 rw[oJ]
 cases e:ws.find? fun w=>decide (w.s=i/\w.t=j)with
 |none=>rfl
 |some w=>
  have h1:=List.mem_of_find?_eq_some e
  have h2:=List.find?_some e
  simp only[decide_eq_true_eq]at h2
  exact absurd (List.mem_map.mpr ⟨w,h1,by rw[h2.1,h2.2]⟩) h
theorem x8{C dx x he sa po ti ar me:Addr}{H Hb H':Hp}{v:V}{ds:List aB}(hb:Hb=upd (upd H dx (.own x)) x (.ins C dx []))(hx:H x=none)(hdx:H dx=none)(nx:dx≠x)(rv:Rep H (.tup (ds.map aB.pv)) v)(m:Made C dx x Hb H' (hf v .aH (.ref he) (.ref sa) 0 0 (.ref po) (.ref ti) (.ref ar) (.ref me)) [(me,.lst []),(ar,.dK []),(ti,.dK []),(po,.dK []),(sa,.lst []),(he,.dK [])]):
  aw H H'/\bI C H' ⟨x,dx,he,sa,po,ti,ar,me,ds,.go,[],0⟩/\ ∀c∈HA.cells ⟨x,dx,he,sa,po,ti,ar,me,ds,.go,[],0⟩,H c=none:=by
 have sb:aw H Hb:=by
  rw[hb]
  exact(ah hdx _).trans (ah (by rw[ak nx.symm];exact hx) _)
 have s1:aw H H':=fun b o e=>m.old b o (fun z=>by subst z;rw[hx]at e;cases e) (sb b o e)
 have fresh: ∀c,Hb c=none->H c=none:=fun c e=>sb.free e
 have nd:=m.nd
 have at_:=m.at_
 have a1:=at_ (he,.dK []) (by simp)
 have a2:=at_ (sa,.lst []) (by simp)
 have a3:=at_ (po,.dK []) (by simp)
 have a4:=at_ (ti,.dK []) (by simp)
 have a5:=at_ (ar,.dK []) (by simp)
 have a6:=at_ (me,.lst []) (by simp)
 refine⟨s1,⟨⟨v,.aH,m.ob,s1.rep rv,rfl⟩,a1.1,a2.1,⟨[],a3.1,Nat.le_refl _⟩,a6.1,?_⟩,?_⟩
 ·show([x,he,sa,po,me]:List Addr).Nodup
  have n2:([he,sa,po,ti,ar,me]:List Addr).Nodup:=by
   have e:([he,sa,po,ti,ar,me]:List Addr)=([me,ar,ti,po,sa,he]:List Addr).reverse:=rfl
   rw[e]
   exact List.pairwise_reverse.mpr (nd.imp fun h=>h.symm)
  simp only[List.nodup_cons,List.mem_cons,List.not_mem_nil,or_false,not_or,List.nodup_nil,and_true,not_false_eq_true]at n2⊢
  exact⟨⟨fun e=>a1.2.2 e.symm,fun e=>a2.2.2 e.symm,fun e=>a3.2.2 e.symm,fun e=>a6.2.2 e.symm⟩,⟨n2.1.1,n2.1.2.1,n2.1.2.2.2.2⟩,⟨n2.2.1.1,n2.2.1.2.2.2⟩,n2.2.2.1.2.2⟩
 ·intro c hc
  simp only[HA.cells,List.mem_cons,List.not_mem_nil,or_false]at hc
  rcases hc with rfl|rfl|rfl|rfl|rfl
  ·exact hx
  ·exact fresh _ a1.2.1
  ·exact fresh _ a2.2.1
  ·exact fresh _ a3.2.1
  ·exact fresh _ a6.2.1
section
variable{P:Program}{w:World}{K:PySem.W.Frag}{mg:Str->Option Value}{base:Heap}
structure zp(P:Program)(w:World)(K:PySem.W.Frag)(mg:Str->Option Value)(base:Heap)(C:Addr):Prop where
 ex: ∃f fd,Mk K C f/\aI P w K mg base br 1 f fd ["self", "rows"] (wR C)/\Binds K fd ["self", "rows"] []
 at_:mg "Hand"=some (.ref C)
inductive qj(C R:Addr)(vs:List V)(H:Hp)(Q:VK)(fG:XK):Prop
 |mk (x dx:Addr) (aV:List (List aB)) (ro:Option Nat) (pv:V) (_:vs= [.ref x,pv,dJ ro]) (_:H x=some (.ins R dx [])) (_:Rep H (fk aV) pv) (_:dZ (fk aV)=true) (_:aV.length<=4) (_:(∀n,ro=some n->n<=99)) (_: ∀G H',G.x=x->aZ none C R 0 H' G->dU aV ro G->(∀b o,b≠x->H b=some o->H' b=some o)->(∀c∈G.cells,c=x\/H c=none)->Q .aH H')
theorem wN:av ["self", "program", "room", "numbers"] ["self", "program", "room"] (am iB):=⟨rfl,rfl,rfl,by decide+kernel,rfl,by decide+kernel,by decide+kernel⟩
theorem AB:(["script", "self", "program", "room", "numbers"]:List Str).Nodup:=by decide+kernel
theorem rM:(["one", "other", "self", "program", "room", "numbers"]:List Str).Nodup:=by decide+kernel
theorem AQ{f C R:Addr}{fd:FuncData}(F:cE K "__init__" "Run.__init__" iB f fd)(T:Tx mg)(hR:dW K R)(EJ:zp P w K mg base C)(hcp:f9 P w K mg base br 8 "check_program" ["thing"] (sJ dZ))(LY:f9 P w K mg base br 3 "check_room" ["thing"] (sJ dG)):aI P w K mg base br 9 f fd ["self", "program", "room"] (qj C R):=by
 obtain⟨f1,SD,mk1,jA,hb1⟩:=EJ.ex
 refine F.ok wN (fun vs H Q E h=> ?_) (fun cdv A outer s H vs Q E hr h=> ?_)
 ·obtain⟨_,_,_,_,_,rfl,_⟩:=h;rfl
 obtain⟨x,dx,aV,ro,R1,rfl,hx,rp,hprog,h4,EO,q⟩:=h
 have hu:(A.deeper (envOfC "Run.__init__" (am iB) s.heap.objs.size f cdv)).units+1<cLine:=by have:=hr.un;omega
 refine⟨_,ag (aT (aF hcp hr rfl aD (aa (pv 1) af)))
  (ag (aT (aF LY hr rfl aD (aa (pv 2) af)))
  (ag (bZ (pv 0) (pv 2) rfl)
  (ag (bZ (pv 0) (dP (T:= ["script"]) (bT ["self", "program", "room", "numbers"] rfl (by decide+kernel)) rfl (lY (pv 1)) (fun Y hY=>by cases hY;exact aG (i:=0) AB rfl (Or.inl rfl)) bA (fun Y _=>cK) (fun Y hY=>by cases hY;exact wA mk1 jA (hr.mono (by decide)) rfl EJ.at_ hb1 .nil aD (aa (pv 0) af))) rfl)
  (ag (aJ (i:=3) wN.nd rfl (Or.inr rfl) (bf (gX rfl) rfl T.list boot_list (aa (bf qI rfl T.range boot_range (aa (aA aR rfl T.len boot_len (aa (pv 1) af)) af)) af)))
  (ag (bZ (pv 0) (yC (n1:= "one") (n2:= "other") hu (cr (am iB) ["self", "program", "room", "numbers"] rfl rfl (by decide+kernel)) rfl (cz (pv 3)) (fun Y hY=>by cases hY;exact aG (i:=0) rM rfl (Or.inl rfl)) (fun Y hY=>by cases hY;exact aG (i:=1) rM rfl (Or.inl rfl)) (fun Y hY=>by cases hY;exact Bg K rfl (pv 5)) (fun Y hY=>by cases hY;exact fA (aP nU (pv 0) (pv 1) (aY _))) (fun Y hY=>by cases hY;exact bC (aa (pv 0) (aa (pv 1) af))) (fun Y hY=>by cases hY;exact bS af)) rfl)
  (ap (bZ (pv 0) (bS af) rfl))))))),?_⟩
 have z0:0<=sizeLine:=Nat.zero_le _
 have z2:2<=sizeLine:=by decide
 have hroom:dG (j7 ro)=true:=by
  cases e:ro with
  |none=>rfl
  |some n=>
   have:=EO n e
   simp only[j7,dG,Bool.and_eq_true,decide_eq_true_eq]
   omega
 refine⟨_,rfl,fk aV,R1,rfl,rp,hprog,fun H1 s1=> ?_⟩
 refine⟨_,rfl,j7 ro,dJ ro,rfl,sx ro,hroom,fun H2 s2=> ?_⟩
 have s12:=s1.trans s2
 refine⟨_,rfl,_,rfl,x,R,dx,[],rfl,s12 _ _ hx,hR.cl,hR.room,by decide,?_⟩
 rw[M1]
 have k3:Kept x H (upd H2 x (.ins R dx (Ic ro))):=fun b o n e=>by rw[ak n];exact s12 b o e
 have F7:upd H2 x (.ins R dx (Ic ro)) x=some (.ins R dx (Ic ro)):=ac
 generalize upd H2 x (.ins R dx (Ic ro))=H3 at k3 F7⊢
 have R6:=(nM hx k3).rep rp
 obtain⟨pa,vs,rfl,hpa,Nc⟩:=R6.tup
 have Ov:=Nc.len
 rw[List.length_map]at Ov
 refine⟨_,rfl,pa,rfl,⟨vs,bn.of hpa⟩,?_⟩
 refine cy (n:=vs.length) (fun i ys H'=>aw H3 H'/\ ∃gs:List HA,gs.length=i/\ys=(gs.map fun g=>V.ref g.x)/\(∀ (k:Nat) g,gs[k]? =some g->bI C H' g/\(∀c∈g.cells,H3 c=none)/\ ∀ds,aV[k]? =some ds->g.rows=ds/\g.wt= .go/\g.said= []/\g.td=0)/\(gs.map HA.cells).Pairwise fun c d=> ∀b∈c,b∉d) ⟨aw.refl _,[],rfl,rfl,(fun k g e=>by cases e),List.Pairwise.nil⟩ ?_ ?_
 ·rintro i ys H' hi ⟨sm,gs,lg,rfl,hgs,pw⟩
  have hi':i<aV.length:=by omega
  refine⟨⟨vs,vs[i],bn.of (sm _ _ hpa),List.getElem?_eq_getElem hi⟩,by rw[List.length_map];exact big (by omega),?_⟩
  rintro v H4 ⟨rfl,hy⟩
  have ev:=hy vs (bn.of (sm _ _ hpa))
  obtain⟨p,ep,Kc⟩:=Nc.get ev
  rw[List.getElem?_map,List.getElem?_eq_getElem hi']at ep
  injection ep with ep
  subst ep
  refine ka ?_
  refine⟨_,rfl,fun x' HR hx' LZ nx'=> ?_⟩
  refine⟨x',HR,v,rfl,ac,fun he sa po ti ar me H5 md=>⟨rfl,?_⟩⟩
  obtain⟨s5,J5,f5⟩:=x8 rfl hx' LZ nx' (sm.rep Kc) md
  refine Wc.next hi ⟨sm.trans s5,gs++ [⟨x',HR,he,sa,po,ti,ar,me,aV[i],.go,[],0⟩],by simp[lg],by rw[List.map_append];rfl,fun k g hk=> ?_,?_⟩
  ·rw[List.getElem?_append]at hk
   split at hk
   ·obtain⟨J,f,e⟩:=hgs k g hk
    exact⟨J.same s5,f,e⟩
   ·rename_i hlt
    have hki:k=i:=by
     by_cases z:k-gs.length<1
     ·omega
     ·rw[List.getElem?_eq_none (by simp;omega)]at hk;cases hk
    subst hki
    rw[lg,Nat.sub_self]at hk
    cases hk
    refine⟨J5,fun c hc=>sm.free (f5 c hc),fun ds hds=> ?_⟩
    rw[List.getElem?_eq_getElem hi']at hds
    cases hds
    exact⟨rfl,rfl,rfl,rfl⟩
  ·rw[List.map_append,List.pairwise_append]
   refine⟨pw,List.pairwise_singleton _ _,fun c hc d hd b hb=> ?_⟩
   obtain⟨g,hg,rfl⟩:=List.mem_map.mp hc
   obtain⟨k,hk,ek⟩:=List.getElem_of_mem hg
   obtain⟨J,_,_⟩:=hgs k g (by rw[List.getElem?_eq_getElem hk,ek])
   obtain⟨u,g6⟩:=J.live b hb
   simp only[List.map_cons,List.map_nil,List.mem_singleton]at hd
   subst hd
   intro hb2
   rw[f5 b hb2]at g6;cases g6
 rintro ys H4 ⟨yP,gs,lg,rfl,hgs,pw⟩
 refine⟨⟨vs,bn.of (yP _ _ hpa),Nat.le_refl _⟩,fun p hp=> ?_⟩
 have s5:=ah hp (.lst (gs.map fun g=>V.ref g.x))
 have Ii:=yP.trans s5
 refine⟨_,rfl,x,R,dx,_,rfl,Ii _ _ F7,hR.cl,hR.ae,(by show 1<1000;decide),?_⟩
 rw[M3]
 have Rc:=Ii _ _ F7
 have k6:Kept x (upd H4 p (.lst (gs.map fun g=>V.ref g.x))) (upd (upd H4 p (.lst (gs.map fun g=>V.ref g.x))) x (.ins R dx (Ie ro p))):=Kept.upd _
 have Oo:upd (upd H4 p (.lst (gs.map fun g=>V.ref g.x))) x (.ins R dx (Ie ro p)) x=some (.ins R dx (Ie ro p)):=ac
 generalize upd (upd H4 p (.lst (gs.map fun g=>V.ref g.x))) x (.ins R dx (Ie ro p))=H6 at k6 Oo⊢
 have t6:=nM Rc k6
 have Mg:=t6 _ _ (Ii _ _ hpa)
 refine⟨_,rfl,pa,vs,rfl,.inr (bn.of Mg),vs.length,rfl,fun r hr'=>⟨r,vs.length,rfl,ac,by omega,fun l hl=> ?_⟩⟩
 have s7:=(ah hr' (.yG 0 vs.length)).trans (ah hl (.lst ((List.range vs.length).map fun(i:Nat)=>V.int i)))
 have Cq:upd (upd H6 r (.yG 0 vs.length)) l (.lst ((List.range vs.length).map fun(i:Nat)=>V.int i)) l=some (.lst ((List.range vs.length).map fun(i:Nat)=>V.int i)):=ac
 generalize upd (upd H6 r (.yG 0 vs.length)) l (.lst ((List.range vs.length).map fun(i:Nat)=>V.int i))=H7 at s7 Cq⊢
 have ln:((List.range vs.length).map fun(i:Nat)=>V.int i).length=vs.length:=by simp
 refine⟨_,rfl,l,rfl,⟨_,aN.of Cq⟩,.dT [],.inr rfl,fun D hD=> ?_⟩
 have Mr:=s7 _ _ Oo
 have HV:l≠D:=fun z=>by subst z;rw[Cq]at hD;cases hD
 have zi:vs.length∈List.range 5:=List.mem_range.mpr (by omega)
 have JD: ∃Iv:Nat->Nat->Hp->Prop,Iv=fun i j H'=>aw H7 H'/\ ∃ws:List Way,H' D=some (.dT (ws.map fun w=>([Sum.inl (w.s:Int),Sum.inl (w.t:Int)],V.ref w.a)))/\(ws.map fun w=>(w.s,w.t))=cb vs.length i j/\(∀w∈ws,H' w.a=some (.lst [])/\H7 w.a=none/\w.a≠D)/\(ws.map Way.a).Nodup/\ws.length<=100:=⟨_,rfl⟩
 obtain⟨Iv,FD⟩:=JD
 have M0: ∀n∈List.range 5,∀i∈List.range 5,∀j∈List.range 5,(cb n i j).length<=50:=by decide
 refine⟨fun i m H'=>i<=vs.length/\m=vs.length-i/\Iv i 0 H',⟨vs.length,Nat.zero_le _,rfl,?_⟩,fun i m H' ⟨hi,hm,iv⟩=> ?_⟩
 ·rw[FD]
  exact⟨ah hD _,[],ac,rfl,(fun w hw=>by cases hw),List.nodup_nil,Nat.zero_le _⟩
 by_cases ei:i=vs.length
 rotate_left
 ·
  have hlt:i<vs.length:=by omega
  have sH:aw H7 H':=by rw[FD]at iv;exact iv.1
  have el:((List.range vs.length).map fun(i:Nat)=>V.int i)[i]? =some (.int i):=by rw[List.getElem?_map,List.getElem?_range hlt];rfl
  refine .inr ⟨⟨_,_,aN.of (sH _ _ Cq),el⟩,?_⟩
  rintro y H8 ⟨rfl,hy⟩
  have ey:=hy _ (aN.of (sH _ _ Cq))
  rw[el]at ey
  injection ey with ey
  subst ey
  refine⟨_,rfl,l,rfl,⟨_,aN.of (sH _ _ Cq)⟩,fun j n' H9=>j<=vs.length/\n'=vs.length-j/\Iv i j H9,⟨vs.length,Nat.zero_le _,rfl,iv⟩,fun j n' H9 ⟨hj,hn',Rm⟩=> ?_⟩
  have JC:=Rm
  rw[FD]at JC
  obtain⟨s9,ws,FJ,ep,Cr,JL,MI⟩:=JC
  by_cases ej:j=vs.length
  ·refine .inl ⟨⟨_,aN.of (s9 _ _ Cq),by rw[ln];omega⟩,vs.length- (i+1),by omega,by omega,rfl,?_⟩
   rw[FD]
   refine⟨s9,ws,FJ,?_,Cr,JL,MI⟩
   rw[ep,ej];exact yy
  ·have hjlt:j<vs.length:=by omega
   have NX:((List.range vs.length).map fun(i:Nat)=>V.int i)[j]? =some (.int j):=by rw[List.getElem?_map,List.getElem?_range hjlt];rfl
   refine .inr ⟨⟨_,_,aN.of (s9 _ _ Cq),NX⟩,?_⟩
   rintro y vD ⟨rfl,hy⟩
   have ey:=hy _ (aN.of (s9 _ _ Cq))
   rw[NX]at ey
   injection ey with ey
   subst ey
   refine⟨_,rfl,_,rfl,rfl,_,rfl,bY (fun c=> ?_) (fun c=> ?_)⟩
   ·have hne:j≠i:=fun z=>by
     subst z
     exact absurd c (by simp)
    refine⟨_,rfl,_,rfl,z2,fun kt hkt=>⟨z0,fun zl Ia=> ?_⟩⟩
    have BB:=ah hkt (.tup [.int (i:Int),.int (j:Int)])
    have G5:=ah Ia (.lst [])
    have LU:=G5 _ _ (BB _ _ FJ)
    have hnew:(i,j) ∉ws.map fun w=>(w.s,w.t):=by
     rw[ep]
     exact yx _ zi i (List.mem_range.mpr hlt) j (List.mem_range.mpr hjlt)
    have OF:zl≠D:=fun z=>by subst z;rw[BB _ _ FJ]at Ia;cases Ia
    refine⟨_,ib.t (k:= [Sum.inl (i:Int),Sum.inl (j:Int)]) LU (G5 _ _ ac) (big (by rw[List.length_map];omega)),vs.length- (j+1),by omega,by omega,rfl,?_⟩
    rw[Bm _ (An hnew),FD]
    have Ld: ∀b o,b≠D->vD b=some o->upd (upd (upd vD kt (.tup [.int (i:Int),.int (j:Int)])) zl (.lst [])) D (.dT (ws.map (fun w=>([Sum.inl (w.s:Int),Sum.inl (w.t:Int)],V.ref w.a))++ [([Sum.inl (i:Int),Sum.inl (j:Int)],V.ref zl)])) b=some o:=fun b o nb e=>by
     rw[ak nb];exact G5 _ _ (BB _ _ e)
    refine⟨fun b o e=>Ld b o (fun z=>by subst z;rw[hD]at e;cases e) (s9 b o e),ws++ [⟨i,j,zl⟩],?_,?_,fun w' il=> ?_,?_,?_⟩
    ·rw[ac,List.map_append];rfl
    ·rw[List.map_append,ep,iq,if_pos hne];rfl
    ·rcases List.mem_append.mp il with il|il
     ·obtain⟨e2,e3,e4⟩:=Cr w' il
      exact⟨Ld _ _ e4 e2,e3,e4⟩
     ·rw[List.mem_singleton]at il
      subst il
      exact⟨by rw[ak OF];exact ac,s9.free (BB.free Ia),OF⟩
    ·rw[List.map_append]
     refine wp JL fun hm'=> ?_
     obtain⟨w',il,e⟩:=List.mem_map.mp hm'
     obtain⟨e2,_,_⟩:=Cr w' il
     have e':w'.a=zl:=e
     rw[e']at e2
     rw[BB _ _ e2]at Ia;cases Ia
    ·have e1:(ws++ [(⟨i,j,zl⟩:Way)]).length=(cb vs.length i (j+1)).length:=by
      rw[iq,if_pos hne,List.length_append,List.length_append,<-ep,List.length_map];rfl
     rw[e1]
     exact Nat.le_trans (M0 _ zi i (List.mem_range.mpr (by omega)) (j+1) (List.mem_range.mpr (by omega))) (by decide)
   ·have heq: ¬j≠i:=fun z=>c (by simp;omega)
    refine⟨vs.length- (j+1),by omega,by omega,rfl,?_⟩
    rw[FD]
    refine⟨s9,ws,FJ,?_,Cr,JL,MI⟩
    rw[ep,iq,if_neg heq,List.append_nil]
 subst ei
 have Oq:=iv
 rw[FD]at Oq
 obtain⟨s9,ws,FJ,ep,Cr,JL,MI⟩:=Oq
 refine .inl ⟨⟨_,aN.of (s9 _ _ Cq),by rw[ln];exact Nat.le_refl _⟩,?_⟩
 have Re:=s9 _ _ Mr
 refine⟨_,rfl,x,R,dx,_,rfl,Re,hR.cl,hR.ways,(by show 2<1000;decide),?_⟩
 rw[M4]
 have EU:Kept x H' (upd H' x (.ins R dx (Ig ro p D))):=Kept.upd _
 have F6:upd H' x (.ins R dx (Ig ro p D)) x=some (.ins R dx (Ig ro p D)):=ac
 generalize upd H' x (.ins R dx (Ig ro p D))=vD at EU F6⊢
 refine⟨z0,fun hh Af=> ?_⟩
 have BB:=ah Af (.lst [])
 refine⟨_,rfl,x,R,dx,_,rfl,BB _ _ F6,hR.cl,hR.wb,(by show 3<1000;decide),?_⟩
 rw[M5]
 have kF:Kept x (upd vD hh (.lst [])) (upd (upd vD hh (.lst [])) x (.ins R dx (Kb ro p D hh))):=Kept.upd _
 have KS: ∀b o,b≠x->upd H4 p (.lst (gs.map fun g=>V.ref g.x)) b=some o->upd (upd vD hh (.lst [])) x (.ins R dx (Kb ro p D hh)) b=some o:=fun b o n e=>kF b o n (BB _ _ (EU b o n (s9 _ _ (s7 _ _ (k6 b o n e)))))
 have Os: ∀b o,b≠x->H' b=some o->upd (upd vD hh (.lst [])) x (.ins R dx (Kb ro p D hh)) b=some o:=fun b o n e=>kF b o n (BB _ _ (EU b o n e))
 have tF:bV H4 (upd (upd vD hh (.lst [])) x (.ins R dx (Kb ro p D hh))):=fun b xs e=>KS b _ (fun z=>by subst z;rw[yP _ _ F7]at e;cases e) (s5 _ _ e)
 have JQ:p≠x:=fun z=>by subst z;rw[yP _ _ F7]at hp;cases hp
 have KZ:D≠x:=fun z=>by subst z;rw[Mr]at hD;cases hD
 have JN:hh≠x:=fun z=>by subst z;rw[F6]at Af;cases Af
 have Jp:H7 p=some (.lst (gs.map fun g=>V.ref g.x)):=s7 _ _ (k6 _ _ JQ ac)
 have RM:D≠p:=fun z=>by subst z;rw[Jp]at hD;cases hD
 have Me:=EU _ _ JQ (s9 _ _ Jp)
 have LS:=EU _ _ KZ FJ
 have RR:hh≠p:=fun z=>by subst z;rw[Me]at Af;cases Af
 have RQ:hh≠D:=fun z=>by subst z;rw[LS]at Af;cases Af
 have wn: ∀g∈gs,∀c∈g.cells,(∃u,H4 c=some u)/\H3 c=none:=fun g hg c hc=>by
  obtain⟨k,hk,ek⟩:=List.getElem_of_mem hg
  obtain⟨J,f,_⟩:=hgs k g (by rw[List.getElem?_eq_getElem hk,ek])
  exact⟨J.live c hc,f c hc⟩
 have cx: ∀g∈gs,∀c∈g.cells,c≠x:=fun g hg c hc z=>by
  subst z
  rw[(wn g hg c hc).2]at F7;cases F7
 have EY: ∀g∈gs,∀c∈g.cells,∃u,H7 c=some u:=fun g hg c hc=>by
  obtain⟨⟨u,g6⟩,_⟩:=wn g hg c hc
  exact⟨u,s7 _ _ (k6 _ _ (cx g hg c hc) (s5 _ _ g6))⟩
 have wx: ∀w'∈ws,w'.a≠x:=fun w' il z=>by
  have:=(Cr w' il).2.1
  rw[z,Mr]at this;cases this
 have cg: ∀c∈gs.map HA.cells,∀b∈c,∃g∈gs,b∈g.cells:=fun c hc b hb=>by
  obtain⟨g,hg,rfl⟩:=List.mem_map.mp hc
  exact⟨g,hg,hb⟩
 refine q ⟨x,dx,p,D,hh,ro,gs,ws⟩ _ rfl ⟨ac,?_,?_,⟨[],?_,Nat.le_refl _⟩,fun i g hg=> ?_,fun j w' hj=> ?_,?_⟩ ⟨rfl,by show gs.length=aV.length;omega,fun i g ds hg hd=>(hgs i g hg).2.2 ds hd,?_⟩ (fun b o n e=> ?_) (fun c hc=> ?_)
 ·exact KS _ _ JQ ac
 ·exact Os _ _ KZ FJ
 ·exact kF _ _ JN ac
 ·have Qf:g∈gs:=List.mem_of_getElem? hg
  refine(hgs i g hg).1.frame tF fun b hb o e=>KS b o (cx g Qf b hb) (s5 _ _ e)
 ·have win:w'∈ws:=List.mem_of_getElem? hj
  obtain⟨e2,e3,e4⟩:=Cr w' win
  exact Os _ _ (wx w' win) e2
 ·refine⟨?_,?_,?_,JL,?_,pw⟩
  ·show([x,p,D,hh]:List Addr).Nodup
   simp only[List.nodup_cons,List.mem_cons,List.not_mem_nil,or_false,not_or,List.nodup_nil,and_true,not_false_eq_true]
   exact⟨⟨JQ.symm,KZ.symm,JN.symm⟩,⟨RM.symm,RR.symm⟩,RQ.symm⟩
  ·intro b hb hm'
   obtain⟨w',il,e⟩:=List.mem_map.mp hm'
   obtain⟨e2,e3,e4⟩:=Cr w' il
   simp only[RG.own,List.mem_cons,List.not_mem_nil,or_false]at hb
   rcases hb with rfl|rfl|rfl|rfl
   ·exact wx w' il e
   ·rw[e,Jp]at e3;cases e3
   ·exact e4 e
   ·have:=EU _ _ (wx w' il) e2
    rw[e,Af]at this;cases this
  ·intro b hb c hc hbc
   obtain⟨g,hg,CZ⟩:=cg c hc b hbc
   obtain⟨u,g6⟩:=EY g hg b CZ
   simp only[RG.own,List.mem_cons,List.not_mem_nil,or_false]at hb
   rcases hb with rfl|rfl|rfl|rfl
   ·exact cx g hg _ CZ rfl
   ·obtain⟨⟨u4,Om⟩,_⟩:=wn g hg _ CZ
    rw[hp]at Om;cases Om
   ·rw[hD]at g6;cases g6
   ·have:=EU _ _ (cx g hg _ CZ) (s9 _ _ g6)
    rw[Af]at this;cases this
  ·intro b hb c hc hbc
   obtain⟨g,hg,CZ⟩:=cg c hc b hbc
   obtain⟨u,g6⟩:=EY g hg b CZ
   obtain⟨w',il,rfl⟩:=List.mem_map.mp hb
   rw[(Cr w' il).2.1]at g6;cases g6
 ·rw[ep,Ov]
 ·exact KS b o n (s5 _ _ (yP _ _ (k3 b o n e)))
 ·have OC: ∀b,b≠x->H7 b=none->H b=none:=fun b n e=>by
   cases z:H b with
   |none=>rfl
   |some o=>rw[s7 _ _ (k6 b o n (s5 _ _ (yP _ _ (k3 b o n z))))]at e;cases e
  simp only[RG.cells,RG.own,List.mem_append,List.mem_cons,List.not_mem_nil,or_false,List.mem_flatten]at hc
  rcases hc with(rfl|rfl|rfl|rfl)|hc|⟨c',hc',hc⟩
  ·exact .inl rfl
  ·refine .inr ?_
   cases z:H c with
   |none=>rfl
   |some o=>rw[yP _ _ (k3 _ o JQ z)]at hp;cases hp
  ·exact .inr (OC _ KZ hD)
  ·refine .inr ?_
   cases z:H c with
   |none=>rfl
   |some o=>rw[EU _ o JN (s9 _ _ (s7 _ _ (k6 _ o JN (s5 _ _ (yP _ _ (k3 _ o JN z))))))]at Af;cases Af
  ·obtain⟨w',il,rfl⟩:=List.mem_map.mp hc
   exact .inr (OC _ (wx w' il) (Cr w' il).2.1)
  ·obtain⟨g,hg,CZ⟩:=cg c' hc' c hc
   refine .inr ?_
   cases z:H c with
   |none=>rfl
   |some o=>have:=(wn g hg c CZ).2;rw[k3 _ o (cx g hg c CZ) z]at this;cases this
end
end W2
namespace W2
open PySem PySem.Spec PyProof.Rows K2 L2
abbrev ml:Stmt:=top 43
abbrev p9:Stmt:=top 44
abbrev iC:Stmt:=top 45
section
variable{P:Program}{w:World}{K:PySem.W.Frag}{mg:Str->Option Value}{base:Heap}
theorem nZ{H:Hp}{d:aB}{v:V}(r:Rep H d.pv v): ∃p us x,v= .ref p/\H p=some (.tup (.str (S x)::us))/\(x=cZ\/x=gU\/x=cC)/\(x=cC-> ∃w m b,d= .take w m b/\ ∃us',us= .int w::us'):=by
 cases d with
 |tell i=>
  obtain⟨p,vs,rfl,hp,rs⟩:=r.tup
  simp only[aq]at rs
  obtain⟨v,r,rfl,⟨rfl,_⟩,_⟩:=rs
  exact⟨p,r,_,rfl,hp,.inl rfl,fun z=>absurd z (by decide)⟩
 |all=>
  obtain⟨p,vs,rfl,hp,rs⟩:=r.tup
  simp only[aq]at rs
  obtain⟨v,r,rfl,⟨rfl,_⟩,_⟩:=rs
  exact⟨p,r,_,rfl,hp,.inr (.inl rfl),fun z=>absurd z (by decide)⟩
 |take w m b=>
  obtain⟨p,vs,rfl,hp,rs⟩:=r.tup
  simp only[aq,Rep]at rs
  obtain⟨v,r,rfl,⟨rfl,_⟩,v2,r2,rfl,rfl,_⟩:=rs
  exact⟨p,_,_,rfl,hp,.inr (.inr rfl),fun _=>⟨w,m,b,rfl,_,rfl⟩⟩
inductive oF(vs:List V)(H:Hp)(Q:VK)(fG:XK):Prop
 |mk (d:aB) (v:V) (_:vs= [v]) (_:Rep H d.pv v) (_: ∀r,H r=none->Q (.ref r) (upd H r (.lst [])))
theorem uO{f:Addr}{fd:FuncData}(F:cE K "rows_within" "rows_within" kI f fd):aI P w K mg base br 1 f fd ["row"] oF:=by
 refine F.ok sF (fun vs H Q E h=> ?_) (fun cdv A outer s H vs Q E hr h=> ?_)
 ·obtain⟨_,_,rfl,_⟩:=h;rfl
 obtain⟨d,v,rfl,rp,q⟩:=h
 refine⟨_,ap (aE (fz (aP hJ (aK dk (pv 0) au (fun _ _=>rfl)) bB (aY _)) (bS (aa (aK dk (pv 0) au (fun _ _=>rfl)) (aa (aK dk (pv 0) au (fun _ _=>rfl)) af))) (bS af))),?_⟩
 obtain⟨p,us,x,rfl,hp,hx,_⟩:=nZ rp
 refine⟨_,rfl,p,_,0,_,rfl,rfl,bn.of hp,bc (j:=0) rfl,rfl,_,rfl,bY (fun c=> ?_) (fun c=> ?_)⟩
 ·have hxc:x=df:=by
   have z:=of_decide_eq_true c
   injection z with z
   exact iO (z.trans BC)
  subst hxc
  rcases hx with e|e|e<;>exact absurd e (by decide)
 ·exact⟨Nat.zero_le _,q⟩
inductive sM(vs:List V)(H:Hp)(Q:VK)(fG:XK):Prop
 |mk (d:aB) (v:V) (_:vs= [v]) (_:Rep H d.pv v) (_:Q (.bl false) H)
theorem BS:av ["row"] ["row"] (am p9):=⟨rfl,rfl,rfl,by decide+kernel,rfl,by decide+kernel,by decide+kernel⟩
theorem yk{f:Addr}{fd:FuncData}(F:cE K "is_wild" "is_wild" p9 f fd):aI P w K mg base br 1 f fd ["row"] sM:=by
 refine F.ok BS (fun vs H Q E h=> ?_) (fun cdv A outer s H vs Q E hr h=> ?_)
 ·obtain⟨_,_,rfl,_⟩:=h;rfl
 obtain⟨d,v,rfl,rp,q⟩:=h
 refine⟨_,ag (bL (aP hJ (aK dk (pv 0) au (fun _ _=>rfl)) bB (aY _)) (ap (aE (pO (ir (aK dk (pv 0) au (fun _ _=>rfl)))))) aU)
  (ap (aE (iu (dO hJ (aK dk (pv 0) au (fun _ _=>rfl)) bB (aY _)) (fg (pO (ir (aK dk (pv 0) au (fun _ _=>rfl)))))))),?_⟩
 obtain⟨p,us,x,rfl,hp,hx,ht⟩:=nZ rp
 refine⟨_,rfl,p,_,0,_,rfl,rfl,bn.of hp,bc (j:=0) rfl,rfl,_,rfl,bY (fun c=> ?_) (fun c=> ?_)⟩
 ·have hxc:x=cC:=by
   have z:=of_decide_eq_true c
   injection z with z
   exact iO (z.trans (by decide+kernel))
  obtain⟨w',m,b,rfl,us',rfl⟩:=ht hxc
  refine⟨_,rfl,p,_,1,_,rfl,rfl,bn.of hp,bc (j:=1) rfl,?_⟩
  simpa using q
 ·refine⟨_,rfl,p,_,0,_,rfl,rfl,bn.of hp,bc (j:=0) rfl,rfl,_,rfl,?_⟩
  have e:decide (V.str (S x)=V.str "post")=false:=by
   refine decide_eq_false fun z=> ?_
   injection z with z
   rw[(by decide+kernel:("post":Str)=S fF)]at z
   have:=iO z
   rcases hx with e|e|e<;>(rw[e]at this;exact absurd this (by decide))
  rw[e]
  exact bO q
inductive oz(vs:List V)(H:Hp)(Q:VK)(fG:XK):Prop
 |mk (aV:List (List aB)) (v:V) (_:vs= [v]) (_:Rep H (fk aV) v) (_:(aV.map List.length).sum<=500) (_:aV.length<=100) (_: ∀ (l:Addr) (rs:List aB) (ys:List V) H',aw H H'->H' l=some (.lst ys)->aq H' (rs.map aB.pv) ys->rs.length<=500->Q (.ref l) H')
theorem fB:av ["program", "found", "pending", "rows", "row"] ["program"] (am ml):=⟨rfl,rfl,rfl,by decide+kernel,rfl,by decide+kernel,by decide+kernel⟩
structure Il(H0:Hp)(aV:List (List aB))(v:V)(fo pd:Addr)(m:Nat)(σ:L2.St)(H:Hp):Prop where
 ex: ∃ (r3 r4:Option V) (rs:List aB) (ys vs:List V),σ= [some v,some (.ref fo),some (.ref pd),r3,r4]/\aw H0 H/\H fo=some (.lst ys)/\aq H (rs.map aB.pv) ys/\H pd=some (.lst vs)/\aq H ((aV.take m).map fun ds=> .tup (ds.map aB.pv)) vs/\rs.length+((aV.take m).map List.length).sum<=500/\m<=aV.length
theorem uI{f:Addr}{fd:FuncData}(F:cE K "all_rows" "all_rows" ml f fd)(T:Tx mg)(hwi:f9 P w K mg base br 1 "rows_within" ["row"] oF):aI P w K mg base br 2 f fd ["program"] oz:=by
 refine F.ok fB (fun vs H Q E h=> ?_) (fun cdv A outer s H vs Q E hr h=> ?_)
 ·obtain⟨_,_,rfl,_⟩:=h;rfl
 obtain⟨aV,v,rfl,rp,hs,hl,q⟩:=h
 refine⟨_,ag (aJ (i:=1) fB.nd rfl (Or.inl rfl) (bS af))
  (ag (aJ (i:=2) fB.nd rfl (Or.inl rfl) (bf fK rfl T.list boot_list (aa (pv 0) af)))
  (ag (jf PassesOwn.never (jh (pv 2) (fun _=>rfl)) (ag (aJ (i:=3) fB.nd rfl (Or.inl rfl) (uS PySem.F.plainAttrs_list PySem.F.slot_list_pop PySem.F.type_list_pop uE (pv 2)))
   (ap (cX PassesOwn.never rfl (lY (pv 3)) (aG (i:=4) fB.nd rfl (Or.inl rfl)) (ag (aT (i9 PySem.F.plainAttrs_list PySem.F.slot_list_append PySem.F.type_list_append dR (pv 1) (aa (pv 4) af)))
    (ap (aT (i9 PySem.F.plainAttrs_list PySem.F.slot_list_extend PySem.F.type_list_extend jI (pv 2) (aa (aF hwi hr rfl aD (aa (pv 4) af)) af)))))))))
  (ap (aE (pv 1))))),?_⟩
 obtain⟨pa,us,rfl,hpa,Sa⟩:=rp.tup
 refine⟨Nat.zero_le _,fun fo hfo=> ?_⟩
 have s1:=ah hfo (.lst [])
 refine⟨_,rfl,pa,us,rfl,.inr (bn.of (s1 _ _ hpa)),fun pd zj=> ?_⟩
 have s2:=ah zj (.lst us)
 have s12:=s1.trans s2
 have Aj:H pd=none:=s1.free zj
 refine⟨Il H aV (.ref pa) fo pd,⟨aV.length,none,none,[],[],us,rfl,s12,s2 _ _ ac,aq.nil,ac,by rw[List.take_length];exact s12.reps Sa,by rw[List.take_length];simpa using hs,Nat.le_refl _⟩,?_⟩
 rintro m σ H1 ⟨r3,r4,rs,ys,vs,rfl,sm,hf1,ry,hp1,rv,hsum,hm⟩
 refine⟨_,rfl, !vs.isEmpty,.inl ⟨_,aN.of hp1,rfl⟩,?_⟩
 cases m with
 |zero=>
  cases(show vs= []from by simpa only[List.take_zero,List.map_nil,aq]using rv)
  exact bO ⟨_,rfl,q fo rs ys H1 sm hf1 ry (by simpa using hsum)⟩
 |succ m=>
  have hm':m<aV.length:=by omega
  rw[take_one hm',List.map_append]at rv
  obtain⟨dl,y,rfl,J7,Sb⟩:=jN rv
  have hne:(!(dl++ [y]).isEmpty)=true:=by cases dl<;>rfl
  rw[if_pos hne]
  refine⟨Il H aV (.ref pa) fo pd m,fun σ' H' z=>⟨m,Nat.lt_succ_self _,z⟩,?_⟩
  refine⟨_,rfl,.inl ⟨rfl,_,aN.of hp1⟩,pd,_,y,rfl,rfl,hp1,(by simp),?_⟩
  rw[List.dropLast_concat]
  have t2:bV H1 (upd H1 pd (.lst dl)):=cY hp1
  have s3:aw H (upd H1 pd (.lst dl)):=eG Aj sm
  obtain⟨b,ws,rfl,hb,rws⟩:=(t2.rep Sb).tup
  have JI:=rws.len
  rw[List.length_map]at JI
  have Ib:fo≠pd:=fun z=>by subst z;rw[ac]at zj;cases zj
  rw[take_one hm',List.map_append,List.sum_append]at hsum
  simp only[List.map_cons,List.map_nil,List.sum_cons,List.sum_nil,Nat.add_zero]at hsum
  refine⟨_,rfl,b,rfl,⟨_,bn.of hb⟩,vT (xs:=ws) (fun i σ' H'=> ∃ (r4:Option V) (ys':List V),σ'= [some (.ref pa),some (.ref fo),some (.ref pd),some (.ref b),r4]/\aw H H'/\bV (upd H1 pd (.lst dl)) H'/\H' fo=some (.lst ys')/\aq H' ((rs++aV[m].take i).map aB.pv) ys'/\H' pd=some (.lst dl)) ?_ ?_ ?_ ?_⟩
  ·refine⟨_,ys,rfl,s3,bV.refl _,by rw[ak Ib];exact hf1,?_,ac⟩
   rw[List.take_zero,List.append_nil];exact t2.reps ry
  ·rintro i σ' H' _ ⟨_,_,_,_,tp,_⟩
   exact bn.of (tp _ _ hb)
  ·rintro i x σ' H' hx ⟨r4,ys',rfl,s4,tp,Jb,DX,FZ⟩
   obtain⟨p,ep,K8⟩:=(tp.reps rws).get hx
   rw[List.getElem?_map]at ep
   have hi:i<aV[m].length:=by rw[JI];exact(List.getElem?_eq_some_iff.mp hx).1
   rw[List.getElem?_eq_getElem hi]at ep
   injection ep with ep
   subst ep
   have ly:=DX.len
   rw[List.length_map,List.length_append,List.length_take]at ly
   refine⟨_,rfl,.inl ⟨rfl,_,aN.of Jb⟩,_,rfl,fo,ys',x,rfl,rfl,Jb,big (by omega),?_⟩
   have t5:bV H' (upd H' fo (.lst (ys'++ [x]))):=cY Jb
   have C1:upd H' fo (.lst (ys'++ [x])) pd=some (.lst dl):=by rw[ak Ib.symm];exact FZ
   have FU:H fo=none:=hfo
   have s5:aw H (upd H' fo (.lst (ys'++ [x]))):=eG FU s4
   refine⟨_,rfl,.inl ⟨rfl,_,aN.of C1⟩,_,rfl,aV[m][i],x,rfl,t5.rep K8,fun r hr'=> ?_⟩
   have s6:=ah hr' (.lst [])
   have ld:=J7.len
   rw[List.length_map,List.length_take]at ld
   refine⟨pd,r,dl,[],rfl,rfl,s6 _ _ C1,ac,?_,_,ys'++ [x],rfl,?_,?_,?_,?_,by rw[ac,List.append_nil]⟩
   ·have:=big (n:=dl.length+([]:List V).length) (by simp;omega)
    exact Nat.le_of_lt this
   ·exact eG Aj (s5.trans s6)
   ·exact tp.trans (t5.trans (s6.tups.trans (cY (s6 _ _ C1))))
   ·rw[ak Ib];exact s6 _ _ ac
   ·have e:rs++aV[m].take (i+1)=(rs++aV[m].take i)++ [aV[m][i]]:=by rw[take_one hi,List.append_assoc]
    rw[e,List.map_append]
    exact((t5.trans (s6.tups.trans (cY (s6 _ _ C1)))).reps DX).append (aq.one ((t5.trans (s6.tups.trans (cY (s6 _ _ C1)))).rep K8))
  ·rintro σ' H' ⟨r4,ys',rfl,s4,tp,Jb,DX,FZ⟩
   rw[<-JI,List.take_length]at DX
   exact⟨_,_,rs++aV[m],ys',dl,rfl,s4,Jb,DX,FZ,(t2.trans tp).reps J7,by rw[List.length_append];omega,by omega⟩
end
end W2
namespace W2
open PySem PySem.Spec PyProof.Rows K2 L2
abbrev mn:Stmt:=top 55
structure IA(aV:List (List aB)):Prop where
 ok:dZ (fk aV)=true
 sum:(aV.map List.length).sum<=40
 len:aV.length<=4
section
variable{P:Program}{w:World}{K:PySem.W.Frag}{mg:Str->Option Value}{base:Heap}
inductive B6(vs:List V)(H:Hp)(Q:VK)(fG:XK):Prop
 |mk (aV:List (List aB)) (v:V) (_:vs= [v]) (_:Rep H (fk aV) v) (_:IA aV) (_: ∀H',aw H H'->Q (.int 0) H')
theorem sE:av ["program"] ["program"] (am iC):=⟨rfl,rfl,rfl,by decide+kernel,rfl,by decide+kernel,by decide+kernel⟩
theorem rO:(["row", "program"]:List Str).Nodup:=by decide+kernel
theorem DD{f:Addr}{fd:FuncData}(F:cE K "wild_takes" "wild_takes" iC f fd)(T:Tx mg)(hcp:f9 P w K mg base br 8 "check_program" ["thing"] (sJ dZ))(har:f9 P w K mg base br 2 "all_rows" ["program"] oz)(QL:f9 P w K mg base br 1 "is_wild" ["row"] sM):aI P w K mg base br 9 f fd ["program"] B6:=by
 refine F.ok sE (fun vs H Q E h=> ?_) (fun cdv A outer s H vs Q E hr h=> ?_)
 ·obtain⟨_,_,rfl,_⟩:=h;rfl
 obtain⟨aV,v,rfl,rp,ok,q⟩:=h
 refine⟨_,ag (aT (aF hcp hr rfl aD (aa (pv 0) af)))
  (ap (aE (aA aR rfl T.len boot_len (aa (dP (T:= ["row"]) (bT ["program"] rfl (by decide+kernel)) rfl (cz (aF har hr rfl aD (aa (pv 0) af))) (fun Y hY=>by cases hY;exact aG (i:=0) rO rfl (Or.inl rfl)) bA
   (fun Y hY=>by cases hY;exact fA (cp (aF QL hr rfl aD (aa (pv 0) af)))) (fun Y hY=>by cases hY;exact pv 0)) af)))),?_⟩
 have hsum:=ok.sum
 have hlen:=ok.len
 refine⟨_,rfl,fk aV,v,rfl,rp,ok.ok,fun H1 s1=> ?_⟩
 refine⟨_,rfl,aV,v,rfl,s1.rep rp,by omega,by omega,fun l rs ys H2 s2 hl ry hrs=> ?_⟩
 have ly:=ry.len
 rw[List.length_map]at ly
 refine⟨l,rfl,⟨ys,aN.of hl⟩,?_⟩
 refine cy (n:=ys.length) (fun i zs H'=>H'=H2/\zs= []) ⟨rfl,rfl⟩ ?_ ?_
 ·rintro i zs _ hi ⟨rfl,rfl⟩
  refine⟨⟨ys,ys[i],aN.of hl,List.getElem?_eq_getElem hi⟩,big (Nat.zero_le _),?_⟩
  rintro x H3 ⟨rfl,hy⟩
  have ex:=hy _ (aN.of hl)
  rw[List.getElem?_eq_getElem hi]at ex
  cases ex
  obtain⟨p,ep,K8⟩:=ry.get (List.getElem?_eq_getElem hi)
  rw[List.getElem?_map]at ep
  obtain⟨k,rfl⟩: ∃k:aB,k.pv=p:=by
   cases e:rs[i]? with
   |none=>rw[e]at ep;cases ep
   |some k=>rw[e]at ep;cases ep;exact⟨k,rfl⟩
  refine⟨_,rfl,k,ys[i],rfl,K8,_,rfl,bO ?_⟩
  exact Wc.next hi ⟨rfl,rfl⟩
 ·rintro zs _ ⟨rfl,rfl⟩
  refine⟨⟨ys,aN.of hl,Nat.le_refl _⟩,fun p hp=> ?_⟩
  exact⟨p,[],rfl,.inl (aN.of ac),q _ ((s1.trans s2).trans (ah hp _))⟩
inductive oA(vs:List V)(H:Hp)(Q:VK)(fG:XK):Prop
 |mk (aV:List (List aB)) (v:V) (ro:Option Nat) (_:vs= [v,dJ ro]) (_:Rep H (fk aV) v) (_:IA aV) (_:dG (j7 ro)=true) (_: ∀H',aw H H'->Q .aH H')
theorem yK:av ["program", "room"] ["program", "room"] (am mn):=⟨rfl,rfl,rfl,by decide+kernel,rfl,by decide+kernel,by decide+kernel⟩
theorem uJ{f:Addr}{fd:FuncData}(F:cE K "check_choices" "check_choices" mn f fd)(T:Tx mg)(HX: ∃t,mg "MOST_WILD"=some (Value.int 6 t))(hcp:f9 P w K mg base br 8 "check_program" ["thing"] (sJ dZ))(LY:f9 P w K mg base br 3 "check_room" ["thing"] (sJ dG))(Jx:f9 P w K mg base br 9 "wild_takes" ["program"] B6):aI P w K mg base br 10 f fd ["program", "room"] oA:=by
 obtain⟨t6,e6⟩:=HX
 refine F.ok yK (fun vs H Q E h=> ?_) (fun cdv A outer s H vs Q E hr h=> ?_)
 ·obtain⟨_,_,_,rfl,_⟩:=h;rfl
 obtain⟨aV,v,ro,rfl,rp,ok,EO,q⟩:=h
 refine⟨_,ag (aT (aF hcp hr rfl aD (aa (pv 0) af)))
  (ag (aT (aF LY hr rfl aD (aa (pv 1) af)))
  (ap (bL (aP nS (aF Jx hr rfl aD (aa (pv 0) af)) (cc rfl e6 (v:= .int 6) ⟨_,rfl⟩) (aY _)) jg aU))),?_⟩
 refine⟨_,rfl,fk aV,v,rfl,rp,ok.ok,fun H1 s1=> ?_⟩
 refine⟨_,rfl,j7 ro,dJ ro,rfl,sx ro,EO,fun H2 s2=> ?_⟩
 have s12:=s1.trans s2
 refine⟨_,rfl,aV,v,rfl,s12.rep rp,ok,fun H3 s3=>⟨_,_,rfl,rfl,_,rfl,bO (q _ (s12.trans s3))⟩⟩
end
end W2
namespace W2
open PySem PySem.Spec PyProof.Rows K2 L2
def HA.mu(g:HA):Nat:=2*g.rows.length+(if g.wt= .go then 1 else 0)
def RG.mu(G:RG):Nat:=(G.ae.map HA.mu).sum
theorem wV{g:HA}{d:aB}{rest:List aB}(er:g.rows=d::rest)(hw:g.wt= .go):(g.step d).mu+1<=g.mu:=by
 cases d<;>simp[HA.step,HA.mu,er,hw]<;>omega
def HA.xb(g:HA):Prop:=g.wt≠ .go->g.rows≠ []
theorem vU{g:HA}(hw:g.xb):g.free.mu<=g.mu:=by
 unfold HA.free
 split
 ·rename_i h
  have hn:=hw (by rw[h];decide)
  cases hr:g.rows with
  |nil=>exact absurd hr hn
  |cons a r=>simp[HA.on,HA.mu,h,hr];omega
 ·exact Nat.le_refl _
theorem B8{g:HA}{d:aB}{rest:List aB}(er:g.rows=d::rest):(g.step d).xb:=by
 intro h
 cases d with
 |tell i=>exact absurd rfl h
 |all=>show g.rows≠ [];rw[er];simp
 |take w m b=>show g.rows≠ [];rw[er];simp
theorem zU{g:HA}(h:g.xb):g.free.xb:=by
 unfold HA.free
 split
 ·intro z;exact absurd rfl z
 ·exact h
theorem iI{α:Type}(f g:α->Nat): ∀ {l:List α},(∀a∈l,f a<=g a)->(l.map f).sum<=(l.map g).sum
 | [],_=>by simp
 |x::l,h=>by
  rw[List.map_cons,List.sum_cons,List.map_cons,List.sum_cons]
  have h1:=h x List.mem_cons_self
  have h2:=iI f g (l:=l) fun a ha=>h a (List.mem_cons_of_mem _ ha)
  omega
theorem sum_set{α:Type}(f:α->Nat): ∀ {l:List α} {i:Nat} {a b:α},l[i]? =some a->((l.set i b).map f).sum+f a=(l.map f).sum+f b
 |x::l,0,a,b,h=>by cases h;simp;omega
 |x::l,i+1,a,b,h=>by
  have:=sum_set f (l:=l) (i:=i) (a:=a) (b:=b) (by simpa using h)
  simp only[List.set_cons_succ,List.map_cons,List.sum_cons]
  omega
theorem DK{G:RG}(h: ∀g∈G.ae,g.xb):G.pass.mu<=G.mu:=by
 unfold RG.pass
 split
 ·show((G.ae.map HA.free).map HA.mu).sum<=_
  rw[List.map_map]
  exact iI _ _ fun g hg=>vU (h g hg)
 ·exact Nat.le_refl _
inductive nc(G:RG)(i:Nat):RG->Prop
 |mk {g:HA} {d:aB} {rest:List aB} (hg:G.ae[i]? =some g) (er:g.rows=d::rest) (hw:g.wt= .go):nc G i (G.aW i (g.step d)).pass
theorem kJ{G:RG}{i:Nat}{g:HA}{d:aB}{rest:List aB}(er:g.rows=d::rest)(ha: ∀g∈G.ae,g.xb): ∀f∈(G.aW i (g.step d)).ae,f.xb:=fun f hf=>by
 rcases List.mem_or_eq_of_mem_set hf with hf|rfl
 ·exact ha f hf
 ·exact B8 er
theorem nc.mu{G G':RG}{i:Nat}(h:nc G i G')(ha: ∀g∈G.ae,g.xb):G'.mu+1<=G.mu:=by
 cases h with
 | @mk g d rest hg er hw=>
  have h1:=DK (kJ (i:=i) er ha)
  have h2:=wV er hw
  have h3:(G.aW i (g.step d)).mu+g.mu=G.mu+(g.step d).mu:=sum_set HA.mu hg
  omega
theorem nc.cells{G G':RG}{i:Nat}(h:nc G i G'):G'.cells=G.cells:=by
 cases h with
 | @mk g d rest hg er hw=>exact(lV _).trans (hV hg (g.iG d))
theorem nc.x{G G':RG}{i:Nat}(h:nc G i G'):G'.x=G.x:=by cases h;exact A3 _
theorem yz(G:RG):G.pass.ways=G.ways:=by unfold RG.pass;split<;>rfl
theorem nc.ways{G G':RG}{i:Nat}(h:nc G i G'):G'.ways=G.ways:=by cases h;exact yz _
theorem nc.len{G G':RG}{i:Nat}(h:nc G i G'):G'.ae.length=G.ae.length:=by
 cases h;rw[A2];exact List.length_set ..
structure Cu(G:RG):Prop where
 ev:zn G
 sm: ∀g∈G.ae,g.said.length+g.td+g.mu<=200
 xb: ∀g∈G.ae,g.xb
theorem sh{G:RG}{g:HA}(h:g∈G.pass.ae):g∈G.ae\/ ∃f∈G.ae,g=f.free:=by
 unfold RG.pass at h
 split at h
 ·obtain⟨f,hf,rfl⟩:=List.mem_map.mp h
  exact .inr ⟨f,hf,rfl⟩
 ·exact .inl h
theorem nH(g:HA):g.free.said=g.said/\g.free.td=g.td:=by unfold HA.free;split<;>exact⟨rfl,rfl⟩
theorem Cu.go{G G':RG}{i:Nat}(a:Cu G)(h:nc G i G'):Cu G':=by
 have hw:=h.ways
 have hl:=h.len
 refine⟨⟨?_,?_,?_,?_⟩,?_,?_⟩
 ·show(G'.ways.map _).Nodup
  rw[hw];exact a.ev.keyed
 ·rw[hw,hl];exact a.ev.ends
 ·rw[hw];exact a.ev.few
 ·rw[hl];exact a.ev.ae
 ·cases h with
  | @mk g d rest hg er Jx=>
   have one: ∀f∈(G.aW i (g.step d)).ae,f.said.length+f.td+f.mu<=200:=fun f hf=>by
    rcases List.mem_or_eq_of_mem_set hf with hf|rfl
    ·exact a.sm f hf
    ·have h0:=a.sm g (List.mem_of_getElem? hg)
     have h1:=wV er Jx
     cases d<;>simp only[HA.step,List.length_append,List.length_cons,List.length_nil]at h1⊢ <;>omega
   intro f hf
   rcases sh hf with hf|⟨f',hf',rfl⟩
   ·exact one f hf
   ·have h1:=one f' hf'
    have h2:=vU (kJ (i:=i) er a.xb f' hf')
    rw[(nH f').1,(nH f').2]
    omega
 ·cases h with
  | @mk g d rest hg er Jx=>
   intro f hf
   rcases sh hf with hf|⟨f',hf',rfl⟩
   ·exact kJ (i:=i) er a.xb f hf
   ·exact zU (kJ (i:=i) er a.xb f' hf')
theorem nc.other{G G':RG}{i j:Nat}{f:HA}(h:nc G i G')(n:i≠j)(hf:G.ae[j]? =some f)(hw:f.wt= .go):G'.ae[j]? =some f:=by
 cases h with
 | @mk g d rest hg er Jx=>
  have e:(G.aW i (g.step d)).ae[j]? =some f:=by
   show(G.ae.set i _)[j]? =_
   rw[List.getElem?_set_ne n];exact hf
  unfold RG.pass
  split
  ·show((G.aW i (g.step d)).ae.map HA.free)[j]? =_
   rw[List.getElem?_map,e]
   show some f.free=some f
   unfold HA.free
   rw[if_neg (by rw[hw];decide)]
  ·exact e
inductive Goes:RG->RG->Prop
 |refl (G:RG):Goes G G
 |step {G G1 G2:RG} {i:Nat} (a:Goes G G1) (b:nc G1 i G2):Goes G G2
theorem Goes.ok{G G':RG}(h:Goes G G')(a:Cu G):Cu G':=by
 induction h with
 |refl=>exact a
 |step _ b ih=>exact ih.go b
theorem Goes.cells{G G':RG}(h:Goes G G'):G'.cells=G.cells:=by
 induction h with
 |refl=>rfl
 |step _ b ih=>exact b.cells.trans ih
theorem Goes.x{G G':RG}(h:Goes G G'):G'.x=G.x:=by
 induction h with
 |refl=>rfl
 |step _ b ih=>exact b.x.trans ih
theorem pc{G:RG}{i:Nat}(h:i∈G.goes): ∃g d rest,G.ae[i]? =some g/\g.rows=d::rest/\g.wt= .go:=by
 have h2:=(List.mem_filter.mp h).2
 unfold RG.ke at h2
 cases hg:G.ae[i]? with
 |none=>rw[hg]at h2;cases h2
 |some g=>
  rw[hg]at h2
  simp only[kY,Bool.and_eq_true,decide_eq_true_eq,Bool.not_eq_true',decide_eq_false_iff_not]at h2
  cases hr:g.rows with
  |nil=>rw[hr]at h2;exact absurd rfl h2.2
  |cons d rest=>exact⟨g,d,rest,rfl,hr,h2.1⟩
end W2
namespace W2
open PySem PySem.Spec PyProof.Rows K2 L2
abbrev qc:Stmt:=top 56
theorem ub(G:RG):G.goes.Nodup:=List.Nodup.sublist List.filter_sublist List.nodup_range
section
variable{P:Program}{w:World}{K:PySem.W.Frag}{mg:Str->Option Value}{base:Heap}
inductive sO(C R:Addr)(vs:List V)(H:Hp)(Q:VK)(fG:XK):Prop
 |mk (G:RG) (B:Nat) (_:vs= [.ref G.x]) (_:aZ none C R B H G) (_:Cu G) (_:B+G.mu<=500) (_: ∀G' H' B',Goes G G'->G'.goes= []->B'<=500->mP none C R B' H G H' G'->Q .aH H')
theorem jp:av ["run", "events", "event"] ["run"] (am qc):=⟨rfl,rfl,rfl,by decide+kernel,rfl,by decide+kernel,by decide+kernel⟩
structure Fm(C R:Addr)(H0:Hp)(G:RG)(m:Nat)(σ:L2.St)(H:Hp):Prop where
 ex: ∃ (G':RG) (B':Nat) (l:Addr) (ys:List V) (r2:Option V),σ= [some (.ref G.x),some (.ref l),r2]/\Goes G G'/\mP none C R B' H0 G H G'/\B'+G'.mu<=500/\H l=some (.lst ys)/\aq H (G'.goes.map mO) ys/\l∉G.cells/\m=G'.mu
theorem yn{f C R:Addr}{fd:FuncData}(F:cE K "settle" "settle" qc f fd)(hR:dW K R)(hwi:bX P w K mg base R 5 "events_within" ["self", "listed"] (jR C R))(hca:bX P w K mg base R 5 "carry_out" ["self", "event"] (kK C R)):aI P w K mg base br 6 f fd ["run"] (sO C R):=by
 obtain⟨g1,CQ,hm1,jA,hb1⟩:=hwi
 obtain⟨g2,zg,hm2,gK,hb2⟩:=hca
 refine F.ok jp (fun vs H Q E h=> ?_) (fun cdv A outer s H vs Q E hr h=> ?_)
 ·obtain⟨_,_,rfl,_⟩:=h;rfl
 obtain⟨G,B,rfl,I,ao,hB,q⟩:=h
 refine⟨_,ag (aJ (i:=1) jp.nd rfl (Or.inl rfl) (bQ (pv 0) hR.cl hm1 jA hr hb1 .nil aD (aa jb af)))
  (ap (jf PassesOwn.never (jh (pv 1) (fun _=>rfl)) (ag (cX PassesOwn.never rfl (cz (pv 1)) (aG (i:=2) jp.nd rfl (Or.inl rfl)) (ap (aT (bQ (pv 0) hR.cl hm2 gK hr hb2 .nil aD (aa (pv 2) af)))))
   (ap (aJ (i:=1) jp.nd rfl (Or.inl rfl) (bQ (pv 0) hR.cl hm1 jA hr hb1 .nil aD (aa jb af))))))),?_⟩
 have make: ∀ (G':RG) (B':Nat) (H1:Hp) (N:V->Hp->Prop),aZ none C R B' H1 G'->Cu G'->(∀l ys H2,aw H1 H2->l∉G'.cells->H2 l=some (.lst ys)->aq H2 (G'.goes.map mO) ys->N (.ref l) H2)-> ∀se,H1 se=none->jR C R [.ref G'.x,.ref se] (upd H1 se (.dT [])) N E0:=fun G' B' H1 N I1 a1 n se hse=>by
  have s1:=ah hse (.dT [])
  refine⟨G',B',.ref se,rfl,I1.same s1,a1.ev,fun l ys H2 s2 Cp hl ry=>n l ys H2 (s1.trans s2) (fun hm=> ?_) hl ry⟩
  obtain⟨u,hu⟩:=(I1.same s1).live l hm
  rw[Cp]at hu;cases hu
 refine⟨_,rfl,G.x,G.dx,_,rfl,I.ob,rfl,fun se hse=> ?_⟩
 refine make G B H _ I ao (fun l ys H2 s2 nl hl ry=> ?_) se hse
 refine⟨Fm C R H G,⟨G.mu,G,B,l,ys,none,rfl,.refl G,mP.same I s2,hB,hl,ry,nl,rfl⟩,?_⟩
 rintro m σ H3 ⟨G',B',l',ys',r2,rfl,gs,a3,N5,hl',OP,nl',rfl⟩
 have Sv:=gs.ok ao
 refine⟨_,rfl, !ys'.isEmpty,.inl ⟨_,aN.of hl',rfl⟩,?_⟩
 have ly:=OP.len
 rw[List.length_map]at ly
 refine bY (fun c=> ?_) (fun c=> ?_)
 rotate_left
 ·have e0:G'.goes= []:=List.eq_nil_of_length_eq_zero (by
   have:ys'= []:=by cases ys' with
    |nil=>rfl
    |cons _ _=>exact absurd rfl c
   rw[ly,this];rfl)
  exact q G' H3 B' gs e0 (by omega) a3
 have ne:1<=ys'.length:=by
  cases ys' with
  |nil=>cases c
  |cons _ _=>simp
 refine⟨fun σ' H'=> ∃m',m'<G'.mu/\Fm C R H G m' σ' H',fun σ' H' z=>z,?_⟩
 refine⟨_,rfl,l',rfl,⟨ys',aN.of hl'⟩,?_⟩
 refine dF (n:=ys'.length) (fun i σ' H4=> ∃ (G2:RG) (B2:Nat) (r2:Option V),σ'= [some (.ref G.x),some (.ref l'),r2]/\Goes G G2/\mP none C R B2 H G H4 G2/\B2+G2.mu<=500/\G2.mu+i<=G'.mu/\H4 l'=some (.lst ys')/\aq H4 (G'.goes.map mO) ys'/\ ∀j k,i<=j->G'.goes[j]? =some k->G2.ae[k]? =G'.ae[k]?)
  ⟨G',B',_,rfl,gs,a3,N5,Nat.le_refl _,hl',OP,fun j k _ _=>rfl⟩ ?_ ?_
 ·rintro i σ' H4 hi ⟨G2,B2,r2,rfl,xA,a4,hB2,QV,zh,DX,same⟩
  refine⟨⟨ys',ys'[i],aN.of zh,List.getElem?_eq_getElem hi⟩,?_⟩
  rintro x H5 ⟨rfl,hy⟩
  have ex:=hy _ (aN.of zh)
  rw[List.getElem?_eq_getElem hi]at ex
  cases ex
  have hi':i<G'.goes.length:=by omega
  obtain⟨g,d,rest,hg,er,hw⟩:=pc (List.getElem_mem hi')
  have gK:=same i _ (Nat.le_refl _) (List.getElem?_eq_getElem hi')
  rw[hg]at gK
  obtain⟨p,ep,rp⟩:=DX.get (List.getElem?_eq_getElem hi)
  rw[List.getElem?_map,List.getElem?_eq_getElem hi']at ep
  injection ep with ep
  subst ep
  have Lx:=xA.ok ao
  have sm:=Lx.sm g (List.mem_of_getElem? gK)
  have e2:H5 G.x=some (.ins R G2.dx G2.fs):=by rw[<-xA.x];exact a4.is.ob
  refine⟨_,rfl,G.x,G2.dx,_,rfl,e2,rfl,_,rfl,?_⟩
  refine⟨G2,B2,_,G'.goes[i],g,d,rest,by rw[xA.x];rfl,a4.is,Lx.ev,by omega,rp,gK,er,hw,by omega,by omega,fun H6 a6=> ?_⟩
  have go:nc G2 G'.goes[i] (G2.aW G'.goes[i] (g.step d)).pass:= .mk gK er hw
  have MM:=go.mu Lx.xb
  have MP:l'∉G2.cells:=by rw[xA.cells];exact nl'
  refine⟨_,B2+1,_,rfl,xA.step go,a4.trans a6 xA.cells,by omega,by omega,a6.keep _ _ MP zh,a6.tups.reps DX,fun j k hj hk=> ?_⟩
  have hj':=(List.getElem?_eq_some_iff.mp hk).1
  have hk':=(List.getElem?_eq_some_iff.mp hk).2
  have nk:G'.goes[i]≠k:=fun z=>by
   have:=(List.getElem_inj (ub G')).mp (z.trans hk'.symm)
   omega
  obtain⟨f',d',rest',hf,SB,il⟩:=pc (G:=G') (i:=k) (by rw[<-hk'];exact List.getElem_mem hj')
  have h1:=same j k (by omega) hk
  rw[hf]at h1
  rw[go.other nk h1 il,hf]
 ·rintro σ' H4 ⟨G2,B2,r2,rfl,xA,a4,hB2,QV,zh,DX,_⟩
  refine⟨⟨ys',aN.of zh,Nat.le_refl _⟩,?_⟩
  have e2:H4 G.x=some (.ins R G2.dx G2.fs):=by rw[<-xA.x];exact a4.is.ob
  refine⟨_,rfl,G.x,G2.dx,_,rfl,e2,rfl,fun Sd Mp=> ?_⟩
  have mk:=make G2 B2 H4 (fun v H5=> ∃m',m'<G'.mu/\Fm C R H G m' [some (.ref G.x),some v,r2] H5) a4.is (xA.ok ao) (fun l2 Sq H5 s5 MP hl2 E6=>⟨G2.mu,by omega,G2,B2,l2,Sq,r2,rfl,xA,a4.trans (mP.same a4.is s5) xA.cells,hB2,hl2,E6,by rw[<-xA.cells];exact MP,rfl⟩) Sd Mp
  rw[xA.x]at mk
  exact mk
end
end W2
namespace W2
open PySem PySem.Spec PyProof.Rows K2 L2
structure Lq(G:RG):Prop where
 len:G.ae.length<=10
 said: ∀g∈G.ae,g.said.length<=200/\g.rows.length<=200/\ ∀i∈g.said,i.natAbs<=1000000
theorem pN{α:Type}(f:α->PV): ∀l:List α,dI (l.map f)=l.map fun a=>be (f a)
 | []=>rfl
 |x::l=>by simp only[List.map_cons,dI,pN f l]
theorem GX(g:HA):be g.res= .tuple [.tuple [],.tuple (g.said.map .int),.tuple [],.int g.rows.length]:=by
 simp only[HA.res,be,dI,pN]
theorem nh: ∀ {l:List PyData},(∀x∈l,x.leavesShort 13=true)->PyData.leavesShortAll 13 l=true
 | [],_=>rfl
 |x::l,h=>by
  simp only[PyData.leavesShortAll,Bool.and_eq_true]
  exact⟨h x List.mem_cons_self,nh fun y hy=>h y (List.mem_cons_of_mem _ hy)⟩
theorem iQ: ∀ {l:List PyData},(∀x∈l,x.showable=true)->PyData.showableAll l=true
 | [],_=>rfl
 |x::l,h=>by
  simp only[PyData.showableAll,Bool.and_eq_true]
  exact⟨h x List.mem_cons_self,iQ fun y hy=>h y (List.mem_cons_of_mem _ hy)⟩
theorem ng{n:Nat}: ∀ {l:List PyData},(∀x∈l,x.depth<=n)->PyData.depthAll l<=n
 | [],_=>Nat.zero_le _
 |x::l,h=>by
  simp only[PyData.depthAll]
  have h1:=h x List.mem_cons_self
  have h2:=ng (n:=n) (l:=l) fun y hy=>h y (List.mem_cons_of_mem _ hy)
  omega
theorem kQ{n:Nat}: ∀ {l:List PyData},(∀x∈l,x.weight<=n)->PyData.weightAll l<=(n+10)*l.length
 | [],_=>Nat.zero_le _
 |x::l,h=>by
  simp only[PyData.weightAll,List.length_cons]
  have h1:=h x List.mem_cons_self
  have h2:=kQ (n:=n) (l:=l) fun y hy=>h y (List.mem_cons_of_mem _ hy)
  rw[Nat.mul_succ]
  omega
theorem Dh{n:Nat}(h:n<=1000000):n.log2<=20:=by
 by_cases z:n=0
 ·subst z;decide
 ·have:=(Nat.log2_lt z).mpr (show n<2^20 by omega)
  omega
theorem jB{i:Int}(h:i.natAbs<=1000000):(PyData.int i).leavesShort 13=true/\(PyData.int i).showable=true/\(PyData.int i).weight<=21:=by
 have l:=Dh h
 refine⟨decide_eq_true (PyData.shown_int_le (by omega)),decide_eq_true (by omega),?_⟩
 simp only[PyData.weight]
 split<;>omega
structure Dat(d:PyData)(n k:Nat):Prop where
 short:d.leavesShort 13=true
 BW:d.showable=true
 weight:d.weight<=n
 depth:d.depth<=k
theorem o7{l:List PyData}{n k:Nat}(h: ∀x∈l,Dat x n k):Dat (.tuple l) ((n+10)*l.length) (k+1):=
 ⟨nh fun x hx=>(h x hx).short,iQ fun x hx=>(h x hx).BW,kQ fun x hx=>(h x hx).weight,Nat.succ_le_succ (ng fun x hx=>(h x hx).depth)⟩
theorem vL{i:Int}(h:i.natAbs<=1000000):Dat (.int i) 21 0:=⟨(jB h).1,(jB h).2.1,(jB h).2.2,Nat.le_refl _⟩
theorem Dat.more{d:PyData}{n k n' k':Nat}(h:Dat d n k)(h1:n<=n')(h2:k<=k'):Dat d n' k':=⟨h.short,h.BW,Nat.le_trans h.weight h1,Nat.le_trans h.depth h2⟩
theorem pU{G:RG}(h:Lq G):Dat (be G.res) 300000 3:=by
 have e:be G.res= .tuple (G.ae.map fun g=>be g.res):=by simp only[RG.res,be,pN]
 rw[e]
 have one: ∀x∈G.ae.map fun g=>be g.res,Dat x 26000 2:=fun x hx=>by
  obtain⟨g,hg,rfl⟩:=List.mem_map.mp hx
  obtain⟨h1,h2,h3⟩:=h.said g hg
  rw[GX]
  have d1:Dat (.tuple (g.said.map .int)) (31*200) 1:=by
   refine(o7 (n:=21) (k:=0) fun y hy=> ?_).more ?_ (Nat.le_refl _)
   ·obtain⟨i,hi,rfl⟩:=List.mem_map.mp hy
    exact vL (h3 i hi)
   ·rw[List.length_map];exact Nat.mul_le_mul_left _ h1
  refine(o7 (n:=31*200) (k:=1) fun y hy=> ?_).more (by simp) (Nat.le_refl _)
  simp only[List.mem_cons,List.not_mem_nil,or_false]at hy
  rcases hy with rfl|rfl|rfl|rfl
  ·exact⟨rfl,rfl,Nat.zero_le _,by decide⟩
  ·exact d1
  ·exact⟨rfl,rfl,Nat.zero_le _,by decide⟩
  ·exact(vL (by omega)).more (by decide) (by decide)
 refine(o7 one).more ?_ (Nat.le_refl _)
 rw[List.length_map]
 have:=Nat.mul_le_mul_left (26000+10) h.len
 omega
theorem yF{G:RG}(h:Lq G):(be G.res).shown.length<=sizeLine:=PyData.shown_fits (by decide) (by decide) (pU h).short (Nat.le_trans (pU h).weight (by decide))
end W2
namespace W2
open PySem PySem.Spec PyProof.Rows K2 L2
abbrev oh:Stmt:=top 58
def qY{α:Type}:List α->List α->List α
 | [a,b],[c]=> [a,b,c]
 |_,_=> []
structure zq(P:Program)(w:World)(K:PySem.W.Frag)(mg:Str->Option Value)(base:Heap)(C R:Addr):Prop where
 ex: ∃f fd,Mk K R f/\aI P w K mg base br 9 f fd ["self", "program", "room"] (qj C R)/\fJ K fd ["self", "program", "room"] ["room"] qY qY
 at_:mg "Run"=some (.ref R)
structure Good(aV:List (List aB)):Prop where
 ok:IA aV
 new: ∀ro G,dU aV ro G->Cu G/\G.mu<=400
 OW: ∀ro G G',dU aV ro G->Goes G G'->Lq G'
abbrev endsN:List Str:= ["program", "room", "run", "found", "seen", "pending", "met", "events", "event", "key"]
structure Io(H0:Hp)(G':RG)(v:V)(ro:Option Nat)(fo se pd:Addr)(σ:L2.St)(H:Hp):Prop where
 ex: ∃ (b:Addr) (r2 r6 r7 r8 r9:Option V),σ= [some v,some (dJ ro),r2,some (.ref fo),some (.ref se),some (.ref pd),r6,r7,r8,r9]/\aw H0 H/\H fo=some (pK fo b)/\H pd=some (.lst [])/\Rep H G'.res (.ref b)
section
variable{P:Program}{w:World}{K:PySem.W.Frag}{mg:Str->Option Value}{base:Heap}
inductive vn(vs:List V)(H:Hp)(Q:VK)(fG:XK):Prop
 |mk (aV:List (List aB)) (v:V) (ro:Option Nat) (_:vs= [v,dJ ro]) (_:Rep H (fk aV) v) (_:Good aV) (_: ∀n,ro=some n->n<=99) (_: ∀ (G G':RG) (l b:Addr) H',dU aV ro G->Goes G G'->G'.goes= []->aw H H'->H' l=some (.lst [.ref b])->Rep H' G'.res (.ref b)->Q (.ref l) H')
theorem fj:av endsN ["program", "room"] (am oh):=⟨rfl,rfl,rfl,by decide+kernel,rfl,by decide+kernel,by decide+kernel⟩
theorem Du{f C R:Addr}{fd:FuncData}(F:cE K "ends" "ends" oh f fd)(T:Tx mg)(T2:Ez mg)(hR:dW K R)(hch:f9 P w K mg base br 10 "check_choices" ["program", "room"] oA)(EJ:zq P w K mg base C R)(hse:f9 P w K mg base br 6 "settle" ["run"] (sO C R))(kf:f9 P w K mg base br 1 "settled_behind" ["run", "event"] jQ)
  (hev:bX P w K mg base R 4 "events" ["self"] (fE C R))(Q4:bX P w K mg base R 3 "result" ["self"] (sN C R)):aI P w K mg base br 11 f fd ["program", "room"] vn:=by
 obtain⟨f0,N1,ML,Jg,hb0⟩:=EJ.ex
 obtain⟨g1,CQ,hm1,jA,hb1⟩:=hev
 obtain⟨g2,zg,hm2,gK,hb2⟩:=Q4
 refine F.ok fj (fun vs H Q E h=> ?_) (fun cdv A outer s H vs Q E hr h=> ?_)
 ·obtain⟨_,_,_,rfl,_⟩:=h;rfl
 obtain⟨aV,v,ro,rfl,rp,gd,EO,q⟩:=h
 have hun:=hr.un
 have hu:(A.deeper (envOfC "ends" (am oh) s.heap.objs.size f cdv)).units+1<cLine:=by omega
 refine⟨_,(ag (aT (aF hch hr rfl aD (aa (pv 0) (aa (pv 1) af))))
  (ag (aJ (i:=2) fj.nd rfl (Or.inl rfl) (A7 ML Jg (hr.mono (by decide)) rfl EJ.at_ hb0 aD (aa (pv 0) af) (kG (pv 1) pP)))
  (ag (aT (aF hse hr rfl aD (aa (pv 2) af)))
  (ag (aJ (i:=3) fj.nd rfl (Or.inl rfl) jb)
  (ag (aJ (i:=4) fj.nd rfl (Or.inl rfl) jb)
  (ag (aJ (i:=5) fj.nd rfl (Or.inl rfl) (bS (aa (bC (aa (pv 2) (aa (bC af) af))) af)))
  (ag (jf PassesOwn.never (jh (pv 5) (fun _=>rfl)) (ag (uV (uS PySem.F.plainAttrs_list PySem.F.slot_list_pop PySem.F.type_list_pop uE (pv 5)) (lX rfl (cJ (aG (i:=2) fj.nd rfl (Or.inl rfl)) (cJ (aG (i:=6) fj.nd rfl (Or.inl rfl)) jc))))
  (ag (aJ (i:=7) fj.nd rfl (Or.inl rfl) (bo (pv 2) hR.cl hm1 jA (hr.mono (by decide)) hb1 .nil aD))
  (ag (bL (aP hJ (aA aR rfl T.len boot_len (aa (pv 7) af)) au (aY _)) (ap (Bl (pv 3) (bo (pv 2) hR.cl hm2 gK (hr.mono (by decide)) hb2 .nil aD) fV rfl)) aU)
  (ap (cX PassesOwn.never rfl (cz (pv 7)) (aG (i:=8) fj.nd rfl (Or.inl rfl)) (ag (aJ (i:=9) fj.nd rfl (Or.inl rfl) (bf bN rfl T.tuple boot_tuple (aa (aA fL rfl T2.sorted boot_sorted (aa (bp kC (pv 6) (bC (aa (pv 8) af))) af)) af)))
  (ap (bL (jM (yA hu (pv 9) (pv 4))) (ag (wD hu (pv 4) (pv 9) fV rfl)
  (ap (aT (i9 PySem.F.plainAttrs_list PySem.F.slot_list_append PySem.F.type_list_append dR (pv 5) (aa (bC (aa (aF kf hr rfl aD (aa (pv 2) (aa (pv 8) af))) (aa (pv 9) af))) af))))) aU)))))))))
  (ap (aE (yB (oZ rfl hr.gd) rfl T2.sorted boot_sorted (aa (pv 3) af) (kG (cM rfl T2.str boot_str (v:= .ty "str") rfl) pP))))))))))),?_⟩
 have ok:=gd.ok
 have hroom:dG (j7 ro)=true:=by
  cases e:ro with
  |none=>rfl
  |some n=>
   have:=EO n e
   simp only[j7,dG,Bool.and_eq_true,decide_eq_true_eq]
   omega
 refine⟨_,rfl,_,rfl,aV,v,ro,rfl,rp,ok,hroom,fun H1 s1=> ?_⟩
 refine⟨_,rfl,_,rfl,fun x dx hx hdx nx=> ?_⟩
 have Nl:=ah hdx (.own x)
 have hx':upd H1 dx (.own x) x=none:=by rw[ak nx.symm];exact hx
 have s6:=Nl.trans (ah hx' (.ins R dx []))
 refine⟨x,dx,aV,ro,v,rfl,ac,s6.rep (s1.rep rp),ok.ok,ok.len,EO,fun G H2 ex IR fr Dd FF=>⟨rfl,?_⟩⟩
 obtain⟨ao,RL⟩:=gd.new ro G fr
 have out: ∀b o,H1 b=some o->b∉G.cells:=fun b o e hb=>by
  rcases FF b hb with z|z
  ·rw[z,hx]at e;cases e
  ·rw[s6 _ _ e]at z;cases z
 have Ro:aw H1 H2:=fun b o e=>Dd b o (fun z=>by subst z;rw[hx]at e;cases e) (s6 _ _ e)
 refine⟨_,rfl,G,0,by rw[ex];rfl,IR,ao,by omega,fun G' H3 B' gs e0 N5 a3=> ?_⟩
 have G6:aw H1 H3:=fun b o e=>a3.keep b o (out b o e) (Ro b o e)
 have sH:=s1.trans G6
 refine fun fo hfo=> ?_
 have t4:=ah hfo (.dT [])
 refine fun se hse=> ?_
 have t5:=ah hse (.dT [])
 refine⟨_,rfl,Nat.zero_le _,fun t0 ht0=>⟨(by show 2<=sizeLine;decide),fun t1 ht1=>⟨(by show 1<=sizeLine;decide),fun pd zj=> ?_⟩⟩⟩
 have u0:=ah ht0 (.tup [])
 have u1:=ah ht1 (.tup [.ref x,.ref t0])
 have u2:=ah zj (.lst [.ref t1])
 have HF:=t4.trans (t5.trans (u0.trans (u1.trans u2)))
 have Jd:=(t5.trans (u0.trans (u1.trans u2))) _ _ (ac (H:=H3) (a:=fo) (o:= .dT []))
 have Ju:=u2 _ _ (ac (a:=t1) (o:= .tup [.ref x,.ref t0]))
 have Ib:fo≠pd:=fun z=>by
  subst z
  have:=(t5.trans (u0.trans u1)) _ _ (ac (H:=H3) (a:=fo) (o:= .dT []))
  rw[zj]at this;cases this
 have I5:=a3.is.same HF
 have ex':G'.x=x:=gs.x.trans ex
 generalize Ql:upd (upd (upd (upd (upd H3 fo (.dT [])) se (.dT [])) t0 (.tup [])) t1 (.tup [.ref x,.ref t0])) pd (.lst [.ref t1])=H5 at HF Jd Ju I5
 have C2:H5 pd=some (.lst [.ref t1]):=by rw[<-Ql];exact ac
 have Aj:H3 pd=none:=(t4.trans (t5.trans (u0.trans u1))).free zj
 have MV: ∀c∈G'.cells,c≠pd:=fun c hc z=>by
  obtain⟨u,g6⟩:=a3.is.live c hc
  rw[z,Aj]at g6;cases g6
 have FU:H fo=none:=sH.free hfo
 have Mj:H pd=none:=sH.free Aj
 have sm:=gd.OW ro G G' fr gs
 have dat:=pU sm
 refine⟨fun m σ' H'=>(m=1/\σ'= [some v,some (dJ ro),some (.ref x),some (.ref fo),some (.ref se),some (.ref pd),none,none,none,none]/\H'=H5)\/(m=0/\Io H G' v ro fo se pd σ' H'),⟨1,.inl ⟨rfl,rfl,rfl⟩⟩,?_⟩
 rintro m σ' H6 (⟨rfl,rfl,rfl⟩|⟨rfl,b,r2,r6,r7,r8,r9,rfl,Sf,QD,Jo,rr⟩)
 rotate_left
 ·refine⟨_,rfl,false,.inl ⟨_,aN.of Jo,rfl⟩,bO ?_⟩
  have dd:=dat.depth
  refine⟨_,rfl,fo,b,G'.res,rfl,rfl,QD,rr,dat.BW,yF sm,?_,fun l hl=> ?_⟩
  ·show(A.deeper (envOfC _ (am oh) s.heap.objs.size f cdv)).units+2+_<cLine
   omega
  ·have s7:=ah hl (.lst [.ref b])
   exact q G G' l b _ fr gs e0 (Sf.trans s7) ac (s7.rep rr)
 refine⟨_,rfl,true,.inl ⟨_,aN.of C2,rfl⟩,ce ?_⟩
 refine⟨Io H G' v ro fo se pd,fun σ' H' z=>⟨0,Nat.lt_succ_self 0,.inr ⟨rfl,z⟩⟩,?_⟩
 refine⟨_,rfl,.inl ⟨rfl,_,aN.of C2⟩,pd,_,.ref t1,rfl,rfl,C2,rfl,?_⟩
 have s7:aw H (upd H6 pd (.lst [])):=eG Mj (sH.trans HF)
 have Pa:bV H6 (upd H6 pd (.lst [])):=cY C2
 have I7:aZ none C R B' (upd H6 pd (.lst [])) G':=I5.frame Pa fun c hc o e=>by rw[ak (MV c hc)];exact e
 have Je:upd H6 pd (.lst []) fo=some (.dT []):=by rw[ak Ib];exact Jd
 have Mh:upd H6 pd (.lst []) pd=some (.lst []):=ac
 have Q8:=Pa _ _ Ju
 refine⟨t1,_,rfl,bn.of Q8,rfl,_,_,rfl,_,_,rfl,rfl,?_⟩
 have e7:upd H6 pd (.lst []) x=some (.ins R G'.dx G'.fs):=by rw[<-ex'];exact I7.ob
 refine⟨_,rfl,x,G'.dx,_,rfl,e7,rfl,?_⟩
 dsimp only[bH]
 have NS:=gs.ok ao
 refine⟨G',B',by rw[ex'];rfl,I7,NS.ev,fun l ys H8 s8 Cp hl ry=> ?_⟩
 rw[e0]at ry
 obtain rfl:ys= []:=by simpa only[List.map_nil,aq]using ry
 refine⟨_,rfl,l,[],rfl,.inl (aN.of hl),rfl,_,rfl,ce ?_⟩
 have I8:=I7.same s8
 have e8:H8 x=some (.ins R G'.dx G'.fs):=by rw[<-ex'];exact I8.ob
 refine⟨_,rfl,_,rfl,x,G'.dx,_,rfl,e8,rfl,?_⟩
 dsimp only[bH]
 refine⟨G',B',by rw[ex'];rfl,I8,NS.ev.ae,fun vr H9 s9 rr=> ?_⟩
 obtain⟨b,vs',rfl,hb,Nc⟩:=rr.tup
 have Jf:=(s8.trans s9) _ _ Je
 have dd:=dat.depth
 refine⟨fo,b,G'.res,rfl,rfl,Jf,rr,?_,?_⟩
 ·show(A.deeper (envOfC _ (am oh) s.heap.objs.size f cdv)).units+1+_<cLine
  omega
 have Sh:bV H9 (upd H9 fo (pK fo b)):=eI Jf (fun _ w=>by cases w) _
 have yJ:aw H (upd H9 fo (pK fo b)):=eG FU (s7.trans (s8.trans s9))
 have Jq:upd H9 fo (pK fo b) pd=some (.lst []):=by rw[ak Ib.symm];exact(s8.trans s9) _ _ Mh
 have RS:l≠fo:=fun z=>by
  have hz:upd H6 pd (.lst []) l=none:=Cp
  rw[z,Je]at hz;cases hz
 have Ai:upd H9 fo (pK fo b) l=some (.lst []):=by rw[ak RS];exact s9 _ _ hl
 refine⟨_,rfl,l,rfl,⟨[],aN.of Ai⟩,?_⟩
 refine dF (n:=0) (fun i σ' H'=>σ'= [some v,some (dJ ro),some (.ref x),some (.ref fo),some (.ref se),some (.ref pd),some (.ref t0),some (.ref l),none,none]/\H'=upd H9 fo (pK fo b)) ⟨rfl,rfl⟩ (fun i σ' H' hi=>absurd hi (Nat.not_lt_zero i)) ?_
 rintro σ' _ ⟨rfl,rfl⟩
 exact⟨⟨[],aN.of Ai,Nat.le_refl _⟩,b,_,_,_,_,_,rfl,yJ,ac,Jq,Sh.rep rr⟩
end
end W2
namespace W2
open PySem PySem.Spec PyProof.Rows K2 L2
abbrev gM:Stmt:=top 59
def CO{α:Type}:List α->List α->List α
 | [a],[c]=> [a,c]
 |_,_=> []
structure Ev(P:Program)(w:World)(K:PySem.W.Frag)(mg:Str->Option Value)(base:Heap)(k:Nat)(x:Str)(sp:Sp):Prop where
 ex: ∃f fd,aI P w K mg base br k f fd ["program", "room"] sp/\fJ K fd ["program", "room"] ["room"] CO CO/\mg x=some (.ref f)/\PySem.W.keepIn K (.ref f)=true
def RG.left(G:RG):Bool:=G.ae.any fun g=> !g.rows.isEmpty
section
variable{P:Program}{w:World}{K:PySem.W.Frag}{mg:Str->Option Value}{base:Heap}
inductive wU(vs:List V)(H:Hp)(Q:VK)(fG:XK):Prop
 |mk (aV:List (List aB)) (v:V) (ro:Option Nat) (_:vs= [v,dJ ro]) (_:Rep H (fk aV) v) (_:Good aV) (_: ∀n,ro=some n->n<=99) (_: ∀ (G G':RG) H',dU aV ro G->Goes G G'->G'.goes= []->aw H H'->Q (.bl G'.left) H')
theorem D8:av ["program", "room"] ["program", "room"] (am gM):=⟨rfl,rfl,rfl,by decide+kernel,rfl,by decide+kernel,by decide+kernel⟩
theorem rN:(["end", "part", "program", "room"]:List Str).Nodup:=by decide+kernel
theorem AS{f:Addr}{fd:FuncData}(F:cE K "can_stick" "can_stick" gM f fd)(T2:Ez mg)(hen:Ev P w K mg base 11 "ends" vn):aI P w K mg base br 12 f fd ["program", "room"] wU:=by
 obtain⟨f0,N1,Jg,hb0,hm0,hk0⟩:=hen.ex
 refine F.ok D8 (fun vs H Q E h=> ?_) (fun cdv A outer s H vs Q E hr h=> ?_)
 ·obtain⟨_,_,_,rfl,_⟩:=h;rfl
 obtain⟨aV,v,ro,rfl,rp,gd,EO,q⟩:=h
 refine⟨_,ap (aE (aA (qH rfl) rfl T2.any boot_any (aa (A4 (n1:= "end") (n2:= "part") (bT ["program", "room"] rfl (by decide+kernel)) rfl (cz (si Jg (hr.mono (by decide)) rfl hm0 hk0 hb0 aD (aa (pv 0) af) (kG (pv 1) pP))) (fun Y hY=>by cases hY;exact aG (i:=0) rN rfl (Or.inl rfl)) (fun Y hY=>by cases hY;exact aG (i:=1) rN rfl (Or.inl rfl)) (fun Y hY=>by cases hY;exact DR K rfl (pv 0)) (fun Y _=>cK) (fun Y hY=>by cases hY;exact dO nS (aK (bF K rfl) (pv 1) au (fun _ _=>rfl)) au (aY _))) af))),?_⟩
 refine⟨_,rfl,_,rfl,aV,v,ro,rfl,rp,gd,EO,fun G G' l b H1 fr gs e0 s1 hl rr=> ?_⟩
 refine⟨l,rfl,⟨_,aN.of hl⟩,fun D hD=> ?_⟩
 obtain⟨b',ps,eb,hb,ON⟩:=rr.tup
 cases eb
 have Ru:=ON.len
 rw[List.length_map]at Ru
 have sm:=gd.OW ro G G' fr gs
 have hlen:=sm.len
 have sD:=ah hD (.lst [])
 have nl:l≠D:=fun z=>by rw[z,hD]at hl;cases hl
 have nb:b≠D:=fun z=>by rw[z,hD]at hb;cases hb
 have HV: ∀o,upd H1 D o l=some (.lst [.ref b]):=fun o=>by rw[ak nl];exact hl
 have KM: ∀o,upd H1 D o b=some (.tup ps):=fun o=>by rw[ak nb];exact hb
 let bs:Nat->List Bool:=fun k=>(G'.ae.take k).map fun g=>decide ((0:Int)<g.rows.length)
 refine⟨fun i m H'=>(i=0/\m=1/\H'=upd H1 D (.lst []))\/(i=1/\m=0/\H'=upd H1 D (.lst ((bs G'.ae.length).map V.bl))),⟨1,.inl ⟨rfl,rfl,rfl⟩⟩,?_⟩
 rintro i m _ (⟨rfl,rfl,rfl⟩|⟨rfl,rfl,rfl⟩)
 rotate_left
 ·refine .inl ⟨⟨_,aN.of (HV _),Nat.le_refl _⟩,D,bs G'.ae.length,rfl,aN.of ac,?_⟩
  have e:(bs G'.ae.length).any id=G'.left:=by
   show((G'.ae.take G'.ae.length).map _).any id=G'.ae.any _
   rw[List.take_length,List.any_map]
   congr 1
   funext g
   show decide ((0:Int)<(g.rows.length:Int))= !g.rows.isEmpty
   cases g.rows with
   |nil=>rfl
   |cons d r=>
    rw[decide_eq_true (by rw[List.length_cons];omega)]
    rfl
  rw[e]
  exact q G G' _ fr gs e0 (s1.trans (ah hD _))
 refine .inr ⟨⟨_,_,aN.of (HV _),rfl⟩,?_⟩
 rintro x H2 ⟨rfl,hy⟩
 have ex:=hy _ (aN.of (HV _))
 obtain rfl:V.ref b=x:=by simpa using ex
 refine⟨_,rfl,b,rfl,⟨_,bn.of (KM _)⟩,?_⟩
 refine⟨fun j n H'=>j<=G'.ae.length/\n=G'.ae.length-j/\H'=upd H1 D (.lst ((bs j).map V.bl)),⟨_,Nat.zero_le _,rfl,rfl⟩,?_⟩
 rintro j n _ ⟨hj,rfl,rfl⟩
 by_cases hlt:j<G'.ae.length
 ·have QN:j<ps.length:=by omega
  refine .inr ⟨⟨_,ps[j],bn.of (KM _),List.getElem?_eq_getElem QN⟩,?_⟩
  rintro y H3 ⟨rfl,Rg⟩
  have ey:=Rg _ (bn.of (KM _))
  obtain⟨p,ep,Kc⟩:=ON.get ey
  rw[List.getElem?_map,List.getElem?_eq_getElem hlt]at ep
  injection ep with ep
  subst ep
  obtain⟨a,xs,rfl,ha,OO⟩:=Kc.tup
  obtain⟨z,ez,rz⟩:=OO.get' (i:=3) rfl
  have Sc:z= .int (G'.ae[j].rows.length:Int):=rz
  subst Sc
  have na:a≠D:=fun z=>by rw[z,hD]at ha;cases ha
  have haD: ∀o,upd H1 D o a=some (.tup xs):=fun o=>by rw[ak na];exact ha
  show j8 (Cs fun i j=>V.bl (decide (j<i))) (j8 (GR K) (cu 1) (tC (V.int 3))) (tC (V.int 0)) _ _ _
  have lx:xs.length=4:=by have:=OO.len;simpa using this.symm
  have ea:tq xs 3=some (.int (G'.ae[j].rows.length:Int)):=by
   unfold tq
   rw[lx]
   exact ez
  refine⟨_,rfl,⟨a,xs,3,_,rfl,rfl,bn.of (haD _),ea,?_⟩⟩
  refine⟨_,_,rfl,rfl,_,ac,?_,G'.ae.length- (j+1),by omega,by omega,rfl,?_⟩
  ·rw[List.length_map,List.length_map,List.length_take];exact big (by omega)
  ·rw[Em]
   have e:bs (j+1)=bs j++ [decide ((0:Int)<G'.ae[j].rows.length)]:=by
    show(G'.ae.take (j+1)).map _=(G'.ae.take j).map _++_
    rw[List.take_succ,List.getElem?_eq_getElem hlt,List.map_append]
    rfl
   rw[e,List.map_append]
   rfl
 ·obtain rfl:j=G'.ae.length:=by omega
  exact .inl ⟨⟨_,bn.of (KM _),by omega⟩,0,by decide,.inr ⟨rfl,rfl,rfl⟩⟩
end
end W2
namespace W2
open PySem PySem.Spec PyProof.Rows K2 L2
theorem Goes.ae{p:Nat->HA->Prop}(hs: ∀i g d rest,p i g->g.rows=d::rest->g.wt= .go->p i (g.step d))(hf: ∀i g,p i g->p i g.free){G G':RG}(h:Goes G G')(h0: ∀i g,G.ae[i]? =some g->p i g): ∀i g,G'.ae[i]? =some g->p i g:=by
 induction h with
 |refl=>exact h0
 | @step G1 _ j _ b ih=>
  cases b with
  | @mk g0 d rest hg er hw=>
   have one: ∀i g,(G1.aW j (g0.step d)).ae[i]? =some g->p i g:=fun i g e=>by
    have e':(G1.ae.set j (g0.step d))[i]? =some g:=e
    rw[List.getElem?_set]at e'
    split at e'
    ·rename_i hji
     split at e'
     ·cases e';subst hji;exact hs _ _ _ _ (ih _ _ hg) er hw
     ·cases e'
    ·exact ih _ _ e'
   intro i g e
   unfold RG.pass at e
   split at e
   ·have e':(List.map HA.free _)[i]? =some g:=e
    rw[List.getElem?_map]at e'
    cases ef:(G1.aW j (g0.step d)).ae[i]? with
    |none=>rw[ef]at e';cases e'
    |some f=>rw[ef]at e';cases e';exact hf _ _ (one _ _ ef)
   ·exact one i g e
theorem Goes.len{G G':RG}(h:Goes G G'):G'.ae.length=G.ae.length:=by
 induction h with
 |refl=>rfl
 |step _ b ih=>exact b.len.trans ih
theorem A1: ∀n,n<=4->(cb n n 0).Nodup/\(∀p∈cb n n 0,p.2<n)/\(cb n n 0).length<=100:=by decide+kernel
theorem Aq: ∀ {l:List Nat} {n:Nat},n∈l->n<=l.sum
 |x::l,n,h=>by
  rw[List.sum_cons]
  rcases List.mem_cons.mp h with rfl|h
  ·omega
  ·have:=Aq h;omega
theorem dU.got{aV:List (List aB)}{ro:Option Nat}{G:RG}(fr:dU aV ro G){i:Nat}{g:HA}(e:G.ae[i]? =some g): ∃ds,aV[i]? =some ds/\g.rows=ds/\g.wt= .go/\g.said= []/\g.td=0:=by
 have hi:i<aV.length:=by
  rw[<-fr.len]
  exact(List.getElem?_eq_some_iff.mp e).1
 exact⟨aV[i],List.getElem?_eq_getElem hi,fr.ae i g _ e (List.getElem?_eq_getElem hi)⟩
theorem vX{aV:List (List aB)}(ok:IA aV)(ht: ∀ds∈aV,∀i,aB.tell i∈ds->i.natAbs<=1000000):Good aV:=by
 have GZ: ∀ds∈aV,ds.length<=40:=fun ds h=>Nat.le_trans (Aq (List.mem_map.mpr ⟨ds,h,rfl⟩)) ok.sum
 have new: ∀ro G,dU aV ro G->Cu G/\G.mu<=400:=fun ro G fr=>by
  obtain⟨n1,n2,n3⟩:=A1 aV.length ok.len
  have hgs: ∀g∈G.ae,g.rows.length<=40/\g.wt= .go/\g.said= []/\g.td=0:=fun g hg=>by
   obtain⟨i,hi⟩:=List.getElem?_of_mem hg
   obtain⟨ds,e,e1,e2⟩:=fr.got hi
   exact⟨by rw[e1];exact GZ ds (List.mem_of_getElem? e),e2⟩
  have MM: ∀g∈G.ae,g.mu<=81:=fun g hg=>by
   obtain⟨a,b,_⟩:=hgs g hg
   unfold HA.mu;rw[if_pos b];omega
  have hl:=fr.len
  have h4:=ok.len
  refine⟨⟨⟨?_,fun w hw=> ?_,?_,by omega⟩,fun g hg=> ?_,fun g hg z=>absurd (hgs g hg).2.1 z⟩,?_⟩
  ·show(G.ways.map _).Nodup
   rw[fr.ways];exact n1
  ·have:(w.s,w.t)∈G.ways.map (fun w=>(w.s,w.t)):=List.mem_map.mpr ⟨w,hw,rfl⟩
   rw[fr.ways]at this
   have:=n2 _ this
   rw[fr.len];exact this
  ·have:=congrArg List.length fr.ways
   rw[List.length_map]at this
   omega
  ·obtain⟨a,b,c,d⟩:=hgs g hg
   have:=MM g hg
   rw[c,d,List.length_nil]
   omega
  ·have h1:(G.ae.map HA.mu).sum<=(G.ae.map fun _=>81).sum:=iI _ _ MM
   have h2:(G.ae.map fun _=>81).sum=81*G.ae.length:=by
    induction G.ae with
    |nil=>rfl
    |cons x l ih=>rw[List.map_cons,List.sum_cons,List.length_cons,ih];omega
   show(G.ae.map HA.mu).sum<=400
   omega
 refine⟨ok,new,fun ro G G' fr gs=> ?_⟩
 have ao:=gs.ok (new ro G fr).1
 have hl:=gs.len
 have told:=Goes.ae (p:=fun i g=>(∀x∈g.said,x.natAbs<=1000000)/\ ∀x,aB.tell x∈g.rows->x.natAbs<=1000000) (fun i g d rest ⟨h1,h2⟩ er hw=> ?_) (fun i g ⟨h1,h2⟩=> ?_) gs (fun i g e=> ?_)
 ·refine⟨by rw[hl,fr.len];have:=ok.len;omega,fun g hg=> ?_⟩
  obtain⟨i,hi⟩:=List.getElem?_of_mem hg
  have h1:=ao.sm g hg
  have h2:2*g.rows.length<=g.mu:=by unfold HA.mu;omega
  exact⟨by omega,by omega,(told i g hi).1⟩
 ·cases d with
  |tell x=>
   refine⟨fun y hy=> ?_,fun y hy=>h2 y (List.mem_of_mem_drop hy)⟩
   rcases List.mem_append.mp hy with hy|hy
   ·exact h1 y hy
   ·rw[List.mem_singleton.mp hy]
    exact h2 x (by rw[er];exact List.mem_cons_self)
  |all=>exact⟨h1,h2⟩
  |take a b c=>exact⟨h1,h2⟩
 ·unfold HA.free
  split
  ·exact⟨h1,fun y hy=>h2 y (List.mem_of_mem_drop hy)⟩
  ·exact⟨h1,h2⟩
 ·obtain⟨ds,e1,e2,e3,e4,e5⟩:=fr.got e
  refine⟨fun x hx=>(by rw[e4]at hx;cases hx),fun x hx=>ht ds (List.mem_of_getElem? e1) x (by rw[<-e2];exact hx)⟩
theorem vp{aV:List (List aB)}{ro:Option Nat}{G G':RG}{i:Nat}{a b:Int}{c:T}(fr:dU aV ro G)(gs:Goes G G')(h:aV[i]? =some [.take a b c]):G'.left=true:=by
 have hi:i<G'.ae.length:=by
  rw[gs.len,fr.len]
  exact(List.getElem?_eq_some_iff.mp h).1
 have st:=Goes.ae (p:=fun j g=>j=i->g.rows= [.take a b c]/\g.wt≠ .all) (fun j g d rest h1 er hw e=> ?_) (fun j g h1 e=> ?_) gs (fun j g e1 e=> ?_) i _ (List.getElem?_eq_getElem hi) rfl
 ·unfold RG.left
  rw[List.any_eq_true]
  exact⟨_,List.getElem_mem hi,by rw[st.1];rfl⟩
 ·obtain⟨e1,e2⟩:=h1 e
  rw[e1]at er
  cases er
  exact⟨e1,by intro z;cases z⟩
 ·obtain⟨e1,e2⟩:=h1 e
  unfold HA.free
  rw[if_neg e2]
  exact⟨e1,e2⟩
 ·subst e
  obtain⟨ds,f1,f2,f3,_⟩:=fr.got e1
  rw[h]at f1
  cases f1
  exact⟨f2,by rw[f3];intro z;cases z⟩
end W2
namespace W2
open PySem PySem.Spec PyProof.Rows K2 L2
def cV:List aB->Nat
 | []=>0
 | .all::r=>cV r+1
 |_::r=>cV r
def tells:List aB->List Int
 | []=> []
 | .tell i::r=>i::tells r
 |_::r=>tells r
theorem bg: ∀a b:List aB,cV (a++b)=cV a+cV b
 | [],b=>by simp[cV]
 | .all::r,b=>by simp only[List.cons_append,cV,bg r b];omega
 | .tell _::r,b=>by simp only[List.cons_append,cV,bg r b]
 | .take _ _ _::r,b=>by simp only[List.cons_append,cV,bg r b]
theorem bM: ∀a b:List aB,tells (a++b)=tells a++tells b
 | [],b=>by simp[tells]
 | .all::r,b=>by simp only[List.cons_append,tells,bM r b]
 | .tell _::r,b=>by simp only[List.cons_append,tells,bM r b]
 | .take _ _ _::r,b=>by simp only[List.cons_append,tells,bM r b]
def jK(ds:List aB):Prop:= ∀d∈ds,∀a b c,d≠ .take a b c
structure HP(ds:List aB)(A:Nat)(g:HA):Prop where
 ex: ∃pre,ds=pre++g.rows/\g.said=tells pre/\cV pre<=A/\(g.rows≠ []->cV pre=A)/\(g.wt= .go\/(g.wt= .all/\ ∃r,g.rows= .all::r))
theorem HP.step{ds:List aB}{A:Nat}{g:HA}{d:aB}{rest:List aB}(nt:jK ds)(h:HP ds A g)(er:g.rows=d::rest):HP ds A (g.step d):=by
 obtain⟨pre,e1,e2,e3,e4,e5⟩:=h
 have eA:=e4 (by rw[er];simp)
 cases d with
 |tell i=>
  refine⟨pre++ [.tell i],?_,?_,?_,fun _=> ?_,.inl rfl⟩
  ·show ds=_++g.rows.drop 1
   rw[e1,er];simp
  ·show g.said++ [i]=_
   rw[e2,bM];rfl
  ·rw[bg];show cV pre+0<=A;omega
  ·rw[bg];show cV pre+0=A;omega
 |all=>exact⟨pre,e1,e2,e3,e4,.inr ⟨rfl,rest,er⟩⟩
 |take a b c=>exact absurd rfl (nt (.take a b c) (by rw[e1,er];simp) a b c)
theorem HP.free{ds:List aB}{A:Nat}{g:HA}(h:HP ds A g)(hi:g.idle=true):HP ds (A+1) g.free:=by
 obtain⟨pre,e1,e2,e3,e4,e5⟩:=h
 rcases e5 with hw|⟨hw,r,er⟩
 ·have hr:g.rows= []:=by
   unfold HA.idle at hi
   rw[hw]at hi
   simpa using hi
  unfold HA.free
  rw[if_neg (by rw[hw];decide)]
  exact⟨pre,e1,e2,by omega,fun z=>absurd hr z,.inl hw⟩
 ·have eA:=e4 (by rw[er];simp)
  unfold HA.free
  rw[if_pos hw]
  refine⟨pre++ [.all],?_,?_,?_,fun _=> ?_,.inl rfl⟩
  ·show ds=_++g.rows.drop 1
   rw[e1,er];simp
  ·show g.said=_
   rw[e2,bM];simp[tells]
  ·rw[bg];show cV pre+1<=A+1;omega
  ·rw[bg];show cV pre+1=A+1;omega
structure LI(aV:List (List aB))(G:RG):Prop where
 ex: ∃A,G.ae.length=aV.length/\(∀ (i:Nat) (g:HA) (ds:List aB),G.ae[i]? =some g->aV[i]? =some ds->HP ds A g)/\(G.ae.all HA.idle=true-> ∀g∈G.ae,g.wt= .go)
theorem LI.new{aV:List (List aB)}{ro:Option Nat}{G:RG}(fr:dU aV ro G):LI aV G:=by
 refine⟨0,fr.len,fun i g ds e1 e2=> ?_,fun _ g hg=> ?_⟩
 ·obtain⟨f1,f2,f3,f4⟩:=fr.ae i g ds e1 e2
  exact⟨[],by rw[f1];rfl,f3,Nat.le_refl _,fun _=>rfl,.inl f2⟩
 ·obtain⟨i,hi⟩:=List.getElem?_of_mem hg
  obtain⟨_,_,_,h,_⟩:=fr.got hi
  exact h
theorem LI.go{aV:List (List aB)}{G G':RG}{i:Nat}(nt: ∀ds∈aV,jK ds)(h:LI aV G)(b:nc G i G'):LI aV G':=by
 obtain⟨A,hl,hh,hn⟩:=h
 cases b with
 | @mk g0 d rest hg er hw=>
  have l1:(G.aW i (g0.step d)).ae.length=aV.length:=(List.length_set ..).trans hl
  have one: ∀ (j:Nat) (g:HA) (ds:List aB),(G.aW i (g0.step d)).ae[j]? =some g->aV[j]? =some ds->HP ds A g:=fun j g ds e1 e2=>by
   have e':(G.ae.set i (g0.step d))[j]? =some g:=e1
   rw[List.getElem?_set]at e'
   split at e'
   ·rename_i hji
    subst hji
    split at e'
    ·cases e';exact(hh _ _ _ hg e2).step (nt ds (List.mem_of_getElem? e2)) er
    ·cases e'
   ·exact hh _ _ _ e' e2
  unfold RG.pass
  split
  ·rename_i ha
   refine⟨A+1,(List.length_map _).trans l1,fun j g ds e1 e2=> ?_,fun _ g hg'=> ?_⟩
   ·have e':((G.aW i (g0.step d)).ae.map HA.free)[j]? =some g:=e1
    rw[List.getElem?_map]at e'
    cases ef:(G.aW i (g0.step d)).ae[j]? with
    |none=>rw[ef]at e';cases e'
    |some f=>
     rw[ef]at e';cases e'
     exact(one j f ds ef e2).free (List.all_eq_true.mp ha f (List.mem_of_getElem? ef))
   ·obtain⟨f,hf,rfl⟩:=List.mem_map.mp (show g∈(G.aW i (g0.step d)).ae.map HA.free from hg')
    obtain⟨j,hj⟩:=List.getElem?_of_mem hf
    have hjl:j<aV.length:=by rw[<-l1];exact(List.getElem?_eq_some_iff.mp hj).1
    obtain⟨_,_,_,_,_,e5⟩:=one j f _ hj (List.getElem?_eq_getElem hjl)
    unfold HA.free
    split
    ·rfl
    ·rename_i z
     exact e5.elim id fun y=>absurd y.1 z
  ·rename_i ha
   exact⟨A,l1,one,fun z=>absurd z ha⟩
theorem LI.goes{aV:List (List aB)}{G G':RG}(nt: ∀ds∈aV,jK ds)(h:LI aV G)(gs:Goes G G'):LI aV G':=by
 induction gs with
 |refl=>exact h
 |step _ b ih=>exact ih.go nt b
theorem rT{G:RG}(h:G.goes= []){i:Nat}{g:HA}(e:G.ae[i]? =some g)(hw:g.wt= .go):g.rows= []:=by
 have hi:i<G.ae.length:=(List.getElem?_eq_some_iff.mp e).1
 have h2:i∉G.goes:=by rw[h];exact List.not_mem_nil
 have h3: ¬G.ke i=true:=fun z=>h2 (List.mem_filter.mpr ⟨List.mem_range.mpr hi,z⟩)
 unfold RG.ke at h3
 rw[e]at h3
 simp only[kY,Bool.and_eq_true,decide_eq_true_eq,Bool.not_eq_true',decide_eq_false_iff_not]at h3
 cases hr:g.rows with
 |nil=>rfl
 |cons a r=>exact absurd ⟨hw,by rw[hr];simp⟩ h3
theorem LI.ended{aV:List (List aB)}{G:RG}(h:LI aV G)(e0:G.goes= []): ∀ (i:Nat) (g:HA) (ds:List aB),G.ae[i]? =some g->aV[i]? =some ds->g.rows= []/\g.said=tells ds:=by
 obtain⟨A,hl,hh,hn⟩:=h
 have idle:G.ae.all HA.idle=true:=by
  rw[List.all_eq_true]
  intro g hg
  obtain⟨j,hj⟩:=List.getElem?_of_mem hg
  have hjl:j<aV.length:=by rw[<-hl];exact(List.getElem?_eq_some_iff.mp hj).1
  obtain⟨_,_,_,_,_,e5⟩:=hh j g _ hj (List.getElem?_eq_getElem hjl)
  unfold HA.idle
  rcases e5 with hw|⟨hw,_⟩
  ·rw[rT e0 hj hw];simp
  ·rw[hw];simp
 intro i g ds e1 e2
 have hr:=rT e0 e1 (hn idle g (List.mem_of_getElem? e1))
 obtain⟨pre,f1,f2,_⟩:=hh i g ds e1 e2
 rw[hr,List.append_nil]at f1
 exact⟨hr,by rw[f2,f1]⟩
theorem LI.left{aV:List (List aB)}{G:RG}(h:LI aV G)(e0:G.goes= []):G.left=false:=by
 have hl:G.ae.length=aV.length:=by obtain⟨_,hl,_⟩:=h;exact hl
 unfold RG.left
 rw[List.any_eq_false]
 intro g hg
 obtain⟨j,hj⟩:=List.getElem?_of_mem hg
 have hjl:j<aV.length:=by rw[<-hl];exact(List.getElem?_eq_some_iff.mp hj).1
 rw[(h.ended e0 j g _ hj (List.getElem?_eq_getElem hjl)).1]
 decide
end W2
namespace W2
open PySem PySem.Spec PyProof.Rows K2 L2
def body:Nat->List Nat->List aB
 |_,[]=> []
 |k,e::es=>List.replicate e (.tell k)++ .all::body (k+1) es
def aS(es:List Nat):List aB:=body 0 es++ [.tell 9]
theorem ny: ∀ (k:Nat) (es:List Nat) (e:Nat),body k (es++ [e])=body k es++List.replicate e (.tell (k+es.length:Nat))++ [.all]
 |k,[],e=>by simp[body]
 |k,x::es,e=>by
  simp only[List.cons_append,body,ny (k+1) es e,List.append_assoc,List.length_cons]
  rw[show k+1+es.length=k+(es.length+1)by omega]
theorem kR(e:Nat)(i:Int):cV (List.replicate e (.tell i))=0:=by
 induction e with
 |zero=>rfl
 |succ e ih=>rw[List.replicate_succ];exact ih
theorem jT(e:Nat)(i:Int):tells (List.replicate e (.tell i))=List.replicate e i:=by
 induction e with
 |zero=>rfl
 |succ e ih=>rw[List.replicate_succ,List.replicate_succ];show i::tells _=_;rw[ih]
theorem ni: ∀ (k:Nat) (es:List Nat),cV (body k es)=es.length
 |_,[]=>rfl
 |k,e::es=>by
  unfold body
  rw[bg,kR]
  show 0+(cV (body (k+1) es)+1)=_
  rw[ni (k+1) es,List.length_cons];omega
theorem vJ: ∀ (k:Nat) (es:List Nat),jK (body k es)
 |_,[]=>fun d h=>by cases h
 |k,e::es=>fun d h a b c z=>by
  subst z
  unfold body at h
  rcases List.mem_append.mp h with h|h
  ·cases List.eq_of_mem_replicate h
  ·rcases List.mem_cons.mp h with h|h
   ·cases h
   ·exact vJ (k+1) es _ h a b c rfl
theorem rE(es:List Nat):jK (aS es):=fun d h a b c z=>by
 rcases List.mem_append.mp h with h|h
 ·exact vJ 0 es d h a b c z
 ·rw[List.mem_singleton.mp h]at z;cases z
theorem gm(es:List Nat):tells (aS es)=tells (body 0 es)++ [9]:=bM _ _
theorem lN(es:List Nat):cV (aS es)=es.length:=by
 unfold aS
 rw[bg,ni];rfl
theorem jE: ∀ (k:Nat) (es:List Nat) (pre rows:List aB),(∀e∈es,1<=e)->body k es++ [.tell 9]=pre++rows->rows≠ []->
  ((tells pre).getLast?=none/\cV pre=0)\/ ∃x:Int,(tells pre).getLast?=some x/\(x=k+cV pre\/x+1=k+cV pre)
 |k,[],pre,rows,_,h,hr=>by
  cases pre with
  |nil=>exact .inl ⟨rfl,rfl⟩
  |cons a p=>
   have h2:=congrArg List.length h
   have h3:0<rows.length:=List.length_pos_iff.mpr hr
   simp only[List.length_append,List.length_cons,List.length_nil]at h2
   have h4:(body k []).length=0:=rfl
   have h5: [aB.tell 9].length=1:=rfl
   omega
 |k,e::es,pre,rows,he,h,hr=>by
  have ET: ∀j,((tells (List.replicate j (aB.tell k))).getLast?=none/\cV (List.replicate j (aB.tell k))=0)\/ ∃x:Int,(tells (List.replicate j (aB.tell k))).getLast?=some x/\(x=k+cV (List.replicate j (aB.tell k))\/x+1=k+cV (List.replicate j (aB.tell k))):=fun j=>by
   rw[jT,kR]
   cases j with
   |zero=>exact .inl ⟨rfl,rfl⟩
   |succ j=>exact .inr ⟨k,by rw[List.replicate_succ',List.getLast?_append];rfl,.inl (by simp)⟩
  unfold body at h
  rw[List.append_assoc,List.cons_append]at h
  rcases List.append_eq_append_iff.mp h with⟨p2,e1,e2⟩|⟨p2,e1,e2⟩
  ·cases p2 with
   |nil=>rw[e1,List.append_nil];exact ET e
   |cons a p3=>
    injection e2 with ea e2
    subst ea
    rw[e1,bM,bg,jT,kR]
    show((List.replicate e (k:Int)++tells p3).getLast?=none/\0+(cV p3+1)=0)\/ ∃x:Int,(List.replicate e (k:Int)++tells p3).getLast?=some x/\(x=k+((0+(cV p3+1):Nat):Int)\/x+1=k+((0+(cV p3+1):Nat):Int))
    have SH:=he e List.mem_cons_self
    right
    rcases jE (k+1) es p3 rows (fun x hx=>he x (List.mem_cons_of_mem _ hx)) e2 hr with⟨f1,f2⟩|⟨x,f1,f2⟩
    ·refine⟨k,?_,.inr (by omega)⟩
     rw[List.getLast?_append,f1]
     obtain⟨e',rfl⟩: ∃e',e=e'+1:=⟨e-1,by omega⟩
     rw[List.replicate_succ',List.getLast?_append];rfl
    ·refine⟨x,by rw[List.getLast?_append,f1];rfl,?_⟩
     omega
  ·have e3:pre=List.replicate pre.length (.tell k):=by
    rw[List.eq_replicate_iff]
    refine⟨rfl,fun b hb=> ?_⟩
    have:b∈List.replicate e (aB.tell k):=by rw[e1];exact List.mem_append_left _ hb
    exact List.eq_of_mem_replicate this
   rw[e3]
   exact ET pre.length
def eM(c:Nat)(said:List Int):Int:=match said.getLast? with
 |none=>0
 |some x=>if x=9 then c else max x 0
theorem LI.pair{bu:List (List Nat)}{G:RG}(h:LI (bu.map aS) G)(he: ∀es∈bu,es.length<=3/\ ∀e∈es,1<=e){i j:Nat}{gi gj:HA}{ei ej:List Nat}(hi:G.ae[i]? =some gi)(hj:G.ae[j]? =some gj)(e1:bu[i]? =some ei)(e2:bu[j]? =some ej)
  (h9:gj.said.getLast?≠some 9):eM ei.length gi.said<=eM ej.length gj.said+1:=by
 obtain⟨A,hl,hh,hn⟩:=h
 have at_: ∀ {k:Nat} {es:List Nat},bu[k]? =some es->(bu.map aS)[k]? =some (aS es):=fun{k es} e=>by rw[List.getElem?_map,e];rfl
 obtain⟨pi,a1,a2,a3,a4,_⟩:=hh i gi _ hi (at_ e1)
 obtain⟨pj,b1,b2,b3,b4,_⟩:=hh j gj _ hj (at_ e2)
 obtain⟨li,oi⟩:=he ei (List.mem_of_getElem? e1)
 obtain⟨lj,oj⟩:=he ej (List.mem_of_getElem? e2)
 have ai:=lN ei
 have aj:=lN ej
 rw[a1,bg]at ai
 rw[b1,bg]at aj
 have IK: ∀ (es:List Nat),(tells (aS es)).getLast?=some 9:=fun es=>by rw[gm,List.getLast?_append];rfl
 have Ol:gj.rows≠ []:=fun z=>h9 (by rw[b2];rw[z,List.append_nil]at b1;rw[<-b1];exact IK ej)
 have hA:(A:Int)<=eM ej.length gj.said+1:=by
  have hb:=b4 Ol
  rcases jE 0 ej pj gj.rows oj b1 Ol with⟨f1,f2⟩|⟨x,f1,f2⟩
  ·unfold eM
   rw[b2,f1]
   simp only
   omega
  ·unfold eM
   rw[b2,f1]
   simp only
   split<;>omega
 have hB:eM ei.length gi.said<=A:=by
  by_cases KN:gi.rows= []
  ·have e9:gi.said.getLast?=some 9:=by rw[a2];rw[KN,List.append_nil]at a1;rw[<-a1];exact IK ei
   unfold eM
   rw[e9]
   simp only[if_true]
   rw[KN]at ai
   have:cV ([]:List aB)=0:=rfl
   omega
  ·have ha:=a4 KN
   rcases jE 0 ei pi gi.rows oi a1 KN with⟨f1,f2⟩|⟨x,f1,f2⟩
   ·unfold eM
    rw[a2,f1]
    simp only
    omega
   ·unfold eM
    rw[a2,f1]
    simp only
    split<;>omega
 omega
end W2
namespace W2
open PySem PySem.Spec PyProof.Rows K2 L2
theorem sU(others:List Int){i:Int}(h:0<=i)(h9:i<=9):cW others (aB.tell i).pv=true:=by
 show(match gS cZ with|some ks=>decide ([PV.at (.int i)].length=ks.length) &&fN others [PV.at (.int i)] ks|none=>false)=true
 have e: ∃k,gS cZ=some [k]/\(k= .number\/k= .thing):=⟨_,rfl,by decide⟩
 obtain⟨k,e,hk⟩:=e
 rw[e]
 have h1:decide (-1000000<=i)=true:=decide_eq_true (by omega)
 have h2:decide (i<=1000000)=true:=decide_eq_true (by omega)
 rcases hk with rfl|rfl<;>simp[fN,fits,dM,isNumber]<;>omega
theorem Ce{others:List Int}(h:others.contains 0=true):cW others (aB.take 0 5 [97]).pv=true:=by
 show(match gS cC with|some ks=>_|none=>false)=true
 have e:gS cC=some [.bU,.cw,.box]:=rfl
 rw[e]
 show(decide (3=3) && (others.contains 0&& (fO (.at (.int 5)) && (gh (.at (.str [97])) &&true))))=true
 rw[h]
 rfl
theorem AD(d:aB):eF d.pv= []:=by cases d<;>rfl
theorem tR{others:List Int}{ds:List aB}(hl:ds.length<=40)(hr: ∀d∈ds,cW others d.pv=true):count others (.tup (ds.map aB.pv))=some ds.length:=by
 have e1:((ds.map aB.pv).flatMap eF)= []:=by
  rw[List.flatMap_eq_nil_iff]
  intro p hp
  obtain⟨d,_,rfl⟩:=List.mem_map.mp hp
  exact AD d
 have e2:(ds.map aB.pv).all (cW others)=true:=by
  rw[List.all_eq_true]
  intro p hp
  obtain⟨d,hd,rfl⟩:=List.mem_map.mp hp
  exact hr d hd
 show walk others (99+1) 0 [.tup (ds.map aB.pv)]=_
 unfold walk
 rw[if_neg (by rw[List.length_map];omega),if_pos e2,e1,List.length_map]
 show walk others (98+1) (0+ds.length) []=_
 unfold walk
 rw[Nat.zero_add]
theorem gY(n:Nat): ∀ (aV:List (List aB)) (i:Nat),(∀ (j:Nat) (ds:List aB),aV[j]? =some ds->ds.length<=40/\ ∀d∈ds,cW (cI n (i+j)) d.pv=true)->bW n i (aV.map fun ds=> .tup (ds.map aB.pv))=some (aV.map List.length).sum
 | [],i,_=>rfl
 |ds::aV,i,h=>by
  obtain⟨h1,h2⟩:=h 0 ds rfl
  rw[List.map_cons]
  unfold bW
  rw[tR (others:=cI n i) h1 h2,gY n aV (i+1) fun j ds' e=>by rw[show i+1+j=i+(j+1)by omega];exact h (j+1) ds' e]
  simp
theorem Bi{aV:List (List aB)}(h2:2<=aV.length)(h4:aV.length<=4)(hs: ∀ds∈aV,ds.length<=10)(hr: ∀ (j:Nat) (ds:List aB),aV[j]? =some ds-> ∀d∈ds,cW (cI aV.length j) d.pv=true):IA aV:=by
 have sum: ∀l:List (List aB),(∀ds∈l,ds.length<=10)->(l.map List.length).sum<=10*l.length:=fun l=>by
  induction l with
  |nil=>intro _;exact Nat.le_refl _
  |cons x l ih=>
   intro h
   have h1:=h x List.mem_cons_self
   have h3:=ih fun ds hd=>h ds (List.mem_cons_of_mem _ hd)
   rw[List.map_cons,List.sum_cons,List.length_cons];omega
 have hsum:=sum aV hs
 refine⟨?_,by omega,h4⟩
 show(decide (2<=(aV.map _).length) &&decide ((aV.map _).length<=5) && (match bW (aV.map _).length 0 (aV.map _)with|some m=>decide (m<=40)|none=>false))=true
 rw[List.length_map,gY aV.length aV 0 fun j ds e=>⟨by have:=hs ds (List.mem_of_getElem? e);omega,by rw[Nat.zero_add];exact hr j ds e⟩]
 rw[decide_eq_true h2,decide_eq_true (show aV.length<=5 by omega)]
 exact decide_eq_true (show(aV.map List.length).sum<=40 by omega)
theorem iU: ∀ (k:Nat) (es:List Nat),(∀e∈es,e<=2)->(body k es).length<=3*es.length
 |_,[],_=>Nat.le_refl _
 |k,e::es,h=>by
  unfold body
  have h1:=h e List.mem_cons_self
  have h2:=iU (k+1) es fun x hx=>h x (List.mem_cons_of_mem _ hx)
  rw[List.length_append,List.length_replicate,List.length_cons,List.length_cons];omega
theorem qG(others:List Int): ∀ (k:Nat) (es:List Nat),k+es.length<=9-> ∀d∈body k es,cW others d.pv=true
 |_,[],_,d,h=>by cases h
 |k,e::es,hk,d,h=>by
  rw[List.length_cons]at hk
  unfold body at h
  rcases List.mem_append.mp h with h|h
  ·rw[List.eq_of_mem_replicate h];exact sU others (by omega) (by omega)
  ·rcases List.mem_cons.mp h with rfl|h
   ·rfl
   ·exact qG others (k+1) es (by omega) d h
theorem nz: ∀ (k:Nat) (es:List Nat) (i:Int),k+es.length<=9->aB.tell i∈body k es->i.natAbs<=9
 |_,[],i,_,h=>by cases h
 |k,e::es,i,hk,h=>by
  rw[List.length_cons]at hk
  unfold body at h
  rcases List.mem_append.mp h with h|h
  ·cases List.eq_of_mem_replicate h;omega
  ·rcases List.mem_cons.mp h with h|h
   ·cases h
   ·exact nz (k+1) es i (by omega) h
structure eJ(bu:List (List Nat)):Prop where
 two:2<=bu.length
 four:bu.length<=4
 es: ∀es∈bu,es.length<=3/\ ∀e∈es,1<=e/\e<=2
theorem nN{es:List Nat}(h:es.length<=3)(h2: ∀e∈es,e<=2):(aS es).length<=10:=by
 unfold aS
 have:=iU 0 es h2
 rw[List.length_append,List.length_singleton];omega
theorem nP(others:List Int){es:List Nat}(h:es.length<=3): ∀d∈aS es,cW others d.pv=true:=fun d hd=>by
 rcases List.mem_append.mp hd with hd|hd
 ·exact qG others 0 es (by omega) d hd
 ·rw[List.mem_singleton.mp hd];exact sU others (by decide) (by decide)
theorem lO{es:List Nat}(h:es.length<=3){i:Int}(hd:aB.tell i∈aS es):i.natAbs<=9:=by
 rcases List.mem_append.mp hd with hd|hd
 ·exact nz 0 es i (by omega) hd
 ·cases List.mem_singleton.mp hd;decide
theorem eJ.good{bu:List (List Nat)}(h:eJ bu):Good (bu.map aS):=by
 have all: ∀ds∈bu.map aS,∃es∈bu,aS es=ds:=fun ds hd=>List.mem_map.mp hd
 refine vX (Bi (by rw[List.length_map];exact h.two) (by rw[List.length_map];exact h.four) (fun ds hd=> ?_) fun j ds e d hd=> ?_) fun ds hd i hi=> ?_
 ·obtain⟨es,hes,rfl⟩:=all ds hd
  exact nN (h.es es hes).1 fun e he=>((h.es es hes).2 e he).2
 ·obtain⟨es,hes,rfl⟩:=all ds (List.mem_of_getElem? e)
  exact nP _ (h.es es hes).1 d hd
 ·obtain⟨es,hes,rfl⟩:=all ds hd
  exact Nat.le_trans (lO (h.es es hes).1 hi) (by decide)
def cN(bu:List (List Nat)):List (List aB):=(bu.map aS).dropLast++ [[.take 0 5 [97]]]
theorem sR{bu:List (List Nat)}(h:eJ bu):(cN bu).length=bu.length:=by
 have:=h.two
 unfold cN
 rw[List.length_append,List.length_dropLast,List.length_map,List.length_singleton];omega
theorem rZ: ∀n,n<=4-> ∀j<n,j≠0->(cI n j).contains 0=true:=by decide+kernel
theorem eJ.IV{bu:List (List Nat)}(h:eJ bu):Good (cN bu):=by
 have hl:=sR h
 have two:=h.two
 have four:=h.four
 have zz: ∀ (j:Nat) (ds:List aB),(cN bu)[j]? =some ds->(∃es∈bu,aS es=ds)\/(j+1=bu.length/\ds= [.take 0 5 [97]]):=fun j ds e=>by
  have hj:j<(cN bu).length:=(List.getElem?_eq_some_iff.mp e).1
  unfold cN at e
  rw[List.getElem?_append]at e
  split at e
  ·exact .inl (List.mem_map.mp (List.dropLast_subset _ (List.mem_of_getElem? e)))
  ·rename_i hn
   rw[List.length_dropLast,List.length_map]at hn
   have:j+1=bu.length:=by omega
   rw[List.length_dropLast,List.length_map,show j- (bu.length-1)=0 by omega]at e
   cases e
   exact .inr ⟨this,rfl⟩
 have mem: ∀ds∈cN bu,(∃es∈bu,aS es=ds)\/ds= [.take 0 5 [97]]:=fun ds hd=>by
  obtain⟨j,hj⟩:=List.getElem?_of_mem hd
  exact(zz j ds hj).imp id fun z=>z.2
 refine vX (Bi (by omega) (by omega) (fun ds hd=> ?_) fun j ds e d hd=> ?_) fun ds hd i hi=> ?_
 ·rcases mem ds hd with⟨es,hes,rfl⟩|rfl
  ·exact nN (h.es es hes).1 fun e he=>((h.es es hes).2 e he).2
  ·decide
 ·rcases zz j ds e with⟨es,hes,rfl⟩|⟨hj,rfl⟩
  ·exact nP _ (h.es es hes).1 d hd
  ·rw[List.mem_singleton.mp hd]
   exact Ce (rZ _ (by omega) j (by omega) (by omega))
 ·rcases mem ds hd with⟨es,hes,rfl⟩|rfl
  ·exact Nat.le_trans (lO (h.es es hes).1 hi) (by decide)
  ·cases List.mem_singleton.mp hi
theorem eJ.left{bu:List (List Nat)}(h:eJ bu){ro:Option Nat}{G G':RG}(fr:dU (bu.map aS) ro G)(gs:Goes G G')(e0:G'.goes= []):G'.left=false:=by
 refine((LI.new fr).goes (fun ds hd=> ?_) gs).left e0
 obtain⟨es,_,rfl⟩:=List.mem_map.mp hd
 exact rE es
theorem eJ.JG{bu:List (List Nat)}(h:eJ bu){ro:Option Nat}{G G':RG}(fr:dU (cN bu) ro G)(gs:Goes G G'):G'.left=true:=by
 have two:=h.two
 refine vp (i:=bu.length-1) (a:=0) (b:=5) (c:= [97]) fr gs ?_
 unfold cN
 rw[List.getElem?_append_right (by rw[List.length_dropLast,List.length_map];exact Nat.le_refl _),List.length_dropLast,List.length_map,Nat.sub_self]
 rfl
end W2
namespace W2
open PySem PySem.Spec PyProof.Rows K2 L2
def HA.nu(g:HA):Nat:=g.rows.length- (if g.wt= .go then 0 else 1)
def RG.nu(G:RG):Nat:=(G.ae.map HA.nu).sum
theorem Eg{g:HA}{d:aB}{rest:List aB}(er:g.rows=d::rest)(hw:g.wt= .go):(g.step d).nu+1=g.nu:=by
 cases d<;>simp[HA.step,HA.nu,er,hw]
theorem CM(g:HA):g.free.nu=g.nu:=by
 unfold HA.free
 split
 ·rename_i h
  simp[HA.on,HA.nu,h]
 ·rfl
theorem DL(G:RG):G.pass.nu=G.nu:=by
 unfold RG.pass
 split
 ·show((G.ae.map HA.free).map HA.nu).sum=_
  rw[List.map_map]
  unfold RG.nu
  congr 1
  exact List.map_congr_left fun g _=>CM g
 ·rfl
theorem nc.nu{G G':RG}{i:Nat}(h:nc G i G'):G'.nu+1=G.nu:=by
 cases h with
 | @mk g d rest hg er hw=>
  rw[DL]
  have h2:=Eg er hw
  have h3:(G.aW i (g.step d)).nu+g.nu=G.nu+(g.step d).nu:=sum_set HA.nu hg
  omega
theorem dU.nu{aV:List (List aB)}{ro:Option Nat}{G:RG}(fr:dU aV ro G):G.nu=(aV.map List.length).sum:=by
 have e:G.ae.map HA.nu=aV.map List.length:=by
  apply List.ext_getElem?
  intro i
  rw[List.getElem?_map,List.getElem?_map]
  cases hg:G.ae[i]? with
  |none=>
   have:aV[i]? =none:=by
    rw[List.getElem?_eq_none_iff]at hg⊢
    rw[<-fr.len];exact hg
   rw[this];rfl
  |some g=>
   obtain⟨ds,e1,e2,e3,_⟩:=fr.got hg
   rw[e1]
   show some g.nu=some ds.length
   unfold HA.nu
   rw[e2,e3];simp
 unfold RG.nu
 rw[e]
theorem eJ.nu{bu:List (List Nat)}(h:eJ bu){ro:Option Nat}{G:RG}(fr:dU (bu.map aS) ro G):G.nu<=40:=by
 rw[fr.nu];exact h.good.ok.sum
theorem mG: ∀ (k:Nat) (es:List Nat) (i:Int),(∀e∈es,1<=e)->(i∈tells (body k es) ↔ (k:Int)<=i/\i<k+es.length)
 |k,[],i,_=>by simp[body,tells]
 |k,e::es,i,he=>by
  unfold body
  rw[bM,jT]
  show i∈List.replicate e (k:Int)++tells (body (k+1) es) ↔_
  rw[List.mem_append,mG (k+1) es i fun x hx=>he x (List.mem_cons_of_mem _ hx),List.mem_replicate,List.length_cons]
  have:=he e List.mem_cons_self
  omega
theorem nO{es:List Nat}(he: ∀e∈es,1<=e)(i:Int):i∈tells (aS es) ↔ (0<=i/\i<es.length)\/i=9:=by
 rw[gm,List.mem_append,mG 0 es i he,List.mem_singleton]
 simp
theorem yR: ∀ {a b:List Int},a.Nodup->a.Pairwise (· <= ·)->b.Nodup->b.Pairwise (· <= ·)->(∀k,k∈a↔k∈b)->a=b:=fun{a b} n1 p1 n2 p2 h=>
 List.Perm.eq_of_pairwise (fun x y _ _ h1 h2=>Int.le_antisymm h1 h2) p1 p2 ((List.perm_ext_iff_of_nodup n1 n2).mpr h)
end W2
namespace W2
open PySem PySem.Spec PyProof.Rows K2 L2
abbrev Mz:List Str:= ["_law_script", "_law_town_here", "_law_hands", "_law_counts", "_law_program", "_law_me", "_law_rows", "_law_k", "_law_run", "_law_events", "_law_lasts", "_law_other", "_law_mine", "_law_theirs", "_law_stuck"]
abbrev De:List Str:= ["_law_script", "_law_town_here", "_law_hands", "_law_counts", "_law_program", "", "_law_rows", "_law_k", "_law_run", "_law_events", "_law_lasts", "_law_other", "_law_mine", "_law_theirs", "_law_stuck"]
theorem dB:av Mz ["_law_script"] (am mU):=⟨rfl,rfl,rfl,by decide+kernel,rfl,by decide+kernel,by decide+kernel⟩
theorem AA:De.Nodup:=by decide+kernel
theorem Az:("_law_me"::De:List Str).Nodup:=by decide+kernel
theorem BX{X:Cx}(K:PySem.W.Frag)(hK:X.K=K):HL X (GS K):=hK▸wO
theorem xP{α:Type}(xs:List α):xs.drop (xs.length-1)=xs.getLast?.toList:=by
 rcases List.eq_nil_or_concat xs with rfl|⟨ys,y,rfl⟩
 ·rfl
 ·rw[List.concat_eq_append,List.length_append,List.length_singleton,Nat.add_sub_cancel,List.drop_left,List.getLast?_append];rfl
theorem zC(said:List Int):gR (aC said) (some (-1)) none=aC said.getLast?.toList:=by
 unfold gR
 have h1:HT.cF (aC said).length 0 (some (-1))=(aC said).length-1:=by
  show(if(-1:Int)<0 then((-1:Int)+((aC said).length:Int)).toNat else min (-1:Int).toNat (aC said).length)=_
  rw[if_pos (by decide)];omega
 rw[h1,HT.mq,xP]
 have h2:(aC said).getLast?.toList=aC said.getLast?.toList:=by
  unfold aC
  rw[List.getLast?_map]
  cases said.getLast?<;>rfl
 rw[h2]
 refine List.take_of_length_le ?_
 rw[dj,dj]
 cases h:said.getLast? with
 |none=>exact Nat.zero_le _
 |some x=>
  have:said≠ []:=fun z=>by rw[z]at h;cases h
  have:=List.length_pos_iff.mpr this
  show 1<=_
  omega
theorem zB(xs:List V):gR xs none (some (-1))=xs.dropLast:=by
 unfold gR
 have h1:HT.cF xs.length xs.length (some (-1))=xs.length-1:=by
  show(if(-1:Int)<0 then((-1:Int)+(xs.length:Int)).toNat else min (-1:Int).toNat xs.length)=_
  rw[if_pos (by decide)];omega
 rw[h1,HT.mq,List.dropLast_eq_take];rfl
theorem px(l:List Int):tD (.int 9) (aC l)=l.contains 9:=by
 unfold tD aC
 rw[List.any_map,List.contains_eq_any_beq]
 congr 1
 funext x
 show(x==9)=(9==x)
 by_cases h:x=9
 ·subst h;rfl
 ·rw[beq_false_of_ne h,beq_false_of_ne (Ne.symm h)]
theorem nF(l:List Int):(aC l).all eN=true:=by
 unfold aC;rw[List.all_map,List.all_eq_true];intro x _;rfl
theorem zP{c:Nat}{said:List Int}(h:said.getLast?.toList.contains 9=true):eM c said=c:=by
 unfold eM
 cases e:said.getLast? with
 |none=>rw[e]at h;cases h
 |some x=>
  rw[e]at h
  have:x=9:=by
   have h2:=List.mem_of_elem_eq_true h
   exact(List.mem_singleton.mp h2).symm
  subst this;rfl
theorem CJ{c:Nat}{said:List Int}(h: ¬said.getLast?.toList.contains 9=true){M:Int}(h1:M∈said.getLast?.toList++ [0])(h2: ∀a∈said.getLast?.toList++ [0],a<=M):eM c said=M:=by
 unfold eM
 cases e:said.getLast? with
 |none=>rw[e]at h1;exact(List.mem_singleton.mp h1).symm
 |some x=>
  rw[e]at h h1 h2
  have n9:x≠9:=fun z=>h (by subst z;rfl)
  show(if x=9 then(c:Int)else max x 0)=M
  rw[if_neg n9]
  have h3:=h2 x (by simp)
  have h4:=h2 0 (by simp)
  simp at h1
  omega
theorem AG{said:List Int}(h:(!said.getLast?.toList.contains 9)=true):said.getLast?≠some 9:=fun z=>by
 rw[z]at h;cases h
end W2
namespace W2
open PySem PySem.Spec PyProof.Rows K2 L2
theorem EW:("tell":Str)=S cZ:=by decide+kernel
theorem My:("all":Str)=S gU:=by decide+kernel
theorem JF:("take":Str)=S cC:=by decide+kernel
def en(cs:List Nat):List V:=cs.map fun(k:Nat)=>V.int (k:Int)
section
variable{K:PySem.W.Frag}{C R sa t x:Addr}{ns:List Int}{n B:Nat}{G:RG}{H:Hp}{c:Int}{σ:L2.St}
theorem qQ{Q:VK}(d:Dr K H sa t ns c)(hc:c<2^30)(hn:n<=4)(h0:σ[0]? =some (some (.ref sa)))(h1:σ[1]? =some (some (.ref t)))(h2:σ[2]? =some (some (.int n)))
  (q: ∀ (l:Addr) (cs:List Nat) H',Kept t H H'->Dr K H' sa t ns (c+n)->l≠t->H' l=some (.lst (en cs))->cs.length=n->(∀k∈cs,k<=3)->Q (.ref l) H'):
  wY 1 (jY (bD (cu 2) bH)) (bR 0) Cd (wX (mB K) [] E0 (bD (cu 1) (bD (cu 2) (bD (tC (V.int 4)) bH)))) σ H Q:=by
 refine⟨_,h2,n,rfl,by omega,by omega,?_⟩
 rw[Int.toNat_natCast]
 refine cy (n:=n) (fun i ys H'=>Kept t H H'/\Dr K H' sa t ns (c+i)/\ ∃cs:List Nat,ys=en cs/\cs.length=i/\ ∀k∈cs,k<=3) ⟨Kept.refl _ _,by simpa using d,[],rfl,rfl,fun k hk=>by cases hk⟩ ?_ ?_
 ·rintro i ys H1 hi ⟨kp,d1,cs,rfl,lc,c3⟩
  refine⟨hi,big (by unfold en;rw[List.length_map];omega),?_⟩
  rintro y _ ⟨rfl,rfl⟩
  refine ka ?_
  refine⟨_,h0,_,h1,?_⟩
  refine⟨sa,t,ns,c+i,4,rfl,d1,by decide,by decide,fun e H2 e0 e4 k2 El=> ?_⟩
  have c0:=d.c0
  refine Wc.next hi ⟨kp.trans k2,⟨k2.vm d1.tn d1.vm,by rw[show c+((i+1:Nat):Int)=c+(i:Int)+1 by omega];exact El,d1.h63,by omega,by omega⟩,cs++ [e.toNat],?_,by simp[lc],fun k hk=> ?_⟩
  ·unfold en
   rw[List.map_append]
   show _++ [V.int e]=_++ [V.int (e.toNat:Int)]
   rw[Int.toNat_of_nonneg e0]
  ·rcases List.mem_append.mp hk with hk|hk
   ·exact c3 k hk
   ·rw[List.mem_singleton.mp hk];omega
 ·rintro ys H1 ⟨kp,d1,cs,rfl,lc,c3⟩
  refine⟨Nat.le_refl _,fun p hp=> ?_⟩
  have s1:=ah hp (.lst (en cs))
  exact q p cs _ (kp.trans (Kept.of s1)) (d1.same s1) (d1.tn.ne hp) ac lc c3
theorem ur{Q:VK}(I:aZ none C R B H G)(hl:G.ae.length=n)(hn:n<=4)(h2:σ[2]? =some (some (.int n)))(h8:σ[8]? =some (some (.ref G.x)))
  (q: ∀ (l:Addr) (ls:List V) H',aw H H'->H' l=some (.lst ls)->(∀ (j:Nat) (g:HA),G.ae[j]? =some g-> ∃a,ls[j]? =some (.ref a)/\H' a=some (.lst (aC g.said.getLast?.toList)))->Q (.ref l) H'):
  wY 1 (jY (bD (cu 2) bH)) (bR 0) Cd (O8 (GS K) (wZ R "told" (qk C R) [] E0 (cu 9) (bD (cu 0) bH)) (Fd (Nv (rU fun i=>V.int (-i)) (tC (V.int 1)))) w6) σ H Q:=by
 refine⟨_,h2,n,rfl,by omega,by omega,?_⟩
 rw[Int.toNat_natCast]
 refine cy (n:=n) (fun i ys H'=>aw H H'/\ys.length=i/\ ∀ (j:Nat) (g:HA),j<i->G.ae[j]? =some g-> ∃a,ys[j]? =some (.ref a)/\H' a=some (.lst (aC g.said.getLast?.toList))) ⟨aw.refl _,rfl,fun j g hj=>absurd hj (Nat.not_lt_zero _)⟩ ?_ ?_
 ·rintro i ys H1 hi ⟨sm,ly,hy⟩
  refine⟨hi,big (by omega),?_⟩
  rintro y _ ⟨rfl,rfl⟩
  rw[Int.zero_add]
  refine ka ?_
  have I1:=I.same sm
  have hg:=List.getElem?_eq_getElem (show i<G.ae.length by omega)
  refine⟨_,h8,G.x,G.dx,_,rfl,I1.ob,rfl,_,rfl,?_⟩
  dsimp only[bH]
  refine⟨G,B,i,G.ae[i],rfl,I1,hg,fun l hl=> ?_⟩
  have s1:=ah hl (.lst (aC G.ae[i].said))
  refine⟨1,rfl,-1,rfl,?_⟩
  refine⟨l,_,rfl,aN.of ac,fun p hp=> ?_⟩
  rw[zC]
  have s2:=ah hp (.lst (aC G.ae[i].said.getLast?.toList))
  refine Wc.next hi ⟨sm.trans (s1.trans s2),by simp[ly],fun j g hj e=> ?_⟩
  by_cases ej:j=i
  ·subst ej
   rw[hg]at e
   cases e
   exact⟨p,by rw[List.getElem?_append_right (by omega),ly,Nat.sub_self];rfl,ac⟩
  ·obtain⟨a,e1,e2⟩:=hy j g (by omega) e
   exact⟨a,by rw[List.getElem?_append_left (by omega)];exact e1,s2 _ _ (s1 _ _ e2)⟩
 ·rintro ys H1 ⟨sm,ly,hy⟩
  refine⟨Nat.le_refl _,fun p hp=> ?_⟩
  have s1:=ah hp (.lst ys)
  refine q p ys _ (sm.trans s1) ac fun j g e=> ?_
  obtain⟨a,e1,e2⟩:=hy j g (by rw[<-hl];exact(List.getElem?_eq_some_iff.mp e).1) e
  exact⟨a,e1,s1 _ _ e2⟩
abbrev Hx(K:PySem.W.Frag)(i:Nat):TE:=O6 (mF (j8 (K7 K false) (tC (V.int 9)) (j8 (sr K) (cu 10) (cu i)))) (j8 (sr K) (cu 3) (cu i))
 (Ho (fun xs H Q=> ∃ (a:Addr) (ns:List Int),xs= [.ref a]/\aN K H a (ns.map V.int)/\ns≠ []/\ ∀M,M∈ns->(∀a∈ns,a<=M)->Q (.int M) H) (bD (j8 GP (j8 (sr K) (cu 10) (cu i)) (Hz (bD (tC (V.int 0)) bH))) bH))
theorem vS{i j k:Nat}{l a cl:Addr}{ls:List V}{said:List Int}{cs:List Nat}{Q:VK}(N4:σ[10]? =some (some (.ref l)))(hi:σ[i]? =some (some (.int j)))(h3:σ[3]? =some (some (.ref cl)))(hl:H l=some (.lst ls))(e1:ls[j]? =some (.ref a))
  (ha:H a=some (.lst (aC said.getLast?.toList)))(hc:H cl=some (.lst (en cs)))(ec:cs[j]? =some k)(q: ∀H',aw H H'->Q (.int (eM k said)) H'):Hx K i σ H Q:=by
 have ix:tq ls (j:Int)=some (.ref a):=bc e1
 refine⟨_,N4,_,hi,l,ls,j,_,rfl,rfl,aN.of hl,ix,a,_,rfl,.inl (aN.of ha),rfl,nF _,_,rfl,bY (fun c9=> ?_) (fun c9=> ?_)⟩
 ·have EB:tD (.int 9) (aC said.getLast?.toList)=true:=c9
  rw[px]at EB
  refine⟨_,h3,_,hi,cl,_,j,.int (k:Int),rfl,rfl,aN.of hc,bc (by unfold en;rw[List.getElem?_map,ec];rfl),?_⟩
  rw[<-zP EB]
  exact q H (aw.refl _)
 ·have EB: ¬tD (.int 9) (aC said.getLast?.toList)=true:=c9
  rw[px]at EB
  refine⟨_,N4,_,hi,l,ls,j,_,rfl,rfl,aN.of hl,ix,(by show 1<=sizeLine;decide),fun p hp=> ?_⟩
  have s1:=ah hp (.lst [.int 0])
  refine⟨a,p,_,_,rfl,rfl,s1 _ _ ha,ac,?_,fun p2 hp2=> ?_⟩
  ·rw[dj]
   have:said.getLast?.toList.length<=1:=by cases said.getLast?<;>simp
   exact small (by simp;omega)
  ·have s2:=ah hp2 (.lst (aC said.getLast?.toList++ [.int 0]))
   refine⟨p2,said.getLast?.toList++ [0],rfl,?_,by simp,fun M m1 m2=> ?_⟩
   ·refine aN.of ?_
    rw[List.map_append]
    exact ac
   ·rw[<-CJ (c:=k) EB m1 m2]
    exact q _ (s1.trans s2)
abbrev HC(K:PySem.W.Frag):TS:=yU (jY (bD (cu 2) bH)) (bR 5) (yU (jY (bD (cu 2) bH)) (bR 11) (vq (qo (Hx K 5) (bR 12)) (vq (qo (Hx K 11) (bR 13)) (Hy (Km (mF (j8 (K7 K true) (tC (V.int 9)) (j8 (sr K) (cu 10) (cu 11)))) (mF (j8 (Cs fun i j=>V.bl (decide (j<i))) (cu 12) (j8 (Cs fun i j=>V.int (i+j)) (cu 13) (tC (V.int 1)))))) (HD (tC (V.bl false))) Ca))))
theorem uR{bu:List (List Nat)}{l cl:Addr}{ls:List V}{D:Ends}{a0 a1 a4 a5 a6 a7 a8 a9 xc oU xf tm:Option V}(ok:eJ bu)(li:LI (bu.map aS) G)(hn:bu.length=n)(hg:G.ae.length=n)
  (hl:H l=some (.lst ls))(hls: ∀ (j:Nat) (g:HA),G.ae[j]? =some g-> ∃a,ls[j]? =some (.ref a)/\H a=some (.lst (aC g.said.getLast?.toList)))(hc:H cl=some (.lst (en (bu.map List.length))))
  (q: ∀b5 qC qD qE H',aw H H'->D.nx [a0,a1,some (.int n),some (.ref cl),a4,b5,a6,a7,a8,a9,some (.ref l),qC,qD,qE,tm] H'):
  HC K D [a0,a1,some (.int n),some (.ref cl),a4,a5,a6,a7,a8,a9,some (.ref l),xc,oU,xf,tm] H:=by
 have four:=ok.four
 refine⟨_,rfl,n,rfl,by omega,by omega,?_⟩
 rw[Int.toNat_natCast]
 refine dF (n:=n) (fun i σ' H'=> ∃b5 qC qD qE,σ'= [a0,a1,some (.int n),some (.ref cl),a4,b5,a6,a7,a8,a9,some (.ref l),qC,qD,qE,tm]/\aw H H') ⟨_,_,_,_,rfl,aw.refl _⟩ ?_ ?_
 rotate_left
 ·rintro σ' H' ⟨b5,qC,qD,qE,rfl,sm⟩
  exact⟨Nat.le_refl _,q _ _ _ _ _ sm⟩
 rintro i σ' H1 hi ⟨b5,qC,qD,qE,rfl,sm⟩
 refine⟨hi,?_⟩
 rintro y _ ⟨rfl,rfl⟩
 rw[Int.zero_add]
 refine⟨_,rfl,n,rfl,by omega,by omega,?_⟩
 rw[Int.toNat_natCast]
 refine dF (n:=n) (fun j σ' H'=> ∃qC qD qE,σ'= [a0,a1,some (.int n),some (.ref cl),a4,some (.int i),a6,a7,a8,a9,some (.ref l),qC,qD,qE,tm]/\aw H H') ⟨_,_,_,rfl,sm⟩ ?_ ?_
 rotate_left
 ·rintro σ' H' ⟨qC,qD,qE,rfl,sm⟩
  exact⟨Nat.le_refl _,_,_,_,_,rfl,sm⟩
 rintro j σ' H2 hj ⟨qC,qD,qE,rfl,Hj⟩
 refine⟨hj,?_⟩
 rintro y _ ⟨rfl,rfl⟩
 rw[Int.zero_add]
 have gi:=List.getElem?_eq_getElem (show i<G.ae.length by omega)
 have gj:=List.getElem?_eq_getElem (show j<G.ae.length by omega)
 have ei:=List.getElem?_eq_getElem (show i<bu.length by omega)
 have ej:=List.getElem?_eq_getElem (show j<bu.length by omega)
 obtain⟨p,p1,p2⟩:=hls i _ gi
 obtain⟨r,r1,r2⟩:=hls j _ gj
 have ci:(bu.map List.length)[i]? =some (bu[i]'(by omega)).length:=by rw[List.getElem?_map,ei];rfl
 have cj:(bu.map List.length)[j]? =some (bu[j]'(by omega)).length:=by rw[List.getElem?_map,ej];rfl
 refine vS (l:=l) (a:=p) (cl:=cl) rfl rfl rfl (Hj _ _ hl) p1 (Hj _ _ p2) (Hj _ _ hc) ci fun H3 s3=> ?_
 have Lb:=Hj.trans s3
 refine vS (l:=l) (a:=r) (cl:=cl) rfl rfl rfl (Lb _ _ hl) r1 (Lb _ _ r2) (Lb _ _ hc) cj fun H4 s4=> ?_
 have yP:=Lb.trans s4
 refine⟨_,rfl,_,rfl,l,ls,j,_,rfl,rfl,aN.of (yP _ _ hl),bc r1,r,_,rfl,.inl (aN.of (yP _ _ r2)),rfl,nF _,_,rfl,bY (fun c9=> ?_) (fun c9=> ?_)⟩
 rotate_left
 ·exact bO ⟨_,_,_,rfl,yP⟩
 have EB:(!tD (.int 9) (aC (G.ae[j]'(by omega)).said.getLast?.toList))=true:=c9
 rw[px]at EB
 have SC:=li.pair (fun es he=>⟨(ok.es es he).1,fun e h=>((ok.es es he).2 e h).1⟩) gi gj ei ej (AG EB)
 refine⟨_,rfl,_,rfl,_,1,rfl,rfl,_,_,rfl,rfl,_,rfl,?_⟩
 rw[decide_eq_false (by omega)]
 exact bO ⟨_,_,_,rfl,yP⟩
end
end W2
namespace W2
open PySem PySem.Spec PyProof.Rows K2 L2
section
variable{K:PySem.W.Frag}{C R sa t x:Addr}{ns:List Int}{n B:Nat}{G:RG}{H:Hp}{c:Int}{σ:L2.St}
theorem qK{a b:Addr}{xs ys:List V}{Q:VK}(ha:H a=some (.tup xs))(hb:H b=some (.tup ys))(hy:ys≠ [])(hs:xs.length+ys.length<=1000)(q: ∀p H',aw H H'->H' p=some (.tup (xs++ys))->Q (.ref p) H'):wG K (.ref a) (.ref b) H Q:=
 ⟨a,b,xs,ys,rfl,rfl,bn.of ha,bn.of hb,hy,small hs,fun e=>by subst e;exact q b H (aw.refl _) hb,fun _ p hp=>q p _ (ah hp _) ac⟩
theorem qL{a b:Addr}{xs ys:List V}{Q:VK}(ha:H a=some (.tup xs))(hb:H b=some (.tup ys))(hx:xs≠ [])(hy:ys≠ [])(hs:xs.length+ys.length<=1000)(q: ∀p H',aw H H'->H' p=some (.tup (xs++ys))->Q (.ref p) H'):Bo K (.ref a) (.ref b) H Q:=
 ⟨a,b,xs,ys,rfl,rfl,bn.of ha,bn.of hb,hx,small hs,fun e=>absurd e hy,fun _ p hp=>q p _ (ah hp _) ac⟩
theorem Dq{a:Addr}{v:V}{e:Nat}{Q:VK}(ha:H a=some (.tup [v]))(he:e=1\/e=2)(q: ∀p H',aw H H'->H' p=some (.tup (List.replicate e v))->Q (.ref p) H'):Bp K (.ref a) (.int (e:Nat)) H Q:=by
 refine⟨a,v,e,rfl,rfl,bn.of ha,?_⟩
 rcases he with rfl|rfl
 ·exact .inl ⟨rfl,q a H (aw.refl _) ha⟩
 ·exact .inr ⟨rfl,fun p hp=>q p _ (ah hp _) ac⟩
theorem nY{p:PV}{v:V}(r:Rep H p v): ∀e:Nat,aq H (List.replicate e p) (List.replicate e v)
 |0=>aq.nil
 |e+1=>by rw[List.replicate_succ,List.replicate_succ];exact aq.cons r (nY r e)
abbrev Cb(K:PySem.W.Frag):TS:=yU (jY (bD (j8 (sr K) (cu 3) (cu 5)) bH)) (bR 7) (qo (j8 (Bo K) (j8 (wG K) (cu 6) (j8 (Bp K) (sS (bD (sS (bD (tC (V.str "tell")) (bD (cu 7) bH))) bH)) (j8 (Cs fun i j=>V.int (i+j)) (tC (V.int 1)) (wX (mB K) [] E0 (bD (cu 0) (bD (cu 1) (bD (tC (V.int 2)) bH))))))) (sS (bD (sS (bD (tC (V.str "all")) bH)) bH))) (bR 6))
theorem Bz{D:Ends}{cl r0:Addr}{cs:List Nat}{m k:Nat}{a2 a4 a7 a8 a9 zt xc oU xf tm:Option V}(d:Dr K H sa t ns c)(hc:c<2^30)(hk:k<=3)(hcl:H cl=some (.lst (en cs)))(ek:cs[m]? =some k)(hr:H r0=some (.tup []))
  (q: ∀ (es:List Nat) (b7:Option V) (r:Addr) (rs:List V) (H':Hp),es.length=k->(∀e∈es,1<=e/\e<=2)->Kept t H H'->Dr K H' sa t ns (c+k)->H' r=some (.tup rs)->aq H' ((body 0 es).map aB.pv) rs->D.nx [some (.ref sa),some (.ref t),a2,some (.ref cl),a4,some (.int m),some (.ref r),b7,a8,a9,zt,xc,oU,xf,tm] H'):
  Cb K D [some (.ref sa),some (.ref t),a2,some (.ref cl),a4,some (.int m),some (.ref r0),a7,a8,a9,zt,xc,oU,xf,tm] H:=by
 have z1:1<=sizeLine:=by decide
 have z2:2<=sizeLine:=by decide
 refine⟨_,rfl,_,rfl,cl,_,m,.int k,rfl,rfl,aN.of hcl,bc (by unfold en;rw[List.getElem?_map,ek];rfl),k,rfl,by omega,by omega,?_⟩
 rw[Int.toNat_natCast]
 refine dF (n:=k) (fun i σ' H'=> ∃ (b7:Option V) (r:Addr) (es:List Nat) (rs:List V),σ'= [some (.ref sa),some (.ref t),a2,some (.ref cl),a4,some (.int m),some (.ref r),b7,a8,a9,zt,xc,oU,xf,tm]/\es.length=i/\(∀e∈es,1<=e/\e<=2)/\Kept t H H'/\Dr K H' sa t ns (c+i)/\H' r=some (.tup rs)/\aq H' ((body 0 es).map aB.pv) rs)
  ⟨_,r0,[],[],rfl,rfl,fun e he=>(by cases he),Kept.refl _ _,by simpa using d,hr,aq.nil⟩ ?_ ?_
 rotate_left
 ·rintro σ' H' ⟨b7,r,es,rs,rfl,le,he,kp,d1,hr1,rp⟩
  exact⟨Nat.le_refl _,q es b7 r rs H' le he kp d1 hr1 rp⟩
 rintro i σ' H1 hi ⟨b7,r,es,rs,rfl,le,he,kp,d1,hr1,rp⟩
 refine⟨hi,?_⟩
 rintro y H1 ⟨rfl,rfl⟩
 rw[Int.zero_add]
 refine⟨_,rfl,_,rfl,z2,fun p1 hp1=>⟨z1,fun p2 hp2=> ?_⟩⟩
 have s1:=ah hp1 (.tup [.str "tell",.int i])
 have s2:=ah hp2 (.tup [.ref p1])
 have d2:=d1.same (s1.trans s2)
 have C0:=s2 _ _ (ac (H:=H1) (a:=p1) (o:= .tup [.str "tell",.int i]))
 have Jn:upd (upd H1 p1 (.tup [.str "tell",.int i])) p2 (.tup [.ref p1]) p2=some (.tup [.ref p1]):=ac
 have s12:=s1.trans s2
 generalize upd (upd H1 p1 (.tup [.str "tell",.int i])) p2 (.tup [.ref p1])=H2 at d2 C0 Jn s12⊢
 have c0:=d.c0
 refine⟨_,rfl,_,rfl,sa,t,ns,c+i,2,rfl,d2,by decide,by decide,fun e H3 e0 e2 k3 Sl=>⟨1,e,rfl,rfl,?_⟩⟩
 have t3:=k3.tups d2.tn
 rw[show(1:Int)+e=((1+e.toNat:Nat):Int)by omega]
 have r1:=rp.len
 have r2:=iU 0 es fun x hx=>(he x hx).2
 rw[List.length_map]at r1
 refine Dq (t3 _ _ Jn) (by omega) fun p3 H4 s4 hp3=> ?_
 have Q2:=s4 _ _ (t3 _ _ (s12 _ _ hr1))
 refine qK Q2 hp3 (by rw[Nat.add_comm,List.replicate_succ];simp) (by rw[List.length_replicate];omega) fun p4 H5 s5 FZ=> ?_
 refine⟨z1,fun p5 C1=>⟨z1,fun p6 Jo=> ?_⟩⟩
 have s6:=ah C1 (.tup [.str "all"])
 have s7:=ah Jo (.tup [.ref p5])
 have OS:=s6.trans s7
 refine qL (OS _ _ FZ) ac (by rw[Nat.add_comm,List.replicate_succ];simp) (by simp) (by rw[List.length_append,List.length_replicate,List.length_singleton];omega) fun p7 H8 s8 Jp=> ?_
 have K9:=s4.trans (s5.trans (OS.trans s8))
 have Rp:Kept t H1 H8:=(Kept.of s12).trans (k3.trans (Kept.of K9))
 have Mf:=s8 _ _ (s7 _ _ (ac (H:=H5) (a:=p5) (o:= .tup [.str "all"])))
 refine⟨_,p7,es++ [1+e.toNat],_,rfl,by simp[le],fun z hz=> ?_,kp.trans Rp,?_,Jp,?_⟩
 ·rcases List.mem_append.mp hz with hz|hz
  ·exact he z hz
  ·rw[List.mem_singleton.mp hz];omega
 ·refine Dr.same K9 ⟨k3.vm d2.tn d2.vm,?_,d1.h63,by omega,by omega⟩
  rw[show c+((i+1:Nat):Int)=c+(i:Int)+1 by omega];exact Sl
 ·rw[ny,List.map_append,List.map_append,List.map_replicate,Nat.zero_add,le]
  refine aq.append (aq.append (K9.reps (t3.reps (s12.reps rp))) (nY ?_ _)) (aq.one (Rep.mk Mf (aq.one ⟨by rw[My],by decide⟩)))
  exact K9.rep (t3.rep (Gu C0 ⟨by rw[EW],by decide⟩ rfl))
theorem qv.put{a p:Addr}{xs:List V}{o:HO}(h:qv K H a ns)(hp:H p=some (.lst xs)):qv K (upd H p o) a ns:=by
 rcases h with⟨u,h⟩|h
 ·exact .inl ⟨u,by rw[ak (nR h hp (by intro z;cases z))];exact h⟩
 ·exact .inr h
theorem Dr.put{p:Addr}{xs:List V}{o:HO}(d:Dr K H sa t ns c)(hp:H p=some (.lst xs))(np:p≠t):Dr K (upd H p o) sa t ns c:=by
 refine⟨d.vm.put hp,?_,d.h63,d.c0,d.c1⟩
 obtain⟨cells,e,l⟩:=d.tn
 exact⟨cells,by rw[ak np.symm];exact e,l⟩
def Ey(t p:Addr)(H H':Hp):Prop:= ∀b o,b≠t->b≠p->H b=some o->H' b=some o
abbrev Cc(K:PySem.W.Frag):TS:=yU (jY (bD (cu 2) bH)) (bR 5) (vq (qo (sS bH) (bR 6)) (vq (Cb K) (Fb (O5 K "list" wF (cu 4) (bD (j8 (wG K) (cu 6) (sS (bD (sS (bD (tC (V.str "tell")) (bD (tC (V.int 9)) bH))) bH))) bH)))))
def HQ(es:List Nat):PV:= .tup ((aS es).map aB.pv)
theorem By{D:Ends}{cl pl:Addr}{cs:List Nat}{a5 a6 a7 a8 a9 zt xc oU xf tm:Option V}(d:Dr K H sa t ns c)(hc:c<2^29)(hn:n<=4)(lc:cs.length=n)(c3: ∀k∈cs,k<=3)(hcl:H cl=some (.lst (en cs)))(JK:cl≠t)(hpl:H pl=some (.lst []))(OD:pl≠t)(MV:cl≠pl)
  (q: ∀ (bu:List (List Nat)) (vs:List V) (b5 b6 b7:Option V) (H':Hp) (c':Int),bu.map List.length=cs->(∀es∈bu,∀e∈es,1<=e/\e<=2)->Ey t pl H H'->Dr K H' sa t ns c'->c'<=c+12->H' pl=some (.lst vs)->aq H' (bu.map HQ) vs->D.nx [some (.ref sa),some (.ref t),some (.int n),some (.ref cl),some (.ref pl),b5,b6,b7,a8,a9,zt,xc,oU,xf,tm] H'):
  Cc K D [some (.ref sa),some (.ref t),some (.int n),some (.ref cl),some (.ref pl),a5,a6,a7,a8,a9,zt,xc,oU,xf,tm] H:=by
 have z0:0<=sizeLine:=Nat.zero_le _
 have z1:1<=sizeLine:=by decide
 have z2:2<=sizeLine:=by decide
 refine⟨_,rfl,n,rfl,by omega,by omega,?_⟩
 rw[Int.toNat_natCast]
 refine dF (n:=n) (fun i σ' H'=> ∃ (b5 b6 b7:Option V) (bu:List (List Nat)) (vs:List V) (c':Int),σ'= [some (.ref sa),some (.ref t),some (.int n),some (.ref cl),some (.ref pl),b5,b6,b7,a8,a9,zt,xc,oU,xf,tm]/\bu.length=i/\bu.map List.length=cs.take i/\(∀es∈bu,∀e∈es,1<=e/\e<=2)/\Ey t pl H H'/\Dr K H' sa t ns c'/\c'<=c+3*i/\H' pl=some (.lst vs)/\aq H' (bu.map HQ) vs)
  ⟨_,_,_,[],[],c,rfl,rfl,rfl,fun es he=>(by cases he),fun b o _ _ e=>e,d,by omega,hpl,aq.nil⟩ ?_ ?_
 rotate_left
 ·rintro σ' H' ⟨b5,b6,b7,bu,vs,c',rfl,le,em,he,kp,d1,hc',hp1,rp⟩
  refine⟨Nat.le_refl _,q bu vs b5 b6 b7 H' c' ?_ he kp d1 (by omega) hp1 rp⟩
  rw[em,List.take_of_length_le (by omega)]
 rintro i σ' H1 hi ⟨b5,b6,b7,bu,vs,c',rfl,le,em,he,kp,d1,hc',hp1,rp⟩
 refine⟨hi,?_⟩
 rintro y H1 ⟨rfl,rfl⟩
 rw[Int.zero_add]
 refine⟨z0,fun r0 hr0=> ?_⟩
 have s2:=ah hr0 (.tup [])
 have ek:=List.getElem?_eq_getElem (show i<cs.length by omega)
 have k3:=c3 _ (List.getElem_mem (show i<cs.length by omega))
 refine Bz (k:=cs[i]'(by omega)) (cs:=cs) (d1.same s2) (by omega) k3 (s2 _ _ (kp _ _ JK MV hcl)) ek ac fun es Sw r rs H3 Rt hes Mw d3 Q1 rr=> ?_
 have d2:=d1.same s2
 have Js:=Mw _ _ OD (s2 _ _ hp1)
 have Ld:=s2.tups.trans (Mw.tups d2.tn)
 refine⟨_,rfl,.inl ⟨rfl,_,aN.of Js⟩,_,rfl,z2,fun p1 C0=>⟨z1,fun p2 hp2=> ?_⟩⟩
 have u1:=ah C0 (.tup [.str "tell",.int 9])
 have u2:=ah hp2 (.tup [.ref p1])
 have Pb:=u1.trans u2
 have CS:=u2 _ _ (ac (H:=H3) (a:=p1) (o:= .tup [.str "tell",.int 9]))
 have r1:=rr.len
 have r2:=iU 0 es fun x hx=>(hes x hx).2
 rw[List.length_map]at r1
 refine qK (Pb _ _ Q1) ac (by simp) (by rw[List.length_singleton];omega) fun p3 H4 s4 hp3=> ?_
 have Ky:=Pb.trans s4
 have F0:=Ky _ _ Js
 have lv:=rp.len
 rw[List.length_map]at lv
 refine⟨pl,vs,.ref p3,rfl,rfl,F0,big (by omega),?_⟩
 have O9:bV H4 (upd H4 pl (.lst (vs++ [.ref p3]))):=cY F0
 refine⟨_,_,_,bu++ [es],vs++ [.ref p3],c'+(cs[i]'(by omega):Nat),rfl,by simp[le],?_,fun es' hm=> ?_,?_,(d3.same Ky).put F0 OD,by omega,ac,?_⟩
 ·rw[List.map_append,em,take_one (by omega)]
  show _++ [es.length]=_
  rw[Rt]
 ·rcases List.mem_append.mp hm with hm|hm
  ·exact he es' hm
  ·rw[List.mem_singleton.mp hm];exact hes
 ·intro b o n1 n2 e
  rw[ak n2]
  exact Ky _ _ (Mw _ _ n1 (s2 _ _ (kp b o n1 n2 e)))
 ·rw[List.map_append]
  refine aq.append (O9.reps (Ky.reps (Ld.reps rp))) (aq.one (O9.rep (Rep.mk hp3 ?_)))
  unfold aS
  rw[List.map_append]
  exact aq.append (Ky.reps rr) (aq.one (s4.rep (Gu CS ⟨by rw[EW],by decide⟩ rfl)))
end
end W2
namespace W2
open PySem PySem.Spec PyProof.Rows K2 L2
theorem AC{α:Type} [DecidableEq α]: ∀ {l m:List α},l.Nodup->(∀x∈l,x∈m)->l.length<=m.length
 | [],m,_,_=>Nat.zero_le _
 |x::l,m,hn,h=>by
  obtain⟨h1,h2⟩:=List.nodup_cons.mp hn
  have hx:=h x List.mem_cons_self
  have ih:=AC (m:=m.erase x) h2 fun y hy=>(List.mem_erase_of_ne (show y≠x from fun e=>h1 (by rw[<-e];exact hy))).mpr (h y (List.mem_cons_of_mem _ hy))
  rw[List.length_erase_of_mem hx]at ih
  have:0<m.length:=List.length_pos_of_mem hx
  rw[List.length_cons];omega
def upto(k:Nat):List Int:=(List.range k).map (fun(i:Nat)=>(i:Int))++ [9]
theorem Cj(k:Nat):(upto k).length=k+1:=by unfold upto;rw[List.length_append,List.length_map,List.length_range];rfl
theorem sY{k:Nat}{i:Int}:i∈upto k↔ (0<=i/\i<k)\/i=9:=by
 unfold upto
 rw[List.mem_append,List.mem_singleton,List.mem_map]
 constructor
 ·rintro(⟨j,hj,rfl⟩|h)
  ·rw[List.mem_range]at hj;exact .inl ⟨by omega,by omega⟩
  ·exact .inr h
 ·rintro(⟨h1,h2⟩|h)
  ·exact .inl ⟨i.toNat,List.mem_range.mpr (by omega),by omega⟩
  ·exact .inr h
theorem sZ: ∀k,k<=3->(upto k).Nodup/\(upto k).Pairwise (· <= ·):=by decide+kernel
theorem Ch{es:List Nat}(h3:es.length<=3)(he: ∀e∈es,1<=e): ∀ns:List Int,ns.Nodup->(∀k∈ns,k∈tells (aS es))->ns.length<=4:=fun ns nd h=>by
 have:=AC nd (m:=upto es.length) fun x hx=>sY.mpr ((nO he x).mp (h x hx))
 rw[Cj]at this;omega
theorem En{es:List Nat}(h3:es.length<=3)(he: ∀e∈es,1<=e){ms:List Int}(nd:ms.Nodup)(pw:ms.Pairwise (· <= ·))(hm: ∀k,k∈ms↔k∈tells (aS es)):ms=upto es.length:=by
 obtain⟨n2,p2⟩:=sZ es.length h3
 exact yR nd pw n2 p2 fun k=>by rw[hm,nO he,sY]
theorem qV: ∀l:List Int,kq (l.map fun i=>PV.at (.int i))=0
 | []=>rfl
 |x::l=>by rw[List.map_cons];unfold kq;rw[qV l];rfl
section
variable{P:Program}{w:World}{K:PySem.W.Frag}{C R sa t x:Addr}{ns:List Int}{n B:Nat}{G:RG}{H:Hp}{c:Int}{σ:L2.St}
abbrev Ff(C R:Addr):TE:=wZ R "told" (qk C R) [] E0 (cu 8) (bD (cu 5) bH)
abbrev Hr(P:Program)(w:World)(K:PySem.W.Frag)(C R:Addr):TS:=yU (jY (bD (cu 2) bH)) (bR 5) (Hy (O7 (mF (j8 OI (j8 (sr K) (Ff C R) (Nv (rU fun i=>V.int (-i)) (tC (V.int 1)))) (tC (V.int 9))))
 (mF (j8 (fun x y H Q=> ∃a b xs ys ps,x= .ref a/\y= .ref b/\aN K H a xs/\aN K H b ys/\kq ps<=50/\aq H ps xs/\aq H ps ys/\Q (.bl false) H) (Ho (Bq P w) (bD (Ho (E2 P w K) (bD (Ff C R) bH)) bH))
  (j8 GP (Ho (fun xs H Q=> ∃ (p:Addr) (n:Nat),xs= [.ref p]/\H p=some (.yG 0 n)/\n<=1000/\ ∀l,H l=none->Q (.ref l) (upd H l (.lst ((List.range n).map fun(i:Nat)=>V.int i)))) (bD (Ho (fun xs H Q=> ∃n:Nat,xs= [V.int (n:Int)]/\ ∀r,H r=none->Q (.ref r) (upd H r (.yG 0 n))) (bD (j8 (sr K) (cu 3) (cu 5)) bH)) bH)) (Hz (bD (tC (V.int 9)) bH)))))) (HD (tC (V.bl false))) Ca)
theorem tQ{bu:List (List Nat)}{cl:Addr}{D:Ends}{a0 a1 a4 a5 a6 a7 a9 zt xc oU xf tm:Option V}(ok:eJ bu)(hn:bu.length=n)(hg:G.ae.length=n)(I:aZ none C R B H G)
  (fin: ∀ (i:Nat) (g:HA) (es:List Nat),G.ae[i]? =some g->bu[i]? =some es->g.said=tells (aS es))(hc:H cl=some (.lst (en (bu.map List.length))))
  (q: ∀b5 H',aw H H'->D.nx [a0,a1,some (.int n),some (.ref cl),a4,b5,a6,a7,some (.ref G.x),a9,zt,xc,oU,xf,tm] H'):
  Hr P w K C R D [a0,a1,some (.int n),some (.ref cl),a4,a5,a6,a7,some (.ref G.x),a9,zt,xc,oU,xf,tm] H:=by
 have four:=ok.four
 have z1:1<=sizeLine:=by decide
 refine⟨_,rfl,n,rfl,by omega,by omega,?_⟩
 rw[Int.toNat_natCast]
 refine dF (n:=n) (fun i σ' H'=> ∃b5,σ'= [a0,a1,some (.int n),some (.ref cl),a4,b5,a6,a7,some (.ref G.x),a9,zt,xc,oU,xf,tm]/\aw H H') ⟨_,rfl,aw.refl _⟩ ?_ ?_
 rotate_left
 ·rintro σ' H' ⟨b5,rfl,sm⟩
  exact⟨Nat.le_refl _,q _ _ sm⟩
 rintro i σ' H1 hi ⟨b5,rfl,sm⟩
 refine⟨hi,?_⟩
 rintro y H1 ⟨rfl,rfl⟩
 rw[Int.zero_add]
 have I1:=I.same sm
 have gi:=List.getElem?_eq_getElem (show i<G.ae.length by omega)
 have ei:=List.getElem?_eq_getElem (show i<bu.length by omega)
 have said:=fin i _ _ gi ei
 obtain⟨h3,h12⟩:=ok.es _ (List.getElem_mem (show i<bu.length by omega))
 have he: ∀e∈bu[i]'(by omega),1<=e:=fun e h=>(h12 e h).1
 generalize hes:bu[i]'(by omega)=es at said h3 he ei
 refine⟨_,rfl,G.x,G.dx,_,rfl,I1.ob,rfl,_,rfl,?_⟩
 dsimp only[bH]
 refine⟨G,B,i,_,rfl,I1,gi,fun l hl=> ?_⟩
 rw[said]
 have s1:=ah hl (.lst (aC (tells (aS es))))
 have la:tq (aC (tells (aS es))) (-1)=some (.int 9):=by
  rw[gm]
  unfold aC
  rw[List.map_append]
  exact zw _ _
 refine⟨1,rfl,l,_,-1,.int 9,rfl,rfl,aN.of ac,la,rfl,_,rfl,bO ?_⟩
 generalize upd H1 l (.lst (aC (tells (aS es))))=H2 at s1
 have I2:=I1.same s1
 refine⟨_,rfl,G.x,G.dx,_,rfl,I2.ob,rfl,_,rfl,?_⟩
 dsimp only[bH]
 refine⟨G,B,i,_,rfl,I2,gi,fun l2 hl2=> ?_⟩
 rw[said]
 have s2:=ah hl2 (.lst (aC (tells (aS es))))
 have few:=Ch h3 he
 refine⟨l2,tells (aS es),rfl,aN.of ac,few,fun S hS=> ?_⟩
 have s3:=ah hS (ot P w S (tells (aS es)))
 refine⟨S,tells (aS es),rfl,ac,few,fun l3 ms hl3 nd pw mem=> ?_⟩
 rw[En h3 he nd pw mem]
 have s4:=ah hl3 (.lst ((upto es.length).map V.int))
 have Jj:=ac (H:=upd (upd H2 l2 (.lst (aC (tells (aS es))))) S (ot P w S (tells (aS es)))) (a:=l3) (o:= .lst ((upto es.length).map V.int))
 have OR:=s2.trans (s3.trans s4)
 generalize upd (upd (upd H2 l2 (.lst (aC (tells (aS es))))) S (ot P w S (tells (aS es)))) l3 (.lst ((upto es.length).map V.int))=H5 at OR Jj⊢
 have Ii:=sm.trans (s1.trans OR)
 refine⟨_,rfl,_,rfl,cl,_,i,.int (es.length:Nat),rfl,rfl,aN.of (Ii _ _ hc),bc (by unfold en;rw[List.getElem?_map,List.getElem?_map,ei];rfl),es.length,rfl,fun r hr=> ?_⟩
 have s6:=ah hr (.yG 0 es.length)
 refine⟨r,es.length,rfl,ac,by omega,fun l4 zh=> ?_⟩
 have s7:=ah zh (.lst ((List.range es.length).map fun(i:Nat)=>V.int i))
 refine⟨z1,fun l5 QQ=> ?_⟩
 have s8:=ah QQ (.lst [.int 9])
 refine⟨l4,l5,_,_,rfl,rfl,s8 _ _ ac,ac,?_,fun l6 Jk=> ?_⟩
 ·rw[List.length_map,List.length_range];exact small (by simp;omega)
 have s9:=ah Jk (.lst (((List.range es.length).map fun(i:Nat)=>V.int i)++ [.int 9]))
 have OT:=s6.trans (s7.trans (s8.trans s9))
 have eu:(upto es.length).map V.int=((List.range es.length).map fun(i:Nat)=>V.int i)++ [.int 9]:=by
  unfold upto
  rw[List.map_append,List.map_map];rfl
 refine⟨l3,l6,_,_,(upto es.length).map fun i=> .at (.int i),rfl,rfl,aN.of (OT _ _ Jj),aN.of ac,by rw[qV];decide,cS _,?_,_,rfl,bO ?_⟩
 ·rw[<-eu];exact cS _
 exact⟨_,rfl,Ii.trans OT⟩
theorem yT{bu:List (List Nat)}{p q4:Addr}{vs:List V}(rp:aq H (bu.map HQ) vs)(hp:H p=some (.tup (vs.dropLast++ [.ref q4])))(h4:Rep H (.tup [(aB.take 0 5 [97]).pv]) (.ref q4)):Rep H (fk (cN bu)) (.ref p):=by
 refine Rep.mk hp ?_
 unfold cN
 rw[List.map_append]
 refine aq.append ?_ (aq.one h4)
 have e:(bu.map aS).dropLast.map (fun ds=>PV.tup (ds.map aB.pv))=(bu.map HQ).dropLast:=by
  rw[<-List.map_dropLast,<-List.map_dropLast,List.map_map];rfl
 rw[e,List.dropLast_eq_take,List.dropLast_eq_take,<-rp.len]
 exact rp.take _
end
end W2
namespace W2
open PySem PySem.Spec PyProof.Rows K2 L2
structure zo(P:Program)(w:World)(K:PySem.W.Frag)(mg:Str->Option Value)(base:Heap)(C R:Addr):Prop where
 ex: ∃f fd t,Mk K R f/\aI P w K mg base br 9 f fd ["self", "program", "room"] (qj C R)/\Binds K fd ["self", "program", "room"] [.int 0 t]
 at_:mg "Run"=some (.ref R)
structure Ew(P:Program)(w:World)(K:PySem.W.Frag)(mg:Str->Option Value)(base:Heap):Prop where
 ex: ∃f fd t,aI P w K mg base br 12 f fd ["program", "room"] wU/\Binds K fd ["program", "room"] [.int 0 t]/\fJ K fd ["program", "room"] ["room"] CO CO/\mg "can_stick"=some (.ref f)/\PySem.W.keepIn K (.ref f)=true
inductive wS(K:PySem.W.Frag)(vs:List V)(H:Hp)(Q:VK)(fG:XK):Prop
 |mk (a ns:_) (_:vs= [.ref a]) (_:qv K H a ns) (_:ns.length<=63) (_: ∀H',Q (.bl true) H')
theorem CL{J:It}{n:Nat}{g:TG}{tb:TS}{D:Ends}{Kz:L2.St}{H0:Hp}(Pv:Nat->L2.St->Hp->Prop)(Fin:L2.St->Hp->Prop)(h0:Pv 0 Kz H0)
  (hgo:(∀σ H,Fin σ H->D.nx σ H)-> ∀i σ H,i<n->Pv i σ H->J.go i H/\ ∀x H',J.mZ i H x H'->g x σ H' fun σ2 H2=>tb {D with nx:=Pv (i+1),ct:=Pv (i+1),bk:=D.nx} σ2 H2)
  (hstop: ∀σ H,Pv n σ H->J.stop n H/\Fin σ H)(Jc: ∀σ H,Fin σ H->D.nx σ H):
  ∃W:Nat->Nat->L2.St->Hp->Prop,(∃m,W 0 m Kz H0)/\ ∀i m σ H,W i m σ H->
   (J.stop i H/\D.nx σ H)\/(J.go i H/\ ∃N:L2.St->Hp->Prop,(∀σ' H',N σ' H'-> ∃m',m'<m/\W (i+1) m' σ' H')/\ ∀x H',J.mZ i H x H'->g x σ H' fun σ2 H2=>tb {D with nx:=N,ct:=N,bk:=D.nx} σ2 H2):=
 dF Pv h0 (hgo Jc) fun σ H h=>⟨(hstop σ H h).1,Jc σ H (hstop σ H h).2⟩
theorem qv.of_keep{K:PySem.W.Frag}{H H':Hp}{a:Addr}{ns:List Int}(h:qv K H a ns)(k: ∀o,H a=some o->H' a=some o):qv K H' a ns:=by
 rcases h with⟨o,h⟩|h
 ·exact .inl ⟨o,k _ h⟩
 ·exact .inr h
structure Fk(K:PySem.W.Frag)(C R sa t cl pl:Addr)(ns:List Int)(bu:List (List Nat))(vs:List V)(G0:RG)(i:Nat)(G:RG)(H:Hp):Prop where
 run:aZ none C R i H G
 gs:Goes G0 G
 nu:G.nu+i<=40
 dr: ∃c,Dr K H sa t ns c/\c<=2^20+i
 hc:H cl=some (.lst (en (bu.map List.length)))
 hp:H pl=some (.lst vs)
 rp:aq H (bu.map HQ) vs
theorem Fk.same{K:PySem.W.Frag}{C R sa t cl pl:Addr}{ns:List Int}{bu:List (List Nat)}{vs:List V}{G0:RG}{i:Nat}{G:RG}{H H':Hp}(a:Fk K C R sa t cl pl ns bu vs G0 i G H)(s:aw H H'):Fk K C R sa t cl pl ns bu vs G0 i G H':=by
 obtain⟨c,d,hc⟩:=a.dr
 exact⟨a.run.same s,a.gs,a.nu,⟨c,d.same s,hc⟩,s _ _ a.hc,s _ _ a.hp,s.reps a.rp⟩
section
variable{P:Program}{w:World}{K:PySem.W.Frag}{mg:Str->Option Value}{base:Heap}
theorem GA{f C R:Addr}{fd:FuncData}(F:cE K "law" "law" mU f fd)(T:Tx mg)(T2:Ez mg)(hR:dW K R)
  (hto:f9 P w K mg base br 1 "_law_town" ["_law_script"] (B5 K))(hdr:f9 P w K mg base br 1 "_law_draw" ["_law_script", "_law_town_here", "_law_many"] (mB K))(HZ:f9 P w K mg base br 2 "_law_pick" ["_law_script", "_law_town_here", "_law_some"] (B3 K))
  (EJ:zo P w K mg base C R)(hst:Ew P w K mg base)(hev:bX P w K mg base R 4 "events" ["self"] (fE C R))(hdo:bX P w K mg base R 6 "do" ["self", "event"] (Kl C R))(C3:bX P w K mg base R 1 "told" ["self", "hand"] (qk C R))(EQ:bX P w K mg base R 5 "state" ["self"] (wT C R)):aI P w K mg base br 13 f fd ["_law_script"] (wS K):=by
 obtain⟨f0,N1,t0,ML,Jg,hb0⟩:=EJ.ex
 obtain⟨f5,SE,t5,Od,Qu,QO,Og,KW⟩:=hst.ex
 obtain⟨g1,CQ,hm1,jA,hb1⟩:=hev
 obtain⟨g2,zg,hm2,gK,hb2⟩:=hdo
 obtain⟨g3,N2,FX,FV,Cn⟩:=C3
 obtain⟨g4,SF,QS,QG,Qt⟩:=EQ
 refine F.ok dB (fun vs H Q E h=> ?_) (fun cdv A outer s H vs Q E hr h=> ?_)
 ·obtain⟨_,_,rfl,_⟩:=h;rfl
 obtain⟨sa,ns,rfl,Jt,h63,q⟩:=h
 have hun:=hr.un
 have Q9:(A.deeper (envOfC "law" (am mU) s.heap.objs.size f cdv)).units<cLine:=by omega
 have hu1:(A.deeper (envOfC "law" (am mU) s.heap.objs.size f cdv)).units+100<cLine:=by omega
 refine⟨_,ag (aJ (i:=1) dB.nd rfl (Or.inr rfl) (aF hto hr rfl aD (aa (pv 0) af)))
  (ag (aJ (i:=2) dB.nd rfl (Or.inl rfl) (bp fQ au (aF hdr hr rfl aD (aa (pv 0) (aa (pv 1) (aa au af))))))
  (ag (wE (j:=5) (d:= "") (fR (i:=3) (T:= ["_law_me"]) (cr (am mU) De rfl rfl (by decide+kernel)) rfl AA rfl rfl (cA rfl T.range (aa (pv 2) af)) (fun Y hY=>by cases hY;exact aG (i:=0) Az rfl (Or.inl rfl)) bA (fun Y _=>cK) (fun Y hY=>by cases hY;exact aF hdr hr rfl aD (aa (pv 1) (aa (pv 2) (aa au af))))))
  (ag (aJ (i:=4) dB.nd rfl (Or.inl rfl) (bS af)) (ag (cX PassesOwn.never rfl (cA rfl T.range (aa (pv 2) af)) (aG (i:=5) dB.nd rfl (Or.inl rfl)) (ag (aJ (i:=6) dB.nd rfl (Or.inl rfl) (bC af))
  (ag (cX PassesOwn.never rfl (cA rfl T.range (aa (aK bm (pv 3) (pv 5) (fun _ _=>rfl)) af)) (aG (i:=7) dB.nd rfl (Or.inl rfl)) (ap (aJ (i:=6) dB.nd rfl (Or.inl rfl) (bp kC (bp wq (pv 6) (bp DF (bC (aa (bC (aa bB (aa (pv 7) af))) af)) (bp fQ au (aF hdr hr rfl aD (aa (pv 0) (aa (pv 1) (aa au af))))))) (bC (aa (bC (aa bB af)) af))))))
  (ap (aT (i9 PySem.F.plainAttrs_list PySem.F.slot_list_append PySem.F.type_list_append dR (pv 4) (aa (bp wq (pv 6) (bC (aa (bC (aa bB (aa au af))) af))) af)))))))
  (ag (aJ (i:=8) dB.nd rfl (Or.inr rfl) (wA ML Jg (hr.mono (by decide)) rfl EJ.at_ hb0 (kr:= [.int 0]) (.cons ⟨_,rfl⟩ .nil) aD (aa (bf bN rfl T.tuple boot_tuple (aa (pv 4) af)) af)))
  (ag (cX PassesOwn.never rfl (cA rfl T.range (aa au af)) (aG (i:=7) dB.nd rfl (Or.inl rfl)) (ag (aJ (i:=9) dB.nd rfl (Or.inl rfl) (bo (pv 8) hR.cl hm1 jA (hr.mono (by decide)) hb1 .nil aD))
  (ag (bL (aP (wu Q9) (pv 9) (bS af) (aY _)) (ap Bk) aU)
  (ag (aT (bQ (pv 8) hR.cl hm2 gK (hr.mono (by decide)) hb2 .nil aD (aa (aF HZ hr rfl aD (aa (pv 0) (aa (pv 1) (aa (pv 9) af)))) af)))
  (ag (wE (j:=5) (d:= "") (fR (i:=10) (T:= ["_law_me"]) (cr (am mU) De rfl rfl (by decide+kernel)) rfl AA rfl rfl (cA rfl T.range (aa (pv 2) af)) (fun Y hY=>by cases hY;exact aG (i:=0) Az rfl (Or.inl rfl)) bA (fun Y _=>cK) (fun Y hY=>by cases hY;exact gv (BX K rfl) (bQ (pv 9) hR.cl FX FV (hr.mono (by decide)) Cn .nil aD (aa (pv 0) af)) (je (wB qq au)) jd)))
  (ap (cX PassesOwn.never rfl (cA rfl T.range (aa (pv 2) af)) (aG (i:=5) dB.nd rfl (Or.inl rfl)) (ap (cX PassesOwn.never rfl (cA rfl T.range (aa (pv 2) af)) (aG (i:=11) dB.nd rfl (Or.inl rfl)) (ag (aJ (i:=12) dB.nd rfl (Or.inl rfl) (fz (aP fw au (aK bm (pv 10) (pv 5) (fun _ _=>rfl)) rfl) (aK bm (pv 3) (pv 5) (fun _ _=>rfl)) (aA (nA rfl) rfl T2.max boot_max (aa (bp lT (aK bm (pv 10) (pv 5) (fun _ _=>rfl)) (bS (aa au af))) af))))
  (ag (aJ (i:=13) dB.nd rfl (Or.inl rfl) (fz (aP fw au (aK bm (pv 10) (pv 11) (fun _ _=>rfl)) rfl) (aK bm (pv 3) (pv 11) (fun _ _=>rfl)) (aA (nA rfl) rfl T2.max boot_max (aa (bp lT (aK bm (pv 10) (pv 11) (fun _ _=>rfl)) (bS (aa au af))) af))))
  (ap (bL (PW.pt (uW (aP pM au (aK bm (pv 10) (pv 11) (fun _ _=>rfl)) rfl) (pS (aP nS (pv 12) (bp fQ (pv 13) au) (aY _))))) (ap (aE fV)) aU)))))))))))))
  (ag (bL (PW.pt (gy (aP nU (bo (pv 8) hR.cl QS QG (hr.mono (by decide)) Qt .nil aD) bB (aY _)) (gz (aP yt (ww Od (hr.mono (by decide)) rfl Og KW Qu (kr:= [.int 0]) (.cons ⟨_,rfl⟩ .nil) aD (aa (bf bN rfl T.tuple boot_tuple (aa (pv 4) af)) af)) fV (aY _))))) (ap (aE fV)) aU)
  (ag (cX PassesOwn.never rfl (cA rfl T.range (aa (pv 2) af)) (aG (i:=5) dB.nd rfl (Or.inl rfl)) (ap (bL (PW.pt (gy (aP nU (aK bm (bQ (pv 8) hR.cl FX FV (hr.mono (by decide)) Cn .nil aD (aa (pv 5) af)) (wB qq au) (fun _ _=>rfl)) au (aY _)) (gz (aP (DG hu1) (aA (tP rfl) rfl T2.sorted boot_sorted (aa (bf (xl rfl) rfl T2.set boot_set (aa (bQ (pv 8) hR.cl FX FV (hr.mono (by decide)) Cn .nil aD (aa (pv 5) af)) af)) af)) (bp lT (bf (gX rfl) rfl T.list boot_list (aa (bf qI rfl T.range boot_range (aa (aK bm (pv 3) (pv 5) (fun _ _=>rfl)) af)) af)) (bS (aa au af))) (aY _))))) (ap (aE fV)) aU)))
  (ag (aJ (i:=14) dB.nd rfl (Or.inl rfl) (bp kC (bf bN rfl T.tuple boot_tuple (aa (gv wO (pv 4) jd (je (wB qq au))) af)) (bC (aa (bC (aa (bC (aa bB (aa au (aa au (aa bB af))))) af)) af))))
  (ap (aE (dO GF (si Od (hr.mono (by decide)) rfl Og KW QO aD (aa (pv 14) af) (kG jL pP)) fV (aY _))))))))))))),?_⟩
 have z0:0<=sizeLine:=Nat.zero_le _
 have z1:1<=sizeLine:=by decide
 have z4:4<=sizeLine:=by decide
 refine⟨_,rfl,sa,ns,rfl,Jt,h63,fun t H1 s1 ht0 Sk=> ?_⟩
 have d1:Dr K H1 sa t ns 0:=⟨Jt.of_keep fun o e=>s1 _ _ e,Sk,h63,by omega,by decide⟩
 refine⟨_,rfl,_,rfl,sa,t,ns,0,3,rfl,d1,by decide,by decide,fun d H2 d0 d3 k2 El=>⟨2,d,rfl,rfl,?_⟩⟩
 obtain⟨n,hn⟩: ∃n:Nat,2+d=(n:Int):=⟨(2+d).toNat,by omega⟩
 show bR 2 (V.int (2+d)) _ _ _
 rw[hn]
 have n2:2<=n:=by omega
 have n4:n<=4:=by omega
 have d2:Dr K H2 sa t ns 1:=⟨k2.vm d1.tn d1.vm,El,h63,by decide,by decide⟩
 dsimp only[bR,vq,qo]
 refine qQ (n:=n) d2 (by decide) n4 ?_ ?_ ?_ fun cl cs H3 k3 d3 JK hcl lc c3=> ?_
 ·rfl
 ·rfl
 ·rfl
 refine⟨z0,fun pl hpl=> ?_⟩
 have s4:=ah hpl (.lst [])
 have Ox:=ay hcl hpl
 refine By (n:=n) (d3.same s4) (by omega) n4 lc c3 (s4 _ _ hcl) JK ac (d3.tn.ne hpl) Ox fun bu vs b5 b6 b7 H5 c5 em he KW d5 hc5 F1 OL=> ?_
 have len:bu.length=n:=by rw[<-lc,<-em,List.length_map]
 have ok:eJ bu:=⟨by omega,by omega,fun es hm=>⟨c3 _ (by rw[<-em];exact List.mem_map.mpr ⟨es,hm,rfl⟩),he es hm⟩⟩
 have I0:H5 cl=some (.lst (en (bu.map List.length))):=by rw[em];exact KW _ _ JK Ox (s4 _ _ hcl)
 have MB:(bu.map aS).length<=4:=by rw[List.length_map];omega
 have OJ: ∀m:Nat,some 0=some m->m<=99:=fun m e=>by cases e;decide
 have NV:(bu.map aS).map (fun ds=>PV.tup (ds.map aB.pv))=bu.map HQ:=by rw[List.map_map];rfl
 refine⟨_,rfl,pl,vs,rfl,.inl ⟨aN.of F1,fun v hv=> ?_⟩⟩
 have s6:=ah hv (.tup vs)
 have R7:Rep (upd H5 v (.tup vs)) (fk (bu.map aS)) (.ref v):=Rep.mk ac (by rw[NV];exact s6.reps OL)
 refine fun x dx hx hdx nx=> ?_
 have Nl:=ah hdx (.own x)
 have hx':upd (upd H5 v (.tup vs)) dx (.own x) x=none:=by rw[ak nx.symm];exact hx
 have s7:=Nl.trans (ah hx' (.ins R dx []))
 refine⟨x,dx,bu.map aS,some 0,.ref v,rfl,ac,s7.rep R7,ok.good.ok.ok,MB,OJ,fun G0 H7 ex IR fr Rq FH=>⟨rfl,?_⟩⟩
 have out: ∀b o,H5 b=some o->b∉G0.cells:=fun b o e hb=>by
  rcases FH b hb with z|z
  ·rw[z,s6.free hx]at e;cases e
  ·rw[s7 _ _ (s6 _ _ e)]at z;cases z
 have KU:aw H5 H7:=fun b o e=>Rq b o (fun z=>by subst z;rw[s6.free hx]at e;cases e) (s7 _ _ (s6 _ _ e))
 have nt:t∉G0.cells:=by
  obtain⟨cells,e,_⟩:=d5.tn
  exact out t _ e
 have RW:=out pl _ F1
 have MO:=out cl _ I0
 have C9: ∀Ha Hb:Hp,qv K Ha sa ns->(∀b o,b∉G0.cells->Ha b=some o->Hb b=some o)->qv K Hb sa ns:=fun Ha Hb h k=>by
  rcases d5.vm with⟨o,e⟩|e
  ·exact h.of_keep fun o' e'=>k sa o' (out sa _ e) e'
  ·exact .inr e
 obtain⟨NR,RL⟩:=ok.good.new _ G0 fr
 have SU:=ok.nu fr
 have no: ∀ds∈bu.map aS,jK ds:=fun ds hd=>by
  obtain⟨es,_,rfl⟩:=List.mem_map.mp hd
  exact rE es
 have A0:Fk K C R sa t cl pl ns bu vs G0 0 G0 H7:=⟨IR,.refl _,by omega,⟨c5,d5.same KU,by omega⟩,KU _ _ I0,KU _ _ F1,KU.reps OL⟩
 refine⟨80,rfl,by decide,by decide,?_⟩
 refine CL (n:=80) (fun i σ' H'=> ∃ (G:RG) (b5 b6 b7 b9 HN qC qD qE:Option V),σ'= [some (.ref sa),some (.ref t),some (.int n),some (.ref cl),some (.ref pl),b5,b6,b7,some (.ref x),b9,HN,qC,qD,qE,none]/\Fk K C R sa t cl pl ns bu vs G0 i G H')
  (fun σ' H'=> ∃ (i:Nat) (G:RG) (b5 b6 b7 b9 HN qC qD qE:Option V),σ'= [some (.ref sa),some (.ref t),some (.int n),some (.ref cl),some (.ref pl),b5,b6,b7,some (.ref x),b9,HN,qC,qD,qE,none]/\Fk K C R sa t cl pl ns bu vs G0 i G H'/\G.goes= []) ⟨G0,_,_,_,_,_,_,_,_,rfl,A0⟩ ?_ ?_ ?_
 ·rintro fin i σ' H8 hi ⟨G,b5,b6,b7,b9,HN,qC,qD,qE,rfl,A8⟩
  refine⟨hi,?_⟩
  rintro k8 H8 ⟨rfl,rfl⟩
  have ao:=A8.gs.ok NR
  have gx:G.x=x:=A8.gs.x.trans ex
  have gc:G.cells=G0.cells:=A8.gs.cells
  refine⟨_,rfl,x,G.dx,_,rfl,(by rw[<-gx];exact A8.run.ob),rfl,?_⟩
  dsimp only[bH]
  refine⟨G,i,by rw[gx];rfl,A8.run,ao.ev,fun l ys H9 s9 Cp hl ry=> ?_⟩
  have A9:=A8.same s9
  refine⟨_,rfl,z0,fun e0 QC=> ?_⟩
  have yJ:=ah QC (.lst [])
  have Rw:=ry.len
  rw[List.length_map]at Rw
  refine⟨l,e0,ys,rfl,rfl,aN.of (yJ _ _ hl),aN.of ac,_,rfl,bY (fun c=> ?_) (fun c=> ?_)⟩
  ·refine fin _ _ ⟨i,G,_,_,_,_,_,_,_,_,rfl,A9.same yJ,?_⟩
   have y0:ys.length=0:=by rw[List.isEmpty_iff.mp c];rfl
   exact List.eq_nil_of_length_eq_zero (by omega)
  have NA:1<=ys.length:=by
   cases ys with
   |nil=>exact absurd rfl c
   |cons _ _=>simp
  have Fj:=A9.same yJ
  have Ai:=yJ _ _ hl
  have Ke:=yJ.reps ry
  generalize upd H9 e0 (.lst [])=vD at Fj Ai Ke⊢
  obtain⟨NU,Fz,Qy⟩:=Fj.dr
  have RT:l≠t:=fun z=>by
   obtain⟨c8,d8,_⟩:=A8.dr
   obtain⟨LA,e8,_⟩:=d8.tn
   rw[z,e8]at Cp;cases Cp
  have SM:G.goes.length<=10:=by
   have h1:G.goes.length<=(List.range G.ae.length).length:=List.length_filter_le _ _
   rw[List.length_range]at h1
   have:=ao.ev.ae
   omega
  refine⟨_,rfl,x,G.dx,_,rfl,(by rw[<-gx];exact Fj.run.ob),rfl,_,rfl,_,rfl,_,rfl,sa,t,ns,NU,l,ys,rfl,Fz,RT,Ai,NA,by omega,fun ev Ip hev JE Nw=> ?_⟩
  have Nm:=JE.tups Fz.tn
  have Mv: ∀b∈G.cells,∀o,vD b=some o->Ip b=some o:=fun b hb o e=>JE b o (fun z=>by rw[z,gc]at hb;exact nt hb) e
  have Pk:=Fj.run.frame Nm Mv
  obtain⟨j,hj,rp⟩: ∃j,j∈G.goes/\Rep Ip (mO j) ev:=by
   obtain⟨ix,hix,P7⟩:=List.getElem_of_mem hev
   obtain⟨p,ep,rp⟩:=Ke.get (show ys[ix]? =some ev by rw[List.getElem?_eq_getElem hix,P7])
   rw[List.getElem?_map]at ep
   cases eg:G.goes[ix]? with
   |none=>rw[eg]at ep;cases ep
   |some j=>
    rw[eg]at ep;cases ep
    exact⟨j,List.mem_of_getElem? eg,Nm.rep rp⟩
  obtain⟨g,dd,rest,hg,er,hw⟩:=pc hj
  have sm:=ao.sm g (List.mem_of_getElem? hg)
  refine⟨G,i,ev,j,g,dd,rest,by rw[gx];rfl,Pk,ao.ev,by omega,rp,hg,er,hw,by omega,by omega,fun Iq oU=> ?_⟩
  have go:nc G j (G.aW j (g.step dd)).pass:= .mk hg er hw
  generalize(G.aW j (g.step dd)).pass=G' at oU go
  have gs':Goes G0 G':=A8.gs.step go
  have x2:G'.x=x:=gs'.x.trans ex
  have SS:=go.nu
  have SV:=A8.nu
  have Jh:G'.ae.length=n:=by rw[gs'.len,fr.len,List.length_map,len]
  have Dc: ∀b o,b∉G0.cells->Ip b=some o->Iq b=some o:=fun b o nb e=>oU.keep b o (by rw[gc];exact nb) e
  have LC:Dr K Iq sa t ns (NU+1):=by
   refine⟨C9 Ip Iq (JE.vm Fz.tn Fz.vm) Dc,?_,h63,by have:=Fz.c0;omega,by omega⟩
   obtain⟨cells,e,l2⟩:=Nw
   exact⟨cells,Dc t _ nt e,l2⟩
  have Ik:Fk K C R sa t cl pl ns bu vs G0 (i+1) G' Iq:=by
   refine⟨oU.is,gs',by omega,⟨_,LC,by omega⟩,Dc _ _ MO (JE _ _ ?_ Fj.hc),Dc _ _ RW (JE _ _ ?_ Fj.hp),oU.tups.reps (Nm.reps Fj.rp)⟩
   ·exact JK
   ·exact d3.tn.ne hpl
  dsimp only[bR,vq,qo]
  refine ur (n:=n) oU.is Jh n4 ?_ ?_ fun la ls NK G6 hla hls=> ?_
  ·rfl
  ·rw[x2];rfl
  have NI:=Ik.same G6
  exact uR ok ((LI.new fr).goes no gs') len Jh hla hls NI.hc fun b5 qC qD qE Pj OQ=>⟨G',_,_,_,_,_,_,_,_,rfl,NI.same OQ⟩
 ·rintro σ' H8 ⟨G,b5,b6,b7,b9,HN,qC,qD,qE,rfl,A8⟩
  have:=A8.nu
  omega
 rintro σ' H8 ⟨i,G,b5,b6,b7,b9,HN,qC,qD,qE,rfl,A8,e0⟩
 have ao:=A8.gs.ok NR
 have gx:G.x=x:=A8.gs.x.trans ex
 have ended:=((LI.new fr).goes no A8.gs).ended e0
 have Jh:G.ae.length=n:=by rw[A8.gs.len,fr.len,List.length_map,len]
 have NT: ∀ {i:Nat} {es:List Nat},bu[i]? =some es->(bu.map aS)[i]? =some (aS es):=fun{i es} e=>by rw[List.getElem?_map,e];rfl
 have Lw:(G.ae.all fun g=>decide (g.rows.length=0))=true:=by
  rw[List.all_eq_true]
  intro g hg
  obtain⟨k,hk⟩:=List.getElem?_of_mem hg
  have QP:k<bu.length:=by rw[len,<-Jh];exact(List.getElem?_eq_some_iff.mp hk).1
  rw[(ended k g _ hk (NT (List.getElem?_eq_getElem QP))).1]
  rfl
 refine⟨_,rfl,x,G.dx,_,rfl,(by rw[<-gx];exact A8.run.ob),rfl,?_⟩
 dsimp only[bH]
 refine⟨G,i,by rw[gx];rfl,A8.run,ao.ev,e0,fun H9 s9=> ?_⟩
 rw[if_pos Lw]
 refine⟨rfl,_,rfl,bO ?_⟩
 have A9:=A8.same s9
 refine⟨_,rfl,pl,vs,rfl,.inl ⟨aN.of A9.hp,fun v9 Rb=> ?_⟩⟩
 have yJ:=ah Rb (.tup vs)
 refine⟨bu.map aS,.ref v9,some 0,rfl,Rep.mk ac (by rw[NV];exact yJ.reps A9.rp),ok.good,OJ,fun G1 G2 Ip Qc Qg e1 BB=>⟨_,false,rfl,rfl,_,rfl,?_⟩⟩
 rw[ok.left Qc Qg e1]
 refine bO ?_
 have Li:=A9.same (yJ.trans BB)
 rw[<-gx]
 refine tQ (n:=n) ok len Jh Li.run (fun i g es e1 e2=>(ended i g _ e1 (NT e2)).2) Li.hc fun b5 Iq s12=> ?_
 have Ik:=Li.same s12
 refine⟨_,rfl,1,rfl,-1,rfl,pl,vs,rfl,aN.of Ik.hp,fun p1 hp1=> ?_⟩
 rw[zB]
 have u1:=ah hp1 (.lst vs.dropLast)
 refine⟨p1,_,rfl,.inl ⟨aN.of ac,fun p2 hp2=> ?_⟩⟩
 have u2:=ah hp2 (.tup vs.dropLast)
 refine⟨z4,fun p3 hp3=>⟨z1,fun p4 FZ=>⟨z1,fun p5 C1=> ?_⟩⟩⟩
 have u3:=ah hp3 (.tup [.str "take",.int 0,.int 5,.str "a"])
 have u4:=ah FZ (.tup [.ref p3])
 have u5:=ah C1 (.tup [.ref p4])
 have lv:=Ik.rp.len
 rw[List.length_map]at lv
 refine qL ((u3.trans (u4.trans u5)) _ _ ac) ac (fun z=> ?_) (by simp) (by rw[List.length_dropLast,List.length_singleton];omega) fun p6 NK G6 Jo=> ?_
 ·have:=congrArg List.length z
  rw[List.length_dropLast,List.length_nil]at this
  omega
 have Sn:=u1.trans (u2.trans (u3.trans (u4.trans (u5.trans G6))))
 have h3:=(u4.trans (u5.trans G6)) _ _ (ac (a:=p3) (o:= .tup [.str "take",.int 0,.int 5,.str "a"]))
 have h4:=(u5.trans G6) _ _ (ac (a:=p4) (o:= .tup [.ref p3]))
 have rt:Rep NK (.tup [(aB.take 0 5 [97]).pv]) (.ref p4):=Rep.mk h4 (aq.one (Rep.mk h3 (aq.cons ⟨by rw[JF],by decide⟩ (aq.cons rfl (aq.cons rfl (aq.one ⟨by rw[sA],by decide⟩))))))
 refine⟨_,rfl,cN bu,.ref p6,none,rfl,yT (Sn.reps Ik.rp) Jo rt,ok.IV,fun m e=>(by cases e),fun G3 G4 Pj tw Qh e3 OQ=>⟨_,true,rfl,rfl,?_⟩⟩
 rw[ok.JG tw Qh]
 exact q _
end
end W2
namespace W2
open PySem PySem.Spec PyProof.Rows K2 L2
section
variable{P:Program}{w:World}{K:PySem.W.Frag}{mg:Str->Option Value}{base:Heap}
def bv(K:PySem.W.Frag)(x:Str)(st:Stmt):Prop:= ∃f fd,PySem.W.nsIn K mainGlobals x=some (some (.ref f))/\cE K x x st f fd
theorem zI{x:Str}{st:Stmt}{f:Addr}{oc:Value}{od an:Option Addr}{osl:Array (Option Value)}{kV doc pm cdv ct:Value}(a:PySem.W.nsIn K mainGlobals x=some (some (.ref f)):=by k_is)
  (l:K.lookup f=some ⟨oc,od,.func (PySem.W.fnOf x x (bK st) (bJ st) (am st) .none kV doc pm an cdv ct),osl⟩:=by k_is)
  (c:PySem.W.codeIn K cdv x=true:=by k_is)(k:PySem.W.keepIn K (.ref f)=true:=by k_is):bv K x st:=⟨f,_,a,pb l c k⟩
abbrev Cv(x:Str)(st:Stmt)(ps:List Str):Prop:= ∀ (kV doc pm:Value) (an:Option Addr) (cdv ct:Value) (us:List Value),us.length=ps.length->bindArgs (PySem.W.fnOf x x (bK st) (bJ st) (am st) .none kV doc pm an cdv ct) ⟨us,[]⟩=pure (ps.zip us)
theorem FT{h:Heap}{CX:tj}{k:Nat}{x:Str}{st:Stmt}{ps:List Str}{sp:Sp}(X:K.In h)(G:h.Ns mainGlobals mg)(D:bv K x st)(hb:Cv x st ps)
  (ok: ∀f fd,cE K x x st f fd->Binds K fd ps []->mg x=some (.ref f)->aI P w K mg base CX k f fd ps sp):f9 P w K mg base CX k x ps sp:=by
 obtain⟨f,fd,e,F⟩:=D
 have m:=PySem.W.mg_of X G e
 have B:=F.binds hb
 exact⟨⟨f,fd,ok f fd F B m,B,m,F.kp⟩⟩
inductive iN(Pm:Params):List DictEntry->List (Str×V)->Prop
 |nil:iN Pm [] []
 |cons {x:Str} {t:Tok} {u:Value} {v:V} {l:List DictEntry} {kvs:List (Str×V)} (r:RelV v u) (rest:iN Pm l kvs):iN Pm (⟨PyData.keyHash Pm x,.str x t,u⟩::l) ((x,v)::kvs)
theorem iN.keys{Pm:Params}{prog:Program}{w:World}(hw:w.params=Pm): ∀ {l:List DictEntry} {kvs:List (Str×V)},iN Pm l kvs-> ∀e∈l,∃k,(aO prog w).is k e.key=true/\e.hash=(aO prog w).hash k
 |_,_,.nil,_,h=>nomatch h
 |_,_,.cons (x:=x) (t:=t) r rest,e,h=>by
  cases h with
  |head=>exact⟨Sum.inr x,eU prog w x t,by subst hw;rfl⟩
  |tail _ h=>exact rest.keys hw e h
theorem iN.pairs{Pm:Params}{prog:Program}{w:World}: ∀ {l:List DictEntry} {kvs:List (Str×V)},iN Pm l kvs-> ∃vs:List (Key×Value),KV (kvs.map fun p=>((Sum.inr p.1:Key),p.2)) vs/\Pairs (aO prog w) l vs/\vs.map (·.1)=kvs.map fun p=>(Sum.inr p.1:Key)
 |_,_,.nil=>⟨[],.nil,.nil,rfl⟩
 |_,_,.cons (x:=x) (t:=t) (u:=u) r rest=>by
  obtain⟨vs,h1,h2,h3⟩:=rest.pairs (prog:=prog) (w:=w)
  exact⟨(Sum.inr x,u)::vs,.cons ⟨rfl,r⟩ h1,.cons (eU prog w x t) rfl h2,by rw[List.map_cons,List.map_cons,h3]⟩
theorem lL{a:Addr}{l:List DictEntry}{n:Nat}{kvs:List (Str×V)}(hl:K.lookup a=some ⟨.type "dict",none,.dict l.toArray n, #[]⟩)(R:iN w.params l kvs)(hs:(a==sysModules)=false)(nd:(kvs.map (·.1)).Nodup):KDict P w K a kvs:=by
 refine⟨hs,fun h X=> ?_⟩
 obtain⟨vs,h1,h2,h3⟩:=R.pairs (prog:=P) (w:=w)
 refine⟨vs,h1,Heap.dictOf_iff.mpr ⟨_,X _ _ hl,l.toArray,n,⟨rfl,rfl,rfl⟩,rfl,fun e he=>R.keys rfl e (by simpa using he),h2,?_⟩⟩
 rw[h3]
 have e:(kvs.map fun p=>(Sum.inr p.1:Key))=(kvs.map (·.1)).map fun x=>(Sum.inr x:Key):=by rw[List.map_map];rfl
 rw[e]
 exact List.Pairwise.map _ (fun a b hab z=>hab (Sum.inr.inj z)) nd
def gk(K:PySem.W.Frag)(b:Addr)(xs:List V):Prop:= ∃ (o:Obj) (its:Array Value) (n:Nat),K.lookup b=some o/\o.cls= .type "tuple"/\o.data= .seq its n/\its.size<=sizeLine/\Vals xs its.toList
def km(w:World)(K:PySem.W.Frag):Prop:= ∃ (a:Addr) (l:List DictEntry) (n:Nat) (b1 b2 b3 b4 b5 b6 b7 b8:Addr),PySem.W.nsIn K mainGlobals "FORMS"=some (some (.ref a))/\K.lookup a=some ⟨.type "dict",none,.dict l.toArray n, #[]⟩/\(a==sysModules)=false/\
 iN w.params l [("send",.ref b1),("take",.ref b2),("post",.ref b3),("wait",.ref b4),("tell",.ref b5),("add",.ref b6),("case",.ref b7),("all",.ref b8)]/\
 gk K b1 [.str "hand",.str "mark",.str "thing"]/\gk K b2 [.str "any hand",.str "any mark",.str "box"]/\gk K b3 [.str "box",.str "any hand",.str "any mark",.str "box"]/\gk K b4 [.str "box"]/\
 gk K b5 [.str "thing"]/\gk K b6 [.str "box",.str "thing",.str "thing"]/\gk K b7 [.str "box",.str "number",.str "rows",.str "rows"]/\gk K b8 []
theorem Sg:("send":Str)=S hZ:=by decide+kernel
theorem OX:("take":Str)=S cC:=by decide+kernel
theorem OY:("post":Str)=S fF:=by decide+kernel
theorem OZ:("wait":Str)=S fW:=by decide+kernel
theorem O0:("tell":Str)=S cZ:=by decide+kernel
theorem O1:("add":Str)=S kj:=by decide+kernel
theorem O2:("case":Str)=S df:=by decide+kernel
theorem O3:("all":Str)=S gU:=by decide+kernel
theorem og:("box":Str)=S (bb .box):=by decide+kernel
theorem BH:("mark":Str)=S (bb .mark):=by decide+kernel
theorem kH:("thing":Str)=S (bb .thing):=by decide+kernel
theorem sB:("number":Str)=S (bb .number):=by decide+kernel
theorem BK:("rows":Str)=S (bb .rows):=by decide+kernel
theorem aQ(y:Str)(v:V)(r:List (Str×V))(x:Str):iK ((y,v)::r) x=if x=y then some v else iK r x:=by
 unfold iK
 rw[List.lookup_cons]
 by_cases h:x=y
 ·subst h;rw[if_pos rfl];simp
 ·have h3:(x==y)=false:=by simpa using h
  rw[if_neg h];simp only[h3]
theorem Fn{x y:K2.T}:(S x=S y)=(x=y):=propext ⟨iO,fun h=>h▸rfl⟩
theorem zT{h:Heap}(X:K.In h)(G:h.Ns mainGlobals mg)(A:km w K):Eu P w K mg:=by
 obtain⟨a,l,n,b1,b2,b3,b4,b5,b6,b7,b8,e,hl,hs,R,t1,t2,t3,t4,t5,t6,t7,t8⟩:=A
 rw[Sg,OX,OY,OZ,O0,O1,O2,O3]at R
 rw[E7,BH,kH]at t1
 rw[jk,jl,og]at t2
 rw[jk,jl,og]at t3
 rw[og]at t4
 rw[kH]at t5
 rw[og,kH]at t6
 rw[og,sB,BK]at t7
 have hv: ∀x:K2.T,iK [(S hZ,V.ref b1),(S cC,V.ref b2),(S fF,V.ref b3),(S fW,V.ref b4),(S cZ,V.ref b5),(S kj,V.ref b6),(S df,V.ref b7),(S gU,V.ref b8)] (S x)=
   if x=hZ then some (.ref b1)else if x=cC then some (.ref b2)else if x=fF then some (.ref b3)else if x=fW then some (.ref b4)else if x=cZ then some (.ref b5)else if x=kj then some (.ref b6)else if x=df then some (.ref b7)else if x=gU then some (.ref b8)else none:=by
  intro x
  rw[aQ,aQ,aQ,aQ,aQ,aQ,aQ,aQ]
  simp only[Fn]
  rfl
 have nd:(([(S hZ,V.ref b1),(S cC,V.ref b2),(S fF,V.ref b3),(S fW,V.ref b4),(S cZ,V.ref b5),(S kj,V.ref b6),(S df,V.ref b7),(S gU,V.ref b8)]:List (Str×V)).map (·.1)).Nodup:=by
  show([S hZ,S cC,S fF,S fW,S cZ,S kj,S df,S gU]:List Str).Nodup
  decide+kernel
 refine⟨⟨a,_,PySem.W.mg_of X G e,lL hl R hs nd,?_,?_⟩⟩
 ·intro x ks hf
  rw[hv]
  unfold gS at hf
  by_cases c1:x=hZ
  ·rw[if_pos c1]at hf⊢;cases hf;exact⟨b1,rfl,fun H=> .inr t1⟩
  rw[if_neg c1]at hf⊢
  by_cases c2:x=cC
  ·rw[if_pos c2]at hf⊢;cases hf;exact⟨b2,rfl,fun H=> .inr t2⟩
  rw[if_neg c2]at hf⊢
  by_cases c3:x=fF
  ·rw[if_pos c3]at hf⊢;cases hf;exact⟨b3,rfl,fun H=> .inr t3⟩
  rw[if_neg c3]at hf⊢
  by_cases c4:x=fW
  ·rw[if_pos c4]at hf⊢;cases hf;exact⟨b4,rfl,fun H=> .inr t4⟩
  rw[if_neg c4]at hf⊢
  by_cases c5:x=cZ
  ·rw[if_pos c5]at hf⊢;cases hf;exact⟨b5,rfl,fun H=> .inr t5⟩
  rw[if_neg c5]at hf⊢
  by_cases c6:x=kj
  ·rw[if_pos c6]at hf⊢;cases hf;exact⟨b6,rfl,fun H=> .inr t6⟩
  rw[if_neg c6]at hf⊢
  by_cases c7:x=df
  ·rw[if_pos c7]at hf⊢;cases hf;exact⟨b7,rfl,fun H=> .inr t7⟩
  rw[if_neg c7]at hf⊢
  by_cases c8:x=gU
  ·rw[if_pos c8]at hf⊢;cases hf;exact⟨b8,rfl,fun H=> .inr t8⟩
  rw[if_neg c8]at hf;cases hf
 ·intro x hf
  rw[hv]
  unfold gS at hf
  by_cases c1:x=hZ
  ·rw[if_pos c1]at hf;cases hf
  rw[if_neg c1]at hf⊢
  by_cases c2:x=cC
  ·rw[if_pos c2]at hf;cases hf
  rw[if_neg c2]at hf⊢
  by_cases c3:x=fF
  ·rw[if_pos c3]at hf;cases hf
  rw[if_neg c3]at hf⊢
  by_cases c4:x=fW
  ·rw[if_pos c4]at hf;cases hf
  rw[if_neg c4]at hf⊢
  by_cases c5:x=cZ
  ·rw[if_pos c5]at hf;cases hf
  rw[if_neg c5]at hf⊢
  by_cases c6:x=kj
  ·rw[if_pos c6]at hf;cases hf
  rw[if_neg c6]at hf⊢
  by_cases c7:x=df
  ·rw[if_pos c7]at hf;cases hf
  rw[if_neg c7]at hf⊢
  by_cases c8:x=gU
  ·rw[if_pos c8]at hf;cases hf
  rw[if_neg c8]
def iL(w:World)(K:PySem.W.Frag):Prop:= ∃ (a:Addr) (l:List DictEntry) (n:Nat) (f1 f2 f3 f4 f5:Addr),PySem.W.nsIn K mainGlobals "CHECKS"=some (some (.ref a))/\K.lookup a=some ⟨.type "dict",none,.dict l.toArray n, #[]⟩/\(a==sysModules)=false/\
 iN w.params l [("mark",.ref f1),("any mark",.ref f1),("number",.ref f2),("box",.ref f3),("thing",.ref f4),("rows",.ref f5)]/\
 PySem.W.nsIn K mainGlobals "is_mark"=some (some (.ref f1))/\PySem.W.nsIn K mainGlobals "is_number"=some (some (.ref f2))/\PySem.W.nsIn K mainGlobals "is_box"=some (some (.ref f3))/\PySem.W.nsIn K mainGlobals "is_thing"=some (some (.ref f4))/\PySem.W.nsIn K mainGlobals "is_rows"=some (some (.ref f5))
theorem jw{h:Heap}{k:Nat}{x:Str}{ps:List Str}{sp:Sp}{f:Addr}(X:K.In h)(G:h.Ns mainGlobals mg)(e:PySem.W.nsIn K mainGlobals x=some (some (.ref f)))(H:f9 P w K mg base br k x ps sp)(hk:k<=3):
  ∃fd,aI P w K mg base br 3 f fd ps sp/\Binds K fd ps []/\PySem.W.keepIn K (.ref f)=true:=by
 obtain⟨g,fd,F,B,m,kp⟩:=H.ex
 have:=m.symm.trans (PySem.W.mg_of X G e)
 cases this
 exact⟨fd,F.mono hk,B,kp⟩
theorem xo{h:Heap}(X:K.In h)(G:h.Ns mainGlobals mg)(A:iL w K)(h1:jv P w K mg base 2 "is_mark" fO)(h2:jv P w K mg base 2 "is_number" isNumber)(h3:jv P w K mg base 1 "is_box" gh)(h4:jv P w K mg base 3 "is_thing" dM)
  (h5:jv P w K mg base 1 "is_rows" pA):zm P w K mg base:=by
 obtain⟨a,l,n,f1,f2,f3,f4,f5,e,hl,hs,R,e1,e2,e3,e4,e5⟩:=A
 rw[BH,jl,sB,og,kH,BK]at R
 have hv: ∀x:K2.T,iK [(S (bb .mark),V.ref f1),(S (bb .cw),V.ref f1),(S (bb .number),V.ref f2),(S (bb .box),V.ref f3),(S (bb .thing),V.ref f4),(S (bb .rows),V.ref f5)] (S x)=
   if x=bb .mark then some (.ref f1)else if x=bb .cw then some (.ref f1)else if x=bb .number then some (.ref f2)else if x=bb .box then some (.ref f3)else if x=bb .thing then some (.ref f4)else if x=bb .rows then some (.ref f5)else none:=by
  intro x
  rw[aQ,aQ,aQ,aQ,aQ,aQ]
  simp only[Fn]
  rfl
 have nd:(([(S (bb .mark),V.ref f1),(S (bb .cw),V.ref f1),(S (bb .number),V.ref f2),(S (bb .box),V.ref f3),(S (bb .thing),V.ref f4),(S (bb .rows),V.ref f5)]:List (Str×V)).map (·.1)).Nodup:=by
  show([S (bb .mark),S (bb .cw),S (bb .number),S (bb .box),S (bb .thing),S (bb .rows)]:List Str).Nodup
  decide+kernel
 refine⟨⟨a,_,PySem.W.mg_of X G e,lL hl R hs nd,?_⟩⟩
 intro k n1 n2
 rw[hv]
 cases k with
 |hand=>exact absurd rfl n1
 |bU=>exact absurd rfl n2
 |mark=>obtain⟨fd,q⟩:=jw X G e1 h1 (by decide);exact⟨f1,fd,rfl,q⟩
 |cw=>obtain⟨fd,q⟩:=jw X G e1 h1 (by decide);exact⟨f1,fd,rfl,q⟩
 |number=>obtain⟨fd,q⟩:=jw X G e2 h2 (by decide);exact⟨f2,fd,rfl,q⟩
 |box=>obtain⟨fd,q⟩:=jw X G e3 h3 (by decide);exact⟨f3,fd,rfl,q⟩
 |thing=>obtain⟨fd,q⟩:=jw X G e4 h4 (by decide);exact⟨f4,fd,rfl,q⟩
 |rows=>obtain⟨fd,q⟩:=jw X G e5 h5 (by decide);exact⟨f5,fd,rfl,q⟩
theorem Hi{H:Hp}{a:Addr}{ns:List Int}(hO:Cy H)(hS:aN K H a (ns.map V.int)):qv K H a ns:=by
 rcases hS with(h|⟨o,h⟩)|h
 ·rcases hO a with q|⟨o,xs,q⟩
  ·rw[h]at q;cases q
  ·rw[h]at q;cases q
 ·exact .inl ⟨o,h⟩
 ·exact .inr h
theorem zS{a:Addr}{l:List DictEntry}{n:Nat}{b1 b2 b3 b4 b5 b6 b7 b8:Addr}(h1:PySem.W.nsIn K mainGlobals "FORMS"=some (some (.ref a)))(h2:K.lookup a=some ⟨.type "dict",none,.dict l.toArray n, #[]⟩)(h3:(a==sysModules)=false)
  (h4:iN w.params l [("send",.ref b1),("take",.ref b2),("post",.ref b3),("wait",.ref b4),("tell",.ref b5),("add",.ref b6),("case",.ref b7),("all",.ref b8)])
  (t1:gk K b1 [.str "hand",.str "mark",.str "thing"])(t2:gk K b2 [.str "any hand",.str "any mark",.str "box"])(t3:gk K b3 [.str "box",.str "any hand",.str "any mark",.str "box"])(t4:gk K b4 [.str "box"])
  (t5:gk K b5 [.str "thing"])(t6:gk K b6 [.str "box",.str "thing",.str "thing"])(t7:gk K b7 [.str "box",.str "number",.str "rows",.str "rows"])(t8:gk K b8 []):km w K:=⟨a,l,n,b1,b2,b3,b4,b5,b6,b7,b8,h1,h2,h3,h4,t1,t2,t3,t4,t5,t6,t7,t8⟩
theorem eO{b:Addr}{xs:List V}{dd:Option Addr}{its:List Value}{n:Nat}{sl:Array (Option Value)}(h1:K.lookup b=some ⟨.type "tuple",dd,.seq its.toArray n,sl⟩)(h2:its.toArray.size<=sizeLine)(h3:Vals xs its):gk K b xs:=⟨_,_,_,h1,rfl,rfl,h2,h3⟩
theorem xn{a:Addr}{l:List DictEntry}{n:Nat}{f1 f2 f3 f4 f5:Addr}(h1:PySem.W.nsIn K mainGlobals "CHECKS"=some (some (.ref a)))(h2:K.lookup a=some ⟨.type "dict",none,.dict l.toArray n, #[]⟩)(h3:(a==sysModules)=false)
  (h4:iN w.params l [("mark",.ref f1),("any mark",.ref f1),("number",.ref f2),("box",.ref f3),("thing",.ref f4),("rows",.ref f5)])
  (g1:PySem.W.nsIn K mainGlobals "is_mark"=some (some (.ref f1)))(g2:PySem.W.nsIn K mainGlobals "is_number"=some (some (.ref f2)))(g3:PySem.W.nsIn K mainGlobals "is_box"=some (some (.ref f3)))(g4:PySem.W.nsIn K mainGlobals "is_thing"=some (some (.ref f4)))(g5:PySem.W.nsIn K mainGlobals "is_rows"=some (some (.ref f5))):iL w K:=⟨a,l,n,f1,f2,f3,f4,f5,h1,h2,h3,h4,g1,g2,g3,g4,g5⟩
abbrev fI(x q:Str)(st:Stmt)(ps:List Str):Prop:= ∀ (kV doc pm:Value) (an:Option Addr) (cdv ct:Value) (us:List Value),us.length=ps.length->bindArgs (PySem.W.fnOf x q (bK st) (bJ st) (am st) .none kV doc pm an cdv ct) ⟨us,[]⟩=pure (ps.zip us)
def MethAt(K:PySem.W.Frag)(cn x q:Str)(st:Stmt):Prop:= ∃C f fd,PySem.W.nsIn K mainGlobals cn=some (some (.ref C))/\Meth K C x f/\cE K x q st f fd
theorem x9{cn x q:Str}{st:Stmt}{C f:Addr}{oc:Value}{od an:Option Addr}{osl:Array (Option Value)}{kV doc pm cdv ct:Value}(a:PySem.W.nsIn K mainGlobals cn=some (some (.ref C)):=by k_is)
  (b:PySem.W.findIn K (.ref C) x=some (some (.ref f)):=by k_is)(i:PySem.W.isFn K (.ref f)=true:=by k_is)
  (l:K.lookup f=some ⟨oc,od,.func (PySem.W.fnOf x q (bK st) (bJ st) (am st) .none kV doc pm an cdv ct),osl⟩:=by k_is)
  (c:PySem.W.codeIn K cdv q=true:=by k_is)(k:PySem.W.keepIn K (.ref f)=true:=by k_is):MethAt K cn x q st:=⟨C,f,_,a,⟨b,i,k⟩,pb l c k⟩
theorem wa{k:Nat}{cn x q:Str}{st:Stmt}{ps:List Str}{sp:Sp}{C:Addr}(e:PySem.W.nsIn K mainGlobals cn=some (some (.ref C)))(D:MethAt K cn x q st)(hb:fI x q st ps)
  (ok: ∀f fd,cE K x q st f fd->aI P w K mg base br k f fd ps sp):bX P w K mg base C k x ps sp:=by
 obtain⟨C',f,fd,e',M,F⟩:=D
 rw[e]at e'
 cases e'
 exact⟨f,fd,M,ok f fd F,F.binds hb⟩
def ClsAt(K:PySem.W.Frag)(cn:Str)(K1:List Str):Prop:= ∃C,PySem.W.nsIn K mainGlobals cn=some (some (.ref C))/\vC K C/\(∀f∈K1,bh K C f)/\PySem.W.makesIn K C=true/\PySem.W.keepIn K (.ref C)=true
theorem qO{cn:Str}{K1:List Str}{C:Addr}(a:PySem.W.nsIn K mainGlobals cn=some (some (.ref C)):=by k_is)(pg:PySem.W.plainGet K C Str.empty=true:=by k_is)(hd:PySem.W.hasDictIn K C=true:=by k_is)(po:PySem.W.plainOver K C=true:=by k_is)
  (sa:PySem.W.findIn K (.ref C) "__setattr__"=some (some (.builtin "object.__setattr__")):=by k_is)(mk:PySem.W.makesIn K C=true:=by k_is)(kc:PySem.W.keepIn K (.ref C)=true:=by k_is)(no: ∀f∈K1,bh K C f):ClsAt K cn K1:=⟨C,a,⟨pg,hd,po,sa⟩,no,mk,kc⟩
theorem AE{C:Addr}: ∀f∈([]:List Str),bh K C f:=fun f h=>nomatch h
theorem b0{C:Addr}{x:Str}{l:List Str}(t: ∀f∈l,bh K C f)(h:PySem.W.findIn K (.ref C) x=some none:=by k_is): ∀f∈x::l,bh K C f:=fun f hf=>by
 rcases List.mem_cons.mp hf with e|hf
 ·rw[e];exact h
 ·exact t f hf
theorem oX{h:Heap}{k:Nat}{x:Str}{ps:List Str}{sp:Sp}{f:Addr}(X:K.In h)(G:h.Ns mainGlobals mg)(e:PySem.W.nsIn K mainGlobals x=some (some (.ref f)))(H:f9 P w K mg base br k x ps sp)(hk:k<=2):
  ∃fd,aI P w K mg base br 2 f fd ps sp/\Binds K fd ps []/\PySem.W.keepIn K (.ref f)=true:=by
 obtain⟨g,fd,F,B,m,kp⟩:=H.ex
 have:=m.symm.trans (PySem.W.mg_of X G e)
 cases this
 exact⟨fd,F.mono hk,B,kp⟩
def kl(w:World)(K:PySem.W.Frag):Prop:= ∃ (a:Addr) (l:List DictEntry) (n:Nat) (f1 f2 f3 f4 f5 f6 f7:Addr),PySem.W.nsIn K mainGlobals "DEEDS"=some (some (.ref a))/\K.lookup a=some ⟨.type "dict",none,.dict l.toArray n, #[]⟩/\(a==sysModules)=false/\
 iN w.params l [("take",.ref f1),("post",.ref f2),("wait",.ref f3),("tell",.ref f4),("add",.ref f5),("case",.ref f6),("all",.ref f7)]/\
 PySem.W.nsIn K mainGlobals "do_take"=some (some (.ref f1))/\PySem.W.nsIn K mainGlobals "do_tell"=some (some (.ref f4))/\PySem.W.nsIn K mainGlobals "do_all"=some (some (.ref f7))
theorem zG{a:Addr}{l:List DictEntry}{n:Nat}{f1 f2 f3 f4 f5 f6 f7:Addr}(h1:PySem.W.nsIn K mainGlobals "DEEDS"=some (some (.ref a)))(h2:K.lookup a=some ⟨.type "dict",none,.dict l.toArray n, #[]⟩)(h3:(a==sysModules)=false)
  (h4:iN w.params l [("take",.ref f1),("post",.ref f2),("wait",.ref f3),("tell",.ref f4),("add",.ref f5),("case",.ref f6),("all",.ref f7)])
  (g1:PySem.W.nsIn K mainGlobals "do_take"=some (some (.ref f1)))(g4:PySem.W.nsIn K mainGlobals "do_tell"=some (some (.ref f4)))(g7:PySem.W.nsIn K mainGlobals "do_all"=some (some (.ref f7))):kl w K:=⟨a,l,n,f1,f2,f3,f4,f5,f6,f7,h1,h2,h3,h4,g1,g4,g7⟩
theorem zH{h:Heap}{C:Addr}(X:K.In h)(G:h.Ns mainGlobals mg)(A:kl w K)(h1:f9 P w K mg base br 2 "do_take" ["hand", "row"] (jr C))(h4:f9 P w K mg base br 2 "do_tell" ["hand", "row"] (js C))(h7:f9 P w K mg base br 1 "do_all" ["hand", "row"] (kL C)):Et P w K mg base C:=by
 obtain⟨a,l,n,f1,f2,f3,f4,f5,f6,f7,e,hl,hs,R,e1,e4,e7⟩:=A
 rw[OX,OY,OZ,O0,O1,O2,O3]at R
 have hv: ∀x:K2.T,iK [(S cC,V.ref f1),(S fF,V.ref f2),(S fW,V.ref f3),(S cZ,V.ref f4),(S kj,V.ref f5),(S df,V.ref f6),(S gU,V.ref f7)] (S x)=
   if x=cC then some (.ref f1)else if x=fF then some (.ref f2)else if x=fW then some (.ref f3)else if x=cZ then some (.ref f4)else if x=kj then some (.ref f5)else if x=df then some (.ref f6)else if x=gU then some (.ref f7)else none:=by
  intro x
  rw[aQ,aQ,aQ,aQ,aQ,aQ,aQ]
  simp only[Fn]
  rfl
 have nd:(([(S cC,V.ref f1),(S fF,V.ref f2),(S fW,V.ref f3),(S cZ,V.ref f4),(S kj,V.ref f5),(S df,V.ref f6),(S gU,V.ref f7)]:List (Str×V)).map (·.1)).Nodup:=by
  show([S cC,S fF,S fW,S cZ,S kj,S df,S gU]:List Str).Nodup
  decide+kernel
 refine⟨⟨a,_,PySem.W.mg_of X G e,lL hl R hs nd,?_,?_,?_⟩⟩
 ·obtain⟨fd,q⟩:=oX X G e1 h1 (by decide);exact⟨f1,fd,by rw[hv];rfl,q⟩
 ·obtain⟨fd,q⟩:=oX X G e4 h4 (by decide);exact⟨f4,fd,by rw[hv];rfl,q⟩
 ·obtain⟨fd,q⟩:=oX X G e7 h7 (by decide);exact⟨f7,fd,by rw[hv];rfl,q⟩
theorem wk{s:Shared}{fd:FuncData}{args:Args}{binds:List (Str×Value)}{kd:Addr}{o:Obj}{k:Obj->Sem (List (Str×Value))}{y:Option Value}(X:K.In s.heap)(hl:K.lookup kd=some o)(e:bindArgs fd args=Sem.load kd y k)(ek:k o=pure binds):BindsTo s fd args binds:=by
 refine PySem.W.kp_binds X fun S=> ?_
 rw[e]
 show PySem.W.peek K S (Sem.load kd y k)=_
 unfold PySem.W.peek
 rw[hl]
 show PySem.W.peek K S (k o)=_
 rw[ek]
 rfl
def oS(K:PySem.W.Frag)(kd:Addr)(t:Tok):Prop:= ∃ (hsh:Int) (t1:Tok) (n:Nat),K.lookup kd=some ⟨.type "dict",none,.dict [⟨hsh,.str "room" t1,.int 0 t⟩].toArray n, #[]⟩
abbrev HS(x q:Str)(st:Stmt)(kd:Addr)(doc pm:Value)(an:Option Addr)(cdv ct:Value):FuncData:=PySem.W.fnOf x q (bK st) (bJ st) (am st) .none (.ref kd) doc pm an cdv ct
def tE(K:PySem.W.Frag)(x:Str)(st:Stmt):Prop:= ∃f kd doc pm an cdv ct t,PySem.W.nsIn K mainGlobals x=some (some (.ref f))/\cE K x x st f (HS x x st kd doc pm an cdv ct)/\oS K kd t
theorem vP{x:Str}{st:Stmt}{f kd:Addr}{oc:Value}{od an:Option Addr}{osl:Array (Option Value)}{doc pm cdv ct:Value}{hsh:Int}{t1 t:Tok}{n:Nat}(a:PySem.W.nsIn K mainGlobals x=some (some (.ref f)):=by k_is)
  (l:K.lookup f=some ⟨oc,od,.func (PySem.W.fnOf x x (bK st) (bJ st) (am st) .none (.ref kd) doc pm an cdv ct),osl⟩:=by k_is)
  (c:PySem.W.codeIn K cdv x=true:=by k_is)(k:PySem.W.keepIn K (.ref f)=true:=by k_is)(d:K.lookup kd=some ⟨.type "dict",none,.dict [⟨hsh,.str "room" t1,.int 0 t⟩].toArray n, #[]⟩:=by k_is):tE K x st:=⟨f,kd,doc,pm,an,cdv,ct,t,a,pb l c k,hsh,t1,n,d⟩
def vE(K:PySem.W.Frag)(cn x q:Str)(st:Stmt):Prop:= ∃C f kd doc pm an cdv ct t,PySem.W.nsIn K mainGlobals cn=some (some (.ref C))/\Meth K C x f/\cE K x q st f (HS x q st kd doc pm an cdv ct)/\oS K kd t
theorem Av{cn x q:Str}{st:Stmt}{C f kd:Addr}{oc:Value}{od an:Option Addr}{osl:Array (Option Value)}{doc pm cdv ct:Value}{hsh:Int}{t1 t:Tok}{n:Nat}(a:PySem.W.nsIn K mainGlobals cn=some (some (.ref C)):=by k_is)
  (b:PySem.W.findIn K (.ref C) x=some (some (.ref f)):=by k_is)(i:PySem.W.isFn K (.ref f)=true:=by k_is)
  (l:K.lookup f=some ⟨oc,od,.func (PySem.W.fnOf x q (bK st) (bJ st) (am st) .none (.ref kd) doc pm an cdv ct),osl⟩:=by k_is)
  (c:PySem.W.codeIn K cdv q=true:=by k_is)(k:PySem.W.keepIn K (.ref f)=true:=by k_is)(d:K.lookup kd=some ⟨.type "dict",none,.dict [⟨hsh,.str "room" t1,.int 0 t⟩].toArray n, #[]⟩:=by k_is):vE K cn x q st:=⟨C,f,kd,doc,pm,an,cdv,ct,t,a,⟨b,i,k⟩,pb l c k,hsh,t1,n,d⟩
theorem GC{α:Type}{us:List α}(h:us.length=1): ∃a,us= [a]:=match us,h with| [a],_=>⟨a,rfl⟩
theorem HH{α:Type}{us:List α}(h:us.length=2): ∃a b,us= [a,b]:=match us,h with| [a,b],_=>⟨a,b,rfl⟩
theorem qF{kd:Addr}{doc pm:Value}{an:Option Addr}{cdv ct:Value}{t:Tok}(hk:oS K kd t):Binds K (HS "can_stick" "can_stick" gM kd doc pm an cdv ct) ["program", "room"] [.int 0 t]:=by
 obtain⟨hsh,t1,n,hl⟩:=hk
 intro s us X hlen
 obtain⟨u,rfl⟩:=GC (us:=us) (by rw[List.length_append]at hlen;simpa using hlen)
 exact wk X hl rfl rfl
theorem xi{kd:Addr}{doc pm:Value}{an:Option Addr}{cdv ct:Value}{t:Tok}(hk:oS K kd t):Binds K (HS "__init__" "Run.__init__" iB kd doc pm an cdv ct) ["self", "program", "room"] [.int 0 t]:=by
 obtain⟨hsh,t1,n,hl⟩:=hk
 intro s us X hlen
 obtain⟨u,v,rfl⟩:=HH (us:=us) (by rw[List.length_append]at hlen;simpa using hlen)
 exact wk X hl rfl rfl
theorem gf{α:Type}: ∀us ws:List α,(∃a b c,us= [a,b]/\ws= [c])\/qY us ws= []
 | [a,b],[c]=> .inl ⟨a,b,c,rfl,rfl⟩
 | [],_=> .inr rfl
 | [_],_=> .inr rfl
 |_::_::_::_,_=> .inr rfl
 | [_,_],[]=> .inr rfl
 | [_,_],_::_::_=> .inr rfl
theorem rD{f:Addr}{fd:FuncData}(F:cE K "__init__" "Run.__init__" iB f fd):fJ K fd ["self", "program", "room"] ["room"] qY qY:=by
 obtain⟨oc,od,kV,doc,pm,an,cdv,ct,osl,rfl,lk,hcd⟩:=F.ex
 refine⟨fun s us ws _ hl=> ?_,fun{vs us zs ws} r1 r2=> ?_⟩
 ·rcases gf us ws with⟨a,b,c,e1,e2⟩|e
  ·subst e1 e2;exact .of_eq rfl
  ·rw[e]at hl;cases hl
 ·rcases gf us ws with⟨a,b,c,e1,e2⟩|e
  ·subst e1 e2
   cases r1 with
   |cons x1 r1=>cases r1 with
    |cons x2 r1=>cases r1;cases r2 with
     |cons x3 r2=>cases r2;exact .cons x1 (.cons x2 (.cons x3 .nil))
  ·rw[e]
   rcases gf vs zs with⟨a,b,c,e1,e2⟩|e'
   ·subst e1 e2
    cases r1 with
    |cons x1 r1=>cases r1 with
     |cons x2 r1=>cases r1;cases r2 with
      |cons x3 r2=>cases r2;cases e
   ·rw[e'];exact .nil
theorem jy{α:Type}: ∀us ws:List α,(∃a c,us= [a]/\ws= [c])\/CO us ws= []
 | [a],[c]=> .inl ⟨a,c,rfl,rfl⟩
 | [],_=> .inr rfl
 |_::_::_,_=> .inr rfl
 | [_],[]=> .inr rfl
 | [_],_::_::_=> .inr rfl
theorem GU{vs:List V}{us:List Value}{zs:List V}{ws:List Value}(r1:Vals vs us)(r2:Vals zs ws):Vals (CO vs zs) (CO us ws):=by
 rcases jy us ws with⟨a,c,e1,e2⟩|e
 ·subst e1 e2
  cases r1 with
  |cons x1 r1=>cases r1;cases r2 with
   |cons x3 r2=>cases r2;exact .cons x1 (.cons x3 .nil)
 ·rw[e]
  rcases jy vs zs with⟨a,c,e1,e2⟩|e'
  ·subst e1 e2
   cases r1 with
   |cons x1 r1=>cases r1;cases r2 with
    |cons x3 r2=>cases r2;cases e
  ·rw[e'];exact .nil
theorem nL{x:Str}{st:Stmt}{kd:Addr}{doc pm:Value}{an:Option Addr}{cdv ct:Value}(h: ∀a c,bindArgs (HS x x st kd doc pm an cdv ct) ⟨[a],[("room",c)]⟩=pure [(("program":Str),a),(("room":Str),c)]):fJ K (HS x x st kd doc pm an cdv ct) ["program", "room"] ["room"] CO CO:=by
 refine⟨fun s us ws _ hl=> ?_,fun r1 r2=>GU r1 r2⟩
 rcases jy us ws with⟨a,c,e1,e2⟩|e
 ·subst e1 e2;exact .of_eq (h a c)
 ·rw[e]at hl;cases hl
theorem iT{x q:Str}{st:Stmt}{p0:Str}(h: ∀ (kV doc pm:Value) (an:Option Addr) (cdv ct u0:Value),bindArgs (PySem.W.fnOf x q (bK st) (bJ st) (am st) .none kV doc pm an cdv ct) ⟨[u0],[]⟩=pure [(p0,u0)]):fI x q st [p0]:=fun a b c d e f us hl=>match us,hl with| [u0],_=>h a b c d e f u0
theorem tO{x q:Str}{st:Stmt}{p0 p1:Str}(h: ∀ (kV doc pm:Value) (an:Option Addr) (cdv ct u0 u1:Value),bindArgs (PySem.W.fnOf x q (bK st) (bJ st) (am st) .none kV doc pm an cdv ct) ⟨[u0,u1],[]⟩=pure [(p0,u0),(p1,u1)]):fI x q st [p0,p1]:=fun a b c d e f us hl=>match us,hl with| [u0,u1],_=>h a b c d e f u0 u1
theorem EA{x q:Str}{st:Stmt}{p0 p1 p2:Str}(h: ∀ (kV doc pm:Value) (an:Option Addr) (cdv ct u0 u1 u2:Value),bindArgs (PySem.W.fnOf x q (bK st) (bJ st) (am st) .none kV doc pm an cdv ct) ⟨[u0,u1,u2],[]⟩=pure [(p0,u0),(p1,u1),(p2,u2)]):fI x q st [p0,p1,p2]:=fun a b c d e f us hl=>match us,hl with| [u0,u1,u2],_=>h a b c d e f u0 u1 u2
theorem Po{x q:Str}{st:Stmt}{p0 p1 p2 p3:Str}(h: ∀ (kV doc pm:Value) (an:Option Addr) (cdv ct u0 u1 u2 u3:Value),bindArgs (PySem.W.fnOf x q (bK st) (bJ st) (am st) .none kV doc pm an cdv ct) ⟨[u0,u1,u2,u3],[]⟩=pure [(p0,u0),(p1,u1),(p2,u2),(p3,u3)]):fI x q st [p0,p1,p2,p3]:=fun a b c d e f us hl=>match us,hl with| [u0,u1,u2,u3],_=>h a b c d e f u0 u1 u2 u3
theorem Pp{x q:Str}{st:Stmt}{p0 p1 p2 p3 p4:Str}(h: ∀ (kV doc pm:Value) (an:Option Addr) (cdv ct u0 u1 u2 u3 u4:Value),bindArgs (PySem.W.fnOf x q (bK st) (bJ st) (am st) .none kV doc pm an cdv ct) ⟨[u0,u1,u2,u3,u4],[]⟩=pure [(p0,u0),(p1,u1),(p2,u2),(p3,u3),(p4,u4)]):fI x q st [p0,p1,p2,p3,p4]:=fun a b c d e f us hl=>match us,hl with| [u0,u1,u2,u3,u4],_=>h a b c d e f u0 u1 u2 u3 u4
def kn(K:PySem.W.Frag):Prop:=PySem.W.nsIn K mainGlobals "isinstance"=some none/\PySem.W.nsIn K mainGlobals "int"=some none/\PySem.W.nsIn K mainGlobals "bool"=some none/\PySem.W.nsIn K mainGlobals "str"=some none/\PySem.W.nsIn K mainGlobals "len"=some none/\PySem.W.nsIn K mainGlobals "all"=some none/\PySem.W.nsIn K mainGlobals "tuple"=some none/\PySem.W.nsIn K mainGlobals "zip"=some none/\PySem.W.nsIn K mainGlobals "enumerate"=some none/\PySem.W.nsIn K mainGlobals "range"=some none/\PySem.W.nsIn K mainGlobals "list"=some none/\PySem.W.nsIn K mainGlobals "LookupError"=some none/\PySem.W.nsIn K mainGlobals "sorted"=some none/\PySem.W.nsIn K mainGlobals "any"=some none/\PySem.W.nsIn K mainGlobals "set"=some none/\PySem.W.nsIn K mainGlobals "str"=some none/\PySem.W.nsIn K mainGlobals "max"=some none/\
 (∃t,PySem.W.nsIn K mainGlobals "LETTERS"=some (some (.str "abcdefghijklmnopqrstuvwxyz" t)))/\(∃t,PySem.W.nsIn K mainGlobals "LONGEST_BOX"=some (some (.int 3 t)))/\(∃t,PySem.W.nsIn K mainGlobals "HIGHEST_MARK"=some (some (.int 9 t)))/\(∃t,PySem.W.nsIn K mainGlobals "HIGHEST_NUMBER"=some (some (.int 1000000 t)))/\(∃t,PySem.W.nsIn K mainGlobals "LEAST_HANDS"=some (some (.int 2 t)))/\(∃t,PySem.W.nsIn K mainGlobals "MOST_HANDS"=some (some (.int 5 t)))/\(∃t,PySem.W.nsIn K mainGlobals "MOST_ROWS"=some (some (.int 40 t)))/\(∃t,PySem.W.nsIn K mainGlobals "MOST_ROOM"=some (some (.int 99 t)))/\(∃t,PySem.W.nsIn K mainGlobals "MOST_WILD"=some (some (.int 6 t)))
theorem Ax{h:Heap}(X:K.In h)(G:h.Ns mainGlobals mg)(A:kn K):Tx mg/\Ez mg/\(∃t,mg "MOST_ROOM"=some (.int 99 t))/\ ∃t,mg "MOST_WILD"=some (.int 6 t):=by
 obtain⟨z0,z1,z2,z3,z4,z5,z6,z7,z8,z9,NB,NC,ND,NE,NF,NG,NH,⟨t0,c0⟩,⟨t1,c1⟩,⟨t2,c2⟩,⟨t3,c3⟩,⟨t4,c4⟩,⟨t5,c5⟩,⟨t6,c6⟩,⟨t7,c7⟩,⟨t8,c8⟩⟩:=A
 exact⟨⟨PySem.W.mg_none_of X G z0,PySem.W.mg_none_of X G z1,PySem.W.mg_none_of X G z2,PySem.W.mg_none_of X G z3,PySem.W.mg_none_of X G z4,PySem.W.mg_none_of X G z5,PySem.W.mg_none_of X G z6,PySem.W.mg_none_of X G z7,PySem.W.mg_none_of X G z8,PySem.W.mg_none_of X G z9,PySem.W.mg_none_of X G NB,PySem.W.mg_none_of X G NC,⟨t0,PySem.W.mg_of X G c0⟩,⟨t1,PySem.W.mg_of X G c1⟩,⟨t2,PySem.W.mg_of X G c2⟩,⟨t3,PySem.W.mg_of X G c3⟩,⟨t4,PySem.W.mg_of X G c4⟩,⟨t5,PySem.W.mg_of X G c5⟩,⟨t6,PySem.W.mg_of X G c6⟩⟩,⟨PySem.W.mg_none_of X G ND,PySem.W.mg_none_of X G NE,PySem.W.mg_none_of X G NF,PySem.W.mg_none_of X G NG,PySem.W.mg_none_of X G NH⟩,⟨t7,PySem.W.mg_of X G c7⟩,t8,PySem.W.mg_of X G c8⟩
theorem Aw{t0 t1 t2 t3 t4 t5 t6 t7 t8:Tok}(z0:PySem.W.nsIn K mainGlobals "isinstance"=some none:=by k_is)(z1:PySem.W.nsIn K mainGlobals "int"=some none:=by k_is)(z2:PySem.W.nsIn K mainGlobals "bool"=some none:=by k_is)(z3:PySem.W.nsIn K mainGlobals "str"=some none:=by k_is)(z4:PySem.W.nsIn K mainGlobals "len"=some none:=by k_is)(z5:PySem.W.nsIn K mainGlobals "all"=some none:=by k_is)(z6:PySem.W.nsIn K mainGlobals "tuple"=some none:=by k_is)(z7:PySem.W.nsIn K mainGlobals "zip"=some none:=by k_is)(z8:PySem.W.nsIn K mainGlobals "enumerate"=some none:=by k_is)(z9:PySem.W.nsIn K mainGlobals "range"=some none:=by k_is)(NB:PySem.W.nsIn K mainGlobals "list"=some none:=by k_is)(NC:PySem.W.nsIn K mainGlobals "LookupError"=some none:=by k_is)(ND:PySem.W.nsIn K mainGlobals "sorted"=some none:=by k_is)(NE:PySem.W.nsIn K mainGlobals "any"=some none:=by k_is)(NF:PySem.W.nsIn K mainGlobals "set"=some none:=by k_is)(NG:PySem.W.nsIn K mainGlobals "str"=some none:=by k_is)(NH:PySem.W.nsIn K mainGlobals "max"=some none:=by k_is)(c0:PySem.W.nsIn K mainGlobals "LETTERS"=some (some (.str "abcdefghijklmnopqrstuvwxyz" t0)):=by k_is)(c1:PySem.W.nsIn K mainGlobals "LONGEST_BOX"=some (some (.int 3 t1)):=by k_is)(c2:PySem.W.nsIn K mainGlobals "HIGHEST_MARK"=some (some (.int 9 t2)):=by k_is)(c3:PySem.W.nsIn K mainGlobals "HIGHEST_NUMBER"=some (some (.int 1000000 t3)):=by k_is)(c4:PySem.W.nsIn K mainGlobals "LEAST_HANDS"=some (some (.int 2 t4)):=by k_is)(c5:PySem.W.nsIn K mainGlobals "MOST_HANDS"=some (some (.int 5 t5)):=by k_is)(c6:PySem.W.nsIn K mainGlobals "MOST_ROWS"=some (some (.int 40 t6)):=by k_is)(c7:PySem.W.nsIn K mainGlobals "MOST_ROOM"=some (some (.int 99 t7)):=by k_is)(c8:PySem.W.nsIn K mainGlobals "MOST_WILD"=some (some (.int 6 t8)):=by k_is):kn K:=
 ⟨z0,z1,z2,z3,z4,z5,z6,z7,z8,z9,NB,NC,ND,NE,NF,NG,NH,⟨_,c0⟩,⟨_,c1⟩,⟨_,c2⟩,⟨_,c3⟩,⟨_,c4⟩,⟨_,c5⟩,⟨_,c6⟩,⟨_,c7⟩,⟨_,c8⟩⟩
theorem Gf{h:Heap}{fa:Addr}(X:K.In h)(G:h.Ns mainGlobals mg)(Oc:mg "law"=some (.ref fa))(nn:kn K)(fo:km w K)(ck:iL w K)(de:kl w K)(cH:ClsAt K "Hand" ["rows", "waiting", "held", "said", "sends_done", "takes_done", "posted", "tickets", "arrived", "met"])(cR:ClsAt K "Run" ["room", "hands", "ways", "history"])
  (dE:tE K "ends" oh)(dC:tE K "can_stick" gM)(mI:vE K "Run" "__init__" "Run.__init__" iB)
  (d0:bv K "is_whole" vh)
  (d1:bv K "is_mark" BG)
  (d2:bv K "is_number" qa)
  (d3:bv K "is_box" DY)
  (d4:bv K "is_thing" vg)
  (d5:bv K "is_rows" BJ)
  (d6:bv K "may_be_any" G7)
  (d7:bv K "fits_place" BE)
  (d8:bv K "is_row" D0)
  (d9:bv K "rows_within" kI)
  (Fz:bv K "count_rows" u9)
  (Px:bv K "is_program" jo)
  (LC:bv K "check_program" u8)
  (Py:bv K "all_rows" ml)
  (Pz:bv K "is_wild" p9)
  (PB:bv K "wild_takes" iC)
  (PD:bv K "is_room" pZ)
  (PF:bv K "check_room" iA)
  (PH:bv K "has_truth" jP)
  (PJ:bv K "first_thing" (top 51))
  (PL:bv K "check_choices" mn)
  (PM:bv K "settle" qc)
  (PN:bv K "settled_behind" (top 57))
  (PP:bv K "do_take" pW)
  (PQ:bv K "do_tell" pX)
  (PR:bv K "do_all" va)
  (PU:bv K "do_row" vb)
  (PX:bv K "_law_town" BM)
  (PY:bv K "_law_draw" BD)
  (PZ:bv K "_law_pick" BI)
  (P0:bv K "law" mU)
  (m0:MethAt K "Hand" "__init__" "Hand.__init__" vd)
  (m1:MethAt K "Hand" "has_ended" "Hand.has_ended" vc)
  (m2:MethAt K "Hand" "can_go" "Hand.can_go" u6)
  (m3:MethAt K "Hand" "waits_in_all" "Hand.waits_in_all" gN)
  (m4:MethAt K "Hand" "go_on" "Hand.go_on" BF)
  (m5:MethAt K "Hand" "worth" "Hand.worth" qd)
  (m6:MethAt K "Hand" "filled" "Hand.filled" jm)
  (m7:MethAt K "Hand" "add_take" "Hand.add_take" jj)
  (m8:MethAt K "Hand" "first_take" "Hand.first_take" (inClass fh 9))
  (m9:MethAt K "Hand" "result" "Hand.result" mo)
  (MJ:MethAt K "Run" "events" "Run.events" pY)
  (Rx:MethAt K "Run" "events_within" "Run.events_within" gA)
  (Ry:MethAt K "Run" "is_open_to_any" "Run.is_open_to_any" (inClass eV 5))
  (Rz:MethAt K "Run" "meets_on" "Run.meets_on" jn)
  (RA:MethAt K "Run" "do" "Run.do" La)
  (RB:MethAt K "Run" "carry_out" "Run.carry_out" u7)
  (RC:MethAt K "Run" "step" "Run.step" BL)
  (RD:MethAt K "Run" "send" "Run.send" (inClass eV 10))
  (RE:MethAt K "Run" "meet" "Run.meet" (inClass eV 11))
  (RF:MethAt K "Run" "pass_all" "Run.pass_all" mr)
  (RH:MethAt K "Run" "state" "Run.state" vf)
  (RI:MethAt K "Run" "result" "Run.result" qb)
  (RJ:MethAt K "Run" "told" "Run.told" ve)
  : ∃fd:FuncData,(∀ (s:Shared) (v:Value),BindsTo s fd ⟨[v],[]⟩ [("_law_script",v)])/\ ∀base:Heap,K.In base->base.Ns mainGlobals mg->aI P w K mg base br 13 fa fd ["_law_script"] (wS K):=by
 obtain⟨T,T2,LH,e6⟩:=Ax X G nn
 have Fo:=zT (P:=P) X G fo
 obtain⟨C,eC,Pu,RU,RK,Rr⟩:=cH
 obtain⟨R,eR,Pw,RV,Ow,Ou⟩:=cR
 have hC:ba K C:=⟨Pu,RU⟩
 have hR:dW K R:=⟨Pw,RV⟩
 obtain⟨f,fd,e,F⟩:=P0
 have e0:=Oc.symm.trans (PySem.W.mg_of X G e)
 cases e0
 have Z:=F.ex
 obtain⟨oc,od,kV,doc,pm,an,cdv,ct,osl,rfl,lk,hcd⟩:=Z
 refine⟨PySem.W.fnOf "law" "law" (bK mU) (bJ mU) (am mU) .none kV doc pm an cdv ct,fun s v=> .of_eq rfl,fun base _ _=> ?_⟩
 have ho: ∀ {k:Nat} {x:Str} {st:Stmt} {ps:List Str} {sp:Sp},bv K x st->(∀f fd,cE K x x st f fd->Binds K fd ps []->mg x=some (.ref f)->aI P w K mg base br k f fd ps sp)->fI x x st ps->f9 P w K mg base br k x ps sp:=fun a b c=>FT X G a c b
 have hc: ∀ {k:Nat} {x q:Str} {st:Stmt} {ps:List Str} {sp:Sp},MethAt K "Hand" x q st->(∀f fd,cE K x q st f fd->aI P w K mg base br k f fd ps sp)->fI x q st ps->bX P w K mg base C k x ps sp:=fun a b c=>wa eC a c b
 have hk: ∀ {k:Nat} {x q:Str} {st:Stmt} {ps:List Str} {sp:Sp},MethAt K "Run" x q st->(∀f fd,cE K x q st f fd->aI P w K mg base br k f fd ps sp)->fI x q st ps->bX P w K mg base R k x ps sp:=fun a b c=>wa eR a c b
 have ku:=ho d0 (fun f fd F B m=>AU F T) (iT fun _ _ _ _ _ _ _=>rfl)
 have FN:=ho d1 (fun f fd F B m=>Dx F T ku) (iT fun _ _ _ _ _ _ _=>rfl)
 have rf:=ho d2 (fun f fd F B m=>yl F T ku) (iT fun _ _ _ _ _ _ _=>rfl)
 have EK:=ho d3 (fun f fd F B m=>Gz F T) (iT fun _ _ _ _ _ _ _=>rfl)
 have CY:=ho d4 (fun f fd F B m=>AT F rf EK) (iT fun _ _ _ _ _ _ _=>rfl)
 have FQ:=ho d5 (fun f fd F B m=>Dz F T) (iT fun _ _ _ _ _ _ _=>rfl)
 have Ck:=xo X G ck FN rf EK CY FQ
 have IY:=ho d6 (fun f fd F B m=>Gy F) (iT fun _ _ _ _ _ _ _=>rfl)
 have FM:=ho d7 (fun f fd F B m=>Dv F T IY ku Ck) (EA fun _ _ _ _ _ _ _ _ _=>rfl)
 have IZ:=ho d8 (fun f fd F B m=>GB F T FM Fo) (tO fun _ _ _ _ _ _ _ _=>rfl)
 have Ae:=ho d9 (fun f fd F B m=>yo F) (iT fun _ _ _ _ _ _ _=>rfl)
 have xD:=ho d9 (fun f fd F B m=>uO F) (iT fun _ _ _ _ _ _ _=>rfl)
 have CU:=ho Fz (fun f fd F B m=>AK F T IZ Ae) (tO fun _ _ _ _ _ _ _ _=>rfl)
 have FP:=ho Px (fun f fd F B m=>uN F T CU) (iT fun _ _ _ _ _ _ _=>rfl)
 have pe:=ho LC (fun f fd F B m=>AJ F FP) (iT fun _ _ _ _ _ _ _=>rfl)
 have Ac:=ho PD (fun f fd F B m=>yj F LH ku) (iT fun _ _ _ _ _ _ _=>rfl)
 have vY:=ho PF (fun f fd F B m=>pJ F Ac) (iT fun _ _ _ _ _ _ _=>rfl)
 have Ab:=ho Pz (fun f fd F B m=>yk F) (iT fun _ _ _ _ _ _ _=>rfl)
 have xB:=ho Py (fun f fd F B m=>uI F T xD) (iT fun _ _ _ _ _ _ _=>rfl)
 have FS:=ho PB (fun f fd F B m=>DD F T pe xB Ab) (iT fun _ _ _ _ _ _ _=>rfl)
 have xC:=ho PL (fun f fd F B m=>uJ F T e6 pe vY FS) (tO fun _ _ _ _ _ _ _ _=>rfl)
 have kA:=hc m1 (fun f fd F=>AN F T hC) (iT fun _ _ _ _ _ _ _=>rfl)
 obtain⟨ge,Qd,HW,hge,Co⟩:=kA
 have Di:=hc m2 (fun f fd F=>AH F hC HW hge Co) (iT fun _ _ _ _ _ _ _=>rfl)
 have kA:bX P w K mg base C 1 "has_ended" ["self"] (gQ C):=⟨ge,Qd,HW,hge,Co⟩
 have At:=hc m4 (fun f fd F=>Dw F hC) (iT fun _ _ _ _ _ _ _=>rfl)
 have Dk:=hc m3 (fun f fd F=>rX F hC) (iT fun _ _ _ _ _ _ _=>rfl)
 have Dl:=hc m5 (fun f fd F=>AV F T hC) (tO fun _ _ _ _ _ _ _ _=>rfl)
 have xV:=hc m7 (fun f fd F=>uH F hC) (Po fun _ _ _ _ _ _ _ _ _ _=>rfl)
 have rG:bX P w K mg base C 2 "first_take" ["self", "sender", "mark"] jQ:=hc m8 (fun f fd F=>nG) (EA fun _ _ _ _ _ _ _ _ _=>rfl)
 have As:=hc m6 (fun f fd F=>yi F T2 hC) (iT fun _ _ _ _ _ _ _=>rfl)
 have xW:=hc m9 (fun f fd F=>uK F T T2 hC As) (iT fun _ _ _ _ _ _ _=>rfl)
 have zY:=ho PP (fun f fd F B m=>yf F hC xV) (tO fun _ _ _ _ _ _ _ _=>rfl)
 have zZ:=ho PQ (fun f fd F B m=>yg F hC Dl At) (tO fun _ _ _ _ _ _ _ _=>rfl)
 have CV:=ho PR (fun f fd F B m=>AL F hC) (tO fun _ _ _ _ _ _ _ _=>rfl)
 have D:=zH X G de zY zZ CV
 have CW:=ho PU (fun f fd F B m=>AM F D) (tO fun _ _ _ _ _ _ _ _=>rfl)
 have uc:=ho PH (fun f fd F B m=>rW F T T2) (iT fun _ _ _ _ _ _ _=>rfl)
 have pf:f9 P w K mg base br 2 "first_thing" ["way", "sender", "take"] jQ:=ho PJ (fun f fd F B m=>nG) (EA fun _ _ _ _ _ _ _ _ _=>rfl)
 have ud:f9 P w K mg base br 1 "settled_behind" ["run", "event"] jQ:=ho PN (fun f fd F B m=>nG) (tO fun _ _ _ _ _ _ _ _=>rfl)
 have Gn:bX P w K mg base R 1 "is_open_to_any" ["self", "taker", "take"] jQ:=hk Ry (fun f fd F=>nG) (EA fun _ _ _ _ _ _ _ _ _=>rfl)
 have Go:bX P w K mg base R 2 "send" ["self", "sender", "row"] jQ:=hk RD (fun f fd F=>nG) (EA fun _ _ _ _ _ _ _ _ _=>rfl)
 have Gm:bX P w K mg base R 3 "meet" ["self", "sender", "send", "taker", "take"] jQ:=hk RE (fun f fd F=>nG) (Pp fun _ _ _ _ _ _ _ _ _ _ _=>rfl)
 have xX:=hk Rz (fun f fd F=>uL F hC hR rG pf) (EA fun _ _ _ _ _ _ _ _ _=>rfl)
 have gq:=hk MJ (fun f fd F=>yh F T T2 hC hR Di xX) (iT fun _ _ _ _ _ _ _=>rfl)
 have Gp:=hk RC (fun f fd F=>DA F hC hR Go CW) (tO fun _ _ _ _ _ _ _ _=>rfl)
 have xY:=hk RF (fun f fd F=>uM F T hC hR Dk kA At) (iT fun _ _ _ _ _ _ _=>rfl)
 have wo:=hk RB (fun f fd F=>AI F hR Gp Gm xY) (tO fun _ _ _ _ _ _ _ _=>rfl)
 have MK:=hk RA (fun f fd F=>JS F T hR uc gq wo) (tO fun _ _ _ _ _ _ _ _=>rfl)
 have Dj:=hk RH (fun f fd F=>AR F T hC hR gq kA) (iT fun _ _ _ _ _ _ _=>rfl)
 have Au:=hk RI (fun f fd F=>ym F T hC hR xW) (iT fun _ _ _ _ _ _ _=>rfl)
 have Gq:=hk RJ (fun f fd F=>DB F T hC hR) (tO fun _ _ _ _ _ _ _ _=>rfl)
 have xZ:=hk Rx (fun f fd F=>uP F hR gq Gn) (tO fun _ _ _ _ _ _ _ _=>rfl)
 have Ad:=ho PM (fun f fd F B m=>yn F hR xZ wo) (iT fun _ _ _ _ _ _ _=>rfl)
 have MH:zp P w K mg base C:=by
  obtain⟨C',g,gd,e',M,FG⟩:=m0
  rw[eC]at e'
  cases e'
  exact⟨⟨g,gd,⟨RK,M.at_,M.fn,Rr⟩,AO FG hC,FG.binds (tO fun _ _ _ _ _ _ _ _=>rfl)⟩,PySem.W.mg_of X G eC⟩
 obtain⟨R',gi,SL,P4,SY,Su,Ps,Sz,ti,ei,Mi,Fi,ri⟩:=mI
 rw[eR]at ei
 cases ei
 have OH:=AQ Fi T hR MH pe vY
 have MR:zq P w K mg base C R:=⟨⟨gi,_,⟨Ow,Mi.at_,Mi.fn,Ou⟩,OH,rD Fi⟩,PySem.W.mg_of X G eR⟩
 have MD:zo P w K mg base C R:=⟨⟨gi,_,ti,⟨Ow,Mi.at_,Mi.fn,Ou⟩,OH,xi ri⟩,PySem.W.mg_of X G eR⟩
 obtain⟨fe,SK,P3,SX,Ss,Pr,Sy,te,ee,Fe,re⟩:=dE
 have hE:Ev P w K mg base 11 "ends" vn:=⟨⟨fe,_,Du Fe T T2 hR xC MR Ad ud gq Au,nL fun _ _=>rfl,PySem.W.mg_of X G ee,Fe.kp⟩⟩
 obtain⟨fc,SJ,P2,SW,Sr,Pq,Sx,tc,ec,Fc,rc⟩:=dC
 have hS:Ew P w K mg base:=⟨⟨fc,_,tc,AS Fc T2 hE,qF rc,nL fun _ _=>rfl,PySem.W.mg_of X G ec,Fc.kp⟩⟩
 have FR:=ho PX (fun f fd F B m=>DC F T) (iT fun _ _ _ _ _ _ _=>rfl)
 have Aa:=ho PY (fun f fd F B m=>Dt F T) (EA fun _ _ _ _ _ _ _ _ _=>rfl)
 have FO:=ho PZ (fun f fd F B m=>Dy F T Aa) (EA fun _ _ _ _ _ _ _ _ _=>rfl)
 exact GA F T T2 hR FR Aa FO MD hS gq MK Gq Dj
theorem walk{l:PySem.W.OpenLaw}{q:Program}{loose:List Str}{XP:(Str->Option Value)->Heap->Prop}{YP:World->Heap->Prop}{d:DefRec}{K:Params->PySem.W.Frag}(hn:l.most=some 63)(hdf:d.params.defaults= [])
  (hY: ∀ (w:World) (h:Heap),YP w h->(K w.params).In h)
  (F: ∀ (w:World) (mg:Str->Option Value) (fa:Addr) (h:Heap),(K w.params).In h->h.Ns mainGlobals mg->mg d.name=some (.ref fa)->
   ∃fd:FuncData,(∀ (s:Shared) (u:Value),BindsTo s fd ⟨[u],[]⟩ [("_law_script",u)])/\ ∀base:Heap,(K w.params).In base->base.Ns mainGlobals mg->aI l.prog w (K w.params) mg base br 13 fa fd ["_law_script"] (wS (K w.params))):
  PySem.W.WalkO q loose XP YP l.row.toRowW d [] (fun f vs=>PySem.call f vs):=
 L2.Eo (n:=63) (k:=13) (x:= "_law_script") (CX:=fun _=>br) (sp:=fun w=>wS (K w.params)) hn (by decide) hdf ⟨rfl,by decide,by decide,rfl⟩ hY F (fun _ _ a ns hl hO hS=>⟨a,ns,rfl,Hi hO hS,hl,fun _=>rfl⟩) fun _ _ _ _ _ z=>z
end
end W2
namespace PySem.W.Fast
def tw16059780752519457145:=0
def tw5212227297068729100:=0
def tw3157148945651305133:=0
def tw12223590061253349622:=0
def tw609477421073345029:=0
def tw9013921182605392770:=0
def tw14439662315903309793:=0
def tw16172229856824780517:=0
def tw14845948650220706548:=0
def tw8554999241006672500:=0
def tw18007795829414476749:=0
def tw7672197220146321326:=0
def tw17392572729979425487:=0
def tw3028907460358508049:=0
def tw9481303222490054066:=0
def tw15876009723152514474:=0
def tw724480598340217247:=0
def tw3153330005762537059:=0
def tw386907691339387238:=0
def tw15171613630978279369:=0
def tw10760164425666968297:=0
def tw16730443595423316229:=0
def tw2498584954368173533:=0
def tw17302858803282278822:=0
def tw4223133480198709384:=0
def tw17727456634088533885:=0
def tw9884553727298349669:=0
def tw1024876861282202263:=0
def tw8676532699779487677:=0
def tw4525337666623675767:=0
def tw540374867864299783:=0
def tw17047956612301396158:=0
def tw3635916921651907769:=0
def tw14409985797590420581:=0
def tw3694268860097085686:=0
def tw16451738935863852275:=0
def tw9091934862501763366:=0
def tw10576398377856586349:=0
def tw7818062193154458540:=0
def tw11509967545104865198:=0
def tw2146203959042878303:=0
def tw8891913467466790813:=0
def tw14243624972457801086:=0
def tw5321323854863502692:=0
def tw8389144830599941825:=0
def tw7594362760804440217:=0
def tw1685320391995487695:=0
def tw7712763362038458831:=0
def tw2260444008377837482:=0
def tw1221849060816420131:=0
def tw511564567949745288:=0
def tw17844222203351685587:=0
def tw4034055323013745009:=0
def tw9143994409045520381:=0
def tw5117635017343235590:=0
def tw7550979485694341391:=0
def tw3957935649189169536:=0
def tw16543755266128219459:=0
def tw7875197086085020777:=0
def tw10950523466585466422:=0
def tw3016750033198377499:=0
def tw11192930659343343223:=0
def tw6038462827511993985:=0
def tw16005200652875976880:=0
def tw5572627330003412956:=0
def tw16767191758689168303:=0
def tw14084515700675655630:=0
def tw8612310772731790372:=0
def tw4070066665062718503:=0
def tw10849179721392526741:=0
def tw2503293805720794707:=0
def tw4415402234228263644:=0
def tw5713885800020556267:=0
def tw5514466689133608270:=0
def tw972677324674927725:=0
def tw5019145857242647388:=0
def tw8304135190047375586:=0
def tw16621080997069263594:=0
def tw11452894717352833382:=0
def tw18040951369311363019:=0
def tw6748172623857543363:=0
def tw16744829404870370308:=0
def tw2072542717053166590:=0
def tw14198585431725131930:=0
def tw11427727427923173127:=0
def tw5230108405690748267:=0
def tw10730824543563159085:=0
def tw12449018602773642554:=0
def tw3054662870115705315:=0
def tw2273870516485105926:=0
def tw3194886325115585147:=0
def tw10383755714522739914:=0
def tw4667256472326283627:=0
def tw9406432019250942162:=0
def tw2939494560250384460:=0
def tw650471532577539430:=0
def tw11682829793774854401:=0
def tw9742733851788567591:=0
def tw9317993815732613012:=0
def tw5949029433008314613:=0
def tw9040102596229075025:=0
def tw7733960769217101249:=0
def tw5298875964082579184:=0
def tw16026377774727596389:=0
def tw7625747030664497350:=0
def tw2664706719571222065:=0
def tw2504193703694748444:=0
def tw11228344582905420722:=0
def tw395069848556337643:=0
def tw9193789781305654618:=0
def tw17194968432842200806:=0
def tw6968891595254955537:=0
def tw6650182813114675467:=0
def tw956090958865277336:=0
def tw14486676129162175471:=0
def tw8876374464906371573:=0
def tw3887351154328359311:=0
def tw11630273655764544680:=0
def tw11152990135074403769:=0
def tw10353234566633117259:=0
def tw1472646352146090454:=0
def tw13520698356320770779:=0
def tw1701622964822171405:=0
def tw11490372423044158721:=0
def tw6349722184361550417:=0
def tw5177155591566840977:=0
def tw6106824308168996882:=0
def tw16491215939223672875:=0
def tw733978321262044259:=0
def tw5666470535331973864:=0
def tw2914983362887273592:=0
def tw14085695612765183803:=0
def tw2509882508004352799:=0
def tw6888497915904889481:=0
def tw12850830070083061784:=0
def tw909437951908081102:=0
def tw7590288990735372545:=0
def tw17450551367287648643:=0
def tw2661418540735247202:=0
def tw3681468855530923710:=0
def tw8119050425583560690:=0
def tw16194868673475906790:=0
def tw14171202801269078799:=0
def tw14885904995537411133:=0
def tw4245127592632110212:=0
def tw16105418227230825873:=0
def tw4557076481209559224:=0
def tw13272218065820304787:=0
def tw4395682825810481831:=0
def tw10578521827612370452:=0
def tw4371129098339080245:=0
def tw14372328879324799977:=0
def tw14001989673136874757:=0
def tw16964630067442137681:=0
def tw5487465056950202009:=0
def tw5819731398421840221:=0
def tw3379229125024192527:=0
def tw3142240163625844318:=0
def tw16681160515551753418:=0
def tw2295167902727969114:=0
def tw17507650689634132579:=0
def tw10978059059990662721:=0
def tw1437149797112114508:=0
def tw18299529403162344627:=0
def tw1694520815710633971:=0
def tw4419389868406926437:=0
def tw16001651039850802830:=0
def tw781034609729842564:=0
def tw11031946939176528410:=0
def tw1797803886874955695:=0
def tw8308629176433364011:=0
def tw5235790956340534293:=0
def tw12963050932843111329:=0
def tw10827999138702203757:=0
def tw16302542764596069126:=0
def tw14556069560349743424:=0
def tw5247553742248042812:=0
def tw17809247815492835324:=0
def tw2042143795752769325:=0
def tw11084667030234264602:=0
def tw7459965807211818558:=0
def tw235118447121429860:=0
def tw15367334864908759964:=0
def tw992038155438763336:=0
def tw13209149506525560300:=0
def tw10311227259217194934:=0
def tw979797565256911805:=0
def tw10970930058048778250:=0
def tw10321842910927160894:=0
def tw10508830974531795260:=0
def tw4969341982700794674:=0
def tw5470528424824875529:=0
def tw9335482528846439935:=0
def tw6508986868218776410:=0
def tw5211351402321372476:=0
def tw14769138542741636696:=0
def tw8012081935414049181:=0
def tw9591641611352740471:=0
def tw16004454276034523859:=0
def tw15398375635693516814:=0
def tw13263067368164690332:=0
def tw3739156126502083283:=0
def tw9995957308898003767:=0
def tw12104532491815035308:=0
def tw13645693963524779332:=0
def tw14309843729487136082:=0
def tw11531713039456143602:=0
def tw11449573440050538450:=0
def tw18240456172792772838:=0
def tw2211930989736000561:=0
def tw14456026114865696574:=0
def tw6169285030653013817:=0
def tw5753474368842583968:=0
def tw16106038318373579473:=0
def tw5203593857280933107:=0
def tw4169640236515703926:=0
def tw11512631834231092552:=0
def tw13292039975079936060:=0
def tw5680892252014654524:=0
def tw4268390763043715744:=0
def tw9104285682745650785:=0
def tw641054222334529052:=0
def tw8872324365695935684:=0
def tw16259954825449229706:=0
def tw16058145818856787757:=0
def tw15013627520256196680:=0
def tw281040252313726292:=0
def tw11024573440188417076:=0
def tw17508072565389956399:=0
def tw12123541908520532142:=0
def tw8587483807326959263:=0
def tw12217124768959958168:=0
def tw16074050623001568861:=0
def tw7586595432201292469:=0
def tw7594489515152296413:=0
def tw10591660869785291507:=0
def tw2645466408760330854:=0
def tw2984510046006685907:=0
def tw8187103147792526314:=0
def tw2334227963474839637:=0
end PySem.W.Fast
open PySem PySem.W PyProof.Rows
set_option maxRecDepth 100000 in
set_option maxHeartbeats 0 in
theorem PySem.Challenge.cw_wildtakes_k60_whole_alls_holds : PySem.Challenge.rw_wildtakes_k60_whole_alls.Holds := by
 w_on;o_law;k_head;(case hw=>w_witness2)
 k_fill
 refine W2.walk (l:=PySem.Challenge.rw_wildtakes_k60_whole_alls) rfl rfl (fun w h Y=>PySem.W.kIn_of Y) ?F
 case F=>
  intro w mg fa h KX G hmg
  have nn:W2.kn (L2.KOf KX):=by
   dsimp only[L2.KOf]
   exact W2.Aw
  have fo:W2.km w (L2.KOf KX):=by
   dsimp only[L2.KOf]
   refine' W2.zS ?a ?l ?s ?e (W2.eO ?t1 ?z1 ?v1) (W2.eO ?t2 ?z2 ?v2) (W2.eO ?t3 ?z3 ?v3) (W2.eO ?t4 ?z4 ?v4) (W2.eO ?t5 ?z5 ?v5) (W2.eO ?t6 ?z6 ?v6) (W2.eO ?t7 ?z7 ?v7) (W2.eO ?t8 ?z8 ?v8)
   (case a=>k_is);(case l=>k_is);(case s=>decide)
   (case e=>exact(.cons rfl (.cons rfl (.cons rfl (.cons rfl (.cons rfl (.cons rfl (.cons rfl (.cons rfl .nil)))))))))
   (case t1=>k_is);(case z1=>decide);(case v1=>exact(.cons ⟨_,rfl⟩ (.cons ⟨_,rfl⟩ (.cons ⟨_,rfl⟩ .nil))))
   (case t2=>k_is);(case z2=>decide);(case v2=>exact(.cons ⟨_,rfl⟩ (.cons ⟨_,rfl⟩ (.cons ⟨_,rfl⟩ .nil))))
   (case t3=>k_is);(case z3=>decide);(case v3=>exact(.cons ⟨_,rfl⟩ (.cons ⟨_,rfl⟩ (.cons ⟨_,rfl⟩ (.cons ⟨_,rfl⟩ .nil)))))
   (case t4=>k_is);(case z4=>decide);(case v4=>exact(.cons ⟨_,rfl⟩ .nil))
   (case t5=>k_is);(case z5=>decide);(case v5=>exact(.cons ⟨_,rfl⟩ .nil))
   (case t6=>k_is);(case z6=>decide);(case v6=>exact(.cons ⟨_,rfl⟩ (.cons ⟨_,rfl⟩ (.cons ⟨_,rfl⟩ .nil))))
   (case t7=>k_is);(case z7=>decide);(case v7=>exact(.cons ⟨_,rfl⟩ (.cons ⟨_,rfl⟩ (.cons ⟨_,rfl⟩ (.cons ⟨_,rfl⟩ .nil)))))
   (case t8=>k_is);(case z8=>decide);(case v8=>exact .nil)
  have ck:W2.iL w (L2.KOf KX):=by
   dsimp only[L2.KOf]
   refine' W2.xn ?a ?l ?s ?e ?f1 ?f2 ?f3 ?f4 ?f5
   (case a=>k_is);(case l=>k_is);(case s=>decide)
   (case e=>exact(.cons rfl (.cons rfl (.cons rfl (.cons rfl (.cons rfl (.cons rfl .nil)))))))
   (case f1=>k_is);(case f2=>k_is);(case f3=>k_is);(case f4=>k_is);(case f5=>k_is)
  have de:W2.kl w (L2.KOf KX):=by
   dsimp only[L2.KOf]
   refine' W2.zG ?a ?l ?s ?e ?f1 ?f4 ?f7
   (case a=>k_is);(case l=>k_is);(case s=>decide)
   (case e=>exact(.cons rfl (.cons rfl (.cons rfl (.cons rfl (.cons rfl (.cons rfl (.cons rfl .nil))))))))
   (case f1=>k_is);(case f4=>k_is);(case f7=>k_is)
  refine W2.Gf KX G hmg nn fo ck de ?_ ?_ ?_ ?_ ?_ ?_ ?_ ?_ ?_ ?_ ?_ ?_ ?_ ?_ ?_ ?_ ?_ ?_ ?_ ?_ ?_ ?_ ?_ ?_ ?_ ?_ ?_ ?_ ?_ ?_ ?_ ?_ ?_ ?_ ?_ ?_ ?_ ?_ ?_ ?_ ?_ ?_ ?_ ?_ ?_ ?_ ?_ ?_ ?_ ?_ ?_ ?_ ?_ ?_ ?_ ?_ ?_ ?_ ?_
  ·exact W2.qO (no:=(W2.b0 (W2.b0 (W2.b0 (W2.b0 (W2.b0 (W2.b0 (W2.b0 (W2.b0 (W2.b0 (W2.b0 W2.AE)))))))))))
  ·exact W2.qO (no:=(W2.b0 (W2.b0 (W2.b0 (W2.b0 W2.AE)))))
  ·exact W2.vP
  ·exact W2.vP
  ·exact W2.Av
  iterate 31 exact W2.zI
  all_goals exact W2.x9
