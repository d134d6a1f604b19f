import PyProof.Rows.All
import Wide.All
import OpenK.AllK
import Wide.FinOn
import Lean
import PyProof.EqAt
import PyProof.EqKinds
import PyProof.TupleCall
import PySem.Unicode
import PyProof.StrLawsReplace
import PyProof.StrLawsTight
import PyProof.StrLawsWords2
import PyProof.StrLawsAffix
import PyProof.StrLawsNeg
import KE.IntTextLaws
import KE.KSortTup
import KE.KItemsList
import KE.KDictSum
import PyProof.SetKind
import PyProof.TupleKey
import PySem.Challenge.RW_wildtakes_k12_whole_in_order
set_option linter.all false
set_option maxRecDepth 100000
set_option maxHeartbeats 0
set_option Elab.async false
section
open Lean in
local macro_rules|`(tactic|exists $e,*)=>`(tactic|refine⟨$e,*⟩)
open Lean Parser.Command in
local macro_rules(kind:=Lean.Parser.Command.declaration)|s=>do let m:=s[0];let d:=s[1];let k:=d.getKind;let t:=d[2][1];if m[4].getNumArgs>0||k != ``«abbrev»&&(k != ``definition||t.getNumArgs<1)then Macro.throwUnsupported else return if k== ``«abbrev»||t[0][1].getNumArgs<2||m[0].getNumArgs>0 then s.setArg 0 ((m.setArg 4 (mkNullNode #[mkNode ``«noncomputable» #[mkAtom ""]])).setArg 0 m[5])else s.setArg 1 (mkNode ``«theorem» #[mkAtom "",d[1],mkNode ``declSig #[d[2][0],t[0]],d[3]])
def aH:=@PySem.wpAny_bind
def aT:=@if_pos
def aU:=@if_neg
def aV:=@Nat.le_refl
def aX:=@PySem.wpAny_pure
def bq:=@List.length_map
def br:=@List.getElem?_eq_getElem
def bH:=@List.map_cons
def bL:=@PySem.Heap.lt_size
def bS:=@PySem.Heap.get?_push_of_some
def cp:=@Nat.ne_of_lt
def cB:=@List.getElem?_map
def cE:=@List.size_toArray
def cK:=@List.map_append
def cS:=@PySem.Heap.get?_push_size
def cU:=@List.length_cons
def db:=@List.mem_append_right
def dE:=@List.mem_append_left
def dJ:=@PySem.wpAny_mono
def dN:=@List.mem_cons
def dR:=@List.mem_of_getElem?
def dS:=@Nat.le_trans
def eB:=@List.not_mem_nil
def eJ:=@or_false
def fk:=@List.mem_cons_self
def fI:=@Bool.false_ne_true
def fJ:=@List.mem_cons_of_mem
def fK:=@Nat.lt_of_lt_of_le
def fN:=@if_false
def fQ:=@Nat.zero_le
def fS:=@Bool.false_eq_true
def fZ:=@List.map_nil
def gc:=@if_true
def gn:=@List.length_append
def gp:=@Option.some.inj
def gv:=@decide_eq_false
def gR:=@Bool.and_eq_true
def gT:=@List.getElem_of_mem
def hW:=@Nat.le_succ
def io:=@List.cons.injEq
def ip:=@List.mem_singleton
def iP:=@PySem.wpAny_holding
def iS:=@PySem.W.mg_of
def jb:=@PySem.sizeLine_eq
def jd:=@PySem.wpAny_newObj_type
def jf:=@Prod.mk.injEq
def jB:=@PySem.wpAny_call_entry
def jF:=@PySem.Heap.size_push
def jG:=@List.map_map
def jH:=@Ne.symm
def jJ:=@PySem.W.mg_none_of
def jL:=@PyProof.Rows.boot_tuple
def jN:=@decide_eq_true
def ka:=@PySem.wpAny_field
def kb:=@Array.getElem?_toList
def kd:=@Array.length_toList
def ke:=@List.length_replicate
def kf:=@List.length_take
def kg:=@List.sum_cons
def kh:=@Nat.lt_irrefl
def ki:=@PySem.PassesOwn.never
def kj:=@and_true
def kM:=@Array.getElem?_eq_getElem
def kO:=@List.append_nil
def kP:=@List.getElem_mem
def kS:=@congrArg
def lu:=@of_decide_eq_true
def lP:=@List.nodup_cons
def lT:=@decide_eq_true_eq
def mR:=@PySem.wpAny_truthy_bool
def mW:=@List.lookup_cons
def mY:=@PySem.F.plainAttrs_list
def mZ:=@PySem.W.kia_one
def ni:=@PyProof.Rows.boot_isinstance
def nZ:=@PySem.wpAny_standAt
def oh:=@List.length_range
def oj:=@List.nodup_nil
def pN:=@PySem.wpAny_callSpecial?_slot
def pO:=@Array.getD_eq_getD_getElem?
def pP:=@Bool.eq_iff_iff
def pS:=@List.filter_cons
def pT:=@List.find?_cons_of_neg
def pU:=@List.take_length
def pX:=@PySem.boot_len
def q9:=@PySem.wpAny_setState_of
def rn:=@Int.emod_lt_of_pos
def rA:=@Int.emod_nonneg
def rC:=@List.any_cons
def rD:=@List.find?_cons_of_pos
def rE:=@List.length_nil
def rF:=@List.length_set
def rG:=@List.mem_append
def rH:=@Nat.le_of_lt
def rJ:=@Nat.not_lt_zero
def rW:=@PySem.codeAny_mono
def uf:=@PySem.wpAny_seqItems
def uh:=@PySem.Calls.callWith_builtin
def ul:=@PySem.Heap.SameBut.update
def um:=@PySem.Heap.get?_update_self
def uq:=@List.filter_append
def ur:=@List.find?_cons
def ut:=@List.getElem?_append_right
def uw:=@List.mem_of_find?_eq_some
def uz:=@Nat.add_zero
def uA:=@Nat.le_add_right
def uB:=@Nat.lt_succ_of_lt
def uC:=@Nat.ne_of_gt
def uE:=@PySem.F.slot_list_append
def uF:=@PySem.F.type_list_append
def uM:=@PySem.call_meetsIn
def wg:=@PySem.wpAny_passesOwn
def wj:=@PySem.wpAny_setField
def wk:=@Bool.not_true
def wu:=@List.all_eq_true
def ww:=@List.getElem?_append_left
def wz:=@List.getElem?_eq_none
def wA:=@List.length_filter_le
def wB:=@List.take_of_length_le
def wF:=@Nat.lt_of_le_of_lt
def wG:=@Nat.lt_succ_self
def wH:=@PySem.F.slot_dict_get
def wJ:=@Sum.inl.injEq
def wP:=@PySem.codeAny_builtin
def y9:=@PySem.wpAny_Call_Name_kw
def za:=@PySem.wpAny_askSetting
def zb:=@PySem.wpAny_attempt
def zc:=@PySem.wpAny_fieldsOf
def zg:=@PySem.Around.under_plainId
def zh:=@Array.Perm.refl
def zi:=@Array.getElem?_eq_none
def zr:=@Int.toNat_natCast
def zu:=@List.cons_append
def zw:=@List.filterMap_cons
def zx:=@List.filter_nil
def zy:=@List.flatMap_cons
def zA:=@List.getElem?_range
def zB:=@List.length_drop
def zC:=@List.mem_flatten
def zD:=@List.nil_append
def zE:=@List.pairwise_singleton
def zF:=@List.range_succ
def zI:=@Nat.le_of_not_lt
def zK:=@Option.some.injEq
def zN:=@PyProof.Rows.callWith_type1
def zO:=@PySem.F.plainAttrs_dict
def zP:=@PySem.mem_of_lookup
def zW:=@bne_self_eq_false
def CN:=@PySem.tupleKind_room_in1
def CY:=@PySem.wpAny_pyIter_tuple
def CZ:=@PySem.wpAny_setField_rec
def C2:=@PySem.Calls.evalArgs_plain
def C3:=@Classical.byContradiction
def C5:=@PySem.F.slot_tuple_iterator_next
def C6:=@PySem.Heap.get?_update_other
def Dd:=@List.getElem?_replicate
def De:=@List.mem_of_mem_drop
def Df:=@List.pairwise_append
def Dg:=@List.take_append_drop
def Dj:=@PyProof.Rows.slot_tuple_getitem
def Dk:=@PySem.F.entry_dict_get
def Dl:=@PySem.F.slot_dict_items
def Dm:=@PySem.F.slot_dict_keyiterator_next
def IV:=@PySem.wpAny_comprehension_free
def IW:=@PySem.wpAny_newFunctionEnv
def IY:=@PySem.wpAny_typeNameOfWhole_keyiter
def IZ:=@PySem.wpAny_typeNameOf_keyiter
abbrev aa:=PySem.Value
abbrev ac:=PySem.Shared
abbrev ae:=PySem.Addr
abbrev af:=PySem.Program
abbrev ag:=PySem.World
abbrev ah:=PySem.FuncData
abbrev ak:=PySem.Heap
abbrev ao:=PySem.Around
abbrev ap:=@Option
abbrev aq:=@List
abbrev au:=@Array
abbrev av:=PySem.SetTable
abbrev ay:=PySem.Stmt
abbrev aA:=PySem.Str
namespace L2
open PySem PySem.Spec PyProof.Rows
abbrev aZ:=Sum Int Str
/---/def sR:aZ->Value->Bool
 | .inl k,v=>Value.isInt k v
 | .inr x,v=>Value.isStrOf x v
/---/def XQ(w:World):aZ->Int
 | .inl k=>hashInt k
 | .inr x=>hashStr w x
def nG: ∀ {k:aZ} {v:aa},sR k v=true->(∃i t,k=Sum.inl i/\v=Value.int i t)\/(∃x t,k=Sum.inr x/\v=Value.str x t)
 | .inl i,v,h=>by obtain⟨t,e⟩:=Value.isInt_shape (k:=i) (v:=v) h;exact .inl ⟨i,t,rfl,e⟩
 | .inr x,v,h=>by obtain⟨t,e⟩:=Value.isStrOf_shape (x:=x) (v:=v) h;exact .inr ⟨x,t,rfl,e⟩
def XR(i:Int)(t:Tok):sR (.inl i) (.int i t)=true:=by simp[sR,Value.isInt]
def XS(x:aA)(t:Tok):sR (.inr x) (.str x t)=true:=by simp[sR,Value.isStrOf]
def XT(a b:Int):decide ((Sum.inl a:aZ)=Sum.inl b)=(a==b):=by by_cases e:a=b;subst e;simp;have h: ¬(Sum.inl a:aZ)=Sum.inl b:=λq=>e (Sum.inl.inj q);rw[gv h];exact(beq_eq_false_iff_ne.mpr e).symm
def XW(a b:aA):decide ((Sum.inr a:aZ)=Sum.inr b)=decide (a=b):=by by_cases e:a=b;subst e;simp;have h: ¬(Sum.inr a:aZ)=Sum.inr b:=λq=>e (Sum.inr.inj q);rw[gv h,gv e]
def XU(a:Int)(b:aA):decide ((Sum.inl a:aZ)=Sum.inr b)=false:=gv λq=>nomatch q
def XV(a:aA)(b:Int):decide ((Sum.inr a:aZ)=Sum.inl b)=false:=gv λq=>nomatch q
/---/def cX(prog:Program)(w:World):PySem.KeyKind prog w aZ where
 is:=sR
 hash:=XQ w
 inj:=λv a b ha hb=>by(rcases nG ha with⟨i,t,rfl,rfl⟩|⟨x,t,rfl,rfl⟩);(rcases nG hb with⟨j,u,rfl,e⟩|⟨y,u,rfl,e⟩);injection e with e1 _;rw[e1];exact nomatch e;(rcases nG hb with⟨j,u,rfl,e⟩|⟨y,u,rfl,e⟩);exact nomatch e;injection e with e1 _;rw[e1]
 byValue:=λk v h=>by rcases nG h with⟨i,t,rfl,rfl⟩|⟨x,t,rfl,rfl⟩<;>rfl
 pyHash:=λhv h=>by(rcases nG hv with⟨i,t,rfl,rfl⟩|⟨x,t,rfl,rfl⟩);exact wpAny_pyHash_int h;exact wpAny_pyHash_str h
 eqBool:=λhu hv h=>by(rcases nG hu with⟨i,t,rfl,rfl⟩|⟨x,t,rfl,rfl⟩);(rcases nG hv with⟨j,u,rfl,rfl⟩|⟨y,u,rfl,rfl⟩);rw[XT]at h;exact wpAny_eqBool_int h;rw[XU]at h;exact SeqAt.EqAt.int_str i t y u _ _ _ _ h;(rcases nG hv with⟨j,u,rfl,rfl⟩|⟨y,u,rfl,rfl⟩);rw[XV]at h;exact SeqAt.EqAt.str_int x t j u _ _ _ _ h;rw[XW]at h;exact wpAny_eqBool_str h
 «strs»:=λk x t v h=>by(rcases nG h with⟨i,u,rfl,e⟩|⟨y,u,rfl,e⟩);exact nomatch e;(injection e with e1 _);subst e1;cases v<;>rfl
def Y8(prog:af)(w:ag)(i:Int)(t:Tok):(cX prog w).is (.inl i) (.int i t)=true:=XR i t
def Br(prog:af)(w:ag)(x:aA)(t:Tok):(cX prog w).is (.inr x) (.str x t)=true:=XS x t
inductive V where
 |aN|bl (b:Bool)|int (i:Int)|str (x:Str)|iW (b:Array UInt8)|oE (b:UInt64)|ref (a:Addr)|ty (n:String)
 deriving DecidableEq
/---/def bm:V->Value->Prop
 | .aN,u=>u=Value.none
 | .bl b,u=>u=Value.bool b
 | .int i,u=> ∃t,u=Value.int i t
 | .str x,u=> ∃t,u=Value.str x t
 | .iW b,u=> ∃t,u=Value.bytes b t
 | .oE b,u=> ∃t,u=Value.float b t
 | .ref a,u=>u=Value.ref a
 | .ty n,u=>u=Value.type n
abbrev bg:List V->List Value->Prop:=Paired bm
def bg.length{xs:aq V}{us:aq aa}(r:bg xs us):xs.length=us.length:=Paired.length r
def bg.get: ∀ {xs:aq V} {us:aq aa} {i:Nat} {x:V},bg xs us->xs[i]? =some x-> ∃u,us[i]? =some u/\bm x u
 |_,_,_,_,.nil,e=>by simp at e
 |_,_,0,_,.cons r _,e=>by simp at e;subst e;exists _,rfl,r
 |_,_,i+1,x,.cons _ t,e=>by obtain⟨u,h1,h2⟩:=bg.get (i:=i) (x:=x) t (by simpa using e);exists u,by simpa using h1,h2
def bg.set{x:V}{u:aa}(r:bm x u): ∀ {xs:aq V} {us:aq aa} (i:Nat),bg xs us->bg (xs.set i x) (us.set i u)
 |_,_,_,.nil=> .nil
 |_,_,0,.cons _ t=> .cons r t
 |_,_,i+1,.cons q t=> .cons q (bg.set r i t)
def bg.append: ∀ {xs ys:aq V} {us ws:aq aa},bg xs us->bg ys ws->bg (xs++ys) (us++ws)
 |_,_,_,_,.nil,s=>s
 |_,_,_,_,.cons r t,s=> .cons r (bg.append t s)
def bg.take: ∀ {xs:aq V} {us:aq aa} (n:Nat),bg xs us->bg (xs.take n) (us.take n)
 |_,_,0,_=> .nil
 |_,_,_+1,.nil=> .nil
 |_,_,n+1,.cons r t=> .cons r (bg.take n t)
def bg.drop: ∀ {xs:aq V} {us:aq aa} (n:Nat),bg xs us->bg (xs.drop n) (us.drop n)
 |_,_,0,r=>r
 |_,_,_+1,.nil=> .nil
 |_,_,n+1,.cons _ t=>bg.drop n t
/---/def gA:Option V->Option Value->Prop
 |some v,some u=>bm v u
 |none,none=>True
 |_,_=>False
/---/def KV{κ:Type}:List (κ×V)->List (κ×Value)->Prop:=Paired λ(p:κ×V) (q:κ×Value)=>p.1=q.1/\bm p.2 q.2
/---/def kV:aZ->V
 | .inl i=> .int i
 | .inr x=> .str x
inductive HO where
 |aK (xs:List V)
 |aC (xs:List V)
 |dK (kvs:List (aZ×V))|dT (kvs:List (List aZ×V))
 |set (S:Int->Bool) (n:Nat)
 |bv (C dx:Addr) (fs:List (Str×V))
 |bR (x:Addr)
 |xd (fs:List (Str×V))
 |met (f x:Addr)
 |nR (lo hi:Int)
 |cc (o:Obj) (u:HO)
 |pK (ps:Array Value)
 |ext (φ:Heap->Prop)
abbrev Hp:=Addr->Option HO
def upd(H:Hp)(a:Addr)(o:HO):Hp:=λb=>if b=a then some o else H b
def aL{a:ae}{o:HO}:upd H a o a=some o:=by unfold upd;rw[aT rfl]
def aP{a b:ae}{o:HO}(h:b≠a):upd H a o b=H b:=by unfold upd;rw[aU h]
def xX{H:Hp}{a b:ae}{o u:HO}(h:H a=some o)(h':H b=some u)(d:o≠u):a≠b:=by intro e;subst e;rw[h]at h';exact d (gp h')
def fm{H:Hp}{a b:ae}{o:HO}(h:H a=some o)(h':H b=none):a≠b:=by intro e;subst e;rw[h]at h';cases h'
section
variable(P:af)(w:ag)
/---/def dO(H:Hp)(h:Heap)(a:Addr):HO->Prop
 | .aK xs=>xs.length<=sizeLine/\ ∃ (aF:List Value) (n:Nat),bg xs aF/\h.get? a=some {cls:= .type "list",data:= .seq aF.toArray n}
 | .aC xs=>xs.length<=sizeLine/\ ∃aF:List Value,bg xs aF/\IsTup h a aF.toArray
 | .dK kvs=>kvs.length<=sizeLine/\(a==sysModules)=false/\ ∃vs,KV kvs vs/\h.DictOf (cX P w) a vs
 | .dT kvs=>kvs.length<=sizeLine/\(a==sysModules)=false/\ ∃xs:List (List aZ×Addr×Value),
   Paired (λ(p:List aZ×V) (q:List aZ×Addr×Value)=>p.1=q.1/\H q.2.1=some (.aC (p.1.map kV))/\bm p.2 q.2.2) kvs xs/\
   ∃o es ep,h.get? a=some o/\o.ExactDict/\o.data= .dict es ep/\es.toList=xs.map (entryOfKey (tupleKind (cX P w)))/\(xs.map (·.1)).Nodup
 | .set S n=>h.SetOf (intKind P w) a S n
 | .bv C dx fs=>H dx=some (.bR a)/\fs.length<=1000/\dx≠a/\h.get? a=some (W.instObj C dx)/\
   ∃mA,h.Ns1 dx mA/\(∀f,gA (fs.lookup f) (mA f))/\PySem.Within mA (fs.map (·.1))
 | .bR _=> ∃o,h.get? a=some o
 | .xd fs=> ∃mA,h.Ns1 a mA/\ ∀f,gA (fs.lookup f) (mA f)
 | .nR lo hi=> ∃t u v,h.get? a=some {cls:= .type "range",data:= .fields #[.int lo t,.int hi u,.int 1 v]}
 | .cc o u=>h.get? a=some o/\dO H h a u
 | .pK ps=>h.get? a=some {cls:= .none,data:= .fields ps}
 | .met f x=>h.get? a=some (W.methodObj (.ref f) (.ref x))
 | .ext φ=>φ h/\(∃o,h.get? a=some o)/\ ∀h1 h2:Heap,φ h1->(∀o,h1.get? a=some o->h2.get? a=some o)->φ h2
def dh(H:Hp)(h:Heap):Prop:= ∀a o,H a=some o->dO P w H h a o
end
section
variable{P:af}{w:ag}{H H':Hp}{h h':ak}{a:ae}{o:HO}
def dO.lt(x:dO P w H h a o):a<h.objs.size:=by cases o with|aK xs=>obtain⟨_,_,_,_,e⟩:=x;exact bL e|aC xs=>obtain⟨_,_,_,p⟩:=x;exact p.lt|dK kvs=>obtain⟨_,_,_,_,o,_,_,e,_⟩:=x;exact bL e|dT kvs=>obtain⟨_,_,_,_,o,_,_,e,_⟩:=x;exact bL e|set S n=>obtain⟨o,_,_,_,e,_⟩:=x;exact bL e|bv C dx fs=>obtain⟨_,_,_,e,_⟩:=x;exact bL e|bR y=>obtain⟨_,e⟩:=x;exact bL e|xd fs=>obtain⟨_,⟨_,_,_,e,_⟩,_⟩:=x;exact bL e|nR lo hi=>obtain⟨_,_,_,e⟩:=x;exact bL e|cc ob u=>obtain⟨e,_⟩:=x;exact bL e|pK ps=>exact bL (show h.get? a=some _ from x)|met f y=>exact bL (show h.get? a=some _ from x)|ext φ=>obtain⟨_,⟨_,e⟩,_⟩:=x;exact bL e
def Paired.Bm{α β:Type}{F G:α->β->Prop}: ∀ {l₁:aq α} {l₂:aq β},Paired F l₁ l₂->(∀a b,F a b->G a b)->Paired G l₁ l₂
 |_,_,.nil,_=> .nil
 |_,_,.cons r t,f=> .cons (f _ _ r) (Paired.Bm t f)
def dO.stay(x:dO P w H h a o)(k: ∀b u,(b=a\/H b=some (.bR a))->h.get? b=some u->h'.get? b=some u)(ho: ∀b,H b=some (.bR a)->H' b=some (.bR a))(ht: ∀b xs,H b=some (.aC xs)->H' b=some (.aC xs)):dO P w H' h' a o:=by induction o with|aK xs=>obtain⟨z,aF,n,r,e⟩:=x;exact⟨z,aF,n,r,k _ _ (.inl rfl) e⟩|aC xs=>obtain⟨z,aF,r,ob,e,c⟩:=x;exact⟨z,aF,r,ob,k _ _ (.inl rfl) e,c⟩|dK kvs=>obtain⟨z,y,vs,r,ob,es,ep,e,c⟩:=x;exact⟨z,y,vs,r,ob,es,ep,k _ _ (.inl rfl) e,c⟩|dT kvs=>obtain⟨z,y,xs,r,ob,es,ep,e,c⟩:=x;exact⟨z,y,xs,Paired.Bm r λp q z=>⟨z.1,ht _ _ z.2.1,z.2.2⟩,ob,es,ep,k _ _ (.inl rfl) e,c⟩|set S n=>obtain⟨ob,es,ep,t,e,c⟩:=x;exact⟨ob,es,ep,t,k _ _ (.inl rfl) e,c⟩|bv C dx fs=>obtain⟨d,z,ne,e,mA,⟨od,es,ep,e2,c⟩,r⟩:=x;exact⟨ho _ d,z,ne,k _ _ (.inl rfl) e,mA,⟨od,es,ep,k _ _ (.inr d) e2,c⟩,r⟩|bR y=>obtain⟨ob,e⟩:=x;exact⟨ob,k _ _ (.inl rfl) e⟩|xd fs=>obtain⟨mA,⟨od,es,ep,e,c⟩,r⟩:=x;exact⟨mA,⟨od,es,ep,k _ _ (.inl rfl) e,c⟩,r⟩|nR lo hi=>obtain⟨t,u,v,e⟩:=x;exact⟨t,u,v,k _ _ (.inl rfl) e⟩|cc ob u ih=>obtain⟨e,q⟩:=x;exact⟨k _ _ (.inl rfl) e,ih q⟩|pK ps=>have e:h.get? a=some {cls:= .none,data:= .fields ps}:=x;show h'.get? a=some {cls:= .none,data:= .fields ps};exact k a _ (.inl rfl) e|met f y=>have e:h.get? a=some (W.methodObj (.ref f) (.ref y)):=x;show h'.get? a=some (W.methodObj (.ref f) (.ref y));exact k a _ (.inl rfl) e|ext φ=>obtain⟨p,⟨o,e⟩,st⟩:=x;exists st _ _ p λo q=>k _ _ (.inl rfl) q,⟨o,k _ _ (.inl rfl) e⟩,st
def dh.lt(x:dh P w H h)(e:H a=some o):a<h.objs.size:=(x a o e).lt
def dh.fresh(x:dh P w H h)(e:h.objs.size<=a):H a=none:=by cases q:H a with|none=>rfl|some u=>exact absurd (fK (x.lt q) e) (kh _)
def dh.kept(x:dh P w H h)(k: ∀b u,h.get? b=some u->h'.get? b=some u):dh P w H h':=λa o e=>
 (x a o e).stay (λb u _ q=>k b u q) (λ_ q=>q) λ_ _ q=>q
def dh.laid(x:dh P w H h)(k: ∀b u,h.get? b=some u->h'.get? b=some u)(hp:h.objs.size<=a)(new:dO P w (upd H a o) h' a o):dh P w (upd H a o) h':=λb u e=>by have hn:=x.fresh hp;by_cases hb:b=a;subst hb;rw[aL]at e;cases e;exact new;rw[aP hb]at e;exact(x b u e).stay (λc v _ q=>k c v q) (λc q=>by rw[aP (fm q hn)];exact q) λc xs q=>by rw[aP (fm q hn)];exact q
end
def Rd(H:Hp)(a:Addr)(u:HO):Prop:=H a=some u\/ ∃o,H a=some (.cc o u)
def Rd.ok{P:af}{w:ag}{H:Hp}{h:ak}{a:ae}{u:HO}(r:Rd H a u)(x:dh P w H h):dO P w H h a u:=by(rcases r with r|⟨o,r⟩);exact x a u r;obtain⟨_,q⟩:=x a _ r;exact q
/---/def wE:Option HO->Prop
 |some (.aK _)=>True
 |some (.dK _)=>True
 |some (.dT _)=>True
 |some (.set _ _)=>True
 |some (.bv _ _ _)=>True
 |some (.ext _)=>True
 |_=>False
section
variable{P:af}{w:ag}{H:Hp}{h h':ak}{x e:ae}{o':HO}
def dh.write(ok:dh P w H h)(mu:wE (H x))(he:e=x\/H e=some (.bR x))(k: ∀b u,b≠e->h.get? b=some u->h'.get? b=some u)(uY: ∃u,h'.get? e=some u)(new:dO P w (upd H x o') h' x o'):dh P w (upd H x o') h':=λb u q=>by(have NR: ∀c y,H c=some (.bR y)->c≠x:=λc y r z=>by subst z;rw[r]at mu;exact mu);(have Z1: ∀c xs,H c=some (.aC xs)->c≠x:=λc xs r z=>by subst z;rw[r]at mu;exact mu);by_cases hb:b=x;subst hb;rw[aL]at q;cases q;exact new;rw[aP hb]at q;by_cases nr:b=e;(have q':H b=some (.bR x):=(by rcases he with z|z;exact absurd (nr.trans z) hb;rw[nr];exact z));rw[q]at q';cases q';obtain⟨v,hv⟩:=uY;exact⟨v,by rw[nr];exact hv⟩;(refine(ok b u q).stay (λc v hc r=>k c v ?_ r) (λc r=>by rw[aP (NR c b r)];exact r) λc xs r=>by rw[aP (Z1 c xs r)];exact r);rcases hc with rfl|hc;exact nr;rintro rfl;rcases he with z|z;exact NR c b hc z;rw[hc]at z;cases z;exact hb rfl
end
structure Un(fs ex:List Addr)(H H':Hp)(h h':Heap):Prop where
 keep: ∀b o,h.get? b=some o->H b=none->b∉fs->b∉ex->h'.get? b=some o
 slot: ∀b o,h.get? b=some o->H b=none->b∈fs->b∉ex-> ∃sl,h'.get? b=some {o with slots:=sl}
 free: ∀b o,h.get? b=some o->H b=none->b∉ex->H' b=none
 there: ∀b o,h.get? b=some o->b∉ex-> ∃o',h'.get? b=some o'
 bA: ∀b xs,H b=some (.aC xs)->H' b=some (.aC xs)
 jl: ∀b o u,H b=some (.cc o u)->H' b=some (.cc o u)
 kI: ∀b ps,H b=some (.pK ps)-> ∃more,H' b=some (.pK (ps++more))
section
variable{fs fs' ex ex':aq ae}{H H1 H2:Hp}{h h1 h2 h':ak}{a x e:ae}{o:HO}
def Un.any(u:Un fs ex H H1 h h1){b:ae}{ob:Obj}(q:h.get? b=some ob)(n:H b=none)(hx:b∉ex): ∃sl,h1.get? b=some {ob with slots:=sl}:=by by_cases hb:b∈fs;exact u.slot b ob q n hb hx;exists ob.slots,u.keep b ob q n hb hx
def Un.kept(k: ∀b u,h.get? b=some u->h'.get? b=some u):Un fs ex H H h h':=
 ⟨λb ob q _ _ _=>k b ob q,λb ob q _ _ _=>⟨ob.slots,k b ob q⟩,λ_ _ _ n _=>n,λb ob q _=>⟨ob,k b ob q⟩,λ_ _ q=>q,λ_ _ _ q=>q,λ_ ps q=>⟨#[],by rw[q];simp⟩⟩
def Un.refl:Un fs ex H H h h:=Un.kept λ_ _ q=>q
def Un.laid(k: ∀b u,h.get? b=some u->h'.get? b=some u)(hp:h.objs.size<=a)(hn:H a=none):Un fs ex H (upd H a o) h h' where
 keep:=λb u q _ _ _=>k b u q
 slot:=λb u q _ _ _=>⟨u.slots,k b u q⟩
 free:=λb u q n _=>by rw[aP (cp (fK (bL q) hp))];exact n
 there:=λb u q _=>⟨u,k b u q⟩
 bA:=λb xs q=>by rw[aP (fm q hn)];exact q
 jl:=λb u xs q=>by rw[aP (fm q hn)];exact q
 kI:=λb ps q=>⟨#[],by rw[aP (fm q hn),q];simp⟩
def Un.write(mu:wE (H x))(he:e=x\/H e=some (.bR x))(k: ∀b u,b≠e->h.get? b=some u->h'.get? b=some u)(uY: ∃u,h'.get? e=some u):Un fs ex H (upd H x o) h h':=by(have hx: ∀b,H b=none->b≠x:=λb n z=>by subst z;rw[n]at mu;exact mu);(have hb: ∀b,H b=none->b≠e:=λb n z=>(by subst z;rcases he with r|r;exact hx b n r;rw[n]at r;cases r));(have hm: ∀b u,H b=some u-> ¬wE (some u)->b≠x:=λb u q nm z=>by subst z;rw[q]at mu;exact nm mu);exists λb u q n _ _=>k b u (hb b n) q,λb u q n _ _=>⟨u.slots,k b u (hb b n) q⟩,λb u q n _=>by rw[aP (hx b n)];exact n,λb u q _=> ?_,λb xs q=>by rw[aP (hm b _ q λz=>z)];exact q,λb u xs q=>by rw[aP (hm b _ q λz=>z)];exact q,λb ps q=>⟨#[],by rw[aP (hm b _ q λz=>z),q];simp⟩;by_cases nr:b=e;subst nr;exact uY;exists u,k b u nr q
end
/---/def CM(h:Heap)(H:Hp):List Addr:=(List.range h.objs.size).filter λa=>(H a).isSome
def oN(h:Heap)(H:Hp):Heap:=W.hideAll h (CM h H)
def VQ(h:ak)(H:Hp):(oN h H).objs.size=h.objs.size:=W.hideAll_size _ _
def VP{h:ak}{H:Hp}{b:ae}{o:Obj}(e:h.get? b=some o)(n:H b=none):(oN h H).get? b=some o:=
 W.hideAll_get _ e λhm=>by have q:(H b).isSome=true:=(List.mem_filter.mp hm).2;rw[n]at q;simp at q
def Z9{b:ae}{o:Obj}(e:(oN h H).get? b=some o):h.get? b=some o/\H b=none:=by have e':h.get? b=some o:=W.of_hideAll (CM h H) e;exists e',?_;cases q:H b with|none=>rfl|some x=>have hm:b∈CM h H:=List.mem_filter.mpr ⟨List.mem_range.mpr (bL e'),by simp[q]⟩;have z:(oN h H).get? b=none:=W.hideAll_none (CM h H) hm;rw[z]at e;cases e
structure Mod(K:W.Frag)(mg:Str->Option Value)(base:Heap):Prop where
 sV:K.In base
 glob:base.Ns mainGlobals mg
 blt: ∃mb,base.Ns builtinsNs mb/\ ∀x:Str,x≠ "__name__"->mb x=bootBuiltins x
 nolimit:base.NoLimit
structure Cx where
 prog:Program
 w:World
 K:W.Frag
 mg:Str->Option Value
 base:Heap
 A:Around
 N:List Str
 s₀:Shared
 H₀:Hp
 env:Env
 outer:List Env
 stack:List Env
 ex:List Addr
 fn:Str->Bool
 gu:Bool
 pn:List (Addr×Obj)
 xe:Value->Shared->Prop
/---/def jQ(l:List Env):List Addr:=l.filterMap (·.frame)
abbrev Cx.fs(X:Cx):List Addr:=jQ X.outer
def zR(sc:Scope)(x:Str):Prop:=sc.names.lookup x=some .local\/sc.names.lookup x=some .cell\/sc.names.lookup x=some .free
def wC(sc:Scope)(x:Str):Prop:=sc.names.lookup x=some .local\/sc.names.lookup x=some .cell
def Q9(env:Env)(h:Heap)(m:Str->Option Value)(x:Str)(u:Value):Prop:=
 (env.kindOf x=some .local/\m x=some u)\/((env.kindOf x=some .cell\/env.kindOf x=some .free)/\ ∃c,env.cells.lookup x=some c/\h.IsCell c (some u))
structure Cx.Ok(X:Cx):Prop where
 mod:Mod X.K X.mg X.base
 kind:X.env.scope.kind= .function
 glob:X.env.globals=mainGlobals
 blt:X.env.builtins=builtinsNs
 above:X.s₀.heap.objs.size<=X.env.locals
 inj: ∀x y c,X.env.cells.lookup x=some c->X.env.cells.lookup y=some c->x=y
 has: ∀x,(X.env.kindOf x=some .cell\/X.env.kindOf x=some .free)-> ∃c,X.env.cells.lookup x=some c
 wN: ∀x c,X.fn x=true->X.env.cells.lookup x=some c->X.s₀.heap.objs.size<=c
 hd:X.gu=true->X.A.handled=none
 frames:X.A.frames=some X.stack
 stk:X.stack=X.outer\/(X.stack=X.env::X.outer/\X.env.frame=some X.env.locals)
 qf: ∀b∈X.ex,b≠X.env.locals/\ ∀x c,X.env.cells.lookup x=some c->c≠b
 bs: ∀b o,X.base.get? b=some o->X.s₀.heap.get? b=some o/\X.H₀ b=none
 oz:X.base.objs.size<=X.s₀.heap.objs.size
 x0: ∀b o,X.base.get? b=some o->b∉X.ex
 sk: ∀b∈X.ex,b∉X.fs
 kX:X.s₀.heap.FunFrames X.base X.outer
 sw: ∀b∈X.fs,X.H₀ b=none
structure aG(X:Cx)(aB:List (Addr×Obj))(σ:List (Option V))(H:Hp)(s:Shared):Prop where
 ok:X.Ok
 os:s.os=X.s₀.os
 fC:AllBare s.gens
 base:Un X.fs X.ex X.H₀ H X.s₀.heap s.heap
 eI: ∃m,s.heap.Ns X.env.locals m/\ ∀ (i:Nat) (x:Str) (v:V),X.N[i]? =some x->σ[i]? =some (some v)->zR X.env.scope x-> ∃u,bm v u/\Q9 X.env s.heap m x u
 cell: ∀x c,X.env.cells.lookup x=some c-> ∃v,s.heap.IsCell c v
 free:H X.env.locals=none
 ir: ∀x c,X.env.cells.lookup x=some c->H c=none
 dz: ∀p∈X.pn++aB,s.heap.get? p.1=some p.2/\H p.1=none/\p.1≠X.env.locals/\p.1∉X.fs/\ ∀v,p.2.data≠ .cell v
 hok:dh X.prog X.w H s.heap
 len:σ.length=X.N.length
section
variable{X:Cx}{aB:aq (ae×Obj)}{σ:aq (ap V)}{H H':Hp}{s:ac}{h':ak}
def Cx.Ok.ZM(ok:X.Ok){b:ae}{o:Obj}(e:X.base.get? b=some o):b∉X.fs:=λhb=>by have:=(ok.kX.mem hb).1;rw[e]at this;cases this
def aG.bs(I:aG X aB σ H s): ∀b o,X.base.get? b=some o->s.heap.get? b=some o/\H b=none:=λb o e=>
 ⟨I.base.keep b o (I.ok.bs b o e).1 (I.ok.bs b o e).2 (I.ok.ZM e) (I.ok.x0 b o e),I.base.free b o (I.ok.bs b o e).1 (I.ok.bs b o e).2 (I.ok.x0 b o e)⟩
def aG.bk(I:aG X aB σ H s): ∀b o,X.base.get? b=some o->s.heap.get? b=some o:=λb o e=>(I.bs b o e).1
def aG.mod(I:aG X aB σ H s):Mod X.K X.mg X.base:=I.ok.mod
def aG.dX(I:aG X aB σ H s):X.K.In s.heap:=I.ok.mod.sV.keeps I.bk
def aG.lt(I:aG X aB σ H s):X.env.locals<s.heap.objs.size:=let⟨_,hn,_⟩:=I.eI;hn.lt
def aG.sz(I:aG X aB σ H s):X.s₀.heap.objs.size<=s.heap.objs.size:=dS I.ok.above (rH I.lt)
def aG.ZP(I:aG X aB σ H s){a:ae}(h:s.heap.objs.size<=a):a∉X.fs:=λhb=>by obtain⟨_,o,ho,_⟩:=I.ok.kX.mem hb;exact absurd (fK (bL ho) (dS I.sz h)) (kh _)
def aG.rT(I:aG X aB σ H s): ∀x c,X.env.cells.lookup x=some c->c≠X.env.locals:=λx c e z=>by obtain⟨v,o,ho,hd⟩:=I.cell x c e;obtain⟨m,⟨o',es,ep,mh,hd',_⟩,_⟩:=I.eI;rw[z,mh]at ho;cases ho;rw[hd']at hd;cases hd
def aG.kX(I:aG X aB σ H s):s.heap.FunFrames X.base X.outer:=by(have all: ∀ (l:aq Env),(∀b∈jQ l,b∈X.fs)->X.s₀.heap.FunFrames X.base l->s.heap.FunFrames X.base l:=(by intro l;induction l with|nil=>intro _ _;trivial|cons env r ih=>intro hs hl;obtain⟨hk,⟨L,o,hf,hn,ho,hd⟩,hr⟩:=hl;have hL:L∈X.fs:=hs L (by unfold jQ;rw[zw,hf];exact fk);obtain⟨sl,e⟩:=I.base.slot L o ho (I.ok.sw L hL) hL λz=>I.ok.sk L z hL;exists hk,⟨L,_,hf,hn,e,hd⟩,ih (λb hb=>hs b (by unfold jQ;rw[zw,hf];exact fJ _ hb)) hr));exact all X.outer (λ_ hb=>hb) I.ok.kX
def aG.stack(I:aG X aB σ H s):s.heap.FunFrames X.base X.stack:=by(rcases I.ok.stk with e|⟨e,hf⟩);rw[e];exact I.kX;rw[e];obtain⟨m,hn,_⟩:=I.eI;refine .cons (by rw[I.ok.kind];decide) hf hn ?_ I.kX;exact Heap.get?_none_of_le (dS I.ok.oz I.ok.above)
def aG.CB(I:aG X aB σ H s): ∀b∈jQ X.stack,b∈X.env.locals::X.fs:=λb hb=>by(rcases I.ok.stk with e|⟨e,hf⟩);rw[e]at hb;exact fJ _ hb;rw[e]at hb;unfold jQ at hb;rw[zw,hf]at hb;exact hb
def aG.Qd(I:aG X aB σ H s): ∀b∈jQ X.stack,H b=none:=λb hb=>by rcases List.mem_cons.mp (I.CB b hb)with e|hb;rw[e];exact I.free;obtain⟨_,o,ho,_⟩:=I.ok.kX.mem hb;exact I.base.free b o ho (I.ok.sw b hb) λz=>I.ok.sk b z hb
def aG.step{g':au GenState}{t':Nat}{d':Drawn}{ch:aq ae}(I:aG X aB σ H s)(nv: ∀b∈ch,(b∈X.ex\/X.s₀.heap.objs.size<=b)/\b≠X.env.locals/\(∀x c,X.env.cells.lookup x=some c->c≠b)/\ ∀p∈X.pn++aB,p.1≠b)(keep: ∀b o,b≠X.env.locals->b∉X.fs->b∉ch->s.heap.get? b=some o->H b=none->h'.get? b=some o)(slot: ∀b o,b≠X.env.locals->b∈X.fs->b∉ch->s.heap.get? b=some o->H b=none-> ∃sl,h'.get? b=some {o with slots:=sl})(free: ∀b o,b∉ch->s.heap.get? b=some o->H b=none->H' b=none)(there: ∀b o,b∉ch->s.heap.get? b=some o-> ∃o',h'.get? b=some o')(bA: ∀b xs,H b=some (.aC xs)->H' b=some (.aC xs))(jl: ∀b o u,H b=some (.cc o u)->H' b=some (.cc o u))(kI: ∀b ps,H b=some (.pK ps)-> ∃more,H' b=some (.pK (ps++more)))(ns: ∀m,s.heap.Ns X.env.locals m->h'.Ns X.env.locals m)(hok:dh X.prog X.w H' h')(hg:AllBare g'):aG X aB σ H' {s with heap:=h',gens:=g',drawn:=d',toks:=t'}:=by have NH: ∀b o,X.s₀.heap.get? b=some o->b≠X.env.locals:=λb o e=>cp (fK (bL e) I.ok.above);(have Bv: ∀b o,X.s₀.heap.get? b=some o->b∉X.ex->b∉ch:=λb o e hx hb=>(by rcases(nv b hb).1 with z|z;exact hx z;exact absurd (fK (bL e) z) (kh _)));(have cellK: ∀x c,X.env.cells.lookup x=some c-> ∀v,s.heap.IsCell c v->h'.IsCell c v:=λx c e v ⟨o,ho,hd⟩=>(by have xV:c∉ch:=λz=>(nv c z).2.2.1 x c e rfl;by_cases hc:c∈X.fs;obtain⟨sl,q⟩:=slot c o (I.rT x c e) hc xV ho (I.ir x c e);exists _,q,hd;exists o,keep c o (I.rT x c e) hc xV ho (I.ir x c e),hd));exists I.ok,I.os,hg,⟨λb o e n hb hx=> ?_,λb o e n hb hx=> ?_,λb o e n hx=> ?_,λb o e hx=> ?_,λb xs e=>bA b xs (I.base.bA b xs e),λb o xs e=>jl b o xs (I.base.jl b o xs e),λb ps e=> ?_⟩,?_,λx c e=> ?_,?_,λx c e=> ?_,λp hp=> ?_,hok,I.len;exact keep b o (NH b o e) hb (Bv b o e hx) (I.base.keep b o e n hb hx) (I.base.free b o e n hx);obtain⟨sl,e1⟩:=I.base.slot b o e n hb hx;obtain⟨sl',e2⟩:=slot b _ (NH b o e) hb (Bv b o e hx) e1 (I.base.free b o e n hx);exists sl',e2;obtain⟨o',e1⟩:=I.base.there b o e hx;exact free b o' (Bv b o e hx) e1 (I.base.free b o e n hx);obtain⟨o',e1⟩:=I.base.there b o e hx;exact there b o' (Bv b o e hx) e1;obtain⟨m1,e1⟩:=I.base.kI b ps e;obtain⟨m2,e2⟩:=kI b _ e1;exact⟨m1++m2,by rw[e2,Array.append_assoc]⟩;obtain⟨m,hn,hl⟩:=I.eI;exists m,ns m hn,λi x v e1 e2 e3=> ?_;obtain⟨u,r,l⟩:=hl i x v e1 e2 e3;exists u,r,?_;(rcases l with l|⟨k,c,e,z⟩);exact .inl l;exact .inr ⟨k,c,e,cellK x c e _ z⟩;obtain⟨v,z⟩:=I.cell x c e;exists v,cellK x c e v z;obtain⟨m,⟨o,_,_,ho,_⟩,_⟩:=I.eI;exact free _ o (λz=>(nv _ z).2.1 rfl) ho I.free;obtain⟨v,o,ho,hd⟩:=I.cell x c e;exact free c o (λz=>(nv c z).2.2.1 x c e rfl) ho (I.ir x c e);obtain⟨e,n,ne,nf,d⟩:=I.dz p hp;have xV:p.1∉ch:=λz=>(nv p.1 z).2.2.2 p hp rfl;exists keep p.1 p.2 ne nf xV e n,free p.1 p.2 xV e n,ne,nf,d
def aG.un{t':Nat}(I:aG X aB σ H s)(u:Un X.fs [] H H' s.heap h')(hok:dh X.prog X.w H' h'):aG X aB σ H' {s with heap:=h',toks:=t'}:=by obtain⟨m,⟨o,es,ep,ho,r⟩,_⟩:=id I.eI;obtain⟨sl,hL⟩:=u.any ho I.free (by simp);exact I.step (g':=s.gens) (d':=s.drawn) (ch:= []) (λ_ z=>nomatch z) (λb o _ hb _ e n=>u.keep b o e n hb (by simp)) (λb o _ hb _ e n=>u.slot b o e n hb (by simp)) (λb o _ e n=>u.free b o e n (by simp)) (λb o _ e=>u.there b o e (by simp)) u.bA u.jl u.kI (λm' hm=>by obtain⟨o',es',jO,mh,r'⟩:=hm;rw[ho]at mh;cases mh;exists _,es',jO,hL,r') hok I.fC
def aG.call{g':au GenState}{t':Nat}{d':Drawn}{ch:aq ae}(I:aG X aB σ H s)(u:Un (jQ X.stack) ch H H' s.heap h')(hok:dh X.prog X.w H' h')(hg:AllBare g')(nv: ∀b∈ch,(b∈X.ex\/X.s₀.heap.objs.size<=b)/\b≠X.env.locals/\(∀x c,X.env.cells.lookup x=some c->c≠b)/\ ∀p∈X.pn++aB,p.1≠b):aG X aB σ H' {s with heap:=h',gens:=g',drawn:=d',toks:=t'}:=by obtain⟨m,⟨o,es,ep,ho,r⟩,_⟩:=id I.eI;obtain⟨sl,hL⟩:=u.any ho I.free λz=>(nv _ z).2.1 rfl;exact I.step (ch:=ch) nv (λb o hL hb hc e n=>u.keep b o e n (λz=>(List.mem_cons.mp (I.CB b z)).elim hL hb) hc) (λb o _ _ hc e n=>u.any e n hc) (λb o hc e n=>u.free b o e n hc) (λb o hc e=>u.there b o e hc) u.bA u.jl u.kI (λm' hm=>by obtain⟨o',es',jO,mh,r'⟩:=hm;rw[ho]at mh;cases mh;exists _,es',jO,hL,r') hok hg
def aG.j7{t':Nat}{it:ae}(I:aG X aB σ H s)(k: ∀b o,b≠it->s.heap.get? b=some o->h'.get? b=some o)(hn:H it=none)(hL:it≠X.env.locals)(h1:it∈X.ex\/X.s₀.heap.objs.size<=it)(h2: ∀x c,X.env.cells.lookup x=some c->c≠it)(h3: ∀p∈X.pn++aB,p.1≠it):aG X aB σ H {s with heap:=h',toks:=t'}:=by(have NK: ∀b u,H b=some u->b≠it:=λb u e z=>by rw[z,hn]at e;cases e);refine I.step (g':=s.gens) (d':=s.drawn) (ch:= [it]) (λb hb=> ?_) (λb o _ _ hc e _=>k b o (λz=>hc (by simp[z])) e) (λb o _ _ hc e _=>⟨o.slots,k b o (λz=>hc (by simp[z])) e⟩) (λ_ _ _ _ n=>n) (λb o hc e=>⟨o,k b o (λz=>hc (by simp[z])) e⟩) (λ_ _ e=>e) (λ_ _ _ e=>e) (λb ps e=>⟨#[],by rw[e];simp⟩) (λm hm=> ?_) (λb u e=> ?_) I.fC;(have e:b=it:=by simpa using hb);subst e;exists h1,hL,h2,h3;obtain⟨o,es,ep,ho,r⟩:=hm;exists o,es,ep,k _ o (jH hL) ho,r;refine(I.hok b u e).stay (λc v hc q=>k c v ?_ q) (λ_ q=>q) λ_ _ q=>q;rcases hc with z|z;rw[z];exact NK b u e;exact NK c _ z
def aG.tok(I:aG X aB σ H s)(t:Nat):aG X aB σ H {s with toks:=t}:=I.un (h':=s.heap) (t':=t) Un.refl I.hok
def aG.kept{t':Nat}(I:aG X aB σ H s)(k: ∀b u,s.heap.get? b=some u->h'.get? b=some u):aG X aB σ H {s with heap:=h',toks:=t'}:=I.un (Un.kept k) (I.hok.kept k)
def aG.laid{a:ae}{o:HO}{t':Nat}(I:aG X aB σ H s)(k: ∀b u,s.heap.get? b=some u->h'.get? b=some u)(hp:s.heap.objs.size<=a)(new:dO X.prog X.w (upd H a o) h' a o):aG X aB σ (upd H a o) {s with heap:=h',toks:=t'}:=I.un (Un.laid k hp (I.hok.fresh hp)) (I.hok.laid k hp new)
def aG.write{x e:ae}{o:HO}{t':Nat}(I:aG X aB σ H s)(mu:wE (H x))(he:e=x\/H e=some (.bR x))(k: ∀b u,b≠e->s.heap.get? b=some u->h'.get? b=some u)(uY: ∃u,h'.get? e=some u)(new:dO X.prog X.w (upd H x o) h' x o):aG X aB σ (upd H x o) {s with heap:=h',toks:=t'}:=I.un (Un.write mu he k uY) (I.hok.write mu he k uY new)
def aG.weak{σ':aq (ap V)}(I:aG X aB σ H s)(hl:σ'.length=σ.length)(w: ∀ (i:Nat) v,σ'[i]? =some (some v)->σ[i]? =some (some v)):aG X aB σ' H s:=
 ⟨I.ok,I.os,I.fC,I.base,let⟨m,hn,fL⟩:=I.eI;⟨m,hn,λi x v e1 e2 e3=>fL i x v e1 (w i v e2) e3⟩,I.cell,I.free,I.ir,I.dz,I.hok,hl.trans I.len⟩
def aG.qN{vA:aq (ae×Obj)}(I:aG X aB σ H s)(h: ∀p∈vA,s.heap.get? p.1=some p.2/\H p.1=none/\p.1≠X.env.locals/\p.1∉X.fs/\ ∀v,p.2.data≠ .cell v):aG X vA σ H s:=
 ⟨I.ok,I.os,I.fC,I.base,I.eI,I.cell,I.free,I.ir,λp hp=>(List.mem_append.mp hp).elim (λz=>I.dz p (dE _ z)) (h p),I.hok,I.len⟩
def NP{N:aq aA}(hN:N.Nodup){i j:Nat}{x:aA}(a:N[i]? =some x)(b:N[j]? =some x):i=j:=by obtain⟨h1,e1⟩:=List.getElem?_eq_some_iff.mp a;obtain⟨h2,e2⟩:=List.getElem?_eq_some_iff.mp b;exact(List.getElem_inj hN).mp (e1.trans e2.symm)
def Qf{E:aa->ac->Prop}{i:Nat}{x:aA}{v:V}{u:aa}{Q:Unit->ac->Prop}(I:aG X aB σ H s)(hN:X.N.Nodup)(hi:X.N[i]? =some x)(hx:wC X.env.scope x)(r:bm v u)(h: ∀s',aG X aB (σ.set i (some v)) H s'->(∃a,Heap.SameBut a s.heap s'.heap/\(a=X.env.locals\/X.env.cells.lookup x=some a))->Q () s')(hf:X.fn x=true\/X.env.scope.names.lookup x=some .local:=by first|exact .inl rfl|exact .inr rfl|assumption):wpAny M A (storeName X.env x u) Q E s:=by obtain⟨m,hn,hl⟩:=id I.eI;(have Ev:(X.env.scope.kind== .class||(X.env.scope.kind== .module&&X.env.locals !=X.env.globals))=false:=by rw[I.ok.kind];rfl);(have LO:i<σ.length:=by rw[I.len];exact(List.getElem?_eq_some_iff.mp hi).1);have rT:=I.rT;(have QC: ∀ {a:ae} {h':ak},(∃o,s.heap.get? a=some o/\H a=none)->Heap.SameBut a s.heap h'->dh X.prog X.w H h':=λ{a h'} ha hs b ob e=>(by obtain⟨_,_,hfree⟩:=ha;refine(I.hok b ob e).stay (λc w' hc q=>(hs.2 c ?_).trans q) (λ_ q=>q) λ_ _ q=>q;rintro rfl;rcases hc with rfl|hc;rw[hfree]at e;cases e;rw[hfree]at hc;cases hc));rcases hx with hk|hk;refine wpAny_storeName_local hk hn (λh' L7 hs=> ?_) Ev;obtain⟨oL,_,_,Wj,_⟩:=id hn;refine h _ ⟨I.ok,I.os,I.fC,⟨λb o e n hb hx=> ?_,λb o e n hb hx=> ?_,I.base.free,λb o e hx=> ?_,I.base.bA,I.base.jl,I.base.kI⟩,⟨_,L7,λj y v' e1 e2 e3=> ?_⟩,λy c e=> ?_,I.free,I.ir,λp hp=> ?_,QC ⟨oL,Wj,I.free⟩ hs,by simpa using I.len⟩ ⟨_,hs,.inl rfl⟩;exact(hs.2 b (cp (fK (bL e) I.ok.above))).trans (I.base.keep b o e n hb hx);obtain⟨sl,e1⟩:=I.base.slot b o e n hb hx;exists sl,(hs.2 b (cp (fK (bL e) I.ok.above))).trans e1;obtain⟨o',e1⟩:=I.base.there b o e hx;exists o',(hs.2 b (cp (fK (bL e) I.ok.above))).trans e1;by_cases hj:j=i;subst hj;rw[hi]at e1;cases e1;rw[List.getElem?_set_self LO]at e2;cases e2;exists u,r,.inl ⟨hk,by simp⟩;rw[List.getElem?_set_ne (jH hj)]at e2;obtain⟨u',r',q⟩:=hl j y v' e1 e2 e3;exists u',r',?_;(rcases q with⟨k,e⟩|⟨k,c,e,z⟩);refine .inl ⟨k,?_⟩;have:y≠x:=λe=>hj (NP hN e1 (e▸hi));simp[this,e];exact .inr ⟨k,c,e,z.sameBut hs (rT y c e)⟩;obtain⟨w',z⟩:=I.cell y c e;exists w',z.sameBut hs (rT y c e);obtain⟨e,n,ne,nf,d⟩:=I.dz p hp;exists(hs.2 p.1 ne).trans e,n,ne,nf,d;(have EB:X.fn x=true:=(by rcases hf with z|z;exact z;rw[z]at hk;cases hk));obtain⟨c,hc⟩:=I.ok.has x (.inl hk);obtain⟨w',z⟩:=I.cell x c hc;refine wpAny_storeName_cell I.ok.kind hk hc z λh' cr hs=> ?_;obtain⟨oc,L8,Wk⟩:=id z;refine h {s with heap:=h'} ⟨I.ok,I.os,I.fC,⟨λb o e n hb hx=> ?_,λb o e n hb hx=> ?_,I.base.free,λb o e hx=> ?_,I.base.bA,I.base.jl,I.base.kI⟩,⟨m,hn.sameBut hs (jH (rT x c hc)),λj y v' e1 e2 e3=> ?_⟩,λy c' e=> ?_,I.free,I.ir,λp hp=> ?_,QC ⟨oc,L8,I.ir x c hc⟩ hs,by simpa using I.len⟩ ⟨c,hs,.inr hc⟩;exact(hs.2 b (cp (fK (bL e) (I.ok.wN x c EB hc)))).trans (I.base.keep b o e n hb hx);obtain⟨sl,e1⟩:=I.base.slot b o e n hb hx;exists sl,(hs.2 b (cp (fK (bL e) (I.ok.wN x c EB hc)))).trans e1;obtain⟨o',e1⟩:=I.base.there b o e hx;exists o',(hs.2 b (cp (fK (bL e) (I.ok.wN x c EB hc)))).trans e1;by_cases hj:j=i;subst hj;rw[hi]at e1;cases e1;rw[List.getElem?_set_self LO]at e2;cases e2;exists u,r,.inr ⟨.inl hk,c,hc,cr⟩;rw[List.getElem?_set_ne (jH hj)]at e2;obtain⟨u',r',q⟩:=hl j y v' e1 e2 e3;exists u',r',?_;(rcases q with q|⟨k,c',e,z'⟩);exact .inl q;refine .inr ⟨k,c',e,z'.sameBut hs ?_⟩;rintro rfl;exact hj (NP hN e1 (I.ok.inj _ _ _ e hc▸hi));by_cases Lw:c'=c;subst Lw;exists _,cr;obtain⟨w2,z2⟩:=I.cell y c' e;exists w2,z2.sameBut hs Lw;obtain⟨e,n,ne,nf,d⟩:=I.dz p hp;exists(hs.2 p.1 ?_).trans e,n,ne,nf,d;intro q;rw[q,L8]at e;have q':oc=p.2:=gp e;exact d w' (by rw[<-q'];exact Wk)
def Iy{E:aa->ac->Prop}{i:Nat}{x:aA}{v:V}{u:aa}{Q:Unit->ac->Prop}(I:aG X aB σ H s)(hN:X.N.Nodup)(hi:X.N[i]? =some x)(hx:wC X.env.scope x)(r:bm v u)(h: ∀s',aG X aB (σ.set i (some v)) H s'->Q () s')(hf:X.fn x=true\/X.env.scope.names.lookup x=some .local:=by first|exact .inl rfl|exact .inr rfl|assumption):wpAny M A (storeName X.env x u) Q E s:=
 Qf I hN hi hx r (λs' I' _=>h s' I') hf
def aG.JV{s':ac}{ch:aq ae}(I:aG X aB σ H s)(ho:s'.os=s.os)(u:Un (jQ X.stack) ch H H' s.heap s'.heap)(hok:dh X.prog X.w H' s'.heap)(hg:AllBare s'.gens)(nv: ∀b∈ch,(b∈X.ex\/X.s₀.heap.objs.size<=b)/\b≠X.env.locals/\(∀x c,X.env.cells.lookup x=some c->c≠b)/\ ∀p∈X.pn++aB,p.1≠b):aG X aB σ H' s':=by obtain⟨h',g',d',t',o'⟩:=s';have e:o'=s.os:=ho;subst e;exact I.call (g':=g') (t':=t') (d':=d') u hok hg nv
end
abbrev XK:=Value->Option Addr->Hp->Prop
abbrev St:=List (Option V)
abbrev VK:=V->Hp->Prop
abbrev TE:=St->Hp->VK->Prop
abbrev TT:=St->Hp->(Bool->Hp->Prop)->Prop
abbrev TA:=St->Hp->(List V->Hp->Prop)->Prop
structure iR where
 nx:St->Hp->Prop
 rt:VK
 bk:St->Hp->Prop:=λ_ _=>False
 ct:St->Hp->Prop:=λ_ _=>False
abbrev TS:=iR->St->Hp->Prop
inductive EP(X:Cx)(aB:List (Addr×Obj))(σ:St)(Q:VK)(u:Value)(s':Shared):Prop
 |mk (v H':_) (_:aG X aB σ H' s') (_:bm v u) (_:Q v H')
inductive TP(X:Cx)(aB:List (Addr×Obj))(σ:St)(Q:Bool->Hp->Prop)(b:Bool)(s':Shared):Prop
 |mk (H':_) (_:aG X aB σ H' s') (_:Q b H')
inductive AP(X:Cx)(aB:List (Addr×Obj))(σ:St)(Q:List V->Hp->Prop)(us:List Value)(s':Shared):Prop
 |mk (vs H':_) (_:aG X aB σ H' s') (_:bg vs us) (_:Q vs H')
def SP(X:Cx)(aB:List (Addr×Obj))(D:iR)(f:Flow)(s':Shared):Prop:=
 match f with
 | .next=> ∃σ' H',aG X aB σ' H' s'/\D.nx σ' H'
 | .brk=> ∃σ' H',aG X aB σ' H' s'/\D.bk σ' H'
 | .cont=> ∃σ' H',aG X aB σ' H' s'/\D.ct σ' H'
 | .ret u=> ∃v σ' H',aG X aB σ' H' s'/\bm v u/\D.rt v H'
def PE(X:Cx)(e:Expr)(t:TE):Prop:=
 ∀ (aB:List (Addr×Obj)) (s:Shared) (σ:St) (H:Hp) (Q:VK),aG X aB σ H s->t σ H Q->wpAny (model X.prog X.w) X.A (eval e X.env) (EP X aB σ Q) X.xe s
def PT(X:Cx)(e:Expr)(t:TT):Prop:=
 ∀ (aB:List (Addr×Obj)) (s:Shared) (σ:St) (H:Hp) (Q:Bool->Hp->Prop),aG X aB σ H s->t σ H Q->wpAny (model X.prog X.w) X.A (isTrue e X.env (eval e X.env)) (TP X aB σ Q) X.xe s
def PW(X:Cx)(e:Expr)(t:TT):Prop:=
 ∀ (whole:Sem Value) (aB:List (Addr×Obj)) (s:Shared) (σ:St) (H:Hp) (Q:Bool->Hp->Prop),aG X aB σ H s->t σ H Q->wpAny (model X.prog X.w) X.A (isTrue e X.env whole) (TP X aB σ Q) X.xe s
def PW.pt{X:Cx}{e:Expr}{t:TT}(h:PW X e t):PT X e t:=h _
def PA(X:Cx)(es:List Expr)(t:TA):Prop:=
 ∀ (pos:Pos) (aB:List (Addr×Obj)) (s:Shared) (σ:St) (H:Hp) (Q:List V->Hp->Prop),aG X aB σ H s->t σ H Q->wpAny (model X.prog X.w) X.A (spliced (backTo pos (starEach es X.env))) (AP X aB σ Q) X.xe s
def PS(X:Cx)(st:Stmt)(t:TS):Prop:=
 ∀ (aB:List (Addr×Obj)) (s:Shared) (σ:St) (H:Hp) (D:iR),aG X aB σ H s->t D σ H->wpAny (model X.prog X.w) X.A (exec st X.env) (SP X aB D) X.xe s
def jI(X:Cx)(st:List Stmt)(t:TS):Prop:=
 ∀ (aB:List (Addr×Obj)) (s:Shared) (σ:St) (H:Hp) (D:iR),aG X aB σ H s->t D σ H->wpAny (model X.prog X.w) X.A (execs st X.env) (SP X aB D) X.xe s
def aW{α:Type}{t:Sem α}{Q Q':α->ac->Prop}{M:Model}{A:ao}{E:aa->ac->Prop}{s:ac}(h:wpAny M A t Q E s)(hQ: ∀a s,Q a s->Q' a s):wpAny M A t Q' E s:=dJ h hQ λ_ _ x=>x
section
variable{X:Cx}
inductive pJ(i:Nat)(σ:St)(H:Hp)(Q:VK):Prop
 |mk (v:_) (_:σ[i]? =some (some v)) (_:Q v H)
def tC(v:V):TE:=λ_ H Q=>Q v H
def a1C{i:Nat}{x:aA}(hN:X.N[i]? =some x)(hv:zR X.env.scope x)(hd:(x==("__debug__":aA))=false:=by decide)(hcd:(x==("__classdict__":aA))=false:=by decide):PE X (.Name x pos) (pJ i):=by intro aB s σ H Q I h;obtain⟨v,e,h⟩:=h;obtain⟨m,hn,hl⟩:=I.eI;obtain⟨u,r,l⟩:=hl i x v hN e hv;(have fin:EP X aB σ Q u s:=⟨v,H,I,r,h⟩);(rcases l with⟨hk,hm⟩|⟨hk,c,hc,uU⟩);exact wpAny_Name (wpAny_loadName_local I.ok.kind hk hn hm fin) hd;rcases hk with hk|hk;exact wpAny_Name (wpAny_loadName_cell I.ok.kind hk hc uU fin) hd;exact wpAny_Name (wpAny_loadName_free I.ok.kind hk hc uU fin hcd) hd
def ba{i j pos}:PE X (.Constant (.int i) j pos) (tC (.int i)):=λ_ _ _ H _ I h=>wpAny_Constant_int ⟨.int i,H,I.tok _,⟨_,rfl⟩,h⟩
def qL{b j pos}:PE X (.Constant (.bool b) j pos) (tC (.bl b)):=λ_ _ _ H _ I h=>Constant_bool ⟨.bl b,H,I,rfl,h⟩
def mE{j pos}:PE X (.Constant .none j pos) (tC .aN):=λ_ _ _ H _ I h=>Constant_none ⟨.aN,H,I,rfl,h⟩
def cy{x j pos}:PE X (.Constant (.str x) j pos) (tC (.str x)):=λ_ _ _ H _ I h=>Calls.Constant_str ⟨.str x,H,I.tok _,⟨_,rfl⟩,h⟩
def Gl(X:Cx)(x:Str):Prop:=X.env.kindOf x=some .globalImplicit
def Be{E:aa->ac->Prop}{σ:St}{x:aA}{u:aa}{Q:aa->ac->Prop}(I:aG X aB σ H s)(hg:Gl X x)(hm:X.mg x=some u)(h:Q u s)(hd:(x==("__debug__":aA))=false:=by decide):wpAny (model X.prog X.w) X.A (eval (.Name x pos) X.env) Q E s:=
 Calls.Name_function_global I.ok.kind hg (Calls.loadGlobal_global (by rw[I.ok.glob];exact I.mod.glob.keeps I.bk) hm h) hd
def sW{E:aa->ac->Prop}{σ:St}{x:aA}{u:aa}{Q:aa->ac->Prop}(I:aG X aB σ H s)(hg:Gl X x)(hm:X.mg x=none)(hv:bootBuiltins x=some u)(h:Q u s)(hn:x≠ "__name__":=by decide)(hd:(x==("__debug__":aA))=false:=by decide):wpAny (model X.prog X.w) X.A (eval (.Name x pos) X.env) Q E s:=by obtain⟨mb,h1,h2⟩:=I.mod.blt;exact Calls.Name_function_global I.ok.kind hg (Calls.loadGlobal_builtin (by rw[I.ok.glob];exact I.mod.glob.keeps I.bk) hm (by rw[I.ok.blt];exact h1.keeps I.bk) ((h2 x hn).trans hv) h) hd
def kD{x:aA}{v:V}{u:aa}(hg:Gl X x)(hm:X.mg x=some u)(r:bm v u)(hd:(x==("__debug__":aA))=false:=by decide):PE X (.Name x pos) (tC v):=
 λ_ _ _ H _ I h=>Be I hg hm ⟨v,H,I,r,h⟩ hd
def mC{x:aA}{v:V}{u:aa}(hg:Gl X x)(hm:X.mg x=none)(hv:bootBuiltins x=some u)(r:bm v u)(hn:x≠ "__name__":=by decide)(hd:(x==("__debug__":aA))=false:=by decide):PE X (.Name x pos) (tC v):=
 λ_ _ _ H _ I h=>sW I hg hm hv ⟨v,H,I,r,h⟩ hn hd
variable{a b:Expr}{ta tb:TE}{pos:Pos}
def PC(X:Cx)(op:CmpOp)(a b:Expr)(t:TE):Prop:=
 ∀ (aB:List (Addr×Obj)) (s:Shared) (σ:St) (H:Hp) (Q:VK),aG X aB σ H s->t σ H Q->
  wpAny (model X.prog X.w) X.A (eval a X.env) (λv s₁=>wpAny (model X.prog X.w) X.A (eval b X.env) (λu s₂=>wpAny (model X.prog X.w) X.A (compareOp op v u) (EP X aB σ Q) X.xe s₂) X.xe s₁) X.xe s
def NO(b:Expr){op:CmpOp}(h:op≠ .In)(h2:op≠ .NotIn):behindInMarks op b=false:=by(have e1:(op==CmpOp.In)=false:=by cases op<;>first|rfl|exact absurd rfl h);(have e2:(op==CmpOp.NotIn)=false:=by cases op<;>first|rfl|exact absurd rfl h2);cases b<;>simp[behindInMarks,e1,e2]
def a4k(ta:TE):TE:=λσ H Q=>ta σ H λx H1=>Q (.bl (decide (x= .aN))) H1
def a4s(ta:TE):TE:=λσ H Q=>ta σ H λx H1=>Q (.bl (!decide (x= .aN))) H1
def bm.NQ{x:V}{v:aa}(r:bm x v):(v==Value.none)=decide (x= .aN):=by cases x with|aN=>cases r;rfl|bl _=>cases r;rfl|int _=>obtain⟨t,rfl⟩:=r;rfl|str _=>obtain⟨t,rfl⟩:=r;rfl|iW _=>obtain⟨t,rfl⟩:=r;rfl|oE _=>obtain⟨t,rfl⟩:=r;rfl|ref _=>cases r;rfl|ty _=>cases r;rfl
def yc{j pos'}(ha:PE X a ta):PC X .Is a (.Constant .none j pos') (a4k ta):=by intro aB s σ H Q I h;refine aW (ha aB s σ H _ I h) λv s1 ⟨x,H1,I1,r1,q1⟩=> ?_;exact Constant_none (is_none_gen ⟨.bl _,H1,I1,by rw[r1.NQ];rfl,q1⟩)
def Gx{j pos'}(ha:PE X a ta):PC X .IsNot a (.Constant .none j pos') (a4s ta):=by intro aB s σ H Q I h;refine aW (ha aB s σ H _ I h) λv s1 ⟨x,H1,I1,r1,q1⟩=> ?_;exact Constant_none (isnot_none_gen ⟨.bl _,H1,I1,by rw[r1.NQ];rfl,q1⟩)
inductive yj(Q:Bool->Hp->Prop)(x:V)(H:Hp):Prop
 |mk (c:_) (_:x= .bl c) (_:Q c H)
def tB(t:TE):TT:=λσ H Q=>t σ H (yj Q)
def Gz{t:TE}(h:PC X op a b t)(h1:behindInMarks op b=false:=by first|exact NO _ (by decide) (by decide)|rfl):PE X (.Compare a [op] [b] pos) t:=λaB s σ H Q I hw=>wpAny_Compare1 (h aB s σ H Q I hw) h1
def pA{t:TE}(h:PC X op a b t)(h1:behindInMarks op b=false:=by first|exact NO _ (by decide) (by decide)|rfl):PT X (.Compare a [op] [b] pos) (tB t):=by intro aB s σ H Q I hw;refine wpAny_isTrue_Compare1 (aW (h aB s σ H _ I hw) λv s1 h1=>aW h1 λu s2 h2=>aW h2 λc s3 ⟨x,H1,I1,r1,q1⟩=> ?_) h1;obtain⟨d,rfl,q⟩:=q1;cases r1;exact mR ⟨H1,I1,q⟩
def g9{e:Expr}{t:TE}(h:PE X e t)(he: ∀whole,isTrue e X.env whole=(do let v<-whole;standAt e.pos;holding [v] (truthy v)):=by intro _;rfl):PT X e (tB t):=by intro aB s σ H Q I hw;refine isTrue_plain (aW (h aB s σ H _ I hw) λv s1 ⟨x,H1,I1,r1,q1⟩=> ?_) (he _);obtain⟨d,rfl,q⟩:=q1;cases r1;exact mR ⟨H1,I1,q⟩
variable{tA CD:TT}{rest:aq Expr}
def a32(t u:TT):TT:=λσ H Q=>t σ H λc H1=>if c=true then u σ H1 Q else Q false H1
def tOr(t u:TT):TT:=λσ H Q=>t σ H λc H1=>if c=true then Q true H1 else u σ H1 Q
def a4r(t:TT):TT:=λσ H Q=>t σ H λc H1=>Q (!c) H1
def tN(ha:PT X a tA):PW X (.BoolOp .And [a] pos) tA:=by intro wh aB s σ H Q I h;refine isTrue_and (aW (ha aB s σ H Q I h) λc s1 e=> ?_);cases c with|true=>exact isTrue_and_nil e|false=>exact e
def vC(ha:PT X a tA):PW X (.BoolOp .Or [a] pos) tA:=by intro wh aB s σ H Q I h;refine isTrue_or (aW (ha aB s σ H Q I h) λc s1 e=> ?_);cases c with|false=>exact isTrue_or_nil e|true=>exact e
def qQ(ha:PT X a tA)(hb:PW X (.BoolOp .And (b::rest) pos) CD):PW X (.BoolOp .And (a::b::rest) pos) (a32 tA CD):=by intro wh aB s σ H Q I h;refine isTrue_and (aW (ha aB s σ H _ I h) λc s1 ⟨H1,I1,q1⟩=> ?_);cases c with|true=>exact hb wh aB s1 σ H1 Q I1 q1|false=>exists H1,I1,q1
def pB(ha:PT X a tA)(hb:PW X (.BoolOp .Or (b::rest) pos) CD):PW X (.BoolOp .Or (a::b::rest) pos) (tOr tA CD):=by intro wh aB s σ H Q I h;refine isTrue_or (aW (ha aB s σ H _ I h) λc s1 ⟨H1,I1,q1⟩=> ?_);cases c with|true=>exact⟨H1,I1,q1⟩|false=>exact hb wh aB s1 σ H1 Q I1 q1
def lw(ha:PT X a tA):PT X (.UnaryOp .Not a pos) (a4r tA):=by intro aB s σ H Q I h;exact isTrue_not (aW (ha aB s σ H (λc H1=>Q (!c) H1) I h) λ_ _ ⟨H1,I1,q⟩=>⟨H1,I1,q⟩)
def a33(ta tb:TE):TE:=λσ H Q=>ta σ H (yj λc H1=>if c=true then tb σ H1 Q else Q (.bl false) H1)
def a4u(ta tb:TE):TE:=λσ H Q=>ta σ H (yj λc H1=>if c=true then Q (.bl true) H1 else tb σ H1 Q)
def a4t(ta:TE):TE:=λσ H Q=>ta σ H (yj λc H1=>Q (.bl (!c)) H1)
def mF{op}{t:TE}(h:PE X a t):PE X (.BoolOp op [a] pos) t:=λaB s σ H Q I hw=>BoolOp_one (h aB s σ H Q I hw)
def qK(ha:PE X a ta)(hb:PE X (.BoolOp .And (b::rest) pos) tb):PE X (.BoolOp .And (a::b::rest) pos) (a33 ta tb):=by intro aB s σ H Q I h;refine BoolOp_and (aW (ha aB s σ H _ I h) λv s1 ⟨x,H1,I1,r1,q1⟩=> ?_);obtain⟨c,rfl,q1⟩:=q1;cases r1;refine mR ?_;cases c with|true=>exact hb aB s1 σ H1 Q I1 q1|false=>exists .bl false,H1,I1,rfl,q1
def GC(ha:PE X a ta)(hb:PE X (.BoolOp .Or (b::rest) pos) tb):PE X (.BoolOp .Or (a::b::rest) pos) (a4u ta tb):=by intro aB s σ H Q I h;refine BoolOp_or (aW (ha aB s σ H _ I h) λv s1 ⟨x,H1,I1,r1,q1⟩=> ?_);obtain⟨c,rfl,q1⟩:=q1;cases r1;refine mR ?_;cases c with|false=>exact hb aB s1 σ H1 Q I1 q1|true=>exists .bl true,H1,I1,rfl,q1
def Of(ha:PE X a ta):PE X (.UnaryOp .Not a pos) (a4t ta):=by intro aB s σ H Q I h;refine UnaryOp_ (aW (ha aB s σ H _ I h) λv s1 ⟨x,H1,I1,r1,q1⟩=> ?_);obtain⟨c,rfl,q1⟩:=q1;cases r1;exact not_of (mR ⟨.bl (!c),H1,I1,rfl,q1⟩)
def tIf(t:TT)(ta tb:TE):TE:=λσ H Q=>t σ H λc H1=>if c=true then ta σ H1 Q else tb σ H1 Q
def BH{c:Expr}(hc:PT X c tA)(ha:PE X a ta)(hb:PE X b tb):PE X (.IfExp c a b pos) (tIf tA ta tb):=by intro aB s σ H Q I h;refine wpAny_IfExp (aW (hc aB s σ H _ I h) λd s1 ⟨H1,I1,q1⟩=> ?_);cases d with|true=>exact ha aB s1 σ H1 Q I1 q1|false=>exact hb aB s1 σ H1 Q I1 q1
end
def aQ(K:W.Frag)(H:Hp)(a:Addr)(xs:List V):Prop:=
 Rd H a (.aK xs)\/
  ∃ (o:Obj) (aF:Array Value) (n:Nat),K.lookup a=some o/\o.cls= .type "list"/\o.dict=none/\o.data= .seq aF n/\aF.size<=sizeLine/\bg xs aF.toList
def aS(K:W.Frag)(H:Hp)(a:Addr)(xs:List V):Prop:=
 Rd H a (.aC xs)\/
  ∃ (o:Obj) (aF:Array Value) (n:Nat),K.lookup a=some o/\o.cls= .type "tuple"/\o.data= .seq aF n/\aF.size<=sizeLine/\bg xs aF.toList
/---/def Re:Value->Option V
 | .none=>some .aN
 | .bool b=>some (.bl b)
 | .int i _=>some (.int i)
 | .str x _=>some (.str x)
 | .bytes b _=>some (.iW b)
 | .float b _=>some (.oE b)
 | .ref a=>some (.ref a)
 | .type n=>some (.ty n)
 |_=>none
def bm.abs{x:V}{u:aa}(r:bm x u):Re u=some x:=by cases x with|aN=>cases r;rfl|bl _=>cases r;rfl|int _=>obtain⟨t,rfl⟩:=r;rfl|str _=>obtain⟨t,rfl⟩:=r;rfl|iW _=>obtain⟨t,rfl⟩:=r;rfl|oE _=>obtain⟨t,rfl⟩:=r;rfl|ref _=>cases r;rfl|ty _=>cases r;rfl
def bm.inj{x y:V}{u:aa}(r:bm x u)(q:bm y u):x=y:=gp (r.abs.symm.trans q.abs)
def bg.inj: ∀ {xs ys:aq V} {us:aq aa},bg xs us->bg ys us->xs=ys
 |_,_,_,.nil,.nil=>rfl
 |_,_,_,.cons r t,.cons r' t'=>by rw[r.inj r',bg.inj t t']
section
variable{X:Cx}{aB:aq (ae×Obj)}{σ:St}{H:Hp}{s:ac}{a:ae}{xs ys:aq V}
def aQ.of{K:W.Frag}(h:H a=some (.aK xs)):aQ K H a xs:= .inl (.inl h)
def aS.of{K:W.Frag}(h:H a=some (.aC xs)):aS K H a xs:= .inl (.inl h)
def aG.list(I:aG X aB σ H s)(h:aQ X.K H a xs): ∃aF:aq aa,bg xs aF/\PlainL s.heap a aF.toArray/\xs.length<=sizeLine:=by(rcases h with h|⟨o,aF,n,hk,hc,hd,hs,hz,r⟩);obtain⟨z,aF,n,r,e⟩:=h.ok I.hok;exists aF,r,⟨_,n,e,rfl,rfl,rfl⟩,z;exists aF.toList,r,⟨o,n,I.dX a o hk,hc,hd,by simpa using hs⟩,?_;have e:=r.length;simp only[kd]at e;omega
def aG.tuple(I:aG X aB σ H s)(h:aS X.K H a xs): ∃aF:aq aa,bg xs aF/\IsTup s.heap a aF.toArray/\xs.length<=sizeLine:=by(rcases h with h|⟨o,aF,n,hk,hc,hs,hz,r⟩);obtain⟨z,aF,r,p⟩:=h.ok I.hok;exists aF,r,p,z;exists aF.toList,r,⟨o,I.dX a o hk,hc,n,by simpa using hs⟩,?_;have e:=r.length;simp only[kd]at e;omega
def aG.Yk(I:aG X aB σ H s)(h:aQ X.K H a xs)(h':aQ X.K H a ys):xs=ys:=by obtain⟨aF,r,⟨o,n,e,_,_,d⟩,_⟩:=I.list h;obtain⟨its',r',⟨o',n',e',_,_,d'⟩,_⟩:=I.list h';rw[e]at e';cases e';rw[d]at d';(injection d' with d1 _);(have:aF=its':=by simpa using kS Array.toList d1);subst this;exact r.inj r'
def aG.a4M(I:aG X aB σ H s)(h:aS X.K H a xs)(h':aS X.K H a ys):xs=ys:=by obtain⟨aF,r,⟨o,e,_,n,d⟩,_⟩:=I.tuple h;obtain⟨its',r',⟨o',e',_,n',d'⟩,_⟩:=I.tuple h';rw[e]at e';cases e';rw[d]at d';(injection d' with d1 _);(have:aF=its':=by simpa using kS Array.toList d1);subst this;exact r.inj r'
end
abbrev Cx.nY(X:Cx)(E:Value->Shared->Prop):Cx:= {X with xe:=E}
abbrev Cx.Bx(X:Cx):Cx:=X.nY λ_ _=>False
def Cx.Ok.nY{X:Cx}(ok:X.Ok)(E:aa->ac->Prop):(X.nY E).Ok:=
 ⟨ok.mod,ok.kind,ok.glob,ok.blt,ok.above,ok.inj,ok.has,ok.wN,ok.hd,ok.frames,ok.stk,ok.qf,ok.bs,ok.oz,ok.x0,ok.sk,ok.kX,ok.sw⟩
def Cx.Ok.qZ{X:Cx}{E:aa->ac->Prop}(ok:(X.nY E).Ok):X.Ok:=
 ⟨ok.mod,ok.kind,ok.glob,ok.blt,ok.above,ok.inj,ok.has,ok.wN,ok.hd,ok.frames,ok.stk,ok.qf,ok.bs,ok.oz,ok.x0,ok.sk,ok.kX,ok.sw⟩
section
variable{X:Cx}{aB:aq (ae×Obj)}{σ:St}{H:Hp}{s:ac}{E:aa->ac->Prop}
def aG.nY(I:aG X aB σ H s)(E:aa->ac->Prop):aG (X.nY E) aB σ H s:=⟨I.ok.nY E,I.os,I.fC,I.base,I.eI,I.cell,I.free,I.ir,I.dz,I.hok,I.len⟩
def aG.qZ(I:aG (X.nY E) aB σ H s):aG X aB σ H s:=⟨I.ok.qZ,I.os,I.fC,I.base,I.eI,I.cell,I.free,I.ir,I.dz,I.hok,I.len⟩
def SP.qZ{D:iR}{f:Flow}{s':ac}(h:SP (X.nY E) aB D f s'):SP X aB D f s':=by cases f with|next=>obtain⟨σ',H',I,q⟩:=h;exact⟨σ',H',I.qZ,q⟩|brk=>obtain⟨σ',H',I,q⟩:=h;exact⟨σ',H',I.qZ,q⟩|cont=>obtain⟨σ',H',I,q⟩:=h;exact⟨σ',H',I.qZ,q⟩|ret u=>obtain⟨v,σ',H',I,r,q⟩:=h;exists v,σ',H',I.qZ,r,q
def jI.Bx{st:aq ay}{t:TS}(h:jI X.Bx st t):jI X st t:=λaB s σ H D I hw=>
 dJ (h aB s σ H D (I.nY _) hw) (λ_ _ q=>q.qZ) λ_ _ z=>False.elim z
end
section
variable{X:Cx}{st:ay}{rest:aq ay}{t u:TS}{e:Expr}{te:TE}{pos:Pos}
def a4p:TS:=λD σ H=>D.nx σ H
def CF(t u:TS):TS:=λD σ H=>t {D with nx:=u D} σ H
def dB:jI X [] a4p:=λ_ _ σ H _ I h=>wpAny_execs_nil ⟨σ,H,I,h⟩
def be(h1:PS X st t)(h2:jI X rest u):jI X (st::rest) (CF t u):=by intro aB s σ H D I h;refine wpAny_execs_cons (aW (h1 aB s σ H {D with nx:=u D} I h) λf s1 q=> ?_);cases f with|next=>obtain⟨σ',H',I',q⟩:=q;exact h2 aB s1 σ' H' D I' q|ret v=>exact q|brk=>exact q|cont=>exact q
def bn(h1:PS X st t):jI X [st] t:=by intro aB s σ H D I h;refine wpAny_execs_cons (aW (h1 aB s σ H D I h) λf s1 q=> ?_);cases f with|next=>exact wpAny_execs_nil q|ret v=>exact q|brk=>exact q|cont=>exact q
def a36:TS:=λD σ H=>D.bk σ H
def a1Y:PS X (.Break pos) a36:=λ_ _ σ H _ I h=>wpAny_Break ⟨σ,H,I,h⟩
def aG.quiet{aB:aq (ae×Obj)}{σ:St}{H:Hp}{s:ac}(I:aG X aB σ H s):interactive X.env=false:=by simp[interactive,I.ok.kind]
def a4g(te:TE):TS:=λD σ H=>te σ H λ_ H1=>D.nx σ H1
def fg(he:PE X e te)(hs:swapsWith e none pos.line X.env=pure false:=by rfl):PS X (.Expr e pos) (a4g te):=by intro aB s σ H D I h;exact wpAny_Expr_any (aW (he aB s σ H _ I h) λv s1 ⟨x,H1,I1,r1,q1⟩=>⟨σ,H1,I1,q1⟩) I.quiet hs
def a4w(te:TE):TS:=λD σ H=>te σ H D.rt
def bQ(he:PE X e te):PS X (.Return (some e) pos) (a4w te):=by intro aB s σ H D I h;exact wpAny_Return_some (aW (he aB s σ H _ I h) λv s1 ⟨x,H1,I1,r1,q1⟩=>⟨x,σ,H1,I1,r1,q1⟩)
def a4x:TS:=λD _ H=>D.rt .aN H
def a1Z:PS X (.Return none pos) a4x:=λ_ _ σ H _ I h=>wpAny_Return_none ⟨.aN,σ,H,I,rfl,h⟩
def a4j(c:TT)(t u:TS):TS:=λD σ H=>c σ H λb H1=>if b=true then t D σ H1 else u D σ H1
def cN{c:Expr}{a b:aq ay}{tc:TT}(hc:PT X c tc)(ha:jI X a t)(hb:jI X b u):PS X (.If c a b pos) (a4j tc t u):=by intro aB s σ H D I h;refine wpAny_If (aW (hc aB s σ H _ I h) λd s1 ⟨H1,I1,q1⟩=> ?_);cases d with|true=>exact ha aB s1 σ H1 D I1 q1|false=>exact hb aB s1 σ H1 D I1 q1
end
abbrev TG:=V->St->Hp->(St->Hp->Prop)->Prop
abbrev uH:=List V->St->Hp->(St->Hp->Prop)->Prop
def PG(X:Cx)(target:Expr)(t:TG):Prop:=
 ∀ (aB:List (Addr×Obj)) (s:Shared) (σ:St) (H:Hp) (v:V) (u:Value) (Q:St->Hp->Prop),aG X aB σ H s->bm v u->t v σ H Q->
  wpAny (model X.prog X.w) X.A (assign target X.env u) (λ_ s'=> ∃σ' H',aG X aB σ' H' s'/\Q σ' H') X.xe s
def zL(X:Cx)(ts:List Expr)(t:uH):Prop:=
 ∀ (aB:List (Addr×Obj)) (s:Shared) (σ:St) (H:Hp) (vs:List V) (us:List Value) (Q:St->Hp->Prop),aG X aB σ H s->bg vs us->t vs σ H Q->
  wpAny (model X.prog X.w) X.A (assignInOrder ((assignEach ts X.env).map (·.2)) us) (λ_ s'=> ∃σ' H',aG X aB σ' H' s'/\Q σ' H') X.xe s
abbrev Du:=V->V->V->Hp->(Hp->Prop)->Prop
def Jx(X:Cx)(t:Du):Prop:=
 ∀ (aB:List (Addr×Obj)) (s:Shared) (σ:St) (H:Hp) (o i v:V) (ov iv u:Value) (Q:Hp->Prop),aG X aB σ H s->bm o ov->bm i iv->bm v u->t o i v H Q->
  wpAny (model X.prog X.w) X.A (setItem ov iv u) (λ_ s'=> ∃H',aG X aB σ H' s'/\Q H') X.xe s
abbrev Dt:=V->V->Hp->VK->Prop
def Jw(X:Cx)(op:Operator)(t:Dt):Prop:=
 ∀ (aB:List (Addr×Obj)) (s:Shared) (σ:St) (H:Hp) (x y:V) (v u:Value) (Q:VK),aG X aB σ H s->bm x v->bm y u->t x y H Q->
  wpAny (model X.prog X.w) X.A (inplaceOp op v u) (EP X aB σ Q) X.xe s
section
variable{X:Cx}{pos:Pos}
def jR(i:Nat):TG:=λv σ H Q=>Q (σ.set i (some v)) H
def cC{i:Nat}{x:aA}(hN:X.N.Nodup)(hi:X.N[i]? =some x)(hx:wC X.env.scope x)(hf:X.fn x=true\/X.env.scope.names.lookup x=some .local:=by first|exact .inl rfl|exact .inr rfl|assumption):PG X (.Name x pos) (jR i):=by intro aB s σ H v u Q I r h;exact wpAny_assign_Name (Iy I hN hi hx r (λs' I'=>⟨_,H,I',h⟩) hf)
def K1:uH:=λvs σ H Q=>vs= []/\Q σ H
inductive Ec(t:TG)(u:uH)(vs:List V)(σ:St)(H:Hp)(Q:(St->Hp->Prop)):Prop
 |mk (v r:_) (_:vs=v::r) (_:t v σ H λσ' H'=>u r σ' H' Q)
def nP:zL X [] K1:=by intro aB s σ H vs us Q I r h;obtain⟨e,h⟩:=h;subst e;cases r;exact assignInOrder_nil ⟨σ,H,I,h⟩
def gN{e:Expr}{t:TG}{u:uH}(h1:PG X e t)(h2:zL X es u)(hs:(assignEach (e::es) X.env).map (·.2)=assign e X.env::(assignEach es X.env).map (·.2):=by rfl):zL X (e::es) (Ec t u):=by intro aB s σ H vs us Q I r h;obtain⟨v,vr,e1,h⟩:=h;subst e1;cases r with|cons r rr=>rw[hs];refine assignInOrder_cons (aW (h1 aB s σ H _ _ _ I r h) λ_ s1 ⟨σ1,H1,I1,q1⟩=> ?_);exact h2 aB s1 σ1 H1 _ _ Q I1 rr q1
inductive K3(K:W.Frag)(n:Nat)(t:uH)(v:V)(σ:St)(H:Hp)(Q:(St->Hp->Prop)):Prop
 |mk (a xs:_) (_:v= .ref a) (_:aS K H a xs) (_:xs.length=n) (_:t xs σ H Q)
def nO{k:Nat}{t:uH}{n:Nat}(hc:X.gu=true)(h:zL X es t)(hn:(assignEach es X.env).length=n:=by rfl)(jp:(assignEach es X.env).findIdx? (·.1)=none:=by rfl):PG X (.Tuple es k pos) (K3 X.K n t):=by intro aB s σ H v u Q I r hw;obtain⟨a,xs,e1,hq,hl,hw⟩:=hw;subst e1;cases r;obtain⟨aF,rv,ht,hz⟩:=I.tuple hq;refine assign_Tuple_tuple (I.ok.hd hc) ht (by simp[hn,<-hl,rv.length]) jp λh' hx=> ?_;have I1:aG X aB σ H {s with heap:=h'}:=I.kept (t':=s.toks) λb o e=>hx b o (cp (bL e)) e;exact h aB _ σ H xs _ Q I1 (by simpa using rv) hw
def Uc(to ti:TE)(t:Du):TG:=λv σ H Q=>to σ H λo H1=>ti σ H1 λi H2=>t o i v H2 λH3=>Q σ H3
def Oi{o:Expr}{to ti:TE}{t:Du}(ho:PE X o to)(hi:PE X i ti)(hs:Jx X t)
  (ha: ∀v,assign (.Subscript o i pos) X.env v=(do
   let ov<-holding [v] (eval o X.env)
   let iv<-holding [v,ov] (eval i X.env)
   standAt pos
   holding [v,ov,iv] (setItem ov iv v)
   release [v,ov,iv] []):=by intro _;rfl):PG X (.Subscript o i pos) (Uc to ti t):=by
 intro aB s σ H v u Q I r h
 rw[ha]
 refine aH (iP (aW (ho aB s σ H _ I h) λov s1 ⟨x,H1,I1,r1,q1⟩=> ?_))
 refine aH (iP (aW (hi aB s1 σ H1 _ I1 q1) λiv s2 ⟨y,H2,I2,r2,q2⟩=> ?_))
 refine aH (nZ (aH (iP (aW (hs aB s2 σ H2 x y v ov iv u _ I2 r1 r2 r q2) λ_ s3 ⟨H3,I3,q3⟩=> ?_))))
 exact wpAny_release ⟨σ,H3,I3,q3⟩
def yQ(te:TE)(g:TG):TS:=λD σ H=>te σ H λx H1=>g x σ H1 D.nx
def GJ{e:Expr}{te:TE}{g:TG}(he:PE X e te)(hg:PG X tg g)(hs:swapsWithSole [tg] e pos.line X.env=pure false:=by rfl)(hw:swappedStores [tg] e X.env=pure none:=by rfl)(h1:(assignEach [tg] X.env).map (·.2)= [assign tg X.env]:=by rfl):PS X (.Assign [tg] e pos) (yQ te g):=by intro aB s σ H D I h;refine wpAny_Assign_stores (aW (he aB s σ H _ I h) λv s1 ⟨x,H1,I1,r1,q1⟩=> ?_) hs hw;rw[h1];exact aW (hg aB s1 σ H1 x v _ I1 r1 q1) λ_ s2 q=>q
def cA{i:Nat}{x:aA}{e:Expr}{te:TE}(hN:X.N.Nodup)(hi:X.N[i]? =some x)(hx:wC X.env.scope x)(he:PE X e te)(hs:swapsWith e (some (.Name x pos')) pos.line X.env=pure false:=by rfl)(hf:X.fn x=true\/X.env.scope.names.lookup x=some .local:=by first|exact .inl rfl|exact .inr rfl|assumption):PS X (.Assign [.Name x pos'] e pos) (yQ te (jR i)):=by intro aB s σ H D I h;refine wpAny_Assign_Name (aW (he aB s σ H _ I h) λv s1 ⟨y,H1,I1,r1,q1⟩=> ?_) hs;exact Iy I1 hN hi hx r1 (λs2 I2=>⟨_,H1,I2,q1⟩) hf
inductive a34(i:Nat)(te:TE)(ti:Dt)(D:iR)(σ:St)(H:Hp):Prop
 |mk (x:_) (_:σ[i]? =some (some x)) (_:te σ H λy H1=>ti x y H1 λz H2=>D.nx (σ.set i (some z)) H2)
def Oq{i:Nat}{x:aA}{e:Expr}{te:TE}{ti:Dt}(hN:X.N.Nodup)(hi:X.N[i]? =some x)(hx:wC X.env.scope x)(he:PE X e te)(ho:Jw X op ti)(hf:X.fn x=true\/X.env.scope.names.lookup x=some .local:=by first|exact .inl rfl|exact .inr rfl|assumption):PS X (.AugAssign (.Name x pos') op e pos) (a34 i te ti):=by intro aB s σ H D I h;obtain⟨v,e1,h⟩:=h;obtain⟨m,hn,hl⟩:=I.eI;(have vis:zR X.env.scope x:=by rcases hx with k|k;exact .inl k;exact .inr (.inl k));obtain⟨u,r,l⟩:=hl i x v hi e1 vis;refine wpAny_AugAssign_Name ?_;(have go:wpAny (model X.prog X.w) X.A (eval e X.env) (λw s₂=>wpAny (model X.prog X.w) X.A (inplaceOp op u w) (λr s₃=>wpAny (model X.prog X.w) X.A (storeName X.env x r) (λ_=>SP X aB D .next) X.xe s₃) X.xe s₂) X.xe s:=(by refine aW (he aB s σ H _ I h) λw s1 ⟨y,H1,I1,r1,q1⟩=> ?_;refine aW (ho aB s1 σ H1 v y u w _ I1 r r1 q1) λz s2 ⟨zv,H2,I2,r2,q2⟩=> ?_;exact Iy I2 hN hi hx r2 (λs3 I3=>⟨_,H2,I3,q2⟩) hf));(rcases l with⟨hk,hm⟩|⟨hk,c,hc,uU⟩);exact wpAny_loadName_local I.ok.kind hk hn hm go;rcases hk with hk|hk;exact wpAny_loadName_cell I.ok.kind hk hc uU go;rcases hx with k|k;have:X.env.scope.names.lookup x=some .free:=hk;rw[k]at this;cases this;have:X.env.scope.names.lookup x=some .free:=hk;rw[k]at this;cases this
inductive Xq(f:Int->Int->Int)(x:V)(y:V)(H:Hp)(Q:VK):Prop
 |mk (i j:_) (_:x= .int i) (_:y= .int j) (_:Q (.int (f i j)) H)
def AT:Jw X .Add (Xq λi j=>i+j):=by intro aB s σ H x y v u Q I r1 r2 h;obtain⟨i,j,e1,e2,q⟩:=h;subst e1;subst e2;obtain⟨t,rfl⟩:=r1;obtain⟨t',rfl⟩:=r2;exact iadd_int ⟨.int _,H,I.tok _,⟨_,rfl⟩,q⟩
end
section
variable{X:Cx}{pos:Pos}
inductive a4A(c:TT)(tb:TS)(D:iR)(σ:St)(H:Hp):Prop
 |mk (W:Nat->St->Hp->Prop) (_:(∃m,W m σ H)) (_: ∀m σ H,W m σ H->c σ H λb H1=>if b=true then ∃N:St->Hp->Prop,(∀σ' H',N σ' H'-> ∃m',m'<m/\W m' σ' H')/\tb {D with nx:=N,ct:=N,bk:=D.nx} σ H1 else D.nx σ H1)
def a10{c:Expr}{tc:TT}{tb:TS}(hp:PassesOwn (model X.prog X.w) X.A X.env X.xe)(hc:PT X c tc)(hb:jI X body tb):PS X (.While c body [] pos) (a4A tc tb):=by intro aB s σ H D I h;obtain⟨W,⟨m0,w0⟩,turn⟩:=h;refine wpAny_While (codeAny_whileLoop (λn s'=> ∃σ' H',aG X aB σ' H' s'/\W n σ' H') ?_ m0 ⟨σ,H,I,w0⟩);rintro n s1 ⟨σ1,H1,I1,w1⟩;refine wg hp (aW (hc aB s1 σ1 H1 _ I1 (turn n σ1 H1 w1)) λb s2 ⟨H2,I2,q2⟩=> ?_);cases b with|true=>(obtain⟨N,hN,q2⟩:=q2;rw[aT rfl];refine wg hp (aW (hb aB s2 σ1 H2 _ I2 q2) λf s3 q3=> ?_);cases f with|next=>obtain⟨σ3,H3,I3,n3⟩:=q3;obtain⟨m',hm,w3⟩:=hN σ3 H3 n3;exact⟨m',hm,σ3,H3,I3,w3⟩|cont=>obtain⟨σ3,H3,I3,n3⟩:=q3;obtain⟨m',hm,w3⟩:=hN σ3 H3 n3;exact⟨m',hm,σ3,H3,I3,w3⟩|brk=>exact q3|ret v=>exact q3)|false=>rw[aU fI];exact wpAny_execs_nil ⟨σ1,H2,I2,q2⟩
end
structure It where
 go:Nat->Hp->Prop
 hV:Nat->Hp->V->Hp->Prop
 stop:Nat->Hp->Prop
def gL(X:Cx)(aB:List (Addr×Obj))(H:Hp)(b:Addr):Prop:=
 H b=none/\b≠X.env.locals/\b∉X.fs/\(b∈X.ex\/X.s₀.heap.objs.size<=b)/\(∀x c,X.env.cells.lookup x=some c->c≠b)/\ ∀p∈X.pn++aB,p.1≠b
def aG.kW{X:Cx}{aB:aq (ae×Obj)}{σ:St}{H H':Hp}{s:ac}{b:ae}(I:aG X aB σ H s)(hb:s.heap.objs.size<=b)(hn:H' b=none):gL X aB H' b:=by exists hn,uC (fK I.lt hb),I.ZP hb,.inr (dS I.sz hb),λx c e z=> ?_,λp hp z=> ?_;obtain⟨v,q⟩:=I.cell x c e;exact absurd (fK q.lt (by rw[z];exact hb)) (kh _);exact absurd (fK (bL (I.dz p hp).1) (by rw[z];exact hb)) (kh _)
structure lR(P:Program)(w:World)(K:W.Frag)(tg:Expr)(J:It)(fp:List Addr)(it:Addr)(tn:Nat->Heap->Prop):Prop where
 mem:it∈fp
 obj: ∀i h,tn i h-> ∀b∈fp,∃o,h.get? b=some o/\ ∀v,o.data≠ .cell v
 keep: ∀i h h',tn i h->(∀b∈fp,∀o,h.get? b=some o->h'.get? b=some o)->tn i h'
 item: ∀ (X:Cx),X.prog=P->X.w=w->X.K=K->X.gu=true-> ∀ (i:Nat) (aB:List (Addr×Obj)) (s:Shared) (σ:St) (H:Hp) (E:Value->Shared->Prop),aG X aB σ H s->(∀b∈fp,gL X aB H b)->tn i s.heap->J.go i H->
  wpAny (model P w) X.A (pyNext (.ref it)) (λr s1=> ∃u,r=some u/\
   wpAny (model P w) X.A (letOwnedTupleGo tg (.ref it) u) (λ_ s2=> ∃x H',aG X aB σ H' s2/\bm x u/\J.hV i H x H'/\tn (i+1) s2.heap/\ ∀b∈fp,H' b=none) E s1) E s
 done: ∀ (X:Cx),X.prog=P->X.w=w->X.K=K->X.gu=true-> ∀ (i:Nat) (aB:List (Addr×Obj)) (s:Shared) (σ:St) (H:Hp) (E:Value->Shared->Prop),aG X aB σ H s->(∀b∈fp,gL X aB H b)->tn i s.heap->J.stop i H->
  wpAny (model P w) X.A (pyNext (.ref it)) (λr s1=>r=none/\aG X aB σ H s1) E s
 self: ∀ (A:Around) (i:Nat) (s:Shared) (Q:Value->Shared->Prop) (E:Value->Shared->Prop),tn i s.heap->Q (.ref it) s->wpAny (model P w) A (pyIter (.ref it)) Q E s
abbrev TI:=St->Hp->(It->Hp->Prop)->Prop
inductive zM(X:Cx)(aB:List (Addr×Obj))(σ:St)(tg:Expr)(R:It->Hp->Prop)(vg:Value)(s2:Shared):Prop
 |mk (it:Addr) (fp:List Addr) (tn:Nat->Heap->Prop) (J:It) (H':Hp) (_:vg= .ref it) (_:aG X aB σ H' s2) (_:lR X.prog X.w X.K tg J fp it tn) (_:tn 0 s2.heap) (_:(∀b∈fp,gL X aB H' b)) (_:R J H')
def PI(X:Cx)(tg iter:Expr)(wi:TI):Prop:=
 ∀ (aB:List (Addr×Obj)) (s:Shared) (σ:St) (H:Hp) (R:It->Hp->Prop),aG X aB σ H s->wi σ H R->
  wpAny (model X.prog X.w) X.A (eval iter X.env) (λv s1=>wpAny (model X.prog X.w) X.A (pyIter v) (zM X aB σ tg R) X.xe s1) X.xe s
def xf{E:aa->ac->Prop}{s:ac}{it:ae}{u:aa}{o:Obj}{Q:Unit->ac->Prop}(ho:s.heap.get? it=some o)(hc:o.cls= .type n)(hd:o.data= .fields vs)(hn: ["enumerate", "zip", "dict_itemiterator", "dict_reverseitemiterator", "odict_iterator", "itertools.zip_longest", "itertools.pairwise"].contains n=false)(hQ:Q () s):wpAny M A (letOwnedTupleGo tg (.ref it) u) Q E s:=by
 unfold letOwnedTupleGo;cases tg<;>first
  |exact aX hQ
  |(cases u<;>first
    |exact aX hQ
    |(refine aH (wpAny_load ho ?_)
      rw[hc,hd]
      show wpAny M A (if(["enumerate", "zip", "dict_itemiterator", "dict_reverseitemiterator", "odict_iterator", "itertools.zip_longest", "itertools.pairwise"].contains n&&vs[0]? ==some (rawInt _))=true then _ else _) Q E s
      rw[aU (by intro h;rw[hn,Bool.false_and]at h;cases h)]
      exact aX hQ))
def Jp(K:W.Frag)(a:Addr):It:=
 ⟨λi H=> ∃xs x,aQ K H a xs/\xs[i]? =some x,λi H x H'=>H'=H/\ ∀xs,aQ K H a xs->xs[i]? =some x,λi H=> ∃xs,aQ K H a xs/\xs.length<=i⟩
def wp(K:W.Frag)(a:Addr):It:=
 ⟨λi H=> ∃xs x,aS K H a xs/\xs[i]? =some x,λi H x H'=>H'=H/\ ∀xs,aS K H a xs->xs[i]? =some x,λi H=> ∃xs,aS K H a xs/\xs.length<=i⟩
def Dc(lo:Int)(n:Nat):It:=⟨λi _=>i<n,λi H x H'=>H'=H/\x= .int (lo+i),λi _=>n<=i⟩
def a4U{K:W.Frag}(a it:ae):lR P w K tg (Jp K a) [it] it (λi h=>h.IsListIter it a i)where
 mem:=by simp
 obj:=λi h st b hb=>by(have e:b=it:=by simpa using hb);subst e;obtain⟨o,e,c,d⟩:=st;exact⟨o,e,λv z=>by rw[d]at z;cases z⟩
 keep:=λi h h' st k=>st.at λo e=>k it (by simp) o e
 item:=by intro X hP hw hK hc i aB s σ H E I hf st hg;subst hP hw hK;obtain⟨xs,x,hq,hx⟩:=hg;obtain⟨aF,rv,p,hz⟩:=I.list hq;obtain⟨u,hu,ru⟩:=rv.get hx;obtain⟨f0,f1,f2,f3,f4,f5⟩:=hf it (by simp);refine wpAny_pyNext_list_item st p.isList (x:=u) (by simpa using hu) λh' st' sb=> ?_;have I1:aG X aB σ H {s with heap:=h'}:=I.j7 (t':=s.toks) (λb o hb e=>(sb.2 b hb).trans e) f0 f1 f3 f4 f5;obtain⟨o,e,c,d⟩:=id st';exists u,rfl,xf (s:= {s with heap:=h'}) e c d (by decide) ⟨x,H,I1,ru,⟨rfl,λys hy=>by rw[I.Yk hy hq];exact hx⟩,st',λb hb=>(hf b hb).1⟩
 done:=by intro X hP hw hK hc i aB s σ H E I hf st hg;subst hP hw hK;obtain⟨xs,hq,hx⟩:=hg;obtain⟨aF,rv,p,hz⟩:=I.list hq;obtain⟨f0,f1,f2,f3,f4,f5⟩:=hf it (by simp);have hl:=rv.length;exact wpAny_pyNext_list_end (I.ok.hd hc) st p.isList (by simp;omega) λh' eb=>⟨rfl,I.j7 (t':=s.toks) (λb o hb e=>eb b o hb e) f0 f1 f3 f4 f5⟩
 self:=λ_ _ _ _ _ st h=>wpAny_pyIter_listiter st h
def a4W{K:W.Frag}(a it:ae):lR P w K tg (wp K a) [it] it (λi h=>h.IsTupleIter it a i)where
 mem:=by simp
 obj:=λi h st b hb=>by(have e:b=it:=by simpa using hb);subst e;obtain⟨o,e,c,d⟩:=st;exact⟨o,e,λv z=>by rw[d]at z;cases z⟩
 keep:=λi h h' st k=>st.at λo e=>k it (by simp) o e
 item:=by intro X hP hw hK hc i aB s σ H E I hf st hg;subst hP hw hK;obtain⟨xs,x,hq,hx⟩:=hg;obtain⟨aF,rv,p,hz⟩:=I.tuple hq;obtain⟨u,hu,ru⟩:=rv.get hx;obtain⟨f0,f1,f2,f3,f4,f5⟩:=hf it (by simp);refine wpAny_pyNext_tuple_item st (show s.heap.IsTuple a aF.toArray from p) (x:=u) (by simpa using hu) λh' st' sb=> ?_;have I1:aG X aB σ H {s with heap:=h'}:=I.j7 (t':=s.toks) (λb o hb e=>(sb.2 b hb).trans e) f0 f1 f3 f4 f5;obtain⟨o,e,c,d⟩:=id st';exists u,rfl,xf (s:= {s with heap:=h'}) e c d (by decide) ⟨x,H,I1,ru,⟨rfl,λys hy=>by rw[I.a4M hy hq];exact hx⟩,st',λb hb=>(hf b hb).1⟩
 done:=by intro X hP hw hK hc i aB s σ H E I hf st hg;subst hP hw hK;obtain⟨xs,hq,hx⟩:=hg;obtain⟨aF,rv,p,hz⟩:=I.tuple hq;obtain⟨f0,f1,f2,f3,f4,f5⟩:=hf it (by simp);have hl:=rv.length;exact wpAny_pyNext_tuple_end (I.ok.hd hc) st (show s.heap.IsTuple a aF.toArray from p) (by simp;omega) λh' eb=>⟨rfl,I.j7 (t':=s.toks) (λb o hb e=>eb b o hb e) f0 f1 f3 f4 f5⟩
 self:=λ_ _ _ _ _ st h=>wpAny_pyIter_tupleiter st h
def a4V{K:W.Frag}(it:ae)(lo:Int)(n:Nat):lR P w K tg (Dc lo n) [it] it (λi h=>IsRangeIter h it (lo+(i:Nat)*1) ((n:Int)- (i:Nat)) 1)where
 mem:=by simp
 obj:=λi h st b hb=>by(have e:b=it:=by simpa using hb);subst e;exact⟨_,st,λv z=>by have z':Data.fields _=Data.cell v:=z;cases z'⟩
 keep:=λi h h' st k=>k it (by simp) _ st
 item:=by intro X hP hw hK hc i aB s σ H E I hf st hg;subst hP hw hK;obtain⟨f0,f1,f2,f3,f4,f5⟩:=hf it (by simp);have W:=Walks.range (prog:=X.prog) (w:=X.w) (I.ok.hd hc) it lo 1 n;refine W.item i s _ _ hg st λv h' tk hv st' kk=> ?_;obtain⟨t,rfl⟩:=hv;have I1:aG X aB σ H {s with heap:=h',toks:=tk}:=I.j7 (λb o hb e=>kk b o (by simpa using hb) e) f0 f1 f3 f4 f5;exists _,rfl,xf (s:= {s with heap:=h',toks:=tk}) (n:= "range_iterator") st' rfl rfl (by decide) ⟨.int (lo+i),H,I1,⟨t,?_⟩,⟨rfl,rfl⟩,st',λb hb=>(hf b hb).1⟩;rw[Int.mul_one]
 done:=by intro X hP hw hK hc i aB s σ H E I hf st hg;subst hP hw hK;obtain⟨f0,f1,f2,f3,f4,f5⟩:=hf it (by simp);exact wpAny_pyNext_range_end (I.ok.hd hc) st (by have:n<=i:=hg;omega) λh' eb=>⟨rfl,I.j7 (t':=s.toks) (λb o hb e=>eb b o hb e) f0 f1 f3 f4 f5⟩
 self:=λ_ _ _ _ _ st h=>wpAny_pyIter_rangeiter st h
section
variable{X:Cx}{tg:Expr}
def MB(K:W.Frag)(tl:TE):TI:=λσ H R=>tl σ H λx H1=> ∃a,x= .ref a/\(∃xs,aQ K H1 a xs)/\R (Jp K a) H1
def MD(K:W.Frag)(tl:TE):TI:=λσ H R=>tl σ H λx H1=> ∃a,x= .ref a/\(∃xs,aS K H1 a xs)/\R (wp K a) H1
def mG{l:Expr}{tl:TE}(hl:PE X l tl):PI X tg l (MB X.K tl):=by intro aB s σ H R I h;refine aW (hl aB s σ H _ I h) λv s1 ⟨x,H1,I1,r1,q1⟩=> ?_;obtain⟨a,e,⟨xs,hq⟩,q⟩:=q1;subst e;cases r1;obtain⟨aF,rv,p,hz⟩:=I1.list hq;refine wpAny_pyIter_list p.isList ?_;exists s1.heap.objs.size,[s1.heap.objs.size],_,_,H1,rfl,I1.kept (t':=s1.toks) λb o e=>bS _ e,a4U a _,⟨_,cS _ rfl,rfl,rfl⟩,λb hb=> ?_,q;(have e:b=s1.heap.objs.size:=by simpa using hb);subst e;exact I1.kW (aV _) (I1.hok.fresh (aV _))
def ye{l:Expr}{tl:TE}(hl:PE X l tl):PI X tg l (MD X.K tl):=by intro aB s σ H R I h;refine aW (hl aB s σ H _ I h) λv s1 ⟨x,H1,I1,r1,q1⟩=> ?_;obtain⟨a,e,⟨xs,hq⟩,q⟩:=q1;subst e;cases r1;obtain⟨aF,rv,p,hz⟩:=I1.tuple hq;refine CY (show s1.heap.IsTuple a aF.toArray from p) ?_;exists s1.heap.objs.size,[s1.heap.objs.size],_,_,H1,rfl,I1.kept (t':=s1.toks) λb o e=>bS _ e,a4W a _,⟨_,cS _ rfl,rfl,rfl⟩,λb hb=> ?_,q;(have e:b=s1.heap.objs.size:=by simpa using hb);subst e;exact I1.kW (aV _) (I1.hok.fresh (aV _))
def a2z{σ:St}{R:It->Hp->Prop}{E:aa->ac->Prop}{lo hi:Int}{t u v:Tok}{tk:Nat}(I:aG X aB σ H s)(h1: -(2^62)<=lo)(h2:lo<2^62)(h3: -(2^62)<=hi)(h4:hi<2^62)(q:R (Dc lo (hi-lo).toNat) H):wpAny (model X.prog X.w) X.A (pyIter (.ref s.heap.objs.size)) (zM X aB σ tg R) E {s with heap:=s.heap.push {cls:= .type "range",data:= .fields #[.int lo t,.int hi u,.int 1 v]},toks:=tk}:=by refine wpAny_pyIter_range (IsRange.new ..) (small_one h1 h2 h3 h4) ?_;have I1:aG X aB σ H {s with heap:=s.heap.push {cls:= .type "range",data:= .fields #[.int lo t,.int hi u,.int 1 v]},toks:=tk}:=I.kept λb o e=>bS _ e;exists(s.heap.push {cls:= .type "range",data:= .fields #[.int lo t,.int hi u,.int 1 v]}).objs.size,[(s.heap.push {cls:= .type "range",data:= .fields #[.int lo t,.int hi u,.int 1 v]}).objs.size],_,_,H,rfl,I1.kept (t':=tk) λb o e=>bS _ e,a4V _ lo (hi-lo).toNat,?_,λb hb=> ?_,q;(have e1:lo+((0:Nat):Int)*1=lo:=by simp);(have e2:(((hi-lo).toNat:Nat):Int)- ((0:Nat):Int)=Builtin.Range.rangeSize lo hi 1:=by rw[rangeSize_one];split<;>omega);show IsRangeIter _ _ (lo+((0:Nat):Int)*1) ((((hi-lo).toNat:Nat):Int)- ((0:Nat):Int)) 1;rw[e1,e2];exact cS _ rfl;(have e:b=(s.heap.push {cls:= .type "range",data:= .fields #[.int lo t,.int hi u,.int 1 v]}).objs.size:=by simpa using hb);subst e;exact I1.kW (aV _) (I1.hok.fresh (aV _))
inductive a2r(R:It->Hp->Prop)(vs:List V)(H1:Hp):Prop
 |mk (j:Int) (_:vs= [.int j]) (_: -(2^62)<=j) (_:j<2^62) (_:R (Dc 0 j.toNat) H1)
def MC(ta:TA):TI:=λσ H R=>ta σ H (a2r R)
def pz{a:Expr}{ta:TA}{pos:Pos}(hg:Gl X "range")(hm:X.mg "range"=none)(ha:PA X [a] ta)(hs:starEach [a] X.env= [(false,eval a X.env)]:=by rfl):PI X tg (.Call (.Name "range" p) [a] [] pos) (MC ta):=by intro aB s σ H R I h;refine Call_ (sW I hg hm boot_range (zN (aW (ha pos aB s σ H _ I h) λus s1 ⟨vs,H1,I1,r1,q1⟩=> ?_) hs rfl));obtain⟨j,e,q1,q2,q⟩:=q1;subst e;cases r1 with|cons r rr=>cases rr;obtain⟨t,rfl⟩:=r;exact call_range_1 (a2z I1 (by omega) (by omega) q1 q2 (by simpa using q))
def a4h(wi:TI)(g:TG)(tb:TS):TS:=λD σ H=>wi σ H λJ H1=> ∃W:Nat->Nat->St->Hp->Prop,(∃m,W 0 m σ H1)/\ ∀i m σ H,W i m σ H->
 (J.stop i H/\D.nx σ H)\/(J.go i H/\ ∃N:St->Hp->Prop,(∀σ' H',N σ' H'-> ∃m',m'<m/\W (i+1) m' σ' H')/\ ∀x H',J.hV i H x H'->g x σ H' λσ2 H2=>tb {D with nx:=N,ct:=N,bk:=D.nx} σ2 H2)
/---/def tJ(fp:List Addr)(h:Heap):List (Addr×Obj):=fp.filterMap λb=>(h.get? b).map λo=>(b,o)
def nI{fp:aq ae}{h:ak}{b:ae}{o:Obj}(hb:b∈fp)(e:h.get? b=some o):(b,o)∈tJ fp h:=List.mem_filterMap.mpr ⟨b,hb,by rw[e];rfl⟩
def a0a{p:ae×Obj}(hp:p∈tJ fp h):p.1∈fp/\h.get? p.1=some p.2:=by obtain⟨b,hb,e⟩:=List.mem_filterMap.mp hp;cases q:h.get? b with|none=>rw[q]at e;cases e|some o=>rw[q]at e;have e':(b,o)=p:=gp e;subst e';exists hb,q
def aG.pinned{aB:aq (ae×Obj)}{σ:St}{H:Hp}{s:ac}{fp:aq ae}(I:aG X aB σ H s)(hf: ∀b∈fp,gL X aB H b)(ho: ∀b∈fp,∃o,s.heap.get? b=some o/\ ∀v,o.data≠ .cell v):aG X (aB++tJ fp s.heap) σ H s:=
 I.qN λp hp=>(List.mem_append.mp hp).elim (λz=>I.dz p (db _ z)) λz=>by obtain⟨hb,e⟩:=a0a z;obtain⟨f0,f1,f2,_⟩:=hf p.1 hb;obtain⟨o,e',d⟩:=ho p.1 hb;rw[e]at e';cases e';exists e,f0,f1,f2,d
def aG.IN{aB pl:aq (ae×Obj)}{σ:St}{H:Hp}{s:ac}(I:aG X (aB++pl) σ H s):aG X aB σ H s:=I.qN λp hp=>I.dz p (db _ (dE _ hp))
def kE{iter:Expr}{wi:TI}{g:TG}{tb:TS}{pos:Pos}(hp:PassesOwn (model X.prog X.w) X.A X.env X.xe)(hc:X.gu=true)(hi:PI X tg iter wi)(hg:PG X tg g)(hb:jI X body tb)(hs: ∀x,foldedSetIterable iter X.env x=pure x:=by intro _;rfl):PS X (.For tg iter body [] pos) (a4h wi g tb):=by intro aB s σ H D I h;refine wpAny_For (aW (hi aB s σ H _ I h) λv s1 h1=>aW h1 λvg s2 h2=> ?_) hs;obtain⟨it,fp,tn,J,H2,e,I2,T,ik,f2,W,⟨m0,w0⟩,turn⟩:=h2;subst e;(have Iw: ∀ {H':Hp},(∀b∈fp,H' b=none)-> ∀b∈fp,gL X aB H' b:=λhn b hb=>⟨hn b hb,(f2 b hb).2⟩);refine codeAny_forLoop_any (λn s'=> ∃i σ' H',aG X aB σ' H' s'/\tn i s'.heap/\(∀b∈fp,H' b=none)/\W i n σ' H') ?_ m0 ⟨0,σ,H2,I2,ik,λb hb=>(f2 b hb).1,w0⟩;rintro n s3 ⟨i,σ3,H3,I3,mM,ic,w3⟩;(rcases turn i n σ3 H3 w3 with⟨stop,qn⟩|⟨go,N,hN,step⟩);refine wg hp (aW (T.done X rfl rfl rfl hc i aB s3 σ3 H3 X.xe I3 (Iw ic) mM stop) λr s4 ⟨hr,I4⟩=> ?_);subst hr;exact wpAny_execs_nil ⟨σ3,H3,I4,qn⟩;(·refine wg hp (aW (T.item X rfl rfl rfl hc i aB s3 σ3 H3 X.xe I3 (Iw ic) mM go) λr s4 ⟨u,hr,h4⟩=> ?_);subst hr;refine wg hp (aW h4 λ_ s5 ⟨x,H5,I5,r5,y5,iB,nq⟩=> ?_);have rj:=I5.pinned (Iw nq) (T.obj _ _ iB);refine wg hp (aW (hg _ s5 σ3 H5 x u _ rj r5 (step x H5 y5)) λ_ s6 ⟨mS,H6,I6,q6⟩=> ?_);refine wg hp (aW (hb _ s6 mS H6 _ I6 q6) λf s7 q7=> ?_);(have again: ∀ {lK:St} {H7:Hp},aG X (aB++tJ fp s5.heap) lK H7 s7->N lK H7-> ∃m,m<n/\ ∃i σ' H',aG X aB σ' H' s7/\tn i s7.heap/\(∀b∈fp,H' b=none)/\W i m σ' H':=λ{lK H7} I7 n7=>(by obtain⟨m',hm,w7⟩:=hN lK H7 n7;exists m',hm,i+1,lK,H7,I7.IN,T.keep _ _ _ iB λb hb o e=>(I7.dz (b,o) (db _ (db _ (nI hb e)))).1,λb hb=> ?_,w7;obtain⟨o,e,d⟩:=T.obj _ _ iB b hb;exact(I7.dz (b,o) (db _ (db _ (nI hb e)))).2.1));cases f with|next=>obtain⟨lK,H7,I7,n7⟩:=q7;exact again I7 n7|cont=>obtain⟨lK,H7,I7,n7⟩:=q7;exact again I7 n7|brk=>obtain⟨lK,H7,I7,q7⟩:=q7;exact⟨lK,H7,I7.IN,q7⟩|ret v=>obtain⟨x7,lK,H7,I7,r7,q7⟩:=q7;exists x7,lK,H7,I7.IN,r7,q7)
end
def T3{K:W.Frag}{a:ae}{xs:aq V}{g:TG}{tb:TS}{D:iR}{σ:St}(Pv:Nat->St->Hp->Prop)(h0:Pv 0 σ H)(hl: ∀i σ H,i<=xs.length->Pv i σ H->aS K H a xs)(hs: ∀i x σ H,xs[i]? =some x->Pv i σ H->g x σ H λσ2 H2=>tb {D with nx:=Pv (i+1),ct:=Pv (i+1),bk:=D.nx} σ2 H2)(hd: ∀σ H,Pv xs.length σ H->D.nx σ H): ∃W:Nat->Nat->St->Hp->Prop,(∃m,W 0 m σ H)/\ ∀i m σ H,W i m σ H->((wp K a).stop i H/\D.nx σ H)\/((wp K a).go i H/\ ∃N:St->Hp->Prop,(∀σ' H',N σ' H'-> ∃m',m'<m/\W (i+1) m' σ' H')/\ ∀x H',(wp K a).hV i H x H'->g x σ H' λσ2 H2=>tb {D with nx:=N,ct:=N,bk:=D.nx} σ2 H2):=by exists λi m σ H=>m=xs.length-i/\i<=xs.length/\Pv i σ H,⟨xs.length,by simp,fQ _,h0⟩,?_;rintro i m σ H ⟨rfl,hi,p⟩;have q:=hl i σ H hi p;by_cases hlt:i<xs.length;refine .inr ⟨⟨xs,xs[i],q,by simp[hlt]⟩,Pv (i+1),λσ' H' p'=>⟨xs.length- (i+1),by omega,rfl,hlt,p'⟩,λx H' y=> ?_⟩;obtain⟨e,y⟩:=y;subst e;exact hs i x σ _ (y xs q) p;(have e:i=xs.length:=by omega);subst e;exact .inl ⟨⟨xs,q,aV _⟩,hd σ H p⟩
abbrev R2:=V->V->Hp->VK->Prop
def eN(X:Cx)(f:Value->Value->Sem Value)(r:R2):Prop:=
 ∀ (aB:List (Addr×Obj)) (s:Shared) (σ:St) (H:Hp) (x y:V) (v u:Value) (Q:VK),aG X aB σ H s->bm x v->bm y u->r x y H Q->
  wpAny (model X.prog X.w) X.A (f v u) (EP X aB σ Q) X.xe s
def Dw(X:Cx)(f:Value->Sem Value)(r:V->Hp->VK->Prop):Prop:=
 ∀ (aB:List (Addr×Obj)) (s:Shared) (σ:St) (H:Hp) (x:V) (v:Value) (Q:VK),aG X aB σ H s->bm x v->r x H Q->
  wpAny (model X.prog X.w) X.A (f v) (EP X aB σ Q) X.xe s
def gS(X:Cx)(f:Value)(r:List V->Hp->VK->Prop):Prop:=
 ∀ (aB:List (Addr×Obj)) (s:Shared) (σ:St) (H:Hp) (xs:List V) (us:List Value) (Q:VK),aG X aB σ H s->bg xs us->r xs H Q->
  wpAny (model X.prog X.w) X.A (call f us) (EP X aB σ Q) X.xe s
def Rc(X:Cx)(r:V->Hp->(Bool->Hp->Prop)->Prop):Prop:=
 ∀ (aB:List (Addr×Obj)) (s:Shared) (σ:St) (H:Hp) (x:V) (v:Value) (Q:Bool->Hp->Prop),aG X aB σ H s->bm x v->r x H Q->
  wpAny (model X.prog X.w) X.A (truthy v) (TP X aB σ Q) X.xe s
def tX(r:R2)(ta tb:TE):TE:=λσ H Q=>ta σ H λx H1=>tb σ H1 λy H2=>r x y H2 Q
def tUn(r:V->Hp->VK->Prop)(ta:TE):TE:=λσ H Q=>ta σ H λx H1=>r x H1 Q
inductive rI(C:Int->Int->Prop)(g:Int->Int->V)(x:V)(y:V)(H:Hp)(Q:VK):Prop
 |mk (i j:_) (_:x= .int i) (_:y= .int j) (_:C i j) (_:Q (g i j) H)
inductive tQ(g:Int->Int->V)(x:V)(y:V)(H:Hp)(Q:VK):Prop
 |mk (i j:_) (_:x= .int i) (_:y= .int j) (_:Q (g i j) H)
inductive rU(g:Int->V)(x:V)(H:Hp)(Q:VK):Prop
 |mk (i:_) (_:x= .int i) (_:Q (g i) H)
section
variable{X:Cx}{a b c:Expr}{ta tb tc:TE}{pos:Pos}
def DG(ha:PE X a ta)(hb:PE X b tb){σ:St}{R:V->V->Hp->Prop}(I:aG X aB σ H s)(h:ta σ H λx H1=>tb σ H1 λy H2=>R x y H2){Q:aa->ac->Prop}{f:aa->aa->Sem aa}(hf: ∀v u s2 x y H2,aG X aB σ H2 s2->bm x v->bm y u->R x y H2->wpAny (model X.prog X.w) X.A (f v u) Q X.xe s2):wpAny (model X.prog X.w) X.A (eval a X.env) (λv s₁=>wpAny (model X.prog X.w) X.A (eval b X.env) (λu s₂=>wpAny (model X.prog X.w) X.A (f v u) Q X.xe s₂) X.xe s₁) X.xe s:=by refine aW (ha aB s σ H _ I h) λv s1 ⟨x,H1,I1,r1,q1⟩=> ?_;refine aW (hb aB s1 σ H1 _ I1 q1) λu s2 ⟨y,H2,I2,r2,q2⟩=> ?_;exact hf v u s2 x y H2 I2 r1 r2 q2
def df{r:R2}(ho:eN X (binaryOp op) r)(ha:PE X a ta)(hb:PE X b tb):PE X (.BinOp a op b pos) (tX r ta tb):=by intro aB s σ H Q I h;exact wpAny_BinOp (DG ha hb I h λv u s2 x y H2 I2 rx ry q=>ho aB s2 σ H2 x y v u Q I2 rx ry q)
def BI{r:V->Hp->VK->Prop}(ho:Dw X (unaryOp op) r)(ha:PE X a ta):PE X (.UnaryOp op a pos) (tUn r ta):=by intro aB s σ H Q I h;exact UnaryOp_ (aW (ha aB s σ H _ I h) λv s1 ⟨x,H1,I1,r1,q1⟩=>ho aB s1 σ H1 x v Q I1 r1 q1)
def BC{f:aa->aa->Sem aa}{C:Int->Int->Prop}{g:Int->Int->Int}(rule: ∀ (i j:Int) (t u:Tok) (s:ac) (Q:aa->ac->Prop) (E:aa->ac->Prop),C i j->Q (.int (g i j) s.toks) {s with toks:=s.toks+1}->wpAny (model X.prog X.w) X.A (f (.int i t) (.int j u)) Q E s):eN X f (rI C λi j=> .int (g i j)):=by intro aB s σ H x y v u Q I rx ry h;obtain⟨i,j,rfl,rfl,hc,q⟩:=h;obtain⟨t,rfl⟩:=rx;obtain⟨t',rfl⟩:=ry;exact rule i j t t' s _ _ hc ⟨.int (g i j),H,I.tok _,⟨_,rfl⟩,q⟩
def a07{f:aa->aa->Sem aa}{g:Int->Int->Int}(rule: ∀ (i j:Int) (t u:Tok) (s:ac) (Q:aa->ac->Prop) (E:aa->ac->Prop),Q (.int (g i j) s.toks) {s with toks:=s.toks+1}->wpAny (model X.prog X.w) X.A (f (.int i t) (.int j u)) Q E s):eN X f (tQ λi j=> .int (g i j)):=by intro aB s σ H x y v u Q I rx ry h;obtain⟨i,j,rfl,rfl,q⟩:=h;obtain⟨t,rfl⟩:=rx;obtain⟨t',rfl⟩:=ry;exact rule i j t t' s _ _ ⟨.int (g i j),H,I.tok _,⟨_,rfl⟩,q⟩
def BB{f:aa->aa->Sem aa}{g:Int->Int->Bool}(rule: ∀ (i j:Int) (t u:Tok) (s:ac) (Q:aa->ac->Prop) (E:aa->ac->Prop),Q (.bool (g i j)) s->wpAny (model X.prog X.w) X.A (f (.int i t) (.int j u)) Q E s):eN X f (tQ λi j=> .bl (g i j)):=by intro aB s σ H x y v u Q I rx ry h;obtain⟨i,j,rfl,rfl,q⟩:=h;obtain⟨t,rfl⟩:=rx;obtain⟨t',rfl⟩:=ry;exact rule i j t t' s _ _ ⟨.bl (g i j),H,I,rfl,q⟩
def Jg(i j:Int):Prop:=0<j/\j<1073741824
def Q5(i j:Int):Prop:=0<=j/\j<=1000000/\i.natAbs<2^64
def zj(i j:Int):Prop:=(-(2^64)<i/\i<2^64)\/(-(2^64)<j/\j<2^64)
def zj.ok{i j:Int}(h:zj i j):IntMulOk i j:=by(rcases h with⟨h1,h2⟩|⟨h1,h2⟩);exact .of_left (intBits_le_64 h1 h2);exact .of_right (intBits_le_64 h1 h2)
def px:eN X (binaryOp .Add) (tQ λi j=> .int (i+j)):=a07 λ_ _ _ _ _ _ _ q=>add_int q
def tG:eN X (binaryOp .Mult) (rI zj λi j=> .int (i*j)):=BC λ_ _ _ _ _ _ _ hc q=>mul_int q hc.ok
def tE:eN X (binaryOp .FloorDiv) (rI Jg λi j=> .int (i/j)):=BC λi j _ _ _ _ _ hc q=>by have h1:(0:Int)<j:=hc.1;have h2:j<1073741824:=hc.2;exact floordiv_int (by omega) (by rw[Int.fdiv_eq_ediv_of_nonneg i (by omega)];exact q) (.inl (PyProof.noPylong_small (by omega)))
def nK:eN X (binaryOp .Mod) (rI (λ_ j=>0<j) λi j=> .int (i%j)):=BC λi j _ _ _ _ _ hc q=>by have h1:(0:Int)<j:=hc;exact mod_int' (by omega) (by rw[Int.fmod_eq_emod_of_nonneg i (by omega)];exact q)
def N2:eN X (binaryOp .Pow) (rI Q5 λi j=> .int (i^j.toNat)):=BC λ_ _ _ _ _ _ _ hc q=>pow_int_small hc.1 hc.2.1 hc.2.2 q
def unI{f:aa->Sem aa}{g:Int->Int}(rule: ∀ (i:Int) (t:Tok) (s:ac) (Q:aa->ac->Prop) (E:aa->ac->Prop),Q (.int (g i) s.toks) {s with toks:=s.toks+1}->wpAny (model X.prog X.w) X.A (f (.int i t)) Q E s):Dw X f (rU λi=> .int (g i)):=by intro aB s σ H x v Q I rx h;obtain⟨i,rfl,q⟩:=h;obtain⟨t,rfl⟩:=rx;exact rule i t s _ _ ⟨.int (g i),H,I.tok _,⟨_,rfl⟩,q⟩
def CQ:Dw X (unaryOp .USub) (rU λi=> .int (-i)):=unI λ_ _ _ _ _ q=>neg_int q
end
/---/def Pl:V->V->Bool
 | .aN,.aN=>true| .aN,.int _=>true| .int _,.aN=>true| .aN,.bl _=>true| .bl _,.aN=>true| .aN,.str _=>true| .str _,.aN=>true
 | .int _,.int _=>true| .bl _,.bl _=>true| .str _,.str _=>true| .iW _,.iW _=>true
 | .int _,.str _=>true| .str _,.int _=>true| .bl _,.str _=>true| .str _,.bl _=>true
 |_,_=>false
def rEq:R2:=λx y H Q=>Pl x y=true/\Q (.bl (decide (x=y))) H
def rNe:R2:=λx y H Q=>Pl x y=true/\Q (.bl (!decide (x=y))) H
def Kp{i j:Int}:decide (V.int i=V.int j)=(i==j):=by rw[pP];simp
def Kn{i j:Bool}:decide (V.bl i=V.bl j)=(i==j):=by rw[pP];simp
def Kq{i j:aA}:decide (V.str i=V.str j)=(i==j):=by rw[pP];simp
def Ko{i j:au UInt8}:decide (V.iW i=V.iW j)=(i.toList==j.toList):=by rw[pP];cases i;cases j;simp
section
variable{X:Cx}{a b c:Expr}{ta tb tc:TE}{pos:Pos}
def eQ{σ:St}{Q:VK}{k k':Bool}(I:aG X aB σ H s)(q:Q (.bl k) H)(e:k=k'):EP X aB σ Q (.bool k') s:=by subst e;exists .bl k,H,I,rfl,q
def jt:eN X (compareOp .Eq) rEq:=by intro aB s σ H x y v u Q I rx ry h;obtain⟨hs,q⟩:=h;cases x with|aN=>(cases rx;cases y with|aN=>cases ry;exact PySem.EqNone.eq_none_none (eQ I q (by simp))|bl j=>cases ry;exact PySem.EqNone.eq_none_bool (eQ I q (by simp))|int j=>obtain⟨t',rfl⟩:=ry;exact PySem.EqNone.eq_none_int (eQ I q (by simp))|str j=>obtain⟨t',rfl⟩:=ry;exact PySem.EqNone.eq_none_str (eQ I q (by simp))|_=>exact absurd (show false=true from hs) fI)|bl i=>(cases rx;cases y with|aN=>cases ry;exact PySem.EqNone.eq_bool_none (eQ I q (by simp))|bl j=>cases ry;exact eq_bool (eQ I q Kn)|str j=>obtain⟨t',rfl⟩:=ry;exact PySem.EqMixed.eq_bool_str (eQ I q (by simp))|_=>exact absurd (show false=true from hs) fI)|int i=>(obtain⟨t,rfl⟩:=rx;cases y with|aN=>cases ry;exact PySem.EqNone.eq_int_none (eQ I q (by simp))|int j=>obtain⟨t',rfl⟩:=ry;exact eq_int (eQ I q Kp)|str j=>obtain⟨t',rfl⟩:=ry;exact PySem.EqMixed.eq_int_str (eQ I q (by simp))|_=>exact absurd (show false=true from hs) fI)|str i=>(obtain⟨t,rfl⟩:=rx;cases y with|aN=>cases ry;exact PySem.EqNone.eq_str_none (eQ I q (by simp))|bl j=>cases ry;exact PySem.EqMixed.eq_str_bool (eQ I q (by simp))|int j=>obtain⟨t',rfl⟩:=ry;exact PySem.EqMixed.eq_str_int (eQ I q (by simp))|str j=>obtain⟨t',rfl⟩:=ry;exact eq_str (eQ I q Kq)|_=>exact absurd (show false=true from hs) fI)|iW i=>(obtain⟨t,rfl⟩:=rx;cases y with|iW j=>obtain⟨t',rfl⟩:=ry;exact W.eq_bytes (eQ I q Ko)|_=>exact absurd (show false=true from hs) fI)|_=>cases y<;>exact absurd (show false=true from hs) fI
def tH:eN X (compareOp .NotEq) rNe:=by intro aB s σ H x y v u Q I rx ry h;obtain⟨hs,q⟩:=h;cases x with|aN=>(cases rx;cases y with|aN=>cases ry;exact PySem.EqNone.ne_none_none (eQ I q (by simp))|bl j=>cases ry;exact PySem.EqNone.ne_none_bool (eQ I q (by simp))|int j=>obtain⟨t',rfl⟩:=ry;exact PySem.EqNone.ne_none_int (eQ I q (by simp))|str j=>obtain⟨t',rfl⟩:=ry;exact PySem.EqNone.ne_none_str (eQ I q (by simp))|_=>exact absurd (show false=true from hs) fI)|bl i=>(cases rx;cases y with|aN=>cases ry;exact PySem.EqNone.ne_bool_none (eQ I q (by simp))|bl j=>cases ry;exact ne_bool (eQ I q (kS not Kn))|str j=>obtain⟨t',rfl⟩:=ry;exact PySem.EqMixed.ne_bool_str (eQ I q (by simp))|_=>exact absurd (show false=true from hs) fI)|int i=>(obtain⟨t,rfl⟩:=rx;cases y with|aN=>cases ry;exact PySem.EqNone.ne_int_none (eQ I q (by simp))|int j=>obtain⟨t',rfl⟩:=ry;exact ne_int (eQ I q (kS not Kp))|str j=>obtain⟨t',rfl⟩:=ry;exact PySem.EqMixed.ne_int_str (eQ I q (by simp))|_=>exact absurd (show false=true from hs) fI)|str i=>(obtain⟨t,rfl⟩:=rx;cases y with|aN=>cases ry;exact PySem.EqNone.ne_str_none (eQ I q (by simp))|bl j=>cases ry;exact PySem.EqMixed.ne_str_bool (eQ I q (by simp))|int j=>obtain⟨t',rfl⟩:=ry;exact PySem.EqMixed.ne_str_int (eQ I q (by simp))|str j=>obtain⟨t',rfl⟩:=ry;exact ne_str (eQ I q (kS not Kq))|_=>exact absurd (show false=true from hs) fI)|iW i=>(obtain⟨t,rfl⟩:=rx;cases y with|iW j=>obtain⟨t',rfl⟩:=ry;exact W.ne_bytes (eQ I q (kS not Ko))|_=>exact absurd (show false=true from hs) fI)|_=>cases y<;>exact absurd (show false=true from hs) fI
def Gp:eN X (compareOp .Lt) (tQ λi j=> .bl (decide (i<j))):=BB λ_ _ _ _ _ _ _ q=>lt_int q
def mB:eN X (compareOp .LtE) (tQ λi j=> .bl (decide (i<=j))):=BB λ_ _ _ _ _ _ _ q=>le_int q
def vy:eN X (compareOp .Gt) (tQ λi j=> .bl (decide (j<i))):=BB λ_ _ _ _ _ _ _ q=>gt_int q
def N1:eN X (compareOp .GtE) (tQ λi j=> .bl (decide (j<=i))):=BB λ_ _ _ _ _ _ _ q=>ge_int q
def a1b:eN X (compareOp .In) (λx y H Q=> ∃i j,x= .str i/\y= .str j/\Q (.bl (!(Builtin.Str.occurrences j i 0 j.length 1).isEmpty)) H):=by intro aB s σ H x y v u Q I rx ry h;obtain⟨i,j,rfl,rfl,q⟩:=h;obtain⟨t,rfl⟩:=rx;obtain⟨t',rfl⟩:=ry;exact in_str (eQ I q rfl)
def cQ(b:Expr){op:CmpOp}(h:op≠ .In:=by decide)(h2:op≠ .NotIn:=by decide):behindInMarks op b=false:=by(have e1:(op==CmpOp.In)=false:=by cases op<;>first|rfl|exact absurd rfl h);(have e2:(op==CmpOp.NotIn)=false:=by cases op<;>first|rfl|exact absurd rfl h2);cases b<;>simp[behindInMarks,e1,e2]
def nM{r:R2}(ho:eN X (compareOp op) r)(ha:PE X a ta)(hb:PE X b tb)(hm:behindInMarks op b=false):PE X (.Compare a [op] [b] pos) (tX r ta tb):=by intro aB s σ H Q I h;exact wpAny_Compare1 (DG ha hb I h λv u s2 x y H2 I2 rx ry q=>ho aB s2 σ H2 x y v u Q I2 rx ry q) hm
def Qz(t:TE):TT:=λσ H Q=>t σ H (yj Q)
def cY{r:R2}(ho:eN X (compareOp op) r)(ha:PE X a ta)(hb:PE X b tb)(hm:behindInMarks op b=false):PT X (.Compare a [op] [b] pos) (Qz (tX r ta tb)):=by
 intro aB s σ H Q I h;refine wpAny_isTrue_Compare1 (aW (ha aB s σ H _ I h) λv s1 ⟨x,H1,I1,r1,q1⟩=>aW (hb aB s1 σ H1 _ I1 q1) λu s2 ⟨y,H2,I2,r2,q2⟩=>
  aW (ho aB s2 σ H2 x y v u _ I2 r1 r2 q2) λc s3 ⟨z,H3,I3,r3,k,e,q3⟩=> ?_) hm
 subst e;cases r3;exact mR ⟨H3,I3,q3⟩
def Qx(r r':R2)(ta tb tc:TE):TE:=λσ H Q=>ta σ H λx H1=>tb σ H1 λy H2=>r x y H2 λz H3=> ∃k,z= .bl k/\
 (if k=true then tc σ H3 λw' H4=>r' y w' H4 Q else Q (.bl false) H3)
def Gy{r:R2}(ho:eN X (compareOp op) r)(mh:eN X (compareOp op') r')(ha:PE X a ta)(hb:PE X b tb)(hc:PE X c tc)(hm:lastMarks [op,op'] [b,c]=false:=by with_unfolding_all rfl):PE X (.Compare a [op,op'] [b,c] pos) (Qx r r' ta tb tc):=by
 intro aB s σ H Q I h;refine Compare_chain (aW (ha aB s σ H _ I h) λv s1 ⟨x,H1,I1,r1,q1⟩=>chain_link (aW (hb aB s1 σ H1 _ I1 q1) λu s2 ⟨y,H2,I2,r2,q2⟩=>
  aW (ho aB s2 σ H2 x y v u _ I2 r1 r2 q2) λd s3 ⟨z,H3,I3,r3,k,e,q3⟩=> ?_)) hm
 subst e;cases r3;refine mR ?_;(cases k with|false=>exact ite_ff ⟨.bl false,H3,I3,rfl,q3⟩|true=>exact ite_tt (chain_last (aW (hc aB s3 σ H3 _ I3 q3) λw' s4 ⟨z',H4,I4,r4,q4⟩=>mh aB s4 σ H4 y z' u w' Q I4 r2 r4 q4)))
def Ot{r:R2}(ho:eN X (compareOp op) r)(mh:eN X (compareOp op') r')(ha:PE X a ta)(hb:PE X b tb)(hc:PE X c tc)(hm:lastMarks [op,op'] [b,c]=false:=by with_unfolding_all rfl):PT X (.Compare a [op,op'] [b,c] pos) (Qz (Qx r r' ta tb tc)):=by
 intro aB s σ H Q I h;refine isTrue_chain (aW (ha aB s σ H _ I h) λv s1 ⟨x,H1,I1,r1,q1⟩=>test_link (aW (hb aB s1 σ H1 _ I1 q1) λu s2 ⟨y,H2,I2,r2,q2⟩=>
  aW (ho aB s2 σ H2 x y v u _ I2 r1 r2 q2) λd s3 ⟨z,H3,I3,r3,k,e,q3⟩=> ?_)) hm
 subst e;cases r3;refine mR ?_;(cases k with|false=>obtain⟨k',e',q'⟩:=q3;cases e';exact ite_ff ⟨H3,I3,q'⟩|true=>refine ite_tt (test_last (aW (hc aB s3 σ H3 _ I3 q3) λw' s4 ⟨z',H4,I4,r4,q4⟩=>aW (mh aB s4 σ H4 y z' u w' _ I4 r2 r4 q4) λd' s5 ⟨z2,H5,I5,r5,k2,e2,q5⟩=> ?_));subst e2;cases r5;exact mR ⟨H5,I5,q5⟩)
def Jz(K:W.Frag)(x:V)(H:Hp)(k:Bool):Prop:=
 match x with
 | .aN=>k=false
 | .bl b=>k=b
 | .int i=>k=(i !=0)
 | .str y=>y.length<=sizeLine/\k=((y.length:Int) !=0)
 | .iW y=>y.size<=sizeLine/\k=((y.size:Int) !=0)
 | .ref p=>(∃xs,aQ K H p xs/\k= !xs.isEmpty)\/(∃xs,aS K H p xs/\k= !xs.isEmpty)\/ ∃kvs,H p=some (.dK kvs)/\k= !kvs.isEmpty
 |_=>False
def Xs{κ:Type}{kvs:aq (κ×V)}{vs:aq (κ×aa)}(r:KV kvs vs):(!vs.isEmpty)= !kvs.isEmpty:=by cases r<;>rfl
def MN(r:bg xs aF):(!aF.toArray.isEmpty)= !xs.isEmpty:=by cases r<;>simp
def vi:(sizeLine:Nat)<2^63:=by rw[jb];decide
def a4K:Rc X (λx H Q=> ∃k,Jz X.K x H k/\Q k H):=by intro aB s σ H x v Q I rx h;obtain⟨k,e,q⟩:=h;have hl:=vi;have hs:sizeLine=16777216:=jb;cases x with|aN=>cases rx;have e':k=false:=e;subst e';exact truthy_none ⟨H,I,q⟩|bl b=>cases rx;have e':k=b:=e;subst e';exact mR ⟨H,I,q⟩|int i=>obtain⟨t,rfl⟩:=rx;have e':k=(i !=0):=e;subst e';exact PySem.P.truthy_int ⟨H,I,q⟩|str y=>obtain⟨t,rfl⟩:=rx;obtain⟨hy,e'⟩:y.length<=sizeLine/\k=((y.length:Int) !=0):=e;subst e';exact PySem.P.truthy_str (by omega) ⟨H,I.tok _,q⟩|iW y=>obtain⟨t,rfl⟩:=rx;obtain⟨hy,e'⟩:y.size<=sizeLine/\k=((y.size:Int) !=0):=e;subst e';exact W.truthy_bytes (by omega) ⟨H,I.tok _,q⟩|ref p=>cases rx;have e':(∃xs,aQ X.K H p xs/\k= !xs.isEmpty)\/(∃xs,aS X.K H p xs/\k= !xs.isEmpty)\/ ∃kvs,H p=some (.dK kvs)/\k= !kvs.isEmpty:=e;(rcases e' with⟨xs,hx,e'⟩|⟨xs,hx,e'⟩|⟨kvs,hx,e'⟩);subst e';obtain⟨aF,r,pl,hz⟩:=I.list hx;have cf:=r.length;exact wpAny_truthy_list pl.isList (by simp only[cE];omega) ⟨H,I.tok _,by rw[MN r];exact q⟩;subst e';obtain⟨aF,r,pl,hz⟩:=I.tuple hx;have cf:=r.length;exact truthy_tuple pl (by simp only[cE];omega) ⟨H,I.tok _,by rw[MN r];exact q⟩;subst e';obtain⟨hz,hS,vs,r,m⟩:kvs.length<=sizeLine/\(p==sysModules)=false/\ ∃vs,KV kvs vs/\s.heap.DictOf (cX X.prog X.w) p vs:=I.hok p _ hx;have cf:kvs.length=vs.length:=Paired.length r;exact wpAny_truthy_dict hS m (by omega) ⟨H,I.tok _,by rw[Xs r];exact q⟩|_=>exact(show False from e).elim
def a11(ha:PE X a ta)(he: ∀whole,isTrue a X.env whole=(do let v<-whole;standAt a.pos;holding [v] (truthy v))):
  PT X a (λσ H Q=>ta σ H λx H'=> ∃k,Jz X.K x H' k/\Q k H'):=by
 intro aB s σ H Q I h
 exact isTrue_plain (aW (ha aB s σ H _ I h) λv s1 ⟨x,H1,I1,r1,q1⟩=>a4K aB s1 σ H1 x v Q I1 r1 q1) (he _)
def jA{x:V}{us:aq aa}(r:bg [x] us): ∃u,us= [u]/\bm x u:=by cases r with|cons r1 r2=>cases r2;exists _,rfl,r1
def QO{x y:V}{us:aq aa}(r:bg [x,y] us): ∃u w',us= [u,w']/\bm x u/\bm y w':=by cases r with|cons r1 r2=>cases r2 with|cons r3 r4=>cases r4;exists _,_,rfl,r1,r3
end
structure rK(h:Heap)(x dx C:Addr)(mA:Str->Option Value):Prop where
 obj:h.get? x=some (W.instObj C dx)
 ns:h.Ns1 dx mA
 ne:dx≠x
def Ym{h:ak}{dx:ae}{mA:aA->ap aa}(n:h.Ns1 dx mA): ∃od,h.get? dx=some od/\ ∀name,W.lookIn name od=some (mA name):=by obtain⟨o,es,ep,ho,hd,hk,_,hm⟩:=n;exists o,ho,λname=> ?_;have e:=hm name;unfold nsFind findBy at e;rw[<-Array.find?_toList]at e;unfold W.lookIn;rw[hd];dsimp only;split;rename_i y q;rw[q]at e;exact kS some e;rename_i q;rw[q]at e;(have a:es.toList.any (·.refKey)=false:=(by rw[List.any_eq_false];intro y hy;obtain⟨z,t,hkey⟩:=hk y (Array.mem_toList_iff.mp hy);simp[DictEntry.refKey,hkey]));(have a': ¬es.toList.any (·.refKey)=true:=by rw[a];exact fI);rw[aU a'];exact kS some e
def rK.look{h:ak}{x dx C:ae}{mA:aA->ap aa}(I:rK h x dx C mA): ∃od,W.InstAt h x (W.instObj C dx) C (some od)/\ ∀name,W.lookIn name od=some (mA name):=
 let⟨od,ho,hl⟩:=Ym I.ns
 ⟨od,⟨I.obj,rfl,rfl,ho⟩,hl⟩
section
variable{prog:af}{w:ag}{A:ao}{E:aa->ac->Prop}{s:ac}{K:W.Frag}{x dx C f:ae}{mA:aA->ap aa}{name:aA}{v:aa}
def Uo{Q:aa->ac->Prop}(X:K.In s.heap)(I:rK s.heap x dx C mA)(hg:W.plainGet K C name=true)(hh:W.hasDictIn K C=true)(ha:W.findIn K (.ref C) name=some none)(hv:mA name=some v)(Fs:W.handedIn v=true)(h:Q v {s with toks:=s.toks+1}):wpAny (model prog w) A (getAttr (.ref x) name expr) Q E s:=by obtain⟨od,J,hl⟩:=I.look;exact W.get_value X J (W.plainGet_of hg).1 (W.findObj_own hh ha rfl (by rw[hl,hv])) Fs h
def Uq{Q:aa×aq aa->ac->Prop}(X:K.In s.heap)(I:rK s.heap x dx C mA)(hg:W.plainGet K C name=true)(hf:W.findIn K (.ref C) name=some (some (.ref f)))(ht:W.isFn K (.ref f)=true)(hv:mA name=none)(h:Q (.ref f,[.ref x]) s):wpAny (model prog w) A (getMethod (.ref x) name pl) Q E s:=by obtain⟨od,J,hl⟩:=I.look;exact W.method_fn X J (W.plainGet_of hg).1 (W.plainGet_of hg).2 hf (beq_iff_eq.mp ht) (by show(W.lookIn name od).map (·.isSome)=some false;rw[hl,hv];rfl) h
def nS{Q:Unit->ac->Prop}(X:K.In s.heap)(I:rK s.heap x dx C mA)(hs:W.findIn K (.ref C) "__setattr__"=some (some (.builtin "object.__setattr__")))(hp:W.plainOver K C=true)(ht:W.takerIn K C name=some none)(hh:W.hasDictIn K C=true)(hw:PySem.Within mA ns)(hsz:ns.length<=sizeLine)(h: ∀h',rK h' x dx C (λy=>if y=name then some v else mA y)->Heap.SameBut dx s.heap h'->Q () {s with heap:=h',toks:=s.toks+2}):wpAny (model prog w) A (setAttr (.ref x) name v) Q E s:=by obtain⟨od,J,hl⟩:=I.look;refine W.set_plain X J hs (W.osa_open (s:= {s with toks:=s.toks+1}) (r:=none) X J hp ht λb=> ?_);obtain⟨cd,hc,hd'⟩:=W.any_some hh;have hx:s.heap.get? x=some ⟨.ref C,some dx,.plain, #[]⟩:=I.obj;refine aH (aX (aH (aH (wpAny_loadPart hx (aH (W.Looks.here (s:= {s with toks:=s.toks+1}) (W.looks_clsIn X hc) ?_))))));rw[hd'];refine aX (a:=some dx) (aH (aX (aH ?_)));refine wpAny_nsSet1 (s:= {s with toks:=s.toks+1}) I.ns λh' hn2 hs2=> ?_;obtain⟨oD,esD,epD,Wi,Vz,Vt⟩:=hn2.count (PySem.Within.cons name v hw);refine aH (wpAny_lookBehind Wi (by rw[Vz];exact pastItsLine_dict (dS Vt (by rw[cU];omega))) ?_);exact aX (h _ ⟨(hs2.2 _ (jH I.ne)).trans I.obj,hn2,I.ne⟩ hs2)
def Nk{R:Result->ac->Prop}{vs:aq aa}{kw:aq (aA×aa)}(X:K.In s.heap)(hm:W.makesIn K C=true)(hi:W.findIn K (.ref C) "__init__"=some (some (.ref f)))(hf:W.typeIn K (.ref f)=some (.type "function"))(h:codeAny (model prog w) (A.under (.builtin "type.__call__" ⟨.ref C::vs,kw⟩)) (.call (.ref f) ⟨.ref (s.heap.objs.size+1)::vs,kw⟩) (W.InitBack (s.heap.objs.size+1) R) {s with heap:=(s.heap.push W.emptyDict).push (W.instObj C s.heap.objs.size)}):codeAny (model prog w) A (.call (.ref C) ⟨vs,kw⟩) R s:=by obtain⟨hh,g,d,t,os⟩:=s;exact W.make_core (W.makes_of X hm) (W.looks_findIn X hi) (λself=>W.bind_fn X self hf) (.inl rfl) h
end
/---/def bU(f:Str)(v:V):List (Str×V)->List (Str×V)
 | []=> [(f,v)]
 |(g,x)::r=>if g=f then(g,v)::r else(g,x)::bU f v r
def xS(f g:aA)(v:V): ∀fs:aq (aA×V),(bU f v fs).lookup g=if g=f then some v else fs.lookup g
 | []=>by show List.lookup g [(f,v)]=_;by_cases h:g=f;have hb:(g==f)=true:=beq_iff_eq.mpr h;simp only[List.lookup,hb,aT h];have hb:(g==f)=false:=beq_eq_false_iff_ne.mpr h;simp only[List.lookup,hb,aU h]
 |(k,x)::r=>by have ih:=xS f g v r;rw[show bU f v ((k,x)::r)=(if k=f then(k,v)::r else(k,x)::bU f v r)from rfl];by_cases hk:k=f;rw[aT hk];by_cases h:g=k;have hb:(g==k)=true:=beq_iff_eq.mpr h;simp only[List.lookup,hb,aT (h.trans hk)];have hb:(g==k)=false:=beq_eq_false_iff_ne.mpr h;simp only[List.lookup,hb,aU (λe:g=f=>h (e.trans hk.symm))];rw[aU hk];by_cases h:g=k;have hb:(g==k)=true:=beq_iff_eq.mpr h;simp only[List.lookup,hb,aU (λe:g=f=>hk (h.symm.trans e))];have hb:(g==k)=false:=beq_eq_false_iff_ne.mpr h;simp only[List.lookup,hb];exact ih
def FN(f:aA)(v:V): ∀fs:aq (aA×V),f∈(bU f v fs).map (·.1)/\ ∀g,g∈fs.map (·.1)->g∈(bU f v fs).map (·.1)
 | []=>⟨by simp[bU],λg h=>by simp at h⟩
 |(k,x)::r=>by obtain⟨i1,i2⟩:=FN f v r;rw[show bU f v ((k,x)::r)=(if k=f then(k,v)::r else(k,x)::bU f v r)from rfl];by_cases hk:k=f;rw[aT hk];subst hk;exact⟨by simp,λg h=>by simpa using h⟩;rw[aU hk];exists ?_,λg h=> ?_;rw[bH];exact fJ _ i1;rw[bH]at h⊢;rcases List.mem_cons.mp h with e|e;exact List.mem_cons.mpr (.inl e);exact fJ _ (i2 g e)
def Na(f:aA)(v:V): ∀fs:aq (aA×V),(bU f v fs).length<=fs.length+1
 | []=>by simp[bU]
 |(k,x)::r=>by have ih:=Na f v r;rw[show bU f v ((k,x)::r)=(if k=f then(k,v)::r else(k,x)::bU f v r)from rfl];by_cases hk:k=f;rw[aT hk,cU,cU];omega;rw[aU hk,cU,cU];omega
def gA.some_of{v:V}{o:ap aa}(r:gA (some v) o): ∃u,o=some u/\bm v u:=by cases o with|none=>exact(show False from r).elim|some u=>exists u,rfl,r
def gA.none_of{o:ap aa}(r:gA none o):o=none:=by cases o with|none=>rfl|some u=>exact(show False from r).elim
def Ve{v:V}{u:aa}(r:bm v u):W.handedIn u=true:=by cases v with|aN=>cases(show u=Value.none from r);rfl|bl b=>cases(show u=Value.bool b from r);rfl|int i=>obtain⟨t,e⟩:=(show ∃t,u=Value.int i t from r);cases e;rfl|str x=>obtain⟨t,e⟩:=(show ∃t,u=Value.str x t from r);cases e;rfl|iW b=>obtain⟨t,e⟩:=(show ∃t,u=Value.bytes b t from r);cases e;rfl|oE b=>obtain⟨t,e⟩:=(show ∃t,u=Value.float b t from r);cases e;rfl|ref a=>cases(show u=Value.ref a from r);rfl|ty n=>cases(show u=Value.type n from r);rfl
section
variable{P:af}{w:ag}{H H':Hp}{h h':ak}{a C dx:ae}{fs fs':aq (aA×V)}
def AS(hok:dh P w H h)(e:H a=some (.bv C dx fs)): ∃mA,rK h a dx C mA/\(∀f,gA (fs.lookup f) (mA f))/\PySem.Within mA (fs.map (·.1))/\fs.length<=1000/\H dx=some (.bR a):=by(obtain⟨d,z,ne,ob,mA,n,r,q⟩:=(show dO P w H h a (.bv C dx fs)from hok a _ e));exists mA,⟨ob,n,ne⟩,r,q,z,d
end
structure jC(K:W.Frag)(C:Addr):Prop where
 pg:W.plainGet K C Str.empty=true
 hd:W.hasDictIn K C=true
 po:W.plainOver K C=true
 sa:W.findIn K (.ref C) "__setattr__"=some (some (.builtin "object.__setattr__"))
def jC.get{K:W.Frag}{C:ae}(c:jC K C)(f:aA):W.plainGet K C f=true:=c.pg
def fu(K:W.Frag)(C:Addr)(f:Str):Prop:=W.findIn K (.ref C) f=some none
def fu.a4D{K:W.Frag}{C:ae}{f:aA}(n:fu K C f):W.takerIn K C f=some none:=by unfold W.takerIn;rw[show W.findIn K (.ref C) f=some none from n];rfl
structure ux(K:W.Frag)(C:Addr)(m:Str)(f:Addr):Prop where
 at_:W.findIn K (.ref C) m=some (some (.ref f))
 fn:W.isFn K (.ref f)=true
 kp:W.keepIn K (.ref f)=true
section
variable{X:Cx}{aB:aq (ae×Obj)}{σ:St}{H:Hp}{s:ac}{a C dx:ae}{fs:aq (aA×V)}{f:aA}{v:V}{A:ao}{E:aa->ac->Prop}
def K9{b:Bool}{Q:aa->ac->Prop}(I:aG X aB σ H s)(e:H a=some (.bv C dx fs))(c:jC X.K C)(n:fu X.K C f)(l:fs.lookup f=some v)(h: ∀u s',aG X aB σ H s'->bm v u->Q u s'):wpAny (model X.prog X.w) A (getAttr (.ref a) f b) Q E s:=by obtain⟨mA,O,r,_,_,_⟩:=AS I.hok e;obtain⟨u,hu,ru⟩:=gA.some_of (v:=v) (o:=mA f) (by rw[<-l];exact r f);exact Uo I.dX O (c.get f) c.hd n hu (Ve ru) (h u _ (I.tok _) ru)
def La{g:ae}{Q:aa×aq aa->ac->Prop}(I:aG X aB σ H s)(e:H a=some (.bv C dx fs))(c:jC X.K C)(k:ux X.K C m g)(l:fs.lookup m=none)(h:Q (.ref g,[.ref a]) s):wpAny (model X.prog X.w) A (getMethod (.ref a) m pl) Q E s:=by obtain⟨mA,O,r,_,_,_⟩:=AS I.hok e;have hn:mA m=none:=gA.none_of (by rw[<-l];exact r m);exact Uq I.dX O (c.get m) k.at_ k.fn hn h
def Pp{u:aa}{Q:Unit->ac->Prop}(I:aG X aB σ H s)(e:H a=some (.bv C dx fs))(c:jC X.K C)(n:fu X.K C f)(hl:fs.length<1000)(ry:bm y u)(h: ∀s',aG X aB σ (upd H a (.bv C dx (bU f y fs))) s'->Q () s'):wpAny (model X.prog X.w) A (setAttr (.ref a) f u) Q E s:=by obtain⟨mA,O,r,wi,_,ho⟩:=AS I.hok e;(have hz:(fs.map (·.1)).length<=sizeLine:=by rw[bq,jb];omega);refine nS I.dX O c.sa c.po n.a4D c.hd wi hz λh' O' sb=>h _ ?_;(have hd: ∃o,h'.get? dx=some o:=let⟨o,_,_,e',_⟩:=O'.ns;⟨o,e'⟩);refine I.write (x:=a) (e:=dx) (by rw[e];exact True.intro) (.inr ho) (λb q hb z=>(sb.2 b hb).trans z) hd ?_;exists by rw[aP O.ne];exact ho,?_,O.ne,O'.obj,_,O'.ns,λg=> ?_,λg hg=> ?_;have:=Na f y fs;omega;show gA ((bU f y fs).lookup g) (if g=f then some u else mA g);rw[xS];by_cases q:g=f;rw[aT q,aT q];exact ry;rw[aU q,aU q];exact r g;by_cases q:g=f;rw[q];exact(FN f y fs).1;refine(FN f y fs).2 g (wi g λz=>hg ?_);show(if g=f then some u else mA g)=none;rw[aU q];exact z
def aG.made(I:aG X aB σ H s):aG X aB σ (upd (upd H s.heap.objs.size (.bR (s.heap.objs.size+1))) (s.heap.objs.size+1) (.bv C s.heap.objs.size [])) {s with heap:=(s.heap.push W.emptyDict).push (W.instObj C s.heap.objs.size)}:=by have e1:(s.heap.push W.emptyDict).get? s.heap.objs.size=some W.emptyDict:=cS s.heap rfl;(have e2:((s.heap.push W.emptyDict).push (W.instObj C s.heap.objs.size)).get? (s.heap.objs.size+1)=some (W.instObj C s.heap.objs.size):=(by have:=cS (s.heap.push W.emptyDict) (o:=W.instObj C s.heap.objs.size) rfl;rwa [jF]at this));(have e3:(s.heap.push W.emptyDict).Ns s.heap.objs.size (λ_=>none):=⟨W.emptyDict, #[],_,e1,rfl,(λe he=>absurd he (by simp)),λ_=>rfl⟩);have I1:=I.laid (a:=s.heap.objs.size) (o:= .bR (s.heap.objs.size+1)) (h':=s.heap.push W.emptyDict) (t':=s.toks) (λb u q=>bS _ q) (aV _) ⟨_,e1⟩;refine I1.laid (a:=s.heap.objs.size+1) (o:= .bv C s.heap.objs.size []) (t':=s.toks) (λb u q=>bS _ q) (Nat.le_of_eq (jF _ _)) ?_;have ne:s.heap.objs.size≠s.heap.objs.size+1:=cp (wG _);exists by rw[aP ne,aL],fQ _,ne,e2,λ_=>none,(Heap.Ns1.of_empty e3).at λo q=>bS _ q,λ_=>True.intro,λy hy=>absurd rfl hy
def Rq{e:Expr}{f:aA}{Q:aa->ac->Prop}(hb:attributeBase e f env (eval e env)=eval e env)(h:wpAny (model prog w) A (eval e env) (λo s₁=>wpAny (model prog w) A (getAttr o f true) Q E s₁) E s):wpAny (model prog w) A (eval (.Attribute e f pos) env) Q E s:=
 Attribute_any_ h (by rw[arm_eval_Attribute,hb])
end
inductive a2j(K:W.Frag)(f:Str)(Q:VK)(x:V)(H1:Hp):Prop
 |mk (a C dx fs v:_) (_:x= .ref a) (_:H1 a=some (.bv C dx fs)) (_:jC K C) (_:fu K C f) (_:fs.lookup f=some v) (_:Q v H1)
def Qy(K:W.Frag)(ta:TE)(f:Str):TE:=λσ H Q=>ta σ H (a2j K f Q)
inductive a2s(K:W.Frag)(f:Str)(y:V)(N:Hp->Prop)(x:V)(H2:Hp):Prop
 |mk (a C dx fs:_) (_:x= .ref a) (_:H2 a=some (.bv C dx fs)) (_:jC K C) (_:fu K C f) (_:fs.length<1000) (_:N (upd H2 a (.bv C dx (bU f y fs))))
def a2Z(K:W.Frag)(ta tv:TE)(f:Str):TS:=λD σ H=>tv σ H λy H1=>ta σ H1 (a2s K f y (D.nx σ))
def Q8(X:Cx)(op:Operator)(rd:V->V->Hp->VK->Prop):Prop:=
 ∀ (aB:List (Addr×Obj)) (s:Shared) (σ:St) (H:Hp) (x y:V) (u v:Value) (Q:VK),aG X aB σ H s->bm x u->bm y v->rd x y H Q->wpAny (model X.prog X.w) X.A (inplaceOp op u v) (EP X aB σ Q) X.xe s
def a20(K:W.Frag)(ta tv:TE)(rd:V->V->Hp->VK->Prop)(f:Str):TS:=λD σ H=>ta σ H λx H1=> ∃a C dx fs v,x= .ref a/\H1 a=some (.bv C dx fs)/\jC K C/\fu K C f/\fs.lookup f=some v/\
 tv σ H1 λy H2=>rd v y H2 λz H3=> ∃uP fs',H3 a=some (.bv C uP fs')/\fs'.length<1000/\D.nx σ (upd H3 a (.bv C uP (bU f z fs')))
section
variable{X:Cx}{o e value:Expr}{f:aA}{pos pos' tpos:Pos}{ta tv:TE}
def cb(he:PE X e ta)(hb:attributeBase e f X.env (eval e X.env)=eval e X.env):PE X (.Attribute e f pos) (Qy X.K ta f):=by intro aB s σ H Q I h;refine Rq hb (aW (he aB s σ H _ I h) λu s1 ⟨x,H1,I1,rx,a,C,dx,fs,v,ex,ea,c,n,l,q⟩=> ?_);subst ex;obtain rfl:u=Value.ref a:=rx;exact K9 I1 ea c n l λu' s2 I2 ru=>⟨v,H1,I2,ru,q⟩
def gO(ha:PE X o ta)(hv:PE X value tv)(hs:swapsWith value (some (.Attribute o f pos')) pos.line X.env=pure false):PS X (.Assign [.Attribute o f pos'] value pos) (a2Z X.K ta tv f):=by intro aB s σ H D I h;refine plainObj_wpAny_Assign_Attribute (aW (hv aB s σ H _ I h) λu s1 ⟨y,H1,I1,ry,q⟩=>aW (ha aB s1 σ H1 _ I1 q) λov s2 ⟨x,H2,I2,rx,a,C,dx,fs,ex,ea,c,n,l,q2⟩=> ?_) hs;subst ex;obtain rfl:ov=Value.ref a:=rx;exact Pp I2 ea c n l ry λs3 I3=>⟨σ,_,I3,q2⟩
def Os{rd:V->V->Hp->VK->Prop}(ha:PE X o ta)(hv:PE X value tv)(hop:Q8 X op rd):PS X (.AugAssign (.Attribute o f tpos) op value pos) (a20 X.K ta tv rd f):=by intro aB s σ H D I h;refine wpAny_AugAssign_AttributeAny (aW (ha aB s σ H _ I h) λov s1 ⟨x,H1,I1,rx,a,C,dx,fs,v,ex,ea,c,n,l,q⟩=> ?_);subst ex;obtain rfl:ov=Value.ref a:=rx;refine K9 I1 ea c n l λu s2 I2 ru=>aW (hv aB s2 σ H1 _ I2 q) λw3 s3 ⟨y,H2,I3,ry,q3⟩=>aW (hop aB s3 σ H2 v y u w3 _ I3 ru ry q3) λw4 s4 ⟨z,H3,I4,rz,uP,fs',ea',l',q4⟩=> ?_;exact Pp I4 ea' c n l' rz λs5 I5=>⟨σ,_,I5,q4⟩
end
section
variable{X:Cx}{aB:aq (ae×Obj)}{σ:St}{H:Hp}{s:ac}{A:ao}{E:aa->ac->Prop}{Q:aa->ac->Prop}{c:aa}{b:Bool}
inductive jg(K:W.Frag)(H:Hp):V->Value->Prop where
 |aN:jg K H .aN (.type "NoneType")
 |bl (x:Bool):jg K H (.bl x) (.type "bool")
 |int (i:Int):jg K H (.int i) (.type "int")
 |str (x:Str):jg K H (.str x) (.type "str")
 |oE (x:UInt64):jg K H (.oE x) (.type "float")
 |aK {a:Addr} {xs:List V} (e:H a=some (.aK xs)):jg K H (.ref a) (.type "list")
 |cc {a:Addr} {o:Obj} {xs:List V} (e:H a=some (.cc o (.aK xs))):jg K H (.ref a) (.type "list")
 |aC {a:Addr} {xs:List V} (e:H a=some (.aC xs)):jg K H (.ref a) (.type "tuple")
 |dK {a:Addr} {kvs:List (aZ×V)} (e:H a=some (.dK kvs)):jg K H (.ref a) (.type "dict")
 |dT {a:Addr} {kvs:List (List aZ×V)} (e:H a=some (.dT kvs)):jg K H (.ref a) (.type "dict")
 |bv {a C dx:Addr} {fs:List (Str×V)} (e:H a=some (.bv C dx fs)) (cl:jC K C) (ha:W.findIn K (.ref C) "__class__"=some (some (.builtin "object.__class__")))
   (hn:W.specialIn K (.builtin "object.__class__") "__get__"=some (some (.builtin "getset_descriptor.__get__"))) (htk:W.takesIn K (.builtin "object.__class__")=some true)
   (hm:W.mroIn K C (.type "object")=some true):jg K H (.ref a) (.ref C)
def Xx{x:V}{u t:aa}(I:aG X aB σ H s)(rx:bm x u)(ty:jg X.K H x t)(e:W.kitOne X.K t c=some b)(h: ∀tk,Q (.bool b) {s with toks:=tk}):wpAny (model X.prog X.w) A (call (.builtin "isinstance") [u,c]) Q E s:=by cases ty with|aN=>cases(show u=Value.none from rx);exact mZ W.kitx_none I.dX True.intro e (λz=>nomatch z) h|bl y=>cases(show u=Value.bool y from rx);exact mZ W.kitx_bool I.dX True.intro e (λz=>nomatch z) h|int i=>obtain⟨t,q⟩:=(show ∃t,u=Value.int i t from rx);cases q;exact mZ W.kitx_int I.dX True.intro e (λz=>nomatch z) h|str y=>obtain⟨t,q⟩:=(show ∃t,u=Value.str y t from rx);cases q;exact mZ W.kitx_str I.dX True.intro e (λz=>nomatch z) h|oE y=>obtain⟨t,q⟩:=(show ∃t,u=Value.float y t from rx);cases q;exact mZ W.kitx_float I.dX True.intro e (λz=>nomatch z) h| @aK a xs ea=>cases(show u=Value.ref a from rx);(obtain⟨_,_,n,_,h1⟩:=(show dO X.prog X.w H s.heap a (.aK xs)from I.hok a _ ea));exact mZ W.kitx_list I.dX ⟨_,h1,rfl⟩ e (λz=>nomatch z) h| @cc a ob xs ea=>cases(show u=Value.ref a from rx);(obtain⟨_,_,_,n,_,h1⟩:=(show dO X.prog X.w H s.heap a (.cc ob (.aK xs))from I.hok a _ ea));exact mZ W.kitx_list I.dX ⟨_,h1,rfl⟩ e (λz=>nomatch z) h| @aC a xs ea=>cases(show u=Value.ref a from rx);(obtain⟨_,_,_,p⟩:=(show dO X.prog X.w H s.heap a (.aC xs)from I.hok a _ ea));obtain⟨o,h1,h2,_⟩:=p;exact mZ W.kitx_tuple I.dX ⟨o,h1,h2⟩ e (λz=>nomatch z) h| @dK a kvs ea=>cases(show u=Value.ref a from rx);(obtain⟨_,_,vs,_,p⟩:=(show dO X.prog X.w H s.heap a (.dK kvs)from I.hok a _ ea));obtain⟨o,es,ep,h1,h2,_⟩:=p;exact mZ W.kitx_dict I.dX ⟨o,h1,h2.1⟩ e (λz=>nomatch z) h| @dT a kvs ea=>cases(show u=Value.ref a from rx);(obtain⟨_,_,xs,_,o,es,ep,h1,h2,_⟩:=(show dO X.prog X.w H s.heap a (.dT kvs)from I.hok a _ ea));exact mZ W.kitx_dict I.dX ⟨o,h1,h2.1⟩ e (λz=>nomatch z) h| @bv a C dx fs ea cl ha hn htk hm=>cases(show u=Value.ref a from rx);obtain⟨mA,O,_⟩:=AS I.hok ea;obtain⟨od,J,_⟩:=O.look;exact mZ (W.kitx_own (cl.get _) cl.hd ha hn htk hm) I.dX J e (λz=>nomatch z) h
end
structure fA(k:Nat)(A:Around):Prop where
 hd:A.handled=none
 dp:A.depth+3*k+5<recursionLimit
 un:A.units+16*k+200<cLine
def fA.mono{j k:Nat}{A:ao}(r:fA k A)(h:j<=k):fA j A:=⟨r.hd,by have:=r.dp;omega,by have:=r.un;omega⟩
def fA.deeper{k:Nat}{A:ao}(r:fA (k+1) A)(env:Env):fA k (A.deeper env):=
 ⟨r.hd,by have:=r.dp;show A.depth+1+3*k+5<_;omega,by have:=r.un;show A.units+3+16*k+200<_;omega⟩
def YY{A:ao}{us:aq aa}{kw:aq (aA×aa)}:(A.under (.builtin "type.__call__" ⟨.ref C::us,kw⟩)).depth=A.depth+1:=by first|rfl|simp[Around.under,Code.weight,Code.isCreation,Code.isGuard,Code.isCaller,Code.frames,Code.isFrame,guardIds]
def YZ{A:ao}{us:aq aa}{kw:aq (aA×aa)}:(A.under (.builtin "type.__call__" ⟨.ref C::us,kw⟩)).units=A.units+1:=by first|rfl|simp[Around.under,Code.cUnits,Code.frames,Code.isFrame]
def fA.make{k:Nat}{A:ao}(r:fA (k+1) A)(C:ae)(us:aq aa)(kw:aq (aA×aa)):fA k (A.under (.builtin "type.__call__" ⟨.ref C::us,kw⟩)):=
 ⟨r.hd,by have:=r.dp;rw[YY];omega,by have:=r.un;rw[YZ];omega⟩
def fA.depth{k:Nat}{A:ao}(r:fA k A):A.depth<recursionLimit:=by have:=r.dp;omega
def fA.a4Y{k:Nat}{A:ao}(r:fA k A):A.units<cLine:=by have:=r.un;omega
def fH:TA:=λ_ H Q=>Q [] H
def v9(ta:TE)(tr:TA):TA:=λσ H Q=>ta σ H λx H1=>tr σ H1 λxs H2=>Q (x::xs) H2
section
variable{X:Cx}{e:Expr}{es:aq Expr}{te:TE}{t:TA}{pos:Pos}
def aO:PA X [] fH:=λ_ _ _ _ H Q I h=>Calls.spliced_nil ⟨[],H,I,.nil,h⟩
def aD(ha:PE X e te)(hr:PA X es t)(hs:starEach (e::es) X.env=(false,eval e X.env)::starEach es X.env:=by rfl):PA X (e::es) (v9 te t):=by intro pos aB s σ H Q I h;rw[hs];show wpAny _ _ (spliced ((false,eval e X.env)::backTo pos (starEach es X.env))) _ _ s;refine Calls.spliced_cons (aW (ha aB s σ H _ I h) λu s1 ⟨x,H1,I1,r1,q1⟩=> ?_);exact aW (hr pos aB s1 σ H1 _ I1 q1) λus s2 ⟨xs,H2,I2,r2,q2⟩=>⟨x::xs,H2,I2,.cons r1 r2,q2⟩
def a4y(t:TA):TE:=λσ H Q=>t σ H λxs H1=>xs.length<=sizeLine/\ ∀p,H1 p=none->Q (.ref p) (upd H1 p (.aC xs))
def a4m(t:TA):TE:=λσ H Q=>t σ H λxs H1=>xs.length<=sizeLine/\ ∀p,H1 p=none->Q (.ref p) (upd H1 p (.aK xs))
def cz{x1}(h:PA X es t):PE X (.Tuple es x1 pos) (a4y t):=by intro aB s σ H Q I hq;refine wpAny_Tuple_spliced (aW (h pos aB s σ H _ I hq) λus s1 ⟨xs,H1,I1,r,z,q⟩=>⟨by rw[<-r.length];exact z,?_⟩);have hf:H1 s1.heap.objs.size=none:=I1.hok.fresh (aV _);exists .ref s1.heap.objs.size,upd H1 s1.heap.objs.size (.aC xs),I1.laid (t':=s1.toks) (λb u e=>bS _ e) (aV _) ?_,rfl,q _ hf;exists z,us,r,⟨_,cS _ rfl,rfl,_,rfl⟩
def fO(h:PA X es t):PE X (.List es pos) (a4m t):=by intro aB s σ H Q I hq;refine wpAny_List_spliced (aW (h pos aB s σ H _ I hq) λus s1 ⟨xs,H1,I1,r,z,q⟩=>⟨by rw[<-r.length];exact z,?_⟩);have hf:H1 s1.heap.objs.size=none:=I1.hok.fresh (aV _);exists .ref s1.heap.objs.size,upd H1 s1.heap.objs.size (.aK xs),I1.laid (t':=s1.toks) (λb u e=>bS _ e) (aV _) ?_,rfl,q _ hf;exists z,us,0,r,cS _ rfl
end
abbrev Sp:=List V->Hp->VK->XK->Prop
abbrev iQ:=List Env->Hp->Shared->XK->Value->Shared->Prop
structure re(P:Program)(w:World)(K:W.Frag)(mg:Str->Option Value)(base:Heap)(A:Around)(outer:List Env)(s:Shared)(H:Hp):Prop where
 frames:A.frames=some outer
 mod:Mod K mg base
 bs: ∀b o,base.get? b=some o->s.heap.get? b=some o/\H b=none
 oz:base.objs.size<=s.heap.objs.size
 kX:s.heap.FunFrames base outer
 sw: ∀b∈jQ outer,H b=none
 hok:dh P w H s.heap
 fC:AllBare s.gens
inductive CE(outer:List Env)(P:Program)(w:World)(H:Hp)(s:Shared)(Q:VK)(u:Value)(s':Shared):Prop
 |mk (v H':_) (_:s'.os=s.os) (_:AllBare s'.gens) (_:Un (jQ outer) [] H H' s.heap s'.heap) (_:dh P w H' s'.heap) (_:bm v u) (_:Q v H')
def CR(CX:iQ)(outer:List Env)(P:Program)(w:World)(H:Hp)(s:Shared)(Q:VK)(E:XK)(r:Result)(s':Shared):Prop:=
 match r with
 | .ok (.ret u)=>CE outer P w H s Q u s'
 | .ok _=>False
 | .error e=>CX outer H s E e s'
structure bw(P:Program)(w:World)(K:W.Frag)(mg:Str->Option Value)(base:Heap)(CX:iQ)(k:Nat)(f:Addr)(fd:FuncData)(ps:List Str)(sp:Sp):Prop where
 len: ∀vs H Q E,sp vs H Q E->vs.length=ps.length
 run: ∀ (A:Around) (outer:List Env) (s:Shared) (H:Hp) (args:Args) (us:List Value) (vs:List V) (Q:VK) (E:XK),fA k A->re P w K mg base A outer s H->BindsTo s fd args (ps.zip us)->bg vs us->sp vs H Q E->
  codeAny (model P w) A (.call (.ref f) args) (CR CX outer P w H s Q E) s
def bw.mono{P:af}{w:ag}{K:W.Frag}{mg:aA->ap aa}{base:ak}{CX:iQ}{j k:Nat}{f:ae}{fd:ah}{ps:aq aA}{sp:Sp}(F:bw P w K mg base CX j f fd ps sp)(h:j<=k):bw P w K mg base CX k f fd ps sp:=⟨F.len,λA outer s H args us vs Q E hr=>F.run A outer s H args us vs Q E (hr.mono h)⟩
def re.make{P:af}{w:ag}{K:W.Frag}{mg:aA->ap aa}{base:ak}{A:ao}{outer:aq Env}{s:ac}{H:Hp}(e:re P w K mg base A outer s H)(C:ae)(us:aq aa)(kw:aq (aA×aa)):re P w K mg base (A.under (.builtin "type.__call__" ⟨.ref C::us,kw⟩)) outer s H:=⟨by first|exact e.frames|(simpa [Around.under,Code.envs,Code.isFrame,pushEnvs]using e.frames),e.mod,e.bs,e.oz,e.kX,e.sw,e.hok,e.fC⟩
section
variable{X:Cx}{aB:aq (ae×Obj)}{σ:St}{H:Hp}{s s':ac}
def aG.D0(I:aG X aB σ H s):re X.prog X.w X.K X.mg X.base X.A X.stack s H:=
 ⟨I.ok.frames,I.ok.mod,I.bs,dS I.ok.oz I.sz,I.stack,I.Qd,I.hok,I.fC⟩
def aG.after{Q:VK}{u:aa}(I:aG X aB σ H s)(h:CE X.stack X.prog X.w H s Q u s'):EP X aB σ Q u s':=by obtain⟨v,H',os,fC,un,hok,r,q⟩:=h;obtain⟨hh,g,d,t,os'⟩:=s';obtain rfl:os'=s.os:=os;exists v,H',I.call (h':=hh) (g':=g) (d':=d) (t':=t) (ch:= []) un hok fC (λb z=>absurd z (by simp)),r,q
end
def Qw(sp:Sp)(gB:List V)(E:XK)(t:TA):TE:=λσ H Q=>t σ H λvs H1=>sp (vs++gB) H1 Q E
inductive a2o(C:Addr)(m:Str)(T:V->Hp->Prop)(x:V)(H1:Hp):Prop
 |mk (a dx fs:_) (_:x= .ref a) (_:H1 a=some (.bv C dx fs)) (_:fs.lookup m=none) (_:T x H1)
def IC(C:Addr)(m:Str)(sp:Sp)(gB:List V)(E:XK)(ta:TE)(t:TA):TE:=λσ H Q=>ta σ H (a2o C m λx H1=>t σ H1 λvs H2=>sp (x::(vs++gB)) H2 Q E)
def a4n(C:Addr)(sp:Sp)(gB:List V)(E:XK)(t:TA):TE:=λσ H Q=>t σ H λvs H1=> ∀x dx,H1 x=none->H1 dx=none->dx≠x->
 sp (.ref x::(vs++gB)) (upd (upd H1 dx (.bR x)) x (.bv C dx [])) (λv H2=>v= .aN/\Q (.ref x) H2) E
def gQ(K:W.Frag)(fd:FuncData)(ps:List Str)(ds:List Value):Prop:=
 ∀ (s:Shared) (us:List Value),K.In s.heap->(us++ds).length=ps.length->BindsTo s fd ⟨us,[]⟩ (ps.zip (us++ds))
def gQ.all{K:W.Frag}{fd:ah}{ps:aq aA}(h: ∀us:aq aa,us.length=ps.length->bindArgs fd ⟨us,[]⟩=pure (ps.zip us)):gQ K fd ps []:=λs us _ hl=>by rw[kO]at hl⊢;exact .of_eq (h us hl)
def mX(CX:iQ)(X:Cx)(E:XK):Prop:= ∀ (aB:List (Addr×Obj)) (σ:St) (H:Hp) (s:Shared) (e:Value) (s':Shared),aG X aB σ H s->CX X.stack H s E e s'->X.xe e s'
section
variable{X:Cx}{CX:iQ}{k:Nat}{f C:ae}{fd:ah}{ps:aq aA}{sp:Sp}{gB:aq V}{ds:aq aa}{E:XK}{x m:aA}{p pos dP:Pos}{e o:Expr}{es:aq Expr}{ta:TE}{t:TA}
def BS{σ:St}{Q:VK}(F:bw X.prog X.w X.K X.mg X.base CX k f fd ps sp)(hr:fA k X.A)(hb:gQ X.K fd ps ds)(hd:bg gB ds)(hx:mX CX X E)(I:aG X aB σ H s)(r:bg vs us)(h:sp (vs++gB) H Q E):wpAny (model X.prog X.w) X.A (call (.ref f) us) (EP X aB σ Q) X.xe s:=by have r2:bg (vs++gB) (us++ds):=r.append hd;(have hl:(us++ds).length=ps.length:=by rw[<-r2.length];exact F.len _ _ _ _ h);refine wpAny_call (rW (F.run X.A X.stack s H ⟨us,[]⟩ (us++ds) (vs++gB) Q E hr I.D0 (hb s us I.dX hl) r2 h) λr s' hq=> ?_);cases r with|error e=>exact hx aB σ H s e s' I hq|ok fl=>cases fl with|ret u=>exact I.after hq|next=>exact False.elim hq|brk=>exact False.elim hq|cont=>exact False.elim hq
def a1w(F:bw X.prog X.w X.K X.mg X.base CX k f fd ps sp)(hr:fA k X.A)(hg:Gl X x)(hm:X.mg x=some (.ref f))(hk:W.keepIn X.K (.ref f)=true)(hb:gQ X.K fd ps ds)(hd:bg gB ds)(hx:mX CX X E)(ha:PA X (e::es) t)(ku:(x==("__debug__":aA))=false:=by decide)(he:starEach (e::es) X.env=(false,eval e X.env)::starEach es X.env:=by rfl)(gy:(backTo pos (starEach es X.env)).any (·.1)=false:=by rfl):PE X (.Call (.Name x p) (e::es) [] pos) (Qw sp gB E t):=by intro aB s σ H Q I h;refine y9 (Be I hg hm ?_ ku);refine W.callWith_K (h₀:=X.base) I.ok.mod.sV hk (aW (ha pos aB s σ H _ I h) λus s1 ⟨vs,H1,I1,r,q⟩=>⟨I1.dX,?_⟩) he gy;exact BS F hr hb hd hx I1 r q
def iK(he:PE X o ta)(c:jC X.K C)(hm:ux X.K C m f)(F:bw X.prog X.w X.K X.mg X.base CX k f fd ps sp)(hr:fA k X.A)(hb:gQ X.K fd ps ds)(hd:bg gB ds)(hx:mX CX X E)(ha:PA X (e::es) t)
  (jp:starEach (e::es) X.env=(false,eval e X.env)::starEach es X.env:=by rfl)(gy:(backTo pos (starEach es X.env)).any (·.1)=false:=by rfl)
  (ht:eval (.Call (.Attribute o m dP) (e::es) [] pos) X.env=(do
   let ov<-eval o X.env
   standAt dP.atName
   let(f,first) <-holding [ov] (getMethod ov m pl)
   callWith pos f first (backTo pos (starEach (e::es) X.env)) (backToKw pos (keywordEach [] X.env))):=by rfl):
  PE X (.Call (.Attribute o m dP) (e::es) [] pos) (IC C m sp gB E ta t):=by
 intro aB s σ H Q I h
 refine W.methodCall_KW (pl:=pl) (aW (he aB s σ H _ I h) λu s1 ⟨x,H1,I1,rx,a,dx,fs,ex,ea,l,q⟩=> ?_) ht
 subst ex
 obtain rfl:u=Value.ref a:=rx
 refine La I1 ea c hm l ?_
 refine W.callWith_K (first:= [.ref a]) (h₀:=X.base) I.ok.mod.sV hm.kp (aW (ha pos aB s1 σ H1 _ I1 q) λus s2 ⟨vs,H2,I2,r,q2⟩=>⟨I2.dX,?_⟩) jp gy
 exact BS (us:= .ref a::us) (vs:= .ref a::vs) F hr hb hd hx I2 (.cons rfl r) q2
def gg(he:PE X o ta)(c:jC X.K C)(hm:ux X.K C m f)(F:bw X.prog X.w X.K X.mg X.base CX k f fd ps sp)(hr:fA k X.A)(hb:gQ X.K fd ps ds)(hd:bg gB ds)(hx:mX CX X E)
  (ht:eval (.Call (.Attribute o m dP) [] [] pos) X.env=(do
   let ov<-eval o X.env
   standAt dP.atName
   let(f,first) <-holding [ov] (getMethod ov m pl)
   callWith pos f first (backTo pos (starEach [] X.env)) (backToKw pos (keywordEach [] X.env))):=by rfl):
  PE X (.Call (.Attribute o m dP) [] [] pos) (IC C m sp gB E ta fH):=by
 intro aB s σ H Q I h
 refine W.methodCall_KW (pl:=pl) (aW (he aB s σ H _ I h) λu s1 ⟨x,H1,I1,rx,a,dx,fs,ex,ea,l,q⟩=> ?_) ht
 subst ex
 obtain rfl:u=Value.ref a:=rx
 refine La I1 ea c hm l ?_
 exact W.callWith_K0 (first:= [.ref a]) I1.dX hm.kp (BS (us:= [.ref a]) (vs:= [.ref a]) F hr hb hd hx I1 (.cons rfl .nil) q)
structure Mk(K:W.Frag)(C f:Addr):Prop where
 makes:W.makesIn K C=true
 init:W.findIn K (.ref C) "__init__"=some (some (.ref f))
 fn:W.isFn K (.ref f)=true
 kp:W.keepIn K (.ref C)=true
def a2U{σ:St}{Q:VK}(M:Mk X.K C f)(F:bw X.prog X.w X.K X.mg X.base CX k f fd ps sp)(hr:fA (k+1) X.A)(hb:gQ X.K fd ps ds)(hd:bg gB ds)(hx:mX CX X E)(I:aG X aB σ H s)(r:bg vs us)(h: ∀x dx,H x=none->H dx=none->dx≠x->sp (.ref x::(vs++gB)) (upd (upd H dx (.bR x)) x (.bv C dx [])) (λv H2=>v= .aN/\Q (.ref x) H2) E):wpAny (model X.prog X.w) X.A (call (.ref C) us) (EP X aB σ Q) X.xe s:=by have hq:=h (s.heap.objs.size+1) s.heap.objs.size (I.hok.fresh (hW _)) (I.hok.fresh (aV _)) (cp (wG _));have I2:=aG.made (C:=C) I;have r2:bg (V.ref (s.heap.objs.size+1)::(vs++gB)) (Value.ref (s.heap.objs.size+1)::(us++ds)):= .cons rfl (r.append hd);(have hl:(Value.ref (s.heap.objs.size+1)::us++ds).length=ps.length:=(by have e:=r2.length;rw[F.len _ _ _ _ hq]at e;exact e.symm));refine wpAny_call (Nk (f:=f) I.dX M.makes M.init (beq_iff_eq.mp M.fn) (rW (F.run _ X.stack _ _ ⟨Value.ref (s.heap.objs.size+1)::us,[]⟩ (Value.ref (s.heap.objs.size+1)::(us++ds)) _ _ E (hr.make C us []) (I2.D0.make C us []) (hb _ (Value.ref (s.heap.objs.size+1)::us) I2.dX hl) r2 hq) λr s' eV=> ?_));cases r with|error e=>exact hx aB σ _ _ e s' I2 eV|ok fl=>cases fl with|ret u=>obtain⟨v,H',I3,rv,ev,q3⟩:=I2.after eV;subst ev;exact⟨rv,⟨V.ref (s.heap.objs.size+1),H',I3,rfl,q3⟩⟩|next=>exact False.elim eV|brk=>exact False.elim eV|cont=>exact False.elim eV
def a1A(M:Mk X.K C f)(F:bw X.prog X.w X.K X.mg X.base CX k f fd ps sp)(hr:fA (k+1) X.A)(hg:Gl X x)(hm:X.mg x=some (.ref C))(hb:gQ X.K fd ps ds)(hd:bg gB ds)(hx:mX CX X E)(ha:PA X (e::es) t)(ku:(x==("__debug__":aA))=false:=by decide)(he:starEach (e::es) X.env=(false,eval e X.env)::starEach es X.env:=by rfl)(gy:(backTo pos (starEach es X.env)).any (·.1)=false:=by rfl):PE X (.Call (.Name x p) (e::es) [] pos) (a4n C sp gB E t):=by intro aB s σ H Q I h;refine y9 (Be I hg hm ?_ ku);refine W.callWith_K (h₀:=X.base) I.ok.mod.sV M.kp (aW (ha pos aB s σ H _ I h) λus s1 ⟨vs,H1,I1,r,q⟩=>⟨I1.dX,?_⟩) he gy;exact a2U M F hr hb hd hx I1 r q
end
def PK(X:Cx)(kws:List Keyword)(t:TA):Prop:=
 ∀ (pos:Pos) (aB:List (Addr×Obj)) (s:Shared) (σ:St) (H:Hp) (Q:List V->Hp->Prop),aG X aB σ H s->t σ H Q->wpAny (model X.prog X.w) X.A (evalAll ((backToKw pos (keywordEach kws X.env)).map (·.2))) (AP X aB σ Q) X.xe s
section
variable{X:Cx}{CX:iQ}{k:Nat}{f C:ae}{fd:ah}{ps ks:aq aA}{sp:Sp}{E:XK}{x m:aA}{p pos dP X2:Pos}{e o:Expr}{es:aq Expr}{kws:aq Keyword}{te ta:TE}{t tk:TA}{nm:ap aA}
def a1O:PK X [] fH:=λ_ _ _ _ H Q I h=>wpAny_evalAll_nil ⟨[],H,I,.nil,h⟩
def a1N(ha:PE X e te)(hr:PK X kws t):PK X (⟨nm,e,X2⟩::kws) (v9 te t):=by intro pos aB s σ H Q I h;show wpAny _ _ (evalAll ((do let v<-eval e X.env;standAt pos;pure v)::(backToKw pos (keywordEach kws X.env)).map (·.2))) _ _ s;refine wpAny_evalAll_cons (aH (aW (ha aB s σ H _ I h) λu s1 ⟨x,H1,I1,r1,q1⟩=>aH (nZ (aX ?_))));exact aW (hr pos aB s1 σ H1 _ I1 q1) λus s2 ⟨xs,H2,I2,r2,q2⟩=>⟨x::xs,H2,I2,.cons r1 r2,q2⟩
structure zt(K:W.Frag)(fd:FuncData)(ps ks:List Str)(g:List Value->List Value->List Value)(gV:List V->List V->List V):Prop where
 to: ∀ (s:Shared) (us ws:List Value),K.In s.heap->(g us ws).length=ps.length->BindsTo s fd ⟨us,ks.zip ws⟩ (ps.zip (g us ws))
 rel: ∀ {vs:List V} {us:List Value} {zs:List V} {ws:List Value},bg vs us->bg zs ws->bg (gV vs zs) (g us ws)
variable{g:aq aa->aq aa->aq aa}{gV:aq V->aq V->aq V}
end
structure bP(N P:List Str)(sc:Scope):Prop where
 kind:sc.kind= .function
 co:sc.isCoroutine=false
 gen:sc.isGenerator=false
 nd:N.Nodup
 pre:N.take P.length=P
 par: ∀x∈P,sc.names.lookup x=some .local\/sc.names.lookup x=some .cell
 ZN: ∀y∈sc.names,y.2≠ .free
def fs{N P:aq aA}{sc:Scope}(a:sc.kind= .function:=by rfl)(b:sc.isCoroutine=false:=by rfl)(c:sc.isGenerator=false:=by rfl)(d:N.Nodup:=by decide+kernel)(e:N.take P.length=P:=by rfl)(f: ∀x∈P,sc.names.lookup x=some .local\/sc.names.lookup x=some .cell:=by decide+kernel)(g: ∀y∈sc.names,y.2≠ .free:=by decide+kernel):bP N P sc:=⟨a,b,c,d,e,f,g⟩
def JQ{kindOf:aA->ap NameKind}{x:aA}: ∀ {binds:aq (aA×aa)} {m:aA->ap aa},(∀v,(x,v) ∉binds)->bindL kindOf binds m x=m x
 | [],_,_=>rfl
 |(n,v)::r,m,h=>by unfold bindL;rw[JQ λw hw=>h w (fJ _ hw)];split;(have:x≠n:=by rintro rfl;exact h v fk);simp[this];rfl
def JO{kindOf:aA->ap NameKind}{x:aA}: ∀ {binds:aq (aA×aa)} {m:aA->ap aa},(∀v,(x,v) ∉binds)->bindC kindOf binds m x=m x
 | [],_,_=>rfl
 |(n,v)::r,m,h=>by unfold bindC;rw[JO λw hw=>h w (fJ _ hw)];split;rfl;(have:x≠n:=by rintro rfl;exact h v fk);simp[this]
def JP{kindOf:aA->ap NameKind}{x:aA}{v:aa}: ∀ {P:aq aA} {vs:aq aa} {i:Nat} {m:aA->ap aa},P.Nodup->P[i]? =some x->vs[i]? =some v->kindOf x=some .local->bindL kindOf (P.zip vs) m x=some v
 | [],_,_,_,_,h,_,_=>by simp at h
 |_::_,[],_,_,_,_,h,_=>by simp at h
 |p::P,w::vs,0,m,nd,h1,h2,hk=>by simp at h1 h2;subst h1;subst h2;show bindL kindOf ((p,w)::P.zip vs) m p=_;unfold bindL;rw[JQ λv hv=>(List.nodup_cons.mp nd).1 (List.of_mem_zip hv).1,aT hk];simp
 |p::P,w::vs,i+1,m,nd,h1,h2,hk=>by show bindL kindOf ((p,w)::P.zip vs) m x=_;unfold bindL;exact JP (i:=i) (List.nodup_cons.mp nd).2 (by simpa using h1) (by simpa using h2) hk
def JN{kindOf:aA->ap NameKind}{x:aA}{v:aa}: ∀ {P:aq aA} {vs:aq aa} {i:Nat} {m:aA->ap aa},P.Nodup->P[i]? =some x->vs[i]? =some v->kindOf x≠some .local->bindC kindOf (P.zip vs) m x=some v
 | [],_,_,_,_,h,_,_=>by simp at h
 |_::_,[],_,_,_,_,h,_=>by simp at h
 |p::P,w::vs,0,m,nd,h1,h2,hk=>by simp at h1 h2;subst h1;subst h2;show bindC kindOf ((p,w)::P.zip vs) m p=_;unfold bindC;rw[JO λv hv=>(List.nodup_cons.mp nd).1 (List.of_mem_zip hv).1,aU hk];simp
 |p::P,w::vs,i+1,m,nd,h1,h2,hk=>by show bindC kindOf ((p,w)::P.zip vs) m x=_;unfold bindC;exact JN (i:=i) (List.nodup_cons.mp nd).2 (by simpa using h1) (by simpa using h2) hk
def start(N:List Str)(vs:List V):St:=vs.map some++List.replicate (N.length-vs.length) none
def uO(CX:iQ)(P:Program)(w:World)(K:W.Frag)(mg:Str->Option Value)(base:Heap)(N:List Str)(fh:Str)(scope:Scope)(f:Addr)(cd:Value)(A:Around)(outer:List Env)(s:Shared)(H:Hp)(E:XK):Cx where
 prog:=P
 w:=w
 K:=K
 mg:=mg
 base:=base
 A:=A.deeper (envOfC fh scope s.heap.objs.size f cd)
 N:=N
 s₀:=s
 H₀:=H
 env:=envOfC fh scope s.heap.objs.size f cd
 outer:=outer
 stack:=envOfC fh scope s.heap.objs.size f cd::outer
 ex:= []
 gu:=true
 fn:=λ_=>true
 pn:= []
 xe:=λe s'=>wpAny (model P w) (A.deeper (envOfC fh scope s.heap.objs.size f cd)) (leaving (envOfC fh scope s.heap.objs.size f cd) e) (λ_ s''=>CX outer H s E e s'') (λe' s''=>CX outer H s E e' s'') s'
def JX{sc:Scope}{n:Nat}{x:aA}(h:sc.names.lookup x=some .cell): ∃c,(cellsFrom n sc.names []).lookup x=some c:=by have q:=W.cellsFrom_some sc.names n [] (.inl h);exact Option.isSome_iff_exists.mp q
def Xp{CX:iQ}{K:W.Frag}{mg:aA->ap aa}{f:ae}{A:ao}{E:XK}{vs:aq V}(S:bP N ps scope)(hd:A.handled=none)(e0:re P w K mg base A outer s H)(hl:vs.length=ps.length)(r:bg vs us)(x:InCallC s s.heap.objs.size (bindL (envOfC fh scope s.heap.objs.size f cd).kindOf (ps.zip us) λ_=>none) (cellsFrom (s.heap.objs.size+1) scope.names []) (bindC (envOfC fh scope s.heap.objs.size f cd).kindOf (ps.zip us) λ_=>none) s1):aG (uO CX P w K mg base N fh scope f cd A outer s H E) [] (start N vs) H s1:=by(have gy:ps.length<=N.length:=by have:=kS List.length S.pre;rw[kf]at this;omega);obtain⟨h1,tk,rfl,hk⟩:=x.done;have xZ: ∀b:ae,b∉ (uO CX P w K mg base N fh scope f cd A outer s H E).ex:=λb z=>absurd (show b∈([]:aq ae)from z) (by simp);exists⟨e0.mod,S.kind,rfl,rfl,aV _,λy z c h1 h2=> ?_,λy hy=> ?_,λy c _ h=> ?_,λ_=>hd,Around.frames_deeper e0.frames,.inr ⟨rfl,rfl⟩,λb z=>absurd z (xZ b),e0.bs,e0.oz,λb _ _=>xZ b,λb z=>absurd z (xZ b),e0.kX,e0.sw⟩,rfl,e0.fC,Un.kept hk,⟨_,x.toInCall.ns,λi y v h1 h2 h3=> ?_⟩,λy c h=>⟨_,x.cell y c h⟩,e0.hok.fresh (aV _),λy c h=> ?_,λp hp=>absurd (show p∈([]:aq (ae×Obj))from hp) (by simp),e0.hok.kept hk,?_;exact name_of_addr x.apart (zP h1) (zP h2);have hy:scope.names.lookup y=some .cell\/scope.names.lookup y=some .free:=hy;rcases hy with hy|hy;exact JX hy;exact absurd rfl (S.ZN _ (zP hy));exact rH (x.above y c (zP h));(have hi:i<vs.length:=(by unfold start at h2;by_cases hi:i<vs.length;exact hi;rw[ut (by simpa using hi)]at h2;rw[Dd]at h2;split at h2<;>cases h2));(have ha:vs[i]? =some v:=(by unfold start at h2;rw[ww (by simpa using hi),cB]at h2;cases e:vs[i]? with|none=>rw[e]at h2;cases h2|some a=>rw[e]at h2;cases h2;rfl));obtain⟨u,hu,rv⟩:=r.get ha;(have hp:ps[i]? =some y:=(by rw[<-S.pre,List.getElem?_take_of_lt (by omega)];exact h1));(have NE:ps.Nodup:=by rw[<-S.pre];exact S.nd.sublist (List.take_sublist _ _));exists u,rv,?_;rcases S.par y (dR hp)with k|k;exact .inl ⟨k,JP NE hp hu k⟩;obtain⟨c,e⟩:=JX (n:=s.heap.objs.size+1) k;refine .inr ⟨.inl k,c,e,?_⟩;have q:=x.cell y c e;rw[JN NE hp hu (by show scope.names.lookup y≠_;rw[k];decide)]at q;exact q;exact e0.hok.fresh (rH (x.above y c (zP h)));unfold start;show _=N.length;rw[gn,bq,ke];omega
def TY{CX:iQ}{K:W.Frag}{mg:aA->ap aa}{k:Nat}{f:ae}{kV oc:aa}{od:ap ae}{jZ:au (ap aa)}{sp:Sp}(lk:K.lookup f=some ⟨oc,od,.func (W.fnOf name fh params body scope dV kV doc pm an bd ct),jZ⟩)(hcd:W.codeIn K bd fh=true)(S:bP N ps scope)(len: ∀vs H Q E,sp vs H Q E->vs.length=ps.length)(hbody: ∀ (A:ao) (outer:aq Env) (s:ac) (H:Hp) (vs:aq V) (Q:VK) (E:XK),fA k (A.deeper (envOfC fh scope s.heap.objs.size f bd))->sp vs H Q E-> ∃t,jI (uO CX P w K mg base N fh scope f bd A outer s H E) body t/\t {nx:=λ_ H'=>Q .aN H',rt:=Q} (start N vs) H):bw P w K mg base CX (k+1) f (W.fnOf name fh params body scope dV kV doc pm an bd ct) ps sp:=by exists len,λA outer s H args us vs Q E hr e0 hb r qr=> ?_;have hl:=len _ _ _ _ qr;have KX:K.In s.heap:=e0.mod.sV.keeps λb o e=>(e0.bs b o e).1;have lim:s.heap.NoLimit:=e0.mod.nolimit.keeps λb o e=>(e0.bs b o e).1;(have hkind: ∀y∈ps.zip us,scope.names.lookup y.1=some .local\/(scope.names.lookup y.1=some .cell/\((cellsFrom (s.heap.objs.size+1) scope.names []).lookup y.1).isSome=true):=λ⟨n,v⟩ hy=>(by rcases S.par n (List.of_mem_zip hy).1 with q|q;exact .inl q;exact .inr ⟨q,W.cellsFrom_some _ _ _ (.inl q)⟩));refine codeAny_call_function hr.depth (KX _ _ lk) rfl S.co S.gen rfl (W.codeRec_of KX hcd) (hb _ _ _ _ ?_);refine wpAny_newFunctionEnv_cells S.kind hkind λenv he s1 x=> ?_;subst he;exists lim.keeps x.toInCall.keep,codeAny_func ?_;obtain⟨t,ht,hq⟩:=hbody A outer s H vs Q E (hr.deeper _) qr;have I:aG (uO CX P w K mg base N fh scope f bd A outer s H E) [] (start N vs) H s1:=Xp S hr.hd e0 hl r x;refine dJ (ht [] s1 (start N vs) H _ I hq) (λfl s' hs=> ?_) λe s' hs=>hs;(have fin: ∀ {σ':St} {H':Hp} {v:V} {u:aa},aG (uO CX P w K mg base N fh scope f bd A outer s H E) [] σ' H' s'->bm v u->Q v H'->CE outer P w H s Q u s':=λ{σ' H' v u} J rv q=>⟨v,H',J.os,J.fC,J.base,J.hok,rv,q⟩);cases fl with|ret u=>obtain⟨v,σ',H',J,rv,q⟩:=hs;exact fin J rv q|next=>obtain⟨σ',H',J,q⟩:=hs;exact fin (v:=V.aN) (u:=Value.none) J rfl q|brk=>obtain⟨_,_,_,q⟩:=hs;exact False.elim q|cont=>obtain⟨_,_,_,q⟩:=hs;exact False.elim q
section
variable{X:Cx}{x:aA}{p pos:Pos}{e:Expr}{es:aq Expr}{t:TA}{id T:String}{r:aq V->Hp->VK->Prop}
def Qv(r:List V->Hp->VK->Prop)(t:TA):TE:=λσ H Q=>t σ H λvs H1=>r vs H1 Q
def dw(hc:gS X (.builtin id) r)(hg:Gl X x)(hm:X.mg x=none)(hv:bootBuiltins x=some (.builtin id))(ha:PA X (e::es) t)(hn:x≠ "__name__":=by decide)(ku:(x==("__debug__":aA))=false:=by decide)(he:starEach (e::es) X.env=(false,eval e X.env)::starEach es X.env:=by rfl)(gy:(backTo pos (starEach es X.env)).any (·.1)=false:=by rfl):PE X (.Call (.Name x p) (e::es) [] pos) (Qv r t):=by intro aB s σ H Q I h;refine y9 (sW I hg hm hv ?_ hn ku);exact PyProof.Rows.callWith_builtin1 (aW (ha pos aB s σ H _ I h) λus s1 ⟨vs,H1,I1,r1,q1⟩=>hc aB s1 σ H1 vs us Q I1 r1 q1) he gy
def ju(hc:gS X (.type T) r)(hg:Gl X x)(hm:X.mg x=none)(hv:bootBuiltins x=some (.type T))(ha:PA X (e::es) t)(hn:x≠ "__name__":=by decide)(ku:(x==("__debug__":aA))=false:=by decide)(he:starEach (e::es) X.env=(false,eval e X.env)::starEach es X.env:=by rfl)(gy:(backTo pos (starEach es X.env)).any (·.1)=false:=by rfl):PE X (.Call (.Name x p) (e::es) [] pos) (Qv r t):=by intro aB s σ H Q I h;refine y9 (sW I hg hm hv ?_ hn ku);exact zN (aW (ha pos aB s σ H _ I h) λus s1 ⟨vs,H1,I1,r1,q1⟩=>hc aB s1 σ H1 vs us Q I1 r1 q1) he gy
end
end L2
namespace HT
open PySem PyProof.Rows
section
open PySem.SeqAt
open PySem.AutoSeq1 (wpAny_loadPart')
open PySem.MeetsSeq PySem.MeetsSeq2 PySem.MeetsSeq3
end
section
variable{prog:af}{w:ag}{A:ao}{E:aa->ac->Prop}{s:ac}
def RM{t b:ae}{vs ws:aq aa}{Q:aa->ac->Prop}(ht:IsTup s.heap t vs.toArray)(hb:IsTup s.heap b ws.toArray)(hv:vs≠ [])(h1:ws= []->Q (.ref t) s)(h2:ws≠ []->Q (.ref s.heap.objs.size) {s with heap:=s.heap.push {cls:= .type "tuple",data:= .seq (vs++ws).toArray}})(hsz:vs.length+ws.length<=sizeLine):wpAny (model prog w) A (binaryOp .Add (.ref t) (.ref b)) Q E s:=by obtain⟨⟨cls,dd,data,sl⟩,ho,hc,n,hd⟩:=id ht;obtain⟨⟨a5e,dd2,data2,sl2⟩,sM,Ls,n2,Ew⟩:=id hb;simp only at hc hd Ls Ew;subst hc hd Ls Ew;(have e:vs.toArray++ws.toArray=(vs++ws).toArray:=by simp);(by_cases hw:ws= []);exact concat_meets ⟨_,ho,rfl⟩ ⟨_,sM,rfl⟩ noFill_tuple_add seq_tuple_add PySem.F.slot_tuple_add PySem.F.entry_tuple_add (PySem.F.args_tuple_add_2 _ _) (tuple_addW1 t b vs.toArray ws.toArray n n2 dd dd2 sl sl2 (by simpa using hv) (by simp[hw])) ⟨ho,sM,h1 hw⟩;refine concat_meets ⟨_,ho,rfl⟩ ⟨_,sM,rfl⟩ noFill_tuple_add seq_tuple_add PySem.F.slot_tuple_add PySem.F.entry_tuple_add (PySem.F.args_tuple_add_2 _ _) (tuple_addW2 t b vs.toArray ws.toArray n n2 dd dd2 sl sl2 (by simpa using hv) (by simpa using hw) (by rw[cE,cE];exact hsz)) ⟨ho,sM,?_⟩;rw[e];exact h2 hw
/---/def bN(n d:Nat):Option Int->Nat
 |none=>d
 |some v=>if v<0 then(v+(n:Int)).toNat else min v.toNat n
def O7(n d:Nat):bN n d none=d:=rfl
def B6(n d k:Nat):bN n d (some (k:Int))=min k n:=by show(if(k:Int)<0 then((k:Int)+(n:Int)).toNat else min (k:Int).toNat n)=min k n;rw[aU (by omega),zr]
def a21(n d:Nat)(hd:d<=n)(o:ap Int):bN n d o<=n:=by cases o with|none=>exact hd|some v=>show(if v<0 then(v+(n:Int)).toNat else min v.toNat n)<=n;by_cases hv:v<0;rw[aT hv];omega;rw[aU hv];exact Nat.min_le_right _ _
def J4(v:Int)(n d:Nat):(if v<0 then max (v+(n:Int)) 0 else min v (n:Int))=((bN n d (some v):Nat):Int):=by(show(if v<0 then max (v+(n:Int)) 0 else min v (n:Int))=(((if v<0 then(v+(n:Int)).toNat else min v.toNat n):Nat):Int));by_cases hv:v<0;simp only[aT hv];omega;simp only[aU hv];omega
def Rg(lo hi:ap Int)(n:Nat):Builtin.Slice.sliceAdjust lo hi 1 (n:Int)=(((bN n 0 lo:Nat):Int),((bN n n hi:Nat):Int)):=by(have h1: ¬((1:Int)<0):=by omega);unfold Builtin.Slice.sliceAdjust;simp only[h1,fN];refine Prod.ext ?_ ?_;(cases lo with|none=>rfl|some v=>exact J4 v n 0);cases hi with|none=>rfl|some v=>exact J4 v n n
def a1P(i j:Nat):Builtin.Slice.slicePlaces (i:Int) (j:Int) 1=j-i:=by unfold Builtin.Slice.slicePlaces;(have h1:(1:Int) >0:=by omega);simp only[h1,gc,Int.ediv_one];split<;>omega
def Pu{v:aa}{o:ap Int}{Q:ap Int->ac->Prop}(p:IsPart v o)(h:Q o s):wpAny (model prog w) A (Builtin.Slice.slicePartIndex v) Q E s:=by cases p with|none=>exact slicePart_none h|int i t=>exact slicePart_int h
def Ps{sl:ae}{vl vu:aa}{lo hi:ap Int}{n:Nat}{Q:Int×Int×Nat->ac->Prop}(hs:s.heap.IsSliceOf sl vl vu .none)(pl:IsPart vl lo)(pu:IsPart vu hi)(h:Q (((bN n 0 lo:Nat):Int),1,bN n n hi-bN n 0 lo) s):wpAny (model prog w) A (Builtin.Slice.sliceApplied (.ref sl) (pure (n:Int))) Q E s:=by obtain⟨os,oR,uV,jS⟩:=id hs;unfold Builtin.Slice.sliceApplied Builtin.Slice.sliceFields;refine aH (aH (ka oR jS (x:=vl) rfl (aH (ka oR jS (x:=vu) rfl (aH (ka oR jS (x:= .none) rfl (aX ?_)))))));refine aH (slicePart_none ?_);show wpAny _ _ (if((1:Int)==0)=true then _ else _) _ _ s;rw[aU (by decide)];refine aH (Pu pl (aH (Pu pu (aH (aX ?_)))));show wpAny _ _ (match Builtin.Slice.sliceAdjust lo hi 1 (n:Int)with|(lo,hi)=>pure (lo,(1:Int),Builtin.Slice.slicePlaces lo hi 1)) _ _ s;rw[Rg lo hi n];show wpAny _ _ (pure (((bN n 0 lo:Nat):Int),(1:Int),Builtin.Slice.slicePlaces ((bN n 0 lo:Nat):Int) ((bN n n hi:Nat):Int) 1)) _ _ s;rw[a1P];exact aX h
def a1M(xs:au aa)(i k:Nat):((List.range k).filterMap λ(m:Nat)=>xs[((i:Int)+(m:Int)*1).toNat]?).toArray=((xs.toList.drop i).take k).toArray:=by(have e:(λ(m:Nat)=>xs[((i:Int)+(m:Int)*1).toNat]?)=λm=>xs[i+m]? :=(by(funext m);(have:((i:Int)+(m:Int)*1).toNat=i+m:=by omega);rw[this]));rw[e];have:=pick_run xs i k;rw[List.filterMap_map]at this;have e2:((λx=>xs[x]?) ∘λx=>i+x)=λm=>xs[i+m]? :=rfl;rw[e2]at this;rw[this]
def Um{t sl:ae}{vl vu:aa}{lo hi:ap Int}{Q:aa->ac->Prop}(ht:IsTup s.heap t bc)(hs:s.heap.IsSliceOf sl vl vu .none)(pl:IsPart vl lo)(pu:IsPart vu hi)(hw: ¬(bN bc.size 0 lo=0/\bN bc.size bc.size hi=bc.size))(h:Q (.ref s.heap.objs.size) {s with heap:=s.heap.push {cls:= .type "tuple",data:= .seq ((bc.toList.drop (bN bc.size 0 lo)).take (bN bc.size bc.size hi-bN bc.size 0 lo)).toArray}})(hsz:bc.size<=sizeLine):wpAny (model prog w) A (getItem (.ref t) (.ref sl)) Q E s:=by
 (have AN:sizeOk (.seq ((bc.toList.drop (bN bc.size 0 lo)).take (bN bc.size bc.size hi-bN bc.size 0 lo)).toArray):=(by show((bc.toList.drop (bN bc.size 0 lo)).take (bN bc.size bc.size hi-bN bc.size 0 lo)).toArray.size<=sizeLine;rw[cE,kf,zB,kd];omega));have hj:bN bc.size bc.size hi<=bc.size:=a21 _ _ (aV _) hi;obtain⟨os,oR,uV,jS⟩:=id hs;(have Ar:s.TypeIs (.ref sl) "slice":=⟨os,oR,uV⟩);unfold getItem;(try with_reducible refine iP ?_);(first|refine aH (aX ?_)|skip);refine aH (wpAny_sequenceKey ht.typeIs (by decide) ?_);refine aH (pN (name:=Str.ofString "__getitem__") ht.typeIs Dj (jB Dj ht.typeIs entry_tuple_getitem ?_ (args_tuple_getitem _ _)));show wpAny _ _ (Builtin.Tuple.tupleItemsOf (.ref t) >>=_) _ _ s;refine aH (tupleItemsOf_ ht ?_);refine aH (wpAny_typeOf Ar ?_);rw[aT (by decide)];refine aH (Ps hs pl pu ?_);(have EX: ¬((((bN bc.size 0 lo:Nat):Int)==0&& (1:Int)==1&& (bN bc.size bc.size hi-bN bc.size 0 lo)==bc.size)=true):=(by intro q;rw[gR,gR]at q;have q1:((bN bc.size 0 lo:Nat):Int)=0:=eq_of_beq q.1.1;have q2:bN bc.size bc.size hi-bN bc.size 0 lo=bc.size:=eq_of_beq q.2;exact hw ⟨by omega,by omega⟩));show wpAny _ _ (if(((bN bc.size 0 lo:Nat):Int)==0&& (1:Int)==1&& (bN bc.size bc.size hi-bN bc.size 0 lo)==bc.size)=true then _ else _) _ _ s;rw[aU EX,a1M];first
  |exact aH (m:=Builtin.Tuple.tupleExact _) (jd (aX ⟨_,rfl,aX h⟩) AN)
  |exact aH (m:=Builtin.Tuple.tupleExact _) (jd (aH (aX (aX ⟨_,rfl,aX h⟩))) AN)
  |exact aH (aH (m:=Builtin.Tuple.tupleExact _) (jd (aX (aX ⟨_,rfl,aX h⟩)) AN))
  |exact aH (aH (m:=Builtin.Tuple.tupleExact _) (jd (aX ⟨_,rfl,aX h⟩) AN))
end
end HT
namespace L2
open PySem PySem.Spec PyProof.Rows
abbrev TO:=St->Hp->(Option Int->Hp->Prop)->Prop
def PO(X:Cx)(e:Option Expr)(t:TO):Prop:=
 ∀ (aB:List (Addr×Obj)) (s:Shared) (σ:St) (H:Hp) (Q:Option Int->Hp->Prop),aG X aB σ H s->t σ H Q->
  wpAny (model X.prog X.w) X.A (evalPart e X.env) (λu s'=> ∃o H',aG X aB σ H' s'/\IsPart u o/\Q o H') X.xe s
def a4q:TO:=λ_ H Q=>Q none H
def a4v(t:TE):TO:=λσ H Q=>t σ H λx H1=> ∃i,x= .int i/\Q (some i) H1
section
variable{X:Cx}{e:Expr}{te:TE}{lo hi:ap Expr}{tl th:TO}{pos p2:Pos}
def tK:PO X none a4q:=by intro aB s σ H Q I h;rw[evalPart_none];exact aX ⟨none,H,I,.none,h⟩
def tL(h:PE X e te):PO X (some e) (a4v te):=by intro aB s σ H Q I hw;rw[evalPart_some];refine aW (h aB s σ H _ I hw) λu s1 ⟨x,H1,I1,r1,q1⟩=> ?_;obtain⟨i,rfl,q⟩:=q1;obtain⟨t,rfl⟩:=r1;exists some i,H1,I1,.int i t,q
def wI(X:Cx)(r:V->Option Int->Option Int->Hp->VK->Prop):Prop:=
 ∀ (aB:List (Addr×Obj)) (s:Shared) (σ:St) (H:Hp) (x:V) (v vl vu:Value) (lo hi:Option Int) (sl:Addr) (Q:VK),aG X aB σ H s->bm x v->s.heap.IsSliceOf sl vl vu .none->IsPart vl lo->IsPart vu hi->r x lo hi H Q->
  ∃T id,typeLookup (.type T) "__getitem__"=pure (some (.builtin id))/\s.TypeIs v T/\wpAny (model X.prog X.w) X.A (getItem v (.ref sl)) (EP X aB σ Q) X.xe s
def tSl(r:V->Option Int->Option Int->Hp->VK->Prop)(te:TE)(tl th:TO):TE:=λσ H Q=>te σ H λx H1=>tl σ H1 λl H2=>th σ H2 λu H3=>r x l u H3 Q
def tI{r:V->ap Int->ap Int->Hp->VK->Prop}(hr:wI X r)(he:PE X e te)(hl:PO X lo tl)(hu:PO X hi th):PE X (.Subscript e (.Slice lo hi none p2) pos) (tSl r te tl th):=by intro aB s σ H Q I h;refine Subscript_ (aW (he aB s σ H _ I h) λv s1 ⟨x,H1,I1,r1,q1⟩=> ?_);refine wpAny_Slice (aW (hl aB s1 σ H1 _ I1 q1) λvl s2 ⟨l,H2,I2,pl,q2⟩=>aW (hu aB s2 σ H2 _ I2 q2) λvu s3 ⟨u,H3,I3,pu,q3⟩=> ?_);rw[evalPart_none];refine aX ?_;have I4:aG X aB σ H3 {s3 with heap:=s3.heap.push {cls:= .type "slice",data:= .fields #[vl,vu,.none]}}:=I3.kept (t':=s3.toks) λb ob q=>bS _ q;obtain⟨T,id,hT,ht,hg⟩:=hr aB {s3 with heap:=s3.heap.push {cls:= .type "slice",data:= .fields #[vl,vu,.none]}} σ H3 x v vl vu l u s3.heap.objs.size Q I4 r1 (Heap.IsSliceOf.new ..) pl pu q3;show wpAny (model X.prog X.w) X.A (subscriptTail e (.Slice lo hi none p2) v (.ref s3.heap.objs.size)) (EP X aB σ Q) X.xe {s3 with heap:=s3.heap.push {cls:= .type "slice",data:= .fields #[vl,vu,.none]}};exact tail_any (ops:= [.ref s3.heap.objs.size,v]) ht hT hg (by with_unfolding_all rfl)
/---/def ia(xs:List V)(lo hi:Option Int):List V:=(xs.drop (HT.bN xs.length 0 lo)).take (HT.bN xs.length xs.length hi-HT.bN xs.length 0 lo)
def Kj(xs:aq V)(lo hi:ap Int):(ia xs lo hi).length<=xs.length:=by unfold ia;rw[kf,zB];omega
inductive a2v(K:W.Frag)(x:V)(lo:Option Int)(hi:Option Int)(H:Hp)(Q:VK):Prop
 |mk (a xs:_) (_:x= .ref a) (_:aS K H a xs) (_: ¬(HT.bN xs.length 0 lo=0/\HT.bN xs.length xs.length hi=xs.length)) (_: ∀p,H p=none->Q (.ref p) (upd H p (.aC (ia xs lo hi))))
def Pr:wI X (a2v X.K):=by intro aB s σ H x v vl vu lo hi sl Q I rx hs pl pu h;obtain⟨a,xs,rfl,hx,hw,q⟩:=h;cases rx;obtain⟨aF,r,ht,hz⟩:=I.tuple hx;(have cf:aF.toArray.size=xs.length:=by rw[cE];exact r.length.symm);exists "tuple",_,PyProof.Rows.slot_tuple_getitem.lookup,ht.typeIs,?_;refine HT.Um ht hs pl pu (by rw[cf];exact hw) ?_ (by rw[cf];exact hz);rw[cf];exists .ref s.heap.objs.size,_,I.laid (t':=s.toks) (o:= .aC (ia xs lo hi)) (λb ob q=>bS _ q) (aV _) ?_,rfl,q _ (I.hok.fresh (aV _));exists dS (Kj xs lo hi) hz,_,(r.drop (HT.bN xs.length 0 lo)).take (HT.bN xs.length xs.length hi-HT.bN xs.length 0 lo),IsTup.new _ _
inductive a2g(K:W.Frag)(x:V)(y:V)(H:Hp)(Q:VK):Prop
 |mk (a b xs ys:_) (_:x= .ref a) (_:y= .ref b) (_:aS K H a xs) (_:aS K H b ys) (_:xs≠ []) (_:xs.length+ys.length<=sizeLine) (_:(ys= []->Q (.ref a) H)) (_:(ys≠ []-> ∀p,H p=none->Q (.ref p) (upd H p (.aC (xs++ys)))))
def bg.Gg{xs:aq V}{us:aq aa}(r:bg xs us):us= [] ↔xs= []:=by cases r with|nil=>simp|cons _ _=>simp
def a08:eN X (binaryOp .Add) (a2g X.K):=by intro aB s σ H x y v u Q I rx ry h;obtain⟨a,b,xs,ys,rfl,rfl,ha,hb,hx,hz,q1,q2⟩:=h;cases rx;cases ry;obtain⟨aF,r1,p1,_⟩:=I.tuple ha;obtain⟨pc,r2,p2,_⟩:=I.tuple hb;refine HT.RM p1 p2 (λz=>hx (r1.Gg.mp z)) (λz=>⟨.ref a,H,I,rfl,q1 (r2.Gg.mp z)⟩) (λz=> ?_) (by rw[<-r1.length,<-r2.length];exact hz);exists .ref s.heap.objs.size,_,I.laid (t':=s.toks) (o:= .aC (xs++ys)) (λb ob q=>bS _ q) (aV _) ?_,rfl,q2 (λw=>z (r2.Gg.mpr w)) _ (I.hok.fresh (aV _));exists by rw[gn];exact hz,_,r1.append r2,IsTup.new _ _
end
/---/def kC(n:Nat)(i:Int):Option Nat:=if 0<=i then(if i<n then some i.toNat else none)else if-(n:Int)<=i then some (i+n).toNat else none
/---/def kR{α:Type}(xs:List α)(i:Int):Option α:=(kC xs.length i).bind λj=>xs[j]?
def MT{n:Nat}{i:Int}{j:Nat}(h:kC n i=some j):seqIndex? i n=some j/\j<n∧ -(n:Int)<=i/\i<n:=by unfold kC at h;by_cases h0:0<=i;rw[aT h0]at h;by_cases h1:i<n;rw[aT h1]at h;have e:i.toNat=j:=gp h;exists by rw[seqIndex_of h0 h1,e],by omega,by omega,h1;rw[aU h1]at h;cases h;rw[aU h0]at h;by_cases h1: -(n:Int)<=i;rw[aT h1]at h;have e:(i+n).toNat=j:=gp h;exact⟨by rw[seqIndex_neg (by omega) h1,e],by omega,h1,by omega⟩;rw[aU h1]at h;cases h
def JI{α:Type}{xs:aq α}{i:Int}{v:α}(h:kR xs i=some v): ∃j,seqIndex? i xs.length=some j/\xs[j]? =some v/\j<xs.length∧ -(xs.length:Int)<=i/\i<xs.length:=by unfold kR at h;cases e:kC xs.length i with|none=>rw[e]at h;cases h|some j=>rw[e]at h;obtain⟨h1,h2,h3,h4⟩:=MT e;exists j,h1,h,h2,h3,h4
def gq{α:Type}{xs:aq α}{j:Nat}{v:α}(h:xs[j]? =some v):kR xs (j:Int)=some v:=by have hj:j<xs.length:=(List.getElem?_eq_some_iff.mp h).1;(have e:kC xs.length (j:Int)=some j:=(by unfold kC;rw[aT (by omega),aT (by omega)];simp));unfold kR;rw[e];exact h
def JJ{α:Type}(xs:aq α)(v:α):kR (xs++ [v]) (-1)=some v:=by(have hl:(xs++ [v]).length=xs.length+1:=by simp);(have e:kC (xs++ [v]).length (-1)=some xs.length:=(by unfold kC;rw[hl,aU (by decide),aT (by omega)];(congr 1);omega));unfold kR;rw[e];show(xs++ [v])[xs.length]? =some v;simp
def Ra(b:Expr):Prop:= ∀o i,subscripted b false o i=operate [o,i] (getItem o i)
def wq(X:Cx)(r:R2):Prop:=
 ∀ (value slice:Expr) (aB:List (Addr×Obj)) (s:Shared) (σ:St) (H:Hp) (x y:V) (v u:Value) (Q:VK),aG X aB σ H s->bm x v->bm y u->r x y H Q->
  subscripted slice false v u=operate [v,u] (getItem v u)->wpAny (model X.prog X.w) X.A (subscriptTail value slice v u) (EP X aB σ Q) X.xe s
def wD(X:Cx)(id:String)(r:V->List V->Hp->VK->Prop):Prop:=
 ∀ (aB:List (Addr×Obj)) (s:Shared) (σ:St) (H:Hp) (x:V) (xs:List V) (v:Value) (us:List Value) (Q:VK),aG X aB σ H s->bm x v->bg xs us->r x xs H Q->
  wpAny (model X.prog X.w) X.A (call (.builtin id) (v::us)) (EP X aB σ Q) X.xe s
section
variable{X:Cx}{a b:Expr}{ta tb:TE}{pos:Pos}
def bI{r:R2}(hr:wq X r)(ha:PE X a ta)(hb:PE X b tb)(hs:Ra b):PE X (.Subscript a b pos) (tX r ta tb):=by intro aB s σ H Q I h;exact Subscript_ (DG ha hb I h λv u s2 x y H2 I2 rx ry q=>hr a b aB s2 σ H2 x y v u Q I2 rx ry q (hs _ _))
inductive a2l(K:W.Frag)(x:V)(y:V)(H:Hp)(Q:VK):Prop
 |mk (p xs i v:_) (_:x= .ref p) (_:y= .int i) (_:aQ K H p xs) (_:kR xs i=some v) (_:Q v H)
inductive OA(K:W.Frag)(x:V)(y:V)(H:Hp)(Q:VK):Prop
 |mk (p xs i v:_) (_:x= .ref p) (_:y= .int i) (_:aS K H p xs) (_:kR xs i=some v) (_:Q v H)
def gz:wq X (a2l X.K):=by intro value slice aB s σ H x y v u Q I rx ry h hs;obtain⟨p,xs,i,z,rfl,rfl,hq,he,q⟩:=h;cases rx;obtain⟨t,rfl⟩:=ry;obtain⟨aF,r,pl,hz⟩:=I.list hq;obtain⟨j,h1,h2,h3,h4,h5⟩:=JI he;obtain⟨w,ew,rw'⟩:=r.get h2;have hl:=r.length;have hn:=vi;(have fin:EP X aB σ Q w s:=⟨z,H,I,rw',q⟩);by_cases h0:0<=i;(have hj:i.toNat=j:=(by rw[seqIndex_of h0 h5]at h1;exact gp h1));exact item_listR pl.isList h0 (by omega) (by rw[hj];simpa using ew) fin hs;(have hj:(i+(aF.toArray.size:Int)).toNat=j:=(by rw[seqIndex_neg (by omega) h4]at h1;rw[cE,<-hl];exact gp h1));exact subscriptTail_builtinR (x:=w) pl.isList.typeIs slot_list_getitem.lookup (wpAny_getItem_list_neg (Q:=λr s'=>r=w/\EP X aB σ Q r s') pl.isList (by omega) (by rw[cE]<;>omega) (by omega) (by rw[hj];simpa using ew) ⟨rfl,fin⟩) hs
def vh:wq X (OA X.K):=by intro value slice aB s σ H x y v u Q I rx ry h hs;obtain⟨p,xs,i,z,rfl,rfl,hq,he,q⟩:=h;cases rx;obtain⟨t,rfl⟩:=ry;obtain⟨aF,r,pl,hz⟩:=I.tuple hq;obtain⟨j,h1,h2,h3,h4,h5⟩:=JI he;obtain⟨w,ew,rw'⟩:=r.get h2;have hl:=r.length;have hn:=vi;(have fin:EP X aB σ Q w s:=⟨z,H,I,rw',q⟩);exact subscriptTail_builtinR (x:=w) pl.typeIs slot_tuple_getitem.lookup (getItem_tuple (j:=j) (Q:=λr s'=>r=w/\EP X aB σ Q r s') pl (by omega) (by omega) (by rw[cE,<-hl];exact h1) (by simpa using ew) ⟨rfl,fin⟩) hs
def Y0(aF:aq aa)(n j:Nat)(u:aa):Obj.mapSeq (·.setIfInBounds j u) {cls:= .type "list",data:= .seq aF.toArray n}= {cls:= .type "list",data:= .seq (aF.set j u).toArray n}:=by simp[Obj.mapSeq]
def aG.aK{aB:aq (ae×Obj)}{σ:St}{H:Hp}{s:ac}{p:ae}{xs:aq V}(I:aG X aB σ H s)(h:H p=some (.aK xs)): ∃ (aF:aq aa) (n:Nat),bg xs aF/\s.heap.get? p=some {cls:= .type "list",data:= .seq aF.toArray n}/\xs.length<=sizeLine:=by obtain⟨z,aF,n,r,e⟩:=I.hok p _ h;exists aF,n,r,e,z
def aG.Yp{aB:aq (ae×Obj)}{σ:St}{H:Hp}{s:ac}{p:ae}{xs ys:aq V}{aF its':aq aa}{n n':Nat}{f:Obj->Obj}(I:aG X aB σ H s)(h:H p=some (.aK xs))(ho:s.heap.get? p=some {cls:= .type "list",data:= .seq aF.toArray n})(hf:f {cls:= .type "list",data:= .seq aF.toArray n}= {cls:= .type "list",data:= .seq its'.toArray n'})(r:bg ys its')(hz:ys.length<=sizeLine)(t:Nat):aG X aB σ (upd H p (.aK ys)) {s with heap:=s.heap.update p f,toks:=t}:=by(have e:(s.heap.update p f).get? p=some {cls:= .type "list",data:= .seq its'.toArray n'}:=(by rw[um f ho (by rw[hf]<;>rfl),hf]));refine I.write (x:=p) (e:=p) (by rw[h];trivial) (.inl rfl) (λb u hb q=>(C6 _ _ (jH hb)).trans q) ⟨_,e⟩ ?_;exists hz,its',n',r,e
inductive a2t(o:V)(i:V)(v:V)(H:Hp)(Q:(Hp->Prop)):Prop
 |mk (p xs k j:_) (_:o= .ref p) (_:i= .int k) (_:H p=some (.aK xs)) (_:kC xs.length k=some j) (_:Q (upd H p (.aK (xs.set j v))))
def Po:Jx X a2t:=by intro aB s σ H o i v ov iv u Q I ro ri rv h;obtain⟨p,xs,k,j,rfl,rfl,hp,hj,q⟩:=h;cases ro;obtain⟨t,rfl⟩:=ri;obtain⟨aF,n,r,ho,hz⟩:=I.aK hp;obtain⟨h1,h2,h3,h4⟩:=MT hj;have hl:=r.length;have hn:=vi;have I':aG X aB σ (upd H p (.aK (xs.set j v))) {s with heap:=s.heap.update p (Obj.mapSeq (·.setIfInBounds j u))}:=I.Yp hp ho (Y0 aF n j u) (r.set rv j) (by rw[rF];exact hz) s.toks;by_cases h0:0<=k;(have hk:k.toNat=j:=(by rw[seqIndex_of h0 h4]at h1;exact gp h1));exact W.ki_setAt ho h0 (by omega) (by rw[cE,<-hl];exact h4) (by rw[hk];exists _,I',q);(have hk:(k+(aF.toArray.size:Int)).toNat=j:=(by rw[seqIndex_neg (by omega) h3]at h1;rw[cE,<-hl];exact gp h1));exact W.ki_setBack ho (by omega) (by rw[cE,<-hl];exact h3) (by omega) (by rw[hk];exists _,I',q)
def a3P(lo hi:ap Int)(n:Nat):(sliceBounds lo hi none n).1=((HT.bN n 0 lo:Nat):Int)/\(sliceBounds lo hi none n).2.1=((HT.bN n n hi:Nat):Int)/\(sliceBounds lo hi none n).2.2=1:=by exists ?_,?_,rfl;(cases lo with|none=>simp[sliceBounds,HT.bN]|some i=>simp only[sliceBounds,HT.bN,Option.getD_none,show(1:Int) >0 by decide,gc];by_cases h:i<0;simp only[h,gc]<;>omega;simp only[h,fN]<;>omega);cases hi with|none=>simp[sliceBounds,HT.bN]|some i=>simp only[sliceBounds,HT.bN,Option.getD_none,show(1:Int) >0 by decide,gc];by_cases h:i<0;simp only[h,gc]<;>omega;simp only[h,fN]<;>omega
def a3O(aF:aq aa)(lo hi:ap Int):slicePick aF.toArray lo hi none=((aF.drop (HT.bN aF.length 0 lo)).take (HT.bN aF.length aF.length hi-HT.bN aF.length 0 lo)).toArray:=by obtain⟨h1,h2,h3⟩:=a3P lo hi aF.toArray.size;unfold slicePick;rw[h1,h2,h3];simp only[sliceRange_one,pick_run,cE]<;>rfl
inductive a2u(K:W.Frag)(x:V)(lo:Option Int)(hi:Option Int)(H:Hp)(Q:VK):Prop
 |mk (a xs:_) (_:x= .ref a) (_:aQ K H a xs) (_: ∀p,H p=none->Q (.ref p) (upd H p (.aK (ia xs lo hi))))
def Pq:wI X (a2u X.K):=by intro aB s σ H x v vl vu lo hi sl Q I rx hs pl pu h;obtain⟨a,xs,rfl,hx,q⟩:=h;cases rx;obtain⟨aF,r,ht,hz⟩:=I.list hx;have cf:=r.length;exists "list",_,slot_list_getitem.lookup,ht.isList.typeIs,?_;refine wpAny_getItem_list_slice ht.isList hs pl pu .none (by simp) ?_ (by rw[cE]<;>omega);rw[a3O,<-cf];exists .ref s.heap.objs.size,_,I.laid (t':=s.toks) (o:= .aK (ia xs lo hi)) (λb ob q=>bS _ q) (aV _) ?_,rfl,q _ (I.hok.fresh (aV _));exists dS (Kj xs lo hi) hz,_,0,(r.drop (HT.bN xs.length 0 lo)).take (HT.bN xs.length xs.length hi-HT.bN xs.length 0 lo),cS _ rfl
/---/def kn:V->Bool
 | .aN=>true
 | .bl _=>true
 | .int _=>true
 | .str _=>true
 |_=>false
/---/def km:V->V->Bool
 | .aN,.aN=>true
 | .bl a,.bl b=>a==b
 | .bl a,.int b=>(if a then 1 else 0)==b
 | .int a,.bl b=>a==(if b then 1 else 0)
 | .int a,.int b=>a==b
 | .str a,.str b=>a==b
 |_,_=>false
def wV{x:V}{u v:aa}(ry:bm y u)(rx:bm x v)(fy:kn y=true)(fx:kn x=true):SeqAt.EqAt A s u v (km y x):=by cases y with|aN=>(cases ry;cases x with|aN=>cases rx;exact SeqAt.EqAt.same _|bl b=>cases rx;exact SeqAt.EqAt.none_bool b|int b=>obtain⟨t,rfl⟩:=rx;exact SeqAt.EqAt.none_int b t|str b=>obtain⟨t,rfl⟩:=rx;exact SeqAt.EqAt.none_str b t|_=>exact absurd (show false=true from fx) fI)|bl a=>(cases ry;cases x with|aN=>cases rx;exact SeqAt.EqAt.bool_none a|bl b=>cases rx;exact SeqAt.EqAt.bool_bool a b|int b=>obtain⟨t,rfl⟩:=rx;exact SeqAt.EqAt.bool_int a b t|str b=>obtain⟨t,rfl⟩:=rx;exact SeqAt.EqAt.bool_str a b t|_=>exact absurd (show false=true from fx) fI)|int a=>(obtain⟨t',rfl⟩:=ry;cases x with|aN=>cases rx;exact SeqAt.EqAt.int_none a t'|bl b=>cases rx;exact SeqAt.EqAt.int_bool a t' b|int b=>obtain⟨t,rfl⟩:=rx;exact SeqAt.EqAt.int_int a t' b t|str b=>obtain⟨t,rfl⟩:=rx;exact SeqAt.EqAt.int_str a t' b t|_=>exact absurd (show false=true from fx) fI)|str a=>(obtain⟨t',rfl⟩:=ry;cases x with|aN=>cases rx;exact SeqAt.EqAt.str_none a t'|bl b=>cases rx;exact SeqAt.EqAt.str_bool a t' b|int b=>obtain⟨t,rfl⟩:=rx;exact SeqAt.EqAt.str_int a t' b t|str b=>obtain⟨t,rfl⟩:=rx;exact SeqAt.EqAt.str_str a t' b t|_=>exact absurd (show false=true from fx) fI)|_=>exact absurd (show false=true from fy) fI
def oC(x:V)(u:Value):Bool:=match u with
 | .none=>km .aN x
 | .bool b=>km (.bl b) x
 | .int i _=>km (.int i) x
 | .str z _=>km (.str z) x
 |_=>false
def KC{x:V}{u:aa}(r:bm y u)(f:kn y=true):oC x u=km y x:=by cases y with|aN=>cases r;rfl|bl b=>cases r;rfl|int i=>obtain⟨t,rfl⟩:=r;rfl|str z=>obtain⟨t,rfl⟩:=r;rfl|_=>exact absurd (show false=true from f) fI
def Dx{x:V}: ∀ {xs:aq V} {us:aq aa},bg xs us->xs.all kn=true->us.any (oC x)=xs.any λy=>km y x
 |_,_,.nil,_=>rfl
 |y::xs,u::us,.cons r t,f=>by rw[List.all_cons,gR]at f;rw[rC,rC,KC r f.1,Dx t f.2]
def F8{A:ao}{s:ac}{x:V}{v:aa}(rx:bm x v)(fx:kn x=true): ∀ {xs:aq V} {us:aq aa},bg xs us->xs.all kn=true-> ∀u∈us,SeqAt.EqAt A s u v (oC x u)
 |_,_,.nil,_=>λu hu=>by cases hu
 |y::xs,u::us,.cons r t,f=>λu' hu=>by rw[List.all_cons,gR]at f;rcases List.mem_cons.mp hu with rfl|hu;rw[KC r f.1];exact wV r rx f.1 fx;exact F8 rx fx t f.2 u' hu
def mq(x:V)(xs:List V):Bool:=xs.any λy=>km y x
inductive rIn(K:W.Frag)(neg:Bool)(x:V)(y:V)(H:Hp)(Q:VK):Prop
 |mk (p xs:_) (_:y= .ref p) (_:(aQ K H p xs\/aS K H p xs)) (_:kn x=true) (_:xs.all kn=true) (_:Q (.bl (if neg then !mq x xs else mq x xs)) H)
def Go:eN X (compareOp .In) (rIn X.K false):=by intro aB s σ H x y v u Q I rx ry h;obtain⟨p,xs,rfl,hq,fx,fs,q⟩:=h;cases ry;rcases hq with hq|hq;obtain⟨aF,r,pl,hz⟩:=I.list hq;refine SeqAt.in_listAt (oC x) pl.isList (λw hw=>F8 rx fx r fs w (by simpa using hw)) ⟨.bl _,H,I,rfl,?_⟩;rw[show aF.toArray.any (oC x)=aF.any (oC x)by simp,Dx r fs];exact q;obtain⟨aF,r,pl,hz⟩:=I.tuple hq;refine SeqAt.in_tupleAt (oC x) pl (λw hw=>F8 rx fx r fs w (by simpa using hw)) ⟨.bl _,H,I,rfl,?_⟩;rw[show aF.toArray.any (oC x)=aF.any (oC x)by simp,Dx r fs];exact q
def jh:gS X (.builtin "len") (λxs H Q=> ∃p ys,xs= [.ref p]/\(aQ X.K H p ys\/aS X.K H p ys)/\Q (.int ys.length) H):=by intro aB s σ H xs us Q I r h;obtain⟨p,ys,rfl,hq,q⟩:=h;obtain⟨u,rfl,rx⟩:=jA r;cases rx;have hn:=vi;rcases hq with hq|hq;obtain⟨aF,r',pl,hz⟩:=I.list hq;have cf:=r'.length;exact Calls.call_len_list pl.isList (by simp only[cE]<;>omega) ⟨.int ys.length,H,I.tok _,⟨s.toks+1,by rw[cE,cf]⟩,q⟩;obtain⟨aF,r',pl,hz⟩:=I.tuple hq;have cf:=r'.length;exact len_tuple pl (by simp only[cE]<;>omega) ⟨.int ys.length,H,I.tok _,⟨s.toks+1,by rw[cE,cf]⟩,q⟩
def RD:gS X (.builtin "len") (λxs H Q=> ∃z,xs= [.str z]/\z.length<=sizeLine/\Q (.int z.length) H):=by intro aB s σ H xs us Q I r h;obtain⟨z,rfl,hz,q⟩:=h;obtain⟨u,rfl,t,rfl⟩:=jA r;have hn:=vi;exact len_str (by omega) ⟨.int z.length,H,I.tok _,⟨_,rfl⟩,q⟩
def JW:gS X (.type "list") (λxs H Q=> ∃p ys,xs= [.ref p]/\(aQ X.K H p ys\/aS X.K H p ys)/\ ∀l,H l=none->Q (.ref l) (upd H l (.aK ys))):=by
 intro aB s σ H xs us Q I r h;obtain⟨p,ys,rfl,hq,q⟩:=h;obtain⟨u,rfl,rx⟩:=jA r;cases rx;have fin: ∀ (aF:List Value),bg ys aF->ys.length<=sizeLine-> ∀ (h':Heap) (c':Nat),(∀b o',s.heap.get? b=some o'->h'.get? b=some o')->
   h'.get? s.heap.objs.size=some {cls:= .type "list",dict:=none,data:= .seq aF.toArray c',slots:= #[]}->EP X aB σ Q (.ref s.heap.objs.size) {s with heap:=h'}:=λaF r' hz h' c' kp e=>
  ⟨.ref s.heap.objs.size,_,I.laid (t':=s.toks) kp (aV _) (show dO X.prog X.w _ h' _ (.aK ys)from⟨hz,aF,c',r',e⟩),rfl,q _ (I.hok.fresh (aV _))⟩
 rcases hq with hq|hq;obtain⟨aF,r',pl,hz⟩:=I.list hq;have cf:=r'.length;obtain⟨o,ho,hc,n,hd⟩:=pl.isList;exact call_list_seq p (.inl rfl) ho hc hd (λh' c' kp e=>fin aF r' hz h' c' kp e) (by simp only[cE]<;>omega);obtain⟨aF,r',pl,hz⟩:=I.tuple hq;have cf:=r'.length;obtain⟨o,ho,hc,n,hd⟩:=pl;exact call_list_seq p (.inr rfl) ho hc hd (λh' c' kp e=>fin aF r' hz h' c' kp e) (by simp only[cE]<;>omega)
def oA:gS X (.type "tuple") (λxs H Q=> ∃p ys,xs= [.ref p]/\((aQ X.K H p ys/\ ∀l,H l=none->Q (.ref l) (upd H l (.aC ys)))\/(aS X.K H p ys/\Q (.ref p) H))):=by intro aB s σ H xs us Q I r h;obtain⟨p,ys,rfl,h⟩:=h;obtain⟨u,rfl,rx⟩:=jA r;cases rx;(rcases h with⟨hq,q⟩|⟨hq,q⟩);obtain⟨aF,r',pl,hz⟩:=I.list hq;have cf:=r'.length;refine call_tuple_list pl.isList (λh' kp=> ?_) (by simp only[cE]<;>omega);have I1:aG X aB σ H {s with heap:=h'}:=I.kept (t':=s.toks) kp;have I2:aG X aB σ (upd H h'.objs.size (.aC ys)) {s with heap:=h'.push {cls:= .type "tuple",data:= .seq aF.toArray}}:=I1.laid (t':=s.toks) (λb o e=>bS _ e) (aV _) (show dO X.prog X.w _ _ _ (.aC ys)from⟨hz,aF,r',IsTup.new _ _⟩);exists .ref h'.objs.size,_,I2,rfl,q _ (I1.hok.fresh (aV _));obtain⟨aF,r',pl,hz⟩:=I.tuple hq;exact call_tuple_same pl ⟨.ref p,H,I,rfl,q⟩
def IL(K:W.Frag)(T:String)(x:V)(H:Hp):Prop:=match x with
 | .str _=>T= "str"
 | .int _=>T= "int"
 | .ref p=>(T= "list"/\ ∃xs,aQ K H p xs)\/(T= "tuple"/\ ∃o,K.lookup p=some o/\o.cls= .type "tuple"/\o.dict=none)\/
   (T= "dict"/\((∃kvs,H p=some (.dK kvs))\/ ∃kvs,H p=some (.dT kvs)))\/(T= "set"/\ ∃S n,H p=some (.set S n))
 |_=>False
def QI{σ:St}{T:String}{x:V}{v:aa}(I:aG X aB σ H s)(r:bm x v)(ty:IL X.K T x H):s.TypeIs v T/\ ∀a,v= .ref a-> ∃ob,s.heap.get? a=some ob/\ob.dict=none:=by cases x with|str z=>obtain⟨t,rfl⟩:=r;cases(show T= "str" from ty);exact⟨typeIs_str s z t,λ_ e=>nomatch e⟩|int i=>obtain⟨t,rfl⟩:=r;cases(show T= "int" from ty);exact⟨typeIs_int s i t,λ_ e=>nomatch e⟩|ref p=>cases r;(rcases ty with⟨rfl,xs,hq⟩|⟨rfl,o,hk,hc,hd⟩|⟨rfl,hk⟩|⟨rfl,S,n,hk⟩);obtain⟨aF,_,pl,_⟩:=I.list hq;exists pl.isList.typeIs,λa e=> ?_;cases e;obtain⟨o,n,e,c,hd,_⟩:=pl;exists o,e,hd;exists⟨o,I.dX p o hk,hc⟩,λa e=> ?_;cases e;exists o,I.dX _ o hk,hd;(have z: ∃o,s.heap.get? p=some o/\o.ExactDict:=(by(rcases hk with⟨kvs,hk⟩|⟨kvs,hk⟩);obtain⟨_,_,_,_,o,_,_,e,ex,_⟩:=I.hok p _ hk;exists o,e,ex;obtain⟨_,_,_,_,o,_,_,e,ex,_⟩:=I.hok p _ hk;exists o,e,ex));obtain⟨o,e,ex⟩:=z;exists⟨o,e,ex.1⟩,λa e2=> ?_;cases e2;exists o,e,ex.2.1;obtain⟨o,_,_,_,e,ex,_⟩:=I.hok p _ hk;exists⟨o,e,ex.1⟩,λa e2=> ?_;cases e2;exact⟨o,e,ex.2.1⟩|_=>exact False.elim ty
def a35(K:W.Frag)(T:String)(r:V->List V->Hp->VK->Prop)(to:TE):TE:=λσ H Q=>to σ H λx H1=>IL K T x H1/\r x [] H1 Q
def Qu(K:W.Frag)(T:String)(r:V->List V->Hp->VK->Prop)(to:TE)(t:TA):TE:=λσ H Q=>to σ H λx H1=>IL K T x H1/\t σ H1 λxs H2=>r x xs H2 Q
variable{o e:Expr}{es:aq Expr}{to:TE}{t:TA}{name:aA}{dP cL:Pos}{T id:String}{r:V->aq V->Hp->VK->Prop}
def a1u(pa:PlainAttrs T)(slot:Slot T name id)(hty:typeOf (.builtin id)=pure (.type "method_descriptor"))(hm:wD X id r)(ho:PE X o to)(hbase:attributeBase o name X.env (eval o X.env)=eval o X.env:=by rfl)(hline:(dP.endLine==cL.line)=true:=by rfl):PE X (.Call (.Attribute o name dP) [] [] cL) (a35 X.K T r to):=by intro aB s σ H Q I h;refine wpAny_Call_method0_late hbase hline (aW (ho aB s σ H _ I h) λv s1 ⟨x,H1,I1,r1,ty,q1⟩=> ?_);obtain⟨h1,h2⟩:=QI I1 r1 ty;exists T,id,pa,slot,hty,h1,h2,uh rfl (PySem.evalArgs_none (hm aB s1 σ H1 x [] v [] Q I1 r1 .nil q1))
def nL(pa:PlainAttrs T)(slot:Slot T name id)(hty:typeOf (.builtin id)=pure (.type "method_descriptor"))(hm:wD X id r)(ho:PE X o to)(ha:PA X (e::es) t)(hbase:attributeBase o name X.env (eval o X.env)=eval o X.env:=by rfl)(hfew:((backTo cL (starEach (e::es) X.env)).all (λx=> !x.1) && (backToKw cL (keywordEach [] X.env)).all (λx=>x.1.isSome) &&decide ((e::es).length+([]:aq Keyword).length+(if([]:aq Keyword).isEmpty then 0 else 1)<30))=true:=by rfl)(hline:(dP.endLine==cL.line)=true:=by rfl)(hs:starEach (e::es) X.env=(false,eval e X.env)::starEach es X.env:=by rfl)(hplain:(backTo cL (starEach es X.env)).any (·.1)=false:=by rfl):PE X (.Call (.Attribute o name dP) (e::es) [] cL) (Qu X.K T r to t):=by intro aB s σ H Q I h;refine wpAny_Call_method_late hbase hfew hline rfl (aW (ho aB s σ H _ I h) λv s1 ⟨x,H1,I1,r1,ty,q1⟩=> ?_);obtain⟨h1,h2⟩:=QI I1 r1 ty;exists T,id,pa,slot,hty,h1,h2,?_;have hA:=ha cL aB s1 σ H1 _ I1 q1;rw[hs]at hA⊢;refine uh (by show(false||(backTo cL (starEach es X.env)).any (·.1))=false;rw[hplain]<;>rfl) (C2 ?_);exact aW hA λus s2 ⟨vs,H2,I2,r2,q2⟩=>hm aB s2 σ H2 x vs v us Q I2 r1 r2 q2
end
def Di(X:Cx)(id:String)(r:V->List V->Hp->VK->Prop):Prop:=
 ∀ (aB:List (Addr×Obj)) (s:Shared) (σ:St) (H:Hp) (x:V) (xs:List V) (v:Value) (us:List Value) (Q:VK),aG X aB σ H s->bm x v->bg xs us->r x xs H Q->
  wpAny (model X.prog X.w) X.A (call (.builtin id) (v::us)) (EP X aB σ Q) X.xe s
def bg.dY: ∀ {x:V} {us:aq aa},bg [x] us-> ∃u,us= [u]/\bm x u
 |_,_,.cons r .nil=>⟨_,rfl,r⟩
def bg.two: ∀ {x y:V} {us:aq aa},bg [x,y] us-> ∃u v,us= [u,v]/\bm x u/\bm y v
 |_,_,_,.cons r (.cons q .nil)=>⟨_,_,rfl,r,q⟩
def bg.zero: ∀ {us:aq aa},bg [] us->us= []
 |_,.nil=>rfl
def bg.dropLast{xs:aq V}{us:aq aa}(h:bg xs us):bg xs.dropLast us.dropLast:=by induction h with|nil=>exact .nil|cons r t ih=>cases t with|nil=>exact .nil|cons q t'=>exact .cons r ih
def bg.eraseIdx: ∀ {xs:aq V} {us:aq aa} (i:Nat),bg xs us->bg (xs.eraseIdx i) (us.eraseIdx i)
 |_,_,_,.nil=> .nil
 |_,_,0,.cons _ t=>t
 |_,_,i+1,.cons r t=> .cons r (bg.eraseIdx i t)
def Tw{α:Type}(l:aq α):l.eraseIdx (l.length-1)=l.dropLast:=by induction l with|nil=>rfl|cons a r ih=>cases r with|nil=>rfl|cons b r=>(have e:(a::b::r).length-1=((b::r).length-1)+1:=(by have h1:(a::b::r).length=r.length+2:=rfl;have h2:(b::r).length=r.length+1:=rfl;omega));rw[e,List.eraseIdx_cons_succ,ih];all_goals rfl
def M9{α:Type}: ∀ (l:aq α) (i:Nat),(l.eraseIdx i).length<=l.length
 | [],_=>aV _
 |_::_,0=>hW _
 |_::r,i+1=>Nat.succ_le_succ (M9 r i)
section
variable{X:Cx}{aB:aq (ae×Obj)}{σ:St}{H:Hp}{s:ac}{l b:ae}{xs ys zs:aq V}
def aG.vj{aF its':aq aa}{n:Nat}{f:au aa->au aa}{t':Nat}(I:aG X aB σ H s)(hH:H l=some (.aK xs))(e:s.heap.get? l=some {cls:= .type "list",data:= .seq aF.toArray n})(hf:f aF.toArray=its'.toArray)(hv:bg ys its')(hz:ys.length<=sizeLine):aG X aB σ (upd H l (.aK ys)) {s with heap:=s.heap.update l (Obj.mapSeq f),toks:=t'}:=by have q:=PySem.IsL.update e f;rw[hf]at q;refine I.write (x:=l) (e:=l) (by rw[hH];exact trivial) (.inl rfl) (λb' u hb hu=>(C6 s.heap (Obj.mapSeq f) (jH hb)).trans hu) ⟨_,q⟩ ?_;exists hz,its',_,hv,q
def aG.Yl{aF:aq aa}{t':Nat}(I:aG X aB σ H s)(hv:bg ys aF)(hz:ys.length<=sizeLine):aG X aB σ (upd H s.heap.objs.size (.aK ys)) {s with heap:=s.heap.push {cls:= .type "list",data:= .seq aF.toArray},toks:=t'}:=
 I.laid (λ_ _ q=>bS _ q) (aV _) ⟨hz,aF,0,hv,cS _ rfl⟩
def aG.fresh(I:aG X aB σ H s):H s.heap.objs.size=none:=I.hok.fresh (aV _)
def aG.sZ(I:aG X aB σ H s)(hH:H l=some (.aK xs)):xs.length<=sizeLine/\ ∃ (aF:aq aa) (n:Nat),bg xs aF/\xs.length=aF.length/\s.heap.get? l=some {cls:= .type "list",data:= .seq aF.toArray n}:=by obtain⟨z,aF,n,r,e⟩:=I.hok l _ hH;exists z,aF,n,r,r.length,e
def ZQ{n:Nat}(h:n<=sizeLine):Builtin.List.listTooLong n=false:=by unfold Builtin.List.listTooLong;exact gv (by omega)
end
section
variable{X:Cx}
inductive Oy(x:V)(vs:List V)(H:Hp)(Q:VK):Prop
 |mk (l xs y:_) (_:x= .ref l) (_:vs= [y]) (_:H l=some (.aK xs)) (_:xs.length<sizeLine) (_:Q .aN (upd H l (.aK (xs++ [y]))))
def tq:Di X "list.append" Oy:=by intro aB s σ H x vs v us Q I rx rv h;obtain⟨l,xs,y,rfl,rfl,hH,hz,q⟩:=h;cases rx;obtain⟨u,rfl,ru⟩:=rv.dY;obtain⟨z,aF,n,r,hl,e⟩:=I.sZ hH;refine call_meets F.slot_list_append ⟨_,e,rfl⟩ F.entry_list_append (F.args_list_append_2 _ _) (PySem.list_append l aF.toArray n u (by rw[cE];omega)) ⟨e,?_⟩;exists .aN,_,I.vj (its':=aF++ [u]) hH e (by simp) (r.append (.cons ru .nil)) ?_,rfl,q;rw[gn,List.length_singleton];omega
inductive a2i(x:V)(vs:List V)(H:Hp)(Q:VK):Prop
 |mk (l b xs zs:_) (_:x= .ref l) (_:vs= [.ref b]) (_:H l=some (.aK xs)) (_:H b=some (.aK zs)) (_:xs.length+zs.length<=sizeLine) (_:Q .aN (upd H l (.aK (xs++zs))))
def Nz:Di X "list.extend" a2i:=by intro aB s σ H x vs v us Q I rx rv h;obtain⟨l,b,xs,zs,rfl,rfl,hH,hB,hz,q⟩:=h;cases rx;obtain⟨u,rfl,ru⟩:=rv.dY;cases ru;obtain⟨z,aF,n,r,hl,e⟩:=I.sZ hH;obtain⟨z2,pc,n2,r2,gY,e2⟩:=I.sZ hB;(have hsz:aF.toArray.size+pc.toArray.size<=sizeLine:=by rw[cE,cE];omega);(have V4: ¬(!aF.toArray.isEmpty&&Builtin.List.listTooLong (aF.toArray.size+pc.toArray.size))=true:=(by rw[ZQ hsz,Bool.and_false];exact fI));refine call_meets F.slot_list_extend ⟨_,e,rfl⟩ F.entry_list_extend (F.args_list_extend_2 _ _) (AutoSeq1.list_extend_list_list_0 l aF.toArray n b pc.toArray n2 V4 (by rw[cE];omega) (by omega)) ⟨e,e2,?_⟩;exists .aN,_,I.vj (its':=aF++pc) hH e (by simp) (r.append r2) ?_,rfl,q;rw[gn];omega
inductive a2p(x:V)(vs:List V)(H:Hp)(Q:VK):Prop
 |mk (l xs y:_) (_:x= .ref l) (_:vs= []) (_:H l=some (.aK xs)) (_:xs[xs.length-1]? =some y) (_:Q y (upd H l (.aK xs.dropLast)))
def Ze:Di X "list.pop" a2p:=by intro aB s σ H x vs v us Q I rx rv h;obtain⟨l,xs,y,rfl,rfl,hH,hy,q⟩:=h;cases rx;have WQ:=rv.zero;subst WQ;obtain⟨z,aF,n,r,hl,e⟩:=I.sZ hH;obtain⟨u,hu,ru⟩:=r.get hy;(have js:aF.toArray[aF.toArray.size-1]? =some u:=(by show aF.toArray[aF.length-1]? =some u;rw[<-kb,<-hl];exact hu));refine call_meets F.slot_list_pop ⟨_,e,rfl⟩ F.entry_list_pop (F.args_list_pop_1 _) (MeetsSeq.list_pop_last l aF.toArray n u js (by rw[cE];omega)) ⟨e,?_⟩;exists y,_,I.vj (its':=aF.dropLast) hH e ?_ r.dropLast ?_,ru,q;show aF.toArray.eraseIdxIfInBounds (aF.toArray.size-1)=aF.dropLast.toArray;rw[cE,List.eraseIdxIfInBounds_toArray,Tw];rw[List.length_dropLast];omega
inductive a2f(x:V)(y:V)(H:Hp)(Q:VK):Prop
 |mk (l b xs zs:_) (_:x= .ref l) (_:y= .ref b) (_:H l=some (.aK xs)) (_:H b=some (.aK zs)) (_:xs.length+zs.length<=sizeLine) (_: ∀p,H p=none->Q (.ref p) (upd H p (.aK (xs++zs))))
def Gn:eN X (binaryOp .Add) a2f:=by intro aB s σ H x y v u Q I rx ry h;obtain⟨l,b,xs,zs,rfl,rfl,hH,hB,hz,q⟩:=h;cases rx;cases ry;obtain⟨z,aF,n,r,hl,e⟩:=I.sZ hH;obtain⟨z2,pc,n2,r2,gY,e2⟩:=I.sZ hB;refine PySem.P.add_list e e2 ?_ (by rw[cE,cE];omega);(have ea:aF.toArray++pc.toArray=(aF++pc).toArray:=by simp);rw[ea];exists .ref _,_,I.Yl (t':=s.toks) (r.append r2) (by rw[gn];omega),rfl,q _ I.fresh
end
section
variable{prog:af}{w:ag}{A:ao}{E:aa->ac->Prop}{s:ac}
set_option maxRecDepth 100000 in
end
section
variable{X:Cx}
end
end L2
namespace Jf
open PySem PySem.W PySem.Calls PyProof.Rows
def Xo{P:Params}: ∀ (ns:aq Int) (vs:aq aa),WellAll P h vs (ns.map WData.int)->IntsAre vs ns:=by intro ns;induction ns with|nil=>intro vs w;rw[fZ]at w;cases w;exact .nil|cons n ns ih=>intro vs w;rw[bH]at w;cases w with|cons a b=>cases a;exact .cons _ _ (ih _ b)
def a3E{l:OpenLaw}{n:Nat}(hn:l.most=some n){P:Params}{args:aq WData}(AH:l.row.toRowW.claim.pre args=true)(Fw:WellAll P h il args): ∃a vs ns,il= [Value.ref a]/\args= [WData.list (ns.map WData.int)]/\h.get? a=some {cls:= .type "list",data:= .seq vs.toArray}/\IntsAre vs ns/\ns.length<=n:=by
 have hsh:WShape.hasAll [] args [.list .int]=true:=(pre_splitW AH).1;have hc:l.pre.holds [] {args:=args}=true:=(pre_splitW AH).2;obtain⟨d,r,rfl,h1,h2⟩:=hasAllW_cons hsh;obtain rfl:=hasAllW_nil h2;obtain⟨xs,rfl,h3⟩:=hasW_list h1;obtain⟨ns,rfl⟩:=items_int h3;have cf:ns.length<=n:=by
  unfold OpenLaw.pre at hc;(have h4:(WTm.not (.lt (.lit (.int (n:Int))) (.len (.arg 0)))).holds [] {args:= [.list (ns.map .int)]}=true:=(by have h4:=(holds_andW hc).1;rw[hn]at h4;exact h4));have h5:=condW_of h4 (w_not (w_lt w_lit (w_len_list (w_arg rfl))));rw[bq]at h5;refine zI λq=> ?_;(have q':(n:Int)<((ns.length:Nat):Int):=by omega);first
   |(rw[jN q']at h5;exact absurd h5 (by decide))
   |(simp at h5;omega)
 (cases Fw with|cons w1 w2=>cases w2;cases w1 with|list ho hall=>exists _,_,ns,rfl,rfl,ho,Xo ns _ hall,cf)
def a1R(l:OpenLaw)(args:aq WData):l.row.toRowW.claim.post args (.bool true) args=true:=
 postW_of (r:=l.row.toRowW) (X:=(true==true))
  (show WShape.has [] (.bool true) .bool=true by first|rfl|decide|simp[WShape.has,WShape.arms,WShape.armsAll])
  (show(WTm.eq .res (.lit (.bool true))).value [] {args:=args,res:=some (.bool true),after:=args}=some (.bool (true==true))from w_eq_bool (w_res rfl) w_lit) rfl
def Rp{l:OpenLaw}{n:Nat}{XP:(aA->ap aa)->ak->Prop}{YP:ag->ak->Prop}{d:DefRec}(hn:l.most=some n)(xl:d.params.defaults= [])(call: ∀ (w:ag) (s₀ s₁:ac) (mg mb:aA->ap aa) (fa:ae) (o:Obj) (pm cd doc:aa) (a:ae) (vs:aq aa) (ns:aq Int),Ground q loose [] XP w s₀ mg mb s₁.heap->YP w s₁.heap->s₁.heap.get? fa=some o->o.data= .func (docDef d.name d.params d.body d.scope pm cd doc)->s₁.heap.CodeRec cd d.name->mg d.name=some (.ref fa)->s₁.heap.get? a=some {cls:= .type "list",data:= .seq vs.toArray}->IntsAre vs ns->ns.length<=n->s₁.gens= #[]->codeAny (model l.prog w) callerA (.call (.ref fa) ⟨[.ref a],[]⟩) (λr s'=>r= .ok (.ret (.bool true))/\OldK s₁.heap s'.heap/\s'.os=s₁.os/\AllBare s'.gens) s₁):WalkO q loose XP YP l.row.toRowW d [] (λf vs=>PySem.call f vs):=by intro w s₀ s₁ mg mb G Y fa o pm cd doc dV kV ho hd hcd hD xA hg args il as AH a5h hrd Fw hlo;obtain rfl:dV= .none:=Dflts.none hD xl;obtain rfl:kV= .none:=Dflts.noKw hD;obtain⟨a,vs,ns,rfl,rfl,EZ,EG,cf⟩:=a3E hn AH Fw;refine enter_call (rW (call w s₀ s₁ mg mb fa o pm cd doc a vs ns G Y ho (fd_plain hd) hcd xA EZ EG cf hg) λr s' hq=> ?_);obtain⟨rfl,h2,h3,h4⟩:=hq;exists .inl ⟨.bool true,.bool true,[],rfl,λ_=>rfl,.bool true,a1R l _,λ_=>⟨List.Pairwise.nil,λ_ hm=>(nomatch hm)⟩⟩,h2,h3,h4
section
variable{prog:af}{w:ag}{A:ao}{E:aa->ac->Prop}{s:ac}{K:Frag}
end
end Jf
namespace L2
open PySem PySem.Spec PyProof.Rows
def QP: ∀ {vs:aq aa} {ns:aq Int},IntsAre vs ns->bg (ns.map V.int) vs
 |_,_,.nil=> .nil
 |_,_,.cons n t h=> .cons ⟨t,rfl⟩ (QP h)
def zJ(H:Hp):Prop:= ∀b,H b=none\/ ∃o xs,H b=some (.cc o (.aK xs))
def X8{K:W.Frag}{mg mb:aA->ap aa}{CX:iQ}{k:Nat}{a:ae}{x:aA}{sp:Sp}{s₁:ac}{vs:aq aa}(KX:K.In s₁.heap)(fe:s₁.heap.Ns mainGlobals mg)(hb:s₁.heap.Ns builtinsNs mb)(Vm: ∀x:aA,x≠ "__name__"->mb x=bootBuiltins x)(V2:s₁.heap.NoLimit)(hg:s₁.gens= #[])(ha:s₁.heap.get? a=some {cls:= .type "list",data:= .seq vs.toArray})(hi:IntsAre vs ns)(hl:ns.length<=sizeLine)(hr:fA k callerA)(F: ∀base:ak,K.In base->base.Ns mainGlobals mg->bw P w K mg base CX k fa fd [x] sp)(Vn: ∀ (s:ac) (u:aa),BindsTo s fd ⟨[u],[]⟩ [(x,u)])(qr: ∀H:Hp,zJ H->aQ K H a (ns.map V.int)->sp [.ref a] H (λv _=>v= .bl true) λ_ _ _=>False)(Ef: ∀H e s',CX [] H s₁ (λ_ _ _=>False) e s'->False):codeAny (model P w) callerA (.call (.ref fa) ⟨[.ref a],[]⟩) (λr s'=>r= .ok (.ret (.bool true))/\OldK s₁.heap s'.heap/\s'.os=s₁.os/\AllBare s'.gens) s₁:=by
 have rv:=QP hi;have Yc:=hi.length;have core: ∀H:Hp,zJ H->aQ K H a (ns.map V.int)->dh P w H s₁.heap->(∀b,H b≠none->b=a)->(H a≠none->K.lookup a=none)->
   codeAny (model P w) callerA (.call (.ref fa) ⟨[.ref a],[]⟩) (λr s'=>r= .ok (.ret (.bool true))/\OldK s₁.heap s'.heap/\s'.os=s₁.os/\AllBare s'.gens) s₁:=by
  intro H hO hS hok hA hK
  have JL: ∀ {b:Addr} {o:Obj},s₁.heap.get? b=some o->H b=none->(oN s₁.heap H).get? b=some o:=λe n=>VP e n
  have xZ: ∀ {b:Addr} {o:Obj} {es:Array DictEntry} {ep:Nat},s₁.heap.get? b=some o->o.data= .dict es ep->H b=none:=λ{b o es ep} e d=>by
   cases q:H b with
   |none=>rfl
   |some u=>
    have e':b=a:=hA b (by rw[q];simp)
    subst e'
    rw[ha]at e;cases e
    have d':Data.seq vs.toArray _=Data.dict es ep:=d
    cases d'
  have By: ∀ {b:Addr} {m:Str->Option Value},s₁.heap.Ns b m->(oN s₁.heap H).Ns b m:=λ{b m} ⟨o,es,ep,e,d,r⟩=>⟨o,es,ep,JL e (xZ e d),d,r⟩
  have Li:K.In (oN s₁.heap H):=λb o e=>JL (KX b o e) (by
   cases q:H b with
   |none=>rfl
   |some u=>
    have e':b=a:=hA b (by rw[q];simp)
    subst e'
    rw[hK (by rw[q];simp)]at e;cases e)
  have hM:Mod K mg (oN s₁.heap H):=⟨Li,By fe,⟨mb,By hb,Vm⟩,let⟨mc,h1,h2⟩:=V2;⟨mc,By h1,h2⟩⟩
  have e0:re P w K mg (oN s₁.heap H) callerA [] s₁ H:=⟨rfl,hM,λb o e=>Z9 e,Nat.le_of_eq (VQ _ _),trivial,λb hb=>absurd (show b∈([]:List Addr)from hb) (by simp),hok,.of_eq hg⟩
  refine rW ((F _ Li (By fe)).run callerA [] s₁ H ⟨[.ref a],[]⟩ [.ref a] [.ref a] _ _ hr e0 (Vn s₁ (.ref a)) (.cons rfl .nil) (qr H hO hS)) λr s' h=> ?_
  cases r with
  |error e=>exact(Ef H e s' h).elim
  |ok fl=>
   cases fl with
   |next=>exact False.elim h
   |brk=>exact False.elim h
   |cont=>exact False.elim h
   |ret u=>
    obtain⟨v,H',os,fC,un,Wl,r',q⟩:=h
    have q':v= .bl true:=q
    subst q'
    obtain rfl:u=Value.bool true:=r'
    exists rfl,OldK.of_keep λb o e=> ?_,os,fC
    cases q:H b with
    |none=>exact un.keep b o e q (by intro z;exact absurd (show b∈([]:List Addr)from z) (by simp)) (by simp)
    |some u=>
     rcases hO b with z|⟨ob,xs,z⟩
     ·rw[q]at z;cases z
     ·have z2:=un.jl b ob _ z
      obtain⟨e1,_⟩:=hok b _ z
      obtain⟨e2,_⟩:=Wl b _ z2
      rw[e]at e1;cases e1
      exact e2
 (cases hk:K.lookup a with|some o=>have e:=KX a o hk;rw[ha]at e;cases e;refine core (λ_=>none) (λ_=> .inl rfl) (.inr ⟨_,vs.toArray,_,hk,rfl,rfl,rfl,by rw[cE,Yc];exact hl,by simpa using rv⟩) (λb u z=>by have z':(none:Option HO)=some u:=z;cases z') (λb z=>absurd rfl z) λz=>absurd rfl z|none=>refine core (λb=>if b=a then some (.cc {cls:= .type "list",data:= .seq vs.toArray} (.aK (ns.map V.int)))else none) (λb=> ?_) (.inl (.inr ⟨{cls:= .type "list",data:= .seq vs.toArray},aT rfl⟩)) (λb u z=> ?_) (λb z=> ?_) λ_=>hk;by_cases hb:b=a;exact .inr ⟨_,_,aT hb⟩;exact .inl (aU hb);by_cases hb:b=a;have z':=(aT hb).symm.trans z;cases z';subst hb;exists ha,by rw[bq];exact hl,vs,_,rv,ha;have z':=(aU hb).symm.trans z;cases z';by_cases hb:b=a;exact hb;exact absurd (aU hb) z)
abbrev KOf{K:W.Frag}{h:Heap}(_:K.In h):W.Frag:=K
def a42{l:W.OpenLaw}{n k:Nat}{XP:(aA->ap aa)->ak->Prop}{YP:ag->ak->Prop}{d:DefRec}{K:Params->W.Frag}{CX:ag->iQ}{sp:ag->Sp}{x:aA}(hn:l.most=some n)(hn2:n<=sizeLine)(xl:d.params.defaults= [])(hr:fA k callerA)(hY: ∀ (w:ag) (h:ak),YP w h->(K w.params).In h)(F: ∀ (w:ag) (mg:aA->ap aa) (fa:ae) (h:ak),(K w.params).In h->h.Ns mainGlobals mg->mg d.name=some (.ref fa)-> ∃fd:ah,(∀ (s:ac) (u:aa),BindsTo s fd ⟨[u],[]⟩ [(x,u)])/\ ∀base:ak,(K w.params).In base->base.Ns mainGlobals mg->bw l.prog w (K w.params) mg base (CX w) k fa fd [x] (sp w))(qr: ∀ (w:ag) (H:Hp) (a:ae) (ns:aq Int),ns.length<=n->zJ H->aQ (K w.params) H a (ns.map V.int)->sp w [.ref a] H (λv _=>v= .bl true) λ_ _ _=>False)(Ef: ∀ (w:ag) (H:Hp) (s:ac) (e:aa) (s':ac),CX w [] H s (λ_ _ _=>False) e s'->False):W.WalkO q loose XP YP l.row.toRowW d [] (λf vs=>PySem.call f vs):=by refine Jf.Rp hn xl λw s₀ s₁ mg mb fa o pm cd doc a vs ns G Y ho hd hcd xA EZ EG cf hg=> ?_;have KX:=hY w _ Y;obtain⟨fd,hb,hF⟩:=F w mg fa _ KX G.T.g xA;exact X8 KX G.T.g G.T.b G.T.builtins G.T.nolimit hg EZ EG (dS cf hn2) hr hF hb (λH hO hS=>qr w H a ns cf hO hS) λH e s'=>Ef w H s₁ e s'
def gf(s:Stmt)(j:Nat):Stmt:=match s with
 | .ClassDef _ _ _ body _ _ _ _ _ _ _=>body.getD j (.Pass ⟨0,0,0,0⟩)
 |_=> .Pass ⟨0,0,0,0⟩
def ji(s:Stmt):Arguments:=match s with
 | .FunctionDef _ a _ _ _ _ _ _ _ _=>a
 |_=> {posonlyargs:= [],args:= [],vararg:=none,kwonlyargs:= [],kw_defaults:= [],kwarg:=none,defaults:= []}
/---/def iY(s:Stmt):List Stmt:=match s with
 | .FunctionDef _ _ b _ _ _ _ _ _ _=>b
 |_=> []
def bo(s:Stmt):Scope:=match s with
 | .FunctionDef _ _ _ _ _ _ sc _ _ _=>sc
 |_=> {kind:= .function,names:= [],isGenerator:=false,isCoroutine:=false}
abbrev bh:iQ:=λ_ _ _ _ _ _=>False
abbrev E0:XK:=λ_ _ _=>False
def bt:mX bh X E0:=λ_ _ _ _ _ _ _ h=>h.elim
structure bK(K:W.Frag)(x fh:Str)(st:Stmt)(f:Addr)(fd:FuncData):Prop where
 ex: ∃ (oc:Value) (od:Option Addr) (kV doc pm:Value) (an:Option Addr) (bd ct:Value) (jZ:Array (Option Value)),
  fd=W.fnOf x fh (ji st) (iY st) (bo st) .none kV doc pm an bd ct/\K.lookup f=some ⟨oc,od,.func fd,jZ⟩/\W.codeIn K bd fh=true
 kp:W.keepIn K (.ref f)=true
section
variable{P:af}{w:ag}{K:W.Frag}{mg:aA->ap aa}{base:ak}
def bK.ok{x fh:aA}{st:ay}{f:ae}{fd:ah}{N ps:aq aA}{k:Nat}{sp:Sp}(F:bK K x fh st f fd)(S:bP N ps (bo st))(len: ∀vs H Q E,sp vs H Q E->vs.length=ps.length)(hbody: ∀ (bd:aa) (A:ao) (outer:aq Env) (s:ac) (H:Hp) (vs:aq V) (Q:VK) (E:XK),fA k (A.deeper (envOfC fh (bo st) s.heap.objs.size f bd))->sp vs H Q E-> ∃t,jI (uO bh P w K mg base N fh (bo st) f bd A outer s H E).Bx (iY st) t/\t {nx:=λ_ H'=>Q .aN H',rt:=Q} (start N vs) H):bw P w K mg base bh (k+1) f fd ps sp:=by obtain⟨oc,od,kV,doc,pm,an,bd,ct,jZ,rfl,lk,hcd⟩:=F.ex;refine TY lk hcd S len λA outer s H vs Q E hr qr=> ?_;obtain⟨t,h,q⟩:=hbody bd A outer s H vs Q E hr qr;exists t,h.Bx,q
def bK.binds{x fh:aA}{st:ay}{f:ae}{fd:ah}{ps:aq aA}(F:bK K x fh st f fd)(h: ∀ (kV doc pm:aa) (an:ap ae) (bd ct:aa) (us:aq aa),us.length=ps.length->bindArgs (W.fnOf x fh (ji st) (iY st) (bo st) .none kV doc pm an bd ct) ⟨us,[]⟩=pure (ps.zip us)):gQ K fd ps []:=by obtain⟨oc,od,kV,doc,pm,an,bd,ct,jZ,rfl,lk,hcd⟩:=F.ex;exact .all (h kV doc pm an bd ct)
def K0{x:aA}{st:ay}{f:ae}{oc:aa}{od:ap ae}{jZ:au (ap aa)}{kV:aa}(l:K.lookup f=some ⟨oc,od,.func (W.fnOf x fh (ji st) (iY st) (bo st) .none kV doc pm an bd ct),jZ⟩)(c:W.codeIn K bd fh=true)(k:W.keepIn K (.ref f)=true):bK K x fh st f (W.fnOf x fh (ji st) (iY st) (bo st) .none kV doc pm an bd ct):=⟨⟨oc,od,kV,doc,pm,an,bd,ct,jZ,rfl,l,c⟩,k⟩
end
def pH{n:Nat}(h:n<=1000):n<sizeLine:=wF h (by decide)
section
variable{X:Cx}
def pv(i:Nat){x:aA}(hN:X.N[i]? =some x:=by rfl)(hv:zR X.env.scope x:=by first|exact Or.inl rfl|exact Or.inr (Or.inl rfl)|exact Or.inr (Or.inr rfl))(hd:(x==("__debug__":aA))=false:=by decide)(hcd:(x==("__classdict__":aA))=false:=by decide):PE X (.Name x pos) (pJ i):=a1C hN hv hd hcd
end
def cG{A B:Prop}(h:B):if false=true then A else B:=by rw[aU fI];exact h
def dj{A B:Prop}(h:A):if true=true then A else B:=by rw[aT rfl];exact h
def bJ{c A B:Prop} [Decidable c](h1:c->A)(h2: ¬c->B):if c then A else B:=by by_cases h:c;rw[aT h];exact h1 h;rw[aU h];exact h2 h
def aY(H H':Hp):Prop:= ∀b o,H b=some o->H' b=some o
def aY.refl(H:Hp):aY H H:=λ_ _ h=>h
def aY.trans{H H1 H2:Hp}(a:aY H H1)(b:aY H1 H2):aY H H2:=λc o h=>b c o (a c o h)
def aY.free{H H':Hp}(e:aY H H'){l:ae}(h:H' l=Option.none):H l=Option.none:=by cases q:H l with|none=>rfl|some o=>rw[e l o q]at h;cases h
def aY.seq{K:W.Frag}{H H':Hp}{a:ae}{xs:aq V}(e:aY H H')(h:aQ K H a xs):aQ K H' a xs:=by rcases h with(h|⟨o,h⟩)|h;exact .inl (.inl (e _ _ h));exact .inl (.inr ⟨o,e _ _ h⟩);exact .inr h
end L2
namespace K2
abbrev T:=List Nat
inductive bu where
 |aN|int (i:Int)|str (x:T)
 deriving DecidableEq
inductive PV where
 |at(a:bu)|aC (xs:List PV)
/---/def Z2:Int->T
 | .ofNat n=>(Nat.toDigits 10 n).map Char.toNat
 | .negSucc n=>45::(Nat.toDigits 10 (n+1)).map Char.toNat
def gK:T:= [115,101,110,100]
def gi:T:= [116,97,107,101]
def gJ:T:= [112,111,115,116]
def gj:T:= [119,97,105,116]
def dk:T:= [116,101,108,108]
def gI:T:= [97,100,100]
def dZ:T:= [99,97,115,101]
def fP:T:= [97,108,108]
def a41:T:= [97,110,121]
/---/def bu.text:bu->T
 | .aN=> [97,110,121]
 | .int i=>Z2 i
 | .str x=>x
def sp(c:Nat):Bool:=PySem.Unicode.isSpace c
def RR(x:T):Bool:= !x.isEmpty&&x.all λc=> !sp c&&c !=123&&c !=125&&c !=59
inductive Kind where
 |dc|mark|kJ|jK|kQ|fc|iJ|rows
 deriving DecidableEq
/---/def iZ(x:T):Option (List Kind):=
 if x=gK then some [.dc,.mark,.kJ]
 else if x=gi then some [.jK,.kQ,.fc]
 else if x=gJ then some [.fc,.jK,.kQ,.fc]
 else if x=gj then some [.fc]
 else if x=dk then some [.kJ]
 else if x=gI then some [.fc,.kJ,.kJ]
 else if x=dZ then some [.fc,.iJ,.rows,.rows]
 else if x=fP then some []
 else none
/---/def Bo:Option Kind->Bool
 |some .jK=>true
 |some .kQ=>true
 |_=>false
/---/def ZD:List PV->Option Kind
 | .at (.str x)::r=>((iZ x).getD [])[r.length]?
 |_=>none
def Xr(c:Nat):Bool:=48<=c&&c<=57
def DO(x:T):T:=match x with|45::r=>r|_=>x
def Xu(x:T):Bool:=1<=(DO x).length&& (DO x).length<=7&& (DO x).all Xr
def NA(x:T):Nat:=x.foldl (λa c=>10*a+(c-48)) 0
def Xl(x:T):Int:=match x with|45::r=> -(NA r:Int)|_=>NA x
def a2E(x:T)(row:List PV):bu:=
 if x=a41/\Bo (ZD row)=true then .aN
 else if Xu x=true then .int (Xl x)
 else .str x
/---/def eO(l:List bu):List PV:=l.map PV.at
/---/def rS(pre:List bu):List bu->Bool
 | []=>true
 |a::r=>RR a.text&&decide (a2E a.text (eO pre)=a) &&rS (pre++ [a]) r
inductive bp where
 |bF (aF:List bu)
 |ga (hd:List bu) (r1 r2:List bu)
/---/def bp.pv:bp->PV
 | .bF aF=> .aC (eO aF)
 | .ga hd r1 r2=> .aC (eO hd++ [.aC [.aC (eO r1)],.aC [.aC (eO r2)]])
/---/def bp.ok:bp->Bool
 | .bF aF=> !aF.isEmpty&&rS [] aF
 | .ga hd r1 r2=> !hd.isEmpty&&rS [] hd&& !r1.isEmpty&&rS [] r1&& !r2.isEmpty&&rS [] r2
end K2
namespace K2
/---/def o7:PV->Bool
 | .at (.int i)=>decide (0<=i) &&decide (i<=9)
 |_=>false
/---/def o8:PV->Bool
 | .at (.int i)=>decide (-1000000<=i) &&decide (i<=1000000)
 |_=>false
/---/def mr:PV->Bool
 | .at (.str x)=>decide (1<=x.length) &&decide (x.length<=3) &&x.all λc=>decide (97<=c) &&decide (c<=122)
 |_=>false
def o9(p:PV):Bool:=o8 p||mr p
/---/def AW:PV->Bool
 | .aC _=>true
 |_=>false
/---/def AU(others:List Int):PV->Bool
 | .at (.int i)=>others.contains i
 |_=>false
/---/def fits(others:List Int):PV->Kind->Bool
 | .at .aN,k=>Bo (some k)
 |p,.dc=>AU others p
 |p,.jK=>AU others p
 |p,.mark=>o7 p
 |p,.kQ=>o7 p
 |p,.iJ=>o8 p
 |p,.fc=>mr p
 |p,.kJ=>o9 p
 |p,.rows=>AW p
def xa(others:List Int)(aF:List PV)(ks:List Kind):Bool:=(aF.zip ks).all λq=>fits others q.1 q.2
/---/def iH(others:List Int):PV->Bool
 | .aC (.at (.str x)::aF)=>match iZ x with
  |some ks=>decide (aF.length=ks.length) &&xa others aF ks
  |none=>false
 |_=>false
/---/def ig:PV->List PV
 | .aC [.at (.str x),_,_,a,b]=>if x=dZ then [a,b]else []
 |_=> []
/---/def walk(others:List Int):Nat->Nat->List PV->Option Nat
 |0,_,_=>none
 |_+1,gF,[]=>some gF
 |_+1,_,.at _::_=>none
 |f+1,gF,.aC rs::rest=>if 40<gF+rs.length then none else if rs.all (iH others)then walk others f (gF+rs.length) ((rs.flatMap ig).reverse++rest)else none
/---/def count(others:List Int)(script:PV):Option Nat:=walk others 100 0 [script]
/---/def bM(n dc:Nat):List Int:=((List.range n).filter (· ≠dc)).map λ(k:Nat)=>(k:Int)
/---/def iX(n:Nat):Nat->List PV->Option Nat
 |_,[]=>some 0
 |i,s::r=>(count (bM n i) s).bind λa=>(iX n (i+1) r).map λb=>a+b
/---/def iG:PV->Bool
 | .aC ss=>decide (2<=ss.length) &&decide (ss.length<=5) && (match iX ss.length 0 ss with|some m=>decide (m<=40)|none=>false)
 |_=>false
def a2O(p:PV):(ig p).length<=2:=by unfold ig;split;split<;>simp;simp
def sr(rs:aq PV):(rs.flatMap ig).length<=2*rs.length:=by induction rs with|nil=>simp|cons a r ih=>have:=a2O a;simp only[zy,gn,cU];lia
def T4{x:T}{ks:aq Kind}(h:iZ x=some ks)(hk:Kind.rows∈ks):x=dZ/\ks= [.fc,.iJ,.rows,.rows]:=by
 unfold iZ at h;(repeat' split at h);all_goals first
  |(cases h;exfalso;revert hk;decide)
  |(cases h;exists by assumption,rfl)
  |cases h
def AV(h:iH others p=true): ∃x aF ks,p= .aC (.at (.str x)::aF)/\iZ x=some ks/\aF.length=ks.length/\xa others aF ks=true:=by unfold iH at h;split at h;rename_i x aF;split at h;rename_i ks hf;simp only[gR,lT]at h;exists x,aF,ks,rfl,hf,h.1,h.2;cases h;cases h
def D8{k:Kind}(h:fits others (.aC xs) k=true):k= .rows:=by cases k<;>first|rfl|(revert h;simp[fits,AU,o7,o8,mr,o9])
def Xw(h:iH others p=true): ∃aF,p= .aC aF/\ ∀it∈aF,(∃a,it= .at a)\/it∈ig p:=by
 obtain⟨x,aF,ks,rfl,hf,hl,hfit⟩:=AV h;exists _,rfl,λit hit=> ?_;rcases List.mem_cons.mp hit with e|hit;exact .inl ⟨_,e⟩;cases it with
 |«at» a=>exact .inl ⟨a,rfl⟩
 |aC xs=>
  right;obtain⟨i,hi,e⟩:=gT hit;(have hz:(PV.aC xs,ks[i]'(by lia))∈aF.zip ks:=(by rw[List.mem_iff_getElem];exact⟨i,by simp;lia,by simp[e]⟩));have q:=List.all_eq_true.mp hfit _ hz;have hk:ks[i]'(by lia)= .rows:=D8 q;obtain⟨ex,Tf⟩:=T4 hf (hk▸kP _);(have e':aF[i]? =some (.aC xs):=by rw[br hi,e]);(have sL:ks[i]? =some .rows:=by rw[br (by lia),hk]);clear e hk hz q hit hfit;subst ex Tf;match aF,hl,e' with
  | [a,b,c,d],_,e'=>
   simp only[ig,gc];match i,sL,e' with
   |0,sL,_=>simp at sL
   |1,sL,_=>simp at sL
   |2,_,e'=>simp at e';subst e';simp
   |3,_,e'=>simp at e';subst e';simp
mutual
/---/def cnt:PV->Nat
 | .at _=>0
 | .aC rs=>nj rs
/---/def rV:PV->Nat
 | .at _=>0
 | .aC aF=>1+jM aF
/---/def jM:List PV->Nat
 | []=>0
 |p::r=>cnt p+jM r
/---/def nj:List PV->Nat
 | []=>0
 |p::r=>rV p+nj r
end
def Kb{l:aq PV}(h: ∀it∈l,∃a,it= .at a):jM l=0:=by induction l with|nil=>simp[jM]|cons p r ih=>obtain⟨a,rfl⟩:=h p fk;simp[jM,cnt,ih λit hit=>h it (fJ _ hit)]
def fG(l:List PV):Nat:=(l.map cnt).sum
def DJ(l:aq PV):jM l=fG l:=by induction l with|nil=>simp[jM,fG]|cons p r ih=>simp[jM,fG,ih]
def RU(h:iH others p=true):rV p=1+fG (ig p):=by
 obtain⟨aF,e,q⟩:=Xw h;subst e;simp only[rV];(congr 1);obtain⟨x,xQ,ks,e2,hf,hl,hfit⟩:=AV h;cases e2;by_cases hc:x=dZ
 ·subst hc;(have hk:ks= [.fc,.iJ,.rows,.rows]:=(by(have:iZ dZ=some [.fc,.iJ,.rows,.rows]:=by decide);rw[this]at hf;exact(gp hf).symm));subst hk;match xQ,hl with
  | [a,b,c,d],_=>(have ha:fits others a .fc=true:=(by have:=List.all_eq_true.mp hfit (a,.fc) (by simp);exact this));(have hb:fits others b .iJ=true:=(by have:=List.all_eq_true.mp hfit (b,.iJ) (by simp);exact this));(have na:cnt a=0:=(by cases a with|«at» _=>simp[cnt]|aC xs=>have:=D8 ha;cases this));(have nb:cnt b=0:=(by cases b with|«at» _=>simp[cnt]|aC xs=>have:=D8 hb;cases this));simp[ig,jM,cnt,fG,na,nb]
 (have e0:ig (.aC (.at (.str x)::xQ))= []:=(by unfold ig;split;rename_i y a b c d e;cases e;rw[aU hc];rfl));rw[e0]at q⊢;(have:=Kb (l:= .at (.str x)::xQ) λit hit=>(by rcases q it hit with z|z;exact z;simp at z));rw[this];simp[fG]
def tW(a b:aq PV):fG (a++b)=fG a+fG b:=by simp[fG]
def a31(a:aq PV):fG a.reverse=fG a:=by induction a with|nil=>rfl|cons p r ih=>rw[List.reverse_cons,tW,ih];simp[fG];lia
def RV{rs:aq PV}(h:rs.all (iH others)=true):nj rs=rs.length+fG (rs.flatMap ig):=by induction rs with|nil=>simp[nj,fG]|cons p r ih=>simp only[List.all_cons,gR]at h;rw[nj,RU h.1,ih h.2,zy,tW,cU];lia
def QW(others:aq Int): ∀ (f gF:Nat) (st:aq PV) (m:Nat),walk others f gF st=some m->m=gF+fG st
 |0,_,_,_,h=>by simp[walk]at h
 |f+1,gF,[],m,h=>by simp[walk]at h;simp[fG,h]
 |f+1,gF,.at _::_,m,h=>by simp[walk]at h
 |f+1,gF,.aC rs::rest,m,h=>by simp only[walk]at h;split at h;cases h;split at h;rename_i hall;have ih:=QW others f _ _ m h;rw[ih,tW,a31,show(PV.aC rs::rest)= [PV.aC rs]++rest from rfl,tW];have e:=RV hall;(have e2:fG [PV.aC rs]=nj rs:=by simp[fG,cnt]);lia;cases h
end K2
namespace K2
def KY{x:T}{ks:aq Kind}(h:iZ x=some ks):x.length<=4/\ks.length<=4/\ ∃c r,x=c::r/\c≠32:=by
 unfold iZ at h;(repeat' split at h);all_goals first
  |(rename_i e;cases h;subst e;exact⟨by decide,by decide,_,_,rfl,by decide⟩)
  |cases h
def kl(bB:List (List bp)):PV:= .aC (bB.map λds=> .aC (ds.map bp.pv))
structure Drawn(bB:List (List bp)):Prop where
 ok: ∀ds∈bB,ds≠ []/\ ∀d∈ds,d.ok=true
 prog:iG (kl bB)=true
end K2
namespace K2
/---/def jc:List bu:= [.int 1,.int 2,.int 7,.int (-3),.str [97],.str [98]]
/---/def eF:List bu:= [.str [97],.str [98]]
/---/def jx:List bu:= [.str [116],.str [117]]
/---/def pj:List bu:= [.int 0,.int 1,.aN]
/---/def lJ(others:List Int):List bu:= .aN::others.map bu.int
/---/def b0(others:List Int):List (List bu):=
 (others.flatMap λt=> [0,1].flatMap λm=>jc.map λth=> [.str gK,.int t,.int m,th])
 ++((lJ others).flatMap λw=>pj.flatMap λm=>eF.map λb=> [.str gi,w,m,b])
 ++(jx.flatMap λt=>(lJ others).flatMap λw=>pj.flatMap λm=>eF.map λb=> [.str gJ,t,w,m,b])
 ++(jx.map λt=> [.str gj,t])
 ++(eF.flatMap λb=>jc.flatMap λx=>jc.map λy=> [.str gI,b,x,y])
 ++ [[.str fP],[.str dk,.int 5]]
 ++(jc.map λt=> [.str dk,t])
/---/def uX:List (List bu):=eF.flatMap λb=> [0,1,2].map λ(n:Int)=> [.str dZ,b,.int n]
def uT(others:List Int)(aF:List bu):Bool:=
 !aF.isEmpty&&rS [] aF&&iH others (.aC (eO aF)) && (ig (.aC (eO aF))).isEmpty&&decide (aF.head?≠some (.str dZ))
def TW: ∀n∈ [2,3,4],∀me∈List.range n,(b0 (bM n me)).all (uT (bM n me))=true:=by decide+kernel
def LB:uX.all (λh=> !h.isEmpty&&rS [] h&&decide (h.head?=some (.str dZ)))=true:=by decide+kernel
def xb{n me:Nat}(h2:2<=n)(h4:n<=4)(hm:me<n){aF:aq bu}(h:aF∈b0 (bM n me)):uT (bM n me) aF=true:=by(have hn:n∈ [2,3,4]:=(by(have:n=2\/n=3\/n=4:=by lia);rcases this with e|e|e<;>subst e<;>decide));exact List.all_eq_true.mp (TW n hn me (List.mem_range.mpr hm)) aF h
inductive Row(others:List Int):bp->Prop where
 |bF {aF:List bu} (h:aF∈b0 others):Row others (.bF aF)
 |ga {hd r1 r2:List bu} (h:hd∈uX) (h1:r1∈b0 others) (h2:r2∈b0 others):Row others (.ga hd r1 r2)
def OR{n me:Nat}(h2:2<=n)(h4:n<=4)(hm:me<n)(h:Row (bM n me) d):d.ok=true:=by cases h with|bF h=>have:=xb h2 h4 hm h;simp only[uT,gR]at this;simp only[bp.ok,gR];exact this.1.1.1|ga h h1 kq=>have g1:=xb h2 h4 hm h1;have g2:=xb h2 h4 hm kq;have g0:=List.all_eq_true.mp LB _ h;simp only[uT,gR]at g0 g1 g2;simp only[bp.ok,gR];exists⟨⟨⟨⟨g0.1.1,g0.1.2⟩,g1.1.1.1.1⟩,g1.1.1.1.2⟩,g2.1.1.1.1⟩,g2.1.1.1.2
/---/def bp.qw:bp->Bool
 | .bF _=>false
 | .ga _ _ _=>true
def a4E:bp:= .bF [.str dk,.int 1]
/---/def uc(ds:List bp):List bp:=(ds.take 4).filter (λd=> !d.qw)++ [a4E]
def a4F(others:aq Int): [.str dk,.int 1]∈b0 others:=by unfold b0;refine db _ ?_;decide
def IG{ds:aq bp}(h: ∀d∈ds,Row others d): ∀d∈uc ds,∃aF,d= .bF aF/\aF∈b0 others:=by intro d hd;rcases List.mem_append.mp hd with q|q;(obtain⟨q1,q2⟩:=List.mem_filter.mp q;cases h d (List.mem_of_mem_take q1)with|bF z=>exact⟨_,rfl,z⟩|ga _ _ _=>cases q2);simp at q;subst q;exists _,rfl,a4F others
def QD(ds:aq bp):1<=(uc ds).length/\(uc ds).length<=5:=by have h:=wA (λd:bp=> !d.qw) (ds.take 4);(have h2:(ds.take 4).length<=4:=by rw[kf];lia);simp only[uc,gn,cU,rE];lia
def RY{n me:Nat}(h2:2<=n)(h4:n<=4)(hm:me<n){ds:aq bp}(hl:ds.length<=40)(h: ∀d∈ds,∃aF,d= .bF aF/\aF∈b0 (bM n me)):count (bM n me) (.aC (ds.map bp.pv))=some ds.length:=by(have g: ∀d∈ds,iH (bM n me) d.pv=true/\ig d.pv= []:=λd hd=>(by obtain⟨aF,rfl,hi⟩:=h d hd;have:=xb h2 h4 hm hi;simp only[uT,gR,List.isEmpty_iff]at this;exists this.1.1.2,this.1.2));(have e1:(ds.map bp.pv).all (iH (bM n me))=true:=(by rw[List.all_map,wu];exact λd hd=>(g d hd).1));(have e2:(ds.map bp.pv).flatMap ig= []:=(by rw[List.flatMap_eq_nil_iff];intro p hp;obtain⟨d,hd,rfl⟩:=List.mem_map.mp hp;exact(g d hd).2));simp only[count,walk];rw[aU (by rw[bq];lia),aT e1,e2];simp[walk]
def Kh{n:Nat}(h2:2<=n)(h4:n<=4): ∀ (bB:aq (aq bp)) (i:Nat),i+bB.length=n->(∀ (j:Nat) (ds:aq bp),bB[j]? =some ds->ds.length<=5/\ ∀d∈ds,∃aF,d= .bF aF/\aF∈b0 (bM n (i+j)))-> ∃m,iX n i (bB.map λds=> .aC (ds.map bp.pv))=some m/\m<=5*bB.length
 | [],_,_,_=>⟨0,rfl,by simp⟩
 |ds::r,i,hi,h=>by have h0:=h 0 ds rfl;rw[uz]at h0;simp only[cU]at hi;(obtain⟨m,e,hm⟩:=Kh h2 h4 r (i+1) (by lia) λj z hz=>(by have:=h (j+1) z (by simpa using hz);rw[show i+1+j=i+(j+1)by lia];exact this));exists ds.length+m,?_,?_;rw[bH,iX,RY h2 h4 (by lia) (by lia) h0.2,e];rfl;simp only[cU];lia
def Xv{bB:aq (aq bp)}(h2:2<=bB.length)(h4:bB.length<=4)(h: ∀ (j:Nat) (ds:aq bp),bB[j]? =some ds->ds.length<=5/\ ∀d∈ds,∃aF,d= .bF aF/\aF∈b0 (bM bB.length j)):iG (kl bB)=true:=by(obtain⟨m,e,hm⟩:=Kh h2 h4 bB 0 (by lia) λj ds hj=>(by rw[Nat.zero_add];exact h j ds hj));simp only[iG,kl,bq];rw[e];simp only[gR,lT];lia
def zQ(n:Nat)(bB:List (List bp)):Prop:=bB.length=n/\ ∀ (j:Nat) (ds:List bp),bB[j]? =some ds->ds≠ []/\ ∀d∈ds,Row (bM n j) d
/---/def settle(bB:List (List bp)):List (List bp):=if iG (kl bB)=true then bB else bB.map uc
def a3L{n:Nat}(h2:2<=n)(h4:n<=4)(h:zQ n bB):Drawn (settle bB):=by obtain⟨hn,hs⟩:=h;subst hn;(have sub: ∀ds∈bB,∃j,bB[j]? =some ds/\j<bB.length:=λds hd=>(by obtain⟨j,hj,e⟩:=gT hd;exists j,by rw[br hj,e],hj));unfold settle;split;rename_i hp;exists λds hd=> ?_,hp;obtain⟨j,e,hj⟩:=sub ds hd;obtain⟨q1,q2⟩:=hs j ds e;exists q1,λd hd=>OR h2 h4 hj (q2 d hd);exists λds' hd'=> ?_,Xv (by simpa using h2) (by simpa using h4) λj ds' e=> ?_;obtain⟨ds,hd,rfl⟩:=List.mem_map.mp hd';obtain⟨j,e,hj⟩:=sub ds hd;obtain⟨q1,q2⟩:=hs j ds e;exists λz=> ?_,λd hd=> ?_;have:=(QD ds).1;rw[z]at this;simp at this;obtain⟨aF,rfl,hi⟩:=IG q2 d hd;exact OR h2 h4 hj (.bF hi);rw[cB]at e;cases q:bB[j]? with|none=>rw[q]at e;cases e|some ds=>rw[q]at e;cases e;rw[bq];exists(QD ds).2,IG (hs j ds q).2
end K2
namespace K2
open PySem PySem.Builtin PySem.Builtin.Str PySem.NumText
def S(x:T):Str:=⟨x.toArray⟩
def L(x:Str):T:=x.cps.toList
def pY{x y:T}(h:S x=S y):x=y:=by have:=kS L h;exact this
def Yd(x:aA):x.length=(L x).length:=by simp[L,Str.length]
def M8(x:T):(S x).length=x.length:=by rw[Yd];rfl
end K2
namespace L2
open PySem PySem.Spec PyProof.Rows K2
section
variable{X:Cx}
def lS:gS X (.builtin "isinstance") (λxs H Q=> ∃ (x c:V) (t cv:aa) (b:Bool),xs= [x,c]/\jg X.K H x t/\(∀u,bm c u->u=cv)/\W.kitOne X.K t cv=some b/\Q (.bl b) H):=by intro aB s σ H xs us Q I r h;obtain⟨x,c,t,cv,b,rfl,ty,hc,hk,q⟩:=h;obtain⟨u,v,rfl,ru,rv⟩:=QO r;cases hc v rv;exact Xx I ru ty hk λtk=>⟨.bl b,H,I.tok tk,rfl,q⟩
def zX(hc:X.gu=true):gS X (.builtin "all") (λxs H Q=> ∃ (a:ae) (bs:aq Bool),xs= [.ref a]/\aQ X.K H a (bs.map V.bl)/\Q (.bl (bs.all id)) H):=by intro aB s σ H xs us Q I r h;obtain⟨a,bs,rfl,hq,q⟩:=h;obtain⟨u,rfl,ru⟩:=jA r;cases ru;obtain⟨aF,rv,pl,hz⟩:=I.list hq;refine call_all_walkS (wpAny_pyIter_list pl.isList ?_);(have hlt:a<s.heap.objs.size:=(by obtain⟨o,n,e,_⟩:=pl;exact bL e));have cf:=rv.length;(have Fn: ∀i v,aF.toArray[i]? =some v->v=Value.bool (bs.getD i true):=λi v e=>(by(have e':aF[i]? =some v:=by simpa using e);have hi:i<aF.length:=(List.getElem?_eq_some_iff.mp e').1;(have hb:(bs.map V.bl)[i]? =some (.bl (bs.getD i true)):=(by rw[bq]at cf;(have mf:i<bs.length:=by lia);simp[mf]));obtain⟨w',e2,rw'⟩:=rv.get hb;rw[e']at e2;cases e2;exact rw'));exists s.heap.objs.size,_,_,_,_,_,_,λi=>bs.getD i true,rfl,(Walks.list (A:=X.A.in1) (show X.A.in1.handled=none from I.ok.hd hc) s.heap.objs.size a (cp hlt) aF.toArray).toS,?_,?_,?_;exists⟨_,cS _ rfl,rfl,rfl⟩,pl.isList.push _;intro i v s' Q' E' hv eV;rw[Fn i v hv];exact mR eV;intro s' mv;obtain⟨hh,g,d,tk,os⟩:=s';have h1:g=s.gens:=mv.gens;have h2:d=s.drawn:=mv.drawn;have h3:os=s.os:=mv.os;subst h1 h2 h3;have I1:aG X aB σ H {s with heap:=s.heap.push {cls:= .type "list_iterator",data:= .fields #[.ref a,.int 0 0]}}:=I.kept (t':=s.toks) λb o e=>bS _ e;(have I2:aG X aB σ H ⟨hh,s.gens,s.drawn,tk,s.os⟩:=(by obtain⟨f0,f1,f2,f3,f4,f5⟩:=I.kW (b:=s.heap.objs.size) (aV _) I.fresh;have:=I1.j7 (it:=s.heap.objs.size) (h':=hh) (t':=tk) (λb o hb e=>mv.heap b o (by simpa using hb) e) f0 f1 f3 f4 f5;exact this));exists .bl _,H,I2,rfl,?_;(have e:(List.range aF.toArray.size).all (λi=>bs.getD i true)=bs.all id:=(by rw[cE,<-cf,bq];rw[pP,wu,wu];constructor;intro h b hb;obtain⟨i,hi,e⟩:=gT hb;have:=h i (List.mem_range.mpr hi);simpa [hi,e]using this;intro h i hi;have ce:=List.mem_range.mp hi;have:=h bs[i] (kP ce);simpa [ce]using this));rw[e];exact q
end
section
variable{prog:af}{w:ag}{A:ao}{R:Result->ac->Prop}{s:ac}
abbrev CH(ifs:List Expr)(env:Env):Sem Bool:=forIn ifs true λc r=>if r=true then do let ok<-isTrue c env (eval c env);pure (ForInStep.yield ok)else pure (ForInStep.yield r)
def RX{iter:Expr}{scope:Scope}{acc:aa}(Iv:Nat->ac->Prop)(Ex:aa->ac->Prop)(fR: ∀e s',Ex e s'->notedBy (model prog w) A env (λe s'=>R (.error e) s') e s')(turn: ∀n s,Iv n s->wpAny (model prog w) A (pyNext it) (λr s1=>match r with
   |none=>R (.ok .next) s1
   |some v=>wpAny (model prog w) A (letOwnedTupleGo target it v) (λ_ s2=>wpAny (model prog w) A (assign target env v) (λ_ s3=>wpAny (model prog w) A (CH ifs env) (λok s4=>
     if ok=true then wpAny (model prog w) A (eval elt env) (λx s5=>wpAny (model prog w) A (call (.builtin "list.append") [acc,x]) (λ_ s6=> ∃m,m<n/\Iv m s6) Ex s5) Ex s4
     else ∃m,m<n/\Iv m s4) Ex s3) Ex s2) Ex s1) Ex s)(n:Nat)(h:Iv n s):
  codeAny (model prog w) A (.compLoop (.ListComp elt [⟨target,iter,ifs,0⟩] scope pos) 0 it acc env) R s:=by
 refine codeAny_loop rfl Iv (λn s hI=> ?_) n h
 show wpAny (model prog w) A ((compTurn (.ListComp elt [⟨target,iter,ifs,0⟩] scope pos) 0 it acc env).onRaise (λx=>do noteFrame x env;theTreesLotGoes x)) _ _ s
 refine wpAny_noted ?_
 rw[compTurn_list]
 refine aH (nZ (aH (dJ (turn n s hI) (λr s1 h1=> ?_) fR)))
 cases r with
 |none=>exact aX h1
 |some v=>
  refine aH (dJ h1 (λ_ s2 h2=>aH (dJ h2 (λ_ s3 h3=>aH (dJ h3 (λok s4 h4=> ?_) fR)) fR)) fR)
  cases ok with
  |false=>exact aX ⟨rfl,h4⟩
  |true=>exact aH (aH (dJ h4 (λx s5 h5=>aH (dJ h5 (λ_ s6 h6=>aX (aX ⟨rfl,h6⟩)) fR)) fR))
end
/---/def fD(cells:List (Str×Addr)):List (Str×NameKind)->List (Str×Addr)->List (Str×Addr)
 | [],cs=>cs
 |(n,k)::r,cs=>if k== .free then(match cells.lookup n with|some c=>fD cells r ((n,c)::cs)|none=>fD cells r cs)else fD cells r cs
def J6{env:Env}: ∀ (names:aq (aA×NameKind)) (cs:aq (aA×ae)),(∀n,(n,NameKind.free)∈names-> ∃c,env.cells.lookup n=some c)->
  (forIn names cs (λ(x:Str×NameKind) (r:List (Str×Addr))=>if(x.2==NameKind.free)=true then do let c<-cellOf env x.1;pure (ForInStep.yield ((x.1,c)::r))else pure (ForInStep.yield r)):Sem (List (Str×Addr)))=pure (fD env.cells names cs)
 | [],cs,_=>rfl
 |(n,k)::r,cs,h=>by have ih:=λcs=>J6 (env:=env) r cs λm hm=>h m (fJ _ hm);rw[List.forIn_cons];unfold fD;by_cases hk:(k==NameKind.free)=true;have e:k= .free:=eq_of_beq hk;subst e;obtain⟨c,hc⟩:=h n fk;simp only[hk,gc,hc];(have ec:cellOf env n=pure c:=by unfold cellOf;rw[hc]);rw[ec];exact ih _;simp only[hk,fN,fS];exact ih _
def Aa{scope:Scope}{env:Env}(h: ∀n,(n,NameKind.free)∈scope.names-> ∃c,env.cells.lookup n=some c):closureFor scope env=pure (fD env.cells scope.names []):=by unfold closureFor;have:=J6 (env:=env) scope.names [] h;refine Eq.trans ?_ (kS (· >>=pure) this);rfl
def zZ{cells:aq (aA×ae)}{x:aA}{c:ae}: ∀ {names:aq (aA×NameKind)} {cs:aq (aA×ae)},(fD cells names cs).lookup x=some c->cs.lookup x=some c\/cells.lookup x=some c
 | [],cs,h=> .inl h
 |(n,k)::r,cs,h=>by unfold fD at h;split at h;split at h;rename_i c' cr;rcases zZ h with q|q;rw[mW]at q;by_cases e:(x==n)=true;rw[e]at q;cases q;right;rw[eq_of_beq e];exact cr;rw[Bool.eq_false_iff.mpr e]at q;exact .inl q;exact .inr q;exact zZ h;exact zZ h
def zY{cells:aq (aA×ae)}{x:aA}: ∀ {names:aq (aA×NameKind)} {cs:aq (aA×ae)},(∃c,cs.lookup x=some c)-> ∃c,(fD cells names cs).lookup x=some c
 | [],cs,h=>h
 |(n,k)::r,cs,h=>by unfold fD;split;split;refine zY ?_;rw[mW];cases(x==n);exact h;exists _,rfl;exact zY h;exact zY h
def wO{cells:aq (aA×ae)}{x:aA}{c0:ae}(hc:cells.lookup x=some c0): ∀ {names:aq (aA×NameKind)} {cs:aq (aA×ae)},(x,NameKind.free)∈names-> ∃c,(fD cells names cs).lookup x=some c
 | [],cs,h=>by cases h
 |(n,k)::r,cs,h=>by unfold fD;rcases List.mem_cons.mp h with e|h;cases e;rw[aT (by rfl),hc];refine zY ⟨c0,?_⟩;rw[mW,beq_self_eq_true];split;split;exact wO hc h;exact wO hc h;exact wO hc h
def OI{scope:Scope}{x:aA}(hn: ∀y∈scope.names,y.2≠ .cell)(h:(relabel scope env).names.lookup x=some .cell\/(relabel scope env).names.lookup x=some .free):(x,NameKind.free)∈scope.names:=by(have main: ∀names:aq (aA×NameKind),(∀y∈names,y.2≠ .cell)-> ∀k,(names.map λ(n,k)=>if(k==NameKind.free&&env.scope.kind== .function&&env.kindOf n==some .cell)then(n,NameKind.cell)else(n,k)).lookup x=some k->k= .cell\/k= .free->(x,NameKind.free)∈names:=(by intro names;induction names with|nil=>intro _ k h;cases h|cons p r ih=>intro hy k h hk;obtain⟨n,k0⟩:=p;rw[bH]at h;have ih':=ih (λy js=>hy y (fJ _ js)) k;dsimp only at h;by_cases hc:(k0==NameKind.free&&env.scope.kind== .function&&env.kindOf n==some .cell)=true;rw[aT hc]at h;(have e0:k0= .free:=(by simp only[gR]at hc;exact eq_of_beq hc.1.1));subst e0;rw[mW]at h;by_cases e:(x==n)=true;rw[eq_of_beq e];exact fk;rw[Bool.eq_false_iff.mpr e]at h;exact fJ _ (ih' h hk);rw[aU hc]at h;rw[mW]at h;by_cases e:(x==n)=true;rw[e]at h;cases h;rcases hk with rfl|rfl;exact absurd rfl (hy _ fk);rw[eq_of_beq e];exact fk;rw[Bool.eq_false_iff.mpr e]at h;exact fJ _ (ih' h hk)));rcases h with h|h;exact main scope.names hn _ h (.inl rfl);exact main scope.names hn _ h (.inr rfl)
def dF(X:Cx)(T:List Str)(scope:Scope)(C:Addr)(s:Shared)(H:Hp)(ex:List Addr)(pn:List (Addr×Obj))(E:Value->Shared->Prop):Cx:=
 {X with N:=T++X.N,s₀:=s,H₀:=H,env:=compEnvC scope (fD X.env.cells scope.names []) C X.env,outer:=X.stack,stack:=X.stack,ex:=ex,fn:=λ_=>false,pn:=pn,xe:=E}
structure rL(X:Cx)(T:List Str)(scope:Scope):Prop where
 kind:scope.kind= .function
 vp: ∀y∈scope.names,y.2≠ .cell
 eI: ∀x∈scope.names,x.2= .local->scope.names.lookup x.1=some .local
 cap: ∀n,(n,NameKind.free)∈scope.names->X.env.kindOf n=some .cell\/X.env.kindOf n=some .free
 SN: ∀x∈X.N,scope.names.lookup x≠some .local
section
variable{X:Cx}{T:aq aA}{scope:Scope}{aB:aq (ae×Obj)}{σ:St}{H:Hp}{s s1:ac}{C:ae}{fp:aq ae}{m:aA->ap aa}{E:aa->ac->Prop}
def FV{env:Env}{x:aA}: ∀ {names:aq (aA×NameKind)},(names.map λ(n,k)=>if(k==NameKind.free&&env.scope.kind== .function&&env.kindOf n==some .cell)then(n,NameKind.cell)else(n,k)).lookup x=some .local->names.lookup x=some .local
 | [],h=>by cases h
 |(n,k)::r,h=>by rw[bH]at h;dsimp only at h;rw[mW];by_cases hc:(k==NameKind.free&&env.scope.kind== .function&&env.kindOf n==some .cell)=true;rw[aT hc,mW]at h;(cases e:(x==n));rw[e]at h;exact FV h;rw[e]at h;cases h;rw[aU hc,mW]at h;(cases e:(x==n));rw[e]at h;exact FV h;rw[e]at h;exact h
def Ab(S:rL X T scope)(I:aG X aB σ H s)(hf: ∀b∈fp,gL X aB H b)(fW: ∀b∈fp,b<s.heap.objs.size)(hk: ∀b o,s.heap.get? b=some o->s1.heap.get? b=some o)(hC:s.heap.objs.size<=C)(hn:s1.heap.Ns C m)(oR:s1.os=s.os)(hg:s1.gens=s.gens):aG (dF X T scope C s H fp (X.pn++aB) E) [] (List.replicate T.length none++σ) H s1:=by have hL:X.env.locals<s.heap.objs.size:=I.lt;have sub: ∀x c,(fD X.env.cells scope.names []).lookup x=some c->X.env.cells.lookup x=some c:=λx c e=>(zZ e).elim (λz=>by cases z) id;(have a5p: ∀b∈jQ X.stack,b<s.heap.objs.size:=λb hb=>(by obtain⟨_,o,ho,_⟩:=I.stack.mem hb;exact bL ho));(have a5c: ∀x c,X.env.cells.lookup x=some c->c<s.heap.objs.size:=λx c e=>(by obtain⟨v,q⟩:=I.cell x c e;exact q.lt));exists⟨I.ok.mod,S.kind,I.ok.glob,I.ok.blt,hC,λx y c h1 h2=>I.ok.inj x y c (sub x c h1) (sub y c h2),λx hx=> ?_,λx c hx _=>(by cases hx),I.ok.hd,I.ok.frames,.inl rfl,λb hb=>⟨cp (fK (fW b hb) hC),λx c e=>(hf b hb).2.2.2.2.1 x c (sub x c e)⟩,I.bs,dS I.ok.oz I.sz,λb o e hb=> ?_,λb hb z=> ?_,I.stack,I.Qd⟩,oR,hg▸I.fC,Un.kept hk,⟨m,hn,λi x v h1 h2 h3=> ?_⟩,λx c e=> ?_,I.hok.fresh hC,λx c e=>I.ir x c (sub x c e),λp hp=> ?_,I.hok.kept hk,?_;have iy:(relabel scope X.env).names.lookup x=some .cell\/(relabel scope X.env).names.lookup x=some .free:=hx;have hm:=OI S.vp iy;obtain⟨c0,hc0⟩:=I.ok.has x (S.cap x hm);exact wO hc0 hm;rcases(hf b hb).2.2.2.1 with z|z;exact I.ok.x0 b o e z;exact absurd (fK (bL e) (dS I.ok.oz z)) (kh _);rcases List.mem_cons.mp (I.CB b z)with q|q;exact(hf b hb).2.1 q;exact(hf b hb).2.2.1 q;(have hi: ¬i<T.length:=λhi=>(by rw[ww (by rw[ke];exact hi),Dd,aT hi]at h2;cases h2));(have ko:X.N[i-T.length]? =some x:=(by have ko:(T++X.N)[i]? =some x:=h1;rw[ut (by lia)]at ko;exact ko));(have kq:σ[i-T.length]? =some (some v):=(by rw[ut (by rw[ke];lia),ke]at h2;exact h2));(have Ao:(relabel scope X.env).names.lookup x=some .cell\/(relabel scope X.env).names.lookup x=some .free:=(by rcases h3 with h3|h3;exact absurd (FV h3) (S.SN x (dR ko));exact h3));have hm:=OI S.vp Ao;have Lv:=S.cap x hm;obtain⟨mm,_,hl⟩:=I.eI;obtain⟨u,ru,lk⟩:=hl _ x v ko kq (Lv.elim (λz=> .inr (.inl z)) λz=> .inr (.inr z));exists u,ru,.inr ⟨Ao,?_⟩;(rcases lk with⟨z,_⟩|⟨_,c,ec,uU⟩);rcases Lv with q|q;rw[z]at q;cases q;rw[z]at q;cases q;obtain⟨c',Ky⟩:=wO (cs:= []) ec hm;(have:c'=c:=(by have:=sub x c' Ky;rw[ec]at this;exact(gp this).symm));subst this;obtain⟨o,ho,hd⟩:=uU;exists c',Ky,⟨o,hk _ _ ho,hd⟩;obtain⟨v,o,ho,hd⟩:=I.cell x c (sub x c e);exists v,o,hk _ _ ho,hd;(have xB:p∈X.pn++aB:=(by rcases List.mem_append.mp hp with z|z;exact z;cases z));obtain⟨e,n,ne,nf,d⟩:=I.dz p xB;exists hk _ _ e,n,cp (fK (bL e) hC),λz=> ?_,d;rcases List.mem_cons.mp (I.CB p.1 z)with q|q;exact ne q;exact nf q;show(List.replicate T.length none++σ).length=(T++X.N).length;rw[gn,gn,ke,I.len]
def Ke{D:ae}{us:aq aa}{n:Nat}(I:aG X aB σ H s)(hf: ∀b∈fp,gL X aB H b)(hC:s.heap.objs.size<=C)(hD:s.heap.objs.size<=D)(lY:D≠C)(J:aG (dF X T scope C s H fp (X.pn++aB) E) pl σ' H' s')(ie:Heap.SameBut C s'.heap h')(Lh:H' D=none)(qh:s'.heap.get? D=some {cls:= .type "list",data:= .seq us.toArray n})(hv:bg ys us)(hz:ys.length<=sizeLine):aG X aB σ (upd H' D (.aK ys)) {s' with heap:=h'}:=by have nF: ∀b o,b≠C->s'.heap.get? b=some o->h'.get? b=some o:=λb o hb e=>ie.extBut b o hb e;have tf: ∀b o,s.heap.get? b=some o->b≠C:=λb o e=>cp (fK (bL e) hC);have Yq: ∀b o,s.heap.get? b=some o->b≠D:=λb o e=>cp (fK (bL e) hD);have Eg:H' C=none:=J.free;have Ek:H D=none:=I.hok.fresh hD;have u:=J.base;(have E2:dh X.prog X.w H' h':=λa o e=>(by(have nC: ∀b o,H' b=some o->b≠C:=λb o e z=>by rw[z,Eg]at e;cases e);refine(J.hok a o e).stay (λb v hb q=>nF b v ?_ q) (λ_ q=>q) λ_ _ q=>q;rcases hb with rfl|hb;exact nC _ _ e;exact nC _ _ hb));(have Wm:dh X.prog X.w (upd H' D (.aK ys)) h':=λa o e=>(by by_cases ha:a=D;subst ha;rw[aL]at e;cases e;exists hz,us,n,hv,nF _ _ lY qh;rw[aP ha]at e;exact(E2 a o e).stay (λ_ _ _ q=>q) (λb q=>by rw[aP (fm q Lh)];exact q) λb xs q=>by rw[aP (fm q Lh)];exact q));refine I.JV (ch:=fp) (s':= {s' with heap:=h'}) J.os ⟨λb o e n hb hx=>nF b o (tf b o e) (u.keep b o e n hb hx),λb o e n hb hx=> ?_,λb o e n hx=> ?_,λb o e hx=> ?_,λb xs e=> ?_,λb o v e=> ?_,λb ps e=> ?_⟩ Wm J.fC λb hb=> ?_;obtain⟨sl,q⟩:=u.slot b o e n hb hx;exists sl,nF b _ (tf b o e) q;rw[aP (Yq b o e)];exact u.free b o e n hx;obtain⟨o',q⟩:=u.there b o e hx;exists o',nF b o' (tf b o e) q;have hb:b≠D:=fm e Ek;rw[aP hb];exact u.bA b xs e;have hb:b≠D:=fm e Ek;rw[aP hb];exact u.jl b o v e;have hb:b≠D:=fm e Ek;rw[aP hb];exact u.kI b ps e;obtain⟨_,f1,_,f3,f4,f5⟩:=hf b hb;exists f3,f1,f4,f5
end
def oq(X:Cx)(ifs:List Expr)(t:TT):Prop:=
 ∀ (aB:List (Addr×Obj)) (s:Shared) (σ:St) (H:Hp) (Q:Bool->Hp->Prop),aG X aB σ H s->t σ H Q->wpAny (model X.prog X.w) X.A (CH ifs X.env) (TP X aB σ Q) X.xe s
def CG:TT:=λ_ H Q=>Q true H
def lv:oq X [] CG:=λ_ _ _ H _ I h=>wpAny_tests_nil ⟨H,I,h⟩
def qM{t:TT}(h:PT X c t):oq X [c] t:=λaB s σ H Q I q=>wpAny_tests_one (h aB s σ H Q I q)
def IB(k:Nat)(wi:TI)(g:TG)(tt:TT)(te:TE):TE:=λσ H Q=>wi σ H λJ H1=> ∃W:Nat->Nat->List V->Hp->Prop,(∃m,W 0 m [] H1)/\ ∀i m ys H,W i m ys H->
 (J.stop i H/\ ∀p,H p=none->Q (.ref p) (upd H p (.aK ys)))\/
 (J.go i H/\ys.length<sizeLine/\ ∀x H',J.hV i H x H'->g x (List.replicate k none++σ) H' λσ2 H2=>tt σ2 H2 λb H3=>
  if b=true then te σ2 H3 λy H4=> ∃m',m'<m/\W (i+1) m' (ys++ [y]) H4 else ∃m',m'<m/\W (i+1) m' ys H3)
def rf(k:Nat)(g:TG):Prop:= ∀ (x:V) (σ:St) (H:Hp) (Q:St->Hp->Prop),g x (List.replicate k none++σ) H Q->g x (List.replicate k none++σ) H λσ2 H2=>σ2.length=k+σ.length/\(∀i,k<=i->σ2[i]? =σ[i-k]?)/\Q σ2 H2
def iE:rf 1 (jR 0):=λx σ H Q h=>by exists by simp[Nat.add_comm],λi hi=> ?_,h;(obtain⟨j,rfl⟩: ∃j,i=j+1:=⟨i-1,by lia⟩);simp
def KW{K:W.Frag}:rf 2 (K3 K 2 (Ec (jR 0) (Ec (jR 1) K1))):=λx σ H Q h=>by obtain⟨a,xs,rfl,hs,hl,v,r,e1,v2,r2,e2,e3,q⟩:=h;exists a,xs,rfl,hs,hl,v,r,e1,v2,r2,e2,e3,by simp;lia,λi hi=> ?_,q;(obtain⟨j,rfl⟩: ∃j,i=j+2:=⟨i-2,by lia⟩);simp
inductive im(X:Cx)(T:List Str)(scope:Scope)(E:Value->Shared->Prop):Cx->Prop where
 |mk (C:Addr) (s:Shared) (H:Hp) (ex:List Addr) (pn:List (Addr×Obj)):im X T scope E (dF X T scope C s H ex pn E)
section
variable{X:Cx}{T:aq aA}{scope:Scope}{elt iter tg:Expr}{ifs:aq Expr}{pos:Pos}{wi:TI}{g:TG}{tt:TT}{te:TE}
def Kg{aB:aq (ae×Obj)}{σ:St}{D:ae}{tn:Nat->ak->Prop}{Ex:aa->ac->Prop}{R:Result->ac->Prop}{W:Nat->Nat->aq V->Hp->Prop}{m0:Nat}{Qe:aq V->Hp->Prop}(hc:X.gu=true)(hg:PG (dF X T scope C s H fp (X.pn++aB) Ex) tg g)(oM:rf T.length g)(ht:oq (dF X T scope C s H fp (X.pn++aB) Ex) ifs tt)(he:PE (dF X T scope C s H fp (X.pn++aB) Ex) elt te)(Tn:lR X.prog X.w X.K tg J fp it tn)(hf: ∀b∈fp,gL X aB H b)(fW: ∀b∈fp,b<s.heap.objs.size)(hC:s.heap.objs.size<=C)(hD:s.heap.objs.size<=D)(lY:D≠C)(E8: ∀p∈X.pn++aB,p.1<s.heap.objs.size)(jp: ∀b∈jQ X.stack,b<s.heap.objs.size)(UE:H D=none)(I1:aG (dF X T scope C s H fp (X.pn++aB) Ex) [] (List.replicate T.length none++σ) H s1)(yO:tn 0 s1.heap)(qh:s1.heap.get? D=some {cls:= .type "list",data:= .seq ([]:aq aa).toArray})(fR: ∀e s',Ex e s'->notedBy (model X.prog X.w) X.A (compEnvC scope (fD X.env.cells scope.names []) C X.env) (λe s'=>R (.error e) s') e s')(w0:W 0 m0 [] H)(turn: ∀i m ys H,W i m ys H->(J.stop i H/\Qe ys H)\/(J.go i H/\ys.length<sizeLine/\ ∀x H',J.hV i H x H'->g x (List.replicate T.length none++σ) H' λσ2 H2=>tt σ2 H2 λb H3=>if b=true then te σ2 H3 λy H4=> ∃m',m'<m/\W (i+1) m' (ys++ [y]) H4 else ∃m',m'<m/\W (i+1) m' ys H3))(hR: ∀s2 σ2 H2 ys us n,aG (dF X T scope C s H fp (X.pn++aB) Ex) [] σ2 H2 s2->H2 D=none->s2.heap.get? D=some {cls:= .type "list",data:= .seq us.toArray n}->bg ys us->ys.length<=sizeLine->Qe ys H2->R (.ok .next) s2):codeAny (model X.prog X.w) X.A (.compLoop (.ListComp elt [⟨tg,iter,ifs,0⟩] scope pos) 0 (.ref it) (.ref D) (compEnvC scope (fD X.env.cells scope.names []) C X.env)) R s1:=by
 have LF: ∀b∈fp,b≠D:=λb hb=>cp (fK (fW b hb) hD);have Wq: ∀p∈X.pn++aB,p.1≠D:=λp hp=>cp (fK (E8 p hp) hD);have UC:D∉jQ X.stack:=λhb=>kh _ (fK (jp D hb) hD);(have cD: ∀x c,(fD X.env.cells scope.names []).lookup x=some c->c≠D:=λx c e z=>(by obtain⟨v,o,ho,hd⟩:=I1.cell x c e;rw[z,qh]at ho;cases ho;cases hd));have jk: ∀ (pl:List (Addr×Obj)) (H':Hp),(∀b∈fp,H' b=none)->(∀p∈pl,p.1=D)-> ∀b∈fp,gL (dF X T scope C s H fp (X.pn++aB) Ex) pl H' b:=λpl H' hn gy b hb=>
  ⟨hn b hb,(I1.ok.qf b hb).1,I1.ok.sk b hb,.inl hb,(I1.ok.qf b hb).2,λp hp=>by
   rcases List.mem_append.mp hp with z|z
   ·exact(hf b hb).2.2.2.2.2 p z
   ·rw[gy p z];exact jH (LF b hb)⟩
 refine RX (λm s'=> ∃i ys us n H',aG (dF X T scope C s H fp (X.pn++aB) Ex) [] (List.replicate T.length none++σ) H' s'/\tn i s'.heap/\(∀b∈fp,H' b=none)/\H' D=none/\s'.heap.get? D=some {cls:= .type "list",data:= .seq us.toArray n}/\bg ys us/\ys.length<=sizeLine/\W i m ys H') Ex fR ?_ m0 ⟨0,[],[],0,H,I1,yO,λb hb=>(hf b hb).1,UE,qh,.nil,fQ _,w0⟩;rintro m s3 ⟨i,ys,us,n,H3,I3,mM,ic,Lf,UD,AQ,MA,w3⟩;(have Jn:aG (dF X T scope C s H fp (X.pn++aB) Ex) [(D,{cls:= .type "list",data:= .seq us.toArray n})] (List.replicate T.length none++σ) H3 s3:=I3.qN λp hp=>(by(have e:p=(D,{cls:= .type "list",data:= .seq us.toArray n}):=by simpa using hp);subst e;exact⟨UD,Lf,lY,UC,λv z=>by cases z⟩));(have GF: ∀p∈ [((D,{cls:= .type "list",data:= .seq us.toArray n}):Addr×Obj)],p.1=D:=λp hp=>(by(have e:p=(D,{cls:= .type "list",data:= .seq us.toArray n}):=by simpa using hp);rw[e]));(rcases turn i m ys H3 w3 with⟨stop,qe⟩|⟨go,hlt,step⟩);refine aW (Tn.done (dF X T scope C s H fp (X.pn++aB) Ex) rfl rfl rfl hc i _ s3 _ H3 Ex Jn (jk _ H3 ic GF) mM stop) λr s4 ⟨hr,I4⟩=> ?_;subst hr;have p4:=I4.dz (D,{cls:= .type "list",data:= .seq us.toArray n}) (db _ (by simp));exact hR s4 _ H3 ys us n (I4.qN λp hp=>by cases hp) Lf p4.1 AQ MA qe
 ·refine aW (Tn.item (dF X T scope C s H fp (X.pn++aB) Ex) rfl rfl rfl hc i _ s3 _ H3 Ex Jn (jk _ H3 ic GF) mM go) λr s4 ⟨u,hr,h4⟩=> ?_;subst hr;refine aW h4 λ_ s5 ⟨x,H5,I5,r5,y5,iB,nq⟩=> ?_;have rj:=I5.pinned (jk _ H5 nq GF) (Tn.obj _ _ iB);refine aW (hg _ s5 _ H5 x u _ rj r5 (oM x σ H5 _ (step x H5 y5))) λ_ s6 ⟨mS,H6,I6,bW,Fg,q6⟩=> ?_;refine aW (ht _ s6 mS H6 _ I6 q6) λok s7 ⟨H7,I7,q7⟩=> ?_;have qc: ∀ {H8:Hp} {s8:Shared},aG (dF X T scope C s H fp (X.pn++aB) Ex) ([(D,{cls:= .type "list",data:= .seq us.toArray n})]++tJ fp s5.heap) mS H8 s8->
    aG (dF X T scope C s H fp (X.pn++aB) Ex) [] (List.replicate T.length none++σ) H8 s8/\tn (i+1) s8.heap/\(∀b∈fp,H8 b=none)/\H8 D=none/\s8.heap.get? D=some {cls:= .type "list",data:= .seq us.toArray n}:=λ{H8 s8} I8=>by
   exists(I8.qN (vA:= []) λp hp=>by cases hp).weak ?_ λj v e=> ?_,Tn.keep _ _ _ iB λb hb o e=>(I8.dz (b,o) (db _ (db _ (nI hb e)))).1,λb hb=> ?_,?_,?_
   ·rw[bW,gn,ke]
   ·by_cases hj:j<T.length
    ·rw[ww (by rw[ke];exact hj),Dd,aT hj]at e
     cases e
    ·rw[ut (by rw[ke];lia),ke]at e
     rw[Fg j (by lia)]
     exact e
   ·obtain⟨o,e,d⟩:=Tn.obj _ _ iB b hb
    exact(I8.dz (b,o) (db _ (db _ (nI hb e)))).2.1
   ·exact(I8.dz (D,{cls:= .type "list",data:= .seq us.toArray n}) (db _ (dE _ (by simp)))).2.1
   ·exact(I8.dz (D,{cls:= .type "list",data:= .seq us.toArray n}) (db _ (dE _ (by simp)))).1
  (cases ok with|false=>simp only[fS,fN]at q7⊢;obtain⟨m',hm,w7⟩:=q7;obtain⟨J8,j5,lX,Ap,Ej⟩:=qc I7;exact⟨m',hm,i+1,ys,us,n,H7,J8,j5,lX,Ap,Ej,AQ,MA,w7⟩|true=>simp only[gc]at q7⊢;refine aW (he _ s7 mS H7 _ I7 q7) λuy s8 ⟨y,H8,I8,ry,m',hm,w8⟩=> ?_;obtain⟨J8,j5,lX,Ap,Ej⟩:=qc I8;(have hsz:us.toArray.size<=sizeLine:=(by have e1:=AQ.length;rw[cE];lia));refine wpAny_list_append_plain (hsz:=hsz) (⟨_,Ej⟩:s8.heap.PlainList D us.toArray) λh9 EL Mo=> ?_;obtain⟨n9,e9⟩:=EL;(have J9:aG (dF X T scope C s H fp (X.pn++aB) Ex) [] (List.replicate T.length none++σ) H8 {s8 with heap:=h9}:=J8.j7 (it:=D) (t':=s8.toks) (λb o hb e=>Mo.extBut b o hb e) Ap lY (.inr hD) cD λp hp=>(by rcases List.mem_append.mp hp with z|z;exact Wq p z;cases z));exists m',hm,i+1,ys++ [y],us++ [uy],n9,H8,J9,Tn.keep _ _ _ j5 λb hb o e=>Mo.extBut b o (LF b hb) e,lX,Ap,?_,AQ.append (.cons ry .nil),?_,w8;rw[e9];simp;rw[gn,List.length_singleton];lia)
def mD(S:rL X T scope)(hc:X.gu=true)(hi:PI X tg iter wi)(hg: ∀Y,im X T scope (λ_ _=>False) Y->PG Y tg g)(oM:rf T.length g)(ht: ∀Y,im X T scope (λ_ _=>False) Y->oq Y ifs tt)(he: ∀Y,im X T scope (λ_ _=>False) Y->PE Y elt te)(hs: ∀x,foldedSetIterable iter X.env x=pure x:=by intro _;rfl):PE X (.ListComp elt [⟨tg,iter,ifs,0⟩] scope pos) (IB T.length wi g tt te):=by
 intro aB s σ H Q I h;rw[eval_ListComp];refine IV (use:=none) (cl:=fD X.env.cells scope.names []) rfl hs (Aa λn hn=>I.ok.has n (S.cap n hn)) S.kind S.eI ?_;refine aW (hi aB s σ H _ I h) λv s1 h1=>aW h1 λvg s2 h2=> ?_;obtain⟨it,fp,tn,J,H2,e,I2,Tn,ik,f2,W,⟨m0,w0⟩,turn⟩:=h2;subst e;(have fW: ∀b∈fp,b<s2.heap.objs.size:=λb hb=>(by obtain⟨o,ho,_⟩:=Tn.obj _ _ ik b hb;exact bL ho));refine jd (IW S.vp (by intro y hy;cases hy) (λh4 fe ie=> ?_) S.kind);dsimp only at fe ie⊢;generalize kr:s2.heap.push {cls:= .type "list",dict:=none,data:= .seq ([]:List Value).toArray}=H3 at fe ie⊢;(have hC:H3.objs.size=s2.heap.objs.size+1:=by rw[<-kr,jF]);have my: ∀b o,H3.get? b=some o->h4.get? b=some o:=λb o e=>ie.extBut b o (cp (bL e)) (bS _ e);have old: ∀b o,s2.heap.get? b=some o->h4.get? b=some o:=λb o e=>my b o (by rw[<-kr];exact bS _ e);have qh:h4.get? s2.heap.objs.size=some {cls:= .type "list",data:= .seq ([]:List Value).toArray}:=my _ _ (by rw[<-kr];exact cS _ rfl);(have lY:s2.heap.objs.size≠H3.objs.size:=by lia);have loop: ∀s4:Shared,s4= {s2 with heap:=h4,toks:=s2.toks+([]:List (Str×Value)).length}->
   codeAny (model X.prog X.w) X.A (.compLoop (.ListComp elt [⟨tg,iter,ifs,0⟩] scope pos) 0 (.ref it) (.ref s2.heap.objs.size) (compEnvC scope (fD X.env.cells scope.names []) H3.objs.size X.env))
    (compPost (model X.prog X.w) X.A X.xe none (EP X aB σ Q) (.ref s2.heap.objs.size) H3.objs.size) s4:=by
  rintro s4 rfl
  have I4:aG (dF X T scope H3.objs.size s2 H2 fp (X.pn++aB) λ_ _=>False) [] (List.replicate T.length none++σ) H2 {s2 with heap:=h4,toks:=s2.toks+([]:List (Str×Value)).length}:=
   Ab S I2 f2 fW old (by lia) fe rfl rfl
  refine Kg (Qe:=λys H=> ∀p,H p=none->Q (.ref p) (upd H p (.aK ys))) hc (hg _ (.mk ..)) oM (ht _ (.mk ..)) (he _ (.mk ..)) Tn f2 fW (by lia) (aV _) lY (λp hp=>bL (I2.dz p hp).1) (λb hb=> ?_) I2.fresh I4 ?_ qh (λ_ _ z=>z.elim) w0 turn ?_
  ·obtain⟨_,o,ho,_⟩:=I2.stack.mem hb
   exact bL ho
  ·exact Tn.keep _ _ _ ik λb hb o e=>old b o e
  ·intro s5 Q3 H5 ys us n I5 xg Ei hv hz q
   obtain⟨mm,jU,_⟩:=I5.eI
   exists mm,jU,λh' sN=>⟨.ref s2.heap.objs.size,_,Ke I2 f2 (by lia) (aV _) lY I5 sN xg Ei hv hz,rfl,q _ xg⟩
 refine codeAny_compStart_list (loop _ rfl) (Tn.self _ 0 _ _ _ ?_ (loop _ rfl));exact Tn.keep _ _ _ ik λb hb o e=>old b o e
end
section
variable{M:Model}{A:ao}{E:aa->ac->Prop}{s:ac}{B:ak}{env:Env}{outer l:aq Env}{L e:ae}{C:aa}{tb:Bool}
end
section
variable{P:af}{w:ag}{fs ex:aq ae}{H₀ H':Hp}{s₀ s':ac}{l:aq Env}{B h':ak}
end
section
variable{X:Cx}{aB:aq (ae×Obj)}{σ:St}{H:Hp}{s s':ac}{E:XK}{e:aa}
end
section
variable{X:Cx}{E:XK}{x:aA}{C:ae}{e:Expr}{es:aq Expr}{t:TA}{np cL pos:Pos}
end
section
variable{X:Cx}
def Xg(x:T)(c:Nat):(!(Builtin.Str.occurrences (S x) (S [c]) 0 (S x).length 1).isEmpty)=x.contains c:=by have h:=StrLaws.found_one (S x) c;rw[show(S [c]:aA)=⟨#[c]⟩from rfl,h];show decide (c∈x)=_;rw[List.contains_eq_mem]
inductive a2k(x:V)(y:V)(H:Hp)(Q:VK):Prop
 |mk (c:Nat) (t:T) (_:x= .str (S [c])) (_:y= .str (S t)) (_:Q (.bl (t.contains c)) H)
def a1a:eN X (compareOp .In) a2k:=by intro aB s σ H x y v u Q I rx ry h;obtain⟨c,t,rfl,rfl,q⟩:=h;refine a1b aB s σ H _ _ v u Q I rx ry ⟨_,_,rfl,rfl,?_⟩;rw[Xg];exact q
def N0(hu:X.A.units<cLine):eN X (compareOp .Eq) (λx y H Q=> ∃a b xs,x= .ref a/\y= .ref b/\aQ X.K H a xs/\aQ X.K H b []/\Q (.bl xs.isEmpty) H):=by intro aB s σ H x y v u Q I rx ry h;obtain⟨a,b,xs,rfl,rfl,ha,hb,q⟩:=h;cases rx;cases ry;obtain⟨aF,r,pl,_⟩:=I.list ha;obtain⟨pc,r2,BJ,_⟩:=I.list hb;cases r2;cases xs with|nil=>cases r;refine SeqAt.eq_listAt (e:=λ_=>true) pl.isList BJ.isList rfl hu (λj h1 _=>absurd h1 (by simp)) ⟨.bl true,H,I,rfl,q⟩|cons z zs=>cases r with|cons rz vL=>exact SeqAt.eq_list_lengthsAt pl.isList BJ.isList (by simp) hu ⟨.bl false,H,I,rfl,q⟩
end
section
variable{prog:af}{w:ag}{A:ao}{E:aa->ac->Prop}{s:ac}
def IH{j l:ae}{i:Nat}{bc:au aa}{x:aa}{Q:aa->ac->Prop}(hj:s.heap.IsTupleIter j l i)(hl:s.heap.IsTuple l bc)(hx:bc[i]? =some x)(hQ: ∀h',h'.IsTupleIter j l (i+1)->Heap.SameBut j s.heap h'->Q x {s with heap:=h'}):wpAny (model prog w) A (Builtin.SmallTypes.nextOf (.ref j)) Q E s:=by obtain⟨o,ho,hc,hd⟩:=id hj;obtain⟨ol,u7,_,nl,uW⟩:=hl;unfold Builtin.SmallTypes.nextOf;refine aH (pN (name:=Str.ofString "__next__") hj.typeIs C5 (jB C5 hj.typeIs F.entry_tuple_iterator_next ?_ (F.args_tuple_iterator_next_1 _)));show wpAny _ _ (field (.ref j) 0>>=_) _ _ s;refine aH (ka ho hd (x:= .ref l) rfl ?_);show wpAny _ _ (if(Value.ref l==Value.none)=true then _ else _) _ _ s;rw[aU (show ¬((Value.ref l==Value.none)=true)from fI)];show wpAny _ _ (field (.ref j) 1>>=_) _ _ s;refine aH (ka ho hd (x:= .int i 0) rfl ?_);show wpAny _ _ (seqItems? (.ref l) >>=_) _ _ s;refine aH (uf u7 uW ?_);simp only[zr,hx];refine aH (wj ho hd (by simp) (aX ⟨x,rfl,aX (hQ _ ?_ (ul ..))⟩));exact⟨_,um _ ho (Obj.isFreed_of_fields (Obj.data_mapFields hd _)),(Obj.cls_mapFields ..).trans hc,by rw[Obj.data_mapFields hd];simp[rawInt]⟩
def QF{j l:ae}{i:Nat}{bc:au aa}{Q:aa->ac->Prop}(hh:A.handled=none)(hj:s.heap.IsTupleIter j l i)(hl:s.heap.IsTuple l bc)(hx:bc[i]? =none)(hE: ∀h' e,Heap.ExtBut j s.heap h'->(∃o,h'.get? e=some o/\o.cls= .type "StopIteration")->E (.ref e) {s with heap:=h'}):wpAny (model prog w) A (Builtin.SmallTypes.nextOf (.ref j)) Q E s:=by obtain⟨o,ho,hc,hd⟩:=id hj;obtain⟨ol,u7,_,nl,uW⟩:=hl;unfold Builtin.SmallTypes.nextOf;refine aH (pN (name:=Str.ofString "__next__") hj.typeIs C5 (jB C5 hj.typeIs F.entry_tuple_iterator_next ?_ (F.args_tuple_iterator_next_1 _)));show wpAny _ _ (field (.ref j) 0>>=_) _ _ s;refine aH (ka ho hd (x:= .ref l) rfl ?_);show wpAny _ _ (if(Value.ref l==Value.none)=true then _ else _) _ _ s;rw[aU (show ¬((Value.ref l==Value.none)=true)from fI)];show wpAny _ _ (field (.ref j) 1>>=_) _ _ s;refine aH (ka ho hd (x:= .int i 0) rfl ?_);show wpAny _ _ (seqItems? (.ref l) >>=_) _ _ s;refine aH (uf u7 uW ?_);simp only[zr,hx];refine aH (wpAny_rule (aH (wj ho hd (by simp) ?_)));show wpAny _ _ (newExc (.type "StopIteration") [] >>=_) _ _ _;refine aH ?_;simp only[newExc,newTuple];refine aH (jd ?_ (by size_fits));refine aH (m:=firstArgMember _ _) (wpAny_of_eq (a:=Value.none) (by first|rfl|(simp only[firstArgMember];rfl)) ?_);refine jd ?_ (by size_fits);simp only[raiseNew];refine aH (wpAny_handled ?_);(first|rw[show A.in1.handled=none from hh]|rw[hh]);refine aH (aX (wpAny_throw ?_));exact hE _ _ (((ul ..).extBut.push _).push _) ⟨_,cS _ rfl,rfl⟩
def SV(hh:A.handled=none)(j l:ae)(hne:l≠j)(bc:au aa):Draws prog w A j [j,l] bc.size (λi v=>bc[i]? =some v) (λi h=>h.IsTupleIter j l i/\h.IsTuple l bc)where
 live:=λ_ _ st=>by obtain⟨o,ho,_⟩:=st.1;exists o,ho
 frame:=λ_ _ _ st hk=>⟨st.1.at λo e=>hk j (by simp) o e,by obtain⟨o,ho,r⟩:=st.2;exact⟨o,hk l (by simp) o ho,r⟩⟩
 item:=λi s Q E hi st hQ=>IH st.1 st.2 (x:=bc[i]) (by simp[hi]) λh' qm Mn=>hQ _ h' s.toks (by simp[hi]) ⟨qm,by obtain⟨o,ho,r⟩:=st.2;exact⟨o,Mn.extBut _ _ hne ho,r⟩⟩ Mn
 done:=λs Q E st hE=>QF hh st.1 st.2 (by simp) hE
def Tl(l:ae)(bc:au aa)(n:Nat)(DM:ap ae)(sl:au (ap aa)):Meets (Builtin.«enumerate.__new__» ⟨[.type "enumerate",.ref l],[]⟩) (λ_ R s=>s.heap.get? l=some {cls:= .type "tuple",dict:=DM,data:= .seq bc n,slots:=sl}/\R (.ok (.ret (.ref (s.heap.push {cls:= .type "tuple_iterator",data:= .fields #[.ref l,.int 0 0]}).objs.size))) {s with heap:=(s.heap.push {cls:= .type "tuple_iterator",data:= .fields #[.ref l,.int 0 0]}).push {cls:= .type "enumerate",data:= .fields #[.none,.bool false,.ref s.heap.objs.size,rawInt 0,.none,.none]}}):=
 .of_wp λprog w A R s h=>by obtain⟨hp,g,d,tk,os⟩:=s;obtain⟨hl,h⟩:=h;have hsub:=sub_enumerate;(have hT:Heap.IsTuple (Shared.heap ⟨hp,g,d,tk,os⟩) l bc:=⟨_,hl,rfl,n,rfl⟩);wp_walk using AutoSeq1.wpAny_loadPart' hl;refine wpAny_stack_any λst=>aX ?_;split;(rename_i c _ _ _ _ _;cases(c==Value.type "enumerate")<;>(wp_walk using AutoSeq1.wpAny_loadPart' hl,CY hT;exists _,rfl,h));wp_walk using AutoSeq1.wpAny_loadPart' hl,CY hT;exists _,rfl,h
def RB{l:ae}{bc:au aa}{Q:aa->ac->Prop}(hL:s.heap.IsTuple l bc)(h: ∀h',IsEnum h' (s.heap.objs.size+1) s.heap.objs.size 0 .none->h'.IsTupleIter s.heap.objs.size l 0->h'.objs.size=s.heap.objs.size+2->(∀b o,s.heap.get? b=some o->h'.get? b=some o)->Q (.ref (s.heap.objs.size+1)) {s with heap:=h'}):wpAny (model prog w) A (call (.type "enumerate") [.ref l]) Q E s:=by obtain⟨⟨c,DM,dt,sl⟩,hl,hc,n,hd⟩:=hL;obtain rfl:c= .type "tuple":=hc;obtain rfl:dt= .seq bc n:=hd;refine callType_new F.called_enumerate (by decide) (F.typeCall_enumerate_1 _) (F.newCall_enumerate_1 _) (λobj=>F.args_object_init_2 obj _) F.entry_enumerate_new (Tl l bc n DM sl) ⟨hl,?_⟩;have hz:(s.heap.push {cls:= .type "tuple_iterator",data:= .fields #[.ref l,.int 0 0]}).objs.size=s.heap.objs.size+1:=jF ..;show _/\_;rw[hz];(have he:IsEnum ((s.heap.push {cls:= .type "tuple_iterator",data:= .fields #[.ref l,.int 0 0]}).push {cls:= .type "enumerate",data:= .fields #[.none,.bool false,.ref s.heap.objs.size,rawInt 0,.none,.none]}) (s.heap.objs.size+1) s.heap.objs.size 0 .none:=(by have q:=cS (s.heap.push {cls:= .type "tuple_iterator",data:= .fields #[.ref l,.int 0 0]}) (o:= {cls:= .type "enumerate",data:= .fields #[.none,.bool false,.ref s.heap.objs.size,rawInt 0,.none,.none]}) rfl;rw[hz]at q;exact q));exists⟨_,he,rfl⟩,h _ he ⟨_,bS _ (cS _ rfl),rfl,rfl⟩ (by rw[jF,hz]) λb o x=>bS _ (bS _ x)
end
def Jq(n:Nat)(val:Nat->V):It:=⟨λi _=>i<n,λi H x H'=>H'=H/\x=val i,λi _=>i=n⟩
def wo(n:Nat)(val:Nat->List V)(G:Hp->Prop):It:=⟨λi H=>i<n/\G H,λi H x H'=> ∃t,H t=none/\x= .ref t/\H'=upd H t (.aC (val i)),λi H=>i=n/\G H⟩
def a4X{K:W.Frag}{n:Nat}{Pv:Nat->aa->Prop}{St:Nat->ak->Prop}{val:Nat->V}(W: ∀A:ao,A.handled=none->Walks P w A it [it] [it] n Pv St)(hv: ∀i u,Pv i u->bm (val i) u)(fr: ∀i h h',St i h->(∀b∈ [it],∀o,h.get? b=some o->h'.get? b=some o)->St i h')(ob: ∀i h,St i h-> ∃o vs ty,h.get? it=some o/\o.cls= .type ty/\o.data= .fields vs/\ ["enumerate", "zip", "dict_itemiterator", "dict_reverseitemiterator", "odict_iterator", "itertools.zip_longest", "itertools.pairwise"].contains ty=false)(sf: ∀ (A:ao) (i:Nat) (s:ac) (Q:aa->ac->Prop) (E:aa->ac->Prop),St i s.heap->Q (.ref it) s->wpAny (model P w) A (pyIter (.ref it)) Q E s):lR P w K tg (Jq n val) [it] it St where
 mem:=by simp
 obj:=λi h st b hb=>by(obtain rfl:b=it:=by simpa using hb);obtain⟨o,vs,ty,e,_,d,_⟩:=ob i h st;exact⟨o,e,λv z=>by rw[d]at z;cases z⟩
 keep:=fr
 item:=by intro X hP hw hK hc i aB s σ H E I hf st hg;subst hP hw hK;obtain⟨f0,f1,f2,f3,f4,f5⟩:=hf it (by simp);refine(W X.A (I.ok.hd hc)).item i s _ _ hg st λv h' tk hP st' kk=> ?_;have I1:aG X aB σ H {s with heap:=h',toks:=tk}:=I.j7 (λb o hb e=>kk b o (by simpa using hb) e) f0 f1 f3 f4 f5;obtain⟨o,vs,ty,e,c,d,nn⟩:=ob (i+1) h' st';exists v,rfl,xf (s:= {s with heap:=h',toks:=tk}) e c d nn ⟨val i,H,I1,hv i v hP,⟨rfl,rfl⟩,st',λb hb=>(hf b hb).1⟩
 done:=by intro X hP hw hK hc i aB s σ H E I hf st hg;subst hP hw hK;obtain rfl:i=n:=hg;obtain⟨f0,f1,f2,f3,f4,f5⟩:=hf it (by simp);exact(W X.A (I.ok.hd hc)).done s _ _ st λh' tk kk=>⟨rfl,I.j7 (λb o hb e=>kk b o (by simpa using hb) e) f0 f1 f3 f4 f5⟩
 self:=sf
section
variable{X:Cx}{tg:Expr}
def Xa(tl:TE):TI:=λσ H R=>tl σ H λx H1=> ∃t:T,x= .str (S t)/\R (Jq t.length λi=> .str (S [t.getD i 0])) H1
def a1J{tl:TE}(hl:PE X l tl):PI X tg l (Xa tl):=by
 intro aB s σ H R I h;refine aW (hl aB s σ H _ I h) λv s1 ⟨x,H1,I1,r1,q1⟩=> ?_;obtain⟨t,rfl,q⟩:=q1;obtain⟨tk,rfl⟩:=r1;(have sgn: ∀i u,SignAt (S t) i u->bm (.str (S [t.getD i 0])) u:=λi u hu=>(by obtain⟨c,k,e1,rfl⟩:=hu;(have e2:t[i]? =some c:=by simpa [S]using e1);exists k,?_;(have:t.getD i 0=c:=by simp[List.getD,e2]);rw[this];rfl));have fin: ∀ (ty:String) (hty: ["enumerate", "zip", "dict_itemiterator", "dict_reverseitemiterator", "odict_iterator", "itertools.zip_longest", "itertools.pairwise"].contains ty=false)
   (W: ∀A:Around,A.handled=none->Walks X.prog X.w A s1.heap.objs.size [s1.heap.objs.size] [s1.heap.objs.size] (S t).cps.size (SignAt (S t)) (λi h=>h.IsStrIter s1.heap.objs.size ty (S t) tk i))
   (sf: ∀ (A:Around) (i:Nat) (s:Shared) (Q:Value->Shared->Prop) (E:Value->Shared->Prop),s.heap.IsStrIter s1.heap.objs.size ty (S t) tk i->Q (.ref s1.heap.objs.size) s->wpAny (model X.prog X.w) A (pyIter (.ref s1.heap.objs.size)) Q E s),
   zM X aB σ tg R (.ref s1.heap.objs.size) {s1 with heap:=s1.heap.push {cls:= .type ty,data:= .fields #[.str (S t) tk,.int 0 0]}}:=λty hty W sf=>by
  exists s1.heap.objs.size,[s1.heap.objs.size],_,_,H1,rfl,I1.kept (t':=s1.toks) λb o e=>bS _ e,a4X W sgn ?_ ?_ sf,⟨_,cS _ rfl,rfl,rfl⟩,λb hb=> ?_,q
  ·intro i h h' st k
   obtain⟨o,ho,r⟩:=st
   exists o,k _ (by simp) o ho,r
  ·intro i h st
   obtain⟨o,ho,c,d⟩:=st
   exists o,_,ty,ho,c,d,hty
  ·obtain rfl:b=s1.heap.objs.size:=by simpa using hb
   exact I1.kW (aV _) (I1.hok.fresh (aV _))
 cases ha:(S t).cps.all (· <128);exact wpAny_pyIter_wide ha (fin _ (by decide) (λA hA=>Walks.strWide hA _ (S t) tk) λA i s Q E st hq=>wpAny_pyIter_striter_wide st hq);exact wpAny_pyIter_ascii ha (fin _ (by decide) (λA hA=>Walks.strAscii hA _ (S t) tk) λA i s Q E st hq=>wpAny_pyIter_striter_ascii st hq)
end
def CO{K:W.Frag}{kt:Nat}{pt:Pos}{fp:aq ae}{n:Nat}{δ:Type}{Ok:δ->Prop}{Src:δ->ak->Prop}{Pt:δ->Nat->au aa->Prop}{St:Nat->ak->Prop}{Mid:δ->Nat->ae->ak->Prop}{val:Nat->aq V}{G:Hp->Prop}(W: ∀ (A:ao) (d:δ),A.handled=none->Ok d->WalksT P w A it Am wr n (Pt d) (λi h=>St i h/\Src d h) (Mid d))(src: ∀ (X:Cx) (aB:aq (ae×Obj)) (σ:L2.St) (H:Hp) (s:ac),X.K=K->aG X aB σ H s->G H-> ∃d,Ok d/\Src d s.heap)(hv: ∀d i us,Ok d->Pt d i us->bg (val i) us.toList)(hz: ∀i,(val i).length<=sizeLine)(hit:it∈wr)(fr: ∀i h h',St i h->(∀b∈fp,∀o,h.get? b=some o->h'.get? b=some o)->St i h')(big: ∀i h,St i h-> ∀b∈fp,∃o,h.get? b=some o/\ ∀v,o.data≠ .cell v)(sf: ∀ (A:ao) (i:Nat) (s:ac) (Q:aa->ac->Prop) (E:aa->ac->Prop),St i s.heap->Q (.ref it) s->wpAny (model P w) A (pyIter (.ref it)) Q E s)(hsub: ∀b∈wr,b∈fp):lR P w K (.Tuple elts kt pt) (wo n val G) fp it St where
 mem:=hsub _ hit
 obj:=big
 keep:=fr
 item:=by intro X hP hw hK hc i aB s σ H E I hf st hg;subst hP hw hK;obtain⟨hg,hG⟩:=hg;obtain⟨dd,BA,Ir⟩:=src X aB σ H s rfl I hG;have W0:=W X.A dd (I.ok.hd hc) BA;refine W0.item i s _ _ hg ⟨st,Ir⟩ λTp il h' tk hp Ar hT mid kk=> ?_;exists .ref Tp,rfl,?_;refine W0.go elts kt pt i Tp {s with heap:=h',toks:=tk} _ _ mid λh2 ⟨ik,_⟩ M4=> ?_;have UL:=W0.apart i Tp h' mid;have hn:H Tp=none:=I.hok.fresh Ar;have lt: ∀b o,s.heap.get? b=some o->b≠Tp:=λb o e=>cp (fK (bL e) Ar);have kp: ∀b o,b∉wr->s.heap.get? b=some o->h2.get? b=some o:=λb o hb e=>M4 b o hb (kk b o hb e);have nw: ∀b,H b≠none->b∉wr:=λb hb hm=>hb (hf b (hsub b hm)).1;obtain⟨oT,eT,cT,nT,dT⟩:=hT;have Fs:=hv dd i il BA hp;(have J:aG X aB σ (upd H Tp (.aC (val i))) {s with heap:=h2,gens:=s.gens,drawn:=s.drawn,toks:=tk}:=(by refine I.step (ch:=wr) (λb hb=> ?_) (λb o _ _ hb e _=>kp b o hb e) (λb o _ _ hb e _=>⟨o.slots,kp b o hb e⟩) (λb o hb e n0=>by rw[aP (lt b o e)];exact n0) (λb o hb e=>⟨o,kp b o hb e⟩) (λb xs e=>by rw[aP (fm e hn)];exact e) (λb o u e=>by rw[aP (fm e hn)];exact e) (λb ps e=>⟨#[],by rw[aP (fm e hn),e];simp⟩) (λm hm=> ?_) (λa o e=> ?_) I.fC;obtain⟨_,f1,_,f3,f4,f5⟩:=hf b (hsub b hb);exists f3,f1,f4,f5;obtain⟨o,es,ep,ho,r⟩:=hm;exists o,es,ep,kp _ o (λz=>(hf _ (hsub _ z)).2.1 rfl) ho,r;by_cases ha:a=Tp;subst ha;rw[aL]at e;cases e;exact⟨hz i,il.toList,Fs,oT,M4 _ _ UL eT,cT,nT,by simpa using dT⟩;rw[aP ha]at e;(refine(I.hok a o e).stay (λb u hb q=>kp b u (nw b ?_) q) (λb q=>by rw[aP (fm q hn)];exact q) λb xs q=>by rw[aP (fm q hn)];exact q);rcases hb with rfl|hb;rw[e];simp;rw[hb];simp));exists .ref Tp,upd H Tp (.aC (val i)),J,rfl,⟨Tp,hn,rfl,rfl⟩,ik,λb hb=> ?_;have eU:=(hf b hb).1;obtain⟨o,ho,_⟩:=big i s.heap st b hb;rw[aP (lt b o ho)];exact eU
 done:=by intro X hP hw hK hc i aB s σ H E I hf st hg;subst hP hw hK;obtain⟨rfl,hG⟩:=hg;obtain⟨dd,BA,Ir⟩:=src X aB σ H s rfl I hG;have W0:=W X.A dd (I.ok.hd hc) BA;have nw: ∀b,H b≠none->b∉wr:=λb hb hm=>hb (hf b (hsub b hm)).1;(refine W0.done s _ _ ⟨st,Ir⟩ λh' tk kp=>⟨rfl,?_⟩);refine I.step (g':=s.gens) (d':=s.drawn) (t':=tk) (ch:=wr) (λb hb=> ?_) (λb o _ _ hb e _=>kp b o hb e) (λb o _ _ hb e _=>⟨o.slots,kp b o hb e⟩) (λ_ _ _ _ n0=>n0) (λb o hb e=>⟨o,kp b o hb e⟩) (λ_ _ e=>e) (λ_ _ _ e=>e) (λb ps e=>⟨#[],by rw[e];simp⟩) (λm hm=> ?_) (λa o e=> ?_) I.fC;obtain⟨_,f1,_,f3,f4,f5⟩:=hf b (hsub b hb);exists f3,f1,f4,f5;obtain⟨o,es,ep,ho,r⟩:=hm;exists o,es,ep,kp _ o (λz=>(hf _ (hsub _ z)).2.1 rfl) ho,r;refine(I.hok a o e).stay (λb u hb q=>kp b u (nw b ?_) q) (λ_ q=>q) λ_ _ q=>q;rcases hb with rfl|hb;rw[e];simp;rw[hb];simp
 self:=sf
section
variable{X:Cx}
def W6(K:W.Frag)(tl:TA):TI:=λσ H R=>tl σ H λvs H1=> ∃a xs,vs= [.ref a]/\aS K H1 a xs/\R (wo xs.length (λi=> [.int i,xs.getD i .aN]) λH=>aS K H a xs) H1
def Om{l:Expr}{tl:TA}{kt:Nat}{pt pos:Pos}(hg:Gl X "enumerate")(hm:X.mg "enumerate"=none)(hl:PA X [l] tl)(hs:starEach [l] X.env= [(false,eval l X.env)]:=by rfl):PI X (.Tuple elts kt pt) (.Call (.Name "enumerate" p) [l] [] pos) (W6 X.K tl):=by
 intro aB s σ H R I h;refine Call_ (sW I hg hm boot_enumerate (zN (aW (hl pos aB s σ H _ I h) λus s1 ⟨vs,H1,I1,r1,q1⟩=> ?_) hs rfl));obtain⟨a,xs,rfl,hq,q⟩:=q1;obtain⟨u,rfl,ru⟩:=jA r1;cases ru;obtain⟨aF,rv,ht,hz⟩:=I1.tuple hq;have oW:s1.heap.IsTuple a aF.toArray:=ht;refine RB oW λh' he hi hsz kp=> ?_;have I2:aG X aB σ H1 {s1 with heap:=h'}:=I1.kept (t':=s1.toks) kp;(have alt:a<s1.heap.objs.size:=(by obtain⟨o,e,_⟩:=oW;exact bL e));refine wpAny_pyIter_enum he ?_;exists s1.heap.objs.size+1,[s1.heap.objs.size+1,s1.heap.objs.size],λi h=>(∃old,IsEnum h (s1.heap.objs.size+1) s1.heap.objs.size i old)/\h.IsTupleIter s1.heap.objs.size a i,_,H1,rfl,I2,?_,⟨⟨_,he⟩,hi⟩,λb hb=> ?_,q
 ·refine CO (Am:=(s1.heap.objs.size+1):: [s1.heap.objs.size,a]) (wr:= [s1.heap.objs.size+1,s1.heap.objs.size]) (δ:=Array Value) (Ok:=λbc=>bg xs bc.toList) (Src:=λbc h=>h.IsTuple a bc) (Pt:=λbc i il=> ∃t x,bc[i]? =some x/\il= #[.int i t,x]) (Mid:=λbc i T h=>(∃x,IsEnumOut h (s1.heap.objs.size+1) s1.heap.objs.size ((i:Int)+1) x T)/\(h.IsTupleIter s1.heap.objs.size a (i+1)/\h.IsTuple a bc)/\T≠s1.heap.objs.size+1/\T≠s1.heap.objs.size) (λA bc hA hok=> ?_) (λY aB σ H s hK J hG=> ?_) (λbc i us hok hp=> ?_) (λi=>by show 2<=sizeLine;decide) (by simp) (λi h h' st k=> ?_) (λi h st b hb=> ?_) (λA i s Q E st hq=> ?_) λb hb=>hb
  ·(have hn:bc.size=xs.length:=by have:=hok.length;simp at this;exact this.symm);have D:=SV (prog:=X.prog) (w:=X.w) (A:=A.in1) (show A.in1.handled=none from hA) s1.heap.objs.size a (cp alt) bc;have WT:=WalksT.enumerateD D (s1.heap.objs.size+1) (Nat.succ_ne_self _) (λhm=>by rcases List.mem_cons.mp hm with z|z;exact Nat.succ_ne_self _ z;(have z':s1.heap.objs.size+1=a:=by simpa using z);exact absurd alt (by rw[<-z'];exact Nat.not_lt.mpr (hW _))) (by simp);rw[hn]at WT;exact⟨WT.sub,λi h h' st k=>by
     obtain⟨⟨x1,x2⟩,x3⟩:=st
     obtain⟨y1,y2,y3⟩:=WT.frame i h h' ⟨x1,x2,x3⟩ k
     exact⟨⟨y1,y2⟩,y3⟩,
    λi s Q E hi st hQ=>WT.item i s Q E hi ⟨st.1.1,st.1.2,st.2⟩ hQ,λe k pos i T s Q E m hQ=>WT.go e k pos i T s Q E m λh' st' kk=>hQ h' ⟨⟨st'.1,st'.2.1⟩,st'.2.2⟩ kk,WT.apart,
    λs Q E st hQ=>WT.done s Q E ⟨st.1.1,st.1.2,st.2⟩ hQ,λi s Q E st hQ=>WT.self i s Q E ⟨st.1.1,st.1.2,st.2⟩ hQ⟩
  rw[<-hK]at hG;obtain⟨its',lD,oW,_⟩:=J.tuple hG;exists its'.toArray,by simpa using lD,oW;obtain⟨t,x,e,rfl⟩:=hp;(have e':bc.toList[i]? =some x:=by simpa using e);have hi:i<bc.toList.length:=(List.getElem?_eq_some_iff.mp e').1;have hl:=hok.length;(have hx:xs[i]? =some (xs.getD i .aN):=(by(have:i<xs.length:=by lia);simp[this]));obtain⟨u,e2,ru⟩:=hok.get hx;rw[e']at e2;cases e2;exact .cons ⟨t,rfl⟩ (.cons ru .nil);obtain⟨⟨old,x1⟩,x2⟩:=st;exists⟨old,k _ (by simp) _ x1⟩,x2.at λo e=>k _ (by simp) o e;obtain⟨⟨old,x1⟩,o2,x2,_,d2⟩:=st;rcases List.mem_cons.mp hb with rfl|hb;exact⟨_,x1,λv z=>by cases z⟩;(obtain rfl:b=s1.heap.objs.size:=by simpa using hb);exact⟨o2,x2,λv z=>by rw[d2]at z;cases z⟩;obtain⟨⟨old,x1⟩,_⟩:=st;exact wpAny_pyIter_enum x1 hq
 (have nA:s1.heap.objs.size<=b:=(by rcases List.mem_cons.mp hb with rfl|hb;lia;(obtain rfl:b=s1.heap.objs.size:=by simpa using hb);lia));exact I1.kW nA (I1.hok.fresh nA)
end
structure zf(z a b i j l m:Addr):Prop where
 az:a≠z
 bz:b≠z
 iz:i≠z
 jz:j≠z
 ab:a≠b
 ai:a≠i
 aj:a≠j
 bi:b≠i
 bj:b≠j
 ij:i≠j
 lz:l≠z
 lb:l≠b
 li:l≠i
 lj:l≠j
 mz:m≠z
 mb:m≠b
 mi:m≠i
 mj:m≠j
def nW{h h':ak}{l:ae}{xs:au aa}(t:h.IsTuple l xs)(k: ∀o,h.get? l=some o->h'.get? l=some o):h'.IsTuple l xs:=by obtain⟨o,e,r⟩:=t;exists o,k o e,r
section
variable{prog:af}{w:ag}{A:ao}{E:aa->ac->Prop}{s:ac}{z a b i j l m:ae}{k1 k2:Nat}{xs ys:au aa}{x y u v:aa}
def a5a{Q:aa->ac->Prop}(D:zf z a b i j l m)(hz:IsZip s.heap z a b .none)(ha:IsPair s.heap a (.ref i) (.ref j))(hb:IsPair s.heap b u v)(h1:s.heap.IsTupleIter i l k1)(h2:s.heap.IsTupleIter j m k2)(hl:s.heap.IsTuple l xs)(hm:s.heap.IsTuple m ys)(hx:xs[k1]? =some x)(hy:ys[k2]? =some y)(hQ: ∀h',IsZip h' z a b (rawInt s.heap.objs.size)->IsPair h' b x y->h'.IsTupleIter i l (k1+1)->h'.IsTupleIter j m (k2+1)->IsPair h' s.heap.objs.size x y->h'.objs.size=s.heap.objs.size+1->(∀c o,c≠z->c≠b->c≠i->c≠j->s.heap.get? c=some o->h'.get? c=some o)->Q (.ref s.heap.objs.size) {s with heap:=h'}):wpAny (model prog w) A (Builtin.«zip.__next__» ⟨[.ref z],[]⟩) (λfin s'=> ∃v,fin= .done (.ret v)/\Q v s') E s:=by show wpAny _ _ (field (.ref z) 2>>=_) _ _ _;refine aH (ka hz rfl (x:= .bool false) rfl ?_);show wpAny _ _ (field (.ref z) 3>>=_) _ _ _;refine aH (ka hz rfl (x:= .ref a) rfl ?_);refine aH (uf ha rfl ?_);show wpAny _ _ (Builtin.SmallTypes.ownedTupleIsFree (.ref z) >>=_) _ _ _;refine aH ?_;unfold Builtin.SmallTypes.ownedTupleIsFree;refine aH (ka hz rfl (x:= .none) rfl (aX ?_));simp only[gc];refine aH (wpAny_rule ?_);refine aH (ka hz rfl (x:= .ref b) rfl ?_);refine aH (CZ hz (by simp) λg1 z1 s1=> ?_);have z1:IsZip g1 z a b .ellipsis:=z1;refine aH ?_;simp only[List.zipIdx_cons,List.zipIdx_nil,List.forIn_cons,List.forIn_nil];refine aH (aH (wpAny_onRaise ?_));show wpAny _ _ (Builtin.SmallTypes.nextOf (.ref i) >>=_) _ _ _;refine aH (IH (h1.at λo e=>s1.extBut _ _ D.iz e) (nW hl λo e=>s1.extBut _ _ D.lz e) hx λg2 t2 s2=>aX ?_);have b2:IsPair g2 b u v:=s2.extBut _ _ D.bi (s1.extBut _ _ D.bz hb);refine aH (uf b2 rfl ?_);refine aH (wpAny_updateSeq_pair b2 λg3 b3 s3=> ?_);have b3:IsPair g3 b x v:=b3;refine aH (wpAny_letGo (aX ?_));refine aH (aH (wpAny_onRaise ?_));show wpAny _ _ (Builtin.SmallTypes.nextOf (.ref j) >>=_) _ _ _;refine aH (IH (h2.at λo e=>s3.extBut _ _ D.bj.symm (s2.extBut _ _ D.ij.symm (s1.extBut _ _ D.jz e))) (nW hm λo e=>s3.extBut _ _ D.mb (s2.extBut _ _ D.mi (s1.extBut _ _ D.mz e))) hy λg4 t4 s4=>aX ?_);have b4:IsPair g4 b x v:=s4.extBut _ _ D.bj b3;refine aH (uf b4 rfl ?_);refine aH (wpAny_updateSeq_pair b4 λg5 b5 s5=> ?_);have b5:IsPair g5 b x y:=b5;refine aH (wpAny_letGo (aX (aX ?_)));refine aH (uf b5 rfl ?_);refine aH (wpAny_newTuple ?_);(have sz:g5.objs.size=s.heap.objs.size:=by rw[s5.1,s4.1,s3.1,s2.1,s1.1]);have z5:IsZip g5 z a b .ellipsis:=s5.extBut _ _ D.bz.symm (s4.extBut _ _ D.jz.symm (s3.extBut _ _ D.bz.symm (s2.extBut _ _ D.iz.symm z1)));have kp: ∀c o,c≠z->c≠b->c≠i->c≠j->s.heap.get? c=some o->g5.get? c=some o:=λc o c1 c2 c3 c4 e=>s5.extBut _ _ c2 (s4.extBut _ _ c4 (s3.extBut _ _ c2 (s2.extBut _ _ c3 (s1.extBut _ _ c1 e))));have t5:g5.IsTupleIter i l (k1+1):=t2.at λo e=>s5.extBut _ _ D.bi.symm (s4.extBut _ _ D.ij (s3.extBut _ _ D.bi.symm e));have r5:g5.IsTupleIter j m (k2+1):=t4.at λo e=>s5.extBut _ _ D.bj.symm e;have Q2:z<g5.objs.size:=bL z5;show wpAny _ _ (Builtin.SmallTypes.ownedTupleHandOut (.ref z) (.ref g5.objs.size) >>=_) _ _ _;refine aH ?_;unfold Builtin.SmallTypes.ownedTupleHandOut;have z6:IsZip (g5.push {cls:= .type "tuple",data:= .seq #[x,y]}) z a b .ellipsis:=bS _ z5;refine aH (CZ z6 (by simp) λg7 z7 s7=> ?_);have z7:IsZip g7 z a b (rawInt g5.objs.size):=z7;refine CZ z7 (by simp) λg8 z8 s8=> ?_;have z8:IsZip g8 z a b (rawInt g5.objs.size):=z8;have up: ∀c o,c≠z->g5.get? c=some o->g8.get? c=some o:=λc o c1 e=>s8.extBut _ _ c1 (s7.extBut _ _ c1 (bS _ e));have p8:IsPair g8 g5.objs.size x y:=s8.extBut _ _ (uC Q2) (s7.extBut _ _ (uC Q2) (cS _ rfl));(have n8:g8.objs.size=g5.objs.size+1:=by rw[s8.1,s7.1,jF]);rw[sz]at z8 p8 n8;refine aX ⟨_,rfl,?_⟩;show Q (.ref g5.objs.size) _;rw[sz];exact hQ g8 z8 (up _ _ D.bz b5) (t5.at λo e=>up _ o D.iz e) (r5.at λo e=>up _ o D.jz e) p8 n8 λc o c1 c2 c3 c4 e=>up c o c1 (kp c o c1 c2 c3 c4 e)
def a49{Q:Fin->ac->Prop}(hh:A.handled=none)(D:zf z a b i j l m)(hz:IsZip s.heap z a b .none)(ha:IsPair s.heap a (.ref i) (.ref j))(hb:IsPair s.heap b u v)(h1:s.heap.IsTupleIter i l k1)(hl:s.heap.IsTuple l xs)(hx:xs[k1]? =none)(hE: ∀h' e,(∀c o,c≠z->c≠b->c≠i->c≠j->s.heap.get? c=some o->h'.get? c=some o)->(∃o,h'.get? e=some o/\o.cls= .type "StopIteration")->E (.ref e) {s with heap:=h'}):wpAny (model prog w) A (Builtin.«zip.__next__» ⟨[.ref z],[]⟩) Q E s:=by show wpAny _ _ (field (.ref z) 2>>=_) _ _ _;refine aH (ka hz rfl (x:= .bool false) rfl ?_);show wpAny _ _ (field (.ref z) 3>>=_) _ _ _;refine aH (ka hz rfl (x:= .ref a) rfl ?_);refine aH (uf ha rfl ?_);show wpAny _ _ (Builtin.SmallTypes.ownedTupleIsFree (.ref z) >>=_) _ _ _;refine aH ?_;unfold Builtin.SmallTypes.ownedTupleIsFree;refine aH (ka hz rfl (x:= .none) rfl (aX ?_));simp only[gc];refine aH (wpAny_rule ?_);refine aH (ka hz rfl (x:= .ref b) rfl ?_);refine aH (CZ hz (by simp) λg1 z1 s1=> ?_);have z1:IsZip g1 z a b .ellipsis:=z1;refine aH ?_;simp only[List.zipIdx_cons,List.zipIdx_nil,List.forIn_cons,List.forIn_nil];refine aH (aH (wpAny_onRaise ?_));show wpAny _ _ (Builtin.SmallTypes.nextOf (.ref i) >>=_) _ _ _;refine aH (QF hh (h1.at λo e=>s1.extBut _ _ D.iz e) (nW hl λo e=>s1.extBut _ _ D.lz e) hx λg2 e s2 he=> ?_);obtain⟨oe,E1,Lx⟩:=he;have z2:IsZip g2 z a b .ellipsis:=s2 _ _ D.iz.symm z1;(have ez:e≠z:=λq=>by subst q;rw[z2]at E1;cases E1;simp at Lx);exact CZ z2 (by simp) λg3 _ s3=>hE g3 e (λc o c1 _ c3 _ q=>s3.extBut _ _ c1 (s2 _ _ c3 (s1.extBut _ _ c1 q))) ⟨oe,s3.extBut _ _ ez E1,Lx⟩
end
def a5b(l m:ae)(xs ys:au aa):Meets (Builtin.«zip.__new__» ⟨[.type "zip",.ref l,.ref m],[]⟩) (λ_ R s=>s.heap.IsTuple l xs/\s.heap.IsTuple m ys/\ ∀h1 h2 h3 h4 h5,h1=s.heap.push {cls:= .type "tuple_iterator",data:= .fields #[.ref l,.int 0 0]}->h2=h1.push {cls:= .type "tuple_iterator",data:= .fields #[.ref m,.int 0 0]}->h3=h2.push {cls:= .type "tuple",data:= .seq #[.ref s.heap.objs.size,.ref h1.objs.size]}->h4=h3.push {cls:= .type "tuple",data:= .seq #[.none,.none]}->h5=h4.push {cls:= .type "zip",data:= .fields #[.none,.bool false,.bool false,.ref h2.objs.size,.ref h3.objs.size]}->R (.ok (.ret (.ref h4.objs.size))) {s with heap:=h5}):=
 .of_wp λprog w A R s h=>by obtain⟨hp,g,d,tk,os⟩:=s;obtain⟨iw,gY,h⟩:=h;have hsub:=sub_zip;have UF:Heap.IsTuple (Shared.heap ⟨hp,g,d,tk,os⟩) l xs:=iw;have UG:Heap.IsTuple (Shared.heap ⟨hp.push {cls:= .type "tuple_iterator",data:= .fields #[.ref l,.int 0 0]},g,d,tk,os⟩) m ys:=nW gY λo e=>bS _ e;wp_walk using CY UF,CY UG;exists _,rfl,h _ _ _ _ _ rfl rfl rfl rfl rfl
section
variable{prog:af}{w:ag}{A:ao}{E:aa->ac->Prop}{s:ac}
def RL{l m:ae}{xs ys:au aa}{Q:aa->ac->Prop}(hl:s.heap.IsTuple l xs)(hm:s.heap.IsTuple m ys)(h: ∀h',IsZip h' (s.heap.objs.size+4) (s.heap.objs.size+2) (s.heap.objs.size+3) .none->IsPair h' (s.heap.objs.size+2) (.ref s.heap.objs.size) (.ref (s.heap.objs.size+1))->IsPair h' (s.heap.objs.size+3) .none .none->h'.IsTupleIter s.heap.objs.size l 0->h'.IsTupleIter (s.heap.objs.size+1) m 0->(∀c o,s.heap.get? c=some o->h'.get? c=some o)->Q (.ref (s.heap.objs.size+4)) {s with heap:=h'}):wpAny (model prog w) A (call (.type "zip") [.ref l,.ref m]) Q E s:=by refine callType_new F.called_zip (by decide) (F.typeCall_zip_2 _ _) (F.newCall_zip_2 _ _) (λobj=>F.args_object_init_3 obj _ _) F.entry_zip_new (a5b l m xs ys) ⟨hl,hm,?_⟩;intro h1 h2 h3 h4 h5 e1 e2 e3 e4 e5;(have n1:h1.objs.size=s.heap.objs.size+1:=by rw[e1,jF]);(have n2:h2.objs.size=s.heap.objs.size+2:=by rw[e2,jF,n1]);(have n3:h3.objs.size=s.heap.objs.size+3:=by rw[e3,jF,n2]);(have n4:h4.objs.size=s.heap.objs.size+4:=by rw[e4,jF,n3]);(have QM: ∀c o,h4.get? c=some o->h5.get? c=some o:=λc o q=>by rw[e5];exact bS _ q);have QL: ∀c o,h3.get? c=some o->h5.get? c=some o:=λc o q=>QM c o (by rw[e4];exact bS _ q);have QK: ∀c o,h2.get? c=some o->h5.get? c=some o:=λc o q=>QL c o (by rw[e3];exact bS _ q);have QJ: ∀c o,h1.get? c=some o->h5.get? c=some o:=λc o q=>QK c o (by rw[e2];exact bS _ q);have up1: ∀c o,s.heap.get? c=some o->h5.get? c=some o:=λc o q=>QJ c o (by rw[e1];exact bS _ q);(have g5:IsZip h5 (s.heap.objs.size+4) (s.heap.objs.size+2) (s.heap.objs.size+3) .none:=(by rw[<-n4,<-n3,<-n2,e5];exact cS _ rfl));have g4:IsPair h5 (s.heap.objs.size+3) .none .none:=QM _ _ (by rw[<-n3,e4];exact cS _ rfl);have g3:IsPair h5 (s.heap.objs.size+2) (.ref s.heap.objs.size) (.ref (s.heap.objs.size+1)):=QL _ _ (by rw[<-n2,<-n1,e3];exact cS _ rfl);(have g2:h5.IsTupleIter (s.heap.objs.size+1) m 0:=⟨_,QK _ _ (by rw[<-n1,e2];exact cS _ rfl),rfl,rfl⟩);(have g1:h5.IsTupleIter s.heap.objs.size l 0:=⟨_,QJ _ _ (by rw[e1];exact cS _ rfl),rfl,rfl⟩);rw[n4];exists⟨_,g5,rfl⟩,h _ g5 g3 g4 g1 g2 up1
def a44(hh:A.handled=none)(z a b i j l m:ae)(D:zf z a b i j l m)(xs ys:au aa)(hsz:xs.size=ys.size):WalksT prog w A z [z,a,b,i,j,l,m] [z,b,i,j] xs.size (λk il=> ∃x y,xs[k]? =some x/\ys[k]? =some y/\il= #[x,y]) (λk h=>(IsZip h z a b .none/\IsPair h a (.ref i) (.ref j)/\(∃u v,IsPair h b u v)/\h.IsTupleIter i l k/\h.IsTupleIter j m k)/\h.IsTuple l xs/\h.IsTuple m ys) (λk T h=>IsZip h z a b (rawInt T)/\IsPair h a (.ref i) (.ref j)/\(∃u v,IsPair h b u v)/\h.IsTupleIter i l (k+1)/\h.IsTupleIter j m (k+1)/\h.IsTuple l xs/\h.IsTuple m ys/\T≠z/\T≠b/\T≠i/\T≠j)where
 sub:=λc hc=>by simp only[dN,eB,eJ]at hc⊢;rcases hc with q|q|q|q<;>simp[q]
 frame:=λk h h' st kp=>by obtain⟨⟨x1,x2,⟨u,v,x3⟩,x4,x5⟩,x6,x7⟩:=st;exists⟨kp z (by simp) _ x1,kp a (by simp) _ x2,⟨u,v,kp b (by simp) _ x3⟩,x4.at λo e=>kp i (by simp) o e,x5.at λo e=>kp j (by simp) o e⟩,nW x6 λo e=>kp l (by simp) o e,nW x7 λo e=>kp m (by simp) o e
 item:=λk s Q E hk st hQ=>by obtain⟨⟨x1,x2,⟨u,v,x3⟩,x4,x5⟩,x6,x7⟩:=st;(have hT:s.TypeIs (.ref z) "zip":=⟨_,x1,rfl⟩);(have ky:k<ys.size:=by lia);unfold pyNext;refine aH (zb (pN (name:=Str.ofString "__next__") hT F.slot_zip_next (jB F.slot_zip_next hT F.entry_zip_next (a5a D x1 x2 x3 x4 x5 x6 x7 (kM hk) (kM ky) λh' a1 a2 a3 a4 a5 a6 kp=>aX ?_) (F.args_zip_next_1 _))));have lt: ∀ {c o},s.heap.get? c=some o->s.heap.objs.size≠c:=λe=>uC (bL e);refine hQ s.heap.objs.size #[xs[k],ys[k]] h' s.toks ⟨_,_,kM hk,kM ky,rfl⟩ (aV _) ⟨_,a5,rfl,_,rfl⟩ ⟨a1,kp _ _ D.az D.ab D.ai D.aj x2,⟨_,_,a2⟩,a3,a4,nW x6 λo e=>kp _ o D.lz D.lb D.li D.lj e,nW x7 λo e=>kp _ o D.mz D.mb D.mi D.mj e,lt x1,lt x3,?_,?_⟩ λc o hc e=>kp c o (λq=>hc (by simp[q])) (λq=>hc (by simp[q])) (λq=>hc (by simp[q])) (λq=>hc (by simp[q])) e;obtain⟨_,e,_⟩:=x4;exact lt e;obtain⟨_,e,_⟩:=x5;exact lt e
 go:=λelts kk pos k T s Q E md hQ=>by obtain⟨x1,x2,⟨u,v,x3⟩,x4,x5,x6,x7,_⟩:=md;exact wpAny_letOwnedTupleGo_zip x1 λh' z' s'=>hQ h' ⟨⟨z',s'.extBut _ _ D.az x2,⟨u,v,s'.extBut _ _ D.bz x3⟩,x4.at λo e=>s'.extBut _ _ D.iz e,x5.at λo e=>s'.extBut _ _ D.jz e⟩,nW x6 λo e=>s'.extBut _ _ D.lz e,nW x7 λo e=>s'.extBut _ _ D.mz e⟩ λc o hc e=>s'.extBut _ _ (λq=>hc (by simp[q])) e
 apart:=λk T h md hT=>by obtain⟨_,_,_,_,_,_,_,t1,t2,t3,t4⟩:=md;simp at hT;rcases hT with q|q|q|q;exact t1 q;exact t2 q;exact t3 q;exact t4 q
 done:=λs Q E st hQ=>by obtain⟨⟨x1,x2,⟨u,v,x3⟩,x4,x5⟩,x6,x7⟩:=st;(have hT:s.TypeIs (.ref z) "zip":=⟨_,x1,rfl⟩);unfold pyNext;refine aH (zb (pN (name:=Str.ofString "__next__") hT F.slot_zip_next (jB F.slot_zip_next hT F.entry_zip_next (a49 (A:=A.in1) hh D x1 x2 x3 x4 x6 (zi (aV _)) λh' e kp he=> ?_) (F.args_zip_next_1 _))));obtain⟨o,ho,hc⟩:=he;refine aH (wpAny_isInstance (T:= "StopIteration") (b:=true) ⟨o,ho,hc⟩ isSubtype_stop ?_);exact aX (hQ _ s.toks λc o hc e=>kp c o (λq=>hc (by simp[q])) (λq=>hc (by simp[q])) (λq=>hc (by simp[q])) (λq=>hc (by simp[q])) e)
 self:=λk s Q E st hQ=>wpAny_pyIter_zip st.1.1 hQ
end
section
variable{X:Cx}
def Xb(K:W.Frag)(tl:TA):TI:=λσ H R=>tl σ H λvs H1=> ∃a b xs ys,vs= [.ref a,.ref b]/\aS K H1 a xs/\aS K H1 b ys/\xs.length=ys.length/\R (wo xs.length (λi=> [xs.getD i .aN,ys.getD i .aN]) λH=>aS K H a xs/\aS K H b ys) H1
def a1L{l l':Expr}{tl:TA}{kt:Nat}{pt pos:Pos}(hg:Gl X "zip")(hm:X.mg "zip"=none)(hl:PA X [l,l'] tl)(hs:starEach [l,l'] X.env= [(false,eval l X.env),(false,eval l' X.env)]:=by rfl)(hs2:starEach [l'] X.env= [(false,eval l' X.env)]:=by rfl):PI X (.Tuple elts kt pt) (.Call (.Name "zip" p) [l,l'] [] pos) (Xb X.K tl):=by intro aB s σ H R I h;refine Call_ (sW I hg hm boot_zip (zN (aW (hl pos aB s σ H _ I h) λus s1 ⟨vs,H1,I1,r1,q1⟩=> ?_) (by rw[hs,hs2]) (by rw[hs2];rfl)));obtain⟨a,b,xs,ys,rfl,jn,gD,cf,q⟩:=q1;obtain⟨u,v,rfl,ru,rv⟩:=QO r1;cases ru;cases rv;obtain⟨aF,w1,t1,z1⟩:=I1.tuple jn;obtain⟨xQ,w2,t2,z2⟩:=I1.tuple gD;have t1':s1.heap.IsTuple a aF.toArray:=t1;have Qs:s1.heap.IsTuple b xQ.toArray:=t2;refine RL t1' Qs λh' y1 y2 y3 y4 y5 kp=> ?_;have I2:aG X aB σ H1 {s1 with heap:=h'}:=I1.kept (t':=s1.toks) kp;(have FX:a<s1.heap.objs.size:=by obtain⟨o,e,_⟩:=t1';exact bL e);(have FY:b<s1.heap.objs.size:=by obtain⟨o,e,_⟩:=Qs;exact bL e);generalize hN:s1.heap.objs.size=N at y1 y2 y3 y4 y5 FX FY⊢;have FX: @LT.lt Nat _ a N:=FX;have FY: @LT.lt Nat _ b N:=FY;(have D:zf (N+4) (N+2) (N+3) N (N+1) a b:=(by constructor<;>(show(_:Nat)≠_;lia)));refine wpAny_pyIter_zip y1 ?_;exists N+4,[N+4,N+2,N+3,N,N+1],λk h=>IsZip h (N+4) (N+2) (N+3) .none/\IsPair h (N+2) (.ref N) (.ref (N+1))/\(∃u v,IsPair h (N+3) u v)/\h.IsTupleIter N a k/\h.IsTupleIter (N+1) b k,_,H1,rfl,I2,?_,⟨y1,y2,⟨_,_,y3⟩,y4,y5⟩,λc hc=> ?_,q;refine CO (Am:= [N+4,N+2,N+3,N,N+1,a,b]) (wr:= [N+4,N+3,N,N+1]) (δ:=au aa×au aa) (Ok:=λd=>bg xs d.1.toList/\bg ys d.2.toList) (Src:=λd h=>h.IsTuple a d.1/\h.IsTuple b d.2) (Pt:=λd k il=> ∃x y,d.1[k]? =some x/\d.2[k]? =some y/\il= #[x,y]) (Mid:=λd k T h=>IsZip h (N+4) (N+2) (N+3) (rawInt T)/\IsPair h (N+2) (.ref N) (.ref (N+1))/\(∃u v,IsPair h (N+3) u v)/\h.IsTupleIter N a (k+1)/\h.IsTupleIter (N+1) b (k+1)/\h.IsTuple a d.1/\h.IsTuple b d.2/\T≠N+4/\T≠N+3/\T≠N/\T≠N+1) (λA d hA hok=> ?_) (λY aB σ H s hK J hG=> ?_) (λd k us hok hp=> ?_) (λi=>by show 2<=sizeLine;decide) (by simp) (λk h h' st kk=> ?_) (λk h st c hc=> ?_) (λA k s Q E st hq=>wpAny_pyIter_zip st.1 hq) λc hc=> ?_;(have e1:d.1.size=xs.length:=by have:=hok.1.length;simp at this;exact this.symm);(have e2:d.2.size=ys.length:=by have:=hok.2.length;simp at this;exact this.symm);have WT:=a44 (prog:=X.prog) (w:=X.w) hA (N+4) (N+2) (N+3) N (N+1) a b D d.1 d.2 (by lia);rw[e1]at WT;exact WT;rw[<-hK]at hG;obtain⟨i1,v1,u1,_⟩:=J.tuple hG.1;obtain⟨i2,v2,u2,_⟩:=J.tuple hG.2;exists(i1.toArray,i2.toArray),⟨by simpa using v1,by simpa using v2⟩,u1,u2;obtain⟨x,y,ex,ey,rfl⟩:=hp;(have ex':d.1.toList[k]? =some x:=by simpa using ex);(have wZ:d.2.toList[k]? =some y:=by simpa using ey);have hi:k<d.1.toList.length:=(List.getElem?_eq_some_iff.mp ex').1;have iw:=hok.1.length;have gY:=hok.2.length;(have hx:xs[k]? =some (xs.getD k .aN):=(by(have:k<xs.length:=by lia);simp[this]));(have hy:ys[k]? =some (ys.getD k .aN):=(by(have:k<ys.length:=by lia);simp[this]));obtain⟨u1,g1,yn⟩:=hok.1.get hx;obtain⟨u2,g2,G6⟩:=hok.2.get hy;rw[ex']at g1;rw[wZ]at g2;cases g1;cases g2;exact .cons yn (.cons G6 .nil);obtain⟨x1,x2,⟨u,v,x3⟩,x4,x5⟩:=st;exists kk _ (by simp) _ x1,kk _ (by simp) _ x2,⟨u,v,kk _ (by simp) _ x3⟩,x4.at λo e=>kk _ (by simp) o e,x5.at λo e=>kk _ (by simp) o e;obtain⟨x1,x2,⟨u,v,x3⟩,⟨o4,x4,_,d4⟩,⟨o5,x5,_,d5⟩⟩:=st;simp only[dN,eB,eJ]at hc;rcases hc with rfl|rfl|rfl|rfl|rfl;exact⟨_,x1,λv z=>by cases z⟩;exact⟨_,x2,λv z=>by cases z⟩;exact⟨_,x3,λv z=>by cases z⟩;exact⟨o4,x4,λv z=>by rw[d4]at z;cases z⟩;exact⟨o5,x5,λv z=>by rw[d5]at z;cases z⟩;simp only[dN,eB,eJ]at hc⊢;rcases hc with q|q|q|q<;>simp[q];(have nA:s1.heap.objs.size<=c:=(by rw[hN];simp only[dN,eB,eJ]at hc;rcases hc with rfl|rfl|rfl|rfl|rfl;exact uA _ _;exact uA _ _;exact uA _ _;exact aV _;exact uA _ _));exact I1.kW nA (I1.hok.fresh nA)
end
section
variable{X:Cx}{aB:aq (ae×Obj)}{σ:St}{H:Hp}{s s':ac}{E:XK}{e:aa}
end
section
variable{X:Cx}{T:aq aA}{scope:Scope}{elt iter tg:Expr}{ifs:aq Expr}{pos:Pos}{wi:TI}{g:TG}{tt:TT}{te:TE}{E:XK}
end
section
variable{X:Cx}{aB:aq (ae×Obj)}{σ:St}{H:Hp}{s:ac}
end
section
variable{X:Cx}{k:Nat}{f CT:ae}{fd:ah}{ps:aq aA}{sp:Sp}{gB:aq V}{ds:aq aa}{fx x y z n:aA}{e:Expr}{es:aq Expr}{t:TA}{i j:Nat}{p cL pos dP xp hp tp np sp' yp:Pos}
end
mutual
/---/def aJ(H:Hp):PV->V->Prop
 | .at .aN,v=>v= .aN
 | .at (.int i),v=>v= .int i
 | .at (.str x),v=>v= .str (S x)/\x.length<=1000000
 | .aC ps,v=> ∃a vs,v= .ref a/\H a=some (.aC vs)/\aE H ps vs
/---/def aE(H:Hp):List PV->List V->Prop
 | [],vs=>vs= []
 |p::ps,vs=> ∃v r,vs=v::r/\aJ H p v/\aE H ps r
end
def bO(H H':Hp):Prop:= ∀b xs,H b=some (.aC xs)->H' b=some (.aC xs)
mutual
theorem aJ.mono{H H':Hp}(h:bO H H'): ∀ (p:PV) (v:V),aJ H p v->aJ H' p v
 | .at .aN,v,r=>r
 | .at (.int i),v,r=>r
 | .at (.str x),v,r=>r
 | .aC ps,v,r=>by simp only[aJ]at r⊢;obtain⟨a,vs,e,h1,h2⟩:=r;exists a,vs,e,h a vs h1,aE.mono h ps vs h2
theorem aE.mono{H H':Hp}(h:bO H H'): ∀ (ps:aq PV) (vs:aq V),aE H ps vs->aE H' ps vs
 | [],vs,r=>r
 |p::ps,vs,r=>by simp only[aE]at r⊢;obtain⟨v,t,e,h1,h2⟩:=r;exists v,t,e,aJ.mono h p v h1,aE.mono h ps t h2
end
def aE.len{H:Hp}: ∀ {ps:aq PV} {vs:aq V},aE H ps vs->ps.length=vs.length
 | [],vs,r=>by simp only[aE]at r;subst r;rfl
 |p::ps,vs,r=>by simp only[aE]at r;obtain⟨v,t,rfl,_,h2⟩:=r;simp[aE.len h2]
def aE.get{H:Hp}: ∀ {ps:aq PV} {vs:aq V} {i:Nat} {v:V},aE H ps vs->vs[i]? =some v-> ∃p,ps[i]? =some p/\aJ H p v
 | [],vs,i,v,r,e=>by simp only[aE]at r;subst r;simp at e
 |p::ps,vs,i,v,r,e=>by simp only[aE]at r;obtain⟨w,t,rfl,h1,h2⟩:=r;cases i with|zero=>simp at e;subst e;exact⟨p,rfl,h1⟩|succ i=>simp at e⊢;exact aE.get h2 e
def aE.get'{H:Hp}{ps:aq PV}{vs:aq V}{i:Nat}{p:PV}(r:aE H ps vs)(e:ps[i]? =some p): ∃v,vs[i]? =some v/\aJ H p v:=by(have h1:i<vs.length:=by rw[<-r.len];exact(List.getElem?_eq_some_iff.mp e).1);obtain⟨q,h2,h3⟩:=r.get (br h1);rw[e]at h2;cases h2;exists _,br h1,h3
def aE.append{H:Hp}: ∀ {ps qs:aq PV} {vs ws:aq V},aE H ps vs->aE H qs ws->aE H (ps++qs) (vs++ws)
 | [],_,vs,_,r,s=>by simp only[aE]at r;subst r;exact s
 |p::ps,qs,vs,ws,r,s=>by simp only[aE]at r;obtain⟨v,t,rfl,h1,h2⟩:=r;simp only[zu,aE];exists v,t++ws,rfl,h1,aE.append h2 s
def aE.dY{H:Hp}{p:PV}{v:V}(h:aJ H p v):aE H [p] [v]:=by simp only[aE];exists v,[],rfl,h,rfl
def aE.nil{H:Hp}:aE H [] []:=by simp only[aE]
def aE.cons{H:Hp}{p:PV}{ps:aq PV}{v:V}{vs:aq V}(h:aJ H p v)(t:aE H ps vs):aE H (p::ps) (v::vs):=by simp only[aE];exists v,vs,rfl,h,t
def aE.drop{H:Hp}: ∀ (n:Nat) {ps:aq PV} {vs:aq V},aE H ps vs->aE H (ps.drop n) (vs.drop n)
 |0,_,_,r=>r
 |n+1,[],vs,r=>by simp only[aE]at r;subst r;exact aE.nil
 |n+1,p::ps,vs,r=>by simp only[aE]at r;obtain⟨v,t,rfl,h1,h2⟩:=r;exact aE.drop n h2
def aE.take{H:Hp}: ∀ (n:Nat) {ps:aq PV} {vs:aq V},aE H ps vs->aE H (ps.take n) (vs.take n)
 |0,_,_,r=>aE.nil
 |n+1,[],vs,r=>by simp only[aE]at r;subst r;exact aE.nil
 |n+1,p::ps,vs,r=>by simp only[aE]at r;obtain⟨v,t,rfl,h1,h2⟩:=r;exact aE.cons h1 (aE.take n h2)
def aY.bA{H H':Hp}(h:aY H H'):bO H H':=λb xs e=>h b _ e
def bO.refl(H:Hp):bO H H:=λ_ _ e=>e
def bO.trans{H H1 H2:Hp}(a:bO H H1)(b:bO H1 H2):bO H H2:=λc xs e=>b c xs (a c xs e)
def aM{H:Hp}{p:ae}(h:H p=none)(o:HO):aY H (upd H p o):=λb u q=>by rw[aP (fm q h)];exact q
def aY.bE{H H':Hp}(h:aY H H'){p:PV}{v:V}(r:aJ H p v):aJ H' p v:=aJ.mono h.bA p v r
def aY.bC{H H':Hp}(h:aY H H'){p:aq PV}{v:aq V}(r:aE H p v):aE H' p v:=aE.mono h.bA p v r
def aY.CA{K:W.Frag}{H H':Hp}(h:aY H H'){a:ae}{xs:aq V}(r:aS K H a xs):aS K H' a xs:=by rcases r with(r|⟨o,r⟩)|r;exact .inl (.inl (h _ _ r));exact .inl (.inr ⟨o,h _ _ r⟩);exact .inr r
def aJ.aC{H:Hp}{ps:aq PV}{v:V}(r:aJ H (.aC ps) v): ∃a vs,v= .ref a/\H a=some (.aC vs)/\aE H ps vs:=by simpa only[aJ]using r
def aJ.mk{H:Hp}{ps:aq PV}{a:ae}{vs:aq V}(h:H a=some (.aC vs))(r:aE H ps vs):aJ H (.aC ps) (.ref a):=by simp only[aJ];exists a,vs,rfl,h,r
def aJ.ty{K:W.Frag}{H:Hp}: ∀ {p:PV} {v:V},aJ H p v-> ∃t,jg K H v (.type t)/\((∃xs,p= .aC xs/\t= "tuple")\/(∃i,p= .at (.int i)/\t= "int")\/(∃x,p= .at (.str x)/\t= "str")\/(p= .at .aN/\t= "NoneType"))
 | .at .aN,v,r=>by simp only[aJ]at r;subst r;exists _,.aN,.inr (.inr (.inr ⟨rfl,rfl⟩))
 | .at (.int i),v,r=>by simp only[aJ]at r;subst r;exists _,.int i,.inr (.inl ⟨i,rfl,rfl⟩)
 | .at (.str x),v,r=>by simp only[aJ]at r;obtain⟨r,_⟩:=r;subst r;exists _,.str _,.inr (.inr (.inl ⟨x,rfl,rfl⟩))
 | .aC ps,v,r=>by obtain⟨a,vs,rfl,h,_⟩:=r.aC;exists _,.aC h,.inl ⟨ps,rfl,rfl⟩
structure cP(P:Program)(w:World)(K:W.Frag)(mg:Str->Option Value)(base:Heap)(CX:iQ)(k:Nat)(x:Str)(ps:List Str)(sp:Sp):Prop where
 ex: ∃f fd,bw P w K mg base CX k f fd ps sp/\gQ K fd ps []/\mg x=some (.ref f)/\W.keepIn K (.ref f)=true
def cj{X:Cx}{CX:iQ}{k j:Nat}{x:aA}{sp:Sp}{E:XK}{e:Expr}{es:aq Expr}{t:TA}(h:cP X.prog X.w X.K X.mg X.base CX k x ps sp)(hr:fA j X.A)(hg:Gl X x)(hx:mX CX X E)(ha:PA X (e::es) t)(VW:k<=j:=by first|decide|lia)(ku:(x==("__debug__":aA))=false:=by decide)(he:starEach (e::es) X.env=(false,eval e X.env)::starEach es X.env:=by rfl)(gy:(backTo pos (starEach es X.env)).any (·.1)=false:=by rfl):PE X (.Call (.Name x p) (e::es) [] pos) (Qw sp [] E t):=by obtain⟨f,fd,F,B,m,kp⟩:=h.ex;exact a1w F (hr.mono VW) hg m kp B .nil hx ha ku he gy
mutual
/---/def dp:PV->Nat
 | .at _=>0
 | .aC ps=>cq ps+1
/---/def cq:List PV->Nat
 | []=>0
 |p::ps=>max (dp p) (cq ps)
end
section
variable{X:Cx}{aB:aq (ae×Obj)}{σ:St}{H:Hp}{s:ac}
def oZ{A:ao}:A.in1.units=A.units+1:=rfl
mutual
theorem Tv(I:aG X aB σ H s): ∀ (p:PV) (x y:V) (u w:aa) (A:ao),A.units+dp p<cLine->aJ H p x->aJ H p y->bm x u->bm y w->SeqAt.EqAt A s u w true
 | .at .aN,x,y,u,w,A,_,rx,ry,hu,hw=>by simp only[aJ]at rx ry;subst rx ry;exact wV hu hw rfl rfl
 | .at (.int i),x,y,u,w,A,_,rx,ry,hu,hw=>by simp only[aJ]at rx ry;subst rx ry;have:=wV (A:=A) (s:=s) hu hw rfl rfl;simpa [km]using this
 | .at (.str z),x,y,u,w,A,_,rx,ry,hu,hw=>by simp only[aJ]at rx ry;obtain⟨rx,_⟩:=rx;obtain⟨ry,_⟩:=ry;subst rx ry;have:=wV (A:=A) (s:=s) hu hw rfl rfl;simpa [km]using this
 | .aC ps,x,y,u,w,A,hA,rx,ry,hu,hw=>by obtain⟨a,vs,rfl,ha,ra⟩:=rx.aC;obtain⟨b,ws,rfl,hb,rb⟩:=ry.aC;cases hu;cases hw;by_cases e:a=b;subst e;exact SeqAt.EqAt.same _;obtain⟨i1,r1,t1,_⟩:=I.tuple (aS.of (K:=X.K) ha);obtain⟨i2,r2,t2,_⟩:=I.tuple (aS.of (K:=X.K) hb);have l1:=r1.length;have l2:=r2.length;have l3:=ra.len;have l4:=rb.len;simp only[dp]at hA;(have:=SeqAt.RcAt.tuples (A:=A) (s:=s) (e:=λ_=>true) t1 t2 (by lia) λj h1 h2=>(by simp only[cE]at h1 h2;exact D6 I ps vs ws i1 i2 A.in1 (by rw[oZ];lia) ra rb r1 r2 j _ _ (by simp[br h1]) (by simp[br h2])));refine SeqAt.EqAt.of_refs e ?_;(have e2:((List.range (min i1.toArray.size i2.toArray.size)).all (λ_=>true) &&i1.toArray.size==i2.toArray.size)=true:=(by simp only[cE,gR,wu,beq_iff_eq];exact⟨λ_ _=>by trivial,by lia⟩));rw[e2]at this;exact this
theorem D6(I:aG X aB σ H s): ∀ (ps:aq PV) (xs ys:aq V) (us ws:aq aa) (A:ao),A.units+cq ps<cLine->aE H ps xs->aE H ps ys->bg xs us->bg ys ws-> ∀ (j:Nat) (u w:aa),us[j]? =some u->ws[j]? =some w->SeqAt.EqAt A s u w true
 | [],xs,ys,us,ws,A,_,rx,ry,hu,hw,j,u,w,e1,e2=>by simp only[aE]at rx;subst rx;cases hu;simp at e1
 |p::ps,xs,ys,us,ws,A,hA,rx,ry,hu,hw,j,u,w,e1,e2=>by
  simp only[aE]at rx ry;obtain⟨x,xr,rfl,Hd,He⟩:=rx;obtain⟨y,yr,rfl,Hf,pF⟩:=ry;cases hu with
  |cons oX qt=>
  cases hw with
  |cons i6 oY=>
  simp only[cq]at hA;(cases j with|zero=>simp at e1 e2;subst e1 e2;exact Tv I p x y _ _ A (by lia) Hd Hf oX i6|succ j=>simp at e1 e2;exact D6 I ps xr yr _ _ A (by lia) He pF qt oY j u w e1 e2)
end
end
section
variable{X:Cx}
def a09(hu:X.A.units+100<cLine):eN X (compareOp .Eq) (λx y H Q=> ∃a b xs ys ps,x= .ref a/\y= .ref b/\aQ X.K H a xs/\aQ X.K H b ys/\cq ps<=50/\aE H ps xs/\aE H ps ys/\Q (.bl true) H):=by intro aB s σ H x y v u Q I rx ry h;obtain⟨a,b,xs,ys,ps,rfl,rfl,ha,hb,hd,r1,r2,q⟩:=h;cases rx;cases ry;obtain⟨i1,v1,pl,_⟩:=I.list ha;obtain⟨i2,v2,BJ,_⟩:=I.list hb;have l1:=v1.length;have l2:=v2.length;have l3:=r1.len;have l4:=r2.len;refine SeqAt.eq_listAt (e:=λ_=>true) pl.isList BJ.isList (by simp only[cE];lia) (by lia) (λj h1 h2=> ?_) ⟨.bl true,H,I,?_,q⟩;simp only[cE]at h1 h2;exact D6 I ps xs ys i1 i2 X.A.in1 (by rw[oZ];lia) r1 r2 v1 v2 j _ _ (by simp[br h1]) (by simp[br h2]);(have e2:((List.range i1.toArray.size).all λ_=>true)=true:=by simp);rw[e2];rfl
end
section
variable{X:Cx}
end
section
variable{κ:Type} [DecidableEq κ]
/---/def bZ(kvs:List (κ×V))(k:κ):Option V:=(kvs.find? λkv=>decide (kv.1=k)).map (·.2)
/---/def dI(kvs:List (κ×V))(k:κ)(v:V):List (κ×V):=
 if(kvs.any λkv=>decide (kv.1=k))=true then kvs.map (λkv=>if kv.1=k then(kv.1,v)else kv)else kvs++ [(k,v)]
/---/def dU(kvs:List (κ×V))(k:κ):List (κ×V):=kvs.filter λkv=>decide (kv.1≠k)
def nX{p:κ×V}{r:aq (κ×V)}{k:κ}(e:p.1=k):bZ (p::r) k=some p.2:=by simp[bZ,ur,e]
def lI{p:κ×V}{r:aq (κ×V)}{k:κ}(e: ¬p.1=k):bZ (p::r) k=bZ r k:=by simp[bZ,ur,e]
def yW(k:κ): ∀kvs:aq (κ×V),(kvs.any λkv=>decide (kv.1=k))=(bZ kvs k).isSome
 | []=>rfl
 |p::r=>by rw[rC];by_cases e:p.1=k;simp only[nX e,jN e,Bool.true_or,Option.isSome_some];rw[lI e,gv e,Bool.false_or];exact yW k r
def sX(kvs:aq (κ×V))(k:κ)(v:V):(dI kvs k v).length<=kvs.length+1:=by unfold dI;split;rw[bq];lia;rw[gn,cU,rE];lia
def yg{kvs:aq (κ×V)}{k:κ}(v:V)(h:bZ kvs k=none):dI kvs k v=kvs++ [(k,v)]:=by unfold dI;rw[yW,h];exact aU (by decide)
def gA.xO{o:ap V}{u:ap aa}(r:gA o u):o.isSome=u.isSome:=by cases o with|none=>(cases u with|none=>rfl|some _=>exact(show False from r).elim)|some _=>cases u with|none=>exact(show False from r).elim|some _=>rfl
def gA.getD{o:ap V}{u:ap aa}{d:V}{d':aa}(r:gA o u)(rd:bm d d'):bm (o.getD d) (u.getD d'):=by cases o with|none=>(cases u with|none=>exact rd|some _=>exact(show False from r).elim)|some _=>cases u with|none=>exact(show False from r).elim|some _=>exact r
def KV.val{kvs:aq (κ×V)}{vs:aq (κ×aa)}(r:KV kvs vs)(k:κ):gA (bZ kvs k) (valueAt vs k):=by unfold KV at r;induction r with|nil=>exact True.intro| @cons p q ps qs h t ih=>obtain⟨h1,h2⟩:=h;by_cases e:p.1=k;have e':q.1=k:=h1.symm.trans e;(have b:valueAt (q::qs) k=some q.2:=by simp[valueAt,ur,e']);rw[nX e,b];exact h2;have e': ¬q.1=k:=λz=>e (h1.trans z);(have b:valueAt (q::qs) k=valueAt qs k:=by simp[valueAt,ur,e']);rw[lI e,b];exact ih
def KV.any{kvs:aq (κ×V)}{vs:aq (κ×aa)}(r:KV kvs vs)(k:κ):(kvs.any λkv=>decide (kv.1=k))=vs.any λkv=>decide (kv.1=k):=by unfold KV at r;induction r with|nil=>rfl|cons h t ih=>rw[rC,rC,ih,h.1]
def KV.repl{kvs:aq (κ×V)}{vs:aq (κ×aa)}(r:KV kvs vs)(k:κ){y:V}{u:aa}(ry:bm y u):KV (kvs.map λkv=>if kv.1=k then(kv.1,y)else kv) (vs.map λkv=>if kv.1=k then(kv.1,u)else kv):=by unfold KV at r⊢;induction r with|nil=>exact .nil| @cons p q ps qs h t ih=>rw[bH,bH];refine .cons ?_ ih;obtain⟨h1,h2⟩:=h;by_cases e:p.1=k;rw[aT e,aT (h1.symm.trans e)];exists h1,ry;rw[aU e,aU λz=>e (h1.trans z)];exists h1,h2
def KV.put{kvs:aq (κ×V)}{vs:aq (κ×aa)}(r:KV kvs vs)(k:κ){y:V}{u:aa}(ry:bm y u):KV (dI kvs k y) (stored vs k u):=by unfold dI stored;rw[r.any k];by_cases e:(vs.any λkv=>decide (kv.1=k))=true;rw[aT e,aT e];exact r.repl k ry;rw[aU e,aU e];exact Paired.snoc r ⟨rfl,ry⟩
def KV.drop{kvs:aq (κ×V)}{vs:aq (κ×aa)}(r:KV kvs vs)(k:κ):KV (dU kvs k) (without vs k):=by unfold KV at r⊢;unfold dU without;induction r with|nil=>exact .nil| @cons p q ps qs h t ih=>obtain⟨h1,h2⟩:=h;rw[pS,pS];by_cases e:p.1=k;(have a: ¬decide (p.1≠k)=true:=by simp[e]);(have b: ¬decide (q.1≠k)=true:=by simp[h1.symm.trans e]);rw[aU a,aU b];exact ih;have e': ¬q.1=k:=λz=>e (h1.trans z);(have a:decide (p.1≠k)=true:=by simp[e]);(have b:decide (q.1≠k)=true:=by simp[e']);rw[aT a,aT b];exact .cons ⟨h1,h2⟩ ih
def KV.length{kvs:aq (κ×V)}{vs:aq (κ×aa)}(r:KV kvs vs):kvs.length=vs.length:=Paired.length r
def DS(kvs:aq (κ×V))(k:κ):(dU kvs k).length<=kvs.length:=wA _ _
end
def qB{k:aZ}(r:bm (kV k) u):(cX P w).is k u=true:=by cases k with|inl i=>obtain⟨t,e⟩:=(show ∃t,u=Value.int i t from r);subst e;exact Y8 P w i t|inr x=>obtain⟨t,e⟩:=(show ∃t,u=Value.str x t from r);subst e;exact Br P w x t
def MP{P:af}{w:ag}: ∀ {ks:aq aZ} {us:aq aa},bg (ks.map kV) us->ItemsAre (cX P w) ks us
 | [],_,r=>by rw[fZ]at r;cases r;exact .nil
 |k::ks,_,r=>by rw[bH]at r;cases r with|cons h t=>exact .cons (qB h) (MP t)
abbrev KT(H:Hp):List (List aZ×V)->List (List aZ×Addr×Value)->Prop:=Paired λp q=>p.1=q.1/\H q.2.1=some (.aC (p.1.map kV))/\bm p.2 q.2.2
def KT.val{H:Hp}{kvs:aq (aq aZ×V)}{xs:aq (aq aZ×ae×aa)}(r:KT H kvs xs)(k:aq aZ):gA (bZ kvs k) ((atKey xs k).map (·.2)):=by induction r with|nil=>exact True.intro| @cons p q ps qs h t ih=>obtain⟨h1,_,h2⟩:=h;by_cases e:p.1=k;have e':q.1=k:=h1.symm.trans e;(have b:atKey (q::qs) k=some q.2:=by simp[atKey,ur,e']);rw[nX e,b];exact h2;have e': ¬q.1=k:=λz=>e (h1.trans z);(have b:atKey (q::qs) k=atKey qs k:=by simp[atKey,ur,e']);rw[lI e,b];exact ih
def KT.repl{H:Hp}{kvs:aq (aq aZ×V)}{xs:aq (aq aZ×ae×aa)}(r:KT H kvs xs)(k:aq aZ){y:V}{u:aa}(ry:bm y u):KT H (kvs.map λkv=>if kv.1=k then(kv.1,y)else kv) (xs.map (putAt k u)):=by induction r with|nil=>exact .nil| @cons p q ps qs h t ih=>rw[bH,bH];refine .cons ?_ ih;obtain⟨h1,h2,h3⟩:=h;unfold putAt;by_cases e:p.1=k;rw[aT e,aT (h1.symm.trans e)];exists h1,h2,ry;rw[aU e,aU λz=>e (h1.trans z)];exists h1,h2,h3
def KT.put{H:Hp}{kvs:aq (aq aZ×V)}{xs:aq (aq aZ×ae×aa)}(r:KT H kvs xs)(k:aq aZ){b:ae}{y:V}{u:aa}(hb:H b=some (.aC (k.map kV)))(ry:bm y u):KT H (dI kvs k y) (storedH xs k b u):=by(have e:(kvs.any λkv=>decide (kv.1=k))=(atKey xs k).isSome:=(by rw[yW,(r.val k).xO,Option.isSome_map]));unfold dI storedH;rw[e];by_cases q:(atKey xs k).isSome=true;rw[aT q,aT q];exact r.repl k ry;rw[aU q,aU q];exact Paired.snoc r ⟨rfl,hb,ry⟩
def KT.keeps{H H':Hp}{kvs:aq (aq aZ×V)}{xs:aq (aq aZ×ae×aa)}(r:KT H kvs xs)(ht: ∀b ys,H b=some (.aC ys)->H' b=some (.aC ys)):KT H' kvs xs:=
 Paired.Bm r λ_ _ z=>⟨z.1,ht _ _ z.2.1,z.2.2⟩
section
variable{P:af}{w:ag}{H:Hp}{h:ak}{a:ae}
def OF{u:HO}(ok:dh P w H h)(e:Rd H a u):dO P w H h a u:=e.ok ok
def rZ(ok:dh P w H h)(e:Rd H a (.dK kvs)):kvs.length<=sizeLine/\(a==sysModules)=false/\ ∃vs,KV kvs vs/\h.DictOf (cX P w) a vs:=
 show dO P w H h a (.dK kvs)from OF ok e
def DR(ok:dh P w H h)(e:H a=some (.dK kvs)):kvs.length<=sizeLine/\(a==sysModules)=false/\ ∃vs,KV kvs vs/\h.DictOf (cX P w) a vs:=rZ ok (.inl e)
def sT{ks:aq aZ}(ok:dh P w H h)(e:H a=some (.aC (ks.map kV))):(tupleKind (cX P w)).is h ks a:=by(obtain⟨_,aF,r,o,h1,h2,n,h3⟩:=(show dO P w H h a (.aC (ks.map kV))from ok a _ e));exact⟨o,aF.toArray,n,h1,h2,h3,by simpa using MP r⟩
def sg{kvs:aq (aq aZ×V)}(ok:dh P w H h)(e:Rd H a (.dT kvs)):kvs.length<=sizeLine/\(a==sysModules)=false/\ ∃xs,KT H kvs xs/\h.DictOfH (tupleKind (cX P w)) a xs:=by(obtain⟨z,y,xs,r,o,es,ep,h1,h2,h3,h4,h5⟩:=(show dO P w H h a (.dT kvs)from OF ok e));exists z,y,xs,r,o,es,ep,h1,h2,h3,h4,λx hx=> ?_,h5;(have all: ∀ {l:aq (aq aZ×V)} {m:aq (aq aZ×ae×aa)},KT H l m-> ∀x∈m,(tupleKind (cX P w)).is h x.1 x.2.1:=(by intro l m q;induction q with|nil=>intro x hx;exact nomatch hx| @cons p q ps qs hq t ih=>intro x hx;rcases List.mem_cons.mp hx with e|hx;subst e;exact sT ok (by rw[<-hq.1];exact hq.2.1);exact ih x hx));exact all r x hx
def Kx{kvs:aq (aq aZ×V)}(ok:dh P w H h)(e:H a=some (.dT kvs)):kvs.length<=sizeLine/\(a==sysModules)=false/\ ∃xs,KT H kvs xs/\h.DictOfH (tupleKind (cX P w)) a xs:=sg ok (.inl e)
end
def dC(H:Hp)(a:Addr)(y:V)(r:Option V):Prop:=
 (∃kvs k,Rd H a (.dK kvs)/\y=kV k/\r=bZ kvs k)\/ ∃kvs k b,Rd H a (.dT kvs)/\y= .ref b/\H b=some (.aC (k.map kV))/\r=bZ kvs k
def gl(H:Hp)(a:Addr)(y v:V)(H':Hp):Prop:=
 (∃kvs k,H a=some (.dK kvs)/\y=kV k/\kvs.length<sizeLine/\H'=upd H a (.dK (dI kvs k v)))\/
 ∃kvs k b,H a=some (.dT kvs)/\y= .ref b/\H b=some (.aC (k.map kV))/\kvs.length<sizeLine/\H'=upd H a (.dT (dI kvs k v))
def dC.k{H:Hp}{a:ae}{kvs:aq (aZ×V)}{k:aZ}(e:H a=some (.dK kvs)):dC H a (kV k) (bZ kvs k):= .inl ⟨kvs,k,.inl e,rfl,rfl⟩
def dC.t{H:Hp}{a b:ae}{kvs:aq (aq aZ×V)}{k:aq aZ}(e:H a=some (.dT kvs))(eb:H b=some (.aC (k.map kV))):dC H a (.ref b) (bZ kvs k):= .inr ⟨kvs,k,b,.inl e,rfl,eb,rfl⟩
def gl.k{H:Hp}{a:ae}{kvs:aq (aZ×V)}{k:aZ}{v:V}(e:H a=some (.dK kvs))(hl:kvs.length<sizeLine):gl H a (kV k) v (upd H a (.dK (dI kvs k v))):= .inl ⟨kvs,k,e,rfl,hl,rfl⟩
def gl.t{H:Hp}{a b:ae}{kvs:aq (aq aZ×V)}{k:aq aZ}{v:V}(e:H a=some (.dT kvs))(eb:H b=some (.aC (k.map kV)))(hl:kvs.length<sizeLine):gl H a (.ref b) v (upd H a (.dT (dI kvs k v))):= .inr ⟨kvs,k,b,e,rfl,eb,hl,rfl⟩
section
variable{X:Cx}{aB:aq (ae×Obj)}{σ:St}{H:Hp}{s:ac}{a:ae}{y v:V}{u r:aa}{o:ap V}{A:ao}{E:aa->ac->Prop}
def aG.big(I:aG X aB σ H s):sysModules<s.heap.objs.size:=by have h:mainGlobals<s.heap.objs.size:=(I.mod.glob.keeps I.bk).lt;exact Nat.lt_trans (by decide) h
def Sx{Q:aa->ac->Prop}(hu:A.units+1<cLine)(I:aG X aB σ H s)(g:dC H a y (some v))(ry:bm y u)(h: ∀w' s',aG X aB σ H s'->bm v w'->Q w' s'):wpAny (model X.prog X.w) A (getItem (.ref a) u) Q E s:=by(rcases g with⟨kvs,k,e,ey,l⟩|⟨kvs,k,b,e,ey,eb,l⟩);subst ey;obtain⟨z,hd,vs,rel,dd⟩:=rZ I.hok e;obtain⟨w',hw,rw'⟩:=gA.some_of (v:=v) (o:=valueAt vs k) (by rw[l];exact rel.val k);exact wpAny_getItem_of (qB ry) dd.mapOf hw (h w' _ (I.tok _) rw');subst ey;cases(show u=Value.ref b from ry);obtain⟨z,hd,xs,rel,dd⟩:=sg I.hok e;obtain⟨w',hw,rw'⟩:=gA.some_of (v:=v) (o:=(atKey xs k).map (·.2)) (by rw[l];exact rel.val k);obtain⟨p,hp,qp⟩:=Option.map_eq_some_iff.mp hw;refine wpAny_getItem_heap (CN hu) (sT I.hok eb) dd hp ?_;rw[qp];exact h w' _ (I.tok _) rw'
def Sy{Q:aa->ac->Prop}(hu:A.units+1<cLine)(I:aG X aB σ H s)(g:dC H a y o)(ry:bm y u)(h: ∀s',aG X aB σ H s'->Q (.bool o.isSome) s'):wpAny (model X.prog X.w) A (compareOp .In u (.ref a)) Q E s:=by(rcases g with⟨kvs,k,e,ey,l⟩|⟨kvs,k,b,e,ey,eb,l⟩);subst ey;obtain⟨z,hd,vs,rel,dd⟩:=rZ I.hok e;refine wpAny_in_of (qB ry) hd dd.mapOf ?_;rw[<- (rel.val k).xO,<-l];exact h _ (I.tok _);subst ey;cases(show u=Value.ref b from ry);obtain⟨z,hd,xs,rel,dd⟩:=sg I.hok e;refine wpAny_in_heap (CN hu) (sT I.hok eb) hd dd ?_;have q:=(rel.val k).xO;rw[Option.isSome_map]at q;rw[<-q,<-l];exact h _ (I.tok _)
def Sz{Q:aa->ac->Prop}(hu:A.units+1<cLine)(I:aG X aB σ H s)(g:dC H a y o)(ry:bm y u)(h: ∀s',aG X aB σ H s'->Q (.bool (!o.isSome)) s'):wpAny (model X.prog X.w) A (compareOp .NotIn u (.ref a)) Q E s:=by(rcases g with⟨kvs,k,e,ey,l⟩|⟨kvs,k,b,e,ey,eb,l⟩);subst ey;obtain⟨z,hd,vs,rel,dd⟩:=rZ I.hok e;refine wpAny_notIn_of (qB ry) hd dd.mapOf ?_;rw[<- (rel.val k).xO,<-l];exact h _ (I.tok _);subst ey;cases(show u=Value.ref b from ry);obtain⟨z,hd,xs,rel,dd⟩:=sg I.hok e;refine wpAny_notIn_heap (CN hu) (sT I.hok eb) hd dd ?_;have q:=(rel.val k).xO;rw[Option.isSome_map]at q;rw[<-q,<-l];exact h _ (I.tok _)
def wS{t':Nat}(I:aG X aB σ H s)(mu:wE (H a))(hs:Heap.SameBut a s.heap h')(he: ∃q,h'.get? a=some q)(new:dO X.prog X.w (upd H a ob) h' a ob):aG X aB σ (upd H a ob) {s with heap:=h',toks:=t'}:=
 I.write (x:=a) (e:=a) mu (.inl rfl) (λb q hb z=>(hs.2 b hb).trans z) he new
def DQ{h':ak}{kvs:aq (aZ×V)}(z:kvs.length<=sizeLine)(hd:(a==sysModules)=false)(rel:KV kvs vs)(dd:h'.DictOf (cX P w) a vs):dO P w H' h' a (.dK kvs):=⟨z,hd,vs,rel,dd⟩
def SB{Q:Unit->ac->Prop}(hu:A.units+1<cLine)(I:aG X aB σ H s)(g:gl H a y v H')(ry:bm y u)(rv:bm v r)(h: ∀s',aG X aB σ H' s'->Q () s'):wpAny (model X.prog X.w) A (setItem (.ref a) u r) Q E s:=by(rcases g with⟨kvs,k,e,ey,l,eH⟩|⟨kvs,k,b,e,ey,eb,l,eH⟩);subst ey eH;obtain⟨z,hd,vs,rel,dd⟩:=DR I.hok e;(have hz:vs.length<=sizeLine:=by rw[<-rel.length];exact z);(have hl:(dI kvs k v).length<=sizeLine:=by have:=sX kvs k v;lia);refine wpAny_setItem_pairs (hsz:=hz) (qB ry) dd λh' kU hs=>h _ ?_;(have he: ∃q,h'.get? a=some q:=let⟨q,_,_,hq,_⟩:=kU;⟨q,hq⟩);exact wS I (by rw[e];exact True.intro) hs he (DQ hl hd (rel.put k rv) kU);subst ey eH;cases(show u=Value.ref b from ry);obtain⟨z,hd,xs,rel,dd⟩:=Kx I.hok e;(have hz:xs.length<=sizeLine:=by rw[<-Paired.length rel];exact z);(have hl:(dI kvs k v).length<=sizeLine:=by have:=sX kvs k v;lia);refine wpAny_setItem_heap (hsz:=hz) (CN hu) (sT I.hok eb) dd λh' kU hs=>h _ ?_;obtain⟨q,es,ep,hq,h2,h3,h4,_,h5⟩:=kU;refine wS I (by rw[e];exact True.intro) hs ⟨q,hq⟩ ⟨hl,hd,_,(rel.put k eb rv).keeps λc ys ec=> ?_,q,es,ep,hq,h2,h3,h4,h5⟩;rw[aP (xX ec e λz=>nomatch z)];exact ec
end
section
variable{X:Cx}{aB:aq (ae×Obj)}{σ:St}{H:Hp}{s:ac}{a:ae}{kvs:aq (aZ×V)}{k:aZ}{u:aa}{A:ao}{E:aa->ac->Prop}
def SA{v:V}{more:aq aa}{Q:aa->ac->Prop}(I:aG X aB σ H s)(e:H a=some (.dK kvs))(ry:bm (kV k) u)(l:bZ kvs k=some v)(hm:more= []\/ ∃x,more= [x])(h: ∀w' s',aG X aB σ (upd H a (.dK (dU kvs k))) s'->bm v w'->Q w' s'):wpAny (model X.prog X.w) A (call (.builtin "dict.pop") (.ref a::u::more)) Q E s:=by obtain⟨z,hd,vs,rel,dd⟩:=DR I.hok e;obtain⟨w',hw,rw'⟩:=gA.some_of (v:=v) (o:=valueAt vs k) (by rw[<-l];exact rel.val k);(have hp:(keyPart u).isSome=true:=(by cases k with|inl i=>obtain⟨t,q⟩:=(show ∃t,u=Value.int i t from ry);subst q;rfl|inr x=>obtain⟨t,q⟩:=(show ∃t,u=Value.str x t from ry);subst q;rfl));(have ha:argsOk "dict.pop" ⟨.ref a::u::more,[]⟩:=(by(rcases hm with q|⟨x,q⟩);subst q;exact PySem.F.args_dict_pop_2 _ _;subst q;exact PySem.F.args_dict_pop_3 _ _ _));refine uM PySem.F.slot_dict_pop dd.typeIs PySem.F.entry_dict_pop ha (meets_dict_pop_there (cX X.prog X.w) a (qB ry) more hm hp) ⟨vs,w',dd,by rw[<-rel.length];exact z,hw,λh' kU hs=>h w' _ ?_ rw'⟩;(have he: ∃q,h'.get? a=some q:=let⟨q,_,_,hq,_⟩:=kU;⟨q,hq⟩);exact wS I (by rw[e];exact True.intro) hs he (DQ (dS (DS kvs k) z) hd (rel.drop k) kU)
end
def Jv(i:Expr):Prop:= ∀ov iv,subscripted i false ov iv=operate [ov,iv] (getItem ov iv)
def a30{E:aa->ac->Prop}{T id:String}{Q:aa->ac->Prop}(hl:typeLookup (.type T) "__getitem__"=pure (some (.builtin id)))(hs:Jv slice)(h:wpAny (model prog w) A (eval value env) (λo s₁=>wpAny (model prog w) A (eval slice env) (λi s₂=>s₂.TypeIs o T/\wpAny (model prog w) A (getItem o i) Q E s₂) E s₁) E s):wpAny (model prog w) A (eval (.Subscript value slice pos) env) Q E s:=by
 refine Subscript_ (dJ h (λo s₁ h₁=>dJ h₁ (λi s₂ h₂=> ?_) λ_ _ x=>x) λ_ _ x=>x);obtain⟨hT,h₂⟩:=h₂;unfold subscriptTail;refine aH ?_;rw[getitemInPython_of_ne hT.not_modules];refine aH (wpAny_specialOf hT hl ?_);(have fin:wpAny (model prog w) A (subscripted slice false o i) (λr s₃=>wpAny (model prog w) A (letTemporaryGo value o r>>=λ_=>pure r) Q E s₃) E s₂:=(by rw[hs o i];exact wpAny_operating (dJ h₂ (λr s₃ h₃=>aH (wpAny_letTemporaryGo (aX h₃))) λ_ _ x=>x)));first
  |exact aX (aH fin)
  |exact aH (aX (aH fin))
  |exact aH fin
def SM{o:ap V}(I:aG X aB σ H s)(g:dC H a y o):s.TypeIs (.ref a) "dict":=by(rcases g with⟨kvs,k,e,_,_⟩|⟨kvs,k,b,e,_,_,_⟩);obtain⟨_,_,vs,_,dd⟩:=rZ I.hok e;exact dd.typeIs;obtain⟨_,_,xs,_,dd⟩:=sg I.hok e;exact dd.typeIs
inductive a2h(x:V)(Q:VK)(y:V)(H2:Hp):Prop
 |mk (a v:_) (_:x= .ref a) (_:dC H2 a y (some v)) (_:Q v H2)
def a39(td ty:TE):TE:=λσ H Q=>td σ H λx H1=>ty σ H1 (a2h x Q)
def a4b(ty td:TE):TE:=λσ H Q=>ty σ H λy H1=>td σ H1 λx H2=> ∃a o,x= .ref a/\dC H2 a y o/\Q (.bl o.isSome) H2
def a4e(ty td:TE):TE:=λσ H Q=>ty σ H λy H1=>td σ H1 λx H2=> ∃a o,x= .ref a/\dC H2 a y o/\Q (.bl (!o.isSome)) H2
def a2Y(td ty tv:TE):TS:=λD σ H=>tv σ H λv H1=>td σ H1 λx H2=>ty σ H2 λy H3=> ∃a H4,x= .ref a/\gl H3 a y v H4/\D.nx σ H4
section
variable{X:Cx}{o i e value:Expr}{pos pos' tpos:Pos}{td ty tv:TE}
def nN(hu:X.A.units+1<cLine)(ho:PE X o td)(hi:PE X i ty)(hs:Jv i):PE X (.Subscript o i pos) (a39 td ty):=by intro aB s σ H Q I h;refine a30 PySem.F.slot_dict_getitem.lookup hs (aW (ho aB s σ H _ I h) λu s1 ⟨x,H1,I1,rx,q1⟩=>aW (hi aB s1 σ H1 _ I1 q1) λiv s2 ⟨y,H2,I2,ry,a,v,ex,g,q2⟩=> ?_);subst ex;obtain rfl:u=Value.ref a:=rx;exists SM I2 g,Sx hu I2 g ry λw' s3 I3 rw'=>⟨v,H2,I3,rw',q2⟩
def Gw(hu:X.A.units+1<cLine)(hi:PE X i ty)(ho:PE X o td):PC X .In i o (a4b ty td):=by intro aB s σ H Q I h;refine aW (hi aB s σ H _ I h) λiv s1 ⟨y,H1,I1,ry,q1⟩=>aW (ho aB s1 σ H1 _ I1 q1) λu s2 ⟨x,H2,I2,rx,a,ov,ex,g,q2⟩=> ?_;subst ex;obtain rfl:u=Value.ref a:=rx;exact Sy hu I2 g ry λs3 I3=>⟨.bl ov.isSome,H2,I3,rfl,q2⟩
def a1s(hu:X.A.units+1<cLine)(hi:PE X i ty)(ho:PE X o td):PC X .NotIn i o (a4e ty td):=by intro aB s σ H Q I h;refine aW (hi aB s σ H _ I h) λiv s1 ⟨y,H1,I1,ry,q1⟩=>aW (ho aB s1 σ H1 _ I1 q1) λu s2 ⟨x,H2,I2,rx,a,ov,ex,g,q2⟩=> ?_;subst ex;obtain rfl:u=Value.ref a:=rx;exact Sz hu I2 g ry λs3 I3=>⟨.bl (!ov.isSome),H2,I3,rfl,q2⟩
def qP(hu:X.A.units+1<cLine)(ho:PE X o td)(hi:PE X i ty)(hv:PE X value tv)(hs:swapsWith value (some (.Subscript o i pos')) pos.line X.env=pure false):PS X (.Assign [.Subscript o i pos'] value pos) (a2Y td ty tv):=by intro aB s σ H D I h;refine wpAny_Assign_Subscript (aW (hv aB s σ H _ I h) λr s1 ⟨v,H1,I1,rv,q1⟩=>aW (ho aB s1 σ H1 _ I1 q1) λu s2 ⟨x,H2,I2,rx,q2⟩=>aW (hi aB s2 σ H2 _ I2 q2) λiv s3 ⟨y,H3,I3,ry,a,H4,ex,g,q3⟩=> ?_) hs;subst ex;obtain rfl:u=Value.ref a:=rx;exact SB hu I3 g ry rv λs4 I4=>⟨σ,H4,I4,q3⟩
end
def DP(h:ak)(hb:sysModules<h.objs.size):dO P w H (h.push {cls:= .type "dict",data:= .dict #[]}) h.objs.size (.dK []):=
 ⟨fQ _,beq_eq_false_iff_ne.mpr (jH (cp hb)),[],.nil,Heap.DictOf.new h⟩
def DT(h:ak)(hb:sysModules<h.objs.size):dO P w H (h.push {cls:= .type "dict",data:= .dict #[]}) h.objs.size (.dT []):=
 ⟨fQ _,beq_eq_false_iff_ne.mpr (jH (cp hb)),[],.nil,_, #[],0,cS _ rfl,⟨rfl,rfl,rfl⟩,rfl,rfl,oj⟩
def a4c:TE:=λ_ H Q=> ∀p,H p=none->Q (.ref p) (upd H p (.dK []))
def a4d:TE:=λ_ H Q=> ∀p,H p=none->Q (.ref p) (upd H p (.dT []))
section
variable{X:Cx}{pos:Pos}
def BG:PE X (.Dict [] [] pos) a4c:=λaB s σ H Q I h=>
 wpAny_Dict_empty ⟨.ref s.heap.objs.size,_,I.laid (a:=s.heap.objs.size) (o:= .dK []) (t':=s.toks) (λ_ _ q=>bS _ q) (aV _) (DP s.heap I.big),rfl,h _ (I.hok.fresh (aV _))⟩
def Od:PE X (.Dict [] [] pos) a4d:=λaB s σ H Q I h=>
 wpAny_Dict_empty ⟨.ref s.heap.objs.size,_,I.laid (a:=s.heap.objs.size) (o:= .dT []) (t':=s.toks) (λ_ _ q=>bS _ q) (aV _) (DT s.heap I.big),rfl,h _ (I.hok.fresh (aV _))⟩
end
structure M1(X:Cx)(o:Expr)(m:Str)(dP:Pos)(e:Expr)(cL:Pos):Prop where
 base:attributeBase o m X.env (eval o X.env)=eval o X.env
 few:((backTo cL (starEach [e] X.env)).all (λx=> !x.1) && (backToKw cL (keywordEach [] X.env)).all (λx=>x.1.isSome)
  &&decide (([e]:List Expr).length+([]:List Keyword).length+(if([]:List Keyword).isEmpty then 0 else 1)<30))=true
 line:(dP.endLine==cL.line)=true
 trees:backTo cL (starEach [e] X.env)= [(false,eval e X.env)]
structure M2(X:Cx)(o:Expr)(m:Str)(dP:Pos)(e f:Expr)(cL:Pos):Prop where
 base:attributeBase o m X.env (eval o X.env)=eval o X.env
 few:((backTo cL (starEach [e,f] X.env)).all (λx=> !x.1) && (backToKw cL (keywordEach [] X.env)).all (λx=>x.1.isSome)
  &&decide (([e,f]:List Expr).length+([]:List Keyword).length+(if([]:List Keyword).isEmpty then 0 else 1)<30))=true
 line:(dP.endLine==cL.line)=true
 trees:backTo cL (starEach [e,f] X.env)= [(false,eval e X.env),(false,eval f X.env)]
def Db(H:Hp)(a:Addr):Prop:=(∃kvs,Rd H a (.dK kvs))\/ ∃kvs,Rd H a (.dT kvs)
def MM(I:aG X aB σ H s)(d:Db H a):s.TypeIs (.ref a) "dict"/\(∀b,Value.ref a= .ref b-> ∃ob,s.heap.get? b=some ob/\ob.dict=none)/\(a==sysModules)=false:=by(rcases d with⟨kvs,e⟩|⟨kvs,e⟩);obtain⟨_,hd,vs,_,dd⟩:=rZ I.hok e;exists dd.typeIs,λb q=> ?_,hd;cases q;obtain⟨ob,_,_,h1,h2,_⟩:=dd;exists ob,h1,h2.2.1;obtain⟨_,hd,xs,_,dd⟩:=sg I.hok e;exists dd.typeIs,λb q=> ?_,hd;cases q;obtain⟨ob,_,_,h1,h2,_⟩:=dd;exists ob,h1,h2.2.1
section
variable{X:Cx}{aB:aq (ae×Obj)}{σ:St}{H:Hp}{s:ac}{a:ae}{y d:V}{u r:aa}{o:ap V}{A:ao}{E:aa->ac->Prop}
def Sw{Q:aa->ac->Prop}(hu:A.units+1<cLine)(I:aG X aB σ H s)(g:dC H a y o)(ry:bm y u)(rd:bm d r)(h: ∀w' s',aG X aB σ H s'->bm (o.getD d) w'->Q w' s'):wpAny (model X.prog X.w) A (call (.builtin "dict.get") [.ref a,u,r]) Q E s:=by(rcases g with⟨kvs,k,e,ey,l⟩|⟨kvs,k,b,e,ey,eb,l⟩);subst ey;obtain⟨z,hd,vs,rel,dd⟩:=rZ I.hok e;refine uM wH dd.typeIs Dk (PySem.F.args_dict_get_3 _ _ _) (meets_dict_get_default (cX X.prog X.w) a (qB ry) hd r) ⟨_,dd.mapOf,h _ _ (I.tok _) ?_⟩;rw[l];exact(rel.val k).getD rd;subst ey;cases(show u=Value.ref b from ry);obtain⟨z,hd,xs,rel,dd⟩:=sg I.hok e;refine uM wH dd.typeIs Dk (PySem.F.args_dict_get_3 _ _ _) (meetsH_dict_get_default (tupleKind (cX X.prog X.w)) a b hd r) ⟨CN hu,k,xs,sT I.hok eb,dd,h _ _ (I.tok _) ?_⟩;rw[l];exact(rel.val k).getD rd
end
def a4a(td ty tx:TE):TE:=λσ H Q=>td σ H λx H1=> ∃a,x= .ref a/\Db H1 a/\ty σ H1 λy H2=>tx σ H2 λz H3=> ∃o,dC H3 a y o/\Q (o.getD z) H3
def a4f(td ty:TE):TE:=λσ H Q=>td σ H λx H1=> ∃a,x= .ref a/\Db H1 a/\ty σ H1 λy H2=> ∃kvs k v,H2 a=some (.dK kvs)/\y=kV k/\bZ kvs k=some v/\Q v (upd H2 a (.dK (dU kvs k)))
section
variable{X:Cx}{o e f:Expr}{dP cL:Pos}{td ty tx:TE}
def GA(hu:X.A.units+1<cLine)(ho:PE X o td)(he:PE X e ty)(hf:PE X f tx)(m:M2 X o "get" dP e f cL):PE X (.Call (.Attribute o "get" dP) [e,f] [] cL) (a4a td ty tx):=by
 intro aB s σ H Q I h;refine wpAny_Call_method m.base m.few m.line zO wH PySem.F.type_dict_get (aW (ho aB s σ H _ I h) λu s1 ⟨x,H1,I1,rx,a,ex,d,q1⟩=> ?_);subst ex;obtain rfl:u=Value.ref a:=rx;obtain⟨t1,t2,_⟩:=MM I1 d;exists t1,t2,?_;rw[m.trees];refine uh rfl (C2 (Calls.spliced_cons (aW (he aB s1 σ H1 _ I1 q1) λiv s2 ⟨y,H2,I2,ry,q2⟩=>
  Calls.spliced_cons (aW (hf aB s2 σ H2 _ I2 q2) λfv s3 ⟨z,H3,I3,rz,ov,g,q3⟩=>Calls.spliced_nil ?_))))
 (exact Sw hu I3 g ry rz λw' s4 I4 rw'=>⟨_,H3,I4,rw',q3⟩)
def GB(ho:PE X o td)(he:PE X e ty)(m:M1 X o "pop" dP e cL):PE X (.Call (.Attribute o "pop" dP) [e] [] cL) (a4f td ty):=by intro aB s σ H Q I h;refine wpAny_Call_method m.base m.few m.line zO PySem.F.slot_dict_pop PySem.F.type_dict_pop (aW (ho aB s σ H _ I h) λu s1 ⟨x,H1,I1,rx,a,ex,d,q1⟩=> ?_);subst ex;obtain rfl:u=Value.ref a:=rx;obtain⟨t1,t2,_⟩:=MM I1 d;exists t1,t2,?_;rw[m.trees];refine uh rfl (C2 (Calls.spliced_cons (aW (he aB s1 σ H1 _ I1 q1) λiv s2 ⟨y,H2,I2,ry,kvs,k,v,ea,ey,l,q2⟩=>Calls.spliced_nil ?_)));subst ey;exact SA I2 ea ry l (.inl rfl) λw' s3 I3 rw'=>⟨v,_,I3,rw',q2⟩
end
section
variable{X:Cx}{aB:aq (ae×Obj)}{σ:St}{H:Hp}{s:ac}{a:ae}{kvs:aq (aZ×V)}{A:ao}{E:aa->ac->Prop}
end
section
variable{X:Cx}{aB:aq (ae×Obj)}{σ:St}{H:Hp}{s:ac}{a:ae}{y:V}{u:aa}{A:ao}{E:aa->ac->Prop}
end
section
variable{X:Cx}
end
section
variable{κ:Type} [DecidableEq κ]
def QN{kvs:aq (κ×V)}{k:κ}(h:bZ kvs k=none): ¬k∈kvs.map (·.1):=by intro m;obtain⟨p,hp,e⟩:=List.mem_map.mp m;have q:(kvs.any λkv=>decide (kv.1=k))=true:=List.any_eq_true.mpr ⟨p,hp,jN e⟩;rw[yW,h]at q;exact absurd q (by simp)
def qH: ∀ {l:aq κ} {k:κ},l.Nodup-> ¬k∈l->(l++ [k]).Nodup
 | [],k,_,_=>by simp
 |a::r,k,h,hk=>by obtain⟨h1,h2⟩:=List.nodup_cons.mp h;show(a::(r++ [k])).Nodup;refine List.nodup_cons.mpr ⟨λm=> ?_,qH h2 λm=>hk (List.mem_cons.mpr (Or.inr m))⟩;rcases List.mem_append.mp m with q|q;exact h1 q;exact hk (List.mem_cons.mpr (Or.inl (List.mem_singleton.mp q).symm))
def Zz{kvs:aq (κ×V)}{k:κ}(v:V)(hn:(kvs.map (·.1)).Nodup)(h:bZ kvs k=none):((dI kvs k v).map (·.1)).Nodup:=by rw[yg v h,cK];exact qH hn (QN h)
def SX{p:κ×V}{r:aq (κ×V)}{k:κ}(e:p.1=k):dU (p::r) k=dU r k:=by unfold dU;rw[pS,aU (by simp[e])]
def SW{p:κ×V}{r:aq (κ×V)}{k:κ}(e: ¬p.1=k):dU (p::r) k=p::dU r k:=by unfold dU;rw[pS,aT (by simp[e])]
end
/---/def jy(kvs:List (Str×V))(x:Str):Option V:=kvs.lookup x
structure rB(P:Program)(w:World)(K:W.Frag)(a:Addr)(kvs:List (Str×V)):Prop where
 ns:(a==sysModules)=false
 at_: ∀h,K.In h-> ∃vs:List (aZ×Value),KV (kvs.map λp=>((Sum.inr p.1:aZ),p.2)) vs/\h.DictOf (cX P w) a vs
def Ba(x:aA): ∀ {kvs:aq (aA×V)} {vs:aq (aZ×aa)},KV (kvs.map λp=>((Sum.inr p.1:aZ),p.2)) vs->gA (jy kvs x) (valueAt vs (Sum.inr x:aZ))
 | [],_,r=>by cases r;exact True.intro
 |(y,v)::t,_,r=>by
  cases r with
  | @cons _ q _ qs h1 h2=>
  obtain⟨k,u⟩:=q;obtain⟨e,rv⟩:=h1;simp only at e rv;subst e;unfold jy valueAt;rw[mW,ur];by_cases hx:x=y;subst hx;simp only[beq_self_eq_true,decide_true];exact rv;(have h3:(x==y)=false:=by simpa using hx);(have h4:decide ((Sum.inr y:aZ)=Sum.inr x)=false:=by simp only[decide_eq_false_iff_not];intro z;exact hx (by injection z with z;exact z.symm));simp only[h3,h4];exact Ba x h2
def FL{x:aA}(r:bm (.str x) u):(cX P w).is (Sum.inr x) u=true:=by obtain⟨t,e⟩:=(show ∃t,u=Value.str x t from r);subst e;exact Br P w x t
section
variable{X:Cx}{T id:String}{name:aA}{r:V->aq V->Hp->VK->Prop}{o e:Expr}{es:aq Expr}{to:TE}{t:TA}{dP cL pos:Pos}
def a1v{ty:V->Hp->Prop}(hT: ∀ (aB:aq (ae×Obj)) (σ:St) (H:Hp) (s:ac) (x:V) (v:aa),aG X aB σ H s->bm x v->ty x H->s.TypeIs v T/\ ∀a,v= .ref a-> ∃ob,s.heap.get? a=some ob/\ob.dict=none)(pa:PlainAttrs T)(slot:Slot T name id)(hty:typeOf (.builtin id)=pure (.type "method_descriptor"))(hm:wD X id r)(ho:PE X o to)(ha:PA X (e::es) t)(hbase:attributeBase o name X.env (eval o X.env)=eval o X.env:=by rfl)(hfew:((backTo cL (starEach (e::es) X.env)).all (λx=> !x.1) && (backToKw cL (keywordEach [] X.env)).all (λx=>x.1.isSome) &&decide ((e::es).length+([]:aq Keyword).length+(if([]:aq Keyword).isEmpty then 0 else 1)<30))=true:=by rfl)(hline:(dP.endLine==cL.line)=true:=by rfl)(hs:starEach (e::es) X.env=(false,eval e X.env)::starEach es X.env:=by rfl)(hplain:(backTo cL (starEach es X.env)).any (·.1)=false:=by rfl):PE X (.Call (.Attribute o name dP) (e::es) [] cL) (λσ H Q=>to σ H λx H1=>ty x H1/\t σ H1 λxs H2=>r x xs H2 Q):=by intro aB s σ H Q I h;refine wpAny_Call_method_late hbase hfew hline rfl (aW (ho aB s σ H _ I h) λv s1 ⟨x,H1,I1,r1,q0,q1⟩=> ?_);obtain⟨h1,h2⟩:=hT _ _ _ _ x v I1 r1 q0;have hA:=ha cL aB s1 σ H1 _ I1 q1;exists T,id,pa,slot,hty,h1,h2,?_;rw[hs]at hA⊢;exact uh (by show(false||(backTo cL (starEach es X.env)).any (·.1))=false;rw[hplain]<;>rfl) (C2 (aW hA λus s2 ⟨vs,H2,I2,r2,q2⟩=>hm aB s2 σ H2 x vs v us Q I2 r1 r2 q2))
variable{a:ae}{kvs:aq (aA×V)}
/---/def Xt(a:Addr):V->Hp->Prop:=λx _=>x= .ref a
def XO(D:rB X.prog X.w X.K a kvs): ∀ (aB:aq (ae×Obj)) (σ:St) (H:Hp) (s:ac) (x:V) (v:aa),aG X aB σ H s->bm x v->Xt a x H->s.TypeIs v "dict"/\ ∀a,v= .ref a-> ∃ob,s.heap.get? a=some ob/\ob.dict=none:=λaB σ H s x v I rx e=>by cases(show x= .ref a from e);cases rx;obtain⟨vs,_,dd⟩:=D.at_ _ I.dX;exists dd.typeIs,λb q=> ?_;cases q;obtain⟨ob,_,_,h1,h2,_⟩:=dd;exists ob,h1,h2.2.1
/---/def a2m(a:Addr)(kvs:List (Str×V)):V->List V->Hp->VK->Prop:=λx vs H Q=>x= .ref a/\ ∃y,(vs= [.str y]/\Q ((jy kvs y).getD .aN) H)\/ ∃d,vs= [.str y,d]/\Q ((jy kvs y).getD d) H
def OH{o:ap V}(r:gA o p)(rd:bm d u):bm (o.getD d) (p.getD u):=by cases o<;>cases p<;>first|exact rd|exact r|cases r
def Zd(D:rB X.prog X.w X.K a kvs):wD X "dict.get" (a2m a kvs):=by intro aB s σ H x vs v us Q I rx rv h;obtain⟨rfl,y,⟨rfl,q⟩|⟨d,rfl,q⟩⟩:=h;cases rx;obtain⟨u,rfl,ru⟩:=rv.dY;obtain⟨vs,rel,dd⟩:=D.at_ _ I.dX;exact uM wH dd.typeIs Dk (PySem.F.args_dict_get_2 _ _) (meets_dict_get (cX X.prog X.w) a (FL ru) D.ns) ⟨_,dd.mapOf,⟨_,H,I.tok _,OH (d:= .aN) (Ba y rel) rfl,q⟩⟩;cases rx;obtain⟨u,u2,rfl,ru,G6⟩:=rv.two;obtain⟨vs,rel,dd⟩:=D.at_ _ I.dX;exact uM wH dd.typeIs Dk (PySem.F.args_dict_get_3 _ _ _) (meets_dict_get_default (cX X.prog X.w) a (FL ru) D.ns u2) ⟨_,dd.mapOf,⟨_,H,I.tok _,OH (Ba y rel) G6,q⟩⟩
inductive a2n(a:Addr)(kvs:List (Str×V))(x:V)(y:V)(H:Hp)(Q:VK):Prop
 |mk (z v:_) (_:x= .ref a) (_:y= .str z) (_:jy kvs z=some v) (_:Q v H)
def MU(D:rB X.prog X.w X.K a kvs):wq X (a2n a kvs):=by intro value slice aB s σ H x y v u Q I rx ry h hs;obtain⟨z,w',rfl,rfl,hz,q⟩:=h;cases rx;obtain⟨vs,rel,dd⟩:=D.at_ _ I.dX;have h1:=Ba z rel;rw[hz]at h1;obtain⟨uu,hw,ru⟩:=gA.some_of h1;exact tail_any dd.typeIs PySem.F.slot_dict_getitem.lookup (wpAny_getItem_of (FL ry) dd.mapOf hw ⟨w',H,I.tok _,ru,q⟩) hs
def Oc{k:Nat}{x:aA}(i:Nat)(hr:fA k X.A)(ha:PA X (e::es) t)(hN:X.N[i]? =some x:=by rfl)(hl:X.env.scope.names.lookup x=some .local:=by rfl)(ku:(x==("__debug__":aA))=false:=by decide)(he:starEach (e::es) X.env=(false,eval e X.env)::starEach es X.env:=by rfl)(gy:(backTo pos (starEach es X.env)).any (·.1)=false:=by rfl):PE X (.Call (.Name x p) (e::es) [] pos) (λσ H Q=> ∃f fd ps sp,σ[i]? =some (some (.ref f))/\bw X.prog X.w X.K X.mg X.base bh k f fd ps sp/\gQ X.K fd ps []/\W.keepIn X.K (.ref f)=true/\t σ H λvs H1=>sp (vs++ []) H1 Q E0):=by intro aB s σ H Q I h;obtain⟨f,fd,ps,sp,e1,F,B,kp,h⟩:=h;obtain⟨m,hn,V3⟩:=I.eI;obtain⟨u,r,l⟩:=V3 i x _ hN e1 (.inl hl);cases r;(have hm:m x=some (.ref f):=(by(rcases l with⟨_,hm⟩|⟨hk,_⟩);exact hm;rcases hk with hk|hk<;>(rw[show X.env.kindOf x=some .local from hl]at hk;cases hk)));refine y9 (wpAny_Name (wpAny_loadName_local I.ok.kind hl hn hm ?_) ku);refine W.callWith_K (h₀:=X.base) I.ok.mod.sV kp (aW (ha pos aB s σ H _ I h) λus s1 ⟨vs,H1,I1,r,q⟩=>⟨I1.dX,?_⟩) he gy;exact BS F hr B .nil bt I1 r q
end
/---/def Wc(n:Nat)(Iv:Nat->List V->Hp->Prop):Nat->Nat->List V->Hp->Prop:=λi m ys H=>i<=n/\m=n-i/\Iv i ys H
def Wc.next{n:Nat}{Iv:Nat->aq V->Hp->Prop}{i:Nat}{ys:aq V}{H:Hp}(hi:i<n)(h:Iv (i+1) ys H): ∃m',m'<n-i/\Wc n Iv (i+1) m' ys H:=⟨n- (i+1),by lia,by lia,rfl,h⟩
def iq{J:It}{n k:Nat}{g:TG}{tt:TT}{te:TE}{σ:St}{H0:Hp}{Q:ae->aq V->Hp->Prop}(Iv:Nat->aq V->Hp->Prop)(h0:Iv 0 [] H0)(fX: ∀i ys H,i<n->Iv i ys H->J.go i H/\ys.length<sizeLine/\ ∀x H',J.hV i H x H'->g x (List.replicate k none++σ) H' λσ2 H2=>tt σ2 H2 λb H3=>if b=true then te σ2 H3 λy H4=> ∃m',m'<n-i/\Wc n Iv (i+1) m' (ys++ [y]) H4 else ∃m',m'<n-i/\Wc n Iv (i+1) m' ys H3)(nE: ∀ys H,Iv n ys H->J.stop n H/\ ∀p,H p=none->Q p ys H): ∃W:Nat->Nat->aq V->Hp->Prop,(∃m,W 0 m [] H0)/\ ∀i m ys H,W i m ys H->(J.stop i H/\ ∀p,H p=none->Q p ys H)\/(J.go i H/\ys.length<sizeLine/\ ∀x H',J.hV i H x H'->g x (List.replicate k none++σ) H' λσ2 H2=>tt σ2 H2 λb H3=>if b=true then te σ2 H3 λy H4=> ∃m',m'<m/\W (i+1) m' (ys++ [y]) H4 else ∃m',m'<m/\W (i+1) m' ys H3):=by exists Wc n Iv,⟨n,fQ _,rfl,h0⟩,λi m ys H ⟨hi,hm,h⟩=> ?_;subst hm;by_cases e:i=n;subst e;exact .inl (nE ys H h);exact .inr (fX i ys H (by lia) h)
def kH{α:Type}{x:aq α}{i:Nat}(hi:i<x.length):x.take (i+1)=x.take i++ [x[i]]:=by rw[List.take_add_one,br hi];rfl
def sy{α:Type}{x:aq α}{i:Nat}(hi:i<x.length)(d:α):x.getD i d=x[i]:=by simp[List.getD,br hi]
def a47{H:Hp}{A B:Hp->Prop}(h:A H):CG σ H λb H3=>if b=true then A H3 else B H3:=by show(if true=true then A H else B H);rw[aT rfl];exact h
def mQ{i:Nat}{v:V}{σ:St}{H:Hp}{A B:St->Hp->Prop}(h:A (σ.set i (some v)) H):jR i v σ H λσ2 H2=>CG σ2 H2 λb H3=>if b=true then A σ2 H3 else B σ2 H3:=by show(if true=true then A (σ.set i (some v)) H else B (σ.set i (some v)) H);rw[aT rfl];exact h
def su{J:It}{n:Nat}{g:TG}{tb:TS}{D:iR}(Pv:Nat->St->Hp->Prop)(h0:Pv 0 zd H0)(fX: ∀i σ H,i<n->Pv i σ H->J.go i H/\ ∀x H',J.hV i H x H'->g x σ H' λσ2 H2=>tb {D with nx:=Pv (i+1),ct:=Pv (i+1),bk:=D.nx} σ2 H2)(nE: ∀σ H,Pv n σ H->J.stop n H/\D.nx σ H): ∃W:Nat->Nat->St->Hp->Prop,(∃m,W 0 m zd H0)/\ ∀i m σ H,W i m σ H->(J.stop i H/\D.nx σ H)\/(J.go i H/\ ∃N:St->Hp->Prop,(∀σ' H',N σ' H'-> ∃m',m'<m/\W (i+1) m' σ' H')/\ ∀x H',J.hV i H x H'->g x σ H' λσ2 H2=>tb {D with nx:=N,ct:=N,bk:=D.nx} σ2 H2):=by exists λi m σ H=>i<=n/\m=n-i/\Pv i σ H,⟨n,fQ _,rfl,h0⟩,λi m σ H ⟨hi,hm,h⟩=> ?_;subst hm;by_cases e:i=n;subst e;exact .inl (nE σ H h);obtain⟨a,b⟩:=fX i σ H (by lia) h;exact .inr ⟨a,Pv (i+1),λσ' H' q=>⟨n- (i+1),by lia,by lia,rfl,q⟩,b⟩
def JZ(scope sc:Scope)(N:List Str):Bool:=
 scope.kind== .function&&scope.names.all (λy=>y.2 != .cell) &&scope.names.all (λx=>x.2 != .local||scope.names.lookup x.1==some .local) &&
  scope.names.all (λy=>y.2 != .free||(sc.names.lookup y.1==some .cell||sc.names.lookup y.1==some .free)) &&N.all λx=>scope.names.lookup x !=some .local
def lG{X:Cx}{T:aq aA}{scope:Scope}(sc:Scope)(N:aq aA)(e1:X.env.scope=sc)(e2:X.N=N)(h:JZ scope sc N=true):rL X T scope:=by unfold JZ at h;simp only[gR,wu,Bool.or_eq_true,bne_iff_ne,beq_iff_eq,ne_eq]at h;obtain⟨⟨⟨⟨h1,h2⟩,h3⟩,h4⟩,h5⟩:=h;exists h1,λy hy=>h2 y hy,λx hx q=> ?_,λn hn=> ?_,λx hx=> ?_;rcases h3 x hx with z|z;exact absurd q z;exact z;unfold Env.kindOf;rw[e1];rcases h4 (n,.free) hn with z|z;exact absurd rfl z;exact z;rw[e2]at hx;exact h5 x hx
def we{H:Hp}{a:ae}{o:HO}(h:H a=some (.aK xs)):bO H (upd H a o):=λb ys e=>by rw[aP (xX e h (by intro z;cases z))];exact e
def HY{H0:Hp}{o:HO}(h:H0 a=none)(sm:aY H0 H):aY H0 (upd H a o):=λb u e=>by rw[aP (fm e h)];exact sm b u e
def bO.bE{H H':Hp}(h:bO H H'){p:PV}{v:V}(r:aJ H p v):aJ H' p v:=aJ.mono h p v r
def bO.bC{H H':Hp}(h:bO H H'){p:aq PV}{v:aq V}(r:aE H p v):aE H' p v:=aE.mono h p v r
def GZ{H:Hp}: ∀ {ps:aq PV} {p:PV} {vs:aq V},aE H (ps++ [p]) vs-> ∃dl y,vs=dl++ [y]/\aE H ps dl/\aJ H p y
 | [],p,vs,r=>by simp only[zD,aE]at r;obtain⟨v,t,rfl,h1,rfl⟩:=r;exists[],v,rfl,aE.nil,h1
 |q::ps,p,vs,r=>by simp only[zu,aE]at r;obtain⟨v,t,rfl,h1,h2⟩:=r;obtain⟨dl,y,rfl,h3,h4⟩:=GZ h2;exists v::dl,y,rfl,aE.cons h1 h3,h4
mutual
/---/def gw:PV->PV->Bool
 | .at a,.at b=>decide (a=b)
 | .aC ps,.aC qs=>lU ps qs
 |_,_=>false
/---/def lU:List PV->List PV->Bool
 | [],[]=>true
 |p::ps,q::qs=>gw p q&&lU ps qs
 |_,_=>false
end
mutual
theorem wW: ∀ (p q:PV),gw p q=true↔p=q
 | .at a,.at b=>by simp[gw]
 | .aC ps,.aC qs=>by simp[gw,KB ps qs]
 | .at a,.aC qs=>by simp[gw]
 | .aC ps,.at b=>by simp[gw]
theorem KB: ∀ (ps qs:aq PV),lU ps qs=true↔ps=qs
 | [],[]=>by simp[lU]
 |p::ps,q::qs=>by simp[lU,wW p q,KB ps qs]
 | [],q::qs=>by simp[lU]
 |p::ps,[]=>by simp[lU]
end
def Rb{x y:K2.T}:km (.str (S x)) (.str (S y))=decide (bu.str x=bu.str y):=by show(S x==S y)=_;by_cases h:x=y;subst h;simp;have h1: ¬S x=S y:=λz=>h (pY z);have h2: ¬bu.str x=bu.str y:=λz=>h (by injection z);rw[gv h2];simpa using h1
def Tu(p:PV):gw p p=true:=(wW p p).mpr rfl
instance:DecidableEq PV:=λp q=>decidable_of_iff _ (wW p q)
def Ah(p q:PV):gw p q=decide (p=q):=by by_cases h:p=q;rw[jN h];exact(wW p q).mpr h;rw[gv h];cases e:gw p q with|false=>rfl|true=>exact absurd ((wW p q).mp e) h
def D5: ∀ (ps qs:aq PV),lU ps qs=((List.range (min ps.length qs.length)).all (λj=>gw (ps.getD j (.at .aN)) (qs.getD j (.at .aN))) &&ps.length==qs.length)
 | [],[]=>rfl
 | [],q::qs=>by simp[lU]
 |p::ps,[]=>by simp[lU]
 |p::ps,q::qs=>by simp only[lU,cU];rw[D5 ps qs,show min (ps.length+1) (qs.length+1)=min ps.length qs.length+1 by lia,List.range_succ_eq_map,List.all_cons,List.all_map];simp only[Function.comp_def,List.getD_cons_zero,List.getD_cons_succ,Bool.and_assoc];(congr 2);rw[pP];simp
mutual
theorem aJ.inj{H:Hp}: ∀ {p q:PV} {v:V},aJ H p v->aJ H q v->p=q
 | .at .aN,.at .aN,_,_,_=>rfl
 | .at .aN,.at (.int i),v,r,r'=>by simp only[aJ]at r r';subst r;cases r'
 | .at .aN,.at (.str i),v,r,r'=>by simp only[aJ]at r r';subst r;cases r'.1
 | .at .aN,.aC ps,v,r,r'=>by simp only[aJ]at r r';subst r;obtain⟨a,vs,z,_⟩:=r';cases z
 | .at (.int i),.at .aN,v,r,r'=>by simp only[aJ]at r r';subst r;cases r'
 | .at (.int i),.at (.int j),v,r,r'=>by simp only[aJ]at r r';subst r;cases r';rfl
 | .at (.int i),.at (.str j),v,r,r'=>by simp only[aJ]at r r';subst r;cases r'.1
 | .at (.int i),.aC ps,v,r,r'=>by simp only[aJ]at r r';subst r;obtain⟨a,vs,z,_⟩:=r';cases z
 | .at (.str i),.at .aN,v,r,r'=>by simp only[aJ]at r r';rw[r.1]at r';cases r'
 | .at (.str i),.at (.int j),v,r,r'=>by simp only[aJ]at r r';rw[r.1]at r';cases r'
 | .at (.str i),.at (.str j),v,r,r'=>by simp only[aJ]at r r';have:=r.1.symm.trans r'.1;(injection this with e);rw[pY e]
 | .at (.str i),.aC ps,v,r,r'=>by simp only[aJ]at r r';rw[r.1]at r';obtain⟨a,vs,z,_⟩:=r';cases z
 | .aC ps,.at .aN,v,r,r'=>by simp only[aJ]at r r';subst r';obtain⟨a,vs,z,_⟩:=r;cases z
 | .aC ps,.at (.int j),v,r,r'=>by simp only[aJ]at r r';subst r';obtain⟨a,vs,z,_⟩:=r;cases z
 | .aC ps,.at (.str j),v,r,r'=>by simp only[aJ]at r r';rw[r'.1]at r;obtain⟨a,vs,z,_⟩:=r;cases z
 | .aC ps,.aC qs,v,r,r'=>by simp only[aJ]at r r';obtain⟨a,vs,rfl,h,rs⟩:=r;obtain⟨b,ws,e,h',rs'⟩:=r';cases e;rw[h]at h';cases h';rw[aE.inj rs rs']
theorem aE.inj{H:Hp}: ∀ {ps qs:aq PV} {vs:aq V},aE H ps vs->aE H qs vs->ps=qs
 | [],[],_,_,_=>rfl
 | [],q::qs,vs,r,r'=>by simp only[aE]at r r';subst r;obtain⟨v,t,z,_⟩:=r';cases z
 |p::ps,[],vs,r,r'=>by simp only[aE]at r r';subst r';obtain⟨v,t,z,_⟩:=r;cases z
 |p::ps,q::qs,vs,r,r'=>by simp only[aE]at r r';obtain⟨v,t,rfl,h1,h2⟩:=r;obtain⟨v',t',e,ko,kq⟩:=r';cases e;rw[aJ.inj h1 ko,aE.inj h2 kq]
end
section
variable{X:Cx}{aB:aq (ae×Obj)}{σ:St}{H:Hp}{s:ac}
def KF{x:V}(rx:aJ H (.at a) x)(ry:aJ H (.at b) y):kn x=true/\kn y=true/\km x y=decide (a=b):=by cases a with|aN=>(cases b<;>simp only[aJ]at rx ry<;>first|(obtain⟨ry,_⟩:=ry;subst rx;subst ry;exists rfl,rfl,rfl)|(subst rx;subst ry;exists rfl,rfl,rfl))|int i=>(cases b with|int k=>simp only[aJ]at rx ry;subst rx;subst ry;exists rfl,rfl,?_;show(i==k)=decide (bu.int i=bu.int k);rw[pP];simp|_=>simp only[aJ]at rx ry;first|(obtain⟨ry,_⟩:=ry;subst rx;subst ry;exists rfl,rfl,rfl)|(subst rx;subst ry;exists rfl,rfl,rfl))|str z=>cases b with|str k=>simp only[aJ]at rx ry;obtain⟨rx,_⟩:=rx;obtain⟨ry,_⟩:=ry;subst rx;subst ry;exact⟨rfl,rfl,Rb⟩|_=>simp only[aJ]at rx ry;obtain⟨rx,_⟩:=rx;subst rx;subst ry;exists rfl,rfl,rfl
mutual
theorem D3(I:aG X aB σ H s): ∀ (p q:PV) (x y:V) (u w:aa) (A:ao),A.units+dp p+dp q<cLine->aJ H p x->aJ H q y->bm x u->bm y w->SeqAt.EqAt A s u w (gw p q)
 | .at a,.at b,x,y,u,w,A,_,rx,ry,hu,hw=>by obtain⟨f1,f2,e⟩:=KF rx ry;have:=wV (A:=A) (s:=s) hu hw f1 f2;rw[e]at this;exact this
 | .at a,.aC qs,x,y,u,w,A,hA,rx,ry,hu,hw=>by obtain⟨b,ws,rfl,hb,rb⟩:=ry.aC;cases hw;obtain⟨i2,r2,t2,_⟩:=I.tuple (aS.of (K:=X.K) hb);simp only[dp]at hA;(have dM:A.units<cLine:=by lia);show SeqAt.EqAt A s u _ false;cases a with|aN=>simp only[aJ]at rx;subst rx;cases hu;exact .none_tuple t2 dM|int i=>simp only[aJ]at rx;subst rx;obtain⟨t,rfl⟩:=hu;exact .int_tuple _ _ t2 dM|str z=>simp only[aJ]at rx;obtain⟨rx,_⟩:=rx;subst rx;obtain⟨t,rfl⟩:=hu;exact .str_tuple _ _ t2 dM
 | .aC ps,.at b,x,y,u,w,A,hA,rx,ry,hu,hw=>by obtain⟨a,vs,rfl,ha,ra⟩:=rx.aC;cases hu;obtain⟨i1,r1,t1,_⟩:=I.tuple (aS.of (K:=X.K) ha);simp only[dp]at hA;(have dM:A.units<cLine:=by lia);show SeqAt.EqAt A s _ w false;cases b with|aN=>simp only[aJ]at ry;subst ry;cases hw;exact .tuple_none t1 dM|int i=>simp only[aJ]at ry;subst ry;obtain⟨t,rfl⟩:=hw;exact .tuple_int _ _ t1 dM|str z=>simp only[aJ]at ry;obtain⟨ry,_⟩:=ry;subst ry;obtain⟨t,rfl⟩:=hw;exact .tuple_str _ _ t1 dM
 | .aC ps,.aC qs,x,y,u,w,A,hA,rx,ry,hu,hw=>by obtain⟨a,vs,rfl,ha,ra⟩:=rx.aC;obtain⟨b,ws,rfl,hb,rb⟩:=ry.aC;cases hu;cases hw;by_cases e:a=b;subst e;have:PV.aC ps=PV.aC qs:=aJ.inj (aJ.mk ha ra) (aJ.mk hb rb);rw[this,Tu];exact SeqAt.EqAt.same _;obtain⟨i1,r1,t1,_⟩:=I.tuple (aS.of (K:=X.K) ha);obtain⟨i2,r2,t2,_⟩:=I.tuple (aS.of (K:=X.K) hb);have l1:=r1.length;have l2:=r2.length;have l3:=ra.len;have l4:=rb.len;simp only[dp]at hA;(have:=SeqAt.RcAt.tuples (A:=A) (s:=s) (e:=λj=>gw (ps.getD j (.at .aN)) (qs.getD j (.at .aN))) t1 t2 (by lia) λj h1 h2=>(by simp only[cE]at h1 h2;exact D4 I ps qs vs ws i1 i2 A.in1 (by rw[oZ];lia) ra rb r1 r2 j _ _ (by simp[br h1]) (by simp[br h2])));refine SeqAt.EqAt.of_refs e ?_;(have e2:((List.range (min i1.toArray.size i2.toArray.size)).all (λj=>gw (ps.getD j (.at .aN)) (qs.getD j (.at .aN))) &&i1.toArray.size==i2.toArray.size)=gw (.aC ps) (.aC qs):=(by simp only[cE,gw];rw[D5,<-l1,<-l2,<-l3,<-l4]));rw[e2]at this;exact this
theorem D4(I:aG X aB σ H s): ∀ (ps qs:aq PV) (xs ys:aq V) (us ws:aq aa) (A:ao),A.units+cq ps+cq qs<cLine->aE H ps xs->aE H qs ys->bg xs us->bg ys ws-> ∀ (j:Nat) (u w:aa),us[j]? =some u->ws[j]? =some w->SeqAt.EqAt A s u w (gw (ps.getD j (.at .aN)) (qs.getD j (.at .aN)))
 | [],_,xs,ys,us,ws,A,_,rx,ry,hu,hw,j,u,w,e1,e2=>by simp only[aE]at rx;subst rx;cases hu;simp at e1
 |_::_,[],xs,ys,us,ws,A,_,rx,ry,hu,hw,j,u,w,e1,e2=>by simp only[aE]at ry;subst ry;cases hw;simp at e2
 |p::ps,q::qs,xs,ys,us,ws,A,hA,rx,ry,hu,hw,j,u,w,e1,e2=>by
  simp only[aE]at rx ry;obtain⟨x,xr,rfl,Hd,He⟩:=rx;obtain⟨y,yr,rfl,Hf,pF⟩:=ry;cases hu with
  |cons oX qt=>
  cases hw with
  |cons i6 oY=>
  simp only[cq]at hA;(cases j with|zero=>simp at e1 e2;subst e1 e2;exact D3 I p q x y _ _ A (by lia) Hd Hf oX i6|succ j=>simp at e1 e2;exact D4 I ps qs xr yr _ _ A (by lia) He pF qt oY j u w e1 e2)
end
def rcG(I:aG X aB σ H s){x:V}{A:ao}(hA:A.units+dp p+dp q<cLine)(rx:aJ H p x)(ry:aJ H q y)(hu:bm x u)(hw:bm y w):SeqAt.RcAt A s u w (gw p q):=by cases p with|«at» a=>(cases q with|«at» b=>obtain⟨f1,f2,e⟩:=KF rx ry;show SeqAt.RcAt A s u w (decide (a=b));rw[<-e];cases a<;>cases b<;>simp only[aJ]at rx ry;subst rx ry;cases hu;cases hw;exact .none_none;subst rx ry;cases hu;obtain⟨t,rfl⟩:=hw;exact .none_int _ _;obtain⟨ry,_⟩:=ry;subst rx ry;cases hu;obtain⟨t,rfl⟩:=hw;exact .none_str _ _;subst rx ry;cases hw;obtain⟨t,rfl⟩:=hu;exact .int_none _ _;subst rx ry;obtain⟨t,rfl⟩:=hu;obtain⟨t',rfl⟩:=hw;exact .int_int _ _ _ _;obtain⟨ry,_⟩:=ry;subst rx ry;obtain⟨t,rfl⟩:=hu;obtain⟨t',rfl⟩:=hw;exact .int_str _ _ _ _;obtain⟨rx,_⟩:=rx;subst rx ry;cases hw;obtain⟨t,rfl⟩:=hu;exact .str_none _ _;obtain⟨rx,_⟩:=rx;subst rx ry;obtain⟨t,rfl⟩:=hu;obtain⟨t',rfl⟩:=hw;exact .str_int _ _ _ _;obtain⟨rx,_⟩:=rx;obtain⟨ry,_⟩:=ry;subst rx ry;obtain⟨t,rfl⟩:=hu;obtain⟨t',rfl⟩:=hw;exact .str_str _ _ _ _|aC qs=>obtain⟨b,ws,rfl,hb,rb⟩:=ry.aC;cases hw;obtain⟨i2,r2,t2,_⟩:=I.tuple (aS.of (K:=X.K) hb);simp only[dp]at hA;(have dM:A.units<cLine:=by lia);show SeqAt.RcAt A s u _ false;cases a with|aN=>simp only[aJ]at rx;subst rx;cases hu;exact .none_tuple t2 dM|int i=>simp only[aJ]at rx;subst rx;obtain⟨t,rfl⟩:=hu;exact .int_tuple _ _ t2 dM|str z=>simp only[aJ]at rx;obtain⟨rx,_⟩:=rx;subst rx;obtain⟨t,rfl⟩:=hu;exact .str_tuple _ _ t2 dM)|aC ps=>obtain⟨a,vs,rfl,ha,ra⟩:=rx.aC;cases hu;obtain⟨i1,r1,t1,_⟩:=I.tuple (aS.of (K:=X.K) ha);simp only[dp]at hA;(have dM:A.units<cLine:=by lia);cases q with|«at» b=>(show SeqAt.RcAt A s _ w false;cases b with|aN=>simp only[aJ]at ry;subst ry;cases hw;exact .tuple_none t1 dM|int i=>simp only[aJ]at ry;subst ry;obtain⟨t,rfl⟩:=hw;exact .tuple_int _ _ t1 dM|str z=>simp only[aJ]at ry;obtain⟨ry,_⟩:=ry;subst ry;obtain⟨t,rfl⟩:=hw;exact .tuple_str _ _ t1 dM)|aC qs=>obtain⟨b,ws,rfl,hb,rb⟩:=ry.aC;cases hw;obtain⟨i2,r2,t2,_⟩:=I.tuple (aS.of (K:=X.K) hb);have l1:=r1.length;have l2:=r2.length;have l3:=ra.len;have l4:=rb.len;simp only[dp]at hA;(have:=SeqAt.RcAt.tuples (A:=A) (s:=s) (e:=λj=>gw (ps.getD j (.at .aN)) (qs.getD j (.at .aN))) t1 t2 (by lia) λj h1 h2=>(by simp only[cE]at h1 h2;exact D4 I ps qs vs ws i1 i2 A.in1 (by rw[oZ];lia) ra rb r1 r2 j _ _ (by simp[br h1]) (by simp[br h2])));(have e2:((List.range (min i1.toArray.size i2.toArray.size)).all (λj=>gw (ps.getD j (.at .aN)) (qs.getD j (.at .aN))) &&i1.toArray.size==i2.toArray.size)=gw (.aC ps) (.aC qs):=(by simp only[cE,gw];rw[D5,<-l1,<-l2,<-l3,<-l4]));rw[e2]at this;exact this
def BD:eN X (compareOp .Eq) (λx y H Q=> ∃p q,X.A.units+dp p+dp q<cLine/\aJ H p x/\aJ H q y/\Q (.bl (decide (p=q))) H):=by intro aB s σ H x y v u Q I rx ry h;obtain⟨p,q,hA,h1,h2,k⟩:=h;have:=rcG I hA h1 h2 rx ry X.prog X.w X.xe (EP X aB σ Q);exact this ⟨.bl (decide (p=q)),H,I,by rw[Ah];rfl,k⟩
open Classical in
def xT(I:aG X aB σ H s){q:PV}{x:V}{v:aa}{A:ao}{n:Nat}(hA:A.units+n+dp q<cLine)(rx:aJ H q x)(hx:bm x v): ∀ {ps:aq PV} {xs:aq V} {us:aq aa},cq ps<=n->aE H ps xs->bg xs us->(∀u∈us,SeqAt.EqAt A s u v (decide (∃z,bm z u/\aJ H q z)))/\us.any (λu=>decide (∃z,bm z u/\aJ H q z))=ps.contains q
 | [],_,us,_,r,hv=>by simp only[aE]at r;subst r;cases hv;exists λu hu=>(nomatch hu),rfl
 |p::ps,_,us,hn,r,hv=>by
  simp only[aE]at r;obtain⟨y,yr,rfl,r1,r2⟩:=r;cases hv with
  | @cons _ u _ us hu hv=>
  simp only[cq]at hn;obtain⟨h1,h2⟩:=xT I hA rx hx (ps:=ps) (by lia) r2 hv;(have e:decide (∃z,bm z u/\aJ H q z)=gw p q:=(by rw[Ah];(congr 1);apply propext;constructor;rintro⟨z,hz,rz⟩;(have:z=y:=(by cases p with|aC ps=>(obtain⟨a,vs,rfl,ha,ra⟩:=r1.aC;cases hu;cases z with|ref b=>cases hz;rfl|aN=>cases hz|bl b=>cases hz|int b=>obtain⟨_,h⟩:=hz;cases h|str b=>obtain⟨_,h⟩:=hz;cases h|iW b=>obtain⟨_,h⟩:=hz;cases h|oE b=>obtain⟨_,h⟩:=hz;cases h|ty b=>cases hz)|«at» a=>(have hy:kn y=true:=(by cases a<;>simp only[aJ]at r1<;>first|(obtain⟨r1,_⟩:=r1;subst r1;rfl)|(subst r1;rfl)));cases y with|aN=>(cases hu;cases z<;>first|rfl|(cases hz;done)|(obtain⟨_,h⟩:=hz;cases h))|bl b=>(cases hu;cases z<;>first|(cases hz;rfl)|(cases hz;done)|(obtain⟨_,h⟩:=hz;cases h))|int b=>(obtain⟨t,rfl⟩:=hu;cases z<;>first|(obtain⟨_,h⟩:=hz;cases h;rfl)|(cases hz;done)|(obtain⟨_,h⟩:=hz;cases h;done))|str b=>(obtain⟨t,rfl⟩:=hu;cases z<;>first|(obtain⟨_,h⟩:=hz;cases h;rfl)|(cases hz;done)|(obtain⟨_,h⟩:=hz;cases h;done))|_=>cases hy));subst this;exact aJ.inj r1 rz;rintro rfl;exists y,hu,r1));exists λu' dM=> ?_,?_;rcases List.mem_cons.mp dM with rfl|hm;rw[e];exact D3 I p q y x _ _ A (by lia) r1 rx hu hx;exact h1 u' hm;rw[rC,h2,e,List.contains_cons,Ah];(congr 1);by_cases h:p=q;subst h;simp;rw[gv h];have: ¬q=p:=λz=>h z.symm;simpa using this
inductive Oz(K:W.Frag)(un:Nat)(neg:Bool)(x:V)(y:V)(H:Hp)(Q:VK):Prop
 |mk (p ps xs q:_) (_:y= .ref p) (_:(aQ K H p xs\/aS K H p xs)) (_:aE H ps xs) (_:aJ H q x) (_:un+1+cq ps+dp q<cLine) (_:Q (.bl (if neg then !ps.contains q else ps.contains q)) H)
open Classical in
def BE:eN X (compareOp .In) (Oz X.K X.A.units false):=by intro aB s σ H x y v u Q I rx ry h;obtain⟨p,ps,xs,q,rfl,hq,rs,rq,hA,k⟩:=h;cases ry;rcases hq with hq|hq;obtain⟨aF,r,pl,hz⟩:=I.list hq;obtain⟨h1,h2⟩:=xT I (A:=X.A.in1) (n:=cq ps) (by rw[oZ];lia) rq rx (aV _) rs r;refine SeqAt.in_listAt (λu=>decide (∃z,bm z u/\aJ H q z)) pl.isList (λw hw=>h1 w (by simpa using hw)) ⟨.bl _,H,I,rfl,?_⟩;rw[show aF.toArray.any (λu=>decide (∃z,bm z u/\aJ H q z))=aF.any (λu=>decide (∃z,bm z u/\aJ H q z))by simp,h2];exact k;obtain⟨aF,r,pl,hz⟩:=I.tuple hq;obtain⟨h1,h2⟩:=xT I (A:=X.A.in1) (n:=cq ps) (by rw[oZ];lia) rq rx (aV _) rs r;refine SeqAt.in_tupleAt (λu=>decide (∃z,bm z u/\aJ H q z)) pl (λw hw=>h1 w (by simpa using hw)) ⟨.bl _,H,I,rfl,?_⟩;rw[show aF.toArray.any (λu=>decide (∃z,bm z u/\aJ H q z))=aF.any (λu=>decide (∃z,bm z u/\aJ H q z))by simp,h2];exact k
open Classical in
def a1c:eN X (compareOp .NotIn) (Oz X.K X.A.units true):=by intro aB s σ H x y v u Q I rx ry h;obtain⟨p,ps,xs,q,rfl,hq,rs,rq,hA,k⟩:=h;cases ry;rcases hq with hq|hq;obtain⟨aF,r,pl,hz⟩:=I.list hq;obtain⟨h1,h2⟩:=xT I (A:=X.A.in1) (n:=cq ps) (by rw[oZ];lia) rq rx (aV _) rs r;refine SeqAt.notIn_listAt (λu=>decide (∃z,bm z u/\aJ H q z)) pl.isList (λw hw=>h1 w (by simpa using hw)) ⟨.bl _,H,I,rfl,?_⟩;rw[show aF.toArray.any (λu=>decide (∃z,bm z u/\aJ H q z))=aF.any (λu=>decide (∃z,bm z u/\aJ H q z))by simp,h2];exact k;obtain⟨aF,r,pl,hz⟩:=I.tuple hq;obtain⟨h1,h2⟩:=xT I (A:=X.A.in1) (n:=cq ps) (by rw[oZ];lia) rq rx (aV _) rs r;refine SeqAt.notIn_tupleAt (λu=>decide (∃z,bm z u/\aJ H q z)) pl (λw hw=>h1 w (by simpa using hw)) ⟨.bl _,H,I,rfl,?_⟩;rw[show aF.toArray.any (λu=>decide (∃z,bm z u/\aJ H q z))=aF.any (λu=>decide (∃z,bm z u/\aJ H q z))by simp,h2];exact k
end
end L2
namespace SQ
open PySem PySem.W PyProof.Rows
structure Ord(lt:Nat->Nat->Bool):Prop where
 JH: ∀a b,lt a b=true->lt b a=false
 neg: ∀a b c,lt b a=false->lt c b=false->lt c a=false
section
variable{lt:Nat->Nat->Bool}
def le(lt:Nat->Nat->Bool)(a b:Nat):Prop:=lt b a=false
def Ord.refl(o:Ord lt)(a:Nat):le lt a a:=by unfold le;cases h:lt a a with|false=>rfl|true=>rw[o.JH a a h]at h;cases h
def Ord.trans(o:Ord lt){a b c:Nat}(h1:le lt a b)(h2:le lt b c):le lt a c:=o.neg a b c h1 h2
def Ord.of_lt(o:Ord lt){a b:Nat}(h:lt a b=true):le lt a b:=o.JH a b h
/---/def ev{α:Type}(lt:Nat->Nat->Bool):KasT α->α
 | .ret a=>a
 | .ask i j k=>ev lt (k (lt i j))
def uQ{α β:Type}(f:α->KasT β): ∀t:KasT α,ev lt (t.bind f)=ev lt (f (ev lt t))
 | .ret _=>rfl
 | .ask i j k=>uQ f (k (lt i j))
/---/def je{α:Type}(n:Nat):KasT α->Prop
 | .ret _=>True
 | .ask i j k=>i<n/\j<n/\ ∀b,je n (k b)
abbrev at_(p:Array Nat)(i:Nat):Nat:=p.getD i 0
def Up(lt:Nat->Nat->Bool)(p:Array Nat)(n:Nat):Prop:= ∀x y,x<=y->y<n->le lt (at_ p x) (at_ p y)
def Dn(lt:Nat->Nat->Bool)(p:Array Nat)(n:Nat):Prop:= ∀x y,x<=y->y<n->le lt (at_ p y) (at_ p x)
def Up.succ(o:Ord lt){p:au Nat}{n:Nat}(h:Up lt p n)(hn:1<=n)(e:lt (at_ p n) (at_ p (n-1))=false):Up lt p (n+1):=by intro x y hx hy;by_cases xM:y<n;exact h x y hx xM;(obtain rfl:y=n:=by lia);by_cases xK:x=y;subst xK;exact o.refl _;exact o.trans (h x (y-1) (by lia) (by lia)) e
def Dn.succ(o:Ord lt){p:au Nat}{n:Nat}(h:Dn lt p n)(hn:1<=n)(e:le lt (at_ p n) (at_ p (n-1))):Dn lt p (n+1):=by intro x y hx hy;by_cases xM:y<n;exact h x y hx xM;(obtain rfl:y=n:=by lia);by_cases xK:x=y;subst xK;exact o.refl _;exact o.trans e (h x (y-1) (by lia) (by lia))
def Dy(o:Ord lt){p:au Nat}: ∀ (f n:Nat),1<=n->Up lt p n->Up lt p (ev lt (kas_asc p f n))/\n<=ev lt (kas_asc p f n)/\ev lt (kas_asc p f n)<=n+f
 |0,n,_,h=>⟨h,aV _,aV _⟩
 |f+1,n,hn,h=>by unfold kas_asc;simp only[ev];cases e:lt (p.getD n 0) (p.getD (n-1) 0)with|true=>simp only[gc,ev];exact⟨h,aV _,by lia⟩|false=>simp only[fS,fN];obtain⟨h1,h2,h3⟩:=Dy o f (n+1) (by lia) (h.succ o hn e);exact⟨h1,by lia,by lia⟩
def wL{p:au Nat}{i j:Nat}(hj:j<=p.size)(k:Nat):at_ (kas_rev p i j) k=if i<=k/\k<j then at_ p (i+j-1-k)else at_ p k:=by unfold at_ kas_rev;rw[pO,pO,pO,getElem?_mirror_all hj k];split<;>rfl
def JD(o:Ord lt){p:au Nat}: ∀ (f n:Nat),ev lt (kas_asc p f n)=n+f\/lt (at_ p (ev lt (kas_asc p f n))) (at_ p (ev lt (kas_asc p f n)-1))=true
 |0,n=> .inl rfl
 |f+1,n=>by unfold kas_asc;simp only[ev];cases e:lt (p.getD n 0) (p.getD (n-1) 0)with|true=>simp only[gc,ev];exact .inr e|false=>simp only[fS,fN];rcases JD o f (n+1)with h|h;exact .inl (h.trans (by lia));exact .inr h
def oa(lt:Nat->Nat->Bool)(a b:Nat):Prop:=le lt a b/\le lt b a
def Ord.eqv(o:Ord lt){a b c:Nat}(h1:oa lt a b)(h2:oa lt b c):oa lt a c:=⟨o.trans h1.1 h2.1,o.trans h2.2 h1.2⟩
def ug(lt:Nat->Nat->Bool)(p:Array Nat)(n q:Nat):Prop:= ∀x,n-1-q<=x->x<n->oa lt (at_ p x) (at_ p (n-1))
def OM(o:Ord lt){p:au Nat}{n q:Nat}(hq:q+1<=n)(hn:n<=p.size)(hb:ug lt p n q)(k:Nat):oa lt (at_ (kas_rev p (n- (q+1)) n) k) (at_ p k):=by rw[wL hn];split;rename_i h;have h1:=hb k (by lia) (by lia);have h2:=hb (n- (q+1)+n-1-k) (by lia) (by lia);exact o.eqv h2 ⟨h1.2,h1.1⟩;exists o.refl _,o.refl _
def Dn.eqv(o:Ord lt){p p':au Nat}{n:Nat}(h:Dn lt p n)(e: ∀k,oa lt (at_ p' k) (at_ p k)):Dn lt p' n:=λx y hx hy=>o.trans (e y).1 (o.trans (h x y hx hy) (e x).2)
def nQ(p:au Nat)(i j:Nat):(kas_rev p i j).Perm p:=mirror_perm _ _ _ _
def Ad(o:Ord lt): ∀ (f:Nat) (p:au Nat) (n q:Nat),q+1<=n->n+f<=p.size->Dn lt p n->ug lt p n q->(ev lt (kas_desc f p n q)).1.Perm p/\n<=(ev lt (kas_desc f p n q)).2.1/\(ev lt (kas_desc f p n q)).2.1<=n+f/\(ev lt (kas_desc f p n q)).2.2+1<=(ev lt (kas_desc f p n q)).2.1/\Dn lt (ev lt (kas_desc f p n q)).1 (ev lt (kas_desc f p n q)).2.1/\ug lt (ev lt (kas_desc f p n q)).1 (ev lt (kas_desc f p n q)).2.1 (ev lt (kas_desc f p n q)).2.2
 |0,p,n,q,hq,_,h,hb=>⟨zh _,aV _,aV _,hq,h,hb⟩
 |f+1,p,n,q,hq,hz,h,hb=>by unfold kas_desc;simp only[ev];cases e:lt (p.getD n 0) (p.getD (n-1) 0)with|true=>simp only[gc];have e':le lt (at_ p n) (at_ p (n-1)):=o.of_lt e;(have dY: ∀p':Array Nat,ug lt p' (n+1) 0:=λp' x hx hy=>(by(obtain rfl:x=n:=by lia);exists o.refl _,o.refl _));by_cases Mj:q>0;rw[aT Mj];have ek:=OM o hq (by lia) hb;have hs:(kas_rev p (n- (q+1)) n).size=p.size:=mirror_size _ _ _ _;have d1:Dn lt (kas_rev p (n- (q+1)) n) (n+1):=Dn.eqv o (h.succ o (by lia) e') ek;obtain⟨a1,a2,a3,a4,a5,a6⟩:=Ad o f (kas_rev p (n- (q+1)) n) (n+1) 0 (by lia) (by rw[hs];lia) d1 (dY _);exists a1.trans (nQ _ _ _),by lia,by lia,a4,a5,a6;rw[aU Mj];obtain⟨a1,a2,a3,a4,a5,a6⟩:=Ad o f p (n+1) 0 (by lia) (by lia) (h.succ o (by lia) e') (dY _);exact⟨a1,by lia,by lia,a4,a5,a6⟩|false=>simp only[fS,fN,ev];cases e2:lt (p.getD (n-1) 0) (p.getD n 0)with|true=>simp only[gc,ev];exact⟨zh _,aV _,by lia,hq,h,hb⟩|false=>simp only[fS,fN];(have eq:oa lt (at_ p (n-1)) (at_ p n):=⟨e,e2⟩);(have bl:ug lt p (n+1) (q+1):=λx hx hy=>(by by_cases xK:x=n;subst xK;exists o.refl _,o.refl _;exact o.eqv (hb x (by lia) (by lia)) eq));obtain⟨a1,a2,a3,a4,a5,a6⟩:=Ad o f p (n+1) (q+1) (by lia) (by lia) (h.succ o (by lia) e2) bl;exists a1,by lia,by lia,a4,a5,a6
def a2M(o:Ord lt){p:au Nat}{n:Nat}(hn:n<=p.size)(h:Dn lt p n):Up lt (kas_rev p 0 n) n:=λx y hx hy=>by rw[wL hn,wL hn,aT ⟨by lia,by lia⟩,aT ⟨by lia,by lia⟩];exact h _ _ (by lia) (by lia)
structure Dp(lt:Nat->Nat->Bool)(p0:Array Nat)(nrem lo:Nat)(r:Nat×Array Nat):Prop where
 perm:r.2.Perm p0
 lo:lo<=r.1
 hi:r.1<=nrem
 up:Up lt r.2 r.1
def QA(o:Ord lt){p:au Nat}{n nrem:Nat}(hn:1<=n)(hr:n<=nrem)(hz:nrem<=p.size)(h:Dn lt p n):Dp lt p nrem n (ev lt (kas_tail3 n nrem p)):=by unfold kas_tail3;rw[uQ];obtain⟨h1,h2,h3⟩:=Dy o (p:=kas_rev p 0 n) (nrem-n) n hn (a2M o (by lia) h);exists nQ _ _ _,h2,by show ev lt (kas_asc (kas_rev p 0 n) (nrem-n) n)<=_;lia,h1
def Kr(o:Ord lt){p:au Nat}{n nrem:Nat}(hr:n<nrem)(hz:nrem<=p.size)(h:Dn lt p (n+1)):Dp lt p nrem 1 (ev lt (kas_descPart n nrem p)):=by unfold kas_descPart;rw[uQ];(have bl:ug lt p (n+1) 0:=λx hx hy=>(by(obtain rfl:x=n:=by lia);exists o.refl _,o.refl _));obtain⟨a1,a2,a3,a4,a5,a6⟩:=Ad o (nrem- (n+1)) p (n+1) 0 (by lia) (by lia) h bl;generalize ev lt (kas_desc (nrem- (n+1)) p (n+1) 0)=r at a1 a2 a3 a4 a5 a6;obtain⟨p1,m,q⟩:=r;have hs:p1.size=p.size:=a1.size_eq;dsimp only at a1 a2 a3 a4 a5 a6⊢;by_cases hq:q>0;rw[aT hq];have hs2:(kas_rev p1 (m- (q+1)) m).size=p1.size:=mirror_size _ _ _ _;have:=QA o (p:=kas_rev p1 (m- (q+1)) m) (n:=m) (nrem:=nrem) (by lia) (by lia) (by lia) (Dn.eqv o a5 (OM o a4 (by lia) a6));exists this.perm.trans ((nQ _ _ _).trans a1),by have:=this.lo;lia,this.hi,this.up;rw[aU hq];have:=QA o (p:=p1) (n:=m) (nrem:=nrem) (by lia) (by lia) (by lia) a5;exists this.perm.trans a1,by have:=this.lo;lia,this.hi,this.up
def RZ(o:Ord lt){p:au Nat}{nrem:Nat}(h1:1<=nrem)(hz:nrem<=p.size):Dp lt p nrem 1 (ev lt (kas_count nrem p)):=by unfold kas_count;rw[uQ];(have u1:Up lt p 1:=λx y hx hy=>(by(obtain rfl:x=0:=by lia);(obtain rfl:y=0:=by lia);exact o.refl _));obtain⟨a1,a2,a3⟩:=Dy o (p:=p) (nrem-1) 1 (aV _) u1;have a4:=JD o (p:=p) (nrem-1) 1;generalize ev lt (kas_asc p (nrem-1) 1)=n at a1 a2 a3 a4;by_cases hn:(n==nrem)=true;rw[aT hn];(have he:n=nrem:=by simpa using hn);exists zh _,a2,Nat.le_of_eq he,a1;rw[aU hn];have hne:n≠nrem:=λz=>hn (by simp[z]);(have hlt:lt (at_ p n) (at_ p (n-1))=true:=(by rcases a4 with a4|a4;lia;exact a4));by_cases AE:n>1;(rw[aT AE];simp only[ev];cases e:lt (p.getD 0 0) (p.getD (n-1) 0)with|true=>simp only[gc,ev];exact⟨zh _,by lia,by lia,a1⟩|false=>simp only[fS,fN];have hs:(kas_rev p 0 n).size=p.size:=mirror_size _ _ _ _;(have all: ∀x,x<n->oa lt (at_ p x) (at_ p (n-1)):=λx hx=>⟨a1 x (n-1) (by lia) (by lia),o.trans e (a1 0 x (by lia) hx)⟩);(have d:Dn lt (kas_rev p 0 n) (n+1):=(by intro x y hx hy;(have ex: ∀k,k<n->oa lt (at_ (kas_rev p 0 n) k) (at_ p (n-1)):=λk hk=>(by rw[wL (by lia),aT ⟨by lia,hk⟩];exact all _ (by lia)));by_cases xM:y<n;exact o.trans (ex y xM).1 (ex x (by lia)).2;(obtain rfl:y=n:=by lia);by_cases xL:x=y;subst xL;exact o.refl _;(have e1:at_ (kas_rev p 0 y) y=at_ p y:=by rw[wL (by lia),aU (by lia)]);rw[e1];exact o.trans (o.of_lt hlt) (ex x (by lia)).2));have:=Kr o (p:=kas_rev p 0 n) (n:=n) (nrem:=nrem) (by lia) (by lia) d;exists this.perm.trans (nQ _ _ _),this.lo,this.hi,this.up);rw[aU AE];(obtain rfl:n=1:=by lia);(have d:Dn lt p (1+1):=(by intro x y hx hy;by_cases xL:x=y;subst xL;exact o.refl _;(obtain rfl:x=0:=by lia);(obtain rfl:y=1:=by lia);exact o.of_lt hlt));exact Kr o (by lia) hz d
def GG(o:Ord lt){p:au Nat}{k:Nat}(h:Up lt p k): ∀ (f l r:Nat),l<=r->r<=k->r-l<=f->(∀x,x<l->le lt (at_ p x) (at_ p k))->(∀x,r<=x->x<k->le lt (at_ p k) (at_ p x))->ev lt (kas_place p k f l r)<=k/\(∀x,x<ev lt (kas_place p k f l r)->le lt (at_ p x) (at_ p k))/\(∀x,ev lt (kas_place p k f l r)<=x->x<k->le lt (at_ p k) (at_ p x))
 |0,l,r,h1,h2,h3,h4,h5=>by(obtain rfl:l=r:=by lia);exists h2,h4,h5
 |f+1,l,r,h1,h2,h3,h4,h5=>by unfold kas_place;by_cases LX:l>=r;rw[aT LX];(obtain rfl:l=r:=by lia);exists h2,h4,h5;rw[aU LX];simp only[ev];cases e:lt (p.getD k 0) (p.getD ((l+r) /2) 0)with|true=>simp only[gc];exact GG o h f l ((l+r) /2) (by lia) (by lia) (by lia) h4 λx hx hk=>o.trans (o.of_lt e) (h _ _ hx hk)|false=>simp only[fS,fN];exact GG o h f ((l+r) /2+1) r (by lia) h2 (by lia) (λx hx=>o.trans (h x ((l+r) /2) (by lia) (by lia)) e) h5
def Rn{p:au Nat}{src d:Nat}(hs:src<p.size)(hd:d<=src)(k:Nat):at_ (bubble p src d) k=if k=src-d then at_ p src else if src-d<k/\k<=src then at_ p (k-1)else at_ p k:=by unfold at_;simp only[pO];rw[getElem?_bubble hs d hd k];(repeat' split);all_goals rfl
def JM(o:Ord lt): ∀ (f:Nat) (p:au Nat) (k:Nat),k+f=p.size->Up lt p k->(ev lt (kas_bin f p k)).Perm p/\Up lt (ev lt (kas_bin f p k)) p.size
 |0,p,k,hz,h=>by(obtain rfl:k=p.size:=by lia);exists zh _,h
 |f+1,p,k,hz,h=>by unfold kas_bin;rw[uQ];obtain⟨a1,a2,a3⟩:=GG o h k 0 k (by lia) (aV _) (by lia) (λx hx=>absurd hx (by lia)) λx hx hk=>absurd hx (by lia);generalize ev lt (kas_place p k k 0 k)=l at a1 a2 a3;have hs:(bubble p k (k-l)).size=p.size:=bubble_size _ _ _;have ab:=Rn (p:=p) (src:=k) (d:=k-l) (by lia) (by lia);(have up:Up lt (bubble p k (k-l)) (k+1):=(by intro x y hx hy;rw[ab x,ab y];(have e:k- (k-l)=l:=by lia);rw[e];by_cases y1:y=l;rw[aT y1];by_cases x1:x=l;rw[aT x1];exact o.refl _;rw[aU x1,aU (by lia)];exact a2 x (by lia);rw[aU y1];by_cases y2:l<y/\y<=k;rw[aT y2];by_cases x1:x=l;rw[aT x1];exact a3 (y-1) (by lia) (by lia);rw[aU x1];by_cases x2:l<x/\x<=k;rw[aT x2];exact h _ _ (by lia) (by lia);rw[aU x2];exact h _ _ (by lia) (by lia);rw[aU y2,aU (by lia),aU (by lia)];exact h _ _ hx (by lia)));obtain⟨b1,b2⟩:=JM o f (bubble p k (k-l)) (k+1) (by lia) up;rw[hs]at b2;exists b1.trans (bubble_perm _ _ _),b2
def PB(o:Ord lt){n:Nat}(h1:1<=n):(ev lt (kas_sort n)).toList.Perm (List.range n)/\Up lt (ev lt (kas_sort n)) n:=by unfold kas_sort;rw[uQ];have c:=RZ o (p:=(List.range n).toArray) (nrem:=n) h1 (by simp);generalize ev lt (kas_count n (List.range n).toArray)=r at c;(have hs:r.2.size=n:=by rw[c.perm.size_eq];simp);have l1:=c.lo;have l2:=c.hi;(have pl:r.2.toList.Perm (List.range n):=(by have:=Array.perm_iff_toList_perm.mp c.perm;simpa using this));by_cases h:r.1<n;rw[aT h];(have e:max r.1 1=r.1:=by lia);rw[e];obtain⟨b1,b2⟩:=JM o (n-r.1) r.2 r.1 (by lia) c.up;rw[hs]at b2;exists(Array.perm_iff_toList_perm.mp b1).trans pl,b2;rw[aU h];(have e:r.1=n:=by lia);have u:=c.up;rw[e]at u;exists pl,u
def In(N:Nat)(p:Array Nat):Prop:= ∀i,at_ p i<N
def In.perm{N:Nat}{p p':au Nat}(h:In N p)(e:p'.Perm p)(h0:0<N):In N p':=λi=>by unfold at_;rw[pO];cases q:p'[i]? with|none=>exact h0|some v=>have hm:v∈p':=Array.mem_of_getElem? q;have cV:v∈p:=e.mem_iff.mp hm;obtain⟨j,hj,ej⟩:=Array.mem_iff_getElem.mp cV;have:=h j;unfold at_ at this;rw[pO,kM hj,ej]at this;exact this
def Dz{N:Nat}{p:au Nat}(h:In N p): ∀f n,je N (kas_asc p f n)
 |0,n=>trivial
 |f+1,n=>by unfold kas_asc;exists h _,h _,λb=> ?_;dsimp only;split;(trivial);exact Dz h f (n+1)
def zV{N:Nat}(h0:0<N): ∀ (f:Nat) (p:au Nat) (n q:Nat),In N p->je N (kas_desc f p n q)
 |0,p,n,q,h=>trivial
 |f+1,p,n,q,h=>by unfold kas_desc;exists h _,h _,λb=> ?_;dsimp only;split;split;exact zV h0 f _ _ _ (h.perm (nQ _ _ _) h0);exact zV h0 f _ _ _ h;exists h _,h _,λb=> ?_;dsimp only;split;(trivial);exact zV h0 f _ _ _ h
/---/def kL{α:Type}(G:α->Prop):KasT α->Prop
 | .ret a=>G a
 | .ask _ _ k=> ∀b,kL G (k b)
def uK{α β:Type}{n:Nat}{f:α->KasT β}{G:α->Prop}: ∀t:KasT α,je n t->kL G t->(∀a,G a->je n (f a))->je n (t.bind f)
 | .ret a,_,g,h=>h a g
 | .ask i j k,⟨h1,h2,h3⟩,g,h=>⟨h1,h2,λb=>uK (k b) (h3 b) (g b) h⟩
def zT{α β:Type}{f:α->KasT β}{G:α->Prop}{G':β->Prop}: ∀t:KasT α,kL G t->(∀a,G a->kL G' (f a))->kL G' (t.bind f)
 | .ret a,g,h=>h a g
 | .ask i j k,g,h=>λb=>zT (k b) (g b) h
def uJ{α:Type}: ∀t:KasT α,kL (λ_=>True) t
 | .ret _=>trivial
 | .ask _ _ k=>λb=>uJ (k b)
def wK{N:Nat}(h0:0<N): ∀ (f:Nat) (p:au Nat) (n q:Nat),In N p->kL (λr:au Nat×Nat×Nat=>In N r.1) (kas_desc f p n q)
 |0,p,n,q,h=>h
 |f+1,p,n,q,h=>by unfold kas_desc;intro b;dsimp only;split;split;exact wK h0 f _ _ _ (h.perm (nQ _ _ _) h0);exact wK h0 f _ _ _ h;intro b;dsimp only;split;exact h;exact wK h0 f _ _ _ h
def JG{N:Nat}(h0:0<N)(h:In N p)(n nrem:Nat):je N (kas_tail3 n nrem p)/\kL (λr:Nat×au Nat=>In N r.2) (kas_tail3 n nrem p):=by unfold kas_tail3;have h':=h.perm (nQ p 0 n) h0;exists uK _ (Dz h' _ _) (uJ _) λ_ _=>trivial,zT _ (uJ _) λ_ _=>h'
def DA{N:Nat}(h0:0<N)(h:In N p)(n nrem:Nat):je N (kas_descPart n nrem p)/\kL (λr:Nat×au Nat=>In N r.2) (kas_descPart n nrem p):=by unfold kas_descPart;(have k: ∀r:au Nat×Nat×Nat,In N r.1->je N (if r.2.2>0 then kas_tail3 r.2.1 nrem (kas_rev r.1 (r.2.1- (r.2.2+1)) r.2.1)else kas_tail3 r.2.1 nrem r.1)/\kL (λr:Nat×au Nat=>In N r.2) (if r.2.2>0 then kas_tail3 r.2.1 nrem (kas_rev r.1 (r.2.1- (r.2.2+1)) r.2.1)else kas_tail3 r.2.1 nrem r.1):=λr hr=>(by split;exact JG h0 (hr.perm (nQ _ _ _) h0) _ _;exact JG h0 hr _ _));exists uK _ (zV h0 _ _ _ _ h) (wK h0 _ _ _ _ h) λr hr=>(k r hr).1,zT _ (wK h0 _ _ _ _ h) λr hr=>(k r hr).2
def Rm{N:Nat}(h0:0<N)(h:In N p)(nrem:Nat):je N (kas_count nrem p)/\kL (λr:Nat×au Nat=>In N r.2) (kas_count nrem p):=by unfold kas_count;(have k: ∀n:Nat,(λt:KasT (Nat×au Nat)=>je N t/\kL (λr:Nat×au Nat=>In N r.2) t) (if(n==nrem)=true then .ret (n,p)else if n>1 then .ask (p.getD 0 0) (p.getD (n-1) 0) λc=>if c=true then .ret (n,p)else kas_descPart n nrem (kas_rev p 0 n)else kas_descPart n nrem p):=λn=>(by dsimp only;split;exists trivial,h;split;exists⟨h _,h _,λb=> ?_⟩,λb=> ?_<;>dsimp only<;>split;(trivial);exact(DA h0 (h.perm (nQ _ _ _) h0) _ _).1;exact h;exact(DA h0 (h.perm (nQ _ _ _) h0) _ _).2;exact DA h0 h _ _));exists uK _ (Dz h _ _) (uJ _) λn _=>(k n).1,zT _ (uJ _) λn _=>(k n).2
def DB{N:Nat}{p:au Nat}(h:In N p)(k:Nat): ∀f l r,je N (kas_place p k f l r)
 |0,l,r=>trivial
 |f+1,l,r=>by unfold kas_place;split;(trivial);exists h _,h _,λb=> ?_;dsimp only;split;exact DB h k f _ _;exact DB h k f _ _
def JE{N:Nat}(h0:0<N): ∀ (f:Nat) (p:au Nat) (k:Nat),In N p->je N (kas_bin f p k)
 |0,p,k,h=>trivial
 |f+1,p,k,h=>by unfold kas_bin;exact uK _ (DB h _ _ _ _) (uJ _) λl _=>JE h0 f _ _ (h.perm (bubble_perm _ _ _) h0)
def JF{n:Nat}(h1:1<=n):je n (kas_sort n):=by unfold kas_sort;(have h:In n (List.range n).toArray:=λi=>(by unfold at_;rw[pO,List.getElem?_toArray];by_cases hi:i<n;rw[zA hi];exact hi;rw[wz (by simpa using zI hi)];exact h1));obtain⟨a,b⟩:=Rm (by lia) h n;refine uK _ a b λr hr=> ?_;split;exact JE (by lia) _ _ _ hr;trivial
def I0{α:Type}{lt:Nat->Nat->Bool}{n:Nat}{cmp:Nat->Nat->(Bool->ac->Prop)->ac->Prop}{s:ac}(hc: ∀i j C,i<n->j<n->C (lt i j) s->cmp i j C s){Q:α->ac->Prop}: ∀t:KasT α,je n t->Q (ev lt t) s->t.kasWp cmp Q s
 | .ret a,_,q=>q
 | .ask i j k,⟨h1,h2,h3⟩,q=>hc i j _ h1 h2 (I0 hc (k (lt i j)) (h3 _) q)
end
end SQ
namespace L2
open PySem PySem.Spec PyProof.Rows PySem.W K2
/---/def qJ(h:Heap)(L:Addr):List (Addr×Obj):=(List.range h.objs.size).filterMap λa=>if a=L then none else(h.get? a).map λo=>(a,o)
def tm{L a:ae}{o:Obj}:(a,o)∈qJ h L↔h.get? a=some o/\a≠L:=by unfold qJ;rw[List.mem_filterMap];constructor;(rintro⟨b,hb,e⟩;by_cases hL:b=L;rw[aT hL]at e;cases e;rw[aU hL]at e;cases q:h.get? b with|none=>rw[q]at e;cases e|some u=>rw[q]at e;cases e;exists q,hL);rintro⟨q,hL⟩;exact⟨a,List.mem_range.mpr (bL q),by rw[aU hL,q];rfl⟩
def vo:Heap:= {}
def Gh(a:ae):vo.get? a=none:=by unfold vo Heap.get?;simp
def NI(h:ak)(L:ae):News vo L h (qJ h L):=λp hp=>by obtain⟨a,o⟩:=p;obtain⟨q,hL⟩:=tm.mp hp;exists q,hL,Gh a
def dO.has{P:af}{w:ag}{H:Hp}{h:ak}{a:ae}: ∀ {o:HO},dO P w H h a o-> ∃u,h.get? a=some u
 | .aK xs,x=>by obtain⟨_,_,_,_,e⟩:=x;exists _,e
 | .aC xs,x=>by obtain⟨_,_,_,o,e,_⟩:=x;exists _,e
 | .dK kvs,x=>by obtain⟨_,_,_,_,o,_,_,e,_⟩:=x;exists _,e
 | .dT kvs,x=>by obtain⟨_,_,_,_,o,_,_,e,_⟩:=x;exists _,e
 | .set S n,x=>by obtain⟨o,_,_,_,e,_⟩:=x;exists _,e
 | .bv C dx fs,x=>by obtain⟨_,_,_,e,_⟩:=x;exists _,e
 | .bR y,x=>by obtain⟨_,e⟩:=x;exists _,e
 | .xd fs,x=>by obtain⟨_,⟨_,_,_,e,_⟩,_⟩:=x;exists _,e
 | .nR lo hi,x=>by obtain⟨_,_,_,e⟩:=x;exists _,e
 | .cc ob u,x=>by obtain⟨e,_⟩:=x;exists _,e
 | .pK ps,x=>⟨_,(show h.get? a=some _ from x)⟩
 | .met f y,x=>⟨_,(show h.get? a=some _ from x)⟩
 | .ext φ,x=>by obtain⟨_,⟨_,e⟩,_⟩:=x;exists _,e
def ZV{h:ak}{a:ae}{m m':aA->ap aa}(x:h.Ns a m)(y:h.Ns a m'):m=m':=by obtain⟨o,es,ep,e,d,_,f⟩:=x;obtain⟨o',es',jO,e',d',_,f'⟩:=y;rw[e]at e';cases e';rw[d]at d';cases d';funext n;rw[<-f,f']
section
variable{X:Cx}{aB:aq (ae×Obj)}{σ:St}{H:Hp}{s:ac}
def aG.JT{m:aA->ap aa}{D:ae}{h':ak}{ys:aq V}{us:aq aa}{c:Nat}(I:aG X aB σ H s)(hm:s.heap.Ns X.env.locals m)(F:h'.Ns X.env.locals m)(N: ∀p∈qJ s.heap X.env.locals,h'.get? p.1=some p.2)(hD: ∀p∈qJ s.heap X.env.locals,p.1<D)(Lg:D≠X.env.locals)(eD:h'.get? D=some (seqObj "list" us.toArray c))(hz:ys.length<=sizeLine)(r:bg ys us):H D=none/\aG X aB σ (upd H D (.aK ys)) {s with heap:=h'}:=by have hn: ∀b,H b≠none->b≠X.env.locals:=λb hb z=>hb (by rw[z];exact I.free);have kp: ∀b o,b≠X.env.locals->s.heap.get? b=some o->h'.get? b=some o:=λb o hb e=>N (b,o) (tm.mpr ⟨e,hb⟩);(have fr:H D=none:=(by cases q:H D with|none=>rfl|some u=>obtain⟨o,e⟩:=(I.hok D u q).has;exact absurd (hD (D,o) (tm.mpr ⟨e,Lg⟩)) (kh _)));(have ZC: ∀b o,s.heap.get? b=some o->b≠D:=λb o e z=>(by subst z;exact absurd (hD (b,o) (tm.mpr ⟨e,Lg⟩)) (kh _)));exists fr,?_;refine I.step (g':=s.gens) (d':=s.drawn) (t':=s.toks) (ch:= []) (λb hb=>nomatch hb) (λb o hL _ _ e _=>kp b o hL e) (λb o hL _ _ e _=>⟨o.slots,kp b o hL e⟩) (λb o _ e n0=>by rw[aP (ZC b o e)];exact n0) (λb o _ e=> ?_) (λb xs e=>by rw[aP (fm e fr)];exact e) (λb o u e=>by rw[aP (fm e fr)];exact e) (λb ps e=>⟨#[],by rw[aP (fm e fr),e];simp⟩) (λm' gC=>by rw[<-ZV hm gC];exact F) (λa o e=> ?_) I.fC;by_cases hb:b=X.env.locals;subst hb;obtain⟨o',_,_,e',_⟩:=F;exists o',e';exists o,kp b o hb e;by_cases ha:a=D;subst ha;rw[aL]at e;cases e;exists hz,us,c,r,eD;rw[aP ha]at e;(refine(I.hok a o e).stay (λb u hb q=>kp b u (hn b ?_) q) (λb q=>by rw[aP (fm q fr)];exact q) λb xs q=>by rw[aP (fm q fr)];exact q);rcases hb with rfl|hb;rw[e];simp;rw[hb];simp
end
/---/def lexLt:List Int->List Int->Bool
 |a::as,b::bs=>if a=b then lexLt as bs else decide (a<b)
 |_,_=>false
def Nb: ∀as bs:aq Int,lexLt as bs=true->lexLt bs as=false
 | [],_,h=>by cases h
 |_::_,[],h=>by cases h
 |a::as,b::bs,h=>by simp only[lexLt]at h⊢;by_cases e:a=b;rw[aT e]at h;rw[aT e.symm];exact Nb as bs h;rw[aU e]at h;rw[aU λz=>e z.symm];have:=lu h;exact gv (by lia)
def Nd: ∀as bs cs:aq Int,as.length=bs.length->bs.length=cs.length->lexLt bs as=false->lexLt cs bs=false->lexLt cs as=false
 | [],_,[],_,_,_,_=>rfl
 | [],_,_::_,_,_,_,_=>rfl
 |a::as,b::bs,c::cs,h1,h2,e1,e2=>by simp only[lexLt]at e1 e2⊢;simp only[cU,Nat.add_right_cancel_iff]at h1 h2;by_cases x:b=a;rw[aT x]at e1;by_cases y:c=b;rw[aT y]at e2;rw[aT (y.trans x)];exact Nd as bs cs h1 h2 e1 e2;rw[aU y]at e2;rw[aU (by rw[<-x];exact y),<-x];exact e2;rw[aU x]at e1;have d1:=of_decide_eq_false e1;by_cases y:c=b;rw[aT y]at e2;rw[aU (by rw[y];exact x),y];exact e1;rw[aU y]at e2;have d2:=of_decide_eq_false e2;rw[aU (by lia)];exact gv (by lia)
 |_::_,[],_,h1,_,_,_=>by simp at h1
 |_::_,_::_,[],_,h2,_,_=>by simp at h2
def Nc: ∀as bs:aq Int,as.length=bs.length->lexLt as bs=false->lexLt bs as=false->as=bs
 | [],[],_,_,_=>rfl
 |a::as,b::bs,h,e1,e2=>by simp only[lexLt]at e1 e2;simp only[cU,Nat.add_right_cancel_iff]at h;by_cases x:a=b;rw[aT x]at e1;rw[aT x.symm]at e2;rw[x,Nc as bs h e1 e2];rw[aU x]at e1;rw[aU λz=>x z.symm]at e2;have d1:=of_decide_eq_false e1;have d2:=of_decide_eq_false e2;lia
 | [],_::_,h,_,_=>by simp at h
 |_::_,[],h,_,_=>by simp at h
section
variable{prog:af}{w:ag}{A:ao}{E:aa->ac->Prop}{s:ac}
def a06(f:Bool){x y:Int}{t:Tok}{Q:Bool->ac->Prop}(h:Q (decide (x<y)) s):wpAny (model prog w) A (oneLt' f (.int x t) (.int y u)) Q E s:=by cases f with|true=>exact oneLt_int h|false=>exact kat_one _ _ (lt_int h)
def FU{b:Bool}{Q:Bool->ac->Prop}: ∀ (ns ms:aq Int) (us ws:aq aa) (i:Nat),ns.length=ms.length->bg (ns.map V.int) us->bg (ms.map V.int) ws->Q (lexLt ns ms) s->KatLex prog w A b false Q (us.zip ws) i s
 | [],[],_,_,_,_,hu,hw,q=>by cases hu;cases hw;exact kat_nil q
 |n::ns,m::ms,_,_,i,hl,hu,hw,q=>by
  cases hu with
  |cons oX qt=>
  cases hw with
  |cons i6 oY=>
  obtain⟨t,rfl⟩:=oX;obtain⟨t',rfl⟩:=i6;simp only[cU,Nat.add_right_cancel_iff]at hl;refine kat_cons (SeqAt.EqAt.int_int n t m t' prog w _ _ ?_);simp only[lexLt]at q;by_cases e:n=m;rw[aT e]at q;rw[show(n==m)=true by simp[e]];exact kat_yes (FU ns ms _ _ (i+1) hl qt oY q);rw[aU e]at q;rw[show(n==m)=false by simp[e]];exact kat_no (a06 _ q)
 | [],_::_,_,_,_,h,_,_,_=>by simp at h
 |_::_,[],_,_,_,h,_,_,_=>by simp at h
end
/---/def kz:Option K2.T->List bu
 |none=> []
 |some x=> [.str x]
def cJ(hd:Option K2.T)(ns:List Int):PV:= .aC ((kz hd++ns.map bu.int).map PV.at)
def GX{H:Hp}: ∀ {ns:aq Int} {vs:aq V},aE H ((ns.map bu.int).map PV.at) vs->vs=ns.map V.int
 | [],vs,r=>by simp only[fZ,aE]at r;exact r
 |n::ns,vs,r=>by simp only[bH,aE]at r;obtain⟨v,t,rfl,h1,h2⟩:=r;simp only[aJ]at h1;rw[h1,GX h2];rfl
def a2K(r:aJ H (cJ hd ns) v): ∃a,v= .ref a/\H a=some (.aC ((match hd with|none=> []|some x=> [V.str (S x)])++ns.map V.int)):=by obtain⟨a,vs,rfl,h,rs⟩:=aJ.aC r;exists a,rfl,?_;cases hd with|none=>rw[h,GX rs];rfl|some x=>simp only[kz,List.singleton_append,bH,aE]at rs;obtain⟨y,t,rfl,h1,h2⟩:=rs;simp only[aJ]at h1;rw[h,h1.1,GX h2];rfl
section
variable{prog:af}{w:ag}{A:ao}{E:aa->ac->Prop}{s:ac}
def Nh{a:ae}{vs:aq aa}{n:Nat}{P:Fin->ac->Prop}(ho:s.heap.get? a=some (seqObj "list" vs.toArray n))(h1:vs.length<2)(h:P (.done (.ret .none)) {s with heap:=sortedHeap s.heap a vs vs.toArray}):wpAny (model prog w) A (Builtin.«list.sort» ⟨[.ref a],[]⟩) P E s:=by
 rw[list_sort_plain];have la:a<s.heap.objs.size:=bL ho;(have zl:vs.toArray.size=vs.length:=by simp);refine aH (listItems_at ho rfl (aH (listUpdate_at ho rfl ?_)));(obtain⟨e1,o1⟩: ∃e1,(s.heap.update a (Obj.mapSeq λ_=> #[])).get? a=some (seqObj "list" #[] e1):=⟨_,get?_update_seq ho _⟩);refine aH (seqEpoch_at o1 rfl (aH (wpAny_newTuple (aH (wpAny_newList (iP ?_))))));(have o6:(((s.heap.update a (Obj.mapSeq λ_=> #[])).push (seqObj "tuple" vs.toArray 0)).push (seqObj "list" #[] 0)).get? a=some (seqObj "list" #[] e1):=(by(have b1:a≠((s.heap.update a (Obj.mapSeq λ_=> #[])).push (seqObj "tuple" vs.toArray 0)).objs.size:=by rw[size_push',Heap.size_update];exact cp (uB la));(have b2:a≠(s.heap.update a (Obj.mapSeq λ_=> #[])).objs.size:=by rw[Heap.size_update];exact cp la);rw[Heap.get?_push_ne _ _ _ b1,Heap.get?_push_ne _ _ _ b2];exact o1));dsimp only;(have c2:vs.toArray.size<2:=by lia);rw[aT c2,aT c2];refine aH (aX ?_);rw[StateT.run_pure];refine aH (aX (aH (seqEpoch_at o6 rfl ?_)));have ze:((vs.toArray.zip vs.toArray).map (·.2))=vs.toArray:=by
  match vs,h1 with
  | [],_=>simp
  | [v],_=>simp
  |_::_::_,h=>exact absurd h (by simp)
 refine aH (listUpdate_at o6 rfl ?_ (hsz2:=by show((vs.toArray.zip vs.toArray).map (·.2)).size<=_;rw[ze,zl,jb];lia));simp only[zW,fS,fN];refine aX ?_;have e2:((arrOf (SortSt.mk' general' (vs.toArray.zip vs.toArray) #[] 7 none)).map (·.2))=vs.toArray:=ze;rw[e2];exact h
def a3W{l:ae}{vs:aq aa}{Q:aa->ac->Prop}(hl:s.heap.IsList l vs.toArray)(h1:vs.length<2)(h:Q (.ref (s.heap.objs.size+1)) {s with heap:=sortedAll s.heap vs vs.toArray}):wpAny (model prog w) A (call (.builtin "sorted") [.ref l]) Q E s:=by refine Calls.call_function_entry kind_sorted plain_sorted entry_sorted (args_sorted1 _) ?_;unfold Builtin.«sorted»;refine aH (m:=checkCount "sorted" 1 1 _) (aX (aH (collect_list hl (aH (wpAny_newList ?_ (by rw[jb];lia))) (by rw[jb];lia))));(have z1:((s.heap.push (seqObj "list" #[] 0)).update s.heap.objs.size (Obj.mapSeq (· ++vs.toArray))).objs.size=s.heap.objs.size+1:=by rw[Heap.size_update,size_push']);have o1:=cS ((s.heap.push (seqObj "list" #[] 0)).update s.heap.objs.size (Obj.mapSeq (· ++vs.toArray))) (o:=seqObj "list" vs.toArray 0) rfl;rw[z1]at o1;show wpAny _ _ _ _ _ {s with heap:=((s.heap.push (seqObj "list" #[] 0)).update s.heap.objs.size (Obj.mapSeq (· ++vs.toArray))).push (seqObj "list" vs.toArray 0)};rw[z1];exact aH (iP (jB slot_list_sort ⟨_,o1,rfl⟩ entry_list_sort (Nh o1 h1 ⟨_,rfl,aX ⟨_,rfl,h⟩⟩) (args_list_sort _)))
end
def Ee{α:Type}(d:α): ∀l:aq α,(List.range l.length).map (λi=>l.getD i d)=l:=λl=>by apply List.ext_getElem?;intro i;rw[cB];by_cases h:i<l.length;rw[zA h,br h];simp[List.getD,br h];rw[wz (by simpa using zI h),wz (zI h)];rfl
def GW{H:Hp}: ∀ {ps:aq PV} {vs:aq V} {i:Nat} {p:PV},aE H ps vs->ps[i]? =some p-> ∃v,vs[i]? =some v/\aJ H p v
 | [],_,_,_,_,e=>by simp at e
 |q::ps,vs,i,p,r,e=>by simp only[aE]at r;obtain⟨v,t,rfl,h1,h2⟩:=r;cases i with|zero=>simp at e;subst e;exact⟨v,rfl,h1⟩|succ i=>simp at e;obtain⟨u,h3,h4⟩:=GW h2 e;exists u,by simpa using h3,h4
def GY{H:Hp}{α:Type}{f:α->PV}{d:α}{l:aq α}{vs:aq V}(r:aE H (l.map f) vs): ∀idx:aq Nat,(∀i∈idx,i<l.length)->aE H (idx.map λi=>f (l.getD i d)) (idx.map λi=>vs.getD i .aN)
 | [],_=>by simp[aE]
 |i::idx,h=>by have hi:=h i (.head _);(have e:(l.map f)[i]? =some (f (l.getD i d)):=by rw[cB,br hi];simp[List.getD,br hi]);obtain⟨v,h1,h2⟩:=GW r e;simp only[bH,aE];exists vs.getD i .aN,_,rfl,by rw[show vs.getD i .aN=v by simp[List.getD,h1]];exact h2,GY r idx λj hj=>h j (.tail _ hj)
def IS{vs:aq V}{us:aq aa}(r:bg vs us): ∀idx:aq Nat,(∀i∈idx,i<vs.length)->bg (idx.map λi=>vs.getD i .aN) (idx.map λi=>us.getD i Value.none)
 | [],_=> .nil
 |i::idx,h=>by have hi:=h i (.head _);obtain⟨u,h1,h2⟩:=r.get (br hi);refine .cons ?_ (IS r idx λj hj=>h j (.tail _ hj));simp only[List.getD,br hi,h1,Option.getD_some];exact h2
/---/def gE(bD:List (List Int))(k i:Nat):List Int:=bD.getD i (List.replicate k 0)
def qC{bD:aq (aq Int)}{k:Nat}(h: ∀ns∈bD,ns.length=k)(i:Nat):(gE bD k i).length=k:=by unfold gE;by_cases hi:i<bD.length;simp only[List.getD,br hi,Option.getD_some];exact h _ (kP hi);simp only[List.getD,wz (zI hi),Option.getD_none,ke]
def M0{bD:aq (aq Int)}{k:Nat}(h: ∀ns∈bD,ns.length=k):SQ.Ord λi j=>lexLt (gE bD k i) (gE bD k j):=
 ⟨λa b=>Nb _ _,λa b c=>Nd _ _ _ (by rw[qC h,qC h]) (by rw[qC h,qC h])⟩
/---/def LA:Option K2.T->List V
 |none=> []
 |some x=> [.str (S x)]
/---/def xn:Option K2.T->Value
 |none=> .type "int"
 |some _=> .type "str"
inductive a2w(K:W.Frag)(xs:List V)(H:Hp)(Q:VK):Prop
 |mk (p:Addr) (ys:List V) (hd:Option K2.T) (bD:List (List Int)) (k:Nat) (_:xs= [.ref p]) (_:aQ K H p ys) (_:aE H (bD.map (cJ hd)) ys) (_:(∀ns∈bD,ns.length=k)) (_:1<=k) (_:bD.length<64) (_: ∀ (l:Addr) (lq:List (List Int)) (ys':List V),H l=none->lq.Perm bD->lq.Pairwise (λa b=>lexLt b a=false)->aE H (lq.map (cJ hd)) ys'->Q (.ref l) (upd H l (.aK ys')))
def OJ(r:aJ H (cJ hd ns) v): ∃a,v= .ref a/\H a=some (.aC (LA hd++ns.map V.int)):=by obtain⟨a,e,h⟩:=a2K r;exists a,e,?_;cases hd with|none=>exact h|some x=>exact h
inductive uo(h:Heap)(hd:Option K2.T)(u:Value)(ns:List Int):Prop
 |mk (a o xs n:_) (_:u= .ref a) (_:h.get? a=some o) (_:o.cls= .type "tuple") (_:o.data= .seq xs n) (_:bg (LA hd++ns.map V.int) xs.toList)
def IK{h:ak}{hd:ap K2.T}{k:Nat}(oO:1<=k): ∀ {us:aq aa} {bD:aq (aq Int)},Paired (uo h hd) us bD->(∀ns∈bD,ns.length=k)-> ∃fs,KatTups h us fs/\fs.length=us.length/\ ∀ (M:Model),∀v∈fs,Looks M h (typeOf v) (xn hd)
 | [],[],_,_=>⟨[],.nil,rfl,λ_ v hv=>nomatch hv⟩
 |u::us,ns::bD,.cons hi hr,hk=>by
  obtain⟨fs,h1,h2,h3⟩:=IK oO hr λns h=>hk ns (.tail _ h);obtain⟨a,o,xs,n,rfl,e,c,d,r⟩:=hi;have hl:=hk ns (.head _);cases hd with
  |some x=>
   have r':bg (V.str (S x)::ns.map V.int) xs.toList:=r;cases hx:xs.toList with
   |nil=>rw[hx]at r';cases r'
   |cons f rest=>
    rw[hx]at r';cases r' with
    |cons r1 r2=>
    obtain⟨t,rfl⟩:=r1;exists _::fs,.cons e c d (by rw[<-kb,hx];rfl) h1,by simp[h2],λM v hv=> ?_;rcases List.mem_cons.mp hv with rfl|hv;exact Looks.of_pure rfl;exact h3 M v hv
  |none=>
   have r':bg (ns.map V.int) xs.toList:=r;cases ns with
   |nil=>simp at hl;lia
   |cons n0 ns=>
    cases hx:xs.toList with
    |nil=>rw[hx]at r';cases r'
    |cons f rest=>
     rw[hx]at r';cases r' with
     |cons r1 r2=>
     obtain⟨t,rfl⟩:=r1;exists _::fs,.cons e c d (by rw[<-kb,hx];rfl) h1,by simp[h2],λM v hv=> ?_;rcases List.mem_cons.mp hv with rfl|hv;exact Looks.of_pure rfl;exact h3 M v hv
def MO{s:ac}{C:Bool->ac->Prop}(hu:uo s.heap hd u ns)(hv:uo s.heap hd v ms)(hl:ns.length=ms.length)(h:C (lexLt ns ms) s):wpAny (model prog w) A (keyLt' (tuples' true) u v) C (λ_ _=>False) s:=by
 obtain⟨a,o,xs,n,rfl,e,c,d,r⟩:=hu;obtain⟨a',o',xs',n',rfl,e',c',d',r'⟩:=hv;have l1:=r.length;have l2:=r'.length;simp only[gn,bq,kd]at l1 l2;have sz:decide (xs.size<xs'.size)=false:=gv (by lia);refine kat_lt e d e' d' ?_;rw[sz];cases hd with
 |none=>exact FU ns ms _ _ 0 hl r r' h
 |some x=>
  have r1:bg (V.str (S x)::ns.map V.int) xs.toList:=r;have r2:bg (V.str (S x)::ms.map V.int) xs'.toList:=r';cases hx:xs.toList with
  |nil=>rw[hx]at r1;cases r1
  |cons f rest=>
   cases hy:xs'.toList with
   |nil=>rw[hy]at r2;cases r2
   |cons g rest'=>
    rw[hx]at r1;rw[hy]at r2;cases r1 with
    |cons p1 p2=>
    cases r2 with
    |cons q1 q2=>
    obtain⟨t,rfl⟩:=p1;obtain⟨t',rfl⟩:=q1;refine kat_cons (SeqAt.EqAt.str_str (S x) t (S x) t' prog w _ _ ?_);rw[show(S x==S x)=true by simp];exact kat_yes (FU ns ms _ _ 1 hl p2 q2 h)
def Gu{α β:Type}{F:α->β->Prop}: ∀ {l:aq α} {m:aq β} {i:Nat} {a:α} {b:β},Paired F l m->l[i]? =some a->m[i]? =some b->F a b
 |_,_,_,_,_,.nil,e,_=>by simp at e
 |_,_,0,_,_,.cons h _,e1,e2=>by simp at e1 e2;subst e1 e2;exact h
 |_,_,i+1,_,_,.cons _ t,e1,e2=>Gu t (by simpa using e1) (by simpa using e2)
section
variable{X:Cx}
def FI{aB:aq (ae×Obj)}{σ:St}{H:Hp}{s:ac}{h':ak}{hd:ap K2.T}(I:aG X aB σ H s)(kp: ∀b o,b≠X.env.locals->s.heap.get? b=some o->h'.get? b=some o): ∀ {bD:aq (aq Int)} {ys:aq V} {us:aq aa},aE H (bD.map (cJ hd)) ys->bg ys us->Paired (uo h' hd) us bD
 | [],ys,us,r,v=>by simp only[fZ,aE]at r;subst r;cases v;exact .nil
 |ns::bD,ys,us,r,v=>by
  simp only[bH,aE]at r;obtain⟨y,t,rfl,h1,h2⟩:=r;cases v with
  |cons v1 v2=>
  refine .cons ?_ (FI I kp h2 v2);obtain⟨a,rfl,ha⟩:=OJ h1;cases v1;obtain⟨aF,ri,⟨o,e,c,n,d⟩,_⟩:=I.tuple (aS.of (K:=X.K) ha);exact⟨a,o,aF.toArray,n,rfl,kp a o (λz=>by rw[z,I.free]at ha;cases ha) e,c,d,by simpa using ri⟩
def DI:gS X (.builtin "sorted") (a2w X.K):=by
 intro aB s σ H xs us Q I r h;obtain⟨p,ys,hd,bD,k,rfl,hq,rs,hk,oO,h64,q⟩:=h;obtain⟨u,rfl,ru⟩:=jA r;cases ru;obtain⟨aF,ri,pl,hz⟩:=I.list hq;have l1:=ri.length;have l2:=rs.len;rw[bq]at l2;by_cases h2:aF.length<2
 ·refine a3W pl.isList h2 ?_;obtain⟨e,he⟩:=sortedAll_at s.heap aF aF.toArray;exists .ref (s.heap.objs.size+1),_,I.laid (a:=s.heap.objs.size+1) (o:= .aK ys) (t':=s.toks) (λb o hb=>sortedAll_old hb) (hW _) ⟨hz,aF,e,ri,he⟩,rfl,?_;refine q _ bD ys (I.hok.fresh (hW _)) (List.Perm.refl _) ?_ rs;match bD,l2 with
  | [],_=>exact .nil
  | [_],_=>exact zE _ _
  |_::_::_,h=>simp only[cU]at h;lia
 (obtain⟨m,hm,_⟩:=I.eI;refine kat_sorted (h₀:=vo) (L:=X.env.locals) (m:=m) (news:=qJ s.heap X.env.locals) ⟨hm,λb o e=>(by rw[Gh]at e;cases e),fQ _⟩ (NI _ _) pl.isList (by lia) (by lia) λD e1 h' F' N' hD=> ?_;have kp: ∀b o,b≠X.env.locals->s.heap.get? b=some o->h'.get? b=some o:=λb o hb e=>(N' (b,o) (.tail _ (tm.mpr ⟨e,hb⟩))).1;have pr:=FI I kp rs ri;obtain⟨fs,t1,t2,t3⟩:=IK oO pr hk;refine kat_kind (T:=xn hd) t1 (by lia) (t3 _) (by cases hd<;>rfl) ?_;(have kt:(xn hd !=Value.type "tuple")=true:=by cases hd<;>rfl);rw[kt];have o:=M0 hk;obtain⟨p1,p2⟩:=SQ.PB o (n:=aF.length) (by lia);refine SQ.I0 (lt:=λi j=>lexLt (gE bD k i) (gE bD k j)) (n:=aF.length) (λi j C hi hj hC=> ?_) (kas_sort aF.length) (SQ.JF (by lia)) ?_;unfold kas_ask;(have fi: ∀i,i<aF.length->uo h' hd (aF.getD i Value.none) (gE bD k i):=λi hi=>(by(have hn:i<bD.length:=by lia);have:=Gu pr (br hi) (br hn);unfold gE;simpa [List.getD,br hi,br hn]using this));exact MO (s:= {s with heap:=h'}) (fi i hi) (fi j hj) (by rw[qC hk,qC hk]) hC;generalize SQ.ev (λi j=>lexLt (gE bD k i) (gE bD k j)) (kas_sort aF.length)=pp at p1 p2;refine KasFin.intro F' N' (.head λp hp=>cp (hD p hp)) λh3 c F3 N3=> ?_;have o0: ∀i∈pp.toList,i<aF.length:=λi hi=>List.mem_range.mp (p1.mem_iff.mp hi);have hh:=aG.JT (ys:=pp.toList.map λi=>ys.getD i .aN) (us:=pp.toList.map λi=>aF.getD i Value.none) (c:=c) I hm F3.ns (λp hp=>(N3 p (.tail _ hp)).1) hD (N3 _ (.head _)).2.1 (N3 _ (.head _)).1 (by rw[bq,p1.length_eq,oh,<-l1];exact hz) (IS ri pp.toList λi hi=>by have:=o0 i hi;lia);exists .ref D,_,hh.2,rfl,q D (pp.toList.map λi=>gE bD k i) _ hh.1 ?_ ?_ ?_;have e:=Ee (List.replicate k 0) bD;have p3:=p1.map λi=>gE bD k i;(have e2:bD.length=aF.length:=by lia);rw[e2]at e;rw[show(List.range aF.length).map (λi=>gE bD k i)=bD from e]at p3;exact p3;rw[List.pairwise_map];rw[List.pairwise_iff_getElem];intro i j hi hj xu;(have sz:pp.toList.length=aF.length:=by rw[p1.length_eq,oh]);have:=p2 i j (by lia) (by lia);unfold SQ.le SQ.at_ at this;simp only[kd]at hi hj;simpa [pO,kM hi,kM hj]using this;rw[jG];exact GY rs pp.toList λi hi=>by have:=o0 i hi;lia)
end
end L2
namespace L2
open PySem PySem.Spec PyProof.Rows K2
/---/def wn:HO->Prop
 | .aK _=>True
 | .dK _=>True
 | .dT _=>True
 |_=>False
section
variable{X:Cx}{aB:aq (ae×Obj)}{σ:St}{H:Hp}{s:ac}{a:ae}{u:HO}{o:Obj}
def dh.sub{P:af}{w:ag}{H H':Hp}{h:ak}(x:dh P w H h)(ha: ∀v,H' a=some v->dO P w H' h a v)(same: ∀b,b≠a->H' b=H b)(no: ∀y,H a≠some (.bR y))(nt: ∀xs,H a≠some (.aC xs)):dh P w H' h:=λb v e=>by by_cases hb:b=a;subst hb;exact ha v e;rw[same b hb]at e;exact(x b v e).stay (λ_ _ _ q=>q) (λc q=>by rw[same c (λz=>no b (by rw[<-z];exact q))];exact q) λc xs q=>by rw[same c (λz=>nt xs (by rw[<-z];exact q))];exact q
def Wo(hu:wn u)(e:H a=some u):(∀y,H a≠some (.bR y))/\(∀xs,H a≠some (.aC xs))/\(∀o v,H a≠some (.cc o v))/\(∀ps,H a≠some (.pK ps)):=by rw[e];cases u<;>first|exact(show False from hu).elim|exists λ_ z=>(by cases z),λ_ z=>(by cases z),λ_ _ z=>(by cases z),λ_ z=>(by cases z)
def NW{H':Hp}(hu:wn u)(x:dO P w H h a u)(ht: ∀b xs,H b=some (.aC xs)->H' b=some (.aC xs)):dO P w H' h a u:=by cases u with|aK xs=>exact x|dK kvs=>exact x|dT kvs=>obtain⟨z,y,xs,r,ob,es,ep,e,c⟩:=x;exact⟨z,y,xs,Paired.Bm r λp q z=>⟨z.1,ht _ _ z.2.1,z.2.2⟩,ob,es,ep,e,c⟩|_=>exact hu.elim
def aG.hold(I:aG X aB σ H s)(hu:wn u)(e:H a=some u): ∃o,s.heap.get? a=some o/\aG X aB σ (upd H a (.cc o u)) s/\ ∀o' v,X.H₀ a≠some (.cc o' v):=by obtain⟨o,ho⟩:=(I.hok a u e).has;obtain⟨n1,n2,n3,n4⟩:=Wo hu e;(have ne: ∀b,H b=none->b≠a:=λb hb z=>by subst z;rw[e]at hb;cases hb);have hok:dh X.prog X.w (upd H a (.cc o u)) s.heap:=I.hok.sub (a:=a) (λv q=>by rw[aL]at q;cases q;exact⟨ho,NW hu (I.hok a u e) λb xs q=>by rw[aP (λz=>n2 xs (by rw[<-z];exact q))];exact q⟩) (λb hb=>aP hb) n1 n2;have f0: ∀o' v,X.H₀ a≠some (.cc o' v):=λo' v z=>n3 o' v (I.base.jl a o' v z);exists o,ho,⟨I.ok,I.os,I.fC,?_,I.eI,I.cell,?_,?_,?_,hok,I.len⟩,f0;exists I.base.keep,I.base.slot,λb ob h1 h2 h3=> ?_,I.base.there,λb xs q=> ?_,λb o' v q=> ?_,λb ps q=> ?_;have:=I.base.free b ob h1 h2 h3;rw[aP (ne b this)];exact this;have:=I.base.bA b xs q;rw[aP (λz=>n2 xs (by rw[<-z];exact this))];exact this;have:=I.base.jl b o' v q;rw[aP (λz=>n3 o' v (by rw[<-z];exact this))];exact this;obtain⟨more,this⟩:=I.base.kI b ps q;exact⟨more,by rw[aP (λz=>n4 _ (by rw[<-z];exact this))];exact this⟩;rw[aP (ne _ I.free)];exact I.free;(exact λx c q=>by rw[aP (ne _ (I.ir x c q))];exact I.ir x c q);exact λp hp=>(by obtain⟨h1,h2,h3⟩:=I.dz p hp;exists h1,by rw[aP (ne _ h2)];exact h2,h3)
def aG.sY(I:aG X aB σ H s)(hu:wn u)(e:H a=some (.cc o u))(f0: ∀o' v,X.H₀ a≠some (.cc o' v)):aG X aB σ (upd H a u) s:=by(have ne: ∀b,H b=none->b≠a:=λb hb z=>by subst z;rw[e]at hb;cases hb);(have nt: ∀xs,H a≠some (.aC xs):=λxs z=>by rw[e]at z;cases z);(have no: ∀y,H a≠some (.bR y):=λy z=>by rw[e]at z;cases z);have hok:dh X.prog X.w (upd H a u) s.heap:=I.hok.sub (a:=a) (λv q=>by rw[aL]at q;cases q;exact NW hu (I.hok a _ e).2 λb xs q=>by rw[aP (λz=>nt xs (by rw[<-z];exact q))];exact q) (λb hb=>aP hb) no nt;exists I.ok,I.os,I.fC,?_,I.eI,I.cell,?_,?_,?_,hok,I.len;exists I.base.keep,I.base.slot,λb ob h1 h2 h3=> ?_,I.base.there,λb xs q=> ?_,λb o' v q=> ?_,λb ps q=> ?_;have:=I.base.free b ob h1 h2 h3;rw[aP (ne b this)];exact this;have:=I.base.bA b xs q;rw[aP (λz=>nt xs (by rw[<-z];exact this))];exact this;have:=I.base.jl b o' v q;rw[aP (λz=>f0 o' v (by rw[<-z];exact q))];exact this;obtain⟨more,this⟩:=I.base.kI b ps q;exact⟨more,by rw[aP (λz=>by rw[z,e]at this;cases this)];exact this⟩;rw[aP (ne _ I.free)];exact I.free;(exact λx c q=>by rw[aP (ne _ (I.ir x c q))];exact I.ir x c q);exact λp hp=>(by obtain⟨h1,h2,h3⟩:=I.dz p hp;exists h1,by rw[aP (ne _ h2)];exact h2,h3)
end
section
variable{X:Cx}
def iR.k9(D:iR)(a:Addr)(o:Obj)(u:HO):iR where
 nx:=λσ H=>H a=some (.cc o u)/\D.nx σ (upd H a u)
 rt:=λv H=>H a=some (.cc o u)/\D.rt v (upd H a u)
 bk:=λσ H=>H a=some (.cc o u)/\D.bk σ (upd H a u)
 ct:=λσ H=>H a=some (.cc o u)/\D.ct σ (upd H a u)
inductive a4i(t:TS)(D:iR)(σ:St)(H:Hp):Prop
 |mk (a u:_) (_:wn u) (_:H a=some u) (_: ∀o,t (D.k9 a o u) σ (upd H a (.cc o u)))
def GK{st:ay}{t:TS}(h:PS X st t):PS X st (a4i t):=by intro aB s σ H D I q;obtain⟨a,u,hu,e,q⟩:=q;obtain⟨o,ho,J,f0⟩:=I.hold hu e;refine dJ (h aB s σ _ _ J (q o)) (λf s' r=> ?_) λ_ _ z=>z;cases f with|next=>obtain⟨σ',H',K',k1,k2⟩:=r;exact⟨σ',_,K'.sY hu k1 f0,k2⟩|brk=>obtain⟨σ',H',K',k1,k2⟩:=r;exact⟨σ',_,K'.sY hu k1 f0,k2⟩|cont=>obtain⟨σ',H',K',k1,k2⟩:=r;exact⟨σ',_,K'.sY hu k1 f0,k2⟩|ret v=>obtain⟨v',σ',H',K',rv,k1,k2⟩:=r;exists v',σ',_,K'.sY hu k1 f0,rv,k2
end
def Xz{A:ao}(hh:A.handled=none)(I d:ae)(hne:d≠I)(vs:aq (aZ×aa))(ep:Nat):WalksT prog w A I [I,d] [I] vs.length (λi us=> ∃key k x,vs[i]? =some (k,x)/\(cX prog w).is k key=true/\us= #[key,x]) (λi h=>(∃ok ov,IsItemIter h I d i vs.length ep ok ov)/\h.DictAt (cX prog w) d vs ep) (λi T h=>(∃ok ov,IsItemIterOut h I d (i+1) vs.length ep ok ov T)/\h.DictAt (cX prog w) d vs ep/\T≠I)where
 sub:=λb hb=>by simp at hb;simp[hb]
 frame:=λi h h' st hk=>by obtain⟨⟨ok,ov,it⟩,hm⟩:=st;exists⟨ok,ov,hk I (by simp) _ it⟩,hm.at' λo e=>hk d (by simp) o e
 item:=λi s Q E hi st hQ=>by obtain⟨⟨ok,ov,it⟩,hm⟩:=st;(have hx:vs[i]? =some (vs[i].1,vs[i].2):=by simp[hi]);refine wpAny_pyNext_items_item it hm hx λkey h' hkey ho hT hsz hk=> ?_;exact hQ s.heap.objs.size #[key,vs[i].2] h' s.toks ⟨key,_,_,hx,hkey,rfl⟩ (aV _) ⟨_,hT,rfl,_,rfl⟩ ⟨⟨_,_,ho⟩,hm.at' λo e=>hk d o hne e,uC (bL it)⟩ λb o hb e=>hk b o (λz=>hb (by simp[z])) e
 go:=λelts k pos i T s Q E md hQ=>by obtain⟨⟨ok,ov,it⟩,hm,hTI⟩:=md;exact wpAny_letOwnedTupleGo_items it λh' it' hs=>hQ h' ⟨⟨ok,ov,it'⟩,hm.extBut hs.extBut hne⟩ λb o hb e=>hs.extBut b o (λz=>hb (by simp[z])) e
 apart:=λi T h md hm=>md.2.2 (by simpa using hm)
 done:=λs Q E st hQ=>by obtain⟨⟨ok,ov,it⟩,hm⟩:=st;exact wpAny_pyNext_items_end hh it hm (by simp) λh' hx=>hQ h' s.toks λb o hb e=>hx b o (λz=>hb (by simp[z])) e
 self:=λi s Q E st hQ=>by obtain⟨⟨ok,ov,it⟩,hm⟩:=st;exact W.kcp_self it hQ
def A6{κ:Type}: ∀ {kvs:aq (κ×V)} {vs:aq (κ×aa)} {i:Nat} {k:κ} {x:aa},KV kvs vs->vs[i]? =some (k,x)-> ∃v,kvs[i]? =some (k,v)/\bm v x
 |_,_,_,_,_,.nil,e=>by simp at e
 |(k',v')::_,_,0,_,_,.cons h _,e=>by simp at e;subst e;obtain⟨h1,h2⟩:=h;simp only at h1 h2;subst h1;exists v',rfl,h2
 |_,_,i+1,k,x,.cons _ t,e=>by obtain⟨v,h1,h2⟩:=A6 (i:=i) t (by simpa using e);exists v,by simpa using h1,h2
def A7{κ:Type}: ∀ {kvs:aq (κ×V)} {vs:aq (κ×aa)},KV kvs vs->kvs.length=vs.length
 |_,_,.nil=>rfl
 |_,_,.cons _ t=>by simp[A7 t]
def FM{k:aZ}(h:sR k v=true):bm (kV k) v:=by(rcases nG h with⟨i,t,rfl,rfl⟩|⟨x,t,rfl,rfl⟩);exists t,rfl;exists t,rfl
/---/def yb(kvs:List (aZ×V))(i:Nat):List V:=match kvs[i]? with
 |some (k,v)=> [kV k,v]
 |none=> []
section
variable{X:Cx}
def W8(to:TE):TI:=λσ H R=>to σ H λx H1=> ∃a o kvs,x= .ref a/\H1 a=some (.cc o (.dK kvs))/\R (wo kvs.length (yb kvs) λH=>H a=some (.cc o (.dK kvs))) H1
def a1H{to:TE}{kt:Nat}{pt dP cL:Pos}(hl:PE X l to)(hbase:attributeBase l "items" X.env (eval l X.env)=eval l X.env:=by rfl)(hline:(dP.endLine==cL.line)=true:=by rfl):PI X (.Tuple elts kt pt) (.Call (.Attribute l "items" dP) [] [] cL) (W8 to):=by intro aB s σ H R I h;refine wpAny_Call_method0_late hbase hline (aW (hl aB s σ H _ I h) λv s1 ⟨x,H1,I1,r1,q1⟩=> ?_);obtain⟨a,o,kvs,rfl,ha,q⟩:=q1;cases r1;obtain⟨ho,hz,hS,vs,rv,hD⟩:=I1.hok a _ ha;have Eh:=hD;obtain⟨o',es,ep,e0,c0,d0,k0,p0,n0⟩:=Eh;rw[ho]at e0;cases e0;(have iC: ∀h:ak,h.get? a=some o->h.DictAt (cX X.prog X.w) a vs ep:=λh e=>⟨o,es,e,c0,d0,k0,p0,n0⟩);have gY:=A7 rv;exists "dict", "dict.items",zO,Dl,PySem.F.type_dict_items,hD.typeIs,λb z=> ?_,uh rfl (PySem.evalArgs_none ?_);cases z;exists o,ho,c0.2.1;refine uM Dl hD.typeIs PySem.F.entry_dict_items (PySem.F.args_dict_items_1 _) (meets_dict_items (cX X.prog X.w) a hS) ⟨⟨vs,hD⟩,?_⟩;(have hv:(s1.heap.push {cls:= .type "dict_items",data:= .fields #[.ref a]}).IsItemsView s1.heap.objs.size a:=⟨_,cS _ rfl,rfl,rfl⟩);have zz:(s1.heap.push {cls:= .type "dict_items",data:= .fields #[.ref a]}).objs.size=s1.heap.objs.size+1:=jF ..;have alt:a<s1.heap.objs.size:=bL ho;have I2:aG X aB σ H1 {s1 with heap:=s1.heap.push {cls:= .type "dict_items",data:= .fields #[.ref a]}}:=I1.kept (t':=s1.toks) λb u e=>bS _ e;refine wpAny_pyIter_items (s:= {s1 with heap:=s1.heap.push {cls:= .type "dict_items",data:= .fields #[.ref a]}}) (knd:=cX X.prog X.w) hv (iC _ (bS _ ho)) ?_;have I3:aG X aB σ H1 {s1 with heap:=(s1.heap.push {cls:= .type "dict_items",data:= .fields #[.ref a]}).push {cls:= .type "dict_itemiterator",data:= .fields #[.none,.bool false,.ref a,.int 0 0,.int vs.length 0,.int ep 0,.none,.none]}}:=I2.kept (t':=s1.toks) λb u e=>bS _ e;have XA:a≠s1.heap.objs.size+1:=cp (uB alt);show zM X aB σ _ R (.ref (s1.heap.push {cls:= .type "dict_items",data:= .fields #[.ref a]}).objs.size) _;rw[zz];have Qa:=cS (s1.heap.push {cls:= .type "dict_items",data:= .fields #[.ref a]}) (o:= {cls:= .type "dict_itemiterator",data:= .fields #[.none,.bool false,.ref a,.int 0 0,.int vs.length 0,.int ep 0,.none,.none]}) rfl;rw[zz]at Qa;exists s1.heap.objs.size+1,[s1.heap.objs.size+1],λi h=> ∃ok ov,IsItemIter h (s1.heap.objs.size+1) a i vs.length ep ok ov,_,H1,rfl,I3,?_,⟨_,_,Qa⟩,λb hb=> ?_,q;rw[gY];refine CO (Am:= [s1.heap.objs.size+1,a]) (wr:= [s1.heap.objs.size+1]) (δ:=Unit) (Ok:=λ_=>True) (Src:=λ_ h=>h.DictAt (cX X.prog X.w) a vs ep) (Pt:=λ_ i us=> ∃key k x,vs[i]? =some (k,x)/\(cX X.prog X.w).is k key=true/\us= #[key,x]) (Mid:=λ_ i T h=>(∃ok ov,IsItemIterOut h (s1.heap.objs.size+1) a (i+1) vs.length ep ok ov T)/\h.DictAt (cX X.prog X.w) a vs ep/\T≠s1.heap.objs.size+1) (λA _ hA _=>Xz hA _ a XA vs ep) (λY aB σ H s hK J hG=>⟨(),trivial,iC _ (J.hok a _ hG).1⟩) (λ_ i us _ hp=> ?_) (λi=> ?_) (by simp) (λi h h' st k=> ?_) (λi h st b hb=> ?_) (λA i s Q E st hq=> ?_) λb hb=>hb;obtain⟨key,k,x,e1,e2,rfl⟩:=hp;obtain⟨v,e3,e4⟩:=A6 rv e1;unfold yb;rw[e3];exact .cons (FM e2) (.cons e4 .nil);unfold yb;split;show 2<=sizeLine;decide;exact fQ _;obtain⟨ok,ov,it⟩:=st;exists ok,ov,k _ (by simp) _ it;obtain⟨ok,ov,it⟩:=st;(obtain rfl:b=s1.heap.objs.size+1:=by simpa using hb);exact⟨_,it,λv z=>by cases z⟩;obtain⟨ok,ov,it⟩:=st;exact W.kcp_self it hq;(obtain rfl:b=s1.heap.objs.size+1:=by simpa using hb);exact I1.kW (hW _) (I1.hok.fresh (hW _))
end
section
variable{prog:af}{w:ag}{A:ao}{E:aa->ac->Prop}{s:ac}
structure uG(o:Obj)(es:Array DictEntry)(ep:Nat):Prop where
 ex:o.ExactDict
 da:o.data= .dict es ep
def a2C{d:ae}{o:Obj}{ep:Nat}{Q:aa->ac->Prop}(hd:(d==sysModules)=false)(ho:s.heap.get? d=some o)(R:uG o es ep)(hQ:Q (.ref s.heap.objs.size) {s with heap:=s.heap.push {cls:= .type "dict_keyiterator",data:= .fields #[.ref d,.int 0 0,.int es.size 0,.int ep 0]}}):wpAny (model prog w) A (pyIter (.ref d)) Q E s:=by(have T0:s.TypeIs (.ref d) "dict":=⟨o,ho,R.ex.1⟩);refine wpAny_pyIter_slot T0 PySem.F.slot_dict_iter (jB PySem.F.slot_dict_iter T0 PySem.F.entry_dict_iter ?_ (PySem.F.args_dict_iter_1 _));unfold Builtin.«dict.__iter__» Builtin.Dict.dictSlotNone;refine aH (aH (wpAny_notOrdered_dict T0 ?_));show wpAny _ _ (pure (Value.ref d)) _ _ s;refine aX ?_;show wpAny _ _ (Builtin.Dict.showsAll d>>=_) _ _ s;unfold Builtin.Dict.showsAll;rw[aU (by rw[hd];exact fI)];refine aH (aX (aH (wpAny_dictEntries ho R.da (aH (wpAny_dictEpoch ho R.da (aH (jd (aX ⟨_,rfl, "dict_keyiterator",_,⟨_,cS _ rfl,rfl⟩,PySem.F.slot_dict_keyiterator_next.lookup,?_⟩))))))));simpa [rawInt]using hQ
def a2B{it d:ae}{i ep:Nat}{o:Obj}{es:au DictEntry}{Q:ap aa->ac->Prop}(hit:s.heap.IsKeyIter it d i es.size ep)(ho:s.heap.get? d=some o)(R:uG o es ep)(hi:i<es.size)(hQ: ∀h',h'.IsKeyIter it d (i+1) es.size ep->Heap.SameBut it s.heap h'->Q (some es[i].key) {s with heap:=h'}):wpAny (model prog w) A (pyNext (.ref it)) Q E s:=by obtain⟨oi,qo,ci,di⟩:=id hit;have T0:=hit.typeIs;unfold pyNext;refine aH (zb (pN (name:=Str.ofString "__next__") T0 Dm (jB Dm T0 PySem.F.entry_dict_keyiterator_next ?_ (PySem.F.args_dict_keyiterator_next_1 _))));refine aH (aX (aH (aH ?_)));(first|refine aH (IY T0 (aX (aH (zc qo di ?_))))|refine aH (IZ T0 (aX (aH (zc qo di ?_)))));simp only[show Builtin.Dict_items.ownsTuple "dict_keyiterator"=false by decide,fS,fN];show wpAny _ _ (if(Value.ref d==Value.none)=true then _ else _) _ _ s;rw[show(Value.ref d==Value.none)=false from rfl,aU fI];refine aH (aX (aH (wpAny_dictEntries ho R.da ?_)));rw[aU (by simp)];refine aH (aX (aH (wpAny_dictEpoch ho R.da ?_)));rw[aU (by simp)];refine aX ?_;simp only[show ¬((i:Int)<0)from by lia,fN,zr,kM hi];refine aH ?_;(first|refine aH (IY T0 (aX (aH (wpAny_isOneOf_keyiter T0 ?_))))|refine aH (IZ T0 (aX (aH (wpAny_isOneOf_keyiter T0 ?_)))));show wpAny _ _ (setField (.ref it) 1 (rawInt ((i:Int)+1)) >>=_) _ _ s;refine aH (wj qo di (by simp) ?_);(have pb:(s.heap.update it (Obj.mapFields (·.setIfInBounds 1 (rawInt ((i:Int)+1))))).IsKeyIter it d (i+1) es.size ep:=⟨_,um _ qo (Obj.isFreed_of_fields (Obj.data_mapFields di _)),(Obj.cls_mapFields ..).trans ci,by rw[Obj.data_mapFields di];simp[rawInt]⟩);refine aH (iP (aH (wpAny_isOneOf_keyiter (s:= {s with heap:=s.heap.update it (Obj.mapFields (·.setIfInBounds 1 (rawInt ((i:Int)+1))))}) pb.typeIs ?_)));show wpAny _ _ (pure es[i].key) _ _ _;exact aX (aX ⟨_,rfl,aX (hQ _ pb (ul ..))⟩)
def a2A{it d:ae}{i ep:Nat}{o:Obj}{es:au DictEntry}{Q:ap aa->ac->Prop}(hh:A.handled=none)(hit:s.heap.IsKeyIter it d i es.size ep)(ho:s.heap.get? d=some o)(R:uG o es ep)(hi:es.size<=i)(hQ: ∀h',Heap.ExtBut it s.heap h'->Q none {s with heap:=h'}):wpAny (model prog w) A (pyNext (.ref it)) Q E s:=by obtain⟨oi,qo,ci,di⟩:=id hit;have T0:=hit.typeIs;unfold pyNext;refine aH (zb (pN (name:=Str.ofString "__next__") T0 Dm (jB Dm T0 PySem.F.entry_dict_keyiterator_next ?_ (PySem.F.args_dict_keyiterator_next_1 _))));refine aH (aX (aH (aH ?_)));(first|refine aH (IY T0 (aX (aH (zc qo di ?_))))|refine aH (IZ T0 (aX (aH (zc qo di ?_)))));simp only[show Builtin.Dict_items.ownsTuple "dict_keyiterator"=false by decide,fS,fN];show wpAny _ _ (if(Value.ref d==Value.none)=true then _ else _) _ _ s;rw[show(Value.ref d==Value.none)=false from rfl,aU fI];refine aH (aX (aH (wpAny_dictEntries ho R.da ?_)));rw[aU (by simp)];refine aH (aX (aH (wpAny_dictEpoch ho R.da ?_)));rw[aU (by simp)];refine aX ?_;simp only[show ¬((i:Int)<0)from by lia,fN,zr,zi hi];refine aH ?_;(first|refine aH (IY T0 (aX ?_))|refine aH (IZ T0 (aX ?_)));show wpAny _ _ (setField (.ref it) 0 .none>>=_) _ _ s;refine aH (wj qo di (by simp) ?_);show wpAny _ _ (newExc (.type "StopIteration") [] >>=_) _ _ _;simp only[newExc,newTuple];refine aH (aH (jd (aH (m:=firstArgMember _ _) (wpAny_of_eq (a:=Value.none) (by first|rfl|(simp only[firstArgMember];rfl)) (jd ?_ (by size_fits)))) (by size_fits)));simp only[raiseNew];refine aH (wpAny_handled ?_);rw[show A.in1.handled=none from hh];refine aH (aX (wpAny_throw ?_));refine aH (wpAny_isInstance (T:= "StopIteration") (b:=true) ⟨_,cS _ rfl,rfl⟩ isSubtype_stop ?_);exact aX (hQ _ (((ul ..).extBut.push _).push _))
def OE(hh:A.handled=none)(I d:ae)(hne:d≠I){ep:Nat}(R:uG o es ep):Walks prog w A I [I,d] [I] es.size (λi v=> ∃e,es[i]? =some e/\v=e.key) (λi h=>h.IsKeyIter I d i es.size ep/\h.get? d=some o)where
 sub:=λb hb=>by simp at hb;simp[hb]
 frame:=λ_ _ _ st hk=>⟨st.1.at λo e=>hk I (by simp) o e,hk d (by simp) _ st.2⟩
 item:=λi s Q E hi st hQ=>a2B st.1 st.2 R hi λh' pb hs=>hQ _ h' s.toks ⟨es[i],by simp[hi],rfl⟩ ⟨pb,hs.extBut d o hne st.2⟩ λb o hb e=>hs.extBut b o (λz=>hb (by simp[z])) e
 done:=λs Q E st hQ=>a2A hh st.1 st.2 R (aV _) λh' he=>hQ h' s.toks λb o hb e=>he b o (λz=>hb (by simp[z])) e
 self:=λ_ _ _ _ st hQ=>wpAny_pyIter_keyiter st.1 hQ
end
def Jo(n:Nat)(val:Nat->V)(G:Hp->Prop):It:=⟨λi H=>i<n/\G H,λi H x H'=>H'=H/\x=val i,λi H=>i=n/\G H⟩
def a4T{K:W.Frag}{it a:ae}{ep:Nat}{val:Nat->V}(hne:a≠it)(R:uG o es ep)(hv: ∀ (i:Nat) e,es[i]? =some e->bm (val i) e.key):lR P w K tg (Jo es.size val λH=>H a=some (.cc o u)) [it] it (λi h=>h.IsKeyIter it a i es.size ep)where
 mem:=by simp
 obj:=λi h st b hb=>by(obtain rfl:b=it:=by simpa using hb);obtain⟨oi,e,_,d⟩:=st;exact⟨oi,e,λv z=>by rw[d]at z;cases z⟩
 keep:=λi h h' st k=>st.at λo e=>k it (by simp) o e
 item:=by intro X hP hw hK hc i aB s σ H E I hf st hg;subst hP hw hK;obtain⟨hi,hG⟩:=hg;obtain⟨f0,f1,f2,f3,f4,f5⟩:=hf it (by simp);refine(OE (I.ok.hd hc) it a hne R).item i s _ _ hi ⟨st,(I.hok a _ hG).1⟩ λv h' tk hp st' kk=> ?_;obtain⟨e,he,rfl⟩:=hp;have I1:aG X aB σ H {s with heap:=h',toks:=tk}:=I.j7 (λb o hb e=>kk b o (by simpa using hb) e) f0 f1 f3 f4 f5;obtain⟨oi,e1,c1,d1⟩:=id st'.1;exists e.key,rfl,xf (s:= {s with heap:=h',toks:=tk}) e1 c1 d1 (by decide) ⟨val i,H,I1,hv i e he,⟨rfl,rfl⟩,st'.1,λb hb=>(hf b hb).1⟩
 done:=by intro X hP hw hK hc i aB s σ H E I hf st hg;subst hP hw hK;obtain⟨rfl,hG⟩:=hg;obtain⟨f0,f1,f2,f3,f4,f5⟩:=hf it (by simp);exact(OE (I.ok.hd hc) it a hne R).done s _ _ ⟨st,(I.hok a _ hG).1⟩ λh' tk kk=>⟨rfl,I.j7 (λb o hb e=>kk b o (by simpa using hb) e) f0 f1 f3 f4 f5⟩
 self:=λA i s Q E st hq=>wpAny_pyIter_keyiter st hq
section
variable{X:Cx}{tg:Expr}
def W9(to:TE):TI:=λσ H R=>to σ H λx H1=> ∃a o kvs,x= .ref a/\H1 a=some (.cc o (.dT kvs))/\
 ∀bs:List Addr,bs.length=kvs.length->(∀ (i:Nat) k v b,kvs[i]? =some (k,v)->bs[i]? =some b->H1 b=some (.aC (k.map kV)))->R (Jo kvs.length (λi=> .ref (bs.getD i 0)) λH=>H a=some (.cc o (.dT kvs))) H1
def Ob{α β:Type}{F:α->β->Prop}: ∀ {l:aq α} {m:aq β},Paired F l m->l.length=m.length
 |_,_,.nil=>rfl
 |_,_,.cons _ t=>by simp[Ob t]
def Oa{α β:Type}{F:α->β->Prop}: ∀ {l:aq α} {m:aq β} {i:Nat} {x:α} {y:β},Paired F l m->l[i]? =some x->m[i]? =some y->F x y
 |_,_,_,_,_,.nil,e,_=>by simp at e
 |_,_,0,_,_,.cons h _,e1,e2=>by simp at e1 e2;subst e1 e2;exact h
 |_,_,i+1,_,_,.cons _ t,e1,e2=>Oa t (by simpa using e1) (by simpa using e2)
def GD{to:TE}(hl:PE X l to):PI X tg l (W9 to):=by intro aB s σ H R I h;refine aW (hl aB s σ H _ I h) λv s1 ⟨x,H1,I1,r1,q1⟩=> ?_;obtain⟨a,o,kvs,rfl,ha,q⟩:=q1;cases r1;obtain⟨ho,hz,hS,xs,rp,o',es,ep,e0,c0,d0,he,n0⟩:=I1.hok a _ ha;rw[ho]at e0;cases e0;(have R0:uG o es ep:=⟨c0,d0⟩);(have zl:es.size=xs.length:=by rw[<-kd,he,bq]);have pl:=Ob rp;have alt:a<s1.heap.objs.size:=bL ho;refine a2C hS ho R0 ?_;have I2:aG X aB σ H1 {s1 with heap:=s1.heap.push {cls:= .type "dict_keyiterator",data:= .fields #[.ref a,.int 0 0,.int es.size 0,.int ep 0]}}:=I1.kept (t':=s1.toks) λb u e=>bS _ e;(have q':=q (xs.map (·.2.1)) (by rw[bq];lia) λi k v b e1 e2=>(by rw[cB]at e2;cases e3:xs[i]? with|none=>rw[e3]at e2;cases e2|some y=>rw[e3]at e2;cases e2;obtain⟨h1,h2,_⟩:=Oa rp e1 e3;simp only at h1;exact h2));rw[show kvs.length=es.size by lia]at q';exists s1.heap.objs.size,[s1.heap.objs.size],_,_,H1,rfl,I2,a4T (cp alt) R0 λi e ee=> ?_,⟨_,cS _ rfl,rfl,rfl⟩,λb hb=> ?_,q';((have e2:es.toList[i]? =some e:=by rw[kb];exact ee);rw[he,cB]at e2;cases e3:xs[i]? with|none=>rw[e3]at e2;cases e2|some y=>rw[e3]at e2;cases e2;show _=_;simp[List.getD,cB,e3,entryOfKey]);(obtain rfl:b=s1.heap.objs.size:=by simpa using hb);exact I1.kW (aV _) (I1.hok.fresh (aV _))
end
def Hk(k R:St->Hp->Prop):Prop:= ∀σ H,R σ H->k σ H
def sq{t u:TS}{D:iR}{σ:St}{H:Hp}(h: ∀k,Hk k (u D)->t {D with nx:=k} σ H):CF t u D σ H:=h _ λ_ _ h=>h
section
variable{X:Cx}{CX:iQ}{k:Nat}{f C:ae}{fd:ah}{ps ks:aq aA}{sp:Sp}{E:XK}{x:aA}{p pos:Pos}{e:Expr}{es:aq Expr}{kws:aq Keyword}{t tk:TA}{g:aq aa->aq aa->aq aa}{gV:aq V->aq V->aq V}
def a4o(C:Addr)(sp:Sp)(gV:List V->List V->List V)(E:XK)(t tk:TA):TE:=λσ H Q=>t σ H λvs H1=>tk σ H1 λzs H2=> ∀x dx,H2 x=none->H2 dx=none->dx≠x->
 sp (gV (.ref x::vs) zs) (upd (upd H2 dx (.bR x)) x (.bv C dx [])) (λv H3=>v= .aN/\Q (.ref x) H3) E
def a2V{Q:VK}(M:Mk X.K C f)(F:bw X.prog X.w X.K X.mg X.base CX k f fd ps sp)(hr:fA (k+1) X.A)(hb:zt X.K fd ps ks g gV)(hx:mX CX X E)(I:aG X aB σ H s)(r:bg vs us)(rz:bg zs ws)(h: ∀x dx,H x=none->H dx=none->dx≠x->sp (gV (.ref x::vs) zs) (upd (upd H dx (.bR x)) x (.bv C dx [])) (λv H2=>v= .aN/\Q (.ref x) H2) E):wpAny (model X.prog X.w) X.A (call (.ref C) us (ks.zip ws)) (EP X aB σ Q) X.xe s:=by have q0:=h (s.heap.objs.size+1) s.heap.objs.size (I.hok.fresh (hW _)) (I.hok.fresh (aV _)) (cp (wG _));have I2:=aG.made (C:=C) I;have r2:=hb.rel (vs:=V.ref (s.heap.objs.size+1)::vs) (us:=Value.ref (s.heap.objs.size+1)::us) (.cons rfl r) rz;(have hl:(g (Value.ref (s.heap.objs.size+1)::us) ws).length=ps.length:=by rw[<-r2.length];exact F.len _ _ _ _ q0);refine wpAny_call (Nk (f:=f) I.dX M.makes M.init (beq_iff_eq.mp M.fn) (rW (F.run _ X.stack _ _ ⟨Value.ref (s.heap.objs.size+1)::us,ks.zip ws⟩ (g (Value.ref (s.heap.objs.size+1)::us) ws) _ _ E (hr.make C us (ks.zip ws)) (I2.D0.make C us (ks.zip ws)) (hb.to _ (Value.ref (s.heap.objs.size+1)::us) ws I2.dX hl) r2 q0) λr s' q1=> ?_));cases r with|error e=>exact hx aB σ _ _ e s' I2 q1|ok fl=>cases fl with|ret u=>obtain⟨v,H',I3,rv,ev,q3⟩:=I2.after q1;subst ev;exact⟨rv,⟨V.ref (s.heap.objs.size+1),H',I3,rfl,q3⟩⟩|next=>exact False.elim q1|brk=>exact False.elim q1|cont=>exact False.elim q1
def a1B(M:Mk X.K C f)(F:bw X.prog X.w X.K X.mg X.base CX k f fd ps sp)(hr:fA (k+1) X.A)(hg:Gl X x)(hm:X.mg x=some (.ref C))(hb:zt X.K fd ps ks g gV)(hx:mX CX X E)(ha:PA X (e::es) t)(VY:PK X kws tk)(hall:(backToKw pos (keywordEach kws X.env)).all (·.1.isSome)=true:=by rfl)(xy:(backToKw pos (keywordEach kws X.env)).filterMap (·.1)=ks:=by rfl)(ku:(x==("__debug__":aA))=false:=by decide)(he:starEach (e::es) X.env=(false,eval e X.env)::starEach es X.env:=by rfl)(gy:((backTo pos (starEach (e::es) X.env)).any (·.1)||(backToKw pos (keywordEach kws X.env)).any (·.1.isNone))=false:=by rfl):PE X (.Call (.Name x p) (e::es) kws pos) (a4o C sp gV E t tk):=by intro aB s σ H Q I h;refine y9 (Be I hg hm ?_ ku);refine W.callWith_KW (h₀:=X.base) I.ok.mod.sV M.kp hall (aW (ha pos aB s σ H _ I h) λus s1 ⟨vs,H1,I1,r,q⟩=> ?_) gy he;(refine aW (VY pos aB s1 σ H1 _ I1 q) λws s2 ⟨zs,H2,I2,rz,q2⟩=>⟨I2.dX,?_⟩);rw[xy];exact a2V M F hr hb hx I2 r rz q2
end
def QQ: ∀ {xs:aq V} {us:aq aa},xs.length=us.length->(∀ (i:Nat) x u,xs[i]? =some x->us[i]? =some u->bm x u)->bg xs us
 | [],[],_,_=> .nil
 |x::xs,u::us,h,k=> .cons (k 0 x u rfl rfl) (QQ (by simpa using h) λi y v e1 e2=>k (i+1) y v (by simpa using e1) (by simpa using e2))
 | [],_::_,h,_=>by simp at h
 |_::_,[],h,_=>by simp at h
def a40{n:Nat}{acc:au aa}(hs:acc.size=n)(h: ∀ (j:Nat) v,acc[j]? =some v-> ∃t,v=Value.int (0+(j:Int)*1) t):bg ((List.range n).map λ(i:Nat)=>V.int i) acc.toList:=by refine QQ (by simp[hs]) λi x u e1 e2=> ?_;rw[kb]at e2;obtain⟨t,rfl⟩:=h i u e2;rw[cB]at e1;(have hi:i<n:=(by have:=(Array.getElem?_eq_some_iff.mp e2).1;lia));rw[zA hi]at e1;cases e1;exact⟨t,by simp⟩
section
variable{X:Cx}
def RF:gS X (.type "range") (λxs H Q=> ∃n:Nat,xs= [.int n]/\ ∀r,H r=none->Q (.ref r) (upd H r (.nR 0 n))):=by intro aB s σ H xs us Q I r h;obtain⟨n,rfl,q⟩:=h;obtain⟨u,rfl,ru⟩:=jA r;obtain⟨t,rfl⟩:=ru;refine call_range_1 ⟨.ref s.heap.objs.size,_,I.laid (a:=s.heap.objs.size) (o:= .nR 0 n) (t':=s.toks+1+1) (λb o e=>bS _ e) (aV _) ⟨_,_,_,cS _ rfl⟩,rfl,q _ (I.hok.fresh (aV _))⟩
def RE(hc:X.gu=true):gS X (.type "list") (λxs H Q=> ∃ (p:ae) (n:Nat),xs= [.ref p]/\H p=some (.nR 0 n)/\n<=1000/\ ∀l,H l=none->Q (.ref l) (upd H l (.aK ((List.range n).map λ(i:Nat)=>V.int i)))):=by intro aB s σ H xs us Q I r h;obtain⟨p,n,rfl,hp,hn,q⟩:=h;obtain⟨u,rfl,ru⟩:=jA r;cases ru;obtain⟨t,t2,t3,e⟩:=I.hok p _ hp;(have sz:Builtin.Range.rangeSize 0 (n:Int) 1=n:=(by unfold Builtin.Range.rangeSize;rw[aT (by decide)];split<;>lia));refine call_list_range (n:=n) (I.ok.hd hc) e (small_one (by lia) (by lia) (by lia) (by lia)) sz (by lia) λh' tk acc c' kp e1 it=> ?_;exists .ref s.heap.objs.size,_,I.laid (a:=s.heap.objs.size) (o:= .aK ((List.range n).map λ(i:Nat)=>V.int i)) (t':=tk) kp (aV _) ⟨?_,acc.toList,c',?_,by simpa using e1⟩,rfl,q _ (I.hok.fresh (aV _));rw[bq,oh];exact dS hn (by decide);exact a40 it.1 it.2
end
def Oo(p:PlainL h a aF):h.IsList a aF:=by obtain⟨o,n,e,c,_,d⟩:=p;exists o,e,c,n,d
section
variable{X:Cx}
def W7(K:W.Frag)(tl:TA):TI:=λσ H R=>tl σ H λvs H1=> ∃a xs,vs= [.ref a]/\aQ K H1 a xs/\R (wo xs.length (λi=> [.int i,xs.getD i .aN]) λH=>aQ K H a xs) H1
def a1G{l:Expr}{tl:TA}{kt:Nat}{pt pos:Pos}(hg:Gl X "enumerate")(hm:X.mg "enumerate"=none)(hl:PA X [l] tl)(hs:starEach [l] X.env= [(false,eval l X.env)]:=by rfl):PI X (.Tuple elts kt pt) (.Call (.Name "enumerate" p) [l] [] pos) (W7 X.K tl):=by
 intro aB s σ H R I h;refine Call_ (sW I hg hm boot_enumerate (zN (aW (hl pos aB s σ H _ I h) λus s1 ⟨vs,H1,I1,r1,q1⟩=> ?_) hs rfl));obtain⟨a,xs,rfl,hq,q⟩:=q1;obtain⟨u,rfl,ru⟩:=jA r1;cases ru;obtain⟨aF,rv,ht,hz⟩:=I1.list hq;have oW:s1.heap.IsList a aF.toArray:=Oo ht;refine call_enumerate_list oW λh' he hi hsz kp=> ?_;have I2:aG X aB σ H1 {s1 with heap:=h'}:=I1.kept (t':=s1.toks) kp;(have alt:a<s1.heap.objs.size:=(by obtain⟨o,e,_⟩:=oW;exact bL e));refine wpAny_pyIter_enum he ?_;exists s1.heap.objs.size+1,[s1.heap.objs.size+1,s1.heap.objs.size],λi h=>(∃old,IsEnum h (s1.heap.objs.size+1) s1.heap.objs.size i old)/\h.IsListIter s1.heap.objs.size a i,_,H1,rfl,I2,?_,⟨⟨_,he⟩,hi⟩,λb hb=> ?_,q
 ·refine CO (Am:=(s1.heap.objs.size+1):: [s1.heap.objs.size,a]) (wr:= [s1.heap.objs.size+1,s1.heap.objs.size]) (δ:=Array Value) (Ok:=λbc=>bg xs bc.toList) (Src:=λbc h=>h.IsList a bc) (Pt:=λbc i il=> ∃t x,bc[i]? =some x/\il= #[.int i t,x]) (Mid:=λbc i T h=>(∃x,IsEnumOut h (s1.heap.objs.size+1) s1.heap.objs.size ((i:Int)+1) x T)/\(h.IsListIter s1.heap.objs.size a (i+1)/\h.IsList a bc)/\T≠s1.heap.objs.size+1/\T≠s1.heap.objs.size) (λA bc hA hok=> ?_) (λY aB σ H s hK J hG=> ?_) (λbc i us hok hp=> ?_) (λi=>by show 2<=sizeLine;decide) (by simp) (λi h h' st k=> ?_) (λi h st b hb=> ?_) (λA i s Q E st hq=> ?_) λb hb=>hb
  ·(have hn:bc.size=xs.length:=by have:=hok.length;simp at this;exact this.symm);have D:=Draws.list (prog:=X.prog) (w:=X.w) (A:=A.in1) (show A.in1.handled=none from hA) s1.heap.objs.size a (cp alt) bc;have WT:=WalksT.enumerateD D (s1.heap.objs.size+1) (Nat.succ_ne_self _) (λhm=>by rcases List.mem_cons.mp hm with z|z;exact Nat.succ_ne_self _ z;(have z':s1.heap.objs.size+1=a:=by simpa using z);exact absurd alt (by rw[<-z'];exact Nat.not_lt.mpr (hW _))) (by simp);rw[hn]at WT;exact⟨WT.sub,λi h h' st k=>by
     obtain⟨⟨x1,x2⟩,x3⟩:=st
     obtain⟨y1,y2,y3⟩:=WT.frame i h h' ⟨x1,x2,x3⟩ k
     exact⟨⟨y1,y2⟩,y3⟩,
    λi s Q E hi st hQ=>WT.item i s Q E hi ⟨st.1.1,st.1.2,st.2⟩ hQ,λe k pos i T s Q E m hQ=>WT.go e k pos i T s Q E m λh' st' kk=>hQ h' ⟨⟨st'.1,st'.2.1⟩,st'.2.2⟩ kk,WT.apart,
    λs Q E st hQ=>WT.done s Q E ⟨st.1.1,st.1.2,st.2⟩ hQ,λi s Q E st hQ=>WT.self i s Q E ⟨st.1.1,st.1.2,st.2⟩ hQ⟩
  rw[<-hK]at hG;obtain⟨its',lD,oW,_⟩:=J.list hG;exists its'.toArray,by simpa using lD,Oo oW;obtain⟨t,x,e,rfl⟩:=hp;(have e':bc.toList[i]? =some x:=by simpa using e);have hi:i<bc.toList.length:=(List.getElem?_eq_some_iff.mp e').1;have hl:=hok.length;(have hx:xs[i]? =some (xs.getD i .aN):=(by(have:i<xs.length:=by lia);simp[this]));obtain⟨u,e2,ru⟩:=hok.get hx;rw[e']at e2;cases e2;exact .cons ⟨t,rfl⟩ (.cons ru .nil);obtain⟨⟨old,x1⟩,x2⟩:=st;exists⟨old,k _ (by simp) _ x1⟩,x2.at λo e=>k _ (by simp) o e;obtain⟨⟨old,x1⟩,o2,x2,_,d2⟩:=st;rcases List.mem_cons.mp hb with rfl|hb;exact⟨_,x1,λv z=>by cases z⟩;(obtain rfl:b=s1.heap.objs.size:=by simpa using hb);exact⟨o2,x2,λv z=>by rw[d2]at z;cases z⟩;obtain⟨⟨old,x1⟩,_⟩:=st;exact wpAny_pyIter_enum x1 hq
 (have nA:s1.heap.objs.size<=b:=(by rcases List.mem_cons.mp hb with rfl|hb;lia;(obtain rfl:b=s1.heap.objs.size:=by simpa using hb);lia));exact I1.kW nA (I1.hok.fresh nA)
end
end L2
namespace L2
open PySem PySem.Spec PyProof.Rows K2 MeetsSeq
def OO(l:ae)(bc:au aa)(n:Nat)(x:aa)(j:Nat)(hj:j<bc.size)(hs:bc.size<=sizeLine): ∀ (k i:Nat),j-i=k->i<=j->Meets (Builtin.«list.remove.loop» ⟨[.ref l,x,rawInt i],[]⟩) (λA R s=>s.heap.get? l=some {cls:= .type "list",dict:=none,data:= .seq bc n,slots:= #[]}/\(∀m (hm:m<bc.size),m<=j->SeqAt.EqAt A.in1 s bc[m] x (decide (m=j)))/\R (.ok (.ret .none)) {s with heap:=s.heap.update l (Obj.mapSeq λxs=>xs.eraseIdxIfInBounds j)})
 |0,i,hk,hi=>by intro prog w A R s h;obtain⟨hp,g,d,tk,os⟩:=s;obtain⟨hl,he,h⟩:=h;(obtain rfl:i=j:=by lia);wp_walk using wpAny_loadPart' hl;(have at_:bc[((i:Nat):Int).toNat]? =some bc[i]:=by simp[hj]);rw[at_];refine aH (he i hj (aV _) prog w _ _ ?_);rw[jN rfl];have z2:(bc.eraseIdxIfInBounds i).size<=sizeLine+1:=dS (by unfold Array.eraseIdxIfInBounds;split<;>simp) (Nat.le_succ_of_le hs);wp_walk using(wpAny_updateSeq hl rfl (hz:=hs) (_hz':=z2)),wpAny_loadPart' hl;simpa using h
 |k+1,i,hk,hi=>by intro prog w A R s h;obtain⟨hp,g,d,tk,os⟩:=s;obtain⟨hl,he,h⟩:=h;(have hlt:i<bc.size:=by lia);wp_walk using wpAny_loadPart' hl;(have at_:bc[((i:Nat):Int).toNat]? =some bc[i]:=by simp[hlt]);rw[at_];refine aH (he i hlt (by lia) prog w _ _ ?_);rw[gv (by lia)];wp_walk;(have up:((i:Int)+1)=((i+1:Nat):Int):=by lia);rw[up];exists plainId_quiet plain_remove_loop _,wP entry_remove_loop ?_;rw[zg plain_remove_loop _];exact OO l bc n x j hj hs k (i+1) (by lia) (by lia) prog w A R _ ⟨hl,he,h⟩
def a2N(l:ae)(bc:au aa)(n:Nat)(x:aa)(j:Nat)(hj:j<bc.size)(hs:bc.size<=sizeLine):Meets (Builtin.«list.remove» ⟨[.ref l,x],[]⟩) (λA R s=>s.heap.get? l=some {cls:= .type "list",dict:=none,data:= .seq bc n,slots:= #[]}/\(∀m (hm:m<bc.size),m<=j->SeqAt.EqAt A.in1 s bc[m] x (decide (m=j)))/\R (.ok (.ret .none)) {s with heap:=s.heap.update l (Obj.mapSeq λxs=>xs.eraseIdxIfInBounds j)}):=by intro prog w A R s h;obtain⟨hp,g,d,tk,os⟩:=s;obtain⟨hl,he,h⟩:=h;wp_walk using wpAny_loadPart' hl;exists plainId_quiet plain_remove_loop _,wP entry_remove_loop ?_;rw[zg plain_remove_loop _];exact OO l bc n x j hj hs j 0 (by lia) (fQ _) prog w A R _ ⟨hl,he,h⟩
section
variable{X:Cx}
inductive a2q(un:Nat)(x:V)(vs:List V)(H:Hp)(Q:VK):Prop
 |mk (l:Addr) (ps:List PV) (xs:List V) (y:V) (q:PV) (j:Nat) (_:x= .ref l) (_:vs= [y]) (_:H l=some (.aK xs)) (_:aE H ps xs) (_:aJ H q y) (_:ps[j]? =some q) (_:(∀m,m<j->ps[m]? ≠some q)) (_:un+1+cq ps+dp q<cLine) (_:Q .aN (upd H l (.aK (xs.eraseIdx j))))
def Ku: ∀ {ps:aq PV} {p:PV} {i:Nat},ps[i]? =some p->dp p<=cq ps
 | [],_,_,e=>by simp at e
 |q::ps,p,0,e=>by simp at e;subst e;simp only[cq];lia
 |q::ps,p,i+1,e=>by have:=Ku (ps:=ps) (p:=p) (i:=i) (by simpa using e);simp only[cq];lia
def Zf:wD X "list.remove" (a2q X.A.units):=by intro aB s σ H x vs v us Q I rx rv h;obtain⟨l,ps,xs,y,q,j,rfl,rfl,hH,rs,rq,hj,EX,hA,k⟩:=h;cases rx;obtain⟨u,rfl,ru⟩:=rv.dY;obtain⟨z,aF,n,r,hl,e⟩:=I.sZ hH;have lp:=rs.len;(have qm:j<aF.toArray.size:=(by have:=(List.getElem?_eq_some_iff.mp hj).1;rw[cE];lia));refine call_meets PySem.F.slot_list_remove ⟨_,e,rfl⟩ PySem.F.entry_list_remove (PySem.F.args_list_remove_2 _ _) (a2N l aF.toArray n u j qm (by rw[cE,<-hl];exact z)) ⟨e,λm hm hmj=> ?_,?_⟩;(have gC:m<aF.length:=by simpa using hm);(have AD:m<ps.length:=by lia);obtain⟨y',W3,Mx⟩:=GW rs (br AD);obtain⟨w,i6,oY⟩:=r.get W3;(have ew:aF.toArray[m]=w:=(by have:aF[m]? =some aF[m]:=br gC;rw[this]at i6;cases i6;rfl));rw[ew];have dl:=Ku (br AD);have g:=D3 I ps[m] q y' y w u X.A.in1 (by rw[oZ];lia) Mx rq oY ru;(have eb:gw ps[m] q=decide (m=j):=(by rw[Ah];by_cases L3:m=j;subst L3;(have:ps[m]=q:=by rw[br AD]at hj;exact gp hj);rw[jN this,jN rfl];have: ¬ps[m]=q:=λz=>EX m (by lia) (by rw[br AD,z]);rw[gv this,gv L3]));rw[eb]at g;exact g;exists .aN,_,I.vj (its':=aF.eraseIdx j) hH e ?_ (r.eraseIdx j) ?_,rfl,k;show aF.toArray.eraseIdxIfInBounds j=(aF.eraseIdx j).toArray;rw[List.eraseIdxIfInBounds_toArray];have:=M9 xs j;lia
def RA(hc:X.gu=true):gS X (.builtin "any") (λxs H Q=> ∃ (a:ae) (bs:aq Bool),xs= [.ref a]/\aQ X.K H a (bs.map V.bl)/\Q (.bl (bs.any id)) H):=by intro aB s σ H xs us Q I r h;obtain⟨a,bs,rfl,hq,q⟩:=h;obtain⟨u,rfl,ru⟩:=jA r;cases ru;obtain⟨aF,rv,pl,hz⟩:=I.list hq;refine call_any_walkS (wpAny_pyIter_list pl.isList ?_);(have hlt:a<s.heap.objs.size:=(by obtain⟨o,n,e,_⟩:=pl;exact bL e));have cf:=rv.length;(have Fn: ∀i v,aF.toArray[i]? =some v->v=Value.bool (bs.getD i true):=λi v e=>(by(have e':aF[i]? =some v:=by simpa using e);have hi:i<aF.length:=(List.getElem?_eq_some_iff.mp e').1;(have hb:(bs.map V.bl)[i]? =some (.bl (bs.getD i true)):=(by rw[bq]at cf;(have mf:i<bs.length:=by lia);simp[mf]));obtain⟨w',e2,rw'⟩:=rv.get hb;rw[e']at e2;cases e2;exact rw'));exists s.heap.objs.size,_,_,_,_,_,_,λi=>bs.getD i true,rfl,(Walks.list (A:=X.A.in1) (show X.A.in1.handled=none from I.ok.hd hc) s.heap.objs.size a (cp hlt) aF.toArray).toS,?_,?_,?_;exists⟨_,cS _ rfl,rfl,rfl⟩,pl.isList.push _;intro i v s' Q' E' hv eV;rw[Fn i v hv];exact mR eV;intro s' mv;obtain⟨hh,g,d,tk,os⟩:=s';have h1:g=s.gens:=mv.gens;have h2:d=s.drawn:=mv.drawn;have h3:os=s.os:=mv.os;subst h1 h2 h3;have I1:aG X aB σ H {s with heap:=s.heap.push {cls:= .type "list_iterator",data:= .fields #[.ref a,.int 0 0]}}:=I.kept (t':=s.toks) λb o e=>bS _ e;(have I2:aG X aB σ H ⟨hh,s.gens,s.drawn,tk,s.os⟩:=(by obtain⟨f0,f1,f2,f3,f4,f5⟩:=I.kW (b:=s.heap.objs.size) (aV _) I.fresh;have:=I1.j7 (it:=s.heap.objs.size) (h':=hh) (t':=tk) (λb o hb e=>mv.heap b o (by simpa using hb) e) f0 f1 f3 f4 f5;exact this));exists .bl _,H,I2,rfl,?_;(have e:(List.range aF.toArray.size).any (λi=>bs.getD i true)=bs.any id:=(by rw[cE,<-cf,bq];rw[pP,List.any_eq_true,List.any_eq_true];constructor;rintro⟨i,hi,h⟩;have ce:=List.mem_range.mp hi;exact⟨bs[i],kP ce,by simpa [ce]using h⟩;rintro⟨b,hb,h⟩;obtain⟨i,hi,e⟩:=gT hb;exact⟨i,List.mem_range.mpr hi,by simpa [hi,e]using h⟩));rw[e];exact q
end
end L2
namespace L2
open PySem PySem.Spec PyProof.Rows K2
section
variable{X:Cx}{aB:aq (ae×Obj)}{σ:St}{H:Hp}{s:ac}{a:ae}{A:ao}{E:aa->ac->Prop}{y v:V}{u r:aa}
def Kl{Q:Unit->ac->Prop}(hu:A.units+1<cLine)(I:aG X aB σ H s)(g:gl H a y v H')(ry:bm y u)(rv:bm v r)(h: ∀s',aG X aB σ H' s'->Q () s'):wpAny (model X.prog X.w) A (dictSet a u r) Q E s:=by(rcases g with⟨kvs,k,e,ey,l,eH⟩|⟨kvs,k,b,e,ey,eb,l,eH⟩);subst ey eH;obtain⟨z,hd,vs,rel,dd⟩:=DR I.hok e;(have hz:vs.length<=sizeLine:=by rw[<-rel.length];exact z);(have hl:(dI kvs k v).length<=sizeLine:=by have:=sX kvs k v;lia);refine wpAny_dictSet_pairs (hsz:=hz) (qB ry) dd λh' kU hs=>h _ ?_;(have he: ∃q,h'.get? a=some q:=let⟨q,_,_,hq,_⟩:=kU;⟨q,hq⟩);exact wS I (by rw[e];exact True.intro) hs he (DQ hl hd (rel.put k rv) kU);subst ey eH;cases(show u=Value.ref b from ry);obtain⟨z,hd,xs,rel,dd⟩:=Kx I.hok e;(have hz:xs.length<=sizeLine:=by rw[<-Paired.length rel];exact z);(have hl:(dI kvs k v).length<=sizeLine:=by have:=sX kvs k v;lia);refine wpAny_dictSet_heap (hsz:=hz) (show A.units<cLine by lia) (sT I.hok eb) dd λh' kU hs=>h _ ?_;obtain⟨q,es,ep,hq,h2,h3,h4,_,h5⟩:=kU;refine wS I (by rw[e];exact True.intro) hs ⟨q,hq⟩ ⟨hl,hd,_,(rel.put k eb rv).keeps λc ys ec=> ?_,q,es,ep,hq,h2,h3,h4,h5⟩;rw[aP (xX ec e (by intro z;cases z))];exact ec
end
section
variable{prog:af}{w:ag}{A:ao}{R:Result->ac->Prop}{s:ac}
def SO{iter:Expr}{scope:Scope}(Iv:Nat->ac->Prop)(Ex:aa->ac->Prop)(fR: ∀e s',Ex e s'->notedBy (model prog w) A env (λe s'=>R (.error e) s') e s')(turn: ∀n s,Iv n s->wpAny (model prog w) A (pyNext it) (λr s1=>match r with
   |none=>R (.ok .next) s1
   |some v=>wpAny (model prog w) A (letOwnedTupleGo target it v) (λ_ s2=>wpAny (model prog w) A (assign target env v) (λ_ s3=>wpAny (model prog w) A (CH ifs env) (λok s4=>
     if ok=true then wpAny (model prog w) A (eval kx env) (λx s5=>wpAny (model prog w) A (eval vx env) (λy s6=>wpAny (model prog w) A (dictSet D x y) (λ_ s7=> ∃m,m<n/\Iv m s7) Ex s6) Ex s5) Ex s4
     else ∃m,m<n/\Iv m s4) Ex s3) Ex s2) Ex s1) Ex s)(n:Nat)(h:Iv n s):
  codeAny (model prog w) A (.compLoop (.DictComp kx vx [⟨target,iter,ifs,0⟩] scope pos) 0 it (.ref D) env) R s:=by
 refine codeAny_loop rfl Iv (λn s hI=> ?_) n h
 show wpAny (model prog w) A ((compTurn (.DictComp kx vx [⟨target,iter,ifs,0⟩] scope pos) 0 it (.ref D) env).onRaise (λx=>do noteFrame x env;theTreesLotGoes x)) _ _ s
 refine wpAny_noted ?_
 rw[compTurn_dict]
 refine aH (nZ (aH (dJ (turn n s hI) (λr s1 h1=> ?_) fR)))
 cases r with
 |none=>exact aX h1
 |some v=>
  refine aH (dJ h1 (λ_ s2 h2=>aH (dJ h2 (λ_ s3 h3=>aH (dJ h3 (λok s4 h4=> ?_) fR)) fR)) fR)
  cases ok with
  |false=>exact aX ⟨rfl,h4⟩
  |true=>
   refine aH (aH (dJ h4 (λx s5 h5=>aH (iP (dJ h5 (λy s6 h6=> ?_) fR))) fR))
   exact aH (nZ (iP (dJ h6 (λ_ s7 h7=>aX ⟨rfl,h7⟩) fR)))
end
section
variable{X:Cx}{T:aq aA}{scope:Scope}{aB:aq (ae×Obj)}{σ:St}{H:Hp}{s:ac}{C:ae}{fp:aq ae}{E:aa->ac->Prop}
def Kf(I:aG X aB σ H s)(hf: ∀b∈fp,gL X aB H b)(hC:s.heap.objs.size<=C)(J:aG (dF X T scope C s H fp (X.pn++aB) E) pl σ' H' s')(ie:Heap.SameBut C s'.heap h'):aG X aB σ H' {s' with heap:=h'}:=by have nF: ∀b o,b≠C->s'.heap.get? b=some o->h'.get? b=some o:=λb o hb e=>ie.extBut b o hb e;have tf: ∀b o,s.heap.get? b=some o->b≠C:=λb o e=>cp (fK (bL e) hC);have Eg:H' C=none:=J.free;have u:=J.base;(have E2:dh X.prog X.w H' h':=λa o e=>(by(have nC: ∀b o,H' b=some o->b≠C:=λb o e z=>by rw[z,Eg]at e;cases e);refine(J.hok a o e).stay (λb v hb q=>nF b v ?_ q) (λ_ q=>q) λ_ _ q=>q;rcases hb with rfl|hb;exact nC _ _ e;exact nC _ _ hb));refine I.JV (ch:=fp) (s':= {s' with heap:=h'}) J.os ⟨λb o e n hb hx=>nF b o (tf b o e) (u.keep b o e n hb hx),λb o e n hb hx=> ?_,λb o e n hx=>u.free b o e n hx,λb o e hx=> ?_,λb xs e=>u.bA b xs e,λb o v e=>u.jl b o v e,λb ps e=>u.kI b ps e⟩ E2 J.fC λb hb=> ?_;obtain⟨sl,q⟩:=u.slot b o e n hb hx;exists sl,nF b _ (tf b o e) q;obtain⟨o',q⟩:=u.there b o e hx;exists o',nF b o' (tf b o e) q;obtain⟨_,f1,_,f3,f4,f5⟩:=hf b hb;exists f3,f1,f4,f5
end
def Jt(u:HO):Prop:=u= .dK []\/u= .dT []
def a37(k:Nat)(wi:TI)(g:TG)(tt:TT)(tk tv:TE):TE:=λσ H Q=>wi σ H λJ H1=> ∃u,Jt u/\ ∀D,H1 D=none-> ∃W:Nat->Nat->Hp->Prop,(∃m,W 0 m (upd H1 D u))/\ ∀i m H,W i m H->
 (J.stop i H/\Q (.ref D) H)\/(J.go i H/\ ∀x H',J.hV i H x H'->g x (List.replicate k none++σ) H' λσ2 H2=>tt σ2 H2 λb H3=>
  if b=true then tk σ2 H3 λy H4=>tv σ2 H4 λz H5=> ∃H6,gl H5 D y z H6/\(∀b,H5 b=none->b≠D)/\ ∃m',m'<m/\W (i+1) m' H6 else ∃m',m'<m/\W (i+1) m' H3)
section
variable{X:Cx}{T:aq aA}{scope:Scope}{kx vx iter tg:Expr}{ifs:aq Expr}{pos:Pos}{wi:TI}{g:TG}{tt:TT}{tk tv:TE}
def SD{aB:aq (ae×Obj)}{σ:St}{tn:Nat->ak->Prop}{Ex:aa->ac->Prop}{R:Result->ac->Prop}{W:Nat->Nat->Hp->Prop}{m0:Nat}{Qe:Hp->Prop}(hu:X.A.units+1<cLine)(hc:X.gu=true)(hg:PG (dF X T scope C s H fp (X.pn++aB) Ex) tg g)(oM:rf T.length g)(ht:oq (dF X T scope C s H fp (X.pn++aB) Ex) ifs tt)(hk:PE (dF X T scope C s H fp (X.pn++aB) Ex) kx tk)(hv:PE (dF X T scope C s H fp (X.pn++aB) Ex) vx tv)(Tn:lR X.prog X.w X.K tg J fp it tn)(hf: ∀b∈fp,gL X aB H b)(I1:aG (dF X T scope C s H fp (X.pn++aB) Ex) [] (List.replicate T.length none++σ) H s1)(yO:tn 0 s1.heap)(fR: ∀e s',Ex e s'->notedBy (model X.prog X.w) X.A (compEnvC scope (fD X.env.cells scope.names []) C X.env) (λe s'=>R (.error e) s') e s')(w0:W 0 m0 H)(turn: ∀i m H,W i m H->(J.stop i H/\Qe H)\/(J.go i H/\ ∀x H',J.hV i H x H'->g x (List.replicate T.length none++σ) H' λσ2 H2=>tt σ2 H2 λb H3=>if b=true then tk σ2 H3 λy H4=>tv σ2 H4 λz H5=> ∃H6,gl H5 D y z H6/\(∀b,H5 b=none->b≠D)/\ ∃m',m'<m/\W (i+1) m' H6 else ∃m',m'<m/\W (i+1) m' H3))(hR: ∀s2 σ2 H2,aG (dF X T scope C s H fp (X.pn++aB) Ex) [] σ2 H2 s2->Qe H2->R (.ok .next) s2):codeAny (model X.prog X.w) X.A (.compLoop (.DictComp kx vx [⟨tg,iter,ifs,0⟩] scope pos) 0 (.ref it) (.ref D) (compEnvC scope (fD X.env.cells scope.names []) C X.env)) R s1:=by
 have jk: ∀ (H':Hp),(∀b∈fp,H' b=none)-> ∀b∈fp,gL (dF X T scope C s H fp (X.pn++aB) Ex) [] H' b:=λH' hn b hb=>
  ⟨hn b hb,(I1.ok.qf b hb).1,I1.ok.sk b hb,.inl hb,(I1.ok.qf b hb).2,λp hp=>by
   rcases List.mem_append.mp hp with z|z
   ·exact(hf b hb).2.2.2.2.2 p z
   ·cases z⟩
 refine SO (λm s'=> ∃i H',aG (dF X T scope C s H fp (X.pn++aB) Ex) [] (List.replicate T.length none++σ) H' s'/\tn i s'.heap/\(∀b∈fp,H' b=none)/\W i m H') Ex fR ?_ m0 ⟨0,H,I1,yO,λb hb=>(hf b hb).1,w0⟩;rintro m s3 ⟨i,H3,I3,mM,ic,w3⟩;(rcases turn i m H3 w3 with⟨stop,qe⟩|⟨go,step⟩);refine aW (Tn.done (dF X T scope C s H fp (X.pn++aB) Ex) rfl rfl rfl hc i _ s3 _ H3 Ex I3 (jk H3 ic) mM stop) λr s4 ⟨hr,I4⟩=> ?_;subst hr;exact hR s4 _ H3 I4 qe
 ·refine aW (Tn.item (dF X T scope C s H fp (X.pn++aB) Ex) rfl rfl rfl hc i _ s3 _ H3 Ex I3 (jk H3 ic) mM go) λr s4 ⟨u,hr,h4⟩=> ?_;subst hr;refine aW h4 λ_ s5 ⟨x,H5,I5,r5,y5,iB,nq⟩=> ?_;have rj:=I5.pinned (jk H5 nq) (Tn.obj _ _ iB);refine aW (hg _ s5 _ H5 x u _ rj r5 (oM x σ H5 _ (step x H5 y5))) λ_ s6 ⟨mS,H6,I6,bW,Fg,q6⟩=> ?_;refine aW (ht _ s6 mS H6 _ I6 q6) λok s7 ⟨H7,I7,q7⟩=> ?_;have qc: ∀ {H8:Hp} {s8:Shared},aG (dF X T scope C s H fp (X.pn++aB) Ex) ([]++tJ fp s5.heap) mS H8 s8->
    aG (dF X T scope C s H fp (X.pn++aB) Ex) [] (List.replicate T.length none++σ) H8 s8/\tn (i+1) s8.heap/\(∀b∈fp,H8 b=none):=λ{H8 s8} I8=>by
   refine⟨(I8.qN (vA:= []) λp hp=>(by
    have:=I8.dz p (dE _ (by simpa using hp))
    exact this)).weak ?_ λj v e=> ?_,Tn.keep _ _ _ iB λb hb o e=>(I8.dz (b,o) (db _ (db _ (nI hb e)))).1,λb hb=> ?_⟩
   ·rw[bW,gn,ke]
   ·by_cases hj:j<T.length
    ·rw[ww (by rw[ke];exact hj),Dd,aT hj]at e
     cases e
    ·rw[ut (by rw[ke];lia),ke]at e
     rw[Fg j (by lia)]
     exact e
   ·obtain⟨o,e,d⟩:=Tn.obj _ _ iB b hb
    exact(I8.dz (b,o) (db _ (db _ (nI hb e)))).2.1
  (cases ok with|false=>simp only[fS,fN]at q7⊢;obtain⟨m',hm,w7⟩:=q7;obtain⟨J8,j5,lX⟩:=qc I7;exact⟨m',hm,i+1,H7,J8,j5,lX,w7⟩|true=>simp only[gc]at q7⊢;refine aW (hk _ s7 mS H7 _ I7 q7) λuk s8 ⟨y,H8,I8,ry,q8⟩=> ?_;refine aW (hv _ s8 mS H8 _ I8 q8) λuv s9 ⟨z,H9,I9,rz,kN,dp,dn,m',hm,w9⟩=> ?_;refine Kl (X:=dF X T scope C s H fp (X.pn++aB) Ex) hu I9 dp ry rz λhU C7=> ?_;obtain⟨J8,j5,lX⟩:=qc C7;exists m',hm,i+1,kN,J8,j5,lX,w9)
def a1x(hu:X.A.units+1<cLine)(S:rL X T scope)(hc:X.gu=true)(hi:PI X tg iter wi)(hg: ∀Y,im X T scope (λ_ _=>False) Y->PG Y tg g)(oM:rf T.length g)(ht: ∀Y,im X T scope (λ_ _=>False) Y->oq Y ifs tt)(hk: ∀Y,im X T scope (λ_ _=>False) Y->PE Y kx tk)(hv: ∀Y,im X T scope (λ_ _=>False) Y->PE Y vx tv)(hs: ∀x,foldedSetIterable iter X.env x=pure x:=by intro _;rfl):PE X (.DictComp kx vx [⟨tg,iter,ifs,0⟩] scope pos) (a37 T.length wi g tt tk tv):=by
 intro aB s σ H Q I h;rw[arm_eval_DictComp];refine IV (use:=none) (cl:=fD X.env.cells scope.names []) rfl hs (Aa λn hn=>I.ok.has n (S.cap n hn)) S.kind S.eI ?_;refine aW (hi aB s σ H _ I h) λv s1 h1=>aW h1 λvg s2 h2=> ?_;obtain⟨it,fp,tn,J,H2,e,I2,Tn,ik,f2,u,nu,q2⟩:=h2;subst e;(have fW: ∀b∈fp,b<s2.heap.objs.size:=λb hb=>(by obtain⟨o,ho,_⟩:=Tn.obj _ _ ik b hb;exact bL ho));have Eb:=I2.hok.fresh (aV s2.heap.objs.size);obtain⟨W,⟨m0,w0⟩,turn⟩:=q2 s2.heap.objs.size Eb;refine jd (IW S.vp (by intro y hy;cases hy) (λh4 fe ie=> ?_) S.kind);dsimp only at fe ie⊢;(have I3:aG X aB σ (upd H2 s2.heap.objs.size u) {s2 with heap:=s2.heap.push {cls:= .type "dict",data:= .dict #[]}}:=(by rcases nu with rfl|rfl;exact I2.laid (a:=s2.heap.objs.size) (o:= .dK []) (t':=s2.toks) (λ_ _ q=>bS _ q) (aV _) (DP s2.heap I2.big);exact I2.laid (a:=s2.heap.objs.size) (o:= .dT []) (t':=s2.toks) (λ_ _ q=>bS _ q) (aV _) (DT s2.heap I2.big)));generalize kr:s2.heap.push {cls:= .type "dict",data:= .dict #[]}=H3 at fe ie I3⊢;(have hC:H3.objs.size=s2.heap.objs.size+1:=by rw[<-kr,jF]);have my: ∀b o,H3.get? b=some o->h4.get? b=some o:=λb o e=>ie.extBut b o (cp (bL e)) (bS _ e);have old: ∀b o,s2.heap.get? b=some o->h4.get? b=some o:=λb o e=>my b o (by rw[<-kr];exact bS _ e);(have f3: ∀b∈fp,gL X aB (upd H2 s2.heap.objs.size u) b:=λb hb=>(by obtain⟨g1,g2⟩:=f2 b hb;exists by rw[aP (cp (fW b hb))];exact g1,g2));have loop: ∀s4:Shared,s4= {s2 with heap:=h4,toks:=s2.toks+([]:List (Str×Value)).length}->
   codeAny (model X.prog X.w) X.A (.compLoop (.DictComp kx vx [⟨tg,iter,ifs,0⟩] scope pos) 0 (.ref it) (.ref s2.heap.objs.size) (compEnvC scope (fD X.env.cells scope.names []) H3.objs.size X.env))
    (compPost (model X.prog X.w) X.A X.xe none (EP X aB σ Q) (.ref s2.heap.objs.size) H3.objs.size) s4:=by
  rintro s4 rfl
  have I4:aG (dF X T scope H3.objs.size {s2 with heap:=H3} (upd H2 s2.heap.objs.size u) fp (X.pn++aB) λ_ _=>False) [] (List.replicate T.length none++σ) (upd H2 s2.heap.objs.size u) {s2 with heap:=h4,toks:=s2.toks+([]:List (Str×Value)).length}:=
   Ab S I3 f3 (λb hb=>fK (fW b hb) (by show s2.heap.objs.size<=H3.objs.size;rw[hC];exact hW _)) my (aV _) fe rfl rfl
  refine SD (Qe:=λH=>Q (.ref s2.heap.objs.size) H) hu hc (hg _ (.mk ..)) oM (ht _ (.mk ..)) (hk _ (.mk ..)) (hv _ (.mk ..)) Tn f3 I4 ?_ (λe s' z=>z.elim) w0 turn λs5 Q3 H5 I5 q=> ?_
  ·exact Tn.keep _ _ _ ik λb hb o e=>old b o e
  ·obtain⟨mm,jU,_⟩:=I5.eI
   exists mm,jU,λh' sN=>⟨.ref s2.heap.objs.size,_,Kf I3 f3 (aV _) I5 sN,rfl,q⟩
 refine codeAny_compStart_dict (loop _ rfl) (Tn.self _ 0 _ _ _ ?_ (loop _ rfl));exact Tn.keep _ _ _ ik λb hb o e=>old b o e
end
def a4S(kx vx t1 i1 t2 i2:Expr)(ifs:aq Expr)(scope:Scope)(pos:Pos)(it:aa)(D:ae)(env:Env):
  compTurn (.DictComp kx vx [⟨t1,i1,[],0⟩,⟨t2,i2,ifs,0⟩] scope pos) 0 it (.ref D) env=(do
   standAt i1.pos
   match<-pyNext it with
   |none=>pure (.done .next)
   |some v=>
    letOwnedTupleGo t1 it v
    assign t1 env v
    let x<-eval i2 env
    standAt i2.pos
    let x<-foldedSetIterable i2 env x
    let _<-runOwn (.compStart (.DictComp kx vx [⟨t1,i1,[],0⟩,⟨t2,i2,ifs,0⟩] scope pos) 1 (<-holding [x] (pyIter x)) (.ref D) env) env
    again (.compLoop (.DictComp kx vx [⟨t1,i1,[],0⟩,⟨t2,i2,ifs,0⟩] scope pos) 0 it (.ref D) env)):=by rfl
def a4R(kx vx t1 i1 t2 i2:Expr)(ifs:aq Expr)(scope:Scope)(pos:Pos)(it:aa)(D:ae)(env:Env):
  compTurn (.DictComp kx vx [⟨t1,i1,[],0⟩,⟨t2,i2,ifs,0⟩] scope pos) 1 it (.ref D) env=(do
   standAt i2.pos
   match<-pyNext it with
   |none=>pure (.done .next)
   |some v=>
    letOwnedTupleGo t2 it v
    assign t2 env v
    let mut ok:=true
    for c in ifs do
     if ok then ok<-isTrue c env (eval c env)
    if ok then
     (do
      let kv<-eval kx env
      let vv<-holding [kv] (eval vx env)
      standAt {kx.pos with endLine:=vx.pos.endLine,endCol:=vx.pos.endCol}
      holding [kv,vv] (dictSet D kv vv))
    again (.compLoop (.DictComp kx vx [⟨t1,i1,[],0⟩,⟨t2,i2,ifs,0⟩] scope pos) 1 it (.ref D) env)):=by rfl
section
variable{prog:af}{w:ag}{A:ao}{R:Result->ac->Prop}{s:ac}{kx vx t1 i1 t2 i2:Expr}{ifs:aq Expr}{scope:Scope}{pos:Pos}{D:ae}{env:Env}
def Xh(Iv:Nat->ac->Prop)(Ex:aa->ac->Prop)(fR: ∀e s',Ex e s'->notedBy (model prog w) A env (λe s'=>R (.error e) s') e s')(turn: ∀n s,Iv n s->wpAny (model prog w) A (pyNext it) (λr s1=>match r with
   |none=>R (.ok .next) s1
   |some v=>wpAny (model prog w) A (letOwnedTupleGo t2 it v) (λ_ s2=>wpAny (model prog w) A (assign t2 env v) (λ_ s3=>wpAny (model prog w) A (CH ifs env) (λok s4=>
     if ok=true then wpAny (model prog w) A (eval kx env) (λx s5=>wpAny (model prog w) A (eval vx env) (λy s6=>wpAny (model prog w) A (dictSet D x y) (λ_ s7=> ∃m,m<n/\Iv m s7) Ex s6) Ex s5) Ex s4
     else ∃m,m<n/\Iv m s4) Ex s3) Ex s2) Ex s1) Ex s)(n:Nat)(h:Iv n s):
  codeAny (model prog w) A (.compLoop (.DictComp kx vx [⟨t1,i1,[],0⟩,⟨t2,i2,ifs,0⟩] scope pos) 1 it (.ref D) env) R s:=by
 refine codeAny_loop rfl Iv (λn s hI=> ?_) n h
 show wpAny (model prog w) A ((compTurn (.DictComp kx vx [⟨t1,i1,[],0⟩,⟨t2,i2,ifs,0⟩] scope pos) 1 it (.ref D) env).onRaise (λx=>do noteFrame x env;theTreesLotGoes x)) _ _ s
 refine wpAny_noted ?_
 rw[a4R]
 refine aH (nZ (aH (dJ (turn n s hI) (λr s1 h1=> ?_) fR)))
 cases r with
 |none=>exact aX h1
 |some v=>
  refine aH (dJ h1 (λ_ s2 h2=>aH (dJ h2 (λ_ s3 h3=>aH (dJ h3 (λok s4 h4=> ?_) fR)) fR)) fR)
  cases ok with
  |false=>exact aX ⟨rfl,h4⟩
  |true=>
   refine aH (aH (dJ h4 (λx s5 h5=>aH (iP (dJ h5 (λy s6 h6=> ?_) fR))) fR))
   exact aH (nZ (iP (dJ h6 (λ_ s7 h7=>aX ⟨rfl,h7⟩) fR)))
def Xj(h0:codeAny (model prog w) A (.compLoop (.DictComp kx vx [⟨t1,i1,[],0⟩,⟨t2,i2,ifs,0⟩] scope pos) 1 it acc env) R s)(h:wpAny (model prog w) A (pyIter it) (λit' s'=>codeAny (model prog w) A (.compLoop (.DictComp kx vx [⟨t1,i1,[],0⟩,⟨t2,i2,ifs,0⟩] scope pos) 1 it' acc env) R s') (notedBy (model prog w) A env λx s'=>R (.error x) s') s):codeAny (model prog w) A (.compStart (.DictComp kx vx [⟨t1,i1,[],0⟩,⟨t2,i2,ifs,0⟩] scope pos) 1 it acc env) R s:=by refine codeAny_of_tree ?_;show wpAny _ A ((compStart (.DictComp kx vx [⟨t1,i1,[],0⟩,⟨t2,i2,ifs,0⟩] scope pos) 1 it acc env).onRaise (λx=>do noteFrame x env;standAt theWindowsPlace)) _ _ s;refine wpAny_notedAt ?_;unfold compStart;show wpAny _ A (ask>>=_) _ _ s;refine aH (za (wpAny_ite ?_));split;(first|exact aH (aX (aX (And.intro rfl h0)))|exact aX (And.intro rfl h0));refine aH (wpAny_rule ?_);show wpAny _ _ (standAt i2.pos>>=_) _ _ s;exact aH (nZ (aH (dJ h (λit' s' h'=>aX (And.intro rfl h')) λ_ _ x=>x)))
def a1h(Iv:Nat->ac->Prop)(hs: ∀x,foldedSetIterable i2 env x=pure x)(turn: ∀n s,Iv n s->wpAny (model prog w) A (pyNext it) (λr s1=>match r with
   |none=>R (.ok .next) s1
   |some v=>wpAny (model prog w) A (letOwnedTupleGo t1 it v) (λ_ s2=>wpAny (model prog w) A (assign t1 env v) (λ_ s3=>wpAny (model prog w) A (eval i2 env) (λx s4=>wpAny (model prog w) A (pyIter x) (λpb s5=>
     codeAny (model prog w) A (.compStart (.DictComp kx vx [⟨t1,i1,[],0⟩,⟨t2,i2,ifs,0⟩] scope pos) 1 pb (.ref D) env) (λr s6=>match r with| .ok _=> ∃m,m<n/\Iv m s6| .error _=>False) s5) (λ_ _=>False) s4) (λ_ _=>False) s3) (λ_ _=>False) s2) (λ_ _=>False) s1) (λ_ _=>False) s)(n:Nat)(h:Iv n s):
  codeAny (model prog w) A (.compLoop (.DictComp kx vx [⟨t1,i1,[],0⟩,⟨t2,i2,ifs,0⟩] scope pos) 0 it (.ref D) env) R s:=by
 refine codeAny_loop rfl Iv (λn s hI=> ?_) n h
 show wpAny (model prog w) A ((compTurn (.DictComp kx vx [⟨t1,i1,[],0⟩,⟨t2,i2,ifs,0⟩] scope pos) 0 it (.ref D) env).onRaise (λx=>do noteFrame x env;theTreesLotGoes x)) _ _ s
 refine wpAny_noted ?_
 rw[a4S]
 refine aH (nZ (aH (dJ (turn n s hI) (λr s1 h1=> ?_) λ_ _ z=>z.elim)))
 cases r with
 |none=>exact aX h1
 |some v=>
  refine aH (dJ h1 (λ_ s2 h2=>aH (dJ h2 (λ_ s3 h3=>aH (dJ h3 (λx s4 h4=> ?_) λ_ _ z=>z.elim)) λ_ _ z=>z.elim)) λ_ _ z=>z.elim)
  refine aH (nZ (aH (wpAny_of_eq (hs x) (aH (iP (dJ h4 (λpb s5 h5=> ?_) λ_ _ z=>z.elim))))))
  refine aH (wpAny_runOwn (rW h5 λr s6 h6=> ?_))
  cases r with
  |error e=>exact h6.elim
  |ok f=>exact aX ⟨rfl,h6⟩
end
def a38(CU CV:TI)(tt:TT)(tk tv:TE):TE:=λσ H Q=>CU σ H λJ1 H1=> ∃u,Jt u/\ ∀D,H1 D=none-> ∃W:Nat->Nat->Hp->Prop,(∃m,W 0 m (upd H1 D u))/\ ∀i m H,W i m H->
 (J1.stop i H/\Q (.ref D) H)\/(J1.go i H/\ ∀x H',J1.hV i H x H'->CV (some x::none::σ) H' λJ2 H3=> ∃U:Nat->Nat->Hp->Prop,(∃n,U 0 n H3)/\ ∀j n H,U j n H->
  (J2.stop j H/\ ∃m',m'<m/\W (i+1) m' H)\/(J2.go j H/\ ∀y H',J2.hV j H y H'->tt (some x::some y::σ) H' λb H5=>
   if b=true then tk (some x::some y::σ) H5 λk H6=>tv (some x::some y::σ) H6 λz H7=> ∃H8,gl H7 D k z H8/\ ∃n',n'<n/\U (j+1) n' H8 else ∃n',n'<n/\U (j+1) n' H5))
section
variable{Y:Cx}{kx vx t1 i1 t2 i2:Expr}{ifs:aq Expr}{scope:Scope}{pos:Pos}{tt:TT}{tk tv:TE}
def Xi{σ:St}{x:V}{tn:Nat->ak->Prop}{R:Result->ac->Prop}{U:Nat->Nat->Hp->Prop}{n0:Nat}{Qe:Hp->Prop}(hu:Y.A.units+1<cLine)(hc:Y.gu=true)(hx:Y.xe=λ_ _=>False)(hg:PG Y t2 (jR 1))(ht:oq Y ifs tt)(hk:PE Y kx tk)(hv:PE Y vx tv)(Tn:lR Y.prog Y.w Y.K t2 J fp it tn)(hf: ∀b∈fp,gL Y pl H b)(I1:aG Y pl (some x::none::σ) H s)(yO:tn 0 s.heap)(w0:U 0 n0 H)(turn: ∀j n H,U j n H->(J.stop j H/\Qe H)\/(J.go j H/\ ∀y H',J.hV j H y H'->tt (some x::some y::σ) H' λb H5=>if b=true then tk (some x::some y::σ) H5 λk H6=>tv (some x::some y::σ) H6 λz H7=> ∃H8,gl H7 D k z H8/\ ∃n',n'<n/\U (j+1) n' H8 else ∃n',n'<n/\U (j+1) n' H5))(hR: ∀s2 H2,aG Y pl (some x::none::σ) H2 s2->Qe H2->R (.ok .next) s2):codeAny (model Y.prog Y.w) Y.A (.compLoop (.DictComp kx vx [⟨t1,i1,[],0⟩,⟨t2,i2,ifs,0⟩] scope pos) 1 (.ref it) (.ref D) Y.env) R s:=by(have jk: ∀ (H':Hp),(∀b∈fp,H' b=none)-> ∀b∈fp,gL Y pl H' b:=λH' hn b hb=>⟨hn b hb,(hf b hb).2⟩);refine Xh (λn s'=> ∃j H',aG Y pl (some x::none::σ) H' s'/\tn j s'.heap/\(∀b∈fp,H' b=none)/\U j n H') Y.xe (λe s' z=>by rw[hx]at z;exact z.elim) ?_ n0 ⟨0,H,I1,yO,λb hb=>(hf b hb).1,w0⟩;rintro n s3 ⟨j,H3,I3,mM,ic,w3⟩;(rcases turn j n H3 w3 with⟨stop,qe⟩|⟨go,step⟩);refine aW (Tn.done Y rfl rfl rfl hc j _ s3 _ H3 Y.xe I3 (jk H3 ic) mM stop) λr s4 ⟨hr,I4⟩=> ?_;subst hr;exact hR s4 H3 I4 qe;refine aW (Tn.item Y rfl rfl rfl hc j _ s3 _ H3 Y.xe I3 (jk H3 ic) mM go) λr s4 ⟨u,hr,h4⟩=> ?_;subst hr;refine aW h4 λ_ s5 ⟨y,H5,I5,r5,y5,iB,nq⟩=> ?_;have rj:=I5.pinned (jk H5 nq) (Tn.obj _ _ iB);refine aW (hg _ s5 _ H5 y u (λσ2 H2=>σ2=some x::some y::σ/\H2=H5) rj r5 ⟨rfl,rfl⟩) λ_ s6 ⟨mS,H6,I6,e6,S9⟩=> ?_;subst e6 S9;refine aW (ht _ s6 _ H6 _ I6 (step y H6 y5)) λok s7 ⟨H7,I7,q7⟩=> ?_;(have qc: ∀ {H8:Hp} {s8:ac},aG Y (pl++tJ fp s5.heap) (some x::some y::σ) H8 s8->aG Y pl (some x::none::σ) H8 s8/\tn (j+1) s8.heap/\(∀b∈fp,H8 b=none):=λ{H8 s8} I8=>(by exists(I8.qN (vA:=pl) λp hp=>I8.dz p (db _ (dE _ hp))).weak (by simp) λk v e=> ?_,Tn.keep _ _ _ iB λb hb o e=>(I8.dz (b,o) (db _ (db _ (nI hb e)))).1,λb hb=> ?_;(cases k with|zero=>simpa using e|succ k=>cases k with|zero=>simp at e|succ k=>simpa using e);obtain⟨o,e,d⟩:=Tn.obj _ _ iB b hb;exact(I8.dz (b,o) (db _ (db _ (nI hb e)))).2.1));cases ok with|false=>simp only[fS,fN]at q7⊢;obtain⟨m',hm,w7⟩:=q7;obtain⟨J8,j5,lX⟩:=qc I7;exact⟨m',hm,j+1,H7,J8,j5,lX,w7⟩|true=>simp only[gc]at q7⊢;refine aW (hk _ s7 _ H7 _ I7 q7) λuk s8 ⟨k,H8,I8,rk,q8⟩=> ?_;refine aW (hv _ s8 _ H8 _ I8 q8) λuv s9 ⟨z,H9,I9,rz,kN,dp,m',hm,w9⟩=> ?_;refine Kl hu I9 dp rk rz λhU C7=> ?_;obtain⟨J8,j5,lX⟩:=qc C7;exists m',hm,j+1,kN,J8,j5,lX,w9
end
section
variable{X:Cx}{n1 n2:aA}{scope:Scope}{kx vx t1 i1 t2 i2:Expr}{ifs:aq Expr}{pos:Pos}{CU CV:TI}{tt:TT}{tk tv:TE}
def a1y(hu:X.A.units+1<cLine)(S:rL X [n1,n2] scope)(hc:X.gu=true)(hi:PI X t1 i1 CU)(dQ: ∀Y,im X [n1,n2] scope (λ_ _=>False) Y->PG Y t1 (jR 0))(dG: ∀Y,im X [n1,n2] scope (λ_ _=>False) Y->PG Y t2 (jR 1))(mf: ∀Y,im X [n1,n2] scope (λ_ _=>False) Y->PI Y t2 i2 CV)(ht: ∀Y,im X [n1,n2] scope (λ_ _=>False) Y->oq Y ifs tt)(hk: ∀Y,im X [n1,n2] scope (λ_ _=>False) Y->PE Y kx tk)(hv: ∀Y,im X [n1,n2] scope (λ_ _=>False) Y->PE Y vx tv)(hs: ∀x,foldedSetIterable i1 X.env x=pure x:=by intro _;rfl)(hs2: ∀env x,foldedSetIterable i2 env x=pure x:=by intro _ _;rfl):PE X (.DictComp kx vx [⟨t1,i1,[],0⟩,⟨t2,i2,ifs,0⟩] scope pos) (a38 CU CV tt tk tv):=by
 intro aB s σ H Q I h;rw[arm_eval_DictComp];refine IV (use:=none) (cl:=fD X.env.cells scope.names []) rfl hs (Aa λn hn=>I.ok.has n (S.cap n hn)) S.kind S.eI ?_;refine aW (hi aB s σ H _ I h) λv s1 h1=>aW h1 λvg s2 h2=> ?_;obtain⟨it,fp,tn,J,H2,e,I2,Tn,ik,f2,u,nu,q2⟩:=h2;subst e;(have fW: ∀b∈fp,b<s2.heap.objs.size:=λb hb=>(by obtain⟨o,ho,_⟩:=Tn.obj _ _ ik b hb;exact bL ho));have Eb:=I2.hok.fresh (aV s2.heap.objs.size);obtain⟨W,⟨m0,w0⟩,turn⟩:=q2 s2.heap.objs.size Eb;refine jd (IW S.vp (by intro y hy;cases hy) (λh4 fe ie=> ?_) S.kind);dsimp only at fe ie⊢;(have I3:aG X aB σ (upd H2 s2.heap.objs.size u) {s2 with heap:=s2.heap.push {cls:= .type "dict",data:= .dict #[]}}:=(by rcases nu with rfl|rfl;exact I2.laid (a:=s2.heap.objs.size) (o:= .dK []) (t':=s2.toks) (λ_ _ q=>bS _ q) (aV _) (DP s2.heap I2.big);exact I2.laid (a:=s2.heap.objs.size) (o:= .dT []) (t':=s2.toks) (λ_ _ q=>bS _ q) (aV _) (DT s2.heap I2.big)));generalize kr:s2.heap.push {cls:= .type "dict",data:= .dict #[]}=H3 at fe ie I3⊢;(have hC:H3.objs.size=s2.heap.objs.size+1:=by rw[<-kr,jF]);have my: ∀b o,H3.get? b=some o->h4.get? b=some o:=λb o e=>ie.extBut b o (cp (bL e)) (bS _ e);have old: ∀b o,s2.heap.get? b=some o->h4.get? b=some o:=λb o e=>my b o (by rw[<-kr];exact bS _ e);(have f3: ∀b∈fp,gL X aB (upd H2 s2.heap.objs.size u) b:=λb hb=>(by obtain⟨g1,g2⟩:=f2 b hb;exists by rw[aP (cp (fW b hb))];exact g1,g2));have loop: ∀s4:Shared,s4= {s2 with heap:=h4,toks:=s2.toks+([]:List (Str×Value)).length}->
   codeAny (model X.prog X.w) X.A (.compLoop (.DictComp kx vx [⟨t1,i1,[],0⟩,⟨t2,i2,ifs,0⟩] scope pos) 0 (.ref it) (.ref s2.heap.objs.size) (compEnvC scope (fD X.env.cells scope.names []) H3.objs.size X.env))
    (compPost (model X.prog X.w) X.A X.xe none (EP X aB σ Q) (.ref s2.heap.objs.size) H3.objs.size) s4:=by
  rintro s4 rfl
  have I4:aG (dF X [n1,n2] scope H3.objs.size {s2 with heap:=H3} (upd H2 s2.heap.objs.size u) fp (X.pn++aB) λ_ _=>False) [] (none::none::σ) (upd H2 s2.heap.objs.size u) {s2 with heap:=h4,toks:=s2.toks+([]:List (Str×Value)).length}:=
   Ab S I3 f3 (λb hb=>fK (fW b hb) (by show s2.heap.objs.size<=H3.objs.size;rw[hC];exact hW _)) my (aV _) fe rfl rfl
  have cmp:im X [n1,n2] scope (λ_ _=>False) (dF X [n1,n2] scope H3.objs.size {s2 with heap:=H3} (upd H2 s2.heap.objs.size u) fp (X.pn++aB) λ_ _=>False):= .mk ..
  generalize hY:dF X [n1,n2] scope H3.objs.size {s2 with heap:=H3} (upd H2 s2.heap.objs.size u) fp (X.pn++aB) (λ_ _=>False)=Y at I4 cmp
  have eA:Y.A=X.A:=by rw[<-hY];rfl
  have eP:Y.prog=X.prog:=by rw[<-hY];rfl
  have eW:Y.w=X.w:=by rw[<-hY];rfl
  have eK:Y.K=X.K:=by rw[<-hY];rfl
  have eE:Y.env=compEnvC scope (fD X.env.cells scope.names []) H3.objs.size X.env:=by rw[<-hY];rfl
  have eC:Y.gu=true:=by rw[<-hY];exact hc
  have eX:Y.xe=λ_ _=>False:=by rw[<-hY];rfl
  have Ts:Y.pn=X.pn++aB:=by rw[<-hY];rfl
  have S5:Y.ex=fp:=by rw[<-hY];rfl
  have jk: ∀ (H':Hp),(∀b∈fp,H' b=none)-> ∀b∈fp,gL Y [] H' b:=λH' hn b hb=>by
   have hb':b∈Y.ex:=by rw[S5];exact hb
   exact⟨hn b hb,(I4.ok.qf b hb').1,I4.ok.sk b hb',.inl hb',(I4.ok.qf b hb').2,λp hp=>by
    rw[Ts]at hp
    rcases List.mem_append.mp hp with z|z
    ·exact(f3 b hb).2.2.2.2.2 p z
    ·cases z⟩
  have lp:=a1h (prog:=Y.prog) (w:=Y.w) (A:=Y.A) (kx:=kx) (vx:=vx) (t1:=t1) (i1:=i1) (t2:=t2) (i2:=i2) (ifs:=ifs) (scope:=scope) (pos:=pos) (D:=s2.heap.objs.size) (env:=Y.env) (it:= .ref it) (s:= {s2 with heap:=h4,toks:=s2.toks+([]:List (Str×Value)).length})
   (R:=compPost (model X.prog X.w) X.A X.xe none (EP X aB σ Q) (.ref s2.heap.objs.size) H3.objs.size) (λm s'=> ∃i H',aG Y [] (none::none::σ) H' s'/\tn i s'.heap/\(∀b∈fp,H' b=none)/\W i m H') (hs2 _) ?_ m0 ⟨0,_,I4,Tn.keep _ _ _ ik λb hb o e=>old b o e,λb hb=>(f3 b hb).1,w0⟩
  ·rw[eP,eW,eA,eE]at lp;exact lp
  rintro m s3 ⟨i,H5,I5,iB,nq,w5⟩
  have Dv:lR Y.prog Y.w Y.K t1 J fp it tn:=by rw[eP,eW,eK];exact Tn
  rcases turn i m H5 w5 with⟨stop,qe⟩|⟨go,step⟩
  ·refine aW (Dv.done Y rfl rfl rfl eC i _ s3 _ H5 _ I5 (jk H5 nq) iB stop) λr s4 ⟨hr,I6⟩=> ?_
   subst hr
   rw[<-hY]at I6
   obtain⟨mm,jU,_⟩:=I6.eI
   exists mm,jU,λh' sN=>⟨.ref s2.heap.objs.size,_,Kf I3 f3 (aV _) I6 sN,rfl,qe⟩
  ·refine aW (Dv.item Y rfl rfl rfl eC i _ s3 _ H5 _ I5 (jk H5 nq) iB go) λr s4 ⟨uu,hr,h5⟩=> ?_
   subst hr
   refine aW h5 λ_ s5 ⟨x,H6,I6,r6,y6,Iu,T7⟩=> ?_
   have Q7:=I6.pinned (jk H6 T7) (Dv.obj _ _ Iu)
   have a1:=dQ Y cmp _ s5 _ H6 x uu (λσ2 H2=>σ2=some x::none::σ/\H2=H6) Q7 r6 ⟨rfl,rfl⟩
   rw[eX]at a1
   refine aW a1 λ_ s6 ⟨lK,H7,I7,e7,Ta⟩=> ?_
   subst e7 Ta
   have a2:=mf Y cmp _ s6 _ H7 _ I7 (step x H7 y6)
   rw[eX]at a2
   refine aW a2 λxv s7 h7=>aW h7 λa5q s8 h8=> ?_
   obtain⟨pb,fp2,nV,J2,H8,e8,I8,Jy,j5,f8,U,⟨n0,u0⟩,a4Q⟩:=h8
   subst e8
   have Kt: ∀ {n':Nat} {s9:Shared},n'=n'->codeAny (model Y.prog Y.w) Y.A (.compLoop (.DictComp kx vx [⟨t1,i1,[],0⟩,⟨t2,i2,ifs,0⟩] scope pos) 1 (.ref pb) (.ref s2.heap.objs.size) Y.env)
     (λr s6=>match r with| .ok _=> ∃m',m'<m/\ ∃i H',aG Y [] (none::none::σ) H' s6/\tn i s6.heap/\(∀b∈fp,H' b=none)/\W i m' H'| .error _=>False) s8:=λ_=>by
    refine Xi (Qe:=λH=> ∃m',m'<m/\W (i+1) m' H) (by rw[eA];exact hu) eC eX (dG Y cmp) (ht Y cmp) (hk Y cmp) (hv Y cmp) Jy f8 I8 j5 u0 a4Q λs9 H9 I9 ⟨m',hm,w9⟩=> ?_
    exists m',hm,i+1,H9,(I9.qN (vA:= []) λp hp=>I9.dz p ?_).weak (by simp) λk v e=> ?_,Tn.keep _ _ _ Iu λb hb o e=>(I9.dz (b,o) (db _ (db _ (nI hb e)))).1,λb hb=> ?_,w9
    ·exact dE _ (by simpa using hp)
    ·cases k with
     |zero=>simp at e
     |succ k=>
      cases k with
      |zero=>simp at e
      |succ k=>simpa using e
    ·obtain⟨o,e,d⟩:=Tn.obj _ _ Iu b hb
     exact(I9.dz (b,o) (db _ (db _ (nI hb e)))).2.1
   exact Xj (Kt (n':=0) (s9:=s8) rfl) (Jy.self _ 0 _ _ _ j5 (Kt (n':=0) (s9:=s8) rfl))
 refine codeAny_compStart_dict (loop _ rfl) (Tn.self _ 0 _ _ _ ?_ (loop _ rfl));exact Tn.keep _ _ _ ik λb hb o e=>old b o e
end
end L2
namespace L2
open PySem PySem.Spec PyProof.Rows K2 PySem.W
section
variable{prog:af}{w:ag}
def a4H(vs:aq (aZ×aa))(ep:Nat)(r d:ae)(hn:vs.length<=sizeLine):MeetsIn prog w (Builtin.«tuple.__new__» ⟨[.type "tuple",.ref r],[]⟩) (λA R s=>A.handled=none/\s.heap.IsItemsView r d/\s.heap.DictAt (cX prog w) d vs ep/\ ∀ (h':ak) (tk:Nat) (as:aq ae),(∀b o,s.heap.get? b=some o->h'.get? b=some o)->as.length=vs.length->KdxG (cX prog w) vs s.heap.objs.size h' as->R (.ok (.ret (.ref h'.objs.size))) {s with heap:=h'.push {cls:= .type "tuple",data:= .seq (as.map Value.ref).toArray},toks:=tk}):=
 .of_wp λA R s h=>by obtain⟨hp,g,dr,tk,os⟩:=s;obtain⟨hh,hv,hm,h⟩:=h;have hsub:=sub_tuple_self;have a5g:=init_tuple_lookup;have hmh:=madeHere_tuple;obtain⟨ov,Mc,Vx,hdv⟩:=id hv;(have hT:Shared.TypeIs ⟨hp,g,dr,tk,os⟩ (.ref r) "dict_items":=⟨ov,Mc,Vx⟩);wp_walk using wpAny_loadPart' Mc,wpAny_typeOf hT,kdx_collect (knd:=cX prog w) (kvs:=vs) (ep:=ep) (A:=A.in1) (show A.in1.handled=none from hh) hv hm hn;intro h' tk' as kp hl G;show wpAny _ _ (Builtin.Tuple.tupleExact (as.map Value.ref).toArray>>=λv=>ret v) _ _ _;unfold Builtin.Tuple.tupleExact;exact aH (jd (aX ⟨_,rfl,h h' tk' as kp hl G⟩) (by show(as.map Value.ref).toArray.size<=sizeLine;rw[cE,bq,hl];exact hn))
end
section
variable{X:Cx}{aB:aq (ae×Obj)}{σ:St}{H:Hp}{s:ac}
def aG.a4J{a:ae}{o:HO}(I:aG X aB σ H s)(hf:gL X aB H a)(new:dO X.prog X.w (upd H a o) s.heap a o):aG X aB σ (upd H a o) s:=by obtain⟨hn,f1,f2,f3,f4,f5⟩:=hf;exists I.ok,I.os,I.fC,⟨I.base.keep,I.base.slot,λb ob h1 h2 h3=> ?_,I.base.there,λb xs q=> ?_,λb o' v q=> ?_,λb ps q=> ?_⟩,I.eI,I.cell,?_,λx c q=> ?_,λp hp=> ?_,λb u e=> ?_,I.len;have:=I.base.free b ob h1 h2 h3;by_cases hb:b=a;subst hb;rcases f3 with z|z;exact absurd z h3;exact absurd (bL h1) (Nat.not_lt.mpr z);rw[aP hb];exact this;have:=I.base.bA b xs q;rw[aP (fm this hn)];exact this;have:=I.base.jl b o' v q;rw[aP (fm this hn)];exact this;obtain⟨more,this⟩:=I.base.kI b ps q;exact⟨more,by rw[aP (fm this hn)];exact this⟩;rw[aP (jH f1)];exact I.free;rw[aP (f4 x c q)];exact I.ir x c q;obtain⟨h1,h2,h3⟩:=I.dz p hp;exists h1,by rw[aP (f5 p hp)];exact h2,h3;by_cases hb:b=a;subst hb;rw[aL]at e;cases e;exact new;rw[aP hb]at e;exact(I.hok b u e).stay (λ_ _ _ q=>q) (λc q=>by rw[aP (fm q hn)];exact q) λc xs q=>by rw[aP (fm q hn)];exact q
def aG.QB(lo:ae)(free: ∀H':Hp,∀a,lo<=a->H' a=none->gL X aB H' a): ∀ (as:aq ae) (il:aq (aq V)) (H:Hp),aG X aB σ H s->as.Pairwise (· < ·)->as.length=il.length->(∀a∈as,lo<=a/\H a=none)->(∀ (i:Nat) a xs,as[i]? =some a->il[i]? =some xs->xs.length<=sizeLine/\ ∃us:aq aa,bg xs us/\IsTup s.heap a us.toArray)-> ∃H',aG X aB σ H' s/\aY H H'/\(∀b,b∉as->H' b=H b)/\ ∀ (i:Nat) a xs,as[i]? =some a->il[i]? =some xs->H' a=some (.aC xs)
 | [],[],H,I,_,_,_,_=>⟨H,I,aY.refl _,λ_ _=>rfl,λi a xs e=>by simp at e⟩
 |a::as,xs::il,H,I,hp,hl,hn,ht=>by obtain⟨h1,h2⟩:=hn a (.head _);obtain⟨z,us,rv,tp⟩:=ht 0 a xs rfl rfl;have I2:=I.a4J (o:= .aC xs) (free H a h1 h2) ⟨z,us,rv,tp⟩;obtain⟨p1,p2⟩:=List.pairwise_cons.mp hp;obtain⟨H',J,sm,Gq,at_⟩:=aG.QB lo free as il (upd H a (.aC xs)) I2 p2 (by simpa using hl) (λb hb=>⟨(hn b (.tail _ hb)).1,by rw[aP (uC (p1 b hb))];exact(hn b (.tail _ hb)).2⟩) λi b ys e1 e2=>ht (i+1) b ys (by simpa using e1) (by simpa using e2);have na:a∉as:=λhm=>kh _ (p1 a hm);exists H',J,(aM h2 _).trans sm,λb hb=> ?_,λi b ys e1 e2=> ?_;have cw:b≠a:=λz=>hb (by rw[z];exact .head _);rw[Gq b (λz=>hb (.tail _ z)),aP cw];cases i with|zero=>simp at e1 e2;subst e1 e2;rw[Gq _ na,aL]|succ i=>exact at_ i b ys (by simpa using e1) (by simpa using e2)
 | [],_::_,_,_,_,h,_,_=>by simp at h
 |_::_,[],_,_,_,h,_,_=>by simp at h
end
section
variable{X:Cx}
def a4z(to:TE):TE:=λσ H Q=>to σ H λx H1=> ∃a kvs,x= .ref a/\Rd H1 a (.dK kvs)/\ ∀vw,H1 vw=none->Q (.ref vw) (upd H1 vw (.ext λh=>h.IsItemsView vw a))
def a1D{to:TE}{dP cL:Pos}(hl:PE X l to)(hbase:attributeBase l "items" X.env (eval l X.env)=eval l X.env:=by rfl)(hline:(dP.endLine==cL.line)=true:=by rfl):PE X (.Call (.Attribute l "items" dP) [] [] cL) (a4z to):=by intro aB s σ H Q I h;refine wpAny_Call_method0_late hbase hline (aW (hl aB s σ H _ I h) λv s1 ⟨x,H1,I1,r1,q1⟩=> ?_);obtain⟨a,kvs,rfl,ha,q⟩:=q1;cases r1;obtain⟨hz,hS,vs,rv,hD⟩:=ha.ok I1.hok;have Eh:=hD;obtain⟨o,es,ep,e0,c0,d0,k0,p0,n0⟩:=Eh;exists "dict", "dict.items",zO,Dl,PySem.F.type_dict_items,hD.typeIs,λb z=> ?_,uh rfl (PySem.evalArgs_none ?_);cases z;exists o,e0,c0.2.1;refine uM Dl hD.typeIs PySem.F.entry_dict_items (PySem.F.args_dict_items_1 _) (meets_dict_items (cX X.prog X.w) a hS) ⟨⟨vs,hD⟩,?_⟩;(have hv:(s1.heap.push {cls:= .type "dict_items",data:= .fields #[.ref a]}).IsItemsView s1.heap.objs.size a:=⟨_,cS _ rfl,rfl,rfl⟩);exists .ref s1.heap.objs.size,_,I1.laid (a:=s1.heap.objs.size) (o:= .ext λh=>h.IsItemsView s1.heap.objs.size a) (t':=s1.toks) (λb u e=>bS _ e) (aV _) ⟨hv,⟨_,cS _ rfl⟩,λh1 h2 x k=> ?_⟩,rfl,q _ (I1.hok.fresh (aV _));obtain⟨ov,e,r⟩:=x;exists ov,k ov e,r
inductive a2y(xs:List V)(H:Hp)(Q:VK):Prop
 |mk (vw a:Addr) (kvs:List (aZ×V)) (_:xs= [.ref vw]) (_:H vw=some (.ext λh=>h.IsItemsView vw a)) (_:Rd H a (.dK kvs)) (_: ∀ (l:Addr) (H2:Hp) (bs:List Addr),aY H H2->H l=none->bs.length=kvs.length->(∀ (i:Nat) k v b,kvs[i]? =some (k,v)->bs[i]? =some b->H2 b=some (.aC [kV k,v]))->H2 l=some (.aC (bs.map V.ref))->Q (.ref l) H2)
def QS: ∀as:aq ae,bg (as.map V.ref) (as.map Value.ref)
 | []=> .nil
 |_::as=> .cons rfl (QS as)
def RJ(hc:X.gu=true):gS X (.type "tuple") a2y:=by intro aB s σ H xs us Q I r h;obtain⟨vw,a,kvs,rfl,hv,ha,q⟩:=h;obtain⟨u,rfl,ru⟩:=jA r;cases ru;obtain⟨hz,hS,vs,rv,o,es,ep,e0,c0,d0,k0,p0,n0⟩:=ha.ok I.hok;have ER:=A7 rv;(have hD:s.heap.DictAt (cX X.prog X.w) a vs ep:=⟨o,es,e0,c0,d0,k0,p0,n0⟩);refine callType_newIn PySem.F.called_tuple (by decide) (PySem.F.typeCall_tuple_1 _) (PySem.F.newCall_tuple_1 _) (λobj=>PySem.F.args_object_init_2 obj _) PySem.F.entry_tuple_new (a4H vs ep vw a (by lia)) ⟨I.ok.hd hc,(I.hok vw _ hv).1,hD,λh' tk as kp la G=>⟨⟨_,cS _ rfl,rfl⟩,?_⟩⟩;have I1:aG X aB σ H {s with heap:=h',toks:=tk}:=I.kept kp;have free: ∀H':Hp,∀b,s.heap.objs.size<=b->H' b=none->gL X aB H' b:=λH' b hb hn=>I.kW hb hn;(obtain⟨H2,J,sm,Gq,at_⟩:=aG.QB s.heap.objs.size free as (kvs.map λp=> [kV p.1,p.2]) H I1 G.rise (by rw[bq];lia) (λb hb=>⟨rH (G.above b hb),I.hok.fresh (rH (G.above b hb))⟩) λi b ys e1 e2=>(by obtain⟨key,k,x,g1,g2,g3⟩:=G.pairs i b e1;obtain⟨v,e3,e4⟩:=A6 rv g1;rw[cB,e3]at e2;cases e2;exists by show 2<=sizeLine;decide,[key,x],.cons (FM g2) (.cons e4 .nil),_,g3,rfl,_,rfl));have I3:=J.laid (a:=h'.objs.size) (o:= .aC (as.map V.ref)) (t':=tk) (h':=h'.push {cls:= .type "tuple",data:= .seq (as.map Value.ref).toArray}) (λb u e=>bS _ e) (aV _) ⟨by rw[bq];lia,as.map Value.ref,QS as,IsTup.new _ _⟩;have LI:H2 h'.objs.size=none:=J.hok.fresh (aV _);exists .ref h'.objs.size,_,I3,rfl,q _ _ as (sm.trans (aM LI _)) (I1.hok.fresh (aV _)) (by lia) (λi k v b e1 e2=> ?_) aL;have h2:=at_ i b [kV k,v] e2 (by rw[cB,e1];rfl);rw[aP (fm h2 LI)];exact h2
end
section
variable{prog:af}{w:ag}{A:ao}{E:aa->ac->Prop}{s:ac}
def a3X{x:aa}{Q:aa->ac->Prop}(h:wpAny (model prog w) A.in1 (collect x) (λvs s1=> ∃ss,StrsAre vs ss/\vs.length<64/\ ∀ (h':ak) (D:ae) (out:au aa) (ss':aq aA) (c:Nat),(∀b o,s1.heap.get? b=some o->h'.get? b=some o)->s1.heap.objs.size<=D->h'.get? D=some (seqObj "list" out c)->StrsAre out.toList ss'->ss'.Perm ss->sortedS ss'=true->Q (.ref D) {s1 with heap:=h'}) E s):wpAny (model prog w) A (call (.builtin "sorted") [x]) Q E s:=by refine Calls.call_function_entry kind_sorted plain_sorted entry_sorted (args_sorted1 _) ?_;unfold Builtin.«sorted»;refine aH (m:=checkCount "sorted" 1 1 _) (aX (aH (dJ h (λvs s1 hq=> ?_) λ_ _ z=>z)));obtain⟨ss,hS,h64,k⟩:=hq;refine aH (wpAny_newList ?_ (by rw[jb];lia));have o1:=cS s1.heap (o:=seqObj "list" vs.toArray 0) rfl;show wpAny _ _ _ _ _ {s1 with heap:=s1.heap.push (seqObj "list" vs.toArray 0)};refine aH (iP (jB slot_list_sort ⟨_,o1,rfl⟩ entry_list_sort (list_sort_treeK strKind_oneLt o1 hS.keysOf (λv1 v2 rest e=>keyKind_strs (by rw[<-e];exact hS)) h64 λst' hp hs=>⟨_,rfl,aX ⟨_,rfl,?_⟩⟩) (args_list_sort _)));obtain⟨ss',a1,a2,a3⟩:=sorted_out_str hS hp hs;obtain⟨c,e1⟩:=sortedHeap_at (out:=(arrOf st').map (·.2)) o1;refine k _ _ _ ss' c (λb o e=> ?_) (aV _) e1 a1 a2 a3;rw[sortedHeap_old (cp (bL e)) (by rw[size_push'];exact uB (bL e))];exact bS _ e
end
def QR: ∀ {xs:aq V} {us:aq aa},xs.length=us.length->(∀ (i:Nat) x u,xs[i]? =some x->us[i]? =some u->bm x u)->bg xs us
 | [],[],_,_=> .nil
 |x::xs,u::us,h,k=> .cons (k 0 x u rfl rfl) (QR (by simpa using h) λi y v e1 e2=>k (i+1) y v (by simpa using e1) (by simpa using e2))
 | [],_::_,h,_=>by simp at h
 |_::_,[],h,_=>by simp at h
def Qh: ∀ {us:aq aa} {ss:aq aA},StrsAre us ss->bg (ss.map V.str) us
 |_,_,.nil=> .nil
 |_,_,.cons y t r=> .cons ⟨t,rfl⟩ (Qh r)
def Qg: ∀ {us:aq aa} {ss:aq aA},bg (ss.map V.str) us->StrsAre us ss
 |_,[],r=>by cases r;exact .nil
 |_,s::ss,r=>by cases r with|cons r1 r2=>obtain⟨t,rfl⟩:=r1;exact .cons s t (Qg r2)
section
variable{X:Cx}
inductive a2x(xs:List V)(H:Hp)(Q:VK):Prop
 |mk (a:Addr) (kvs:List (Str×V)) (_:xs= [.ref a]) (_:Rd H a (.dK (kvs.map λp=>((Sum.inr p.1:aZ),p.2)))) (_:kvs.length<64) (_: ∀ (l:Addr) (ks:List Str),H l=none->ks.Perm (kvs.map (·.1))->sortedS ks=true->Q (.ref l) (upd H l (.aK (ks.map V.str))))
def RI(hc:X.gu=true):gS X (.builtin "sorted") a2x:=by intro aB s σ H xs us Q I r h;obtain⟨a,kvs,rfl,ha,h64,q⟩:=h;obtain⟨u,rfl,ru⟩:=jA r;cases ru;obtain⟨hz,hS,vs,rv,o,es,ep,e0,c0,d0,k0,p0,n0⟩:=ha.ok I.hok;have ER:=A7 rv;rw[bq]at ER hz;(have hD:s.heap.DictAt (cX X.prog X.w) a vs ep:=⟨o,es,e0,c0,d0,k0,p0,n0⟩);refine a3X (kdu_collect (kdl_dict (knd:=cX X.prog X.w) (kvs:=vs) (ep:=ep) hS) (show X.A.in1.handled=none from I.ok.hd hc) hD (by lia) λh' tk acc kp it=> ?_);(have sa:StrsAre acc.toList (kvs.map (·.1)):=(by refine Qg (QR ?_ λi x v e1 e2=> ?_);simp[it.1,ER];rw[kb]at e2;obtain⟨k,x',g1,g2⟩:=it.2 i v e2;obtain⟨v',g3,_⟩:=A6 rv g1;rw[cB]at g3;rw[cB,cB]at e1;cases g4:kvs[i]? with|none=>rw[g4]at e1;cases e1|some y=>rw[g4]at e1 g3;cases e1;simp only[Option.map_some,zK,jf]at g3;rw[<-g3.1]at g2;exact FM (k:=Sum.inr y.1) (v:=v) g2));exists _,sa,by rw[kd,it.1];lia,λh3 D out ks c xR Le eD so pm st=> ?_;have I1:aG X aB σ H {s with heap:=h',toks:=tk}:=I.kept kp;have pl:=pm.length_eq;rw[bq]at pl;exists .ref D,_,I1.laid (a:=D) (o:= .aK (ks.map V.str)) (t':=tk) xR Le ⟨?_,out.toList,c,Qh so,by simpa using eD⟩,rfl,q D ks (I1.hok.fresh Le) pm st;rw[bq,pl,jb];lia
end
end L2
namespace L2
open PySem PySem.Spec PyProof.Rows
section
variable{X:Cx}{T:aq aA}{scope:Scope}{elt iter tg:Expr}{ifs:aq Expr}{pos:Pos}{wi:TI}{g:TG}{tt:TT}{te:TE}
def tM{i:Nat}{y:aA}{P9:Pos}(S:rL X T scope)(hc:X.gu=true)(hN:X.N.Nodup)(hi:X.N[i]? =some y)(hy:X.env.scope.names.lookup y=some .local)(hit:PI X tg iter wi)(hg: ∀Y,im X T scope (λ_ _=>False) Y->PG Y tg g)(oM:rf T.length g)(ht: ∀Y,im X T scope (λ_ _=>False) Y->oq Y ifs tt)(he: ∀Y,im X T scope (λ_ _=>False) Y->PE Y elt te)(WG:swapsWith (.ListComp elt [⟨tg,iter,ifs,0⟩] scope pos) (some (.Name y py)) P9.line X.env=pure true:=by rfl)(hs: ∀x,foldedSetIterable iter X.env x=pure x:=by intro _;rfl):PS X (.Assign [.Name y py] (.ListComp elt [⟨tg,iter,ifs,0⟩] scope pos) P9) (yQ (IB T.length wi g tt te) (jR i)):=by
 intro aB s σ H D I h;rw[exec_Assign_Name_used _ _ _ _ WG];refine aH (nZ (aH ?_));show wpAny _ X.A (do let _<-comprehension (.ListComp elt [⟨tg,iter,ifs,0⟩] scope pos) scope X.env _ (newList []) false (eval iter X.env) (some (assign (.Name y py) X.env))) _ _ s;refine aH (dJ (IV (use:=some (assign (.Name y py) X.env)) (cl:=fD X.env.cells scope.names []) (Q:=λ_ s'=>SP X aB D .next s') rfl hs (Aa λn hn=>I.ok.has n (S.cap n hn)) S.kind S.eI ?_) (λ_ s' hq=>aX (aX hq)) λ_ _ e=>e);refine aW (hit aB s σ H _ I h) λv s1 h1=>aW h1 λvg s2 h2=> ?_;obtain⟨it,fp,tn,J,H2,e,I2,Tn,ik,f2,W,⟨m0,w0⟩,turn⟩:=h2;subst e;(have fW: ∀b∈fp,b<s2.heap.objs.size:=λb hb=>(by obtain⟨o,ho,_⟩:=Tn.obj _ _ ik b hb;exact bL ho));refine jd (IW S.vp (by intro y hy;cases hy) (λh4 fe ie=> ?_) S.kind);dsimp only at fe ie⊢;generalize kr:s2.heap.push {cls:= .type "list",dict:=none,data:= .seq ([]:List Value).toArray}=H3 at fe ie⊢;(have hC:H3.objs.size=s2.heap.objs.size+1:=by rw[<-kr,jF]);have my: ∀b o,H3.get? b=some o->h4.get? b=some o:=λb o e=>ie.extBut b o (cp (bL e)) (bS _ e);have old: ∀b o,s2.heap.get? b=some o->h4.get? b=some o:=λb o e=>my b o (by rw[<-kr];exact bS _ e);have qh:h4.get? s2.heap.objs.size=some {cls:= .type "list",data:= .seq ([]:List Value).toArray}:=my _ _ (by rw[<-kr];exact cS _ rfl);(have lY:s2.heap.objs.size≠H3.objs.size:=by lia);have loop: ∀s4:Shared,s4= {s2 with heap:=h4,toks:=s2.toks+([]:List (Str×Value)).length}->
   codeAny (model X.prog X.w) X.A (.compLoop (.ListComp elt [⟨tg,iter,ifs,0⟩] scope pos) 0 (.ref it) (.ref s2.heap.objs.size) (compEnvC scope (fD X.env.cells scope.names []) H3.objs.size X.env))
    (compPost (model X.prog X.w) X.A X.xe (some (assign (.Name y py) X.env)) (λ_ s'=>SP X aB D .next s') (.ref s2.heap.objs.size) H3.objs.size) s4:=by
  rintro s4 rfl
  have I4:aG (dF X T scope H3.objs.size s2 H2 fp (X.pn++aB) λ_ _=>False) [] (List.replicate T.length none++σ) H2 {s2 with heap:=h4,toks:=s2.toks+([]:List (Str×Value)).length}:=
   Ab S I2 f2 fW old (by lia) fe rfl rfl
  refine Kg (Qe:=λys H=> ∀p,H p=none->D.nx (σ.set i (some (.ref p))) (upd H p (.aK ys))) hc (hg _ (.mk ..)) oM (ht _ (.mk ..)) (he _ (.mk ..)) Tn f2 fW (by lia) (aV _) lY (λp hp=>bL (I2.dz p hp).1) (λb hb=> ?_) I2.fresh I4 ?_ qh (λ_ _ z=>z.elim) w0 turn ?_
  ·obtain⟨_,o,ho,_⟩:=I2.stack.mem hb
   exact bL ho
  ·exact Tn.keep _ _ _ ik λb hb o e=>old b o e
  ·intro s5 Q3 H5 ys us n I5 xg Ei hv hz q
   obtain⟨mm,jU,_⟩:=I5.eI
   have We:s5.heap.Ns H3.objs.size mm:=jU
   have I6:aG X aB σ (upd H5 s2.heap.objs.size (.aK ys)) {s5 with heap:=s5.heap}:=Ke I2 f2 (by lia) (aV _) lY I5 (Heap.SameBut.refl ..) xg Ei hv hz
   have Uz:H5 H3.objs.size=none:=I5.free
   show wpAny _ X.A (assign (.Name y py) X.env (.ref s2.heap.objs.size)) _ _ s5
   refine wpAny_assign_Name (Qf (v:= .ref s2.heap.objs.size) I6 hN hi (.inl hy) rfl (λs7 I7 ⟨b,WB,hb⟩=> ?_) (.inr hy))
   have Ld:H3.objs.size≠X.env.locals:=λz=>by have:=I2.lt;rw[<-z]at this;exact absurd (show H3.objs.size<s2.heap.objs.size from this) (by lia)
   have Lu: ∀x c,X.env.cells.lookup x=some c->c≠H3.objs.size:=λx c e z=>by
    obtain⟨v,o,ho,_⟩:=I2.cell x c e
    have:=bL ho
    rw[z]at this;exact absurd (show H3.objs.size<s2.heap.objs.size from this) (by lia)
   have Vk:H3.objs.size≠b:=by
    rcases hb with rfl|hb
    ·exact Ld
    ·exact λz=>Lu _ _ hb z.symm
   exists mm,We.sameBut WB Vk,λh' sN=>⟨_,_,?_,q _ xg⟩
   refine I7.j7 (it:=H3.objs.size) (t':=s7.toks) (λb o hb e=>sN.extBut b o hb e) ?_ Ld (.inr ?_) Lu λp hp=> ?_
   ·rw[aP (jH lY)];exact Uz
   ·have:=I2.sz;lia
   ·have:=bL (I2.dz p hp).1
    exact λz=>absurd (show H3.objs.size<s2.heap.objs.size from z▸this) (by lia)
 refine codeAny_compStart_list (loop _ rfl) (Tn.self _ 0 _ _ _ ?_ (loop _ rfl));exact Tn.keep _ _ _ ik λb hb o e=>old b o e
end
open K2
section
variable{X:Cx}{e o:Expr}{te to:TE}{x:aA}{j:Nat}{p dP cL:Pos}
def a1t(ho:PE X o to)(he:PE X e te)(hbase:attributeBase o "append" X.env (eval o X.env)=eval o X.env:=by rfl)(hline:(dP.endLine==cL.line)=true:=by rfl)(hs:starEach [e] X.env= [(false,eval e X.env)]:=by rfl):PE X (.Call (.Attribute o "append" dP) [e] [] cL) (Qu X.K "list" Oy to (v9 te fH)):=
 nL mY uE uF tq ho (aD he aO hs) (hbase:=hbase) (hline:=hline) (hs:=hs) (hfew:=by rw[hs];rfl)
end
section
variable{prog:af}{w:ag}{A:ao}{E:aa->ac->Prop}{s:ac}
def a4L{t sl:ae}{vl vu:aa}{lo:ap Int}{Q:aa->ac->Prop}(ht:IsTup s.heap t bc)(hs:s.heap.IsSliceOf sl vl vu .none)(pl:IsPart vl lo)(pu:IsPart vu hi)(h0:HT.bN bc.size 0 lo=0)(h1:HT.bN bc.size bc.size hi=bc.size)(h:Q (.ref t) s):wpAny (model prog w) A (getItem (.ref t) (.ref sl)) Q E s:=by
 obtain⟨os,oR,uV,jS⟩:=id hs;(have tyS:s.TypeIs (.ref sl) "slice":=⟨os,oR,uV⟩);unfold getItem;(try with_reducible refine iP ?_);(first|refine aH (aX ?_)|skip);refine aH (wpAny_sequenceKey ht.typeIs (by decide) (aH (pN (name:=Str.ofString "__getitem__") ht.typeIs Dj (jB Dj ht.typeIs entry_tuple_getitem ?_ (args_tuple_getitem _ _)))));show wpAny _ _ (Builtin.Tuple.tupleItemsOf (.ref t) >>=_) _ _ s;refine aH (tupleItemsOf_ ht (aH (wpAny_typeOf tyS ?_)));rw[aT (by decide)];refine aH (HT.Ps hs pl pu ?_);(have yes:(((HT.bN bc.size 0 lo:Nat):Int)==0&& (1:Int)==1&& (HT.bN bc.size bc.size hi-HT.bN bc.size 0 lo)==bc.size)=true:=by rw[h0,h1];simp);show wpAny _ _ (if(((HT.bN bc.size 0 lo:Nat):Int)==0&& (1:Int)==1&& (HT.bN bc.size bc.size hi-HT.bN bc.size 0 lo)==bc.size)=true then _ else _) _ _ s;rw[aT yes];unfold Builtin.Tuple.tupleIsExact;first
  |refine aH (aH (wpAny_typeOf ht.typeIs (aX ?_)))
  |refine aH (aH (aH (wpAny_typeOf ht.typeIs (aX ?_))))
 rw[aT (by decide)];exact aH (wpAny_rule (aX ⟨_,rfl,aX h⟩))
end
section
variable{X:Cx}
inductive OC(K:W.Frag)(x:V)(lo:Option Int)(hi:Option Int)(H:Hp)(Q:VK):Prop
 |mk (a xs:_) (_:x= .ref a) (_:aS K H a xs) (_:(∀b H',(b=a/\H'=H/\ia xs lo hi=xs)\/(H b=none/\H'=upd H b (.aC (ia xs lo hi)))->Q (.ref b) H'))
def a3N:wI X (OC X.K):=by intro aB s σ H x v vl vu lo hi sl Q I rx hs pl pu h;obtain⟨a,xs,rfl,hx,q⟩:=h;by_cases hw:HT.bN xs.length 0 lo=0/\HT.bN xs.length xs.length hi=xs.length;cases rx;obtain⟨aF,r,ht,hz⟩:=I.tuple hx;(have cf:aF.toArray.size=xs.length:=by rw[cE];exact r.length.symm);exists "tuple",_,PyProof.Rows.slot_tuple_getitem.lookup,ht.typeIs,a4L ht hs pl pu (by rw[cf];exact hw.1) (by rw[cf];exact hw.2) ⟨.ref a,H,I,rfl,q a H (.inl ⟨rfl,rfl,?_⟩)⟩;unfold ia;rw[hw.1,hw.2];simp;exact Pr aB s σ H (.ref a) v vl vu lo hi sl Q I rx hs pl pu ⟨a,xs,rfl,hx,hw,λp hp=>q p _ (.inr ⟨hp,rfl⟩)⟩
end
section
variable{X:Cx}(K:W.Frag)(hK:X.K=K)
include hK
def cM:wq X (OA K):=hK▸vh
def Co:wI X (OC K):=hK▸a3N
def RK:gS X (.type "tuple") (λxs H Q=> ∃p ys,xs= [.ref p]/\((aQ K H p ys/\ ∀l,H l=none->Q (.ref l) (upd H l (.aC ys)))\/(aS K H p ys/\Q (.ref p) H))):=hK▸oA
def a1K{tl:TE}(hl:PE X l tl):PI X tg l (MD K tl):=hK▸ye hl
end
def J0(scope:Scope)(N:List Str):Bool:=
 scope.kind== .function&&scope.names.all (λy=>y.2 != .cell&&y.2 != .free) &&scope.names.all (λx=>x.2 != .local||scope.names.lookup x.1==some .local) &&N.all λx=>scope.names.lookup x !=some .local
def qT{X:Cx}{T:aq aA}(N:aq aA)(e2:X.N=N)(h:J0 scope N=true):rL X T scope:=by unfold J0 at h;simp only[gR,wu,Bool.or_eq_true,bne_iff_ne,beq_iff_eq,ne_eq]at h;obtain⟨⟨⟨h1,h2⟩,h3⟩,h5⟩:=h;exists h1,λy hy=>(h2 y hy).1,λx hx q=> ?_,λn hn=>absurd rfl (h2 (n,.free) hn).2,λx hx=> ?_;rcases h3 x hx with z|z;exact absurd q z;exact z;rw[e2]at hx;exact h5 x hx
section
variable{X:Cx}{aB:aq (ae×Obj)}{σ:St}{H:Hp}{s:ac}
end
section
variable{X:Cx}
end
end L2
namespace K2
end K2
namespace L2
open PySem PySem.Spec PyProof.Rows K2
def Bh(X:Cx)(k:Nat):Cx:= {X with N:=X.N.take k}
def Yf{X:Cx}(ok:X.Ok)(k:Nat):(Bh X k).Ok:=by cases ok;constructor<;>assumption
def aG.less{X:Cx}{aB:aq (ae×Obj)}{σ:aq (ap V)}{H:Hp}{s:ac}(I:aG X aB σ H s)(k:Nat):aG (Bh X k) aB (σ.take k) H s:=by exists Yf I.ok k,I.os,I.fC,I.base,?_,I.cell,I.free,I.ir,I.dz,I.hok,?_;obtain⟨m,hm,h⟩:=I.eI;exists m,hm,λi x v e1 e2 hv=> ?_;have Ag:(X.N.take k)[i]? =some x:=e1;rw[List.getElem?_take]at Ag e2;split at Ag;rename_i hi;rw[aT hi]at e2;exact h i x v Ag e2 hv;cases Ag;show(σ.take k).length=(X.N.take k).length;rw[kf,kf,I.len]
def aG.unless{X:Cx}(ok:X.Ok){aB:aq (ae×Obj)}{σ:aq (ap V)}{H:Hp}{s:ac}{k:Nat}(hl:σ.length=X.N.length)(hn: ∀i,k<=i-> ∀v,σ[i]? ≠some (some v))(I:aG (Bh X k) aB (σ.take k) H s):aG X aB σ H s:=by exists ok,I.os,I.fC,I.base,?_,I.cell,I.free,I.ir,I.dz,I.hok,hl;obtain⟨m,hm,h⟩:=I.eI;exists m,hm,λi x v e1 e2 hv=> ?_;by_cases hi:i<k;refine h i x v ?_ ?_ hv;show(X.N.take k)[i]? =some x;rw[List.getElem?_take,aT hi];exact e1;rw[List.getElem?_take,aT hi];exact e2;exact absurd e2 (hn i (by lia) v)
def a4l(k:Nat)(t:TE):TE:=λσ H Q=>(∀i,k<=i-> ∀v,σ[i]? ≠some (some v))/\t (σ.take k) H Q
def a1z(k:Nat){t:TE}(h:PE (Bh X k) e t):PE X e (a4l k t):=by intro aB s σ H Q I q;obtain⟨hn,q⟩:=q;refine aW (h aB s (σ.take k) H Q (I.less k) q) λv s1 ⟨x,H1,I1,r1,q1⟩=> ?_;exists x,H1,I1.unless I.ok I.len hn,r1,q1
end L2
namespace L2
open PySem
def Bd(m i:Nat):Nat:=(i*5+1) % (m+1)
/---/def iter(m:Nat):Nat->Nat->Nat
 |0,i=>i
 |k+1,i=>iter m k (Bd m i)
def AY(m:Nat): ∀ (a b i:Nat),iter m (a+b) i=iter m b (iter m a i)
 |0,b,i=>by rw[Nat.zero_add];rfl
 |a+1,b,i=>by rw[show a+1+b=(a+b)+1 by lia];exact AY m a b (Bd m i)
/---/def ya(m:Nat):Nat->Nat->List Nat
 |0,_=> []
 |k+1,i=>i::ya m k (Bd m i)
def F9(m:Nat): ∀ (k i x:Nat),x∈ya m k i-> ∃a,a<k/\iter m a i=x
 |0,_,_,h=>by cases h
 |k+1,i,x,h=>by rcases List.mem_cons.mp h with e|h;exists 0,Nat.succ_pos k,e.symm;obtain⟨a,ha,e⟩:=F9 m k _ x h;exists a+1,by lia,e
def kZ(m:Nat):Prop:=m=7\/m=31\/m=127
def a1d{m:Nat}(h:kZ m):(∀x,x<=m->x∈ya m (m+1) 0)/\iter m (m+1) 0=0:=by
 have key: ∀n:Nat,((List.range (n+1)).all λx=>(ya n (n+1) 0).contains x)=true-> ∀x,x<=n->x∈ya n (n+1) 0:=λn hn x hx=>
  List.contains_iff_mem.mp (List.all_eq_true.mp hn x (List.mem_range.mpr (by lia)))
 rcases h with rfl|rfl|rfl;exact⟨key 7 (by decide+kernel),by decide+kernel⟩;exact⟨key 31 (by decide+kernel),by decide+kernel⟩;exact⟨key 127 (by decide+kernel),by decide+kernel⟩
def a2D{m:Nat}(h:kZ m){i e:Nat}(hi:i<=m)(he:e<=m): ∃s,s<=m/\iter m s i=e:=by obtain⟨h1,h2⟩:=a1d h;obtain⟨a,ha,ea⟩:=F9 m _ _ _ (h1 i hi);obtain⟨b,hb,eb⟩:=F9 m _ _ _ (h1 e he);by_cases c:a<=b;exists b-a,by lia,?_;rw[<-ea,<-AY,show a+(b-a)=b by lia];exact eb;exists m+1-a+b,by lia,?_;rw[<-ea,<-AY,show a+(m+1-a+b)=(m+1)+b by lia,AY,h2];exact eb
/---/def iL(m:Nat):Nat->Nat->Nat->Nat×Nat
 |0,i,q=>(i,q)
 |r+1,i,q=>iL m r (SetTable.leap m i q).1 (SetTable.leap m i q).2
def OV(m:Nat): ∀ (a b i q:Nat),iL m (a+b) i q=iL m b (iL m a i q).1 (iL m a i q).2
 |0,b,i,q=>by rw[Nat.zero_add];rfl
 |a+1,b,i,q=>by rw[show a+1+b=(a+b)+1 by lia];exact OV m a b _ _
def OX(m:Nat): ∀ (r i q:Nat),(iL m r i q).2=q/32^r
 |0,i,q=>by simp[iL]
 |r+1,i,q=>by rw[iL,OX m r];show q/32/32^r=_;rw[Nat.div_div_eq_div_mul,Nat.pow_succ,Nat.mul_comm]
def OW(m:Nat): ∀ (r i q:Nat),i<=m->(iL m r i q).1<=m
 |0,i,q,h=>h
 |r+1,i,q,h=>OW m r _ _ (by show(i*5+1+q/32) % (m+1)<=m;have:=Nat.mod_lt (i*5+1+q/32) (show m+1>0 by lia);lia)
def OY(m:Nat): ∀ (s i:Nat),iL m s i 0=(iter m s i,0)
 |0,i=>rfl
 |s+1,i=>by show iL m s ((i*5+1+0/32) % (m+1)) (0/32)=_;rw[show(0:Nat) /32=0 from rfl,uz];exact OY m s (Bd m i)
def OZ{m:Nat}(h:kZ m){i q e:Nat}(hi:i<=m)(hq:q<2^64)(he:e<=m): ∃r,r<=m+13/\(iL m r i q).1=e:=by(have hz:(iL m 13 i q).2=0:=(by rw[OX];exact Nat.div_eq_of_lt (Nat.lt_trans hq (by decide))));obtain⟨s,hs,es⟩:=a2D h (OW m 13 i q hi) he;exists 13+s,by lia,?_;rw[OV,hz,OY];exact es
def qX(m i q:Nat):SetTable.Probe:= {j:=i,more:=SetTable.runEnd m i-i,i:=i,perturb:=q,dummy:=none}
/---/def pI(t:SetTable):Nat->SetTable.Probe->SetTable.Probe
 |0,p=>p
 |k+1,p=>pI t k (t.advance p)
def Ix(t:av): ∀ (a b:Nat) (p:SetTable.Probe),pI t (a+b) p=pI t b (pI t a p)
 |0,b,p=>by rw[Nat.zero_add];rfl
 |a+1,b,p=>by rw[show a+1+b=(a+b)+1 by lia];exact Ix t a b _
def BR{m i:Nat}(h:i<=m):SetTable.runEnd m i<=m/\i<=SetTable.runEnd m i/\SetTable.runEnd m i<=i+9:=by unfold SetTable.runEnd;split<;>lia
def JB{t:av}{p:SetTable.Probe}(h:0<p.more):t.advance p= {p with j:=p.j+1,more:=p.more-1}:=by unfold SetTable.advance;rw[aT h]
def JA{t:av}{p:SetTable.Probe}(h:p.more=0)(hd:p.dummy=none):t.advance p=qX t.mask (SetTable.leap t.mask p.i p.perturb).1 (SetTable.leap t.mask p.i p.perturb).2:=by unfold SetTable.advance qX;rw[aU (by lia)];simp only[hd]
def Qb(t:av): ∀ (k:Nat) (p:SetTable.Probe),k<=p.more->pI t k p= {p with j:=p.j+k,more:=p.more-k}
 |0,p,_=>rfl
 |k+1,p,h=>by rw[pI,JB (by lia),Qb t k _ (by simp only;lia)];simp only[SetTable.Probe.mk.injEq,kj,true_and];lia
def a3Z(t:av){i q:Nat}(hi:i<=t.mask): ∃k,k<=10/\pI t k (qX t.mask i q)=qX t.mask (SetTable.leap t.mask i q).1 (SetTable.leap t.mask i q).2:=by obtain⟨h1,h2,h3⟩:=BR hi;exists(qX t.mask i q).more+1,by show SetTable.runEnd t.mask i-i+1<=10;lia,?_;rw[Ix,Qb t _ _ (aV _)];exact JA (by simp) rfl
def FQ(m i q:Nat):(SetTable.leap m i q).1<=m:=by show(i*5+1+q/32) % (m+1)<=m;have:=Nat.mod_lt (i*5+1+q/32) (show m+1>0 by lia);lia
def Qc(t:av): ∀ (r i q:Nat),i<=t.mask-> ∃k,k<=10*r/\pI t k (qX t.mask i q)=qX t.mask (iL t.mask r i q).1 (iL t.mask r i q).2
 |0,i,q,_=>⟨0,aV _,rfl⟩
 |r+1,i,q,hi=>by obtain⟨k1,h1,e1⟩:=a3Z t (q:=q) hi;obtain⟨k2,h2,e2⟩:=Qc t r _ _ (FQ t.mask i q);exact⟨k1+k2,by lia,by rw[Ix,e1,e2];rfl⟩
def zq(t:SetTable)(p:SetTable.Probe):Prop:=p.j+p.more<=t.mask/\p.dummy=none
def zq.Rh{t:av}{p:SetTable.Probe}(h:zq t p):zq t (t.advance p):=by by_cases c:0<p.more;rw[JB c];exists by have:=h.1;simp only;lia,h.2;rw[JA (by lia) h.2];have h1:=FQ t.mask p.i p.perturb;obtain⟨h2,h3,_⟩:=BR h1;exists by show(SetTable.leap t.mask p.i p.perturb).1+(SetTable.runEnd t.mask (SetTable.leap t.mask p.i p.perturb).1- (SetTable.leap t.mask p.i p.perturb).1)<=t.mask;lia,rfl
def Lb{t:av}{hashAt:Nat->Int}{h:Int}(hs: ∀j,t.slot j= .empty\/ ∃i,t.slot j= .live i/\(hashAt i==h)=false): ∀ (gb:Nat) (p:SetTable.Probe),zq t p->(∃k,k<gb/\t.slot (pI t k p).j= .empty)-> ∃j,j<=t.mask/\t.slot j= .empty/\SetTable.probe.go t hashAt h gb p=some (.empty j none)
 |0,p,_,⟨k,hk,_⟩=>absurd hk (rJ _)
 |gb+1,p,hi,⟨k,hk,e⟩=>by(rcases hs p.j with c|⟨i,c,d⟩);exists p.j,by have:=hi.1;lia,c,?_;rw[SetTable.probe.go,c];simp only[hi.2];cases k with|zero=>have e':t.slot p.j= .empty:=e;rw[c]at e';cases e'|succ k=>obtain⟨j,h1,h2,h3⟩:=Lb hs gb (t.advance p) hi.Rh ⟨k,by lia,e⟩;exists j,h1,h2,?_;rw[SetTable.probe.go,c];simp only[d];exact h3
def List.Nodup.Ye{l m:aq Nat}(hn:l.Nodup)(h: ∀x∈l,x∈m):l.length<=m.length:=by induction l generalizing m with|nil=>exact fQ _|cons x l ih=>obtain⟨h1,h2⟩:=List.nodup_cons.mp hn;have hx:=h x fk;have q:=ih (m:=m.erase x) h2 λy hy=>(List.mem_erase_of_ne (show y≠x from λe=>h1 (by rw[<-e];exact hy))).mpr (h y (fJ _ hy));rw[List.length_erase_of_mem hx]at q;have:=List.length_pos_of_mem hx;rw[cU];lia
def a3T{l:aq Nat}{m:Nat}(h:l.length<=m): ∃j,j<=m/\j∉l:=by apply C3;intro hn;have hall: ∀j,j<=m->j∈l:=λj hj=>C3 λhc=>hn ⟨j,hj,hc⟩;have:=List.Nodup.Ye (l:=List.range (m+1)) (m:=l) List.nodup_range λj hj=>hall j (by have:=List.mem_range.mp hj;lia);rw[oh]at this;lia
def Ib{t:av}(hd:t.dummies= #[])(j:Nat):(t.slot j= .empty/\t.place[SetTable.below t.place j]? ≠some j)\/ ∃i,t.slot j= .live i/\t.place[i]? =some j:=by unfold SetTable.slot;by_cases c:(t.place[SetTable.below t.place j]? ==some j)=true;refine .inr ⟨SetTable.below t.place j,?_,by simpa using c⟩;simp only[c,gc];refine .inl ⟨?_,by simpa using c⟩;simp only[c,fN,fS];rw[hd];rw[aU];unfold SetTable.has;simp
def a3Q{t:av}(hd:t.dummies= #[]){j:Nat}(hj:j∉t.place.toList):t.slot j= .empty:=by(rcases Ib hd j with⟨h,_⟩|⟨i,_,h⟩);exact h;exact absurd (by rw[Array.mem_toList_iff];exact Array.mem_of_getElem? h) hj
def JR(h:Int):SetTable.bits h<2^64:=by unfold SetTable.bits;have h1:0<=h% (2^64:Int):=rA _ (by decide);have h2:h% (2^64:Int)<2^64:=rn _ (by decide);lia
def a1W{t:av}(hm:kZ t.mask)(hd:t.dummies= #[])(hf:t.place.size<=t.mask){hashAt:Nat->Int}{h:Int}(hne: ∀i,i<t.place.size->(hashAt i==h)=false): ∃j,j<=t.mask/\t.slot j= .empty/\t.probe hashAt h (t.probeStart h)=some (.empty j none):=by(have hi:SetTable.bits h% (t.mask+1)<=t.mask:=(by have:=Nat.mod_lt (SetTable.bits h) (show t.mask+1>0 by lia);lia));have es:t.probeStart h=qX t.mask (SetTable.bits h% (t.mask+1)) (SetTable.bits h):=rfl;(have hs: ∀j,t.slot j= .empty\/ ∃i,t.slot j= .live i/\(hashAt i==h)=false:=λj=>(by(rcases Ib hd j with⟨h,_⟩|⟨i,h,e⟩);exact .inl h;exact .inr ⟨i,h,hne i (Array.getElem?_eq_some_iff.mp e).1⟩));obtain⟨e,he,Wf⟩:=a3T (l:=t.place.toList) (m:=t.mask) (by simpa using hf);obtain⟨r,hr,er⟩:=OZ hm hi (JR h) he;obtain⟨k,hk,ek⟩:=Qc t r _ (SetTable.bits h) hi;obtain⟨h2,h3,_⟩:=BR hi;refine Lb hs _ _ ?_ ⟨k,?_,?_⟩;rw[es];exists by show SetTable.bits h% (t.mask+1)+(SetTable.runEnd t.mask (SetTable.bits h% (t.mask+1))-SetTable.bits h% (t.mask+1))<=t.mask;lia,rfl;show k<10*(t.mask+15);lia;rw[es,ek];show t.slot (iL t.mask r _ _).1= .empty;rw[er];exact a3Q hd Wf
def MG{α:Type}(xs:au α)(p:Nat)(x:α):(SetTable.insertAt xs p x).toList=xs.toList.take p++x::xs.toList.drop p:=by unfold SetTable.insertAt;simp only[Array.toList_append,Array.toList_push,Array.toList_extract,List.extract_eq_take_drop];simp[wB]
def MJ{α:Type}(xs:au α)(p:Nat)(x:α):(SetTable.insertAt xs p x).toList.Perm (x::xs.toList):=by rw[MG];refine List.perm_middle.trans ?_;rw[Dg]
def MK{α:Type}(xs:au α)(p:Nat)(x:α):(SetTable.insertAt xs p x).size=xs.size+1:=by have:=(MJ xs p x).length_eq;simpa using this
def ot(xs:Array Nat):Prop:=xs.toList.Pairwise (· < ·)
def DE{xs:au Nat}(hr:ot xs){j:Nat}: ∀ (gb lo hi:Nat),hi<=xs.size->lo<=hi->hi-lo<=gb->(∀i,i<lo-> ∀x,xs[i]? =some x->x<j)->(∀i,hi<=i-> ∀x,xs[i]? =some x->j<=x)->(∀i,i<SetTable.below.go xs j gb lo hi-> ∀x,xs[i]? =some x->x<j)/\(∀i,SetTable.below.go xs j gb lo hi<=i-> ∀x,xs[i]? =some x->j<=x)/\SetTable.below.go xs j gb lo hi<=xs.size
 |0,lo,hi,h1,h2,h3,h4,h5=>by(have:lo=hi:=by lia);subst this;exists h4,h5,h1
 |gb+1,lo,hi,h1,h2,h3,h4,h5=>by rw[SetTable.below.go];by_cases c:lo<hi;rw[aT c];(have hm:(lo+hi) /2<xs.size:=by lia);(have qk:xs[(lo+hi) /2]? =some xs[(lo+hi) /2]:=by simp[hm]);(have hD:xs.getD ((lo+hi) /2) j=xs[(lo+hi) /2]:=by simp[hm]);(have L5: ∀a b,a<b-> ∀x y,xs[a]? =some x->xs[b]? =some y->x<y:=λa b hab x y hx hy=>(by obtain⟨ha,ea⟩:=Array.getElem?_eq_some_iff.mp hx;obtain⟨hb,eb⟩:=Array.getElem?_eq_some_iff.mp hy;have:=(List.pairwise_iff_getElem.mp hr) a b (by simpa using ha) (by simpa using hb) hab;simp only[Array.getElem_toList]at this;rw[ea,eb]at this;exact this));simp only[hD];by_cases d:xs[(lo+hi) /2]<j;rw[aT d];refine DE hr gb _ _ h1 (by lia) (by lia) (λi ce x hx=> ?_) h5;by_cases e:i=(lo+hi) /2;subst e;rw[qk]at hx;cases hx;exact d;exact Nat.lt_trans (L5 i _ (by lia) x _ hx qk) d;rw[aU d];refine DE hr gb _ _ (by lia) (by lia) (by lia) h4 λi ce x hx=> ?_;by_cases e:i=(lo+hi) /2;subst e;rw[qk]at hx;cases hx;lia;have:=L5 _ i (by lia) _ x qk hx;lia;rw[aU c];(have:lo=hi:=by lia);subst this;exists h4,h5,h1
def DF(hr:ot xs)(j:Nat):(∀i,i<SetTable.below xs j-> ∀x,xs[i]? =some x->x<j)/\(∀i,SetTable.below xs j<=i-> ∀x,xs[i]? =some x->j<=x)/\SetTable.below xs j<=xs.size:=
 DE hr xs.size 0 xs.size (aV _) (fQ _) (by lia) (λi hi=>absurd hi (rJ _)) (λi hi x hx=>by have:=(Array.getElem?_eq_some_iff.mp hx).1;lia)
def Xk(hr:ot xs){j:Nat}(hj:xs[SetTable.below xs j]? ≠some j):ot (SetTable.insertAt xs (SetTable.below xs j) j)/\j∉xs.toList:=by obtain⟨h1,h2,h3⟩:=DF hr j;(have lo: ∀x∈xs.toList.take (SetTable.below xs j),x<j:=λx hx=>(by obtain⟨i,hi,e⟩:=gT hx;rw[kf]at hi;rw[List.getElem_take]at e;refine h1 i (by lia) x ?_;rw[<-kb,br (by lia),e]));(have up: ∀x∈xs.toList.drop (SetTable.below xs j),j<x:=λx hx=>(by obtain⟨i,hi,e⟩:=gT hx;rw[zB]at hi;rw[List.getElem_drop]at e;(have qk:xs[SetTable.below xs j+i]? =some x:=(by rw[<-kb,br (by lia),e]));have h4:=h2 _ (uA _ _) x qk;by_cases c:x=j;exfalso;subst c;by_cases z:i=0;subst z;rw[uz]at qk;exact hj qk;(have hb:SetTable.below xs x<xs.toList.length:=by lia);have h5:=(List.pairwise_iff_getElem.mp hr) (SetTable.below xs x) (SetTable.below xs x+i) hb (by lia) (by lia);rw[e]at h5;have h6:=h2 (SetTable.below xs x) (aV _) (xs.toList[SetTable.below xs x]) (by rw[<-kb,br hb]);lia;lia));constructor;unfold ot;rw[MG,Df];exists hr.sublist (List.take_sublist _ _),List.pairwise_cons.mpr ⟨up,hr.sublist (List.drop_sublist _ _)⟩,λa ha b hb=> ?_;rcases List.mem_cons.mp hb with e|hb;rw[e];exact lo a ha;exact Nat.lt_trans (lo a ha) (up b hb);intro hm;rw[<-Dg (SetTable.below xs j) xs.toList]at hm;rcases List.mem_append.mp hm with hm|hm;exact kh _ (lo j hm);exact kh _ (up j hm)
/---/def lf(o:Array (Option Nat)):List Nat:=o.toList.filterMap id
def Pn: ∀ {l:aq (ap Nat)} {j k:Nat},l[j]? =some none->((l.set j (some k)).filterMap id).Perm (k::l.filterMap id)
 |x::l,0,k,h=>by cases h;simp
 |x::l,j+1,k,h=>by have ih:=Pn (l:=l) (j:=j) (k:=k) (by simpa using h);simp only[List.set_cons_succ];cases x with|none=>simpa using ih|some v=>simp only[zw,id];exact(ih.cons v).trans (List.Perm.swap k v _)
def KZ{m:Nat}{o:au (ap Nat)}{e:Nat}(hs:o.size=m+1)(he:e<=m)(hf:o[e]? =some none): ∀ (r gb i q:Nat),r<gb->i<=m->(iL m r i q).1=e-> ∃j,SetTable.layClean.free m o gb i q=some j/\o[j]? =some none
 |r,0,i,q,h,_,_=>absurd h (rJ _)
 |r,gb+1,i,q,h,hi,er=>by rw[SetTable.layClean.free];cases c:(List.range (SetTable.runEnd m i+1-i)).find? λk=>(o.getD (i+k) (some 0)).isNone with|some k=>exists i+k,rfl,?_;have h1:=List.find?_some c;simp only[Option.isNone_iff_eq_none]at h1;(have h2:i+k<o.size:=(by apply C3;intro z;rw[show o.getD (i+k) (some 0)=some 0 from by simp[Array.getD,show ¬i+k<o.size from z]]at h1;cases h1));(have h3:o.getD (i+k) (some 0)=o[i+k]:=by simp[Array.getD,h2]);rw[h3]at h1;rw[kM h2,h1]|none=>cases r with|zero=>exfalso;have ei:i=e:=er;have h1:=List.find?_eq_none.mp c 0 (by obtain⟨h2,h3,_⟩:=BR hi;exact List.mem_range.mpr (by lia));rw[uz,ei]at h1;(have h2:e<o.size:=by lia);(have h3:o.getD e (some 0)=o[e]:=by simp[Array.getD,h2]);rw[kM h2]at hf;rw[h3,gp hf]at h1;exact h1 rfl|succ r=>exact KZ hs he hf r gb _ _ (by lia) (FQ m i q) er
def Xd{m:Nat}{o:au (ap Nat)}(hs:o.size=m+1)(hk:(lf o).length<=m): ∃e,e<=m/\o[e]? =some none:=by apply C3;intro hn;(have all: ∀x∈o.toList,∃v,x=some v:=λx hx=>(by cases x with|some v=>exact⟨v,rfl⟩|none=>obtain⟨i,hi,e⟩:=gT hx;(have ce:i<o.size:=by simpa using hi);exact absurd ⟨i,by lia,by rw[kM ce];simpa using e⟩ hn));(have hl: ∀l:aq (ap Nat),(∀x∈l,∃v,x=some v)->(l.filterMap id).length=l.length:=λl=>(by induction l with|nil=>intro _;rfl|cons x l ih=>intro h;obtain⟨v,rfl⟩:=h x fk;simp[ih λy hy=>h y (fJ _ hy)]));have:=hl o.toList all;unfold lf at hk;rw[this]at hk;simp at hk;lia
/---/def Bc(m:Nat)(acc:Option (Array (Option Nat)×Nat))(h:Int):Option (Array (Option Nat)×Nat):=do
 let(owner,k) <-acc
 let j<-SetTable.layClean.free m owner (SetTable.turns m) (SetTable.bits h% (m+1)) (SetTable.bits h)
 pure (owner.setIfInBounds j (some k),k+1)
def M5{m:Nat}(hm:kZ m): ∀ (hs:aq Int) (o:au (ap Nat)) (k:Nat),o.size=m+1->(lf o).Perm (List.range k)->k+hs.length<=m-> ∃o',hs.foldl (Bc m) (some (o,k))=some (o',k+hs.length)/\o'.size=m+1/\(lf o').Perm (List.range (k+hs.length))
 | [],o,k,h1,h2,_=>⟨o,rfl,h1,h2⟩
 |h::hs,o,k,h1,h2,h3=>by rw[cU]at h3;obtain⟨e,he,hf⟩:=Xd h1 (by rw[h2.length_eq,oh];lia);(have hi:SetTable.bits h% (m+1)<=m:=(by have:=Nat.mod_lt (SetTable.bits h) (show m+1>0 by lia);lia));obtain⟨r,hr,er⟩:=OZ hm hi (JR h) he;obtain⟨j,ej,hj⟩:=KZ h1 he hf r (SetTable.turns m) _ _ (by show r<m+15;lia) hi er;have hjs:=(Array.getElem?_eq_some_iff.mp hj).1;(have e1:Bc m (some (o,k)) h=some (o.setIfInBounds j (some k),k+1):=(by unfold Bc;simp only[Option.bind_eq_bind,Option.bind_some,ej];rfl));(have p1:(lf (o.setIfInBounds j (some k))).Perm (List.range (k+1)):=(by unfold lf;rw[Array.toList_setIfInBounds];refine(Pn (by rw[kb];exact hj)).trans ?_;rw[zF];exact(h2.cons k).trans (List.perm_append_singleton k _).symm));obtain⟨o',q1,q2,q3⟩:=M5 hm hs (o.setIfInBounds j (some k)) (k+1) (by simpa using h1) p1 (by lia);exists o',?_,q2,?_;rw[List.foldl_cons,e1,q1];rw[cU,show k+1+hs.length=k+(hs.length+1)by lia];rw[cU,show k+(hs.length+1)=k+1+hs.length by lia];exact q3
def Ak{β:Type}(g:Nat->ap β): ∀l:aq Nat,(l.filterMap λj=>(g j).map λv=>(j,v)).map (·.1)=l.filter λj=>(g j).isSome
 | []=>rfl
 |x::l=>by cases e:g x with|none=>simp[e,Ak g l]|some v=>simp[e,Ak g l]
def Al{β:Type}(g:Nat->ap β): ∀l:aq Nat,(l.filterMap λj=>(g j).map λv=>(j,v)).map (·.2)=l.filterMap g
 | []=>rfl
 |x::l=>by cases e:g x with|none=>simp[e,Al g l]|some v=>simp[e,Al g l]
def X7{m:Nat}(hm:kZ m){hashes:au Int}(hn:hashes.size<=m)(finger moves:Nat)(led plain:Bool): ∃place order:au Nat,SetTable.laid m finger moves led plain hashes=some ({mask:=m,place:=place,dummies:= #[],finger:=finger,led:=led,moves:=moves,plain:=plain},order)/\ot place/\(∀j∈place.toList,j<=m)/\place.size=hashes.size/\order.toList.Perm (List.range hashes.size):=by(have i0:(lf (Array.replicate (m+1) (none:ap Nat))).Perm (List.range 0):=(by unfold lf;simp));obtain⟨o,e1,e2,e3⟩:=M5 hm hashes.toList (Array.replicate (m+1) none) 0 (by simp) i0 (by simpa using hn);(have ec:SetTable.layClean m hashes=some o:=(by have:SetTable.layClean m hashes=(hashes.foldl (init:=some (Array.replicate (m+1) none,0)) (Bc m)).map (·.1):=rfl;rw[this,<-Array.foldl_toList,e1];rfl));(have eo:(List.range (m+1)).map (λj=>o.getD j none)=o.toList:=(by have h:=Ee (none:ap Nat) o.toList;rw[show o.toList.length=m+1 by simpa using e2]at h;rw[<-h];refine List.map_congr_left λj hj=> ?_;(have qm:j<o.size:=by have:=List.mem_range.mp hj;lia);simp[Array.getD,qm,List.getD_eq_getElem?_getD]));exists(((List.range (m+1)).filterMap λj=>(o.getD j none).map λv=>(j,v)).map (·.1)).toArray,(((List.range (m+1)).filterMap λj=>(o.getD j none).map λv=>(j,v)).map (·.2)).toArray,?_,?_,?_,?_,?_;unfold SetTable.laid;rw[ec];rfl;show List.Pairwise _ _;rw[Ak (λj=>o.getD j none)];exact(List.pairwise_lt_range).sublist List.filter_sublist;intro j hj;have qm:j∈((List.range (m+1)).filterMap λj=>(o.getD j none).map λv=>(j,v)).map (·.1):=hj;rw[Ak (λj=>o.getD j none)]at qm;have:=List.mem_range.mp (List.mem_filter.mp qm).1;lia;show(((List.range (m+1)).filterMap λj=>(o.getD j none).map λv=>(j,v)).map (·.1)).toArray.size=_;(have h1:((List.range (m+1)).filterMap λj=>(o.getD j none).map λv=>(j,v)).length=hashes.size:=(by have h2:=kS List.length (Al (λj=>o.getD j none) (List.range (m+1)));rw[bq]at h2;rw[h2];(have h3:(List.range (m+1)).filterMap (λj=>o.getD j none)=lf o:=(by unfold lf;rw[<-eo,List.filterMap_map];rfl));rw[h3,e3.length_eq];simp));rw[cE,bq,h1];show(((List.range (m+1)).filterMap λj=>(o.getD j none).map λv=>(j,v)).map (·.2)).toArray.toList.Perm _;(have h3:(List.range (m+1)).filterMap (λj=>o.getD j none)=lf o:=(by unfold lf;rw[<-eo,List.filterMap_map];rfl));simp only[Al (λj=>o.getD j none),h3];refine e3.trans ?_;simp
def a1e{α:Type}{es:au α}{order:au Nat}(h:order.toList.Perm (List.range es.size)):(order.filterMap (es[·]?)).toList.Perm es.toList/\(order.filterMap (es[·]?)).size=es.size:=by(have h1:(order.filterMap (es[·]?)).toList=order.toList.filterMap (es[·]?):=by simp);(have h2:(List.range es.size).filterMap (es[·]?)=es.toList:=(by(have: ∀l:aq α,(List.range l.length).filterMap (λi=>l[i]?)=l:=λl=>(by induction l with|nil=>rfl|cons x l ih=>rw[cU,List.range_succ_eq_map,zw];simp only[List.getElem?_cons_zero,List.filterMap_map];congr 1));have h:=this es.toList;rw[show es.toList.length=es.size by simp]at h;have e:(λi:Nat=>es.toList[i]?)=(λi:Nat=>es[i]?):=funext λi=>kb;rw[e]at h;exact h));(have p:(order.filterMap (es[·]?)).toList.Perm es.toList:=(by rw[h1,<-h2];exact h.filterMap _));exists p,?_;have q:=p.length_eq;rw[kd,kd]at q;exact q
def hp(a b:Nat):Int:=reduceHash (Builtin.Tuple.tupleHashOf [hashInt a,hashInt b])
/---/def Px:List (Nat×Nat):=(List.range 4).flatMap λa=>(List.range 41).map λb=>(a,b)
def Ws:(Px.map λp=>hp p.1 p.2).Nodup:=by decide+kernel
def MF{α β:Type}{f:α->β}: ∀ {l:aq α} {a b:α},(l.map f).Nodup->a∈l->b∈l->f a=f b->a=b
 |x::l,a,b,hn,ha,hb,e=>by rw[bH,lP]at hn;rcases List.mem_cons.mp ha with ea|ha';rcases List.mem_cons.mp hb with eb|hb';rw[ea,eb];exact absurd (List.mem_map.mpr ⟨b,hb',by rw[<-e,ea]⟩) hn.1;rcases List.mem_cons.mp hb with eb|hb';exact absurd (List.mem_map.mpr ⟨a,ha',by rw[e,eb]⟩) hn.1;exact MF hn.2 ha' hb' e
def Nr{a b:Nat}(ha:a<4)(hb:b<41):(a,b)∈Px:=List.mem_flatMap.mpr ⟨a,List.mem_range.mpr ha,List.mem_map.mpr ⟨b,List.mem_range.mpr hb,rfl⟩⟩
def Wr{p q:Nat×Nat}(Wp:p.1<4)(qp:p.2<41)(jn:q.1<4)(gD:q.2<41)(e:hp p.1 p.2=hp q.1 q.2):p=q:=
 MF (f:=λp:Nat×Nat=>hp p.1 p.2) Ws (Nr Wp qp) (Nr jn gD) e
end L2
namespace L2
open PySem PySem.Spec PyProof.Rows PySem.W
def fY(es:Array (Int×Value))(ep:Nat)(t:SetTable):Obj:= {cls:= .type "set",dict:=none,data:= .set es ep t}
structure gM(es:Array (Int×Value))(t:SetTable):Prop where
 mask:kZ t.mask
 Af:t.dummies= #[]
 sz:t.place.size=es.size
 G0:ot t.place
 plain:t.plain=true
 free:t.place.size*5<t.mask*3
def gM.le{es:au (Int×aa)}{t:av}(T:gM es t):t.place.size<=t.mask:=by have:=T.free;lia
def gM.fits{es:au (Int×aa)}{t:av}(T:gM es t):t.fits es.size=true:=by have h1:=T.le;have h2:=T.sz;unfold SetTable.fits SetTable.fill;rw[T.Af];simp[h2];lia
def gM.way{es:au (Int×aa)}{t:av}(T:gM es t):t.gaveWay=false:=by unfold SetTable.gaveWay;rcases T.mask with h|h|h<;>rw[h]<;>rfl
section
variable{prog:af}{w:ag}{A:ao}{E:aa->ac->Prop}{s:ac}
def a3F{a:ae}{x:aa}{hx:Int}{ep:Nat}{t:av}{Q:SetFound->ac->Prop}(ho:s.heap.get? a=some (fY es ep t))(T:gM es t)(hne: ∀e∈es.toList,(e.1==hx)=false)(h: ∀j,j<=t.mask->t.slot j= .empty->Q (.free j false) s)(gb:Nat):wpAny (model prog w) A (setSearchFrom a x hx true (gb+1) none) Q E s:=by obtain⟨j,h1,h2,h3⟩:=a1W (hashAt:=λi=>(es[i]?.map (·.1)).getD 0) (h:=hx) T.mask T.Af T.le (λi hi=>by rw[T.sz]at hi;(have:es[i]? =some es[i]:=by simp[hi]);rw[this];exact hne _ (by simp));unfold setSearchFrom;refine aH (q9 ho rfl T.fits ?_);dsimp only;rw[T.way];simp only[fS,fN];dsimp only[Option.getD];split;rename_i met e;have:=e.symm.trans h3;cases this;dsimp only;exact aX (h j h1 h2);rename_i e;exact absurd h3 (e _)
def Rx{x:ae}{Q:Bool->ac->Prop}(hk:IsTupleKey (intKind prog w) s.heap ks x)(h:Q true s)(n:Nat):wpAny (model prog w) A (hashByValue (n+1) (.ref x)) Q E s:=by
 have hT:=hk.typeIs;obtain⟨o,bc,m,ho,_,hd,hi⟩:=hk;unfold hashByValue;refine aH (wpAny_specialOf hT F.slot_tuple_hash.lookup ?_);show wpAny _ _ (seqItems? (.ref x) >>=_) _ _ s;refine aH (uf ho hd ?_);refine aH ?_;show wpAny _ _ (forIn bc _ _) _ _ s;rw[<-Array.forIn_toList];refine wpAny_forIn_list _ (λrest r s'=>r.1=none/\s'=s/\ ∃ks,ItemsAre (intKind prog w) ks rest) _ ?_ ?_ _ _ ⟨rfl,rfl,ks,hi⟩
 ·rintro v rest r s' ⟨hr,rfl,ks',xy⟩;cases xy with
  | @cons k _ X3 _ h1 h2=>
  (have:hashByValue n v=pure true:=(by cases v<;>first|(cases n<;>rfl)|(simp[intKind,Value.isInt]at h1)));rw[this];refine aH (aX ?_);simp only[wk,fS,fN];exact aX ⟨rfl,rfl,X3,h2⟩
 rintro⟨r1,r2⟩ s' ⟨hr,rfl,_⟩;simp only at hr;subst hr;exact aX h
def kZ.grow{t:av}{n:Nat}(hm:kZ t.mask)(hn:n<=40)(hf:n*5<t.mask*3)(hb:(n+1)*5>=t.mask*3):SetTable.sizeAbove (SetTable.grown (n+1))<=sizeLine/\kZ (SetTable.sizeAbove (SetTable.grown (n+1))-1)/\(n+1)*5<(SetTable.sizeAbove (SetTable.grown (n+1))-1)*3:=by rcases hm with h|h|h;rw[h]at hf hb;(have:n=4:=by lia);subst this;exact⟨by rw[jb];decide,.inr (.inl (by decide)),by decide⟩;rw[h]at hf hb;(have:n=18:=by lia);subst this;exact⟨by rw[jb];decide,.inr (.inr (by decide)),by decide⟩;rw[h]at hf hb;lia
def a2F{a:ae}{ep:Nat}{t:av}{n:Nat}{Q:Unit->ac->Prop}(ho:s.heap.get? a=some (fY es ep t))(hfit:t.fits es.size=true)(gy:t.plain=true)(hn:es.size=n+1)(h1:SetTable.sizeAbove (SetTable.grown (n+1))<=sizeLine)(h2:kZ (SetTable.sizeAbove (SetTable.grown (n+1))-1))(h3:(n+1)*5<(SetTable.sizeAbove (SetTable.grown (n+1))-1)*3)(h: ∀h' es' jO t',Heap.SameBut a s.heap h'->h'.get? a=some (fY es' jO t')->gM es' t'->t'.led=t.led->es'.toList.Perm es.toList->Q () {s with heap:=h'}):wpAny (model prog w) A (setRelay a (SetTable.grown (n+1))) Q E s:=by unfold setRelay;refine aH (q9 ho rfl hfit ?_);dsimp only;rw[aU (Nat.not_lt.mpr h1)];obtain⟨pl,od,e1,r1,r2,r3,r4⟩:=X7 (hashes:=es.map (·.1)) h2 (by rw[Array.size_map,hn];lia) t.finger (t.movedTo (SetTable.sizeAbove (SetTable.grown (n+1))-1)) t.led t.plain;have e2:t.relaid (es.map (·.1)) (SetTable.grown (n+1))=some _:=e1;rw[e2];(have r4':od.toList.Perm (List.range es.size):=by rw[Array.size_map]at r4;exact r4);obtain⟨p1,p2⟩:=a1e r4';refine aH ?_;wp_delta;(have c:((od.filterMap (es[·]?)).size !=es.size)=false:=by rw[p2];simp);rw[c];simp only[fS,fN];refine aX ?_;dsimp only;refine wpAny_storeSet_of ho rfl ?_ (by rw[p2,hn];lia);have hg:(s.heap.update a (Obj.putSet (od.filterMap (es[·]?)) {mask:=SetTable.sizeAbove (SetTable.grown (n+1))-1,place:=pl,dummies:= #[],finger:=t.finger,led:=t.led,moves:=t.movedTo (SetTable.sizeAbove (SetTable.grown (n+1))-1),plain:=t.plain})).get? a=some (fY (od.filterMap (es[·]?)) (ep+1) _):=um _ ho rfl;refine h _ _ _ _ (ul s.heap a _) hg ⟨h2,rfl,?_,r1,gy,?_⟩ rfl p1;show pl.size=_;rw[r3,p2,Array.size_map];show pl.size*5<_;rw[r3,Array.size_map,hn];exact h3
def Rf{a x:ae}{hx:Int}{ep:Nat}{t:av}{Q:Bool->ac->Prop}(ho:s.heap.get? a=some (fY es ep t))(T:gM es t)(hn:es.size<=40)(hk:IsTupleKey (intKind prog w) s.heap ks x)(hne: ∀e∈es.toList,(e.1==hx)=false)(h: ∀h' es' jO t',Heap.SameBut a s.heap h'->h'.get? a=some (fY es' jO t')->gM es' t'->t'.led=t.led->es'.toList.Perm ((hx,.ref x)::es.toList)->Q true {s with heap:=h'}):wpAny (model prog w) A (setAddHashed a (.ref x) hx) Q E s:=by unfold setAddHashed;refine iP ?_;show wpAny _ _ (setAddHashedIn a (.ref x) hx (99999+1)) _ _ _;unfold setAddHashedIn;refine aH (q9 ho rfl T.fits ?_);dsimp only;(have e1:byScan (.ref x) es=false:=by simp[byScan,Value.scannable]);rw[e1];simp only[fS,fN];refine aH (a3F ho T hne (λj hj hs=> ?_) 99999);dsimp only;refine aH (q9 ho rfl T.fits ?_);(have hd:(if SetTable.has t.dummies j then SetTable.eraseAt t.dummies (SetTable.below t.dummies j)else t.dummies)= #[]:=(by rw[T.Af];rw[aU];unfold SetTable.has;simp));(have Tq:t.put j=({t with place:=SetTable.insertAt t.place (SetTable.below t.place j) j,dummies:= #[]},SetTable.below t.place j):=(by unfold SetTable.put;simp only[hd]));dsimp only;rw[Tq];dsimp only;rw[T.plain];simp only[gc];refine aH (Rx hk ?_ 7);simp only[gc];(have oV:t.place[SetTable.below t.place j]? ≠some j:=(by(rcases Ib T.Af j with⟨_,z⟩|⟨i,z,_⟩);exact z;rw[hs]at z;cases z));obtain⟨u1,u2⟩:=Xk T.G0 oV;have i1:=MK t.place (SetTable.below t.place j) j;have i2:=MK es (SetTable.below t.place j) (hx,Value.ref x);have i3:=MJ es (SetTable.below t.place j) (hx,Value.ref x);have sz:=T.sz;have fr:=T.free;refine aH (wpAny_storeSet_of ho rfl ?_ (by rw[i2,jb];lia));have hg:(s.heap.update a (Obj.putSet (SetTable.insertAt es (SetTable.below t.place j) (hx,Value.ref x)) {t with place:=SetTable.insertAt t.place (SetTable.below t.place j) j,dummies:= #[]})).get? a=some (fY (SetTable.insertAt es (SetTable.below t.place j) (hx,Value.ref x)) (ep+1) {t with place:=SetTable.insertAt t.place (SetTable.below t.place j) j,dummies:= #[]}):=um _ ho rfl;have sb:=ul s.heap a (Obj.putSet (SetTable.insertAt es (SetTable.below t.place j) (hx,Value.ref x)) {t with place:=SetTable.insertAt t.place (SetTable.below t.place j) j,dummies:= #[]});(have Mf:({t with place:=SetTable.insertAt t.place (SetTable.below t.place j) j,dummies:= #[]}:av).fill=es.size+1:=(by unfold SetTable.fill;simp[i1,sz]));(have q1:gM (SetTable.insertAt es (SetTable.below t.place j) (hx,Value.ref x)) {t with place:=SetTable.insertAt t.place (SetTable.below t.place j) j,dummies:= #[]}\/(es.size+1)*5>=t.mask*3:=(by by_cases z:(es.size+1)*5<t.mask*3;exact .inl ⟨T.mask,rfl,by show(SetTable.insertAt t.place _ j).size=_;rw[i1,i2,sz],u1,T.plain,by show(SetTable.insertAt t.place _ j).size*5<_;rw[i1,sz];exact z⟩;exact .inr (by lia)));(have q2:({t with place:=SetTable.insertAt t.place (SetTable.below t.place j) j,dummies:= #[]}:av).fits (SetTable.insertAt es (SetTable.below t.place j) (hx,Value.ref x)).size=true:=(by unfold SetTable.fits;rw[Mf];simp only[i1,i2,sz,beq_self_eq_true,Bool.true_and,lT];rw[sz]at fr;rcases T.mask with z|z|z<;>rw[z]at fr⊢ <;>lia));(have q3:({t with place:=SetTable.insertAt t.place (SetTable.below t.place j) j,dummies:= #[]}:av).tooFull=decide ((es.size+1)*5>=t.mask*3):=(by unfold SetTable.tooFull;rw[Mf]));simp only[T.plain]at hg sb q1 q2 q3⊢;have q4:({mask:=t.mask,place:=SetTable.insertAt t.place (SetTable.below t.place j) j,dummies:= #[],finger:=t.finger,led:=t.led,moves:=t.moves,plain:=true}:av).led=t.led:=rfl;have q5:({mask:=t.mask,place:=SetTable.insertAt t.place (SetTable.below t.place j) j,dummies:= #[],finger:=t.finger,led:=t.led,moves:=t.moves,plain:=true}:av).plain=true:=rfl;generalize({mask:=t.mask,place:=SetTable.insertAt t.place (SetTable.below t.place j) j,dummies:= #[],finger:=t.finger,led:=t.led,moves:=t.moves,plain:=true}:av)=t1 at hg sb q1 q2 q3 q4 q5⊢;generalize SetTable.insertAt es (SetTable.below t.place j) (hx,Value.ref x)=Ai at hg sb q1 q2 i2 i3⊢;rw[q3];by_cases c:(es.size+1)*5>=t.mask*3;rw[jN c];simp only[Bool.not_false,Bool.and_self,gc];obtain⟨g1,g2,g3⟩:=kZ.grow T.mask hn (by rw[<-sz];exact fr) c;refine aH (a2F (s:= {s with heap:=s.heap.update a (Obj.putSet Ai t1)}) hg q2 q5 i2 g1 g2 g3 λh' es' jO t' k1 k2 k3 k4 k5=> ?_);exact aX (h h' es' jO t' (sb.trans k1) k2 k3 (k4.trans q4) (k5.trans i3));rw[gv c];simp only[Bool.not_false,Bool.and_false,fS,fN];exact aX (h _ Ai (ep+1) t1 sb hg (q1.resolve_right c) q4 i3)
end
/---/def vz(q:(Nat×Nat)×Addr):Int×Value:=(hp q.1.1 q.1.2,.ref q.2)
def pZ(w:World)(h:Heap)(S:Addr)(l:List (Int×Value)):Prop:= ∃es ep t,h.get? S=some (fY es ep t)/\gM es t/\t.led= !w.params.followText "set-order"/\es.toList.Perm l
def pZ.keep{w:ag}{h h':ak}{S:ae}{l:aq (Int×aa)}(H:pZ w h S l)(k: ∀o,h.get? S=some o->h'.get? S=some o):pZ w h' S l:=
 let⟨es,ep,t,h1,h2⟩:=H;⟨es,ep,t,k _ h1,h2⟩
def pW(prog:Program)(w:World)(h:Heap)(q:(Nat×Nat)×Addr):Prop:=IsTupleKey (intKind prog w) h [(q.1.1:Int),q.1.2] q.2
def pW.keep{prog:af}{w:ag}{h h':ak}{q:(Nat×Nat)×ae}(H:pW prog w h q)(k: ∀o,h.get? q.2=some o->h'.get? q.2=some o):pW prog w h' q:=
 let⟨o,i,n,h1,h2⟩:=H;⟨o,i,n,k _ h1,h2⟩
def Vi(prog:af)(w:ag)(a b:Nat):tupleKeyHash (intKind prog w) [(a:Int),b]=hp a b:=rfl
section
variable{prog:af}{w:ag}{A:ao}{R:Result->ac->Prop}{I:ae}{fp wr:aq ae}{G:au GenState->au GenState->Prop}{P:Nat->aa->Prop}{St:Nat->ac->Prop}{qs:aq ((Nat×Nat)×ae)}
def Yn(W:WalksS prog w A.in1 I fp wr G qs.length P St)(S:ae)(Aq:S∉fp)(Ft: ∀i v,P i v-> ∃q,qs[i]? =some q/\v= .ref q.2)(Mb: ∀q∈qs,q.2∉S::wr)(hu:A.units+10<cLine)(nd:(qs.map (·.1)).Nodup)(sm: ∀q∈qs,q.1.1<4/\q.1.2<41)(hn:qs.length<=40): ∀ (k i:Nat) (s:ac),qs.length-i=k->i<=qs.length->St i s->pZ w s.heap S ((qs.take i).map vz)->(∀q∈qs,pW prog w s.heap q)->(∀s',Moved (S::wr) G s s'->pZ w s'.heap S (qs.map vz)->R (.ok (.ret .none)) s')->codeAny (model prog w) A (.builtin "set.update.loop" ⟨[.ref S,.ref I],[]⟩) R s:=by have Lj:S∉wr:=λh=>Aq (W.sub _ h);have hsub: ∀b∈wr,b∈S::wr:=λb hb=>fJ _ hb;intro k;induction k with|zero=>intro i s hk hi jp hS hP hR;(have gX:i=qs.length:=by lia);subst gX;rw[pU]at hS;refine wP F.entry_set_update_loop ?_;rw[zg F.plain_set_update_loop _];show wpAny _ A.in1 (pyNext (.ref I) >>=_) _ _ s;refine aH (W.done s _ _ jp λs' hm=> ?_);show wpAny _ A.in1 (ret Value.none) _ _ s';exact aX (hR s' (hm.mono hsub) (hS.keep λo e=>hm.heap S o Lj e))|succ k ih=>intro i s hk hi jp hS hP hR;(have hlt:i<qs.length:=by lia);refine wP F.entry_set_update_loop ?_;rw[zg F.plain_set_update_loop _];show wpAny _ A.in1 (pyNext (.ref I) >>=_) _ _ s;refine aH (W.item i s _ _ hlt jp λv s' UI WE hm=> ?_);obtain⟨q,hq,rfl⟩:=Ft i v UI;have AI:q∈qs:=dR hq;obtain⟨es,ep,t,g1,g2,g3,g4⟩:=hS.keep λo e=>hm.heap S o Lj e;have En: ∀q∈qs,pW prog w s'.heap q:=λq hq=>(hP q hq).keep λo e=>hm.heap _ o (λz=>Mb q hq (hsub _ z)) e;show wpAny _ A.in1 (holding [Value.ref q.2] (setAdd S (.ref q.2)) >>=_) _ _ s';refine aH (iP ?_);unfold setAdd;refine iP ?_;(have cf:es.size=i:=(by have:=g4.length_eq;rw[bq,kf,kd]at this;lia));refine aH (wpAny_pyHash_tuple (show A.in1.units<cLine by show A.units+1<cLine;lia) (En q AI) ?_);rw[Vi];refine Rf (s:= {s' with toks:=s'.toks+(2+1)}) g1 g2 (by lia) (En q AI) (λe he=> ?_) λh' es' jO t' k1 k2 k3 k4 k5=> ?_;obtain⟨q',eV,rfl⟩:=List.mem_map.mp (g4.mem_iff.mp he);show(hp q'.1.1 q'.1.2==hp q.1.1 q.1.2)=false;rw[beq_eq_false_iff_ne];intro z;have Mi:q'∈qs:=List.mem_of_mem_take eV;have e:=Wr (sm q' Mi).1 (sm q' Mi).2 (sm q AI).1 (sm q AI).2 z;obtain⟨j,hj,ej⟩:=gT eV;rw[kf]at hj;rw[List.getElem_take]at ej;obtain⟨ce,ei⟩:=List.getElem?_eq_some_iff.mp hq;have hne:=(List.pairwise_iff_getElem.mp nd) j i (by rw[bq];lia) (by rw[bq];lia) (by lia);rw[List.getElem_map,List.getElem_map,ej,ei]at hne;exact hne e;(have UK:pZ w h' S ((qs.take (i+1)).map vz):=(by exists es',jO,t',k2,k3,k4.trans g3,k5.trans ?_;rw[List.take_add_one,hq,cK];exact(List.Perm.cons _ g4).trans (List.perm_append_singleton _ _).symm));refine aX ⟨plainId_quiet F.plain_set_update_loop _,ih (i+1) _ (by lia) hlt (W.frame _ s' _ _ WE (uA _ _) λb hb o e=> ?_) UK (λq hq=>(En q hq).keep λo e=> ?_) λs'' ES UJ=> ?_⟩;rw[k1.2 b (λh:b=S=>Aq (by rw[<-h];exact hb))];exact e;rw[k1.2 _ (λh:q.2=S=>Mb q hq (by rw[h];exact fk))];exact e;refine hR s'' (Moved.trans W.gtrans ((hm.mono hsub).then_heap (uA _ _) λb o hb e=> ?_) ES) UJ;rw[k1.2 b (λh:b=S=>hb (by rw[h];exact fk))];exact e
end
section
variable{prog:af}{w:ag}{A:ao}{E:aa->ac->Prop}{s:ac}
def RW(a:aa){Q₁:aa->ac->Prop}(h:Q₁ (.ref s.heap.objs.size) {s with heap:=s.heap.push (fY #[] 0 (.fresh 0 0 (!w.params.followText "set-order")))}):codeAny (model prog w) A (.call (.builtin "set.__new__") ⟨[.type "set",a],[]⟩) (wants Q₁ E) s:=by refine codeAny_of_tree ?_;show wpAny _ A.in1 (do checkBuiltinCall "set.__new__" ⟨[.type "set",a],[]⟩;again (.builtin "set.__new__" ⟨[.type "set",a],[]⟩)) _ _ s;refine aH (wpAny_of_eq (F.newCall_set_1 a) (aX ⟨plainId_quiet F.plain_set_new _,wP F.entry_set_new ?_⟩));rw[zg F.plain_set_new _];unfold Builtin.«set.__new__» Builtin.Frozenset.newClass;have hsub:=sub_set_self;obtain⟨hp,g,d,tk,os⟩:=s;dsimp only;wp_walk;refine za (aX ?_);dsimp only;simp only[newObj];refine aH (wpAny_alloc (aX ?_));exact aX h
def a4B(led:Bool):gM #[] (.fresh 0 0 led):=⟨.inl rfl,rfl,rfl,List.Pairwise.nil,rfl,by show 0*5<7*3;decide⟩
def RH{l:ae}{bc:au aa}{qs:aq ((Nat×Nat)×ae)}{Q:aa->ac->Prop}(hh:A.handled=none)(hl:s.heap.IsList l bc)(hit:bc.toList=qs.map λq=>Value.ref q.2)(hP: ∀q∈qs,pW prog w s.heap q)(hu:A.units+20<cLine)(nd:(qs.map (·.1)).Nodup)(sm: ∀q∈qs,q.1.1<4/\q.1.2<41)(hn:qs.length<=40)(h: ∀ (h':ak) (tk:Nat),pZ w h' s.heap.objs.size (qs.map vz)->(∀b o,b<s.heap.objs.size->s.heap.get? b=some o->h'.get? b=some o)->Q (.ref s.heap.objs.size) {s with heap:=h',toks:=tk}):wpAny (model prog w) A (call (.type "set") [.ref l]) Q E s:=by
 obtain⟨c,tl,a5k⟩:=F.called_set.mro;have a5j:=F.called_set.made;have hsub:=F.called_set.sub;refine wpAny_call (codeAny_of_tree ?_);show wpAny _ _ (callAny (.type "set") _) _ _ _;refine aX ⟨Code.quiet_builtin _ (by decide+kernel),wP F.entry_type_call ?_⟩;rw[Around.under_plain (weight_type_call_type "set" [.ref l] []) rfl];have h1:=F.called_set.notType;have h2:=F.called_set.canCreate;have hct:=F.typeCall_set_1 (.ref l);(repeat (any_goals (first|assumption|wp_step)));refine rW (RW (.ref l) (E:=E) (Q₁:=λobj s₁=>obj= .ref s.heap.objs.size/\s₁= {s with heap:=s.heap.push (fY #[] 0 (.fresh 0 0 (!w.params.followText "set-order")))}) ⟨rfl,rfl⟩) λr s₁ hr=> ?_;generalize EY:fY #[] 0 (.fresh 0 0 (!w.params.followText "set-order"))=ob at hr;(have Ev:ob.cls= .type "set":=by rw[<-EY];rfl);cases r with
 |error e=>exact hr
 |ok fl=>
  cases fl with
  |ret obj=>
   obtain⟨rfl,rfl⟩:=hr;have hS:(s.heap.push ob).get? s.heap.objs.size=some ob:=cS _ (by rw[<-EY];rfl);(have hT:Shared.TypeIs {s with heap:=s.heap.push ob} (.ref s.heap.objs.size) "set":=⟨_,hS,Ev⟩);have hli:=F.called_set.init.lookup;have hbi:=F.called_set.init.bind (.ref s.heap.objs.size);(repeat (any_goals (first|assumption|wp_step)));refine rW (codeAny_call_builtin (R:=wants (λr s₂=>r= .none/\ ∃h' tk,s₂= {s with heap:=h',toks:=tk}/\pZ w h' s.heap.objs.size (qs.map vz)/\(∀b o,b<s.heap.objs.size->s.heap.get? b=some o->h'.get? b=some o)) E) F.called_set.init.plain F.entry_set_init (check_set_init_1 hT ?_)) λr₂ s₂ Ff=> ?_
   ·obtain⟨ol,u7,hcl,nl,uW⟩:=hl;obtain⟨a5u,Z7,a5v,a1f⟩:=ol;simp only at hcl uW;subst hcl;subst uW;have Wn:(s.heap.push ob).get? l=some {cls:= .type "list",dict:=Z7,data:= .seq bc nl,slots:=a1f}:=bS _ u7;have a5n:=F.sub_list_set;have a5m:=F.sub_list_frozenset;(have hne:(Value.type "list"==Value.type "dict")=false:=by decide);(have iw:(s.heap.push ob).IsList l bc:=⟨_,Wn,rfl,nl,rfl⟩);unfold Builtin.«set.__init__» noKeywords Builtin.Frozenset.updateFrom;generalize UH:pyIter=PI;subst EY;unfold fY at*;wp_walk;subst UH;refine wpAny_pyIter_list iw ?_;refine aH (wpAny_runValue ?_);have LU:l<s.heap.objs.size:=bL u7;(have VI:A.in1.in1.in1.handled=none:=by simp[hh]);(have hsz:(s.heap.push (fY #[] 0 (.fresh 0 0 (!w.params.followText "set-order")))).objs.size=s.heap.objs.size+1:=by rw[jF]);(have Wg:l≠(s.heap.push (fY #[] 0 (.fresh 0 0 (!w.params.followText "set-order")))).objs.size:=(by rw[hsz];exact cp (uB LU)));(have Aq:s.heap.objs.size∉ [(s.heap.push (fY #[] 0 (.fresh 0 0 (!w.params.followText "set-order")))).objs.size,l]:=(by rw[hsz];simp only[dN,ip,eB,eJ,not_or];exists cp (wG _),uC LU));(have WD:bc.size=qs.length:=by rw[<-kd,hit,bq]);(have Ft: ∀ (i:Nat) (v:Value),bc[i]? =some v-> ∃q,qs[i]? =some q/\v= .ref q.2:=λi v hv=>(by rw[<-kb,hit,cB]at hv;cases hq:qs[i]? with|none=>rw[hq]at hv;cases hv|some q=>rw[hq]at hv;cases hv;exists q,rfl,rfl));(have hlt: ∀q∈qs,q.2<s.heap.objs.size:=λq hq=>let⟨_,_,_,e,_⟩:=hP q hq;bL e);have W:=(Walks.list (prog:=prog) (w:=w) VI (s.heap.push (fY #[] 0 (.fresh 0 0 (!w.params.followText "set-order")))).objs.size l Wg bc).toS;rw[WD]at W;refine Yn W s.heap.objs.size Aq Ft (λq hq=> ?_) (by show A.units+1+1+10<cLine;lia) nd sm hn (qs.length-0) 0 _ rfl (fQ _) ⟨⟨_,cS _ rfl,rfl,rfl⟩,(iw.push _)⟩ ?Ep (λq hq=> ?_) ?hR;have:=hlt q hq;simp only[dN,ip,eB,eJ,not_or];rw[hsz];exists cp this,cp (uB this);case Ep=>
     exists #[],0,_,bS _ hS,a4B _,rfl,List.Perm.nil
    exact(hP q hq).keep λo e=>bS _ (bS _ e);case hR=>
     intro s' hm Eo
     obtain⟨h',g',d',tk',os'⟩:=s'
     have eg:g'=s.gens:=hm.gens
     have ed:d'=s.drawn:=hm.drawn
     have eo:os'=s.os:=hm.os
     subst eg;subst ed;subst eo
     show wpAny _ _ _ _ _ _
     refine aX ?_
     show wpAny _ _ (ret Value.none) _ _ _
     refine aX ⟨rfl,h',tk',rfl,Eo,λb o hb e=> ?_⟩
     have eU:b≠s.heap.objs.size:=cp hb
     have cw:b≠(s.heap.push (fY #[] 0 (.fresh 0 0 (!w.params.followText "set-order")))).objs.size:=by
      rw[hsz];exact cp (uB hb)
     exact hm.heap b o (by simp only[dN,ip,eB,eJ,not_or];exists eU,cw) (bS _ (bS _ e))
   (·cases r₂ with|error e=>exact Ff|ok TX=>cases TX with|ret r=>obtain⟨rfl,h',tk,rfl,Eo,sL⟩:=Ff;(repeat (any_goals (first|assumption|wp_step)));exact h _ _ Eo sL|_=>exact Ff.elim)
  |_=>exact hr.elim
end
def N9:Manifest.owners.lookup (String.ofList "set_iterator".toList.reverse.reverse)=some Manifest.sig_set_iterator:=by kernel_rfl
def vU:Slot "set_iterator" "__next__" "set_iterator.__next__":=
 .of (owner:= "set_iterator") (n:= "__next__") (by rw[typeLookup_type,builtinLookup_eq_fast];kernel_rfl) (by decide+kernel) (by decide+kernel) (by decide+kernel)
  (by first|exact .inl (by decide+kernel)|exact .inr (by decide+kernel)) (by rw[isSubtype_type];kernel_rfl)
def KA:entryFor table "set_iterator.__next__"=some Builtin.«set_iterator.__next__»:=entryFor_of_tree (by kernel_rfl)
def JC(a:aa):argsOk "set_iterator.__next__" ⟨[a],[]⟩:=by unfold argsOk;rw[signature?_of (id:= "set_iterator.__next__") (n:= "__next__".toList.reverse) (o:= "set_iterator".toList.reverse) (by kernel_rfl) N9];kernel_rfl
def Pw:Slot "set_iterator" "__iter__" "set_iterator.__iter__":=
 .of (owner:= "set_iterator") (n:= "__iter__") (by rw[typeLookup_type,builtinLookup_eq_fast];kernel_rfl) (by decide+kernel) (by decide+kernel) (by decide+kernel)
  (by first|exact .inl (by decide+kernel)|exact .inr (by decide+kernel)) (by rw[isSubtype_type];kernel_rfl)
def Tj:entryFor table "set_iterator.__iter__"=some Builtin.«dict_keyiterator.__iter__»:=
 entryFor_alias (id':= "dict_keyiterator.__iter__") (by kernel_rfl) rfl (by decide+kernel) (by kernel_rfl)
def Rl(a:aa):argsOk "set_iterator.__iter__" ⟨[a],[]⟩:=by unfold argsOk;rw[signature?_of (id:= "set_iterator.__iter__") (n:= "__iter__".toList.reverse) (o:= "set_iterator".toList.reverse) (by kernel_rfl) N9];kernel_rfl
def Ti:entryFor table "set.__iter__"=some Builtin.«frozenset.__iter__»:=
 entryFor_alias (id':= "frozenset.__iter__") (by kernel_rfl) rfl (by decide+kernel) (by kernel_rfl)
def Tz{α:Type}{l:aq α}{i:Nat}(h:i<l.length):(l[i]::l.eraseIdx i).Perm l:=by rw[List.eraseIdx_eq_take_drop_succ];refine(List.perm_middle (l₁:=l.take i) (a:=l[i]) (l₂:=l.drop (i+1))).symm.trans ?_;rw[List.getElem_cons_drop,Dg]
def On{α:Type}(next:Nat->Nat): ∀ (gb k:Nat) (left:aq α) (out:au α),left.length=gb->(pickOrder.go next gb k left out).toList.Perm (out.toList++left)
 |0,k,left,out,h=>by have:left= []:=List.length_eq_zero_iff.mp h;subst this;simp[pickOrder.go]
 |gb+1,k,left,out,h=>by(have hlt:next k%left.length<left.length:=Nat.mod_lt _ (by lia));rw[pickOrder.go,br hlt];dsimp only;refine(On next gb (k+1) _ _ (by rw[List.length_eraseIdx_of_lt hlt];lia)).trans ?_;rw[Array.toList_push,List.append_assoc];exact List.Perm.append_left _ (Tz hlt)
/---/def j8(w:World)(a:Addr)(es:Array (Int×Value))(ep:Nat):Array (Int×Value):=if w.params.followText "set-order" then pickOrder (w.params.setOrder a ep) es else es
def QX(w:ag)(a:ae)(es:au (Int×aa))(ep:Nat):(j8 w a es ep).toList.Perm es.toList:=by unfold j8;split;exact(On _ es.size 0 es.toList #[] (by simp)).trans (by simp);exact List.Perm.refl _
def IT(w:ag)(a:ae)(es:au (Int×aa))(ep:Nat):(j8 w a es ep).size=es.size:=by have:=(QX w a es ep).length_eq;simpa using this
def Rs(hr:ot xs):SetTable.below xs 0=0:=by obtain⟨h1,h2,h3⟩:=DF hr 0;rcases Nat.eq_zero_or_pos (SetTable.below xs 0)with h|h;exact h;exact absurd (h1 0 h xs[0] (by simp)) (by lia)
def Rr(hr:ot xs){i j:Nat}(hi:xs[i]? =some j):SetTable.below xs (j+1)=i+1:=by obtain⟨h1,h2,h3⟩:=DF hr (j+1);obtain⟨hlt,e⟩:=Array.getElem?_eq_some_iff.mp hi;(have a1:i<SetTable.below xs (j+1):=(by rcases Nat.lt_or_ge i (SetTable.below xs (j+1))with h|h;exact h;have:=h2 i h j hi;lia));rcases Nat.lt_or_ge (i+1) (SetTable.below xs (j+1))with h|h;exfalso;(have gY:i+1<xs.size:=by lia);have b1:=h1 (i+1) h xs[i+1] (by simp[gY]);have b2:=(List.pairwise_iff_getElem.mp hr) i (i+1) (by simpa using hlt) (by simpa using gY) (by lia);simp only[Array.getElem_toList]at b2;rw[e]at b2;lia;lia
def qy(a:Addr)(slot i n ep:Nat):Obj:= {cls:= .type "set_iterator",data:= .fields #[.int slot 0,.int i 0,.ref a,.int n 0,.int ep 0]}
section
variable{prog:af}{w:ag}{A:ao}{E:aa->ac->Prop}{s:ac}
def NJ{a:ae}{ep:Nat}{t:av}{slot i:Nat}{Q:ap (aa×Nat)->ac->Prop}(ho:s.heap.get? a=some (fY es ep t))(T:gM es t)(hl:t.led= !w.params.followText "set-order")(oV:w.params.followText "set-order"=false->SetTable.below t.place slot=i)(h0:es.size<=i->Q none s)(h1: ∀e slot',(j8 w a es ep)[i]? =some e->(w.params.followText "set-order"=false->SetTable.below t.place slot'=i+1)->Q (some (e.2,slot')) s):wpAny (model prog w) A (setNext a slot i ep) Q E s:=by unfold setNext;refine aH (q9 ho rfl T.fits ?_);dsimp only;unfold setsByText;refine aH (aH (za (aX ?_)));dsimp only;have hm:(model prog w).w.params.followText "set-order"=w.params.followText "set-order":=rfl;rw[hm];by_cases c:w.params.followText "set-order"=true;(rw[c];simp only[gc,zW,fS,fN];unfold setWalk;refine aH (aH (q9 ho rfl T.fits ?_));dsimp only;unfold setsByText;refine aH (aH (za (aX ?_)));dsimp only;rw[hm,c];simp only[gc];refine aH (za (aX ?_));dsimp only;refine aX ?_;(have ew:j8 w a es ep=pickOrder (w.params.setOrder a ep) es:=by unfold j8;rw[c];rfl);show Q (((pickOrder (w.params.setOrder a ep) es)[i]?).map λe=>(e.2,slot)) s;rw[<-ew];cases e:(j8 w a es ep)[i]? with|none=>refine h0 ?_;have:=IT w a es ep;have:=Array.getElem?_eq_none_iff.mp e;lia|some y=>exact h1 y slot e (λz=>by rw[c]at z;cases z));(have c:w.params.followText "set-order"=false:=by simpa using c);rw[c];simp only[fS,fN];(have ew:j8 w a es ep=es:=by unfold j8;rw[c];rfl);have hs:=oV c;(have V0:t.led=true:=by rw[hl,c];rfl);refine wpAny_ite_split (λz=>absurd (show(!t.plain&&decide (es.size>1))=true from z) (by rw[T.plain];simp)) λ_=> ?_;refine aH ?_;wp_delta;rw[V0];simp only[wk,Bool.false_and,fS,fN];refine aX (aX ?_);rw[hs];by_cases d:i<es.size;(have d2:i<t.place.size:=by rw[T.sz];exact d);(have e1:es[i]? =some es[i]:=by simp[d]);(have e2:t.place[i]? =some t.place[i]:=by simp[d2]);rw[e1,e2];exact h1 es[i] _ (by rw[ew];exact e1) λ_=>Rr T.G0 e2;have e1:es[i]? =none:=zi (by lia);rw[e1];exact h0 (by lia)
def rN{I:ae}{slot i n ep:Nat}(hI:s.heap.get? I=some (qy a slot i n ep)):s.TypeIs (.ref I) "set_iterator":=⟨_,hI,rfl⟩
def IX{a:ae}{ep:Nat}{t:av}{Q:au (Int×aa)->ac->Prop}(ho:s.heap.get? a=some (fY es ep t))(T:gM es t)(h:Q es s):wpAny (model prog w) A (setEntries a) Q E s:=by unfold setEntries;exact aH (q9 ho rfl T.fits (aX h))
def a16{a:ae}{ep:Nat}{t:av}{Q:aa->ac->Prop}(ho:s.heap.get? a=some (fY es ep t))(T:gM es t)(h:Q (.ref s.heap.objs.size) {s with heap:=s.heap.push (qy a 0 0 es.size ep)}):wpAny (model prog w) A (pyIter (.ref a)) Q E s:=by(have hT:s.TypeIs (.ref a) "set":=⟨_,ho,rfl⟩);refine wpAny_pyIter_slot hT F.slot_set_iter (jB F.slot_set_iter hT Ti ?_ (F.args_set_iter_1 _));unfold Builtin.«frozenset.__iter__» Builtin.Frozenset.slot0 slotArgs;simp only[List.isEmpty_nil,wk,fS,↓reduceIte,bind_assoc,rE,zW];unfold Builtin.Frozenset.addrOf Builtin.Frozenset.sizeOf;refine aH (aX ?_);(try dsimp only);refine aH (aX ?_);refine aH (aH (IX ho T (aX ?_)));unfold setDrawn;refine aH (aH (q9 ho rfl T.fits ?_));dsimp only;unfold setsByText;refine aH (aH (za (aX ?_)));dsimp only;refine aX ?_;refine wpAny_ite_split (λz=>absurd (show(!(model prog w).w.params.followText "set-order"&& (!t.plain&&decide (es.size>1)))=true from z) (by rw[T.plain];simp)) λ_=> ?_;refine aH (aX ?_);unfold setEpoch;refine aH (aH (q9 ho rfl T.fits (aX ?_)));refine aH (jd (aX ⟨_,rfl, "set_iterator",_,⟨_,cS _ rfl,rfl⟩,vU.lookup,?_⟩));exact h
end
section
variable{prog:af}{w:ag}{A:ao}{E:aa->ac->Prop}{s:ac}
def a18{I:ae}{es:au (Int×aa)}{ep:Nat}{t:av}{slot i:Nat}{Q:ap aa->ac->Prop}(hI:s.heap.get? I=some (qy a slot i es.size ep))(ho:s.heap.get? a=some (fY es ep t))(T:gM es t)(hl:t.led= !w.params.followText "set-order")(oV:w.params.followText "set-order"=false->SetTable.below t.place slot=i)(hi:i<es.size)(h: ∀e slot' h',(j8 w a es ep)[i]? =some e->(w.params.followText "set-order"=false->SetTable.below t.place slot'=i+1)->h'.get? I=some (qy a slot' (i+1) es.size ep)->(∀b,b≠I->h'.get? b=s.heap.get? b)->Q (some e.2) {s with heap:=h'}):wpAny (model prog w) A (pyNext (.ref I)) Q E s:=by unfold pyNext;refine aH (zb (pN (name:=Str.ofString "__next__") (rN hI) vU (jB vU (rN hI) KA ?_ (JC _))));unfold Builtin.«set_iterator.__next__» slotArgs;simp only[List.isEmpty_nil,wk,fS,↓reduceIte,bind_assoc,rE,zW];refine aH (aX ?_);refine aH (zc hI rfl ?_);dsimp only;refine aH (IX ho T ?_);rw[aU (by simp)];refine aH (NJ (slot:=((slot:Int)).toNat) (i:=((i:Int)).toNat) ho T hl oV (λz=>absurd hi (by have:((i:Int)).toNat=i:=rfl;lia)) λe slot' h1 h2=> ?_);dsimp only;refine aH (wj hI rfl (by show 0<5;decide) ?_);have g1:(s.heap.update I (Obj.mapFields (·.setIfInBounds 0 (rawInt slot')))).get? I=some (qy a slot' i es.size ep):=um _ hI rfl;refine aH (wj (s:= {s with heap:=s.heap.update I (Obj.mapFields (·.setIfInBounds 0 (rawInt slot')))}) g1 rfl (by show 1<5;decide) ?_);have g2:((s.heap.update I (Obj.mapFields (·.setIfInBounds 0 (rawInt slot')))).update I (Obj.mapFields (·.setIfInBounds 1 (rawInt ((i:Int)+1))))).get? I=some (qy a slot' (i+1) es.size ep):=um _ g1 rfl;show wpAny _ _ (ret e.2) _ _ _;refine aX ⟨_,rfl,aX (h e slot' _ h1 h2 g2 λb hb=> ?_)⟩;rw[C6 _ _ (jH hb),C6 _ _ (jH hb)]
def a17{I:ae}{es:au (Int×aa)}{ep:Nat}{t:av}{slot i:Nat}{Q:ap aa->ac->Prop}(hh:A.handled=none)(hI:s.heap.get? I=some (qy a slot i es.size ep))(ho:s.heap.get? a=some (fY es ep t))(T:gM es t)(hl:t.led= !w.params.followText "set-order")(oV:w.params.followText "set-order"=false->SetTable.below t.place slot=i)(hi:i=es.size)(h: ∀h',(∀b o,b≠I->s.heap.get? b=some o->h'.get? b=some o)->Q none {s with heap:=h'}):wpAny (model prog w) A (pyNext (.ref I)) Q E s:=by unfold pyNext;refine aH (zb (pN (name:=Str.ofString "__next__") (rN hI) vU (jB vU (rN hI) KA ?_ (JC _))));unfold Builtin.«set_iterator.__next__» slotArgs;simp only[List.isEmpty_nil,wk,fS,↓reduceIte,bind_assoc,rE,zW];refine aH (aX ?_);refine aH (zc hI rfl ?_);dsimp only;refine aH (IX ho T ?_);rw[aU (by simp)];refine aH (NJ (slot:=((slot:Int)).toNat) (i:=((i:Int)).toNat) ho T hl oV (λz=> ?_) λe slot' h1 h2=> ?_);dsimp only;refine aH (wj hI rfl (by show 2<5;decide) ?_);show wpAny _ _ (newExc (.type "StopIteration") [] >>=_) _ _ _;refine aH ?_;simp only[newExc,newTuple];refine aH (jd ?_ (by size_fits));refine aH (m:=firstArgMember _ _) (wpAny_of_eq (a:=Value.none) (by first|rfl|(simp only[firstArgMember];rfl)) ?_);refine jd ?_ (by size_fits);simp only[raiseNew];refine aH (wpAny_handled ?_);rw[show A.in1.handled=none from hh];refine aH (aX (wpAny_throw ?_));refine aH (wpAny_isInstance (T:= "StopIteration") (b:=true) ⟨_,cS _ rfl,rfl⟩ isSubtype_stop ?_);exact aX (h _ (((ul ..).extBut.push _).push _));exfalso;have e1:((i:Int)).toNat=i:=rfl;rw[e1]at h1;have:=(Array.getElem?_eq_some_iff.mp h1).1;rw[IT]at this;lia
def a43(hh:A.handled=none)(I a:ae)(hne:a≠I){ep:Nat}{t:av}(T:gM es t)(hl:t.led= !w.params.followText "set-order"):Walks prog w A I [I,a] [I] es.size (λi v=>((j8 w a es ep)[i]?).map (·.2)=some v) (λi h=>(∃slot,h.get? I=some (qy a slot i es.size ep)/\(w.params.followText "set-order"=false->SetTable.below t.place slot=i))/\h.get? a=some (fY es ep t))where
 sub:=λb hb=>by simp at hb;simp[hb]
 frame:=λ_ _ _ st hk=>⟨let⟨sl,h1,h2⟩:=st.1;⟨sl,hk I (by simp) _ h1,h2⟩,hk a (by simp) _ st.2⟩
 item:=λi s Q E hi st hQ=>by obtain⟨⟨sl,h1,h2⟩,h3⟩:=st;refine a18 h1 h3 T hl h2 hi λe slot' h' k1 k2 k3 k4=> ?_;exact hQ e.2 h' s.toks (by show((j8 w a es ep)[i]?).map (·.2)=_;rw[k1];rfl) ⟨⟨slot',k3,k2⟩,by rw[k4 a hne];exact h3⟩ λb o hb e=>by rw[k4 b (λh=>hb (by simp[h]))];exact e
 done:=λs Q E st hQ=>by obtain⟨⟨sl,h1,h2⟩,h3⟩:=st;exact a17 hh h1 h3 T hl h2 rfl λh' VB=>hQ h' s.toks λb o hb e=>VB b o (λh=>hb (by simp[h])) e
 self:=λi s Q E st hQ=>by obtain⟨⟨sl,h1,h2⟩,h3⟩:=st;refine wpAny_pyIter_slot (rN h1) Pw (jB Pw (rN h1) Tj ?_ (Rl _));show wpAny _ _ (ret (.ref I)) _ _ s;exact aX ⟨_,rfl, "set_iterator",_,rN h1,vU.lookup,hQ⟩
def VR{Q:Bool->ac->Prop}(hT:s.TypeIs (.ref r) "set")(h:Q false s):wpAny (model prog w) A (Builtin.List.listLengthHint (.ref r)) Q E s:=by unfold Builtin.List.listLengthHint;refine aH (wpAny_specialOf hT PySem.F.slot_set_len.lookup ?_);generalize sJ:("set.__len__":String)=Xc;wp_delta;rw[show splitId Xc=some ("set", "__len__")from by subst sJ;decide+kernel];subst sJ;refine aH (wpAny_isInstance (T:= "set") (b:=true) hT (by rw[isSubtype_type];kernel_rfl) ?_);refine wpAny_ite_split (λhab=>absurd hab (by decide)) λ_=> ?_;refine wpAny_ite_split (λ_=> ?_) (λhab=>absurd (by decide+kernel) hab);refine aH (wpAny_typeOf hT ?_);exact aX h
def a3Y(prog:af)(w:ag)(a:ae){ep:Nat}{t:av}(T:gM es t)(hl:t.led= !w.params.followText "set-order"):KdlSrc prog w "set" a a es.size (λi v=>((j8 w a es ep)[i]?).map (·.2)=some v) (λh=>h.get? a=some (fY es ep t))where
 type:=λ_ hm=>⟨_,hm,rfl⟩
 there:=λ_ hm=>⟨bL hm,bL hm⟩
 keep:=λ_ _ hm hk=>hk a (.inl rfl) _ hm
 notList:=by decide
 notTuple:=by decide
 hint:=λ_ _ _ _ hm hq=>VR ⟨_,hm,rfl⟩ hq
 iter:=λ_ s hh hm=>⟨_,_,(λ_ _ hq=>a16 hm T hq),a43 hh _ a (cp (bL hm)) T hl,⟨0,cS _ rfl,λ_=>Rs T.G0⟩,bS _ hm⟩
end
open K2
def a2L{α:Type}{f:α->PV}{ys:aq V}(h:ys.Perm ys'): ∀ {l:aq α},aE H (l.map f) ys-> ∃l':aq α,l'.Perm l/\aE H (l'.map f) ys':=by
 induction h with
 |nil=>exact λ{l} r=>⟨l,List.Perm.refl _,r⟩
 | @cons x t t' p ih=>intro l r;cases l with|nil=>simp only[fZ,aE]at r;cases r|cons a l=>simp only[bH,aE]at r;obtain⟨v,u,e,h1,h2⟩:=r;cases e;obtain⟨l',p1,r1⟩:=ih h2;exists a::l',p1.cons a,?_;simp only[bH,aE];exists _,_,rfl,h1,r1
 |swap x y t=>
  intro l r;match l,r with
  | [],r=>simp only[fZ,aE]at r;cases r
  | [a],r=>simp only[bH,fZ,aE]at r;obtain⟨v,u,e,h1,h2⟩:=r;cases e;cases h2
  |a::b::l,r=>simp only[bH,aE]at r;obtain⟨v,u,e,h1,v2,u2,e2,h2,h3⟩:=r;cases e;cases e2;exists b::a::l,List.Perm.swap _ _ _,?_;simp only[bH,aE];exists _,_,rfl,h2,_,_,rfl,h1,h3
 |trans _ _ FE FF=>intro l r;obtain⟨l1,p1,r1⟩:=FE r;obtain⟨l2,p2,r2⟩:=FF r1;exists l2,p2.trans p1,r2
/---/def uI:Value->Addr
 | .ref a=>a
 |_=>0
def BL{us:aq aa}{as:aq ae}(h:us.Perm (as.map Value.ref)):us=(us.map uI).map Value.ref/\(us.map uI).Perm as:=by exists ?_,?_;rw[jG];refine(List.map_id us).symm.trans (List.map_congr_left λu hu=> ?_);obtain⟨a,_,rfl⟩:=List.mem_map.mp (h.mem_iff.mp hu);rfl;have:=h.map uI;rw[jG]at this;refine this.trans ?_;rw[show(uI∘Value.ref)=id from rfl,List.map_id]
def QT: ∀as:aq ae,bg (as.map V.ref) (as.map Value.ref)
 | []=> .nil
 |a::as=> .cons rfl (QT as)
def QU: ∀ {as:aq ae} {us:aq aa},bg (as.map V.ref) us->us=as.map Value.ref
 | [],_,.nil=>rfl
 |a::as,_,.cons h t=>by rw[QU t];cases h;rfl
def Ds(w:World)(h:Heap)(S:Addr)(as:List Addr):Prop:= ∃es ep t,h.get? S=some (fY es ep t)/\gM es t/\t.led= !w.params.followText "set-order"/\(es.toList.map (·.2)).Perm (as.map Value.ref)
section
variable{prog:af}{w:ag}{A:ao}{E:aa->ac->Prop}{s:ac}
def a3V{x:aa}{Q:aa->ac->Prop}(h:wpAny (model prog w) A.in1 (collect x) (λvs s1=>vs.length<64/\wpAny (model prog w) A.in1 (call (.builtin "list.sort") [.ref s1.heap.objs.size]) (λ_ s'=>Q (.ref s1.heap.objs.size) s') E {s1 with heap:=s1.heap.push (seqObj "list" vs.toArray 0)}) E s):wpAny (model prog w) A (call (.builtin "sorted") [x]) Q E s:=by refine Calls.call_function_entry kind_sorted plain_sorted entry_sorted (args_sorted1 _) ?_;unfold Builtin.«sorted»;refine aH (m:=checkCount "sorted" 1 1 _) (aX (aH (dJ h (λvs s1 hq=> ?_) λ_ _ z=>z)));refine aH (wpAny_newList ?_ (by have:=hq.1;rw[jb];lia));refine aH (iP (dJ hq.2 (λ_ s' x=> ?_) λ_ _ e=>e));exact aX ⟨_,rfl,x⟩
end
section
variable{X:Cx}
def a3U(I:aG X aB σ H s){bD:aq (aq Int)}{k:Nat}{Q:VK}(ri:bg ys aF)(rs:aE H (bD.map (cJ none)) ys)(hk: ∀ns∈bD,ns.length=k)(oO:1<=k)(h64:bD.length<64)(q: ∀ (l:ae) (lq:aq (aq Int)) (ys':aq V),H l=none->lq.Perm bD->lq.Pairwise (λa b=>lexLt b a=false)->aE H (lq.map (cJ none)) ys'->Q (.ref l) (upd H l (.aK ys'))):wpAny (model X.prog X.w) X.A.in1 (call (.builtin "list.sort") [.ref s.heap.objs.size]) (λ_ s'=>EP X aB σ Q (.ref s.heap.objs.size) s') X.xe {s with heap:=s.heap.push (seqObj "list" aF.toArray 0)}:=by
 have l1:=ri.length;have l2:=rs.len;rw[bq]at l2;have o1:(s.heap.push (seqObj "list" aF.toArray 0)).get? s.heap.objs.size=some (seqObj "list" aF.toArray 0):=cS _ rfl;by_cases h2:aF.length<2
 ·refine jB slot_list_sort ⟨_,o1,rfl⟩ entry_list_sort (Nh (s:= {s with heap:=s.heap.push (seqObj "list" aF.toArray 0)}) o1 h2 ⟨_,rfl,?_⟩) (args_list_sort _);obtain⟨e,he⟩:=sortedHeap_at (out:=aF.toArray) o1;exists .ref s.heap.objs.size,_,I.laid (a:=s.heap.objs.size) (o:= .aK ys) (t':=s.toks) (λb o hb=> ?_) (aV _) ⟨by rw[l1,jb];lia,aF,e,ri,he⟩,rfl,?_;rw[sortedHeap_old (cp (bL hb)) (by rw[size_push'];exact uB (bL hb))];exact bS _ hb
  ·refine q _ bD ys (I.hok.fresh (aV _)) (List.Perm.refl _) ?_ rs;match bD,l2 with
   | [],_=>exact .nil
   | [_],_=>exact zE _ _
   |_::_::_,h=>simp only[cU]at h;lia
 (obtain⟨m,hm,_⟩:=I.eI;(have F0:Fr vo X.env.locals s.heap m:=⟨hm,λb o e=>(by rw[Gh]at e;cases e),fQ _⟩);have hD: ∀p∈qJ s.heap X.env.locals,p.1<s.heap.objs.size:=λp hp=>bL (tm.mp hp).1;refine kat_lsort (h₀:=vo) (L:=X.env.locals) (m:=m) (vs:=aF) (news:=(s.heap.objs.size,listOf aF.toArray 0)::qJ s.heap X.env.locals) (F0.push _) (News.push F0 (NI _ _) _ rfl) (.head λp hp=>cp (hD p hp)) (by simp) (by lia) (by lia) λe1 h' F' N'=> ?_;have kp: ∀b o,b≠X.env.locals->s.heap.get? b=some o->h'.get? b=some o:=λb o hb e=>(N' (b,o) (.tail _ (tm.mpr ⟨e,hb⟩))).1;have pr:=FI I kp rs ri;obtain⟨fs,t1,t2,t3⟩:=IK oO pr hk;refine kat_kind (T:=xn none) t1 (by lia) (t3 _) rfl ?_;have kt:(xn none !=Value.type "tuple")=true:=rfl;rw[kt];have o:=M0 hk;obtain⟨p1,p2⟩:=SQ.PB o (n:=aF.length) (by lia);refine SQ.I0 (lt:=λi j=>lexLt (gE bD k i) (gE bD k j)) (n:=aF.length) (λi j C hi hj hC=> ?_) (kas_sort aF.length) (SQ.JF (by lia)) ?_;unfold kas_ask;(have fi: ∀i,i<aF.length->uo h' none (aF.getD i Value.none) (gE bD k i):=λi hi=>(by(have hn:i<bD.length:=by lia);have:=Gu pr (br hi) (br hn);unfold gE;simpa [List.getD,br hi,br hn]using this));exact MO (s:= {s with heap:=h'}) (fi i hi) (fi j hj) (by rw[qC hk,qC hk]) hC;generalize SQ.ev (λi j=>lexLt (gE bD k i) (gE bD k j)) (kas_sort aF.length)=pp at p1 p2;refine KasFin.intro F' N' (.head λp hp=>cp (hD p hp)) λh3 c F3 N3=> ?_;have o0: ∀i∈pp.toList,i<aF.length:=λi hi=>List.mem_range.mp (p1.mem_iff.mp hi);have hh:=aG.JT (ys:=pp.toList.map λi=>ys.getD i .aN) (us:=pp.toList.map λi=>aF.getD i Value.none) (c:=c) I hm F3.ns (λp hp=>(N3 p (.tail _ hp)).1) hD (N3 _ (.head _)).2.1 (N3 _ (.head _)).1 (by rw[bq,p1.length_eq,oh,jb];lia) (IS ri pp.toList λi hi=>by have:=o0 i hi;lia);exists .ref s.heap.objs.size,_,hh.2,rfl,q _ (pp.toList.map λi=>gE bD k i) _ hh.1 ?_ ?_ ?_;have e:=Ee (List.replicate k 0) bD;have p3:=p1.map λi=>gE bD k i;(have e2:bD.length=aF.length:=by lia);rw[e2]at e;rw[show(List.range aF.length).map (λi=>gE bD k i)=bD from e]at p3;exact p3;rw[List.pairwise_map];rw[List.pairwise_iff_getElem];intro i j hi hj xu;(have sz:pp.toList.length=aF.length:=by rw[p1.length_eq,oh]);have:=p2 i j (by lia) (by lia);unfold SQ.le SQ.at_ at this;simp only[kd]at hi hj;simpa [pO,kM hi,kM hj]using this;rw[jG];exact GY rs pp.toList λi hi=>by have:=o0 i hi;lia)
end
end L2
namespace W2
open PySem PySem.Spec PyProof.Rows K2 L2
variable{P:af}{w:ag}{K:W.Frag}{mg:aA->ap aa}{base:ak}
def top(i:Nat):Stmt:=PySem.Challenge.pw_wildtakes_k12_whole_in_order.main.body.getD i (.Pass ⟨0,0,0,0⟩)
abbrev HV:Stmt:=top 28
abbrev HJ:Stmt:=top 29
abbrev HK:Stmt:=top 30
abbrev BY:Stmt:=top 31
abbrev HS:Stmt:=top 32
abbrev HP:Stmt:=top 33
abbrev Hi:Stmt:=top 35
abbrev HA:Stmt:=top 36
abbrev Ca:Stmt:=top 37
abbrev HW:Stmt:=top 38
abbrev Ho:Stmt:=top 39
abbrev B9:Stmt:=top 40
abbrev Hm:Stmt:=top 41
structure Tx(mg:Str->Option Value):Prop where
 mw:mg "isinstance"=none
 int:mg "int"=none
 bool:mg "bool"=none
 str:mg "str"=none
 len:mg "len"=none
 all:mg "all"=none
 tuple:mg "tuple"=none
 zip:mg "zip"=none
 enum:mg "enumerate"=none
 range:mg "range"=none
 list:mg "list"=none
 lke:mg "LookupError"=none
 Yh: ∃t,mg "LETTERS"=some (.str "abcdefghijklmnopqrstuvwxyz" t)
 Ya: ∃t,mg "LONGEST_BOX"=some (.int 3 t)
 V6: ∃t,mg "HIGHEST_MARK"=some (.int 9 t)
 hnum: ∃t,mg "HIGHEST_NUMBER"=some (.int 1000000 t)
 Yj: ∃t,mg "LEAST_HANDS"=some (.int 2 t)
 Y6: ∃t,mg "MOST_HANDS"=some (.int 5 t)
 Ny: ∃t,mg "MOST_ROWS"=some (.int 40 t)
def k_same(t:String):W.kitOne K (.type t) (.type t)=some true:=by unfold W.kitOne;rw[aT (by simp)]
def MW:W.kitOne K (.type "int") (.type "bool")=some false:=rfl
def XM:W.kitOne K (.type "tuple") (.type "int")=some false:=rfl
def XI:W.kitOne K (.type "str") (.type "int")=some false:=rfl
def XG:W.kitOne K (.type "NoneType") (.type "int")=some false:=rfl
def MY:W.kitOne K (.type "tuple") (.type "str")=some false:=rfl
def FJ:W.kitOne K (.type "int") (.type "str")=some false:=rfl
def MX:W.kitOne K (.type "NoneType") (.type "str")=some false:=rfl
def A1:W.kitOne K (.type "int") (.type "tuple")=some false:=rfl
def A3:W.kitOne K (.type "str") (.type "tuple")=some false:=rfl
def A2:W.kitOne K (.type "NoneType") (.type "tuple")=some false:=rfl
/---/def xP:PV->Bool
 | .at (.int _)=>true
 |_=>false
inductive mL(f:PV->Bool)(vs:List V)(H:Hp)(Q:VK)(cO:XK):Prop
 |mk (p v:_) (_:vs= [v]) (_:aJ H p v) (_: ∀H',aY H H'->Q (.bl (f p)) H')
def qW{f:PV->Bool}(vs:aq V)(H:Hp)(Q:VK)(E:XK)(h:mL f vs H Q E):vs.length=1:=by obtain⟨p,v,rfl,_⟩:=h;rfl
def a3A:bP ["thing"] ["thing"] (bo HV):=fs
def a03(F:bK K "is_whole" "is_whole" HV f fd)(T:Tx mg):bw P w K mg base bh 1 f fd ["thing"] (mL xP):=by refine F.ok a3A qW λbd A outer s H vs Q E hr h=> ?_;obtain⟨p,v,rfl,rp,q⟩:=h;exists _,bn (bQ (qK (dw lS rfl T.mw ni (aD (pv 0) (aD (mC rfl T.int boot_int (v:= .ty "int") rfl) aO))) (mF (Of (dw lS rfl T.mw ni (aD (pv 0) (aD (mC rfl T.bool boot_bool (v:= .ty "bool") rfl) aO))))))),?_;obtain⟨t,ty,c⟩:=rp.ty (K:=K);have fin:=q H (aY.refl H);(rcases c with⟨xs,rfl,rfl⟩|⟨i,rfl,rfl⟩|⟨x,rfl,rfl⟩|⟨rfl,rfl⟩);exists _,rfl,_,_,_,_,_,rfl,ty,λu z=>z,XM,_,rfl,cG fin;exists _,rfl,_,_,_,_,_,rfl,ty,λu z=>z,k_same _,_,rfl,dj ⟨_,rfl,_,_,_,_,_,rfl,ty,λu z=>z,MW,_,rfl,fin⟩;exists _,rfl,_,_,_,_,_,rfl,ty,λu z=>z,XI,_,rfl,cG fin;exists _,rfl,_,_,_,_,_,rfl,ty,λu z=>z,XG,_,rfl,cG fin
abbrev jE(P:Program)(w:World)(K:W.Frag)(mg:Str->Option Value)(base:Heap)(k:Nat)(x:Str)(f:PV->Bool):Prop:=cP P w K mg base bh k x ["thing"] (mL f)
def a3q:bP ["thing"] ["thing"] (bo HJ):=fs
def a0K(F:bK K "is_mark" "is_mark" HJ f fd)(T:Tx mg)(hw:jE P w K mg base 1 "is_whole" xP):bw P w K mg base bh 2 f fd ["thing"] (mL o7):=by refine F.ok a3q qW λbd A outer s H vs Q E hr h=> ?_;obtain⟨p,v,rfl,rp,q⟩:=h;obtain⟨t9,e9⟩:=T.V6;exists _,bn (bQ (qK (cj hw hr rfl bt (aD (pv 0) aO)) (mF (Gy mB mB ba (pv 0) (kD rfl e9 (v:= .int 9) ⟨_,rfl⟩))))),?_;exists _,rfl,p,v,rfl,rp,λH' sm=>⟨_,rfl,?_⟩;have fin:=q H' sm;cases p with|aC ps=>exact cG fin|«at» a=>cases a with|aN=>exact cG fin|str x=>exact cG fin|int i=>cases(show v= .int i from rp);refine dj ⟨_,rfl,_,_,rfl,rfl,_,rfl,bJ (λc=>⟨_,_,rfl,rfl,?_⟩) λc=> ?_⟩;(have e:o7 (.at (.int i))=decide (i<=9):=by show(decide (0<=i) &&decide (i<=9))=_;rw[c];rfl);rw[e]at fin;exact fin;(have e:o7 (.at (.int i))=false:=by show(decide (0<=i) &&decide (i<=9))=_;rw[Bool.eq_false_iff.mpr c];rfl);rw[e]at fin;exact fin
def a3r:bP ["thing"] ["thing"] (bo HK):=fs
def a0N(F:bK K "is_number" "is_number" HK f fd)(T:Tx mg)(hw:jE P w K mg base 1 "is_whole" xP):bw P w K mg base bh 2 f fd ["thing"] (mL o8):=by refine F.ok a3r qW λbd A outer s H vs Q E hr h=> ?_;obtain⟨p,v,rfl,rp,q⟩:=h;obtain⟨t9,e9⟩:=T.hnum;exists _,bn (bQ (qK (cj hw hr rfl bt (aD (pv 0) aO)) (mF (Gy mB mB (BI CQ (kD rfl e9 (v:= .int 1000000) ⟨_,rfl⟩)) (pv 0) (kD rfl e9 (v:= .int 1000000) ⟨_,rfl⟩))))),?_;exists _,rfl,p,v,rfl,rp,λH' sm=>⟨_,rfl,?_⟩;have fin:=q H' sm;cases p with|aC ps=>exact cG fin|«at» a=>cases a with|aN=>exact cG fin|str x=>exact cG fin|int i=>cases(show v= .int i from rp);refine dj ⟨_,rfl,_,rfl,_,_,rfl,rfl,_,rfl,bJ (λc=>⟨_,_,rfl,rfl,?_⟩) λc=> ?_⟩;(have e:o8 (.at (.int i))=decide (i<=1000000):=by show(decide (-1000000<=i) &&decide (i<=1000000))=_;rw[show decide (-1000000<=i)=true from c];rfl);rw[e]at fin;exact fin;(have e:o8 (.at (.int i))=false:=by show(decide (-1000000<=i) &&decide (i<=1000000))=_;rw[show decide (-1000000<=i)=false from Bool.eq_false_iff.mpr c];rfl);rw[e]at fin;exact fin
def nH:T:= [97,98,99,100,101,102,103,104,105,106,107,108,109,110,111,112,113,114,115,116,117,118,119,120,121,122]
def Yi:("abcdefghijklmnopqrstuvwxyz":aA)=S nH:=by decide+kernel
def Yg(c:Nat):nH.contains c=(decide (97<=c) &&decide (c<=122)):=by by_cases h:c<128;(have: ∀c<128,nH.contains c=(decide (97<=c) &&decide (c<=122)):=by decide+kernel);exact this c h;(have e1:nH.contains c=false:=(by rw[List.contains_eq_mem,decide_eq_false_iff_not];intro hm;(have: ∀x∈nH,x<128:=by decide);exact h (this c hm)));rw[e1,show decide (c<=122)=false from gv (by lia),Bool.and_false]
def Cq{n:Nat}(h:n<=1000):n<=sizeLine:=rH (pH h)
def Zl:(["sign", "thing"]:aq aA).Nodup:=by decide+kernel
def a24:bP ["thing"] ["thing"] (bo BY):=fs
def a0d(F:bK K "is_box" "is_box" BY f fd)(T:Tx mg):bw P w K mg base bh 1 f fd ["thing"] (mL mr):=by refine F.ok a24 qW λbd A outer s H vs Q E hr h=> ?_;obtain⟨p,v,rfl,rp,q⟩:=h;obtain⟨t3,e3⟩:=T.Ya;obtain⟨tl,el⟩:=T.Yh;exists _,be (cN (PW.pt (pB (lw (g9 (dw lS rfl T.mw ni (aD (pv 0) (aD (mC rfl T.str boot_str (v:= .ty "str") rfl) aO))))) (vC (lw (Ot mB mB ba (dw RD rfl T.len pX (aD (pv 0) aO)) (kD rfl e3 (v:= .int 3) ⟨_,rfl⟩)))))) (bn (bQ qL)) dB) (bn (bQ (dw (zX rfl) rfl T.all boot_all (aD (mD (T:= ["sign"]) (lG (bo BY) ["thing"] rfl rfl (by decide+kernel)) rfl (a1J (pv 0)) (λY hY=>by cases hY;exact cC (i:=0) Zl rfl (Or.inl rfl)) iE (λY _=>lv) (λY hY=>by cases hY;exact nM a1a (pv 0) (kD rfl el (v:= .str "abcdefghijklmnopqrstuvwxyz") ⟨_,rfl⟩) rfl)) aO)))),?_;obtain⟨t,ty,c⟩:=rp.ty (K:=K);(rcases c with⟨xs,rfl,rfl⟩|⟨i,rfl,rfl⟩|⟨x,rfl,rfl⟩|⟨rfl,rfl⟩);exists _,rfl,_,_,_,_,_,rfl,ty,λu z=>z,MY,_,rfl,dj (q H (aY.refl H));exists _,rfl,_,_,_,_,_,rfl,ty,λu z=>z,FJ,_,rfl,dj (q H (aY.refl H));(· (obtain⟨e,hx⟩:=(show v= .str (S x)/\x.length<=1000000 from rp));subst e;(have hz:(S x).length<=sizeLine:=by rw[M8,jb];lia);exists _,rfl,_,_,_,_,_,rfl,ty,λu z=>z,k_same _,_,rfl,cG ⟨_,rfl,S x,rfl,hz,_,_,rfl,rfl,_,rfl,?_⟩;rw[M8];refine bJ (λc1=>⟨_,_,rfl,rfl,_,rfl,?_⟩) λc1=>⟨_,rfl,dj ?_⟩;(·refine bJ (λc2=> ?_) λc2=> ?_;have fin:=q H (aY.refl H);(have e:mr (.at (.str x))=false:=(by(have h3: ¬(x.length:Int)<=3:=by simpa using c2);show(decide (1<=x.length) &&decide (x.length<=3) &&_)=false;rw[show decide (x.length<=3)=false from gv (by lia)];simp));rw[e]at fin;exact fin;(·exists _,rfl,x,rfl,iq (n:=x.length) (λi ys H'=>H'=H/\ys=((x.take i).map λc=>nH.contains c).map V.bl) ⟨rfl,by simp⟩ ?_ ?_;(·rintro i ys _ hi ⟨rfl,rfl⟩;exists hi,?_,?_;simp only[bq,kf];exact wF (Nat.min_le_left _ _) (fK hi (by rw[jb];lia));(·rintro y _ ⟨rfl,rfl⟩;refine mQ ?_;exists _,rfl,_,nH,rfl,by rw[Yi],Wc.next hi ⟨rfl,?_⟩;rw[kH hi,cK,cK,sy hi];rfl));rintro ys _ ⟨rfl,rfl⟩;exists rfl,λp hp=>⟨p,(x.take x.length).map λc=>nH.contains c,rfl,aQ.of aL,?_⟩;have fin:=q _ (aM hp (.aK (((x.take x.length).map λc=>nH.contains c).map V.bl)));(have e:mr (.at (.str x))=((x.take x.length).map λc=>nH.contains c).all id:=(by show(decide (1<=x.length) &&decide (x.length<=3) &&_)=_;(have h1:(1:Int)<=x.length:=by simpa using c1);(have h3:(x.length:Int)<=3:=by simpa using c2);rw[show decide (1<=x.length)=true from jN (by lia),show decide (x.length<=3)=true from jN (by lia),pU];simp only[Bool.and_self,Bool.true_and,List.all_map];(congr 1);(funext c);exact(Yg c).symm));rw[e]at fin;exact fin));have fin:=q H (aY.refl H);(have e:mr (.at (.str x))=false:=(by(have h1: ¬(1:Int)<=x.length:=by simpa using c1);show(decide (1<=x.length) &&decide (x.length<=3) &&_)=false;rw[show decide (1<=x.length)=false from gv (by lia)];simp));rw[e]at fin;exact fin);exists _,rfl,_,_,_,_,_,rfl,ty,λu z=>z,MX,_,rfl,dj (q H (aY.refl H))
def a3x:bP ["thing"] ["thing"] (bo HS):=fs
def a00(F:bK K "is_thing" "is_thing" HS f fd)(hn:jE P w K mg base 2 "is_number" o8)(hb:jE P w K mg base 1 "is_box" mr):bw P w K mg base bh 3 f fd ["thing"] (mL o9):=by refine F.ok a3x qW λbd A outer s H vs Q E hr h=> ?_;obtain⟨p,v,rfl,rp,q⟩:=h;exists _,bn (bQ (GC (cj hn hr rfl bt (aD (pv 0) aO)) (mF (cj hb hr rfl bt (aD (pv 0) aO))))),?_;exists _,rfl,p,v,rfl,rp,λH1 s1=>⟨_,rfl,bJ (λc=> ?_) λc=>⟨_,rfl,p,v,rfl,s1.bE rp,λH2 s2=> ?_⟩⟩;have fin:=q H1 s1;rw[show o9 p=true by unfold o9;rw[c];rfl]at fin;exact fin;have fin:=q H2 (s1.trans s2);rw[show o9 p=mr p by unfold o9;rw[Bool.eq_false_iff.mpr c];rfl]at fin;exact fin
def a3v:bP ["thing"] ["thing"] (bo HP):=fs
def a0W(F:bK K "is_rows" "is_rows" HP f fd)(T:Tx mg):bw P w K mg base bh 1 f fd ["thing"] (mL AW):=by refine F.ok a3v qW λbd A outer s H vs Q E hr h=> ?_;obtain⟨p,v,rfl,rp,q⟩:=h;exists _,bn (bQ (dw lS rfl T.mw ni (aD (pv 0) (aD (mC rfl T.tuple jL (v:= .ty "tuple") rfl) aO)))),?_;obtain⟨t,ty,c⟩:=rp.ty (K:=K);have fin:=q H (aY.refl H);(rcases c with⟨xs,rfl,rfl⟩|⟨i,rfl,rfl⟩|⟨x,rfl,rfl⟩|⟨rfl,rfl⟩);exists _,rfl,_,_,_,_,_,rfl,ty,λu z=>z,k_same _,fin;exists _,rfl,_,_,_,_,_,rfl,ty,λu z=>z,A1,fin;exists _,rfl,_,_,_,_,_,rfl,ty,λu z=>z,A3,fin;exists _,rfl,_,_,_,_,_,rfl,ty,λu z=>z,A2,fin
/---/def cW:K2.Kind->T
 | .dc=> [104,97,110,100]
 | .mark=> [109,97,114,107]
 | .kJ=> [116,104,105,110,103]
 | .jK=> [97,110,121,32,104,97,110,100]
 | .kQ=> [97,110,121,32,109,97,114,107]
 | .fc=> [98,111,120]
 | .iJ=> [110,117,109,98,101,114]
 | .rows=> [114,111,119,115]
/---/def A4:Option K2.Kind->V
 |none=> .aN
 |some k=> .str (S (cW k))
def BW:("any hand":aA)=S (cW .jK):=by decide+kernel
def BX:("any mark":aA)=S (cW .kQ):=by decide+kernel
def O6:("hand":aA)=S (cW .dc):=by decide+kernel
def KG(x y:T):km (.str (S x)) (.str (S y))=decide (x=y):=by show(S x==S y)=_;by_cases h:x=y;subst h;simp;rw[gv h];exact beq_false_of_ne λz=>h (pY z)
def Rj(k:ap K2.Kind):mq (A4 k) [.str "any hand",.str "any mark"]=Bo k:=by rw[BW,BX];unfold mq;cases k with|none=>rfl|some k=>simp only[rC,List.any_nil,A4,KG];cases k<;>decide
def Lp(k:K2.Kind):mq (.str (S (cW k))) [.str "hand",.str "any hand"]=(decide (k= .dc)||decide (k= .jK)):=by rw[BW,O6];unfold mq;simp only[rC,List.any_nil,KG];cases k<;>decide
def a23:bP ["kind"] ["kind"] (bo Hi):=fs
inductive PF(vs:List V)(H:Hp)(Q:VK)(cO:XK):Prop
 |mk (k:_) (_:vs= [A4 k]) (_: ∀H',aY H H'->Q (.bl (Bo k)) H')
def XY(k:ap K2.Kind):kn (A4 k)=true:=by cases k<;>rfl
def a0c(F:bK K "may_be_any" "may_be_any" Hi f fd):bw P w K mg base bh 1 f fd ["kind"] PF:=by refine F.ok a23 (λvs H Q E h=> ?_) λbd A outer s H vs Q E hr h=> ?_;obtain⟨k,rfl,_⟩:=h;rfl;obtain⟨k,rfl,q⟩:=h;exists _,bn (bQ (nM Go (pv 0) (cz (aD cy (aD cy aO))) rfl)),?_;exists _,rfl,(by show 2<=sizeLine;decide),λt ht=>⟨t,_,rfl,.inr (aS.of aL),XY k,rfl,?_⟩;have fin:=q _ (aM ht (.aC [.str "any hand",.str "any mark"]));rw[<-Rj]at fin;exact fin
/---/def JY:K2.Kind->PV->Bool
 | .mark=>o7
 | .kQ=>o7
 | .iJ=>o8
 | .fc=>mr
 | .kJ=>o9
 | .rows=>AW
 |_=>λ_=>false
structure Ji(P:Program)(w:World)(K:W.Frag)(mg:Str->Option Value)(base:Heap):Prop where
 ex: ∃a kvs,mg "CHECKS"=some (.ref a)/\rB P w K a kvs/\ ∀k:K2.Kind,k≠ .dc->k≠ .jK-> ∃f fd,jy kvs (S (cW k))=some (.ref f)/\bw P w K mg base bh 3 f fd ["thing"] (mL (JY k))/\gQ K fd ["thing"] []/\W.keepIn K (.ref f)=true
/---/def b9(os:List Int):List V:=os.map V.int
inductive PP(vs:List V)(H:Hp)(Q:VK)(cO:XK):Prop
 |mk (p v k o os:_) (_:vs= [v,.str (S (cW k)),.ref o]) (_:aJ H p v) (_:H o=some (.aK (b9 os))) (_: ∀H',aY H H'->Q (.bl (fits os p k)) H')
def Xm(os:aq Int):(b9 os).all kn=true:=by unfold b9;rw[List.all_map];exact List.all_eq_true.mpr λ_ _=>rfl
def Xe(i:Int)(os:aq Int):mq (.int i) (b9 os)=os.contains i:=by unfold mq b9;rw[List.any_map,List.contains_eq_any_beq];(congr 1;funext y);(show(y==i)=(i==y));exact Bool.beq_comm
def Pg:bP ["thing", "kind", "others", "check"] ["thing", "kind", "others"] (bo HA):=fs
def TV{os:aq Int}{p:PV}{k:K2.Kind}(hn:p≠ .at .aN)(hk:k= .dc\/k= .jK):fits os p k=AU os p:=by
 rcases hk with rfl|rfl<;>(cases p with
  |aC ps=>rfl
  |«at» a=>cases a<;>first|rfl|exact absurd rfl hn)
def TU{os:aq Int}{p:PV}{k:K2.Kind}(hn:p≠ .at .aN)(h1:k≠ .dc)(h2:k≠ .jK):fits os p k=JY k p:=by
 cases k<;>first|exact absurd rfl h1|exact absurd rfl h2|(cases p with
  |aC ps=>rfl
  |«at» a=>cases a<;>first|rfl|exact absurd rfl hn)
def a2H(r:aJ H p v)(hn:p≠ .at .aN):v≠ .aN:=by cases p with|aC ps=>obtain⟨a,vs,rfl,_⟩:=r.aC;exact λz=>by cases z|«at» a=>cases a with|aN=>exact absurd rfl hn|int i=>cases(show v= .int i from r);exact λz=>by cases z|str x=>obtain⟨e,_⟩:=(show v= .str (S x)/\_ from r);subst e;exact λz=>by cases z
def a0z(F:bK K "fits_place" "fits_place" HA f fd)(T:Tx mg)(hm:cP P w K mg base bh 1 "may_be_any" ["kind"] PF)(hw:jE P w K mg base 1 "is_whole" xP)(C:Ji P w K mg base):bw P w K mg base bh 4 f fd ["thing", "kind", "others"] PP:=by refine F.ok Pg (λvs H Q E h=> ?_) λbd A outer s H vs Q E hr h=> ?_;obtain⟨p,v,k,o,os,rfl,_⟩:=h;rfl;obtain⟨p,v,k,o,os,rfl,rp,ho,q⟩:=h;obtain⟨a,kvs,ma,D,ck⟩:=C.ex;exists _,be (cN (pA (yc (pv 0))) (bn (bQ (cj hm hr rfl bt (aD (pv 1) aO)))) dB) (be (cN (cY Go (pv 1) (cz (aD cy (aD cy aO))) rfl) (bn (bQ (qK (cj hw hr rfl bt (aD (pv 0) aO)) (mF (nM Go (pv 0) (pv 2) rfl))))) dB) (be (cA (i:=3) Pg.nd rfl (Or.inl rfl) (bI (MU D) (kD rfl ma (v:= .ref a) rfl) (pv 1) λ_ _=>rfl)) (bn (bQ (Oc (k:=3) 3 hr (aD (pv 0) aO)))))),?_;by_cases hn:p= .at .aN;subst hn;cases(show v= .aN from rp);exists _,rfl,_,rfl,dj ⟨_,rfl,some k,rfl,λH' sm=>q H' sm⟩;have hv:=a2H rp hn;exists _,rfl,_,rfl,bJ (λc=>absurd (lu c) hv) λ_=> ?_;exists _,rfl,(by show 2<=sizeLine;decide),λt ht=>⟨t,_,rfl,.inr (aS.of aL),rfl,rfl,_,rfl,?_⟩;have s0:aY H (upd H t (.aC [.str "hand",.str "any hand"])):=aM ht _;refine bJ (λc=> ?_) λc=> ?_;((have hk:k= .dc\/k= .jK:=(by have c':mq (.str (S (cW k))) [.str "hand",.str "any hand"]=true:=c;rw[Lp]at c';simpa using c'));exists _,rfl,p,v,rfl,s0.bE rp,λH1 s1=>⟨_,rfl,?_⟩;have fin:=q H1 (s0.trans s1);rw[TV hn hk]at fin;cases p with|aC ps=>exact cG fin|«at» b=>cases b with|aN=>exact cG fin|str x=>exact cG fin|int i=>cases(show v= .int i from rp);refine dj ⟨_,rfl,_,rfl,o,_,rfl,.inl (aQ.of (s1 _ _ (s0 _ _ ho))),rfl,Xm os,?_⟩;show Q (.bl (mq (.int i) (b9 os))) H1;rw[Xe];exact fin);have hk: ¬(k= .dc\/k= .jK):=λz=>c (by show mq (.str (S (cW k))) [.str "hand",.str "any hand"]=true;rw[Lp];simpa using z);have h1:k≠ .dc:=λz=>hk (.inl z);have h2:k≠ .jK:=λz=>hk (.inr z);obtain⟨f2,D7,e2,F2,B2,xR⟩:=ck k h1 h2;exists _,rfl,_,_,rfl,rfl,e2,f2,D7,_,_,rfl,F2,B2,xR,_,rfl,p,v,rfl,s0.bE rp,λH1 s1=> ?_;have fin:=q H1 (s0.trans s1);rw[TU hn h1 h2]at fin;exact fin
/---/def pe(ks:List K2.Kind):List V:=ks.map λk=> .str (S (cW k))
structure Jl(P:Program)(w:World)(K:W.Frag)(mg:Str->Option Value):Prop where
 ex: ∃a kvs,mg "FORMS"=some (.ref a)/\rB P w K a kvs/\(∀x ks,iZ x=some ks-> ∃b,jy kvs (S x)=some (.ref b)/\ ∀H,aS K H b (pe ks))/\ ∀x,iZ x=none->jy kvs (S x)=none
inductive P4(vs:List V)(H:Hp)(Q:VK)(cO:XK):Prop
 |mk (p v o os:_) (_:vs= [v,.ref o]) (_:aJ H p v) (_:H o=some (.aK (b9 os))) (_: ∀H',aY H H'->Q (.bl (iH os p)) H')
def DK(v:V)(vr:aq V):ia (v::vr) (some 1) none=vr:=by unfold ia;(have e:HT.bN (v::vr).length 0 (some 1)=1:=(by have:=HT.B6 (v::vr).length 0 1;rw[show((1:Nat):Int)=1 from rfl]at this;rw[this,cU];lia));rw[e,HT.O7];simp
def NG:(["thing", "kind", "row", "others", "form"]:aq aA).Nodup:=by decide+kernel
def Pk:bP ["row", "others", "form"] ["row", "others"] (bo Ca):=fs
def a0V(F:bK K "is_row" "is_row" Ca f fd)(T:Tx mg)(hf:cP P w K mg base bh 4 "fits_place" ["thing", "kind", "others"] PP)(C:Jl P w K mg):bw P w K mg base bh 5 f fd ["row", "others"] P4:=by refine F.ok Pk (λvs H Q E h=> ?_) λbd A outer s H vs Q E hr h=> ?_;obtain⟨p,v,o,os,rfl,_⟩:=h;rfl;obtain⟨p,v,o,os,rfl,rp,ho,q⟩:=h;obtain⟨a,kvs,ma,D,Ub,TZ⟩:=C.ex;exists _,be (cN (PW.pt (pB (lw (g9 (dw lS rfl T.mw ni (aD (pv 0) (aD (mC rfl T.tuple jL (v:= .ty "tuple") rfl) aO))))) (pB (cY jt (dw jh rfl T.len pX (aD (pv 0) aO)) ba (cQ _)) (vC (lw (g9 (dw lS rfl T.mw ni (aD (bI vh (pv 0) ba λ_ _=>rfl) (aD (mC rfl T.str boot_str (v:= .ty "str") rfl) aO))))))))) (bn (bQ qL)) dB) (be (cA (i:=2) Pk.nd rfl (Or.inl rfl) (a1v (XO D) zO wH PySem.F.type_dict_get (Zd D) (kD rfl ma (v:= .ref a) rfl) (aD (bI vh (pv 0) ba λ_ _=>rfl) aO))) (be (cN (PW.pt (pB (pA (yc (pv 2))) (vC (cY tH (dw jh rfl T.len pX (aD (pv 0) aO)) (df px (dw jh rfl T.len pX (aD (pv 2) aO)) ba) (cQ _))))) (bn (bQ qL)) dB) (bn (bQ (dw (zX rfl) rfl T.all boot_all (aD (mD (T:= ["thing", "kind"]) (lG (bo Ca) ["row", "others", "form"] rfl rfl (by decide+kernel)) rfl (a1L rfl T.zip (aD (tI Pr (pv 0) (tL ba) tK) (aD (pv 2) aO))) (λY hY=>by cases hY;exact nO rfl (gN (cC (i:=0) NG rfl (Or.inl rfl)) (gN (cC (i:=1) NG rfl (Or.inl rfl)) nP))) KW (λY _=>lv) (λY hY=>by cases hY;exact cj hf hr rfl bt (aD (pv 0) (aD (pv 1) (aD (pv 3) aO))))) aO)))))),?_;(have no:iH os p=false->Q (.bl false) H:=λe=>by have fin:=q H (aY.refl H);rw[e]at fin;exact fin);obtain⟨t,ty,c⟩:=rp.ty (K:=K);(rcases c with⟨ps,rfl,rfl⟩|⟨i,rfl,rfl⟩|⟨x,rfl,rfl⟩|⟨rfl,rfl⟩);(rotate_left);exists _,rfl,_,_,_,_,_,rfl,ty,λu z=>z,A1,_,rfl,dj (no rfl);exists _,rfl,_,_,_,_,_,rfl,ty,λu z=>z,A3,_,rfl,dj (no rfl);exists _,rfl,_,_,_,_,_,rfl,ty,λu z=>z,A2,_,rfl,dj (no rfl);obtain⟨b,vs,rfl,hb,rs⟩:=rp.aC;exists _,rfl,_,_,_,_,_,rfl,ty,λu z=>z,k_same _,_,rfl,cG ?_;exists _,rfl,b,_,rfl,.inr (aS.of hb),rfl,_,rfl,?_;cases ps with|nil=>cases(show vs= []from by simpa only[aE]using rs);exact bJ (λ_=>dj (no rfl)) (λc=>absurd rfl c)|cons p0 pr=>(obtain⟨v0,vr,rfl,r0,rr⟩:=(show ∃v r,vs=v::r/\aJ H p0 v/\aE H pr r from by simpa only[aE]using rs));refine bJ (λc=> ?_) λ_=> ?_;have z:=lu c;(injection z with z);rw[cU]at z;lia;have iC:kR (v0::vr) 0=some v0:=gq (j:=0) rfl;obtain⟨t0,CP,c0⟩:=r0.ty (K:=K);(rcases c0 with⟨qs,rfl,rfl⟩|⟨i,rfl,rfl⟩|⟨x,rfl,rfl⟩|⟨rfl,rfl⟩);exists _,rfl,b,_,0,v0,rfl,rfl,aS.of hb,iC,_,_,_,_,_,rfl,CP,λu z=>z,MY,_,rfl,dj (no rfl);exists _,rfl,b,_,0,v0,rfl,rfl,aS.of hb,iC,_,_,_,_,_,rfl,CP,λu z=>z,FJ,_,rfl,dj (no rfl);(rotate_left);exists _,rfl,b,_,0,v0,rfl,rfl,aS.of hb,iC,_,_,_,_,_,rfl,CP,λu z=>z,MX,_,rfl,dj (no rfl);(obtain⟨e0,hx⟩:=(show v0= .str (S x)/\x.length<=1000000 from r0));subst e0;exists _,rfl,b,_,0,_,rfl,rfl,aS.of hb,iC,_,_,_,_,_,rfl,CP,λu z=>z,k_same _,_,rfl,cG ?_;exists rfl,_,rfl,b,_,0,_,rfl,rfl,aS.of hb,iC,rfl,S x,.inl ⟨rfl,?_⟩;cases xq:iZ x with|none=>rw[TZ x xq];exists _,rfl,_,rfl,dj (dj (no ?_));show(match iZ x with|some ks=>_|none=>false)=false;rw[xq]|some ks=>obtain⟨fa,e1,e2⟩:=Ub x ks xq;rw[e1];exists _,rfl,_,rfl,bJ (λc=>absurd (lu c) (by intro z;cases z)) λ_=> ?_;exists _,rfl,b,_,rfl,.inr (aS.of hb),_,rfl,fa,_,rfl,.inr (e2 _),_,_,rfl,rfl,rfl,_,rfl,?_;(have lk:(pe ks).length=ks.length:=by unfold pe;rw[bq]);have lr:=rr.len;(have OQ:iH os (.aC (.at (.str x)::pr))=(decide (pr.length=ks.length) &&xa os pr ks):=(by show(match iZ x with|some ks=>_|none=>false)=_;rw[xq]));refine bJ (λc=> ?_) λc=> ?_;refine no ?_;(have: ¬(V.int (((V.str (S x)::vr).length:Nat):Int)=V.int (((pe ks).length:Int)+1)):=by simpa using c);rw[OQ,show decide (pr.length=ks.length)=false from gv λz=>this (by rw[cU,lk,<-lr,z];simp)];rfl;(· (have hl:pr.length=ks.length:=(by(have:V.int (((V.str (S x)::vr).length:Nat):Int)=V.int (((pe ks).length:Int)+1):=by simpa using c);(injection this with z);rw[cU,lk]at z;lia));exists _,rfl,1,rfl,b,_,rfl,aS.of hb,?_,λt ht=> ?_;rw[show HT.bN (V.str (S x)::vr).length 0 (some 1)=1 from by have:=HT.B6 (V.str (S x)::vr).length 0 1;rw[show((1:Nat):Int)=1 from rfl]at this;rw[this,cU];lia];intro z;exact absurd z.1 (by decide);rw[DK];have s0:aY H (upd H t (.aC vr)):=aM ht _;exists _,rfl,t,fa,vr,_,rfl,aS.of aL,e2 _,by lia,?_;refine iq (n:=vr.length) (λi ys H'=>aY (upd H t (.aC vr)) H'/\ys=(((pr.zip ks).take i).map λz=>fits os z.1 z.2).map V.bl) ⟨aY.refl _,by simp⟩ ?_ ?_;(·rintro i ys H1 hi ⟨s1,rfl⟩;exists⟨hi,s1.CA (aS.of aL),e2 _⟩,?_,?_;simp only[bq,kf];exact wF (Nat.min_le_left _ _) (fK hi (Cq (by have:=(KY xq).2.1;lia)));(·rintro y _ ⟨t2,xH,rfl,rfl⟩;have s2:=aM xH (.aC [vr.getD i .aN,(pe ks).getD i .aN]);(have hp:i<pr.length:=by lia);(have hk:i<ks.length:=by lia);(have VX:i<(pe ks).length:=by lia);obtain⟨w1,i6,G7⟩:=rr.get' (br hp);(have ew:vr.getD i .aN=w1:=by rw[sy hi];rw[br hi]at i6;exact gp i6);(have ek:(pe ks).getD i .aN= .str (S (cW ks[i])):=by rw[sy VX];simp[pe]);exists t2,_,rfl,aS.of aL,rfl,_,_,rfl,_,_,rfl,rfl,a47 ?_;exists _,rfl,_,rfl,_,rfl,pr[i],_,ks[i],o,os,by rw[ek];rfl,?_,?_,λH3 s3=>Wc.next hi ⟨?_,?_⟩;rw[ew];exact(s0.trans (s1.trans s2)).bE G7;exact s2 _ _ (s1 _ _ (s0 _ _ ho));exact s1.trans (s2.trans s3);rw[kH (by rw[List.length_zip];lia),cK,cK];simp));rintro ys H1 ⟨s1,rfl⟩;exists⟨rfl,s1.CA (aS.of aL),e2 _⟩,λp hp=>⟨p,((pr.zip ks).take vr.length).map λz=>fits os z.1 z.2,rfl,aQ.of aL,?_⟩;have fin:=q _ (s0.trans (s1.trans (aM hp (.aK ((((pr.zip ks).take vr.length).map λz=>fits os z.1 z.2).map V.bl)))));rw[OQ,jN hl,Bool.true_and]at fin;(have e9:xa os pr ks=(((pr.zip ks).take vr.length).map λz=>fits os z.1 z.2).all id:=(by unfold xa;rw[wB (by rw[List.length_zip];lia),List.all_map];rfl));rw[e9]at fin;exact fin)
def vN:("case":aA)=S dZ:=by decide+kernel
inductive P8(vs:List V)(H:Hp)(Q:VK)(cO:XK):Prop
 |mk (p v os:_) (_:vs= [v]) (_:aJ H p v) (_:iH os p=true) (_: ∀r ws H',aY H H'->H' r=some (.aK ws)->aE H' (ig p) ws->ws.length<=2->Q (.ref r) H')
def a3B:bP ["row"] ["row"] (bo HW):=fs
def a04(F:bK K "rows_within" "rows_within" HW f fd):bw P w K mg base bh 1 f fd ["row"] P8:=by
 refine F.ok a3B (λvs H Q E h=> ?_) λbd A outer s H vs Q E hr h=> ?_;obtain⟨p,v,os,rfl,_⟩:=h;rfl;obtain⟨p,v,os,rfl,rp,hp,q⟩:=h;exists _,bn (bQ (BH (cY jt (bI vh (pv 0) ba λ_ _=>rfl) cy (cQ _)) (fO (aD (bI vh (pv 0) ba λ_ _=>rfl) (aD (bI vh (pv 0) ba λ_ _=>rfl) aO))) (fO aO))),?_;obtain⟨x,aF,ks,rfl,hf,hl,LG⟩:=AV hp;obtain⟨b,vs,rfl,hb,rs⟩:=rp.aC;(obtain⟨v0,vr,rfl,r0,rr⟩:=(show ∃v r,vs=v::r/\aJ H (.at (.str x)) v/\aE H aF r from by simpa only[aE]using rs));(obtain⟨e0,hx⟩:=(show v0= .str (S x)/\x.length<=1000000 from r0));subst e0;exists _,rfl,b,_,0,_,rfl,rfl,aS.of hb,gq (j:=0) rfl,rfl,_,rfl,bJ (λc=> ?_) λc=> ?_
 ·(have FA:x=dZ:=(by have z:=lu c;(injection z with z);exact pY (z.trans vN)));subst FA;(have xy:ks= [.fc,.iJ,.rows,.rows]:=(by(have:iZ dZ=some [.fc,.iJ,.rows,.rows]:=by decide);rw[this]at hf;exact(gp hf).symm));subst xy;match aF,hl,rr,vr,hb with
  | [i1,i2,i3,i4],_,rr,vr,hb=>simp only[aE]at rr;obtain⟨w1,r1,rfl,h1,w2,r2,rfl,h2,w3,r3,rfl,h3,w4,r4,rfl,h4,rfl⟩:=rr;exists _,rfl,b,_,3,w3,rfl,rfl,aS.of hb,gq (j:=3) rfl,_,rfl,b,_,4,w4,rfl,rfl,aS.of hb,gq (j:=4) rfl,(by show 2<=sizeLine;decide),λr xD=> ?_;have s0:aY H (upd H r (.aK [w3,w4])):=aM xD _;exact q r _ _ s0 aL (by show aE _ [i3,i4] _;exact aE.cons (s0.bE h3) (aE.dY (s0.bE h4))) (aV 2)
 exists(by show 0<=sizeLine;decide),λr xD=> ?_;(have e:ig (.aC (.at (.str x)::aF))= []:=(by have FA:x≠dZ:=λz=>c (by subst z;rw[vN];simp);unfold ig;split;rename_i y _ _ _ _ z;(injection z with z);(injection z with z _);(injection z with z);(injection z with z);subst z;rw[aU FA];rfl));refine q r _ _ (aM xD (.aK [])) aL ?_ (by decide);rw[e];exact aE.nil
/---/def N4:Option Nat->V
 |none=> .aN
 |some n=> .int n
inductive PJ(vs:List V)(H:Hp)(Q:VK)(cO:XK):Prop
 |mk (p v o os:_) (_:vs= [v,.ref o]) (_:aJ H p v) (_:H o=some (.aK (b9 os))) (_: ∀H',aY H H'->Q (N4 (count os p)) H')
def vP:bP ["script", "others", "many", "pending", "rows", "row"] ["script", "others"] (bo Ho):=fs
structure Jh(H0:Hp)(os:List Int)(o:Addr)(v:V)(res:Option Nat)(pd:Addr)(f:Nat)(σ:L2.St)(H:Hp):Prop where
 ex: ∃ (gF:Nat) (st:List PV) (vs:List V) (r1 r2:Option V),σ= [some v,some (.ref o),some (.int gF),some (.ref pd),r1,r2]/\aY H0 H/\H pd=some (.aK vs)/\aE H st.reverse vs/\gF<=40/\walk os f gF st=res/\2*(40-gF)+st.length<f/\f<=100
def a0i(F:bK K "count_rows" "count_rows" Ho f fd)(T:Tx mg)(nB:cP P w K mg base bh 5 "is_row" ["row", "others"] P4)(WV:cP P w K mg base bh 1 "rows_within" ["row"] P8):bw P w K mg base bh 6 f fd ["script", "others"] PJ:=by refine F.ok vP (λvs H Q E h=> ?_) λbd A outer s H vs Q E hr h=> ?_;obtain⟨p,v,o,os,rfl,_⟩:=h;rfl;obtain⟨p,v,o,os,rfl,rp,ho,q⟩:=h;obtain⟨t40,DU⟩:=T.Ny;exists _,(be (cA (i:=2) vP.nd rfl (Or.inl rfl) ba) (be (cA (i:=3) vP.nd rfl (Or.inl rfl) (fO (aD (pv 0) aO))) (be (a10 ki (a11 (pv 3) λ_=>rfl) (be (cA (i:=4) vP.nd rfl (Or.inl rfl) (a1u mY PySem.F.slot_list_pop PySem.F.type_list_pop Ze (pv 3))) (be (cN (lw (g9 (dw lS rfl T.mw ni (aD (pv 4) (aD (mC rfl T.tuple jL (v:= .ty "tuple") rfl) aO))))) (bn (bQ mE)) dB) (be (Oq (i:=2) vP.nd rfl (Or.inl rfl) (dw jh rfl T.len pX (aD (pv 4) aO)) AT) (be (cN (cY vy (pv 2) (kD rfl DU (v:= .int 40) ⟨_,rfl⟩) (cQ _)) (bn (bQ mE)) dB) (bn (kE ki rfl (ye (pv 4)) (cC (i:=5) vP.nd rfl (Or.inl rfl)) (be (cN (lw (g9 (cj nB hr rfl bt (aD (pv 5) (aD (pv 1) aO))))) (bn (bQ mE)) dB) (bn (fg (nL mY PySem.F.slot_list_extend PySem.F.type_list_extend Nz (pv 3) (aD (cj WV hr rfl bt (aD (pv 5) aO)) aO)))))))))))) (bn (bQ (pv 2)))))),?_;exists _,rfl,(by show 1<=sizeLine;decide),λpd E6=> ?_;have s0:aY H (upd H pd (.aK [v])):=aM E6 _;exists Jh H os o v (count os p) pd,⟨100,0,[p],[v],none,none,rfl,s0,aL,aE.dY (s0.bE rp),by decide,rfl,(by show 2*40+1<100;decide),by decide⟩,?_;rintro m σ H1 ⟨gF,st,vs,r1,r2,rfl,s1,h1,rs,hm,hw,hf,a5f⟩;exists _,rfl, !vs.isEmpty,.inl ⟨_,aQ.of h1,rfl⟩,?_;(obtain⟨m',rfl⟩: ∃m',m=m'+1:=⟨m-1,by lia⟩);cases st with|nil=>cases(show vs= []from by simpa only[List.reverse_nil,aE]using rs);have fin:=q H1 s1;rw[<-hw]at fin;exact cG ⟨_,rfl,fin⟩|cons x rest=>rw[List.reverse_cons]at rs;obtain⟨dl,y,rfl,OG,ry⟩:=GZ rs;have Yb:=OG.len;rw[List.length_reverse]at Yb;rw[cU]at hf;(have hne:(!(dl++ [y]).isEmpty)=true:=by cases dl<;>rfl);rw[aT hne];exists Jh H os o v (count os p) pd m',λσ' H' z=>⟨m',wG _,z⟩,?_;exists _,rfl,.inl ⟨rfl,_,aQ.of h1⟩,pd,_,y,rfl,rfl,h1,(by simp),?_;rw[List.dropLast_concat];have t2:bO H1 (upd H1 pd (.aK dl)):=we h1;have s2:aY H (upd H1 pd (.aK dl)):=HY E6 s1;have pF:=t2.bE ry;obtain⟨tt,ty,c⟩:=pF.ty (K:=K);(have no:count os p=none-> ∀H',aY H H'->Q .aN H':=λe H' z=>by have fin:=q H' z;rw[e]at fin;exact fin);(rcases c with⟨ps,rfl,rfl⟩|⟨i,rfl,rfl⟩|⟨x,rfl,rfl⟩|⟨rfl,rfl⟩);(rotate_left);exists _,rfl,_,_,_,_,_,rfl,ty,λu z=>z,A1,_,rfl,dj (no hw.symm _ s2);exists _,rfl,_,_,_,_,_,rfl,ty,λu z=>z,A3,_,rfl,dj (no hw.symm _ s2);exists _,rfl,_,_,_,_,_,rfl,ty,λu z=>z,A2,_,rfl,dj (no hw.symm _ s2);obtain⟨b,ws,rfl,hb,lE⟩:=pF.aC;have F4:=lE.len;have dW:(if 40<gF+ps.length then none else if ps.all (iH os)then walk os m' (gF+ps.length) ((ps.flatMap ig).reverse++rest)else none)=count os p:=hw;exists _,rfl,_,_,_,_,_,rfl,ty,λu z=>z,k_same _,_,rfl,cG ?_;exists _,rfl,_,rfl,b,_,rfl,.inr (aS.of hb),_,_,rfl,rfl,?_;exists _,rfl,_,_,rfl,rfl,_,rfl,bJ (λc=> ?_) λc=> ?_;have Ux:(40:Int)<(gF:Int)+(ws.length:Int):=lu c;rw[aT (by lia)]at dW;exact no dW.symm _ s2;have Ux: ¬(40:Int)<(gF:Int)+(ws.length:Int):=λz=>c (jN z);rw[aU (by lia)]at dW;exists _,rfl,b,rfl,⟨_,aS.of hb⟩,T3 (xs:=ws) (λi σ' H'=> ∃us r5,σ'= [some v,some (.ref o),some (.int ((gF:Int)+(ws.length:Int))),some (.ref pd),some (.ref b),r5]/\aY H H'/\H' pd=some (.aK (dl++us))/\aE H' rest.reverse dl/\aE H' ps ws/\H' b=some (.aC ws)/\aE H' ((ps.take i).flatMap ig) us/\(ps.take i).all (iH os)=true) ?_ ?_ ?_ ?_;exact⟨[],_,rfl,s2,by rw[kO];exact aL,t2.bC OG,lE,hb,by simp[aE],by simp⟩;rintro i σ' H' _ ⟨us,r5,_,_,_,_,_,hb',_⟩;exact aS.of hb';rintro i x σ' H' hx ⟨us,r5,rfl,s3,h3,r3,r4,qi,yi,hall⟩;obtain⟨pi,oS,OT⟩:=r4.get hx;have hi:i<ps.length:=(List.getElem?_eq_some_iff.mp oS).1;(have Me:ps[i]=pi:=by rw[br hi]at oS;exact gp oS);exists _,rfl,_,rfl,pi,x,o,os,rfl,OT,s3 _ _ ho,λH4 s4=>⟨_,rfl,bJ (λc=> ?_) λc=> ?_⟩;(have Vl:iH os pi=false:=by simpa using c);rw[aU (by intro hz;have:=List.all_eq_true.mp hz pi (dR oS);rw[Vl]at this;cases this)]at dW;exact no dW.symm _ (s3.trans s4);(have LK:iH os pi=true:=by simpa using c);have h4:=s4 _ _ h3;exists _,rfl,.inl ⟨rfl,_,aQ.of h4⟩,_,rfl,pi,x,os,rfl,s4.bE OT,LK,λr IP H5 s5 Wz OU hz=> ?_;have h5:=s5 _ _ h4;have l1:=yi.len;have l2:=sr (ps.take i);rw[kf]at l2;exists pd,r,_,IP,rfl,rfl,h5,Wz,?_,?_;rw[gn];exact Cq (by lia);have t6:bO H5 (upd H5 pd (.aK (dl++us++IP))):=we h5;have CC:=(s4.trans s5).bA.trans t6;exists us++IP,_,rfl,HY E6 (s3.trans (s4.trans s5)),by rw[<-List.append_assoc];exact aL,CC.bC r3,CC.bC r4,CC _ _ qi,?_,?_;rw[kH hi,List.flatMap_append,Me];refine(CC.bC yi).append ?_;simp only[zy,List.flatMap_nil,kO];exact t6.bC OU;rw[kH hi,List.all_append,hall,Me];simp[LK];rintro σ' H' ⟨us,r5,rfl,s3,h3,r3,r4,qi,yi,hall⟩;rw[wB (by lia)]at yi hall;rw[aT hall]at dW;refine⟨gF+ps.length,_,_,some (.ref b),r5,?_,s3,h3,?_,by lia,dW,?_,by lia⟩;rw[F4];simp;rw[List.reverse_append,List.reverse_reverse];exact r3.append yi;have:=sr ps;rw[gn,List.length_reverse];lia
def Zw:(["other", "thing", "many", "hand", "script", "others", "rows"]:aq aA).Nodup:=by decide+kernel
def tT:bP ["thing", "many", "hand", "script", "others", "rows"] ["thing"] (bo B9):=fs
def BF(i dc:Nat):(((List.range (i+1)).filter (· ≠dc)).map λ(k:Nat)=>(k:Int))=(((List.range i).filter (· ≠dc)).map λ(k:Nat)=>(k:Int))++(if i≠dc then [(i:Int)]else []):=by rw[zF,uq,cK];by_cases h:i=dc<;>simp[h]
def a0R(F:bK K "is_program" "is_program" B9 f fd)(T:Tx mg)(hc:cP P w K mg base bh 6 "count_rows" ["script", "others"] PJ):bw P w K mg base bh 7 f fd ["thing"] (mL iG):=by refine F.ok tT qW λbd A outer s H vs Q E hr h=> ?_;obtain⟨p,v,rfl,rp,q⟩:=h;obtain⟨t40,DU⟩:=T.Ny;obtain⟨t2,e2⟩:=T.Yj;obtain⟨t5,e5⟩:=T.Y6;exists _,(be (cN (PW.pt (pB (lw (g9 (dw lS rfl T.mw ni (aD (pv 0) (aD (mC rfl T.tuple jL (v:= .ty "tuple") rfl) aO))))) (vC (lw (Ot mB mB (kD rfl e2 (v:= .int 2) ⟨_,rfl⟩) (dw jh rfl T.len pX (aD (pv 0) aO)) (kD rfl e5 (v:= .int 5) ⟨_,rfl⟩)))))) (bn (bQ qL)) dB) (be (cA (i:=1) tT.nd rfl (Or.inl rfl) ba) (be (kE ki rfl (Om rfl T.enum (aD (pv 0) aO)) (nO rfl (gN (cC (i:=2) tT.nd rfl (Or.inr rfl)) (gN (cC (i:=3) tT.nd rfl (Or.inl rfl)) nP))) (be (tM (i:=4) (T:= ["other"]) (lG (bo B9) ["thing", "many", "hand", "script", "others", "rows"] rfl rfl (by decide+kernel)) rfl tT.nd rfl rfl (pz rfl T.range (aD (dw jh rfl T.len pX (aD (pv 0) aO)) aO)) (λY hY=>by cases hY;exact cC (i:=0) Zw rfl (Or.inl rfl)) iE (λY hY=>by cases hY;exact qM (cY tH (pv 0) (pv 3) (cQ _))) (λY hY=>by cases hY;exact pv 0)) (be (cA (i:=5) tT.nd rfl (Or.inl rfl) (cj hc hr rfl bt (aD (pv 3) (aD (pv 4) aO)))) (be (cN (pA (yc (pv 5))) (bn (bQ qL)) dB) (bn (Oq (i:=1) tT.nd rfl (Or.inl rfl) (pv 5) AT)))))) (bn (bQ (nM mB (pv 1) (kD rfl DU (v:= .int 40) ⟨_,rfl⟩) (cQ _))))))),?_;obtain⟨t,ty,c⟩:=rp.ty (K:=K);(have no:iG p=false-> ∀H',aY H H'->Q (.bl false) H':=λe H' z=>by have fin:=q H' z;rw[e]at fin;exact fin);(rcases c with⟨ss,rfl,rfl⟩|⟨i,rfl,rfl⟩|⟨x,rfl,rfl⟩|⟨rfl,rfl⟩);(rotate_left);exists _,rfl,_,_,_,_,_,rfl,ty,λu z=>z,A1,_,rfl,dj (dj (no rfl H (aY.refl H)));exists _,rfl,_,_,_,_,_,rfl,ty,λu z=>z,A3,_,rfl,dj (dj (no rfl H (aY.refl H)));exists _,rfl,_,_,_,_,_,rfl,ty,λu z=>z,A2,_,rfl,dj (dj (no rfl H (aY.refl H)));obtain⟨a,vs,rfl,ha,rs⟩:=rp.aC;have ls:=rs.len;have GI:iG (.aC ss)=(decide (2<=ss.length) &&decide (ss.length<=5) && (match iX ss.length 0 ss with|some m=>decide (m<=40)|none=>false)):=rfl;exists _,rfl,_,_,_,_,_,rfl,ty,λu z=>z,k_same _,_,rfl,cG ?_;exists _,rfl,a,_,rfl,.inr (aS.of ha),_,_,rfl,rfl,_,rfl,bJ (λc1=>⟨_,_,rfl,rfl,_,rfl,?_⟩) λc1=>⟨_,rfl,dj ?_⟩;(rotate_left);(have: ¬(2:Int)<=vs.length:=by simpa using c1);refine no ?_ H (aY.refl H);rw[GI,show decide (2<=ss.length)=false from gv (by lia)];rfl;refine bJ (λc2=> ?_) λc2=> ?_;(have: ¬(vs.length:Int)<=5:=by simpa using c2);refine no ?_ H (aY.refl H);rw[GI,show decide (ss.length<=5)=false from gv (by lia),Bool.and_false];rfl;(have h2:(2:Int)<=vs.length:=by simpa using c1);(have h5:(vs.length:Int)<=5:=by simpa using c2);(have Op:iG (.aC ss)=(match iX ss.length 0 ss with|some m=>decide (m<=40)|none=>false):=(by rw[GI,show decide (2<=ss.length)=true from jN (by lia),show decide (ss.length<=5)=true from jN (by lia)];rfl));exists _,rfl,a,_,rfl,aS.of ha,?_;refine su (n:=vs.length) (λi σ' H'=> ∃ (m:Nat) (r2 r3 r4 r5:ap V),σ'= [some (.ref a),some (.int m),r2,r3,r4,r5]/\aY H H'/\iX ss.length 0 ss=(iX ss.length i (ss.drop i)).map (m+ ·)) ?_ ?_ ?_;exact⟨0,none,none,none,none,rfl,aY.refl H,by simp⟩;(·rintro i σ' H1 hi ⟨m,r2,r3,r4,r5,rfl,s1,hm⟩;exists⟨hi,s1.CA (aS.of ha)⟩,?_;rintro x _ ⟨tp,WL,rfl,rfl⟩;have s2:=aM WL (.aC [.int (i:Int),vs.getD i .aN]);exists tp,_,rfl,aS.of aL,rfl,_,_,rfl,_,_,rfl,rfl,?_;have mI:=s1.trans s2;exists _,rfl,a,_,rfl,.inr (aS.of (mI _ _ ha)),(vs.length:Int),rfl,(by lia),(by lia),?_;refine iq (n:=vs.length) (λj ys H'=>H'=upd H1 tp (.aC [.int (i:Int),vs.getD i .aN])/\ys=b9 (((List.range j).filter (· ≠i)).map λ(k:Nat)=>(k:Int))) ⟨rfl,rfl⟩ ?_ ?_;(·rintro j ys _ hj ⟨rfl,rfl⟩;exists hj,?_,?_;have h1:=wA (λx=>decide (x≠i)) (List.range j);rw[oh]at h1;unfold b9;rw[bq,bq];exact wF h1 (pH (by lia));(·rintro x _ ⟨rfl,rfl⟩;exists _,rfl,_,rfl,rfl,_,rfl,bJ (λc=>⟨_,rfl,Wc.next hj ⟨rfl,?_⟩⟩) λc=>Wc.next hj ⟨rfl,?_⟩;(have hne:j≠i:=λz=>by subst z;simp at c);rw[BF,aT hne];simp[b9];(have he:j=i:=(by(have z:V.int (0+(j:Int))=V.int (i:Int):=by simpa using c);injection z with z;lia));rw[BF,aU (by simpa using he)];simp));rintro ys _ ⟨rfl,rfl⟩;exists aV _,λo ho=> ?_;(have e3:b9 (((List.range vs.length).filter (· ≠i)).map λ(k:Nat)=>(k:Int))=b9 (bM ss.length i):=by rw[<-ls];rfl);rw[e3];have s3:=mI.trans (aM ho (.aK (b9 (bM ss.length i))));(have ce:i<ss.length:=by lia);obtain⟨w1,i6,G7⟩:=rs.get' (br ce);(have ew:vs.getD i .aN=w1:=by rw[sy hi];rw[br hi]at i6;exact gp i6);exists _,rfl,_,rfl,ss[i],_,o,bM ss.length i,rfl,?_,aL,λH4 s4=> ?_;exact s3.bE (by rw[ew];exact G7);have s5:=s3.trans s4;have hd:ss.drop i=ss[i]::ss.drop (i+1):=List.drop_eq_getElem_cons ce;rw[hd]at hm;have gC:iX ss.length 0 ss=((count (bM ss.length i) ss[i]).bind λa=>(iX ss.length (i+1) (ss.drop (i+1))).map λb=>a+b).map (m+ ·):=hm;cases hcn:count (bM ss.length i) ss[i]with|none=>rw[hcn]at gC;exists _,rfl,_,rfl,dj (no ?_ H4 s5);rw[Op,gC];rfl|some n1=>rw[hcn]at gC;exists _,rfl,_,rfl,cG ⟨_,rfl,_,rfl,_,_,rfl,rfl,m+n1,some (.int (i:Int)),some (vs.getD i .aN),some (.ref o),some (N4 (some n1)),rfl,s5,?_⟩;rw[gC];simp only[Option.bind_some,Option.map_map];(congr 1);(funext b);simp[Nat.add_assoc]);rintro σ' H1 ⟨m,r2,r3,r4,r5,rfl,s1,hm⟩;exists⟨rfl,s1.CA (aS.of ha)⟩,?_;exists _,rfl,_,_,rfl,rfl,?_;rw[<-ls,List.drop_length]at hm;have fin:=q H1 s1;rw[Op,hm]at fin;(have e4:(match Option.map (λx=>m+x) (iX ss.length ss.length [])with|some m=>decide (m<=40)|none=>false)=decide ((m:Int)<=40):=(by show decide (m+0<=40)=_;rw[uz];exact decide_eq_decide.mpr (by lia)));rw[e4]at fin;exact fin
abbrev yu:Stmt:=top 9
def gU(wh mk:bu)(s m:Int):Bool:=([PV.at .aN,.at (.int s)].contains (.at wh)) && ([PV.at .aN,.at (.int m)].contains (.at mk))
inductive Im(vs:List V)(H:Hp)(Q:VK)(cO:XK):Prop
 |mk (wh mk:bu) (b:PV) (v:V) (s m:Int) (_:vs= [v,.int s,.int m]) (_:aJ H (.aC [.at wh,.at mk,b]) v) (_: ∀H',aY H H'->Q (.bl (gU wh mk s m)) H')
def a3j:bP ["take", "sender", "mark"] ["take", "sender", "mark"] (bo yu):=fs
def a0A(F:bK K "fits" "fits" yu f fd):bw P w K mg base bh 1 f fd ["take", "sender", "mark"] Im:=by refine F.ok a3j (λvs H Q E h=> ?_) λbd A outer s H vs Q E hr h=> ?_;obtain⟨_,_,_,_,_,_,rfl,_⟩:=h;rfl;obtain⟨wh,mk,b,v,se,m,rfl,rp,q⟩:=h;exists _,bn (bQ (qK (nM BE (bI (cM K rfl) (pv 0) ba λ_ _=>rfl) (cz (aD mE (aD (pv 1) aO))) rfl) (mF (nM BE (bI (cM K rfl) (pv 0) ba λ_ _=>rfl) (cz (aD mE (aD (pv 2) aO))) rfl)))),?_;obtain⟨a,vs,rfl,ha,rs⟩:=rp.aC;obtain⟨v0,_,rfl,r0,v1,_,rfl,r1,v2,_,rfl,r2,rfl⟩:=rs;have hu:=hr.un;(have z2:2<=sizeLine:=by decide);exists _,rfl,a,_,0,_,rfl,rfl,aS.of ha,rfl,_,rfl,z2,λl1 iw=> ?_;have s1:=aM iw (.aC [.aN,.int se]);exists l1,[.at .aN,.at (.int se)],_,.at wh,rfl,.inr (aS.of aL),⟨_,_,rfl,rfl,_,_,rfl,rfl,rfl⟩,s1.bE r0,by show(A.deeper (envOfC _ (bo yu) s.heap.objs.size f bd)).units+1+_+_<cLine;simp only[cq,dp];lia,_,rfl,bJ (λc=> ?_) λc=> ?_;(rotate_left);have fin:=q _ s1;rw[show gU wh mk se m=false by unfold gU;rw[show [PV.at .aN,.at (.int se)].contains (.at wh)=false from Bool.eq_false_iff.mpr c];rfl]at fin;exact fin;exists _,rfl,a,_,1,_,rfl,rfl,aS.of (s1 _ _ ha),rfl,_,rfl,z2,λl2 gY=> ?_;have s2:=aM gY (.aC [.aN,.int m]);exists l2,[.at .aN,.at (.int m)],_,.at mk,rfl,.inr (aS.of aL),⟨_,_,rfl,rfl,_,_,rfl,rfl,rfl⟩,(s1.trans s2).bE r1,by show(A.deeper (envOfC _ (bo yu) s.heap.objs.size f bd)).units+1+_+_<cLine;simp only[cq,dp];lia,?_;have fin:=q _ (s1.trans s2);rw[show gU wh mk se m= [PV.at .aN,.at (.int m)].contains (.at mk)by unfold gU;rw[show [PV.at .aN,.at (.int se)].contains (.at wh)=true from c];rfl]at fin;exact fin
abbrev mK:Stmt:=top 8
abbrev Hx:Stmt:=gf mK 2
abbrev Hj:Stmt:=gf mK 3
abbrev Cf:Stmt:=gf mK 4
abbrev HC:Stmt:=gf mK 5
structure cu(K:W.Frag)(C:Addr):Prop where
 cl:jC K C
 no: ∀f∈(["rows", "waiting", "held", "said", "sends_done", "takes_done", "posted", "tickets", "arrived", "met"]:List Str),fu K C f
def cu.rows{C:ae}(h:cu K C):fu K C "rows":=h.no _ (by simp)
def cu.kK{C:ae}(h:cu K C):fu K C "waiting":=h.no _ (by simp)
inductive vY(C:Addr)(vs:List V)(H:Hp)(Q:VK)(cO:XK):Prop
 |mk (x dx fs r xs:_) (_:vs= [.ref x]) (_:H x=some (.bv C dx fs)) (_:fs.lookup ("rows":Str)=some (.ref r)) (_:H r=some (.aC xs)) (_:Q (.bl (decide (xs.length=0))) H)
def a3g:bP ["self"] ["self"] (bo Hx):=fs
def a0u(F:bK K "has_ended" "Hand.has_ended" Hx f fd)(T:Tx mg)(hC:cu K C):bw P w K mg base bh 1 f fd ["self"] (vY C):=by refine F.ok a3g (λvs H Q E h=> ?_) λbd A outer s H vs Q E hr h=> ?_;obtain⟨_,_,_,_,_,rfl,_⟩:=h;rfl;obtain⟨x,dx,fs,r,xs,rfl,hx,hl,du,q⟩:=h;exists _,bn (bQ (nM jt (dw jh rfl T.len boot_len (aD (cb (pv 0) rfl) aO)) ba (cQ _))),?_;exists _,rfl,x,C,dx,fs,_,rfl,hx,hC.cl,hC.rows,hl,?_;exists r,xs,rfl,.inr (aS.of du),?_;have e:decide (V.int (xs.length:Int)=V.int 0)=decide (xs.length=0):=decide_eq_decide.mpr ⟨λz=>by injection z with z;lia,λz=>by rw[z];rfl⟩;exists rfl,?_;show Q (.bl (decide (V.int (xs.length:Int)=V.int 0))) H;rw[e];exact q
inductive Ih(C:Addr)(vs:List V)(H:Hp)(Q:VK)(cO:XK):Prop
 |mk (x dx fs r xs wv:_) (_:vs= [.ref x]) (_:H x=some (.bv C dx fs)) (_:fs.lookup ("rows":Str)=some (.ref r)) (_:H r=some (.aC xs)) (_:fs.lookup ("waiting":Str)=some wv) (_:fs.lookup ("has_ended":Str)=none) (_:Q (.bl (decide (wv= .aN) && !decide (xs.length=0))) H)
def a25:bP ["self"] ["self"] (bo Hj):=fs
def a0e(F:bK K "can_go" "Hand.can_go" Hj f fd)(hC:cu K C)(hm:ux K C "has_ended" g)(hg:bw P w K mg base bh 1 g gd ["self"] (vY C))(hb:gQ K gd ["self"] []):bw P w K mg base bh 2 f fd ["self"] (Ih C):=by refine F.ok a25 (λvs H Q E h=> ?_) λbd A outer s H vs Q E hr h=> ?_;obtain⟨_,_,_,_,_,_,rfl,_⟩:=h;rfl;obtain⟨x,dx,fs,r,xs,wv,rfl,hx,hl,du,hw,hn,q⟩:=h;exists _,bn (bQ (qK (Gz (yc (cb (pv 0) rfl))) (mF (Of (gg (pv 0) hC.cl hm hg hr hb .nil bt))))),?_;exists _,rfl,x,C,dx,fs,_,rfl,hx,hC.cl,hC.kK,hw,_,rfl,bJ (λc=> ?_) λc=> ?_;exists _,rfl,x,dx,fs,rfl,hx,hn,x,dx,fs,r,xs,rfl,hx,hl,du,_,rfl,?_;rw[c]at q;exact q;rw[Bool.eq_false_iff.mpr c]at q;exact q
inductive iN(C:Addr)(vs:List V)(H:Hp)(Q:VK)(cO:XK):Prop
 |mk (x dx fs r xs:_) (_:vs= [.ref x]) (_:H x=some (.bv C dx fs)) (_:fs.length<1000) (_:fs.lookup ("rows":Str)=some (.ref r)) (_:H r=some (.aC xs)) (_:(∃wv,fs.lookup ("waiting":Str)=some wv)) (_: ∀r' H',(H' r'=some (.aC (xs.drop 1)))->aY (upd H x (.bv C dx (bU "waiting" .aN fs))) H'->Q .aN (upd H' x (.bv C dx (bU "rows" (.ref r') (bU "waiting" .aN fs)))))
def a3k:bP ["self"] ["self"] (bo HC):=fs
def FT(f:aA)(v:V): ∀fs:aq (aA×V),(∃u,fs.lookup f=some u)->(bU f v fs).length=fs.length
 | [],h=>by obtain⟨u,hu⟩:=h;cases hu
 |(g,x)::r,h=>by unfold bU;by_cases e:g=f;rw[aT e];rfl;rw[aU e];show(bU f v r).length+1=r.length+1;obtain⟨u,hu⟩:=h;rw[mW,show(f==g)=false from by simpa using λz=>e z.symm]at hu;rw[FT f v r ⟨u,hu⟩]
def a0B(F:bK K "go_on" "Hand.go_on" HC f fd)(hC:cu K C):bw P w K mg base bh 1 f fd ["self"] (iN C):=by refine F.ok a3k (λvs H Q E h=> ?_) λbd A outer s H vs Q E hr h=> ?_;obtain⟨_,_,_,_,_,rfl,_⟩:=h;rfl;obtain⟨x,dx,fs,r,xs,rfl,hx,hf,hl,du,⟨wv,hw⟩,q⟩:=h;exists _,be (gO (pv 0) mE rfl) (bn (gO (pv 0) (tI (Co K rfl) (cb (pv 0) rfl) (tL ba) tK) rfl)),?_;exists _,rfl,x,C,dx,fs,rfl,hx,hC.cl,hC.kK,hf,?_;(have WZ:r≠x:=λz=>by subst z;rw[hx]at du;cases du);(have e1:(bU "waiting" .aN fs).lookup ("rows":aA)=some (.ref r):=by rw[xS,aU (by decide+kernel)];exact hl);(have h1:upd H x (.bv C dx (bU "waiting" .aN fs)) r=some (.aC xs):=by rw[aP WZ];exact du);exists _,rfl,x,C,dx,_,_,rfl,aL,hC.cl,hC.rows,e1,?_;exists 1,rfl,r,xs,rfl,aS.of h1,λb H' c=> ?_;(have ec:ia xs (some 1) none=xs.drop 1:=(by cases xs with|nil=>rfl|cons v vr=>exact DK v vr));exists _,rfl,x,C,dx,_,rfl,?_,hC.cl,hC.rows,by rw[FT _ _ _ ⟨_,hw⟩];exact hf,q b H' ?_ ?_;(rcases c with⟨rfl,rfl,e⟩|⟨hb,rfl⟩);exact aL;exact aM hb _ _ _ aL;(rcases c with⟨rfl,rfl,e⟩|⟨hb,rfl⟩);rw[h1,<-ec,e];rw[<-ec];exact aL;(rcases c with⟨rfl,rfl,e⟩|⟨hb,rfl⟩);exact aY.refl _;exact aM hb _
abbrev Cg:Stmt:=gf mK 6
def cu.k9{C:ae}(h:cu K C):fu K C "held":=h.no _ (by simp)
def zS:PV:= .aC [.at (.str (L "all"))]
inductive Iq(C:Addr)(vs:List V)(H:Hp)(Q:VK)(cO:XK):Prop
 |mk (x dx fs wv p:_) (_:vs= [.ref x]) (_:H x=some (.bv C dx fs)) (_:fs.lookup ("waiting":Str)=some wv) (_:aJ H p wv) (_:dp p<=50) (_: ∀H',aY H H'->Q (.bl (decide (p=zS))) H')
def a3z:bP ["self"] ["self"] (bo Cf):=fs
def Ri:(L "all").length<=1000000:=by decide+kernel
def a02(F:bK K "waits_in_all" "Hand.waits_in_all" Cf f fd)(hC:cu K C):bw P w K mg base bh 1 f fd ["self"] (Iq C):=by refine F.ok a3z (λvs H Q E h=> ?_) λbd A outer s H vs Q E hr h=> ?_;obtain⟨_,_,_,_,_,rfl,_⟩:=h;rfl;obtain⟨x,dx,fs,wv,p,rfl,hx,hl,rp,hd,q⟩:=h;exists _,bn (bQ (nM BD (cb (pv 0) rfl) (cz (aD cy aO)) (cQ _))),?_;have hu:=hr.un;(have z1:1<=sizeLine:=by decide);exists _,rfl,x,C,dx,fs,_,rfl,hx,hC.cl,hC.kK,hl,z1,λl iw=> ?_;have s1:=aM iw (.aC [.str "all"]);exists p,zS,?_,s1.bE rp,⟨l,_,rfl,aL,_,_,rfl,⟨rfl,Ri⟩,rfl⟩,q _ s1;show(A.deeper (envOfC _ (bo Cf) s.heap.objs.size f bd)).units+_+_<cLine;simp only[zS,cq,dp];lia
inductive vZ(C:Addr)(vs:List V)(H:Hp)(Q:VK)(cO:XK):Prop
 |mk (x dx fs d kvs v:_) (_:vs= [.ref x,v]) (_:H x=some (.bv C dx fs)) (_:fs.lookup ("held":Str)=some (.ref d)) (_:H d=some (.dK kvs)) (_:((∃i,v= .int i/\Q v H)\/(∃b,v= .str b/\Q ((bZ kvs (.inr b)).getD (.int 0)) H)))
def a3C:bP ["self", "thing"] ["self", "thing"] (bo Cg):=fs
def a05(F:bK K "worth" "Hand.worth" Cg f fd)(T:Tx mg)(hC:cu K C):bw P w K mg base bh 1 f fd ["self", "thing"] (vZ C):=by refine F.ok a3C (λvs H Q E h=> ?_) λbd A outer s H vs Q E hr h=> ?_;obtain⟨_,_,_,_,_,_,rfl,_⟩:=h;rfl;obtain⟨x,dx,fs,d,kvs,v,rfl,hx,hl,hd,q⟩:=h;(have hu:(A.deeper (envOfC "Hand.worth" (bo Cg) s.heap.objs.size f bd)).units+1<cLine:=by have:=hr.un;lia);exists _,bn (bQ (BH (g9 (dw lS rfl T.mw ni (aD (pv 1) (aD (mC rfl T.str boot_str (v:= .ty "str") rfl) aO)))) (GA hu (cb (pv 0) rfl) (pv 1) ba ⟨rfl,rfl,rfl,rfl⟩) (pv 1))),?_;(rcases q with⟨i,rfl,q⟩|⟨b,rfl,q⟩);exists _,rfl,_,_,_,_,_,rfl,.int i,λu z=>z,FJ,_,rfl,cG ⟨_,rfl,q⟩;exists _,rfl,_,_,_,_,_,rfl,.str _,λu z=>z,k_same _,_,rfl,dj ⟨_,rfl,x,C,dx,fs,_,rfl,hx,hC.cl,hC.k9,hl,d,rfl,.inl ⟨kvs,.inl hd⟩,_,rfl,_,dC.k (k:= .inr b) hd,q⟩
abbrev HD:Stmt:=gf mK 0
abbrev BV:Stmt:=gf mK 8
def cu.said{C:ae}(h:cu K C):fu K C "said":=h.no _ (by simp)
def cu.sends{C:ae}(h:cu K C):fu K C "sends_done":=h.no _ (by simp)
def cu.takes{C:ae}(h:cu K C):fu K C "takes_done":=h.no _ (by simp)
def cu.aR{C:ae}(h:cu K C):fu K C "posted":=h.no _ (by simp)
def cu.jx{C:ae}(h:cu K C):fu K C "tickets":=h.no _ (by simp)
def cu.rP{C:ae}(h:cu K C):fu K C "arrived":=h.no _ (by simp)
def cu.met{C:ae}(h:cu K C):fu K C "met":=h.no _ (by simp)
structure om(C dx x:Addr)(H H':Hp)(fs:List (Str×V))(as:List (Addr×HO)):Prop where
 ob:H' x=some (.bv C dx fs)
 at_: ∀p∈as,H' p.1=some p.2/\H p.1=none/\p.1≠x
 nd:(as.map (·.1)).Nodup
 old: ∀b o,b≠x->H b=some o->H' b=some o
def om.put{C dx x:ae}{H H':Hp}{fs fs':aq (aA×V)}{as:aq (ae×HO)}(m:om C dx x H H' fs as):om C dx x H (upd H' x (.bv C dx fs')) fs' as:=
 ⟨aL,λp hp=>⟨by rw[aP (m.at_ p hp).2.2];exact(m.at_ p hp).1,(m.at_ p hp).2⟩,m.nd,λb o hb e=>by rw[aP hb];exact m.old b o hb e⟩
def om.lay{C dx x p:ae}{H H':Hp}{fs:aq (aA×V)}{as:aq (ae×HO)}(m:om C dx x H H' fs as)(hp:H' p=none)(o:HO):om C dx x H (upd H' p o) fs ((p,o)::as):=by(have hx:p≠x:=λz=>by subst z;rw[m.ob]at hp;cases hp);(have hn: ∀q∈as,q.1≠p:=λq hq z=>by have:=(m.at_ q hq).1;rw[z,hp]at this;cases this);exists by rw[aP hx.symm];exact m.ob,λq hq=> ?_,?_,λb o' hb e=> ?_;rcases List.mem_cons.mp hq with rfl|hq;(exists aL,?_,hx;cases e:H p with|none=>rfl|some o'=>rw[m.old p o' hx e]at hp;cases hp);exists by rw[aP (hn q hq)];exact(m.at_ q hq).1,(m.at_ q hq).2;rw[bH,lP];exists λz=> ?_,m.nd;obtain⟨q,hq,e⟩:=List.mem_map.mp z;exact hn q hq e;(have:b≠p:=λz=>by subst z;rw[m.old b o' hb e]at hp;cases hp);rw[aP this];exact m.old b o' hb e
/---/def hf(rows kK k9 said:V)(sd td:Int)(aR jx rP met:V):List (Str×V):=
 [("rows",rows),("waiting",kK),("held",k9),("said",said),("sends_done",.int sd),("takes_done",.int td),("posted",aR),("tickets",jx),("arrived",rP),("met",met)]
inductive PQ(C:Addr)(vs:List V)(H:Hp)(Q:VK)(cO:XK):Prop
 |mk (x dx rows:_) (_:vs= [.ref x,rows]) (_:H x=some (.bv C dx [])) (_: ∀he sa po ti ar me H',om C dx x H H' (hf rows .aN (.ref he) (.ref sa) 0 0 (.ref po) (.ref ti) (.ref ar) (.ref me)) [(me,.aK []),(ar,.dK []),(ti,.dK []),(po,.dK []),(sa,.aK []),(he,.dK [])]->Q .aN H')
def a3l:bP ["self", "rows"] ["self", "rows"] (bo HD):=fs
def mH(f:aA)(v:V): ∀fs:aq (aA×V),f∉fs.map (·.1)->bU f v fs=fs++ [(f,v)]
 | [],_=>rfl
 |(g,x)::r,h=>by have h1: ¬g=f:=λz=>h (by rw[z];exact fk);unfold bU;rw[aU h1,mH f v r λz=>h (fJ _ z)];rfl
def a0C(F:bK K "__init__" "Hand.__init__" HD f fd)(hC:cu K C):bw P w K mg base bh 1 f fd ["self", "rows"] (PQ C):=by refine F.ok a3l (λvs H Q E h=> ?_) λbd A outer s H vs Q E hr h=> ?_;obtain⟨_,_,_,rfl,_⟩:=h;rfl;obtain⟨x,dx,rows,rfl,hx,q⟩:=h;exists _,be (gO (pv 0) (pv 1) rfl) (be (gO (pv 0) mE rfl) (be (gO (pv 0) BG rfl) (be (gO (pv 0) (fO aO) rfl) (be (gO (pv 0) ba rfl) (be (gO (pv 0) ba rfl) (be (gO (pv 0) BG rfl) (be (gO (pv 0) BG rfl) (be (gO (pv 0) BG rfl) (bn (gO (pv 0) (fO aO) rfl)))))))))),?_;(have m0:om C dx x H H [] []:=⟨hx,λp hp=>(nomatch hp),oj,λb o _ e=>e⟩);have z0:0<=sizeLine:=fQ _;exists _,rfl,_,rfl,x,C,dx,[],rfl,m0.ob,hC.cl,hC.rows,by decide,?_;rw[mH _ _ _ (by decide+kernel)];have m1:=m0.put (fs':= [("rows",rows)]);exists _,rfl,x,C,dx,_,rfl,m1.ob,hC.cl,hC.kK,by simp,?_;rw[mH _ _ _ (show("waiting":aA) ∉ (["rows"]:aq aA)by decide+kernel)];have m2:=m1.put (fs':= [("rows",rows),("waiting",.aN)]);refine λhe VJ=> ?_;have l2:=m2.lay VJ (.dK []);exists _,rfl,x,C,dx,_,rfl,l2.ob,hC.cl,hC.k9,by simp,?_;rw[mH _ _ _ (show("held":aA) ∉ (["rows", "waiting"]:aq aA)by decide+kernel)];have m3:=l2.put (fs':= [("rows",rows),("waiting",.aN),("held",.ref he)]);exists z0,λsa vb=> ?_;have l3:=m3.lay vb (.aK []);exists _,rfl,x,C,dx,_,rfl,l3.ob,hC.cl,hC.said,by simp,?_;rw[mH _ _ _ (show("said":aA) ∉ (["rows", "waiting", "held"]:aq aA)by decide+kernel)];have m4:=l3.put (fs':= [("rows",rows),("waiting",.aN),("held",.ref he),("said",.ref sa)]);exists _,rfl,x,C,dx,_,rfl,m4.ob,hC.cl,hC.sends,by simp,?_;rw[mH _ _ _ (show("sends_done":aA) ∉ (["rows", "waiting", "held", "said"]:aq aA)by decide+kernel)];have m5:=m4.put (fs':= [("rows",rows),("waiting",.aN),("held",.ref he),("said",.ref sa),("sends_done",.int 0)]);exists _,rfl,x,C,dx,_,rfl,m5.ob,hC.cl,hC.takes,by simp,?_;rw[mH _ _ _ (show("takes_done":aA) ∉ (["rows", "waiting", "held", "said", "sends_done"]:aq aA)by decide+kernel)];have m6:=m5.put (fs':= [("rows",rows),("waiting",.aN),("held",.ref he),("said",.ref sa),("sends_done",.int 0),("takes_done",.int 0)]);refine λpo Wv=> ?_;have l6:=m6.lay Wv (.dK []);exists _,rfl,x,C,dx,_,rfl,l6.ob,hC.cl,hC.aR,by simp,?_;rw[mH _ _ _ (show("posted":aA) ∉ (["rows", "waiting", "held", "said", "sends_done", "takes_done"]:aq aA)by decide+kernel)];have m7:=l6.put (fs':= [("rows",rows),("waiting",.aN),("held",.ref he),("said",.ref sa),("sends_done",.int 0),("takes_done",.int 0),("posted",.ref po)]);refine λti WK=> ?_;have l7:=m7.lay WK (.dK []);exists _,rfl,x,C,dx,_,rfl,l7.ob,hC.cl,hC.jx,by simp,?_;rw[mH _ _ _ (show("tickets":aA) ∉ (["rows", "waiting", "held", "said", "sends_done", "takes_done", "posted"]:aq aA)by decide+kernel)];have m8:=l7.put (fs':= [("rows",rows),("waiting",.aN),("held",.ref he),("said",.ref sa),("sends_done",.int 0),("takes_done",.int 0),("posted",.ref po),("tickets",.ref ti)]);refine λar Vf=> ?_;have l8:=m8.lay Vf (.dK []);exists _,rfl,x,C,dx,_,rfl,l8.ob,hC.cl,hC.rP,by simp,?_;rw[mH _ _ _ (show("arrived":aA) ∉ (["rows", "waiting", "held", "said", "sends_done", "takes_done", "posted", "tickets"]:aq aA)by decide+kernel)];have m9:=l8.put (fs':= [("rows",rows),("waiting",.aN),("held",.ref he),("said",.ref sa),("sends_done",.int 0),("takes_done",.int 0),("posted",.ref po),("tickets",.ref ti),("arrived",.ref ar)]);exists z0,λme jT=> ?_;have l9:=m9.lay jT (.aK []);exists _,rfl,x,C,dx,_,rfl,l9.ob,hC.cl,hC.met,by simp,?_;rw[mH _ _ _ (show("met":aA) ∉ (["rows", "waiting", "held", "said", "sends_done", "takes_done", "posted", "tickets", "arrived"]:aq aA)by decide+kernel)];have F6:=l9.put (fs':= [("rows",rows),("waiting",.aN),("held",.ref he),("said",.ref sa),("sends_done",.int 0),("takes_done",.int 0),("posted",.ref po),("tickets",.ref ti),("arrived",.ref ar),("met",.ref me)]);exact q he sa po ti ar me _ F6
inductive Ig(C:Addr)(vs:List V)(H:Hp)(Q:VK)(cO:XK):Prop
 |mk (x dx:Addr) (fs:List (Str×V)) (d:Addr) (kvs:List (aZ×V)) (n:Int) (wh mk bx:V) (_:vs= [.ref x,wh,mk,bx]) (_:H x=some (.bv C dx fs)) (_:fs.length<1000) (_:fs.lookup ("takes_done":Str)=some (.int n)) (_:fs.lookup ("posted":Str)=some (.ref d)) (_:H d=some (.dK kvs)) (_:kvs.length<sizeLine) (_: ∀l,H l=none->Q (.int n) (upd (upd (upd H l (.aC [wh,mk,bx])) d (.dK (dI kvs (.inl n) (.ref l)))) x (.bv C dx (bU "takes_done" (.int (n+1)) fs))))
def Pd:bP ["self", "whence", "mark", "box", "number"] ["self", "whence", "mark", "box"] (bo BV):=fs
def a0b(F:bK K "add_take" "Hand.add_take" BV f fd)(hC:cu K C):bw P w K mg base bh 1 f fd ["self", "whence", "mark", "box"] (Ig C):=by refine F.ok Pd (λvs H Q E h=> ?_) λbd A outer s H vs Q E hr h=> ?_;obtain⟨_,_,_,_,_,_,_,_,_,rfl,_⟩:=h;rfl;obtain⟨x,dx,fs,d,kvs,n,wh,mk,bx,rfl,hx,hf,ht,hp,hd,hk,q⟩:=h;(have hu:(A.deeper (envOfC "Hand.add_take" (bo BV) s.heap.objs.size f bd)).units+1<cLine:=by have:=hr.un;lia);exists _,be (cA (i:=4) Pd.nd rfl (Or.inl rfl) (cb (pv 0) rfl)) (be (qP hu (cb (pv 0) rfl) (pv 4) (cz (aD (pv 1) (aD (pv 2) (aD (pv 3) aO)))) rfl) (be (Os (pv 0) ba AT) (bn (bQ (pv 4))))),?_;(have z3:3<=sizeLine:=by decide);exists _,rfl,x,C,dx,fs,_,rfl,hx,hC.cl,hC.takes,ht,?_;exists _,rfl,_,rfl,_,rfl,z3,λl hl=> ?_;have s1:=aM hl (.aC [wh,mk,bx]);(have nd:x≠d:=λz=>by subst z;rw[hx]at hd;cases hd);exists _,rfl,x,C,dx,fs,_,rfl,s1 _ _ hx,hC.cl,hC.aR,hp,_,rfl,d,_,rfl,gl.k (k:= .inl n) (s1 _ _ hd) hk,?_;(have h2:upd (upd H l (.aC [wh,mk,bx])) d (.dK (dI kvs (.inl n) (.ref l))) x=some (.bv C dx fs):=by rw[aP nd];exact s1 _ _ hx);exists _,rfl,x,C,dx,fs,_,rfl,h2,hC.cl,hC.takes,ht,n,1,rfl,rfl,dx,fs,h2,hf,?_;exists _,rfl,q l hl
abbrev Ht:Stmt:=top 10
abbrev B3:Stmt:=top 11
abbrev Hq:Stmt:=top 16
inductive cI(P:Program)(w:World)(K:W.Frag)(mg:Str->Option Value)(base:Heap)(C:Addr)(k:Nat)(m:Str)(ps:List Str)(sp:Sp):Prop
 |mk (g gd:_) (_:ux K C m g) (_:bw P w K mg base bh k g gd ps sp) (_:gQ K gd ps [])
inductive Cs(C:Addr)(vs:List V)(H:Hp)(Q:VK)(cO:XK):Prop
 |mk (x dx:Addr) (fs:List (Str×V)) (row:V) (_:vs= [.ref x,row]) (_:H x=some (.bv C dx fs)) (_:fs.length<1000) (_: ∀l,H l=none->Q .aN (upd (upd H l (.aC [.str "all"])) x (.bv C dx (bU "waiting" (.ref l) fs))))
def a3b:bP ["hand", "row"] ["hand", "row"] (bo Hq):=fs
def a0l(F:bK K "do_all" "do_all" Hq f fd)(hC:cu K C):bw P w K mg base bh 1 f fd ["hand", "row"] (Cs C):=by refine F.ok a3b (λvs H Q E h=> ?_) λbd A outer s H vs Q E hr h=> ?_;obtain⟨_,_,_,_,rfl,_⟩:=h;rfl;obtain⟨x,dx,fs,row,rfl,hx,hf,q⟩:=h;exists _,bn (gO (pv 0) (cz (aD cy aO)) rfl),?_;(have z1:1<=sizeLine:=by decide);exists z1,λl hl=> ?_;exists _,rfl,x,C,dx,fs,rfl,aM hl _ _ _ hx,hC.cl,hC.kK,hf,q l hl
inductive Cv(C:Addr)(vs:List V)(H:Hp)(Q:VK)(cO:XK):Prop
 |mk (x dx:Addr) (fs:List (Str×V)) (d:Addr) (kvs:List (aZ×V)) (n:Int) (r:Addr) (nm wh mk bx:V) (_:vs= [.ref x,.ref r]) (_:H r=some (.aC [nm,wh,mk,bx])) (_:H x=some (.bv C dx fs)) (_:fs.length<1000) (_:fs.lookup ("takes_done":Str)=some (.int n)) (_:fs.lookup ("posted":Str)=some (.ref d)) (_:H d=some (.dK kvs)) (_:kvs.length<sizeLine) (_:fs.lookup ("add_take":Str)=none) (_: ∀l l',H l=none->H l'=none->l≠l'->Q .aN (upd (upd (upd (upd (upd H l (.aC [wh,mk,bx])) d (.dK (dI kvs (.inl n) (.ref l)))) x (.bv C dx (bU "takes_done" (.int (n+1)) fs))) l' (.aC [.str "take",.int n])) x (.bv C dx (bU "waiting" (.ref l') (bU "takes_done" (.int (n+1)) fs)))))
def a3d:bP ["hand", "row"] ["hand", "row"] (bo Ht):=fs
def a0p(F:bK K "do_take" "do_take" Ht f fd)(hC:cu K C)(ha:cI P w K mg base C 1 "add_take" ["self", "whence", "mark", "box"] (Ig C)):bw P w K mg base bh 2 f fd ["hand", "row"] (Cv C):=by obtain⟨g,gd,hm,hg,hb⟩:=ha;refine F.ok a3d (λvs H Q E h=> ?_) λbd A outer s H vs Q E hr h=> ?_;obtain⟨_,_,_,_,_,_,_,_,_,_,_,rfl,_⟩:=h;rfl;obtain⟨x,dx,fs,d,kvs,n,r,nm,wh,mk,bx,rfl,du,hx,hf,ht,hp,hd,hk,hn,q⟩:=h;exists _,bn (gO (pv 0) (cz (aD cy (aD (iK (pv 0) hC.cl hm hg hr hb .nil bt (aD (bI (cM K rfl) (pv 1) ba λ_ _=>rfl) (aD (bI (cM K rfl) (pv 1) ba λ_ _=>rfl) (aD (bI (cM K rfl) (pv 1) ba λ_ _=>rfl) aO)))) aO))) rfl),?_;(have z2:2<=sizeLine:=by decide);exists _,rfl,x,dx,fs,rfl,hx,hn,_,rfl,r,_,1,_,rfl,rfl,aS.of du,rfl,_,rfl,r,_,2,_,rfl,rfl,aS.of du,rfl,_,rfl,r,_,3,_,rfl,rfl,aS.of du,rfl,?_;exists x,dx,fs,d,kvs,n,wh,mk,bx,rfl,hx,hf,ht,hp,hd,hk,λl hl=>⟨z2,λl' fL=> ?_⟩;(have NU:l'≠x:=λz=>by subst z;rw[aL]at fL;cases fL);have e1:=fL;rw[aP NU]at e1;(have nd:l'≠d:=λz=>by subst z;rw[aL]at e1;cases e1);rw[aP nd]at e1;(have nl:l'≠l:=λz=>by subst z;rw[aL]at e1;cases e1);rw[aP nl]at e1;exists _,rfl,x,C,dx,_,rfl,?_,hC.cl,hC.kK,?_,q l l' hl e1 nl.symm;rw[aP NU.symm];exact aL;rw[FT _ _ _ ⟨_,ht⟩];exact hf
abbrev B0:Stmt:=top 14
abbrev Hr:Stmt:=top 15
inductive Cu(C:Addr)(vs:List V)(H:Hp)(Q:VK)(E:XK):Prop
 |mk (x dx:Addr) (fs:List (Str×V)) (d t:Addr) (kvs fj:List (aZ×V)) (n:Int) (r:Addr) (tk:Str) (nm wh mk bx:V) (_:vs= [.ref x,.ref r]) (_:H r=some (.aC [nm,.str tk,wh,mk,bx])) (_:H x=some (.bv C dx fs)) (_:fs.length<1000) (_:fs.lookup ("takes_done":Str)=some (.int n)) (_:fs.lookup ("posted":Str)=some (.ref d)) (_:fs.lookup ("tickets":Str)=some (.ref t)) (_:d≠t) (_:H d=some (.dK kvs)) (_:kvs.length<sizeLine) (_:H t=some (.dK fj)) (_:fj.length<sizeLine) (_:fs.lookup ("add_take":Str)=none) (_:fs.lookup ("go_on":Str)=none) (_: ∀l,H l=none->iN C [.ref x] (upd (upd (upd (upd H l (.aC [wh,mk,bx])) d (.dK (dI kvs (.inl n) (.ref l)))) x (.bv C dx (bU "takes_done" (.int (n+1)) fs))) t (.dK (dI fj (.inr tk) (.int n)))) Q E)
def a3c:bP ["hand", "row"] ["hand", "row"] (bo B3):=fs
def yL{Q Q':VK}{E E':XK}(h:iN C vs H Q E)(hq: ∀H',Q .aN H'->Q' .aN H'):iN C vs H Q' E':=by obtain⟨x,dx,fs,r,xs,h1,h2,h3,h4,h5,h6,q⟩:=h;exists x,dx,fs,r,xs,h1,h2,h3,h4,h5,h6,λr' H' a b=>hq _ (q r' H' a b)
def a0n(F:bK K "do_post" "do_post" B3 f fd)(hC:cu K C)(ha:cI P w K mg base C 1 "add_take" ["self", "whence", "mark", "box"] (Ig C))(fX:cI P w K mg base C 1 "go_on" ["self"] (iN C)):bw P w K mg base bh 2 f fd ["hand", "row"] (Cu C):=by obtain⟨g,gd,hm,hg,hb⟩:=ha;obtain⟨g2,iu,cV,dG,cw⟩:=fX;refine F.ok a3c (λvs H Q E h=> ?_) λbd A outer s H vs Q E hr h=> ?_;obtain⟨_,_,_,_,_,_,_,_,_,_,_,_,_,_,rfl,_⟩:=h;rfl;obtain⟨x,dx,fs,d,t,kvs,fj,n,r,tk,nm,wh,mk,bx,rfl,du,hx,hf,ht,hp,htk,Ge,hd,hk,Ey,kA,hn,hn2,q⟩:=h;(have hu:(A.deeper (envOfC "do_post" (bo B3) s.heap.objs.size f bd)).units+1<cLine:=by have:=hr.un;lia);exists _,be (qP hu (cb (pv 0) rfl) (bI (cM K rfl) (pv 1) ba λ_ _=>rfl) (iK (pv 0) hC.cl hm hg hr hb .nil bt (aD (bI (cM K rfl) (pv 1) ba λ_ _=>rfl) (aD (bI (cM K rfl) (pv 1) ba λ_ _=>rfl) (aD (bI (cM K rfl) (pv 1) ba λ_ _=>rfl) aO)))) rfl) (bn (fg (gg (pv 0) hC.cl cV dG hr cw .nil bt))),?_;exists _,rfl,x,dx,fs,rfl,hx,hn,_,rfl,r,_,2,_,rfl,rfl,aS.of du,rfl,_,rfl,r,_,3,_,rfl,rfl,aS.of du,rfl,_,rfl,r,_,4,_,rfl,rfl,aS.of du,rfl,?_;exists x,dx,fs,d,kvs,n,wh,mk,bx,rfl,hx,hf,ht,hp,hd,hk,λl hl=> ?_;(have Bz:t≠x:=λz=>by subst z;rw[hx]at Ey;cases Ey);(have ZU:r≠x:=λz=>by subst z;rw[hx]at du;cases du);(have ZT:r≠d:=λz=>by subst z;rw[hd]at du;cases du);have s1:=aM hl (.aC [wh,mk,bx]);(have e1:(bU "takes_done" (.int (n+1)) fs).lookup ("tickets":aA)=some (.ref t):=by rw[xS,aU (by decide+kernel)];exact htk);(have e2:(bU "takes_done" (.int (n+1)) fs).lookup ("go_on":aA)=none:=by rw[xS,aU (by decide+kernel)];exact hn2);(have Wy:upd (upd (upd H l (.aC [wh,mk,bx])) d (.dK (dI kvs (.inl n) (.ref l)))) x (.bv C dx (bU "takes_done" (.int (n+1)) fs)) r=some (.aC [nm,.str tk,wh,mk,bx]):=by rw[aP ZU,aP ZT];exact s1 _ _ du);(have xI:upd (upd (upd H l (.aC [wh,mk,bx])) d (.dK (dI kvs (.inl n) (.ref l)))) x (.bv C dx (bU "takes_done" (.int (n+1)) fs)) t=some (.dK fj):=by rw[aP Bz,aP Ge.symm];exact s1 _ _ Ey);exists _,rfl,x,C,dx,_,_,rfl,aL,hC.cl,hC.jx,e1,_,rfl,r,_,1,_,rfl,rfl,aS.of Wy,rfl,t,_,rfl,gl.k (k:= .inr tk) xI kA,?_;exists _,rfl,x,dx,_,rfl,(by rw[aP Bz.symm];exact aL),e2,?_;exact yL (q l hl) λH' z=>z
abbrev Hu:Stmt:=top 13
def rO(kvs:List (aZ×V))(v:V)(i:Int):Prop:=v= .int i\/ ∃b,v= .str b/\(bZ kvs (.inr b)).getD (.int 0)= .int i
def yM{x:ae}{fs:aq (aA×V)}{i:Int}{H:Hp}{Q:VK}{E:XK}(hx:H x=some (.bv C dx fs))(hl:fs.lookup ("held":aA)=some (.ref d))(hd:H d=some (.dK kvs))(hw:rO kvs v i)(q:Q (.int i) H):vZ C [.ref x,v] H Q E:=by exists x,dx,fs,d,kvs,v,rfl,hx,hl,hd,?_;(rcases hw with rfl|⟨b,rfl,e⟩);exact .inl ⟨i,rfl,q⟩;exact .inr ⟨b,rfl,by rw[e];exact q⟩
inductive Cw(C:Addr)(vs:List V)(H:Hp)(Q:VK)(E:XK):Prop
 |mk (x dx:Addr) (fs:List (Str×V)) (d sa:Addr) (kvs:List (aZ×V)) (r:Addr) (nm th:V) (i:Int) (xs:List V) (_:vs= [.ref x,.ref r]) (_:H r=some (.aC [nm,th])) (_:H x=some (.bv C dx fs)) (_:fs.lookup ("held":Str)=some (.ref d)) (_:H d=some (.dK kvs)) (_:rO kvs th i) (_:fs.lookup ("said":Str)=some (.ref sa)) (_:H sa=some (.aK xs)) (_:xs.length<sizeLine) (_:fs.lookup ("worth":Str)=none) (_:fs.lookup ("go_on":Str)=none) (_:iN C [.ref x] (upd H sa (.aK (xs++ [.int i]))) Q E)
def a3e:bP ["hand", "row"] ["hand", "row"] (bo Hu):=fs
def a0q(F:bK K "do_tell" "do_tell" Hu f fd)(hC:cu K C)(ha:cI P w K mg base C 1 "worth" ["self", "thing"] (vZ C))(fX:cI P w K mg base C 1 "go_on" ["self"] (iN C)):bw P w K mg base bh 2 f fd ["hand", "row"] (Cw C):=by obtain⟨g,gd,hm,hg,hb⟩:=ha;obtain⟨g2,iu,cV,dG,cw⟩:=fX;refine F.ok a3e (λvs H Q E h=> ?_) λbd A outer s H vs Q E hr h=> ?_;obtain⟨_,_,_,_,_,_,_,_,_,_,_,rfl,_⟩:=h;rfl;obtain⟨x,dx,fs,d,sa,kvs,r,nm,th,i,xs,rfl,du,hx,hl,hd,hw,hs,vb,hz,hn,hn2,q⟩:=h;exists _,be (fg (nL mY uE uF tq (cb (pv 0) rfl) (aD (iK (pv 0) hC.cl hm hg hr hb .nil bt (aD (bI (cM K rfl) (pv 1) ba λ_ _=>rfl) aO)) aO))) (bn (fg (gg (pv 0) hC.cl cV dG hr cw .nil bt))),?_;(have ZY:sa≠x:=λz=>by subst z;rw[hx]at vb;cases vb);exists _,rfl,x,C,dx,fs,_,rfl,hx,hC.cl,hC.said,hs,?_;exists .inl ⟨rfl,_,aQ.of vb⟩,_,rfl,x,dx,fs,rfl,hx,hn,_,rfl,r,_,1,_,rfl,rfl,aS.of du,rfl,yM hx hl hd hw ?_;exists sa,xs,_,rfl,rfl,vb,hz,?_;exists _,rfl,x,dx,fs,rfl,(by rw[aP ZY.symm];exact hx),hn2,?_;exact yL q λH' z=>z
inductive Cr(C:Addr)(vs:List V)(H:Hp)(Q:VK)(E:XK):Prop
 |mk (x dx:Addr) (fs:List (Str×V)) (d:Addr) (kvs:List (aZ×V)) (r:Addr) (nm t1 t2:V) (b:Str) (i j:Int) (_:vs= [.ref x,.ref r]) (_:H r=some (.aC [nm,.str b,t1,t2])) (_:H x=some (.bv C dx fs)) (_:fs.lookup ("held":Str)=some (.ref d)) (_:H d=some (.dK kvs)) (_:kvs.length<sizeLine) (_:rO kvs t1 i) (_:rO kvs t2 j) (_:fs.lookup ("worth":Str)=none) (_:fs.lookup ("go_on":Str)=none) (_:iN C [.ref x] (upd H d (.dK (dI kvs (.inr b) (.int (i+j))))) Q E)
def a3a:bP ["hand", "row"] ["hand", "row"] (bo B0):=fs
def a0k(F:bK K "do_add" "do_add" B0 f fd)(hC:cu K C)(ha:cI P w K mg base C 1 "worth" ["self", "thing"] (vZ C))(fX:cI P w K mg base C 1 "go_on" ["self"] (iN C)):bw P w K mg base bh 2 f fd ["hand", "row"] (Cr C):=by obtain⟨g,gd,hm,hg,hb⟩:=ha;obtain⟨g2,iu,cV,dG,cw⟩:=fX;refine F.ok a3a (λvs H Q E h=> ?_) λbd A outer s H vs Q E hr h=> ?_;obtain⟨_,_,_,_,_,_,_,_,_,_,_,_,rfl,_⟩:=h;rfl;obtain⟨x,dx,fs,d,kvs,r,nm,t1,t2,b,i,j,rfl,du,hx,hl,hd,hk,i6,oY,hn,hn2,q⟩:=h;(have hu:(A.deeper (envOfC "do_add" (bo B0) s.heap.objs.size f bd)).units+1<cLine:=by have:=hr.un;lia);exists _,be (qP hu (cb (pv 0) rfl) (bI (cM K rfl) (pv 1) ba λ_ _=>rfl) (df px (iK (pv 0) hC.cl hm hg hr hb .nil bt (aD (bI (cM K rfl) (pv 1) ba λ_ _=>rfl) aO)) (iK (pv 0) hC.cl hm hg hr hb .nil bt (aD (bI (cM K rfl) (pv 1) ba λ_ _=>rfl) aO))) rfl) (bn (fg (gg (pv 0) hC.cl cV dG hr cw .nil bt))),?_;(have Gf:d≠x:=λz=>by subst z;rw[hx]at hd;cases hd);exists _,rfl,x,dx,fs,rfl,hx,hn,_,rfl,r,_,2,_,rfl,rfl,aS.of du,rfl,?_;dsimp only[fH];refine yM hx hl hd i6 ?_;exists _,rfl,x,dx,fs,rfl,hx,hn,_,rfl,r,_,3,_,rfl,rfl,aS.of du,rfl,?_;dsimp only[fH];refine yM hx hl hd oY ?_;exists i,j,rfl,rfl,?_;exists _,rfl,x,C,dx,fs,_,rfl,hx,hC.cl,hC.k9,hl,_,rfl,r,_,1,_,rfl,rfl,aS.of du,rfl,d,_,rfl,gl.k (k:= .inr b) hd hk,?_;exists _,rfl,x,dx,fs,rfl,(by rw[aP Gf.symm];exact hx),hn2,?_;exact yL q λH' z=>z
inductive Ct(C:Addr)(vs:List V)(H:Hp)(Q:VK)(E:XK):Prop
 |mk (x dx:Addr) (fs:List (Str×V)) (d:Addr) (kvs:List (aZ×V)) (r rw a b:Addr) (nm bx:V) (i j:Int) (xs ys zs:List V) (_:vs= [.ref x,.ref r]) (_:H r=some (.aC [nm,bx,.int i,.ref a,.ref b])) (_:H x=some (.bv C dx fs)) (_:fs.length<1000) (_:fs.lookup ("held":Str)=some (.ref d)) (_:H d=some (.dK kvs)) (_:rO kvs bx j) (_:fs.lookup ("rows":Str)=some (.ref rw)) (_:H rw=some (.aC xs)) (_:H a=some (.aC ys)) (_:H b=some (.aC zs)) (_:ys≠ []) (_:zs≠ []) (_:fs.lookup ("worth":Str)=none) (_:ys.length+xs.length<=1000) (_:zs.length+xs.length<=1000) (_: ∀r' H',H' r'=some (.aC ((if j=i then ys else zs)++xs.drop 1))->aY H H'->Q .aN (upd H' x (.bv C dx (bU "rows" (.ref r') fs))))
def Pe:bP ["hand", "row", "chosen"] ["hand", "row"] (bo Hr):=fs
def Kk(xs:aq V):ia xs (some 1) none=xs.drop 1:=by cases xs with|nil=>rfl|cons v vr=>exact DK v vr
def a0m(F:bK K "do_case" "do_case" Hr f fd)(hC:cu K C)(ha:cI P w K mg base C 1 "worth" ["self", "thing"] (vZ C)):bw P w K mg base bh 2 f fd ["hand", "row"] (Ct C):=by obtain⟨g,gd,hm,hg,hb⟩:=ha;refine F.ok Pe (λvs H Q E h=> ?_) λbd A outer s H vs Q E hr h=> ?_;obtain⟨_,_,_,_,_,_,_,_,_,_,_,_,_,_,_,_,rfl,_⟩:=h;rfl;obtain⟨x,dx,fs,d,kvs,r,G9,a,b,nm,bx,i,j,xs,ys,zs,rfl,du,hx,hf,hl,hd,hw,xG,FB,W5,AR,ny,nz,hn,l1,l2,q⟩:=h;exists _,be (cA (i:=2) Pe.nd rfl (Or.inl rfl) (BH (cY jt (iK (pv 0) hC.cl hm hg hr hb .nil bt (aD (bI (cM K rfl) (pv 1) ba λ_ _=>rfl) aO)) (bI (cM K rfl) (pv 1) ba λ_ _=>rfl) (cQ _)) (bI (cM K rfl) (pv 1) ba λ_ _=>rfl) (bI (cM K rfl) (pv 1) ba λ_ _=>rfl))) (bn (gO (pv 0) (df a08 (pv 2) (tI (Co K rfl) (cb (pv 0) rfl) (tL ba) tK)) rfl)),?_;exists _,rfl,x,dx,fs,rfl,hx,hn,_,rfl,r,_,1,_,rfl,rfl,aS.of du,rfl,?_;dsimp only[fH];refine yM hx hl hd hw ?_;exists _,rfl,r,_,2,_,rfl,rfl,aS.of du,rfl,rfl,_,rfl,?_;(have key: ∀ (c:ae) (us:aq V),H c=some (.aC us)->us≠ []->us.length+xs.length<=1000->(if j=i then ys else zs)=us-> ∀ (b':ae) (H':Hp),(b'=G9/\H'=H/\ia xs (some 1) none=xs)\/(H b'=none/\H'=upd H b' (.aC (ia xs (some 1) none)))->H' b'=some (.aC (xs.drop 1))/\aY H H'/\H' c=some (.aC us)/\us.length+(xs.drop 1).length<=sizeLine:=(by intro c us hc _ nA _ b' H' h;(have z:1000<=sizeLine:=by decide);(have cf:us.length+(xs.drop 1).length<=sizeLine:=by rw[zB];lia);(rcases h with⟨rfl,rfl,e⟩|⟨hb',rfl⟩);rw[Kk]at e;exists by rw[e];exact FB,aY.refl _,hc,cf;rw[Kk];exists aL,aM hb' _,aM hb' _ _ _ hc,cf));refine bJ (λc=> ?_) λc=> ?_;(have e:j=i:=by simpa using c);exists _,rfl,r,_,3,_,rfl,rfl,aS.of du,rfl,?_;exists _,rfl,_,rfl,x,C,dx,fs,_,rfl,hx,hC.cl,hC.rows,xG,1,rfl,G9,xs,rfl,aS.of FB,λb' H' h=> ?_;obtain⟨k1,k2,k3,k4⟩:=key a ys W5 ny l1 (aT e) b' H' h;exists a,b',ys,_,rfl,rfl,aS.of k3,aS.of k1,ny,k4,λe0=> ?_,λ_ p hp=> ?_;exists _,rfl,x,C,dx,fs,rfl,k2 _ _ hx,hC.cl,hC.rows,hf,q a H' (by rw[aT e,e0,kO];exact k3) k2;exists _,rfl,x,C,dx,fs,rfl,aM hp _ _ _ (k2 _ _ hx),hC.cl,hC.rows,hf,q p _ (by rw[aT e];exact aL) (k2.trans (aM hp _));(have e: ¬j=i:=by simpa using c);exists _,rfl,r,_,4,_,rfl,rfl,aS.of du,rfl,?_;exists _,rfl,_,rfl,x,C,dx,fs,_,rfl,hx,hC.cl,hC.rows,xG,1,rfl,G9,xs,rfl,aS.of FB,λb' H' h=> ?_;obtain⟨k1,k2,k3,k4⟩:=key b zs AR nz l2 (aU e) b' H' h;exists b,b',zs,_,rfl,rfl,aS.of k3,aS.of k1,nz,k4,λe0=> ?_,λ_ p hp=> ?_;exists _,rfl,x,C,dx,fs,rfl,k2 _ _ hx,hC.cl,hC.rows,hf,q b H' (by rw[aU e,e0,kO];exact k3) k2;exists _,rfl,x,C,dx,fs,rfl,aM hp _ _ _ (k2 _ _ hx),hC.cl,hC.rows,hf,q p _ (by rw[aU e];exact aL) (k2.trans (aM hp _))
abbrev B4:Stmt:=top 12
inductive Cy(C:Addr)(vs:List V)(H:Hp)(Q:VK)(E:XK):Prop
 |mk (x dx:Addr) (fs:List (Str×V)) (d t ar r:Addr) (kvs fj iD:List (aZ×V)) (nm:V) (b:Str) (_:vs= [.ref x,.ref r]) (_:H r=some (.aC [nm,.str b])) (_:H x=some (.bv C dx fs)) (_:fs.length<1000) (_:fs.lookup ("held":Str)=some (.ref d)) (_:H d=some (.dK kvs)) (_:kvs.length<sizeLine) (_:fs.lookup ("tickets":Str)=some (.ref t)) (_:H t=some (.dK fj)) (_:fs.lookup ("arrived":Str)=some (.ref ar)) (_:H ar=some (.dK iD)) (_:d≠t) (_:d≠ar) (_:t≠ar) (_:fs.lookup ("go_on":Str)=none) (_:((bZ fj (.inr b)=none/\iN C [.ref x] H Q E)\/(∃ (n:Int) (p:Addr) (bx:Str) (v:V),bZ fj (.inr b)=some (.int n)/\bZ iD (.inl n)=some (.ref p)/\H p=some (.aC [.str bx,v])/\iN C [.ref x] (upd (upd (upd H t (.dK (dU fj (.inr b)))) ar (.dK (dU iD (.inl n)))) d (.dK (dI kvs (.inr bx) v))) Q E)\/(∃n:Int,bZ fj (.inr b)=some (.int n)/\bZ iD (.inl n)=none/\ ∀l,upd H t (.dK (dU fj (.inr b))) l=none->Q .aN (upd (upd (upd H t (.dK (dU fj (.inr b)))) l (.aC [.str "wait",.int n])) x (.bv C dx (bU "waiting" (.ref l) fs))))))
def Ch:bP ["hand", "row", "number", "box", "value"] ["hand", "row"] (bo B4):=fs
def a0r(F:bK K "do_wait" "do_wait" B4 f fd)(hC:cu K C)(fX:cI P w K mg base C 1 "go_on" ["self"] (iN C)):bw P w K mg base bh 2 f fd ["hand", "row"] (Cy C):=by obtain⟨g2,iu,cV,dG,cw⟩:=fX;refine F.ok Ch (λvs H Q E h=> ?_) λbd A outer s H vs Q E hr h=> ?_;obtain⟨_,_,_,_,_,_,_,_,_,_,_,_,rfl,_⟩:=h;rfl;obtain⟨x,dx,fs,d,t,ar,r,kvs,fj,iD,nm,b,rfl,du,hx,hf,hl,hd,hk,hlt,ht,EN,ha,Ge,ZA,Z0,hn2,q⟩:=h;(have hu:(A.deeper (envOfC "do_wait" (bo B4) s.heap.objs.size f bd)).units+1<cLine:=by have:=hr.un;lia);exists _,be (cN (pA (a1s hu (bI (cM K rfl) (pv 1) ba λ_ _=>rfl) (cb (pv 0) rfl))) (be (fg (gg (pv 0) hC.cl cV dG hr cw .nil bt)) (bn a1Z)) dB) (be (cA (i:=2) Ch.nd rfl (Or.inl rfl) (GB (cb (pv 0) rfl) (bI (cM K rfl) (pv 1) ba λ_ _=>rfl) ⟨rfl,rfl,rfl,rfl⟩)) (bn (cN (pA (Gw hu (pv 2) (cb (pv 0) rfl))) (be (GJ (GB (cb (pv 0) rfl) (pv 2) ⟨rfl,rfl,rfl,rfl⟩) (nO rfl (gN (cC (i:=3) Ch.nd rfl (Or.inl rfl)) (gN (cC (i:=4) Ch.nd rfl (Or.inl rfl)) nP)))) (be (qP hu (cb (pv 0) rfl) (pv 3) (pv 4) rfl) (bn (fg (gg (pv 0) hC.cl cV dG hr cw .nil bt))))) (bn (gO (pv 0) (cz (aD cy (aD (pv 2) aO))) rfl))))),?_;(have Bz:t≠x:=λz=>by subst z;rw[hx]at ht;cases ht);(have Zj:ar≠x:=λz=>by subst z;rw[hx]at ha;cases ha);(have Gf:d≠x:=λz=>by subst z;rw[hx]at hd;cases hd);exists _,rfl,r,_,1,_,rfl,rfl,aS.of du,rfl,_,rfl,x,C,dx,fs,_,rfl,hx,hC.cl,hC.jx,hlt,t,_,rfl,dC.k (k:= .inr b) ht,_,rfl,?_;rcases q with⟨e1,q⟩|q;rw[e1];refine dj ⟨_,rfl,x,dx,fs,rfl,hx,hn2,?_⟩;exact yL q λH' z=>z;(have body: ∀n:Int,bZ fj (.inr b)=some (.int n)-> ∀ (H1:Hp),H1=upd H t (.dK (dU fj (.inr b)))->H1 x=some (.bv C dx fs)/\H1 ar=some (.dK iD)/\H1 d=some (.dK kvs):=(by rintro n _ H1 rfl;exact⟨by rw[aP Bz.symm];exact hx,by rw[aP Z0.symm];exact ha,by rw[aP Ge];exact hd⟩));(rcases q with⟨n,p,bx,v,e1,e2,hp,q⟩|⟨n,e1,e2,q⟩);rw[e1];obtain⟨h1,h2,h3⟩:=body n e1 _ rfl;(have ZS:p≠t:=λz=>by subst z;rw[hp]at ht;cases ht);(have ZR:p≠ar:=λz=>by subst z;rw[hp]at ha;cases ha);refine cG ⟨_,rfl,x,C,dx,fs,_,rfl,hx,hC.cl,hC.jx,hlt,t,rfl,.inl ⟨fj,.inl ht⟩,_,rfl,r,_,1,_,rfl,rfl,aS.of du,rfl,fj,.inr b,_,ht,rfl,e1,?_⟩;exists _,rfl,_,rfl,x,C,dx,fs,_,rfl,h1,hC.cl,hC.rP,EN,ar,_,rfl,dC.k (k:= .inl n) h2,_,rfl,?_;rw[e2];refine dj ⟨_,rfl,x,C,dx,fs,_,rfl,h1,hC.cl,hC.rP,EN,ar,rfl,.inl ⟨iD,.inl h2⟩,_,rfl,iD,.inl n,_,h2,rfl,e2,?_⟩;(have h4:upd (upd H t (.dK (dU fj (.inr b)))) ar (.dK (dU iD (.inl n))) p=some (.aC [.str bx,v]):=by rw[aP ZR,aP ZS];exact hp);(have h5:upd (upd H t (.dK (dU fj (.inr b)))) ar (.dK (dU iD (.inl n))) x=some (.bv C dx fs):=by rw[aP Zj.symm];exact h1);(have h6:upd (upd H t (.dK (dU fj (.inr b)))) ar (.dK (dU iD (.inl n))) d=some (.dK kvs):=by rw[aP ZA];exact h3);exists p,_,rfl,aS.of h4,rfl,_,_,rfl,_,_,rfl,rfl,?_;exists _,rfl,_,rfl,x,C,dx,fs,_,rfl,h5,hC.cl,hC.k9,hl,_,rfl,d,_,rfl,gl.k (k:= .inr bx) h6 hk,?_;exists _,rfl,x,dx,fs,rfl,(by rw[aP Gf.symm];exact h5),hn2,?_;exact yL q λH' z=>z;rw[e1];obtain⟨h1,h2,h3⟩:=body n e1 _ rfl;refine cG ⟨_,rfl,x,C,dx,fs,_,rfl,hx,hC.cl,hC.jx,hlt,t,rfl,.inl ⟨fj,.inl ht⟩,_,rfl,r,_,1,_,rfl,rfl,aS.of du,rfl,fj,.inr b,_,ht,rfl,e1,?_⟩;exists _,rfl,_,rfl,x,C,dx,fs,_,rfl,h1,hC.cl,hC.rP,EN,ar,_,rfl,dC.k (k:= .inl n) h2,_,rfl,?_;rw[e2];(have z2:2<=sizeLine:=by decide);refine cG ⟨_,rfl,z2,λl iw=> ?_⟩;exists _,rfl,x,C,dx,fs,rfl,aM iw _ _ _ h1,hC.cl,hC.kK,hf,q l iw
abbrev HU:Stmt:=top 50
abbrev Hv:Stmt:=top 51
abbrev HM:Stmt:=top 52
abbrev HI:Stmt:=top 53
abbrev yv:Stmt:=top 54
abbrev B7:Stmt:=top 55
abbrev j4:Stmt:=top 56
def iT(K:W.Frag)(H:Hp)(a:Addr)(ns:List Int):Prop:=(∃o,H a=some (.cc o (.aK (b9 ns))))\/
 ∃ (o:Obj) (aF:Array Value) (n:Nat),K.lookup a=some o/\o.cls= .type "list"/\o.dict=none/\o.data= .seq aF n/\aF.size<=sizeLine/\bg (b9 ns) aF.toList
def iT.sql{H:Hp}{a:ae}{ns:aq Int}(h:iT K H a ns):aQ K H a (b9 ns):=by rcases h with⟨o,h⟩|h;exact .inl (.inr ⟨o,h⟩);exact .inr h
def dL(t:Addr)(H H':Hp):Prop:= ∀b o,b≠t->H b=some o->H' b=some o
def dL.trans{t:ae}{H H1 H2:Hp}(a:dL t H H1)(b:dL t H1 H2):dL t H H2:=λc o n e=>b c o n (a c o n e)
def dL.of{t:ae}{H H':Hp}(s:aY H H'):dL t H H':=λb o _ e=>s b o e
def dL.upd{t:ae}{H:Hp}(o:HO):dL t H (upd H t o):=λb u n e=>by rw[aP n];exact e
inductive Tn(H:Hp)(t:Addr)(n:Nat)(c:Int):Prop
 |mk (cells:List Int) (_:H t=some (.aK (.int c::b9 cells))) (_:cells.length=n)
def dL.bA{t:ae}{H H':Hp}{n:Nat}{c:Int}(k:dL t H H')(h:Tn H t n c):bO H H':=λb xs e=>by obtain⟨cells,h,_⟩:=h;exact k b _ (xX e h (by intro z;cases z)) e
def dL.ii{t:ae}{H H':Hp}{n:Nat}{c:Int}(k:dL t H H')(h:Tn H t n c){a:ae}{ns:aq Int}(s:iT K H a ns):iT K H' a ns:=by obtain⟨cells,h,_⟩:=h;rcases s with⟨o,s⟩|s;exact .inl ⟨o,k a _ (xX s h (by intro z;cases z)) s⟩;exact .inr s
def Tn.same{t:ae}{H H':Hp}{n:Nat}{c:Int}(s:aY H H')(h:Tn H t n c):Tn H' t n c:=by obtain⟨cells,h,l⟩:=h;exists cells,s _ _ h,l
def Tn.ne{t p:ae}{H:Hp}{n:Nat}{c:Int}(h:Tn H t n c)(hp:H p=none):p≠t:=by obtain⟨cells,h,l⟩:=h;exact(fm h hp).symm
def sQ(ns:aq Int):(b9 ns).length=ns.length:=bq _
def ML{ns:aq Int}{i:Nat}(h:i<ns.length):(b9 ns)[i]? =some (.int ns[i]):=by unfold b9;rw[cB,br h];rfl
def Xn(ns:aq Int)(i:Nat)(z:Int):(b9 ns).set i (.int z)=b9 (ns.set i z):=by unfold b9;rw[List.map_set]
inductive Ip(K:W.Frag)(vs:List V)(H:Hp)(Q:VK)(cO:XK):Prop
 |mk (a ns:_) (_:vs= [.ref a]) (_:iT K H a ns) (_:ns.length<=63) (_: ∀t H',aY H H'->H t=none->Tn H' t ns.length 0->Q (.ref t) H')
def a3y:bP ["_law_script"] ["_law_script"] (bo HU):=fs
def a01(F:bK K "_law_town" "_law_town" HU f fd)(T:Tx mg):bw P w K mg base bh 1 f fd ["_law_script"] (Ip K):=by refine F.ok a3y (λvs H Q E h=> ?_) λbd A outer s H vs Q E hr h=> ?_;obtain⟨a,ns,rfl,_⟩:=h;rfl;obtain⟨a,ns,rfl,hs,h63,q⟩:=h;exists _,(bn (bQ (df Gn (fO (aD ba aO)) (ju JW rfl T.list boot_list (aD (pv 0) aO))))),?_;exists(by show 1<=sizeLine;decide),λp hp=> ?_;have s1:aY H (upd H p (.aK [.int 0])):=aM hp _;exists _,rfl,a,_,rfl,.inl (s1.seq hs.sql),λp2 qp=> ?_;have s2:=aM qp (.aK (b9 ns));exists p,p2,_,_,rfl,rfl,s2 _ _ aL,aL,?_,λt ht=> ?_;rw[sQ];exact Cq (by simp;lia);exact q t _ (s1.trans (s2.trans (aM ht _))) (s1.free (s2.free ht)) ⟨ns,aL,rfl⟩
structure Dr(K:W.Frag)(H:Hp)(a t:Addr)(ns:List Int)(c:Int):Prop where
 ii:iT K H a ns
 tn:Tn H t ns.length c
 h63:ns.length<=63
 c0:0<=c
 c1:c<2^40
inductive vX(K:W.Frag)(vs:List V)(H:Hp)(Q:VK)(cO:XK):Prop
 |mk (a t ns c m:_) (_:vs= [.ref a,.ref t,.int m]) (_:Dr K H a t ns c) (_:1<=m) (_:m<=1000000) (_: ∀d H',0<=d->d<m->dL t H H'->Tn H' t ns.length (c+1)->Q (.int d) H')
def yA:bP ["_law_script", "_law_town_here", "_law_many", "_law_at", "_law_left", "_law_number"] ["_law_script", "_law_town_here", "_law_many"] (bo Hv):=fs
def a0s(F:bK K "_law_draw" "_law_draw" Hv f fd)(T:Tx mg):bw P w K mg base bh 1 f fd ["_law_script", "_law_town_here", "_law_many"] (vX K):=by refine F.ok yA (λvs H Q E h=> ?_) λbd A outer s H vs Q E hr h=> ?_;obtain⟨a,t,ns,c,m,rfl,_⟩:=h;rfl;obtain⟨a,t,ns,c,m,rfl,dr,m1,m2,q⟩:=h;have hu:=hr.a4Y;exists _,(be (GJ (df px (bI gz (pv 1) ba λ_ _=>rfl) ba) (Oi (pv 1) ba Po)) (be (cN (cY (N0 hu) (pv 0) (fO aO) (cQ _)) (bn (bQ (df nK (df tE (df tG (df tG (bI gz (pv 1) ba λ_ _=>rfl) (bI gz (pv 1) ba λ_ _=>rfl)) ba) ba) (pv 2)))) dB) (be (cA (i:=3) yA.nd rfl (Or.inl rfl) (df nK (bI gz (pv 1) ba λ_ _=>rfl) (dw jh rfl T.len pX (aD (pv 0) aO)))) (be (cA (i:=4) yA.nd rfl (Or.inl rfl) (bI gz (pv 1) (df px ba (pv 3)) λ_ _=>rfl)) (be (cN (PW.pt (qQ (cY N1 (bI gz (pv 0) (pv 3) λ_ _=>rfl) (df N2 ba ba) (cQ _)) (tN (cY vy (pv 4) ba (cQ _))))) (be (GJ (df tE (pv 4) (pv 2)) (Oi (pv 1) (df px ba (pv 3)) Po)) (bn (bQ (df nK (pv 4) (pv 2))))) dB) (be (cA (i:=5) yA.nd rfl (Or.inl rfl) (df nK (df px (bI gz (pv 0) (pv 3) λ_ _=>rfl) (df tG ba (bI gz (pv 1) ba λ_ _=>rfl))) ba)) (be (cA (i:=5) yA.nd rfl (Or.inl rfl) (df nK (df N2 (pv 5) ba) ba)) (bn (bQ (df nK (df tE (df nK (df px (df tG (df tE (pv 5) ba) ba) (pv 5)) ba) ba) (pv 2))))))))))),?_;obtain⟨cells,ht,lc⟩:=dr.tn;have c0:=dr.c0;have c1:=dr.c1;have h63:=dr.h63;have iC: ∀ (z:Int) (zs:aq V),kR (V.int z::zs) 0=some (.int z):=λz zs=>gq (j:=0) rfl;exists _,rfl,t,_,0,_,rfl,rfl,aQ.of ht,iC _ _,_,_,rfl,rfl,_,rfl,t,_,0,0,rfl,rfl,ht,?_,?_;show kC (V.int c::b9 cells).length 0=some 0;unfold kC;rw[aT (by decide),aT (by simp)];rfl;have h1:upd H t (.aK ((V.int c::b9 cells).set 0 (.int (c+1)))) t=some (.aK (.int (c+1)::b9 cells)):=aL;have k1:dL t H (upd H t (.aK ((V.int c::b9 cells).set 0 (.int (c+1))))):=dL.upd _;generalize upd H t (.aK ((V.int c::b9 cells).set 0 (.int (c+1))))=H1 at h1 k1⊢;have Pc:iT K H1 a ns:=k1.ii dr.tn dr.ii;(have pq:0<m:=by lia);exists _,rfl,(by show 0<=sizeLine;decide),λe he=> ?_;have s2:aY H1 (upd H1 e (.aK [])):=aM he _;exists a,e,_,rfl,rfl,s2.seq Pc.sql,aQ.of aL,_,rfl,?_;have h2:=s2 _ _ h1;have k2:=k1.trans (dL.of (t:=t) s2);have yz:aQ K (upd H1 e (.aK [])) a (b9 ns):=s2.seq Pc.sql;generalize upd H1 e (.aK [])=H2 at h2 k2 yz⊢;(have nV:Tn H2 t ns.length (c+1):=⟨cells,h2,lc⟩);(have p1:(0:Int)<4294967291:=by decide);(have p2:(0:Int)<4294967279:=by decide);(have p3:(0:Int)<4294967231:=by decide);refine bJ (λhz=> ?_) λhz=> ?_;exists _,rfl,t,_,0,_,rfl,rfl,aQ.of h2,iC _ _,_,rfl,t,_,0,_,rfl,rfl,aQ.of h2,iC _ _,_,_,rfl,rfl,.inl ⟨by lia,by lia⟩,_,_,rfl,rfl,.inr ⟨by decide,by decide⟩,_,_,rfl,rfl,⟨by decide,by decide⟩,_,rfl,_,_,rfl,rfl,pq,?_;exact q _ H2 (rA _ (by lia)) (rn _ pq) k2 nV;(have cf:0<ns.length:=(by cases ns with|nil=>exact absurd rfl hz|cons=>simp));exists _,rfl,t,_,0,_,rfl,rfl,aQ.of h2,iC _ _,_,rfl,a,_,rfl,.inl yz,_,_,rfl,rfl,?_,?_;rw[sQ];lia;rw[sQ];have i0:=rA (c+1) (by lia:(ns.length:Int)≠0);have i1:=rn (c+1) (by lia:(0:Int)<ns.length);(obtain⟨j,hj⟩: ∃j:Nat,(c+1) % (ns.length:Int)=(j:Int):=⟨((c+1) % (ns.length:Int)).toNat,by lia⟩);rw[hj]at i0 i1;(have VU:j<ns.length:=by lia);(have VT:j<cells.length:=by lia);(have DD:kR (b9 ns) ((c+1) % (ns.length:Int))=some (.int ns[j]):=by rw[hj];exact gq (ML VU));(have S4:(1:Int)+(j:Int)=((j+1:Nat):Int):=by lia);(have Ro:kR (V.int (c+1)::b9 cells) (1+(c+1) % (ns.length:Int))=some (.int cells[j]):=by rw[hj,S4];exact gq (by simpa using ML VT));exists _,rfl,_,rfl,_,_,rfl,rfl,t,_,_,_,rfl,rfl,aQ.of h2,Ro,?_;exists _,rfl,_,rfl,a,_,_,_,rfl,rfl,yz,DD,_,_,rfl,rfl,⟨by decide,by decide,by decide⟩,_,_,rfl,rfl,_,rfl,bJ (λc3=>⟨_,rfl,_,_,rfl,rfl,_,rfl,bJ (λc4=> ?_) λc4=> ?_⟩) λc3=>cG ?_;have a5l:(0:Int)<cells[j]:=lu c4;exists _,rfl,_,rfl,_,_,rfl,rfl,⟨pq,by lia⟩,_,rfl,_,rfl,_,_,rfl,rfl,t,_,_,j+1,rfl,rfl,h2,?_,?_;show kC (V.int (c+1)::b9 cells).length (1+(c+1) % (ns.length:Int))=some (j+1);rw[hj];unfold kC;rw[aT (by lia),aT (by rw[cU,sQ];lia)];congr 1;lia;exists _,rfl,_,rfl,_,_,rfl,rfl,pq,?_;refine q _ _ (rA _ (by lia)) (rn _ pq) (k2.trans (dL.upd _)) ⟨cells.set j (cells[j] /m),?_,by rw[rF];exact lc⟩;rw[<-Xn];exact aL;exists _,rfl,_,rfl,a,_,_,_,rfl,rfl,yz,DD,_,rfl,t,_,0,_,rfl,rfl,aQ.of h2,iC _ _,_,_,rfl,rfl,.inr ⟨by lia,by lia⟩,_,_,rfl,rfl,_,_,rfl,rfl,p1,?_;have y0:=rA (ns[j]+104729*(c+1)) (by decide:(4294967291:Int)≠0);have y1:=rn (ns[j]+104729*(c+1)) (by decide:(0:Int)<4294967291);exists _,rfl,_,_,rfl,rfl,⟨by decide,by decide,by lia⟩,_,_,rfl,rfl,p2,?_;exists _,rfl,_,_,rfl,rfl,⟨by decide,by decide⟩,_,_,rfl,rfl,.inr ⟨by decide,by decide⟩,_,rfl,_,_,rfl,rfl,_,_,rfl,rfl,p3,_,_,rfl,rfl,⟨by decide,by decide⟩,_,rfl,_,_,rfl,rfl,pq,?_;exact q _ H2 (rA _ (by lia)) (rn _ pq) k2 nV;exists _,rfl,_,rfl,a,_,_,_,rfl,rfl,yz,DD,_,rfl,t,_,0,_,rfl,rfl,aQ.of h2,iC _ _,_,_,rfl,rfl,.inr ⟨by lia,by lia⟩,_,_,rfl,rfl,_,_,rfl,rfl,p1,?_;have y0:=rA (ns[j]+104729*(c+1)) (by decide:(4294967291:Int)≠0);have y1:=rn (ns[j]+104729*(c+1)) (by decide:(0:Int)<4294967291);exists _,rfl,_,_,rfl,rfl,⟨by decide,by decide,by lia⟩,_,_,rfl,rfl,p2,?_;exists _,rfl,_,_,rfl,rfl,⟨by decide,by decide⟩,_,_,rfl,rfl,.inr ⟨by decide,by decide⟩,_,rfl,_,_,rfl,rfl,_,_,rfl,rfl,p3,_,_,rfl,rfl,⟨by decide,by decide⟩,_,rfl,_,_,rfl,rfl,pq,?_;exact q _ H2 (rA _ (by lia)) (rn _ pq) k2 nV
def Dr.same{H H':Hp}{a t:ae}{ns:aq Int}{c:Int}(s:aY H H')(d:Dr K H a t ns c):Dr K H' a t ns c:=⟨(dL.of s).ii d.tn d.ii,d.tn.same s,d.h63,d.c0,d.c1⟩
inductive yK(K:W.Frag)(vs:List V)(H:Hp)(Q:VK)(cO:XK):Prop
 |mk (a t ns c l xs:_) (_:vs= [.ref a,.ref t,.ref l]) (_:Dr K H a t ns c) (_:l≠t) (_:H l=some (.aK xs)) (_:1<=xs.length) (_:xs.length<=1000) (_: ∀x H',x∈xs->dL t H H'->Tn H' t ns.length (c+1)->Q x H')
def a3t:bP ["_law_script", "_law_town_here", "_law_some"] ["_law_script", "_law_town_here", "_law_some"] (bo HM):=fs
def a0Q(F:bK K "_law_pick" "_law_pick" HM f fd)(T:Tx mg)(hd:cP P w K mg base bh 1 "_law_draw" ["_law_script", "_law_town_here", "_law_many"] (vX K)):bw P w K mg base bh 2 f fd ["_law_script", "_law_town_here", "_law_some"] (yK K):=by refine F.ok a3t (λvs H Q E h=> ?_) λbd A outer s H vs Q E hr h=> ?_;obtain⟨a,t,ns,c,l,xs,rfl,_⟩:=h;rfl;obtain⟨a,t,ns,c,l,xs,rfl,d,hlt,hl,h1,h2,q⟩:=h;exists _,(bn (bQ (bI gz (pv 2) (cj hd hr rfl bt (aD (pv 0) (aD (pv 1) (aD (dw jh rfl T.len pX (aD (pv 2) aO)) aO)))) λ_ _=>rfl))),?_;exists _,rfl,_,rfl,_,rfl,_,rfl,l,_,rfl,.inl (aQ.of hl),a,t,ns,c,_,rfl,d,by lia,by lia,λz H' z0 z1 k tn=> ?_;(obtain⟨j,rfl⟩: ∃j:Nat,z=(j:Int):=⟨z.toNat,by lia⟩);(have hj:j<xs.length:=by lia);exists l,xs,_,xs[j],rfl,rfl,aQ.of (k _ _ hlt hl),gq (br hj),q _ H' (kP hj) k tn
def sA:("a":aA)=S [97]:=by decide+kernel
def sB:("b":aA)=S [98]:=by decide+kernel
def sTt:("t":aA)=S [116]:=by decide+kernel
def sU:("u":aA)=S [117]:=by decide+kernel
def pC(r:aJ H (.at a) v):aJ H' (.at a) v:=by cases a<;>exact r
def eY{x:K2.T}{y:aA}(e:y=S x)(h:x.length<=1000000:=by decide):aJ H (.at (.str x)) (.str y):=⟨by rw[e],h⟩
inductive PX(K:W.Frag)(vs:List V)(H:Hp)(Q:VK)(cO:XK):Prop
 |mk (a t ns c:_) (_:vs= [.ref a,.ref t]) (_:Dr K H a t ns c) (_: ∀x v H',x∈jc->aJ H' (.at x) v->dL t H H'->Tn H' t ns.length (c+1)->Q v H')
def a3p:bP ["_law_script", "_law_town_here"] ["_law_script", "_law_town_here"] (bo HI):=fs
def a0J(F:bK K "_law_thing" "_law_thing" HI f fd)(hp:cP P w K mg base bh 2 "_law_pick" ["_law_script", "_law_town_here", "_law_some"] (yK K)):bw P w K mg base bh 3 f fd ["_law_script", "_law_town_here"] (PX K):=by refine F.ok a3p (λvs H Q E h=> ?_) λbd A outer s H vs Q E hr h=> ?_;obtain⟨a,t,ns,c,rfl,_⟩:=h;rfl;obtain⟨a,t,ns,c,rfl,d,q⟩:=h;exists _,(bn (bQ (cj hp hr rfl bt (aD (pv 0) (aD (pv 1) (aD (fO (aD ba (aD ba (aD ba (aD (BI CQ ba) (aD cy (aD cy (aD cy aO)))))))) aO)))))),?_;exists _,rfl,_,rfl,3,rfl,(by show 7<=sizeLine;decide),λl hl=> ?_;have s1:aY H (upd H l (.aK [.int 1,.int 2,.int 7,.int (-3),.str "a",.str "b",.str "a"])):=aM hl _;exists a,t,ns,c,l,_,rfl,d.same s1,d.tn.ne hl,aL,(by show 1<=7;decide),(by show 7<=1000;decide),λx H' hx k tn=> ?_;have k':=(dL.of (t:=t) s1).trans k;simp only[dN,eB,eJ]at hx;rcases hx with rfl|rfl|rfl|rfl|rfl|rfl|rfl;exact q (.int 1) _ H' (by decide) rfl k' tn;exact q (.int 2) _ H' (by decide) rfl k' tn;exact q (.int 7) _ H' (by decide) rfl k' tn;exact q (.int (-3)) _ H' (by decide) rfl k' tn;exact q (.str [97]) _ H' (by decide) (eY sA) k' tn;exact q (.str [98]) _ H' (by decide) (eY sB) k' tn;exact q (.str [97]) _ H' (by decide) (eY sA) k' tn
def Y3{os:aq Int}{t m:Int}{th:bu}(h1:t∈os)(h2:m=0\/m=1)(h3:th∈jc): [.str gK,.int t,.int m,th]∈b0 os:=by unfold b0;refine dE _ (dE _ (dE _ (dE _ (dE _ (dE _ ?_)))));exact List.mem_flatMap.mpr ⟨t,h1,List.mem_flatMap.mpr ⟨m,by rcases h2 with rfl|rfl<;>simp,List.mem_map.mpr ⟨th,h3,rfl⟩⟩⟩
def Nt{os:aq Int}{x m b:bu}(h1:x∈lJ os)(h2:m∈pj)(h3:b∈eF): [.str gi,x,m,b]∈b0 os:=by unfold b0;refine dE _ (dE _ (dE _ (dE _ (dE _ (db _ ?_)))));exact List.mem_flatMap.mpr ⟨x,h1,List.mem_flatMap.mpr ⟨m,h2,List.mem_map.mpr ⟨b,h3,rfl⟩⟩⟩
def Nq{os:aq Int}{t x m b:bu}(h0:t∈jx)(h1:x∈lJ os)(h2:m∈pj)(h3:b∈eF): [.str gJ,t,x,m,b]∈b0 os:=by unfold b0;refine dE _ (dE _ (dE _ (dE _ (db _ ?_))));exact List.mem_flatMap.mpr ⟨t,h0,List.mem_flatMap.mpr ⟨x,h1,List.mem_flatMap.mpr ⟨m,h2,List.mem_map.mpr ⟨b,h3,rfl⟩⟩⟩⟩
def Nu{os:aq Int}{t:bu}(h0:t∈jx): [.str gj,t]∈b0 os:=by unfold b0;exact dE _ (dE _ (dE _ (db _ (List.mem_map.mpr ⟨t,h0,rfl⟩))))
def Nm{os:aq Int}{b x y:bu}(h0:b∈eF)(h1:x∈jc)(h2:y∈jc): [.str gI,b,x,y]∈b0 os:=by unfold b0;exact dE _ (dE _ (db _ (List.mem_flatMap.mpr ⟨b,h0,List.mem_flatMap.mpr ⟨x,h1,List.mem_map.mpr ⟨y,h2,rfl⟩⟩⟩)))
def qE{os:aq Int}{r:aq bu}(h:r= [.str fP]\/r= [.str dk,.int 5]):r∈b0 os:=by unfold b0;exact dE _ (db _ (by rcases h with rfl|rfl<;>simp))
def Bp{os:aq Int}{x:bu}(h:x∈jc): [.str dk,x]∈b0 os:=by unfold b0;exact db _ (List.mem_map.mpr ⟨x,h,rfl⟩)
def Np{b:bu}{n:Int}(h0:b∈eF)(h1:n=0\/n=1\/n=2): [.str dZ,b,.int n]∈uX:=by unfold uX;exact List.mem_flatMap.mpr ⟨b,h0,List.mem_map.mpr ⟨n,by rcases h1 with rfl|rfl|rfl<;>simp,rfl⟩⟩
inductive Wt where
 |go|snd (t k:Nat)|j6 (k:Nat)|iO (k:Nat)|all
 deriving DecidableEq
/---/def Wt.pv:Wt->PV
 | .go=> .at .aN
 | .snd t k=> .aC [.at (.str gK),.at (.int t),.at (.int k)]
 | .j6 k=> .aC [.at (.str gi),.at (.int k)]
 | .iO k=> .aC [.at (.str gj),.at (.int k)]
 | .all=> .aC [.at (.str fP)]
structure Tk where
 n:Nat
 wh:bu
 ma:bu
 bx:T
def Tk.pv(q:Tk):PV:= .aC [.at q.wh,.at q.ma,.at (.str q.bx)]
def qF(m:Nat×Nat×Nat):PV:=cJ none [(m.1:Int),m.2.1,m.2.2]
structure HG where
 x:Addr
 dx:Addr
 he:Addr
 sa:Addr
 po:Addr
 ti:Addr
 ar:Addr
 me:Addr
 rows:List bp
 wt:Wt
 sd:Nat
 td:Nat
 aR:List Tk
 met:List (Nat×Nat×Nat)
/---/def HG.cells(g:HG):List Addr:= [g.x,g.he,g.sa,g.po,g.ti,g.ar,g.me]
/---/def HG.fs(g:HG)(rv wv:V):List (Str×V):=hf rv wv (.ref g.he) (.ref g.sa) g.sd g.td (.ref g.po) (.ref g.ti) (.ref g.ar) (.ref g.me)
def mV(kvs:List (aZ×V)):Prop:=(kvs.map (·.1)).Nodup/\ ∀p∈kvs,∃b i,p=(.inr (S b),.int i)/\bu.str b∈eF
def p7(kvs:List (aZ×V)):Prop:= ∀p∈kvs,∃ (b:Str) (n:Nat),p=(.inr b,.int n)
def lM(H:Hp)(kvs:List (aZ×V)):Prop:= ∀p∈kvs,∃ (n:Int) (a:Addr) (b:T) (i:Int),p=(.inl n,.ref a)/\H a=some (.aC [.str (S b),.int i])/\bu.str b∈eF
/---/def fz(H:Hp):List Tk->List (aZ×V)->Prop
 | [],ps=>ps= []
 |q::qs,ps=> ∃v r,ps=(.inl (q.n:Int),v)::r/\aJ H q.pv v/\fz H qs r
def eM(F:List Addr)(H H':Hp):Prop:= ∀b o,b∉F->H b=some o->H' b=some o
def eM.trans{F:aq ae}{H H1 H2:Hp}(a:eM F H H1)(b:eM F H1 H2):eM F H H2:=λc o n e=>b c o n (a c o n e)
def eM.of{F:aq ae}{H H':Hp}(s:aY H H'):eM F H H':=λb o _ e=>s b o e
def eM.upd{F:aq ae}{H:Hp}{a:ae}(h:a∈F)(o:HO):eM F H (upd H a o):=λb u n e=>by rw[aP (λz=>n (by rw[z];exact h))];exact e
def eM.mono{F G:aq ae}{H H':Hp}(h: ∀b∈F,b∈G)(k:eM F H H'):eM G H H':=λb o n e=>k b o (λz=>n (h b z)) e
def gH{H:Hp}{a:ae}{o:HO}(e:H a=some o)(h: ∀xs,o≠ .aC xs)(o':HO):bO H (upd H a o'):=λb xs z=>by(have:b≠a:=λw=>by subst w;rw[e]at z;exact h xs (gp z));rw[aP this];exact z
def fz.mono{H H':Hp}(t:bO H H'): ∀ {qs:aq Tk} {ps:aq (aZ×V)},fz H qs ps->fz H' qs ps
 | [],_,h=>h
 |_::_,_,h=>by obtain⟨v,r,e,a,b⟩:=h;exists v,r,e,t.bE a,fz.mono t b
def lM.mono{H H':Hp}(t:bO H H'){kvs:aq (aZ×V)}(h:lM H kvs):lM H' kvs:=λp hp=>by obtain⟨n,a,b,i,e,ha,hb⟩:=h p hp;exists n,a,b,i,e,t _ _ ha,hb
def qI{l:aq ae}(h:l.Nodup)(i j:Nat){a b:ae}(hi:l[i]? =some a)(hj:l[j]? =some b)(xu:i≠j):a≠b:=by rintro rfl;obtain⟨h1,e1⟩:=List.getElem?_eq_some_iff.mp hi;obtain⟨h2,e2⟩:=List.getElem?_eq_some_iff.mp hj;rcases Nat.lt_or_gt_of_ne xu with hl|hl;exact(List.pairwise_iff_getElem.mp h) i j h1 h2 hl (e1.trans e2.symm);exact(List.pairwise_iff_getElem.mp h) j i h2 h1 hl (e2.trans e1.symm)
structure bG(C:Addr)(B:Nat)(H:Hp)(g:HG):Prop where
 ob: ∃rv wv,H g.x=some (.bv C g.dx (g.fs rv wv))/\aJ H (.aC (g.rows.map bp.pv)) rv/\aJ H g.wt.pv wv
 he: ∃kvs,H g.he=some (.dK kvs)/\mV kvs
 sa: ∃ss,H g.sa=some (.aK (b9 ss))/\ss.length<=B
 po: ∃ps,H g.po=some (.dK ps)/\fz H g.aR ps
 ti: ∃kvs,H g.ti=some (.dK kvs)/\p7 kvs/\kvs.length<=B
 ar: ∃kvs,H g.ar=some (.dK kvs)/\lM H kvs/\kvs.length<=B
 me: ∃ms,H g.me=some (.aK ms)/\aE H (g.met.map qF) ms
 nd:g.cells.Nodup
section
variable{C:ae}{B:Nat}{H:Hp}{g:HG}
def bG.ne(I:bG C B H g)(i j:Nat){a b:ae}(hi:g.cells[i]? =some a:=by rfl)(hj:g.cells[j]? =some b:=by rfl)(xu:i≠j:=by decide):a≠b:=qI I.nd i j hi hj xu
def bG.more(I:bG C B H g){B':Nat}(h:B<=B'):bG C B' H g:=by exists I.ob,I.he,?_,I.po,?_,?_,I.me,I.nd;obtain⟨ss,e,l⟩:=I.sa;exists ss,e,dS l h;obtain⟨ss,e,t,l⟩:=I.ti;exists ss,e,t,dS l h;obtain⟨ss,e,t,l⟩:=I.ar;exists ss,e,t,dS l h
def bG.frame{H':Hp}(I:bG C B H g)(t:bO H H')(e: ∀b∈g.cells,∀o,H b=some o->H' b=some o):bG C B H' g:=by exists ?_,?_,?_,?_,?_,?_,?_,I.nd;obtain⟨rv,wv,z,r1,r2⟩:=I.ob;exists rv,wv,e _ (by simp[HG.cells]) _ z,t.bE r1,t.bE r2;obtain⟨kvs,z,k⟩:=I.he;exists kvs,e _ (by simp[HG.cells]) _ z,k;obtain⟨ss,z,l⟩:=I.sa;exists ss,e _ (by simp[HG.cells]) _ z,l;obtain⟨ps,z,p⟩:=I.po;exists ps,e _ (by simp[HG.cells]) _ z,p.mono t;obtain⟨kvs,z,k,l⟩:=I.ti;exists kvs,e _ (by simp[HG.cells]) _ z,k,l;obtain⟨kvs,z,k,l⟩:=I.ar;exists kvs,e _ (by simp[HG.cells]) _ z,k.mono t,l;obtain⟨ms,z,r⟩:=I.me;exists ms,e _ (by simp[HG.cells]) _ z,t.bC r
def bG.same{H':Hp}(I:bG C B H g)(s:aY H H'):bG C B H' g:=I.frame s.bA λb _ o e=>s b o e
def bG.keep{H':Hp}{F:aq ae}(I:bG C B H g)(t:bO H H')(k:eM F H H')(h: ∀b∈g.cells,b∉F):bG C B H' g:=I.frame t λb hb o e=>k b o (h b hb) e
def bG.a15(I:bG C B H g){rows:aq bp}{wt:Wt}{sd td:Nat}{rv wv:V}(r1:aJ H (.aC (rows.map bp.pv)) rv)(r2:aJ H wt.pv wv):bG C B (upd H g.x (.bv C g.dx (hf rv wv (.ref g.he) (.ref g.sa) sd td (.ref g.po) (.ref g.ti) (.ref g.ar) (.ref g.me)))) {g with rows:=rows,wt:=wt,sd:=sd,td:=td}:=by(have t:bO H (upd H g.x (.bv C g.dx (hf rv wv (.ref g.he) (.ref g.sa) sd td (.ref g.po) (.ref g.ti) (.ref g.ar) (.ref g.me)))):=(by obtain⟨rv,wv,z,r1,r2⟩:=I.ob;exact gH z (λ_ w=>by cases w) _));exists ?_,?_,?_,?_,?_,?_,?_,I.nd;exists rv,wv,aL,t.bE r1,t.bE r2;obtain⟨kvs,z,k⟩:=I.he;exists kvs,(aP (I.ne 1 0)).trans z,k;obtain⟨ss,z,l⟩:=I.sa;exists ss,(aP (I.ne 2 0)).trans z,l;obtain⟨ps,z,p⟩:=I.po;exists ps,(aP (I.ne 3 0)).trans z,p.mono t;obtain⟨kvs,z,k,l⟩:=I.ti;exists kvs,(aP (I.ne 4 0)).trans z,k,l;obtain⟨kvs,z,k,l⟩:=I.ar;exists kvs,(aP (I.ne 5 0)).trans z,k.mono t,l;obtain⟨ms,z,r⟩:=I.me;exists ms,(aP (I.ne 6 0)).trans z,t.bC r
def bG.GM(I:bG C B H g){kvs:aq (aZ×V)}(hk:mV kvs):bG C B (upd H g.he (.dK kvs)) g:=by(have t:bO H (upd H g.he (.dK kvs)):=(by obtain⟨kvs,z,k⟩:=I.he;exact gH z (λ_ w=>by cases w) _));exists ?_,?_,?_,?_,?_,?_,?_,I.nd;obtain⟨rv,wv,z,r1,r2⟩:=I.ob;exists rv,wv,(aP (I.ne 0 1)).trans z,t.bE r1,t.bE r2;exists kvs,aL,hk;obtain⟨ss,z,l⟩:=I.sa;exists ss,(aP (I.ne 2 1)).trans z,l;obtain⟨ps,z,p⟩:=I.po;exists ps,(aP (I.ne 3 1)).trans z,p.mono t;obtain⟨kvs,z,k,l⟩:=I.ti;exists kvs,(aP (I.ne 4 1)).trans z,k,l;obtain⟨kvs,z,k,l⟩:=I.ar;exists kvs,(aP (I.ne 5 1)).trans z,k.mono t,l;obtain⟨ms,z,r⟩:=I.me;exists ms,(aP (I.ne 6 1)).trans z,t.bC r
def bG.a14(I:bG C B H g){B':Nat}(hB:B<=B'){ss:aq Int}(hk:ss.length<=B'):bG C B' (upd H g.sa (.aK (b9 ss))) g:=by have J:=I.more hB;clear I;have I:=J;(have t:bO H (upd H g.sa (.aK (b9 ss))):=(by obtain⟨ss,z,l⟩:=I.sa;exact gH z (λ_ w=>by cases w) _));exists ?_,?_,?_,?_,?_,?_,?_,I.nd;obtain⟨rv,wv,z,r1,r2⟩:=I.ob;exists rv,wv,(aP (I.ne 0 2)).trans z,t.bE r1,t.bE r2;obtain⟨kvs,z,k⟩:=I.he;exists kvs,(aP (I.ne 1 2)).trans z,k;exists ss,aL,hk;obtain⟨ps,z,p⟩:=I.po;exists ps,(aP (I.ne 3 2)).trans z,p.mono t;obtain⟨kvs,z,k,l⟩:=I.ti;exists kvs,(aP (I.ne 4 2)).trans z,k,l;obtain⟨kvs,z,k,l⟩:=I.ar;exists kvs,(aP (I.ne 5 2)).trans z,k.mono t,l;obtain⟨ms,z,r⟩:=I.me;exists ms,(aP (I.ne 6 2)).trans z,t.bC r
def bG.Ov(I:bG C B H g){kvs:aq (aZ×V)}{qs:aq Tk}(hk:fz H qs kvs):bG C B (upd H g.po (.dK kvs)) {g with aR:=qs}:=by(have t:bO H (upd H g.po (.dK kvs)):=(by obtain⟨ps,z,p⟩:=I.po;exact gH z (λ_ w=>by cases w) _));exists ?_,?_,?_,?_,?_,?_,?_,I.nd;obtain⟨rv,wv,z,r1,r2⟩:=I.ob;exists rv,wv,(aP (I.ne 0 3)).trans z,t.bE r1,t.bE r2;obtain⟨kvs,z,k⟩:=I.he;exists kvs,(aP (I.ne 1 3)).trans z,k;obtain⟨ss,z,l⟩:=I.sa;exists ss,(aP (I.ne 2 3)).trans z,l;exists kvs,aL,hk.mono t;obtain⟨kvs,z,k,l⟩:=I.ti;exists kvs,(aP (I.ne 4 3)).trans z,k,l;obtain⟨kvs,z,k,l⟩:=I.ar;exists kvs,(aP (I.ne 5 3)).trans z,k.mono t,l;obtain⟨ms,z,r⟩:=I.me;exists ms,(aP (I.ne 6 3)).trans z,t.bC r
def bG.Ow(I:bG C B H g){B':Nat}(hB:B<=B'){kvs:aq (aZ×V)}(hk:p7 kvs)(hl:kvs.length<=B'):bG C B' (upd H g.ti (.dK kvs)) g:=by have J:=I.more hB;clear I;have I:=J;(have t:bO H (upd H g.ti (.dK kvs)):=(by obtain⟨kvs,z,k,l⟩:=I.ti;exact gH z (λ_ w=>by cases w) _));exists ?_,?_,?_,?_,?_,?_,?_,I.nd;obtain⟨rv,wv,z,r1,r2⟩:=I.ob;exists rv,wv,(aP (I.ne 0 4)).trans z,t.bE r1,t.bE r2;obtain⟨kvs,z,k⟩:=I.he;exists kvs,(aP (I.ne 1 4)).trans z,k;obtain⟨ss,z,l⟩:=I.sa;exists ss,(aP (I.ne 2 4)).trans z,l;obtain⟨ps,z,p⟩:=I.po;exists ps,(aP (I.ne 3 4)).trans z,p.mono t;exists kvs,aL,hk,hl;obtain⟨kvs,z,k,l⟩:=I.ar;exists kvs,(aP (I.ne 5 4)).trans z,k.mono t,l;obtain⟨ms,z,r⟩:=I.me;exists ms,(aP (I.ne 6 4)).trans z,t.bC r
def bG.Ou(I:bG C B H g){B':Nat}(hB:B<=B'){kvs:aq (aZ×V)}(hk:lM H kvs)(hl:kvs.length<=B'):bG C B' (upd H g.ar (.dK kvs)) g:=by have J:=I.more hB;clear I;have I:=J;(have t:bO H (upd H g.ar (.dK kvs)):=(by obtain⟨kvs,z,k,l⟩:=I.ar;exact gH z (λ_ w=>by cases w) _));exists ?_,?_,?_,?_,?_,?_,?_,I.nd;obtain⟨rv,wv,z,r1,r2⟩:=I.ob;exists rv,wv,(aP (I.ne 0 5)).trans z,t.bE r1,t.bE r2;obtain⟨kvs,z,k⟩:=I.he;exists kvs,(aP (I.ne 1 5)).trans z,k;obtain⟨ss,z,l⟩:=I.sa;exists ss,(aP (I.ne 2 5)).trans z,l;obtain⟨ps,z,p⟩:=I.po;exists ps,(aP (I.ne 3 5)).trans z,p.mono t;obtain⟨kvs,z,k,l⟩:=I.ti;exists kvs,(aP (I.ne 4 5)).trans z,k,l;exists kvs,aL,hk.mono t,hl;obtain⟨ms,z,r⟩:=I.me;exists ms,(aP (I.ne 6 5)).trans z,t.bC r
def bG.a12(I:bG C B H g){ms:aq V}{mt:aq (Nat×Nat×Nat)}(hk:aE H (mt.map qF) ms):bG C B (upd H g.me (.aK ms)) {g with met:=mt}:=by(have t:bO H (upd H g.me (.aK ms)):=(by obtain⟨ms,z,r⟩:=I.me;exact gH z (λ_ w=>by cases w) _));exists ?_,?_,?_,?_,?_,?_,?_,I.nd;obtain⟨rv,wv,z,r1,r2⟩:=I.ob;exists rv,wv,(aP (I.ne 0 6)).trans z,t.bE r1,t.bE r2;obtain⟨kvs,z,k⟩:=I.he;exists kvs,(aP (I.ne 1 6)).trans z,k;obtain⟨ss,z,l⟩:=I.sa;exists ss,(aP (I.ne 2 6)).trans z,l;obtain⟨ps,z,p⟩:=I.po;exists ps,(aP (I.ne 3 6)).trans z,p.mono t;obtain⟨kvs,z,k,l⟩:=I.ti;exists kvs,(aP (I.ne 4 6)).trans z,k,l;obtain⟨kvs,z,k,l⟩:=I.ar;exists kvs,(aP (I.ne 5 6)).trans z,k.mono t,l;exists ms,aL,t.bC hk
end
def Og(v a b c d:V)(e f:Int)(i j k l:V):bU "rows" v (hf a b c d e f i j k l)=hf v b c d e f i j k l:=by rfl
def yd(v a b c d:V)(e f:Int)(i j k l:V):bU "waiting" v (hf a b c d e f i j k l)=hf a v c d e f i j k l:=by rfl
def a1F(v:Int)(a b c d:V)(e f:Int)(i j k l:V):bU "sends_done" (.int v) (hf a b c d e f i j k l)=hf a b c d v f i j k l:=by rfl
def Oh(v:Int)(a b c d:V)(e f:Int)(i j k l:V):bU "takes_done" (.int v) (hf a b c d e f i j k l)=hf a b c d e v i j k l:=by rfl
section
variable{C:ae}{B:Nat}{H:Hp}{g:HG}{Q:VK}{E:XK}
def bG.a4P(I:bG C B H g)(o:HO):bO H (upd H g.x o):=by obtain⟨_,_,z,_⟩:=I.ob;exact gH z (λ_ w=>by cases w) _
def bG.II(I:bG C B H g)(o:HO):bO H (upd H g.he o):=by obtain⟨_,z,_⟩:=I.he;exact gH z (λ_ w=>by cases w) _
def bG.a4O(I:bG C B H g)(o:HO):bO H (upd H g.sa o):=by obtain⟨_,z,_⟩:=I.sa;exact gH z (λ_ w=>by cases w) _
def bG.IJ(I:bG C B H g)(o:HO):bO H (upd H g.po o):=by obtain⟨_,z,_⟩:=I.po;exact gH z (λ_ w=>by cases w) _
def bG.QH(I:bG C B H g)(o:HO):bO H (upd H g.ti o):=by obtain⟨_,z,_⟩:=I.ti;exact gH z (λ_ w=>by cases w) _
def bG.QG(I:bG C B H g)(o:HO):bO H (upd H g.ar o):=by obtain⟨_,z,_⟩:=I.ar;exact gH z (λ_ w=>by cases w) _
def bG.a4N(I:bG C B H g)(o:HO):bO H (upd H g.me o):=by obtain⟨_,z,_⟩:=I.me;exact gH z (λ_ w=>by cases w) _
structure To(C:Addr)(B:Nat)(H:Hp)(g:HG)(H':Hp)(g':HG):Prop where
 is:bG C B H' g'
 keep:eM g.cells H H'
 bA:bO H H'
def To.trans{B1:Nat}{H1 H2:Hp}{g1 g2:HG}(a:To C B1 H g H1 g1)(b:To C B H1 g1 H2 g2)(e:g1.cells=g.cells):To C B H g H2 g2:=⟨b.is,a.keep.trans (e▸b.keep),a.bA.trans b.bA⟩
def To.same{H':Hp}(I:bG C B H g)(s:aY H H'):To C B H g H' g:=⟨I.same s,eM.of s,s.bA⟩
def To.x(I:bG C B H g){rows:aq bp}{wt:Wt}{sd td:Nat}{rv wv:V}(r1:aJ H (.aC (rows.map bp.pv)) rv)(r2:aJ H wt.pv wv):To C B H g (upd H g.x (.bv C g.dx (hf rv wv (.ref g.he) (.ref g.sa) sd td (.ref g.po) (.ref g.ti) (.ref g.ar) (.ref g.me)))) {g with rows:=rows,wt:=wt,sd:=sd,td:=td}:=
 ⟨I.a15 r1 r2,eM.upd (by simp[HG.cells]) _,I.a4P _⟩
def oF(I:bG C B H g)(q: ∀H',To C B H g H' {g with rows:=g.rows.drop 1,wt:= .go}->Q .aN H'):iN C [.ref g.x] H Q E:=by obtain⟨rv,wv,hx,r1,r2⟩:=I.ob;obtain⟨r,xs,rfl,hr,rr⟩:=r1.aC;exists g.x,g.dx,_,r,xs,rfl,hx,(by show 10<1000;decide),rfl,hr,⟨_,rfl⟩,λr' H' h1 s=> ?_;have a1:=To.x I (rows:=g.rows) (wt:= .go) (sd:=g.sd) (td:=g.td) (wv:= .aN) r1 (by show V.aN= .aN;rfl);have e1:bU "waiting" .aN (g.fs (.ref r) wv)=hf (.ref r) .aN (.ref g.he) (.ref g.sa) g.sd g.td (.ref g.po) (.ref g.ti) (.ref g.ar) (.ref g.me):=yd _ _ _ _ _ _ _ _ _ _ _;rw[e1]at s⊢;rw[Og];have a2:=a1.trans (To.same a1.is s) rfl;have a3:=a2.trans (To.x a2.is (rows:=g.rows.drop 1) (wt:= .go) (sd:=g.sd) (td:=g.td) (rv:= .ref r') (wv:= .aN) (by simp only[aJ];exists r',_,rfl,h1,?_;rw[List.map_drop];exact(a2.bA.bC rr).drop 1) (by show V.aN= .aN;rfl)) rfl;exact q _ a3
end
structure gk(H0 H:Hp)(t:Addr)(n:Nat)(c0:Int)(k:Nat):Prop where
 kept:dL t H0 H
 tn:Tn H t n (c0+k)
def gk.dr{H0 H:Hp}{a t:ae}{ns:aq Int}{c0:Int}{k:Nat}(d:Dr K H0 a t ns c0)(hc:c0<2^30)(h:gk H0 H t ns.length c0 k)(hk:k<=100000:=by lia):Dr K H a t ns (c0+k):=
 ⟨h.kept.ii d.tn d.ii,h.tn,d.h63,by have:=d.c0;lia,by lia⟩
def gk.same{H0 H H':Hp}{t:ae}{n:Nat}{c0:Int}{k:Nat}(h:gk H0 H t n c0 k)(s:aY H H'):gk H0 H' t n c0 k:=⟨h.kept.trans (dL.of s),h.tn.same s⟩
def gk.step{H0 H H':Hp}{t:ae}{n:Nat}{c0:Int}{k:Nat}(h:gk H0 H t n c0 k)(kp:dL t H H')(tn:Tn H' t n (c0+k+1)):gk H0 H' t n c0 (k+1):=⟨h.kept.trans kp,by rw[show c0+((k+1:Nat):Int)=c0+k+1 by lia];exact tn⟩
def gk.ne{H0 H:Hp}{t p:ae}{n:Nat}{c0:Int}{k:Nat}(h:gk H0 H t n c0 k)(hp:H p=none):p≠t:=h.tn.ne hp
def gk.trans{H0 H H':Hp}{t:ae}{n:Nat}{c0:Int}{k k':Nat}(h:gk H0 H t n c0 k)(h':gk H H' t n (c0+k) k'):gk H0 H' t n c0 (k+k'):=⟨h.kept.trans h'.kept,by rw[show c0+((k+k':Nat):Int)=c0+k+k' by lia];exact h'.tn⟩
def a1g{n me:Nat}(h2:2<=n)(h4:n<=4)(hm:me<n):1<=(bM n me).length/\(bM n me).length<=4:=by(have: ∀n∈ [2,3,4],∀me∈List.range n,1<=(bM n me).length/\(bM n me).length<=4:=by decide+kernel);exact this n (by simp;lia) me (List.mem_range.mpr hm)
def yy:("send":aA)=S gK:=by decide+kernel
def Cc:("take":aA)=S gi:=by decide+kernel
def Pa:("post":aA)=S gJ:=by decide+kernel
def Ce:("wait":aA)=S gj:=by decide+kernel
def pG:("tell":aA)=S dk:=by decide+kernel
def O5:("add":aA)=S gI:=by decide+kernel
def lF:("all":aA)=S fP:=by decide+kernel
inductive yI(K:W.Frag)(d:Nat)(vs:List V)(H:Hp)(Q:VK)(cO:XK):Prop
 |mk (a t ns c n me:_) (_:vs= [.ref a,.ref t,.int (me:Nat),.int (n:Nat),.bl true,.int ((d:Int)-1)]) (_:1<=d) (_:Dr K H a t ns c) (_:c+1000*d<2^29) (_:2<=n) (_:n<=4) (_:me<n) (_: ∀v (k:Nat) H',k<=100*d-80->gk H H' t ns.length c k->(∃dr,(d=1-> ∃aF,aF∈b0 (bM n me)/\dr= .bF aF)/\Row (bM n me) dr/\aJ H' dr.pv v)->Q v H')
def Zs:(["_law_at", "_law_script", "_law_town_here", "_law_me", "_law_hands", "_law_wild", "_law_deep", "_law_others", "_law_way", "_law_mark", "_law_whence", "_law_rows", "_law_number"]:aq aA).Nodup:=by decide+kernel
def Zt:(["_law_k", "_law_script", "_law_town_here", "_law_me", "_law_hands", "_law_wild", "_law_deep", "_law_others", "_law_way", "_law_mark", "_law_whence", "_law_rows", "_law_number"]:aq aA).Nodup:=by decide+kernel
def qS:bP ["_law_script", "_law_town_here", "_law_me", "_law_hands", "_law_wild", "_law_deep", "_law_others", "_law_way", "_law_mark", "_law_whence", "_law_rows", "_law_number"] ["_law_script", "_law_town_here", "_law_me", "_law_hands", "_law_wild", "_law_deep"] (bo yv):=fs
def NX{d:Nat}(F:bK K "_law_row" "_law_row" yv f fd)(T:Tx mg)(Ew:d<=1)(hd:cP P w K mg base bh 1 "_law_draw" ["_law_script", "_law_town_here", "_law_many"] (vX K))(hp:cP P w K mg base bh 2 "_law_pick" ["_law_script", "_law_town_here", "_law_some"] (yK K))(ht:cP P w K mg base bh 3 "_law_thing" ["_law_script", "_law_town_here"] (PX K))(WC:cP P w K mg base bh (d+3) "_law_row" ["_law_script", "_law_town_here", "_law_me", "_law_hands", "_law_wild", "_law_deep"] (yI K d)):bw P w K mg base bh (d+4) f fd ["_law_script", "_law_town_here", "_law_me", "_law_hands", "_law_wild", "_law_deep"] (yI K (d+1)):=by
 refine F.ok (k:=d+3) qS (λvs H Q E h=> ?_) λbd A outer s H vs Q E hr h=> ?_;obtain⟨a,t,ns,c,n,me,rfl,_⟩:=h;rfl;obtain⟨a,t,ns,c,n,me,rfl,_,dr,hc,h2,h4,jT,q⟩:=h;exists _,(be (tM (i:=6) (T:= ["_law_at"]) (lG (bo yv) ["_law_script", "_law_town_here", "_law_me", "_law_hands", "_law_wild", "_law_deep", "_law_others", "_law_way", "_law_mark", "_law_whence", "_law_rows", "_law_number"] rfl rfl (by decide+kernel)) rfl qS.nd rfl rfl (pz rfl T.range (aD (pv 3) aO)) (λY hY=>by cases hY;exact cC (i:=0) Zs rfl (Or.inl rfl)) iE (λY hY=>by cases hY;exact qM (cY tH (pv 0) (pv 3) (cQ _))) (λY hY=>by cases hY;exact pv 0)) (be (cA (i:=7) qS.nd rfl (Or.inl rfl) (cj hd hr rfl bt (aD (pv 0) (aD (pv 1) (aD ba aO))))) (be (cN (cY Gp (pv 7) ba (cQ _)) (bn (bQ (cz (aD cy (aD (cj hp hr rfl bt (aD (pv 0) (aD (pv 1) (aD (pv 6) aO)))) (aD (cj hd hr rfl bt (aD (pv 0) (aD (pv 1) (aD ba aO)))) (aD (cj ht hr rfl bt (aD (pv 0) (aD (pv 1) aO))) aO))))))) dB) (be (cA (i:=8) qS.nd rfl (Or.inl rfl) (cj hp hr rfl bt (aD (pv 0) (aD (pv 1) (aD (fO (aD ba (aD ba (aD mE aO)))) aO))))) (be (cA (i:=9) qS.nd rfl (Or.inl rfl) (cj hp hr rfl bt (aD (pv 0) (aD (pv 1) (aD (pv 6) aO))))) (be (cN (PW.pt (qQ (g9 (pv 4)) (tN (cY jt (cj hd hr rfl bt (aD (pv 0) (aD (pv 1) (aD ba aO)))) ba (cQ _))))) (bn (cA (i:=9) qS.nd rfl (Or.inl rfl) mE)) dB) (be (cN (cY Gp (pv 7) ba (cQ _)) (bn (bQ (cz (aD cy (aD (pv 9) (aD (pv 8) (aD (cj hp hr rfl bt (aD (pv 0) (aD (pv 1) (aD (fO (aD cy (aD cy aO))) aO)))) aO))))))) dB) (be (cN (cY jt (pv 7) ba (cQ _)) (bn (bQ (cz (aD cy (aD (cj hp hr rfl bt (aD (pv 0) (aD (pv 1) (aD (fO (aD cy (aD cy aO))) aO)))) (aD (pv 9) (aD (pv 8) (aD (cj hp hr rfl bt (aD (pv 0) (aD (pv 1) (aD (fO (aD cy (aD cy aO))) aO)))) aO)))))))) dB) (be (cN (cY jt (pv 7) ba (cQ _)) (bn (bQ (cz (aD cy (aD (cj hp hr rfl bt (aD (pv 0) (aD (pv 1) (aD (fO (aD cy (aD cy aO))) aO)))) aO))))) dB) (be (cN (cY jt (pv 7) ba (cQ _)) (bn (bQ (cz (aD cy (aD (cj hp hr rfl bt (aD (pv 0) (aD (pv 1) (aD (fO (aD cy (aD cy aO))) aO)))) (aD (cj ht hr rfl bt (aD (pv 0) (aD (pv 1) aO))) (aD (cj ht hr rfl bt (aD (pv 0) (aD (pv 1) aO))) aO))))))) dB) (be (cN (PW.pt (qQ (cY jt (pv 7) ba (cQ _)) (tN (cY vy (pv 5) ba (cQ _))))) (be (tM (i:=10) (T:= ["_law_k"]) (lG (bo yv) ["_law_script", "_law_town_here", "_law_me", "_law_hands", "_law_wild", "_law_deep", "_law_others", "_law_way", "_law_mark", "_law_whence", "_law_rows", "_law_number"] rfl rfl (by decide+kernel)) rfl qS.nd rfl rfl (pz rfl T.range (aD ba aO)) (λY hY=>by cases hY;exact cC (i:=0) Zt rfl (Or.inl rfl)) iE (λY _=>lv) (λY hY=>by cases hY;exact cj WC hr rfl bt (aD (pv 1) (aD (pv 2) (aD (pv 3) (aD (pv 4) (aD (pv 5) (aD ba aO)))))))) (be (cA (i:=11) qS.nd rfl (Or.inl rfl) (cj hp hr rfl bt (aD (pv 0) (aD (pv 1) (aD (fO (aD ba (aD ba (aD ba aO)))) aO))))) (bn (bQ (cz (aD cy (aD (cj hp hr rfl bt (aD (pv 0) (aD (pv 1) (aD (fO (aD cy (aD cy aO))) aO)))) (aD (pv 11) (aD (ju oA rfl T.tuple jL (aD (tI Pq (pv 10) tK (tL ba)) aO)) (aD (ju oA rfl T.tuple jL (aD (tI Pq (pv 10) (tL ba) tK) aO)) aO)))))))))) dB) (be (cN (cY jt (pv 7) ba (cQ _)) (bn (bQ (cj hp hr rfl bt (aD (pv 0) (aD (pv 1) (aD (fO (aD (cz (aD cy aO)) (aD (cz (aD cy (aD ba aO))) aO))) aO)))))) dB) (bn (bQ (cz (aD cy (aD (cj ht hr rfl bt (aD (pv 0) (aD (pv 1) aO))) aO))))))))))))))))),?_;(have cr:c<2^30:=by lia);have ol:=a1g h2 h4 jT;(have NY:1<=(b9 (bM n me)).length:=by rw[sQ];exact ol.1);(have NZ:(b9 (bM n me)).length<=1000:=by rw[sQ];lia);(have z1:1<=sizeLine:=by decide);(have z2:2<=sizeLine:=by decide);(have z3:3<=sizeLine:=by decide);(have z4:4<=sizeLine:=by decide);(have z5:5<=sizeLine:=by decide);(have o2:1<=2:=by decide);(have t2:2<=1000:=by decide);(have o3:1<=3:=by decide);(have t3:3<=1000:=by decide);(have qv: ∀x:V,x∈ [V.str "a",V.str "b"]-> ∃b∈eF,∀H',aJ H' (.at b) x:=λx hx=>(by simp only[dN,eB,eJ]at hx;rcases hx with rfl|rfl;exists .str [97],by decide,λ_=>eY sA;exists .str [98],by decide,λ_=>eY sB));(have AX: ∀x:V,x∈ [V.str "t",V.str "u"]-> ∃b∈jx,∀H',aJ H' (.at b) x:=λx hx=>(by simp only[dN,eB,eJ]at hx;rcases hx with rfl|rfl;exists .str [116],by decide,λ_=>eY sTt;exists .str [117],by decide,λ_=>eY sU));exists _,rfl,(n:Int),rfl,(by lia),(by lia),?_;refine iq (n:=n) (λj ys H'=>H'=H/\ys=b9 (((List.range j).filter (· ≠me)).map λ(k:Nat)=>(k:Int))) ⟨rfl,rfl⟩ ?_ ?_;(·rintro j ys _ hj ⟨rfl,rfl⟩;exists hj,?_,?_;have h1:=wA (λx=>decide (x≠me)) (List.range j);rw[oh]at h1;unfold b9;rw[bq,bq];exact wF h1 (pH (by lia));(·rintro x _ ⟨rfl,rfl⟩;exists _,rfl,_,rfl,rfl,_,rfl,bJ (λc=>⟨_,rfl,Wc.next hj ⟨rfl,?_⟩⟩) λc=>Wc.next hj ⟨rfl,?_⟩;(have hne:j≠me:=λz=>by subst z;simp at c);rw[BF,aT hne];simp[b9];(have he:j=me:=(by(have z:V.int (0+(j:Int))=V.int (me:Int):=by simpa using c);injection z with z;lia));rw[BF,aU (by simpa using he)];simp));rintro ys H' ⟨hH,rfl⟩;have hH:=hH.symm;subst hH;exists aV _,λo ho=> ?_;have s1:aY H (upd H o (.aK (b9 (bM n me)))):=aM ho _;(have qb:gk H (upd H o (.aK (b9 (bM n me)))) t ns.length c 0:=⟨dL.of s1,by rw[show c+((0:Nat):Int)=c by lia];exact dr.tn.same s1⟩);have AF:o≠t:=dr.tn.ne ho;exists _,rfl,_,rfl,a,t,ns,_,16,rfl,qb.dr dr cr,by decide,by decide,λway H2 w0 w1 k2 nV=> ?_;have at2:=qb.step k2 nV;have sM:H2 o=some (.aK (b9 (bM n me))):=k2 _ _ AF aL;exists _,rfl,_,_,rfl,rfl,_,rfl,bJ (λc5=> ?_) λc5=> ?_;exists _,rfl,_,rfl,_,rfl,a,t,ns,_,o,_,rfl,at2.dr dr cr,AF,sM,NY,NZ,λx3 H3 jq k3 IE=> ?_;have iU:=at2.step k3 IE;obtain⟨i3,VN,rfl⟩:=List.mem_map.mp jq;exists _,rfl,_,rfl,a,t,ns,_,2,rfl,iU.dr dr cr,by decide,by decide,λm4 H4 m40 m41 k4 IF=> ?_;have nc:=iU.step k4 IF;exists _,rfl,_,rfl,a,t,ns,_,rfl,nc.dr dr cr,λy5 v5 H5 W4 r5 k5 wc=> ?_;have bV:=nc.step k5 wc;exists z4,λp hp=> ?_;have mm: [.str gK,.int i3,.int m4,y5]∈b0 (bM n me):=Y3 VN (by lia) W4;exact q (.ref p) _ _ (by lia) (bV.same (aM hp _)) ⟨.bF [.str gK,.int i3,.int m4,y5],λ_=>⟨_,mm,rfl⟩,.bF mm,aJ.mk aL (aE.cons (eY yy) (aE.cons (show _=_ from rfl) (aE.cons (show _=_ from rfl) (aE.cons (pC r5) (aE.nil)))))⟩;exists _,rfl,_,rfl,z3,λl3 jm=>⟨a,t,ns,_,l3,_,rfl,(at2.same (aM jm _)).dr dr cr,at2.ne jm,aL,o3,t3,λmk H3 L4 k3 IE=> ?_⟩;have iU:=(at2.same (aM jm _)).step k3 IE;have Wh:H3 o=some (.aK (b9 (bM n me))):=k3 _ _ AF (aM jm _ _ _ sM);(obtain⟨am,Av,BO⟩: ∃am∈pj,∀H',aJ H' (.at am) mk:=(by simp only[dN,eB,eJ]at L4;rcases L4 with rfl|rfl|rfl;exists .int 0,by decide,λ_=>rfl;exists .int 1,by decide,λ_=>rfl;exists .aN,by decide,λ_=>rfl));exists _,rfl,_,rfl,_,rfl,a,t,ns,_,o,_,rfl,iU.dr dr cr,AF,Wh,NY,NZ,λx4 H4 WW k4 IF=> ?_;have nc:=iU.step k4 IF;obtain⟨i4,VO,rfl⟩:=List.mem_map.mp WW;exists _,rfl,_,rfl,dj ⟨_,rfl,_,rfl,a,t,ns,_,2,rfl,nc.dr dr cr,by decide,by decide,λzz5 H5 z50 z51 k5 wc=>⟨rfl,_,rfl,bJ (λc6=> ?_) λc6=> ?_⟩⟩
 ·(have sF:bu.aN∈lJ (bM n me):=by simp[lJ]);have raw: ∀H',aJ H' (.at .aN) V.aN:=λ_=>rfl;(obtain⟨aw,wT⟩: ∃aw,aw=bu.aN:=⟨_,rfl⟩);rw[<-wT]at sF;(have raw: ∀H',aJ H' (.at aw) V.aN:=λ_=>by rw[wT];rfl);have bV:=nc.step k5 wc;exists _,rfl,_,_,rfl,rfl,_,rfl,bJ (λc9=> ?_) λc9=> ?_;exists _,rfl,_,rfl,?_;exists _,rfl,_,rfl,z2,λl6 bW=>⟨a,t,ns,_,l6,_,rfl,(bV.same (aM bW _)).dr dr cr,bV.ne bW,aL,o2,t2,λx6 H6 eG k6 fb=> ?_⟩;have bT:=(bV.same (aM bW _)).step k6 fb;obtain⟨b6,gW,jv⟩:=qv x6 eG;exists z4,λp hp=> ?_;have mm: [.str gi,aw,am,b6]∈b0 (bM n me):=Nt sF Av gW;exact q (.ref p) _ _ (by lia) (bT.same (aM hp _)) ⟨.bF [.str gi,aw,am,b6],λ_=>⟨_,mm,rfl⟩,.bF mm,aJ.mk aL (aE.cons (eY Cc) (aE.cons (raw _) (aE.cons (BO _) (aE.cons (jv _) (aE.nil)))))⟩;exists _,rfl,rfl,_,rfl,bJ (λ_=> ?_) λ_=> ?_;(skip);exists _,rfl,_,rfl,z2,λl6 bW=>⟨a,t,ns,_,l6,_,rfl,(bV.same (aM bW _)).dr dr cr,bV.ne bW,aL,o2,t2,λx6 H6 eG k6 fb=> ?_⟩;have bT:=(bV.same (aM bW _)).step k6 fb;obtain⟨b6,gW,jv⟩:=AX x6 eG;exists _,rfl,_,rfl,?_;exists _,rfl,_,rfl,z2,λl7 dH=>⟨a,t,ns,_,l7,_,rfl,(bT.same (aM dH _)).dr dr cr,bT.ne dH,aL,o2,t2,λx7 H7 jr k7 mP=> ?_⟩;have fU:=(bT.same (aM dH _)).step k7 mP;obtain⟨b7,Es,GR⟩:=qv x7 jr;exists z5,λp hp=> ?_;have mm: [.str gJ,b6,aw,am,b7]∈b0 (bM n me):=Nq gW sF Av Es;exact q (.ref p) _ _ (by lia) (fU.same (aM hp _)) ⟨.bF [.str gJ,b6,aw,am,b7],λ_=>⟨_,mm,rfl⟩,.bF mm,aJ.mk aL (aE.cons (eY Pa) (aE.cons (jv _) (aE.cons (raw _) (aE.cons (BO _) (aE.cons (GR _) (aE.nil))))))⟩;exists _,rfl,rfl,_,rfl,bJ (λ_=> ?_) λ_=> ?_;(skip);exists _,rfl,_,rfl,z2,λl6 bW=>⟨a,t,ns,_,l6,_,rfl,(bV.same (aM bW _)).dr dr cr,bV.ne bW,aL,o2,t2,λx6 H6 eG k6 fb=> ?_⟩;have bT:=(bV.same (aM bW _)).step k6 fb;obtain⟨b6,gW,jv⟩:=AX x6 eG;exists z2,λp hp=> ?_;have mm: [.str gj,b6]∈b0 (bM n me):=Nu gW;exact q (.ref p) _ _ (by lia) (bT.same (aM hp _)) ⟨.bF [.str gj,b6],λ_=>⟨_,mm,rfl⟩,.bF mm,aJ.mk aL (aE.cons (eY Ce) (aE.cons (jv _) (aE.nil)))⟩;exists _,rfl,rfl,_,rfl,bJ (λ_=> ?_) λ_=> ?_;(skip);exists _,rfl,_,rfl,z2,λl6 bW=>⟨a,t,ns,_,l6,_,rfl,(bV.same (aM bW _)).dr dr cr,bV.ne bW,aL,o2,t2,λx6 H6 eG k6 fb=> ?_⟩;have bT:=(bV.same (aM bW _)).step k6 fb;obtain⟨b6,gW,jv⟩:=qv x6 eG;exists _,rfl,_,rfl,a,t,ns,_,rfl,bT.dr dr cr,λy7 v7 H7 FC r7 k7 mP=> ?_;have fU:=bT.step k7 mP;exists _,rfl,_,rfl,a,t,ns,_,rfl,fU.dr dr cr,λy8 v8 H8 FD r8 k8 tZ=> ?_;have rQ:=fU.step k8 tZ;exists z4,λp hp=> ?_;have mm: [.str gI,b6,y7,y8]∈b0 (bM n me):=Nm gW FC FD;exact q (.ref p) _ _ (by lia) (rQ.same (aM hp _)) ⟨.bF [.str gI,b6,y7,y8],λ_=>⟨_,mm,rfl⟩,.bF mm,aJ.mk aL (aE.cons (eY O5) (aE.cons (jv _) (aE.cons (pC r7) (aE.cons (pC r8) (aE.nil)))))⟩;exists _,rfl,rfl,_,rfl,bJ (λDH=>⟨_,rfl,_,_,rfl,rfl,_,rfl,bJ (λcd=> ?_) λcd=> ?_⟩) λDH=>cG ?_
  ·(have xk:d=1:=(by have z:(0:Int)<((d+1:Nat):Int)-1:=lu cd;lia));subst xk;exists 2,rfl,by decide,by decide,?_;refine iq (n:=2) (λj ys H'=> ∃kk,kk<=4+20*j/\gk H H' t ns.length c kk/\ ∃aF:List (List bu),aF.length=j/\(∀r∈aF,r∈b0 (bM n me))/\aE H' (aF.map λr=> .aC (eO r)) ys) ⟨4,by decide,bV,[],rfl,λ_ z=>(by cases z),aE.nil⟩ ?_ ?_;(·rintro j ys H6 hj ⟨kk,hkk,bT,aF,sK,fW,gG⟩;have ly:=gG.len;rw[bq]at ly;exists hj,pH (by lia),?_;rintro x _ ⟨rfl,rfl⟩;refine mQ ?_;exists _,rfl,_,rfl,_,rfl,_,rfl,_,rfl,a,t,ns,c+kk,n,me,rfl,aV _,bT.dr dr cr,by lia,h2,h4,jT,λv k H7 hk fU ⟨SU,sG,_,rv⟩=>Wc.next hj ?_;obtain⟨FH,ET,rfl⟩:=sG rfl;have DC:=bT.trans fU;exists kk+k,by lia,DC,aF++ [FH],by simp[sK],λr hr=> ?_,?_;rcases List.mem_append.mp hr with z|z;exact fW r z;rw[List.mem_singleton.mp z];exact ET;rw[cK];exact((fU.kept.bA bT.tn).bC gG).append (aE.dY rv));rintro ys H6 ⟨kk,hkk,bT,aF,sK,fW,gG⟩;obtain⟨r1,r2,rfl⟩: ∃r1 r2,aF= [r1,r2]:=by
    match aF,sK with
    | [r1,r2],_=>exists r1,r2,rfl
   (obtain⟨v1,v2,rfl,yo,pD⟩: ∃v1 v2,ys= [v1,v2]/\aJ H6 (.aC (eO r1)) v1/\aJ H6 (.aC (eO r2)) v2:=(by simp only[bH,fZ,aE]at gG;obtain⟨v1,_,rfl,h1,v2,_,rfl,h2,rfl⟩:=gG;exists v1,v2,rfl,h1,h2));exists aV _,λrl oU=> ?_;have yN:=aM oU (.aK [v1,v2]);have ow:=bT.same yN;have yl:rl≠t:=bT.ne oU;exists _,rfl,_,rfl,z3,λl7 dH=>⟨a,t,ns,_,l7,_,rfl,(ow.same (aM dH _)).dr dr cr,ow.ne dH,aL,o3,t3,λx7 H7 jr k7 mP=> ?_⟩;have fU:=(ow.same (aM dH _)).step k7 mP;(obtain⟨n7,rfl,EW⟩: ∃n7:Int,x7= .int n7/\(n7=0\/n7=1\/n7=2):=(by simp only[dN,eB,eJ]at jr;rcases jr with rfl|rfl|rfl;exists 0,rfl,.inl rfl;exists 1,rfl,.inr (.inl rfl);exists 2,rfl,.inr (.inr rfl)));have Fe:H7 rl=some (.aK [v1,v2]):=k7 _ _ yl (aM dH _ _ _ aL);exists _,rfl,_,rfl,z2,λl8 kB=>⟨a,t,ns,_,l8,_,rfl,(fU.same (aM kB _)).dr dr cr,fU.ne kB,aL,o2,t2,λx8 H8 Fz k8 tZ=> ?_⟩;have rQ:=(fU.same (aM kB _)).step k8 tZ;obtain⟨b8,Et,GS⟩:=qv x8 Fz;have xE:H8 rl=some (.aK [v1,v2]):=k8 _ _ yl (aM kB _ _ _ Fe);have IA:bO H6 H8:=yN.bA.trans ((aM dH _).bA.trans ((k7.bA (ow.same (aM dH _)).tn).trans ((aM kB _).bA.trans (k8.bA (fU.same (aM kB _)).tn))));exists _,rfl,_,rfl,1,rfl,rl,_,rfl,aQ.of xE,λp9 E5=>⟨p9,_,rfl,.inl ⟨aQ.of aL,λu9 Fq=> ?_⟩⟩;have s9:=(aM E5 (.aK [v1])).trans (aM Fq (.aC [v1]));exists _,rfl,1,rfl,rl,_,rfl,aQ.of (s9 _ _ xE),λGs xC=>⟨Gs,_,rfl,.inl ⟨aQ.of aL,λIM Fp=> ?_⟩⟩;have hU:=(aM xC (.aK [v2])).trans (aM Fp (.aC [v2]));exists z5,λp hp=> ?_;have sp:=aM hp (.aC [V.str "case",x8,V.int n7,V.ref u9,V.ref IM]);have qY:=IA.trans ((s9.trans (hU.trans sp)).bA);have Fa:=fW r1 (by simp);have Fc:=fW r2 (by simp);refine q (.ref p) _ _ (by lia) ((rQ.same s9).same (hU.trans sp)) ⟨.ga [.str dZ,b8,.int n7] r1 r2,λz=>(by lia),.ga (Np Et EW) Fa Fc,aJ.mk aL ?_⟩;exact aE.cons (eY vN) (aE.cons (GS _) (aE.cons (show _=_ from rfl) (aE.cons (aJ.mk (sp _ _ (hU _ _ aL)) (aE.dY (qY.bE yo))) (aE.cons (aJ.mk (sp _ _ aL) (aE.dY (qY.bE pD))) (aE.nil)))))
  (skip);exists _,rfl,rfl,_,rfl,bJ (λ_=> ?_) λ_=> ?_;exists _,rfl,_,rfl,z1,λq1 jn=>⟨z2,λq2 gD=>⟨z2,λl6 bW=> ?_⟩⟩;have sq:=(aM jn (.aC [V.str "all"])).trans ((aM gD (.aC [V.str "tell",V.int 5])).trans (aM bW (.aK [V.ref q1,V.ref q2])));have tV:=(aM gD (.aC [V.str "tell",V.int 5])).trans (aM bW (.aK [V.ref q1,V.ref q2]));exists a,t,ns,_,l6,_,rfl,(bV.same sq).dr dr cr,(bV.same ((aM jn (.aC [V.str "all"])).trans (aM gD (.aC [V.str "tell",V.int 5])))).ne bW,aL,o2,t2,λx6 H6 eG k6 fb=> ?_;have bT:=(bV.same sq).step k6 fb;have tu:=k6.bA (bV.same sq).tn;simp only[dN,eB,eJ]at eG;rcases eG with rfl|rfl;have mm: [.str fP]∈b0 (bM n me):=qE (.inl rfl);exact q _ _ _ (by lia) bT ⟨.bF [.str fP],λ_=>⟨_,mm,rfl⟩,.bF mm,aJ.mk (tu _ _ (tV _ _ aL)) (aE.cons (eY lF) (aE.nil))⟩;have mm: [.str dk,.int 5]∈b0 (bM n me):=qE (.inr rfl);exact q _ _ _ (by lia) bT ⟨.bF [.str dk,.int 5],λ_=>⟨_,mm,rfl⟩,.bF mm,aJ.mk (tu _ _ ((aM bW (.aK [V.ref q1,V.ref q2])) _ _ aL)) (aE.cons (eY pG) (aE.cons (show _=_ from rfl) (aE.nil)))⟩;(skip);exists _,rfl,_,rfl,a,t,ns,_,rfl,bV.dr dr cr,λy6 v6 H6 sP r6 k6 fb=> ?_;have bT:=bV.step k6 fb;exists z2,λp hp=> ?_;have mm: [.str dk,y6]∈b0 (bM n me):=Bp sP;exact q (.ref p) _ _ (by lia) (bT.same (aM hp _)) ⟨.bF [.str dk,y6],λ_=>⟨_,mm,rfl⟩,.bF mm,aJ.mk aL (aE.cons (eY pG) (aE.cons (pC r6) (aE.nil)))⟩;(skip);exists _,rfl,rfl,_,rfl,bJ (λ_=> ?_) λ_=> ?_;exists _,rfl,_,rfl,z1,λq1 jn=>⟨z2,λq2 gD=>⟨z2,λl6 bW=> ?_⟩⟩;have sq:=(aM jn (.aC [V.str "all"])).trans ((aM gD (.aC [V.str "tell",V.int 5])).trans (aM bW (.aK [V.ref q1,V.ref q2])));have tV:=(aM gD (.aC [V.str "tell",V.int 5])).trans (aM bW (.aK [V.ref q1,V.ref q2]));exists a,t,ns,_,l6,_,rfl,(bV.same sq).dr dr cr,(bV.same ((aM jn (.aC [V.str "all"])).trans (aM gD (.aC [V.str "tell",V.int 5])))).ne bW,aL,o2,t2,λx6 H6 eG k6 fb=> ?_;have bT:=(bV.same sq).step k6 fb;have tu:=k6.bA (bV.same sq).tn;simp only[dN,eB,eJ]at eG;rcases eG with rfl|rfl;have mm: [.str fP]∈b0 (bM n me):=qE (.inl rfl);exact q _ _ _ (by lia) bT ⟨.bF [.str fP],λ_=>⟨_,mm,rfl⟩,.bF mm,aJ.mk (tu _ _ (tV _ _ aL)) (aE.cons (eY lF) (aE.nil))⟩;have mm: [.str dk,.int 5]∈b0 (bM n me):=qE (.inr rfl);exact q _ _ _ (by lia) bT ⟨.bF [.str dk,.int 5],λ_=>⟨_,mm,rfl⟩,.bF mm,aJ.mk (tu _ _ ((aM bW (.aK [V.ref q1,V.ref q2])) _ _ aL)) (aE.cons (eY pG) (aE.cons (show _=_ from rfl) (aE.nil)))⟩;(skip);exists _,rfl,_,rfl,a,t,ns,_,rfl,bV.dr dr cr,λy6 v6 H6 sP r6 k6 fb=> ?_;have bT:=bV.step k6 fb;exists z2,λp hp=> ?_;have mm: [.str dk,y6]∈b0 (bM n me):=Bp sP;exact q (.ref p) _ _ (by lia) (bT.same (aM hp _)) ⟨.bF [.str dk,y6],λ_=>⟨_,mm,rfl⟩,.bF mm,aJ.mk aL (aE.cons (eY pG) (aE.cons (pC r6) (aE.nil)))⟩
 ·(have sF:bu.int i4∈lJ (bM n me):=by simp[lJ];exact VO);(obtain⟨aw,wT⟩: ∃aw,aw=bu.int i4:=⟨_,rfl⟩);rw[<-wT]at sF;(have raw: ∀H',aJ H' (.at aw) (V.int i4):=λ_=>by rw[wT];rfl);have bV:=nc.step k5 wc;exists _,rfl,_,_,rfl,rfl,_,rfl,bJ (λc9=> ?_) λc9=> ?_;exists _,rfl,_,rfl,?_;exists _,rfl,_,rfl,z2,λl6 bW=>⟨a,t,ns,_,l6,_,rfl,(bV.same (aM bW _)).dr dr cr,bV.ne bW,aL,o2,t2,λx6 H6 eG k6 fb=> ?_⟩;have bT:=(bV.same (aM bW _)).step k6 fb;obtain⟨b6,gW,jv⟩:=qv x6 eG;exists z4,λp hp=> ?_;have mm: [.str gi,aw,am,b6]∈b0 (bM n me):=Nt sF Av gW;exact q (.ref p) _ _ (by lia) (bT.same (aM hp _)) ⟨.bF [.str gi,aw,am,b6],λ_=>⟨_,mm,rfl⟩,.bF mm,aJ.mk aL (aE.cons (eY Cc) (aE.cons (raw _) (aE.cons (BO _) (aE.cons (jv _) (aE.nil)))))⟩;exists _,rfl,rfl,_,rfl,bJ (λ_=> ?_) λ_=> ?_;(skip);exists _,rfl,_,rfl,z2,λl6 bW=>⟨a,t,ns,_,l6,_,rfl,(bV.same (aM bW _)).dr dr cr,bV.ne bW,aL,o2,t2,λx6 H6 eG k6 fb=> ?_⟩;have bT:=(bV.same (aM bW _)).step k6 fb;obtain⟨b6,gW,jv⟩:=AX x6 eG;exists _,rfl,_,rfl,?_;exists _,rfl,_,rfl,z2,λl7 dH=>⟨a,t,ns,_,l7,_,rfl,(bT.same (aM dH _)).dr dr cr,bT.ne dH,aL,o2,t2,λx7 H7 jr k7 mP=> ?_⟩;have fU:=(bT.same (aM dH _)).step k7 mP;obtain⟨b7,Es,GR⟩:=qv x7 jr;exists z5,λp hp=> ?_;have mm: [.str gJ,b6,aw,am,b7]∈b0 (bM n me):=Nq gW sF Av Es;exact q (.ref p) _ _ (by lia) (fU.same (aM hp _)) ⟨.bF [.str gJ,b6,aw,am,b7],λ_=>⟨_,mm,rfl⟩,.bF mm,aJ.mk aL (aE.cons (eY Pa) (aE.cons (jv _) (aE.cons (raw _) (aE.cons (BO _) (aE.cons (GR _) (aE.nil))))))⟩;exists _,rfl,rfl,_,rfl,bJ (λ_=> ?_) λ_=> ?_;(skip);exists _,rfl,_,rfl,z2,λl6 bW=>⟨a,t,ns,_,l6,_,rfl,(bV.same (aM bW _)).dr dr cr,bV.ne bW,aL,o2,t2,λx6 H6 eG k6 fb=> ?_⟩;have bT:=(bV.same (aM bW _)).step k6 fb;obtain⟨b6,gW,jv⟩:=AX x6 eG;exists z2,λp hp=> ?_;have mm: [.str gj,b6]∈b0 (bM n me):=Nu gW;exact q (.ref p) _ _ (by lia) (bT.same (aM hp _)) ⟨.bF [.str gj,b6],λ_=>⟨_,mm,rfl⟩,.bF mm,aJ.mk aL (aE.cons (eY Ce) (aE.cons (jv _) (aE.nil)))⟩;exists _,rfl,rfl,_,rfl,bJ (λ_=> ?_) λ_=> ?_;(skip);exists _,rfl,_,rfl,z2,λl6 bW=>⟨a,t,ns,_,l6,_,rfl,(bV.same (aM bW _)).dr dr cr,bV.ne bW,aL,o2,t2,λx6 H6 eG k6 fb=> ?_⟩;have bT:=(bV.same (aM bW _)).step k6 fb;obtain⟨b6,gW,jv⟩:=qv x6 eG;exists _,rfl,_,rfl,a,t,ns,_,rfl,bT.dr dr cr,λy7 v7 H7 FC r7 k7 mP=> ?_;have fU:=bT.step k7 mP;exists _,rfl,_,rfl,a,t,ns,_,rfl,fU.dr dr cr,λy8 v8 H8 FD r8 k8 tZ=> ?_;have rQ:=fU.step k8 tZ;exists z4,λp hp=> ?_;have mm: [.str gI,b6,y7,y8]∈b0 (bM n me):=Nm gW FC FD;exact q (.ref p) _ _ (by lia) (rQ.same (aM hp _)) ⟨.bF [.str gI,b6,y7,y8],λ_=>⟨_,mm,rfl⟩,.bF mm,aJ.mk aL (aE.cons (eY O5) (aE.cons (jv _) (aE.cons (pC r7) (aE.cons (pC r8) (aE.nil)))))⟩;exists _,rfl,rfl,_,rfl,bJ (λDH=>⟨_,rfl,_,_,rfl,rfl,_,rfl,bJ (λcd=> ?_) λcd=> ?_⟩) λDH=>cG ?_
  ·(have xk:d=1:=(by have z:(0:Int)<((d+1:Nat):Int)-1:=lu cd;lia));subst xk;exists 2,rfl,by decide,by decide,?_;refine iq (n:=2) (λj ys H'=> ∃kk,kk<=4+20*j/\gk H H' t ns.length c kk/\ ∃aF:List (List bu),aF.length=j/\(∀r∈aF,r∈b0 (bM n me))/\aE H' (aF.map λr=> .aC (eO r)) ys) ⟨4,by decide,bV,[],rfl,λ_ z=>(by cases z),aE.nil⟩ ?_ ?_;(·rintro j ys H6 hj ⟨kk,hkk,bT,aF,sK,fW,gG⟩;have ly:=gG.len;rw[bq]at ly;exists hj,pH (by lia),?_;rintro x _ ⟨rfl,rfl⟩;refine mQ ?_;exists _,rfl,_,rfl,_,rfl,_,rfl,_,rfl,a,t,ns,c+kk,n,me,rfl,aV _,bT.dr dr cr,by lia,h2,h4,jT,λv k H7 hk fU ⟨SU,sG,_,rv⟩=>Wc.next hj ?_;obtain⟨FH,ET,rfl⟩:=sG rfl;have DC:=bT.trans fU;exists kk+k,by lia,DC,aF++ [FH],by simp[sK],λr hr=> ?_,?_;rcases List.mem_append.mp hr with z|z;exact fW r z;rw[List.mem_singleton.mp z];exact ET;rw[cK];exact((fU.kept.bA bT.tn).bC gG).append (aE.dY rv));rintro ys H6 ⟨kk,hkk,bT,aF,sK,fW,gG⟩;obtain⟨r1,r2,rfl⟩: ∃r1 r2,aF= [r1,r2]:=by
    match aF,sK with
    | [r1,r2],_=>exists r1,r2,rfl
   (obtain⟨v1,v2,rfl,yo,pD⟩: ∃v1 v2,ys= [v1,v2]/\aJ H6 (.aC (eO r1)) v1/\aJ H6 (.aC (eO r2)) v2:=(by simp only[bH,fZ,aE]at gG;obtain⟨v1,_,rfl,h1,v2,_,rfl,h2,rfl⟩:=gG;exists v1,v2,rfl,h1,h2));exists aV _,λrl oU=> ?_;have yN:=aM oU (.aK [v1,v2]);have ow:=bT.same yN;have yl:rl≠t:=bT.ne oU;exists _,rfl,_,rfl,z3,λl7 dH=>⟨a,t,ns,_,l7,_,rfl,(ow.same (aM dH _)).dr dr cr,ow.ne dH,aL,o3,t3,λx7 H7 jr k7 mP=> ?_⟩;have fU:=(ow.same (aM dH _)).step k7 mP;(obtain⟨n7,rfl,EW⟩: ∃n7:Int,x7= .int n7/\(n7=0\/n7=1\/n7=2):=(by simp only[dN,eB,eJ]at jr;rcases jr with rfl|rfl|rfl;exists 0,rfl,.inl rfl;exists 1,rfl,.inr (.inl rfl);exists 2,rfl,.inr (.inr rfl)));have Fe:H7 rl=some (.aK [v1,v2]):=k7 _ _ yl (aM dH _ _ _ aL);exists _,rfl,_,rfl,z2,λl8 kB=>⟨a,t,ns,_,l8,_,rfl,(fU.same (aM kB _)).dr dr cr,fU.ne kB,aL,o2,t2,λx8 H8 Fz k8 tZ=> ?_⟩;have rQ:=(fU.same (aM kB _)).step k8 tZ;obtain⟨b8,Et,GS⟩:=qv x8 Fz;have xE:H8 rl=some (.aK [v1,v2]):=k8 _ _ yl (aM kB _ _ _ Fe);have IA:bO H6 H8:=yN.bA.trans ((aM dH _).bA.trans ((k7.bA (ow.same (aM dH _)).tn).trans ((aM kB _).bA.trans (k8.bA (fU.same (aM kB _)).tn))));exists _,rfl,_,rfl,1,rfl,rl,_,rfl,aQ.of xE,λp9 E5=>⟨p9,_,rfl,.inl ⟨aQ.of aL,λu9 Fq=> ?_⟩⟩;have s9:=(aM E5 (.aK [v1])).trans (aM Fq (.aC [v1]));exists _,rfl,1,rfl,rl,_,rfl,aQ.of (s9 _ _ xE),λGs xC=>⟨Gs,_,rfl,.inl ⟨aQ.of aL,λIM Fp=> ?_⟩⟩;have hU:=(aM xC (.aK [v2])).trans (aM Fp (.aC [v2]));exists z5,λp hp=> ?_;have sp:=aM hp (.aC [V.str "case",x8,V.int n7,V.ref u9,V.ref IM]);have qY:=IA.trans ((s9.trans (hU.trans sp)).bA);have Fa:=fW r1 (by simp);have Fc:=fW r2 (by simp);refine q (.ref p) _ _ (by lia) ((rQ.same s9).same (hU.trans sp)) ⟨.ga [.str dZ,b8,.int n7] r1 r2,λz=>(by lia),.ga (Np Et EW) Fa Fc,aJ.mk aL ?_⟩;exact aE.cons (eY vN) (aE.cons (GS _) (aE.cons (show _=_ from rfl) (aE.cons (aJ.mk (sp _ _ (hU _ _ aL)) (aE.dY (qY.bE yo))) (aE.cons (aJ.mk (sp _ _ aL) (aE.dY (qY.bE pD))) (aE.nil)))))
  (skip);exists _,rfl,rfl,_,rfl,bJ (λ_=> ?_) λ_=> ?_;exists _,rfl,_,rfl,z1,λq1 jn=>⟨z2,λq2 gD=>⟨z2,λl6 bW=> ?_⟩⟩;have sq:=(aM jn (.aC [V.str "all"])).trans ((aM gD (.aC [V.str "tell",V.int 5])).trans (aM bW (.aK [V.ref q1,V.ref q2])));have tV:=(aM gD (.aC [V.str "tell",V.int 5])).trans (aM bW (.aK [V.ref q1,V.ref q2]));exists a,t,ns,_,l6,_,rfl,(bV.same sq).dr dr cr,(bV.same ((aM jn (.aC [V.str "all"])).trans (aM gD (.aC [V.str "tell",V.int 5])))).ne bW,aL,o2,t2,λx6 H6 eG k6 fb=> ?_;have bT:=(bV.same sq).step k6 fb;have tu:=k6.bA (bV.same sq).tn;simp only[dN,eB,eJ]at eG;rcases eG with rfl|rfl;have mm: [.str fP]∈b0 (bM n me):=qE (.inl rfl);exact q _ _ _ (by lia) bT ⟨.bF [.str fP],λ_=>⟨_,mm,rfl⟩,.bF mm,aJ.mk (tu _ _ (tV _ _ aL)) (aE.cons (eY lF) (aE.nil))⟩;have mm: [.str dk,.int 5]∈b0 (bM n me):=qE (.inr rfl);exact q _ _ _ (by lia) bT ⟨.bF [.str dk,.int 5],λ_=>⟨_,mm,rfl⟩,.bF mm,aJ.mk (tu _ _ ((aM bW (.aK [V.ref q1,V.ref q2])) _ _ aL)) (aE.cons (eY pG) (aE.cons (show _=_ from rfl) (aE.nil)))⟩;(skip);exists _,rfl,_,rfl,a,t,ns,_,rfl,bV.dr dr cr,λy6 v6 H6 sP r6 k6 fb=> ?_;have bT:=bV.step k6 fb;exists z2,λp hp=> ?_;have mm: [.str dk,y6]∈b0 (bM n me):=Bp sP;exact q (.ref p) _ _ (by lia) (bT.same (aM hp _)) ⟨.bF [.str dk,y6],λ_=>⟨_,mm,rfl⟩,.bF mm,aJ.mk aL (aE.cons (eY pG) (aE.cons (pC r6) (aE.nil)))⟩;(skip);exists _,rfl,rfl,_,rfl,bJ (λ_=> ?_) λ_=> ?_;exists _,rfl,_,rfl,z1,λq1 jn=>⟨z2,λq2 gD=>⟨z2,λl6 bW=> ?_⟩⟩;have sq:=(aM jn (.aC [V.str "all"])).trans ((aM gD (.aC [V.str "tell",V.int 5])).trans (aM bW (.aK [V.ref q1,V.ref q2])));have tV:=(aM gD (.aC [V.str "tell",V.int 5])).trans (aM bW (.aK [V.ref q1,V.ref q2]));exists a,t,ns,_,l6,_,rfl,(bV.same sq).dr dr cr,(bV.same ((aM jn (.aC [V.str "all"])).trans (aM gD (.aC [V.str "tell",V.int 5])))).ne bW,aL,o2,t2,λx6 H6 eG k6 fb=> ?_;have bT:=(bV.same sq).step k6 fb;have tu:=k6.bA (bV.same sq).tn;simp only[dN,eB,eJ]at eG;rcases eG with rfl|rfl;have mm: [.str fP]∈b0 (bM n me):=qE (.inl rfl);exact q _ _ _ (by lia) bT ⟨.bF [.str fP],λ_=>⟨_,mm,rfl⟩,.bF mm,aJ.mk (tu _ _ (tV _ _ aL)) (aE.cons (eY lF) (aE.nil))⟩;have mm: [.str dk,.int 5]∈b0 (bM n me):=qE (.inr rfl);exact q _ _ _ (by lia) bT ⟨.bF [.str dk,.int 5],λ_=>⟨_,mm,rfl⟩,.bF mm,aJ.mk (tu _ _ ((aM bW (.aK [V.ref q1,V.ref q2])) _ _ aL)) (aE.cons (eY pG) (aE.cons (show _=_ from rfl) (aE.nil)))⟩;(skip);exists _,rfl,_,rfl,a,t,ns,_,rfl,bV.dr dr cr,λy6 v6 H6 sP r6 k6 fb=> ?_;have bT:=bV.step k6 fb;exists z2,λp hp=> ?_;have mm: [.str dk,y6]∈b0 (bM n me):=Bp sP;exact q (.ref p) _ _ (by lia) (bT.same (aM hp _)) ⟨.bF [.str dk,y6],λ_=>⟨_,mm,rfl⟩,.bF mm,aJ.mk aL (aE.cons (eY pG) (aE.cons (pC r6) (aE.nil)))⟩
section
variable{κ:Type} [DecidableEq κ]
def yX{k:κ}{v:V}: ∀ {kvs:aq (κ×V)},bZ kvs k=some v->(k,v)∈kvs
 | [],h=>by cases h
 |p::r,h=>by by_cases e:p.1=k;rw[nX e]at h;(injection h with h);subst h;subst e;exact fk;rw[lI e]at h;exact fJ _ (yX h)
def Ga{k:κ}{p:κ×V}(h:p∈dI kvs k v):p∈kvs\/p=(k,v):=by unfold dI at h;split at h;obtain⟨q,hq,e⟩:=List.mem_map.mp h;by_cases z:q.1=k;rw[aT z]at e;subst e;exact .inr (by rw[z]);rw[aU z]at e;subst e;exact .inl hq;rcases List.mem_append.mp h with h|h;exact .inl h;exact .inr (by simpa using h)
def Nn{k:κ}{p:κ×V}(h:p∈dU kvs k):p∈kvs:=(List.mem_filter.mp h).1
def Zy{kvs:aq (κ×V)}{k:κ}(v:V)(hn:(kvs.map (·.1)).Nodup):((dI kvs k v).map (·.1)).Nodup:=by cases e:bZ kvs k with|none=>exact Zz v hn e|some u=>unfold dI;rw[yW,e,aT (show(some u).isSome=true from rfl),jG];(have:((λx=>x.1) ∘λkv:κ×V=>if kv.1=k then(kv.1,v)else kv)=(λx=>x.1):=(by(funext p);simp only[Function.comp];split<;>rfl));rw[this];exact hn
end
def mV.put{kvs:aq (aZ×V)}(h:mV kvs){b:T}(hb:bu.str b∈eF)(i:Int):mV (dI kvs (.inr (S b)) (.int i)):=by exists Zy _ h.1,λp hp=> ?_;rcases Ga hp with hp|rfl;exact h.2 p hp;exists b,i,rfl,hb
def ZL{α:Type} [DecidableEq α]{a b:α}: ∀ {l:aq α},l.Nodup->(∀x∈l,x=a\/x=b)->l.length<=2
 | [],_,_=>by simp
 | [_],_,_=>by simp
 | [_,_],_,_=>by simp
 |x::y::z::r,hn,h=>by exfalso;simp only[lP,dN,not_or]at hn;obtain⟨⟨n1,n2,_⟩,⟨n3,_⟩,_⟩:=hn;have h1:=h x (by simp);have h2:=h y (by simp);have h3:=h z (by simp);rcases h1 with rfl|rfl<;>rcases h2 with rfl|rfl<;>rcases h3 with rfl|rfl<;>simp_all
def Ay(h:mV kvs):kvs.length<=2:=by have:=ZL (a:=(Sum.inr (S [97]):aZ)) (b:= .inr (S [98])) h.1 (λx hx=>by obtain⟨p,hp,rfl⟩:=List.mem_map.mp hx;obtain⟨b,i,rfl,hb⟩:=h.2 p hp;simp only[eF,dN,eB,eJ]at hb;rcases hb with hb|hb;injection hb with hb;subst hb;exact .inl rfl;injection hb with hb;subst hb;exact .inr rfl);rwa [bq]at this
def mV.worth{kvs:aq (aZ×V)}(h:mV kvs)(b:aA): ∃i,(bZ kvs (.inr b)).getD (.int 0)= .int i:=by cases e:bZ kvs (.inr b)with|none=>exact⟨0,rfl⟩|some v=>obtain⟨c,i,z,_⟩:=h.2 _ (yX e);(injection z with _ z);exists i,z
def p7.put{kvs:aq (aZ×V)}(h:p7 kvs)(b:aA)(n:Nat):p7 (dI kvs (.inr b) (.int n)):=λp hp=>by rcases Ga hp with hp|rfl;exact h p hp;exists b,n,rfl
def p7.drop{kvs:aq (aZ×V)}(h:p7 kvs)(k:aZ):p7 (dU kvs k):=λp hp=>h p (Nn hp)
def lM.drop{H:Hp}{kvs:aq (aZ×V)}(h:lM H kvs)(k:aZ):lM H (dU kvs k):=λp hp=>h p (Nn hp)
def lM.put{H:Hp}{kvs:aq (aZ×V)}(h:lM H kvs){n:Int}{a:ae}{b:T}{i:Int}(ha:H a=some (.aC [.str (S b),.int i]))(hb:bu.str b∈eF):lM H (dI kvs (.inl n) (.ref a)):=λp hp=>by rcases Ga hp with hp|rfl;exact h p hp;exists n,a,b,i,rfl,ha,hb
def fz.none{H:Hp}{n:Nat}: ∀ {qs:aq Tk} {ps:aq (aZ×V)},fz H qs ps->(∀q∈qs,q.n≠n)->bZ ps (.inl (n:Int))=Option.none
 | [],ps,h,_=>by rw[show ps= []from h];rfl
 |q::qs,ps,h,hn=>by obtain⟨v,r,rfl,_,hr⟩:=h;have hq:=hn q fk;rw[lI (by intro z;injection z with z;lia)];exact fz.none hr λq' eV=>hn q' (fJ _ eV)
def fz.snoc{H:Hp}{q:Tk}{v:V}(hv:aJ H q.pv v): ∀ {qs:aq Tk} {ps:aq (aZ×V)},fz H qs ps->fz H (qs++ [q]) (ps++ [(.inl (q.n:Int),v)])
 | [],ps,h=>by rw[show ps= []from h];exists v,[],rfl,hv,rfl
 |q'::qs,ps,h=>by obtain⟨u,r,rfl,hu,hr⟩:=h;exists u,_,rfl,hu,fz.snoc hv hr
def fz.len{H:Hp}: ∀ {qs:aq Tk} {ps:aq (aZ×V)},fz H qs ps->ps.length=qs.length
 | [],ps,h=>by rw[show ps= []from h];rfl
 |q'::qs,ps,h=>by obtain⟨u,r,rfl,hu,hr⟩:=h;rw[cU,cU,fz.len hr]
def BM{a b:PV}(r:aJ H (.aC [a,b]) v): ∃p u1 u2,v= .ref p/\H p=some (.aC [u1,u2])/\aJ H a u1/\aJ H b u2:=by obtain⟨p,vs,rfl,hp,rr⟩:=r.aC;simp only[aE]at rr;obtain⟨u1,r1,rfl,h1,u2,r2,rfl,h2,rfl⟩:=rr;exists p,u1,u2,rfl,hp,h1,h2
def BN{a b c:PV}(r:aJ H (.aC [a,b,c]) v): ∃p u1 u2 u3,v= .ref p/\H p=some (.aC [u1,u2,u3])/\aJ H a u1/\aJ H b u2/\aJ H c u3:=by obtain⟨p,vs,rfl,hp,rr⟩:=r.aC;simp only[aE]at rr;obtain⟨u1,r1,rfl,h1,u2,r2,rfl,h2,u3,r3,rfl,h3,rfl⟩:=rr;exists p,u1,u2,u3,rfl,hp,h1,h2,h3
def GU{a b c d:PV}(r:aJ H (.aC [a,b,c,d]) v): ∃p u1 u2 u3 u4,v= .ref p/\H p=some (.aC [u1,u2,u3,u4])/\aJ H a u1/\aJ H b u2/\aJ H c u3/\aJ H d u4:=by obtain⟨p,vs,rfl,hp,rr⟩:=r.aC;simp only[aE]at rr;obtain⟨u1,r1,rfl,h1,u2,r2,rfl,h2,u3,r3,rfl,h3,u4,r4,rfl,h4,rfl⟩:=rr;exists p,u1,u2,u3,u4,rfl,hp,h1,h2,h3,h4
def GV{a b c d e:PV}(r:aJ H (.aC [a,b,c,d,e]) v): ∃p u1 u2 u3 u4 u5,v= .ref p/\H p=some (.aC [u1,u2,u3,u4,u5])/\aJ H a u1/\aJ H b u2/\aJ H c u3/\aJ H d u4/\aJ H e u5:=by obtain⟨p,vs,rfl,hp,rr⟩:=r.aC;simp only[aE]at rr;obtain⟨u1,r1,rfl,h1,u2,r2,rfl,h2,u3,r3,rfl,h3,u4,r4,rfl,h4,u5,r5,rfl,h5,rfl⟩:=rr;exists p,u1,u2,u3,u4,u5,rfl,hp,h1,h2,h3,h4,h5
def pk{H:Hp}{p:ae}{u1 u2:V}(hp:H p=some (.aC [u1,u2]))(h1:aJ H a u1)(h2:aJ H b u2):aJ H (.aC [a,b]) (.ref p):=by simp only[aJ];exists p,_,rfl,hp,aE.cons h1 (aE.dY h2)
def Bs{H:Hp}{p:ae}{u1 u2 u3:V}(hp:H p=some (.aC [u1,u2,u3]))(h1:aJ H a u1)(h2:aJ H b u2)(h3:aJ H c u3):aJ H (.aC [a,b,c]) (.ref p):=by simp only[aJ];exists p,_,rfl,hp,aE.cons h1 (aE.cons h2 (aE.dY h3))
section
variable{C:ae}{B:Nat}{H:Hp}{g:HG}{Q:VK}{E:XK}
def CJ{th:bu}(h:th∈jc):th≠ .aN:=λz=>by subst z;exact absurd h (by decide)
def CK{th:bu}(ht:th≠ .aN)(r:aJ H (.at th) v)(h:mV kvs): ∃i,rO kvs v i:=by cases th with|aN=>exact absurd rfl ht|int i=>exact⟨i,.inl r⟩|str b=>obtain⟨i,e⟩:=h.worth (S b);exists i,.inr ⟨S b,r.1,e⟩
def Rw{th:bu}(ht:th∈eF)(r:aJ H (.at th) v)(h:mV kvs): ∃i,rO kvs v i:=by cases th with|aN=>exact absurd ht (by decide)|int i=>exact⟨i,.inl r⟩|str b=>obtain⟨i,e⟩:=h.worth (S b);exists i,.inr ⟨S b,r.1,e⟩
def big{n:Nat}(h:n<=2000):n<sizeLine:=wF h (by decide)
def Uj(I:bG C B H g)(hB:B<=1000){th:bu}(ht:th≠ .aN)(hr:aJ H (.aC (eO [.str dk,th])) rv)(q: ∀H',To C (B+1) H g H' {g with rows:=g.rows.drop 1,wt:= .go}->Q .aN H'):Cw C [.ref g.x,rv] H Q E:=by obtain⟨p,u1,u2,rfl,hp,h1,h2⟩:=BM hr;obtain⟨kvs,hd,ok⟩:=I.he;obtain⟨ss,hs,hl⟩:=I.sa;obtain⟨rv,wv,hx,r1,r2⟩:=I.ob;obtain⟨i,hi⟩:=CK ht h2 ok;exists g.x,g.dx,_,g.he,g.sa,kvs,p,u1,u2,i,b9 ss,rfl,hp,hx,rfl,hd,hi,rfl,hs,big (by rw[sQ];lia),rfl,rfl,?_;(have e:b9 ss++ [V.int i]=b9 (ss++ [i]):=by simp[b9]);rw[e];(have a1:To C (B+1) H g (upd H g.sa (.aK (b9 (ss++ [i])))) g:=⟨I.a14 (hW B) (by simp;lia),eM.upd (by simp[HG.cells]) _,I.a4O _⟩);exact oF a1.is λH' a2=>q H' (a1.trans a2 rfl)
def Ud(I:bG C B H g){b x y:bu}(hb:b∈eF)(hx:x∈jc)(hy:y∈jc)(hr:aJ H (.aC (eO [.str gI,b,x,y])) rv)(q: ∀H',To C B H g H' {g with rows:=g.rows.drop 1,wt:= .go}->Q .aN H'):Cr C [.ref g.x,rv] H Q E:=by
 obtain⟨p,u1,u2,u3,u4,rfl,hp,h1,h2,h3,h4⟩:=GU hr;obtain⟨kvs,hd,ok⟩:=I.he;obtain⟨rv,wv,W1,r1,r2⟩:=I.ob;obtain⟨i,hi⟩:=CK (CJ hx) h3 ok;obtain⟨j,hj⟩:=CK (CJ hy) h4 ok;cases b with
 |aN=>exact absurd hb (by decide)
 |int i=>exact absurd hb (by simp[eF])
 |str b=>
 (obtain⟨rfl,_⟩:=(show u2= .str (S b)/\_ from h2));have cf:kvs.length<=2:=Ay ok;exists g.x,g.dx,_,g.he,kvs,p,u1,u3,u4,S b,i,j,rfl,hp,W1,rfl,hd,big (by lia),hi,hj,rfl,rfl,?_;(have a1:To C B H g (upd H g.he (.dK (dI kvs (.inr (S b)) (.int (i+j))))) g:=⟨I.GM (ok.put hb _),eM.upd (by simp[HG.cells]) _,I.II _⟩);exact oF a1.is λH' a2=>q H' (a1.trans a2 rfl)
def Ue(I:bG C B H g){rv:V}(q: ∀H',To C B H g H' {g with wt:= .all}->Q .aN H'):Cs C [.ref g.x,rv] H Q E:=by obtain⟨lD,wv,hx,r1,r2⟩:=I.ob;exists g.x,g.dx,_,rv,rfl,hx,(by show 10<1000;decide),λl hl=> ?_;have s1:=aM hl (.aC [.str "all"]);have a1:=To.same I s1;have e1:bU "waiting" (.ref l) (g.fs lD wv)=hf lD (.ref l) (.ref g.he) (.ref g.sa) g.sd g.td (.ref g.po) (.ref g.ti) (.ref g.ar) (.ref g.me):=yd _ _ _ _ _ _ _ _ _ _ _;rw[e1];refine q _ (a1.trans (To.x a1.is (rows:=g.rows) (wt:= .all) (s1.bE r1) ?_) rfl);simp only[Wt.pv,aJ];exists l,_,rfl,aL,aE.dY ⟨by rw[lF],by decide⟩
end
section
variable{C:ae}{B:Nat}{H:Hp}{g:HG}{Q:VK}{E:XK}
def Da(n:Nat):((n:Int)+1)=((n+1:Nat):Int):=by lia
def K4(I:bG C B H g)(hlt: ∀q∈g.aR,q.n<g.td){rv wv:V}{l:ae}(hx:H g.x=some (.bv C g.dx (g.fs rv wv)))(hp:H g.po=some (.dK kvs))(h1:aJ H (.at wh) u1)(h2:aJ H (.at ma) u2)(h3:aJ H (.at (.str bx)) u3)(hl:H l=none):To C B H g (upd (upd (upd H l (.aC [u1,u2,u3])) g.po (.dK (dI kvs (.inl (g.td:Int)) (.ref l)))) g.x (.bv C g.dx (bU "takes_done" (.int ((g.td:Int)+1)) (g.fs rv wv)))) {g with td:=g.td+1,aR:=g.aR++ [⟨g.td,wh,ma,bx⟩]}:=by have s1:=aM hl (.aC [u1,u2,u3]);have a1:=To.same I s1;obtain⟨ps,va,pp⟩:=I.po;(have ek:kvs=ps:=by rw[hp]at va;injection va with z;injection z);subst ek;have en:bZ kvs (.inl (g.td:Int))=none:=pp.none λq hq=>cp (hlt q hq);have rl:aJ (upd H l (.aC [u1,u2,u3])) (Tk.pv ⟨g.td,wh,ma,bx⟩) (.ref l):=Bs aL (s1.bE h1) (s1.bE h2) (s1.bE h3);have p2:=(pp.mono s1.bA).snoc (q:=⟨g.td,wh,ma,bx⟩) rl;rw[yg _ en];(have a2:To C B _ g _ {g with aR:=g.aR++ [⟨g.td,wh,ma,bx⟩]}:=⟨a1.is.Ov p2,eM.upd (F:=g.cells) (H:=upd H l (.aC [u1,u2,u3])) (by simp[HG.cells]) _,a1.is.IJ _⟩);have a3:=a1.trans a2 rfl;obtain⟨lD,wv',iy,r1,r2⟩:=I.ob;rw[hx]at iy;(have e1:rv=lD/\wv=wv':=(by(injection iy with z);(injection z with _ _ z);simp only[HG.fs,hf,io,jf,true_and,kj]at z;exact z));obtain⟨rfl,rfl⟩:=e1;(have e2:bU "takes_done" (.int ((g.td:Int)+1)) (g.fs rv wv)=hf rv wv (.ref g.he) (.ref g.sa) g.sd ((g.td+1:Nat):Int) (.ref g.po) (.ref g.ti) (.ref g.ar) (.ref g.me):=(by rw[Da];exact Oh _ _ _ _ _ _ _ _ _ _ _));rw[e2];exact a3.trans (To.x (g:= {g with aR:=g.aR++ [⟨g.td,wh,ma,bx⟩]}) a3.is (rows:=g.rows) (wt:=g.wt) (sd:=g.sd) (td:=g.td+1) (a3.bA.bE r1) (a3.bA.bE r2)) rfl
def Ui(I:bG C B H g)(hlt: ∀q∈g.aR,q.n<g.td)(cf:g.aR.length<=1000){wh ma:bu}(hr:aJ H (.aC (eO [.str gi,wh,ma,.str bx])) rv)(q: ∀H',To C B H g H' {g with wt:= .j6 g.td,td:=g.td+1,aR:=g.aR++ [⟨g.td,wh,ma,bx⟩]}->Q .aN H'):Cv C [.ref g.x,rv] H Q E:=by obtain⟨p,u1,u2,u3,u4,rfl,hp,h1,h2,h3,h4⟩:=GU hr;obtain⟨rv,wv,hx,r1,r2⟩:=I.ob;obtain⟨kvs,hk,pp⟩:=I.po;exists g.x,g.dx,_,g.po,kvs,g.td,p,u1,u2,u3,u4,rfl,hp,hx,(by show 10<1000;decide),rfl,rfl,hk,big (by rw[pp.len];lia),rfl,λl l' hl fL nl=> ?_;have a1:=K4 I hlt hx hk h2 h3 h4 hl;(have e2:bU "takes_done" (.int ((g.td:Int)+1)) (g.fs rv wv)=hf rv wv (.ref g.he) (.ref g.sa) g.sd ((g.td+1:Nat):Int) (.ref g.po) (.ref g.ti) (.ref g.ar) (.ref g.me):=(by rw[Da];exact Oh _ _ _ _ _ _ _ _ _ _ _));rw[e2]at a1⊢;rw[yd];(have nx:l'≠g.x:=λz=>by subst z;rw[hx]at fL;cases fL);(have np:l'≠g.po:=λz=>by subst z;rw[hk]at fL;cases fL);have s2:=aM (H:=upd (upd (upd H l (.aC [u2,u3,u4])) g.po (.dK (dI kvs (.inl (g.td:Int)) (.ref l)))) g.x (.bv C g.dx (hf rv wv (.ref g.he) (.ref g.sa) g.sd ((g.td+1:Nat):Int) (.ref g.po) (.ref g.ti) (.ref g.ar) (.ref g.me)))) (p:=l') (by rw[aP nx,aP np,aP nl.symm];exact fL) (.aC [.str "take",.int g.td]);have a2:=a1.trans (To.same a1.is s2) rfl;refine q _ (a2.trans (To.x a2.is (rows:=g.rows) (wt:= .j6 g.td) (sd:=g.sd) (td:=g.td+1) (a2.bA.bE r1) ?_) rfl);exact pk aL ⟨by rw[Cc],by decide⟩ rfl
def Uh(I:bG C B H g)(hB:B<=1000)(hlt: ∀q∈g.aR,q.n<g.td)(cf:g.aR.length<=1000){wh ma:bu}(hr:aJ H (.aC (eO [.str gJ,.str tk,wh,ma,.str bx])) rv)(q: ∀H',To C (B+1) H g H' {g with rows:=g.rows.drop 1,wt:= .go,td:=g.td+1,aR:=g.aR++ [⟨g.td,wh,ma,bx⟩]}->Q .aN H'):Cu C [.ref g.x,rv] H Q E:=by obtain⟨p,u1,u2,u3,u4,u5,rfl,hp,h1,h2,h3,h4,h5⟩:=GV hr;(obtain⟨rfl,_⟩:=(show u2= .str (S tk)/\_ from h2));obtain⟨rv,wv,hx,r1,r2⟩:=I.ob;obtain⟨kvs,hk,pp⟩:=I.po;obtain⟨fj,ht,tok,tl⟩:=I.ti;exists g.x,g.dx,_,g.po,g.ti,kvs,fj,g.td,p,S tk,u1,u3,u4,u5,rfl,hp,hx,(by show 10<1000;decide),rfl,rfl,rfl,I.ne 3 4,hk,big (by rw[pp.len];lia),ht,big (by lia),rfl,rfl,λl hl=> ?_;have a1:=K4 I hlt hx hk h3 h4 h5 hl;have a2:To C (B+1) _ _ _ _:=a1.trans (⟨a1.is.Ow (hW B) (tok.put (S tk) g.td) (dS (sX _ _ _) (Nat.succ_le_succ tl)),eM.upd (by simp[HG.cells]) _,a1.is.QH _⟩:To C (B+1) _ {g with td:=g.td+1,aR:=g.aR++ [⟨g.td,wh,ma,bx⟩]} _ {g with td:=g.td+1,aR:=g.aR++ [⟨g.td,wh,ma,bx⟩]}) rfl;exact oF (g:= {g with td:=g.td+1,aR:=g.aR++ [⟨g.td,wh,ma,bx⟩]}) a2.is λH' a3=>q H' (a2.trans a3 rfl)
def Uk(I:bG C B H g)(hr:aJ H (.aC (eO [.str gj,.str tk])) rv)(q1: ∀H',To C B H g H' {g with rows:=g.rows.drop 1,wt:= .go}->Q .aN H')(q2: ∀H' n,To C B H g H' {g with wt:= .iO n}->Q .aN H'):Cy C [.ref g.x,rv] H Q E:=by
 obtain⟨p,u1,u2,rfl,hp,h1,h2⟩:=BM hr;(obtain⟨rfl,_⟩:=(show u2= .str (S tk)/\_ from h2));obtain⟨rv,wv,hx,r1,r2⟩:=I.ob;obtain⟨kvs,hd,ok⟩:=I.he;obtain⟨fj,ht,tok,tl⟩:=I.ti;obtain⟨iD,ha,zU,al⟩:=I.ar;exists g.x,g.dx,_,g.he,g.ti,g.ar,p,kvs,fj,iD,u1,S tk,rfl,hp,hx,(by show 10<1000;decide),rfl,hd,big (dS (Ay ok) (by decide)),rfl,ht,rfl,ha,I.ne 1 4,I.ne 1 5,I.ne 4 5,rfl,?_;cases et:bZ fj (.inr (S tk))with
 |none=>exact .inl ⟨rfl,oF I q1⟩
 |some v=>
 obtain⟨b,n,z⟩:=tok _ (yX et);(obtain rfl:v= .int n:=by injection z);(have a1:To C B H g (upd H g.ti (.dK (dU fj (.inr (S tk))))) g:=⟨I.Ow (aV B) (tok.drop _) (dS (DS _ _) tl),eM.upd (by simp[HG.cells]) _,I.QH _⟩);(cases ea:bZ iD (.inl (n:Int))with|none=>refine .inr (.inr ⟨n,rfl,ea,λl hl=> ?_⟩);have s2:=aM hl (.aC [.str "wait",.int n]);have a2:=a1.trans (To.same a1.is s2) rfl;have e1:bU "waiting" (.ref l) (g.fs rv wv)=hf rv (.ref l) (.ref g.he) (.ref g.sa) g.sd g.td (.ref g.po) (.ref g.ti) (.ref g.ar) (.ref g.me):=yd _ _ _ _ _ _ _ _ _ _ _;rw[e1];refine q2 _ n (a2.trans (To.x a2.is (rows:=g.rows) (wt:= .iO n) (a2.bA.bE r1) ?_) rfl);exact pk aL ⟨by rw[Ce],by decide⟩ rfl|some v=>obtain⟨m,a,b,i,z,hb,bb⟩:=zU _ (yX ea);(obtain rfl:v= .ref a:=by injection z);refine .inr (.inl ⟨n,a,S b,.int i,rfl,ea,hb,?_⟩);have a2:To C B _ g (upd (upd H g.ti (.dK (dU fj (.inr (S tk))))) g.ar (.dK (dU iD (.inl (n:Int))))) g:=a1.trans ⟨a1.is.Ou (aV B) ((zU.mono a1.bA).drop _) (dS (DS _ _) al),eM.upd (by simp[HG.cells]) _,a1.is.QG _⟩ rfl;have a3:To C B _ g _ g:=a2.trans ⟨a2.is.GM (ok.put bb i),eM.upd (by simp[HG.cells]) _,a2.is.II _⟩ rfl;exact oF a3.is λH' a4=>q1 H' (a3.trans a4 rfl))
def Ug(I:bG C B H g){b:bu}{n:Int}{r1:aq bu}(hb:b∈eF)(cf:g.rows.length<=100)(hr:aJ H (bp.pv (.ga [.str dZ,b,.int n] r1 r2)) rv)(q: ∀H' r,(r=r1\/r=r2)->To C B H g H' {g with rows:= .bF r::g.rows.drop 1}->Q .aN H'):Ct C [.ref g.x,rv] H Q E:=by obtain⟨p,u1,u2,u3,u4,u5,rfl,hp,h1,h2,h3,h4,h5⟩:=GV (a:= .at (.str dZ)) (b:= .at b) (c:= .at (.int n)) (d:= .aC [.aC (eO r1)]) (e:= .aC [.aC (eO r2)]) hr;obtain⟨rv,wv,hx,q1,q2⟩:=I.ob;obtain⟨rr,xs,rfl,du,rs⟩:=q1.aC;obtain⟨kvs,hd,ok⟩:=I.he;obtain⟨j,hj⟩:=Rw hb h2 ok;obtain rfl:u3= .int n:=h3;obtain⟨a4,ys,rfl,Vb,ry⟩:=h4.aC;obtain⟨a5,zs,rfl,Vc,rz⟩:=h5.aC;have ly:=ry.len;have lz:=rz.len;have lx:=rs.len;rw[bq]at lx;simp only[cU,rE]at ly lz;exists g.x,g.dx,_,g.he,kvs,p,rr,a4,a5,u1,u2,n,j,xs,ys,zs,rfl,hp,hx,(by show 10<1000;decide),rfl,hd,hj,rfl,du,Vb,Vc,(λz=>by rw[z]at ly;cases ly),(λz=>by rw[z]at lz;cases lz),rfl,by lia,by lia,λr' H' h' s=> ?_;have a1:=To.same I s;have e1:bU "rows" (.ref r') (g.fs (.ref rr) wv)=hf (.ref r') wv (.ref g.he) (.ref g.sa) g.sd g.td (.ref g.po) (.ref g.ti) (.ref g.ar) (.ref g.me):=Og _ _ _ _ _ _ _ _ _ _ _;rw[e1];(have key: ∀r (us:aq V),aE H [.aC (eO r)] us->H' r'=some (.aC (us++xs.drop 1))->aJ H' (.aC ((bp.bF r::g.rows.drop 1).map bp.pv)) (.ref r'):=λr us hu e=>(by simp only[aJ];exists r',_,rfl,e,?_;rw[bH,List.map_drop];exact aE.append (ps:= [.aC (eO r)]) (s.bC hu) ((s.bC rs).drop 1)));by_cases c:j=n;rw[aT c]at h';exact q _ r1 (.inl rfl) (a1.trans (To.x a1.is (rows:= .bF r1::g.rows.drop 1) (wt:=g.wt) (key r1 ys ry h') (s.bE q2)) rfl);rw[aU c]at h';exact q _ r2 (.inr rfl) (a1.trans (To.x a1.is (rows:= .bF r2::g.rows.drop 1) (wt:=g.wt) (key r2 zs rz h') (s.bE q2)) rfl)
end
abbrev Hs:Stmt:=top 18
def D9{os:aq Int}{aF:aq bu}(h:aF∈b0 os):(∃t m th,t∈os/\(m=0\/m=1)/\th∈jc/\aF= [.str gK,.int t,.int m,th])\/(∃x m b,x∈lJ os/\m∈pj/\bu.str b∈eF/\aF= [.str gi,x,m,.str b])\/(∃t x m b,x∈lJ os/\m∈pj/\bu.str b∈eF/\aF= [.str gJ,.str t,x,m,.str b])\/(∃t,aF= [.str gj,.str t])\/(∃b x y,b∈eF/\x∈jc/\y∈jc/\aF= [.str gI,b,x,y])\/aF= [.str fP]\/(∃th,th≠ .aN/\aF= [.str dk,th]):=by(have bx: ∀ {b:bu},b∈eF-> ∃c,b= .str c:=λ{b} hb=>(by simp only[eF,dN,eB,eJ]at hb;rcases hb with rfl|rfl<;>exists _,rfl));(have tk: ∀ {b:bu},b∈K2.jx-> ∃c,b= .str c:=λ{b} hb=>(by simp only[K2.jx,dN,eB,eJ]at hb;rcases hb with rfl|rfl<;>exists _,rfl));simp only[b0,rG,List.mem_flatMap,List.mem_map]at h;rcases h with(((((h|h)|h)|h)|h)|h)|h;obtain⟨t,ht,m,hm,th,bY,rfl⟩:=h;exact .inl ⟨t,m,th,ht,by simpa using hm,bY,rfl⟩;obtain⟨x,hx,m,hm,b,hb,rfl⟩:=h;obtain⟨c,rfl⟩:=bx hb;exact .inr (.inl ⟨x,m,c,hx,hm,hb,rfl⟩);obtain⟨t,ht,x,hx,m,hm,b,hb,rfl⟩:=h;obtain⟨c,rfl⟩:=bx hb;obtain⟨t,rfl⟩:=tk ht;exact .inr (.inr (.inl ⟨t,x,m,c,hx,hm,hb,rfl⟩));obtain⟨t,ht,rfl⟩:=h;obtain⟨t,rfl⟩:=tk ht;exact .inr (.inr (.inr (.inl ⟨t,rfl⟩)));obtain⟨b,hb,x,hx,y,hy,rfl⟩:=h;exact .inr (.inr (.inr (.inr (.inl ⟨b,x,y,hb,hx,hy,rfl⟩))));simp only[dN,eB,eJ]at h;rcases h with rfl|rfl;exact .inr (.inr (.inr (.inr (.inr (.inl rfl)))));exact .inr (.inr (.inr (.inr (.inr (.inr ⟨_,by decide,rfl⟩)))));obtain⟨t,ht,rfl⟩:=h;exact .inr (.inr (.inr (.inr (.inr (.inr ⟨t,CJ ht,rfl⟩)))))
def EA{hd:aq bu}(h:hd∈uX): ∃b n,b∈eF/\hd= [.str dZ,b,.int n]:=by simp only[uX,List.mem_flatMap,List.mem_map]at h;obtain⟨b,hb,n,_,rfl⟩:=h;exists b,n,hb,rfl
inductive lO(os:List Int)(d:bp)(g:HG):HG->Prop where
 |on:lO os d g {g with rows:=g.rows.drop 1,wt:= .go}
 |iO (n:Nat):lO os d g {g with wt:= .iO n}
 |all:lO os d g {g with wt:= .all}
 |take (wh ma:bu) (bx:T) (h1:wh∈lJ os) (h2:ma∈pj) (h3:bu.str bx∈eF):lO os d g {g with wt:= .j6 g.td,td:=g.td+1,aR:=g.aR++ [⟨g.td,wh,ma,bx⟩]}
 |post (wh ma:bu) (bx:T) (h1:wh∈lJ os) (h2:ma∈pj) (h3:bu.str bx∈eF):lO os d g {g with rows:=g.rows.drop 1,wt:= .go,td:=g.td+1,aR:=g.aR++ [⟨g.td,wh,ma,bx⟩]}
 |ga (r:List bu) (h:r∈b0 os) (hc:d.qw=true):lO os d g {g with rows:= .bF r::g.rows.drop 1}
/---/def Ju:bp->Prop
 | .bF aF=>aF.head?≠some (.str gK)
 | .ga _ _ _=>True
def pQ(P:Program)(w:World)(K:W.Frag)(mg:Str->Option Value)(base:Heap)(kvs:List (Str×V))(x:T)(sp:Sp):Prop:= ∃f fd,jy kvs (S x)=some (.ref f)/\bw P w K mg base bh 2 f fd ["hand", "row"] sp/\gQ K fd ["hand", "row"] []/\W.keepIn K (.ref f)=true
structure Jj(P:Program)(w:World)(K:W.Frag)(mg:Str->Option Value)(base:Heap)(C:Addr):Prop where
 ex: ∃a kvs,mg "DEEDS"=some (.ref a)/\rB P w K a kvs/\pQ P w K mg base kvs gi (Cv C)/\pQ P w K mg base kvs gJ (Cu C)/\pQ P w K mg base kvs gj (Cy C)/\pQ P w K mg base kvs dk (Cw C)/\pQ P w K mg base kvs gI (Cr C)/\pQ P w K mg base kvs dZ (Ct C)/\pQ P w K mg base kvs fP (Cs C)
inductive Ik(C:Addr)(vs:List V)(H:Hp)(Q:VK)(cO:XK):Prop
 |mk (g:HG) (B:Nat) (os:List Int) (d:bp) (rv:V) (_:vs= [.ref g.x,rv]) (_:bG C B H g) (_:B<=1000) (_:(∀q∈g.aR,q.n<g.td)) (_:g.aR.length<=1000) (_:g.rows.length<=100) (_:Row os d) (_:Ju d) (_:aJ H d.pv rv) (_: ∀H' g',lO os d g g'->To C (B+1) H g H' g'->Q .aN H')
def To.more{C:ae}{B B':Nat}{H H':Hp}{g g':HG}(a:To C B H g H' g')(h:B<=B'):To C B' H g H' g':=⟨a.is.more h,a.keep,a.bA⟩
def Pf:bP ["hand", "row", "deed"] ["hand", "row"] (bo Hs):=fs
def a0o(F:bK K "do_row" "do_row" Hs f fd)(D:Jj P w K mg base C):bw P w K mg base bh 3 f fd ["hand", "row"] (Ik C):=by obtain⟨a,kvs,ma,KD,Ss,Sr,Sv,Su,Sm,Sq,So⟩:=D.ex;refine F.ok Pf (λvs H Q E h=> ?_) λbd A outer s H vs Q E hr h=> ?_;obtain⟨_,_,_,_,_,rfl,_⟩:=h;rfl;obtain⟨g,B,os,d,rv,rfl,I,hB,hlt,gy,oU,nB,fe,rr,q⟩:=h;exists _,be (cA (i:=2) Pf.nd rfl (Or.inl rfl) (bI (MU KD) (kD rfl ma (v:= .ref a) rfl) (bI (cM K rfl) (pv 1) ba λ_ _=>rfl) λ_ _=>rfl)) (bn (fg (Oc (k:=2) 2 hr (aD (pv 0) (aD (pv 1) aO))))),?_;(have fst: ∃p u1 us x,rv= .ref p/\H p=some (.aC (u1::us))/\u1= .str (S x)/\ ∃rest,d.pv= .aC (.at (.str x)::rest):=(by cases nB with|bF h=>(obtain⟨p,vs,rfl,hp,rs⟩:=rr.aC;rcases D9 h with⟨_,_,_,_,_,_,rfl⟩|⟨_,_,_,_,_,_,rfl⟩|⟨_,_,_,_,_,_,_,rfl⟩|⟨_,rfl⟩|⟨_,_,_,_,_,_,rfl⟩|rfl|⟨_,_,rfl⟩<;>(simp only[eO,bH,aE]at rs;obtain⟨v,r,rfl,e,_⟩:=rs;exists p,v,r,_,rfl,hp,e.1,_,rfl))|ga h h1 h2=>obtain⟨b,n,_,rfl⟩:=EA h;obtain⟨p,vs,rfl,hp,rs⟩:=rr.aC;simp only[eO,bH,zu,aE]at rs;obtain⟨v,r,rfl,e,_⟩:=rs;exists p,v,r,_,rfl,hp,e.1,_,rfl));obtain⟨p,u1,us,x,rfl,hp,rfl,rest,ex⟩:=fst;(suffices hz: ∃sp,pQ P w K mg base kvs x sp/\sp [.ref g.x,.ref p] H (λ_ H'=>Q .aN H') E0 by obtain⟨sp,⟨f2,D7,e2,F2,B2,xR⟩,z⟩:=hz;exists _,rfl,p,_,0,_,rfl,rfl,aS.of hp,gq (j:=0) rfl,_,_,rfl,rfl,e2,f2,D7,_,sp,rfl,F2,B2,xR,_,rfl,_,rfl,z);have nb:=hW B;cases nB with|bF h=>(rcases D9 h with⟨_,_,_,_,_,_,rfl⟩|⟨wh,m,b,h1,h2,h3,rfl⟩|⟨t,wh,m,b,h1,h2,h3,rfl⟩|⟨t,rfl⟩|⟨b,y,z,h1,h2,h3,rfl⟩|rfl|⟨th,h1,rfl⟩);exact absurd rfl fe;(all_goals (simp only[bp.pv,eO,bH,fZ,PV.aC.injEq,io,PV.at.injEq,bu.str.injEq]at ex;obtain⟨rfl,_⟩:=ex));exists _,Ss,Ui I hlt gy rr λH' a=>q H' _ (.take wh m b h1 h2 h3) (a.more nb);exists _,Sr,Uh I hB hlt gy rr λH' a=>q H' _ (.post wh m b h1 h2 h3) a;exists _,Sv,Uk I rr (λH' a=>q H' _ .on (a.more nb)) λH' n a=>q H' _ (.iO n) (a.more nb);exists _,Sm,Ud I h1 h2 h3 rr λH' a=>q H' _ .on (a.more nb);exists _,So,Ue I λH' a=>q H' _ .all (a.more nb);exact⟨_,Su,Uj I hB h1 rr λH' a=>q H' _ .on a⟩|ga h h1 h2=>obtain⟨b,n,hb,rfl⟩:=EA h;simp only[bp.pv,eO,bH,fZ,zu,PV.aC.injEq,io,PV.at.injEq,bu.str.injEq]at ex;obtain⟨rfl,_⟩:=ex;exists _,Sq,Ug I hb oU rr λH' r hr a=>q H' _ (.ga r ?_ rfl) (a.more nb);rcases hr with rfl|rfl;exact h1;exact h2
abbrev Hz:Stmt:=gf mK 9
/---/def jP(qs:List Tk)(s m:Int):Option Tk:=qs.find? λq=>gU q.wh q.ma s m
def KS{q:Tk}{qs:aq Tk}{s m:Int}(h:gU q.wh q.ma s m=true):jP (q::qs) s m=some q:=rD (p:=λq:Tk=>gU q.wh q.ma s m) h
def KR{q:Tk}{qs:aq Tk}{s m:Int}(h: ¬gU q.wh q.ma s m=true):jP (q::qs) s m=jP qs s m:=pT (p:=λq:Tk=>gU q.wh q.ma s m) h
/---/def tkV:Option Tk->V
 |none=> .aN
 |some q=> .int q.n
def HX{H:Hp}{a:ae}{u:HO}(e:H a=some u)(s:aY (upd H a (.cc o u)) H'):aY H (upd H' a u):=λb v z=>by by_cases h:b=a;subst h;rw[aL];rw[e]at z;exact z;rw[aP h];exact s b v (by rw[aP h];exact z)
def fz.get{H:Hp}: ∀ {qs:aq Tk} {ps:aq (aZ×V)} {i:Nat} {q:Tk},fz H qs ps->qs[i]? =some q-> ∃v,ps[i]? =some (.inl (q.n:Int),v)/\aJ H q.pv v
 |q::qs,ps,0,_,h,e=>by obtain⟨v,r,rfl,hv,_⟩:=h;cases e;exists v,rfl,hv
 |q::qs,ps,i+1,_,h,e=>by obtain⟨v,r,rfl,hv,hr⟩:=h;exact fz.get (i:=i) hr (by simpa using e)
inductive PM(C:Addr)(vs:List V)(H:Hp)(Q:VK)(cO:XK):Prop
 |mk (g:HG) (B:Nat) (s m:Int) (_:vs= [.ref g.x,.int s,.int m]) (_:bG C B H g) (_: ∀H',aY H H'->Q (tkV (jP g.aR s m)) H')
def HZ:bP ["self", "sender", "mark", "number", "take"] ["self", "sender", "mark"] (bo Hz):=fs
def a0x(F:bK K "first_take" "Hand.first_take" Hz f fd)(hC:cu K C)(xo:cP P w K mg base bh 1 "fits" ["take", "sender", "mark"] Im):bw P w K mg base bh 2 f fd ["self", "sender", "mark"] (PM C):=by refine F.ok HZ (λvs H Q E h=> ?_) λbd A outer s H vs Q E hr h=> ?_;obtain⟨_,_,_,_,rfl,_⟩:=h;rfl;obtain⟨g,B,se,m,rfl,I,q⟩:=h;exists _,be (GK (kE ki rfl (a1H (cb (pv 0) rfl)) (nO rfl (gN (cC (i:=3) HZ.nd rfl (Or.inl rfl)) (gN (cC (i:=4) HZ.nd rfl (Or.inl rfl)) nP))) (bn (cN (g9 (cj xo hr rfl bt (aD (pv 4) (aD (pv 1) (aD (pv 2) aO))))) (bn (bQ (pv 3))) dB)))) (bn (bQ mE)),?_;obtain⟨rv,wv,hx,r1,r2⟩:=I.ob;obtain⟨ps,hp,pp⟩:=I.po;exists g.po,.dK ps,trivial,hp,λo=> ?_;have Z5:g.x≠g.po:=I.ne 0 3;have t0:bO H (upd H g.po (.cc o (.dK ps))):=I.IJ _;exists _,rfl,g.x,C,g.dx,_,_,rfl,(aP Z5).trans hx,hC.cl,hC.aR,rfl,g.po,o,ps,rfl,aL,?_;have ll:=pp.len;refine su (n:=ps.length) (λi σ' H'=> ∃ (r3 r4:ap V),σ'= [some (.ref g.x),some (.int se),some (.int m),r3,r4]/\aY (upd H g.po (.cc o (.dK ps))) H'/\jP g.aR se m=jP (g.aR.drop i) se m) ?_ ?_ ?_;exists none,none,rfl,aY.refl _,rfl;rintro i σ' H' hi ⟨r3,r4,rfl,sm,e⟩;(have ce:i<g.aR.length:=by lia);obtain⟨v,ev,lD⟩:=pp.get (br ce);(have D2:yb ps i= [.int (g.aR[i].n:Int),v]:=by unfold yb;rw[ev];rfl);exists⟨hi,sm _ _ aL⟩,?_;rintro x H1 ⟨t,ht,rfl,rfl⟩;rw[D2];have s1:=aM ht (.aC [.int (g.aR[i].n:Int),v]);exists t,_,rfl,aS.of aL,rfl,_,_,rfl,_,_,rfl,rfl,?_;exists _,rfl,_,rfl,_,rfl,g.aR[i].wh,g.aR[i].ma,.at (.str g.aR[i].bx),v,se,m,rfl,s1.bE (sm.bE (t0.bE lD)),λH2 s2=>⟨_,rfl,?_⟩;have s3:=sm.trans (s1.trans s2);rw[List.drop_eq_getElem_cons ce]at e;refine bJ (λc=> ?_) λc=> ?_;exists _,rfl,s3 _ _ aL,?_;have fin:=q _ (HX hp s3);rw[e,KS c]at fin;exact fin;exists _,_,rfl,s3,?_;rw[e,KR c];rintro σ' H' ⟨r3,r4,rfl,sm,e⟩;exists⟨rfl,sm _ _ aL⟩,sm _ _ aL,?_;have fin:=q _ (HX hp sm);rw[e,ll,List.drop_length]at fin;exact fin
abbrev yx:Stmt:=gf mK 10
def Wt.yh{a b:Wt}(h:a.pv=b.pv):a=b:=by
 cases a<;>cases b<;>first
  |rfl
  |(exfalso;simp[Wt.pv,gK,gi,gj,fP]at h;done)
  |(simp only[Wt.pv,PV.aC.injEq,io,PV.at.injEq,bu.int.injEq,kj,true_and]at h
    first
     |(obtain⟨h1,h2⟩:=h;congr<;>lia)
     |(congr;lia))
def Wt.qd(w:Wt):dp w.pv<=10:=by cases w<;>simp[Wt.pv,dp,cq]
def uS(w:Wt)(n:Nat):Bool:=decide (w= .j6 n)||decide (w= .iO n)
def T8(w:Wt)(n:Nat): [(Wt.j6 n).pv,(Wt.iO n).pv].contains w.pv=uS w n:=by unfold uS;rw[pP];simp only[List.contains_iff_mem,dN,eB,eJ,Bool.or_eq_true,lT];constructor;rintro(h|h);exact .inl (Wt.yh h);exact .inr (Wt.yh h);rintro(rfl|rfl);exact .inl rfl;exact .inr rfl
/---/def without(qs:List Tk)(n:Nat):List Tk:=qs.filter λq=>decide (q.n≠n)
def fz.drop{H:Hp}{n:Nat}: ∀ {qs:aq Tk} {ps:aq (aZ×V)},fz H qs ps->fz H (without qs n) (dU ps (.inl (n:Int)))
 | [],ps,h=>by rw[show ps= []from h];rfl
 |q::qs,ps,h=>by obtain⟨v,r,rfl,hv,hr⟩:=h;by_cases e:q.n=n;rw[SX (by rw[e])];have:without (q::qs) n=without qs n:=List.filter_cons_of_neg (by simpa using e);rw[this];exact fz.drop hr;rw[SW (by intro z;injection z with z;lia)];have:without (q::qs) n=q::without qs n:=List.filter_cons_of_pos (by simpa using e);rw[this];exists v,_,rfl,hv,fz.drop hr
def fz.val{H:Hp}{n:Nat}{q:Tk}: ∀ {qs:aq Tk} {ps:aq (aZ×V)},fz H qs ps->(qs.find? λq=>decide (q.n=n))=some q-> ∃v,bZ ps (.inl (n:Int))=some v/\aJ H q.pv v
 | [],ps,h,e=>by cases e
 |q'::qs,ps,h,e=>by obtain⟨v,r,rfl,hv,hr⟩:=h;by_cases z:q'.n=n;rw[rD (by simpa using z)]at e;cases e;exists v,nX (by rw[z]),hv;rw[pT (by simpa using z)]at e;rw[lI (by intro w;injection w with w;lia)];exact fz.val hr e
def HG.got(g:HG)(n:Nat):HG:=if uS g.wt n=true then{g with aR:=without g.aR n,rows:=g.rows.drop 1,wt:= .go}else{g with aR:=without g.aR n}
inductive P2(C:Addr)(vs:List V)(H:Hp)(Q:VK)(cO:XK):Prop
 |mk (g:HG) (B n:Nat) (v:Int) (q:Tk) (_:vs= [.ref g.x,.int n,.int v]) (_:bG C B H g) (_:B<=1000) (_:(g.aR.find? λq=>decide (q.n=n))=some q) (_:bu.str q.bx∈eF) (_: ∀H',To C (B+1) H g H' (g.got n)->Q .aN H')
def Pj:bP ["self", "number", "value", "box"] ["self", "number", "value"] (bo yx):=fs
def a0T(F:bK K "receive" "Hand.receive" yx f fd)(hC:cu K C)(fX:cI P w K mg base C 1 "go_on" ["self"] (iN C)):bw P w K mg base bh 2 f fd ["self", "number", "value"] (P2 C):=by obtain⟨g2,iu,cV,dG,cw⟩:=fX;refine F.ok Pj (λvs H Q E h=> ?_) λbd A outer s H vs Q E hr h=> ?_;obtain⟨_,_,_,_,_,rfl,_⟩:=h;rfl;obtain⟨g,B,n,v,tk,rfl,I,hB,hf,oI,q⟩:=h;(have hu:(A.deeper (envOfC "Hand.receive" (bo yx) s.heap.objs.size f bd)).units+1<cLine:=by have:=hr.un;lia);exists _,be (cA (i:=3) Pj.nd rfl (Or.inl rfl) (bI (cM K rfl) (GB (cb (pv 0) rfl) (pv 1) ⟨rfl,rfl,rfl,rfl⟩) ba λ_ _=>rfl)) (bn (cN (cY BE (cb (pv 0) rfl) (cz (aD (cz (aD cy (aD (pv 1) aO))) (aD (cz (aD cy (aD (pv 1) aO))) aO))) rfl) (be (qP hu (cb (pv 0) rfl) (pv 3) (pv 2) rfl) (bn (fg (gg (pv 0) hC.cl cV dG hr cw .nil bt)))) (bn (qP hu (cb (pv 0) rfl) (pv 1) (cz (aD (pv 3) (aD (pv 2) aO))) rfl)))),?_;obtain⟨rv,wv,hx,r1,r2⟩:=I.ob;obtain⟨ps,hp,pp⟩:=I.po;obtain⟨kvs,hd,ok⟩:=I.he;obtain⟨iD,ha,zU,al⟩:=I.ar;obtain⟨v',ev,tR⟩:=pp.val hf;obtain⟨p,u1,u2,u3,rfl,Ww,k1,k2,k3⟩:=BN tR;(obtain⟨rfl,_⟩:=(show u3= .str (S tk.bx)/\_ from k3));(have a1:To C B H g (upd H g.po (.dK (dU ps (.inl (n:Int))))) {g with aR:=without g.aR n}:=⟨I.Ov pp.drop,eM.upd (by simp[HG.cells]) _,I.IJ _⟩);have Fx:upd H g.po (.dK (dU ps (.inl (n:Int)))) g.x=some (.bv C g.dx (g.fs rv wv)):=(aP (I.ne 0 3)).trans hx;exists _,rfl,g.x,C,g.dx,_,_,rfl,hx,hC.cl,hC.aR,rfl,g.po,rfl,.inl ⟨ps,.inl hp⟩,_,rfl,ps,.inl (n:Int),_,hp,rfl,ev,?_;exists p,_,2,_,rfl,rfl,aS.of (a1.bA _ _ Ww),rfl,?_;(have z2:2<=sizeLine:=by decide);exists _,rfl,g.x,C,g.dx,_,_,rfl,Fx,hC.cl,hC.kK,rfl,_,rfl,z2,λl1 iw=> ?_;have s1:=aM iw (.aC [.str "take",.int n]);exists _,rfl,z2,λl2 gY=>⟨z2,λl3 jm=> ?_⟩;have s2:=aM gY (.aC [.str "wait",.int n]);have s3:=aM jm (.aC [.ref l1,.ref l2]);have iM:=s1.trans (s2.trans s3);have a2:=a1.trans (To.same a1.is iM) rfl;have q1:aJ _ (Wt.j6 n).pv (.ref l1):=(s2.trans s3).bE (pk aL ⟨by rw[Cc],by decide⟩ rfl);have q2:aJ _ (Wt.iO n).pv (.ref l2):=s3.bE (pk aL ⟨by rw[Ce],by decide⟩ rfl);have qt:=hr.un;exists l3,[(Wt.j6 n).pv,(Wt.iO n).pv],_,g.wt.pv,rfl,.inr (aS.of aL),aE.cons q1 (aE.dY q2),a2.bA.bE r2,?_,_,rfl,?_;show(A.deeper (envOfC _ (bo yx) s.heap.objs.size f bd)).units+1+_+_<cLine;have:=g.wt.qd;(have:cq [(Wt.j6 n).pv,(Wt.iO n).pv]<=30:=by simp[Wt.pv,dp,cq]);lia;have eg:(g.got n)=if uS g.wt n=true then{g with aR:=without g.aR n,rows:=g.rows.drop 1,wt:= .go}else{g with aR:=without g.aR n}:=rfl;show if(if false=true then _ else [(Wt.j6 n).pv,(Wt.iO n).pv].contains g.wt.pv)=true then _ else _;rw[aU fI,T8];refine bJ (λc=> ?_) λc=> ?_;rw[aT c]at eg;have qu:=iM _ _ Fx;have xk:upd H g.po (.dK (dU ps (.inl (n:Int)))) g.he=some (.dK kvs):=(aP (I.ne 1 3)).trans hd;exists _,rfl,_,rfl,g.x,C,g.dx,_,_,rfl,qu,hC.cl,hC.k9,rfl,_,rfl,g.he,_,rfl,gl.k (k:= .inr (S tk.bx)) (iM _ _ xk) (big (dS (Ay ok) (by decide))),?_;have a3:To C B _ g _ {g with aR:=without g.aR n}:=a2.trans (⟨a2.is.GM (ok.put oI v),eM.upd (by simp[HG.cells]) _,a2.is.II _⟩:To C B _ {g with aR:=without g.aR n} _ {g with aR:=without g.aR n}) rfl;exists _,rfl,g.x,g.dx,_,rfl,(aP (I.ne 0 1)).trans qu,rfl,?_;refine oF (g:= {g with aR:=without g.aR n}) a3.is λH' a4=>q H' ?_;rw[eg];exact(a3.trans a4 rfl).more (hW B);rw[aU c]at eg;have qu:=iM _ _ Fx;have Er:upd H g.po (.dK (dU ps (.inl (n:Int)))) g.ar=some (.dK iD):=(aP (I.ne 5 3)).trans ha;exists _,rfl,_,rfl,z2,λl4 oQ=> ?_;have s4:=aM oQ (.aC [.str (S tk.bx),.int v]);exists _,rfl,g.x,C,g.dx,_,_,rfl,s4 _ _ qu,hC.cl,hC.rP,rfl,_,rfl,g.ar,_,rfl,gl.k (k:= .inl (n:Int)) (s4 _ _ (iM _ _ Er)) (big (by lia)),?_;have a3:=a2.trans (To.same a2.is s4) rfl;refine q _ ?_;rw[eg];exact a3.trans (⟨a3.is.Ou (hW B) ((zU.mono a3.bA).put aL oI) (dS (sX _ _ _) (Nat.succ_le_succ al)),eM.upd (by simp[HG.cells]) _,a3.is.QG _⟩:To C (B+1) _ {g with aR:=without g.aR n} _ {g with aR:=without g.aR n}) rfl
abbrev yt:Stmt:=gf mK 7
abbrev HE:Stmt:=gf mK 11
def Oe{X:Cx}(K:W.Frag)(hK:X.K=K){ta:TE}(he:PE X e ta)(hb:attributeBase e f X.env (eval e X.env)=eval e X.env):PE X (.Attribute e f pos) (Qy K ta f):=hK▸cb he hb
/---/def Wd(n:Nat)(Iv:Nat->Hp->Prop):Nat->Nat->Hp->Prop:=λi m H=>i<=n/\m=n-i/\Iv i H
def Wd.next{n:Nat}{Iv:Nat->Hp->Prop}{i:Nat}{H:Hp}(hi:i<n)(h:Iv (i+1) H): ∃m',m'<n-i/\Wd n Iv (i+1) m' H:=⟨n- (i+1),by lia,by lia,rfl,h⟩
def SC{J:It}{n k:Nat}{g:TG}{tt:TT}{tk tv:TE}{σ:L2.St}{Q:Hp->Prop}(Iv:Nat->Hp->Prop)(h0:Iv 0 H0)(fX: ∀i H,i<n->Iv i H->J.go i H/\ ∀x H',J.hV i H x H'->g x (List.replicate k none++σ) H' λσ2 H2=>tt σ2 H2 λb H3=>if b=true then tk σ2 H3 λy H4=>tv σ2 H4 λz H5=> ∃H6,gl H5 D y z H6/\(∀b,H5 b=none->b≠D)/\ ∃m',m'<n-i/\Wd n Iv (i+1) m' H6 else ∃m',m'<n-i/\Wd n Iv (i+1) m' H3)(nE: ∀H,Iv n H->J.stop n H/\Q H): ∃W:Nat->Nat->Hp->Prop,(∃m,W 0 m H0)/\ ∀i m H,W i m H->(J.stop i H/\Q H)\/(J.go i H/\ ∀x H',J.hV i H x H'->g x (List.replicate k none++σ) H' λσ2 H2=>tt σ2 H2 λb H3=>if b=true then tk σ2 H3 λy H4=>tv σ2 H4 λz H5=> ∃H6,gl H5 D y z H6/\(∀b,H5 b=none->b≠D)/\ ∃m',m'<m/\W (i+1) m' H6 else ∃m',m'<m/\W (i+1) m' H3):=by exists Wd n Iv,⟨n,fQ _,rfl,h0⟩,λi m H ⟨hi,hm,h⟩=> ?_;subst hm;by_cases e:i=n;subst e;exact .inl (nE H h);exact .inr (fX i H (by lia) h)
structure rM(mg:Str->Option Value):Prop where
 sorted:mg "sorted"=none
 any:mg "any"=none
 set:mg "set"=none
def VC{kvs:aq (aZ×V)}(h: ∀p∈kvs,∃b i,p=(.inr (S b),.int i)/\bu.str b∈eF): ∃ks:aq (aA×V),kvs=ks.map (λp=>((Sum.inr p.1:aZ),p.2)):=by induction kvs with|nil=>exact⟨[],rfl⟩|cons p r ih=>obtain⟨ks,e⟩:=ih λq hq=>h q (fJ _ hq);obtain⟨b,i,rfl,_⟩:=h p fk;exact⟨(S b,.int i)::ks,by rw[e];rfl⟩
def a4Z{kvs:aq (aZ×V)}(h: ∀p∈kvs,∃b i,p=(.inr (S b),.int i)/\bu.str b∈eF){x:aA}(hx:(Sum.inr x:aZ)∈kvs.map (·.1)): ∃i,bZ kvs (.inr x)=some (.int i):=by cases e:bZ kvs (.inr x)with|none=>exact absurd hx (QN e)|some v=>obtain⟨c,i,z,_⟩:=h _ (yX e);(injection z with _ z);exact⟨i,by rw[z]⟩
inductive PL(C:Addr)(vs:List V)(H:Hp)(Q:VK)(cO:XK):Prop
 |mk (g:HG) (B:Nat) (_:vs= [.ref g.x]) (_:bG C B H g) (_: ∀d kvs H',aY H H'->H' d=some (.dK kvs)->Q (.ref d) H')
def a3h:bP ["self"] ["self"] (bo yt):=fs
def Zm:(["box", "self"]:aq aA).Nodup:=by decide+kernel
def a0w(F:bK K "filled" "Hand.filled" yt f fd)(T2:rM mg)(hC:cu K C):bw P w K mg base bh 1 f fd ["self"] (PL C):=by refine F.ok a3h (λvs H Q E h=> ?_) λbd A outer s H vs Q E hr h=> ?_;obtain⟨_,_,rfl,_⟩:=h;rfl;obtain⟨g,B,rfl,I,q⟩:=h;(have hu:(A.deeper (envOfC "Hand.filled" (bo yt) s.heap.objs.size f bd)).units+1<cLine:=by have:=hr.un;lia);exists _,bn (bQ (a1x (T:= ["box"]) hu (lG (bo yt) ["self"] rfl rfl (by decide+kernel)) rfl (mG (dw (RI rfl) rfl T2.sorted boot_sorted (aD (cb (pv 0) rfl) aO))) (λY hY=>by cases hY;exact cC (i:=0) Zm rfl (Or.inl rfl)) iE (λY hY=>by cases hY;exact qM (cY tH (nN (by exact hu) (Oe K rfl (pv 1) rfl) (pv 0) λ_ _=>rfl) ba (cQ _))) (λY hY=>by cases hY;exact pv 0) (λY hY=>by cases hY;exact nN (by exact hu) (Oe K rfl (pv 1) rfl) (pv 0) λ_ _=>rfl))),?_;obtain⟨rv,wv,hx,r1,r2⟩:=I.ob;obtain⟨kvs,hd,ok⟩:=I.he;obtain⟨ks,ek⟩:=VC ok.2;have cf:=Ay ok;exists _,rfl,g.x,C,g.dx,_,_,rfl,hx,hC.cl,hC.k9,rfl,g.he,ks,rfl,.inl (by rw[<-ek];exact hd),(by rw[ek,bq]at cf;lia),λl ys hl pm so=> ?_;have s1:=aM hl (.aK (ys.map V.str));(have Mx:ys.length<=2:=(by have e1:=pm.length_eq;rw[bq]at e1;rw[ek,bq]at cf;lia));exists l,rfl,⟨_,aQ.of aL⟩,.dK [],.inl rfl,λD hD=> ?_;(have EM:l≠D:=λz=>by subst z;rw[aL]at hD;cases hD);refine SC (n:=(ys.map V.str).length) (λi H'=>(∃zs,H' D=some (.dK zs)/\zs.length<=i)/\ ∀b o,b≠D->upd H l (.aK (ys.map V.str)) b=some o->H' b=some o) ?_ ?_ ?_;exact⟨⟨[],aL,aV 0⟩,λb o n e=>by rw[aP n];exact e⟩;(·rintro i H' hi ⟨⟨zs,hz,lz⟩,kp⟩;have fL:H' l=some (.aK (ys.map V.str)):=kp _ _ EM aL;(have mf:i<ys.length:=by rw[bq]at hi;exact hi);(have ei:(ys.map V.str)[i]? =some (.str ys[i]):=by rw[cB,br mf];rfl);exists⟨_,_,aQ.of fL,ei⟩,?_;rintro x H1 ⟨rfl,hy⟩;have:=hy _ (aQ.of fL);rw[ei]at this;(injection this with this);subst this;(have o0:(Sum.inr ys[i]:aZ)∈kvs.map (·.1):=(by rw[ek,jG];have h1:ys[i]∈ks.map (·.1):=pm.subset (kP mf);obtain⟨p,hp,e⟩:=List.mem_map.mp h1;exact List.mem_map.mpr ⟨p,hp,by show Sum.inr p.1=_;rw[e]⟩));obtain⟨v,ev⟩:=a4Z ok.2 o0;(have nx:g.x≠D:=λz=>by subst z;rw[s1 _ _ hx]at hD;cases hD);(have nh:g.he≠D:=λz=>by subst z;rw[s1 _ _ hd]at hD;cases hD);have iy:=kp _ _ nx (s1 _ _ hx);have hd':=kp _ _ nh (s1 _ _ hd);(have dg:dC H1 g.he (.str ys[i]) (some (.int v)):=by rw[<-ev];exact dC.k (k:= .inr ys[i]) hd');exists _,rfl,g.x,C,g.dx,_,_,rfl,iy,hC.cl,hC.k9,rfl,_,rfl,g.he,_,rfl,dg,rfl,_,rfl,?_;refine bJ (λc=> ?_) λc=> ?_;(·exists _,rfl,_,rfl,g.x,C,g.dx,_,_,rfl,iy,hC.cl,hC.k9,rfl,_,rfl,g.he,_,rfl,dg,_,gl.k (k:= .inr ys[i]) hz (big (by lia)),λb hb z=>(by subst z;rw[hz]at hb;cases hb),Wd.next hi ⟨⟨_,aL,?_⟩,λb o n e=> ?_⟩;exact dS (sX _ _ _) (Nat.succ_le_succ lz);rw[aP n];exact kp b o n e);(·exact Wd.next hi ⟨⟨zs,hz,by lia⟩,kp⟩));rintro H' ⟨⟨zs,hz,lz⟩,kp⟩;exists⟨_,aQ.of (kp _ _ EM aL),aV _⟩,q D zs H' (λb o e=> ?_) hz;exact kp b o (λz=>by subst z;rw[s1 _ _ e]at hD;cases hD) (s1 _ _ e)
inductive PR(C:Addr)(vs:List V)(H:Hp)(Q:VK)(cO:XK):Prop
 |mk (g:HG) (B:Nat) (_:vs= [.ref g.x]) (_:bG C B H g) (_:g.met.length<64) (_:g.rows.length<=1000) (_: ∀ (r m:Addr) (v0 v1 v3:V) (mt:List (Nat×Nat×Nat)) (ms:List V) H',aY H H'->H' r=some (.aC [v0,v1,.ref m,v3])->H' m=some (.aC ms)->mt.Perm g.met->aE H' (mt.map qF) ms->Q (.ref r) H')
def a3m:bP ["self"] ["self"] (bo HE):=fs
/---/def Bq(m:Nat×Nat×Nat):List Int:= [(m.1:Int),m.2.1,m.2.2]
def a1E{α β:Type}(f:α->β): ∀ {l:aq β} {m:aq α},l.Perm (m.map f)-> ∃k:aq α,k.Perm m/\l=k.map f:=by
 intro l m h;generalize e:m.map f=m' at h;induction h generalizing m with
 |nil=>exists[],by rw[List.map_eq_nil_iff.mp e],rfl
 |cons x h ih=>cases m with|nil=>cases e|cons y r=>simp only[bH,io]at e;obtain⟨k,hk,rfl⟩:=ih e.2;exact⟨y::k,hk.cons y,by rw[bH,e.1]⟩
 |swap x y l=>
  match m,e with
  |a::b::r,e=>simp only[bH,io]at e;exact⟨b::a::r,List.Perm.swap a b r,by simp[e.1,e.2.1,e.2.2]⟩
 |trans h1 h2 FE FF=>obtain⟨k2,VV,rfl⟩:=FF e;obtain⟨k1,oO,rfl⟩:=FE rfl;exists k1,oO.trans VV,rfl
def a0D(F:bK K "result" "Hand.result" HE f fd)(T:Tx mg)(T2:rM mg)(hC:cu K C)(xo:cI P w K mg base C 1 "filled" ["self"] (PL C)):bw P w K mg base bh 2 f fd ["self"] (PR C):=by obtain⟨g2,iu,cV,dG,cw⟩:=xo;refine F.ok a3m (λvs H Q E h=> ?_) λbd A outer s H vs Q E hr h=> ?_;obtain⟨_,_,rfl,_⟩:=h;rfl;obtain⟨g,B,rfl,I,h64,oU,q⟩:=h;exists _,bn (bQ (cz (aD (ju (RJ rfl) rfl T.tuple jL (aD (a1D (gg (pv 0) hC.cl cV dG hr cw .nil bt)) aO)) (aD (ju oA rfl T.tuple jL (aD (cb (pv 0) rfl) aO)) (aD (ju oA rfl T.tuple jL (aD (dw DI rfl T2.sorted boot_sorted (aD (cb (pv 0) rfl) aO)) aO)) (aD (dw jh rfl T.len boot_len (aD (cb (pv 0) rfl) aO)) aO)))))),?_;obtain⟨rv,wv,hx,r1,r2⟩:=I.ob;obtain⟨ra,rs,rfl,ml,vI⟩:=r1.aC;obtain⟨ss,hs,sl⟩:=I.sa;obtain⟨ms,hm,rm⟩:=I.me;exists _,rfl,g.x,g.dx,_,rfl,hx,rfl,?_;dsimp only[fH];exists g,B,rfl,I,λd kvs H1 s1 hd=>⟨d,kvs,rfl,.inl hd,λvw Mu=> ?_⟩;have s2:=s1.trans (aM Mu (.ext λh=>h.IsItemsView vw d));exists vw,d,kvs,rfl,aL,.inl (aM Mu _ _ _ hd),λl0 H2 bs s3 oP lb hb gY=> ?_;have s4:=s2.trans s3;exists _,rfl,g.x,C,g.dx,_,_,rfl,s4 _ _ hx,hC.cl,hC.said,rfl,g.sa,_,rfl,.inl ⟨aQ.of (s4 _ _ hs),λl1 iw=> ?_⟩;have s5:=s4.trans (aM iw (.aC (b9 ss)));exists _,rfl,g.x,C,g.dx,_,_,rfl,s5 _ _ hx,hC.cl,hC.met,rfl,g.me,ms,none,g.met.map Bq,3,rfl,aQ.of (s5 _ _ hm),?_,?_,by decide,by rw[bq];exact h64,λl2 bD ys LS pm so ry=> ?_;(have e:(g.met.map Bq).map (cJ none)=g.met.map qF:=by rw[jG];rfl);rw[e];exact s5.bC rm;intro ns fe;obtain⟨m,_,rfl⟩:=List.mem_map.mp fe;rfl;obtain⟨mt,vB,rfl⟩:=a1E Bq pm;have s6:=s5.trans (aM LS (.aK ys));exists l2,ys,rfl,.inl ⟨aQ.of aL,λl3 jm=> ?_⟩;have s7:=s6.trans (aM jm (.aC ys));exists _,rfl,g.x,C,g.dx,_,_,rfl,s7 _ _ hx,hC.cl,hC.rows,rfl,ra,rs,rfl,.inr (aS.of (s7 _ _ ml)),(by show 4<=sizeLine;decide),λl4 oQ=> ?_;have s8:=aM oQ (.aC [.ref l0,.ref l1,.ref l3,.int rs.length]);refine q l4 l3 _ _ _ mt ys _ (s7.trans s8) aL (s8 _ _ aL) vB ?_;(have e:(mt.map Bq).map (cJ none)=mt.map qF:=by rw[jG];rfl);rw[e]at ry;exact s8.bC ((aM jm _).bC ((aM LS _).bC ry))
abbrev HF:Stmt:=top 46
abbrev B5:Stmt:=top 47
structure Th where
 k:Nat
 m:Int
 v:Int
 deriving DecidableEq
def Th.pv(t:Th):PV:=cJ none [(t.k:Int),t.m,t.v]
def XH:W.kitOne K (.type "str") (.type "bool")=some false:=rfl
def XF:W.kitOne K (.type "NoneType") (.type "bool")=some false:=rfl
def XJ:W.kitOne K (.type "tuple") (.type "bool")=some false:=rfl
def RC{X:Cx}(K:W.Frag)(hK:X.K=K):gS X (.builtin "isinstance") (λxs H Q=> ∃ (x c:V) (t cv:aa) (b:Bool),xs= [x,c]/\jg K H x t/\(∀u,bm c u->u=cv)/\W.kitOne K t cv=some b/\Q (.bl b) H):=hK▸lS
inductive PU(vs:List V)(H:Hp)(Q:VK)(cO:XK):Prop
 |mk (v:V) (ps:List PV) (_:vs= [v]) (_:aJ H (.aC ps) v) (_:ps.length<=1000) (_: ∀H',aY H H'->Q (.bl false) H')
def a3n:bP ["event"] ["event"] (bo HF):=fs
def Zo:(["part", "event"]:aq aA).Nodup:=by decide+kernel
def a0E(F:bK K "has_truth" "has_truth" HF f fd)(T:Tx mg)(T2:rM mg):bw P w K mg base bh 1 f fd ["event"] PU:=by refine F.ok a3n (λvs H Q E h=> ?_) λbd A outer s H vs Q E hr h=> ?_;obtain⟨_,_,rfl,_⟩:=h;rfl;obtain⟨v,ps,rfl,rp,hl,q⟩:=h;exists _,bn (bQ (dw (RA rfl) rfl T2.any boot_any (aD (mD (T:= ["part"]) (qT ["event"] rfl (by decide+kernel)) rfl (ye (pv 0)) (λY hY=>by cases hY;exact cC (i:=0) Zo rfl (Or.inl rfl)) iE (λY _=>lv) (λY hY=>by cases hY;exact dw (RC K rfl) rfl T.mw ni (aD (pv 0) (aD (mC rfl T.bool boot_bool (v:= .ty "bool") rfl) aO)))) aO))),?_;obtain⟨a,xs,rfl,ha,rs⟩:=rp.aC;have ll:=rs.len;exists _,rfl,a,rfl,⟨xs,aS.of ha⟩,?_;refine iq (n:=xs.length) (λi ys H'=>H'=H/\ys=(List.replicate i false).map V.bl) ⟨rfl,rfl⟩ ?_ ?_;(·rintro i ys _ hi ⟨rfl,rfl⟩;exists⟨xs,xs[i],aS.of ha,br hi⟩,by simp;exact big (by lia),?_;rintro x H1 ⟨rfl,hy⟩;have ex:=hy xs (aS.of ha);obtain⟨p,ep,lC⟩:=rs.get ex;obtain⟨t,ty,c⟩:=lC.ty (K:=K);refine mQ ?_;(have fin:(List.replicate i false).map V.bl++ [V.bl false]=(List.replicate (i+1) false).map V.bl:=by rw[List.replicate_succ',cK];rfl);(rcases c with⟨_,rfl,rfl⟩|⟨_,rfl,rfl⟩|⟨_,rfl,rfl⟩|⟨rfl,rfl⟩);(·exists _,rfl,_,_,_,_,_,rfl,ty,λu z=>z,XJ,Wc.next hi ⟨rfl,fin⟩);(·exists _,rfl,_,_,_,_,_,rfl,ty,λu z=>z,MW,Wc.next hi ⟨rfl,fin⟩);(·exists _,rfl,_,_,_,_,_,rfl,ty,λu z=>z,XH,Wc.next hi ⟨rfl,fin⟩);(·exists _,rfl,_,_,_,_,_,rfl,ty,λu z=>z,XF,Wc.next hi ⟨rfl,fin⟩));rintro ys _ ⟨rfl,rfl⟩;exists⟨xs,aS.of ha,aV _⟩,λp hp=>⟨p,_,rfl,aQ.of aL,?_⟩;(have e:(List.replicate xs.length false).any id=false:=(by rw[List.any_eq_false];intro x hx;rw[List.eq_of_mem_replicate hx];decide));rw[e];exact q _ (aM hp _)
/---/def ib(ts:List Th)(wh ma:bu)(s:Int):List Th:=ts.filter λt=>gU wh ma s t.m
inductive PN(vs:List V)(H:Hp)(Q:VK)(cO:XK):Prop
 |mk (wa:Addr) (s:Int) (tv:V) (ts:List Th) (us:List V) (wh ma:bu) (b:PV) (t:Th) (r:List Th) (_:vs= [.ref wa,.int s,tv]) (_:H wa=some (.aK us)) (_:aE H (ts.map Th.pv) us) (_:ts.length<=1000) (_:aJ H (.aC [.at wh,.at ma,b]) tv) (_:ib ts wh ma s=t::r) (_: ∀v H',aY H H'->aJ H' t.pv v->Q v H')
def a3i:bP ["way", "sender", "take"] ["way", "sender", "take"] (bo B5):=fs
def Zn:(["thing", "way", "sender", "take"]:aq aA).Nodup:=by decide+kernel
def a0y(F:bK K "first_thing" "first_thing" B5 f fd)(xo:cP P w K mg base bh 1 "fits" ["take", "sender", "mark"] Im):bw P w K mg base bh 2 f fd ["way", "sender", "take"] PN:=by refine F.ok a3i (λvs H Q E h=> ?_) λbd A outer s H vs Q E hr h=> ?_;obtain⟨_,_,_,_,_,_,_,_,_,_,rfl,_⟩:=h;rfl;obtain⟨wa,se,tv,ts,us,wh,ma,b,t,r,rfl,hw,ru,hl,rt,ef,q⟩:=h;exists _,bn (bQ (bI gz (mD (T:= ["thing"]) (lG (bo B5) ["way", "sender", "take"] rfl rfl (by decide+kernel)) rfl (mG (pv 0)) (λY hY=>by cases hY;exact cC (i:=0) Zn rfl (Or.inl rfl)) iE (λY hY=>by cases hY;exact qM (g9 (cj xo hr rfl bt (aD (pv 3) (aD (pv 2) (aD (bI (cM K rfl) (pv 0) ba λ_ _=>rfl) aO)))))) (λY hY=>by cases hY;exact pv 0)) ba λ_ _=>rfl)),?_;have ll:=ru.len;rw[bq]at ll;exists _,rfl,wa,rfl,⟨us,aQ.of hw⟩,?_;refine iq (n:=us.length) (λi ys H'=>aY H H'/\ys.length<=i/\aE H' ((ib (ts.take i) wh ma se).map Th.pv) ys) ⟨aY.refl _,aV _,aE.nil⟩ ?_ ?_;(·rintro i ys H' hi ⟨sm,li,ry⟩;(have ce:i<ts.length:=by lia);exists⟨us,us[i],aQ.of (sm _ _ hw),br hi⟩,big (by lia),?_;rintro x H1 ⟨rfl,hy⟩;have ex:=hy us (aQ.of (sm _ _ hw));obtain⟨p,ep,lC⟩:=ru.get ex;rw[cB,br ce]at ep;(injection ep with ep);subst ep;obtain⟨ta,u1,u2,u3,rfl,jV,k1,k2,k3⟩:=BN (a:= .at (.int ts[i].k)) (b:= .at (.int ts[i].m)) (c:= .at (.int ts[i].v)) lC;obtain rfl:u2= .int ts[i].m:=k2;(have e1:ib (ts.take (i+1)) wh ma se=ib (ts.take i) wh ma se++(if gU wh ma se ts[i].m=true then [ts[i]]else []):=(by unfold ib;rw[kH ce,uq,pS,zx]));exists _,rfl,_,rfl,_,rfl,ta,_,1,_,rfl,rfl,aS.of (sm _ _ jV),rfl,wh,ma,b,tv,se,ts[i].m,rfl,sm.bE rt,λH2 s2=>⟨_,rfl,?_⟩;refine bJ (λc=> ?_) λc=> ?_;(·exists _,rfl,Wc.next hi ⟨sm.trans s2,by simp;lia,?_⟩;rw[e1,aT c,cK];exact(s2.bC ry).append (aE.dY ((sm.trans s2).bE lC)));(· (refine Wc.next hi ⟨sm.trans s2,by lia,?_⟩);rw[e1,aU c,kO];exact s2.bC ry));rintro ys H' ⟨sm,li,ry⟩;exists⟨us,aQ.of (sm _ _ hw),aV _⟩,λp hp=> ?_;rw[<-ll,pU,ef,bH]at ry;simp only[aE]at ry;obtain⟨v,r',rfl,rv,_⟩:=ry;have s3:=aM hp (.aK (v::r'));exists p,_,0,_,rfl,rfl,aQ.of aL,gq (j:=0) rfl,q v _ (sm.trans s3) (s3.bE rv)
abbrev kG:Stmt:=top 48
structure bX where
 s:Nat
 t:Nat
 a:Addr
 ts:List Th
structure RG where
 x:Addr
 dx:Addr
 hl:Addr
 wd:Addr
 hi:Addr
 room:Option Nat
 aI:List HG
 bf:List bX
/---/def hJ:Option Nat->V
 |none=> .aN
 |some n=> .int n
/---/def RG.bR(G:RG):List Addr:= [G.x,G.hl,G.wd,G.hi]
/---/def RG.cells(G:RG):List Addr:=G.bR++(G.bf.map bX.a++(G.aI.map HG.cells).flatten)
/---/def RG.fs(G:RG):List (Str×V):= [("room",hJ G.room),("hands",.ref G.hl),("ways",.ref G.wd),("history",.ref G.hi)]
/---/def RG.keys(G:RG):List (List aZ×V):=G.bf.map λw=>([Sum.inl (w.s:Int),Sum.inl (w.t:Int)],V.ref w.a)
def RG.cZ(G:RG)(i:Nat)(g:HG):RG:= {G with aI:=G.aI.set i g}
def RG.eZ(G:RG)(j:Nat)(w:bX):RG:= {G with bf:=G.bf.set j w}
def N8(G:RG):G.x∈G.bR:=by simp[RG.bR]
def N7(G:RG):G.hl∈G.bR:=by simp[RG.bR]
def Gr(G:RG):G.wd∈G.bR:=by simp[RG.bR]
def N6(G:RG):G.hi∈G.bR:=by simp[RG.bR]
structure C1(bR ws:List Addr)(hs:List (List Addr)):Prop where
 n1:bR.Nodup
 n2: ∀b∈bR,b∉ws
 n3: ∀b∈bR,∀c∈hs,b∉c
 n4:ws.Nodup
 n5: ∀b∈ws,∀c∈hs,b∉c
 n6:hs.Pairwise λc d=> ∀b∈c,b∉d
/---/def IU:Option Obj->HO->HO
 |none,u=>u
 |some o,u=> .cc o u
structure cF(z:Option Obj)(C R:Addr)(B:Nat)(H:Hp)(G:RG):Prop where
 ob:H G.x=some (.bv R G.dx G.fs)
 hl:H G.hl=some (.aK (G.aI.map λg=> .ref g.x))
 wd:H G.wd=some (IU z (.dT G.keys))
 hi: ∃hs,H G.hi=some (.aK hs)/\hs.length<=B
 aI: ∀ (i:Nat) g,G.aI[i]? =some g->bG C B H g
 bf: ∀ (j:Nat) w,G.bf[j]? =some w-> ∃us,H w.a=some (.aK us)/\aE H (w.ts.map Th.pv) us
 nd:C1 G.bR (G.bf.map bX.a) (G.aI.map HG.cells)
def bG.live{C:ae}{B:Nat}{H:Hp}{g:HG}(I:bG C B H g): ∀b∈g.cells,∃u,H b=some u:=λb hb=>by simp only[HG.cells,dN,eB,eJ]at hb;rcases hb with rfl|rfl|rfl|rfl|rfl|rfl|rfl;obtain⟨_,_,e,_⟩:=I.ob;exists _,e;obtain⟨_,e,_⟩:=I.he;exists _,e;obtain⟨_,e,_⟩:=I.sa;exists _,e;obtain⟨_,e,_⟩:=I.po;exists _,e;obtain⟨_,e,_⟩:=I.ti;exists _,e;obtain⟨_,e,_⟩:=I.ar;exists _,e;obtain⟨_,e,_⟩:=I.me;exists _,e
structure f9(K:W.Frag)(R:Addr):Prop where
 cl:jC K R
 no: ∀f∈(["room", "hands", "ways", "history"]:List Str),fu K R f
section
variable{z:ap Obj}{K:W.Frag}{C R:ae}{B:Nat}{H:Hp}{G:RG}
def f9.room(h:f9 K R):fu K R "room":=h.no _ (by simp)
def f9.aI(h:f9 K R):fu K R "hands":=h.no _ (by simp)
def f9.bf(h:f9 K R):fu K R "ways":=h.no _ (by simp)
def f9.EH(h:f9 K R):fu K R "history":=h.no _ (by simp)
def nS{α β:Type}(f:α->β): ∀ (l:aq α) (i:Nat) (a b:α),l[i]? =some a->f b=f a->(l.set i b).map f=l.map f
 | [],_,_,_,h,_=>by cases h
 |x::r,0,a,b,h,e=>by cases h;simp[e]
 |x::r,i+1,a,b,h,e=>by simp only[List.set_cons_succ,bH];rw[nS f r i a b (by simpa using h) e]
def An{α:Type}{l:aq α}{i j:Nat}{a b:α}(h:(l.set i a)[j]? =some b):(i=j/\b=a)\/(i≠j/\l[j]? =some b):=by rw[List.getElem?_set]at h;split at h;rename_i e;split at h;cases h;exact .inl ⟨e,rfl⟩;cases h;rename_i e;exact .inr ⟨e,h⟩
def cF.more(I:cF z C R B H G){B':Nat}(h:B<=B'):cF z C R B' H G:=
 ⟨I.ob,I.hl,I.wd,by obtain⟨hs,e,l⟩:=I.hi;exact⟨hs,e,dS l h⟩,λi g e=>(I.aI i g e).more h,I.bf,I.nd⟩
def cF.yZ(I:cF z C R B H G){j:Nat}{w:bX}(h:G.bf[j]? =some w):w.a∈G.bf.map bX.a:=List.mem_map.mpr ⟨w,dR h,rfl⟩
def cF.xi(I:cF z C R B H G){i:Nat}{g:HG}(h:G.aI[i]? =some g):g.cells∈G.aI.map HG.cells:=List.mem_map.mpr ⟨g,dR h,rfl⟩
def cF.frame{H':Hp}(I:cF z C R B H G)(t:bO H H')(e: ∀b∈G.cells,∀o,H b=some o->H' b=some o):cF z C R B H' G:=by exists e _ (by simp[RG.cells,RG.bR]) _ I.ob,e _ (by simp[RG.cells,RG.bR]) _ I.hl,e _ (by simp[RG.cells,RG.bR]) _ I.wd,?_,λi g h=> ?_,λj w h=> ?_,I.nd;obtain⟨hs,z,l⟩:=I.hi;exists hs,e _ (by simp[RG.cells,RG.bR]) _ z,l;refine(I.aI i g h).frame t λb hb o z=>e b ?_ o z;simp only[RG.cells,rG,zC];exact .inr (.inr ⟨_,I.xi h,hb⟩);obtain⟨us,z,r⟩:=I.bf j w h;exists us,e _ ?_ _ z,t.bC r;simp only[RG.cells,rG];exact .inr (.inl (I.yZ h))
def cF.same{H':Hp}(I:cF z C R B H G)(s:aY H H'):cF z C R B H' G:=I.frame s.bA λb _ o e=>s b o e
structure fB(z:Option Obj)(C R:Addr)(B:Nat)(H:Hp)(G:RG)(H':Hp)(G':RG):Prop where
 is:cF z C R B H' G'
 keep:eM G.cells H H'
 bA:bO H H'
def fB.trans{B1:Nat}{H1 H2:Hp}{G1 G2:RG}(a:fB z C R B1 H G H1 G1)(b:fB z C R B H1 G1 H2 G2)(e:G1.cells=G.cells):fB z C R B H G H2 G2:=⟨b.is,a.keep.trans (e▸b.keep),a.bA.trans b.bA⟩
def fB.same{H':Hp}(I:cF z C R B H G)(s:aY H H'):fB z C R B H G H' G:=⟨I.same s,eM.of s,s.bA⟩
def fB.more{B':Nat}{H':Hp}{G':RG}(a:fB z C R B H G H' G')(h:B<=B'):fB z C R B' H G H' G':=⟨a.is.more h,a.keep,a.bA⟩
def Rk{hs:aq (aq ae)}(h:hs.Pairwise λc d=> ∀b∈c,b∉d){i j:Nat}{c d:aq ae}(hi:hs[i]? =some c)(hj:hs[j]? =some d)(n:i≠j): ∀b∈c,b∉d:=by obtain⟨h1,e1⟩:=List.getElem?_eq_some_iff.mp hi;obtain⟨h2,e2⟩:=List.getElem?_eq_some_iff.mp hj;subst e1;subst e2;rcases Nat.lt_or_gt_of_ne n with hl|hl;exact(List.pairwise_iff_getElem.mp h) i j h1 h2 hl;exact λb hb hd=>(List.pairwise_iff_getElem.mp h) j i h2 h1 hl b hd hb
def cF.dc(I:cF z C R B H G){i:Nat}{g g':HG}{B':Nat}{H':Hp}(h:G.aI[i]? =some g)(a:To C B' H g H' g')(ec:g'.cells=g.cells)(hB:B<=B'):fB z C R B' H G H' (G.cZ i g'):=by(have ex:g'.x=g.x:=by have:=kS (·.head?) ec;simpa [HG.cells]using this);have em:(G.aI.set i g').map HG.cells=G.aI.map HG.cells:=nS _ _ _ _ _ h ec;have k:=a.keep;have hc:=I.xi h;have pf: ∀b∈G.bR,∀o,H b=some o->H' b=some o:=λb hb o y=>k b o (I.nd.n3 b hb _ hc) y;exists⟨pf _ (N8 G) _ I.ob,?_,pf _ (Gr G) _ I.wd,?_,λj f hj=> ?_,λj w hj=> ?_,?_⟩,?_,a.bA;show H' G.hl=some (.aK ((G.aI.set i g').map λg=> .ref g.x));rw[nS (λg:HG=>V.ref g.x) _ _ _ _ h (by rw[ex])];exact pf _ (N7 G) _ I.hl;obtain⟨hs,z,l⟩:=I.hi;exists hs,pf _ (N6 G) _ z,dS l hB;(rcases An hj with⟨rfl,rfl⟩|⟨n,hj⟩);exact a.is;refine((I.aI j f hj).more hB).keep a.bA k λb hb=> ?_;(have q1:(G.aI.map HG.cells)[j]? =some f.cells:=by rw[cB,hj];rfl);(have q2:(G.aI.map HG.cells)[i]? =some g.cells:=by rw[cB,h];rfl);exact Rk I.nd.n6 q1 q2 n.symm b hb;obtain⟨us,z,r⟩:=I.bf j w hj;exists us,k _ _ (I.nd.n5 _ (I.yZ hj) _ hc) z,a.bA.bC r;show C1 G.bR (G.bf.map bX.a) ((G.aI.set i g').map HG.cells);rw[em];exact I.nd;refine k.mono λb hb=> ?_;simp only[RG.cells,rG,zC];exact .inr (.inr ⟨_,hc,hb⟩)
def Cm{i:Nat}{g g':HG}(h:G.aI[i]? =some g)(ec:g'.cells=g.cells):(G.cZ i g').cells=G.cells:=by show G.bR++(G.bf.map bX.a++((G.aI.set i g').map HG.cells).flatten)=_;rw[nS _ _ _ _ _ h ec];rfl
def vS{j:Nat}{w:bX}{ts:aq Th}(h:G.bf[j]? =some w):(G.eZ j {w with ts:=ts}).cells=G.cells:=by show G.bR++((G.bf.set j {w with ts:=ts}).map bX.a++(G.aI.map HG.cells).flatten)=_;rw[nS bX.a _ _ _ {w with ts:=ts} h rfl];rfl
def cF.way(I:cF z C R B H G){j:Nat}{w:bX}{ts:aq Th}{us:aq V}(h:G.bf[j]? =some w)(r:aE H (ts.map Th.pv) us):fB z C R B H G (upd H w.a (.aK us)) (G.eZ j {w with ts:=ts}):=by have em:(G.bf.set j {w with ts:=ts}).map bX.a=G.bf.map bX.a:=nS bX.a _ _ _ _ h rfl;have ek:(G.bf.set j {w with ts:=ts}).map (λw:bX=>([Sum.inl (w.s:Int),Sum.inl (w.t:Int)],V.ref w.a))=G.keys:=nS _ _ _ _ _ h rfl;have hc:=I.yZ h;obtain⟨us0,z0,r0⟩:=I.bf j w h;have t:bO H (upd H w.a (.aK us)):=gH z0 (λ_ w=>by cases w) _;(have pf: ∀b∈G.bR,∀o,H b=some o->upd H w.a (.aK us) b=some o:=λb hb o z=>by rw[aP (λe=>I.nd.n2 b hb (by rw[e];exact hc))];exact z);exists⟨pf _ (N8 G) _ I.ob,pf _ (N7 G) _ I.hl,?_,?_,λi f hi=> ?_,λi v hi=> ?_,?_⟩,?_,t;show upd H w.a (.aK us) G.wd=some (IU z (.dT ((G.bf.set j {w with ts:=ts}).map _)));rw[ek];exact pf _ (Gr G) _ I.wd;obtain⟨hs,z,l⟩:=I.hi;exists hs,pf _ (N6 G) _ z,l;refine(I.aI i f hi).frame t λb hb o z=> ?_;rw[aP (λe=>I.nd.n5 _ hc _ (I.xi hi) (by rw[<-e];exact hb))];exact z;(rcases An hi with⟨rfl,rfl⟩|⟨n,hi⟩);exists us,aL,t.bC r;obtain⟨yV,z1,r1⟩:=I.bf i v hi;exists yV,?_,t.bC r1;(have q1:(G.bf.map bX.a)[i]? =some v.a:=by rw[cB,hi];rfl);(have q2:(G.bf.map bX.a)[j]? =some w.a:=by rw[cB,h];rfl);rw[aP (qI I.nd.n4 i j q1 q2 n.symm)];exact z1;show C1 G.bR ((G.bf.set j {w with ts:=ts}).map bX.a) (G.aI.map HG.cells);rw[em];exact I.nd;refine eM.upd ?_ _;simp only[RG.cells,rG];exact .inr (.inl hc)
def cF.hist(I:cF z C R B H G){hs:aq V}(hB:hs.length<=B+1):fB z C R (B+1) H G (upd H G.hi (.aK hs)) G:=by obtain⟨hs0,z0,_⟩:=I.hi;have t:bO H (upd H G.hi (.aK hs)):=gH z0 (λ_ w=>by cases w) _;have J:=I.more (hW B);(have gX:G.hi∈G.bR:=by simp[RG.bR]);exists⟨(aP (qI I.nd.n1 0 3 rfl rfl (by decide))).trans I.ob,(aP (qI I.nd.n1 1 3 rfl rfl (by decide))).trans I.hl,(aP (qI I.nd.n1 2 3 rfl rfl (by decide))).trans I.wd,⟨hs,aL,hB⟩,λi f hi=> ?_,λi v hi=> ?_,I.nd⟩,?_,t;refine(J.aI i f hi).frame t λb hb o z=> ?_;rw[aP (λe=>I.nd.n3 _ gX _ (I.xi hi) (by rw[<-e];exact hb))];exact z;obtain⟨yV,z1,r1⟩:=I.bf i v hi;exists yV,?_,t.bC r1;rw[aP (λe=>I.nd.n2 _ gX (by rw[<-e];exact I.yZ hi))];exact z1;exact eM.upd (by simp[RG.cells,RG.bR]) _
def cF.hold(I:cF none C R B H G)(o:Obj):cF (some o) C R B (upd H G.wd (.cc o (.dT G.keys))) G:=by have t:bO H (upd H G.wd (.cc o (.dT G.keys))):=gH I.wd (λ_ w=>by cases w) _;have gX:=Gr G;exists(aP (qI I.nd.n1 0 2 rfl rfl (by decide))).trans I.ob,(aP (qI I.nd.n1 1 2 rfl rfl (by decide))).trans I.hl,aL,?_,λi f hi=> ?_,λi v hi=> ?_,I.nd;obtain⟨hs,e,l⟩:=I.hi;exists hs,(aP (qI I.nd.n1 3 2 rfl rfl (by decide))).trans e,l;refine(I.aI i f hi).frame t λb hb o y=> ?_;rw[aP (λe=>I.nd.n3 _ gX _ (I.xi hi) (by rw[<-e];exact hb))];exact y;obtain⟨yV,z1,r1⟩:=I.bf i v hi;exists yV,?_,t.bC r1;rw[aP (λe=>I.nd.n2 _ gX (by rw[<-e];exact I.yZ hi))];exact z1
def DN{a b:ae}{k:aq aZ}(e:H a=some (IU z (.dT kvs)))(eb:H b=some (.aC (k.map kV))):dC H a (.ref b) (bZ kvs k):=by cases z with|none=>exact .inr ⟨kvs,k,b,.inl e,rfl,eb,rfl⟩|some o=>exact .inr ⟨kvs,k,b,.inr ⟨o,e⟩,rfl,eb,rfl⟩
def cF.live(I:cF none C R B H G): ∀b∈G.cells,∃u,H b=some u:=λb hb=>by simp only[RG.cells,rG,zC]at hb;(rcases hb with hb|hb|⟨c,hc,hb⟩);simp only[RG.bR,dN,eB,eJ]at hb;rcases hb with rfl|rfl|rfl|rfl;exists _,I.ob;exists _,I.hl;exists _,I.wd;obtain⟨hs,e,_⟩:=I.hi;exists _,e;obtain⟨w',dW,rfl⟩:=List.mem_map.mp hb;obtain⟨j,hj,ej⟩:=gT dW;obtain⟨us,e,_⟩:=I.bf j w' (by rw[br hj,ej]);exists _,e;obtain⟨g',EE,rfl⟩:=List.mem_map.mp hc;obtain⟨j,hj,ej⟩:=gT EE;exact(I.aI j g' (by rw[br hj,ej])).live b hb
end
abbrev yw:Stmt:=gf kG 6
abbrev B8:Stmt:=gf kG 19
def wf:T:= [109,101,101,116]
def yY:T:= [103,111]
def a22:("meet":aA)=S wf:=by decide+kernel
def HB:("go":aA)=S yY:=by decide+kernel
def i7(ns:List Int):PV:=cJ (some wf) ns
/---/def jX(w:bX)(aR:List Tk)(th:Th):Option (List Int):=match jP aR w.s th.m with
 |none=>none
 |some q=>if(ib w.ts q.wh q.ma w.s).head?=some th then some [(w.s:Int),th.k,w.t,q.n]else none
/---/def mx(w:bX)(aR:List Tk):List (List Int):=w.ts.filterMap (jX w aR)
def RG.Keyed(G:RG):Prop:=(G.bf.map λw=>(w.s,w.t)).Nodup
def lQ(qs:List Tk):Prop:=qs.Pairwise λa b=>a.n<b.n
def Th.yh{a b:Th}(h:a.pv=b.pv):a=b:=by obtain⟨a1,a2,a3⟩:=a;obtain⟨b1,b2,b3⟩:=b;simp only[Th.pv,cJ,kz,zD,bH,fZ,PV.aC.injEq,io,PV.at.injEq,bu.int.injEq,kj]at h;obtain⟨h1,h2,h3⟩:=h;(have:a1=b1:=by lia);subst this;subst h2;subst h3;rfl
def G4{q:Tk}: ∀ {qs:aq Tk},lQ qs->q∈qs->(qs.find? λz=>decide (z.n=q.n))=some q
 |z::qs,h,hq=>by obtain⟨h1,h2⟩:=List.pairwise_cons.mp h;rcases List.mem_cons.mp hq with rfl|hq;exact rD (by simp);rw[pT (by have:=h1 q hq;simp;lia)];exact G4 h2 hq
def CS: ∀ {ws:aq bX} {j:Nat} {w:bX},(ws.map λw=>(w.s,w.t)).Nodup->ws[j]? =some w->bZ (ws.map λw=>([Sum.inl (w.s:Int),Sum.inl (w.t:Int)],V.ref w.a)) ([Sum.inl (w.s:Int),Sum.inl (w.t:Int)]:aq aZ)=some (.ref w.a)
 |z::ws,0,w,_,h=>by cases h;exact nX rfl
 |z::ws,j+1,w,hn,h=>by simp only[bH,lP]at hn;(have h':ws[j]? =some w:=by simpa using h);rw[bH,lI];exact CS hn.2 h';intro e;simp only[io,wJ,kj]at e;refine hn.1 (List.mem_map.mpr ⟨w,dR h',?_⟩);(have e1:z.s=w.s:=by lia);(have e2:z.t=w.t:=by lia);rw[e1,e2]
def Th.bE{H:Hp}{th:Th}{v:V}(r:aJ H th.pv v): ∃a,v= .ref a/\H a=some (.aC [.int th.k,.int th.m,.int th.v]):=by obtain⟨a,u1,u2,u3,rfl,h,k1,k2,k3⟩:=BN (a:= .at (.int th.k)) (b:= .at (.int th.m)) (c:= .at (.int th.v)) r;obtain rfl:u1= .int th.k:=k1;obtain rfl:u2= .int th.m:=k2;obtain rfl:u3= .int th.v:=k3;exists a,rfl,h
def Th.qd(th:Th):dp th.pv<=10:=by simp[Th.pv,cJ,kz,dp,cq]
inductive PZ(C R:Addr)(vs:List V)(H:Hp)(Q:VK)(cO:XK):Prop
 |mk (z:Option Obj) (G:RG) (B j:Nat) (w:bX) (g:HG) (_:vs= [.ref G.x,.int w.s,.int w.t]) (_:cF z C R B H G) (_:G.Keyed) (_:G.bf[j]? =some w) (_:G.aI[w.t]? =some g) (_:lQ g.aR) (_:w.ts.length<=1000) (_: ∀l ys H',aY H H'->H' l=some (.aK ys)->aE H' ((mx w g.aR).map i7) ys->Q (.ref l) H')
def vQ:bP ["self", "sender", "taker", "way", "hand", "meets", "thing", "take"] ["self", "sender", "taker"] (bo yw):=fs
def a0M(F:bK K "meets_on" "Run.meets_on" yw f fd)(hC:cu K C)(hR:f9 K R)(VF:cI P w K mg base C 2 "first_take" ["self", "sender", "mark"] (PM C))(VG:cP P w K mg base bh 2 "first_thing" ["way", "sender", "take"] PN):bw P w K mg base bh 3 f fd ["self", "sender", "taker"] (PZ C R):=by obtain⟨g2,iu,cV,dG,cw⟩:=VF;refine F.ok vQ (λvs H Q E h=> ?_) λbd A outer s H vs Q E hr h=> ?_;obtain⟨_,_,_,_,_,_,rfl,_⟩:=h;rfl;obtain⟨z,G,B,j,wy,g,rfl,I,hk,hj,hg,qq,cf,q⟩:=h;(have hu:(A.deeper (envOfC "Run.meets_on" (bo yw) s.heap.objs.size f bd)).units+1<cLine:=by have:=hr.un;lia);exists _,be (cA (i:=3) vQ.nd rfl (Or.inl rfl) (nN hu (cb (pv 0) rfl) (cz (aD (pv 1) (aD (pv 2) aO))) λ_ _=>rfl)) (be (cA (i:=4) vQ.nd rfl (Or.inl rfl) (bI gz (cb (pv 0) rfl) (pv 2) λ_ _=>rfl)) (be (cA (i:=5) vQ.nd rfl (Or.inl rfl) (fO aO)) (be (kE ki rfl (mG (pv 3)) (cC (i:=6) vQ.nd rfl (Or.inl rfl)) (be (cA (i:=7) vQ.nd rfl (Or.inl rfl) (iK (pv 4) hC.cl cV dG hr cw .nil bt (aD (pv 1) (aD (bI (cM K rfl) (pv 6) ba λ_ _=>rfl) aO)))) (bn (cN (PW.pt (qQ (pA (Gx (pv 7))) (tN (cY BD (cj VG hr rfl bt (aD (pv 3) (aD (pv 1) (aD (nN hu (cb (pv 4) rfl) (pv 7) λ_ _=>rfl) aO)))) (pv 6) (cQ _))))) (bn (fg (nL mY uE uF tq (pv 5) (aD (cz (aD cy (aD (pv 1) (aD (bI (cM K rfl) (pv 6) ba λ_ _=>rfl) (aD (pv 2) (aD (pv 7) aO)))))) aO)))) dB)))) (bn (bQ (pv 5)))))),?_;(have z2:2<=sizeLine:=by decide);have z0:0<=sizeLine:=fQ _;(have z5:5<=sizeLine:=by decide);obtain⟨us,iF,ru⟩:=I.bf j wy hj;have ll:=ru.len;rw[bq]at ll;exists _,rfl,G.x,R,G.dx,_,_,rfl,I.ob,hR.cl,hR.bf,rfl,_,rfl,_,rfl,z2,λkt kA=> ?_;have s1:=aM kA (.aC [.int wy.s,.int wy.t]);(have dg:dC (upd H kt (.aC [.int wy.s,.int wy.t])) G.wd (.ref kt) (some (.ref wy.a)):=(by rw[<-CS hk hj];exact DN (z:=z) (k:= [Sum.inl (wy.s:Int),Sum.inl (wy.t:Int)]) (s1 _ _ I.wd) aL));exists G.wd,_,rfl,dg,?_;(have eh:(G.aI.map λg=>V.ref g.x)[wy.t]? =some (.ref g.x):=by rw[cB,hg];rfl);exists _,rfl,G.x,R,G.dx,_,_,rfl,s1 _ _ I.ob,hR.cl,hR.aI,rfl,_,rfl,G.hl,_,(wy.t:Int),_,rfl,rfl,aQ.of (s1 _ _ I.hl),gq eh,?_;exists z0,λl hl=> ?_;have oP:H l=none:=s1.free hl;have s2:=s1.trans (aM hl (.aK []));exists _,rfl,wy.a,rfl,⟨us,aQ.of (s2 _ _ iF)⟩,?_;refine su (n:=us.length) (λi σ' H'=> ∃ (r6 r7:ap V) (ys:aq V),σ'= [some (.ref G.x),some (.int wy.s),some (.int wy.t),some (.ref wy.a),some (.ref g.x),some (.ref l),r6,r7]/\aY H H'/\H' l=some (.aK ys)/\ys.length<=i/\aE H' (((wy.ts.take i).filterMap (jX wy g.aR)).map i7) ys) ?_ ?_ ?_;exists none,none,[],rfl,s2,aL,aV _,aE.nil;(rintro i σ' H' hi ⟨r6,r7,ys,rfl,sm,fL,ly,ry⟩;(have ce:i<wy.ts.length:=by lia);exists⟨us,us[i],aQ.of (sm _ _ iF),br hi⟩,?_;rintro x H1 ⟨rfl,hy⟩;have ex:=hy us (aQ.of (sm _ _ iF));obtain⟨p,ep,lC⟩:=ru.get ex;rw[cB,br ce]at ep;(injection ep with ep);subst ep;obtain⟨ta,rfl,jV⟩:=Th.bE lC;(have et:(wy.ts.take (i+1)).filterMap (jX wy g.aR)=(wy.ts.take i).filterMap (jX wy g.aR)++(jX wy g.aR wy.ts[i]).toList:=(by rw[kH ce,List.filterMap_append];congr 1));have I1:=I.same sm;have J1:=I1.aI wy.t g hg;obtain⟨rv,wv,hx,r1,r2⟩:=J1.ob;exists _,rfl,g.x,g.dx,_,rfl,hx,rfl,_,rfl,_,rfl,ta,_,1,_,rfl,rfl,aS.of (sm _ _ jV),rfl,?_;exists g,B,wy.s,wy.ts[i].m,rfl,J1,λH2 s3=> ?_;have qU:=sm.trans s3;cases ef:jP g.aR wy.s wy.ts[i].m with|none=>(have em:jX wy g.aR wy.ts[i]=none:=by unfold jX;rw[ef]);exists _,rfl,_,rfl,cG (cG ⟨_,_,ys,rfl,qU,s3 _ _ fL,by lia,?_⟩);rw[et,em];simp only[Option.toList_none,kO];exact s3.bC ry|some tk=>have J2:=(I.same qU).aI wy.t g hg;obtain⟨ps,va,pp⟩:=J2.po;obtain⟨pD,wv2,qu,_,_⟩:=J2.ob;have nU:tk∈g.aR:=uw ef;have CI:gU tk.wh tk.ma wy.s wy.ts[i].m=true:=List.find?_some (p:=λq:Tk=>gU q.wh q.ma wy.s wy.ts[i].m) ef;obtain⟨tv,ev,rtv⟩:=pp.val (G4 qq nU);have inf:wy.ts[i]∈ib wy.ts tk.wh tk.ma wy.s:=List.mem_filter.mpr ⟨kP ce,CI⟩;(obtain⟨t,r,DY⟩: ∃t r,ib wy.ts tk.wh tk.ma wy.s=t::r:=(by cases e:ib wy.ts tk.wh tk.ma wy.s with|nil=>rw[e]at inf;cases inf|cons t r=>exists t,r,rfl));(have SI:dC H2 g.po (.int tk.n) (some tv):=by rw[<-ev];exact dC.k (k:= .inl (tk.n:Int)) va);exists _,rfl,_,rfl,dj ?_;exists _,rfl,_,rfl,_,rfl,g.x,C,g.dx,_,_,rfl,qu,hC.cl,hC.aR,rfl,_,rfl,g.po,_,rfl,SI,?_;exists wy.a,wy.s,tv,wy.ts,us,tk.wh,tk.ma,.at (.str tk.bx),t,r,rfl,qU _ _ iF,qU.bC ru,cf,rtv,DY,λv H3 s4 BU=> ?_;have Cp:=qU.trans s4;exists _,rfl,t.pv,wy.ts[i].pv,?_,BU,Cp.bE lC,_,rfl,?_;show(A.deeper (envOfC _ (bo yw) s.heap.objs.size f bd)).units+_+_<cLine;have:=hr.un;have:=t.qd;have:=wy.ts[i].qd;lia;refine bJ (λc=> ?_) λc=> ?_;have e0:t=wy.ts[i]:=Th.yh (lu c);(have em:jX wy g.aR wy.ts[i]=some [(wy.s:Int),wy.ts[i].k,wy.t,tk.n]:=(by unfold jX;rw[ef];show(if _ then _ else _)=_;rw[aT (by rw[DY,e0];rfl)]));have jm:=s4 _ _ (s3 _ _ fL);exists _,rfl,.inl ⟨rfl,_,aQ.of jm⟩,_,rfl,_,rfl,ta,_,0,_,rfl,rfl,aS.of (Cp _ _ jV),rfl,_,rfl,_,rfl,z5,λm hm=> ?_;have s5:=aM hm (.aC [.str "meet",.int wy.s,.int wy.ts[i].k,.int wy.t,.int tk.n]);exists l,ys,_,rfl,rfl,s5 _ _ jm,big (by lia),?_;have t6:bO _ (upd (upd H3 m (.aC [.str "meet",.int wy.s,.int wy.ts[i].k,.int wy.t,.int tk.n])) l (.aK (ys++ [.ref m]))):=we (s5 _ _ jm);exists _,_,_,rfl,HY oP (Cp.trans s5),aL,by simp;lia,?_;rw[et,em,cK];refine(t6.bC (s5.bC (s4.bC (s3.bC ry)))).append (aE.dY (t6.bE ?_));simp only[i7,cJ,kz,aJ];exists m,_,rfl,aL,?_;exact aE.cons ⟨by rw[a22],by decide⟩ (aE.cons rfl (aE.cons rfl (aE.cons rfl (aE.dY rfl))));have e0:t≠wy.ts[i]:=λz=>c (jN (by rw[z]));(have em:jX wy g.aR wy.ts[i]=none:=(by unfold jX;rw[ef];show(if _ then _ else _)=_;rw[aU (by rw[DY];exact λz=>e0 (gp z))]));exists _,_,ys,rfl,Cp,s4 _ _ (s3 _ _ fL),by lia,?_;rw[et,em];simp only[Option.toList_none,kO];exact s4.bC (s3.bC ry));rintro σ' H' ⟨r6,r7,ys,rfl,sm,fL,ly,ry⟩;exists⟨us,aQ.of (sm _ _ iF),aV _⟩,_,rfl,q l ys H' sm fL ?_;rw[<-ll,pU]at ry;exact ry
def IQ: ∀ (ws:aq bX) (a b:Nat),bZ (ws.map λw=>([Sum.inl (w.s:Int),Sum.inl (w.t:Int)],V.ref w.a)) ([Sum.inl (a:Int),Sum.inl (b:Int)]:aq aZ)=(ws.find? λw=>decide (w.s=a/\w.t=b)).map λw=>V.ref w.a
 | [],_,_=>rfl
 |z::ws,a,b=>by rw[bH];by_cases e:z.s=a/\z.t=b;rw[rD (by simpa using e),nX (by rw[e.1,e.2])];rfl;rw[pT (by simpa using e),lI,IQ ws a b];intro h;simp only[io,wJ,kj]at h;exact e ⟨by lia,by lia⟩
/---/def RG.at(G:RG)(a b:Nat):List Th:=match G.bf.find? λw=>decide (w.s=a/\w.t=b)with
 |some w=>w.ts
 |none=> []
inductive Cz(C R:Addr)(vs:List V)(H:Hp)(Q:VK)(cO:XK):Prop
 |mk (G:RG) (B a b:Nat) (_:vs= [.ref G.x,.int a,.int b]) (_:cF none C R B H G) (_: ∀l ys H',aY H H'->H l=none->H' l=some (.aK ys)->aE H' ((G.at a b).map Th.pv) ys->Q (.ref l) H')
def a3s:bP ["self", "sender", "taker"] ["self", "sender", "taker"] (bo B8):=fs
def a0O(F:bK K "on_way" "Run.on_way" B8 f fd)(T:Tx mg)(hR:f9 K R):bw P w K mg base bh 1 f fd ["self", "sender", "taker"] (Cz C R):=by refine F.ok a3s (λvs H Q E h=> ?_) λbd A outer s H vs Q E hr h=> ?_;obtain⟨_,_,_,_,rfl,_⟩:=h;rfl;obtain⟨G,B,a,b,rfl,I,q⟩:=h;(have hu:(A.deeper (envOfC "Run.on_way" (bo B8) s.heap.objs.size f bd)).units+1<cLine:=by have:=hr.un;lia);exists _,bn (bQ (ju JW rfl T.list boot_list (aD (GA hu (cb (pv 0) rfl) (cz (aD (pv 1) (aD (pv 2) aO))) (fO aO) ⟨rfl,rfl,rfl,rfl⟩) aO))),?_;(have z2:2<=sizeLine:=by decide);have z0:0<=sizeLine:=fQ _;exists _,rfl,G.x,R,G.dx,_,_,rfl,I.ob,hR.cl,hR.bf,rfl,G.wd,rfl,.inr ⟨_,.inl I.wd⟩,_,rfl,_,rfl,z2,λkt kA=>⟨z0,λe0 Ax=> ?_⟩;have s1:=aM kA (.aC [.int a,.int b]);have s2:=s1.trans (aM Ax (.aK []));have dg:dC (upd (upd H kt (.aC [.int a,.int b])) e0 (.aK [])) G.wd (.ref kt) (bZ G.keys ([Sum.inl (a:Int),Sum.inl (b:Int)]:aq aZ)):=dC.t (k:= [Sum.inl (a:Int),Sum.inl (b:Int)]) (s2 _ _ I.wd) (aM Ax _ _ _ aL);exists _,dg,?_;(have ea:G.at a b=match G.bf.find? λw=>decide (w.s=a/\w.t=b)with|some w=>w.ts|none=> []:=rfl);rw[show bZ G.keys ([Sum.inl (a:Int),Sum.inl (b:Int)]:aq aZ)=_ from IQ G.bf a b];cases ef:G.bf.find? λw=>decide (w.s=a/\w.t=b)with|none=>rw[ef]at ea;exists e0,[],rfl,.inl (aQ.of aL),λl hl=> ?_;refine q l [] _ (s2.trans (aM hl _)) (s2.free hl) aL ?_;rw[ea];exact aE.nil|some wy=>rw[ef]at ea;have xN:=uw ef;obtain⟨j,hj,ej⟩:=gT xN;obtain⟨us,iF,ru⟩:=I.bf j wy (by rw[br hj,ej]);exists wy.a,us,rfl,.inl (aQ.of (s2 _ _ iF)),λl hl=> ?_;refine q l us _ (s2.trans (aM hl _)) (s2.free hl) aL ?_;rw[ea];exact(s2.trans (aM hl _)).bC ru
abbrev Hy:Stmt:=gf kG 3
def kY(i:Nat):PV:= .aC [.at (.str yY),.at (.int i)]
def uN(g:HG):Bool:=decide (g.wt= .go) && !decide (g.rows.length=0)
def RG.qg(G:RG)(i:Nat):Bool:=match G.aI[i]? with
 |some g=>uN g
 |none=>false
/---/def RG.goes(G:RG):List Nat:=(List.range G.aI.length).filter G.qg
/---/def RG.aR(G:RG)(t:Nat):List Tk:=match G.aI[t]? with
 |some g=>g.aR
 |none=> []
/---/def RG.meets(G:RG):List (List Int):=G.bf.flatMap λw=>mx w (G.aR w.t)
structure Jk(G:RG):Prop where
 jW:G.Keyed
 ends: ∀w∈G.bf,w.t<G.aI.length
 rising: ∀g∈G.aI,lQ g.aR
 few:(G.bf.map λw=>w.ts.length).sum<=60
 aI:G.aI.length<=10
def Nl(w:bX)(ps:aq Tk):(mx w ps).length<=w.ts.length:=List.length_filterMap_le _ _
def sr(f:bX->aq Tk): ∀ws:aq bX,(ws.flatMap λw=>mx w (f w)).length<=(ws.map λw=>w.ts.length).sum
 | []=>by simp
 |w::ws=>by rw[zy,gn,bH,kg];have h1:=Nl w (f w);have h2:=sr f ws;lia
def yU: ∀ {ws:aq bX} {w:bX},w∈ws->w.ts.length<=(ws.map λw=>w.ts.length).sum
 |v::ws,w,h=>by rw[bH,kg];rcases List.mem_cons.mp h with rfl|h;lia;have:=yU h;lia
def Q0{w:Wt}(r:aJ H w.pv v):decide (v= .aN)=decide (w= .go):=by cases w with|go=>obtain rfl:v= .aN:=r;simp|snd t k=>obtain⟨a,vs,rfl,_⟩:=r.aC;simp|j6 k=>obtain⟨a,vs,rfl,_⟩:=r.aC;simp|iO k=>obtain⟨a,vs,rfl,_⟩:=r.aC;simp|all=>obtain⟨a,vs,rfl,_⟩:=r.aC;simp
def a2G{H:Hp}{m:ae}{i:Nat}(h:H m=some (.aC [.str "go",.int i])):aJ H (kY i) (.ref m):=pk h ⟨by rw[HB],by decide⟩ rfl
def Uf{B:Nat}{Q:VK}{E:XK}(I:bG C B H g)(q:Q (.bl (uN g)) H):Ih C [.ref g.x] H Q E:=by obtain⟨rv,wv,hx,r1,r2⟩:=I.ob;obtain⟨ra,rs,rfl,ml,vI⟩:=r1.aC;exists g.x,g.dx,_,ra,rs,wv,rfl,hx,rfl,ml,rfl,rfl,?_;have e:=vI.len;rw[bq]at e;rw[Q0 r2,<-e];exact q
inductive yH(C R:Addr)(vs:List V)(H:Hp)(Q:VK)(cO:XK):Prop
 |mk (G:RG) (B:Nat) (_:vs= [.ref G.x]) (_:cF none C R B H G) (_:Jk G) (_: ∀ (l:Addr) (ys:List V) (H':Hp) (ms:List (List Int)),aY H H'->H l=none->H' l=some (.aK ys)->ms.Perm G.meets->aE H' (G.goes.map kY++ms.map i7) ys->Q (.ref l) H')
def yB:bP ["self", "goes", "meets", "sender", "taker"] ["self"] (bo Hy):=fs
def NB:(["number", "hand", "self", "goes", "meets", "sender", "taker"]:aq aA).Nodup:=by decide+kernel
def a0v(F:bK K "events" "Run.events" Hy f fd)(T:Tx mg)(T2:rM mg)(hC:cu K C)(hR:f9 K R)(Vu:cI P w K mg base C 2 "can_go" ["self"] (Ih C))(V9:cI P w K mg base R 3 "meets_on" ["self", "sender", "taker"] (PZ C R)):bw P w K mg base bh 4 f fd ["self"] (yH C R):=by obtain⟨g1,oG,fM,dQ,eU⟩:=Vu;obtain⟨g2,iu,cV,dG,cw⟩:=V9;refine F.ok yB (λvs H Q E h=> ?_) λbd A outer s H vs Q E hr h=> ?_;obtain⟨_,_,rfl,_⟩:=h;rfl;obtain⟨G,B,rfl,I,ev,q⟩:=h;exists _,be (tM (i:=1) (T:= ["number", "hand"]) (qT ["self", "goes", "meets", "sender", "taker"] rfl (by decide+kernel)) rfl yB.nd rfl rfl (a1G rfl T.enum (aD (cb (pv 0) rfl) aO)) (λY hY=>by cases hY;exact nO rfl (gN (cC (i:=0) NB rfl (Or.inl rfl)) (gN (cC (i:=1) NB rfl (Or.inl rfl)) nP))) KW (λY hY=>by cases hY;exact qM (g9 (gg (pv 1) hC.cl fM dQ (hr.mono (by decide)) eU .nil bt))) (λY hY=>by cases hY;exact cz (aD cy (aD (pv 0) aO)))) (be (cA (i:=2) yB.nd rfl (Or.inl rfl) (fO aO)) (be (GK (kE ki rfl (GD (cb (pv 0) rfl)) (nO rfl (gN (cC (i:=3) yB.nd rfl (Or.inl rfl)) (gN (cC (i:=4) yB.nd rfl (Or.inl rfl)) nP))) (bn (fg (nL mY PySem.F.slot_list_extend PySem.F.type_list_extend Nz (pv 2) (aD (iK (pv 0) hR.cl cV dG hr cw .nil bt (aD (pv 3) (aD (pv 4) aO))) aO)))))) (bn (bQ (df Gn (pv 1) (dw DI rfl T2.sorted boot_sorted (aD (pv 2) aO))))))),?_;(have z2:2<=sizeLine:=by decide);have z0:0<=sizeLine:=fQ _;have hn:=ev.aI;exists _,rfl,G.x,R,G.dx,_,_,rfl,I.ob,hR.cl,hR.aI,rfl,G.hl,_,rfl,aQ.of I.hl,?_;refine iq (n:=(G.aI.map λg=>V.ref g.x).length) (λi ys H'=>aY H H'/\ys.length<=i/\aE H' (((List.range i).filter G.qg).map kY) ys) ⟨aY.refl _,aV _,aE.nil⟩ ?_ ?_;(·rintro i ys H' hi ⟨sm,li,ry⟩;(have ce:i<G.aI.length:=by rw[bq]at hi;exact hi);exists⟨hi,aQ.of (sm _ _ I.hl)⟩,big (by rw[bq]at hi;lia),?_;rintro x H1 ⟨t,ht,rfl,eH⟩;have eg:G.aI[i]? =some G.aI[i]:=br ce;(have ex:(G.aI.map λg=>V.ref g.x).getD i .aN= .ref G.aI[i].x:=(by rw[List.getD_eq_getElem?_getD,cB,eg];rfl));(have DW:H1=upd H' t (.aC [.int (i:Int),.ref G.aI[i].x]):=(by rw[eH];show upd H' t (.aC [V.int (i:Int),(G.aI.map λg=>V.ref g.x).getD i .aN])=_;rw[ex]));subst DW;clear eH;have s1:=aM ht (.aC [.int (i:Int),.ref G.aI[i].x]);have vV:=sm.trans s1;have J:=(I.same vV).aI i _ eg;obtain⟨rv,wv,hx,r1,r2⟩:=J.ob;exists t,_,rfl,aS.of aL,rfl,_,_,rfl,_,_,rfl,rfl,?_;exists _,rfl,G.aI[i].x,G.aI[i].dx,_,rfl,hx,rfl,?_;dsimp only[fH];refine Uf J ⟨_,rfl,?_⟩;(have S6:G.qg i=uN G.aI[i]:=by unfold RG.qg;rw[eg]);(have er:(List.range (i+1)).filter G.qg=(List.range i).filter G.qg++(if uN G.aI[i]=true then [i]else []):=(by rw[zF,uq,pS,zx,S6]));refine bJ (λc=> ?_) λc=> ?_;(·exists _,rfl,z2,λm hm=> ?_;have s2:=aM hm (.aC [.str "go",.int (i:Int)]);(refine Wc.next hi ⟨vV.trans s2,by simp;lia,?_⟩);rw[er,aT c,cK];exact(s2.bC (s1.bC ry)).append (aE.dY (a2G aL)));(· (refine Wc.next hi ⟨vV,by lia,?_⟩);rw[er,aU c,kO];exact s1.bC ry));rintro gs H1 ⟨sm,lg,rg⟩;exists⟨rfl,aQ.of (sm _ _ I.hl)⟩,λp hp=> ?_;rw[bq]at lg rg;have s1:=aM hp (.aK gs);have vV:=sm.trans s1;exists z0,λm hm=> ?_;have s2:=aM hm (.aK []);have qU:=vV.trans s2;have AB:H m=none:=vV.free hm;have Md:H p=none:=sm.free hp;(have NS:p≠m:=λz=>by subst z;rw[aL]at hm;cases hm);have I2:=I.same qU;exists G.wd,.dT G.keys,trivial,I2.wd,λo=> ?_;have I3:=I2.hold o;(have EV:m≠G.wd:=λz=>by subst z;rw[I.wd]at AB;cases AB);(have Mh:p≠G.wd:=λz=>by subst z;rw[I.wd]at Md;cases Md);exists _,rfl,G.x,R,G.dx,_,_,rfl,I3.ob,hR.cl,hR.bf,rfl,G.wd,o,G.keys,rfl,I3.wd,λbs lb xj=> ?_;have lk:G.keys.length=G.bf.length:=bq _;refine su (n:=G.keys.length) (λi σ' H'=> ∃ (r3 r4:ap V) (ys:aq V),σ'= [some (.ref G.x),some (.ref p),some (.ref m),r3,r4]/\(∀b u,b≠m->upd (upd (upd H1 p (.aK gs)) m (.aK [])) G.wd (.cc o (.dT G.keys)) b=some u->H' b=some u)/\bO (upd (upd (upd H1 p (.aK gs)) m (.aK [])) G.wd (.cc o (.dT G.keys))) H'/\H' m=some (.aK ys)/\aE H' (((G.bf.take i).flatMap λw=>mx w (G.aR w.t)).map i7) ys) ?_ ?_ ?_;exists none,none,[],rfl,λb u _ e=>e,bO.refl _,(aP EV).trans aL,aE.nil;rintro i σ' H' hi ⟨r3,r4,ys,rfl,kp,tp,gC,ry⟩;(have ce:i<G.bf.length:=by lia);have ew:G.bf[i]? =some G.bf[i]:=br ce;have xN:G.bf[i]∈G.bf:=kP ce;have ht:=ev.ends _ xN;have eg:G.aI[G.bf[i].t]? =some G.aI[G.bf[i].t]:=br ht;have I4:cF (some o) C R B H' G:=I3.frame tp λb hb u e=>kp b u (λz=>by subst z;have: ∃u,H b=some u:=I.live b hb;obtain⟨u,eu⟩:=this;rw[AB]at eu;cases eu) e;exists⟨hi,I4.wd⟩,?_;rintro x H2 ⟨rfl,KM⟩;(have LM:i<bs.length:=by lia);have eb:bs.getD i 0=bs[i]:=sy LM 0;(have TK:x= .ref bs[i]:=(by rw[KM];show V.ref (bs.getD i 0)=_;rw[eb]));subst TK;clear KM;(have ek:G.keys[i]? =some ([Sum.inl (G.bf[i].s:Int),Sum.inl (G.bf[i].t:Int)],V.ref G.bf[i].a):=(by unfold RG.keys;rw[cB,ew];rfl));have cw:H2 bs[i]=some (.aC [.int G.bf[i].s,.int G.bf[i].t]):=tp _ _ (xj i _ _ _ ek (br LM));exists bs[i],_,rfl,aS.of cw,rfl,_,_,rfl,_,_,rfl,rfl,?_;exists _,rfl,.inl ⟨rfl,_,aQ.of gC⟩,_,rfl,G.x,G.dx,_,rfl,I4.ob,rfl,_,rfl,_,rfl,?_;exists some o,G,B,i,G.bf[i],G.aI[G.bf[i].t],rfl,I4,ev.jW,ew,eg,ev.rising _ (kP ht),dS (yU xN) (dS ev.few (by decide)),λl2 zs H3 s3 gY rz=> ?_;(have ep:G.aR G.bf[i].t=G.aI[G.bf[i].t].aR:=by unfold RG.aR;rw[eg]);(have ef:(G.bf.take (i+1)).flatMap (λw=>mx w (G.aR w.t))=(G.bf.take i).flatMap (λw=>mx w (G.aR w.t))++mx G.bf[i] G.aI[G.bf[i].t].aR:=(by rw[kH ce,List.flatMap_append,zy,List.flatMap_nil,kO,ep]));have l1:=sr (λw=>G.aR w.t) (G.bf.take i);have O0:=s3.bC ry;have F5:=O0.len;have Yr:=rz.len;rw[bq]at F5 Yr;have fw:=ev.few;(have a5o:((G.bf.take i).map λw=>w.ts.length).sum<=(G.bf.map λw=>w.ts.length).sum:=(by(conv=>rhs;rw[<-Dg i G.bf,cK,List.sum_append]);lia));have l2':=Nl G.bf[i] G.aI[G.bf[i].t].aR;have l3:=yU xN;have t4:bO H3 (upd H3 m (.aK (ys++zs))):=we (s3 _ _ gC);exists m,l2,ys,zs,rfl,rfl,s3 _ _ gC,gY,rH (big (by lia)),_,_,_,rfl,λb u nb e=> ?_,(tp.trans s3.bA).trans t4,aL,?_;rw[aP nb];exact s3 _ _ (kp b u nb e);rw[ef,cK];exact(t4.bC O0).append (t4.bC rz);rintro σ' H' ⟨r3,r4,ys,rfl,kp,tp,gC,ry⟩;have Fv:H' G.wd=some (.cc o (.dT G.keys)):=kp _ _ EV.symm aL;exists⟨rfl,Fv⟩,Fv,?_;have tw:bO H' (upd H' G.wd (.dT G.keys)):=gH Fv (λ_ w=>by cases w) _;(have xB:upd H' G.wd (.dT G.keys) p=some (.aK gs):=(by rw[aP Mh];exact kp _ _ NS (by rw[aP Mh,aP NS];exact aL)));have ES:upd H' G.wd (.dT G.keys) m=some (.aK ys):=(aP EV).trans gC;rw[lk,pU]at ry;have pF:=tw.bC ry;(have sH:aY H (upd H' G.wd (.dT G.keys)):=λb u e=>(by by_cases hb:b=G.wd;subst hb;rw[aL];rw[I.wd]at e;exact e;rw[aP hb];(have nm:b≠m:=λz=>by subst z;rw[AB]at e;cases e);exact kp b u nm (by rw[aP hb];exact qU b u e)));(have rg2:aE (upd H' G.wd (.dT G.keys)) (((List.range G.aI.length).filter G.qg).map kY) gs:=(by refine tw.bC (tp.bC ?_);have t5:bO (upd (upd H1 p (.aK gs)) m (.aK [])) (upd (upd (upd H1 p (.aK gs)) m (.aK [])) G.wd (.cc o (.dT G.keys))):=gH I2.wd (λ_ w=>by cases w) _;exact t5.bC ((s1.trans s2).bC rg)));have ly:=pF.len;rw[bq]at ly;have l1:=sr (λw=>G.aR w.t) G.bf;have fw:=ev.few;exists _,rfl,_,rfl,m,ys,some wf,G.meets,4,rfl,aQ.of ES,pF,?_,by decide,?_,λl3 ms ys' jm pm so rm=> ?_;intro ns fe;obtain⟨w',_,fe⟩:=List.mem_flatMap.mp fe;obtain⟨th,_,e⟩:=List.mem_filterMap.mp fe;unfold jX at e;split at e;cases e;split at e;cases e;rfl;cases e;show(G.bf.flatMap λw=>mx w (G.aR w.t)).length<64;lia;have s6:=aM jm (.aK ys');have lm:=rm.len;rw[bq,pm.length_eq]at lm;have lm2:G.meets.length=(G.bf.flatMap λw=>mx w (G.aR w.t)).length:=rfl;exists p,l3,gs,ys',rfl,rfl,s6 _ _ xB,aL,rH (big (by lia)),λl4 oQ=> ?_;have s7:=aM oQ (.aK (gs++ys'));refine q l4 (gs++ys') _ ms (sH.trans (s6.trans s7)) (sH.free (s6.free oQ)) aL pm ?_;exact((s6.trans s7).bC rg2).append ((s6.trans s7).bC rm)
abbrev Cb:Stmt:=gf kG 10
def HG.fF(g:HG)(t:Nat)(sx:Bool):HG:=if sx=true then{g with sd:=g.sd+1,wt:= .snd t g.sd}else{g with sd:=g.sd+1,rows:=g.rows.drop 1,wt:= .go}
def HG.a3H(g:HG)(t:Nat)(b:Bool):(g.fF t b).cells=g.cells:=by unfold HG.fF;split<;>rfl
def K5{B:Nat}{rv wv:V}(I:bG C B H g)(hx:H g.x=some (.bv C g.dx (g.fs rv wv))):To C B H g (upd H g.x (.bv C g.dx (bU "sends_done" (.int ((g.sd:Int)+1)) (g.fs rv wv)))) {g with sd:=g.sd+1}:=by obtain⟨lD,wv',iy,r1,r2⟩:=I.ob;rw[hx]at iy;(have e1:rv=lD/\wv=wv':=(by(injection iy with z);(injection z with _ _ z);simp only[HG.fs,hf,io,jf,true_and,kj]at z;exact z));obtain⟨rfl,rfl⟩:=e1;(have e2:bU "sends_done" (.int ((g.sd:Int)+1)) (g.fs rv wv)=hf rv wv (.ref g.he) (.ref g.sa) ((g.sd+1:Nat):Int) g.td (.ref g.po) (.ref g.ti) (.ref g.ar) (.ref g.me):=(by rw[Da];exact a1F _ _ _ _ _ _ _ _ _ _ _));rw[e2];exact To.x I (rows:=g.rows) (wt:=g.wt) (sd:=g.sd+1) (td:=g.td) r1 r2
inductive P5(C R:Addr)(vs:List V)(H:Hp)(Q:VK)(cO:XK):Prop
 |mk (G:RG) (B i j t:Nat) (g:HG) (wy:bX) (m:Int) (th:bu) (rv:V) (_:vs= [.ref G.x,.int i,rv]) (_:cF none C R B H G) (_:G.Keyed) (_:G.aI[i]? =some g) (_:G.bf[j]? =some wy) (_:wy.s=i) (_:wy.t=t) (_:wy.ts.length<=1000) (_:th∈jc) (_:aJ H (.aC (eO [.str gK,.int t,.int m,th])) rv) (_: ∀H' v b,fB none C R B H G H' ((G.eZ j {wy with ts:=wy.ts++ [⟨g.sd,m,v⟩]}).cZ i (g.fF t b))->Q .aN H')
def Cj:bP ["self", "sender", "row", "hand", "way", "is_full"] ["self", "sender", "row"] (bo Cb):=fs
def a0X(F:bK K "send" "Run.send" Cb f fd)(T:Tx mg)(hC:cu K C)(hR:f9 K R)(ha:cI P w K mg base C 1 "worth" ["self", "thing"] (vZ C))(fX:cI P w K mg base C 1 "go_on" ["self"] (iN C)):bw P w K mg base bh 2 f fd ["self", "sender", "row"] (P5 C R):=by
 obtain⟨g1,oG,fM,dQ,eU⟩:=ha;obtain⟨g2,iu,cV,dG,cw⟩:=fX;refine F.ok Cj (λvs H Q E h=> ?_) λbd A outer s H vs Q E hr h=> ?_;obtain⟨_,_,_,_,_,_,_,_,_,_,rfl,_⟩:=h;rfl;obtain⟨G,B,i,j,t,g,wy,m,th,rv,rfl,I,hk,hg,hj,rfl,rfl,cf,bY,rr,q⟩:=h;(have hu:(A.deeper (envOfC "Run.send" (bo Cb) s.heap.objs.size f bd)).units+1<cLine:=by have:=hr.un;lia);exists _,be (cA (i:=3) Cj.nd rfl (Or.inl rfl) (bI gz (cb (pv 0) rfl) (pv 1) λ_ _=>rfl)) (be (cA (i:=4) Cj.nd rfl (Or.inl rfl) (nN hu (cb (pv 0) rfl) (cz (aD (pv 1) (aD (bI (cM K rfl) (pv 2) ba λ_ _=>rfl) aO))) λ_ _=>rfl)) (be (cA (i:=5) Cj.nd rfl (Or.inl rfl) (qK (Gz (Gx (cb (pv 0) rfl))) (mF (nM N1 (dw jh rfl T.len boot_len (aD (pv 4) aO)) (cb (pv 0) rfl) (cQ _))))) (be (fg (nL mY uE uF tq (pv 4) (aD (cz (aD (cb (pv 3) rfl) (aD (bI (cM K rfl) (pv 2) ba λ_ _=>rfl) (aD (iK (pv 3) hC.cl fM dQ hr eU .nil bt (aD (bI (cM K rfl) (pv 2) ba λ_ _=>rfl) aO)) aO)))) aO))) (be (cN (g9 (pv 5)) (bn (gO (pv 3) (cz (aD cy (aD (bI (cM K rfl) (pv 2) ba λ_ _=>rfl) (aD (cb (pv 3) rfl) aO)))) rfl)) (bn (fg (gg (pv 3) hC.cl cV dG hr cw .nil bt)))) (bn (Os (pv 3) ba AT)))))),?_;obtain⟨ra,u1,u2,u3,u4,rfl,ml,k1,k2,k3,k4⟩:=GU rr;obtain rfl:u2= .int wy.t:=k2;obtain rfl:u3= .int m:=k3;obtain⟨us,iF,ru⟩:=I.bf j wy hj;have ll:=ru.len;rw[bq]at ll;(have z2:2<=sizeLine:=by decide);(have z3:3<=sizeLine:=by decide);(have eh:(G.aI.map λg=>V.ref g.x)[wy.s]? =some (.ref g.x):=by rw[cB,hg];rfl);exists _,rfl,G.x,R,G.dx,_,_,rfl,I.ob,hR.cl,hR.aI,rfl,_,rfl,G.hl,_,(wy.s:Int),_,rfl,rfl,aQ.of I.hl,gq eh,?_;exists _,rfl,G.x,R,G.dx,_,_,rfl,I.ob,hR.cl,hR.bf,rfl,_,rfl,_,rfl,ra,_,1,_,rfl,rfl,aS.of ml,rfl,z2,λkt kA=> ?_;have s1:=aM kA (.aC [.int wy.s,.int wy.t]);(have dg:dC (upd H kt (.aC [.int wy.s,.int wy.t])) G.wd (.ref kt) (some (.ref wy.a)):=(by rw[<-CS hk hj];exact DN (z:=none) (k:= [Sum.inl (wy.s:Int),Sum.inl (wy.t:Int)]) (s1 _ _ I.wd) aL));exists G.wd,_,rfl,dg,?_;have Mw:=s1 _ _ I.ob;(have xF:(!decide (hJ G.room=V.aN))=true-> ∃n:Nat,hJ G.room=V.int n:=λc=>(by cases e:G.room with|none=>rw[e]at c;exact absurd c (by decide)|some n=>exists n,rfl));exists _,rfl,G.x,R,G.dx,_,_,rfl,Mw,hR.cl,hR.room,rfl,_,rfl,bJ (λc=>(xF c).elim λn hn=>⟨_,rfl,wy.a,us,rfl,.inl (aQ.of (s1 _ _ iF)),_,rfl,G.x,R,G.dx,_,_,rfl,Mw,hR.cl,hR.room,rfl,(us.length:Int),(n:Int),rfl,hn,?_⟩) λc=> ?_;all_goals
  have a1:=fB.same I s1
  have J1:=a1.is.aI _ g hg
  obtain⟨rv,wv,hx,r1,r2⟩:=J1.ob
  obtain⟨kvs,hd,ok⟩:=J1.he
  obtain⟨v,hv⟩:=CK (CJ bY) k4 ok
  have Mm:=s1 _ _ ml
  exists _,rfl,.inl ⟨rfl,_,aQ.of (s1 _ _ iF)⟩,_,rfl,g.x,C,g.dx,_,_,rfl,hx,hC.cl,hC.sends,rfl,_,rfl,ra,_,2,_,rfl,rfl,aS.of Mm,rfl,_,rfl,g.x,g.dx,_,rfl,hx,rfl,_,rfl,ra,_,3,_,rfl,rfl,aS.of Mm,rfl,?_
  dsimp only[fH]
  refine yM hx rfl hd hv ?_
  exists z3,λl hl=> ?_
  have s2:=aM hl (.aC [.int g.sd,.int m,.int v])
  have a2:=a1.trans (fB.same a1.is s2) rfl
  exists wy.a,us,_,rfl,rfl,s2 _ _ (s1 _ _ iF),big (by lia),?_
  have rth:aE (upd (upd H kt (.aC [.int wy.s,.int wy.t])) l (.aC [.int g.sd,.int m,.int v])) ((wy.ts++ [(⟨g.sd,m,v⟩:Th)]).map Th.pv) (us++ [.ref l]):=by
   rw[cK]
   exact(a2.bA.bC ru).append (aE.dY (Bs aL rfl rfl rfl))
  have a3:=a2.trans (a2.is.way hj rth) rfl
  have J3:=a3.is.aI _ g hg
  obtain⟨BU,wv3,jq,r31,r32⟩:=J3.ob
  exists _,rfl,_,rfl,bJ (λc=> ?_) λc=> ?_
  ·exists _,rfl,ra,_,1,_,rfl,rfl,aS.of (a3.bA _ _ ml),rfl,_,rfl,g.x,C,g.dx,_,_,rfl,jq,hC.cl,hC.sends,rfl,z3,λl2 gY=> ?_
   have s4:=aM gY (.aC [.str "send",.int wy.t,.int g.sd])
   have e1:bU "waiting" (.ref l2) (g.fs BU wv3)=hf BU (.ref l2) (.ref g.he) (.ref g.sa) g.sd g.td (.ref g.po) (.ref g.ti) (.ref g.ar) (.ref g.me):=yd _ _ _ _ _ _ _ _ _ _ _
   exists _,rfl,g.x,C,g.dx,_,rfl,s4 _ _ jq,hC.cl,hC.kK,(by show 10<1000;decide),?_
   rw[e1]
   have b1:=To.same J3 s4
   have b2:=b1.trans (To.x b1.is (rows:=g.rows) (wt:= .snd wy.t g.sd) (sd:=g.sd) (td:=g.td) (s4.bE r31) (show aJ _ (.aC [.at (.str gK),.at (.int wy.t),.at (.int g.sd)]) (.ref l2)from Bs aL ⟨by rw[yy],by decide⟩ rfl rfl)) rfl
   exists _,rfl,g.x,C,g.dx,_,_,rfl,aL,hC.cl,hC.sends,rfl,(g.sd:Int),1,rfl,rfl,g.dx,_,aL,(by show 10<1000;decide),?_
   have b3:=b2.trans (K5 (g:= {g with wt:= .snd wy.t g.sd}) b2.is aL) rfl
   have fin:=a3.trans (a3.is.dc hg b3 rfl (aV B)) (vS hj)
   exact q _ v true fin
  ·exists _,rfl,g.x,g.dx,_,rfl,jq,rfl,?_
   dsimp only[fH]
   refine oF J3 λH' b2=> ?_
   obtain⟨rv5,wv5,mo,_,_⟩:=b2.is.ob
   exists _,rfl,g.x,C,g.dx,_,_,rfl,mo,hC.cl,hC.sends,rfl,(g.sd:Int),1,rfl,rfl,g.dx,_,mo,(by show 10<1000;decide),?_
   have b3:=b2.trans (K5 (g:= {g with rows:=g.rows.drop 1,wt:= .go}) b2.is mo) rfl
   have fin:=a3.trans (a3.is.dc hg b3 rfl (aV B)) (vS hj)
   exact q _ v false fin
def R1(xs:aq V):ia xs none (some 4)=xs.take 4:=by unfold ia;have e:=HT.B6 xs.length xs.length 4;rw[show((4:Nat):Int)=4 from rfl]at e;rw[e,HT.O7,Nat.sub_zero,List.drop_zero];by_cases h:4<=xs.length;rw[Nat.min_eq_left h];rw[Nat.min_eq_right (by lia),pU,wB (by lia)]
def KU{n me:Nat}(h2:2<=n)(h4:n<=4)(hm:me<n)(h:Row (bM n me) d): ∃x rest,d.pv= .aC (.at (.str x)::rest)/\x.length<=1000000/\(x=dZ↔d.qw=true):=by cases h with| @bF aF h=>have g:=xb h2 h4 hm h;unfold uT at g;simp only[gR,lT]at g;obtain⟨⟨⟨⟨g1,g2⟩,g3⟩,g4⟩,g5⟩:=g;obtain⟨x,rest,ks,e,hf,_⟩:=AV g3;have hl:=(KY hf).1;exists x,rest,e,by lia,?_;constructor;(intro z;cases aF with|nil=>simp at g1|cons a r=>(injection e with e);(injection e with e1 e2);(injection e1 with e1);exact absurd (by rw[e1,z];rfl) g5);intro z;cases z| @ga hd r1 r2 h h1 h2=>have g:=List.all_eq_true.mp LB hd h;simp only[gR,lT]at g;obtain⟨_,g5⟩:=g;cases hd with|nil=>cases g5|cons a r=>(have ea:a= .str dZ:=by simpa using g5);subst ea;exists dZ,_,rfl,by decide,⟨λ_=>rfl,λ_=>rfl⟩
inductive Io(K:W.Frag)(vs:List V)(H:Hp)(Q:VK)(cO:XK):Prop
 |mk (a t ns c n:_) (_:vs= [.ref a,.ref t,.int (n:Nat),.int 5,.bl true]) (_:Dr K H a t ns c) (_:c<2^20) (_:2<=n) (_:n<=4) (_: ∀v (k:Nat) H' bB,k<=10000->gk H H' t ns.length c k->zQ n bB->aJ H' (kl (settle bB)) v->Q v H')
def Zp:(["_law_k", "_law_script", "_law_town_here", "_law_hands", "_law_most_rows", "_law_wild", "_law_found", "_law_me", "_law_many"]:aq aA).Nodup:=by decide+kernel
def Zq:(["_law_rows", "_law_script", "_law_town_here", "_law_hands", "_law_most_rows", "_law_wild", "_law_found", "_law_me", "_law_many"]:aq aA).Nodup:=by decide+kernel
def Zr:(["_law_row_here", "_law_rows", "_law_script", "_law_town_here", "_law_hands", "_law_most_rows", "_law_wild", "_law_found", "_law_me", "_law_many"]:aq aA).Nodup:=by decide+kernel
def yC:bP ["_law_script", "_law_town_here", "_law_hands", "_law_most_rows", "_law_wild", "_law_found", "_law_me", "_law_many"] ["_law_script", "_law_town_here", "_law_hands", "_law_most_rows", "_law_wild"] (bo B7):=fs
def a0I(F:bK K "_law_program" "_law_program" B7 f fd)(T:Tx mg)(hd:cP P w K mg base bh 1 "_law_draw" ["_law_script", "_law_town_here", "_law_many"] (vX K))(nB:cP P w K mg base bh 5 "_law_row" ["_law_script", "_law_town_here", "_law_me", "_law_hands", "_law_wild", "_law_deep"] (yI K 2))(E9:jE P w K mg base 7 "is_program" iG):bw P w K mg base bh 8 f fd ["_law_script", "_law_town_here", "_law_hands", "_law_most_rows", "_law_wild"] (Io K):=by refine F.ok yC (λvs H Q E h=> ?_) λbd A outer s H vs Q E hr h=> ?_;obtain⟨a,t,ns,c,n,rfl,_⟩:=h;rfl;obtain⟨a,t,ns,c,n,rfl,dr,hc,h2,h4,q⟩:=h;exists _,(be (cA (i:=5) yC.nd rfl (Or.inl rfl) (fO aO)) (be (kE ki rfl (pz rfl T.range (aD (pv 2) aO)) (cC (i:=6) yC.nd rfl (Or.inr rfl)) (be (cA (i:=7) yC.nd rfl (Or.inl rfl) (df px ba (cj hd hr rfl bt (aD (pv 0) (aD (pv 1) (aD (pv 3) aO)))))) (bn (fg (a1t (pv 5) (ju oA rfl T.tuple jL (aD (mD (T:= ["_law_k"]) (lG (bo B7) ["_law_script", "_law_town_here", "_law_hands", "_law_most_rows", "_law_wild", "_law_found", "_law_me", "_law_many"] rfl rfl (by decide+kernel)) rfl (pz rfl T.range (aD (pv 7) aO)) (λY hY=>by cases hY;exact cC (i:=0) Zp rfl (Or.inl rfl)) iE (λY _=>lv) (λY hY=>by cases hY;exact cj nB hr rfl bt (aD (pv 1) (aD (pv 2) (aD (pv 7) (aD (pv 3) (aD (pv 5) (aD ba aO)))))))) aO))))))) (be (cN (lw (g9 (cj E9 hr rfl bt (aD (ju oA rfl T.tuple jL (aD (pv 5) aO)) aO)))) (bn (tM (i:=5) (T:= ["_law_rows"]) (qT ["_law_script", "_law_town_here", "_law_hands", "_law_most_rows", "_law_wild", "_law_found", "_law_me", "_law_many"] rfl (by decide+kernel)) rfl yC.nd rfl rfl (mG (pv 5)) (λY hY=>by cases hY;exact cC (i:=0) Zq rfl (Or.inl rfl)) iE (λY _=>lv) (λY hY=>by cases hY;exact(ju (RK K rfl) rfl T.tuple jL (aD (df Gn (mD (T:= ["_law_row_here"]) (qT ("_law_rows":: ["_law_script", "_law_town_here", "_law_hands", "_law_most_rows", "_law_wild", "_law_found", "_law_me", "_law_many"]) rfl (by decide+kernel)) rfl (a1K K rfl (tI (Co K rfl) (pv 0) tK (tL ba))) (λZ hZ=>by cases hZ;exact cC (i:=0) Zr rfl (Or.inl rfl)) iE (λZ hZ=>by cases hZ;exact qM (cY tH (bI (cM K rfl) (pv 0) ba λ_ _=>rfl) cy (cQ _))) (λZ hZ=>by cases hZ;exact pv 0)) (fO (aD (cz (aD cy (aD ba aO))) aO))) aO))))) dB) (bn (bQ (ju oA rfl T.tuple jL (aD (pv 5) aO))))))),?_;(have z0:0<=sizeLine:=by decide);(have z1:1<=sizeLine:=by decide);(have z2:2<=sizeLine:=by decide);(have cr:c<2^30:=by lia);exists z0,λfo EC=> ?_;have s0:aY H (upd H fo (.aK [])):=aM EC _;have Ea:fo≠t:=dr.tn.ne EC;exists _,rfl,(n:Int),rfl,(by lia),(by lia),?_;refine su (n:=n) (λi σ' H'=> ∃ (kk:Nat) (r6 r7:ap V) (vs:aq V) (bB:aq (aq bp)),kk<=700*i/\σ'= [some (.ref a),some (.ref t),some (.int (n:Int)),some (.int 5),some (.bl true),some (.ref fo),r6,r7]/\gk H H' t ns.length c kk/\H' fo=some (.aK vs)/\aE H' (bB.map λds=> .aC (ds.map bp.pv)) vs/\bB.length=i/\ ∀ (j:Nat) (ds:aq bp),bB[j]? =some ds->ds≠ []/\ ∀d∈ds,Row (bM n j) d) ?_ ?_ ?_;exact⟨0,none,none,[],[],by lia,rfl,⟨dL.of s0,by rw[show c+((0:Nat):Int)=c by lia];exact dr.tn.same s0⟩,aL,aE.nil,rfl,λj ds e=>by simp at e⟩;(·rintro i σ' H1 hi ⟨kk,r6,r7,vs,bB,hkk,rfl,qb,Az,pE,FP,AJ⟩;exists hi,?_;rintro x _ ⟨rfl,rfl⟩;rw[Int.zero_add];have vk:=pE.len;rw[bq]at vk;exists _,rfl,_,rfl,_,rfl,a,t,ns,_,5,rfl,qb.dr dr cr (by lia),by decide,by decide,λm H2 m0 m1 k2 nV=>⟨_,_,rfl,rfl,?_⟩;have at2:=qb.step k2 nV;have LC:H2 fo=some (.aK vs):=k2 _ _ Ea Az;have a2W:=(k2.bA qb.tn).bC pE;exists _,rfl,.inl ⟨rfl,_,aQ.of LC⟩,_,rfl,1+m,rfl,(by lia),(by lia),?_;refine iq (n:=(1+m).toNat) (λj ys H'=> ∃k3,k3<=kk+1+120*j/\gk H H' t ns.length c k3/\H' fo=some (.aK vs)/\aE H' (bB.map λds=> .aC (ds.map bp.pv)) vs/\ ∃ds:aq bp,ds.length=j/\(∀d∈ds,Row (bM n i) d)/\aE H' (ds.map bp.pv) ys) ⟨kk+1,by lia,at2,LC,a2W,[],rfl,λ_ z=>(by cases z),aE.nil⟩ ?_ ?_;(·rintro j ys H3 hj ⟨k3,LR,iU,oK,vK,ds,FO,jS,gG⟩;have ly:=gG.len;rw[bq]at ly;exists hj,pH (by lia),?_;rintro x _ ⟨rfl,rfl⟩;refine mQ ?_;exists _,rfl,_,rfl,_,rfl,_,rfl,_,rfl,a,t,ns,c+k3,n,i,rfl,by decide,iU.dr dr cr (by lia),by lia,h2,h4,hi,λv k H4 hk nc ⟨d4,_,Vy,rv⟩=>Wc.next hj ?_;have tu:=nc.kept.bA iU.tn;exists k3+k,by lia,iU.trans nc,nc.kept _ _ Ea oK,tu.bC vK,ds++ [d4],by simp[FO],λd hd=> ?_,?_;rcases List.mem_append.mp hd with z|z;exact jS d z;rw[List.mem_singleton.mp z];exact Vy;rw[cK];exact(tu.bC gG).append (aE.dY rv));rintro ys H3 ⟨k3,LR,iU,oK,vK,ds,FO,jS,gG⟩;exists aV _,λp hp=> ?_;have s4:=aM hp (.aK ys);exists p,_,rfl,.inl ⟨aQ.of aL,λu hu=> ?_⟩;have s5:=aM hu (.aC ys);have LD:=s5 _ _ (s4 _ _ oK);exists fo,vs,_,rfl,rfl,LD,pH (by lia),?_;have t6:bO (upd (upd H3 p (.aK ys)) u (.aC ys)) (upd (upd (upd H3 p (.aK ys)) u (.aC ys)) fo (.aK (vs++ [.ref u]))):=we LD;have Qt:=(s4.trans s5).bA.trans t6;have bV:=(iU.same s4).same s5;(have bT:gk H (upd (upd (upd H3 p (.aK ys)) u (.aC ys)) fo (.aK (vs++ [.ref u]))) t ns.length c k3:=(by obtain⟨cells,Fk,EK⟩:=bV.tn;exists λb o hb e=> ?_,cells,by rw[aP (jH Ea)];exact Fk,EK;by_cases eb:b=fo;subst eb;rw[EC]at e;cases e;rw[aP eb];exact bV.kept b o hb e));exists k3,_,_,vs++ [.ref u],bB++ [ds],by lia,rfl,bT,aL,?_,by simp[FP],λj ds' e=> ?_;rw[cK];exact(Qt.bC vK).append (aE.dY (aJ.mk (t6 _ _ aL) (Qt.bC gG)));by_cases hj:j<bB.length;rw[ww hj]at e;exact AJ j ds' e;rw[ut (by lia)]at e;(have LP:j-bB.length=0:=(by cases hq:j-bB.length with|zero=>rfl|succ q=>rw[hq]at e;simp at e));rw[LP]at e;(have e':ds=ds':=by simpa using e);subst e';(have:j=i:=by lia);subst this;exists λz=>by subst z;simp at FO;lia,jS);(·rintro σ' H1 ⟨kk,r6,r7,vs,bB,hkk,rfl,qb,Az,pE,FP,AJ⟩;exists aV _,?_;have vk:=pE.len;rw[bq]at vk;(have ii:zQ n bB:=⟨FP,AJ⟩);exists _,rfl,fo,_,rfl,.inl ⟨aQ.of Az,λu hu=> ?_⟩;have s2:=aM hu (.aC vs);exists kl bB,.ref u,rfl,aJ.mk aL (s2.bC pE),λH3 s3=>⟨_,rfl,?_⟩;have iM:=s2.trans s3;have iU:=qb.same iM;have oK:=iM _ _ Az;have vK:=iM.bC pE;cases LN:iG (kl bB)with|true=>refine cG ⟨_,rfl,fo,_,rfl,.inl ⟨aQ.of oK,λu2 qt=> ?_⟩⟩;have s4:=aM qt (.aC vs);refine q _ kk _ bB (by lia) (iU.same s4) ii ?_;unfold K2.settle;rw[aT LN];exact aJ.mk aL (s4.bC vK)|false=>refine dj ⟨_,rfl,fo,rfl,⟨_,aQ.of oK⟩,?_⟩;refine iq (n:=vs.length) (λj ys H'=>aY H3 H'/\aE H' ((bB.take j).map λds=> .aC ((uc ds).map bp.pv)) ys) ⟨aY.refl _,aE.nil⟩ ?_ ?_;(·rintro j ys H4 hj ⟨s4,gG⟩;have ly:=gG.len;rw[bq,kf]at ly;exists⟨_,_,aQ.of (s4 _ _ oK),br hj⟩,pH (by lia),?_;rintro x H4' ⟨El,hx⟩;have El:=El.symm;subst El;have iy:=hx _ (aQ.of (s4 _ _ oK));obtain⟨p,hp,rp⟩:=(s4.bC vK).get iy;(have EI:j<bB.length:=by lia);rw[cB,br EI]at hp;have hp:=gp hp;subst hp;obtain⟨hne,xG⟩:=AJ j _ (br EI);generalize jS:bB[j]=ds at rp hne xG;obtain⟨b,ws,rfl,hb,lE⟩:=rp.aC;have F4:=lE.len;rw[bq]at F4;refine mQ ?_;exists _,rfl,4,rfl,b,ws,rfl,aS.of hb,λb2 H5 L9=> ?_;(have got:aY H4 H5/\H5 b2=some (.aC (ws.take 4)):=(by rw[R1]at L9;(rcases L9 with⟨rfl,rfl,e⟩|⟨hn,rfl⟩);rw[e];exists aY.refl _,hb;exists aM hn _,aL));obtain⟨s5,Aw⟩:=got;exists b2,rfl,⟨_,aS.of Aw⟩,?_;have Hc:=(s5.bC lE).take 4;rw[<-List.map_take]at Hc;have l4:=Hc.len;rw[bq]at l4;refine iq (n:=(ws.take 4).length) (λi zs H'=>H'=H5/\zs.length<=i/\aE H5 ((((ds.take 4).take i).filter λd=> !d.qw).map bp.pv) zs) ⟨rfl,aV _,aE.nil⟩ ?_ ?_;(·rintro i zs H' hi ⟨hH,AR,vL⟩;have hH:=hH.symm;subst hH;exists⟨_,_,aS.of Aw,br hi⟩,pH (by simp at hi;lia),?_;rintro x H6 ⟨Em,eG⟩;have Em:=Em.symm;subst Em;have WX:=eG _ (aS.of Aw);obtain⟨p6,AG,G5⟩:=Hc.get WX;(have sJ:i<(ds.take 4).length:=by lia);rw[cB,br sJ]at AG;have AG:=gp AG;subst AG;have L1:(ds.take 4)[i]∈ds:=List.mem_of_mem_take (kP sJ);generalize Ly:(ds.take 4)[i]=dd at G5 L1;obtain⟨y,rest,ey,hyl,My⟩:=KU h2 h4 (by lia) (xG dd L1);rw[ey]at G5;obtain⟨b6,ws6,rfl,gW,a2X⟩:=G5.aC;(obtain⟨v6,vr6,rfl,Ox,r6b⟩:=(show ∃v r,ws6=v::r/\aJ H5 (.at (.str y)) v/\aE H5 rest r from by simpa only[aE]using a2X));(obtain⟨TF,_⟩:=(show v6= .str (S y)/\_ from Ox));subst TF;exists _,rfl,b6,_,0,_,rfl,rfl,aS.of gW,gq (j:=0) rfl,rfl,_,rfl,bJ (λc=> ?_) λc=> ?_;(· (have Zk:dd.qw=false:=(by cases hq:dd.qw with|false=>rfl|true=>rw[My.mpr hq,vN]at c;simp at c));exists _,rfl,Wc.next hi ⟨rfl,by simp;lia,?_⟩;rw[kH sJ,uq,cK,Ly];refine vL.append ?_;simp only[pS,Zk,Bool.not_false,gc,zx,bH,fZ];refine aE.dY ?_;rw[ey];exact aJ.mk gW (aE.cons Ox r6b));(· (have a46:dd.qw=true:=(by refine My.mp ?_;(have z:V.str (S y)=V.str "case":=by simpa using c);(injection z with z);exact pY (z.trans vN)));(refine Wc.next hi ⟨rfl,by lia,?_⟩);rw[kH sJ,uq,cK,Ly];simp only[pS,a46,wk,fS,fN,zx,fZ,kO];exact vL));(·rintro zs H' ⟨hH,AR,vL⟩;have hH:=hH.symm;subst hH;rw[wB (by lia)]at vL;exists⟨_,aS.of Aw,aV _⟩,λl7 dH=> ?_;have s7:=aM dH (.aK zs);exists z2,λu8 WP=>⟨z1,λl9 EL=> ?_⟩;have s8:=aM WP (.aC [V.str "tell",V.int 1]);have s9:=aM EL (.aK [V.ref u8]);exists l7,l9,_,_,rfl,rfl,s9 _ _ (s8 _ _ aL),aL,?_,λX5 EJ=> ?_;simp at AR⊢;exact Cq (by lia);have hU:=aM EJ (.aK (zs++ [V.ref u8]));exists X5,_,rfl,.inl ⟨aQ.of aL,λu11 WN=> ?_⟩;have jw:=aM WN (.aC (zs++ [V.ref u8]));have O4:=s9.trans (hU.trans jw);have Hh:=s7.trans (s8.trans O4);(refine Wc.next hj ⟨s4.trans (s5.trans Hh),?_⟩);rw[kH EI,cK,jS];refine((s5.trans Hh).bC gG).append (aE.dY (aJ.mk aL ?_));unfold uc;rw[cK];refine(Hh.bC vL).append (aE.dY ?_);exact aJ.mk (O4 _ _ aL) (aE.cons (eY pG) (aE.cons (show _=_ from rfl) aE.nil))));rintro ys H4 ⟨s4,gG⟩;rw[wB (by lia)]at gG;exists⟨_,aQ.of (s4 _ _ oK),aV _⟩,λl5 EK=> ?_;have s5:=aM EK (.aK ys);exists _,rfl,l5,_,rfl,.inl ⟨aQ.of aL,λu6 WO=> ?_⟩;have s6:=aM WO (.aC ys);refine q _ kk _ bB (by lia) (iU.same (s4.trans (s5.trans s6))) ii ?_;unfold K2.settle;rw[aU (by rw[LN];decide)];refine aJ.mk aL ?_;rw[jG];exact(s5.trans s6).bC gG)
abbrev HR:Stmt:=gf kG 9
/---/def kT:bp->Nat
 | .bF _=>1
 | .ga _ _ _=>3
def i9(ds:List bp):Nat:=(ds.map kT).sum
def HG.left(g:HG):Nat:=i9 (if g.wt= .go then g.rows else g.rows.drop 1)
def HG.on(g:HG):HG:= {g with rows:=g.rows.drop 1,wt:= .go}
inductive gm:RG->RG->Prop where
 |refl (G:RG):gm G G
 |step {G G1:RG} {i:Nat} {g:HG} (h:gm G G1) (hg:G1.aI[i]? =some g) (hw:g.wt≠ .go):gm G (G1.cZ i g.on)
def gm.trans{G G1 G2:RG}(a:gm G G1)(b:gm G1 G2):gm G G2:=by induction b with|refl=>exact a|step _ hg hw ih=>exact .step ih hg hw
def gm.cells{G G1:RG}(a:gm G G1):G1.cells=G.cells:=by induction a with|refl=>rfl| @step _ i g _ hg hw ih=>exact(Cm (g':=g.on) hg rfl).trans ih
structure dm(n:Nat)(G:RG):Prop where
 len:G.aI.length=n
 n2:2<=n
 n4:n<=4
 jW:G.Keyed
 ends: ∀w∈G.bf,w.s<n/\w.t<n/\w.s≠w.t
 all: ∀a b,a<n->b<n->a≠b-> ∃ (j:Nat) (w:bX),G.bf[j]? =some w/\w.s=a/\w.t=b
 rows: ∀ (i:Nat) (g:HG),G.aI[i]? =some g-> ∀d∈g.rows,Row (bM n i) d
 rising: ∀g∈G.aI,lQ g.aR
 lt: ∀g∈G.aI,∀q∈g.aR,q.n<g.td
 fc: ∀g∈G.aI,∀q∈g.aR,bu.str q.bx∈eF
 open_: ∀g∈G.aI,g.aR.length+g.met.length<=g.td
 Aj:(G.bf.map λw=>w.ts.length).sum+(G.aI.map λg=>g.met.length).sum<=(G.aI.map λg=>g.sd).sum
 budget:(G.aI.map λg=>g.sd+g.td+g.left).sum<=40
 order: ∀w∈G.bf,w.ts.Pairwise λa b=>a.k<b.k
def yP{α:Type}(f:α->Nat): ∀ {l:aq α} {a:α},a∈l->f a<=(l.map f).sum
 |x::l,a,h=>by rw[bH,kg];rcases List.mem_cons.mp h with rfl|h;lia;have:=yP f h;lia
def Iz{α:Type}(f g:α->Nat): ∀ {l:aq α},(∀a∈l,f a<=g a)->(l.map f).sum<=(l.map g).sum
 | [],_=>by simp
 |x::l,h=>by rw[bH,kg,bH,kg];have h1:=h x fk;have h2:=Iz f g (l:=l) λa ha=>h a (fJ _ ha);lia
def dm.wY{n:Nat}{G:RG}(S:dm n G):Jk G:=by refine⟨S.jW,λw hw=>by rw[S.len];exact(S.ends w hw).2.1,S.rising,?_,by have:=S.len;have:=S.n4;lia⟩;have h1:=S.Aj;have h2:=S.budget;(have h3:=Iz (λg:HG=>g.sd) (λg=>g.sd+g.td+g.left) (l:=G.aI) λa _=>by lia);lia
def a2P(ds:aq bp):ds.length<=i9 ds:=by induction ds with|nil=>simp|cons d r ih=>unfold i9 at ih⊢;rw[bH,kg,cU];(have:1<=kT d:=by cases d<;>simp[kT]);lia
def dm.OS{n:Nat}{G:RG}(S:dm n G){g:HG}(h:g∈G.aI):g.rows.length<=41:=by have h1:=yP (λg:HG=>g.sd+g.td+g.left) h;have h2:=S.budget;have h3:(if g.wt= .go then g.rows else g.rows.drop 1).length<=g.left:=a2P _;(have h4:g.rows.length<=(if g.wt= .go then g.rows else g.rows.drop 1).length+1:=(by split;lia;rw[zB];lia));have h5:g.sd+g.td+g.left<=(G.aI.map λg=>g.sd+g.td+g.left).sum:=h1;lia
def dm.yT{n:Nat}{G:RG}(S:dm n G){g:HG}(h:g∈G.aI):g.td<=40/\g.aR.length<=40/\g.met.length<=40:=by have h1:=yP (λg:HG=>g.sd+g.td+g.left) h;have h2:=S.budget;have h3:=S.open_ g h;have h5:g.sd+g.td+g.left<=(G.aI.map λg=>g.sd+g.td+g.left).sum:=h1;lia
def dm.QE{n:Nat}{G:RG}(S:dm n G){w:bX}(h:w∈G.bf):w.ts.length<=60:=dS (yU h) S.wY.few
inductive pR(n:Nat)(G:RG)(i:Nat):RG->Prop where
 |send {g:HG} {d:bp} {rest:List bp} {j:Nat} {wy:bX} {m:Int} (hg:G.aI[i]? =some g) (hr:g.rows=d::rest) (hw:g.wt= .go) (hc:kT d=1) (hj:G.bf[j]? =some wy) (hs:wy.s=i) (hm:m=0\/m=1) (v:Int) (b:Bool):
   pR n G i ((G.eZ j {wy with ts:=wy.ts++ [⟨g.sd,m,v⟩]}).cZ i (g.fF wy.t b))
 |row {g g':HG} {d:bp} {rest:List bp} (hg:G.aI[i]? =some g) (hr:g.rows=d::rest) (hw:g.wt= .go) (h:lO (bM n i) d g g'):pR n G i (G.cZ i g')
def lO.cells{os:aq Int}{d:bp}{g g':HG}(h:lO os d g g'):g'.cells=g.cells:=by cases h<;>rfl
def pR.cells{n i:Nat}{G G':RG}(h:pR n G i G'):G'.cells=G.cells:=by cases h with|send hg hr hw hc hj hs hm v b=>exact(Cm (G:=G.eZ _ _) hg (HG.a3H _ _ _)).trans (vS hj)|row hg hr hw h=>exact Cm hg h.cells
def Y2{n i:Nat}{t:Int}(h:t∈bM n i): ∃k:Nat,t=k/\k<n/\k≠i:=by unfold bM at h;obtain⟨k,hk,rfl⟩:=List.mem_map.mp h;obtain⟨h1,h2⟩:=List.mem_filter.mp hk;exact⟨k,rfl,List.mem_range.mp h1,by simpa using h2⟩
inductive P7(C R:Addr)(vs:List V)(H:Hp)(Q:VK)(cO:XK):Prop
 |mk (n:Nat) (G:RG) (B i:Nat) (g:HG) (_:vs= [.ref G.x,.int i]) (_:cF none C R B H G) (_:dm n G) (_:B<=1000) (_:G.aI[i]? =some g) (_:g.wt= .go) (_:g.rows≠ []) (_: ∀H' G',pR n G i G'->fB none C R (B+1) H G H' G'->Q .aN H')
def Ia:bP ["self", "number", "hand", "row"] ["self", "number"] (bo HR):=fs
def a0Z(F:bK K "step" "Run.step" HR f fd)(hC:cu K C)(hR:f9 K R)(AK:cI P w K mg base R 2 "send" ["self", "sender", "row"] (P5 C R))(xm:cP P w K mg base bh 3 "do_row" ["hand", "row"] (Ik C)):bw P w K mg base bh 4 f fd ["self", "number"] (P7 C R):=by
 obtain⟨g1,oG,fM,dQ,eU⟩:=AK;refine F.ok Ia (λvs H Q E h=> ?_) λbd A outer s H vs Q E hr h=> ?_;obtain⟨_,_,_,_,_,rfl,_⟩:=h;rfl;obtain⟨n,G,B,i,g,rfl,I,so,hB,hg,hw,hne,q⟩:=h;exists _,be (cA (i:=2) Ia.nd rfl (Or.inl rfl) (bI gz (cb (pv 0) rfl) (pv 1) λ_ _=>rfl)) (be (cA (i:=3) Ia.nd rfl (Or.inl rfl) (bI (cM K rfl) (cb (pv 2) rfl) ba λ_ _=>rfl)) (bn (cN (cY jt (bI (cM K rfl) (pv 3) ba λ_ _=>rfl) cy (cQ _)) (bn (fg (iK (pv 0) hR.cl fM dQ (hr.mono (by decide)) eU .nil bt (aD (pv 1) (aD (pv 3) aO))))) (bn (fg (cj xm hr rfl bt (aD (pv 2) (aD (pv 3) aO)))))))),?_;(obtain⟨d,rest,er⟩: ∃d rest,g.rows=d::rest:=(by cases e:g.rows with|nil=>exact absurd e hne|cons d r=>exists d,r,rfl));have eS:g∈G.aI:=dR hg;have J:=I.aI i g hg;obtain⟨rv,wv,hx,r1,r2⟩:=J.ob;obtain⟨ra,rs,rfl,ml,vI⟩:=r1.aC;rw[er,bH]at vI;(obtain⟨dv,dr,rfl,rd,_⟩:=(show ∃v r,rs=v::r/\aJ H d.pv v/\aE H (rest.map bp.pv) r from by simpa only[aE]using vI));have nB:=so.rows i g hg d (by rw[er];exact fk);(have eh:(G.aI.map λg=>V.ref g.x)[i]? =some (.ref g.x):=by rw[cB,hg];rfl);exists _,rfl,G.x,R,G.dx,_,_,rfl,I.ob,hR.cl,hR.aI,rfl,_,rfl,G.hl,_,(i:Int),_,rfl,rfl,aQ.of I.hl,gq eh,?_;exists _,rfl,g.x,C,g.dx,_,_,rfl,hx,hC.cl,hC.rows,rfl,ra,_,0,_,rfl,rfl,aS.of ml,gq (j:=0) rfl,?_;have cf:=so.OS eS;have AO:=so.yT eS;(have SR:Ju d->Ik C [.ref g.x,dv] H (λ_ H'=>Q .aN H') E0:=λns=>⟨g,B,bM n i,d,dv,rfl,J,hB,so.lt g eS,by lia,by lia,nB,ns,rd,λH' g' hs a=>q H' _ (.row hg er hw hs) (I.dc hg a hs.cells (hW B))⟩);(have fst: ∃p us x rest',dv= .ref p/\H p=some (.aC (.str (S x)::us))/\d.pv= .aC (.at (.str x)::rest'):=(by obtain⟨x,rest',e,_⟩:=KU so.n2 so.n4 (by have:=so.len;obtain⟨h1,_⟩:=List.getElem?_eq_some_iff.mp hg;lia) nB;rw[e]at rd;obtain⟨p,vs,rfl,hp,rs⟩:=rd.aC;(obtain⟨v,r,rfl,rv,_⟩:=(show ∃v r,vs=v::r/\aJ H (.at (.str x)) v/\aE H rest' r from by simpa only[aE]using rs));(obtain⟨rfl,_⟩:=(show v= .str (S x)/\_ from rv));exists p,r,x,rest',rfl,hp,e));obtain⟨p,us,x,rest',rfl,hp,ed⟩:=fst;exists _,rfl,p,_,0,_,rfl,rfl,aS.of hp,gq (j:=0) rfl,rfl,_,rfl,?_;refine bJ (λc=> ?_) λc=> ?_
 ·(have ex:x=gK:=(by(have z:V.str (S x)=V.str "send":=by simpa using c);(injection z with z);rw[yy]at z;exact pY z));subst ex;cases nB with
  |ga h _ _=>obtain⟨b,m,_,rfl⟩:=EA h;exfalso;simp only[bp.pv,eO,bH,fZ,zu,PV.aC.injEq,io,PV.at.injEq,bu.str.injEq]at ed;exact absurd ed.1 (by decide)
  |bF h=>
   (rcases D9 h with⟨t,m,th,ht,hm,bY,rfl⟩|⟨_,_,_,_,_,_,rfl⟩|⟨_,_,_,_,_,_,_,rfl⟩|⟨_,rfl⟩|⟨_,_,_,_,_,_,rfl⟩|rfl|⟨_,_,rfl⟩);(rotate_left);all_goals first
    |(exfalso
      simp only[bp.pv,eO,bH,fZ,PV.aC.injEq,io,PV.at.injEq,bu.str.injEq]at ed
      exact absurd ed.1 (by decide))
    |skip
   obtain⟨k,rfl,hk,xx⟩:=Y2 ht;(have gX:i<n:=by have:=so.len;obtain⟨h1,_⟩:=List.getElem?_eq_some_iff.mp hg;lia);obtain⟨j,wy,hj,e1,e2⟩:=so.all i k gX hk λz=>xx z.symm;exists _,rfl,G.x,G.dx,_,rfl,I.ob,rfl,_,rfl,_,rfl,?_;exists G,B,i,j,k,g,wy,m,th,.ref p,rfl,I,so.jW,hg,hj,e1,e2,dS (so.QE (dR hj)) (by decide),bY,rd,λH' v b a=> ?_;subst e2;exact q H' _ (.send hg er hw rfl hj e1 hm v b) (a.more (hW B))
 (exists _,rfl,_,rfl,SR ?_;cases d with|ga _ _ _=>trivial|bF aF=>intro z;cases aF with|nil=>cases z|cons a r=>(have ea:a= .str gK:=by simpa using z);subst ea;simp only[bp.pv,eO,bH,PV.aC.injEq,io,PV.at.injEq,bu.str.injEq]at ed;refine c ?_;rw[<-ed.1,<-yy];simp)
abbrev tS:Stmt:=gf kG 11
inductive oo(G:RG)(a k b n:Nat):RG->Prop where
 |mk {j jj:Nat} {wy:bX} {th:Th} {g:HG} {tk:Tk} (hj:G.bf[j]? =some wy) (ha:wy.s=a) (hb:wy.t=b) (bY:wy.ts[jj]? =some th) (hk:th.k=k) (hg:G.aI[b]? =some g) (hf:jP g.aR a th.m=some tk) (hn:tk.n=n) (h1:(ib wy.ts tk.wh tk.ma a).head?=some th):
   oo G a k b n ((G.eZ j {wy with ts:=wy.ts.eraseIdx jj}).cZ b (({g with met:=g.met++ [(n,a,k)]}:HG).got n))
def HG.Lc(g:HG)(n:Nat):(g.got n).cells=g.cells:=by unfold HG.got;split<;>rfl
def oo.cells{G G':RG}{a k b n:Nat}(h:oo G a k b n G'):G'.cells=G.cells:=by cases h with| @mk j jj wy th g tk hj ha hb bY hk hg hf hn h1=>exact(Cm (G:=G.eZ j {wy with ts:=wy.ts.eraseIdx jj}) (g':=({g with met:=g.met++ [(n,a,k)]}:HG).got n) hg (HG.Lc ({g with met:=g.met++ [(n,a,k)]}:HG) n)).trans (vS hj)
def aE.erase{H:Hp}: ∀ (j:Nat) {ps:aq PV} {vs:aq V},aE H ps vs->aE H (ps.eraseIdx j) (vs.eraseIdx j)
 |_,[],vs,h=>by obtain rfl:vs= []:=(by simpa only[aE]using h);exact aE.nil
 |0,p::ps,vs,h=>by simp only[aE]at h;obtain⟨v,r,rfl,_,h2⟩:=h;exact h2
 |j+1,p::ps,vs,h=>by simp only[aE]at h;obtain⟨v,r,rfl,h1,h2⟩:=h;exact aE.cons h1 (aE.erase j h2)
def KH{α β:Type}(f:α->β): ∀ (l:aq α) (j:Nat),(l.eraseIdx j).map f=(l.map f).eraseIdx j
 | [],_=>rfl
 |_::_,0=>rfl
 |x::l,j+1=>by simp[List.eraseIdx,KH f l j]
def KO: ∀ {ts:aq Th} {jj:Nat} {th:Th},(ts.Pairwise λa b=>a.k<b.k)->ts[jj]? =some th->(ts.filter λt=>decide (t.k=th.k))= [th]
 |t::ts,0,th,h,e=>by cases e;obtain⟨h1,h2⟩:=List.pairwise_cons.mp h;rw[List.filter_cons_of_pos (by simp)];(congr 1);rw[List.filter_eq_nil_iff];intro x hx;have:=h1 x hx;simp;lia
 |t::ts,jj+1,th,h,e=>by obtain⟨h1,h2⟩:=List.pairwise_cons.mp h;(have e':ts[jj]? =some th:=by simpa using e);have:=h1 th (dR e');rw[List.filter_cons_of_neg (by simp;lia)];exact KO h2 e'
def TN: ∀ {ts:aq Th} {jj m:Nat} {th:Th},(ts.Pairwise λa b=>a.k<b.k)->ts[jj]? =some th->m<jj->ts[m]? ≠some th
 |ts,jj,m,th,h,e,hm,z=>by obtain⟨h1,e1⟩:=List.getElem?_eq_some_iff.mp e;obtain⟨h2,e2⟩:=List.getElem?_eq_some_iff.mp z;have:=(List.pairwise_iff_getElem.mp h) m jj h2 h1 hm;rw[e1,e2]at this;lia
def Kw: ∀ts:aq Th,cq (ts.map Th.pv)<=20
 | []=>by simp[cq]
 |t::ts=>by have h1:=Kw ts;have h2:=t.qd;rw[bH];simp only[cq];lia
def Kv: ∀ (n:Nat) (ps:aq PV),cq (ps.take n)<=cq ps
 |0,_=>by simp[cq]
 |_+1,[]=>by simp[cq]
 |n+1,p::ps=>by have:=Kv n ps;simp only[List.take_succ_cons,cq];lia
def R3(xs:aq V):ia xs none (some 2)=xs.take 2:=by unfold ia;have h1:HT.bN xs.length 0 none=0:=rfl;(have h2:HT.bN xs.length xs.length (some 2)=min 2 xs.length:=(by have:=HT.B6 xs.length xs.length 2;exact this));rw[h1,h2];simp
inductive PY(C R:Addr)(vs:List V)(H:Hp)(Q:VK)(cO:XK):Prop
 |mk (n0:Nat) (G:RG) (B a k b n j jj:Nat) (wy:bX) (th:Th) (g:HG) (tk:Tk) (_:vs= [.ref G.x,.int a,.int k,.int b,.int n]) (_:cF none C R B H G) (_:dm n0 G) (_:B<=1000) (_:G.bf[j]? =some wy) (_:wy.s=a) (_:wy.t=b) (_:wy.ts[jj]? =some th) (_:th.k=k) (_:G.aI[b]? =some g) (_:jP g.aR a th.m=some tk) (_:tk.n=n) (_:(ib wy.ts tk.wh tk.ma a).head?=some th) (_: ∀H' G1 G',oo G a k b n G1->gm G1 G'->fB none C R (B+1) H G H' G'->Q .aN H')
def Ci:bP ["self", "sender", "send", "taker", "take", "way", "met", "giver"] ["self", "sender", "send", "taker", "take"] (bo tS):=fs
def Zu:(["thing", "self", "sender", "send", "taker", "take", "way", "met", "giver"]:aq aA).Nodup:=by decide+kernel
def a0L(F:bK K "meet" "Run.meet" tS f fd)(hC:cu K C)(hR:f9 K R)(Fd:cI P w K mg base C 2 "receive" ["self", "number", "value"] (P2 C))(fX:cI P w K mg base C 1 "go_on" ["self"] (iN C)):bw P w K mg base bh 3 f fd ["self", "sender", "send", "taker", "take"] (PY C R):=by obtain⟨g1,oG,fM,dQ,eU⟩:=Fd;obtain⟨g2,iu,cV,dG,cw⟩:=fX;refine F.ok Ci (λvs H Q E h=> ?_) λbd A outer s H vs Q E hr h=> ?_;obtain⟨_,_,_,_,_,_,_,_,_,_,_,_,_,rfl,_⟩:=h;rfl;obtain⟨n0,G,B,a,k,b,n,j,jj,wy,th,g,tk,rfl,I,so,hB,hj,rfl,rfl,bY,rfl,hg,hf,rfl,h1,q⟩:=h;(have hu:(A.deeper (envOfC "Run.meet" (bo tS) s.heap.objs.size f bd)).units+1<cLine:=by have:=hr.un;lia);exists _,be (cA (i:=5) Ci.nd rfl (Or.inl rfl) (nN hu (cb (pv 0) rfl) (cz (aD (pv 1) (aD (pv 3) aO))) λ_ _=>rfl)) (be (cA (i:=6) Ci.nd rfl (Or.inl rfl) (bI gz (mD (T:= ["thing"]) (lG (bo tS) ["self", "sender", "send", "taker", "take", "way", "met", "giver"] rfl rfl (by decide+kernel)) rfl (mG (pv 5)) (λY hY=>by cases hY;exact cC (i:=0) Zu rfl (Or.inl rfl)) iE (λY hY=>by cases hY;exact qM (cY jt (bI (cM K rfl) (pv 0) ba λ_ _=>rfl) (pv 3) (cQ _))) (λY hY=>by cases hY;exact pv 0)) ba λ_ _=>rfl)) (be (fg (nL mY PySem.F.slot_list_remove PySem.F.type_list_remove Zf (pv 5) (aD (pv 6) aO))) (be (fg (nL mY uE uF tq (cb (bI gz (cb (pv 0) rfl) (pv 3) λ_ _=>rfl) rfl) (aD (cz (aD (pv 4) (aD (pv 1) (aD (pv 2) aO)))) aO))) (be (fg (iK (bI gz (cb (pv 0) rfl) (pv 3) λ_ _=>rfl) hC.cl fM dQ hr eU .nil bt (aD (pv 4) (aD (bI (cM K rfl) (pv 6) ba λ_ _=>rfl) aO)))) (be (cA (i:=7) Ci.nd rfl (Or.inl rfl) (bI gz (cb (pv 0) rfl) (pv 1) λ_ _=>rfl)) (bn (cN (PW.pt (qQ (pA (Gx (cb (pv 7) rfl))) (tN (cY BD (tI (Co K rfl) (cb (pv 7) rfl) tK (tL ba)) (cz (aD cy (aD (pv 3) aO))) (cQ _))))) (bn (fg (gg (pv 7) hC.cl cV dG (hr.mono (by decide)) cw .nil bt))) dB))))))),?_;obtain⟨us,iF,ru⟩:=I.bf j wy hj;have ll:=ru.len;rw[bq]at ll;have j9:wy∈G.bf:=dR hj;have eS:g∈G.aI:=dR hg;have Ma:=so.order wy j9;have hts:=so.QE j9;have Mt:=hr.un;(have z2:2<=sizeLine:=by decide);(have z3:3<=sizeLine:=by decide);exists _,rfl,G.x,R,G.dx,_,_,rfl,I.ob,hR.cl,hR.bf,rfl,_,rfl,_,rfl,z2,λkt kA=> ?_;have s1:=aM kA (.aC [.int wy.s,.int wy.t]);(have dg:dC (upd H kt (.aC [.int wy.s,.int wy.t])) G.wd (.ref kt) (some (.ref wy.a)):=(by rw[<-CS so.jW hj];exact DN (z:=none) (k:= [Sum.inl (wy.s:Int),Sum.inl (wy.t:Int)]) (s1 _ _ I.wd) aL));exists G.wd,_,rfl,dg,?_;have vd:=s1 _ _ iF;have yn:=s1.bC ru;exists _,rfl,wy.a,rfl,⟨us,aQ.of vd⟩,?_;refine iq (n:=us.length) (λi ys H'=>H'=upd H kt (.aC [.int wy.s,.int wy.t])/\ys.length<=i/\aE H' (((wy.ts.take i).filter λt=>decide (t.k=th.k)).map Th.pv) ys) ⟨rfl,aV _,aE.nil⟩ ?_ ?_;(·rintro i ys _ hi ⟨rfl,li,ry⟩;(have ce:i<wy.ts.length:=by lia);exists⟨us,us[i],aQ.of vd,br hi⟩,big (by lia),?_;rintro x H1 ⟨rfl,hy⟩;have ex:=hy us (aQ.of vd);obtain⟨p,ep,lC⟩:=yn.get ex;rw[cB,br ce]at ep;(injection ep with ep);subst ep;obtain⟨ta,rfl,jV⟩:=Th.bE lC;(have e1:(wy.ts.take (i+1)).filter (λt=>decide (t.k=th.k))=(wy.ts.take i).filter (λt=>decide (t.k=th.k))++(if wy.ts[i].k=th.k then [wy.ts[i]]else []):=(by rw[kH ce,uq,pS,zx];simp));exists _,rfl,ta,_,0,_,rfl,rfl,aS.of jV,rfl,_,rfl,rfl,_,rfl,bJ (λc=> ?_) λc=> ?_;(· (have e0:wy.ts[i].k=th.k:=(by(have z:V.int (wy.ts[i].k:Int)=V.int (th.k:Int):=by simpa using c);(injection z with z);lia));exists _,rfl,Wc.next hi ⟨rfl,by simp;lia,?_⟩;rw[e1,aT e0,cK];exact ry.append (aE.dY lC));(·have e0: ¬wy.ts[i].k=th.k:=λz=>c (by simp[z]);(refine Wc.next hi ⟨rfl,by lia,?_⟩);rw[e1,aU e0,kO];exact ry));rintro ys H1 ⟨eH,li,ry⟩;subst eH;exists⟨us,aQ.of vd,aV _⟩,λp hp=> ?_;rw[<-ll,pU,KO Ma bY,bH,fZ]at ry;simp only[aE]at ry;obtain⟨v,r',rfl,rv,rfl⟩:=ry;have s2:=aM hp (.aK [v]);have sm:=s1.trans s2;exists p,_,0,_,rfl,rfl,aQ.of aL,rfl,?_;have pD:=s2.bE rv;obtain⟨ta,rfl,jV⟩:=Th.bE pD;(have va:(wy.ts.map Th.pv)[jj]? =some th.pv:=by rw[cB,bY];rfl);exists _,rfl,.inl ⟨rfl,_,aQ.of (s2 _ _ vd)⟩,_,rfl,wy.a,wy.ts.map Th.pv,us,.ref ta,th.pv,jj,rfl,rfl,s2 _ _ vd,s2.bC yn,pD,va,λm hm z=> ?_,?_,?_;(rw[cB]at z;cases e:wy.ts[m]? with|none=>rw[e]at z;cases z|some t=>rw[e]at z;(injection z with z);exact TN Ma bY hm (by rw[e,Th.yh z]));show(A.deeper (envOfC _ (bo tS) s.heap.objs.size f bd)).units+1+_+_<cLine;have:=th.qd;have:=Kw wy.ts;lia;have a1:=fB.same I sm;have w2:=a1.is.way (ts:=wy.ts.eraseIdx jj) (us:=us.eraseIdx jj) hj (by rw[KH];exact aE.erase jj (s2.bC yn));have a2:=a1.trans w2 rfl;have J2:=a2.is.aI wy.t g hg;obtain⟨rw2,ww2,qu,_,_⟩:=J2.ob;obtain⟨ms,L6,ym⟩:=J2.me;(have eh:(G.aI.map λg=>V.ref g.x)[wy.t]? =some (.ref g.x):=by rw[cB,hg];rfl);have Bj:=ym.len;rw[bq]at Bj;have AO:=so.yT eS;exists _,rfl,G.x,R,G.dx,_,_,rfl,a2.is.ob,hR.cl,hR.aI,rfl,_,rfl,G.hl,_,(wy.t:Int),_,rfl,rfl,aQ.of a2.is.hl,gq eh,g.x,C,g.dx,_,_,rfl,qu,hC.cl,hC.met,rfl,.inl ⟨rfl,_,aQ.of L6⟩,_,rfl,_,rfl,_,rfl,z3,λmt Wa=> ?_;have s3:=aM Wa (.aC [.int tk.n,.int wy.s,.int th.k]);exists g.me,ms,_,rfl,rfl,s3 _ _ L6,big (by lia),?_;have b1:=To.same J2 s3;have OP:=(s3.bC ym).append (aE.dY (Bs (a:= .at (.int tk.n)) (b:= .at (.int wy.s)) (c:= .at (.int th.k)) (p:=mt) aL rfl rfl rfl));rw[show g.met.map qF++ [PV.aC [.at (.int tk.n),.at (.int wy.s),.at (.int th.k)]]=(g.met++ [(tk.n,wy.s,th.k)]).map qF from by rw[cK];rfl]at OP;have b2:To C B _ g _ {g with met:=g.met++ [(tk.n,wy.s,th.k)]}:=b1.trans ⟨b1.is.a12 OP,eM.upd (by simp[HG.cells]) _,b1.is.a4N _⟩ rfl;have a3:=a2.trans (a2.is.dc hg b2 rfl (aV B)) (vS hj);have gX:wy.t<G.aI.length:=(List.getElem?_eq_some_iff.mp hg).1;(have qj:((G.eZ j {wy with ts:=wy.ts.eraseIdx jj}).cZ wy.t {g with met:=g.met++ [(tk.n,wy.s,th.k)]}).aI[wy.t]? =some {g with met:=g.met++ [(tk.n,wy.s,th.k)]}:=(by show(G.aI.set wy.t _)[wy.t]? =_;rw[List.getElem?_set_self gX]));have J3:=a3.is.aI wy.t _ qj;obtain⟨rw3,ww3,jq,_,_⟩:=J3.ob;(have S7:(((G.eZ j {wy with ts:=wy.ts.eraseIdx jj}).cZ wy.t {g with met:=g.met++ [(tk.n,wy.s,th.k)]}).aI.map λg=>V.ref g.x)[wy.t]? =some (.ref g.x):=by rw[cB,qj];rfl);have WJ:=b2.bA _ _ (w2.bA _ _ jV);have nU:tk∈g.aR:=uw hf;exists _,rfl,G.x,R,G.dx,_,_,rfl,a3.is.ob,hR.cl,hR.aI,rfl,_,rfl,G.hl,_,(wy.t:Int),_,rfl,rfl,aQ.of a3.is.hl,gq S7,g.x,g.dx,_,rfl,jq,rfl,_,rfl,_,rfl,ta,_,2,_,rfl,rfl,aS.of WJ,rfl,?_;exists{g with met:=g.met++ [(tk.n,wy.s,th.k)]},B,tk.n,th.v,tk,rfl,J3,hB,G4 (so.rising g eS) nU,so.fc g eS tk nU,λH4 b4=> ?_;have b5:=b2.trans b4 rfl;have a5:=a2.trans (a2.is.dc hg b5 (HG.Lc _ _) (hW B)) (vS hj);have Bt:oo G wy.s th.k wy.t tk.n _:= .mk hj rfl rfl bY rfl hg hf rfl h1;have ec:=Bt.cells;have jp:wy.t≠wy.s:=λz=>(so.ends wy j9).2.2 z.symm;(have oV:wy.s<G.aI.length:=by rw[so.len];exact(so.ends wy j9).1);(obtain⟨gs,ql⟩: ∃gs,G.aI[wy.s]? =some gs:=⟨_,br oV⟩);(have xt:((G.eZ j {wy with ts:=wy.ts.eraseIdx jj}).cZ wy.t (({g with met:=g.met++ [(tk.n,wy.s,th.k)]}:HG).got tk.n)).aI[wy.s]? =some gs:=(by show(G.aI.set wy.t _)[wy.s]? =_;rw[List.getElem?_set_ne jp];exact ql));have J5:=a5.is.aI wy.s gs xt;obtain⟨rw5,ww5,mo,OU,G8⟩:=J5.ob;(have S8:(((G.eZ j {wy with ts:=wy.ts.eraseIdx jj}).cZ wy.t (({g with met:=g.met++ [(tk.n,wy.s,th.k)]}:HG).got tk.n)).aI.map λg=>V.ref g.x)[wy.s]? =some (.ref gs.x):=by rw[cB,xt];rfl);exists _,rfl,G.x,R,G.dx,_,_,rfl,a5.is.ob,hR.cl,hR.aI,rfl,_,rfl,G.hl,_,(wy.s:Int),_,rfl,rfl,aQ.of a5.is.hl,gq S8,?_;exists _,rfl,gs.x,C,gs.dx,_,_,rfl,mo,hC.cl,hC.kK,rfl,_,rfl,bJ (λc=> ?_) λc=>cG (q _ _ _ Bt (.refl _) a5);(have CW:gs.wt≠ .go:=λz=>(by have:=Q0 G8;rw[z]at this;rw[this]at c;exact absurd c (by decide)));(obtain⟨ps,Tt⟩: ∃ps,gs.wt.pv= .aC ps:=(by cases e:gs.wt with|go=>exact absurd e CW|snd _ _=>exact⟨_,rfl⟩|j6 _=>exact⟨_,rfl⟩|iO _=>exact⟨_,rfl⟩|all=>exists _,rfl));have Lz:=gs.wt.qd;rw[Tt]at G8 Lz;obtain⟨wa,ws,rfl,Mv,lE⟩:=G8.aC;exists _,rfl,gs.x,C,gs.dx,_,_,rfl,mo,hC.cl,hC.kK,rfl,2,rfl,wa,ws,rfl,aS.of Mv,λb H6 h6=> ?_;rw[R3]at h6;(have Uy:H6 b=some (.aC (ws.take 2))/\aY H4 H6:=(by(rcases h6 with⟨rfl,rfl,e⟩|⟨hb,rfl⟩);exists by rw[e];exact Mv,aY.refl _;exists aL,aM hb _));obtain⟨gW,s6⟩:=Uy;exists _,rfl,z2,λl7 dH=> ?_;have s7:=aM dH (.aC [.str "send",.int wy.t]);have O3:=s6.trans s7;exists .aC (ps.take 2),.aC [.at (.str gK),.at (.int wy.t)],?_,?_,?_,_,rfl,?_;show(A.deeper (envOfC _ (bo tS) s.heap.objs.size f bd)).units+_+_<cLine;have e1:cq (ps.take 2)<=cq ps:=Kv 2 ps;simp only[dp,cq]at Lz⊢;lia;simp only[aJ];exists b,_,rfl,s7 _ _ gW,(O3.bC lE).take 2;exact pk aL ⟨by rw[yy],by decide⟩ rfl;have a7:=a5.trans (fB.same a5.is O3) ec;refine bJ (λc2=> ?_) λc2=>q _ _ _ Bt (.refl _) a7;have J7:=a7.is.aI wy.s gs xt;obtain⟨rw7,ww7,jr,_,_⟩:=J7.ob;exists _,rfl,gs.x,gs.dx,_,rfl,jr,rfl,?_;dsimp only[fH];refine oF J7 λH' b8=> ?_;exact q _ _ _ Bt (.step (.refl _) xt CW) (a7.trans (a7.is.dc xt b8 rfl (aV _)) ec)
abbrev HL:Stmt:=gf kG 12
abbrev Hl:Stmt:=gf kG 8
def gm.len{G G1:RG}(a:gm G G1):G1.aI.length=G.aI.length:=by induction a with|refl=>rfl|step _ hg hw ih=>exact(rF ..).trans ih
def pR.len{n i:Nat}{G G':RG}(h:pR n G i G'):G'.aI.length=G.aI.length:=by cases h with|send hg hr hw hc hj hs hm v b=>exact rF .. |row hg hr hw h=>exact rF ..
def oo.len{G G':RG}{a k b n:Nat}(h:oo G a k b n G'):G'.aI.length=G.aI.length:=by cases h with|mk hj ha hb bY hk hg hf hn h1=>exact rF ..
def lN(n:Nat)(G G1:RG):Prop:=(∃i,pR n G i G1)\/(∃a k b m,oo G a k b m G1)
def lN.len{n:Nat}{G G1:RG}(h:lN n G G1):G1.aI.length=G.aI.length:=by(rcases h with⟨i,h⟩|⟨a,k,b,m,h⟩);exact h.len;exact h.len
def lN.cells{n:Nat}{G G1:RG}(h:lN n G G1):G1.cells=G.cells:=by(rcases h with⟨i,h⟩|⟨a,k,b,m,h⟩);exact h.cells;exact h.cells
def lN.x{n:Nat}{G G1:RG}(h:lN n G G1):G1.x=G.x:=by(rcases h with⟨i,h⟩|⟨a,k,b,m,h⟩);cases h<;>rfl;cases h;rfl
def gm.x{G G1:RG}(a:gm G G1):G1.x=G.x:=by induction a with|refl=>rfl|step _ hg hw ih=>exact ih
def K7{B:Nat}{Q:VK}{E:XK}(I:bG C B H g)(q: ∀H',aY H H'->Q (.bl (decide (g.wt.pv=zS))) H'):Iq C [.ref g.x] H Q E:=by obtain⟨rv,wv,hx,r1,r2⟩:=I.ob;exists g.x,g.dx,_,wv,g.wt.pv,rfl,hx,rfl,r2,dS g.wt.qd (by decide),q
def K6{B:Nat}{Q:VK}{E:XK}(I:bG C B H g)(q: ∀b,Q (.bl b) H):vY C [.ref g.x] H Q E:=by obtain⟨rv,wv,hx,r1,r2⟩:=I.ob;obtain⟨ra,rs,rfl,ml,vI⟩:=r1.aC;exists g.x,g.dx,_,ra,rs,rfl,hx,rfl,ml,q _
inductive P0(C R:Addr)(vs:List V)(H:Hp)(Q:VK)(cO:XK):Prop
 |mk (G:RG) (B:Nat) (_:vs= [.ref G.x]) (_:cF none C R B H G) (_:G.aI.length<=10) (_: ∀H' G',gm G G'->fB none C R B H G H' G'->Q .aN H')
def Ph:bP ["self", "hand"] ["self"] (bo HL):=fs
def Zv:(["hand", "self"]:aq aA).Nodup:=by decide+kernel
def a0P(F:bK K "pass_all" "Run.pass_all" HL f fd)(T:Tx mg)(hC:cu K C)(hR:f9 K R)(iF:cI P w K mg base C 1 "waits_in_all" ["self"] (Iq C))(sI:cI P w K mg base C 1 "has_ended" ["self"] (vY C))(fX:cI P w K mg base C 1 "go_on" ["self"] (iN C)):bw P w K mg base bh 2 f fd ["self"] (P0 C R):=by
 obtain⟨g1,oG,fM,dQ,eU⟩:=iF;obtain⟨g2,iu,cV,dG,cw⟩:=sI;obtain⟨g3,K8,xz,qj,qi⟩:=fX;refine F.ok Ph (λvs H Q E h=> ?_) λbd A outer s H vs Q E hr h=> ?_;obtain⟨_,_,rfl,_⟩:=h;rfl;obtain⟨G,B,rfl,I,hn,q⟩:=h;exists _,bn (cN (g9 (dw (zX rfl) rfl T.all boot_all (aD (a1z 1 (mD (T:= ["hand"]) (qT ["self"] rfl (by decide+kernel)) rfl (mG (cb (pv 0) rfl)) (λY hY=>by cases hY;exact cC (i:=0) Zv rfl (Or.inl rfl)) iE (λY _=>lv) (λY hY=>by cases hY;exact GC (gg (pv 0) hC.cl fM dQ hr eU .nil bt) (mF (gg (pv 0) hC.cl cV dG hr cw .nil bt))))) aO))) (bn (kE ki rfl (mG (cb (pv 0) rfl)) (cC (i:=1) Ph.nd rfl (Or.inl rfl)) (bn (cN (g9 (gg (pv 1) hC.cl fM dQ hr eU .nil bt)) (bn (fg (gg (pv 1) hC.cl xz qj hr qi .nil bt))) dB)))) dB),?_;have V1: ∀i,1<=i-> ∀v,([some (V.ref G.x),none]:List (Option V))[i]? ≠some (some v):=λi hi v=>by
  match i,hi with
  |1,_=>simp
  |i+2,_=>simp
 exists V1,?_;exists _,rfl,G.x,R,G.dx,_,_,rfl,I.ob,hR.cl,hR.aI,rfl,G.hl,rfl,⟨_,aQ.of I.hl⟩,?_;have lh:(G.aI.map λg=>V.ref g.x).length=G.aI.length:=bq _;refine iq (n:=(G.aI.map λg=>V.ref g.x).length) (λi ys H'=>aY H H'/\ ∃bs:List Bool,bs.length=i/\ys=bs.map V.bl) ⟨aY.refl _,[],rfl,rfl⟩ ?_ ?_;(·rintro i ys H' hi ⟨sm,bs,lb,rfl⟩;(have ce:i<G.aI.length:=by lia);have eg:G.aI[i]? =some G.aI[i]:=br ce;(have lW:(G.aI.map λg=>V.ref g.x)[i]? =some (.ref G.aI[i].x):=by rw[cB,eg];rfl);have J:=(I.same sm).aI i _ eg;obtain⟨rv,wv,hx,r1,r2⟩:=J.ob;exists⟨_,_,aQ.of (sm _ _ I.hl),lW⟩,by rw[bq];exact big (by lia),?_;rintro x H1 ⟨rfl,hy⟩;have ex:=hy _ (aQ.of (sm _ _ I.hl));rw[lW]at ex;(injection ex with ex);subst ex;refine mQ ?_;exists _,rfl,G.aI[i].x,G.aI[i].dx,_,rfl,hx,rfl,?_;dsimp only[fH];(refine K7 J λH2 s2=>⟨_,rfl,bJ (λc=> ?_) λc=> ?_⟩);(·exact Wc.next hi ⟨sm.trans s2,bs++ [true],by simp[lb],by rw[cK];rfl⟩);(·have J2:=J.same s2;exists _,rfl,G.aI[i].x,G.aI[i].dx,_,rfl,s2 _ _ hx,rfl,?_;dsimp only[fH];refine K6 J2 λb=> ?_;exact Wc.next hi ⟨sm.trans s2,bs++ [b],by simp[lb],by rw[cK];rfl⟩));rintro ys H1 ⟨sm,bs,lb,rfl⟩;exists⟨_,aQ.of (sm _ _ I.hl),aV _⟩,λp hp=> ?_;have s1:=aM hp (.aK (bs.map V.bl));have a1:=fB.same I (sm.trans s1);exists p,bs,rfl,aQ.of aL,_,rfl,bJ (λc=> ?_) λc=> ?_;(rotate_left);exact q _ G (.refl G) a1;exists _,rfl,G.x,R,G.dx,_,_,rfl,a1.is.ob,hR.cl,hR.aI,rfl,G.hl,rfl,⟨_,aQ.of a1.is.hl⟩,?_;refine su (n:=G.aI.length) (λi σ' H'=> ∃ (r1:Option V) (G':RG),σ'= [some (.ref G.x),r1]/\gm G G'/\G'.hl=G.hl/\fB none C R B H G H' G') ⟨none,G,rfl,.refl G,rfl,a1⟩ ?_ ?_;rintro i σ' H' hi ⟨r1,G',rfl,fr,wU,a⟩;(have ce:i<G'.aI.length:=by rw[fr.len];exact hi);have eg:G'.aI[i]? =some G'.aI[i]:=br ce;(have lW:(G'.aI.map λg=>V.ref g.x)[i]? =some (.ref G'.aI[i].x):=by rw[cB,eg];rfl);have fL:=a.is.hl;rw[wU]at fL;have J:=a.is.aI i _ eg;obtain⟨rv,wv,hx,_,_⟩:=J.ob;exists⟨_,_,aQ.of fL,lW⟩,?_;rintro x H1 ⟨rfl,hy⟩;have ex:=hy _ (aQ.of fL);rw[lW]at ex;(injection ex with ex);subst ex;exists _,rfl,G'.aI[i].x,G'.aI[i].dx,_,rfl,hx,rfl,?_;dsimp only[fH];(refine K7 J λH2 s2=>⟨_,rfl,bJ (λc=> ?_) λc=> ?_⟩);(have CW:G'.aI[i].wt≠ .go:=λz=>(by rw[z]at c;exact absurd (lu c) (by intro w;cases w)));have J2:=J.same s2;exists _,rfl,G'.aI[i].x,G'.aI[i].dx,_,rfl,s2 _ _ hx,rfl,?_;dsimp only[fH];refine oF J2 λH3 b3=> ?_;have a2:=a.trans (fB.same a.is s2) fr.cells;exists _,_,rfl,.step fr eg CW,wU,a2.trans (a2.is.dc eg b3 rfl (aV B)) fr.cells;exists _,G',rfl,fr,wU,a.trans (fB.same a.is s2) fr.cells;rintro σ' H' ⟨r1,G',rfl,fr,wU,a⟩;have fL:=a.is.hl;rw[wU]at fL;exists⟨_,aQ.of fL,?_⟩,q H' G' fr a;rw[bq,fr.len];exact aV _
abbrev HH:Stmt:=top 44
abbrev Hn:Stmt:=top 45
def BK{st:aq ay}:jI X st (λ_ _ _=>False):=λ_ _ _ _ _ _ h=>h.elim
inductive yG(f:PV->Bool)(vs:List V)(H:Hp)(Q:VK)(cO:XK):Prop
 |mk (p v:_) (_:vs= [v]) (_:aJ H p v) (_:f p=true) (_: ∀H',aY H H'->Q .aN H')
def PH{f:PV->Bool}(vs:aq V)(H:Hp)(Q:VK)(E:XK)(h:yG f vs H Q E):vs.length=1:=by obtain⟨p,v,rfl,_⟩:=h;rfl
def a27:bP ["thing"] ["thing"] (bo Hm):=fs
def a0g(F:bK K "check_program" "check_program" Hm f fd)(hp:jE P w K mg base 7 "is_program" iG):bw P w K mg base bh 8 f fd ["thing"] (yG iG):=by refine F.ok a27 PH λbd A outer s H vs Q E hr h=> ?_;obtain⟨p,v,rfl,rp,e,q⟩:=h;exists _,bn (cN (lw (g9 (cj hp hr rfl bt (aD (pv 0) aO)))) BK dB),?_;exists _,rfl,p,v,rfl,rp,λH' sm=>⟨_,rfl,?_⟩;rw[e];exact cG (q H' sm)
/---/def qx:PV->Bool
 | .at .aN=>true
 | .at (.int i)=>decide (0<=i) &&decide (i<=99)
 |_=>false
def a3o:bP ["thing"] ["thing"] (bo HH):=fs
def a0F(F:bK K "is_room" "is_room" HH f fd)(DV: ∃t,mg "MOST_ROOM"=some (.int 99 t))(hw:jE P w K mg base 1 "is_whole" xP):bw P w K mg base bh 2 f fd ["thing"] (mL qx):=by refine F.ok a3o qW λbd A outer s H vs Q E hr h=> ?_;obtain⟨p,v,rfl,rp,q⟩:=h;obtain⟨t9,e9⟩:=DV;exists _,bn (bQ (GC (Gz (yc (pv 0))) (mF (qK (cj hw hr rfl bt (aD (pv 0) aO)) (mF (Gy mB mB ba (pv 0) (kD rfl e9 (v:= .int 99) ⟨_,rfl⟩))))))),?_;obtain⟨t,ty,c⟩:=rp.ty (K:=K);(rcases c with⟨ss,rfl,rfl⟩|⟨i,rfl,rfl⟩|⟨x,rfl,rfl⟩|⟨rfl,rfl⟩);obtain⟨a,vs,rfl,ha,rs⟩:=rp.aC;exists _,rfl,_,rfl,cG ⟨_,rfl,_,_,rfl,rp,λH' sm=>⟨_,rfl,cG (q H' sm)⟩⟩;cases(show v= .int i from rp);exists _,rfl,_,rfl,cG ⟨_,rfl,_,_,rfl,rp,λH' sm=>⟨_,rfl,dj ⟨_,rfl,_,_,rfl,rfl,_,rfl,bJ (λc=>⟨_,_,rfl,rfl,?_⟩) λc=> ?_⟩⟩⟩;have fin:=q H' sm;(have e:qx (.at (.int i))=decide (i<=99):=by show(decide (0<=i) &&decide (i<=99))=_;rw[c];rfl);rw[e]at fin;exact fin;have fin:=q H' sm;(have e:qx (.at (.int i))=false:=by show(decide (0<=i) &&decide (i<=99))=_;rw[Bool.eq_false_iff.mpr c];rfl);rw[e]at fin;exact fin;cases(show v= .str (S x)/\x.length<=1000000 from rp).1;exists _,rfl,_,rfl,cG ⟨_,rfl,.at (.str x),_,rfl,rp,λH' sm=>⟨_,rfl,cG (q H' sm)⟩⟩;cases(show v= .aN from rp);exists _,rfl,_,rfl,dj (q H (aY.refl H))
def a28:bP ["thing"] ["thing"] (bo Hn):=fs
def a0h(F:bK K "check_room" "check_room" Hn f fd)(hp:jE P w K mg base 2 "is_room" qx):bw P w K mg base bh 3 f fd ["thing"] (yG qx):=by refine F.ok a28 PH λbd A outer s H vs Q E hr h=> ?_;obtain⟨p,v,rfl,rp,e,q⟩:=h;exists _,bn (cN (lw (g9 (cj hp hr rfl bt (aD (pv 0) aO)))) BK dB),?_;exists _,rfl,p,v,rfl,rp,λH' sm=>⟨_,rfl,?_⟩;rw[e];exact cG (q H' sm)
abbrev BZ:Stmt:=gf kG 7
/---/def RG.lV(G:RG):List PV:=G.goes.map kY++G.meets.map i7
def KI{G:RG}{i:Nat}(h:i∈G.goes): ∃g,G.aI[i]? =some g/\g.wt= .go/\g.rows≠ []:=by obtain⟨h1,h2⟩:=List.mem_filter.mp h;have hi:=List.mem_range.mp h1;have eg:G.aI[i]? =some G.aI[i]:=br hi;unfold RG.qg at h2;rw[eg]at h2;have h3:uN G.aI[i]=true:=h2;simp only[uN,gR,lT,Bool.not_eq_true',decide_eq_false_iff_not]at h3;exists _,eg,h3.1,λz=>h3.2 (by rw[z];rfl)
def KJ{n:Nat}(so:dm n G){ns:aq Int}(h:ns∈G.meets): ∃ (j jj:Nat) (wy:bX) (th:Th) (g:HG) (tk:Tk),ns= [(wy.s:Int),th.k,wy.t,tk.n]/\G.bf[j]? =some wy/\wy.ts[jj]? =some th/\G.aI[wy.t]? =some g/\jP g.aR wy.s th.m=some tk/\(ib wy.ts tk.wh tk.ma wy.s).head?=some th:=by obtain⟨wy,hw,h⟩:=List.mem_flatMap.mp h;obtain⟨th,bY,e⟩:=List.mem_filterMap.mp h;obtain⟨j,hj,ej⟩:=gT hw;obtain⟨jj,xw,Tc⟩:=gT bY;(have ht:wy.t<G.aI.length:=by rw[so.len];exact(so.ends wy hw).2.1);have eg:G.aI[wy.t]? =some G.aI[wy.t]:=br ht;(have ep:G.aR wy.t=G.aI[wy.t].aR:=by unfold RG.aR;rw[eg]);rw[ep]at e;unfold jX at e;cases ef:jP G.aI[wy.t].aR wy.s th.m with|none=>rw[ef]at e;cases e|some tk=>rw[ef]at e;have e':(if(ib wy.ts tk.wh tk.ma wy.s).head?=some th then some [(wy.s:Int),th.k,wy.t,tk.n]else none)=some ns:=e;by_cases c:(ib wy.ts tk.wh tk.ma wy.s).head?=some th;rw[aT c]at e';(injection e' with e');exists j,jj,wy,th,_,tk,e'.symm,by rw[br hj,ej],by rw[br xw,Tc],eg,ef,c;rw[aU c]at e';cases e'
structure Top(G G':RG):Prop where
 x:G'.x=G.x
 dx:G'.dx=G.dx
 hl:G'.hl=G.hl
 wd:G'.wd=G.wd
 hi:G'.hi=G.hi
 room:G'.room=G.room
def Top.trans{G G1 G2:RG}(a:Top G G1)(b:Top G1 G2):Top G G2:=⟨b.x.trans a.x,b.dx.trans a.dx,b.hl.trans a.hl,b.wd.trans a.wd,b.hi.trans a.hi,b.room.trans a.room⟩
def Top.refl(G:RG):Top G G:=⟨rfl,rfl,rfl,rfl,rfl,rfl⟩
def Top.fs{G G':RG}(a:Top G G'):G'.fs=G.fs:=by unfold RG.fs;rw[a.hl,a.wd,a.hi,a.room]
def gm.top{G G1:RG}(a:gm G G1):Top G G1:=by induction a with|refl=>exact Top.refl _|step _ hg hw ih=>exists ih.x,ih.dx,ih.hl,ih.wd,ih.hi,ih.room
def lN.top{n:Nat}{G G1:RG}(h:lN n G G1):Top G G1:=by(rcases h with⟨i,h⟩|⟨a,k,b,m,h⟩);cases h<;>exists rfl,rfl,rfl,rfl,rfl,rfl;cases h;exists rfl,rfl,rfl,rfl,rfl,rfl
inductive Ii(C R:Addr)(vs:List V)(H:Hp)(Q:VK)(cO:XK):Prop
 |mk (n:Nat) (G:RG) (B:Nat) (ev:V) (p:PV) (_:vs= [.ref G.x,ev]) (_:cF none C R B H G) (_:dm n G) (_:B<=900) (_:aJ H p ev) (_:p∈G.lV) (_: ∀H' G1 G',lN n G G1->gm G1 G'->fB none C R (B+2) H G H' G'->Q .aN H')
def a26:bP ["self", "event"] ["self", "event"] (bo Hl):=fs
def a0f(F:bK K "carry_out" "Run.carry_out" Hl f fd)(hR:f9 K R)(jp:cI P w K mg base R 4 "step" ["self", "number"] (P7 C R))(jT:cI P w K mg base R 3 "meet" ["self", "sender", "send", "taker", "take"] (PY C R))(i5:cI P w K mg base R 2 "pass_all" ["self"] (P0 C R)):bw P w K mg base bh 5 f fd ["self", "event"] (Ii C R):=by obtain⟨g1,oG,fM,dQ,eU⟩:=jp;obtain⟨g2,iu,cV,dG,cw⟩:=jT;obtain⟨g3,K8,xz,qj,qi⟩:=i5;refine F.ok a26 (λvs H Q E h=> ?_) λbd A outer s H vs Q E hr h=> ?_;obtain⟨_,_,_,_,_,rfl,_⟩:=h;rfl;obtain⟨n,G,B,ev,p,rfl,I,so,hB,rp,hp,q⟩:=h;exists _,be (cN (cY jt (bI (cM K rfl) (pv 1) ba λ_ _=>rfl) cy (cQ _)) (bn (fg (iK (pv 0) hR.cl fM dQ hr eU .nil bt (aD (bI (cM K rfl) (pv 1) ba λ_ _=>rfl) aO)))) (bn (fg (iK (pv 0) hR.cl cV dG (hr.mono (by decide)) cw .nil bt (aD (bI (cM K rfl) (pv 1) ba λ_ _=>rfl) (aD (bI (cM K rfl) (pv 1) ba λ_ _=>rfl) (aD (bI (cM K rfl) (pv 1) ba λ_ _=>rfl) (aD (bI (cM K rfl) (pv 1) ba λ_ _=>rfl) aO)))))))) (be (fg (gg (pv 0) hR.cl xz qj (hr.mono (by decide)) qi .nil bt)) (bn (fg (nL mY uE uF tq (cb (pv 0) rfl) (aD (pv 1) aO))))),?_;(have hn:G.aI.length<=10:=by have:=so.len;have:=so.n4;lia);(have rest: ∀H1 G1 G2,lN n G G1->gm G1 G2->fB none C R (B+1) H G H1 G2->H1 G.x=some (.bv R G.dx G.fs)/\G2.aI.length<=10/\ [V.ref G.x]= [V.ref G2.x]/\ ∀H2 G3,gm G2 G3->fB none C R (B+1) H1 G2 H2 G3->H2 G.x=some (.bv R G.dx G.fs)/\ ∃hs,H2 G.hi=some (.aK hs)/\hs.length<sizeLine/\Q .aN (upd H2 G.hi (.aK (hs++ [ev]))):=λH1 G1 G2 es fr a=>(by have tp:=es.top.trans fr.top;have e1:=a.is.ob;rw[tp.x,tp.dx,tp.fs]at e1;exists e1,by rw[fr.len,es.len];exact hn,by rw[tp.x],λH2 G3 ic a3=> ?_;have CL:=tp.trans ic.top;have e2:=a3.is.ob;rw[CL.x,CL.dx,CL.fs]at e2;obtain⟨hs,e3,l3⟩:=a3.is.hi;have a4:=(a.trans a3 (fr.cells.trans es.cells)).trans (a3.is.hist (hs:=hs++ [ev]) (by simp;lia)) (ic.cells.trans (fr.cells.trans es.cells));rw[CL.hi]at e3 a4;exists e2,hs,e3,big (by lia),q _ G1 G3 es (fr.trans ic) a4));rcases List.mem_append.mp hp with hp|hp;obtain⟨i,hi,rfl⟩:=List.mem_map.mp hp;obtain⟨g,hg,hw,hne⟩:=KI hi;obtain⟨pa,u1,u2,rfl,i5,k1,k2⟩:=BM (a:= .at (.str yY)) (b:= .at (.int i)) rp;(obtain⟨rfl,_⟩:=(show u1= .str (S yY)/\_ from k1));obtain rfl:u2= .int i:=k2;exists _,rfl,pa,_,0,_,rfl,rfl,aS.of i5,rfl,rfl,_,rfl,bJ (λc=> ?_) (λc=>absurd (show decide (V.str (S yY)=V.str "go")=true from by rw[HB];simp) c);exists _,rfl,G.x,G.dx,_,rfl,I.ob,rfl,_,rfl,pa,_,1,_,rfl,rfl,aS.of i5,rfl,?_;exists n,G,B,i,g,rfl,I,so,by lia,hg,hw,hne,λH1 G1 gs a=> ?_;obtain⟨e1,ln,wX,Gm⟩:=rest H1 G1 G1 (.inl ⟨i,gs⟩) (.refl G1) a;exists _,rfl,G.x,G.dx,_,rfl,e1,rfl,?_;dsimp only[fH];exists G1,B+1,wX,a.is,ln,λH2 G3 ic a3=> ?_;obtain⟨e2,hs,e3,l3,fin⟩:=Gm H2 G3 ic a3;exists _,rfl,G.x,R,G.dx,_,_,rfl,e2,hR.cl,hR.EH,rfl,.inl ⟨rfl,_,aQ.of e3⟩,_,rfl,G.hi,hs,_,rfl,rfl,e3,l3,fin;obtain⟨ns,fe,rfl⟩:=List.mem_map.mp hp;obtain⟨j,jj,wy,th,g,tk,rfl,hj,bY,hg,hf,h1⟩:=KJ so fe;obtain⟨pa,u1,u2,u3,u4,u5,rfl,i5,k1,k2,k3,k4,k5⟩:=GV (a:= .at (.str wf)) (b:= .at (.int wy.s)) (c:= .at (.int th.k)) (d:= .at (.int wy.t)) (e:= .at (.int tk.n)) rp;(obtain⟨rfl,_⟩:=(show u1= .str (S wf)/\_ from k1));obtain rfl:u2= .int wy.s:=k2;obtain rfl:u3= .int th.k:=k3;obtain rfl:u4= .int wy.t:=k4;obtain rfl:u5= .int tk.n:=k5;exists _,rfl,pa,_,0,_,rfl,rfl,aS.of i5,rfl,rfl,_,rfl,bJ (λc=> ?_) λc=> ?_;have z:V.str (S wf)=V.str "go":=lu c;(injection z with z);rw[HB]at z;exact absurd (pY z) (by decide);exists _,rfl,G.x,G.dx,_,rfl,I.ob,rfl,_,rfl,pa,_,1,_,rfl,rfl,aS.of i5,rfl,_,rfl,pa,_,2,_,rfl,rfl,aS.of i5,rfl,_,rfl,pa,_,3,_,rfl,rfl,aS.of i5,rfl,_,rfl,pa,_,4,_,rfl,rfl,aS.of i5,rfl,?_;exists n,G,B,wy.s,th.k,wy.t,tk.n,j,jj,wy,th,g,tk,rfl,I,so,by lia,hj,rfl,rfl,bY,rfl,hg,hf,rfl,h1,λH1 G1 G2 ms fr a=> ?_;obtain⟨e1,ln,wX,Gm⟩:=rest H1 G1 G2 (.inr ⟨_,_,_,_,ms⟩) fr a;exists _,rfl,G.x,G.dx,_,rfl,e1,rfl,?_;dsimp only[fH];exists G2,B+1,wX,a.is,ln,λH2 G3 ic a3=> ?_;obtain⟨e2,hs,e3,l3,fin⟩:=Gm H2 G3 ic a3;exists _,rfl,G.x,R,G.dx,_,_,rfl,e2,hR.cl,hR.EH,rfl,.inl ⟨rfl,_,aQ.of e3⟩,_,rfl,G.hi,hs,_,rfl,rfl,e3,l3,fin
def Ij(C R:Addr):Sp:=Ii C R
def a29:bP ["self", "event"] ["self", "event"] (bo BZ):=fs
def TJ{G:RG}{ms:aq (aq Int)}(h:ms.Perm G.meets){p:PV}(hp:p∈G.lV):p∈G.goes.map kY++ms.map i7:=by rcases List.mem_append.mp hp with hp|hp;exact dE _ hp;exact db _ ((h.map i7).symm.subset hp)
def KL{G:RG}{p:PV}(hp:p∈G.lV): ∃ps,p= .aC ps/\ps.length<=100/\dp p<=10:=by rcases List.mem_append.mp hp with hp|hp;obtain⟨i,_,rfl⟩:=List.mem_map.mp hp;exact⟨_,rfl,by simp,by simp[kY,dp,cq]⟩;obtain⟨ns,fe,rfl⟩:=List.mem_map.mp hp;obtain⟨wy,_,h⟩:=List.mem_flatMap.mp fe;obtain⟨th,_,e⟩:=List.mem_filterMap.mp h;unfold jX at e;split at e;cases e;split at e;cases e;exact⟨_,rfl,by simp[kz],by simp[i7,cJ,kz,dp,cq]⟩;cases e
def Ae{n:Nat}: ∀ {ps:aq PV},(∀p∈ps,dp p<=n)->cq ps<=n
 | [],_=>by simp[cq]
 |p::ps,h=>by have h1:=h p fk;have h2:=Ae (n:=n) (ps:=ps) λq hq=>h q (fJ _ hq);simp only[cq];lia
def a0j(F:bK K "do" "Run.do" BZ f fd)(T:Tx mg)(hR:f9 K R)(VM:cP P w K mg base bh 1 "has_truth" ["event"] PU)(oJ:cI P w K mg base R 4 "events" ["self"] (yH C R))(hca:cI P w K mg base R 5 "carry_out" ["self", "event"] (Ii C R)):bw P w K mg base bh 6 f fd ["self", "event"] (Ij C R):=by obtain⟨g1,oG,fM,dQ,eU⟩:=oJ;obtain⟨g2,iu,cV,dG,cw⟩:=hca;refine F.ok a29 (λvs H Q E h=> ?_) λbd A outer s H vs Q E hr h=> ?_;obtain⟨_,_,_,_,_,rfl,_⟩:=h;rfl;obtain⟨n,G,B,ev,p,rfl,I,so,hB,rp,hp,q⟩:=h;exists _,be (cN (PW.pt (pB (lw (g9 (dw lS rfl T.mw ni (aD (pv 1) (aD (mC rfl T.tuple jL (v:= .ty "tuple") rfl) aO))))) (pB (g9 (cj VM hr rfl bt (aD (pv 1) aO))) (vC (cY a1c (pv 1) (gg (pv 0) hR.cl fM dQ (hr.mono (by decide)) eU .nil bt) rfl))))) BK dB) (bn (fg (iK (pv 0) hR.cl cV dG hr cw .nil bt (aD (pv 1) aO)))),?_;obtain⟨ps,rfl,lp,dpl⟩:=KL hp;obtain⟨t,ty,c⟩:=rp.ty (K:=K);(have et:t= "tuple":=(by(rcases c with⟨_,_,e⟩|⟨_,e,_⟩|⟨_,e,_⟩|⟨e,_⟩);exact e;cases e;cases e;cases e));subst et;have Mt:=hr.un;exists _,rfl,_,_,_,_,_,rfl,ty,λu z=>z,k_same _,_,rfl,cG ?_;exists _,rfl,ev,ps,rfl,rp,by lia,λH1 s1=>⟨_,rfl,cG ?_⟩;have I1:=I.same s1;exists _,rfl,_,rfl,G.x,G.dx,_,rfl,I1.ob,rfl,?_;dsimp only[fH];exists G,B,rfl,I1,so.wY,λl ys H2 ms s2 oP hl pm ry=> ?_;have o0:=TJ pm hp;exists l,_,ys,.aC ps,rfl,.inl (aQ.of hl),ry,(s1.trans s2).bE rp,?_,_,rfl,?_;show(A.deeper (envOfC _ (bo BZ) s.heap.objs.size f bd)).units+1+_+_<cLine;(have:cq (G.goes.map kY++ms.map i7)<=10:=Ae λp hp=>(by(have xB:p∈G.lV:=(by rcases List.mem_append.mp hp with hp|hp;exact dE _ hp;exact db _ ((pm.map i7).subset hp)));obtain⟨_,_,_,h⟩:=KL xB;exact h));lia;show if(if true=true then !(G.goes.map kY++ms.map i7).contains (.aC ps)else _)=true then _ else _;rw[aT rfl,show(G.goes.map kY++ms.map i7).contains (.aC ps)=true from List.contains_iff_mem.mpr o0];refine cG ?_;have a2:=fB.same I (s1.trans s2);exists _,rfl,G.x,G.dx,_,rfl,a2.is.ob,rfl,_,rfl,?_;exists n,G,B,ev,.aC ps,rfl,a2.is,so,hB,a2.bA.bE rp,hp,λH' G1 G' es fr a=>q H' G1 G' es fr (a2.trans a rfl)
abbrev HQ:Stmt:=gf kG 13
abbrev Hw:Stmt:=gf kG 14
abbrev HN:Stmt:=gf kG 15
inductive uD(H:Hp)(g:HG)(v:V):Prop
 |mk (r m:Addr) (v0 v1 v3:V) (mt:List (Nat×Nat×Nat)) (ms:List V) (_:v= .ref r) (_:H r=some (.aC [v0,v1,.ref m,v3])) (_:H m=some (.aC ms)) (_:mt.Perm g.met) (_:aE H (mt.map qF) ms)
def uD.bA{H H':Hp}{g:HG}{v:V}(t:bO H H')(h:uD H g v):uD H' g v:=by obtain⟨r,m,v0,v1,v3,mt,ms,e,h1,h2,h3,h4⟩:=h;exists r,m,v0,v1,v3,mt,ms,e,t _ _ h1,t _ _ h2,h3,t.bC h4
inductive P6(C R:Addr)(vs:List V)(H:Hp)(Q:VK)(cO:XK):Prop
 |mk (n:Nat) (G:RG) (B:Nat) (_:vs= [.ref G.x]) (_:cF none C R B H G) (_:dm n G) (_:G.lV= []) (_: ∀ (x:Str) H',aY H H'->x≠ "going"->Q (.str x) H')
def a3w:bP ["self"] ["self"] (bo HQ):=fs
def NC:(["hand", "self"]:aq aA).Nodup:=by decide+kernel
def a0Y(F:bK K "state" "Run.state" HQ f fd)(T:Tx mg)(hC:cu K C)(hR:f9 K R)(oJ:cI P w K mg base R 4 "events" ["self"] (yH C R))(sI:cI P w K mg base C 1 "has_ended" ["self"] (vY C)):bw P w K mg base bh 5 f fd ["self"] (P6 C R):=by obtain⟨g1,oG,fM,dQ,eU⟩:=oJ;obtain⟨g2,iu,cV,dG,cw⟩:=sI;refine F.ok a3w (λvs H Q E h=> ?_) λbd A outer s H vs Q E hr h=> ?_;obtain⟨_,_,_,rfl,_⟩:=h;rfl;obtain⟨n,G,B,rfl,I,so,he,q⟩:=h;exists _,be (cN (cY vy (dw jh rfl T.len boot_len (aD (gg (pv 0) hR.cl fM dQ hr eU .nil bt) aO)) ba (cQ _)) (bn (bQ cy)) dB) (bn (bQ (BH (g9 (dw (zX rfl) rfl T.all boot_all (aD (mD (T:= ["hand"]) (qT ["self"] rfl (by decide+kernel)) rfl (mG (cb (pv 0) rfl)) (λY hY=>by cases hY;exact cC (i:=0) NC rfl (Or.inl rfl)) iE (λY _=>lv) (λY hY=>by cases hY;exact gg (pv 0) hC.cl cV dG (hr.mono (by decide)) cw .nil bt)) aO))) cy cy))),?_;exists _,rfl,G.x,G.dx,_,rfl,I.ob,rfl,?_;dsimp only[fH];exists G,B,rfl,I,so.wY,λl ys H1 ms s1 oP hl pm ry=> ?_;(have ly:ys.length=0:=(by have e1:=ry.len;(have e2:(G.goes.map kY++G.meets.map i7).length=0:=(by have:G.goes.map kY++G.meets.map i7= []:=he;rw[this];rfl));rw[gn,bq,bq]at e1 e2;have:=pm.length_eq;lia));exists l,ys,rfl,.inl (aQ.of hl),_,_,rfl,rfl,_,rfl,bJ (λc=> ?_) λc=> ?_;(have:(0:Int)<(ys.length:Int):=by simpa using c);lia;have I1:=I.same s1;exists _,rfl,G.x,R,G.dx,_,_,rfl,I1.ob,hR.cl,hR.aI,rfl,G.hl,rfl,⟨_,aQ.of I1.hl⟩,?_;have lh:(G.aI.map λg=>V.ref g.x).length=G.aI.length:=bq _;(have hn:G.aI.length<=4:=by have:=so.len;have:=so.n4;lia);refine iq (n:=(G.aI.map λg=>V.ref g.x).length) (λi ys H'=>H'=H1/\ ∃bs:aq Bool,bs.length=i/\ys=bs.map V.bl) ⟨rfl,[],rfl,rfl⟩ ?_ ?_;(·rintro i ys' H' hi ⟨rfl,bs,lb,rfl⟩;(have ce:i<G.aI.length:=by lia);have eg:G.aI[i]? =some G.aI[i]:=br ce;(have lW:(G.aI.map λg=>V.ref g.x)[i]? =some (.ref G.aI[i].x):=by rw[cB,eg];rfl);have J:=I1.aI i _ eg;obtain⟨rv,wv,hx,r1,r2⟩:=J.ob;exists⟨_,_,aQ.of I1.hl,lW⟩,by rw[bq];exact big (by lia),?_;rintro x H2 ⟨rfl,hy⟩;have ex:=hy _ (aQ.of I1.hl);rw[lW]at ex;(injection ex with ex);subst ex;refine mQ ?_;exists _,rfl,G.aI[i].x,G.aI[i].dx,_,rfl,hx,rfl,?_;dsimp only[fH];refine K6 J λb=> ?_;exact Wc.next hi ⟨rfl,bs++ [b],by simp[lb],by rw[cK];rfl⟩);rintro ys' H2 ⟨eH,bs,lb,rfl⟩;subst eH;exists⟨_,aQ.of I1.hl,aV _⟩,λp hp=> ?_;have s2:=aM hp (.aK (bs.map V.bl));exists p,bs,rfl,aQ.of aL,_,rfl,bJ (λc=> ?_) λc=> ?_;exact q _ _ (s1.trans s2) (by decide+kernel);exact q _ _ (s1.trans s2) (by decide+kernel)
inductive P3(C R:Addr)(vs:List V)(H:Hp)(Q:VK)(cO:XK):Prop
 |mk (n:Nat) (G:RG) (B:Nat) (_:vs= [.ref G.x]) (_:cF none C R B H G) (_:dm n G) (_: ∀ (r:Addr) (rs:List V) H',aY H H'->H' r=some (.aC rs)->rs.length=G.aI.length->(∀ (i:Nat) g v,G.aI[i]? =some g->rs[i]? =some v->uD H' g v)->Q (.ref r) H')
def a3u:bP ["self"] ["self"] (bo HN):=fs
def a0U(F:bK K "result" "Run.result" HN f fd)(T:Tx mg)(hC:cu K C)(hR:f9 K R)(VL:cI P w K mg base C 2 "result" ["self"] (PR C)):bw P w K mg base bh 3 f fd ["self"] (P3 C R):=by obtain⟨g2,iu,cV,dG,cw⟩:=VL;refine F.ok a3u (λvs H Q E h=> ?_) λbd A outer s H vs Q E hr h=> ?_;obtain⟨_,_,_,rfl,_⟩:=h;rfl;obtain⟨n,G,B,rfl,I,so,q⟩:=h;exists _,bn (bQ (ju oA rfl T.tuple jL (aD (mD (T:= ["hand"]) (qT ["self"] rfl (by decide+kernel)) rfl (mG (cb (pv 0) rfl)) (λY hY=>by cases hY;exact cC (i:=0) NC rfl (Or.inl rfl)) iE (λY _=>lv) (λY hY=>by cases hY;exact gg (pv 0) hC.cl cV dG hr cw .nil bt)) aO))),?_;exists _,rfl,G.x,R,G.dx,_,_,rfl,I.ob,hR.cl,hR.aI,rfl,G.hl,rfl,⟨_,aQ.of I.hl⟩,?_;have lh:(G.aI.map λg=>V.ref g.x).length=G.aI.length:=bq _;(have hn:G.aI.length<=4:=by have:=so.len;have:=so.n4;lia);refine iq (n:=(G.aI.map λg=>V.ref g.x).length) (λi ys H'=>aY H H'/\ys.length=i/\ ∀ (k:Nat) g v,G.aI[k]? =some g->ys[k]? =some v->uD H' g v) ⟨aY.refl _,rfl,λk g v _ e=>by cases e⟩ ?_ ?_;(·rintro i ys H' hi ⟨sm,ly,hp⟩;(have ce:i<G.aI.length:=by lia);have eg:G.aI[i]? =some G.aI[i]:=br ce;(have lW:(G.aI.map λg=>V.ref g.x)[i]? =some (.ref G.aI[i].x):=by rw[cB,eg];rfl);have J:=(I.same sm).aI i _ eg;obtain⟨rv,wv,hx,r1,r2⟩:=J.ob;exists⟨_,_,aQ.of (sm _ _ I.hl),lW⟩,big (by lia),?_;rintro x H2 ⟨rfl,hy⟩;have ex:=hy _ (aQ.of (sm _ _ I.hl));rw[lW]at ex;(injection ex with ex);subst ex;refine mQ ?_;exists _,rfl,G.aI[i].x,G.aI[i].dx,_,rfl,hx,rfl,?_;dsimp only[fH];have AO:=so.yT (kP ce);have oU:=so.OS (kP ce);exists G.aI[i],B,rfl,J,by lia,by lia,λr m v0 v1 v3 mt ms H3 s3 k1 k2 k3 k4=> ?_;(refine Wc.next hi ⟨sm.trans s3,by simp[ly],λk g v hk hv=> ?_⟩);rw[List.getElem?_append]at hv;split at hv;exact(hp k g v hk hv).bA s3.bA;rename_i hlt;(have xx:k=i:=(by(have h0:k-ys.length<1:=(by by_cases z:k-ys.length<1;exact z;rw[wz (by simp;lia)]at hv;cases hv));lia));subst xx;rw[ly,Nat.sub_self]at hv;cases hv;rw[eg]at hk;cases hk;exists r,m,v0,v1,v3,mt,ms,rfl,k1,k2,k3,k4);rintro ys H1 ⟨sm,ly,hp⟩;exists⟨_,aQ.of (sm _ _ I.hl),aV _⟩,λp E8=> ?_;have s1:=aM E8 (.aK ys);exists p,ys,rfl,.inl ⟨aQ.of aL,λl hl=> ?_⟩;have s2:=aM hl (.aC ys);exact q l ys _ (sm.trans (s1.trans s2)) aL (by lia) λi g v hg hv=>(hp i g v hg hv).bA (s1.trans s2).bA
inductive Il(C R:Addr)(vs:List V)(H:Hp)(Q:VK)(cO:XK):Prop
 |mk (n:Nat) (G:RG) (B:Nat) (_:vs= [.ref G.x]) (_:cF none C R B H G) (_:dm n G) (_:G.lV= []) (_: ∀ (r:Addr) (rs:List V) H',aY H H'->H' r=some (.aC rs)->rs.length=G.aI.length->(∀ (i:Nat) g v,G.aI[i]? =some g->rs[i]? =some v->uD H' g v)->Q (.ref r) H')
def a3f:bP ["self"] ["self"] (bo Hw):=fs
def a0t(F:bK K "end" "Run.end" Hw f fd)(hR:f9 K R)(jp:cI P w K mg base R 5 "state" ["self"] (P6 C R))(Fd:cI P w K mg base R 3 "result" ["self"] (P3 C R)):bw P w K mg base bh 6 f fd ["self"] (Il C R):=by obtain⟨g1,oG,fM,dQ,eU⟩:=jp;obtain⟨g2,iu,cV,dG,cw⟩:=Fd;refine F.ok a3f (λvs H Q E h=> ?_) λbd A outer s H vs Q E hr h=> ?_;obtain⟨_,_,_,rfl,_⟩:=h;rfl;obtain⟨n,G,B,rfl,I,so,he,q⟩:=h;exists _,be (cN (cY jt (gg (pv 0) hR.cl fM dQ hr eU .nil bt) cy (cQ _)) BK dB) (bn (bQ (gg (pv 0) hR.cl cV dG (hr.mono (by decide)) cw .nil bt))),?_;exists _,rfl,G.x,G.dx,_,rfl,I.ob,rfl,?_;dsimp only[fH];exists n,G,B,rfl,I,so,he,λx H1 s1 hx=>⟨rfl,_,rfl,bJ (λc=> ?_) λc=> ?_⟩;(have z:V.str x=V.str "going":=by simpa using c);(injection z with z);exact absurd z hx;exists _,rfl,G.x,G.dx,_,rfl,s1 _ _ I.ob,rfl,?_;dsimp only[fH];exists n,G,B,rfl,I.same s1,so,λr rs H' s2 h1 h2 h3=>q r rs H' (s1.trans s2) h1 h2 h3
abbrev vO:Stmt:=gf kG 0
def a1I{X:Cx}(K:W.Frag)(hK:X.K=K){tl:TE}(hl:PE X l tl):PI X tg l (MB K tl):=hK▸mG hl
/---/def i8(n i j:Nat):List (Nat×Nat):=((List.range i).flatMap λa=>((List.range n).filter (· ≠a)).map λb=>(a,b))++((List.range j).filter (· ≠i)).map λb=>(i,b)
structure Jm(bB:List (List bp))(ro:Option Nat)(G:RG):Prop where
 room:G.room=ro
 len:G.aI.length=bB.length
 aI: ∀ (i:Nat) (g:HG) (ds:List bp),G.aI[i]? =some g->bB[i]? =some ds->g.rows=ds/\g.wt= .go/\g.sd=0/\g.td=0/\g.aR= []/\g.met= []
 bf:G.bf.map (λw=>(w.s,w.t))=i8 bB.length bB.length 0
 empty: ∀w∈G.bf,w.ts= []
def a1q{n i:Nat}:i8 n i n=i8 n (i+1) 0:=by unfold i8;rw[zF,List.flatMap_append];simp
def Gv{n i j:Nat}:i8 n i (j+1)=i8 n i j++(if j≠i then [(i,j)]else []):=by unfold i8;rw[zF,uq,cK,List.append_assoc];(congr 2);by_cases h:j=i;simp[h];simp[h]
def a1p: ∀n∈List.range 5,∀i∈List.range n,∀j∈List.range n,(i,j) ∉i8 n i j:=by decide
def a1o: ∀n∈List.range 5,(i8 n n 0).Nodup:=by decide
def a1n: ∀n∈List.range 5,∀p∈i8 n n 0,p.1<n/\p.2<n/\p.1≠p.2:=by decide
def a1m: ∀n∈List.range 5,∀a∈List.range n,∀b∈List.range n,a≠b->(a,b)∈i8 n n 0:=by decide
def MZ{x:ae}{fs:aq (aA×V)}{H:Hp}(hx:H x=some (.bv C dx fs))(k:dL x H H'):bO H H':=λb xs e=>k b _ (λz=>by subst z;rw[hx]at e;cases e) e
/---/def vF(ro:Option Nat):List (Str×V):= [("room",hJ ro)]
/---/def vG(ro:Option Nat)(p:Addr):List (Str×V):= [("room",hJ ro),("hands",.ref p)]
/---/def vH(ro:Option Nat)(p d:Addr):List (Str×V):= [("room",hJ ro),("hands",.ref p),("ways",.ref d)]
/---/def yk(ro:Option Nat)(p d h:Addr):List (Str×V):= [("room",hJ ro),("hands",.ref p),("ways",.ref d),("history",.ref h)]
def a1S(ro:ap Nat):bU "room" (hJ ro) []=vF ro:=rfl
def a1T(ro:ap Nat)(p:ae):bU "hands" (.ref p) (vF ro)=vG ro p:=rfl
def a1U(ro:ap Nat)(p d:ae):bU "ways" (.ref d) (vG ro p)=vH ro p d:=rfl
def a1V(ro:ap Nat)(p d h:ae):bU "history" (.ref h) (vH ro p d)=yk ro p d h:=rfl
/---/def BP:Option Nat->PV
 |none=> .at .aN
 |some n=> .at (.int n)
def a2J(ro:ap Nat):aJ H (BP ro) (hJ ro):=by cases ro<;>exact rfl
def XX{ws:aq bX}{i j:Nat}(h:(i,j) ∉ws.map λw=>(w.s,w.t)):bZ (ws.map λw=>([Sum.inl (w.s:Int),Sum.inl (w.t:Int)],V.ref w.a)) ([Sum.inl (i:Int),Sum.inl (j:Int)]:aq aZ)=none:=by rw[IQ];cases e:ws.find? λw=>decide (w.s=i/\w.t=j)with|none=>rfl|some w=>have h1:=uw e;have h2:=List.find?_some e;simp only[lT]at h2;exact absurd (List.mem_map.mpr ⟨w,h1,by rw[h2.1,h2.2]⟩) h
def YX{x:ae}{Hb:Hp}{ds:aq bp}(hb:Hb=upd (upd H dx (.bR x)) x (.bv C dx []))(hx:H x=none)(Ez:H dx=none)(nx:dx≠x)(rv:aJ H (.aC (ds.map bp.pv)) v)(m:om C dx x Hb H' (hf v .aN (.ref he) (.ref sa) 0 0 (.ref po) (.ref ti) (.ref ar) (.ref me)) [(me,.aK []),(ar,.dK []),(ti,.dK []),(po,.dK []),(sa,.aK []),(he,.dK [])]):aY H H'/\bG C 0 H' ⟨x,dx,he,sa,po,ti,ar,me,ds,.go,0,0,[],[]⟩/\ ∀c∈HG.cells ⟨x,dx,he,sa,po,ti,ar,me,ds,.go,0,0,[],[]⟩,H c=none:=by(have sb:aY H Hb:=(by rw[hb];exact(aM Ez _).trans (aM (by rw[aP nx.symm];exact hx) _)));have s1:aY H H':=λb o e=>m.old b o (λz=>by subst z;rw[hx]at e;cases e) (sb b o e);have fresh: ∀c,Hb c=none->H c=none:=λc e=>sb.free e;have nd:=m.nd;have at_:=m.at_;have a1:=at_ (he,.dK []) (by simp);have a2:=at_ (sa,.aK []) (by simp);have a3:=at_ (po,.dK []) (by simp);have a4:=at_ (ti,.dK []) (by simp);have a5:=at_ (ar,.dK []) (by simp);have a6:=at_ (me,.aK []) (by simp);exists s1,⟨⟨v,.aN,m.ob,s1.bE rv,rfl⟩,⟨[],a1.1,oj,λp hp=>by cases hp⟩,⟨[],a2.1,aV _⟩,⟨[],a3.1,rfl⟩,⟨[],a4.1,λp hp=>(by cases hp),aV _⟩,⟨[],a5.1,λp hp=>(by cases hp),aV _⟩,⟨[],a6.1,aE.nil⟩,?_⟩,?_;show([x,he,sa,po,ti,ar,me]:aq ae).Nodup;rw[lP];exists λhm=> ?_,?_;simp only[dN,eB,eJ]at hm;rcases hm with e|e|e|e|e|e;exact a1.2.2 e.symm;exact a2.2.2 e.symm;exact a3.2.2 e.symm;exact a4.2.2 e.symm;exact a5.2.2 e.symm;exact a6.2.2 e.symm;have e:([he,sa,po,ti,ar,me]:aq ae)=([me,ar,ti,po,sa,he]:aq ae).reverse:=rfl;rw[e];exact List.pairwise_reverse.mpr (nd.imp λh=>h.symm);intro c hc;simp only[HG.cells,dN,eB,eJ]at hc;rcases hc with rfl|rfl|rfl|rfl|rfl|rfl|rfl;exact hx;exact fresh _ a1.2.1;exact fresh _ a2.2.1;exact fresh _ a3.2.1;exact fresh _ a4.2.1;exact fresh _ a5.2.1;exact fresh _ a6.2.1
structure Js(P:Program)(w:World)(K:W.Frag)(mg:Str->Option Value)(base:Heap)(C:Addr):Prop where
 ex: ∃f fd,Mk K C f/\bw P w K mg base bh 1 f fd ["self", "rows"] (PQ C)/\gQ K fd ["self", "rows"] []
 at_:mg "Hand"=some (.ref C)
inductive P1(C R:Addr)(vs:List V)(H:Hp)(Q:VK)(cO:XK):Prop
 |mk (x dx:Addr) (bB:List (List bp)) (ro:Option Nat) (pv:V) (_:vs= [.ref x,pv,hJ ro]) (_:H x=some (.bv R dx [])) (_:aJ H (kl bB) pv) (_:iG (kl bB)=true) (_:bB.length<=4) (_:(∀n,ro=some n->n<=99)) (_: ∀G H',G.x=x->cF none C R 0 H' G->Jm bB ro G->(∀b o,b≠x->H b=some o->H' b=some o)->(∀c∈G.cells,c=x\/H c=none)->Q .aN H')
def Pi:bP ["self", "program", "room", "numbers"] ["self", "program", "room"] (bo vO):=fs
def Zx:(["script", "self", "program", "room", "numbers"]:aq aA).Nodup:=by decide+kernel
def NF:(["one", "other", "self", "program", "room", "numbers"]:aq aA).Nodup:=by decide+kernel
def a0S(F:bK K "__init__" "Run.__init__" vO f fd)(T:Tx mg)(hR:f9 K R)(sD:Js P w K mg base C)(Vv:cP P w K mg base bh 8 "check_program" ["thing"] (yG iG))(Vw:cP P w K mg base bh 3 "check_room" ["thing"] (yG qx)):bw P w K mg base bh 9 f fd ["self", "program", "room"] (P1 C R):=by
 obtain⟨f1,fd1,mk1,dQ,eU⟩:=sD.ex;refine F.ok Pi (λvs H Q E h=> ?_) λbd A outer s H vs Q E hr h=> ?_;obtain⟨_,_,_,_,_,rfl,_⟩:=h;rfl;obtain⟨x,dx,bB,ro,pv0,rfl,hx,rp,E9,h4,xF,q⟩:=h;(have hu:(A.deeper (envOfC "Run.__init__" (bo vO) s.heap.objs.size f bd)).units+1<cLine:=by have:=hr.un;lia);exists _,be (fg (cj Vv hr rfl bt (aD (pv 1) aO))) (be (fg (cj Vw hr rfl bt (aD (pv 2) aO))) (be (gO (pv 0) (pv 2) rfl) (be (gO (pv 0) (mD (T:= ["script"]) (qT ["self", "program", "room", "numbers"] rfl (by decide+kernel)) rfl (ye (pv 1)) (λY hY=>by cases hY;exact cC (i:=0) Zx rfl (Or.inl rfl)) iE (λY _=>lv) (λY hY=>by cases hY;exact a1A mk1 dQ (hr.mono (by decide)) rfl sD.at_ eU .nil bt (aD (pv 0) aO))) rfl) (be (cA (i:=3) Pi.nd rfl (Or.inr rfl) (ju (RE rfl) rfl T.list boot_list (aD (ju RF rfl T.range boot_range (aD (dw jh rfl T.len boot_len (aD (pv 1) aO)) aO)) aO))) (be (gO (pv 0) (a1y (n1:= "one") (n2:= "other") hu (lG (bo vO) ["self", "program", "room", "numbers"] rfl rfl (by decide+kernel)) rfl (mG (pv 3)) (λY hY=>by cases hY;exact cC (i:=0) NF rfl (Or.inl rfl)) (λY hY=>by cases hY;exact cC (i:=1) NF rfl (Or.inl rfl)) (λY hY=>by cases hY;exact a1I K rfl (pv 5)) (λY hY=>by cases hY;exact qM (cY tH (pv 0) (pv 1) (cQ _))) (λY hY=>by cases hY;exact cz (aD (pv 0) (aD (pv 1) aO))) (λY hY=>by cases hY;exact fO aO)) rfl) (bn (gO (pv 0) (fO aO) rfl))))))),?_;have z0:0<=sizeLine:=fQ _;(have z2:2<=sizeLine:=by decide);(have hroom:qx (BP ro)=true:=(by cases e:ro with|none=>rfl|some n=>have:=xF n e;simp only[BP,qx,gR,lT];lia));exists _,rfl,kl bB,pv0,rfl,rp,E9,λH1 s1=> ?_;exists _,rfl,BP ro,hJ ro,rfl,a2J ro,hroom,λH2 s2=> ?_;have mI:=s1.trans s2;exists _,rfl,_,rfl,x,R,dx,[],rfl,mI _ _ hx,hR.cl,hR.room,by decide,?_;rw[a1S];(have k3:dL x H (upd H2 x (.bv R dx (vF ro))):=λb o n e=>by rw[aP n];exact mI b o e);have jq:upd H2 x (.bv R dx (vF ro)) x=some (.bv R dx (vF ro)):=aL;generalize upd H2 x (.bv R dx (vF ro))=H3 at k3 jq⊢;have rp3:=(MZ hx k3).bE rp;obtain⟨pa,vs,rfl,i5,pE⟩:=rp3.aC;have vk:=pE.len;rw[bq]at vk;exists _,rfl,pa,rfl,⟨vs,aS.of i5⟩,?_;refine iq (n:=vs.length) (λi ys H'=>aY H3 H'/\ ∃gs:List HG,gs.length=i/\ys=(gs.map λg=>V.ref g.x)/\(∀ (k:Nat) g,gs[k]? =some g->bG C 0 H' g/\(∀c∈g.cells,H3 c=none)/\ ∀ds,bB[k]? =some ds->g.rows=ds/\g.wt= .go/\g.sd=0/\g.td=0/\g.aR= []/\g.met= [])/\(gs.map HG.cells).Pairwise λc d=> ∀b∈c,b∉d) ⟨aY.refl _,[],rfl,rfl,(λk g e=>by cases e),List.Pairwise.nil⟩ ?_ ?_;(·rintro i ys H' hi ⟨sm,gs,lg,rfl,ql,pw⟩;(have ce:i<bB.length:=by lia);exists⟨vs,vs[i],aS.of (sm _ _ i5),br hi⟩,by rw[bq];exact big (by lia),?_;rintro v H4 ⟨rfl,hy⟩;have ev:=hy vs (aS.of (sm _ _ i5));obtain⟨p,ep,lC⟩:=pE.get ev;rw[cB,br ce]at ep;(injection ep with ep);subst ep;refine mQ ?_;exists _,rfl,λx' uP iy VA nx'=> ?_;exists x',uP,v,rfl,aL,λhe sa po ti ar me H5 md=>⟨rfl,?_⟩;obtain⟨s5,J5,f5⟩:=YX rfl iy VA nx' (sm.bE lC) md;(refine Wc.next hi ⟨sm.trans s5,gs++ [⟨x',uP,he,sa,po,ti,ar,me,bB[i],.go,0,0,[],[]⟩],by simp[lg],by rw[cK];rfl,λk g hk=> ?_,?_⟩);rw[List.getElem?_append]at hk;split at hk;obtain⟨J,f,e⟩:=ql k g hk;exists J.same s5,f,e;rename_i hlt;(have xx:k=i:=(by by_cases z:k-gs.length<1;lia;rw[wz (by simp;lia)]at hk;cases hk));subst xx;rw[lg,Nat.sub_self]at hk;cases hk;exists J5,λc hc=>sm.free (f5 c hc),λds jS=> ?_;rw[br ce]at jS;cases jS;exists rfl,rfl,rfl,rfl,rfl,rfl;rw[cK,Df];exists pw,zE _ _,λc hc d hd b hb=> ?_;obtain⟨g,hg,rfl⟩:=List.mem_map.mp hc;obtain⟨k,hk,ek⟩:=gT hg;obtain⟨J,_,_⟩:=ql k g (by rw[br hk,ek]);obtain⟨u,dM⟩:=J.live b hb;simp only[bH,fZ,ip]at hd;subst hd;intro cw;rw[f5 b cw]at dM;cases dM);rintro ys H4 ⟨qV,gs,lg,rfl,ql,pw⟩;exists⟨vs,aS.of (qV _ _ i5),aV _⟩,λp hp=> ?_;have s5:=aM hp (.aK (gs.map λg=>V.ref g.x));have Ic:=qV.trans s5;exists _,rfl,x,R,dx,_,rfl,Ic _ _ jq,hR.cl,hR.aI,(by show 1<1000;decide),?_;rw[a1T];have mo:=Ic _ _ jq;have k6:dL x (upd H4 p (.aK (gs.map λg=>V.ref g.x))) (upd (upd H4 p (.aK (gs.map λg=>V.ref g.x))) x (.bv R dx (vG ro p))):=dL.upd _;have eG:upd (upd H4 p (.aK (gs.map λg=>V.ref g.x))) x (.bv R dx (vG ro p)) x=some (.bv R dx (vG ro p)):=aL;generalize upd (upd H4 p (.aK (gs.map λg=>V.ref g.x))) x (.bv R dx (vG ro p))=H6 at k6 eG⊢;have t6:=MZ mo k6;have Wu:=t6 _ _ (Ic _ _ i5);exists _,rfl,pa,vs,rfl,.inr (aS.of Wu),vs.length,rfl,λr xD=>⟨r,vs.length,rfl,aL,by lia,λl hl=> ?_⟩;have s7:=(aM xD (.nR 0 vs.length)).trans (aM hl (.aK ((List.range vs.length).map λ(i:Nat)=>V.int i)));have dH:upd (upd H6 r (.nR 0 vs.length)) l (.aK ((List.range vs.length).map λ(i:Nat)=>V.int i)) l=some (.aK ((List.range vs.length).map λ(i:Nat)=>V.int i)):=aL;generalize upd (upd H6 r (.nR 0 vs.length)) l (.aK ((List.range vs.length).map λ(i:Nat)=>V.int i))=H7 at s7 dH⊢;(have ln:((List.range vs.length).map λ(i:Nat)=>V.int i).length=vs.length:=by simp);exists _,rfl,l,rfl,⟨_,aQ.of dH⟩,.dT [],.inr rfl,λD hD=> ?_;have jr:=s7 _ _ eG;(have EM:l≠D:=λz=>by subst z;rw[dH]at hD;cases hD);have jU:vs.length∈List.range 5:=List.mem_range.mpr (by lia);(have XC: ∃Iv:Nat->Nat->Hp->Prop,Iv=λi j H'=>aY H7 H'/\ ∃ws:List bX,H' D=some (.dT (ws.map λw=>([Sum.inl (w.s:Int),Sum.inl (w.t:Int)],V.ref w.a)))/\(ws.map λw=>(w.s,w.t))=i8 vs.length i j/\(∀w∈ws,w.ts= []/\H' w.a=some (.aK [])/\H7 w.a=none/\w.a≠D)/\(ws.map bX.a).Nodup/\ws.length<=100:=⟨_,rfl⟩);obtain⟨Iv,si⟩:=XC;(have a1Q: ∀n∈List.range 5,∀i∈List.range 5,∀j∈List.range 5,(i8 n i j).length<=50:=by decide);exists λi m H'=>i<=vs.length/\m=vs.length-i/\Iv i 0 H',⟨vs.length,fQ _,rfl,?_⟩,λi m H' ⟨hi,hm,iv⟩=> ?_;rw[si];exists aM hD _,[],aL,rfl,(λw hw=>by cases hw),oj,fQ _;by_cases ei:i=vs.length;(rotate_left);·
  have hlt:i<vs.length:=by lia
  have sH:aY H7 H':=by rw[si]at iv;exact iv.1
  have el:((List.range vs.length).map λ(i:Nat)=>V.int i)[i]? =some (.int i):=by rw[cB,zA hlt];rfl
  refine .inr ⟨⟨_,_,aQ.of (sH _ _ dH),el⟩,?_⟩
  rintro y H8 ⟨rfl,hy⟩
  have ey:=hy _ (aQ.of (sH _ _ dH))
  rw[el]at ey
  injection ey with ey
  subst ey
  exists _,rfl,l,rfl,⟨_,aQ.of (sH _ _ dH)⟩,λj n' H9=>j<=vs.length/\n'=vs.length-j/\Iv i j H9,⟨vs.length,fQ _,rfl,iv⟩,λj n' H9 ⟨hj,L7,XB⟩=> ?_
  have MS:=XB
  rw[si]at MS
  obtain⟨s9,ws,sC,ep,mn,xW,F1⟩:=MS
  by_cases ej:j=vs.length
  ·refine .inl ⟨⟨_,aQ.of (s9 _ _ dH),by rw[ln];lia⟩,vs.length- (i+1),by lia,by lia,rfl,?_⟩
   rw[si]
   exists s9,ws,sC,?_,mn,xW,F1
   rw[ep,ej];exact a1q
  ·have LQ:j<vs.length:=by lia
   have Kz:((List.range vs.length).map λ(i:Nat)=>V.int i)[j]? =some (.int j):=by rw[cB,zA LQ];rfl
   refine .inr ⟨⟨_,_,aQ.of (s9 _ _ dH),Kz⟩,?_⟩
   rintro y kN ⟨rfl,hy⟩
   have ey:=hy _ (aQ.of (s9 _ _ dH))
   rw[Kz]at ey
   injection ey with ey
   subst ey
   exists _,rfl,_,rfl,rfl,_,rfl,bJ (λc=> ?_) λc=> ?_
   ·have hne:j≠i:=λz=>by
     subst z
     exact absurd c (by simp)
    exists _,rfl,_,rfl,z2,λkt kA=>⟨z0,λzl ve=> ?_⟩
    have jw:=aM kA (.aC [.int (i:Int),.int (j:Int)])
    have Hg:=aM ve (.aK [])
    have UB:=Hg _ _ (jw _ _ sC)
    have hnew:(i,j) ∉ws.map λw=>(w.s,w.t):=by
     rw[ep]
     exact a1p _ jU i (List.mem_range.mpr hlt) j (List.mem_range.mpr LQ)
    have NV:zl≠D:=λz=>by subst z;rw[jw _ _ sC]at ve;cases ve
    exists _,gl.t (k:= [Sum.inl (i:Int),Sum.inl (j:Int)]) UB (Hg _ _ aL) (big (by rw[bq];lia)),vs.length- (j+1),by lia,by lia,rfl,?_
    rw[yg _ (XX hnew),si]
    have Qq: ∀b o,b≠D->kN b=some o->upd (upd (upd kN kt (.aC [.int (i:Int),.int (j:Int)])) zl (.aK [])) D (.dT (ws.map (λw=>([Sum.inl (w.s:Int),Sum.inl (w.t:Int)],V.ref w.a))++ [([Sum.inl (i:Int),Sum.inl (j:Int)],V.ref zl)])) b=some o:=λb o nb e=>by
     rw[aP nb];exact Hg _ _ (jw _ _ e)
    exists λb o e=>Qq b o (λz=>by subst z;rw[hD]at e;cases e) (s9 b o e),ws++ [⟨i,j,zl,[]⟩],?_,?_,λw' dW=> ?_,?_,?_
    ·rw[aL,cK];rfl
    ·rw[cK,ep,Gv,aT hne];rfl
    ·rcases List.mem_append.mp dW with dW|dW
     ·obtain⟨e1,e2,e3,e4⟩:=mn w' dW
      exists e1,Qq _ _ e4 e2,e3,e4
     ·rw[ip]at dW
      subst dW
      exists rfl,by rw[aP NV];exact aL,s9.free (jw.free ve),NV
    ·rw[cK]
     refine qH xW λgC=> ?_
     obtain⟨w',dW,e⟩:=List.mem_map.mp gC
     obtain⟨_,e2,_,_⟩:=mn w' dW
     have e':w'.a=zl:=e
     rw[e']at e2
     rw[jw _ _ e2]at ve;cases ve
    ·have e1:(ws++ [(⟨i,j,zl,[]⟩:bX)]).length=(i8 vs.length i (j+1)).length:=by
      rw[Gv,aT hne,gn,gn,<-ep,bq];rfl
     rw[e1]
     exact dS (a1Q _ jU i (List.mem_range.mpr (by lia)) (j+1) (List.mem_range.mpr (by lia))) (by decide)
   ·have VD: ¬j≠i:=λz=>c (by simp;lia)
    exists vs.length- (j+1),by lia,by lia,rfl,?_
    rw[si]
    exists s9,ws,sC,?_,mn,xW,F1
    rw[ep,Gv,aU VD,kO]
 subst ei;have MQ:=iv;rw[si]at MQ;obtain⟨s9,ws,sC,ep,mn,xW,F1⟩:=MQ;refine .inl ⟨⟨_,aQ.of (s9 _ _ dH),by rw[ln];exact aV _⟩,?_⟩;have WY:=s9 _ _ jr;exists _,rfl,x,R,dx,_,rfl,WY,hR.cl,hR.bf,(by show 2<1000;decide),?_;rw[a1U];have qz:dL x H' (upd H' x (.bv R dx (vH ro p D))):=dL.upd _;have Fy:upd H' x (.bv R dx (vH ro p D)) x=some (.bv R dx (vH ro p D)):=aL;generalize upd H' x (.bv R dx (vH ro p D))=kN at qz Fy⊢;exists z0,λhh lZ=> ?_;have jw:=aM lZ (.aK []);exists _,rfl,x,R,dx,_,rfl,jw _ _ Fy,hR.cl,hR.EH,(by show 3<1000;decide),?_;rw[a1V];have kF:dL x (upd kN hh (.aK [])) (upd (upd kN hh (.aK [])) x (.bv R dx (yk ro p D hh))):=dL.upd _;have AZ: ∀b o,b≠x->upd H4 p (.aK (gs.map λg=>V.ref g.x)) b=some o->upd (upd kN hh (.aK [])) x (.bv R dx (yk ro p D hh)) b=some o:=λb o n e=>kF b o n (jw _ _ (qz b o n (s9 _ _ (s7 _ _ (k6 b o n e)))));have MV: ∀b o,b≠x->H' b=some o->upd (upd kN hh (.aK [])) x (.bv R dx (yk ro p D hh)) b=some o:=λb o n e=>kF b o n (jw _ _ (qz b o n e));have tF:bO H4 (upd (upd kN hh (.aK [])) x (.bv R dx (yk ro p D hh))):=λb xs e=>AZ b _ (λz=>by subst z;rw[qV _ _ jq]at e;cases e) (s5 _ _ e);(have x9:p≠x:=λz=>by subst z;rw[qV _ _ jq]at hp;cases hp);(have Bu:D≠x:=λz=>by subst z;rw[jr]at hD;cases hD);(have xY:hh≠x:=λz=>by subst z;rw[Fy]at lZ;cases lZ);have E4:H7 p=some (.aK (gs.map λg=>V.ref g.x)):=s7 _ _ (k6 _ _ x9 aL);(have Zg:D≠p:=λz=>by subst z;rw[E4]at hD;cases hD);have xC:=qz _ _ x9 (s9 _ _ E4);have UA:=qz _ _ Bu sC;(have ZF:hh≠p:=λz=>by subst z;rw[xC]at lZ;cases lZ);(have ZE:hh≠D:=λz=>by subst z;rw[UA]at lZ;cases lZ);(have Bi: ∀g∈gs,∀c∈g.cells,(∃u,H4 c=some u)/\H3 c=none:=λg hg c hc=>(by obtain⟨k,hk,ek⟩:=gT hg;obtain⟨J,f,_⟩:=ql k g (by rw[br hk,ek]);exists J.live c hc,f c hc));(have cx: ∀g∈gs,∀c∈g.cells,c≠x:=λg hg c hc z=>(by subst z;rw[(Bi g hg c hc).2]at jq;cases jq));(have Nf: ∀g∈gs,∀c∈g.cells,∃u,H7 c=some u:=λg hg c hc=>(by obtain⟨⟨u,dM⟩,_⟩:=Bi g hg c hc;exists u,s7 _ _ (k6 _ _ (cx g hg c hc) (s5 _ _ dM))));(have wx: ∀w'∈ws,w'.a≠x:=λw' dW z=>(by have:=(mn w' dW).2.2.1;rw[z,jr]at this;cases this));(have cg: ∀c∈gs.map HG.cells,∀b∈c,∃g∈gs,b∈g.cells:=λc hc b hb=>(by obtain⟨g,hg,rfl⟩:=List.mem_map.mp hc;exists g,hg,hb));refine q ⟨x,dx,p,D,hh,ro,gs,ws⟩ _ rfl ⟨aL,?_,?_,⟨[],?_,aV _⟩,λi g hg=> ?_,λj w' hj=> ?_,?_⟩ ⟨rfl,by show gs.length=bB.length;lia,λi g ds hg hd=>(ql i g hg).2.2 ds hd,?_,λw' dW=>(mn w' dW).1⟩ (λb o n e=> ?_) λc hc=> ?_;exact AZ _ _ x9 aL;exact MV _ _ Bu sC;exact kF _ _ xY aL;have eS:g∈gs:=dR hg;refine(ql i g hg).1.frame tF λb hb o e=>AZ b o (cx g eS b hb) (s5 _ _ e);have j9:w'∈ws:=dR hj;obtain⟨e1,e2,e3,e4⟩:=mn w' j9;exists[],MV _ _ (wx w' j9) e2,?_;rw[e1];exact aE.nil;exists ?_,?_,?_,xW,?_,pw;show([x,p,D,hh]:List Addr).Nodup;simp only[lP,dN,eB,eJ,not_or,oj,kj,not_false_eq_true];exists⟨x9.symm,Bu.symm,xY.symm⟩,⟨Zg.symm,ZF.symm⟩,ZE.symm;intro b hb gC;obtain⟨w',dW,e⟩:=List.mem_map.mp gC;obtain⟨_,e2,e3,e4⟩:=mn w' dW;simp only[RG.bR,dN,eB,eJ]at hb;rcases hb with rfl|rfl|rfl|rfl;exact wx w' dW e;rw[e,E4]at e3;cases e3;exact e4 e;have:=qz _ _ (wx w' dW) e2;rw[e,lZ]at this;cases this;intro b hb c hc Eu;obtain⟨g,hg,oH⟩:=cg c hc b Eu;obtain⟨u,dM⟩:=Nf g hg b oH;simp only[RG.bR,dN,eB,eJ]at hb;rcases hb with rfl|rfl|rfl|rfl;exact cx g hg _ oH rfl;obtain⟨⟨u4,Ms⟩,_⟩:=Bi g hg _ oH;rw[hp]at Ms;cases Ms;rw[hD]at dM;cases dM;have:=qz _ _ (cx g hg _ oH) (s9 _ _ dM);rw[lZ]at this;cases this;intro b hb c hc Eu;obtain⟨g,hg,oH⟩:=cg c hc b Eu;obtain⟨u,dM⟩:=Nf g hg b oH;obtain⟨w',dW,rfl⟩:=List.mem_map.mp hb;rw[(mn w' dW).2.2.1]at dM;cases dM;rw[ep,vk];exact AZ b o n (s5 _ _ (qV _ _ (k3 b o n e)));((have NM: ∀b,b≠x->H7 b=none->H b=none:=λb n e=>(by cases z:H b with|none=>rfl|some o=>rw[s7 _ _ (k6 b o n (s5 _ _ (qV _ _ (k3 b o n z))))]at e;cases e));simp only[RG.cells,RG.bR,rG,dN,eB,eJ,zC]at hc;(rcases hc with(rfl|rfl|rfl|rfl)|hc|⟨c',cr,hc⟩);exact .inl rfl;(refine .inr ?_;cases z:H c with|none=>rfl|some o=>rw[qV _ _ (k3 _ o x9 z)]at hp;cases hp);exact .inr (NM _ Bu hD);(refine .inr ?_;cases z:H c with|none=>rfl|some o=>rw[qz _ o xY (s9 _ _ (s7 _ _ (k6 _ o xY (s5 _ _ (qV _ _ (k3 _ o xY z))))))]at lZ;cases lZ);obtain⟨w',dW,rfl⟩:=List.mem_map.mp hc;exact .inr (NM _ (wx w' dW) (mn w' dW).2.2.1);obtain⟨g,hg,oH⟩:=cg c' cr c hc;refine .inr ?_;cases z:H c with|none=>rfl|some o=>have:=(Bi g hg c oH).2;rw[k3 _ o (cx g hg c oH) z]at this;cases this)
abbrev Sn:=List (Nat×Nat×Nat×Int)
structure MI(way:Nat->Nat->List Th)(met:Nat->List (Nat×Nat×Nat))(post:Nat->List Tk)(sd td:Nat->Nat)(sn:Sn):Prop where
 keys:(sn.map λe=>(e.1,e.2.1)).Nodup
 lt: ∀e∈sn,e.2.1<sd e.1
 tD: ∀a b,∀th∈way a b,(a,th.k,b,th.m)∈sn
 qG: ∀t,∀x∈met t,∃m,(x.2.1,x.2.2,t,m)∈sn
 all: ∀e∈sn,(∃th∈way e.1 e.2.2.1,th.k=e.2.1)\/(∃n,(n,e.1,e.2.1)∈met e.2.2.1)
 ahead: ∀t,∀x∈met t,∀m,(x.2.1,x.2.2,t,m)∈sn-> ∀th∈way x.2.1 t,th.m=m->x.2.2<th.k
 later: ∀t,∀x∈met t,∀m,(x.2.1,x.2.2,t,m)∈sn-> ∀q∈post t,gU q.wh q.ma x.2.1 m=true->x.1<q.n
 order: ∀t,∀x∈met t,∀y∈met t,x.2.1=y.2.1-> ∀m,(x.2.1,x.2.2,t,m)∈sn->(y.2.1,y.2.2,t,m)∈sn->x.2.2<y.2.2->x.1<y.1
 nums: ∀t,((met t).map λx=>x.1).Nodup/\ ∀x∈met t,x.1<td t/\ ∀q∈post t,q.n≠x.1
 pairs: ∀t,((met t).map λx=>(x.2.1,x.2.2)).Nodup
def sS{sn:Sn}(h:(sn.map λe=>(e.1,e.2.1)).Nodup){a k b b':Nat}{m m':Int}(h1:(a,k,b,m)∈sn)(h2:(a,k,b',m')∈sn):b=b'/\m=m':=by induction sn with|nil=>cases h1|cons e sn ih=>simp only[bH,lP]at h;rcases List.mem_cons.mp h1 with e1|ko;rcases List.mem_cons.mp h2 with e2|kq;rw[<-e1]at e2;simp only[jf,true_and]at e2;exists e2.1.symm,e2.2.symm;refine absurd (List.mem_map.mpr ⟨(a,k,b',m'),kq,?_⟩) h.1;rw[<-e1];rcases List.mem_cons.mp h2 with e2|kq;refine absurd (List.mem_map.mpr ⟨(a,k,b,m),ko,?_⟩) h.1;rw[<-e2];exact ih h.2 ko kq
section
variable{way pM:Nat->Nat->aq Th}{met met':Nat->aq (Nat×Nat×Nat)}{post post':Nat->aq Tk}{sd yD td yR:Nat->Nat}{sn:Sn}
def MI.same(I:MI way met post sd td sn)(e1: ∀a b,pM a b=way a b)(e2: ∀t,met' t=met t)(e3: ∀t,post' t=post t)(e4: ∀t,yD t=sd t)(e5: ∀t,yR t=td t):MI pM met' post' yD yR sn:=by have h1:pM=way:=funext λa=>funext λb=>e1 a b;have h2:met'=met:=funext e2;have h3:post'=post:=funext e3;have h4:yD=sd:=funext e4;have h5:yR=td:=funext e5;subst h1;subst h2;subst h3;subst h4;subst h5;exact I
def MI.opened(I:MI way met post sd td sn){t0:Nat}{q0:Tk}(hq:q0.n=td t0)(e3: ∀t,post' t=if t=t0 then post t++ [q0]else post t)(e5: ∀t,yR t=if t=t0 then td t+1 else td t):MI way met post' sd yR sn:=by exists I.keys,I.lt,I.tD,I.qG,I.all,I.ahead,λt x hx m hm q eV hf=> ?_,I.order,λt=>⟨(I.nums t).1,λx hx=> ?_⟩,I.pairs;rw[e3]at eV;split at eV;rename_i e;rcases List.mem_append.mp eV with eV|eV;exact I.later t x hx m hm q eV hf;rw[ip]at eV;subst eV;rw[hq,<-e];exact((I.nums t).2 x hx).1;exact I.later t x hx m hm q eV hf;obtain⟨h1,h2⟩:=(I.nums t).2 x hx;rw[e5,e3];split;rename_i e;exists by lia,λq eV=> ?_;rcases List.mem_append.mp eV with eV|eV;exact h2 q eV;rw[ip]at eV;subst eV;rw[hq,<-e];lia;exists h1,h2
def MI.fF(I:MI way met post sd td sn){a b:Nat}{m v:Int}(e1: ∀x y,pM x y=if x=a/\y=b then way x y++ [⟨sd a,m,v⟩]else way x y)(e4: ∀t,yD t=if t=a then sd t+1 else sd t):MI pM met post yD td (sn++ [(a,sd a,b,m)]):=by(have old: ∀t,∀x∈met t,∀m',(x.2.1,x.2.2,t,m')∈sn++ [(a,sd a,b,m)]->(x.2.1,x.2.2,t,m')∈sn:=λt x hx m' h=>(by rcases List.mem_append.mp h with h|h;exact h;exfalso;rw[ip]at h;simp only[jf]at h;obtain⟨m1,h1⟩:=I.qG t x hx;have h2:=I.lt _ h1;simp only at h2;rw[h.1,h.2.1]at h2;lia));exists ?_,λe he=> ?_,λx y th bY=> ?_,λt x hx=> ?_,λe he=> ?_,λt x hx m' hm th bY em=> ?_,λt x hx m' hm q hq hf=>I.later t x hx m' (old t x hx m' hm) q hq hf,λt x hx y hy e m' h1 h2 hlt=>I.order t x hx y hy e m' (old t x hx m' h1) (old t y hy m' h2) hlt,I.nums,I.pairs;rw[cK];refine qH I.keys λhm=> ?_;obtain⟨e,he,ee⟩:=List.mem_map.mp hm;have:=I.lt e he;simp only[jf]at ee;rw[ee.1,ee.2]at this;lia;rw[e4];rcases List.mem_append.mp he with he|he;have:=I.lt e he;split;lia;exact this;rw[ip]at he;subst he;simp;rw[e1]at bY;split at bY;rename_i e;rcases List.mem_append.mp bY with bY|bY;exact dE _ (I.tD x y th bY);rw[ip]at bY;subst bY;rw[e.1,e.2];exact db _ (List.mem_singleton.mpr rfl);exact dE _ (I.tD x y th bY);obtain⟨m',h⟩:=I.qG t x hx;exists m',dE _ h;rcases List.mem_append.mp he with he|he;rcases I.all e he with⟨th,h1,h2⟩|h;refine .inl ⟨th,?_,h2⟩;rw[e1];split;exact dE _ h1;exact h1;exact .inr h;rw[ip]at he;subst he;refine .inl ⟨⟨sd a,m,v⟩,?_,rfl⟩;rw[e1,aT ⟨rfl,rfl⟩];exact db _ (List.mem_singleton.mpr rfl);have gC:=old t x hx m' hm;rw[e1]at bY;split at bY;rename_i e;rcases List.mem_append.mp bY with bY|bY;exact I.ahead t x hx m' gC th bY em;rw[ip]at bY;subst bY;have:=I.lt _ gC;simp only at this;rw[e.1]at this;exact this;exact I.ahead t x hx m' gC th bY em
def No{α:Type}: ∀ {l:aq α} {j:Nat} {x y:α},l[j]? =some y->x∈l->x≠y->x∈l.eraseIdx j
 |z::l,0,x,y,h,hx,n=>by cases h;rcases List.mem_cons.mp hx with e|hx;exact absurd e n;exact hx
 |z::l,j+1,x,y,h,hx,n=>by rcases List.mem_cons.mp hx with e|hx;subst e;exact fk;exact fJ _ (No (by simpa using h) hx n)
def Z8{l:aq Th}{j:Nat}{y x:Th}(hp:l.Pairwise λa b=>a.k<b.k)(h:l[j]? =some y)(hx:x∈l.eraseIdx j):x∈l/\x.k≠y.k:=by exists List.mem_of_mem_eraseIdx hx,?_;induction l generalizing j with|nil=>cases hx|cons z l ih=>obtain⟨h1,h2⟩:=List.pairwise_cons.mp hp;cases j with|zero=>cases h;have iy:x∈l:=hx;have:=h1 x iy;lia|succ j=>(have h':l[j]? =some y:=by simpa using h);rcases List.mem_cons.mp hx with e|hx;subst e;have:=h1 y (dR h');lia;exact ih h2 h' hx
def TQ{ts:aq Th}{s:Int}{th th':Th}(hp:ts.Pairwise λa b=>a.k<b.k)(h1:(ib ts wh ma s).head?=some th)(h:th'∈ts)(hf:gU wh ma s th'.m=true)(hn:th'.k≠th.k):th.k<th'.k:=by have qp:(ib ts wh ma s).Pairwise λa b=>a.k<b.k:=hp.sublist List.filter_sublist;have h2:th'∈ib ts wh ma s:=List.mem_filter.mpr ⟨h,hf⟩;cases e:ib ts wh ma s with|nil=>rw[e]at h2;cases h2|cons z r=>rw[e]at h1 h2 qp;simp only[List.head?_cons,zK]at h1;subst h1;rcases List.mem_cons.mp h2 with e2|h2;subst e2;exact absurd rfl hn;exact(List.pairwise_cons.mp qp).1 _ h2
def TR{s m:Int}{tk q:Tk}(hr:lQ qs)(hf:jP qs s m=some tk)(hq:q∈qs)(hfit:gU q.wh q.ma s m=true)(hn:q.n≠tk.n):tk.n<q.n:=by induction qs with|nil=>cases hq|cons z qs ih=>obtain⟨h1,h2⟩:=List.pairwise_cons.mp hr;by_cases c:gU z.wh z.ma s m=true;rw[KS c]at hf;cases hf;rcases List.mem_cons.mp hq with e|hq;subst e;exact absurd rfl hn;exact h1 q hq;rw[KR c]at hf;rcases List.mem_cons.mp hq with e|hq;subst e;exact absurd hfit c;exact ih h2 hf hq
def MI.joined(I:MI way met post sd td sn){a b n jj:Nat}{th:Th}{tk:Tk}(hp:(way a b).Pairwise λa b=>a.k<b.k)(hr:lQ (post b))(AO: ∀q∈post b,q.n<td b)(bY:(way a b)[jj]? =some th)(hf:jP (post b) a th.m=some tk)(hn:tk.n=n)(h1:(ib (way a b) tk.wh tk.ma a).head?=some th)(e1: ∀x y,pM x y=if x=a/\y=b then(way x y).eraseIdx jj else way x y)(e2: ∀t,met' t=if t=b then met t++ [(n,a,th.k)]else met t)(e3: ∀t,post' t=if t=b then without (post t) n else post t):MI pM met' post' sd td sn:=by have ID:th∈way a b:=dR bY;have nU:tk∈post b:=uw hf;have CI:gU tk.wh tk.ma a th.m=true:=List.find?_some (p:=λq:Tk=>gU q.wh q.ma a th.m) hf;have vc:=I.tD a b th ID;(have QZ: ∀x y,∀z∈pM x y,z∈way x y:=λx y z hz=>(by rw[e1]at hz;split at hz;exact List.mem_of_mem_eraseIdx hz;exact hz));(have GL: ∀t,∀q∈post' t,q∈post t:=λt q hq=>(by rw[e3]at hq;split at hq;exact(List.mem_filter.mp hq).1;exact hq));(have tj: ∀t,∀x∈met' t,x∈met t\/(t=b/\x=(n,a,th.k)):=λt x hx=>(by rw[e2]at hx;split at hx;rename_i e;rcases List.mem_append.mp hx with hx|hx;exact .inl hx;exact .inr ⟨e,List.mem_singleton.mp hx⟩;exact .inl hx));(have Zc: ∀t,∀x∈met t,x∈met' t:=λt x hx=>(by rw[e2];split;exact dE _ hx;exact hx));exists I.keys,I.lt,λx y z hz=>I.tD x y z (QZ x y z hz),λt x hx=> ?_,λe he=> ?_,λt x hx m hm z hz em=> ?_,λt x hx m hm q hq ED=> ?_,λt x hx y hy e m fM cV hlt=> ?_,λt=> ?_,λt=> ?_;(rcases tj t x hx with hx|⟨rfl,rfl⟩);exact I.qG t x hx;exists th.m,vc;(rcases I.all e he with⟨z,hz,ek⟩|⟨n',h⟩);by_cases c:e.1=a/\e.2.2.1=b;by_cases ck:z.k=th.k;refine .inr ⟨n,?_⟩;rw[e2,aT c.2,c.1,<-ek,ck];exact db _ (List.mem_singleton.mpr rfl);refine .inl ⟨z,?_,ek⟩;rw[e1,aT c];rw[c.1,c.2]at hz;rw[c.1,c.2];exact No bY hz λh=>ck (by rw[h]);refine .inl ⟨z,?_,ek⟩;rw[e1,aU c];exact hz;exact .inr ⟨n',Zc _ _ h⟩;(rcases tj t x hx with hx|⟨rfl,rfl⟩);exact I.ahead t x hx m hm z (QZ _ _ z hz) em;have Mz:z∈pM a t:=hz;rw[e1,aT ⟨rfl,rfl⟩]at Mz;obtain⟨h2,h3⟩:=Z8 hp bY Mz;have sj:m=th.m:=(sS I.keys hm vc).2;refine TQ hp h1 h2 ?_ h3;rw[em,sj];exact CI;(rcases tj t x hx with hx|⟨rfl,rfl⟩);exact I.later t x hx m hm q (GL t q hq) ED;have sj:m=th.m:=(sS I.keys hm vc).2;rw[sj]at ED;have gD:=hq;rw[e3,aT rfl]at gD;have hne:=(List.mem_filter.mp gD).2;simp only[lT]at hne;have:=TR hr hf (GL t q hq) ED (by rw[hn];exact hne);show n<q.n;lia;(rcases tj t x hx with hx|⟨rfl,rfl⟩);(rcases tj t y hy with hy|⟨rfl,rfl⟩);exact I.order t x hx y hy e m fM cV hlt;have sj:m=th.m:=(sS I.keys cV vc).2;have e':x.2.1=a:=e;have:=I.later t x hx m fM tk nU (by rw[e',sj];exact CI);show x.1<n;lia;(rcases tj t y hy with hy|⟨_,rfl⟩);exfalso;have sj:m=th.m:=(sS I.keys fM vc).2;have e':a=y.2.1:=e;have:=I.ahead t y hy m cV th (by rw[<-e'];exact ID) sj.symm;have a5i:th.k<y.2.2:=hlt;lia;exact absurd hlt (kh _);obtain⟨ko,kq⟩:=I.nums t;constructor;rw[e2];split;rename_i e;subst e;rw[cK];refine qH ko λhm=> ?_;obtain⟨x,hx,ex⟩:=List.mem_map.mp hm;exact(kq x hx).2 tk nU (by rw[hn];exact ex.symm);exact ko;intro x hx;(rcases tj t x hx with hx|⟨rfl,rfl⟩);exists(kq x hx).1,λq hq=>(kq x hx).2 q (GL t q hq);exists by rw[<-hn];exact AO tk nU,λq hq=> ?_;rw[e3,aT rfl]at hq;have hne:=(List.mem_filter.mp hq).2;simpa using hne;rw[e2];split;rename_i e;subst e;rw[cK];refine qH (I.pairs t) λhm=> ?_;obtain⟨x,hx,ex⟩:=List.mem_map.mp hm;simp only[jf]at ex;have h3:=I.ahead t x hx th.m (by rw[ex.1,ex.2];exact vc) th (by rw[ex.1];exact ID) rfl;rw[ex.2]at h3;lia;exact I.pairs t
end
/---/def RG.gZ(G:RG)(t:Nat):List (Nat×Nat×Nat):=match G.aI[t]? with
 |some g=>g.met
 |none=> []
def RG.lH(G:RG)(t:Nat):Nat:=match G.aI[t]? with
 |some g=>g.sd
 |none=>0
def RG.mO(G:RG)(t:Nat):Nat:=match G.aI[t]? with
 |some g=>g.td
 |none=>0
def RG.MI(G:RG)(sn:Sn):Prop:=W2.MI G.at G.gZ G.aR G.lH G.mO sn
def vT{α:Type}{l:aq α}{i t:Nat}{a b:α}(h:l[i]? =some a):(l.set i b)[t]? =if t=i then some b else l[t]? :=by rw[List.getElem?_set];have hi:=(List.getElem?_eq_some_iff.mp h).1;by_cases e:t=i;subst e;rw[aT rfl,aT hi,aT rfl];rw[aU (λz=>e z.symm),aU e]
section
variable{G:RG}{i:Nat}{g g':HG}
def xU(h:G.aI[i]? =some g)(t:Nat):(G.cZ i g').gZ t=if t=i then g'.met else G.gZ t:=by unfold RG.gZ RG.cZ;simp only[vT h];by_cases e:t=i;rw[aT e,aT e];rw[aU e,aU e]
def yf(h:G.aI[i]? =some g)(t:Nat):(G.cZ i g').aR t=if t=i then g'.aR else G.aR t:=by unfold RG.aR RG.cZ;simp only[vT h];by_cases e:t=i;rw[aT e,aT e];rw[aU e,aU e]
def yE(h:G.aI[i]? =some g)(t:Nat):(G.cZ i g').lH t=if t=i then g'.sd else G.lH t:=by unfold RG.lH RG.cZ;simp only[vT h];by_cases e:t=i;rw[aT e,aT e];rw[aU e,aU e]
def yS(h:G.aI[i]? =some g)(t:Nat):(G.cZ i g').mO t=if t=i then g'.td else G.mO t:=by unfold RG.mO RG.cZ;simp only[vT h];by_cases e:t=i;rw[aT e,aT e];rw[aU e,aU e]
def vn(h:G.aI[i]? =some g):G.gZ i=g.met:=by unfold RG.gZ;rw[h]
def qO(h:G.aI[i]? =some g):G.aR i=g.aR:=by unfold RG.aR;rw[h]
def vR(h:G.aI[i]? =some g):G.lH i=g.sd:=by unfold RG.lH;rw[h]
def tY(h:G.aI[i]? =some g):G.mO i=g.td:=by unfold RG.mO;rw[h]
end
def KP: ∀ {ws:aq bX} {j:Nat} {w:bX},(ws.map λw=>(w.s,w.t)).Nodup->ws[j]? =some w->(ws.find? λx=>decide (x.s=w.s/\x.t=w.t))=some w
 |z::ws,0,w,_,h=>by cases h;exact rD (by simp)
 |z::ws,j+1,w,hn,h=>by simp only[bH,lP]at hn;(have h':ws[j]? =some w:=by simpa using h);rw[pT];exact KP hn.2 h';intro e;simp only[lT]at e;exact hn.1 (List.mem_map.mpr ⟨w,dR h',by rw[e.1,e.2]⟩)
def KQ: ∀ {ws:aq bX} {j:Nat} {w w':bX} (a b:Nat),(ws.map λw=>(w.s,w.t)).Nodup->ws[j]? =some w->w'.s=w.s->w'.t=w.t->((ws.set j w').find? λx=>decide (x.s=a/\x.t=b))=if a=w.s/\b=w.t then some w' else ws.find? λx=>decide (x.s=a/\x.t=b)
 |z::ws,0,w,w',a,b,hn,h,e1,e2=>by cases h;simp only[List.set_cons_zero];by_cases c:a=z.s/\b=z.t;rw[aT c,rD (by simp[e1,e2,c])];have c': ¬(z.s=a/\z.t=b):=λe=>c ⟨e.1.symm,e.2.symm⟩;rw[aU c,pT (by rw[e1,e2];simpa using c'),pT (by simpa using c')]
 |z::ws,j+1,w,w',a,b,hn,h,e1,e2=>by simp only[bH,lP]at hn;(have h':ws[j]? =some w:=by simpa using h);simp only[List.set_cons_succ];by_cases c:z.s=a/\z.t=b;rw[rD (by simpa using c),rD (by simpa using c),aU];rintro⟨c1,c2⟩;exact hn.1 (List.mem_map.mpr ⟨w,dR h',by rw[c.1,c.2,c1,c2]⟩);rw[pT (by simpa using c),pT (by simpa using c)];exact KQ a b hn.2 h' e1 e2
def JK{G:RG}(hk:G.Keyed){j:Nat}{w:bX}(h:G.bf[j]? =some w):G.at w.s w.t=w.ts:=by unfold RG.at;rw[KP hk h]
def wM{G:RG}(hk:G.Keyed){j:Nat}{w:bX}(h:G.bf[j]? =some w)(ts:aq Th)(a b:Nat):(G.eZ j {w with ts:=ts}).at a b=if a=w.s/\b=w.t then ts else G.at a b:=by unfold RG.at RG.eZ;simp only[KQ (w':= {w with ts:=ts}) a b hk h rfl rfl];by_cases e:a=w.s/\b=w.t;rw[aT e,aT e];rw[aU e,aU e]
def mN{α:Type}(f:α->Nat): ∀ {l:aq α} {i:Nat} {a:α} (b:α),l[i]? =some a->((l.set i b).map f).sum+f a=(l.map f).sum+f b
 |x::l,0,a,b,h=>by cases h;simp only[List.set_cons_zero,bH,kg];lia
 |x::l,i+1,a,b,h=>by have:=mN f (l:=l) (i:=i) b (by simpa using h);simp only[List.set_cons_succ,bH,kg];lia
def RG.fE(G:RG):Nat:=2*(G.aI.map HG.left).sum+(G.bf.map λw=>w.ts.length).sum
section
variable{n:Nat}{G:RG}
def nJ{α:Type}{l:aq α}{i:Nat}{b x:α}(h:x∈l.set i b):x∈l\/x=b:=List.mem_or_eq_of_mem_set h
def dm.dc(S:dm n G){i:Nat}{g g':HG}(hg:G.aI[i]? =some g)(h1: ∀d∈g'.rows,Row (bM n i) d)(h2:lQ g'.aR)(h3: ∀q∈g'.aR,q.n<g'.td)(h4: ∀q∈g'.aR,bu.str q.bx∈eF)(h5:g'.aR.length+g'.met.length<=g'.td)(h6:g'.met.length+g.sd<=g.met.length+g'.sd)(h7:g'.sd+g'.td+g'.left<=g.sd+g.td+g.left):dm n (G.cZ i g'):=by have s1:=mN (λg:HG=>g.met.length) g' hg;have s2:=mN (λg:HG=>g.sd) g' hg;have s3:=mN (λg:HG=>g.sd+g.td+g.left) g' hg;have f1:=S.Aj;have f2:=S.budget;exists(rF ..).trans S.len,S.n2,S.n4,S.jW,S.ends,S.all,λk f hk=> ?_,λf hf=> ?_,λf hf=> ?_,λf hf=> ?_,λf hf=> ?_,?_,?_,S.order;(rcases An hk with⟨rfl,rfl⟩|⟨_,hk⟩);exact h1;exact S.rows k f hk;rcases nJ hf with hf|rfl;exact S.rising f hf;exact h2;rcases nJ hf with hf|rfl;exact S.lt f hf;exact h3;rcases nJ hf with hf|rfl;exact S.fc f hf;exact h4;rcases nJ hf with hf|rfl;exact S.open_ f hf;exact h5;show(G.bf.map λw=>w.ts.length).sum+((G.aI.set i g').map λg=>g.met.length).sum<=((G.aI.set i g').map λg=>g.sd).sum;lia;show((G.aI.set i g').map λg=>g.sd+g.td+g.left).sum<=40;lia
def dm.both(S:dm n G){i j:Nat}{g g':HG}{wy:bX}{ts:aq Th}(hg:G.aI[i]? =some g)(hj:G.bf[j]? =some wy)(ho:ts.Pairwise λa b=>a.k<b.k)(h1: ∀d∈g'.rows,Row (bM n i) d)(h2:lQ g'.aR)(h3: ∀q∈g'.aR,q.n<g'.td)(h4: ∀q∈g'.aR,bu.str q.bx∈eF)(h5:g'.aR.length+g'.met.length<=g'.td)(h6:ts.length+g'.met.length+g.sd<=wy.ts.length+g.met.length+g'.sd)(h7:g'.sd+g'.td+g'.left<=g.sd+g.td+g.left):dm n ((G.eZ j {wy with ts:=ts}).cZ i g'):=by have s1:=mN (λg:HG=>g.met.length) g' hg;have s2:=mN (λg:HG=>g.sd) g' hg;have s3:=mN (λg:HG=>g.sd+g.td+g.left) g' hg;have s4:=mN (λw:bX=>w.ts.length) {wy with ts:=ts} hj;have f1:=S.Aj;have f2:=S.budget;have j9:wy∈G.bf:=dR hj;exists(rF ..).trans S.len,S.n2,S.n4,?_,λw hw=> ?_,λa b ha hb hab=> ?_,λk f hk=> ?_,λf hf=> ?_,λf hf=> ?_,λf hf=> ?_,λf hf=> ?_,?_,?_,λw hw=> ?_;show((G.bf.set j {wy with ts:=ts}).map λw=>(w.s,w.t)).Nodup;rw[nS (λw:bX=>(w.s,w.t)) _ _ _ {wy with ts:=ts} hj rfl];exact S.jW;rcases nJ (show w∈G.bf.set j {wy with ts:=ts}from hw)with hw|rfl;exact S.ends w hw;exact S.ends wy j9;obtain⟨j0,w0,e0,e1,e2⟩:=S.all a b ha hb hab;by_cases c:j0=j;subst c;rw[hj]at e0;cases e0;exists j0,{wy with ts:=ts},by show(G.bf.set j0 _)[j0]? =_;rw[vT hj,aT rfl],e1,e2;exists j0,w0,by show(G.bf.set j _)[j0]? =_;rw[vT hj,aU c];exact e0,e1,e2;(rcases An hk with⟨rfl,rfl⟩|⟨_,hk⟩);exact h1;exact S.rows k f hk;rcases nJ hf with hf|rfl;exact S.rising f hf;exact h2;rcases nJ hf with hf|rfl;exact S.lt f hf;exact h3;rcases nJ hf with hf|rfl;exact S.fc f hf;exact h4;rcases nJ hf with hf|rfl;exact S.open_ f hf;exact h5;show((G.bf.set j {wy with ts:=ts}).map λw=>w.ts.length).sum+((G.aI.set i g').map λg=>g.met.length).sum<=((G.aI.set i g').map λg=>g.sd).sum;simp only at s4;lia;show((G.aI.set i g').map λg=>g.sd+g.td+g.left).sum<=40;lia;rcases nJ (show w∈G.bf.set j {wy with ts:=ts}from hw)with hw|rfl;exact S.order w hw;exact ho
def Ol{i:Nat}{g g':HG}(hg:G.aI[i]? =some g):(G.cZ i g').fE+2*g.left=G.fE+2*g'.left:=by have s1:=mN HG.left g' hg;show 2*((G.aI.set i g').map HG.left).sum+(G.bf.map λw=>w.ts.length).sum+2*g.left=2*(G.aI.map HG.left).sum+(G.bf.map λw=>w.ts.length).sum+2*g'.left;lia
def Oj{i j:Nat}{g:HG}{wy:bX}(hg:G.aI[i]? =some g)(hj:G.bf[j]? =some wy):((G.eZ j {wy with ts:=ts}).cZ i g').fE+2*g.left+wy.ts.length=G.fE+2*g'.left+ts.length:=by have s1:=mN HG.left g' hg;have s4:=mN (λw:bX=>w.ts.length) {wy with ts:=ts} hj;simp only at s4;show 2*((G.aI.set i g').map HG.left).sum+((G.bf.set j {wy with ts:=ts}).map λw=>w.ts.length).sum+2*g.left+wy.ts.length=2*(G.aI.map HG.left).sum+(G.bf.map λw=>w.ts.length).sum+2*g'.left+ts.length;lia
def M6{g:HG}(hw:g.wt≠ .go):g.on.left=g.left:=by unfold HG.left HG.on;rw[aT rfl,aU hw]
def Bf{g:HG}{d:bp}{rest:aq bp}(hw:g.wt= .go)(hr:g.rows=d::rest):g.left=kT d+i9 rest:=by unfold HG.left;rw[aT hw,hr];simp[i9]
def SY{g:HG}{d:bp}{rest:aq bp}(hr:g.rows=d::rest):g.rows.drop 1=rest:=by rw[hr];rfl
def dm.free(S:dm n G){sn:Sn}(M:G.MI sn){G1:RG}(f:gm G G1):dm n G1/\G1.MI sn/\G1.fE=G.fE/\ ∀a b,G1.at a b=G.at a b:=by induction f with|refl=>exact⟨S,M,rfl,λ_ _=>rfl⟩| @step G1 i g _ hg hw ih=>obtain⟨S1,M1,e1,e2⟩:=ih;have eS:g∈G1.aI:=dR hg;exists S1.dc hg (λd hd=>S1.rows i g hg d (De hd)) (S1.rising g eS) (S1.lt g eS) (S1.fc g eS) (S1.open_ g eS) (aV _) ?_,?_,?_,e2;rw[M6 hw];exact aV _;refine MI.same M1 (λ_ _=>rfl) (λt=> ?_) (λt=> ?_) (λt=> ?_) λt=> ?_;rw[xU hg];split;rename_i e;subst e;exact(vn hg).symm;rfl;rw[yf hg];split;rename_i e;subst e;exact(qO hg).symm;rfl;rw[yE hg];split;rename_i e;subst e;exact(vR hg).symm;rfl;rw[yS hg];split;rename_i e;subst e;exact(tY hg).symm;rfl;have:=Ol (g':=g.on) hg;rw[M6 hw]at this;lia
end
def wm(n:Nat)(G G1:RG)(sn sn':Sn):Prop:=(sn'=sn/\ ∀a b,(G1.at a b).length<=(G.at a b).length)\/
 (∃ (a b k:Nat) (m v:Int),a<n/\b<n/\sn'=sn++ [(a,k,b,m)]/\G1.at a b=G.at a b++ [⟨k,m,v⟩]/\ ∀a' b',¬(a'=a/\b'=b)->G1.at a' b'=G.at a' b')
def ON{q:Tk}(h:lQ qs)(hl: ∀z∈qs,z.n<q.n):lQ (qs++ [q]):=by unfold lQ;rw[Df];exact⟨h,zE _ _,λa ha b hb=>by rw[ip]at hb;subst hb;exact hl a ha⟩
section
variable{n:Nat}{G G1:RG}{sn:Sn}
def Km(d:bp):1<=kT d:=by cases d<;>simp[kT]
def Bg{g:HG}{d:bp}{rest:aq bp}(hr:g.rows=d::rest){g':HG}(h1:g'.rows=g.rows)(h2:g'.wt≠ .go):g'.left=i9 rest:=by unfold HG.left;rw[aU h2,h1,hr];rfl
def FR{g:HG}{d:bp}{rest:aq bp}(hr:g.rows=d::rest){g':HG}(h1:g'.rows=g.rows.drop 1)(h2:g'.wt= .go):g'.left=i9 rest:=by unfold HG.left;rw[aT h2,h1,hr];rfl
def zG(M:G.MI sn){i:Nat}{g g':HG}(hg:G.aI[i]? =some g)(e1:g'.met=g.met)(e2:g'.aR=g.aR)(e3:g'.sd=g.sd)(e4:g'.td=g.td):(G.cZ i g').MI sn:=by refine MI.same M (λ_ _=>rfl) (λt=> ?_) (λt=> ?_) (λt=> ?_) λt=> ?_;rw[xU hg];split;rename_i e;subst e;rw[e1];exact(vn hg).symm;rfl;rw[yf hg];split;rename_i e;subst e;rw[e2];exact(qO hg).symm;rfl;rw[yE hg];split;rename_i e;subst e;rw[e3];exact(vR hg).symm;rfl;rw[yS hg];split;rename_i e;subst e;rw[e4];exact(tY hg).symm;rfl
def Jr(M:G.MI sn){i:Nat}{g g':HG}{q:Tk}(hq:q.n=g.td)(hg:G.aI[i]? =some g)(e1:g'.met=g.met)(e2:g'.aR=g.aR++ [q])(e3:g'.sd=g.sd)(e4:g'.td=g.td+1):(G.cZ i g').MI sn:=by
 have M1:MI G.at G.gZ (G.cZ i g').aR G.lH (G.cZ i g').mO sn:=MI.opened M (t0:=i) (q0:=q) (by rw[hq,tY hg]) (λt=>by
  rw[yf hg];split;rename_i e;subst e;rw[e2,qO hg]
  ·rfl) (λt=>by
  rw[yS hg];split;rename_i e;subst e;rw[e4,tY hg]
  ·rfl)
 refine MI.same M1 (λ_ _=>rfl) (λt=> ?_) (λ_=>rfl) (λt=> ?_) λ_=>rfl;rw[xU hg];split;rename_i e;subst e;rw[e1];exact(vn hg).symm;rfl;rw[yE hg];split;rename_i e;subst e;rw[e3];exact(vR hg).symm;rfl
def Ur(S:dm n G)(M:G.MI sn){i:Nat}{g:HG}{d:bp}{rest:aq bp}(hg:G.aI[i]? =some g)(hr:g.rows=d::rest)(hw:g.wt= .go)(h:lO (bM n i) d g g'):dm n (G.cZ i g')/\(G.cZ i g').fE<G.fE/\(G.cZ i g').MI sn:=by have eS:g∈G.aI:=dR hg;have hl:=Bf hw hr;have hd:=Km d;have ho:=S.open_ g eS;have lE:=S.rows i g hg;have Ha: ∀d∈g.rows.drop 1,Row (bM n i) d:=λd hd=>lE d (De hd);have qq:=S.rising g eS;have hlt:=S.lt g eS;have oI:=S.fc g eS;have ph: ∀g':HG,(G.cZ i g').fE+2*g.left=G.fE+2*g'.left:=λg'=>Ol hg;cases h with|on=>have e:=FR hr (g':= {g with rows:=g.rows.drop 1,wt:= .go}) rfl rfl;have p:=ph {g with rows:=g.rows.drop 1,wt:= .go};refine⟨S.dc hg Ha qq hlt oI ho (aV _) (by rw[e];simp only;lia),by rw[e]at p;lia,zG M hg rfl rfl rfl rfl⟩|iO k=>have e:=Bg hr (g':= {g with wt:= .iO k}) rfl (by intro z;cases z);have p:=ph {g with wt:= .iO k};refine⟨S.dc hg lE qq hlt oI ho (aV _) (by rw[e];simp only;lia),by rw[e]at p;lia,zG M hg rfl rfl rfl rfl⟩|all=>have e:=Bg hr (g':= {g with wt:= .all}) rfl (by intro z;cases z);have p:=ph {g with wt:= .all};refine⟨S.dc hg lE qq hlt oI ho (aV _) (by rw[e];simp only;lia),by rw[e]at p;lia,zG M hg rfl rfl rfl rfl⟩|take wh ma bx h1 h2 h3=>(have e:=Bg hr (g':= {g with wt:= .j6 g.td,td:=g.td+1,aR:=g.aR++ [⟨g.td,wh,ma,bx⟩]}) rfl (by intro z;cases z);have p:=ph {g with wt:= .j6 g.td,td:=g.td+1,aR:=g.aR++ [⟨g.td,wh,ma,bx⟩]};exists S.dc hg lE (ON qq hlt) (λq hq=> ?_) (λq hq=> ?_) (by simp;lia) (aV _) (by rw[e];simp only;lia),by rw[e]at p;lia,Jr M (q:=⟨g.td,wh,ma,bx⟩) rfl hg rfl rfl rfl rfl;rcases List.mem_append.mp hq with hq|hq;have:=hlt q hq;simp only;lia;rw[ip]at hq;subst hq;simp;rcases List.mem_append.mp hq with hq|hq;exact oI q hq;rw[ip]at hq;subst hq;exact h3)|post wh ma bx h1 h2 h3=>(have e:=FR hr (g':= {g with rows:=g.rows.drop 1,wt:= .go,td:=g.td+1,aR:=g.aR++ [⟨g.td,wh,ma,bx⟩]}) rfl rfl;have p:=ph {g with rows:=g.rows.drop 1,wt:= .go,td:=g.td+1,aR:=g.aR++ [⟨g.td,wh,ma,bx⟩]};exists S.dc hg Ha (ON qq hlt) (λq hq=> ?_) (λq hq=> ?_) (by simp;lia) (aV _) (by rw[e];simp only;lia),by rw[e]at p;lia,Jr M (q:=⟨g.td,wh,ma,bx⟩) rfl hg rfl rfl rfl rfl;rcases List.mem_append.mp hq with hq|hq;have:=hlt q hq;simp only;lia;rw[ip]at hq;subst hq;simp;rcases List.mem_append.mp hq with hq|hq;exact oI q hq;rw[ip]at hq;subst hq;exact h3)|ga r h hc=>(have e3:kT d=3:=(by cases d with|bF _=>cases hc|ga _ _ _=>rfl));(have e:HG.left {g with rows:= .bF r::g.rows.drop 1}=1+i9 rest:=(by rw[Bf (g:= {g with rows:= .bF r::g.rows.drop 1}) (d:= .bF r) (rest:=g.rows.drop 1) hw rfl,SY hr];rfl));have p:=ph {g with rows:= .bF r::g.rows.drop 1};exists S.dc hg (λd hd=> ?_) qq hlt oI ho (aV _) (by rw[e];simp only;lia),by rw[e]at p;lia,zG M hg rfl rfl rfl rfl;rcases List.mem_cons.mp hd with rfl|hd;exact .bF h;exact Ha d hd
def a3I(g:HG)(t:Nat)(b:Bool):(g.fF t b).sd=g.sd+1/\(g.fF t b).td=g.td/\(g.fF t b).aR=g.aR/\(g.fF t b).met=g.met:=by unfold HG.fF;split<;>exists rfl,rfl,rfl,rfl
def a3J{g:HG}{d:bp}{rest:aq bp}(hr:g.rows=d::rest)(t:Nat)(b:Bool):(g.fF t b).left=i9 rest:=by unfold HG.fF;split;exact Bg hr (g':= {g with sd:=g.sd+1,wt:= .snd t g.sd}) rfl (by intro z;cases z);exact FR hr (g':= {g with sd:=g.sd+1,rows:=g.rows.drop 1,wt:= .go}) rfl rfl
def a3K{g:HG}{t:Nat}{b:Bool}{d:bp}(h:d∈(g.fF t b).rows):d∈g.rows:=by unfold HG.fF at h;split at h;exact h;exact De h
def Us(S:dm n G)(M:G.MI sn){i j:Nat}{g:HG}{d:bp}{rest:aq bp}{wy:bX}{m v:Int}{b:Bool}(hg:G.aI[i]? =some g)(hr:g.rows=d::rest)(hw:g.wt= .go)(hc:kT d=1)(hj:G.bf[j]? =some wy)(hs:wy.s=i):dm n ((G.eZ j {wy with ts:=wy.ts++ [⟨g.sd,m,v⟩]}).cZ i (g.fF wy.t b))/\((G.eZ j {wy with ts:=wy.ts++ [⟨g.sd,m,v⟩]}).cZ i (g.fF wy.t b)).fE<G.fE/\((G.eZ j {wy with ts:=wy.ts++ [⟨g.sd,m,v⟩]}).cZ i (g.fF wy.t b)).MI (sn++ [(wy.s,g.sd,wy.t,m)])/\wm n G ((G.eZ j {wy with ts:=wy.ts++ [⟨g.sd,m,v⟩]}).cZ i (g.fF wy.t b)) sn (sn++ [(wy.s,g.sd,wy.t,m)]):=by
 have eS:g∈G.aI:=dR hg;have j9:wy∈G.bf:=dR hj;obtain⟨e1,e2,e3,e4⟩:=a3I g wy.t b;have el:=a3J hr wy.t b;have hl:=Bf hw hr;have ho:=S.open_ g eS;have oB:=JK S.jW hj;(have hk: ∀th∈wy.ts,th.k<g.sd:=λth bY=>(by have:=M.lt _ (M.tD wy.s wy.t th (by rw[oB];exact bY));simp only at this;rw[hs,vR hg]at this;exact this));exists S.both hg hj ?_ (λd hd=>S.rows i g hg d (a3K hd)) (by rw[e3];exact S.rising g eS) (by rw[e3,e2];exact S.lt g eS) (by rw[e3];exact S.fc g eS) (by rw[e3,e4,e2];exact ho) (by rw[e4,e1];simp;lia) (by rw[e1,e2,el];lia),?_,?_,?_;rw[Df];exact⟨S.order wy j9,zE _ _,λa ha c cr=>by rw[ip]at cr;subst cr;exact hk a ha⟩;have p:=Oj (g':=g.fF wy.t b) (ts:=wy.ts++ [⟨g.sd,m,v⟩]) hg hj;rw[el]at p;simp only[gn,cU,rE]at p;lia
 ·have dQ:(G.eZ j {wy with ts:=wy.ts++ [⟨g.sd,m,v⟩]}).aI[i]? =some g:=hg;(have es:G.lH wy.s=g.sd:=by rw[hs];exact vR hg);have M1:MI ((G.eZ j {wy with ts:=wy.ts++ [⟨g.sd,m,v⟩]}).cZ i (g.fF wy.t b)).at G.gZ G.aR ((G.eZ j {wy with ts:=wy.ts++ [⟨g.sd,m,v⟩]}).cZ i (g.fF wy.t b)).lH G.mO (sn++ [(wy.s,G.lH wy.s,wy.t,m)]):=MI.fF M (a:=wy.s) (b:=wy.t) (m:=m) (v:=v) (λx y=>by
   show(G.eZ j {wy with ts:=wy.ts++ [⟨g.sd,m,v⟩]}).at x y=_;rw[wM S.jW hj,es];split;rename_i e;rw[e.1,e.2,oB]
   ·rfl) (λt=>by
   rw[yE dQ];subst hs;split;rename_i e;subst e;rw[e1,es]
   ·rfl)
  rw[es]at M1;refine MI.same M1 (λ_ _=>rfl) (λt=> ?_) (λt=> ?_) (λ_=>rfl) λt=> ?_;rw[xU dQ];split;rename_i e;subst e;rw[e4];exact(vn hg).symm;rfl;rw[yf dQ];split;rename_i e;subst e;rw[e3];exact(qO hg).symm;rfl;rw[yS dQ];split;rename_i e;subst e;rw[e2];exact(tY hg).symm;rfl
 obtain⟨h1,h2,h3⟩:=S.ends wy j9;refine .inr ⟨wy.s,wy.t,g.sd,m,v,h1,h2,rfl,?_,λa' b' hn=> ?_⟩;show(G.eZ j {wy with ts:=wy.ts++ [⟨g.sd,m,v⟩]}).at wy.s wy.t=_;rw[wM S.jW hj,aT ⟨rfl,rfl⟩,oB];show(G.eZ j {wy with ts:=wy.ts++ [⟨g.sd,m,v⟩]}).at a' b'=_;rw[wM S.jW hj,aU hn]
def Ut(g:HG)(k:Nat):(g.got k).sd=g.sd/\(g.got k).td=g.td/\(g.got k).aR=without g.aR k/\(g.got k).met=g.met/\(g.got k).left=g.left:=by unfold HG.got;by_cases c:uS g.wt k=true;rw[aT c];exists rfl,rfl,rfl,rfl,?_;(have hw:g.wt≠ .go:=λz=>by rw[z]at c;exact absurd c (by simp[uS]));show i9 (if Wt.go= .go then g.rows.drop 1 else _)=_;unfold HG.left;rw[aT rfl,aU hw];rw[aU c];exists rfl,rfl,rfl,rfl,rfl
def Uu{g:HG}{k:Nat}{d:bp}(h:d∈(g.got k).rows):d∈g.rows:=by unfold HG.got at h;split at h;exact De h;exact h
def a45{qs:aq Tk}{q:Tk}(h:q∈qs):(without qs q.n).length+1<=qs.length:=by induction qs with|nil=>cases h|cons z qs ih=>have nA:(without qs q.n).length<=qs.length:=wA _ _;by_cases e:z.n=q.n;have:without (z::qs) q.n=without qs q.n:=List.filter_cons_of_neg (by simpa using e);rw[this,cU];lia;have e2:without (z::qs) q.n=z::without qs q.n:=List.filter_cons_of_pos (by simpa using e);rw[e2,cU,cU];rcases List.mem_cons.mp h with rfl|h;exact absurd rfl e;have:=ih h;lia
def Y1(S:dm n G)(M:G.MI sn){a k b m:Nat}(h:oo G a k b m G1):dm n G1/\G1.fE<G.fE/\G1.MI sn/\wm n G G1 sn sn:=by
 cases h with
 | @mk j jj wy th g tk hj ha hb bY hk hg hf hn h1=>
  subst ha;subst hb;subst hk;subst hn;have eS:g∈G.aI:=dR hg;have j9:wy∈G.bf:=dR hj;have nU:tk∈g.aR:=uw hf;have oB:=JK S.jW hj;have ord:=S.order wy j9;have xw:jj<wy.ts.length:=(List.getElem?_eq_some_iff.mp bY).1;(have le:(wy.ts.eraseIdx jj).length+1=wy.ts.length:=by rw[List.length_eraseIdx_of_lt xw];lia);obtain⟨e1,e2,e3,e4,e5⟩:=Ut {g with met:=g.met++ [(tk.n,wy.s,th.k)]} tk.n;have e1:_=g.sd:=e1;have e2:_=g.td:=e2;have e3:_=without g.aR tk.n:=e3;have e4:_=g.met++ [(tk.n,wy.s,th.k)]:=e4;have e5:_=g.left:=e5;have ho:=S.open_ g eS;have wl:=a45 nU;have hsub: ∀q∈without g.aR tk.n,q∈g.aR:=λq hq=>(List.mem_filter.mp hq).1;have dQ:(G.eZ j {wy with ts:=wy.ts.eraseIdx jj}).aI[wy.t]? =some g:=hg;exists S.both hg hj (ord.sublist (List.eraseIdx_sublist ..)) (λd hd=>S.rows wy.t g hg d (show d∈g.rows from Uu (g:= {g with met:=g.met++ [(tk.n,wy.s,th.k)]}) hd)) ?_ ?_ ?_ ?_ ?_ ?_,?_,?_,?_;rw[e3];exact List.Pairwise.sublist List.filter_sublist (S.rising g eS);rw[e3,e2];exact λq hq=>S.lt g eS q (hsub q hq);rw[e3];exact λq hq=>S.fc g eS q (hsub q hq);rw[e3,e4,e2];simp;lia;rw[e4,e1];simp;lia;rw[e1,e2,e5];exact aV _;have p:=Oj (g':=({g with met:=g.met++ [(tk.n,wy.s,th.k)]}:HG).got tk.n) (ts:=wy.ts.eraseIdx jj) hg hj;rw[e5]at p;lia
  ·have M1:MI ((G.eZ j {wy with ts:=wy.ts.eraseIdx jj}).cZ wy.t (({g with met:=g.met++ [(tk.n,wy.s,th.k)]}:HG).got tk.n)).at ((G.eZ j {wy with ts:=wy.ts.eraseIdx jj}).cZ wy.t (({g with met:=g.met++ [(tk.n,wy.s,th.k)]}:HG).got tk.n)).gZ ((G.eZ j {wy with ts:=wy.ts.eraseIdx jj}).cZ wy.t (({g with met:=g.met++ [(tk.n,wy.s,th.k)]}:HG).got tk.n)).aR G.lH G.mO sn:=
    MI.joined M (a:=wy.s) (b:=wy.t) (n:=tk.n) (jj:=jj) (th:=th) (tk:=tk) (by rw[oB];exact ord) (by rw[qO hg];exact S.rising g eS) (by rw[qO hg,tY hg];exact S.lt g eS) (by rw[oB];exact bY) (by rw[qO hg];exact hf) rfl (by rw[oB];exact h1) (λx y=>by
     show(G.eZ j {wy with ts:=wy.ts.eraseIdx jj}).at x y=_
     rw[wM S.jW hj]
     split
     ·rename_i e;rw[e.1,e.2,oB]
     ·rfl) (λt=>by
     rw[xU dQ]
     split
     ·rename_i e;subst e;rw[e4,vn hg]
     ·rfl) (λt=>by
     rw[yf dQ]
     split
     ·rename_i e;subst e;rw[e3,qO hg]
     ·rfl)
   refine MI.same M1 (λ_ _=>rfl) (λ_=>rfl) (λ_=>rfl) (λt=> ?_) λt=> ?_;rw[yE dQ];split;rename_i e;subst e;rw[e1];exact(vR hg).symm;rfl;rw[yS dQ];split;rename_i e;subst e;rw[e2];exact(tY hg).symm;rfl
  refine .inl ⟨rfl,λx y=> ?_⟩;show((G.eZ j {wy with ts:=wy.ts.eraseIdx jj}).at x y).length<=_;rw[wM S.jW hj];split;rename_i e;rw[e.1,e.2,oB];lia;exact aV _
def TH(S:dm n G)(M:G.MI sn)(h:lN n G G1)(f:gm G1 G2):dm n G2/\G2.fE<G.fE/\ ∃sn',G2.MI sn'/\wm n G G2 sn sn':=by(have key:dm n G1/\G1.fE<G.fE/\ ∃sn',G1.MI sn'/\wm n G G1 sn sn':=(by(rcases h with⟨i,h⟩|⟨a,k,b,m,h⟩);(cases h with|send hg hr hw hc hj hs hm v b=>obtain⟨h1,h2,h3,h4⟩:=Us (m:=_) (v:=v) (b:=b) S M hg hr hw hc hj hs;exact⟨h1,h2,_,h3,h4⟩|row hg hr hw h=>obtain⟨h1,h2,h3⟩:=Ur S M hg hr hw h;exists h1,h2,sn,h3,.inl ⟨rfl,λ_ _=>aV _⟩);obtain⟨h1,h2,h3,h4⟩:=Y1 S M h;exists h1,h2,sn,h3,h4));obtain⟨S1,p1,sn',M1,gr⟩:=key;obtain⟨S2,M2,e2,ea⟩:=S1.free M1 f;exists S2,by lia,sn',M2,?_;(rcases gr with⟨e,hl⟩|⟨a,b,k,m,v,ha,hb,e,e1,e3⟩);exact .inl ⟨e,λa b=>by rw[ea];exact hl a b⟩;exact .inr ⟨a,b,k,m,v,ha,hb,e,by rw[ea];exact e1,λa' b' hn=>by rw[ea];exact e3 a' b' hn⟩
end
def RS(a b:aq PV):jM (a++b)=jM a+jM b:=by rw[DJ,DJ,DJ,tW]
def Kd(l:aq bu):jM (eO l)=0:=Kb λit hit=>by obtain⟨a,_,rfl⟩:=List.mem_map.mp hit;exists a,rfl
def RT(d:bp):rV d.pv=kT d:=by cases d with|bF aF=>simp only[bp.pv,rV,Kd,kT]|ga hd r1 r2=>simp only[bp.pv,rV,RS,Kd,kT,jM,K2.cnt,nj,rV]
def Kc: ∀ds:aq bp,nj (ds.map bp.pv)=i9 ds
 | []=>by simp[nj,i9]
 |d::ds=>by have:=Kc ds;unfold i9 at this⊢;rw[bH,nj,RT,this,bH,kg]
def Ki(n:Nat): ∀ (ss:aq PV) (i m:Nat),iX n i ss=some m->m=fG ss
 | [],i,m,h=>by simp only[iX,zK]at h;subst h;rfl
 |s::ss,i,m,h=>by simp only[iX]at h;cases e1:count (bM n i) s with|none=>rw[e1]at h;cases h|some a=>rw[e1]at h;simp only[Option.bind_some]at h;cases e2:iX n (i+1) ss with|none=>rw[e2]at h;cases h|some b=>rw[e2]at h;simp only[Option.map_some,zK]at h;have h1:=QW _ _ _ _ _ e1;have h2:=Ki n ss (i+1) b e2;have e3:fG (s::ss)=fG [s]+fG ss:=tW [s] ss;lia
def a1X(h:iG (kl bB)=true):(bB.map i9).sum<=40:=by simp only[iG,kl,gR]at h;obtain⟨_,h⟩:=h;cases e:iX (bB.map λds=>PV.aC (ds.map bp.pv)).length 0 (bB.map λds=>PV.aC (ds.map bp.pv))with|none=>rw[e]at h;cases h|some m=>rw[e]at h;simp only[lT]at h;have h1:=Ki _ _ _ _ e;(have e2: ∀l:aq (aq bp),fG (l.map λds=>PV.aC (ds.map bp.pv))=(l.map i9).sum:=λl=>(by induction l with|nil=>rfl|cons ds l ih=>have e3:fG ((ds::l).map λds=>PV.aC (ds.map bp.pv))=fG [PV.aC (ds.map bp.pv)]+fG (l.map λds=>PV.aC (ds.map bp.pv)):=tW [PV.aC (ds.map bp.pv)] _;rw[e3,ih,bH,kg];(congr 1);simp only[fG,bH,fZ,K2.cnt,kg,List.sum_nil,Kc,uz]));rw[e2]at h1;lia
def a3M{n:Nat}(h:zQ n bB):(K2.settle bB).length=n/\ ∀ (j:Nat) (ds:aq bp),(K2.settle bB)[j]? =some ds-> ∀d∈ds,Row (bM n j) d:=by obtain⟨hn,hs⟩:=h;unfold K2.settle;split;exists hn,λj ds e=>(hs j ds e).2;exists by rw[bq];exact hn,λj ds e d hd=> ?_;rw[cB]at e;cases q:bB[j]? with|none=>rw[q]at e;cases e|some SZ=>rw[q]at e;cases e;obtain⟨aF,rfl,hi⟩:=IG (hs j SZ q).2 d hd;exact .bF hi
def Ua{n:Nat}(F:Jm bB ro G)(hl:bB.length=n)(h2:2<=n)(h4:n<=4)(hp:iG (kl bB)=true)(hr: ∀ (j:Nat) (ds:aq bp),bB[j]? =some ds-> ∀d∈ds,Row (bM n j) d):dm n G/\G.MI []/\G.fE<=80:=by have jU:n∈List.range 5:=List.mem_range.mpr (by lia);have cf:G.aI.length=n:=F.len.trans hl;(have dc: ∀ (i:Nat) (g:HG),G.aI[i]? =some g-> ∃ds,bB[i]? =some ds/\g.rows=ds/\g.wt= .go/\g.sd=0/\g.td=0/\g.aR= []/\g.met= []:=λi g hg=>(by have hi:=(List.getElem?_eq_some_iff.mp hg).1;(have ce:i<bB.length:=by lia);exists bB[i],br ce,F.aI i g _ hg (br ce)));(have sE: ∀g∈G.aI,g.sd=0/\g.td=0/\g.aR= []/\g.met= []:=λg hg=>(by obtain⟨i,hi,e⟩:=gT hg;obtain⟨ds,_,_,_,h1,h2,h3,h4⟩:=dc i g (by rw[br hi,e]);exists h1,h2,h3,h4));(have D1:G.bf.map (λw=>(w.s,w.t))=i8 n n 0:=by rw[F.bf,hl]);(have M7:G.aI.map HG.left=bB.map i9:=(by refine List.ext_getElem? λi=> ?_;rw[cB,cB];cases e:G.aI[i]? with|none=>(have:bB[i]? =none:=(by rw[List.getElem?_eq_none_iff]at e⊢;lia));rw[this];rfl|some g=>obtain⟨ds,h1,h2,h3,_⟩:=dc i g e;rw[h1];simp only[Option.map_some,zK];unfold HG.left;rw[aT h3,h2]));have Rz:=a1X hp;(have tz:(G.bf.map λw=>w.ts.length).sum=0:=(by(have: ∀ws:aq bX,(∀w∈ws,w.ts= [])->(ws.map λw=>w.ts.length).sum=0:=λws=>(by induction ws with|nil=>intro _;rfl|cons w ws ih=>intro h;rw[bH,kg,ih λv hv=>h v (fJ _ hv),h w fk];rfl));exact this _ F.empty));(have mz: ∀ (f:HG->Nat) (gs:aq HG),(∀g∈gs,f g=0)->(gs.map f).sum=0:=λf gs=>(by induction gs with|nil=>intro _;rfl|cons g gs ih=>intro h;rw[bH,kg,ih λv hv=>h v (fJ _ hv),h g fk]));(have bz:G.aI.map (λg=>g.sd+g.td+g.left)=G.aI.map HG.left:=List.map_congr_left λg hg=>(by obtain⟨h1,h2,_⟩:=sE g hg;rw[h1,h2];lia));(have iC: ∀a b,G.at a b= []:=λa b=>(by unfold RG.at;cases e:G.bf.find? λw=>decide (w.s=a/\w.t=b)with|none=>rfl|some w=>exact F.empty w (uw e)));(have vm: ∀t,G.gZ t= []:=λt=>(by unfold RG.gZ;cases e:G.aI[t]? with|none=>rfl|some g=>exact(sE g (dR e)).2.2.2));exists⟨cf,h2,h4,?_,λw hw=> ?_,λa b ha hb hab=> ?_,λi g hg d hd=> ?_,λg hg=> ?_,λg hg q hq=> ?_,λg hg q hq=> ?_,λg hg=> ?_,?_,?_,λw hw=> ?_⟩,⟨oj,λe he=>(by cases he),λa b th bY=> ?_,λt x hx=> ?_,λe he=>(by cases he),λt x hx=> ?_,λt x hx=> ?_,λt x hx=> ?_,λt=> ?_,λt=> ?_⟩,?_;show(G.bf.map λw=>(w.s,w.t)).Nodup;rw[D1];exact a1o n jU;(have:(w.s,w.t)∈i8 n n 0:=by rw[<-D1];exact List.mem_map.mpr ⟨w,hw,rfl⟩);exact a1n n jU _ this;(have:(a,b)∈G.bf.map λw=>(w.s,w.t):=by rw[D1];exact a1m n jU a (List.mem_range.mpr ha) b (List.mem_range.mpr hb) hab);obtain⟨w,hw,e⟩:=List.mem_map.mp this;obtain⟨j,hj,ej⟩:=gT hw;simp only[jf]at e;exists j,w,by rw[br hj,ej],e.1,e.2;obtain⟨ds,h1,h2,_⟩:=dc i g hg;rw[h2]at hd;exact hr i ds h1 d hd;rw[(sE g hg).2.2.1];exact List.Pairwise.nil;rw[(sE g hg).2.2.1]at hq;cases hq;rw[(sE g hg).2.2.1]at hq;cases hq;obtain⟨h1,h2,h3,h4⟩:=sE g hg;rw[h3,h4];simp;rw[tz,mz (λg=>g.met.length) _ λg hg=>by rw[(sE g hg).2.2.2];rfl];lia;rw[bz,M7];exact Rz;rw[F.empty w hw];exact List.Pairwise.nil;rw[iC]at bY;cases bY;rw[vm]at hx;cases hx;rw[vm]at hx;cases hx;rw[vm]at hx;cases hx;rw[vm]at hx;cases hx;rw[vm];exact⟨oj,λx hx=>by cases hx⟩;rw[vm];exact oj;unfold RG.fE;rw[M7,tz];lia
/---/def fT(H:Hp):Sn->List (List aZ×V)->Prop
 | [],kvs=>kvs= []
 |e::r,kvs=> ∃v rest,kvs=([Sum.inl (e.1:Int),Sum.inl (e.2.1:Int)],v)::rest/\aJ H (cJ none [(e.2.2.1:Int),e.2.2.2]) v/\fT H r rest
def fT.mono{H H':Hp}(t:bO H H'): ∀ {sn:Sn} {kvs:aq (aq aZ×V)},fT H sn kvs->fT H' sn kvs
 | [],_,h=>h
 |_::_,_,h=>by obtain⟨v,r,e,a,b⟩:=h;exists v,r,e,t.bE a,fT.mono t b
def fT.len{H:Hp}: ∀ {sn:Sn} {kvs:aq (aq aZ×V)},fT H sn kvs->kvs.length=sn.length
 | [],_,h=>by rw[show _= []from h];rfl
 |_::_,_,h=>by obtain⟨v,r,e,a,b⟩:=h;rw[e,cU,cU,fT.len b]
def fT.snoc{H:Hp}{e:Nat×Nat×Nat×Int}{v:V}(hv:aJ H (cJ none [(e.2.2.1:Int),e.2.2.2]) v): ∀ {sn:Sn} {kvs:aq (aq aZ×V)},fT H sn kvs->fT H (sn++ [e]) (kvs++ [([Sum.inl (e.1:Int),Sum.inl (e.2.1:Int)],v)])
 | [],_,h=>by rw[show _= []from h];exists v,[],rfl,hv,rfl
 |_::_,_,h=>by obtain⟨u,r,rfl,a,b⟩:=h;exists u,_,rfl,a,fT.snoc hv b
def fT.none{H:Hp}{a k:Nat}: ∀ {sn:Sn} {kvs:aq (aq aZ×V)},fT H sn kvs->(a,k) ∉ (sn.map λe=>(e.1,e.2.1))->bZ kvs ([Sum.inl (a:Int),Sum.inl (k:Int)]:aq aZ)=Option.none
 | [],_,h,_=>by rw[show _= []from h];rfl
 |e::sn,_,h,hn=>by obtain⟨u,r,rfl,_,b⟩:=h;simp only[bH,dN,not_or]at hn;rw[lI];exact fT.none b hn.2;intro z;simp only[io,wJ,kj]at z;exact hn.1 (by rw[jf];lia)
def fT.val{H:Hp}{a k b:Nat}{m:Int}: ∀ {sn:Sn} {kvs:aq (aq aZ×V)},fT H sn kvs->(sn.map λe=>(e.1,e.2.1)).Nodup->(a,k,b,m)∈sn-> ∃v,bZ kvs ([Sum.inl (a:Int),Sum.inl (k:Int)]:aq aZ)=some v/\aJ H (cJ Option.none [(b:Int),m]) v
 |e::sn,_,h,hn,hm=>by obtain⟨u,r,rfl,hu,hb⟩:=h;simp only[bH,lP]at hn;rcases List.mem_cons.mp hm with rfl|hm;exists u,nX rfl,hu;rw[lI];exact fT.val hb hn.2 hm;intro z;simp only[io,wJ,kj]at z;refine hn.1 (List.mem_map.mpr ⟨_,hm,?_⟩);simp only[jf];lia
def fT.key{H:Hp}: ∀ {sn:Sn} {kvs:aq (aq aZ×V)} {i:Nat},fT H sn kvs->i<kvs.length-> ∃e v,sn[i]? =some e/\kvs[i]? =some ([Sum.inl (e.1:Int),Sum.inl (e.2.1:Int)],v)
 | [],_,i,h,hi=>by rw[show _= []from h]at hi;cases hi
 |e::sn,_,0,h,hi=>by obtain⟨u,r,rfl,_,_⟩:=h;exists e,u,rfl,rfl
 |e::sn,_,i+1,h,hi=>by obtain⟨u,r,rfl,_,b⟩:=h;obtain⟨e',v',h1,h2⟩:=fT.key (i:=i) b (by simpa using hi);exact⟨e',v',by simpa using h1,by simpa using h2⟩
def uR{J:It}{n:Nat}{g:TG}{tb:TS}{D:iR}(Pv:Nat->L2.St->Hp->Prop)(h0:Pv 0 zd H0)(fX: ∀B:Nat->V->L2.St->Hp->Prop,(∀i x σ H',(∀N,Hk N (Pv (i+1))->g x σ H' λσ2 H2=>tb {D with nx:=N,ct:=N,bk:=D.nx} σ2 H2)->B i x σ H')-> ∀i σ H,i<n->Pv i σ H->J.go i H/\ ∀x H',J.hV i H x H'->B i x σ H')(nE: ∀σ H,Pv n σ H->J.stop n H/\D.nx σ H): ∃W:Nat->Nat->L2.St->Hp->Prop,(∃m,W 0 m zd H0)/\ ∀i m σ H,W i m σ H->(J.stop i H/\D.nx σ H)\/(J.go i H/\ ∃N:L2.St->Hp->Prop,(∀σ' H',N σ' H'-> ∃m',m'<m/\W (i+1) m' σ' H')/\ ∀x H',J.hV i H x H'->g x σ H' λσ2 H2=>tb {D with nx:=N,ct:=N,bk:=D.nx} σ2 H2):=
 su Pv h0 (fX _ λ_ _ _ _ h=>h _ λ_ _ h=>h) nE
def T1{J:It}{n:Nat}{g:TG}{tb:TS}{D:iR}(Pv:Nat->L2.St->Hp->Prop)(Fin:L2.St->Hp->Prop)(h0:Pv 0 zd H0)(fX:(∀σ H,Fin σ H->D.nx σ H)-> ∀B:Nat->V->L2.St->Hp->Prop,(∀i x σ H',(∀N,Hk N (Pv (i+1))->g x σ H' λσ2 H2=>tb {D with nx:=N,ct:=N,bk:=D.nx} σ2 H2)->B i x σ H')-> ∀i σ H,i<n->Pv i σ H->J.go i H/\ ∀x H',J.hV i H x H'->B i x σ H')(nE: ∀σ H,Pv n σ H->J.stop n H/\Fin σ H)(LH: ∀σ H,Fin σ H->D.nx σ H): ∃W:Nat->Nat->L2.St->Hp->Prop,(∃m,W 0 m zd H0)/\ ∀i m σ H,W i m σ H->(J.stop i H/\D.nx σ H)\/(J.go i H/\ ∃N:L2.St->Hp->Prop,(∀σ' H',N σ' H'-> ∃m',m'<m/\W (i+1) m' σ' H')/\ ∀x H',J.hV i H x H'->g x σ H' λσ2 H2=>tb {D with nx:=N,ct:=N,bk:=D.nx} σ2 H2):=
 uR Pv h0 (fX LH) λσ H h=>⟨(nE σ H h).1,LH σ H (nE σ H h).2⟩
structure At(K:W.Frag)(C R sa t se x:Addr)(ns:List Int)(n:Nat)(cs:List Addr)(i:Nat)(G:RG)(sn:Sn)(H:Hp):Prop where
 run:cF none C R (2*i) H G
 so:dm n G
 mi:G.MI sn
 fE:G.fE+i<=80
 dr: ∃c,Dr K H sa t ns c/\c<2^20+i
 fF: ∃kvs,H se=some (.dT kvs)/\fT H sn kvs
 cells:G.cells=cs
 nt:t∉cs
 vq:se∉cs
 gx:G.x=x
section
variable{K:W.Frag}{C R sa t se x:ae}{ns:aq Int}{n:Nat}{cs:aq ae}{i:Nat}{G:RG}{sn:Sn}{H:Hp}
def iT.of_keep{H':Hp}{a:ae}(h:iT K H a ns)(k: ∀o,H a=some o->H' a=some o):iT K H' a ns:=by rcases h with⟨o,e⟩|h;exact .inl ⟨o,k _ e⟩;exact .inr h
def Tn.of_keep{H':Hp}{m:Nat}{c:Int}(h:Tn H t m c)(k: ∀o,H t=some o->H' t=some o):Tn H' t m c:=by obtain⟨cells,e,l⟩:=h;exists cells,k _ e,l
def At.same{H':Hp}(I:At K C R sa t se x ns n cs i G sn H)(s:aY H H'):At K C R sa t se x ns n cs i G sn H':=by exists I.run.same s,I.so,I.mi,I.fE,?_,?_,I.cells,I.nt,I.vq,I.gx;obtain⟨c,d,l⟩:=I.dr;exists c,d.same s,l;obtain⟨kvs,e,h⟩:=I.fF;exists kvs,s _ _ e,h.mono s.bA
def cF.ZO{B:Nat}(I:cF none C R B H G): ∀b∈G.cells,∀o u,H b≠some (.cc o u):=λb hb o u z=>by simp only[RG.cells,rG,zC]at hb;(rcases hb with hb|hb|⟨c,hc,hb⟩);simp only[RG.bR,dN,eB,eJ]at hb;rcases hb with rfl|rfl|rfl|rfl;rw[I.ob]at z;cases z;rw[I.hl]at z;cases z;rw[I.wd]at z;cases z;obtain⟨hs,e,_⟩:=I.hi;rw[e]at z;cases z;obtain⟨w',dW,rfl⟩:=List.mem_map.mp hb;obtain⟨j,hj,ej⟩:=gT dW;obtain⟨us,e,_⟩:=I.bf j w' (by rw[br hj,ej]);rw[e]at z;cases z;obtain⟨g',EE,rfl⟩:=List.mem_map.mp hc;obtain⟨j,hj,ej⟩:=gT EE;have J:=I.aI j g' (by rw[br hj,ej]);simp only[HG.cells,dN,eB,eJ]at hb;rcases hb with rfl|rfl|rfl|rfl|rfl|rfl|rfl;obtain⟨_,_,e,_⟩:=J.ob;rw[e]at z;cases z;obtain⟨_,e,_⟩:=J.he;rw[e]at z;cases z;obtain⟨_,e,_⟩:=J.sa;rw[e]at z;cases z;obtain⟨_,e,_⟩:=J.po;rw[e]at z;cases z;obtain⟨_,e,_⟩:=J.ti;rw[e]at z;cases z;obtain⟨_,e,_⟩:=J.ar;rw[e]at z;cases z;obtain⟨_,e,_⟩:=J.me;rw[e]at z;cases z
def iT.keep{B:Nat}{H':Hp}(I:cF none C R B H G)(h:iT K H sa ns)(k:eM G.cells H H'):iT K H' sa ns:=by rcases h with⟨o,e⟩|h;exact .inl ⟨o,k _ _ (λhm=>I.ZO sa hm o _ e) e⟩;exact .inr h
def At.draw{H':Hp}{c:Int}(I:At K C R sa t se x ns n cs i G sn H)(d:Dr K H sa t ns c)(hc:c<2^20+i)(k:dL t H H')(tn:Tn H' t ns.length (c+1)):cF none C R (2*i) H' G/\(∃c,Dr K H' sa t ns c/\c<2^20+(i+1:Nat))/\(∃kvs,H' se=some (.dT kvs)/\fT H' sn kvs)/\bO H H':=by have tp:=k.bA d.tn;(have vq:se≠t:=λz=>(by obtain⟨kvs,e,_⟩:=I.fF;obtain⟨cells,e2,_⟩:=d.tn;rw[z,e2]at e;cases e));exists I.run.frame tp λb hb o e=>k b o (λz=>I.nt (by rw[<-z,<-I.cells];exact hb)) e,⟨c+1,⟨k.ii d.tn d.ii,tn,d.h63,by have:=d.c0;lia,by have:=I.fE;lia⟩,by lia⟩,?_,tp;obtain⟨kvs,e,h⟩:=I.fF;exists kvs,k _ _ vq e,h.mono tp
def pV(H0 H:Hp)(n:Nat)(G:RG)(l:Addr):Prop:=H0 l=none/\ ∃bs,H l=some (.aK bs)/\bs.length=n*n/\ ∀j,j<n*n-> ∃wl us,bs[j]? =some (.ref wl)/\H0 wl=none/\H wl=some (.aK us)/\aE H ((G.at (j/n) (j%n)).map Th.pv) us
def pV.keep{H0 H':Hp}{l:ae}(h:pV H0 H n G l)(k: ∀b o,H0 b=none->H b=some o->H' b=some o)(t:bO H H'):pV H0 H' n G l:=by obtain⟨h0,bs,e,lb,hb⟩:=h;exists h0,bs,k _ _ h0 e,lb,λj hj=> ?_;obtain⟨wl,us,e1,e0,e2,e3⟩:=hb j hj;exists wl,us,e1,e0,k _ _ e0 e2,t.bC e3
def pV.same{H0 H':Hp}{l:ae}(h:pV H0 H n G l)(s:aY H H'):pV H0 H' n G l:=h.keep (λb o _ e=>s b o e) s.bA
def Uw(h:wm n G G2 sn sn')(hk:(sn'.map λe=>(e.1,e.2.1)).Nodup): ∃f:Nat->Sn,f 0=sn/\f (n*n)=sn'/\ ∀j,j<n*n->(¬(G.at (j/n) (j%n)).length<(G2.at (j/n) (j%n)).length/\f (j+1)=f j)\/(∃th,G2.at (j/n) (j%n)=G.at (j/n) (j%n)++ [th]/\f (j+1)=f j++ [(j/n,th.k,j%n,th.m)]/\(j/n,th.k) ∉ (f j).map λe=>(e.1,e.2.1)):=by(rcases h with⟨rfl,hl⟩|⟨a,b,k,m,v,ha,hb,rfl,e1,e2⟩);exists λ_=>sn',rfl,rfl,λj _=> .inl ⟨by have:=hl (j/n) (j%n);lia,rfl⟩;(have LP:a*n+b<n*n:=(by(have:a*n+n<=n*n:=(by have:=Nat.mul_le_mul_right n (show a+1<=n from ha);rw[Nat.add_mul,Nat.one_mul]at this;exact this));lia));(have hd:(a*n+b) /n=a:=(by rw[Nat.mul_comm,Nat.mul_add_div (by lia),Nat.div_eq_of_lt hb,uz]));(have hm:(a*n+b) %n=b:=(by rw[Nat.mul_comm,Nat.mul_add_mod,Nat.mod_eq_of_lt hb]));(have hnew:(a,k) ∉sn.map λe=>(e.1,e.2.1):=(by rw[cK,bH,fZ]at hk;intro gX;have:=(List.nodup_append.mp hk).2.2 _ gX (a,k) (by simp);exact this rfl));exists λj=>if j<=a*n+b then sn else sn++ [(a,k,b,m)],aT (fQ _),aU (by lia),λj hj=> ?_;by_cases c:j=a*n+b;subst c;refine .inr ⟨⟨k,m,v⟩,by rw[hd,hm];exact e1,?_,?_⟩;show(if a*n+b+1<=a*n+b then sn else sn++ [(a,k,b,m)])=(if a*n+b<=a*n+b then sn else _)++_;rw[aU (by lia),aT (aV _),hd,hm];show _∉List.map _ (if a*n+b<=a*n+b then sn else _);rw[aT (aV _),hd];exact hnew;refine .inl ⟨?_,?_⟩;rw[e2 (j/n) (j%n) (λz=>c (by rw[<-z.1,<-z.2,Nat.mul_comm];exact(Nat.div_add_mod j n).symm))];exact kh _;(show(if j+1<=a*n+b then sn else _)=(if j<=a*n+b then sn else _));by_cases c2:j<=a*n+b;rw[aT c2,aT (by lia)];rw[aU c2,aU (by lia)]
def ZK(so:dm n G)(h:G.fE=0):G.lV= []:=by unfold RG.fE at h;(have hg:G.goes= []:=(by cases e:G.goes with|nil=>rfl|cons i r=>exfalso;obtain⟨g,hg,hw,hne⟩:=KI (G:=G) (i:=i) (by rw[e];exact fk);have h1:=yP HG.left (dR hg);(have h2:1<=g.left:=(by(obtain⟨d,rest,er⟩: ∃d rest,g.rows=d::rest:=(by cases e:g.rows with|nil=>exact absurd e hne|cons d r=>exists d,r,rfl));rw[Bf hw er];have:=Km d;lia));lia));(have hm:G.meets= []:=(by cases e:G.meets with|nil=>rfl|cons ms r=>exfalso;obtain⟨j,jj,wy,th,g,tk,_,hj,bY,_⟩:=KJ so (ns:=ms) (by rw[e];exact fk);have h1:=yU (dR hj);have h2:=(List.getElem?_eq_some_iff.mp bY).1;lia));unfold RG.lV;rw[hg,hm];rfl
def N5{B:Nat}{σ:L2.St}{Q:VK}(I:cF none C R B H G)(hn:n<=4)(h0:1<=n)(h2:σ[2]? =some (some (.int n)))(h5:σ[5]? =some (some (.ref G.x)))(q: ∀l H',aY H H'->pV H H' n G l->Q (.ref l) H'):IB 1 (MC (v9 (tX (rI zj λi j=>V.int (i*j)) (pJ 2) (pJ 2)) fH)) (jR 0) CG (IC R "on_way" (Cz C R) [] E0 (pJ 6) (v9 (tX (rI Jg λi j=>V.int (i/j)) (pJ 0) (pJ 3)) (v9 (tX (rI (λ_ j=>0<j) λi j=>V.int (i%j)) (pJ 0) (pJ 3)) fH))) σ H Q:=by(have nn:((n:Int)*n).toNat=n*n:=(by rw[<-Int.natCast_mul];rfl));(have n16:n*n<=16:=(by have:n*n<=4*4:=Nat.mul_le_mul hn hn;lia));(have nb:(n:Int)*n<=16:=(by have:((n*n:Nat):Int)=(n:Int)*n:=Int.natCast_mul n n;lia));(have nb0:0<=(n:Int)*n:=(by have:((n*n:Nat):Int)=(n:Int)*n:=Int.natCast_mul n n;lia));exists _,h2,_,h2,n,n,rfl,rfl,.inl ⟨by lia,by lia⟩,(n:Int)*n,rfl,by lia,by lia,?_;rw[nn];refine iq (n:=n*n) (λi ys H'=>aY H H'/\ys.length=i/\ ∀j,j<i-> ∃wl us,ys[j]? =some (.ref wl)/\H wl=none/\H' wl=some (.aK us)/\aE H' ((G.at (j/n) (j%n)).map Th.pv) us) ⟨aY.refl _,rfl,λj hj=>absurd hj (rJ _)⟩ ?_ ?_;(·rintro i ys H1 hi ⟨sm,ly,hy⟩;exists hi,big (by lia),?_;rintro y _ ⟨rfl,rfl⟩;rw[Int.zero_add];refine mQ ?_;have I1:=I.same sm;have g0:((List.replicate 1 none++σ).set 0 (some (V.int (i:Int))))[0]? =some (some (V.int (i:Int))):=rfl;have g3:((List.replicate 1 none++σ).set 0 (some (V.int (i:Int))))[3]? =some (some (V.int (n:Int))):=h2;have g6:((List.replicate 1 none++σ).set 0 (some (V.int (i:Int))))[6]? =some (some (V.ref G.x)):=h5;exists _,g6,G.x,G.dx,_,rfl,I1.ob,rfl,_,g0,_,g3,(i:Int),(n:Int),rfl,rfl,⟨by lia,by lia⟩,_,g0,_,g3,(i:Int),(n:Int),rfl,rfl,by lia,?_;(have ed:(i:Int) / (n:Int)=((i/n:Nat):Int):=by simp);(have em:(i:Int) % (n:Int)=((i%n:Nat):Int):=by simp);dsimp only[fH];rw[ed,em];exists G,B,i/n,i%n,rfl,I1,λl us H2 s2 oP hl r2=> ?_;(refine Wc.next hi ⟨sm.trans s2,by simp[ly],λj hj=> ?_⟩);by_cases e:j=i;subst e;exists l,us,?_,sm.free oP,hl,r2;rw[<-ly,ut (aV _),Nat.sub_self];rfl;obtain⟨wl,us',e1,e0,e2,e3⟩:=hy j (by lia);exists wl,us',?_,e0,s2 _ _ e2,s2.bC e3;rw[ww (by lia)];exact e1);rintro ys H1 ⟨sm,ly,hy⟩;exists aV _,λp hp=> ?_;have s1:=aM hp (.aK ys);refine q p _ (sm.trans s1) ⟨sm.free hp,ys,aL,ly,λj hj=> ?_⟩;obtain⟨wl,us',e1,e0,e2,e3⟩:=hy j hj;exists wl,us',e1,e0,s1 _ _ e2,s1.bC e3
def Gd{α:Type} [DecidableEq α]: ∀ {l m:aq α},l.Nodup->(∀x∈l,x∈m)->l.length<=m.length
 | [],m,_,_=>fQ _
 |x::l,m,hn,h=>by obtain⟨h1,h2⟩:=List.nodup_cons.mp hn;have hx:=h x fk;have ih:=Gd (m:=m.erase x) h2 λy hy=>(List.mem_erase_of_ne (show y≠x from λe=>h1 (by rw[<-e];exact hy))).mpr (h y (fJ _ hy));rw[List.length_erase_of_mem hx]at ih;have:=List.length_pos_of_mem hx;rw[cU];lia
def Pz(so:dm n G)(mi:G.MI sn):sn.length<=200:=by(have h:=Gd (l:=sn.map λe=>(e.1,e.2.1)) (m:=(List.range 4).flatMap λa=>(List.range 41).map λk=>(a,k)) mi.keys λp hp=>(by obtain⟨e,he,rfl⟩:=List.mem_map.mp hp;have h1:=mi.lt e he;unfold RG.lH at h1;cases hg:G.aI[e.1]? with|none=>rw[hg]at h1;exact absurd h1 (rJ _)|some g=>rw[hg]at h1;have h2:=(List.getElem?_eq_some_iff.mp hg).1;have h3:=so.len;have h4:=so.n4;have h5:=so.budget;have h6:g.sd+g.td+g.left<=(G.aI.map λg=>g.sd+g.td+g.left).sum:=yP (λg:HG=>g.sd+g.td+g.left) (dR hg);have h7:e.2.1<g.sd:=h1;exact List.mem_flatMap.mpr ⟨e.1,List.mem_range.mpr (by lia),List.mem_map.mpr ⟨e.2.1,List.mem_range.mpr (by lia),rfl⟩⟩));rw[bq]at h;exact dS h (by decide)
def Gc{α β:Type}{f:α->β}: ∀ {l:aq α} {a b:α},(l.map f).Nodup->a∈l->b∈l->f a=f b->a=b
 |x::l,a,b,hn,ha,hb,e=>by rw[bH,lP]at hn;rcases List.mem_cons.mp ha with ea|ha';rcases List.mem_cons.mp hb with eb|hb';rw[ea,eb];exact absurd (List.mem_map.mpr ⟨b,hb',by rw[<-e,ea]⟩) hn.1;rcases List.mem_cons.mp hb with eb|hb';exact absurd (List.mem_map.mpr ⟨a,ha',by rw[e,eb]⟩) hn.1;exact Gc hn.2 ha' hb' e
abbrev Ml:=List (Nat×Nat×Nat×Nat)
structure Good(G:RG)(L:Ml):Prop where
 vf: ∀y∈L,y.2∈G.gZ y.1
 keys:(L.map λy=>(y.2.2.1,y.2.2.2)).Nodup
 takes:(L.map λy=>(y.1,y.2.1)).Nodup
def Good.snoc(mi:G.MI sn){L:Ml}(h:Good G L){T:Nat}{m:Nat×Nat×Nat}(hm:m∈G.gZ T)(hn:(T,m) ∉L):Good G (L++ [(T,m)])/\(m.2.1,m.2.2) ∉ (L.map λy=>(y.2.2.1,y.2.2.2))/\(T,m.1) ∉ (L.map λy=>(y.1,y.2.1)):=by(have n1:(m.2.1,m.2.2) ∉ (L.map λy=>(y.2.2.1,y.2.2.2)):=λgX=>(by obtain⟨y,hy,e⟩:=List.mem_map.mp gX;simp only[jf]at e;have js:=h.vf y hy;obtain⟨m1,h1⟩:=mi.qG _ _ js;obtain⟨m2,h2⟩:=mi.qG _ _ hm;rw[e.1,e.2]at h1;have et:=(sS mi.keys h1 h2).1;rw[et]at js;have:=Gc (mi.pairs T) js hm (by simp only[jf];exact e);exact hn (by rw[<-this,<-et];exact hy)));(have n2:(T,m.1) ∉ (L.map λy=>(y.1,y.2.1)):=λgX=>(by obtain⟨y,hy,e⟩:=List.mem_map.mp gX;simp only[jf]at e;have js:=h.vf y hy;rw[e.1]at js;have:=Gc (mi.nums T).1 js hm e.2;exact hn (by rw[<-this,<-e.1];exact hy)));exists⟨λy hy=> ?_,?_,?_⟩,n1,n2;rcases List.mem_append.mp hy with hy|hy;exact h.vf y hy;rw[ip]at hy;subst hy;exact hm;rw[cK];exact qH h.keys n1;rw[cK];exact qH h.takes n2
/---/def iA(L:Ml):List (List aZ×V):=L.map λy=>([Sum.inl (y.2.2.1:Int),Sum.inl (y.2.2.2:Int)],V.int y.2.1)
def Nw: ∀ {L:Ml} {y:Nat×Nat×Nat×Nat},(L.map λy=>(y.2.2.1,y.2.2.2)).Nodup->y∈L->bZ (iA L) ([Sum.inl (y.2.2.1:Int),Sum.inl (y.2.2.2:Int)]:aq aZ)=some (.int y.2.1)
 |z::L,y,hn,h=>by rw[bH,lP]at hn;rcases List.mem_cons.mp h with e|h;subst e;exact nX rfl;show bZ (_::iA L) _=_;rw[lI];exact Nw hn.2 h;intro e;simp only[io,wJ,kj]at e;refine hn.1 (List.mem_map.mpr ⟨y,h,?_⟩);rw[jf];lia
def Gb: ∀ {L:Ml} {s k:Nat} {v:V},bZ (iA L) ([Sum.inl (s:Int),Sum.inl (k:Int)]:aq aZ)=some v-> ∃y∈L,y.2.2.1=s/\y.2.2.2=k/\v= .int y.2.1
 | [],s,k,v,h=>by cases h
 |z::L,s,k,v,h=>by have h':bZ (([Sum.inl (z.2.2.1:Int),Sum.inl (z.2.2.2:Int)],V.int z.2.1)::iA L) ([Sum.inl (s:Int),Sum.inl (k:Int)]:List aZ)=some v:=h;(by_cases e:([Sum.inl (z.2.2.1:Int),Sum.inl (z.2.2.2:Int)]:List aZ)= [Sum.inl (s:Int),Sum.inl (k:Int)]);rw[nX e]at h';simp only[io,wJ,kj]at e;exists z,fk,by lia,by lia,(gp h').symm;rw[lI e]at h';obtain⟨y,hy,r⟩:=Gb h';exists y,fJ _ hy,r
def Nv{L:Ml}{s k:Nat}(h:(s,k) ∉ (L.map λy=>(y.2.2.1,y.2.2.2))):bZ (iA L) ([Sum.inl (s:Int),Sum.inl (k:Int)]:aq aZ)=none:=by cases e:bZ (iA L) ([Sum.inl (s:Int),Sum.inl (k:Int)]:aq aZ)with|none=>rfl|some v=>obtain⟨y,hy,e1,e2,_⟩:=Gb e;exact absurd (List.mem_map.mpr ⟨y,hy,by rw[e1,e2]⟩) h
def Xf(mi:G.MI sn){L:Ml}(gd:Good G L)(sx: ∀T,∀x∈G.gZ T,(T,x)∈L){s k1 k2 b:Nat}{m:Int}(h1:(s,k1,b,m)∈sn)(h2:(s,k2,b,m)∈sn)(hk:k1<k2){y:Nat×Nat×Nat×Nat}(hy:y∈L)(e1:y.2.2.1=s)(e2:y.2.2.2=k2): ∃n1,bZ (iA L) ([Sum.inl (s:Int),Sum.inl (k1:Int)]:aq aZ)=some (.int (n1:Nat))/\n1<y.2.1:=by have js:=gd.vf y hy;obtain⟨m2,h3⟩:=mi.qG _ _ js;rw[e1,e2]at h3;have et:=(sS mi.keys h3 h2).1;rw[et]at js;(rcases mi.all _ h1 with⟨th,bY,ek⟩|⟨n1,fM⟩);exfalso;have h4:=mi.tD s b th bY;rw[ek]at h4;have em:=(sS mi.keys h4 h1).2;have:=mi.ahead b y.2 js m (by rw[e1,e2];exact h2) th (by rw[e1];exact bY) em;rw[e2,ek]at this;simp only at this;lia;exists n1,Nw (y:=(b,n1,s,k1)) gd.keys (sx b _ fM),?_;exact mi.order b (n1,s,k1) fM y.2 js e1.symm m h1 (by rw[e1,e2];exact h2) (by rw[e2];exact hk)
def PD: ∀ {a b:aq (aq Int)} {k:Nat},a.Perm b->(∀x∈a,x.length=k)->a.Pairwise (λx y=>L2.lexLt y x=false)->b.Pairwise (λx y=>L2.lexLt y x=false)->a=b
 | [],b,k,p,_,_,_=>by rw[List.nil_perm.mp p]
 |x::a,[],k,p,_,_,_=>by have:=p.length_eq;simp at this
 |x::a,y::b,k,p,hl,ha,hb=>by obtain⟨Er,Va⟩:=List.pairwise_cons.mp ha;obtain⟨eU,cw⟩:=List.pairwise_cons.mp hb;(have xL:x=y:=(by have hx:x∈y::b:=p.subset fk;have hy:y∈x::a:=p.symm.subset fk;rcases List.mem_cons.mp hx with e|hx;exact e;rcases List.mem_cons.mp hy with e|hy;exact e.symm;have h1:=Er y hy;have h2:=eU x hx;exact L2.Nc x y (by rw[hl x fk,hl y (fJ _ hy)]) h2 h1));subst xL;rw[PD (k:=k) (List.Perm.cons_inv p) (λz hz=>hl z (fJ _ hz)) Va cw]
def a4C{α:Type}{l:aq α}{j:Nat}(hn:l.Nodup)(hj:j<l.length):l[j] ∉l.take j:=λhm=>by obtain⟨k,hk,e⟩:=gT hm;rw[kf]at hk;rw[List.getElem_take]at e;exact(List.pairwise_iff_getElem.mp hn) k j (by lia) hj (by lia) e
def Xy{c:Bool}{A B:Prop}(h:c=false)(hB:B):if c=true then A else B:=by rw[h];exact hB
def Y4(L:Ml)(y:Nat×Nat×Nat×Nat):iA (L++ [y])=iA L++ [([Sum.inl (y.2.2.1:Int),Sum.inl (y.2.2.2:Int)],V.int y.2.1)]:=by unfold iA;rw[cK];rfl
def BL{H:Hp}: ∀ {ps:aq PV} {vs:aq V},(∀p∈ps,∃xs,p= .aC xs)->aE H ps vs-> ∃as:aq ae,vs=as.map V.ref
 | [],vs,_,r=>⟨[],by simp only[aE]at r;rw[r];rfl⟩
 |p::ps,vs,h,r=>by simp only[aE]at r;obtain⟨v,r',rfl,r1,r2⟩:=r;obtain⟨xs,rfl⟩:=h p fk;obtain⟨a,us,rfl,_⟩:=r1.aC;obtain⟨as,rfl⟩:=BL (λq hq=>h q (fJ _ hq)) r2;exists a::as,rfl
end
def Cn(ou:Heap->Addr->List Addr->Prop)(S:Addr)(as:List Addr):HO:= .ext λh=>ou h S as
inductive OB(ou:Heap->Addr->List Addr->Prop)(K:W.Frag)(xs:List V)(H:Hp)(Q:VK):Prop
 |mk (p:Addr) (as:List Addr) (bD:List (Nat×Nat)) (_:xs= [.ref p]) (_:aQ K H p (as.map V.ref)) (_:aE H (bD.map λx=>cJ none [(x.1:Int),x.2]) (as.map V.ref)) (_:bD.Nodup) (_:(∀x∈bD,x.1<4/\x.2<41)) (_:bD.length<=40) (_: ∀S,H S=none->Q (.ref S) (upd H S (Cn ou S as)))
inductive OD(ou:Heap->Addr->List Addr->Prop)(xs:List V)(H:Hp)(Q:VK):Prop
 |mk (S:Addr) (as:List Addr) (bD:List (List Int)) (k:Nat) (_:xs= [.ref S]) (_:H S=some (Cn ou S as)) (_:aE H (bD.map (cJ none)) (as.map V.ref)) (_:(∀ns∈bD,ns.length=k)) (_:1<=k) (_:bD.length<64) (_: ∀ (l:Addr) (lq:List (List Int)) (ys':List V),H l=none->lq.Perm bD->lq.Pairwise (λa b=>L2.lexLt b a=false)->aE H (lq.map (cJ none)) ys'->Q (.ref l) (upd H l (.aK ys')))
abbrev Bb:List Str:= ["_law_script", "_law_town_here", "_law_hands", "_law_program_here", "_law_space", "_law_run", "_law_sent", "_law_k", "_law_events", "_law_event", "_law_before", "_law_after", "_law_j", "_law_met", "_law_taken", "_law_taker", "_law_hand", "_law_number", "_law_sender", "_law_thing_here", "_law_other", "_law_later"]
def gh:bP Bb ["_law_script"] (bo j4):=fs
def ND:(("_law_way":aA)::Bb).Nodup:=by decide+kernel
/---/def xc{α:Type}:List α->List α->List α
 | [a,b],[c]=> [a,b,c]
 |_,_=> []
structure Dh(P:Program)(w:World)(K:W.Frag)(mg:Str->Option Value)(base:Heap)(C R:Addr):Prop where
 ex: ∃f fd,Mk K R f/\bw P w K mg base bh 9 f fd ["self", "program", "room"] (P1 C R)/\zt K fd ["self", "program", "room"] ["room"] xc xc
 at_:mg "Run"=some (.ref R)
inductive yJ(K:W.Frag)(vs:List V)(H:Hp)(Q:VK)(cO:XK):Prop
 |mk (a ns:_) (_:vs= [.ref a]) (_:iT K H a ns) (_:ns.length<=63) (_: ∀H',Q (.bl true) H')
section
open Lean in
local macro_rules|`(tactic|refine $e)=>do if e.raw.isOfKind ``Parser.Term.paren then Macro.throwUnsupported else`(tactic|((try refine((by assumption:L2.Hk _ _) _ _ ?_));(try with_reducible refine(L2.sq λ_ _=> ?_));refine($e)))|`(tactic|exact $e)=>do if e.raw.isOfKind ``Parser.Term.paren then Macro.throwUnsupported else`(tactic|((try refine((by assumption:L2.Hk _ _) _ _ ?_));exact($e)))
def a0G{ou:ak->ae->aq ae->Prop}(F:bK K "law" "law" j4 f fd)(T:Tx mg)(T2:rM mg)(hR:f9 K R)(hs1: ∀X:Cx,X.w=w->X.gu=true->X.A.units+100<cLine->gS X (.type "set") (OB ou X.K))(hs2: ∀X:Cx,X.w=w->X.gu=true->X.A.units+100<cLine->gS X (.builtin "sorted") (OD ou))(Fm:cP P w K mg base bh 1 "_law_town" ["_law_script"] (Ip K))(sG:cP P w K mg base bh 1 "_law_draw" ["_law_script", "_law_town_here", "_law_many"] (vX K))(oS:cP P w K mg base bh 2 "_law_pick" ["_law_script", "_law_town_here", "_law_some"] (yK K))(EQ:cP P w K mg base bh 9 "_law_program" ["_law_script", "_law_town_here", "_law_hands", "_law_most_rows", "_law_wild"] (Io K))(sD:Dh P w K mg base C R)(oJ:cI P w K mg base R 4 "events" ["self"] (yH C R))(xm:cI P w K mg base R 6 "do" ["self", "event"] (Ij C R))(sI:cI P w K mg base R 6 "end" ["self"] (Il C R))(E3:cI P w K mg base R 1 "on_way" ["self", "sender", "taker"] (Cz C R)):bw P w K mg base bh 11 f fd ["_law_script"] (yJ K):=by obtain⟨f0,fd0,Y9,VH,Vj⟩:=sD.ex;obtain⟨g1,oG,fM,dQ,eU⟩:=oJ;obtain⟨g2,iu,cV,dG,cw⟩:=xm;obtain⟨g3,K8,xz,qj,qi⟩:=sI;obtain⟨g4,gd4,LY,LJ,Lr⟩:=E3;refine F.ok gh (λvs H Q E h=> ?_) λbd A outer s H vs Q E hr h=> ?_;obtain⟨_,_,rfl,_⟩:=h;rfl;obtain⟨sa,ns,rfl,Mp,h63,q⟩:=h;have Mt:=hr.un;(have hu:(A.deeper (envOfC "law" (bo j4) s.heap.objs.size f bd)).units+1<cLine:=by lia);(have WM:(A.deeper (envOfC "law" (bo j4) s.heap.objs.size f bd)).units<cLine:=by lia);(have oX:(A.deeper (envOfC "law" (bo j4) s.heap.objs.size f bd)).units+100<cLine:=by lia);exists _,be (cA (i:=1) gh.nd rfl (Or.inl rfl) (cj Fm hr rfl bt (aD (pv 0) aO))) (be (cA (i:=2) gh.nd rfl (Or.inr rfl) (df px ba (cj sG hr rfl bt (aD (pv 0) (aD (pv 1) (aD ba aO)))))) (be (cA (i:=3) gh.nd rfl (Or.inl rfl) (cj EQ hr rfl bt (aD (pv 0) (aD (pv 1) (aD (pv 2) (aD ba (aD qL aO))))))) (be (cA (i:=4) gh.nd rfl (Or.inl rfl) (cj oS hr rfl bt (aD (pv 0) (aD (pv 1) (aD (fO (aD ba (aD ba (aD mE aO)))) aO))))) (be (cA (i:=5) gh.nd rfl (Or.inr rfl) (a1B Y9 VH (hr.mono (by decide)) rfl sD.at_ Vj bt (aD (pv 3) aO) (a1N (pv 4) a1O))) (be (cA (i:=6) gh.nd rfl (Or.inl rfl) (Od)) (be (kE ki rfl (pz rfl T.range (aD ba aO)) (cC (i:=7) gh.nd rfl (Or.inl rfl)) (be (cA (i:=8) gh.nd rfl (Or.inl rfl) (gg (pv 5) hR.cl fM dQ (hr.mono (by decide)) eU .nil bt)) (be (cN (cY (N0 WM) (pv 8) (fO aO) (cQ _)) (bn a1Y) dB) (be (cA (i:=9) gh.nd rfl (Or.inl rfl) (cj oS hr rfl bt (aD (pv 0) (aD (pv 1) (aD (pv 8) aO))))) (be (tM (i:=10) (T:= ["_law_way"]) (lG (bo j4) Bb rfl rfl (by decide+kernel)) rfl gh.nd rfl rfl (pz rfl T.range (aD (df tG (pv 2) (pv 2)) aO)) (λY hY=>by cases hY;exact cC (i:=0) ND rfl (Or.inl rfl)) iE (λY _=>lv) (λY hY=>by cases hY;exact iK (pv 6) hR.cl LY LJ (hr.mono (by decide)) Lr .nil bt (aD (df tE (pv 0) (pv 3)) (aD (df nK (pv 0) (pv 3)) aO)))) (be (fg (iK (pv 5) hR.cl cV dG (hr.mono (by decide)) cw .nil bt (aD (pv 9) aO))) (be (tM (i:=11) (T:= ["_law_way"]) (lG (bo j4) Bb rfl rfl (by decide+kernel)) rfl gh.nd rfl rfl (pz rfl T.range (aD (df tG (pv 2) (pv 2)) aO)) (λY hY=>by cases hY;exact cC (i:=0) ND rfl (Or.inl rfl)) iE (λY _=>lv) (λY hY=>by cases hY;exact iK (pv 6) hR.cl LY LJ (hr.mono (by decide)) Lr .nil bt (aD (df tE (pv 0) (pv 3)) (aD (df nK (pv 0) (pv 3)) aO)))) (bn (kE ki rfl (pz rfl T.range (aD (df tG (pv 2) (pv 2)) aO)) (cC (i:=12) gh.nd rfl (Or.inl rfl)) (bn (cN (cY vy (dw jh rfl T.len boot_len (aD (bI gz (pv 11) (pv 12) λ_ _=>rfl) aO)) (dw jh rfl T.len boot_len (aD (bI gz (pv 10) (pv 12) λ_ _=>rfl) aO)) (cQ _)) (bn (qP hu (pv 6) (cz (aD (df tE (pv 12) (pv 2)) (aD (bI (cM K rfl) (bI gz (bI gz (pv 11) (pv 12) λ_ _=>rfl) (BI CQ ba) λ_ _=>rfl) ba λ_ _=>rfl) aO))) (cz (aD (df nK (pv 12) (pv 2)) (aD (bI (cM K rfl) (bI gz (bI gz (pv 11) (pv 12) λ_ _=>rfl) (BI CQ ba) λ_ _=>rfl) ba λ_ _=>rfl) aO))) rfl)) dB))))))))))) (be (cA (i:=13) gh.nd rfl (Or.inl rfl) (Od)) (be (cA (i:=14) gh.nd rfl (Or.inl rfl) (fO aO)) (be (kE ki rfl (Om rfl T.enum (aD (gg (pv 5) hR.cl xz qj (hr.mono (by decide)) qi .nil bt) aO)) (nO rfl (gN (cC (i:=15) gh.nd rfl (Or.inl rfl)) (gN (cC (i:=16) gh.nd rfl (Or.inl rfl)) nP))) (bn (kE ki rfl (ye (bI (cM K rfl) (pv 16) ba λ_ _=>rfl)) (nO rfl (gN (cC (i:=17) gh.nd rfl (Or.inl rfl)) (gN (cC (i:=18) gh.nd rfl (Or.inl rfl)) (gN (cC (i:=19) gh.nd rfl (Or.inl rfl)) nP)))) (be (cN (PW.pt (pB (pA (Gw hu (cz (aD (pv 18) (aD (pv 19) aO))) (pv 13))) (pB (cY BE (cz (aD (pv 15) (aD (pv 17) aO))) (pv 14) rfl) (vC (cY tH (bI (cM K rfl) (nN hu (pv 6) (cz (aD (pv 18) (aD (pv 19) aO))) λ_ _=>rfl) ba λ_ _=>rfl) (pv 15) (cQ _)))))) (bn (bQ qL)) dB) (be (qP hu (pv 13) (cz (aD (pv 18) (aD (pv 19) aO))) (pv 17) rfl) (bn (fg (nL mY uE uF tq (pv 14) (aD (cz (aD (pv 15) (aD (pv 17) aO))) aO))))))))) (be (GK (kE ki rfl (GD (pv 6)) (nO rfl (gN (cC (i:=18) gh.nd rfl (Or.inl rfl)) (gN (cC (i:=19) gh.nd rfl (Or.inl rfl)) nP))) (bn (kE ki rfl (GD (pv 6)) (nO rfl (gN (cC (i:=20) gh.nd rfl (Or.inl rfl)) (gN (cC (i:=21) gh.nd rfl (Or.inl rfl)) nP))) (bn (cN (PW.pt (qQ (cY jt (pv 18) (pv 20) (cQ _)) (qQ (cY Gp (pv 19) (pv 21) (cQ _)) (tN (cY BD (nN hu (pv 6) (cz (aD (pv 18) (aD (pv 19) aO))) λ_ _=>rfl) (nN hu (pv 6) (cz (aD (pv 20) (aD (pv 21) aO))) λ_ _=>rfl) (cQ _)))))) (bn (cN (PW.pt (qQ (pA (Gw hu (cz (aD (pv 20) (aD (pv 21) aO))) (pv 13))) (tN (cY vy (GA hu (pv 13) (cz (aD (pv 18) (aD (pv 19) aO))) ba ⟨rfl,rfl,rfl,rfl⟩) (nN hu (pv 13) (cz (aD (pv 20) (aD (pv 21) aO))) λ_ _=>rfl) (cQ _))))) (bn (bQ qL)) dB)) dB)))))) (bn (bQ (nM (a09 oX) (dw DI rfl T2.sorted boot_sorted (aD (pv 14) aO)) (dw (hs2 _ rfl rfl oX) rfl T2.sorted boot_sorted (aD (ju (hs1 _ rfl rfl oX) rfl T2.set boot_set (aD (pv 14) aO)) aO)) (cQ _)))))))))))))),?_;have z0:0<=sizeLine:=fQ _;(have z1:1<=sizeLine:=by decide);(have z2:2<=sizeLine:=by decide);(have z3:3<=sizeLine:=by decide);exists _,rfl,sa,ns,rfl,Mp,h63,λt H1 s1 ht0 tn1=> ?_;(have d1:Dr K H1 sa t ns 0:=⟨Mp.of_keep λo e=>s1 _ _ e,tn1,h63,by lia,by decide⟩);exists _,rfl,_,rfl,sa,t,ns,0,3,rfl,d1,by decide,by decide,λd H2 d0 d3 k2 nV=>⟨2,d,rfl,rfl,?_⟩;(obtain⟨n,hn⟩: ∃n:Nat,2+d=(n:Int):=⟨(2+d).toNat,by lia⟩);show jR 2 (V.int (2+d)) _ _ _;rw[hn];(have n2:2<=n:=by lia);(have n4:n<=4:=by lia);(have at2:gk H1 H2 t ns.length 0 1:=⟨k2,nV⟩);have d2:=at2.dr d1 (by decide);exists _,rfl,_,rfl,_,rfl,sa,t,ns,_,n,rfl,d2,by decide,n2,n4,λv3 k3 H3 bB LR iU ii rp=> ?_;have wR:=iU.dr d2 (by decide);exists _,rfl,_,rfl,z3,λl4 oQ=> ?_;have s4:=aM oQ (.aK [.int 0,.int 1,.aN]);exists sa,t,ns,_,l4,[.int 0,.int 1,.aN],rfl,wR.same s4,wR.tn.ne oQ,aL,by decide,by decide,λx5 H5 mo k5 wc=> ?_;(obtain⟨ro,xF,WA⟩: ∃ro:ap Nat,x5=hJ ro/\ ∀m,ro=some m->m<=99:=(by simp only[dN,eB,eJ]at mo;rcases mo with rfl|rfl|rfl;exact⟨some 0,rfl,λm e=>by cases e;decide⟩;exact⟨some 1,rfl,λm e=>by cases e;decide⟩;exact⟨none,rfl,λm e=>by cases e⟩));subst xF;have t35:bO H3 H5:=s4.bA.trans (k5.bA (wR.same s4).tn);(have d5:Dr K H5 sa t ns (((0:Int)+(1:Nat)+k3)+1):=⟨k5.ii (wR.same s4).tn (wR.same s4).ii,wc,h63,by lia,by lia⟩);exists _,rfl,_,rfl,λx dx hx Ez nx=> ?_;have sdx:=aM Ez (.bR x);(have iy:upd H5 dx (.bR x) x=none:=by rw[aP nx.symm];exact hx);have s6:=sdx.trans (aM iy (.bv R dx []));have Ks:=a3L n2 n4 ii;obtain⟨vj,a2Q⟩:=a3M ii;exists x,dx,K2.settle bB,ro,v3,rfl,aL,s6.bE (t35.bE rp),Ks.2,by lia,WA,λG H6 ex IR fr XZ T9=>⟨rfl,?_⟩;obtain⟨so0,Y7,a5w⟩:=Ua fr vj n2 n4 Ks.2 a2Q;(have out: ∀b o,H5 b=some o->b∉G.cells:=λb o e hb=>(by rcases T9 b hb with z|z;rw[z,hx]at e;cases e;rw[s6 _ _ e]at z;cases z));have XE:aY H5 H6:=λb o e=>XZ b o (λz=>by subst z;rw[hx]at e;cases e) (s6 _ _ e);refine λse AK=> ?_;have s7:=aM AK (.dT []);(have A0:At K C R sa t se x ns n G.cells 0 G [] (upd H6 se (.dT [])):=(by exists IR.same s7,so0,Y7,by lia,⟨_,(d5.same XE).same s7,by lia⟩,⟨[],aL,rfl⟩,rfl,?_,?_,ex;obtain⟨cells,e,_⟩:=d5.tn;exact out t _ e;intro hm;obtain⟨u,dM⟩:=IR.live se hm;rw[AK]at dM;cases dM));generalize upd H6 se (.dT [])=H7 at A0⊢;generalize G.cells=cs at A0;(have nn:((n:Int)*n).toNat=n*n:=(by(have:(n:Int)*n=((n*n:Nat):Int):=by push_cast;rfl);rw[this];rfl));(have a5t:(0:Int)<n:=by lia);(have ediv: ∀j:Nat,(j:Int) / (n:Int)=((j/n:Nat):Int):=λj=>by simp);(have emod: ∀j:Nat,(j:Int) % (n:Int)=((j%n:Nat):Int):=λj=>by simp);exists 80,rfl,by decide,by decide,?_;refine T1 (n:=80) (λi σ' H'=> ∃ (G:RG) (sn:Sn) (r7 r8 r9 lA lB j3:ap V),σ'= [some (.ref sa),some (.ref t),some (.int n),some v3,some (hJ ro),some (.ref x),some (.ref se),r7,r8,r9,lA,lB,j3,none,none,none,none,none,none,none,none,none]/\At K C R sa t se x ns n cs i G sn H') (λσ' H'=> ∃ (i:Nat) (G:RG) (sn:Sn) (r7 r8 r9 lA lB j3:ap V),σ'= [some (.ref sa),some (.ref t),some (.int n),some v3,some (hJ ro),some (.ref x),some (.ref se),r7,r8,r9,lA,lB,j3,none,none,none,none,none,none,none,none,none]/\At K C R sa t se x ns n cs i G sn H'/\G.lV= []) ⟨G,[],none,none,none,none,none,none,rfl,A0⟩ ?_ ?_ ?_;rintro fin B hB i σ' H8 hi ⟨G,sn,r7,r8,r9,lA,lB,j3,rfl,A8⟩;exists hi,?_;rintro k8 _ ⟨rfl,rfl⟩;refine hB _ _ _ _ λN hN=> ?_;exists _,rfl,x,G.dx,_,rfl,(by rw[<-A8.gx];exact A8.run.ob),rfl,?_;dsimp only[fH];exists G,2*i,by rw[A8.gx];rfl,A8.run,A8.so.wY,λl ys H9 ms s9 oP hl pm ry=> ?_;have A9:=A8.same s9;exists _,rfl,z0,λe0 Ax=> ?_;have hU:=aM Ax (.aK []);have F5:=ry.len;rw[gn,bq,bq,pm.length_eq]at F5;exists l,e0,ys,rfl,rfl,aQ.of (hU _ _ hl),aQ.of aL,_,rfl,bJ (λc=> ?_) λc=> ?_;refine fin _ _ ⟨i,G,sn,_,_,_,_,_,_,rfl,A9.same hU,?_⟩;(have y0:ys.length=0:=by rw[List.isEmpty_iff.mp c];rfl);have g0:G.goes= []:=List.eq_nil_of_length_eq_zero (by lia);have m0:G.meets= []:=List.eq_nil_of_length_eq_zero (by lia);unfold RG.lV;rw[g0,m0];rfl;(have a48:1<=ys.length:=(by cases ys with|nil=>exact absurd rfl c|cons _ _=>simp));have rc:=A9.same hU;have few:=A8.so.wY.few;have lm:=sr (λw=>G.aR w.t) G.bf;have lm':G.meets.length=(G.bf.flatMap λw=>mx w (G.aR w.t)).length:=rfl;(have lgo:G.goes.length<=4:=(by have h1:G.goes.length<=(List.range G.aI.length).length:=wA _ _;rw[oh,A8.so.len]at h1;lia));obtain⟨Ry,wQ,Vr⟩:=rc.dr;have EJ:=hU _ _ hl;(have ZG:l≠t:=λz=>(by obtain⟨cells,e,_⟩:=wQ.tn;obtain⟨c8,d8,_⟩:=A8.dr;obtain⟨a5d,e8,_⟩:=d8.tn;rw[z,e8]at oP;cases oP));exists _,rfl,_,rfl,_,rfl,sa,t,ns,Ry,l,ys,rfl,wQ,ZG,EJ,a48,by lia,λev og oJ XD a4G=> ?_;obtain⟨C8,SS,a3G,t11⟩:=rc.draw wQ Vr XD a4G;(obtain⟨p,hp,rp⟩: ∃p,p∈G.lV/\aJ og p ev:=(by obtain⟨ix,VS,Tb⟩:=gT oJ;obtain⟨p,ep,rp⟩:=(hU.bC ry).get (show ys[ix]? =some ev by rw[br VS,Tb]);exists p,?_,t11.bE rp;have dz:=dR ep;rcases List.mem_append.mp dz with h|h;exact dE _ h;exact db _ ((pm.map i7).subset h)));dsimp only[jR,CF,yQ];refine N5 (n:=n) C8 n4 (by lia) ?_ ?_ λlb mU mI a1i=> ?_;rfl;rw[A8.gx];rfl;have C9:=C8.same mI;exists _,rfl,x,G.dx,_,rfl,(by rw[<-A8.gx];exact C9.ob),rfl,_,rfl,n,G,2*i,ev,p,by rw[A8.gx];rfl,C9,A8.so,by lia,mI.bE rp,hp,λui G1 G2 es fr qa=> ?_;obtain⟨Ie,ph2,sn',Nx,Uv⟩:=TH A8.so A8.mi es fr;have x2:G2.x=x:=(fr.x.trans es.x).trans A8.gx;have c2:G2.cells=cs:=(fr.cells.trans es.cells).trans A8.cells;(have ZH: ∀b,og b=none->b∉G.cells:=λb e hm=>(by obtain⟨u,dM⟩:=C8.live b hm;rw[e]at dM;cases dM));have a1j:pV og ui n G lb:=a1i.keep (λb o e0 e=>qa.keep b o (ZH b e0) e) qa.bA;obtain⟨JU,DL,Vs⟩:=SS;have rX:=DL.same mI;(have Ac:Dr K ui sa t ns JU:=⟨iT.keep C9 rX.ii qa.keep,rX.tn.of_keep λo e=>qa.keep t o (by rw[A8.cells];exact A8.nt) e,rX.h63,rX.c0,rX.c1⟩);obtain⟨X4,nD,vW⟩:=a3G;have jo:=qa.keep se _ (by rw[A8.cells];exact A8.vq) (mI _ _ nD);have tU:=vW.mono (mI.bA.trans qa.bA);dsimp only[jR,CF,yQ];refine N5 (n:=n) qa.is n4 (by lia) ?_ ?_ λla uj ja a1l=> ?_;rfl;rw[x2];rfl;have a1k:=a1j.same ja;obtain⟨LW,bs,xj,lbs,Vo⟩:=a1k;obtain⟨LV,as_,Vg,las,Vd⟩:=a1l;have Mq:=ja _ _ jo;have a3S:=tU.mono ja.bA;obtain⟨ff,TL,TM,KN⟩:=Uw Uv Nx.keys;(have a5s:n*n<=16:=(by have:n*n<=4*4:=Nat.mul_le_mul n4 n4;lia));have nnc:((n*n:Nat):Int)=(n:Int)*n:=Int.natCast_mul n n;(have ZW:la≠se:=λz=>by rw[z,jo]at LV;cases LV);(have ZX:lb≠se:=λz=>by rw[z,nD]at LW;cases LW);exists _,rfl,_,rfl,(n:Int),(n:Int),rfl,rfl,.inl ⟨by lia,by lia⟩,(n:Int)*n,rfl,by lia,by lia,?_;rw[nn];refine uR (n:=n*n) (λj σ' H'=> ∃ (j3:ap V) (kvs:aq (aq aZ×V)),σ'= [some (.ref sa),some (.ref t),some (.int n),some v3,some (hJ ro),some (.ref x),some (.ref se),some (.int (0+(i:Int))),some (.ref l),some ev,some (.ref lb),some (.ref la),j3,none,none,none,none,none,none,none,none,none]/\(∀b o,b≠se->uj b=some o->H' b=some o)/\bO uj H'/\H' se=some (.dT kvs)/\fT H' (ff j) kvs/\kvs.length<=200+j) ?_ ?_ ?_;exists _,X4,rfl,λb o _ e=>e,bO.refl _,Mq,by rw[TL];exact a3S,?_;rw[vW.len];have:=Pz A8.so A8.mi;lia;rintro B hB j σ' rh hj ⟨a19,kvs,rfl,kp,tp,sO,yF,lk⟩;exists hj,?_;rintro y zo ⟨rfl,rfl⟩;refine hB _ _ _ _ λN hN=> ?_;rw[Int.zero_add];obtain⟨wb,ub,eb,QY,WS,rb⟩:=Vo j hj;obtain⟨wa,ua,ea,QV,iF,ra⟩:=Vd j hj;(have Z3:wa≠se:=λz=>by rw[z,jo]at QV;cases QV);(have Z4:wb≠se:=λz=>by rw[z,nD]at QY;cases QY);have EO:=kp _ _ ZW Vg;have VZ:=kp _ _ ZX xj;have Fu:=kp _ _ Z3 iF;have WU:=kp _ _ Z4 WS;have Ni:=ra.len;have lub:=rb.len;rw[bq]at Ni lub;exists _,rfl,_,rfl,la,_,(j:Int),_,rfl,rfl,aQ.of EO,gq ea,wa,ua,rfl,.inl (aQ.of Fu),_,rfl,_,rfl,lb,_,(j:Int),_,rfl,rfl,aQ.of VZ,gq eb,wb,ub,rfl,.inl (aQ.of WU),_,_,rfl,rfl,_,rfl,bJ (λc=> ?_) λc=> ?_;(have hlt:ub.length<ua.length:=(by(have:(ub.length:Int)<(ua.length:Int):=by simpa using c);lia));(rcases KN j hj with⟨h1,_⟩|⟨th,e1,e2,e3⟩);exfalso;lia;rw[e1,cK]at ra;obtain⟨u0,v0,rfl,_,rv0⟩:=GZ (p:=th.pv) ra;obtain⟨ta,rfl,jV⟩:=Th.bE rv0;have xJ:=tp _ _ jV;exists _,rfl,_,rfl,(j:Int),(n:Int),rfl,rfl,by lia,_,rfl,_,rfl,la,_,(j:Int),_,rfl,rfl,aQ.of EO,gq ea,1,rfl,wa,_,-1,_,rfl,rfl,aQ.of Fu,JJ u0 _,ta,_,1,_,rfl,rfl,aS.of xJ,rfl,z2,λvt WR=> ?_;have mJ:=aM WR (.aC [.int ((j:Int) % (n:Int)),.int th.m]);exists _,rfl,_,rfl,_,rfl,(j:Int),(n:Int),rfl,rfl,⟨by lia,by lia⟩,_,rfl,_,rfl,la,_,(j:Int),_,rfl,rfl,aQ.of (mJ _ _ EO),gq ea,1,rfl,wa,_,-1,_,rfl,rfl,aQ.of (mJ _ _ Fu),JJ u0 _,ta,_,0,_,rfl,rfl,aS.of (mJ _ _ xJ),rfl,z2,λkt kA=> ?_;have O2:=aM kA (.aC [.int ((j:Int) / (n:Int)),.int th.k]);have yq:=mJ.trans O2;(have Tg:upd (upd zo vt (.aC [.int ((j:Int) % (n:Int)),.int th.m])) kt (.aC [.int ((j:Int) / (n:Int)),.int th.k]) kt=some (.aC (([Sum.inl ((j/n:Nat):Int),Sum.inl (th.k:Int)]:aq aZ).map kV)):=(by rw[aL,ediv];rfl));exists se,_,rfl,gl.t (k:= [Sum.inl ((j/n:Nat):Int),Sum.inl (th.k:Int)]) (yq _ _ sO) Tg (big (by lia)),?_;(have rvt:aJ (upd (upd zo vt (.aC [.int ((j:Int) % (n:Int)),.int th.m])) kt (.aC [.int ((j:Int) / (n:Int)),.int th.k])) (cJ none [((j%n:Nat):Int),th.m]) (.ref vt):=(by refine O2.bE (pk (a:= .at (.int ((j%n:Nat):Int))) (b:= .at (.int th.m)) aL ?_ rfl);show V.int ((j:Int) % (n:Int))=V.int ((j%n:Nat):Int);rw[emod]));(have Py:=(yF.mono yq.bA));rw[yg _ (Py.none e3)];have Qr:=gH (yq _ _ sO) (λ_ w=>by cases w) (.dT (kvs++ [([Sum.inl ((j/n:Nat):Int),Sum.inl (th.k:Int)],V.ref vt)]));refine⟨_,_,rfl,λb o nb e=> ?_,tp.trans (yq.bA.trans Qr),aL,?_,by simp;lia⟩;rw[aP nb];exact yq _ _ (kp b o nb e);rw[e2];exact(fT.snoc (e:=(j/n,th.k,j%n,th.m)) rvt Py).mono Qr;have EF: ¬ub.length<ua.length:=λz=>c (by simp;lia);(rcases KN j hj with⟨_,h2⟩|⟨th,e1,_,_⟩);exact⟨_,kvs,rfl,kp,tp,sO,by rw[h2];exact yF,by lia⟩;exfalso;rw[e1,gn,cU,rE]at Ni;lia;rintro σ' rh ⟨a19,kvs,rfl,kp,tp,sO,yF,lk⟩;rw[TM]at yF;have Z6: ∀b∈cs,b≠se:=λb hb z=>A8.vq (by rw[<-z];exact hb);(have a4I:t≠se:=λz=>(by obtain⟨cells,e,_⟩:=Ac.tn;rw[z,jo]at e;cases e));exists aV _,hN _ _ ⟨G2,sn',_,_,_,_,_,_,rfl,?_⟩;have rY:=Ac.same ja;have Q6:=qa.is.same ja;exists ?_,Ie,Nx,by have:=A8.fE;lia,⟨JU,⟨?_,rY.tn.of_keep λo e=>kp t o a4I e,rY.h63,rY.c0,rY.c1⟩,Vs⟩,⟨kvs,sO,yF⟩,c2,A8.nt,A8.vq,x2;(have:2*(i+1)=2*i+2:=by lia);rw[this];exact Q6.frame tp λb hb o e=>kp b o (Z6 b (by rw[<-c2];exact hb)) e;rcases rY.ii with⟨o,e⟩|h;exact .inl ⟨o,kp sa _ (λz=>by rw[z,Mq]at e;cases e) e⟩;exact .inr h;rintro σ' H' ⟨G,sn,r7,r8,r9,lA,lB,j3,rfl,A⟩;exists aV _,80,G,sn,r7,r8,r9,lA,lB,j3,rfl,A,ZK A.so ?_;have:=A.fE;lia;rintro σ' H8 ⟨i,G,sn,r7,r8,r9,lA,lB,j3,rfl,A8,VE⟩;refine λme jT=> ?_;have s9:=aM jT (.dT []);exists z0,λta jV=> ?_;have hU:=aM jV (.aK []);have rc:=A8.same (s9.trans hU);(have NL:ta≠me:=λz=>by rw[z,aL]at jV;cases jV);have V7:upd (upd H8 me (.dT [])) ta (.aK []) me=some (.dT []):=hU _ _ aL;exists _,rfl,x,G.dx,_,rfl,(by rw[<-A8.gx];exact rc.run.ob),rfl,n,G,2*i,by rw[A8.gx];rfl,rc.run,rc.so,VE,λr rs og jw Fb lr a1r=>⟨r,rs,rfl,aS.of Fb,?_⟩;obtain⟨kvs,nD,vW⟩:=(rc.same jw).fF;have LZ:=jw _ _ V7;have Mr:og ta=some (.aK []):=jw _ _ aL;have cf:=A8.so.len;(have a5r:kvs.length<=200:=by rw[vW.len];exact Pz A8.so A8.mi);(have Gi:se≠me:=λz=>by rw[z,LZ]at nD;cases(gp nD);rw[<-z]at jT;obtain⟨k',e',_⟩:=A8.fF;rw[jT]at e';cases e');(have Gk:se≠ta:=λz=>by rw[z,Mr]at nD;cases nD);refine uR (n:=rs.length) (λi' σ' H'=> ∃ (vD vE qR tO tP:ap V) (L:Ml) (tk:aq V),σ'= [some (.ref sa),some (.ref t),some (.int n),some v3,some (hJ ro),some (.ref x),some (.ref se),r7,r8,r9,lA,lB,j3,some (.ref me),some (.ref ta),vD,vE,qR,tO,tP,none,none]/\(∀b o,b≠me->b≠ta->og b=some o->H' b=some o)/\bO og H'/\H' me=some (.dT (iA L))/\H' ta=some (.aK tk)/\aE H' (L.map λy=>cJ none [(y.1:Int),y.2.1]) tk/\Good G L/\(∀y∈L,y.1<i')/\(∀T,T<i'-> ∀z∈G.gZ T,(T,z)∈L)/\L.length<=((G.aI.take i').map λg=>g.met.length).sum) ?_ ?_ ?_;exists none,none,none,none,none,[],[],rfl,λb o _ _ e=>e,bO.refl _,LZ,Mr,aE.nil,⟨λy hy=>(by cases hy),oj,oj⟩,λy hy=>(by cases hy),λT hT=>absurd hT (rJ _),fQ _;rintro B hB i' σ' mU hi ⟨vD,vE,qR,tO,tP,L,tk,rfl,kp,tp,EU,AL,tR,gd,FW,sx,lL⟩;(have ce:i'<G.aI.length:=by lia);have eg:G.aI[i']? =some G.aI[i']:=br ce;have ev':rs[i']? =some rs[i']:=br hi;have Tr:=a1r i' _ _ eg ev';obtain⟨pr,pm_,q0,q1,q3,mt,ms,D2,Wx,E7,vB,ym⟩:=Tr;have DZ:G.gZ i'=G.aI[i'].met:=vn eg;exists⟨hi,aS.of (tp _ _ Fb)⟩,?_;rintro y ui ⟨ty,hty,rfl,eH⟩;refine hB _ _ _ _ λN hN=> ?_;(have DW:ui=upd mU ty (.aC [.int (i':Int),.ref pr]):=(by rw[eH];show upd mU ty (.aC [V.int (i':Int),rs.getD i' .aN])=_;rw[List.getD_eq_getElem?_getD,ev',D2];rfl));subst DW;clear eH;have iM:=aM hty (.aC [.int (i':Int),.ref pr]);exists ty,_,rfl,aS.of aL,rfl,_,_,rfl,_,_,rfl,rfl,?_;exists _,rfl,pr,_,2,_,rfl,rfl,aS.of (iM _ _ (tp _ _ Wx)),rfl,pm_,rfl,⟨ms,aS.of (iM _ _ (tp _ _ E7))⟩,?_;have Bj:=ym.len;rw[bq]at Bj;(have ZB:mt.Nodup:=(by(have h1:(mt.map λz=>z.1).Nodup:=(by have h2:((G.gZ i').map λz=>z.1).Nodup:=(A8.mi.nums i').1;rw[DZ]at h2;exact(vB.map _).nodup_iff.mpr h2));exact List.Pairwise.of_map _ (λa b h z=>h (by rw[z])) h1));refine uR (n:=ms.length) (λjj σ' H'=> ∃ (qR tO tP:ap V) (tk':aq V),σ'= [some (.ref sa),some (.ref t),some (.int n),some v3,some (hJ ro),some (.ref x),some (.ref se),r7,r8,r9,lA,lB,j3,some (.ref me),some (.ref ta),some (.int (i':Int)),some (.ref pr),qR,tO,tP,none,none]/\(∀b o,b≠me->b≠ta->og b=some o->H' b=some o)/\bO og H'/\H' me=some (.dT (iA (L++(mt.take jj).map λz=>(i',z))))/\H' ta=some (.aK tk')/\aE H' ((L++(mt.take jj).map λz=>(i',z)).map λy=>cJ none [(y.1:Int),y.2.1]) tk'/\Good G (L++(mt.take jj).map λz=>(i',z))) ?_ ?_ ?_;exists _,_,_,tk,rfl,λb o n1 n2 e=>iM _ _ (kp b o n1 n2 e),tp.trans iM.bA,?_,iM _ _ AL,?_,?_;simpa using iM _ _ EU;simpa using iM.bC tR;simpa using gd;rintro B hB jj σ' uj xw ⟨a2a,GN,GO,tk',rfl,A5,tp',uZ,AM,vJ,gd'⟩;(have AA:jj<mt.length:=by lia);have Mg:=tp' _ _ E7;exists⟨ms,ms[jj],aS.of Mg,br xw⟩,?_;rintro y rh ⟨rfl,hy⟩;refine hB _ _ _ _ λN hN=> ?_;have ey:=hy ms (aS.of Mg);obtain⟨p,ep,rp⟩:=ym.get ey;rw[cB,br AA]at ep;(injection ep with ep);subst ep;obtain⟨ma,u1,u2,u3,rfl,V5,k1,k2,k3⟩:=BN (a:= .at (.int (mt[jj].1:Int))) (b:= .at (.int (mt[jj].2.1:Int))) (c:= .at (.int (mt[jj].2.2:Int))) rp;obtain rfl:u1= .int mt[jj].1:=k1;obtain rfl:u2= .int mt[jj].2.1:=k2;obtain rfl:u3= .int mt[jj].2.2:=k3;(have gX:mt[jj]∈G.gZ i':=by rw[DZ];exact vB.subset (kP AA));(have hnew:(i',mt[jj]) ∉L++(mt.take jj).map λz=>(i',z):=λhm=>(by rcases List.mem_append.mp hm with hm|hm;have:=FW _ hm;simp only at this;lia;obtain⟨z,hz,ez⟩:=List.mem_map.mp hm;simp only[jf,true_and]at ez;subst ez;exact a4C ZB AA hz));obtain⟨iu,nk,ZZ⟩:=gd'.snoc A8.mi gX hnew;obtain⟨mm,V8⟩:=A8.mi.qG i' _ gX;obtain⟨sv,TC,rsv⟩:=vW.val A8.mi.keys V8;obtain⟨Qi,v1,v2,rfl,WF,j1,j2⟩:=BM (a:= .at (.int (i':Int))) (b:= .at (.int mm)) rsv;obtain rfl:v1= .int i':=j1;(have eL:L++(mt.take (jj+1)).map (λz=>(i',z))=(L++(mt.take jj).map λz=>(i',z))++ [(i',mt[jj])]:=(by rw[kH AA,cK,List.append_assoc];rfl));(have lL':(L++(mt.take jj).map λz=>(i',z)).length<=1000:=(by(have h1:=Gd (l:=(L++(mt.take jj).map λz=>(i',z)).map λy=>(y.1,y.2.1)) (m:=(List.range 5).flatMap λa=>(List.range 41).map λk=>(a,k)) gd'.takes λp hp=>(by obtain⟨y,hy,rfl⟩:=List.mem_map.mp hp;have h2:=gd'.vf y hy;have h3:=((A8.mi.nums y.1).2 _ h2).1;unfold RG.mO at h3;cases hg:G.aI[y.1]? with|none=>rw[hg]at h3;exact absurd h3 (rJ _)|some g=>rw[hg]at h3;have Ao:y.2.1<g.td:=h3;have h4:=(List.getElem?_eq_some_iff.mp hg).1;have h5:=A8.so.yT (dR hg);exact List.mem_flatMap.mpr ⟨y.1,List.mem_range.mpr (by lia),List.mem_map.mpr ⟨y.2.1,List.mem_range.mpr (by lia),rfl⟩⟩));rw[bq]at h1;exact dS h1 (by decide)));have FZ:=vJ.len;rw[bq]at FZ;exists ma,_,rfl,aS.of (tp' _ _ V5),rfl,_,_,rfl,_,_,rfl,_,_,rfl,rfl,?_;exists _,rfl,_,rfl,z2,λt1 Fi=> ?_;have u1:=aM Fi (.aC [.int mt[jj].2.1,.int mt[jj].2.2]);(have SH:dC (upd rh t1 (.aC [.int mt[jj].2.1,.int mt[jj].2.2])) me (.ref t1) none:=(by rw[<-Nv nk];exact dC.t (k:= [Sum.inl (mt[jj].2.1:Int),Sum.inl (mt[jj].2.2:Int)]) (u1 _ _ uZ) aL));exists _,rfl,me,none,rfl,SH,_,rfl,cG ?_;exists _,rfl,_,rfl,z2,λt2 xH=> ?_;have u2:=aM xH (.aC [.int (i':Int),.int mt[jj].1]);have pL:=u1.trans u2;exists _,rfl,ta,_,tk',cJ none [(i':Int),mt[jj].1],rfl,.inl (aQ.of (pL _ _ AM)),pL.bC vJ,pk (a:= .at (.int (i':Int))) (b:= .at (.int (mt[jj].1:Int))) aL rfl rfl,?_,_,rfl,Xy ?_ ?_;show(A.deeper (envOfC _ (bo j4) s.heap.objs.size f bd)).units+1+_+_<cLine;(have h1:cq ((L++(mt.take jj).map λz=>(i',z)).map λy=>cJ none [(y.1:Int),y.2.1])<=10:=Ae λp hp=>(by obtain⟨y,_,rfl⟩:=List.mem_map.mp hp;simp[cJ,kz,dp,cq]));(have h2:dp (cJ none [(i':Int),mt[jj].1])<=10:=by simp[cJ,kz,dp,cq]);lia;show List.contains _ _=false;rw[Bool.eq_false_iff];intro hc;obtain⟨y,hy,e⟩:=List.mem_map.mp (List.contains_iff_mem.mp hc);simp only[cJ,kz,zD,bH,fZ,PV.aC.injEq,io,PV.at.injEq,bu.int.injEq,kj]at e;exact ZZ (List.mem_map.mpr ⟨y,hy,by rw[jf];lia⟩);exists _,rfl,_,rfl,_,rfl,z2,λt3 xI=> ?_;have u3:=aM xI (.aC [.int mt[jj].2.1,.int mt[jj].2.2]);have ud:=pL.trans u3;have sO:=ud _ _ (A5 _ _ Gi Gk nD);(have SJ:dC (upd (upd (upd rh t1 (.aC [.int mt[jj].2.1,.int mt[jj].2.2])) t2 (.aC [.int (i':Int),.int mt[jj].1])) t3 (.aC [.int mt[jj].2.1,.int mt[jj].2.2])) se (.ref t3) (some (.ref Qi)):=(by rw[<-TC];exact dC.t (k:= [Sum.inl (mt[jj].2.1:Int),Sum.inl (mt[jj].2.2:Int)]) sO aL));exists se,_,rfl,SJ,Qi,_,0,_,rfl,rfl,aS.of (ud _ _ (tp' _ _ WF)),rfl,_,rfl,rfl,_,rfl,bJ (λc=>absurd c (by simp)) λ_=> ?_;exists _,rfl,_,rfl,_,rfl,_,rfl,z2,λt4 Fj=> ?_;have u4:=aM Fj (.aC [.int mt[jj].2.1,.int mt[jj].2.2]);have ue:=ud.trans u4;exists me,_,rfl,gl.t (k:= [Sum.inl (mt[jj].2.1:Int),Sum.inl (mt[jj].2.2:Int)]) (ue _ _ uZ) aL (big (by unfold iA;rw[bq];lia)),?_;rw[yg _ (Nv nk)];have t5:=gH (ue _ _ uZ) (λ_ w=>by cases w) (.dT (iA (L++(mt.take jj).map λz=>(i',z))++ [([Sum.inl (mt[jj].2.1:Int),Sum.inl (mt[jj].2.2:Int)],V.int mt[jj].1)]));have Fl:=(aP (o:= .dT (iA (L++(mt.take jj).map λz=>(i',z))++ [([Sum.inl (mt[jj].2.1:Int),Sum.inl (mt[jj].2.2:Int)],V.int mt[jj].1)])) NL).trans (ue _ _ AM);exists _,rfl,.inl ⟨rfl,_,aQ.of Fl⟩,_,rfl,_,rfl,z2,λt6 WH=> ?_;have u6:=aM WH (.aC [.int (i':Int),.int mt[jj].1]);exists ta,tk',_,rfl,rfl,u6 _ _ Fl,big (by lia),?_;have t7:=we (o:= .aK (tk'++ [.ref t6])) (u6 _ _ Fl);have qY:=ue.bA.trans (t5.trans (u6.bA.trans t7));refine⟨_,_,_,_,rfl,λb o n1 n2 e=> ?_,tp'.trans qY,?_,aL,?_,by rw[eL];exact iu⟩;rw[aP n2];refine u6 _ _ ?_;rw[aP n1];exact ue _ _ (A5 b o n1 n2 e);rw[aP NL.symm];refine u6 _ _ ?_;rw[aL,eL,Y4];rw[eL,cK];exact(qY.bC vJ).append (aE.dY (t7.bE (pk (a:= .at (.int (i':Int))) (b:= .at (.int (mt[jj].1:Int))) aL rfl rfl)));rintro σ' uj ⟨a2a,GN,GO,tk',rfl,A5,tp',uZ,AM,vJ,gd'⟩;(have et:mt.take ms.length=mt:=by rw[<-Bj,pU]);rw[et]at uZ vJ gd';exists⟨ms,aS.of (tp' _ _ E7),aV _⟩,hN _ _ ⟨_,_,_,_,_,_,tk',rfl,A5,tp',uZ,AM,vJ,gd',λy hy=> ?_,λT hT z hz=> ?_,?_⟩;rcases List.mem_append.mp hy with hy|hy;have:=FW y hy;lia;obtain⟨z,_,rfl⟩:=List.mem_map.mp hy;exact wG _;by_cases e:T=i';subst e;rw[DZ]at hz;exact db _ (List.mem_map.mpr ⟨z,vB.symm.subset hz,rfl⟩);exact dE _ (sx T (by lia) z hz);rw[gn,bq,vB.length_eq,kH ce,cK,List.sum_append];simp only[bH,fZ,kg,List.sum_nil];lia;rintro σ' mU ⟨vD,vE,qR,tO,tP,L,tk,rfl,kp,tp,EU,AL,tR,gd,FW,sx,lL⟩;exists⟨rfl,aS.of (tp _ _ Fb)⟩,?_;have Ng:rs.length=G.aI.length:=lr;(have full': ∀T,∀z∈G.gZ T,(T,z)∈L:=λT z hz=>(by refine sx T ?_ z hz;rw[Ng];cases hg:G.aI[T]? with|none=>unfold RG.gZ at hz;rw[hg]at hz;cases hz|some g=>exact(List.getElem?_eq_some_iff.mp hg).1));(have X6:L.length<=40:=(by rw[Ng,pU]at lL;have h1:=A8.so.Aj;have h2:=A8.so.budget;(have h3:=Iz (λg:HG=>g.sd) (λg=>g.sd+g.td+g.left) (l:=G.aI) λa _=>by lia);lia));have FZ:=tR.len;rw[bq]at FZ;have Fh:=kp _ _ Gi Gk nD;have a3R:=vW.mono tp;have M3:=A8.mi.keys;exists se,.dT kvs,trivial,Fh,λo=> ?_;have sh:=gH Fh (λ_ w=>by cases w) (.cc o (.dT kvs));have jo:upd mU se (.cc o (.dT kvs)) se=some (.cc o (.dT kvs)):=aL;have L0:upd mU se (.cc o (.dT kvs)) me=some (.dT (iA L)):=(aP Gi.symm).trans EU;have WI:upd mU se (.cc o (.dT kvs)) ta=some (.aK tk):=(aP Gk.symm).trans AL;have tU:=a3R.mono sh;have a2R:=sh.bC tR;have sY: ∀H',aY (upd mU se (.cc o (.dT kvs))) H'->aY mU (upd H' se (.dT kvs)):=λH' s'=>HX Fh s';generalize upd mU se (.cc o (.dT kvs))=ui at jo L0 WI tU a2R sY⊢;exists _,rfl,se,o,kvs,rfl,jo,λbs lb xj=> ?_;refine uR (n:=kvs.length) (λi1 σ' H'=> ∃ (tO tP GP GQ:ap V),σ'= [some (.ref sa),some (.ref t),some (.int n),some v3,some (hJ ro),some (.ref x),some (.ref se),r7,r8,r9,lA,lB,j3,some (.ref me),some (.ref ta),vD,vE,qR,tO,tP,GP,GQ]/\aY ui H') ⟨_,_,_,_,rfl,aY.refl _⟩ ?_ ?_;rintro B hB i1 σ' uj LL ⟨GN,GO,a2b,a2d,rfl,ja⟩;obtain⟨e1,w1,Ai,Td⟩:=tU.key LL;have in1:=dR Ai;exists⟨LL,ja _ _ jo⟩,?_;rintro y rh ⟨rfl,ey⟩;refine hB _ _ _ _ λN hN=> ?_;(have eU:i1<bs.length:=by lia);(have wZ:y= .ref bs[i1]:=(by rw[ey];show V.ref (bs.getD i1 0)=_;rw[sy eU 0]));subst wZ;clear ey;have Vp:rh bs[i1]=some (.aC [.int e1.1,.int e1.2.1]):=ja _ _ (xj i1 _ _ _ Td (br eU));exists bs[i1],_,rfl,aS.of Vp,rfl,_,_,rfl,_,_,rfl,rfl,?_;exists _,rfl,se,o,kvs,rfl,ja _ _ jo,λcs' lc uV=> ?_;refine uR (n:=kvs.length) (λi2 σ' H'=> ∃ (GP GQ:ap V),σ'= [some (.ref sa),some (.ref t),some (.int n),some v3,some (hJ ro),some (.ref x),some (.ref se),r7,r8,r9,lA,lB,j3,some (.ref me),some (.ref ta),vD,vE,qR,some (.int e1.1),some (.int e1.2.1),GP,GQ]/\aY rh H') ⟨_,_,rfl,aY.refl _⟩ ?_ ?_;(rintro B hB i2 σ' zo mf ⟨a2c,a2e,rfl,mJ⟩;obtain⟨e2,w2,TB,Te⟩:=tU.key mf;have ME:=dR TB;have lF:=ja.trans mJ;exists⟨mf,lF _ _ jo⟩,?_;rintro y zp ⟨rfl,ey⟩;refine hB _ _ _ _ λN hN=> ?_;(have cw:i2<cs'.length:=by lia);(have wZ:y= .ref cs'[i2]:=(by rw[ey];show V.ref (cs'.getD i2 0)=_;rw[sy cw 0]));subst wZ;clear ey;have Vq:zp cs'[i2]=some (.aC [.int e2.1,.int e2.2.1]):=mJ _ _ (uV i2 _ _ _ Te (br cw));exists cs'[i2],_,rfl,aS.of Vq,rfl,_,_,rfl,_,_,rfl,rfl,?_;have w6: ∀ (H':Hp),aY zp H'->N [some (V.ref sa),some (.ref t),some (.int n),some v3,some (hJ ro),some (.ref x),some (.ref se),r7,r8,r9,lA,lB,j3,some (.ref me),some (.ref ta),vD,vE,qR,some (.int e1.1),some (.int e1.2.1),some (.int e2.1),some (.int e2.2.1)] H':=λH' s'=>hN _ _ ⟨_,_,rfl,mJ.trans s'⟩;exists _,rfl,_,rfl,rfl,_,rfl,bJ (λc1=> ?_) λc1=>cG (w6 _ (aY.refl _));exists _,rfl,_,rfl,_,_,rfl,rfl,_,rfl,bJ (λc2=> ?_) λc2=>cG (w6 _ (aY.refl _));obtain⟨v1,TD,yo⟩:=tU.val M3 (show(e1.1,e1.2.1,e1.2.2.1,e1.2.2.2)∈sn from in1);obtain⟨v2,wX,pD⟩:=tU.val M3 (show(e2.1,e2.2.1,e2.2.2.1,e2.2.2.2)∈sn from ME);exists _,rfl,_,rfl,_,rfl,z2,λt1 Fi=> ?_;have u1:=aM Fi (.aC [.int e1.1,.int e1.2.1]);exists se,v1,rfl,by rw[<-TD];exact .inr ⟨kvs,[Sum.inl (e1.1:Int),Sum.inl (e1.2.1:Int)],t1,.inr ⟨o,u1 _ _ (lF _ _ jo)⟩,rfl,aL,rfl⟩,?_;exists _,rfl,_,rfl,_,rfl,z2,λt2 xH=> ?_;have u2:=aM xH (.aC [.int e2.1,.int e2.2.1]);have pL:=u1.trans u2;exists se,v2,rfl,by rw[<-wX];exact .inr ⟨kvs,[Sum.inl (e2.1:Int),Sum.inl (e2.2.1:Int)],t2,.inr ⟨o,pL _ _ (lF _ _ jo)⟩,rfl,aL,rfl⟩,?_;exists cJ none [(e1.2.2.1:Int),e1.2.2.2],cJ none [(e2.2.2.1:Int),e2.2.2.2],?_,pL.bE (lF.bE yo),pL.bE (lF.bE pD),_,rfl,bJ (λc3=> ?_) λc3=>w6 _ pL;show(A.deeper (envOfC _ (bo j4) s.heap.objs.size f bd)).units+_+_<cLine;simp only[cJ,kz,zD,bH,fZ,dp,cq];lia;(have q1:e1.1=e2.1:=(by(have z:V.int (e1.1:Int)=V.int (e2.1:Int):=by simpa using c1);(injection z with z);lia));(have q2:e1.2.1<e2.2.1:=(by(have z:(e1.2.1:Int)<(e2.2.1:Int):=by simpa using c2);lia));(have q3:e1.2.2.1=e2.2.2.1/\e1.2.2.2=e2.2.2.2:=(by have z:=lu c3;simp only[cJ,kz,zD,bH,fZ,PV.aC.injEq,io,PV.at.injEq,bu.int.injEq,kj]at z;exists by lia,z.2));exists _,rfl,_,rfl,z2,λt3 xI=> ?_;have u3:=aM xI (.aC [.int e2.1,.int e2.2.1]);have ud:=pL.trans u3;have AC:=ud _ _ (lF _ _ L0);exists _,rfl,me,_,rfl,dC.t (k:= [Sum.inl (e2.1:Int),Sum.inl (e2.2.1:Int)]) AC aL,_,rfl,?_;cases hv:bZ (iA L) ([Sum.inl (e2.1:Int),Sum.inl (e2.2.1:Int)]:aq aZ)with|none=>exact cG (cG (w6 _ ud))|some v=>obtain⟨y,hy,y1,y2,rfl⟩:=Gb hv;obtain⟨n1,AE,hlt⟩:=Xf A8.mi gd full' (s:=e2.1) (k1:=e1.2.1) (k2:=e2.2.1) (b:=e2.2.2.1) (m:=e2.2.2.2) (by rw[<-q1,<-q3.1,<-q3.2];exact in1) ME q2 hy y1 y2;refine dj ?_;exists _,rfl,me,rfl,.inr ⟨_,.inl AC⟩,_,rfl,_,rfl,z2,λt4 Fj=> ?_;have u4:=aM Fj (.aC [.int e1.1,.int e1.2.1]);have ue:=ud.trans u4;(have SK:dC (upd (upd (upd (upd zp t1 (.aC [.int e1.1,.int e1.2.1])) t2 (.aC [.int e2.1,.int e2.2.1])) t3 (.aC [.int e2.1,.int e2.2.1])) t4 (.aC [.int e1.1,.int e1.2.1])) me (.ref t4) (some (.int n1)):=(by(have Wb:bZ (iA L) ([Sum.inl (e1.1:Int),Sum.inl (e1.2.1:Int)]:aq aZ)=some (.int n1):=by rw[q1];exact AE);rw[<-Wb];exact dC.t (k:= [Sum.inl (e1.1:Int),Sum.inl (e1.2.1:Int)]) (u4 _ _ AC) aL));exists _,SK,?_;exists _,rfl,_,rfl,_,rfl,z2,λt5 Fk=> ?_;have u5:=aM Fk (.aC [.int e2.1,.int e2.2.1]);have u15:=ue.trans u5;(have SL:dC (upd (upd (upd (upd (upd zp t1 (.aC [.int e1.1,.int e1.2.1])) t2 (.aC [.int e2.1,.int e2.2.1])) t3 (.aC [.int e2.1,.int e2.2.1])) t4 (.aC [.int e1.1,.int e1.2.1])) t5 (.aC [.int e2.1,.int e2.2.1])) me (.ref t5) (some (.int y.2.1)):=(by rw[<-hv];exact dC.t (k:= [Sum.inl (e2.1:Int),Sum.inl (e2.2.1:Int)]) (u5 _ _ (u4 _ _ AC)) aL));exists me,_,rfl,SL,_,_,rfl,rfl,_,rfl,bJ (λc4=> ?_) λ_=>w6 _ u15;exfalso;(have z:(y.2.1:Int)<(n1:Int):=by simpa using c4);lia);rintro σ' zo ⟨a2c,a2e,rfl,mJ⟩;exists⟨rfl,mJ _ _ (ja _ _ jo)⟩,hN _ _ ⟨_,_,_,_,rfl,ja.trans mJ⟩;rintro σ' uj ⟨GN,GO,a2b,a2d,rfl,ja⟩;exists⟨rfl,ja _ _ jo⟩,ja _ _ jo,?_;have O1:=sY _ ja;have xJ:=O1 _ _ AL;have BQ:=O1.bC tR;obtain⟨as,DX⟩:=BL (λp hp=>by obtain⟨y,_,rfl⟩:=List.mem_map.mp hp;exists _,rfl) BQ;(have eq1:(L.map λy=>cJ none [(y.1:Int),y.2.1])=(L.map λy=> [(y.1:Int),(y.2.1:Int)]).map (cJ none):=by rw[jG];rfl);(have eq2:(L.map λy=>cJ none [(y.1:Int),y.2.1])=(L.map λy=>(y.1,y.2.1)).map λp=>cJ none [(p.1:Int),p.2]:=by rw[jG];rfl);(have FS: ∀z∈L.map (λy=> [(y.1:Int),(y.2.1:Int)]),z.length=2:=λz hz=>(by obtain⟨y,_,rfl⟩:=List.mem_map.mp hz;rfl));(have Rv: ∀p∈L.map (λy=>(y.1,y.2.1)),p.1<4/\p.2<41:=λp hp=>(by obtain⟨y,hy,rfl⟩:=List.mem_map.mp hp;have h2:=gd.vf y hy;have h3:=((A8.mi.nums y.1).2 _ h2).1;unfold RG.mO at h3;cases hg:G.aI[y.1]? with|none=>rw[hg]at h3;exact absurd h3 (rJ _)|some g=>rw[hg]at h3;have Ao:y.2.1<g.td:=h3;have h4:=(List.getElem?_eq_some_iff.mp hg).1;have h5:=A8.so.yT (dR hg);exact⟨by simp only;lia,by simp only;lia⟩));exists _,rfl,ta,tk,none,L.map λy=> [(y.1:Int),(y.2.1:Int)],2,rfl,aQ.of xJ,by rw[<-eq1];exact BQ,FS,by decide,by rw[bq];lia,λl1 NT Q1 iw GH so1 r1=> ?_;have w1:=aM iw (.aK Q1);exists _,rfl,ta,as,L.map λy=>(y.1,y.2.1),rfl,by rw[<-DX];exact aQ.of (w1 _ _ xJ),by rw[<-DX,<-eq2];exact w1.bC BQ,gd.takes,Rv,by rw[bq];exact X6,λS0 Ep=> ?_;have w2:=aM Ep (Cn ou S0 as);exists S0,as,L.map λy=> [(y.1:Int),(y.2.1:Int)],2,rfl,aL,by rw[<-DX,<-eq1];exact(w1.trans w2).bC BQ,FS,by decide,by rw[bq];lia,λl2 Gj C0 gY pm2 Ie r2=> ?_;have w3:=aM gY (.aK C0);have S3:NT=Gj:=PD (k:=2) (GH.trans pm2.symm) (λz hz=>FS z (GH.subset hz)) so1 Ie;subst S3;exists l1,l2,Q1,C0,NT.map (cJ none),rfl,rfl,aQ.of (w3 _ _ (w2 _ _ aL)),aQ.of aL,?_,(w1.trans (w2.trans w3)).bC r1,w3.bC r2,q _;refine Ae λp hp=> ?_;obtain⟨z,hz,rfl⟩:=List.mem_map.mp hp;obtain⟨y,_,rfl⟩:=List.mem_map.mp (GH.subset hz);simp[cJ,kz,dp,cq]
end
end W2
namespace W2
open PySem PySem.Spec PyProof.Rows K2 L2 PySem.W
variable{P:af}{w:ag}{K:W.Frag}{mg:aA->ap aa}{base:ak}
def a2I(I:aG X aB σ H s){x:Nat×Nat}(r:aJ H (cJ none [(x.1:Int),x.2]) (.ref a)):pW X.prog X.w s.heap (x,a):=by
 obtain⟨a',e,ha⟩:=OJ r;cases e;obtain⟨aF,ri,⟨o,e,c,n,d⟩,_⟩:=I.tuple (aS.of (K:=X.K) ha);exists o,aF.toArray,n,e,c,d,?_;have ri':bg [V.int x.1,V.int x.2] aF:=ri;cases ri' with
 |cons r1 r2=>
 cases r2 with
 |cons r2 r3=>
 cases r3;obtain⟨t1,rfl⟩:=r1;obtain⟨t2,rfl⟩:=r2;exact .cons (intKind_is _ _ _ _) (.cons (intKind_is _ _ _ _) .nil)
def OL{X:Cx}{aB:aq (ae×Obj)}{σ:L2.St}{H:Hp}{s:ac}(I:aG X aB σ H s): ∀ {bD:aq (Nat×Nat)} {as:aq ae},aE H (bD.map λx=>cJ none [(x.1:Int),x.2]) (as.map V.ref)->bD.length=as.length/\ ∀q∈bD.zip as,pW X.prog X.w s.heap q
 | [],[],_=>⟨rfl,λq hq=>nomatch hq⟩
 | [],a::as,r=>by simp only[fZ,aE]at r;cases r
 |x::bD,[],r=>by simp only[bH,aE]at r;obtain⟨_,_,e,_⟩:=r;cases e
 |x::bD,a::as,r=>by simp only[bH,aE]at r;obtain⟨v,t,e,h1,h2⟩:=r;cases e;obtain⟨h3,h4⟩:=OL I h2;exists by simp[h3],λq hq=> ?_;rw[List.zip_cons_cons]at hq;rcases List.mem_cons.mp hq with e|hq;rw[e];exact a2I I h1;exact h4 q hq
def a2S(w:ag): ∀X:Cx,X.w=w->X.gu=true->X.A.units+100<cLine->gS X (.type "set") (OB (Ds w) X.K):=by intro X hw hc hu aB s σ H xs us Q I r h;obtain⟨p,as,bD,rfl,hq,rs,nd,sm,hn,q⟩:=h;obtain⟨u,rfl,ru⟩:=jA r;cases ru;obtain⟨aF,ri,pl,hz⟩:=I.list hq;have ei:=QU ri;obtain⟨hl,hp⟩:=OL I rs;have z1:(bD.zip as).map (·.1)=bD:=List.map_fst_zip (by lia);have z2:(bD.zip as).map (·.2)=as:=List.map_snd_zip (by lia);refine RH (qs:=bD.zip as) (I.ok.hd hc) pl.isList ?_ hp (by lia) (by rw[z1];exact nd) (λx hx=>sm x.1 (by rw[<-z1];exact List.mem_map_of_mem hx)) (by rw[List.length_zip];lia) λh' tk hS kp=> ?_;(show aF.toArray.toList=_;rw[ei];conv=>rhs;rw[show(λq:(Nat×Nat)×ae=>Value.ref q.2)=Value.ref∘ (·.2)from rfl,<-jG,z2]);obtain⟨es,ep,t,g1,g2,g3,g4⟩:=hS;rw[hw]at g3;(have g5:(es.toList.map (·.2)).Perm (as.map Value.ref):=(by have:=g4.map (·.2);rw[jG]at this;refine this.trans ?_;rw[show((λx:Int×aa=>x.2) ∘vz)=Value.ref∘ (·.2)from rfl,<-jG,z2]));exists .ref s.heap.objs.size,_,I.laid (a:=s.heap.objs.size) (o:=Cn (Ds w) s.heap.objs.size as) (t':=tk) (λb o e=>kp b o (bL e) e) (aV _) ⟨⟨es,ep,t,g1,g2,g3,g5⟩,⟨_,g1⟩,?_⟩,rfl,q _ (I.hok.fresh (aV _));rintro h1 h2 ⟨es',jO,t',k1,k2⟩ k;exists es',jO,t',k _ k1,k2
def a2T(w:ag): ∀X:Cx,X.w=w->X.gu=true->X.A.units+100<cLine->gS X (.builtin "sorted") (OD (Ds w)):=by intro X hw hc hu aB s σ H xs us Q I r h;obtain⟨S,as,bD,k,rfl,hS,rs,hk,oO,h64,q⟩:=h;obtain⟨u,rfl,ru⟩:=jA r;cases ru;obtain⟨⟨es,ep,t,g1,g2,g3,g4⟩,_⟩:=I.hok S _ hS;rw[<-hw]at g3;(have ln:es.size=bD.length:=(by have h1:=g4.length_eq;have h2:=rs.len;simp only[bq,kd]at h1 h2;lia));refine a3V (kdu_collect (A:=X.A.in1) (a3Y X.prog X.w S (ep:=ep) g2 g3) (show X.A.in1.handled=none from I.ok.hd hc) g1 (by rw[jb];lia) λh' tk acc kp it=> ?_);have I1:aG X aB σ H {s with heap:=h',toks:=tk}:=I.kept kp;(have ea:acc.toList=(j8 X.w S es ep).toList.map (·.2):=(by apply List.ext_getElem?;intro i;rw[cB,kb,kb];by_cases hi:i<acc.size;(have e1:acc[i]? =some acc[i]:=by simp[hi]);rw[e1];exact(it.2 i _ e1).symm;have h1:=it.1;have h2:=IT X.w S es ep;rw[zi (by lia),zi (by lia)];rfl));(have pa:acc.toList.Perm (as.map Value.ref):=by rw[ea];exact((QX X.w S es ep).map _).trans g4);obtain⟨e1,e2⟩:=L2.BL pa;obtain⟨lq,p1,r1⟩:=a2L (f:=cJ none) ((e2.symm).map V.ref) rs;exists by rw[kd,it.1];lia,?_;refine a3U I1 (ys:=(acc.toList.map uI).map V.ref) (k:=k) (by have z:=QT (acc.toList.map uI);rw[<-e1]at z;exact z) r1 (λns h=>hk ns (p1.mem_iff.mp h)) oO (by rw[p1.length_eq];exact h64) λl Gj C0 n1 n2 n3 n4=>q l Gj C0 n1 (n2.trans p1) n3 n4
def a0H(F:bK K "law" "law" j4 f fd)(T:Tx mg)(T2:rM mg)(hR:f9 K R)(Fm:cP P w K mg base bh 1 "_law_town" ["_law_script"] (Ip K))(sG:cP P w K mg base bh 1 "_law_draw" ["_law_script", "_law_town_here", "_law_many"] (vX K))(oS:cP P w K mg base bh 2 "_law_pick" ["_law_script", "_law_town_here", "_law_some"] (yK K))(EQ:cP P w K mg base bh 9 "_law_program" ["_law_script", "_law_town_here", "_law_hands", "_law_most_rows", "_law_wild"] (Io K))(sD:Dh P w K mg base C R)(oJ:cI P w K mg base R 4 "events" ["self"] (yH C R))(xm:cI P w K mg base R 6 "do" ["self", "event"] (Ij C R))(sI:cI P w K mg base R 6 "end" ["self"] (Il C R))(E3:cI P w K mg base R 1 "on_way" ["self", "sender", "taker"] (Cz C R)):bw P w K mg base bh 11 f fd ["_law_script"] (yJ K):=a0G F T T2 hR (a2S w) (a2T w) Fm sG oS EQ sD oJ xm sI E3
end W2
namespace W2
open PySem PySem.Spec PyProof.Rows K2 L2
variable{P:af}{w:ag}{K:W.Frag}{mg:aA->ap aa}{base:ak}
def dD(K:W.Frag)(x:Str)(st:Stmt):Prop:= ∃f fd,W.nsIn K mainGlobals x=some (some (.ref f))/\bK K x x st f fd
def SG{x:aA}{st:ay}{oc:aa}{od:ap ae}{jZ:au (ap aa)}{kV:aa}(a:W.nsIn K mainGlobals x=some (some (.ref f)):=by k_is)(l:K.lookup f=some ⟨oc,od,.func (W.fnOf x x (ji st) (iY st) (bo st) .none kV doc pm an bd ct),jZ⟩:=by k_is)(c:W.codeIn K bd x=true:=by k_is)(k:W.keepIn K (.ref f)=true:=by k_is):dD K x st:=⟨f,_,a,K0 l c k⟩
abbrev Q4(x:Str)(st:Stmt)(ps:List Str):Prop:= ∀ (kV doc pm:Value) (an:Option Addr) (bd ct:Value) (us:List Value),us.length=ps.length->bindArgs (W.fnOf x x (ji st) (iY st) (bo st) .none kV doc pm an bd ct) ⟨us,[]⟩=pure (ps.zip us)
def Vh{h:ak}{CX:iQ}{k:Nat}{x:aA}{st:ay}{sp:Sp}(X:K.In h)(G:h.Ns mainGlobals mg)(D:dD K x st)(hb:Q4 x st ps)(ok: ∀f fd,bK K x x st f fd->gQ K fd ps []->mg x=some (.ref f)->bw P w K mg base CX k f fd ps sp):cP P w K mg base CX k x ps sp:=by obtain⟨f,fd,e,F⟩:=D;have m:=iS X G e;have B:=F.binds hb;exists⟨f,fd,ok f fd F B m,B,m,F.kp⟩
inductive jD(Pm:Params):List DictEntry->List (Str×V)->Prop
 |nil:jD Pm [] []
 |cons {x:Str} {t:Tok} {u:Value} {v:V} {l:List DictEntry} {kvs:List (Str×V)} (r:bm v u) (rest:jD Pm l kvs):jD Pm (⟨PyData.keyHash Pm x,.str x t,u⟩::l) ((x,v)::kvs)
def jD.keys{Pm:Params}{prog:af}{w:ag}(hw:w.params=Pm): ∀ {l:aq DictEntry} {kvs:aq (aA×V)},jD Pm l kvs-> ∀e∈l,∃k,(cX prog w).is k e.key=true/\e.hash=(cX prog w).hash k
 |_,_,.nil,_,h=>nomatch h
 |_,_,.cons (x:=x) (t:=t) r rest,e,h=>by cases h with|head=>exact⟨Sum.inr x,Br prog w x t,by subst hw;rfl⟩|tail _ h=>exact rest.keys hw e h
def jD.pairs{Pm:Params}{prog:af}{w:ag}: ∀ {l:aq DictEntry} {kvs:aq (aA×V)},jD Pm l kvs-> ∃vs:aq (aZ×aa),KV (kvs.map λp=>((Sum.inr p.1:aZ),p.2)) vs/\Pairs (cX prog w) l vs/\vs.map (·.1)=kvs.map λp=>(Sum.inr p.1:aZ)
 |_,_,.nil=>⟨[],.nil,.nil,rfl⟩
 |_,_,.cons (x:=x) (t:=t) (u:=u) r rest=>by obtain⟨vs,h1,h2,h3⟩:=rest.pairs (prog:=prog) (w:=w);exact⟨(Sum.inr x,u)::vs,.cons ⟨rfl,r⟩ h1,.cons (Br prog w x t) rfl h2,by rw[bH,bH,h3]⟩
def FK{a:ae}{l:aq DictEntry}{n:Nat}(hl:K.lookup a=some ⟨.type "dict",none,.dict l.toArray n, #[]⟩)(R:jD w.params l kvs)(hs:(a==sysModules)=false)(nd:(kvs.map (·.1)).Nodup):rB P w K a kvs:=by exists hs,λh X=> ?_;obtain⟨vs,h1,h2,h3⟩:=R.pairs (prog:=P) (w:=w);exists vs,h1,Heap.dictOf_iff.mpr ⟨_,X _ _ hl,l.toArray,n,⟨rfl,rfl,rfl⟩,rfl,λe he=>R.keys rfl e (by simpa using he),h2,?_⟩;rw[h3];(have e:(kvs.map λp=>(Sum.inr p.1:aZ))=(kvs.map (·.1)).map λx=>(Sum.inr x:aZ):=by rw[jG];rfl);rw[e];exact List.Pairwise.map _ (λa b hab z=>hab (Sum.inr.inj z)) nd
def iI(K:W.Frag)(b:Addr)(xs:List V):Prop:= ∃ (o:Obj) (aF:Array Value) (n:Nat),K.lookup b=some o/\o.cls= .type "tuple"/\o.data= .seq aF n/\aF.size<=sizeLine/\bg xs aF.toList
def zn(w:World)(K:W.Frag):Prop:= ∃ (a:Addr) (l:List DictEntry) (n:Nat) (b1 b2 b3 b4 b5 b6 b7 b8:Addr),W.nsIn K mainGlobals "FORMS"=some (some (.ref a))/\K.lookup a=some ⟨.type "dict",none,.dict l.toArray n, #[]⟩/\(a==sysModules)=false/\
 jD w.params l [("send",.ref b1),("take",.ref b2),("post",.ref b3),("wait",.ref b4),("tell",.ref b5),("add",.ref b6),("case",.ref b7),("all",.ref b8)]/\
 iI K b1 [.str "hand",.str "mark",.str "thing"]/\iI K b2 [.str "any hand",.str "any mark",.str "box"]/\iI K b3 [.str "box",.str "any hand",.str "any mark",.str "box"]/\iI K b4 [.str "box"]/\
 iI K b5 [.str "thing"]/\iI K b6 [.str "box",.str "thing",.str "thing"]/\iI K b7 [.str "box",.str "number",.str "rows",.str "rows"]/\iI K b8 []
def sw1:("send":aA)=S gK:=by decide+kernel
def Qj:("take":aA)=S gi:=by decide+kernel
def Qk:("post":aA)=S gJ:=by decide+kernel
def Ql:("wait":aA)=S gj:=by decide+kernel
def Qm:("tell":aA)=S dk:=by decide+kernel
def Qn:("add":aA)=S gI:=by decide+kernel
def Qo:("case":aA)=S dZ:=by decide+kernel
def Qp:("all":aA)=S fP:=by decide+kernel
def vM:("box":aA)=S (cW .fc):=by decide+kernel
def O8:("mark":aA)=S (cW .mark):=by decide+kernel
def Cd:("thing":aA)=S (cW .kJ):=by decide+kernel
def O9:("number":aA)=S (cW .iJ):=by decide+kernel
def Pb:("rows":aA)=S (cW .rows):=by decide+kernel
def gP(y:aA)(v:V)(r:aq (aA×V))(x:aA):jy ((y,v)::r) x=if x=y then some v else jy r x:=by unfold jy;rw[mW];by_cases h:x=y;subst h;rw[aT rfl];simp;(have h3:(x==y)=false:=by simpa using h);rw[aU h];simp only[h3]
def Dq{x y:K2.T}:(S x=S y)=(x=y):=propext ⟨pY,λh=>h▸rfl⟩
def T6{h:ak}(X:K.In h)(G:h.Ns mainGlobals mg)(A:zn w K):Jl P w K mg:=by
 obtain⟨a,l,n,b1,b2,b3,b4,b5,b6,b7,b8,e,hl,hs,R,t1,t2,t3,t4,t5,t6,t7,t8⟩:=A;rw[sw1,Qj,Qk,Ql,Qm,Qn,Qo,Qp]at R;rw[O6,O8,Cd]at t1;rw[BW,BX,vM]at t2;rw[BW,BX,vM]at t3;rw[vM]at t4;rw[Cd]at t5;rw[vM,Cd]at t6;rw[vM,O9,Pb]at t7;have hv: ∀x:K2.T,jy [(S gK,V.ref b1),(S gi,V.ref b2),(S gJ,V.ref b3),(S gj,V.ref b4),(S dk,V.ref b5),(S gI,V.ref b6),(S dZ,V.ref b7),(S fP,V.ref b8)] (S x)=
   if x=gK then some (.ref b1)else if x=gi then some (.ref b2)else if x=gJ then some (.ref b3)else if x=gj then some (.ref b4)else if x=dk then some (.ref b5)else if x=gI then some (.ref b6)else if x=dZ then some (.ref b7)else if x=fP then some (.ref b8)else none:=by
  intro x
  rw[gP,gP,gP,gP,gP,gP,gP,gP]
  simp only[Dq]
  rfl
 (have nd:(([(S gK,V.ref b1),(S gi,V.ref b2),(S gJ,V.ref b3),(S gj,V.ref b4),(S dk,V.ref b5),(S gI,V.ref b6),(S dZ,V.ref b7),(S fP,V.ref b8)]:List (Str×V)).map (·.1)).Nodup:=(by show([S gK,S gi,S gJ,S gj,S dk,S gI,S dZ,S fP]:List Str).Nodup;decide+kernel));exists⟨a,_,iS X G e,FK hl R hs nd,?_,?_⟩;intro x ks hf;rw[hv];unfold iZ at hf;by_cases c1:x=gK;rw[aT c1]at hf⊢;cases hf;exists b1,rfl,λH=> .inr t1;rw[aU c1]at hf⊢;by_cases c2:x=gi;rw[aT c2]at hf⊢;cases hf;exists b2,rfl,λH=> .inr t2;rw[aU c2]at hf⊢;by_cases c3:x=gJ;rw[aT c3]at hf⊢;cases hf;exists b3,rfl,λH=> .inr t3;rw[aU c3]at hf⊢;by_cases c4:x=gj;rw[aT c4]at hf⊢;cases hf;exists b4,rfl,λH=> .inr t4;rw[aU c4]at hf⊢;by_cases c5:x=dk;rw[aT c5]at hf⊢;cases hf;exists b5,rfl,λH=> .inr t5;rw[aU c5]at hf⊢;by_cases c6:x=gI;rw[aT c6]at hf⊢;cases hf;exists b6,rfl,λH=> .inr t6;rw[aU c6]at hf⊢;by_cases c7:x=dZ;rw[aT c7]at hf⊢;cases hf;exists b7,rfl,λH=> .inr t7;rw[aU c7]at hf⊢;by_cases c8:x=fP;rw[aT c8]at hf⊢;cases hf;exists b8,rfl,λH=> .inr t8;rw[aU c8]at hf;cases hf;intro x hf;rw[hv];unfold iZ at hf;by_cases c1:x=gK;rw[aT c1]at hf;cases hf;rw[aU c1]at hf⊢;by_cases c2:x=gi;rw[aT c2]at hf;cases hf;rw[aU c2]at hf⊢;by_cases c3:x=gJ;rw[aT c3]at hf;cases hf;rw[aU c3]at hf⊢;by_cases c4:x=gj;rw[aT c4]at hf;cases hf;rw[aU c4]at hf⊢;by_cases c5:x=dk;rw[aT c5]at hf;cases hf;rw[aU c5]at hf⊢;by_cases c6:x=gI;rw[aT c6]at hf;cases hf;rw[aU c6]at hf⊢;by_cases c7:x=dZ;rw[aT c7]at hf;cases hf;rw[aU c7]at hf⊢;by_cases c8:x=fP;rw[aT c8]at hf;cases hf;rw[aU c8]
def zk(w:World)(K:W.Frag):Prop:= ∃ (a:Addr) (l:List DictEntry) (n:Nat) (f1 f2 f3 f4 f5:Addr),W.nsIn K mainGlobals "CHECKS"=some (some (.ref a))/\K.lookup a=some ⟨.type "dict",none,.dict l.toArray n, #[]⟩/\(a==sysModules)=false/\
 jD w.params l [("mark",.ref f1),("any mark",.ref f1),("number",.ref f2),("box",.ref f3),("thing",.ref f4),("rows",.ref f5)]/\
 W.nsIn K mainGlobals "is_mark"=some (some (.ref f1))/\W.nsIn K mainGlobals "is_number"=some (some (.ref f2))/\W.nsIn K mainGlobals "is_box"=some (some (.ref f3))/\W.nsIn K mainGlobals "is_thing"=some (some (.ref f4))/\W.nsIn K mainGlobals "is_rows"=some (some (.ref f5))
def uL{h:ak}{k:Nat}{x:aA}{sp:Sp}(X:K.In h)(G:h.Ns mainGlobals mg)(e:W.nsIn K mainGlobals x=some (some (.ref f)))(H:cP P w K mg base bh k x ps sp)(hk:k<=3): ∃fd,bw P w K mg base bh 3 f fd ps sp/\gQ K fd ps []/\W.keepIn K (.ref f)=true:=by obtain⟨g,fd,F,B,m,kp⟩:=H.ex;have:=m.symm.trans (iS X G e);cases this;exists fd,F.mono hk,B,kp
def RO{h:ak}(X:K.In h)(G:h.Ns mainGlobals mg)(A:zk w K)(h1:jE P w K mg base 2 "is_mark" o7)(h2:jE P w K mg base 2 "is_number" o8)(h3:jE P w K mg base 1 "is_box" mr)(h4:jE P w K mg base 3 "is_thing" o9)(h5:jE P w K mg base 1 "is_rows" AW):Ji P w K mg base:=by
 obtain⟨a,l,n,f1,f2,f3,f4,f5,e,hl,hs,R,e1,e2,e3,e4,e5⟩:=A;rw[O8,BX,O9,vM,Cd,Pb]at R;have hv: ∀x:K2.T,jy [(S (cW .mark),V.ref f1),(S (cW .kQ),V.ref f1),(S (cW .iJ),V.ref f2),(S (cW .fc),V.ref f3),(S (cW .kJ),V.ref f4),(S (cW .rows),V.ref f5)] (S x)=
   if x=cW .mark then some (.ref f1)else if x=cW .kQ then some (.ref f1)else if x=cW .iJ then some (.ref f2)else if x=cW .fc then some (.ref f3)else if x=cW .kJ then some (.ref f4)else if x=cW .rows then some (.ref f5)else none:=by
  intro x
  rw[gP,gP,gP,gP,gP,gP]
  simp only[Dq]
  rfl
 (have nd:(([(S (cW .mark),V.ref f1),(S (cW .kQ),V.ref f1),(S (cW .iJ),V.ref f2),(S (cW .fc),V.ref f3),(S (cW .kJ),V.ref f4),(S (cW .rows),V.ref f5)]:List (Str×V)).map (·.1)).Nodup:=(by show([S (cW .mark),S (cW .kQ),S (cW .iJ),S (cW .fc),S (cW .kJ),S (cW .rows)]:List Str).Nodup;decide+kernel));exists⟨a,_,iS X G e,FK hl R hs nd,?_⟩;intro k n1 n2;rw[hv];(cases k with|dc=>exact absurd rfl n1|jK=>exact absurd rfl n2|mark=>obtain⟨fd,q⟩:=uL X G e1 h1 (by decide);exact⟨f1,fd,rfl,q⟩|kQ=>obtain⟨fd,q⟩:=uL X G e1 h1 (by decide);exact⟨f1,fd,rfl,q⟩|iJ=>obtain⟨fd,q⟩:=uL X G e2 h2 (by decide);exact⟨f2,fd,rfl,q⟩|fc=>obtain⟨fd,q⟩:=uL X G e3 h3 (by decide);exact⟨f3,fd,rfl,q⟩|kJ=>obtain⟨fd,q⟩:=uL X G e4 h4 (by decide);exact⟨f4,fd,rfl,q⟩|rows=>obtain⟨fd,q⟩:=uL X G e5 h5 (by decide);exists f5,fd,rfl,q)
def Yo:bw P w K mg base bh 3 f fd ["_law_script", "_law_town_here", "_law_me", "_law_hands", "_law_wild", "_law_deep"] (yI K 0):=by have no: ∀vs H Q E,¬yI K 0 vs H Q E:=λvs H Q E ⟨_,_,_,_,_,_,_,h1,_,_,_,_,_,_⟩=>absurd h1 (by decide);exists λvs H Q E h=>absurd h (no vs H Q E),λA outer s H args us vs Q E _ _ _ _ h=>absurd h (no vs H Q E)
def a3D{ns:aq Int}(hO:zJ H)(hS:aQ K H a (ns.map V.int)):iT K H a ns:=by rcases hS with(h|⟨o,h⟩)|h;(rcases hO a with q|⟨o,xs,q⟩);rw[h]at q;cases q;rw[h]at q;cases q;exact .inl ⟨o,h⟩;exact .inr h
def T5{l:aq DictEntry}{n:Nat}(h1:W.nsIn K mainGlobals "FORMS"=some (some (.ref a)))(h2:K.lookup a=some ⟨.type "dict",none,.dict l.toArray n, #[]⟩)(h3:(a==sysModules)=false)(h4:jD w.params l [("send",.ref b1),("take",.ref b2),("post",.ref b3),("wait",.ref b4),("tell",.ref b5),("add",.ref b6),("case",.ref b7),("all",.ref b8)])(t1:iI K b1 [.str "hand",.str "mark",.str "thing"])(t2:iI K b2 [.str "any hand",.str "any mark",.str "box"])(t3:iI K b3 [.str "box",.str "any hand",.str "any mark",.str "box"])(t4:iI K b4 [.str "box"])(t5:iI K b5 [.str "thing"])(t6:iI K b6 [.str "box",.str "thing",.str "thing"])(t7:iI K b7 [.str "box",.str "number",.str "rows",.str "rows"])(t8:iI K b8 []):zn w K:=⟨a,l,n,b1,b2,b3,b4,b5,b6,b7,b8,h1,h2,h3,h4,t1,t2,t3,t4,t5,t6,t7,t8⟩
def qA{b:ae}{dd:ap ae}{aF:aq aa}{n:Nat}{sl:au (ap aa)}(h1:K.lookup b=some ⟨.type "tuple",dd,.seq aF.toArray n,sl⟩)(h2:aF.toArray.size<=sizeLine)(h3:bg xs aF):iI K b xs:=⟨_,_,_,h1,rfl,rfl,h2,h3⟩
def RN{l:aq DictEntry}{n:Nat}(h1:W.nsIn K mainGlobals "CHECKS"=some (some (.ref a)))(h2:K.lookup a=some ⟨.type "dict",none,.dict l.toArray n, #[]⟩)(h3:(a==sysModules)=false)(h4:jD w.params l [("mark",.ref f1),("any mark",.ref f1),("number",.ref f2),("box",.ref f3),("thing",.ref f4),("rows",.ref f5)])(g1:W.nsIn K mainGlobals "is_mark"=some (some (.ref f1)))(g2:W.nsIn K mainGlobals "is_number"=some (some (.ref f2)))(g3:W.nsIn K mainGlobals "is_box"=some (some (.ref f3)))(g4:W.nsIn K mainGlobals "is_thing"=some (some (.ref f4)))(g5:W.nsIn K mainGlobals "is_rows"=some (some (.ref f5))):zk w K:=⟨a,l,n,f1,f2,f3,f4,f5,h1,h2,h3,h4,g1,g2,g3,g4,g5⟩
abbrev mT(x q:Str)(st:Stmt)(ps:List Str):Prop:= ∀ (kV doc pm:Value) (an:Option Addr) (bd ct:Value) (us:List Value),us.length=ps.length->bindArgs (W.fnOf x q (ji st) (iY st) (bo st) .none kV doc pm an bd ct) ⟨us,[]⟩=pure (ps.zip us)
def fq(K:W.Frag)(cn x q:Str)(st:Stmt):Prop:= ∃C f fd,W.nsIn K mainGlobals cn=some (some (.ref C))/\ux K C x f/\bK K x q st f fd
def Y5{x:aA}{st:ay}{oc:aa}{od:ap ae}{jZ:au (ap aa)}{kV:aa}(a:W.nsIn K mainGlobals cn=some (some (.ref C)):=by k_is)(b:W.findIn K (.ref C) x=some (some (.ref f)):=by k_is)(i:W.isFn K (.ref f)=true:=by k_is)(l:K.lookup f=some ⟨oc,od,.func (W.fnOf x q (ji st) (iY st) (bo st) .none kV doc pm an bd ct),jZ⟩:=by k_is)(c:W.codeIn K bd q=true:=by k_is)(k:W.keepIn K (.ref f)=true:=by k_is):fq K cn x q st:=⟨C,f,_,a,⟨b,i,k⟩,K0 l c k⟩
def Lq{k:Nat}{x:aA}{st:ay}{sp:Sp}(e:W.nsIn K mainGlobals cn=some (some (.ref C)))(D:fq K cn x q st)(hb:mT x q st ps)(ok: ∀f fd,bK K x q st f fd->bw P w K mg base bh k f fd ps sp):cI P w K mg base C k x ps sp:=by obtain⟨C',f,fd,e',M,F⟩:=D;rw[e]at e';cases e';exists f,fd,M,ok f fd F,F.binds hb
def C4(K:W.Frag)(cn:Str)(Bw:List Str):Prop:= ∃C,W.nsIn K mainGlobals cn=some (some (.ref C))/\jC K C/\(∀f∈Bw,fu K C f)/\W.makesIn K C=true/\W.keepIn K (.ref C)=true
def Ka{Bw:aq aA}(a:W.nsIn K mainGlobals cn=some (some (.ref C)):=by k_is)(pg:W.plainGet K C Str.empty=true:=by k_is)(hd:W.hasDictIn K C=true:=by k_is)(po:W.plainOver K C=true:=by k_is)(sa:W.findIn K (.ref C) "__setattr__"=some (some (.builtin "object.__setattr__")):=by k_is)(mk:W.makesIn K C=true:=by k_is)(kc:W.keepIn K (.ref C)=true:=by k_is)(no: ∀f∈Bw,fu K C f):C4 K cn Bw:=⟨C,a,⟨pg,hd,po,sa⟩,no,mk,kc⟩
def NN: ∀f∈([]:aq aA),fu K C f:=λf h=>nomatch h
def jY{x:aA}{l:aq aA}(t: ∀f∈l,fu K C f)(h:W.findIn K (.ref C) x=some none:=by k_is): ∀f∈x::l,fu K C f:=λf hf=>by rcases List.mem_cons.mp hf with e|hf;rw[e];exact h;exact t f hf
def rR{h:ak}{k:Nat}{x:aA}{sp:Sp}(X:K.In h)(G:h.Ns mainGlobals mg)(e:W.nsIn K mainGlobals x=some (some (.ref f)))(H:cP P w K mg base bh k x ps sp)(hk:k<=2): ∃fd,bw P w K mg base bh 2 f fd ps sp/\gQ K fd ps []/\W.keepIn K (.ref f)=true:=by obtain⟨g,fd,F,B,m,kp⟩:=H.ex;have:=m.symm.trans (iS X G e);cases this;exists fd,F.mono hk,B,kp
def zm(w:World)(K:W.Frag):Prop:= ∃ (a:Addr) (l:List DictEntry) (n:Nat) (f1 f2 f3 f4 f5 f6 f7:Addr),W.nsIn K mainGlobals "DEEDS"=some (some (.ref a))/\K.lookup a=some ⟨.type "dict",none,.dict l.toArray n, #[]⟩/\(a==sysModules)=false/\
 jD w.params l [("take",.ref f1),("post",.ref f2),("wait",.ref f3),("tell",.ref f4),("add",.ref f5),("case",.ref f6),("all",.ref f7)]/\
 W.nsIn K mainGlobals "do_take"=some (some (.ref f1))/\W.nsIn K mainGlobals "do_post"=some (some (.ref f2))/\W.nsIn K mainGlobals "do_wait"=some (some (.ref f3))/\W.nsIn K mainGlobals "do_tell"=some (some (.ref f4))/\W.nsIn K mainGlobals "do_add"=some (some (.ref f5))/\W.nsIn K mainGlobals "do_case"=some (some (.ref f6))/\W.nsIn K mainGlobals "do_all"=some (some (.ref f7))
def SE{l:aq DictEntry}{n:Nat}(h1:W.nsIn K mainGlobals "DEEDS"=some (some (.ref a)))(h2:K.lookup a=some ⟨.type "dict",none,.dict l.toArray n, #[]⟩)(h3:(a==sysModules)=false)(h4:jD w.params l [("take",.ref f1),("post",.ref f2),("wait",.ref f3),("tell",.ref f4),("add",.ref f5),("case",.ref f6),("all",.ref f7)])(g1:W.nsIn K mainGlobals "do_take"=some (some (.ref f1)))(g2:W.nsIn K mainGlobals "do_post"=some (some (.ref f2)))(g3:W.nsIn K mainGlobals "do_wait"=some (some (.ref f3)))(g4:W.nsIn K mainGlobals "do_tell"=some (some (.ref f4)))(g5:W.nsIn K mainGlobals "do_add"=some (some (.ref f5)))(g6:W.nsIn K mainGlobals "do_case"=some (some (.ref f6)))(g7:W.nsIn K mainGlobals "do_all"=some (some (.ref f7))):zm w K:=⟨a,l,n,f1,f2,f3,f4,f5,f6,f7,h1,h2,h3,h4,g1,g2,g3,g4,g5,g6,g7⟩
def SF{h:ak}(X:K.In h)(G:h.Ns mainGlobals mg)(A:zm w K)(h1:cP P w K mg base bh 2 "do_take" ["hand", "row"] (Cv C))(h2:cP P w K mg base bh 2 "do_post" ["hand", "row"] (Cu C))(h3:cP P w K mg base bh 2 "do_wait" ["hand", "row"] (Cy C))(h4:cP P w K mg base bh 2 "do_tell" ["hand", "row"] (Cw C))(h5:cP P w K mg base bh 2 "do_add" ["hand", "row"] (Cr C))(h6:cP P w K mg base bh 2 "do_case" ["hand", "row"] (Ct C))(h7:cP P w K mg base bh 1 "do_all" ["hand", "row"] (Cs C)):Jj P w K mg base C:=by
 obtain⟨a,l,n,f1,f2,f3,f4,f5,f6,f7,e,hl,hs,R,e1,e2,e3,e4,e5,e6,e7⟩:=A;rw[Qj,Qk,Ql,Qm,Qn,Qo,Qp]at R;have hv: ∀x:K2.T,jy [(S gi,V.ref f1),(S gJ,V.ref f2),(S gj,V.ref f3),(S dk,V.ref f4),(S gI,V.ref f5),(S dZ,V.ref f6),(S fP,V.ref f7)] (S x)=
   if x=gi then some (.ref f1)else if x=gJ then some (.ref f2)else if x=gj then some (.ref f3)else if x=dk then some (.ref f4)else if x=gI then some (.ref f5)else if x=dZ then some (.ref f6)else if x=fP then some (.ref f7)else none:=by
  intro x
  rw[gP,gP,gP,gP,gP,gP,gP]
  simp only[Dq]
  rfl
 (have nd:(([(S gi,V.ref f1),(S gJ,V.ref f2),(S gj,V.ref f3),(S dk,V.ref f4),(S gI,V.ref f5),(S dZ,V.ref f6),(S fP,V.ref f7)]:List (Str×V)).map (·.1)).Nodup:=(by show([S gi,S gJ,S gj,S dk,S gI,S dZ,S fP]:List Str).Nodup;decide+kernel));exists⟨a,_,iS X G e,FK hl R hs nd,?_,?_,?_,?_,?_,?_,?_⟩;obtain⟨fd,q⟩:=rR X G e1 h1 (by decide);exists f1,fd,by rw[hv];rfl,q;obtain⟨fd,q⟩:=rR X G e2 h2 (by decide);exists f2,fd,by rw[hv];rfl,q;obtain⟨fd,q⟩:=rR X G e3 h3 (by decide);exists f3,fd,by rw[hv];rfl,q;obtain⟨fd,q⟩:=rR X G e4 h4 (by decide);exists f4,fd,by rw[hv];rfl,q;obtain⟨fd,q⟩:=rR X G e5 h5 (by decide);exists f5,fd,by rw[hv];rfl,q;obtain⟨fd,q⟩:=rR X G e6 h6 (by decide);exists f6,fd,by rw[hv];rfl,q;obtain⟨fd,q⟩:=rR X G e7 h7 (by decide);exists f7,fd,by rw[hv];rfl,q
def Ed{α:Type}: ∀us ws:aq α,(∃a b c,us= [a,b]/\ws= [c])\/xc us ws= []
 | [a,b],[c]=> .inl ⟨a,b,c,rfl,rfl⟩
 | [],_=> .inr rfl
 | [_],_=> .inr rfl
 |_::_::_::_,_=> .inr rfl
 | [_,_],[]=> .inr rfl
 | [_,_],_::_::_=> .inr rfl
def XN(F:bK K "__init__" "Run.__init__" vO f fd):zt K fd ["self", "program", "room"] ["room"] xc xc:=by obtain⟨oc,od,kV,doc,pm,an,bd,ct,jZ,rfl,lk,hcd⟩:=F.ex;exists λs us ws _ hl=> ?_,λ{vs us zs ws} r1 r2=> ?_;rcases Ed us ws with⟨a,b,c,e1,e2⟩|e;subst e1 e2;exact .of_eq rfl;rw[e]at hl;cases hl;rcases Ed us ws with⟨a,b,c,e1,e2⟩|e;(subst e1 e2;cases r1 with|cons x1 r1=>cases r1 with|cons x2 r1=>cases r1;cases r2 with|cons x3 r2=>cases r2;exact .cons x1 (.cons x2 (.cons x3 .nil)));rw[e];rcases Ed vs zs with⟨a,b,c,e1,e2⟩|e';(subst e1 e2;cases r1 with|cons x1 r1=>cases r1 with|cons x2 r1=>cases r1;cases r2 with|cons x3 r2=>cases r2;cases e);rw[e'];exact .nil
def fV{x:aA}{st:ay}{p0:aA}(h: ∀ (kV doc pm:aa) (an:ap ae) (bd ct u0:aa),bindArgs (W.fnOf x q (ji st) (iY st) (bo st) .none kV doc pm an bd ct) ⟨[u0],[]⟩=pure [(p0,u0)]):mT x q st [p0]:=λa b c d e f us hl=>match us,hl with| [u0],_=>h a b c d e f u0
def iV{x:aA}{st:ay}{p0 p1:aA}(h: ∀ (kV doc pm:aa) (an:ap ae) (bd ct u0 u1:aa),bindArgs (W.fnOf x q (ji st) (iY st) (bo st) .none kV doc pm an bd ct) ⟨[u0,u1],[]⟩=pure [(p0,u0),(p1,u1)]):mT x q st [p0,p1]:=λa b c d e f us hl=>match us,hl with| [u0,u1],_=>h a b c d e f u0 u1
def ng{x:aA}{st:ay}{p0 p1 p2:aA}(h: ∀ (kV doc pm:aa) (an:ap ae) (bd ct u0 u1 u2:aa),bindArgs (W.fnOf x q (ji st) (iY st) (bo st) .none kV doc pm an bd ct) ⟨[u0,u1,u2],[]⟩=pure [(p0,u0),(p1,u1),(p2,u2)]):mT x q st [p0,p1,p2]:=λa b c d e f us hl=>match us,hl with| [u0,u1,u2],_=>h a b c d e f u0 u1 u2
def Rt{x:aA}{st:ay}{p0 p1 p2 p3:aA}(h: ∀ (kV doc pm:aa) (an:ap ae) (bd ct u0 u1 u2 u3:aa),bindArgs (W.fnOf x q (ji st) (iY st) (bo st) .none kV doc pm an bd ct) ⟨[u0,u1,u2,u3],[]⟩=pure [(p0,u0),(p1,u1),(p2,u2),(p3,u3)]):mT x q st [p0,p1,p2,p3]:=λa b c d e f us hl=>match us,hl with| [u0,u1,u2,u3],_=>h a b c d e f u0 u1 u2 u3
def JS{x:aA}{st:ay}{p0 p1 p2 p3 p4:aA}(h: ∀ (kV doc pm:aa) (an:ap ae) (bd ct u0 u1 u2 u3 u4:aa),bindArgs (W.fnOf x q (ji st) (iY st) (bo st) .none kV doc pm an bd ct) ⟨[u0,u1,u2,u3,u4],[]⟩=pure [(p0,u0),(p1,u1),(p2,u2),(p3,u3),(p4,u4)]):mT x q st [p0,p1,p2,p3,p4]:=λa b c d e f us hl=>match us,hl with| [u0,u1,u2,u3,u4],_=>h a b c d e f u0 u1 u2 u3 u4
def Ru{x:aA}{st:ay}{p0 p1 p2 p3 p4 p5:aA}(h: ∀ (kV doc pm:aa) (an:ap ae) (bd ct u0 u1 u2 u3 u4 u5:aa),bindArgs (W.fnOf x q (ji st) (iY st) (bo st) .none kV doc pm an bd ct) ⟨[u0,u1,u2,u3,u4,u5],[]⟩=pure [(p0,u0),(p1,u1),(p2,u2),(p3,u3),(p4,u4),(p5,u5)]):mT x q st [p0,p1,p2,p3,p4,p5]:=λa b c d e f us hl=>match us,hl with| [u0,u1,u2,u3,u4,u5],_=>h a b c d e f u0 u1 u2 u3 u4 u5
def zH(K:W.Frag):Prop:=W.nsIn K mainGlobals "isinstance"=some none/\W.nsIn K mainGlobals "int"=some none/\W.nsIn K mainGlobals "bool"=some none/\W.nsIn K mainGlobals "str"=some none/\W.nsIn K mainGlobals "len"=some none/\W.nsIn K mainGlobals "all"=some none/\W.nsIn K mainGlobals "tuple"=some none/\W.nsIn K mainGlobals "zip"=some none/\W.nsIn K mainGlobals "enumerate"=some none/\W.nsIn K mainGlobals "range"=some none/\W.nsIn K mainGlobals "list"=some none/\W.nsIn K mainGlobals "LookupError"=some none/\W.nsIn K mainGlobals "sorted"=some none/\W.nsIn K mainGlobals "any"=some none/\W.nsIn K mainGlobals "set"=some none/\
 (∃t,W.nsIn K mainGlobals "LETTERS"=some (some (.str "abcdefghijklmnopqrstuvwxyz" t)))/\(∃t,W.nsIn K mainGlobals "LONGEST_BOX"=some (some (.int 3 t)))/\(∃t,W.nsIn K mainGlobals "HIGHEST_MARK"=some (some (.int 9 t)))/\(∃t,W.nsIn K mainGlobals "HIGHEST_NUMBER"=some (some (.int 1000000 t)))/\(∃t,W.nsIn K mainGlobals "LEAST_HANDS"=some (some (.int 2 t)))/\(∃t,W.nsIn K mainGlobals "MOST_HANDS"=some (some (.int 5 t)))/\(∃t,W.nsIn K mainGlobals "MOST_ROWS"=some (some (.int 40 t)))/\(∃t,W.nsIn K mainGlobals "MOST_ROOM"=some (some (.int 99 t)))
def Zi{h:ak}(X:K.In h)(G:h.Ns mainGlobals mg)(A:zH K):Tx mg/\rM mg/\ ∃t,mg "MOST_ROOM"=some (.int 99 t):=by obtain⟨z0,z1,z2,z3,z4,z5,z6,z7,z8,z9,Ja,Jb,Jc,Jd,Je,⟨t0,c0⟩,⟨t1,c1⟩,⟨t2,c2⟩,⟨t3,c3⟩,⟨t4,c4⟩,⟨t5,c5⟩,⟨t6,c6⟩,⟨t7,c7⟩⟩:=A;exists⟨jJ X G z0,jJ X G z1,jJ X G z2,jJ X G z3,jJ X G z4,jJ X G z5,jJ X G z6,jJ X G z7,jJ X G z8,jJ X G z9,jJ X G Ja,jJ X G Jb,⟨t0,iS X G c0⟩,⟨t1,iS X G c1⟩,⟨t2,iS X G c2⟩,⟨t3,iS X G c3⟩,⟨t4,iS X G c4⟩,⟨t5,iS X G c5⟩,⟨t6,iS X G c6⟩⟩,⟨jJ X G Jc,jJ X G Jd,jJ X G Je⟩,t7,iS X G c7
def Zh(z0:W.nsIn K mainGlobals "isinstance"=some none:=by k_is)(z1:W.nsIn K mainGlobals "int"=some none:=by k_is)(z2:W.nsIn K mainGlobals "bool"=some none:=by k_is)(z3:W.nsIn K mainGlobals "str"=some none:=by k_is)(z4:W.nsIn K mainGlobals "len"=some none:=by k_is)(z5:W.nsIn K mainGlobals "all"=some none:=by k_is)(z6:W.nsIn K mainGlobals "tuple"=some none:=by k_is)(z7:W.nsIn K mainGlobals "zip"=some none:=by k_is)(z8:W.nsIn K mainGlobals "enumerate"=some none:=by k_is)(z9:W.nsIn K mainGlobals "range"=some none:=by k_is)(Ja:W.nsIn K mainGlobals "list"=some none:=by k_is)(Jb:W.nsIn K mainGlobals "LookupError"=some none:=by k_is)(Jc:W.nsIn K mainGlobals "sorted"=some none:=by k_is)(Jd:W.nsIn K mainGlobals "any"=some none:=by k_is)(Je:W.nsIn K mainGlobals "set"=some none:=by k_is)(c0:W.nsIn K mainGlobals "LETTERS"=some (some (.str "abcdefghijklmnopqrstuvwxyz" t0)):=by k_is)(c1:W.nsIn K mainGlobals "LONGEST_BOX"=some (some (.int 3 t1)):=by k_is)(c2:W.nsIn K mainGlobals "HIGHEST_MARK"=some (some (.int 9 t2)):=by k_is)(c3:W.nsIn K mainGlobals "HIGHEST_NUMBER"=some (some (.int 1000000 t3)):=by k_is)(c4:W.nsIn K mainGlobals "LEAST_HANDS"=some (some (.int 2 t4)):=by k_is)(c5:W.nsIn K mainGlobals "MOST_HANDS"=some (some (.int 5 t5)):=by k_is)(c6:W.nsIn K mainGlobals "MOST_ROWS"=some (some (.int 40 t6)):=by k_is)(c7:W.nsIn K mainGlobals "MOST_ROOM"=some (some (.int 99 t7)):=by k_is):zH K:=
 ⟨z0,z1,z2,z3,z4,z5,z6,z7,z8,z9,Ja,Jb,Jc,Jd,Je,⟨_,c0⟩,⟨_,c1⟩,⟨_,c2⟩,⟨_,c3⟩,⟨_,c4⟩,⟨_,c5⟩,⟨_,c6⟩,⟨_,c7⟩⟩
def X9{h:ak}(X:K.In h)(G:h.Ns mainGlobals mg)(LG:mg "law"=some (.ref fa))(nn:zH K)(fo:zn w K)(ck:zk w K)(de:zm w K)(cH:C4 K "Hand" ["rows", "waiting", "held", "said", "sends_done", "takes_done", "posted", "tickets", "arrived", "met"])(cR:C4 K "Run" ["room", "hands", "ways", "history"])(d0:dD K "fits" yu)(d1:dD K "do_take" Ht)(d2:dD K "do_post" B3)(d3:dD K "do_wait" B4)(d4:dD K "do_tell" Hu)(d5:dD K "do_add" B0)(d6:dD K "do_case" Hr)(d7:dD K "do_all" Hq)(d8:dD K "do_row" Hs)(d9:dD K "is_whole" HV)(wQ:dD K "is_mark" HJ)(DL:dD K "is_number" HK)(rX:dD K "is_box" BY)(Ac:dD K "is_thing" HS)(rY:dD K "is_rows" HP)(R4:dD K "may_be_any" Hi)(R5:dD K "fits_place" HA)(R6:dD K "is_row" Ca)(R7:dD K "rows_within" HW)(R8:dD K "count_rows" Ho)(R9:dD K "is_program" B9)(Sa:dD K "check_program" Hm)(Sb:dD K "is_room" HH)(Sc:dD K "check_room" Hn)(Sd:dD K "has_truth" HF)(Se:dD K "first_thing" B5)(Sf:dD K "_law_town" HU)(Sg:dD K "_law_draw" Hv)(Sh:dD K "_law_pick" HM)(Si:dD K "_law_thing" HI)(Sj:dD K "_law_row" yv)(Sk:dD K "_law_program" B7)(Sl:dD K "law" j4)(m0:fq K "Hand" "__init__" "Hand.__init__" HD)(m1:fq K "Hand" "has_ended" "Hand.has_ended" Hx)(m2:fq K "Hand" "can_go" "Hand.can_go" Hj)(m3:fq K "Hand" "waits_in_all" "Hand.waits_in_all" Cf)(m4:fq K "Hand" "go_on" "Hand.go_on" HC)(m5:fq K "Hand" "worth" "Hand.worth" Cg)(m6:fq K "Hand" "filled" "Hand.filled" yt)(m7:fq K "Hand" "add_take" "Hand.add_take" BV)(m8:fq K "Hand" "first_take" "Hand.first_take" Hz)(m9:fq K "Hand" "receive" "Hand.receive" yx)(F6:fq K "Hand" "result" "Hand.result" HE)(Ys:fq K "Run" "__init__" "Run.__init__" vO)(Yt:fq K "Run" "events" "Run.events" Hy)(Yu:fq K "Run" "meets_on" "Run.meets_on" yw)(Yv:fq K "Run" "do" "Run.do" BZ)(Yw:fq K "Run" "carry_out" "Run.carry_out" Hl)(Yx:fq K "Run" "step" "Run.step" HR)(Yy:fq K "Run" "send" "Run.send" Cb)(Yz:fq K "Run" "meet" "Run.meet" tS)(YA:fq K "Run" "pass_all" "Run.pass_all" HL)(YB:fq K "Run" "state" "Run.state" HQ)(YC:fq K "Run" "end" "Run.end" Hw)(YD:fq K "Run" "result" "Run.result" HN)(YE:fq K "Run" "on_way" "Run.on_way" B8): ∃fd:ah,(∀ (s:ac) (v:aa),BindsTo s fd ⟨[v],[]⟩ [("_law_script",v)])/\ ∀base:ak,K.In base->base.Ns mainGlobals mg->bw P w K mg base bh 11 fa fd ["_law_script"] (yJ K):=by obtain⟨T,T2,DV⟩:=Zi X G nn;have Fo:=T6 (P:=P) X G fo;obtain⟨C,eC,RP,ZI,Za,X0⟩:=cH;obtain⟨R,eR,RQ,ZJ,Zb,X1⟩:=cR;(have hC:cu K C:=⟨RP,ZI⟩);(have hR:f9 K R:=⟨RQ,ZJ⟩);obtain⟨f,fd,e,F⟩:=Sl;have e0:=LG.symm.trans (iS X G e);cases e0;have Z:=F.ex;obtain⟨oc,od,kV,doc,pm,an,bd,ct,jZ,rfl,lk,hcd⟩:=Z;exists W.fnOf "law" "law" (ji j4) (iY j4) (bo j4) .none kV doc pm an bd ct,λs v=> .of_eq rfl,λbase _ _=> ?_;have ho: ∀ {k:Nat} {x:aA} {st:ay} {ps:aq aA} {sp:Sp},dD K x st->(∀f fd,bK K x x st f fd->gQ K fd ps []->mg x=some (.ref f)->bw P w K mg base bh k f fd ps sp)->mT x x st ps->cP P w K mg base bh k x ps sp:=λa b c=>Vh X G a c b;have hc: ∀ {k:Nat} {x q:aA} {st:ay} {ps:aq aA} {sp:Sp},fq K "Hand" x q st->(∀f fd,bK K x q st f fd->bw P w K mg base bh k f fd ps sp)->mT x q st ps->cI P w K mg base C k x ps sp:=λa b c=>Lq eC a c b;have hk: ∀ {k:Nat} {x q:aA} {st:ay} {ps:aq aA} {sp:Sp},fq K "Run" x q st->(∀f fd,bK K x q st f fd->bw P w K mg base bh k f fd ps sp)->mT x q st ps->cI P w K mg base R k x ps sp:=λa b c=>Lq eR a c b;have Au:=ho d9 (λf fd F B m=>a03 F T) (fV λ_ _ _ _ _ _ _=>rfl);have U4:=ho wQ (λf fd F B m=>a0K F T Au) (fV λ_ _ _ _ _ _ _=>rfl);have Ln:=ho DL (λf fd F B m=>a0N F T Au) (fV λ_ _ _ _ _ _ _=>rfl);have Lk:=ho rX (λf fd F B m=>a0d F T) (fV λ_ _ _ _ _ _ _=>rfl);have U7:=ho Ac (λf fd F B m=>a00 F Ln Lk) (fV λ_ _ _ _ _ _ _=>rfl);have U6:=ho rY (λf fd F B m=>a0W F T) (fV λ_ _ _ _ _ _ _=>rfl);have Ck:=RO X G ck U4 Ln Lk U7 U6;have UM:=ho R4 (λf fd F B m=>a0c F) (fV λ_ _ _ _ _ _ _=>rfl);have UZ:=ho R5 (λf fd F B m=>a0z F T UM Au Ck) (ng λ_ _ _ _ _ _ _ _ _=>rfl);have U5:=ho R6 (λf fd F B m=>a0V F T UZ Fo) (iV λ_ _ _ _ _ _ _ _=>rfl);have U9:=ho R7 (λf fd F B m=>a04 F) (fV λ_ _ _ _ _ _ _=>rfl);have UO:=ho R8 (λf fd F B m=>a0i F T U5 U9) (iV λ_ _ _ _ _ _ _ _=>rfl);have Lo:=ho R9 (λf fd F B m=>a0R F T UO) (fV λ_ _ _ _ _ _ _=>rfl);have UN:=ho Sa (λf fd F B m=>a0g F Lo) (fV λ_ _ _ _ _ _ _=>rfl);have U1:=ho Sb (λf fd F B m=>a0F F DV Au) (fV λ_ _ _ _ _ _ _=>rfl);have UP:=ho Sc (λf fd F B m=>a0h F U1) (fV λ_ _ _ _ _ _ _=>rfl);have Ll:=ho d0 (λf fd F B m=>a0A F) (ng λ_ _ _ _ _ _ _ _ _=>rfl);have Bk:=hc m1 (λf fd F=>a0u F T hC) (fV λ_ _ _ _ _ _ _=>rfl);obtain⟨ge,Ul,jT,EF,nr⟩:=Bk;have YF:=hc m2 (λf fd F=>a0e F hC jT EF nr) (fV λ_ _ _ _ _ _ _=>rfl);(have Bk:cI P w K mg base C 1 "has_ended" ["self"] (vY C):=⟨ge,Ul,jT,EF,nr⟩);have qD:=hc m4 (λf fd F=>a0B F hC) (fV λ_ _ _ _ _ _ _=>rfl);have YW:=hc m3 (λf fd F=>a02 F hC) (fV λ_ _ _ _ _ _ _=>rfl);have Bl:=hc m5 (λf fd F=>a05 F T hC) (iV λ_ _ _ _ _ _ _ _=>rfl);have Nj:=hc m7 (λf fd F=>a0b F hC) (Rt λ_ _ _ _ _ _ _ _ _ _=>rfl);have YK:=hc m8 (λf fd F=>a0x F hC Ll) (ng λ_ _ _ _ _ _ _ _ _=>rfl);have YR:=hc m9 (λf fd F=>a0T F hC qD) (ng λ_ _ _ _ _ _ _ _ _=>rfl);have YJ:=hc m6 (λf fd F=>a0w F T2 hC) (fV λ_ _ _ _ _ _ _=>rfl);have YL:=hc F6 (λf fd F=>a0D F T T2 hC YJ) (fV λ_ _ _ _ _ _ _=>rfl);have UV:=ho d1 (λf fd F B m=>a0p F hC Nj) (iV λ_ _ _ _ _ _ _ _=>rfl);have UT:=ho d2 (λf fd F B m=>a0n F hC Nj qD) (iV λ_ _ _ _ _ _ _ _=>rfl);have UX:=ho d3 (λf fd F B m=>a0r F hC qD) (iV λ_ _ _ _ _ _ _ _=>rfl);have UW:=ho d4 (λf fd F B m=>a0q F hC Bl qD) (iV λ_ _ _ _ _ _ _ _=>rfl);have UQ:=ho d5 (λf fd F B m=>a0k F hC Bl qD) (iV λ_ _ _ _ _ _ _ _=>rfl);have US:=ho d6 (λf fd F B m=>a0m F hC Bl) (iV λ_ _ _ _ _ _ _ _=>rfl);have UR:=ho d7 (λf fd F B m=>a0l F hC) (iV λ_ _ _ _ _ _ _ _=>rfl);have D:=SF X G de UV UT UX UW UQ US UR;have UU:=ho d8 (λf fd F B m=>a0o F D) (iV λ_ _ _ _ _ _ _ _=>rfl);have U0:=ho Sd (λf fd F B m=>a0E F T T2) (fV λ_ _ _ _ _ _ _=>rfl);have UY:=ho Se (λf fd F B m=>a0y F Ll) (ng λ_ _ _ _ _ _ _ _ _=>rfl);have YN:=hk Yu (λf fd F=>a0M F hC hR YK UY) (ng λ_ _ _ _ _ _ _ _ _=>rfl);have YO:=hk YE (λf fd F=>a0O (C:=C) F T hR) (ng λ_ _ _ _ _ _ _ _ _=>rfl);have F7:=hk Yt (λf fd F=>a0v F T T2 hC hR YF YN) (fV λ_ _ _ _ _ _ _=>rfl);have YT:=hk Yy (λf fd F=>a0X F T hC hR Bl qD) (ng λ_ _ _ _ _ _ _ _ _=>rfl);have YV:=hk Yx (λf fd F=>a0Z F hC hR YT UU) (iV λ_ _ _ _ _ _ _ _=>rfl);have YM:=hk Yz (λf fd F=>a0L F hC hR YR qD) (JS λ_ _ _ _ _ _ _ _ _ _ _=>rfl);have YQ:=hk YA (λf fd F=>a0P F T hC hR YW Bk qD) (fV λ_ _ _ _ _ _ _=>rfl);have YG:=hk Yw (λf fd F=>a0f F hR YV YM YQ) (iV λ_ _ _ _ _ _ _ _=>rfl);have YH:=hk Yv (λf fd F=>a0j F T hR U0 F7 YG) (iV λ_ _ _ _ _ _ _ _=>rfl);have YU:=hk YB (λf fd F=>a0Y F T hC hR F7 Bk) (fV λ_ _ _ _ _ _ _=>rfl);have YS:=hk YD (λf fd F=>a0U F T hC hR YL) (fV λ_ _ _ _ _ _ _=>rfl);have YI:=hk YC (λf fd F=>a0t F hR YU YS) (fV λ_ _ _ _ _ _ _=>rfl);(have MH:Js P w K mg base C:=(by obtain⟨C',g,gd,e',M,FG⟩:=m0;rw[eC]at e';cases e';exists⟨g,gd,⟨Za,M.at_,M.fn,X0⟩,a0C FG hC,FG.binds (iV λ_ _ _ _ _ _ _ _=>rfl)⟩,iS X G eC));(have MR:Dh P w K mg base C R:=(by obtain⟨R',g,gd,e',M,FG⟩:=Ys;rw[eR]at e';cases e';exists⟨g,gd,⟨Zb,M.at_,M.fn,X1⟩,a0S FG T hR MH UN UP,XN FG⟩,iS X G eR));have U8:=ho Sf (λf fd F B m=>a01 F T) (fV λ_ _ _ _ _ _ _=>rfl);have xh:=ho Sg (λf fd F B m=>a0s F T) (ng λ_ _ _ _ _ _ _ _ _=>rfl);have As:=ho Sh (λf fd F B m=>a0Q F T xh) (ng λ_ _ _ _ _ _ _ _ _=>rfl);have Lm:=ho Si (λf fd F B m=>a0J F As) (iV λ_ _ _ _ _ _ _ _=>rfl);have U3:=ho Sj (λf fd F B m=>NX (d:=1) F T (by decide) xh As Lm ⟨⟨f,fd,NX (d:=0) F T (by decide) xh As Lm ⟨⟨f,fd,Yo,B,m,F.kp⟩⟩,B,m,F.kp⟩⟩) (Ru λ_ _ _ _ _ _ _ _ _ _ _ _=>rfl);have U2:=ho Sk (λf fd F B m=>(a0I F T xh U3 Lo).mono (by decide:8<=9)) (JS λ_ _ _ _ _ _ _ _ _ _ _=>rfl);exact a0H F T T2 hR U8 xh As U2 MR F7 YH YI YO
def walk{l:W.OpenLaw}{XP:(aA->ap aa)->ak->Prop}{YP:ag->ak->Prop}{d:DefRec}{K:Params->W.Frag}(hn:l.most=some 63)(xl:d.params.defaults= [])(hY: ∀ (w:ag) (h:ak),YP w h->(K w.params).In h)(F: ∀ (w:ag) (mg:aA->ap aa) (fa:ae) (h:ak),(K w.params).In h->h.Ns mainGlobals mg->mg d.name=some (.ref fa)-> ∃fd:ah,(∀ (s:ac) (u:aa),BindsTo s fd ⟨[u],[]⟩ [("_law_script",u)])/\ ∀base:ak,(K w.params).In base->base.Ns mainGlobals mg->bw l.prog w (K w.params) mg base bh 11 fa fd ["_law_script"] (yJ (K w.params))):W.WalkO q loose XP YP l.row.toRowW d [] (λf vs=>PySem.call f vs):=
 L2.a42 (n:=63) (k:=11) (x:= "_law_script") (CX:=λ_=>bh) (sp:=λw=>yJ (K w.params)) hn (by decide) xl ⟨rfl,by decide,by decide⟩ hY F (λ_ _ a ns hl hO hS=>⟨a,ns,rfl,a3D hO hS,hl,λ_=>rfl⟩) λ_ _ _ _ _ z=>z
end W2
end
namespace PySem.W.Fast
def tw13685566279158899139:=0
def tw5626605660277439662:=0
def tw3823112848662577003:=0
def tw15315111321477593002:=0
def tw8705988269929602341:=0
def tw17794190026441947475:=0
def tw10452026400531811483:=0
def tw8857734954540717392:=0
def tw8161257493166898714:=0
def tw10964371200738181606:=0
def tw15929288218375087017:=0
def tw2081733883649286560:=0
def tw4785834563668686717:=0
def tw17120733631962418284:=0
def tw7112969658189090776:=0
def tw11400205382550896407:=0
def tw265364187066015720:=0
def tw6499782413750258270:=0
def tw3550325660941485118:=0
def tw13482766802043997277:=0
def tw8619857237653515571:=0
def tw13312552256273372968:=0
def tw17981191654722226331:=0
def tw3513825941452464522:=0
def tw17261583080598849179:=0
def tw6799141125847722172:=0
def tw1002181444620393852:=0
def tw7755043856249882910:=0
def tw5045380042642523632:=0
def tw3250721950527857276:=0
def tw4736663077652610695:=0
def tw2678024217844051758:=0
def tw14284277548513356981:=0
def tw3405414135586648480:=0
def tw5530806582064196037:=0
def tw18293501854072021943:=0
def tw10871838507592115638:=0
def tw13309724702788628306:=0
def tw6716393275918901278:=0
def tw8586458036615726463:=0
def tw4613320622965031479:=0
def tw14461165652154821500:=0
def tw12411619789416305239:=0
def tw4947463396644893499:=0
def tw15739317792538866932:=0
def tw10404091322096644498:=0
def tw12847618411792330026:=0
def tw8951834947490549847:=0
def tw5354375474959869794:=0
def tw46167617673271422:=0
def tw10846081979263707595:=0
def tw10982616941967903827:=0
def tw6640670565992407598:=0
def tw2148022677495683437:=0
def tw15316643127605693102:=0
def tw7450008960209574860:=0
def tw14809109662751723677:=0
def tw10548691944883845014:=0
def tw2682459763499983593:=0
def tw9491275597244257347:=0
def tw12396681643511959269:=0
def tw4578303240272162180:=0
def tw2083102861335169045:=0
def tw9920553917246990791:=0
def tw9015714825160801776:=0
def tw1435334419289309615:=0
def tw11850242554674875516:=0
def tw13127529779091040820:=0
def tw9152689353139111930:=0
def tw12814263104071819958:=0
def tw663499323100396257:=0
def tw6898479478595850437:=0
def tw7779733280082581408:=0
def tw5116527305135510875:=0
def tw607801754554129118:=0
def tw4966398241416894112:=0
def tw8991498552372409790:=0
def tw7897496931530846225:=0
def tw5628087297987275183:=0
def tw193321432044267284:=0
def tw1744444120228146321:=0
def tw5654585097944434398:=0
def tw2611690201996024623:=0
def tw2910619085246179574:=0
def tw9279591940132535877:=0
def tw9340346962334942843:=0
def tw11995709801940766371:=0
def tw344059080604799128:=0
def tw1475776913973109405:=0
def tw1016154710884540110:=0
def tw12548936062613418000:=0
def tw9321800542441508942:=0
def tw15900568695124047786:=0
def tw14982651945150175813:=0
def tw8453629196694322586:=0
def tw13375871445952820668:=0
def tw1224666305729679247:=0
def tw13367377628197695087:=0
def tw9449022720972831774:=0
def tw18383876441838621621:=0
def tw5753777455091945283:=0
def tw13334476175335758416:=0
def tw13231872714052574765:=0
def tw3075726072016206923:=0
def tw12105265317203688477:=0
def tw1869531686912295050:=0
def tw8280311926165103766:=0
def tw11689958027621734765:=0
def tw7789605873018622562:=0
def tw7750862133356810901:=0
def tw14060452664373846639:=0
def tw9557221057210976325:=0
def tw10628401222771216112:=0
def tw9750827137121858746:=0
def tw1450738534268854357:=0
def tw352813241824274719:=0
def tw17103750420098228548:=0
def tw1513427351030472082:=0
def tw6268325015085923534:=0
def tw14698109457801951427:=0
def tw9317641984478805940:=0
def tw11050090457438086714:=0
def tw10306908310236218308:=0
def tw12963941670946993827:=0
def tw8118842106418405387:=0
def tw13471917208042591213:=0
def tw12623738605066255307:=0
def tw4210355753620651066:=0
def tw15369345813250906544:=0
def tw12439542476827480788:=0
def tw3475489101943372899:=0
def tw5647175822011358764:=0
def tw9014828881880803303:=0
def tw17042622539709563039:=0
def tw16660636362635193956:=0
def tw6473349280622776419:=0
def tw16933490868972303477:=0
def tw1475758373142491385:=0
def tw6080006871923971099:=0
def tw15479588810079424433:=0
end PySem.W.Fast
open PySem PySem.W PyProof.Rows
set_option maxRecDepth 100000 in
set_option maxHeartbeats 0 in
theorem PySem.Challenge.cw_wildtakes_k12_whole_in_order_holds : PySem.Challenge.rw_wildtakes_k12_whole_in_order.Holds := by
 w_on;o_law;k_head;(case hw=>w_witness2)
 k_fill
 refine W2.walk (l:=PySem.Challenge.rw_wildtakes_k12_whole_in_order) rfl rfl (fun w h Y=>PySem.W.kIn_of Y) ?F
 case F=>
  intro w mg fa h KX G xA
  have nn:W2.zH (L2.KOf KX):=by
   dsimp only[L2.KOf]
   exact W2.Zh
  have fo:W2.zn w (L2.KOf KX):=by
   dsimp only[L2.KOf]
   refine' W2.T5 ?a ?l ?s ?e (W2.qA ?t1 ?z1 ?v1) (W2.qA ?t2 ?z2 ?v2) (W2.qA ?t3 ?z3 ?v3) (W2.qA ?t4 ?z4 ?v4) (W2.qA ?t5 ?z5 ?v5) (W2.qA ?t6 ?z6 ?v6) (W2.qA ?t7 ?z7 ?v7) (W2.qA ?t8 ?z8 ?v8)
   (case a=>k_is);(case l=>k_is);(case s=>decide)
   (case e=>exact(.cons rfl (.cons rfl (.cons rfl (.cons rfl (.cons rfl (.cons rfl (.cons rfl (.cons rfl .nil)))))))))
   (case t1=>k_is);(case z1=>decide);(case v1=>exact(.cons ⟨_,rfl⟩ (.cons ⟨_,rfl⟩ (.cons ⟨_,rfl⟩ .nil))))
   (case t2=>k_is);(case z2=>decide);(case v2=>exact(.cons ⟨_,rfl⟩ (.cons ⟨_,rfl⟩ (.cons ⟨_,rfl⟩ .nil))))
   (case t3=>k_is);(case z3=>decide);(case v3=>exact(.cons ⟨_,rfl⟩ (.cons ⟨_,rfl⟩ (.cons ⟨_,rfl⟩ (.cons ⟨_,rfl⟩ .nil)))))
   (case t4=>k_is);(case z4=>decide);(case v4=>exact(.cons ⟨_,rfl⟩ .nil))
   (case t5=>k_is);(case z5=>decide);(case v5=>exact(.cons ⟨_,rfl⟩ .nil))
   (case t6=>k_is);(case z6=>decide);(case v6=>exact(.cons ⟨_,rfl⟩ (.cons ⟨_,rfl⟩ (.cons ⟨_,rfl⟩ .nil))))
   (case t7=>k_is);(case z7=>decide);(case v7=>exact(.cons ⟨_,rfl⟩ (.cons ⟨_,rfl⟩ (.cons ⟨_,rfl⟩ (.cons ⟨_,rfl⟩ .nil)))))
   (case t8=>k_is);(case z8=>decide);(case v8=>exact .nil)
  have ck:W2.zk w (L2.KOf KX):=by
   dsimp only[L2.KOf]
   refine' W2.RN ?a ?l ?s ?e ?f1 ?f2 ?f3 ?f4 ?f5
   (case a=>k_is);(case l=>k_is);(case s=>decide)
   (case e=>exact(.cons rfl (.cons rfl (.cons rfl (.cons rfl (.cons rfl (.cons rfl .nil)))))))
   (case f1=>k_is);(case f2=>k_is);(case f3=>k_is);(case f4=>k_is);(case f5=>k_is)
  have de:W2.zm w (L2.KOf KX):=by
   dsimp only[L2.KOf]
   refine' W2.SE ?a ?l ?s ?e ?f1 ?f2 ?f3 ?f4 ?f5 ?f6 ?f7
   (case a=>k_is);(case l=>k_is);(case s=>decide)
   (case e=>exact(.cons rfl (.cons rfl (.cons rfl (.cons rfl (.cons rfl (.cons rfl (.cons rfl .nil))))))))
   (case f1=>k_is);(case f2=>k_is);(case f3=>k_is);(case f4=>k_is);(case f5=>k_is);(case f6=>k_is);(case f7=>k_is)
  refine W2.X9 KX G xA nn fo ck de ?_ ?_ ?_ ?_ ?_ ?_ ?_ ?_ ?_ ?_ ?_ ?_ ?_ ?_ ?_ ?_ ?_ ?_ ?_ ?_ ?_ ?_ ?_ ?_ ?_ ?_ ?_ ?_ ?_ ?_ ?_ ?_ ?_ ?_ ?_ ?_ ?_ ?_ ?_ ?_ ?_ ?_ ?_ ?_ ?_ ?_ ?_ ?_ ?_ ?_ ?_ ?_ ?_ ?_ ?_ ?_ ?_ ?_ ?_
  ·exact W2.Ka (no:=(W2.jY (W2.jY (W2.jY (W2.jY (W2.jY (W2.jY (W2.jY (W2.jY (W2.jY (W2.jY W2.NN)))))))))))
  ·exact W2.Ka (no:=(W2.jY (W2.jY (W2.jY (W2.jY W2.NN)))))
  iterate 33 exact W2.SG
  all_goals exact W2.Y5
