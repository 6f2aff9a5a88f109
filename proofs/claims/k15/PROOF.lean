import PyProof.Rows.All
import Wide.All
import OpenK.AllK
import Wide.FinOn
import Lean
import PyProof.EqAt
import PyProof.EqKinds
import PyProof.NeKinds
import PyProof.TupleCall
import KE.KPairComp
import KE.KIntText
import PyProof.Rows.StrSplitCount
import PyProof.ZipIter
import PyProof.EnumMake
import PyProof.Draws
import PyProof.Rows.CallKwBuiltin
import PySem.Challenge.RW_nightwatch_k15_whole_there_and_back
open Array renaming getElem?_eq_getElem→N2,getElem?_eq_none→W6,getElem?_toList→N3,length_toList→u6,mem_toList_iff→Y8,size_append→M7,size_eq_zero_iff→N8,toArray_toList→X8,toList_append→u5
open Bool renaming and_eq_true→Z1,and_false→f7,eq_iff_iff→k5,false_and→P3,false_eq_true→B7,false_ne_true→N0,false_or→o7,false_xor→i6,not_eq_true'→L7,or_eq_false_iff→W8,or_false→N5,true_and→u4,true_xor→l7
open Int renaming emod_lt_of_pos→A7,emod_nonneg→W7,eq_ofNat_of_zero_le→A8,toNat_natCast→F4
open List renaming Perm→g4,all_cons→y6,all_eq_true→Y2,any_cons→x6,any_eq_false→K7,any_eq_true→P7,append_assoc→X1,append_eq_nil_iff→N4,append_nil→o0,cons_append→X2,cons→M6,contains_eq_mem→V8,dropLast_concat→j5,drop_eq_getElem_cons→T4,drop_length→O7,eq_nil_of_length_eq_zero→T2,eq_of_mem_replicate→M5,eraseIdx_cons_succ→z7,filterMap_cons→M3,filterMap_nil→l4,filter_append→A4,filter_cons→Y1,filter_eq_nil_iff→j4,filter_eq_self→K5,find?_cons→j0,flatMap_append→L3,flatMap_cons→N1,flatMap_nil→R4,flatten_cons→S5,foldl_cons→V7,getD_eq_getElem?_getD→K3,getElem?_append_left→X0,getElem?_append_right→L1,getElem?_cons_succ→L6,getElem?_cons_zero→Q5,getElem?_eq_getElem→u0,getElem?_eq_none→X5,getElem?_eq_some_iff→W0,getElem?_map→Q1,getElem?_of_mem→D4,getElem?_set_ne→g6,getElem?_set_self→M8,getElem?_take_of_lt→k7,getElem?_zipWith→Z6,getElem_mem→Q4,length_append→B0,length_cons→J0,length_drop→K6,length_eq_zero_iff→E2,length_eraseIdx_of_lt→d7,length_filter_le→E3,length_flatMap→J5,length_map→D0,length_nil→K1,length_pos_iff→K4,length_replicate→S4,length_singleton→y3,length_take→K2,length→g5,lookup_cons→V2,lookup→P4,map_append→A1,map_congr_left→r6,map_cons→S1,map_map→C4,map_nil→x3,map→d6,mem_append_left→T1,mem_append_right→V0,mem_append→T0,mem_cons_of_mem→A0,mem_cons_self→C0,mem_cons→L0,mem_filter→W4,mem_flatMap→j2,mem_map→j1,mem_of_getElem?→d0,mem_range→c7,mem_singleton→M0,nil_append→D3,nodup_append→J3,nodup_cons→g0,not_mem_nil→E1,of_mem_zip→U7,pairwise_cons→z6,pairwise_iff_getElem→i7,range→Q2,replicate_succ→Y4,replicate→Y0,size_toArray→S0,sum_append→Y6,sum_cons→V3,sum_nil→V6,take_add_one→C6,take_append_drop→T8,take_length→C2,take_of_length_le→U6,take_succ→A6,take→j6,toArray→T6,zipWith_cons_cons→L8,zipWith→M4
open Nat renaming add_assoc→E6,add_zero→J7,isDigit_of_mem_toDigits→Z7,le_add_right→T3,le_of_eq→S6,le_of_lt→F7,le_refl→P0,le_succ_of_le→E4,le_succ→F5,le_trans→Q0,lt_irrefl→L5,lt_of_le_of_lt→S3,lt_of_le_of_ne→P5,lt_of_lt_of_le→V1,lt_succ_of_lt→C5,lt_succ_self→c5,mul_one→U8,mul_zero→K8,ne_of_gt→F8,ne_of_lt→P1,not_lt_zero→X6,sub_self→E8,succ_le_succ→Z5,succ_mul→x5,succ→E5,toDigits→E7,zero_add→D8,zero_le→D2
open Option renaming bind_some→J6,getD_none→N7,map_eq_some_iff→j3,some→Z2
open Option.some renaming injEq→A5
open PyProof.Rows renaming callWith_type1→L4,digit_range→j7,slot_tuple_getitem→X4,toString_length_le→T5
open PySem.F renaming args_tuple_add_2→D6,entry_dict_get→C8,entry_tuple_add→F6,plainAttrs_dict→y7,plainAttrs_list→Z0,plainAttrs_str→C3,plain_extend_loop→g7,plain_list_iadd→v7,plain_set_new→S8,slot_dict_get→W5,slot_list_append→D1,slot_list_pop→y4,slot_str_join→V5,slot_str_split→Q6,slot_str_startswith→Y7,slot_tuple_add→P6,type_dict_get→Q8,type_list_append→C1,type_list_pop→x4,type_str_join→U5,type_str_split→O6,type_str_startswith→X7
open PySem.NumText renaming digitsVal→u7
open PySem.W renaming Frag→K0,OpenLaw→T7,callWith_K→z5,cellsFrom_some→B8,codeIn→D5,emptyDict→Z3,findIn→J2,fnOf→Y3,hasDictIn→B6,instObj→V4,isFn→N6,keepIn→X3,kia_one→Q3,kitOne→Z4,lookIn→c6,makesIn→S7,methodCall_KW→O8,methodObj→D7,mg_none_of→P2,mg_of→A3,nsIn→A2,plainGet_of→k6,plainGet→Y5,plainOver→C7,takerIn→Q7
open PySem.W.KIN renaming signs_num→P8
set_option Elab.async false
set_option linter.all false
set_option genSizeOf false
set_option maxRecDepth 100000
namespace L2
open PySem PySem.Spec PyProof.Rows

abbrev DX:=Sum Int Str
def Kp:DX->Value->Bool
 |.inl k,v=>Value.isInt k v
 |.inr x,v=>Value.isStrOf x v
def keyH (w:World):DX->Int
 |.inl k=>hashInt k
 |.inr x=>hashStr w x
theorem BR:∀ {k:DX} {v:Value},Kp k v=true->(∃ i t,k=Sum.inl i/\v=Value.int i t)\/(∃ x t,k=Sum.inr x/\v=Value.str x t)
 |.inl i,v,h=>by
  obtain ⟨t,e⟩:=Value.isInt_shape (k:=i) (v:=v) h
  exact .inl ⟨i,t,rfl,e⟩
 |.inr x,v,h=>by
  obtain ⟨t,e⟩:=Value.isStrOf_shape (x:=x) (v:=v) h
  exact .inr ⟨x,t,rfl,e⟩
theorem Ql (i:Int) (t:Tok):Kp (.inl i) (.int i t)=true:=by simp [Kp,Value.isInt]
theorem Bj (x:Str) (t:Tok):Kp (.inr x) (.str x t)=true:=by simp [Kp,Value.isStrOf]
theorem key_ll (a b:Int):decide ((Sum.inl a:DX)=Sum.inl b)=(a == b):=by
 by_cases e:a=b
 ·subst e;simp
 ·have h:¬ (Sum.inl a:DX)=Sum.inl b:=λq=>e (Sum.inl.inj q)
  rw [decide_eq_false h]
  exact (beq_eq_false_iff_ne.mpr e).symm
theorem key_rr (a b:Str):decide ((Sum.inr a:DX)=Sum.inr b)=decide (a=b):=by
 by_cases e:a=b
 ·subst e;simp
 ·have h:¬ (Sum.inr a:DX)=Sum.inr b:=λq=>e (Sum.inr.inj q)
  rw [decide_eq_false h,decide_eq_false e]
theorem key_lr (a:Int) (b:Str):decide ((Sum.inl a:DX)=Sum.inr b)=false:=decide_eq_false (λq=>nomatch q)
theorem key_rl (a:Str) (b:Int):decide ((Sum.inr a:DX)=Sum.inl b)=false:=decide_eq_false (λq=>nomatch q)

def Eg (prog:Program) (w:World):PySem.KeyKind prog w DX where
 is:=Kp
 hash:=keyH w
 inj:=λv a b ha hb=>by
  rcases BR ha with ⟨i,t,rfl,rfl⟩ | ⟨x,t,rfl,rfl⟩
  ·rcases BR hb with ⟨j,u,rfl,e⟩ | ⟨y,u,rfl,e⟩
   ·injection e with e1 _;rw [e1]
   ·exact nomatch e
  ·rcases BR hb with ⟨j,u,rfl,e⟩ | ⟨y,u,rfl,e⟩
   ·exact nomatch e
   ·injection e with e1 _;rw [e1]
 byValue:=λk v h=>by
  rcases BR h with ⟨i,t,rfl,rfl⟩ | ⟨x,t,rfl,rfl⟩<;>rfl
 pyHash:=λhv h=>by
  rcases BR hv with ⟨i,t,rfl,rfl⟩ | ⟨x,t,rfl,rfl⟩
  ·exact wpAny_pyHash_int h
  ·exact wpAny_pyHash_str h
 eqBool:=λhu hv h=>by
  rcases BR hu with ⟨i,t,rfl,rfl⟩ | ⟨x,t,rfl,rfl⟩
  ·rcases BR hv with ⟨j,u,rfl,rfl⟩ | ⟨y,u,rfl,rfl⟩
   ·rw [key_ll] at h;exact wpAny_eqBool_int h
   ·rw [key_lr] at h;exact SeqAt.EqAt.int_str i t y u _ _ _ _ h
  ·rcases BR hv with ⟨j,u,rfl,rfl⟩ | ⟨y,u,rfl,rfl⟩
   ·rw [key_rl] at h;exact SeqAt.EqAt.str_int x t j u _ _ _ _ h
   ·rw [key_rr] at h;exact wpAny_eqBool_str h
 «strs»:=λk x t v h=>by
  rcases BR h with ⟨i,u,rfl,e⟩ | ⟨y,u,rfl,e⟩
  ·exact nomatch e
  ·injection e with e1 _
   subst e1
   cases v<;>rfl

theorem ME (prog:Program) (w:World) (i:Int) (t:Tok):(Eg prog w).is (.inl i) (.int i t)=true:=Ql i t
theorem MD (prog:Program) (w:World) (x:Str) (t:Tok):(Eg prog w).is (.inr x) (.str x t)=true:=Bj x t
end L2

namespace L2
open PySem PySem.Spec PyProof.Rows

inductive V where
 |non | bl (b:Bool) | int (i:Int) | str (x:Str) | byt (b:Array UInt8) | flt (b:UInt64) | ref (a:Addr) | ty (n:String)
 deriving DecidableEq

def Bw:V->Value->Prop
 |.non,u=>u=Value.none
 |.bl b,u=>u=Value.bool b
 |.int i,u=>∃ t,u=Value.int i t
 |.str x,u=>∃ t,u=Value.str x t
 |.byt b,u=>∃ t,u=Value.bytes b t
 |.flt b,u=>∃ t,u=Value.float b t
 |.ref a,u=>u=Value.ref a
 |.ty n,u=>u=Value.type n

abbrev AW:List V->List Value->Prop:=Paired Bw
theorem AW.length {xs:List V} {us:List Value} (r:AW xs us):xs.length=us.length:=Paired.length r
theorem AW.get:∀ {xs:List V} {us:List Value} {i:Nat} {x:V},AW xs us->xs[i]?=some x->∃ u,us[i]?=some u/\Bw x u
 |_,_,_,_,.nil,e=>by simp at e
 |_,_,0,_,.cons r _,e=>by simp at e;subst e;exact ⟨_,rfl,r⟩
 |_,_,i+1,x,.cons _ t,e=>by
  obtain ⟨u,h1,h2⟩:=AW.get (i:=i) (x:=x) t (by simpa using e)
  exact ⟨u,by simpa using h1,h2⟩
theorem AW.append:∀ {xs ys:List V} {us ws:List Value},AW xs us->AW ys ws->AW (xs++ys) (us++ws)
 |_,_,_,_,.nil,s=>s
 |_,_,_,_,.cons r t,s=>.cons r (AW.append t s)
theorem AW.take:∀ {xs:List V} {us:List Value} (n:Nat),AW xs us->AW (xs.take n) (us.take n)
 |_,_,0,_=>.nil
 |_,_,_+1,.nil=>.nil
 |_,_,n+1,.cons r t=>.cons r (AW.take n t)
theorem AW.drop:∀ {xs:List V} {us:List Value} (n:Nat),AW xs us->AW (xs.drop n) (us.drop n)
 |_,_,0,r=>r
 |_,_,_+1,.nil=>.nil
 |_,_,n+1,.cons _ t=>AW.drop n t
def Ga:Option V->Option Value->Prop
 |some v,some u=>Bw v u
 |none,none=>True
 |_,_=>False
def KV {κ:Type}:List (κ×V)->List (κ×Value)->Prop:=Paired λ(p:κ×V) (q:κ×Value)=>p.1=q.1/\Bw p.2 q.2

def kV:DX->V
 |.inl i=>.int i
 |.inr x=>.str x

inductive HO where
 |lst (xs:List V)
 |tup (xs:List V)
 |dK (kvs:List (DX×V)) | dT (kvs:List (List DX×V))
 |set (S:Int->Bool) (n:Nat)
 |ins (C dx:Addr) (fs:List (Str×V))
 |own (x:Addr)
 |xd (fs:List (Str×V))
 |met (f x:Addr)
 |rng (lo hi:Int)
 |frz (o:Obj) (u:HO)
 |tbl (ps:Array Value)
 |ext (φ:Heap->Prop)

abbrev Hp:=Addr->Option HO
def upd (H:Hp) (a:Addr) (o:HO):Hp:=λb=>if b=a then some o else H b
theorem Ac {H:Hp} {a:Addr} {o:HO}:upd H a o a=some o:=by unfold upd;rw [if_pos rfl]
theorem Aq {H:Hp} {a b:Addr} {o:HO} (h:b≠a):upd H a o b=H b:=by unfold upd;rw [if_neg h]
theorem Gg {H:Hp} {a b:Addr} {o u:HO} (h:H a=some o) (h':H b=some u) (d:o≠u):a≠b:=by
 intro e;subst e;rw [h] at h';exact d (Z2.inj h')
theorem AG {H:Hp} {a b:Addr} {o:HO} (h:H a=some o) (h':H b=none):a≠b:=by
 intro e;subst e;rw [h] at h';cases h'

section
variable (P:Program) (w:World)
def Cm (H:Hp) (h:Heap) (a:Addr):HO->Prop
 |.lst xs=>xs.length<=sizeLine/\∃ (its:List Value) (n:Nat),AW xs its/\h.get? a=some { cls:=.type "list",data:=.seq its.toArray n }
 |.tup xs=>xs.length<=sizeLine/\∃ its:List Value,AW xs its/\IsTup h a its.toArray
 |.dK kvs=>kvs.length<=sizeLine/\(a == sysModules)=false/\∃ vs,KV kvs vs/\h.DictOf (Eg P w) a vs
 |.dT kvs=>kvs.length<=sizeLine/\(a == sysModules)=false/\∃ xs:List (List DX×Addr×Value),
   Paired (λ(p:List DX×V) (q:List DX×Addr×Value)=>p.1=q.1/\H q.2.1=some (.tup (p.1.map kV))/\Bw p.2 q.2.2) kvs xs /\
   ∃ o es ep,h.get? a=some o/\o.ExactDict/\o.data=.dict es ep/\es.toList=xs.map (entryOfKey (tupleKind (Eg P w)))/\(xs.map (·.1)).Nodup
 |.set S n=>h.SetOf (intKind P w) a S n
 |.ins C dx fs=>H dx=some (.own a)/\fs.length<=1000/\dx≠a/\h.get? a=some (V4 C dx) /\
   ∃ mA,h.Ns1 dx mA/\(∀ f,Ga (fs.lookup f) (mA f))/\PySem.Within mA (fs.map (·.1))
 |.own _=>∃ o,h.get? a=some o
 |.xd fs=>∃ mA,h.Ns1 a mA/\∀ f,Ga (fs.lookup f) (mA f)
 |.rng lo hi=>∃ t u v,h.get? a=some { cls:=.type "range",data:=.fields #[.int lo t,.int hi u,.int 1 v] }
 |.frz o u=>h.get? a=some o/\Cm H h a u
 |.tbl ps=>h.get? a=some { cls:=.none,data:=.fields ps }
 |.met f x=>h.get? a=some (D7 (.ref f) (.ref x))
 |.ext φ=>φ h/\(∃ o,h.get? a=some o)/\∀ h1 h2:Heap,φ h1->(∀ o,h1.get? a=some o->h2.get? a=some o)->φ h2
def IA (H:Hp) (h:Heap):Prop:=∀ a o,H a=some o->Cm P w H h a o
end

section
variable {P:Program} {w:World} {H H':Hp} {h h':Heap} {a:Addr} {o:HO}
theorem Cm.lt (x:Cm P w H h a o):a<h.objs.size:=by
 cases o with
 |lst xs=>obtain ⟨_,_,_,_,e⟩:=x;exact Heap.lt_size e
 |tup xs=>obtain ⟨_,_,_,p⟩:=x;exact p.lt
 |dK kvs=>obtain ⟨_,_,_,_,o,_,_,e,_⟩:=x;exact Heap.lt_size e
 |dT kvs=>obtain ⟨_,_,_,_,o,_,_,e,_⟩:=x;exact Heap.lt_size e
 |set S n=>obtain ⟨o,_,_,_,e,_⟩:=x;exact Heap.lt_size e
 |ins C dx fs=>obtain ⟨_,_,_,e,_⟩:=x;exact Heap.lt_size e
 |own y=>obtain ⟨_,e⟩:=x;exact Heap.lt_size e
 |xd fs=>obtain ⟨_,⟨_,_,_,e,_⟩,_⟩:=x;exact Heap.lt_size e
 |rng lo hi=>obtain ⟨_,_,_,e⟩:=x;exact Heap.lt_size e
 |frz ob u=>obtain ⟨e,_⟩:=x;exact Heap.lt_size e
 |tbl ps=>exact Heap.lt_size (show h.get? a=some _ from x)
 |met f y=>exact Heap.lt_size (show h.get? a=some _ from x)
 |ext φ=>obtain ⟨_,⟨_,e⟩,_⟩:=x;exact Heap.lt_size e
theorem Paired.mapP {α β:Type} {F G:α->β->Prop}:∀ {l₁:List α} {l₂:List β},Paired F l₁ l₂->(∀ a b,F a b->G a b)->Paired G l₁ l₂
 |_,_,.nil,_=>.nil
 |_,_,.cons r t,f=>.cons (f _ _ r) (Paired.mapP t f)
theorem Cm.stay (x:Cm P w H h a o) (k:∀ b u,(b=a\/H b=some (.own a))->h.get? b=some u->h'.get? b=some u)
  (ho:∀ b,H b=some (.own a)->H' b=some (.own a)) (ht:∀ b xs,H b=some (.tup xs)->H' b=some (.tup xs)):Cm P w H' h' a o:=by
 induction o with
 |lst xs=>obtain ⟨z,its,n,r,e⟩:=x;exact ⟨z,its,n,r,k _ _ (.inl rfl) e⟩
 |tup xs=>obtain ⟨z,its,r,ob,e,c⟩:=x;exact ⟨z,its,r,ob,k _ _ (.inl rfl) e,c⟩
 |dK kvs=>obtain ⟨z,y,vs,r,ob,es,ep,e,c⟩:=x;exact ⟨z,y,vs,r,ob,es,ep,k _ _ (.inl rfl) e,c⟩
 |dT kvs =>
  obtain ⟨z,y,xs,r,ob,es,ep,e,c⟩:=x
  exact ⟨z,y,xs,Paired.mapP r λp q z=>⟨z.1,ht _ _ z.2.1,z.2.2⟩,ob,es,ep,k _ _ (.inl rfl) e,c⟩
 |set S n=>obtain ⟨ob,es,ep,t,e,c⟩:=x;exact ⟨ob,es,ep,t,k _ _ (.inl rfl) e,c⟩
 |ins C dx fs =>
  obtain ⟨d,z,ne,e,mA,⟨od,es,ep,e2,c⟩,r⟩:=x
  exact ⟨ho _ d,z,ne,k _ _ (.inl rfl) e,mA,⟨od,es,ep,k _ _ (.inr d) e2,c⟩,r⟩
 |own y=>obtain ⟨ob,e⟩:=x;exact ⟨ob,k _ _ (.inl rfl) e⟩
 |xd fs=>obtain ⟨mA,⟨od,es,ep,e,c⟩,r⟩:=x;exact ⟨mA,⟨od,es,ep,k _ _ (.inl rfl) e,c⟩,r⟩
 |rng lo hi=>obtain ⟨t,u,v,e⟩:=x;exact ⟨t,u,v,k _ _ (.inl rfl) e⟩
 |frz ob u ih=>obtain ⟨e,q⟩:=x;exact ⟨k _ _ (.inl rfl) e,ih q⟩
 |tbl ps =>
  have e:h.get? a=some { cls:=.none,data:=.fields ps }:=x
  show h'.get? a=some { cls:=.none,data:=.fields ps }
  exact k a _ (.inl rfl) e
 |met f y =>
  have e:h.get? a=some (D7 (.ref f) (.ref y)):=x
  show h'.get? a=some (D7 (.ref f) (.ref y))
  exact k a _ (.inl rfl) e
 |ext φ=>obtain ⟨p,⟨o,e⟩,st⟩:=x;exact ⟨st _ _ p λo q=>k _ _ (.inl rfl) q,⟨o,k _ _ (.inl rfl) e⟩,st⟩
theorem IA.lt (x:IA P w H h) (e:H a=some o):a<h.objs.size:=(x a o e).lt
theorem IA.fresh (x:IA P w H h) (e:h.objs.size<=a):H a=none:=by
 cases q:H a with
 |none=>rfl
 |some u=>exact absurd (V1 (x.lt q) e) (L5 _)
theorem IA.kept (x:IA P w H h) (k:∀ b u,h.get? b=some u->h'.get? b=some u):IA P w H h':=λa o e =>
 (x a o e).stay (λb u _ q=>k b u q) (λ_ q=>q) λ_ _ q=>q
theorem IA.laid (x:IA P w H h) (k:∀ b u,h.get? b=some u->h'.get? b=some u) (hp:h.objs.size<=a) (new:Cm P w (upd H a o) h' a o):IA P w (upd H a o) h':=λb u e=>by
 have hn:=x.fresh hp
 by_cases hb:b=a
 ·subst hb;rw [Ac] at e;cases e;exact new
 ·rw [Aq hb] at e
  exact (x b u e).stay (λc v _ q=>k c v q) (λc q=>by rw [Aq (AG q hn)];exact q) λc xs q=>by rw [Aq (AG q hn)];exact q
end

def Rd (H:Hp) (a:Addr) (u:HO):Prop:=H a=some u\/∃ o,H a=some (.frz o u)
theorem Rd.ok {P:Program} {w:World} {H:Hp} {h:Heap} {a:Addr} {u:HO} (r:Rd H a u) (x:IA P w H h):Cm P w H h a u:=by
 rcases r with r | ⟨o,r⟩
 ·exact x a u r
 ·obtain ⟨_,q⟩:=x a _ r
  exact q
def Mut:Option HO->Prop
 |some (.lst _)=>True
 |some (.dK _)=>True
 |some (.dT _)=>True
 |some (.set _ _)=>True
 |some (.ins _ _ _)=>True
 |some (.ext _)=>True
 |_=>False
section
variable {P:Program} {w:World} {H:Hp} {h h':Heap} {x e:Addr} {o':HO}
theorem IA.write (ok:IA P w H h) (mu:Mut (H x)) (he:e=x\/H e=some (.own x)) (k:∀ b u,b≠e->h.get? b=some u->h'.get? b=some u) (heo:∃ u,h'.get? e=some u)
  (new:Cm P w (upd H x o') h' x o'):IA P w (upd H x o') h':=λb u q=>by
 have nown:∀ c y,H c=some (.own y)->c≠x:=λc y r z=>by subst z;rw [r] at mu;exact mu
 have ntup:∀ c xs,H c=some (.tup xs)->c≠x:=λc xs r z=>by subst z;rw [r] at mu;exact mu
 by_cases hb:b=x
 ·subst hb;rw [Ac] at q;cases q;exact new
 ·rw [Aq hb] at q
  by_cases hbe:b=e
  ·have q':H b=some (.own x):=by
    rcases he with z | z
    ·exact absurd (hbe.trans z) hb
    ·rw [hbe];exact z
   rw [q] at q';cases q'
   obtain ⟨v,hv⟩:=heo
   exact ⟨v,by rw [hbe];exact hv⟩
  ·refine (ok b u q).stay (λc v hc r=>k c v ?_ r) (λc r=>by rw [Aq (nown c b r)];exact r) λc xs r=>by rw [Aq (ntup c xs r)];exact r
   rcases hc with rfl | hc
   ·exact hbe
   ·rintro rfl
    rcases he with z | z
    ·exact nown c b hc z
    ·rw [hc] at z;cases z;exact hb rfl
end

structure Un (fs ex:List Addr) (H H':Hp) (h h':Heap):Prop where
 keep:∀ b o,h.get? b=some o->H b=none->b∉fs->b∉ex->h'.get? b=some o
 slot:∀ b o,h.get? b=some o->H b=none->b∈fs->b∉ex->∃ sl,h'.get? b=some { o with slots:=sl }
 free:∀ b o,h.get? b=some o->H b=none->b∉ex->H' b=none
 there:∀ b o,h.get? b=some o->b∉ex->∃ o',h'.get? b=some o'
 tups:∀ b xs,H b=some (.tup xs)->H' b=some (.tup xs)
 frzs:∀ b o u,H b=some (.frz o u)->H' b=some (.frz o u)
 tbls:∀ b ps,H b=some (.tbl ps)->∃ more,H' b=some (.tbl (ps++more))
section
variable {fs fs' ex ex':List Addr} {H H1 H2:Hp} {h h1 h2 h':Heap} {a x e:Addr} {o:HO}
theorem Un.any (u:Un fs ex H H1 h h1) {b:Addr} {ob:Obj} (q:h.get? b=some ob) (n:H b=none) (hx:b∉ex):∃ sl,h1.get? b=some { ob with slots:=sl }:=by
 by_cases hb:b∈fs
 ·exact u.slot b ob q n hb hx
 ·exact ⟨ob.slots,u.keep b ob q n hb hx⟩
theorem Un.kept (k:∀ b u,h.get? b=some u->h'.get? b=some u):Un fs ex H H h h' :=
 ⟨λb ob q _ _ _=>k b ob q,λb ob q _ _ _=>⟨ob.slots,k b ob q⟩,λ_ _ _ n _=>n,λb ob q _=>⟨ob,k b ob q⟩,λ_ _ q=>q,λ_ _ _ q=>q,λ_ ps q=>⟨#[],by rw [q];simp⟩⟩
theorem Un.refl:Un fs ex H H h h:=Un.kept λ_ _ q=>q
theorem Un.laid (k:∀ b u,h.get? b=some u->h'.get? b=some u) (hp:h.objs.size<=a) (hn:H a=none):Un fs ex H (upd H a o) h h' where
 keep:=λb u q _ _ _=>k b u q
 slot:=λb u q _ _ _=>⟨u.slots,k b u q⟩
 free:=λb u q n _=>by rw [Aq (P1 (V1 (Heap.lt_size q) hp))];exact n
 there:=λb u q _=>⟨u,k b u q⟩
 tups:=λb xs q=>by rw [Aq (AG q hn)];exact q
 frzs:=λb u xs q=>by rw [Aq (AG q hn)];exact q
 tbls:=λb ps q=>⟨#[],by rw [Aq (AG q hn),q];simp⟩
theorem Un.write (mu:Mut (H x)) (he:e=x\/H e=some (.own x)) (k:∀ b u,b≠e->h.get? b=some u->h'.get? b=some u) (heo:∃ u,h'.get? e=some u):Un fs ex H (upd H x o) h h':=by
 have hx:∀ b,H b=none->b≠x:=λb n z=>by subst z;rw [n] at mu;exact mu
 have hb:∀ b,H b=none->b≠e:=λb n z=>by
  subst z
  rcases he with r | r
  ·exact hx b n r
  ·rw [n] at r;cases r
 have hm:∀ b u,H b=some u->¬ Mut (some u)->b≠x:=λb u q nm z=>by subst z;rw [q] at mu;exact nm mu
 refine ⟨λb u q n _ _=>k b u (hb b n) q,λb u q n _ _=>⟨u.slots,k b u (hb b n) q⟩,λb u q n _=>by rw [Aq (hx b n)];exact n,λb u q _=>?_,
  λb xs q=>by rw [Aq (hm b _ q λz=>z)];exact q,λb u xs q=>by rw [Aq (hm b _ q λz=>z)];exact q,λb ps q=>⟨#[],by rw [Aq (hm b _ q λz=>z),q];simp⟩⟩
 by_cases hbe:b=e
 ·subst hbe;exact heo
 ·exact ⟨u,k b u hbe q⟩
end

def trk (h:Heap) (H:Hp):List Addr:=(Q2 h.objs.size).filter λa=>(H a).isSome
def Lw (h:Heap) (H:Hp):Heap:=PySem.W.hideAll h (trk h H)
theorem Qp (h:Heap) (H:Hp):(Lw h H).objs.size=h.objs.size:=PySem.W.hideAll_size _ _
theorem Sq {h:Heap} {H:Hp} {b:Addr} {o:Obj} (e:h.get? b=some o) (n:H b=none):(Lw h H).get? b=some o :=
 PySem.W.hideAll_get _ e λhm=>by
  have q:(H b).isSome=true:=(W4.mp hm).2
  rw [n] at q;simp at q
theorem of_hidT {h:Heap} {H:Hp} {b:Addr} {o:Obj} (e:(Lw h H).get? b=some o):h.get? b=some o/\H b=none:=by
 have e':h.get? b=some o:=PySem.W.of_hideAll (trk h H) e
 refine ⟨e',?_⟩
 cases q:H b with
 |none=>rfl
 |some x =>
  have hm:b∈trk h H:=W4.mpr ⟨c7.mpr (Heap.lt_size e'),by simp [q]⟩
  have z:(Lw h H).get? b=none:=PySem.W.hideAll_none (trk h H) hm
  rw [z] at e;cases e

def allNews (g h:Heap) (L:Addr):List (Addr×Obj):=(Q2 h.objs.size).filterMap λa=>if a=L\/(g.get? a).isSome=true then none else (h.get? a).map λo=>(a,o)
def Em (g h:Heap) (L d:Addr):List (Addr×Obj):=(allNews g h L).filter λp=>decide (p.1≠d)
end L2

namespace L2
open PySem PySem.Spec PyProof.Rows

structure Mod (K:K0) (mg:Str->Option Value) (base:Heap):Prop where
 kin:K.In base
 glob:base.Ns mainGlobals mg
 blt:∃ mb,base.Ns builtinsNs mb/\∀ x:Str,x≠"__name__"->mb x=bootBuiltins x
 nolimit:base.NoLimit

set_option genInjectivity false in
structure Cx where
 prog:Program
 w:World
 K:K0
 mg:Str->Option Value
 base:Heap
 A:Around
 N:List Str
 s₀:Shared
 H₀:Hp
 env:Env
 outer:List Env
 stack:List Env
 ex:List Addr
 fn:Str->Bool
 calm:Bool
 pn:List (Addr×Obj)
 xe:Value->Shared->Prop
def Sy (l:List Env):List Addr:=l.filterMap (·.frame)
abbrev Cx.fs (X:Cx):List Addr:=Sy X.outer

def Vis (sc:Scope) (x:Str):Prop:=sc.names.lookup x=some .local\/sc.names.lookup x=some .cell\/sc.names.lookup x=some .free
def Loc (sc:Scope) (x:Str):Prop:=sc.names.lookup x=some .local\/sc.names.lookup x=some .cell
def Look (env:Env) (h:Heap) (m:Str->Option Value) (x:Str) (u:Value):Prop :=
 (env.kindOf x=some .local/\m x=some u)\/((env.kindOf x=some .cell\/env.kindOf x=some .free)/\∃ c,env.cells.lookup x=some c/\h.IsCell c (some u))

structure Cx.Ok (X:Cx):Prop where
 mod:Mod X.K X.mg X.base
 kind:X.env.scope.kind=.function
 glob:X.env.globals=mainGlobals
 blt:X.env.builtins=builtinsNs
 above:X.s₀.heap.objs.size<=X.env.locals
 inj:∀ x y c,X.env.cells.lookup x=some c->X.env.cells.lookup y=some c->x=y
 has:∀ x,(X.env.kindOf x=some .cell\/X.env.kindOf x=some .free)->∃ c,X.env.cells.lookup x=some c
 cab:∀ x c,X.fn x=true->X.env.cells.lookup x=some c->X.s₀.heap.objs.size<=c
 hd:X.calm=true->X.A.handled=none
 frames:X.A.frames=some X.stack
 stk:X.stack=X.outer\/(X.stack=X.env::X.outer/\X.env.frame=some X.env.locals)
 exf:∀ b∈X.ex,b≠X.env.locals/\∀ x c,X.env.cells.lookup x=some c->c≠b
 bs:∀ b o,X.base.get? b=some o->X.s₀.heap.get? b=some o/\X.H₀ b=none
 bsz:X.base.objs.size<=X.s₀.heap.objs.size
 noex:∀ b o,X.base.get? b=some o->b∉X.ex
 exfs:∀ b∈X.ex,b∉X.fs
 funs:X.s₀.heap.FunFrames X.base X.outer
 frf:∀ b∈X.fs,X.H₀ b=none

structure AK (X:Cx) (pins:List (Addr×Obj)) (σ:List (Option V)) (H:Hp) (s:Shared):Prop where
 ok:X.Ok
 os:s.os=X.s₀.os
 bare:AllBare s.gens
 base:Un X.fs X.ex X.H₀ H X.s₀.heap s.heap
 loc:∃ m,s.heap.Ns X.env.locals m/\∀ (i:Nat) (x:Str) (v:V),X.N[i]?=some x->σ[i]?=some (some v)->Vis X.env.scope x->∃ u,Bw v u/\Look X.env s.heap m x u
 cell:∀ x c,X.env.cells.lookup x=some c->∃ v,s.heap.IsCell c v
 free:H X.env.locals=none
 freeC:∀ x c,X.env.cells.lookup x=some c->H c=none
 pin:∀ p∈X.pn++pins,s.heap.get? p.1=some p.2/\H p.1=none/\p.1≠X.env.locals/\p.1∉X.fs/\∀ v,p.2.data≠.cell v
 hok:IA X.prog X.w H s.heap
 len:σ.length=X.N.length

section
variable {X:Cx} {pins:List (Addr×Obj)} {σ:List (Option V)} {H H':Hp} {s:Shared} {h':Heap}

theorem Cx.Ok.nofr (ok:X.Ok) {b:Addr} {o:Obj} (e:X.base.get? b=some o):b∉X.fs:=λhb=>by
 have:=(ok.funs.mem hb).1
 rw [e] at this;cases this
theorem AK.bs (I:AK X pins σ H s):∀ b o,X.base.get? b=some o->s.heap.get? b=some o/\H b=none:=λb o e =>
 ⟨I.base.keep b o (I.ok.bs b o e).1 (I.ok.bs b o e).2 (I.ok.nofr e) (I.ok.noex b o e),I.base.free b o (I.ok.bs b o e).1 (I.ok.bs b o e).2 (I.ok.noex b o e)⟩
theorem AK.bk (I:AK X pins σ H s):∀ b o,X.base.get? b=some o->s.heap.get? b=some o:=λb o e=>(I.bs b o e).1
theorem AK.mod (I:AK X pins σ H s):Mod X.K X.mg X.base:=I.ok.mod
theorem AK.kIn (I:AK X pins σ H s):X.K.In s.heap:=I.ok.mod.kin.keeps I.bk
theorem AK.lt (I:AK X pins σ H s):X.env.locals<s.heap.objs.size:=let ⟨_,hn,_⟩:=I.loc;hn.lt
theorem AK.sz (I:AK X pins σ H s):X.s₀.heap.objs.size<=s.heap.objs.size:=Q0 I.ok.above (F7 I.lt)
theorem AK.nofs (I:AK X pins σ H s) {a:Addr} (h:s.heap.objs.size<=a):a∉X.fs:=λhb=>by
 obtain ⟨_,o,ho,_⟩:=I.ok.funs.mem hb
 exact absurd (V1 (Heap.lt_size ho) (Q0 I.sz h)) (L5 _)
theorem AK.cne (I:AK X pins σ H s):∀ x c,X.env.cells.lookup x=some c->c≠X.env.locals:=λx c e z=>by
 obtain ⟨v,o,ho,hd⟩:=I.cell x c e
 obtain ⟨m,⟨o',es,ep,ho',hd',_⟩,_⟩:=I.loc
 rw [z,ho'] at ho;cases ho;rw [hd'] at hd;cases hd
theorem AK.funs (I:AK X pins σ H s):s.heap.FunFrames X.base X.outer:=by
 have all:∀ (l:List Env),(∀ b∈Sy l,b∈X.fs)->X.s₀.heap.FunFrames X.base l->s.heap.FunFrames X.base l:=by
  intro l
  induction l with
  |nil=>intro _ _;trivial
  |cons env r ih =>
   intro hs hl
   obtain ⟨hk,⟨L,o,hf,hn,ho,hd⟩,hr⟩:=hl
   have hL:L∈X.fs:=hs L (by unfold Sy;rw [M3,hf];exact C0)
   obtain ⟨sl,e⟩:=I.base.slot L o ho (I.ok.frf L hL) hL λz=>I.ok.exfs L z hL
   exact ⟨hk,⟨L,_,hf,hn,e,hd⟩,ih (λb hb=>hs b (by unfold Sy;rw [M3,hf];exact A0 _ hb)) hr⟩
 exact all X.outer (λ_ hb=>hb) I.ok.funs

theorem AK.stack (I:AK X pins σ H s):s.heap.FunFrames X.base X.stack:=by
 rcases I.ok.stk with e | ⟨e,hf⟩
 ·rw [e];exact I.funs
 ·rw [e]
  obtain ⟨m,hn,_⟩:=I.loc
  refine .cons (by rw [I.ok.kind];decide) hf hn ?_ I.funs
  exact Heap.get?_none_of_le (Q0 I.ok.bsz I.ok.above)
theorem AK.stkSub (I:AK X pins σ H s):∀ b∈Sy X.stack,b∈X.env.locals::X.fs:=λb hb=>by
 rcases I.ok.stk with e | ⟨e,hf⟩
 ·rw [e] at hb;exact A0 _ hb
 ·rw [e] at hb
  unfold Sy at hb
  rw [M3,hf] at hb
  exact hb
theorem AK.stkFree (I:AK X pins σ H s):∀ b∈Sy X.stack,H b=none:=λb hb=>by
 rcases L0.mp (I.stkSub b hb) with e | hb
 ·rw [e];exact I.free
 ·obtain ⟨_,o,ho,_⟩:=I.ok.funs.mem hb
  exact I.base.free b o ho (I.ok.frf b hb) λz=>I.ok.exfs b z hb

theorem AK.step {g':Array GenState} {t':Nat} {d':Drawn} {ch:List Addr} (I:AK X pins σ H s)
  (hch:∀ b∈ch,(b∈X.ex\/X.s₀.heap.objs.size<=b)/\b≠X.env.locals/\(∀ x c,X.env.cells.lookup x=some c->c≠b)/\∀ p∈X.pn++pins,p.1≠b)
  (keep:∀ b o,b≠X.env.locals->b∉X.fs->b∉ch->s.heap.get? b=some o->H b=none->h'.get? b=some o)
  (slot:∀ b o,b≠X.env.locals->b∈X.fs->b∉ch->s.heap.get? b=some o->H b=none->∃ sl,h'.get? b=some { o with slots:=sl }) (free:∀ b o,b∉ch->s.heap.get? b=some o->H b=none->H' b=none)
  (there:∀ b o,b∉ch->s.heap.get? b=some o->∃ o',h'.get? b=some o')
  (tups:∀ b xs,H b=some (.tup xs)->H' b=some (.tup xs)) (frzs:∀ b o u,H b=some (.frz o u)->H' b=some (.frz o u)) (tbls:∀ b ps,H b=some (.tbl ps)->∃ more,H' b=some (.tbl (ps++more)))
  (ns:∀ m,s.heap.Ns X.env.locals m->h'.Ns X.env.locals m) (hok:IA X.prog X.w H' h') (hg:AllBare g') :
  AK X pins σ H' { s with heap:=h',gens:=g',drawn:=d',toks:=t' }:=by
 have neL:∀ b o,X.s₀.heap.get? b=some o->b≠X.env.locals:=λb o e=>P1 (V1 (Heap.lt_size e) I.ok.above)
 have neC:∀ b o,X.s₀.heap.get? b=some o->b∉X.ex->b∉ch:=λb o e hx hb=>by
  rcases (hch b hb).1 with z | z
  ·exact hx z
  ·exact absurd (V1 (Heap.lt_size e) z) (L5 _)
 have cellK:∀ x c,X.env.cells.lookup x=some c->∀ v,s.heap.IsCell c v->h'.IsCell c v:=λx c e v ⟨o,ho,hd⟩=>by
  have nch:c∉ch:=λz=>(hch c z).2.2.1 x c e rfl
  by_cases hc:c∈X.fs
  ·obtain ⟨sl,q⟩:=slot c o (I.cne x c e) hc nch ho (I.freeC x c e)
   exact ⟨_,q,hd⟩
  ·exact ⟨o,keep c o (I.cne x c e) hc nch ho (I.freeC x c e),hd⟩
 refine ⟨I.ok,I.os,hg,⟨λb o e n hb hx=>?_,λb o e n hb hx=>?_,λb o e n hx=>?_,λb o e hx=>?_,λb xs e=>tups b xs (I.base.tups b xs e),λb o xs e=>frzs b o xs (I.base.frzs b o xs e),λb ps e=>?_⟩,?_,λx c e=>?_,?_,λx c e=>?_,λp hp=>?_,hok,I.len⟩
 ·exact keep b o (neL b o e) hb (neC b o e hx) (I.base.keep b o e n hb hx) (I.base.free b o e n hx)
 ·obtain ⟨sl,e1⟩:=I.base.slot b o e n hb hx
  obtain ⟨sl',e2⟩:=slot b _ (neL b o e) hb (neC b o e hx) e1 (I.base.free b o e n hx)
  exact ⟨sl',e2⟩
 ·obtain ⟨o',e1⟩:=I.base.there b o e hx
  exact free b o' (neC b o e hx) e1 (I.base.free b o e n hx)
 ·obtain ⟨o',e1⟩:=I.base.there b o e hx
  exact there b o' (neC b o e hx) e1
 ·obtain ⟨m1,e1⟩:=I.base.tbls b ps e
  obtain ⟨m2,e2⟩:=tbls b _ e1
  exact ⟨m1++m2,by rw [e2,Array.append_assoc]⟩
 ·obtain ⟨m,hn,hl⟩:=I.loc
  refine ⟨m,ns m hn,λi x v e1 e2 e3=>?_⟩
  obtain ⟨u,r,l⟩:=hl i x v e1 e2 e3
  refine ⟨u,r,?_⟩
  rcases l with l | ⟨k,c,e,z⟩
  ·exact .inl l
  ·exact .inr ⟨k,c,e,cellK x c e _ z⟩
 ·obtain ⟨v,z⟩:=I.cell x c e
  exact ⟨v,cellK x c e v z⟩
 ·obtain ⟨m,⟨o,_,_,ho,_⟩,_⟩:=I.loc
  exact free _ o (λz=>(hch _ z).2.1 rfl) ho I.free
 ·obtain ⟨v,o,ho,hd⟩:=I.cell x c e
  exact free c o (λz=>(hch c z).2.2.1 x c e rfl) ho (I.freeC x c e)
 ·obtain ⟨e,n,ne,nf,d⟩:=I.pin p hp
  have nch:p.1∉ch:=λz=>(hch p.1 z).2.2.2 p hp rfl
  exact ⟨keep p.1 p.2 ne nf nch e n,free p.1 p.2 nch e n,ne,nf,d⟩
theorem AK.un {t':Nat} (I:AK X pins σ H s) (u:Un X.fs [] H H' s.heap h') (hok:IA X.prog X.w H' h'):AK X pins σ H' { s with heap:=h',toks:=t' }:=by
 obtain ⟨m,⟨o,es,ep,ho,r⟩,_⟩:=id I.loc
 obtain ⟨sl,hL⟩:=u.any ho I.free (by simp)
 exact I.step (g':=s.gens) (d':=s.drawn) (ch:=[]) (λ_ z=>nomatch z) (λb o _ hb _ e n=>u.keep b o e n hb (by simp)) (λb o _ hb _ e n=>u.slot b o e n hb (by simp)) (λb o _ e n=>u.free b o e n (by simp)) (λb o _ e=>u.there b o e (by simp)) u.tups u.frzs u.tbls (λm' hm=>by
  obtain ⟨o',es',ep',ho',r'⟩:=hm
  rw [ho] at ho';cases ho'
  exact ⟨_,es',ep',hL,r'⟩) hok I.bare
theorem AK.call {g':Array GenState} {t':Nat} {d':Drawn} {ch:List Addr} (I:AK X pins σ H s) (u:Un (Sy X.stack) ch H H' s.heap h') (hok:IA X.prog X.w H' h') (hg:AllBare g')
  (hch:∀ b∈ch,(b∈X.ex\/X.s₀.heap.objs.size<=b)/\b≠X.env.locals/\(∀ x c,X.env.cells.lookup x=some c->c≠b)/\∀ p∈X.pn++pins,p.1≠b) :
  AK X pins σ H' { s with heap:=h',gens:=g',drawn:=d',toks:=t' }:=by
 obtain ⟨m,⟨o,es,ep,ho,r⟩,_⟩:=id I.loc
 obtain ⟨sl,hL⟩:=u.any ho I.free λz=>(hch _ z).2.1 rfl
 exact I.step (ch:=ch) hch (λb o hL hb hc e n=>u.keep b o e n (λz=>(L0.mp (I.stkSub b z)).elim hL hb) hc) (λb o _ _ hc e n=>u.any e n hc) (λb o hc e n=>u.free b o e n hc) (λb o hc e=>u.there b o e hc) u.tups u.frzs u.tbls (λm' hm=>by
  obtain ⟨o',es',ep',ho',r'⟩:=hm
  rw [ho] at ho';cases ho'
  exact ⟨_,es',ep',hL,r'⟩) hok hg
theorem AK.turned {t':Nat} {it:Addr} (I:AK X pins σ H s) (k:∀ b o,b≠it->s.heap.get? b=some o->h'.get? b=some o) (hn:H it=none) (hL:it≠X.env.locals)
  (h1:it∈X.ex\/X.s₀.heap.objs.size<=it) (h2:∀ x c,X.env.cells.lookup x=some c->c≠it) (h3:∀ p∈X.pn++pins,p.1≠it):AK X pins σ H { s with heap:=h',toks:=t' }:=by
 have nit:∀ b u,H b=some u->b≠it:=λb u e z=>by rw [z,hn] at e;cases e
 refine I.step (g':=s.gens) (d':=s.drawn) (ch:=[it]) (λb hb=>?_) (λb o _ _ hc e _=>k b o (λz=>hc (by simp [z])) e) (λb o _ _ hc e _=>⟨o.slots,k b o (λz=>hc (by simp [z])) e⟩) (λ_ _ _ _ n=>n)
  (λb o hc e=>⟨o,k b o (λz=>hc (by simp [z])) e⟩) (λ_ _ e=>e) (λ_ _ _ e=>e) (λb ps e=>⟨#[],by rw [e];simp⟩) (λm hm=>?_) (λb u e=>?_) I.bare
 ·have e:b=it:=by simpa using hb
  subst e
  exact ⟨h1,hL,h2,h3⟩
 ·obtain ⟨o,es,ep,ho,r⟩:=hm
  exact ⟨o,es,ep,k _ o (Ne.symm hL) ho,r⟩
 ·refine (I.hok b u e).stay (λc v hc q=>k c v ?_ q) (λ_ q=>q) λ_ _ q=>q
  rcases hc with z | z
  ·rw [z];exact nit b u e
  ·exact nit c _ z
theorem AK.tok (I:AK X pins σ H s) (t:Nat):AK X pins σ H { s with toks:=t }:=I.un (h':=s.heap) (t':=t) Un.refl I.hok
theorem AK.kept {t':Nat} (I:AK X pins σ H s) (k:∀ b u,s.heap.get? b=some u->h'.get? b=some u):AK X pins σ H { s with heap:=h',toks:=t' }:=I.un (Un.kept k) (I.hok.kept k)
theorem AK.laid {a:Addr} {o:HO} {t':Nat} (I:AK X pins σ H s) (k:∀ b u,s.heap.get? b=some u->h'.get? b=some u) (hp:s.heap.objs.size<=a) (new:Cm X.prog X.w (upd H a o) h' a o) :
  AK X pins σ (upd H a o) { s with heap:=h',toks:=t' }:=I.un (Un.laid k hp (I.hok.fresh hp)) (I.hok.laid k hp new)
theorem AK.write {x e:Addr} {o:HO} {t':Nat} (I:AK X pins σ H s) (mu:Mut (H x)) (he:e=x\/H e=some (.own x)) (k:∀ b u,b≠e->s.heap.get? b=some u->h'.get? b=some u) (heo:∃ u,h'.get? e=some u)
  (new:Cm X.prog X.w (upd H x o) h' x o):AK X pins σ (upd H x o) { s with heap:=h',toks:=t' }:=I.un (Un.write mu he k heo) (I.hok.write mu he k heo new)
theorem AK.weak {σ':List (Option V)} (I:AK X pins σ H s) (hl:σ'.length=σ.length) (w:∀ (i:Nat) v,σ'[i]?=some (some v)->σ[i]?=some (some v)):AK X pins σ' H s :=
 ⟨I.ok,I.os,I.bare,I.base,let ⟨m,hn,hl'⟩:=I.loc;⟨m,hn,λi x v e1 e2 e3=>hl' i x v e1 (w i v e2) e3⟩,I.cell,I.free,I.freeC,I.pin,I.hok,hl.trans I.len⟩
theorem AK.pins_of {pins':List (Addr×Obj)} (I:AK X pins σ H s) (h:∀ p∈pins',s.heap.get? p.1=some p.2/\H p.1=none/\p.1≠X.env.locals/\p.1∉X.fs/\∀ v,p.2.data≠.cell v):AK X pins' σ H s :=
 ⟨I.ok,I.os,I.bare,I.base,I.loc,I.cell,I.free,I.freeC,λp hp=>(T0.mp hp).elim (λz=>I.pin p (T1 _ z)) (h p),I.hok,I.len⟩

theorem Mz {N:List Str} (hN:N.Nodup) {i j:Nat} {x:Str} (a:N[i]?=some x) (b:N[j]?=some x):i=j:=by
 obtain ⟨h1,e1⟩:=W0.mp a
 obtain ⟨h2,e2⟩:=W0.mp b
 exact (List.getElem_inj hN).mp (e1.trans e2.symm)

theorem PL {M:Model} {A:Around} {E:Value->Shared->Prop} {i:Nat} {x:Str} {v:V} {u:Value} {Q:Unit->Shared->Prop} (I:AK X pins σ H s) (hN:X.N.Nodup) (hi:X.N[i]?=some x) (hx:Loc X.env.scope x) (r:Bw v u)
  (h:∀ s',AK X pins (σ.set i (some v)) H s'->(∃ a,Heap.SameBut a s.heap s'.heap/\(a=X.env.locals\/X.env.cells.lookup x=some a))->Q () s') (hf:X.fn x=true\/X.env.scope.names.lookup x=some .local:=by first | exact .inl rfl | exact .inr rfl | assumption):wpAny M A (storeName X.env x u) Q E s:=by
 obtain ⟨m,hn,hl⟩:=id I.loc
 have hcls:(X.env.scope.kind == .class||(X.env.scope.kind == .module&&X.env.locals != X.env.globals))=false:=by rw [I.ok.kind];rfl
 have hiσ:i<σ.length:=by rw [I.len];exact (W0.mp hi).1
 have cne:=I.cne
 have tracked:∀ {a:Addr} {h':Heap},(∃ o,s.heap.get? a=some o/\H a=none)->Heap.SameBut a s.heap h'->IA X.prog X.w H h':=λ{a h'} ha hs b ob e=>by
  obtain ⟨_,_,hfree⟩:=ha
  refine (I.hok b ob e).stay (λc w' hc q=>(hs.2 c ?_).trans q) (λ_ q=>q) λ_ _ q=>q
  rintro rfl
  rcases hc with rfl | hc
  ·rw [hfree] at e;cases e
  ·rw [hfree] at hc;cases hc
 rcases hx with hk | hk
 ·refine wpAny_storeName_local hk hn (λh' hn' hs=>?_) hcls
  obtain ⟨oL,_,_,hoL,_⟩:=id hn
  refine h _ ⟨I.ok,I.os,I.bare,⟨λb o e n hb hx=>?_,λb o e n hb hx=>?_,I.base.free,λb o e hx=>?_,I.base.tups,I.base.frzs,I.base.tbls⟩,⟨_,hn',λj y v' e1 e2 e3=>?_⟩,λy c e=>?_,I.free,I.freeC,λp hp=>?_,tracked ⟨oL,hoL,I.free⟩ hs,by simpa using I.len⟩ ⟨_,hs,.inl rfl⟩
  ·exact (hs.2 b (P1 (V1 (Heap.lt_size e) I.ok.above))).trans (I.base.keep b o e n hb hx)
  ·obtain ⟨sl,e1⟩:=I.base.slot b o e n hb hx
   exact ⟨sl,(hs.2 b (P1 (V1 (Heap.lt_size e) I.ok.above))).trans e1⟩
  ·obtain ⟨o',e1⟩:=I.base.there b o e hx
   exact ⟨o',(hs.2 b (P1 (V1 (Heap.lt_size e) I.ok.above))).trans e1⟩
  ·by_cases hj:j=i
   ·subst hj
    rw [hi] at e1;cases e1
    rw [M8 hiσ] at e2
    cases e2
    exact ⟨u,r,.inl ⟨hk,by simp⟩⟩
   ·rw [g6 (Ne.symm hj)] at e2
    obtain ⟨u',r',q⟩:=hl j y v' e1 e2 e3
    refine ⟨u',r',?_⟩
    rcases q with ⟨k,e⟩ | ⟨k,c,e,z⟩
    ·refine .inl ⟨k,?_⟩
     have:y≠x:=λe=>hj (Mz hN e1 (e▸hi))
     simp [this,e]
    ·exact .inr ⟨k,c,e,z.sameBut hs (cne y c e)⟩
  ·obtain ⟨w',z⟩:=I.cell y c e
   exact ⟨w',z.sameBut hs (cne y c e)⟩
  ·obtain ⟨e,n,ne,nf,d⟩:=I.pin p hp
   exact ⟨(hs.2 p.1 ne).trans e,n,ne,nf,d⟩
 ·have hfn:X.fn x=true:=by
   rcases hf with z | z
   ·exact z
   ·rw [z] at hk;cases hk
  obtain ⟨c,hc⟩:=I.ok.has x (.inl hk)
  obtain ⟨w',z⟩:=I.cell x c hc
  refine wpAny_storeName_cell I.ok.kind hk hc z (λh' hc' hs=>?_)
  obtain ⟨oc,hoc,hocd⟩:=id z
  refine h { s with heap:=h' } ⟨I.ok,I.os,I.bare,⟨λb o e n hb hx=>?_,λb o e n hb hx=>?_,I.base.free,λb o e hx=>?_,I.base.tups,I.base.frzs,I.base.tbls⟩,⟨m,hn.sameBut hs (Ne.symm (cne x c hc)),λj y v' e1 e2 e3=>?_⟩,λy c' e=>?_,I.free,I.freeC,λp hp=>?_,tracked ⟨oc,hoc,I.freeC x c hc⟩ hs,by simpa using I.len⟩ ⟨c,hs,.inr hc⟩
  ·exact (hs.2 b (P1 (V1 (Heap.lt_size e) (I.ok.cab x c hfn hc)))).trans (I.base.keep b o e n hb hx)
  ·obtain ⟨sl,e1⟩:=I.base.slot b o e n hb hx
   exact ⟨sl,(hs.2 b (P1 (V1 (Heap.lt_size e) (I.ok.cab x c hfn hc)))).trans e1⟩
  ·obtain ⟨o',e1⟩:=I.base.there b o e hx
   exact ⟨o',(hs.2 b (P1 (V1 (Heap.lt_size e) (I.ok.cab x c hfn hc)))).trans e1⟩
  ·by_cases hj:j=i
   ·subst hj
    rw [hi] at e1;cases e1
    rw [M8 hiσ] at e2
    cases e2
    exact ⟨u,r,.inr ⟨.inl hk,c,hc,hc'⟩⟩
   ·rw [g6 (Ne.symm hj)] at e2
    obtain ⟨u',r',q⟩:=hl j y v' e1 e2 e3
    refine ⟨u',r',?_⟩
    rcases q with q | ⟨k,c',e,z'⟩
    ·exact .inl q
    ·refine .inr ⟨k,c',e,z'.sameBut hs ?_⟩
     rintro rfl
     exact hj (Mz hN e1 (I.ok.inj _ _ _ e hc▸hi))
  ·by_cases hcc:c'=c
   ·subst hcc;exact ⟨_,hc'⟩
   ·obtain ⟨w2,z2⟩:=I.cell y c' e
    exact ⟨w2,z2.sameBut hs hcc⟩
  ·obtain ⟨e,n,ne,nf,d⟩:=I.pin p hp
   refine ⟨(hs.2 p.1 ?_).trans e,n,ne,nf,d⟩
   intro q
   rw [q,hoc] at e
   have q':oc=p.2:=Z2.inj e
   exact d w' (by rw [<- q'];exact hocd)
theorem LS {M:Model} {A:Around} {E:Value->Shared->Prop} {i:Nat} {x:Str} {v:V} {u:Value} {Q:Unit->Shared->Prop} (I:AK X pins σ H s) (hN:X.N.Nodup) (hi:X.N[i]?=some x) (hx:Loc X.env.scope x) (r:Bw v u)
  (h:∀ s',AK X pins (σ.set i (some v)) H s'->Q () s') (hf:X.fn x=true\/X.env.scope.names.lookup x=some .local:=by first | exact .inl rfl | exact .inr rfl | assumption):wpAny M A (storeName X.env x u) Q E s :=
 PL I hN hi hx r (λs' I' _=>h s' I') hf
theorem AK.call' {s':Shared} {ch:List Addr} (I:AK X pins σ H s) (ho:s'.os=s.os) (u:Un (Sy X.stack) ch H H' s.heap s'.heap) (hok:IA X.prog X.w H' s'.heap) (hg:AllBare s'.gens)
  (hch:∀ b∈ch,(b∈X.ex\/X.s₀.heap.objs.size<=b)/\b≠X.env.locals/\(∀ x c,X.env.cells.lookup x=some c->c≠b)/\∀ p∈X.pn++pins,p.1≠b):AK X pins σ H' s':=by
 obtain ⟨h',g',d',t',o'⟩:=s'
 have e:o'=s.os:=ho
 subst e
 exact I.call (g':=g') (t':=t') (d':=d') u hok hg hch
end

abbrev XK:=Value->Option Addr->Hp->Prop
abbrev St:=List (Option V)
abbrev VK:=V->Hp->Prop
abbrev TE:=St->Hp->VK->Prop
abbrev TT:=St->Hp->(Bool->Hp->Prop)->Prop
abbrev TA:=St->Hp->(List V->Hp->Prop)->Prop
set_option genInjectivity false in
structure JC where
 nx:St->Hp->Prop
 rt:VK
 bk:St->Hp->Prop:=λ_ _=>False
 ct:St->Hp->Prop:=λ_ _=>False
abbrev TS:=JC->St->Hp->Prop

def EP (X:Cx) (pins:List (Addr×Obj)) (σ:St) (Q:VK) (u:Value) (s':Shared):Prop:=∃ v H',AK X pins σ H' s'/\Bw v u/\Q v H'
def TP (X:Cx) (pins:List (Addr×Obj)) (σ:St) (Q:Bool->Hp->Prop) (b:Bool) (s':Shared):Prop:=∃ H',AK X pins σ H' s'/\Q b H'
def AP (X:Cx) (pins:List (Addr×Obj)) (σ:St) (Q:List V->Hp->Prop) (us:List Value) (s':Shared):Prop:=∃ vs H',AK X pins σ H' s'/\AW vs us/\Q vs H'
def SP (X:Cx) (pins:List (Addr×Obj)) (D:JC) (f:Flow) (s':Shared):Prop :=
 match f with
 |.next=>∃ σ' H',AK X pins σ' H' s'/\D.nx σ' H'
 |.brk=>∃ σ' H',AK X pins σ' H' s'/\D.bk σ' H'
 |.cont=>∃ σ' H',AK X pins σ' H' s'/\D.ct σ' H'
 |.ret u=>∃ v σ' H',AK X pins σ' H' s'/\Bw v u/\D.rt v H'

def PE (X:Cx) (e:Expr) (t:TE):Prop :=
 ∀ (pins:List (Addr×Obj)) (s:Shared) (σ:St) (H:Hp) (Q:VK),AK X pins σ H s->t σ H Q->wpAny (model X.prog X.w) X.A (eval e X.env) (EP X pins σ Q) X.xe s
def PT (X:Cx) (e:Expr) (t:TT):Prop :=
 ∀ (pins:List (Addr×Obj)) (s:Shared) (σ:St) (H:Hp) (Q:Bool->Hp->Prop),AK X pins σ H s->t σ H Q->wpAny (model X.prog X.w) X.A (isTrue e X.env (eval e X.env)) (TP X pins σ Q) X.xe s
def PW (X:Cx) (e:Expr) (t:TT):Prop :=
 ∀ (whole:Sem Value) (pins:List (Addr×Obj)) (s:Shared) (σ:St) (H:Hp) (Q:Bool->Hp->Prop),AK X pins σ H s->t σ H Q->wpAny (model X.prog X.w) X.A (isTrue e X.env whole) (TP X pins σ Q) X.xe s
theorem PW.pt {X:Cx} {e:Expr} {t:TT} (h:PW X e t):PT X e t:=h _
def PA (X:Cx) (es:List Expr) (t:TA):Prop :=
 ∀ (pos:Pos) (pins:List (Addr×Obj)) (s:Shared) (σ:St) (H:Hp) (Q:List V->Hp->Prop),AK X pins σ H s->t σ H Q->wpAny (model X.prog X.w) X.A (spliced (backTo pos (starEach es X.env))) (AP X pins σ Q) X.xe s
def PS (X:Cx) (st:Stmt) (t:TS):Prop :=
 ∀ (pins:List (Addr×Obj)) (s:Shared) (σ:St) (H:Hp) (D:JC),AK X pins σ H s->t D σ H->wpAny (model X.prog X.w) X.A (exec st X.env) (SP X pins D) X.xe s
def LL (X:Cx) (st:List Stmt) (t:TS):Prop :=
 ∀ (pins:List (Addr×Obj)) (s:Shared) (σ:St) (H:Hp) (D:JC),AK X pins σ H s->t D σ H->wpAny (model X.prog X.w) X.A (execs st X.env) (SP X pins D) X.xe s
theorem BC {α:Type} {t:Sem α} {Q Q':α->Shared->Prop} {M:Model} {A:Around} {E:Value->Shared->Prop} {s:Shared} (h:wpAny M A t Q E s) (hQ:∀ a s,Q a s->Q' a s):wpAny M A t Q' E s:=wpAny_mono h hQ λ_ _ x=>x
end L2

namespace L2
open PySem PySem.Spec PyProof.Rows
section
variable {X:Cx}

def IB (i:Nat):TE:=λσ H Q=>∃ v,σ[i]?=some (some v)/\Q v H
def tC (v:V):TE:=λ_ H Q=>Q v H
theorem pe_var {i:Nat} {x:Str} {pos:Pos} (hN:X.N[i]?=some x) (hv:Vis X.env.scope x) (hd:(x == ("__debug__":Str))=false:=by decide) (hcd:(x == ("__classdict__":Str))=false:=by decide):PE X (.Name x pos) (IB i):=by
 intro pins s σ H Q I h
 obtain ⟨v,e,h⟩:=h
 obtain ⟨m,hn,hl⟩:=I.loc
 obtain ⟨u,r,l⟩:=hl i x v hN e hv
 have fin:EP X pins σ Q u s:=⟨v,H,I,r,h⟩
 rcases l with ⟨hk,hm⟩ | ⟨hk,c,hc,hcell⟩
 ·exact wpAny_Name (wpAny_loadName_local I.ok.kind hk hn hm fin) hd
 ·rcases hk with hk | hk
  ·exact wpAny_Name (wpAny_loadName_cell I.ok.kind hk hc hcell fin) hd
  ·exact wpAny_Name (wpAny_loadName_free I.ok.kind hk hc hcell fin hcd) hd
theorem Ad {i j pos}:PE X (.Constant (.int i) j pos) (tC (.int i)):=λ_ _ _ H _ I h=>wpAny_Constant_int ⟨.int i,H,I.tok _,⟨_,rfl⟩,h⟩
theorem Ff {b j pos}:PE X (.Constant (.bool b) j pos) (tC (.bl b)):=λ_ _ _ H _ I h=>Constant_bool ⟨.bl b,H,I,rfl,h⟩
theorem BL {j pos}:PE X (.Constant .none j pos) (tC .non):=λ_ _ _ H _ I h=>Constant_none ⟨.non,H,I,rfl,h⟩
theorem Ao {x j pos}:PE X (.Constant (.str x) j pos) (tC (.str x)):=λ_ _ _ H _ I h=>Calls.Constant_str ⟨.str x,H,I.tok _,⟨_,rfl⟩,h⟩

def Gl (X:Cx) (x:Str):Prop:=X.env.kindOf x=some .globalImplicit
theorem Iu {E:Value->Shared->Prop} {pins:List (Addr×Obj)} {s:Shared} {σ:St} {H:Hp} {x:Str} {u:Value} {pos:Pos} {Q:Value->Shared->Prop} (I:AK X pins σ H s) (hg:Gl X x) (hm:X.mg x=some u) (h:Q u s)
  (hd:(x == ("__debug__":Str))=false:=by decide):wpAny (model X.prog X.w) X.A (eval (.Name x pos) X.env) Q E s :=
 Calls.Name_function_global I.ok.kind hg (Calls.loadGlobal_global (by rw [I.ok.glob];exact I.mod.glob.keeps I.bk) hm h) hd
theorem Fk {E:Value->Shared->Prop} {pins:List (Addr×Obj)} {s:Shared} {σ:St} {H:Hp} {x:Str} {u:Value} {pos:Pos} {Q:Value->Shared->Prop} (I:AK X pins σ H s) (hg:Gl X x) (hm:X.mg x=none) (hv:bootBuiltins x=some u) (h:Q u s)
  (hn:x≠"__name__":=by decide) (hd:(x == ("__debug__":Str))=false:=by decide):wpAny (model X.prog X.w) X.A (eval (.Name x pos) X.env) Q E s:=by
 obtain ⟨mb,h1,h2⟩:=I.mod.blt
 exact Calls.Name_function_global I.ok.kind hg (Calls.loadGlobal_builtin (by rw [I.ok.glob];exact I.mod.glob.keeps I.bk) hm (by rw [I.ok.blt];exact h1.keeps I.bk) ((h2 x hn).trans hv) h) hd
theorem BP {x:Str} {v:V} {u:Value} {pos:Pos} (hg:Gl X x) (hm:X.mg x=some u) (r:Bw v u) (hd:(x == ("__debug__":Str))=false:=by decide):PE X (.Name x pos) (tC v) :=
 λ_ _ _ H _ I h=>Iu I hg hm ⟨v,H,I,r,h⟩ hd
theorem CO {x:Str} {v:V} {u:Value} {pos:Pos} (hg:Gl X x) (hm:X.mg x=none) (hv:bootBuiltins x=some u) (r:Bw v u) (hn:x≠"__name__":=by decide) (hd:(x == ("__debug__":Str))=false:=by decide):PE X (.Name x pos) (tC v) :=
 λ_ _ _ H _ I h=>Fk I hg hm hv ⟨v,H,I,r,h⟩ hn hd

variable {a b:Expr} {ta tb:TE} {pos:Pos}
def PC (X:Cx) (op:CmpOp) (a b:Expr) (t:TE):Prop :=
 ∀ (pins:List (Addr×Obj)) (s:Shared) (σ:St) (H:Hp) (Q:VK),AK X pins σ H s->t σ H Q ->
  wpAny (model X.prog X.w) X.A (eval a X.env) (λv s₁=>wpAny (model X.prog X.w) X.A (eval b X.env) (λu s₂=>wpAny (model X.prog X.w) X.A (compareOp op v u) (EP X pins σ Q) X.xe s₂) X.xe s₁) X.xe s
theorem MA (b:Expr) {op:CmpOp} (h:op≠.In) (h2:op≠.NotIn):behindInMarks op b=false:=by
 have e1:(op == CmpOp.In)=false:=by cases op<;>first | rfl | exact absurd rfl h
 have e2:(op == CmpOp.NotIn)=false:=by cases op<;>first | rfl | exact absurd rfl h2
 cases b<;>simp [behindInMarks,e1,e2]
def tB (t:TE):TT:=λσ H Q=>t σ H λx H1=>∃ c,x=.bl c/\Q c H1
theorem RK {op:CmpOp} {t:TE} (h:PC X op a b t) (h1:behindInMarks op b=false:=by first | exact MA _ (by decide) (by decide) | rfl):PE X (.Compare a [op] [b] pos) t:=λpins s σ H Q I hw=>wpAny_Compare1 (h pins s σ H Q I hw) h1
theorem RB {op:CmpOp} {t:TE} (h:PC X op a b t) (h1:behindInMarks op b=false:=by first | exact MA _ (by decide) (by decide) | rfl):PT X (.Compare a [op] [b] pos) (tB t):=by
 intro pins s σ H Q I hw
 refine wpAny_isTrue_Compare1 (BC (h pins s σ H _ I hw) λv s1 h1=>BC h1 λu s2 h2=>BC h2 λc s3 ⟨x,H1,I1,r1,q1⟩=>?_) h1
 obtain ⟨d,rfl,q⟩:=q1
 cases r1
 exact wpAny_truthy_bool ⟨H1,I1,q⟩
theorem BG {e:Expr} {t:TE} (h:PE X e t) (he:∀ whole,isTrue e X.env whole=(do let v <- whole;standAt e.pos;holding [v] (truthy v)):=by intro _;rfl):PT X e (tB t):=by
 intro pins s σ H Q I hw
 refine isTrue_plain (BC (h pins s σ H _ I hw) λv s1 ⟨x,H1,I1,r1,q1⟩=>?_) (he _)
 obtain ⟨d,rfl,q⟩:=q1
 cases r1
 exact wpAny_truthy_bool ⟨H1,I1,q⟩

variable {tA tB':TT} {Em:List Expr}
def tAnd (t u:TT):TT:=λσ H Q=>t σ H λc H1=>if c=true then u σ H1 Q else Q false H1
def tOr (t u:TT):TT:=λσ H Q=>t σ H λc H1=>if c=true then Q true H1 else u σ H1 Q
def tNot (t:TT):TT:=λσ H Q=>t σ H λc H1=>Q (!c) H1
theorem Db (ha:PT X a tA):PW X (.BoolOp .And [a] pos) tA:=by
 intro wh pins s σ H Q I h
 refine isTrue_and (BC (ha pins s σ H Q I h) λc s1 e=>?_)
 cases c with
 |true=>exact isTrue_and_nil e
 |false=>exact e
theorem Fc (ha:PT X a tA):PW X (.BoolOp .Or [a] pos) tA:=by
 intro wh pins s σ H Q I h
 refine isTrue_or (BC (ha pins s σ H Q I h) λc s1 e=>?_)
 cases c with
 |false=>exact isTrue_or_nil e
 |true=>exact e
theorem Dq (ha:PT X a tA) (hb:PW X (.BoolOp .And (b::Em) pos) tB'):PW X (.BoolOp .And (a::b::Em) pos) (tAnd tA tB'):=by
 intro wh pins s σ H Q I h
 refine isTrue_and (BC (ha pins s σ H _ I h) λc s1 ⟨H1,I1,q1⟩=>?_)
 cases c with
 |true=>exact hb wh pins s1 σ H1 Q I1 q1
 |false=>exact ⟨H1,I1,q1⟩
theorem HK (ha:PT X a tA) (hb:PW X (.BoolOp .Or (b::Em) pos) tB'):PW X (.BoolOp .Or (a::b::Em) pos) (tOr tA tB'):=by
 intro wh pins s σ H Q I h
 refine isTrue_or (BC (ha pins s σ H _ I h) λc s1 ⟨H1,I1,q1⟩=>?_)
 cases c with
 |true=>exact ⟨H1,I1,q1⟩
 |false=>exact hb wh pins s1 σ H1 Q I1 q1
theorem CS (ha:PT X a tA):PT X (.UnaryOp .Not a pos) (tNot tA):=by
 intro pins s σ H Q I h
 exact isTrue_not (ha pins s σ H (λc H1=>Q (!c) H1) I h)
def tAndV (ta tb:TE):TE:=λσ H Q=>ta σ H λx H1=>∃ c,x=.bl c/\if c=true then tb σ H1 Q else Q (.bl false) H1
def tOrV (ta tb:TE):TE:=λσ H Q=>ta σ H λx H1=>∃ c,x=.bl c/\if c=true then Q (.bl true) H1 else tb σ H1 Q
def tNotV (ta:TE):TE:=λσ H Q=>ta σ H λx H1=>∃ c,x=.bl c/\Q (.bl (!c)) H1
theorem DQ {op} {t:TE} (h:PE X a t):PE X (.BoolOp op [a] pos) t:=λpins s σ H Q I hw=>BoolOp_one (h pins s σ H Q I hw)
theorem Eo (ha:PE X a ta) (hb:PE X (.BoolOp .And (b::Em) pos) tb):PE X (.BoolOp .And (a::b::Em) pos) (tAndV ta tb):=by
 intro pins s σ H Q I h
 refine BoolOp_and (BC (ha pins s σ H _ I h) λv s1 ⟨x,H1,I1,r1,q1⟩=>?_)
 obtain ⟨c,rfl,q1⟩:=q1
 cases r1
 refine wpAny_truthy_bool ?_
 cases c with
 |true=>exact hb pins s1 σ H1 Q I1 q1
 |false=>exact ⟨.bl false,H1,I1,rfl,q1⟩
theorem RH (ha:PE X a ta) (hb:PE X (.BoolOp .Or (b::Em) pos) tb):PE X (.BoolOp .Or (a::b::Em) pos) (tOrV ta tb):=by
 intro pins s σ H Q I h
 refine BoolOp_or (BC (ha pins s σ H _ I h) λv s1 ⟨x,H1,I1,r1,q1⟩=>?_)
 obtain ⟨c,rfl,q1⟩:=q1
 cases r1
 refine wpAny_truthy_bool ?_
 cases c with
 |false=>exact hb pins s1 σ H1 Q I1 q1
 |true=>exact ⟨.bl true,H1,I1,rfl,q1⟩
theorem NN (ha:PE X a ta):PE X (.UnaryOp .Not a pos) (tNotV ta):=by
 intro pins s σ H Q I h
 refine UnaryOp_ (BC (ha pins s σ H _ I h) λv s1 ⟨x,H1,I1,r1,q1⟩=>?_)
 obtain ⟨c,rfl,q1⟩:=q1
 cases r1
 exact not_of (wpAny_truthy_bool ⟨.bl (!c),H1,I1,rfl,q1⟩)
def tIf (t:TT) (ta tb:TE):TE:=λσ H Q=>t σ H λc H1=>if c=true then ta σ H1 Q else tb σ H1 Q
theorem Ex {c:Expr} (hc:PT X c tA) (ha:PE X a ta) (hb:PE X b tb):PE X (.IfExp c a b pos) (tIf tA ta tb):=by
 intro pins s σ H Q I h
 refine wpAny_IfExp (BC (hc pins s σ H _ I h) λd s1 ⟨H1,I1,q1⟩=>?_)
 cases d with
 |true=>exact ha pins s1 σ H1 Q I1 q1
 |false=>exact hb pins s1 σ H1 Q I1 q1
end
end L2

namespace L2
open PySem PySem.Spec PyProof.Rows

def AH (K:K0) (H:Hp) (a:Addr) (xs:List V):Prop :=
 Rd H a (.lst xs) \/
  ∃ (o:Obj) (its:Array Value) (n:Nat),K.lookup a=some o/\o.cls=.type "list"/\o.dict=none/\o.data=.seq its n/\its.size<=sizeLine/\AW xs its.toList
def BN (K:K0) (H:Hp) (a:Addr) (xs:List V):Prop :=
 Rd H a (.tup xs) \/
  ∃ (o:Obj) (its:Array Value) (n:Nat),K.lookup a=some o/\o.cls=.type "tuple"/\o.data=.seq its n/\its.size<=sizeLine/\AW xs its.toList
def absV:Value->Option V
 |.none=>some .non
 |.bool b=>some (.bl b)
 |.int i _=>some (.int i)
 |.str x _=>some (.str x)
 |.bytes b _=>some (.byt b)
 |.float b _=>some (.flt b)
 |.ref a=>some (.ref a)
 |.type n=>some (.ty n)
 |_=>none
theorem Bw.abs {x:V} {u:Value} (r:Bw x u):absV u=some x:=by
 cases x with
 |non=>cases r;rfl
 |bl _=>cases r;rfl
 |int _=>obtain ⟨t,rfl⟩:=r;rfl
 |str _=>obtain ⟨t,rfl⟩:=r;rfl
 |byt _=>obtain ⟨t,rfl⟩:=r;rfl
 |flt _=>obtain ⟨t,rfl⟩:=r;rfl
 |ref _=>cases r;rfl
 |ty _=>cases r;rfl
theorem Bw.inj {x y:V} {u:Value} (r:Bw x u) (q:Bw y u):x=y:=Z2.inj (r.abs.symm.trans q.abs)
theorem AW.inj:∀ {xs ys:List V} {us:List Value},AW xs us->AW ys us->xs=ys
 |_,_,_,.nil,.nil=>rfl
 |_,_,_,.cons r t,.cons r' t'=>by rw [r.inj r',AW.inj t t']
section
variable {X:Cx} {pins:List (Addr×Obj)} {σ:St} {H:Hp} {s:Shared} {a:Addr} {xs ys:List V}
theorem AH.of {K:K0} (h:H a=some (.lst xs)):AH K H a xs:=.inl (.inl h)
theorem BN.of {K:K0} (h:H a=some (.tup xs)):BN K H a xs:=.inl (.inl h)
theorem AK.list (I:AK X pins σ H s) (h:AH X.K H a xs):∃ its:List Value,AW xs its/\PlainL s.heap a its.toArray/\xs.length<=sizeLine:=by
 rcases h with h | ⟨o,its,n,hk,hc,hd,hs,hz,r⟩
 ·obtain ⟨z,its,n,r,e⟩:=h.ok I.hok
  exact ⟨its,r,⟨_,n,e,rfl,rfl,rfl⟩,z⟩
 ·refine ⟨its.toList,r,⟨o,n,I.kIn a o hk,hc,hd,by simpa using hs⟩,?_⟩
  have e:=r.length
  simp only [u6] at e
  omega
theorem AK.tuple (I:AK X pins σ H s) (h:BN X.K H a xs):∃ its:List Value,AW xs its/\IsTup s.heap a its.toArray/\xs.length<=sizeLine:=by
 rcases h with h | ⟨o,its,n,hk,hc,hs,hz,r⟩
 ·obtain ⟨z,its,r,p⟩:=h.ok I.hok
  exact ⟨its,r,p,z⟩
 ·refine ⟨its.toList,r,⟨o,I.kIn a o hk,hc,n,by simpa using hs⟩,?_⟩
  have e:=r.length
  simp only [u6] at e
  omega
theorem AK.list_inj (I:AK X pins σ H s) (h:AH X.K H a xs) (h':AH X.K H a ys):xs=ys:=by
 obtain ⟨its,r,⟨o,n,e,_,_,d⟩,_⟩:=I.list h
 obtain ⟨its',r',⟨o',n',e',_,_,d'⟩,_⟩:=I.list h'
 rw [e] at e';cases e'
 rw [d] at d'
 injection d' with d1 _
 have:its=its':=by simpa using congrArg Array.toList d1
 subst this
 exact r.inj r'
theorem AK.tuple_inj (I:AK X pins σ H s) (h:BN X.K H a xs) (h':BN X.K H a ys):xs=ys:=by
 obtain ⟨its,r,⟨o,e,_,n,d⟩,_⟩:=I.tuple h
 obtain ⟨its',r',⟨o',e',_,n',d'⟩,_⟩:=I.tuple h'
 rw [e] at e';cases e'
 rw [d] at d'
 injection d' with d1 _
 have:its=its':=by simpa using congrArg Array.toList d1
 subst this
 exact r.inj r'
end

abbrev Cx.wish (X:Cx) (E:Value->Shared->Prop):Cx:={ X with xe:=E }
abbrev Cx.nox (X:Cx):Cx:=X.wish λ_ _=>False
theorem Cx.Ok.wish {X:Cx} (ok:X.Ok) (E:Value->Shared->Prop):(X.wish E).Ok :=
 ⟨ok.mod,ok.kind,ok.glob,ok.blt,ok.above,ok.inj,ok.has,ok.cab,ok.hd,ok.frames,ok.stk,ok.exf,ok.bs,ok.bsz,ok.noex,ok.exfs,ok.funs,ok.frf⟩
theorem Cx.Ok.unwish {X:Cx} {E:Value->Shared->Prop} (ok:(X.wish E).Ok):X.Ok :=
 ⟨ok.mod,ok.kind,ok.glob,ok.blt,ok.above,ok.inj,ok.has,ok.cab,ok.hd,ok.frames,ok.stk,ok.exf,ok.bs,ok.bsz,ok.noex,ok.exfs,ok.funs,ok.frf⟩
section
variable {X:Cx} {pins:List (Addr×Obj)} {σ:St} {H:Hp} {s:Shared} {E:Value->Shared->Prop}
theorem AK.wish (I:AK X pins σ H s) (E:Value->Shared->Prop):AK (X.wish E) pins σ H s:=⟨I.ok.wish E,I.os,I.bare,I.base,I.loc,I.cell,I.free,I.freeC,I.pin,I.hok,I.len⟩
theorem AK.unwish (I:AK (X.wish E) pins σ H s):AK X pins σ H s:=⟨I.ok.unwish,I.os,I.bare,I.base,I.loc,I.cell,I.free,I.freeC,I.pin,I.hok,I.len⟩
theorem SP.unwish {D:JC} {f:Flow} {s':Shared} (h:SP (X.wish E) pins D f s'):SP X pins D f s':=by
 cases f with
 |next=>obtain ⟨σ',H',I,q⟩:=h;exact ⟨σ',H',I.unwish,q⟩
 |brk=>obtain ⟨σ',H',I,q⟩:=h;exact ⟨σ',H',I.unwish,q⟩
 |cont=>obtain ⟨σ',H',I,q⟩:=h;exact ⟨σ',H',I.unwish,q⟩
 |ret u=>obtain ⟨v,σ',H',I,r,q⟩:=h;exact ⟨v,σ',H',I.unwish,r,q⟩
theorem LL.nox {st:List Stmt} {t:TS} (h:LL X.nox st t):LL X st t:=λpins s σ H D I hw =>
 wpAny_mono (h pins s σ H D (I.wish _) hw) (λ_ _ q=>q.unwish) λ_ _ z=>False.elim z
end

section
variable {X:Cx} {st:Stmt} {Em:List Stmt} {t u:TS} {e:Expr} {te:TE} {pos:Pos}
def tNext:TS:=λD σ H=>D.nx σ H
def tSeq (t u:TS):TS:=λD σ H=>t { D with nx:=u D } σ H
theorem Ap:LL X [] tNext:=λ_ _ σ H _ I h=>wpAny_execs_nil ⟨σ,H,I,h⟩
theorem Ae (h1:PS X st t) (h2:LL X Em u):LL X (st::Em) (tSeq t u):=by
 intro pins s σ H D I h
 refine wpAny_execs_cons (BC (h1 pins s σ H { D with nx:=u D } I h) λf s1 q=>?_)
 cases f with
 |next =>
  obtain ⟨σ',H',I',q⟩:=q
  exact h2 pins s1 σ' H' D I' q
 |ret v=>exact q
 |brk=>exact q
 |cont=>exact q
theorem Af (h1:PS X st t):LL X [st] t:=by
 intro pins s σ H D I h
 refine wpAny_execs_cons (BC (h1 pins s σ H D I h) λf s1 q=>?_)
 cases f with
 |next=>exact wpAny_execs_nil q
 |ret v=>exact q
 |brk=>exact q
 |cont=>exact q
def tCont:TS:=λD σ H=>D.ct σ H
theorem HL:PS X (.Continue pos) tCont:=λ_ _ σ H _ I h=>wpAny_Continue ⟨σ,H,I,h⟩
theorem AK.quiet {pins:List (Addr×Obj)} {σ:St} {H:Hp} {s:Shared} (I:AK X pins σ H s):interactive X.env=false:=by simp [interactive,I.ok.kind]
def tDrop (te:TE):TS:=λD σ H=>te σ H λ_ H1=>D.nx σ H1
theorem AQ (he:PE X e te) (hs:swapsWith e none pos.line X.env=pure false:=by rfl):PS X (.Expr e pos) (tDrop te):=by
 intro pins s σ H D I h
 exact wpAny_Expr_any (BC (he pins s σ H _ I h) λv s1 ⟨x,H1,I1,r1,q1⟩=>⟨σ,H1,I1,q1⟩) I.quiet hs
def tRet (te:TE):TS:=λD σ H=>te σ H D.rt
theorem Al (he:PE X e te):PS X (.Return (some e) pos) (tRet te):=by
 intro pins s σ H D I h
 exact wpAny_Return_some (BC (he pins s σ H _ I h) λv s1 ⟨x,H1,I1,r1,q1⟩=>⟨x,σ,H1,I1,r1,q1⟩)
def tRetN:TS:=λD _ H=>D.rt .non H
def tIfS (c:TT) (t u:TS):TS:=λD σ H=>c σ H λb H1=>if b=true then t D σ H1 else u D σ H1
theorem AD {c:Expr} {a b:List Stmt} {tc:TT} (hc:PT X c tc) (ha:LL X a t) (hb:LL X b u):PS X (.If c a b pos) (tIfS tc t u):=by
 intro pins s σ H D I h
 refine wpAny_If (BC (hc pins s σ H _ I h) λd s1 ⟨H1,I1,q1⟩=>?_)
 cases d with
 |true=>exact ha pins s1 σ H1 D I1 q1
 |false=>exact hb pins s1 σ H1 D I1 q1
def tNever:TS:=λ_ _ _=>False
theorem Mj:PS X st tNever:=λ_ _ _ _ _ _ h=>h.elim
end

abbrev TG:=V->St->Hp->(St->Hp->Prop)->Prop
abbrev TGs:=List V->St->Hp->(St->Hp->Prop)->Prop
def PG (X:Cx) (target:Expr) (t:TG):Prop :=
 ∀ (pins:List (Addr×Obj)) (s:Shared) (σ:St) (H:Hp) (v:V) (u:Value) (Q:St->Hp->Prop),AK X pins σ H s->Bw v u->t v σ H Q ->
  wpAny (model X.prog X.w) X.A (assign target X.env u) (λ_ s'=>∃ σ' H',AK X pins σ' H' s'/\Q σ' H') X.xe s
def PGs (X:Cx) (ts:List Expr) (t:TGs):Prop :=
 ∀ (pins:List (Addr×Obj)) (s:Shared) (σ:St) (H:Hp) (vs:List V) (us:List Value) (Q:St->Hp->Prop),AK X pins σ H s->AW vs us->t vs σ H Q ->
  wpAny (model X.prog X.w) X.A (assignInOrder ((assignEach ts X.env).map (·.2)) us) (λ_ s'=>∃ σ' H',AK X pins σ' H' s'/\Q σ' H') X.xe s
section
variable {X:Cx} {pos:Pos}
def Kt (i:Nat):TG:=λv σ H Q=>Q (σ.set i (some v)) H
theorem AJ {i:Nat} {x:Str} (hN:X.N.Nodup) (hi:X.N[i]?=some x) (hx:Loc X.env.scope x) (hf:X.fn x=true\/X.env.scope.names.lookup x=some .local:=by first | exact .inl rfl | exact .inr rfl | assumption):PG X (.Name x pos) (Kt i):=by
 intro pins s σ H v u Q I r h
 exact wpAny_assign_Name (LS I hN hi hx r (λs' I'=>⟨_,H,I',h⟩) hf)
def Lx:TGs:=λvs σ H Q=>vs=[]/\Q σ H
def Gi (t:TG) (u:TGs):TGs:=λvs σ H Q=>∃ v r,vs=v::r/\t v σ H λσ' H'=>u r σ' H' Q
theorem EL:PGs X [] Lx:=by
 intro pins s σ H vs us Q I r h
 obtain ⟨e,h⟩:=h
 subst e
 cases r
 exact assignInOrder_nil ⟨σ,H,I,h⟩
theorem BD {e:Expr} {es:List Expr} {t:TG} {u:TGs} (h1:PG X e t) (h2:PGs X es u)
  (hs:(assignEach (e::es) X.env).map (·.2)=assign e X.env::(assignEach es X.env).map (·.2):=by rfl):PGs X (e::es) (Gi t u):=by
 intro pins s σ H vs us Q I r h
 obtain ⟨v,vr,e1,h⟩:=h
 subst e1
 cases r with
 |cons r rr =>
  rw [hs]
  refine assignInOrder_cons (BC (h1 pins s σ H _ _ _ I r h) λ_ s1 ⟨σ1,H1,I1,q1⟩=>?_)
  exact h2 pins s1 σ1 H1 _ _ Q I1 rr q1
def gTup (K:K0) (n:Nat) (t:TGs):TG:=λv σ H Q=>∃ a xs,v=.ref a/\BN K H a xs/\xs.length=n/\t xs σ H Q
theorem Hs {es:List Expr} {k:Nat} {t:TGs} {n:Nat} (hc:X.calm=true) (h:PGs X es t)
  (hn:(assignEach es X.env).length=n:=by rfl) (hst:(assignEach es X.env).findIdx? (·.1)=none:=by rfl):PG X (.Tuple es k pos) (gTup X.K n t):=by
 intro pins s σ H v u Q I r hw
 obtain ⟨a,xs,e1,hq,hl,hw⟩:=hw
 subst e1
 cases r
 obtain ⟨its,rv,ht,hz⟩:=I.tuple hq
 refine assign_Tuple_tuple (I.ok.hd hc) ht (by simp [hn,<- hl,rv.length]) hst λh' hx=>?_
 have I1:AK X pins σ H { s with heap:=h' }:=I.kept (t':=s.toks) λb o e=>hx b o (P1 (Heap.lt_size e)) e
 exact h pins _ σ H xs _ Q I1 (by simpa using rv) hw
def tAsg (te:TE) (g:TG):TS:=λD σ H=>te σ H λx H1=>g x σ H1 D.nx
theorem RD {tg e:Expr} {te:TE} {g:TG} (he:PE X e te) (hg:PG X tg g) (hs:swapsWithSole [tg] e pos.line X.env=pure false:=by rfl) (hw:swappedStores [tg] e X.env=pure none:=by rfl)
  (h1:(assignEach [tg] X.env).map (·.2)=[assign tg X.env]:=by rfl):PS X (.Assign [tg] e pos) (tAsg te g):=by
 intro pins s σ H D I h
 refine wpAny_Assign_stores (BC (he pins s σ H _ I h) λv s1 ⟨x,H1,I1,r1,q1⟩=>?_) hs hw
 rw [h1]
 exact BC (hg pins s1 σ H1 x v _ I1 r1 q1) λ_ s2 q=>q
theorem Ax {i:Nat} {x:Str} {e:Expr} {te:TE} {pos':Pos} (hN:X.N.Nodup) (hi:X.N[i]?=some x) (hx:Loc X.env.scope x) (he:PE X e te) (hs:swapsWith e (some (.Name x pos')) pos.line X.env=pure false:=by rfl) (hf:X.fn x=true\/X.env.scope.names.lookup x=some .local:=by first | exact .inl rfl | exact .inr rfl | assumption) :
  PS X (.Assign [.Name x pos'] e pos) (tAsg te (Kt i)):=by
 intro pins s σ H D I h
 refine wpAny_Assign_Name (BC (he pins s σ H _ I h) λv s1 ⟨y,H1,I1,r1,q1⟩=>?_) hs
 exact LS I1 hN hi hx r1 (λs2 I2=>⟨_,H1,I2,q1⟩) hf
end

section
variable {X:Cx} {pos:Pos}
def QS (c:TT) (tb:TS):TS:=λD σ H=>∃ W:Nat->St->Hp->Prop,(∃ m,W m σ H)/\∀ m σ H,W m σ H ->
 c σ H λb H1=>if b=true then ∃ N:St->Hp->Prop,(∀ σ' H',N σ' H'->∃ m',m'<m/\W m' σ' H')/\tb { D with nx:=N,ct:=N,bk:=D.nx } σ H1 else D.nx σ H1
theorem RC {c:Expr} {body:List Stmt} {tc:TT} {tb:TS} (hp:PassesOwn (model X.prog X.w) X.A X.env X.xe) (hc:PT X c tc) (hb:LL X body tb):PS X (.While c body [] pos) (QS tc tb):=by
 intro pins s σ H D I h
 obtain ⟨W,⟨m0,w0⟩,turn⟩:=h
 refine wpAny_While (codeAny_whileLoop (λn s'=>∃ σ' H',AK X pins σ' H' s'/\W n σ' H') ?_ m0 ⟨σ,H,I,w0⟩)
 rintro n s1 ⟨σ1,H1,I1,w1⟩
 refine wpAny_passesOwn hp (BC (hc pins s1 σ1 H1 _ I1 (turn n σ1 H1 w1)) λb s2 ⟨H2,I2,q2⟩=>?_)
 cases b with
 |true =>
  obtain ⟨N,hN,q2⟩:=q2
  rw [if_pos rfl]
  refine wpAny_passesOwn hp (BC (hb pins s2 σ1 H2 _ I2 q2) λf s3 q3=>?_)
  cases f with
  |next =>
   obtain ⟨σ3,H3,I3,n3⟩:=q3
   obtain ⟨m',hm,w3⟩:=hN σ3 H3 n3
   exact ⟨m',hm,σ3,H3,I3,w3⟩
  |cont =>
   obtain ⟨σ3,H3,I3,n3⟩:=q3
   obtain ⟨m',hm,w3⟩:=hN σ3 H3 n3
   exact ⟨m',hm,σ3,H3,I3,w3⟩
  |brk=>exact q3
  |ret v=>exact q3
 |false =>
  rw [if_neg N0]
  exact wpAny_execs_nil ⟨σ1,H2,I2,q2⟩
end

set_option genInjectivity false in
structure It where
 go:Nat->Hp->Prop
 yld:Nat->Hp->V->Hp->Prop
 stop:Nat->Hp->Prop
def EC (X:Cx) (pins:List (Addr×Obj)) (H:Hp) (b:Addr):Prop :=
 H b=none/\b≠X.env.locals/\b∉X.fs/\(b∈X.ex\/X.s₀.heap.objs.size<=b)/\(∀ x c,X.env.cells.lookup x=some c->c≠b)/\∀ p∈X.pn++pins,p.1≠b
theorem AK.fpOk {X:Cx} {pins:List (Addr×Obj)} {σ:St} {H H':Hp} {s:Shared} {b:Addr} (I:AK X pins σ H s) (hb:s.heap.objs.size<=b) (hn:H' b=none):EC X pins H' b:=by
 refine ⟨hn,F8 (V1 I.lt hb),I.nofs hb,.inr (Q0 I.sz hb),λx c e z=>?_,λp hp z=>?_⟩
 ·obtain ⟨v,q⟩:=I.cell x c e
  exact absurd (V1 q.lt (by rw [z];exact hb)) (L5 _)
 ·exact absurd (V1 (Heap.lt_size (I.pin p hp).1) (by rw [z];exact hb)) (L5 _)
structure JO (P:Program) (w:World) (K:K0) (tg:Expr) (J:It) (fp:List Addr) (it:Addr) (tn:Nat->Heap->Prop):Prop where
 mem:it∈fp
 obj:∀ i h,tn i h->∀ b∈fp,∃ o,h.get? b=some o/\∀ v,o.data≠.cell v
 keep:∀ i h h',tn i h->(∀ b∈fp,∀ o,h.get? b=some o->h'.get? b=some o)->tn i h'
 item:∀ (X:Cx),X.prog=P->X.w=w->X.K=K->X.calm=true->∀ (i:Nat) (pins:List (Addr×Obj)) (s:Shared) (σ:St) (H:Hp) (E:Value->Shared->Prop),AK X pins σ H s->(∀ b∈fp,EC X pins H b)->tn i s.heap->J.go i H ->
  wpAny (model P w) X.A (pyNext (.ref it)) (λr s1=>∃ u,r=some u /\
   wpAny (model P w) X.A (letOwnedTupleGo tg (.ref it) u) (λ_ s2=>∃ x H',AK X pins σ H' s2/\Bw x u/\J.yld i H x H'/\tn (i+1) s2.heap/\∀ b∈fp,H' b=none) E s1) E s
 done:∀ (X:Cx),X.prog=P->X.w=w->X.K=K->X.calm=true->∀ (i:Nat) (pins:List (Addr×Obj)) (s:Shared) (σ:St) (H:Hp) (E:Value->Shared->Prop),AK X pins σ H s->(∀ b∈fp,EC X pins H b)->tn i s.heap->J.stop i H ->
  wpAny (model P w) X.A (pyNext (.ref it)) (λr s1=>r=none/\AK X pins σ H s1) E s
 self:∀ (A:Around) (i:Nat) (s:Shared) (Q:Value->Shared->Prop) (E:Value->Shared->Prop),tn i s.heap->Q (.ref it) s->wpAny (model P w) A (pyIter (.ref it)) Q E s
abbrev TI:=St->Hp->(It->Hp->Prop)->Prop
def PIE (X:Cx) (pins:List (Addr×Obj)) (σ:St) (tg:Expr) (R:It->Hp->Prop) (itv:Value) (s2:Shared):Prop :=
 ∃ (it:Addr) (fp:List Addr) (tn:Nat->Heap->Prop) (J:It) (H':Hp),itv=.ref it/\AK X pins σ H' s2/\JO X.prog X.w X.K tg J fp it tn/\tn 0 s2.heap/\(∀ b∈fp,EC X pins H' b)/\R J H'
def PI (X:Cx) (tg iter:Expr) (wi:TI):Prop :=
 ∀ (pins:List (Addr×Obj)) (s:Shared) (σ:St) (H:Hp) (R:It->Hp->Prop),AK X pins σ H s->wi σ H R ->
  wpAny (model X.prog X.w) X.A (eval iter X.env) (λv s1=>wpAny (model X.prog X.w) X.A (pyIter v) (PIE X pins σ tg R) X.xe s1) X.xe s

theorem MQ {M:Model} {A:Around} {E:Value->Shared->Prop} {s:Shared} {tg:Expr} {it:Addr} {u:Value} {o:Obj} {n:String} {vs:Array Value} {Q:Unit->Shared->Prop} (ho:s.heap.get? it=some o) (hc:o.cls=.type n) (hd:o.data=.fields vs)
    (hn:["enumerate", "zip", "dict_itemiterator", "dict_reverseitemiterator", "odict_iterator", "itertools.zip_longest", "itertools.pairwise"].contains n=false) (hQ:Q () s):wpAny M A (letOwnedTupleGo tg (.ref it) u) Q E s:=by
  unfold letOwnedTupleGo
  cases tg<;>first
    |exact wpAny_pure hQ
    | (cases u<;>first
        |exact wpAny_pure hQ
        | (refine wpAny_bind (wpAny_load ho ?_)
           rw [hc,hd]
           show wpAny M A (if (["enumerate", "zip", "dict_itemiterator", "dict_reverseitemiterator", "odict_iterator", "itertools.zip_longest", "itertools.pairwise"].contains n&&vs[0]? == some (rawInt _))=true then _ else _) Q E s
           rw [if_neg (by intro h;rw [hn,P3] at h;cases h)]
           exact wpAny_pure hQ))

def Itl (K:K0) (a:Addr):It :=
 ⟨λi H=>∃ xs x,AH K H a xs/\xs[i]?=some x,λi H x H'=>H'=H/\∀ xs,AH K H a xs->xs[i]?=some x,λi H=>∃ xs,AH K H a xs/\xs.length<=i⟩
def Itt (K:K0) (a:Addr):It :=
 ⟨λi H=>∃ xs x,BN K H a xs/\xs[i]?=some x,λi H x H'=>H'=H/\∀ xs,BN K H a xs->xs[i]?=some x,λi H=>∃ xs,BN K H a xs/\xs.length<=i⟩
def Itr (lo:Int) (n:Nat):It:=⟨λi _=>i<n,λi H x H'=>H'=H/\x=.int (lo+i),λi _=>n<=i⟩
theorem PJ {P:Program} {w:World} {K:K0} {tg:Expr} (a it:Addr):JO P w K tg (Itl K a) [it] it (λi h=>h.IsListIter it a i) where
 mem:=by simp
 obj:=λi h st b hb=>by
  have e:b=it:=by simpa using hb
  subst e
  obtain ⟨o,e,c,d⟩:=st
  exact ⟨o,e,λv z=>by rw [d] at z;cases z⟩
 keep:=λi h h' st k=>st.at λo e=>k it (by simp) o e
 item:=by
  intro X hP hw hK hc i pins s σ H E I hf st hg
  subst hP hw hK
  obtain ⟨xs,x,hq,hx⟩:=hg
  obtain ⟨its,rv,p,hz⟩:=I.list hq
  obtain ⟨u,hu,ru⟩:=rv.get hx
  obtain ⟨f0,f1,f2,f3,f4,f5⟩:=hf it (by simp)
  refine wpAny_pyNext_list_item st p.isList (x:=u) (by simpa using hu) λh' st' sb=>?_
  have I1:AK X pins σ H { s with heap:=h' }:=I.turned (t':=s.toks) (λb o hb e=>(sb.2 b hb).trans e) f0 f1 f3 f4 f5
  obtain ⟨o,e,c,d⟩:=id st'
  exact ⟨u,rfl,MQ (s:={ s with heap:=h' }) e c d (by decide) ⟨x,H,I1,ru,⟨rfl,λys hy=>by rw [I.list_inj hy hq];exact hx⟩,st',λb hb=>(hf b hb).1⟩⟩
 done:=by
  intro X hP hw hK hc i pins s σ H E I hf st hg
  subst hP hw hK
  obtain ⟨xs,hq,hx⟩:=hg
  obtain ⟨its,rv,p,hz⟩:=I.list hq
  obtain ⟨f0,f1,f2,f3,f4,f5⟩:=hf it (by simp)
  have hl:=rv.length
  exact wpAny_pyNext_list_end (I.ok.hd hc) st p.isList (by simp;omega) λh' eb=>⟨rfl,I.turned (t':=s.toks) (λb o hb e=>eb b o hb e) f0 f1 f3 f4 f5⟩
 self:=λ_ _ _ _ _ st h=>wpAny_pyIter_listiter st h
theorem Np {P:Program} {w:World} {K:K0} {tg:Expr} (a it:Addr):JO P w K tg (Itt K a) [it] it (λi h=>h.IsTupleIter it a i) where
 mem:=by simp
 obj:=λi h st b hb=>by
  have e:b=it:=by simpa using hb
  subst e
  obtain ⟨o,e,c,d⟩:=st
  exact ⟨o,e,λv z=>by rw [d] at z;cases z⟩
 keep:=λi h h' st k=>st.at λo e=>k it (by simp) o e
 item:=by
  intro X hP hw hK hc i pins s σ H E I hf st hg
  subst hP hw hK
  obtain ⟨xs,x,hq,hx⟩:=hg
  obtain ⟨its,rv,p,hz⟩:=I.tuple hq
  obtain ⟨u,hu,ru⟩:=rv.get hx
  obtain ⟨f0,f1,f2,f3,f4,f5⟩:=hf it (by simp)
  refine wpAny_pyNext_tuple_item st (show s.heap.IsTuple a its.toArray from p) (x:=u) (by simpa using hu) λh' st' sb=>?_
  have I1:AK X pins σ H { s with heap:=h' }:=I.turned (t':=s.toks) (λb o hb e=>(sb.2 b hb).trans e) f0 f1 f3 f4 f5
  obtain ⟨o,e,c,d⟩:=id st'
  exact ⟨u,rfl,MQ (s:={ s with heap:=h' }) e c d (by decide) ⟨x,H,I1,ru,⟨rfl,λys hy=>by rw [I.tuple_inj hy hq];exact hx⟩,st',λb hb=>(hf b hb).1⟩⟩
 done:=by
  intro X hP hw hK hc i pins s σ H E I hf st hg
  subst hP hw hK
  obtain ⟨xs,hq,hx⟩:=hg
  obtain ⟨its,rv,p,hz⟩:=I.tuple hq
  obtain ⟨f0,f1,f2,f3,f4,f5⟩:=hf it (by simp)
  have hl:=rv.length
  exact wpAny_pyNext_tuple_end (I.ok.hd hc) st (show s.heap.IsTuple a its.toArray from p) (by simp;omega) λh' eb=>⟨rfl,I.turned (t':=s.toks) (λb o hb e=>eb b o hb e) f0 f1 f3 f4 f5⟩
 self:=λ_ _ _ _ _ st h=>wpAny_pyIter_tupleiter st h
theorem Nq {P:Program} {w:World} {K:K0} {tg:Expr} (it:Addr) (lo:Int) (n:Nat):JO P w K tg (Itr lo n) [it] it (λi h=>IsRangeIter h it (lo+(i:Nat)*1) ((n:Int)-(i:Nat)) 1) where
 mem:=by simp
 obj:=λi h st b hb=>by
  have e:b=it:=by simpa using hb
  subst e
  exact ⟨_,st,λv z=>by
   have z':Data.fields _=Data.cell v:=z
   cases z'⟩
 keep:=λi h h' st k=>k it (by simp) _ st
 item:=by
  intro X hP hw hK hc i pins s σ H E I hf st hg
  subst hP hw hK
  obtain ⟨f0,f1,f2,f3,f4,f5⟩:=hf it (by simp)
  have W:=Walks.range (prog:=X.prog) (w:=X.w) (I.ok.hd hc) it lo 1 n
  refine W.item i s _ _ hg st λv h' tk hv st' kk=>?_
  obtain ⟨t,rfl⟩:=hv
  have I1:AK X pins σ H { s with heap:=h',toks:=tk }:=I.turned (λb o hb e=>kk b o (by simpa using hb) e) f0 f1 f3 f4 f5
  refine ⟨_,rfl,MQ (s:={ s with heap:=h',toks:=tk }) (n:="range_iterator") st' rfl rfl (by decide) ⟨.int (lo+i),H,I1,⟨t,?_⟩,⟨rfl,rfl⟩,st',λb hb=>(hf b hb).1⟩⟩
  rw [Int.mul_one]
 done:=by
  intro X hP hw hK hc i pins s σ H E I hf st hg
  subst hP hw hK
  obtain ⟨f0,f1,f2,f3,f4,f5⟩:=hf it (by simp)
  exact wpAny_pyNext_range_end (I.ok.hd hc) st (by have:n<=i:=hg;omega) λh' eb=>⟨rfl,I.turned (t':=s.toks) (λb o hb e=>eb b o hb e) f0 f1 f3 f4 f5⟩
 self:=λ_ _ _ _ _ st h=>wpAny_pyIter_rangeiter st h
end L2

namespace L2
open PySem PySem.Spec PyProof.Rows
section
variable {X:Cx} {tg:Expr}
def Ph (K:K0) (tl:TE):TI:=λσ H R=>tl σ H λx H1=>∃ a,x=.ref a/\(∃ xs,AH K H1 a xs)/\R (Itl K a) H1
def iTup (K:K0) (tl:TE):TI:=λσ H R=>tl σ H λx H1=>∃ a,x=.ref a/\(∃ xs,BN K H1 a xs)/\R (Itt K a) H1
theorem DF {l:Expr} {tl:TE} (hl:PE X l tl):PI X tg l (Ph X.K tl):=by
 intro pins s σ H R I h
 refine BC (hl pins s σ H _ I h) λv s1 ⟨x,H1,I1,r1,q1⟩=>?_
 obtain ⟨a,e,⟨xs,hq⟩,q⟩:=q1
 subst e
 cases r1
 obtain ⟨its,rv,p,hz⟩:=I1.list hq
 refine wpAny_pyIter_list p.isList ?_
 refine ⟨s1.heap.objs.size,[s1.heap.objs.size],_,_,H1,rfl,I1.kept (t':=s1.toks) λb o e=>Heap.get?_push_of_some _ e,PJ a _,⟨_,Heap.get?_push_size _ rfl,rfl,rfl⟩,λb hb=>?_,q⟩
 have e:b=s1.heap.objs.size:=by simpa using hb
 subst e
 exact I1.fpOk (P0 _) (I1.hok.fresh (P0 _))
theorem EK {l:Expr} {tl:TE} (hl:PE X l tl):PI X tg l (iTup X.K tl):=by
 intro pins s σ H R I h
 refine BC (hl pins s σ H _ I h) λv s1 ⟨x,H1,I1,r1,q1⟩=>?_
 obtain ⟨a,e,⟨xs,hq⟩,q⟩:=q1
 subst e
 cases r1
 obtain ⟨its,rv,p,hz⟩:=I1.tuple hq
 refine wpAny_pyIter_tuple (show s1.heap.IsTuple a its.toArray from p) ?_
 refine ⟨s1.heap.objs.size,[s1.heap.objs.size],_,_,H1,rfl,I1.kept (t':=s1.toks) λb o e=>Heap.get?_push_of_some _ e,Np a _,⟨_,Heap.get?_push_size _ rfl,rfl,rfl⟩,λb hb=>?_,q⟩
 have e:b=s1.heap.objs.size:=by simpa using hb
 subst e
 exact I1.fpOk (P0 _) (I1.hok.fresh (P0 _))
theorem Mi {pins:List (Addr×Obj)} {σ:St} {H:Hp} {s:Shared} {R:It->Hp->Prop} {E:Value->Shared->Prop} {lo hi:Int} {t u v:Tok} {tk:Nat} (I:AK X pins σ H s) (h1:-(2 ^ 62)<=lo) (h2:lo<2 ^ 62) (h3:-(2 ^ 62)<=hi) (h4:hi<2 ^ 62)
  (q:R (Itr lo (hi-lo).toNat) H):wpAny (model X.prog X.w) X.A (pyIter (.ref s.heap.objs.size)) (PIE X pins σ tg R) E { s with heap:=s.heap.push { cls:=.type "range",data:=.fields #[.int lo t,.int hi u,.int 1 v] },toks:=tk }:=by
 refine wpAny_pyIter_range (IsRange.new ..) (small_one h1 h2 h3 h4) ?_
 have I1:AK X pins σ H { s with heap:=s.heap.push { cls:=.type "range",data:=.fields #[.int lo t,.int hi u,.int 1 v] },toks:=tk }:=I.kept λb o e=>Heap.get?_push_of_some _ e
 refine ⟨(s.heap.push { cls:=.type "range",data:=.fields #[.int lo t,.int hi u,.int 1 v] }).objs.size,[(s.heap.push { cls:=.type "range",data:=.fields #[.int lo t,.int hi u,.int 1 v] }).objs.size],_,_,H,rfl,
  I1.kept (t':=tk) λb o e=>Heap.get?_push_of_some _ e,Nq _ lo (hi-lo).toNat,?_,λb hb=>?_,q⟩
 ·have e1:lo+((0:Nat):Int)*1=lo:=by simp
  have e2:(((hi-lo).toNat:Nat):Int)-((0:Nat):Int)=Builtin.Range.rangeSize lo hi 1:=by rw [rangeSize_one];split<;>omega
  show IsRangeIter _ _ (lo+((0:Nat):Int)*1) ((((hi-lo).toNat:Nat):Int)-((0:Nat):Int)) 1
  rw [e1,e2]
  exact Heap.get?_push_size _ rfl
 ·have e:b=(s.heap.push { cls:=.type "range",data:=.fields #[.int lo t,.int hi u,.int 1 v] }).objs.size:=by simpa using hb
  subst e
  exact I1.fpOk (P0 _) (I1.hok.fresh (P0 _))
def iRng1 (ta:TA):TI:=λσ H R=>ta σ H λvs H1=>∃ j:Int,vs=[.int j]/\-(2 ^ 62)<=j/\j<2 ^ 62/\R (Itr 0 j.toNat) H1
def iRng2 (ta:TA):TI:=λσ H R=>ta σ H λvs H1=>∃ i j:Int,vs=[.int i,.int j]/\(-(2 ^ 62)<=i/\i<2 ^ 62/\-(2 ^ 62)<=j/\j<2 ^ 62)/\R (Itr i (j-i).toNat) H1
theorem Hr {a:Expr} {ta:TA} {p pos:Pos} (hg:Gl X "range") (hm:X.mg "range"=none) (ha:PA X [a] ta) (hs:starEach [a] X.env=[(false,eval a X.env)]:=by rfl):PI X tg (.Call (.Name "range" p) [a] [] pos) (iRng1 ta):=by
 intro pins s σ H R I h
 refine Call_ (Fk I hg hm boot_range (L4 (BC (ha pos pins s σ H _ I h) λus s1 ⟨vs,H1,I1,r1,q1⟩=>?_) hs rfl))
 obtain ⟨j,e,q1,q2,q⟩:=q1
 subst e
 cases r1 with
 |cons r rr =>
  cases rr
  obtain ⟨t,rfl⟩:=r
  exact call_range_1 (Mi I1 (by omega) (by omega) q1 q2 (by simpa using q))
theorem Qb {a b:Expr} {ta:TA} {p pos:Pos} (hg:Gl X "range") (hm:X.mg "range"=none) (ha:PA X [a,b] ta) (hs:starEach [a,b] X.env=[(false,eval a X.env),(false,eval b X.env)]:=by rfl) (hs2:starEach [b] X.env=[(false,eval b X.env)]:=by rfl) :
  PI X tg (.Call (.Name "range" p) [a,b] [] pos) (iRng2 ta):=by
 intro pins s σ H R I h
 refine Call_ (Fk I hg hm boot_range (L4 (BC (ha pos pins s σ H _ I h) λus s1 ⟨vs,H1,I1,r1,q1⟩=>?_) (by rw [hs,hs2]) (by rw [hs2];rfl)))
 obtain ⟨i,j,e,⟨q1,q2,q3,q4⟩,q⟩:=q1
 subst e
 cases r1 with
 |cons r rr =>
  cases rr with
  |cons r' rr =>
   cases rr
   obtain ⟨t,rfl⟩:=r
   obtain ⟨t',rfl⟩:=r'
   exact call_range_2 (Mi I1 q1 q2 q3 q4 q)

def QW (wi:TI) (g:TG) (tb:TS):TS:=λD σ H=>wi σ H λJ H1=>∃ W:Nat->Nat->St->Hp->Prop,(∃ m,W 0 m σ H1)/\∀ i m σ H,W i m σ H ->
 (J.stop i H/\D.nx σ H)\/(J.go i H/\∃ N:St->Hp->Prop,(∀ σ' H',N σ' H'->∃ m',m'<m/\W (i+1) m' σ' H')/\∀ x H',J.yld i H x H'->g x σ H' λσ2 H2=>tb { D with nx:=N,ct:=N,bk:=D.nx } σ2 H2)
def IS (fp:List Addr) (h:Heap):List (Addr×Obj):=fp.filterMap λb=>(h.get? b).map λo=>(b,o)
theorem EM {fp:List Addr} {h:Heap} {b:Addr} {o:Obj} (hb:b∈fp) (e:h.get? b=some o):(b,o)∈IS fp h:=List.mem_filterMap.mpr ⟨b,hb,by rw [e];rfl⟩
theorem Qh {fp:List Addr} {h:Heap} {p:Addr×Obj} (hp:p∈IS fp h):p.1∈fp/\h.get? p.1=some p.2:=by
 obtain ⟨b,hb,e⟩:=List.mem_filterMap.mp hp
 cases q:h.get? b with
 |none=>rw [q] at e;cases e
 |some o =>
  rw [q] at e
  have e':(b,o)=p:=Z2.inj e
  subst e'
  exact ⟨hb,q⟩
theorem AK.pinned {pins:List (Addr×Obj)} {σ:St} {H:Hp} {s:Shared} {fp:List Addr} (I:AK X pins σ H s) (hf:∀ b∈fp,EC X pins H b) (ho:∀ b∈fp,∃ o,s.heap.get? b=some o/\∀ v,o.data≠.cell v):AK X (pins++IS fp s.heap) σ H s :=
 I.pins_of λp hp=>(T0.mp hp).elim (λz=>I.pin p (V0 _ z)) λz=>by
  obtain ⟨hb,e⟩:=Qh z
  obtain ⟨f0,f1,f2,_⟩:=hf p.1 hb
  obtain ⟨o,e',d⟩:=ho p.1 hb
  rw [e] at e';cases e'
  exact ⟨e,f0,f1,f2,d⟩
theorem AK.unpinned {pins pl:List (Addr×Obj)} {σ:St} {H:Hp} {s:Shared} (I:AK X (pins++pl) σ H s):AK X pins σ H s:=I.pins_of λp hp=>I.pin p (V0 _ (T1 _ hp))
theorem Dr {iter:Expr} {body:List Stmt} {wi:TI} {g:TG} {tb:TS} {pos:Pos} (hp:PassesOwn (model X.prog X.w) X.A X.env X.xe) (hc:X.calm=true) (hi:PI X tg iter wi) (hg:PG X tg g) (hb:LL X body tb)
  (hs:∀ x,foldedSetIterable iter X.env x=pure x:=by intro _;rfl):PS X (.For tg iter body [] pos) (QW wi g tb):=by
 intro pins s σ H D I h
 refine wpAny_For (BC (hi pins s σ H _ I h) λv s1 h1=>BC h1 λitv s2 h2=>?_) hs
 obtain ⟨it,fp,tn,J,H2,e,I2,T,st2,f2,W,⟨m0,w0⟩,turn⟩:=h2
 subst e
 -- what stays true of the iterator's objects through the loop
 have stat:∀ {H':Hp},(∀ b∈fp,H' b=none)->∀ b∈fp,EC X pins H' b:=λhn b hb=>⟨hn b hb,(f2 b hb).2⟩
 refine codeAny_forLoop_any (λn s'=>∃ i σ' H',AK X pins σ' H' s'/\tn i s'.heap/\(∀ b∈fp,H' b=none)/\W i n σ' H') ?_ m0 ⟨0,σ,H2,I2,st2,λb hb=>(f2 b hb).1,w0⟩
 rintro n s3 ⟨i,σ3,H3,I3,st3,fr3,w3⟩
 rcases turn i n σ3 H3 w3 with ⟨stop,qn⟩ | ⟨go,N,hN,step⟩
 ·refine wpAny_passesOwn hp (BC (T.done X rfl rfl rfl hc i pins s3 σ3 H3 X.xe I3 (stat fr3) st3 stop) λr s4 ⟨hr,I4⟩=>?_)
  subst hr
  exact wpAny_execs_nil ⟨σ3,H3,I4,qn⟩
 ·refine wpAny_passesOwn hp (BC (T.item X rfl rfl rfl hc i pins s3 σ3 H3 X.xe I3 (stat fr3) st3 go) λr s4 ⟨u,hr,h4⟩=>?_)
  subst hr
  refine wpAny_passesOwn hp (BC h4 λ_ s5 ⟨x,H5,I5,r5,y5,st5,fr5⟩=>?_)
  have I5':=I5.pinned (stat fr5) (T.obj _ _ st5)
  refine wpAny_passesOwn hp (BC (hg _ s5 σ3 H5 x u _ I5' r5 (step x H5 y5)) λ_ s6 ⟨σ6,H6,I6,q6⟩=>?_)
  refine wpAny_passesOwn hp (BC (hb _ s6 σ6 H6 _ I6 q6) λf s7 q7=>?_)
  have again:∀ {σ7:St} {H7:Hp},AK X (pins++IS fp s5.heap) σ7 H7 s7->N σ7 H7->∃ m,m<n/\∃ i σ' H',AK X pins σ' H' s7/\tn i s7.heap/\(∀ b∈fp,H' b=none)/\W i m σ' H':=λ{σ7 H7} I7 n7=>by
   obtain ⟨m',hm,w7⟩:=hN σ7 H7 n7
   refine ⟨m',hm,i+1,σ7,H7,I7.unpinned,T.keep _ _ _ st5 λb hb o e=>(I7.pin (b,o) (V0 _ (V0 _ (EM hb e)))).1,λb hb=>?_,w7⟩
   obtain ⟨o,e,d⟩:=T.obj _ _ st5 b hb
   exact (I7.pin (b,o) (V0 _ (V0 _ (EM hb e)))).2.1
  cases f with
  |next=>obtain ⟨σ7,H7,I7,n7⟩:=q7;exact again I7 n7
  |cont=>obtain ⟨σ7,H7,I7,n7⟩:=q7;exact again I7 n7
  |brk=>obtain ⟨σ7,H7,I7,q7⟩:=q7;exact ⟨σ7,H7,I7.unpinned,q7⟩
  |ret v=>obtain ⟨x7,σ7,H7,I7,r7,q7⟩:=q7;exact ⟨x7,σ7,H7,I7.unpinned,r7,q7⟩
end

theorem SB {K:K0} {a:Addr} {xs:List V} {g:TG} {tb:TS} {D:JC} {σ:St} {H:Hp} (Pv:Nat->St->Hp->Prop) (h0:Pv 0 σ H) (hl:∀ i σ H,i<=xs.length->Pv i σ H->AH K H a xs)
  (hs:∀ i x σ H,xs[i]?=some x->Pv i σ H->g x σ H λσ2 H2=>tb { D with nx:=Pv (i+1),ct:=Pv (i+1),bk:=D.nx } σ2 H2) (hd:∀ σ H,Pv xs.length σ H->D.nx σ H) :
  ∃ W:Nat->Nat->St->Hp->Prop,(∃ m,W 0 m σ H)/\∀ i m σ H,W i m σ H ->
   ((Itl K a).stop i H/\D.nx σ H)\/((Itl K a).go i H/\∃ N:St->Hp->Prop,(∀ σ' H',N σ' H'->∃ m',m'<m/\W (i+1) m' σ' H')/\∀ x H',(Itl K a).yld i H x H'->g x σ H' λσ2 H2=>tb { D with nx:=N,ct:=N,bk:=D.nx } σ2 H2):=by
 refine ⟨λi m σ H=>m=xs.length-i/\i<=xs.length/\Pv i σ H,⟨xs.length,by simp,D2 _,h0⟩,?_⟩
 rintro i m σ H ⟨rfl,hi,p⟩
 have q:=hl i σ H hi p
 by_cases hlt:i<xs.length
 ·refine .inr ⟨⟨xs,xs[i],q,by simp [hlt]⟩,Pv (i+1),λσ' H' p'=>⟨xs.length-(i+1),by omega,rfl,hlt,p'⟩,λx H' y=>?_⟩
  obtain ⟨e,y⟩:=y
  subst e
  exact hs i x σ _ (y xs q) p
 ·have e:i=xs.length:=by omega
  subst e
  exact .inl ⟨⟨xs,q,P0 _⟩,hd σ H p⟩
theorem GX {K:K0} {a:Addr} {xs:List V} {g:TG} {tb:TS} {D:JC} {σ:St} {H:Hp} (Pv:Nat->St->Hp->Prop) (h0:Pv 0 σ H) (hl:∀ i σ H,i<=xs.length->Pv i σ H->BN K H a xs)
  (hs:∀ i x σ H,xs[i]?=some x->Pv i σ H->g x σ H λσ2 H2=>tb { D with nx:=Pv (i+1),ct:=Pv (i+1),bk:=D.nx } σ2 H2) (hd:∀ σ H,Pv xs.length σ H->D.nx σ H) :
  ∃ W:Nat->Nat->St->Hp->Prop,(∃ m,W 0 m σ H)/\∀ i m σ H,W i m σ H ->
   ((Itt K a).stop i H/\D.nx σ H)\/((Itt K a).go i H/\∃ N:St->Hp->Prop,(∀ σ' H',N σ' H'->∃ m',m'<m/\W (i+1) m' σ' H')/\∀ x H',(Itt K a).yld i H x H'->g x σ H' λσ2 H2=>tb { D with nx:=N,ct:=N,bk:=D.nx } σ2 H2):=by
 refine ⟨λi m σ H=>m=xs.length-i/\i<=xs.length/\Pv i σ H,⟨xs.length,by simp,D2 _,h0⟩,?_⟩
 rintro i m σ H ⟨rfl,hi,p⟩
 have q:=hl i σ H hi p
 by_cases hlt:i<xs.length
 ·refine .inr ⟨⟨xs,xs[i],q,by simp [hlt]⟩,Pv (i+1),λσ' H' p'=>⟨xs.length-(i+1),by omega,rfl,hlt,p'⟩,λx H' y=>?_⟩
  obtain ⟨e,y⟩:=y
  subst e
  exact hs i x σ _ (y xs q) p
 ·have e:i=xs.length:=by omega
  subst e
  exact .inl ⟨⟨xs,q,P0 _⟩,hd σ H p⟩
theorem HA {lo:Int} {n:Nat} {g:TG} {tb:TS} {D:JC} {σ:St} {H:Hp} (Pv:Nat->St->Hp->Prop) (h0:Pv 0 σ H)
  (hs:∀ i σ H,i<n->Pv i σ H->g (.int (lo+i)) σ H λσ2 H2=>tb { D with nx:=Pv (i+1),ct:=Pv (i+1),bk:=D.nx } σ2 H2) (hd:∀ σ H,Pv n σ H->D.nx σ H) :
  ∃ W:Nat->Nat->St->Hp->Prop,(∃ m,W 0 m σ H)/\∀ i m σ H,W i m σ H ->
   ((Itr lo n).stop i H/\D.nx σ H)\/((Itr lo n).go i H/\∃ N:St->Hp->Prop,(∀ σ' H',N σ' H'->∃ m',m'<m/\W (i+1) m' σ' H')/\∀ x H',(Itr lo n).yld i H x H'->g x σ H' λσ2 H2=>tb { D with nx:=N,ct:=N,bk:=D.nx } σ2 H2):=by
 refine ⟨λi m σ H=>m=n-i/\i<=n/\Pv i σ H,⟨n,by simp,D2 _,h0⟩,?_⟩
 rintro i m σ H ⟨rfl,hi,p⟩
 by_cases hlt:i<n
 ·refine .inr ⟨hlt,Pv (i+1),λσ' H' p'=>⟨n-(i+1),by omega,rfl,hlt,p'⟩,λx H' y=>?_⟩
  obtain ⟨e,y⟩:=y
  subst e y
  exact hs i σ _ hlt p
 ·have e:i=n:=by omega
  subst e
  exact .inl ⟨P0 _,hd σ H p⟩
theorem QJ {c:TT} {tb:TS} {D:JC} {σ:St} {H:Hp} (Pv:St->Hp->Prop) (μ:St->Hp->Nat) (h0:Pv σ H)
  (hs:∀ σ H,Pv σ H->c σ H λb H1=>if b=true then tb { D with nx:=λσ' H'=>Pv σ' H'/\μ σ' H'<μ σ H,ct:=λσ' H'=>Pv σ' H'/\μ σ' H'<μ σ H,bk:=D.nx } σ H1 else D.nx σ H1)
  (mono:∀ σ H Q Q',(∀ b H1,Q b H1->Q' b H1)->c σ H Q->c σ H Q'):QS c tb D σ H:=by
 refine ⟨λm σ H=>m=μ σ H/\Pv σ H,⟨_,rfl,h0⟩,?_⟩
 rintro m σ H ⟨rfl,p⟩
 refine mono σ H _ _ (λb H1 q=>?_) (hs σ H p)
 cases b with
 |true=>exact ⟨_,λσ' H' ⟨p',l⟩=>⟨_,l,rfl,p'⟩,q⟩
 |false=>exact q
end L2

namespace L2
open PySem PySem.Spec PyProof.Rows

abbrev R2:=V->V->Hp->VK->Prop
def Fw (X:Cx) (f:Value->Value->Sem Value) (r:R2):Prop :=
 ∀ (pins:List (Addr×Obj)) (s:Shared) (σ:St) (H:Hp) (x y:V) (v u:Value) (Q:VK),AK X pins σ H s->Bw x v->Bw y u->r x y H Q ->
  wpAny (model X.prog X.w) X.A (f v u) (EP X pins σ Q) X.xe s
def UnR (X:Cx) (f:Value->Sem Value) (r:V->Hp->VK->Prop):Prop :=
 ∀ (pins:List (Addr×Obj)) (s:Shared) (σ:St) (H:Hp) (x:V) (v:Value) (Q:VK),AK X pins σ H s->Bw x v->r x H Q ->
  wpAny (model X.prog X.w) X.A (f v) (EP X pins σ Q) X.xe s
def Ek (X:Cx) (f:Value) (r:List V->Hp->VK->Prop):Prop :=
 ∀ (pins:List (Addr×Obj)) (s:Shared) (σ:St) (H:Hp) (xs:List V) (us:List Value) (Q:VK),AK X pins σ H s->AW xs us->r xs H Q ->
  wpAny (model X.prog X.w) X.A (call f us) (EP X pins σ Q) X.xe s
def tOp (r:R2) (ta tb:TE):TE:=λσ H Q=>ta σ H λx H1=>tb σ H1 λy H2=>r x y H2 Q
def tUn (r:V->Hp->VK->Prop) (ta:TE):TE:=λσ H Q=>ta σ H λx H1=>r x H1 Q
def rI (C:Int->Int->Prop) (g:Int->Int->V):R2:=λx y H Q=>∃ i j,x=.int i/\y=.int j/\C i j/\Q (g i j) H
def rI0 (g:Int->Int->V):R2:=λx y H Q=>∃ i j,x=.int i/\y=.int j/\Q (g i j) H
def rU (g:Int->V):V->Hp->VK->Prop:=λx H Q=>∃ i,x=.int i/\Q (g i) H

section
variable {X:Cx} {a b c:Expr} {ta tb tc:TE} {pos:Pos}

theorem binT (ha:PE X a ta) (hb:PE X b tb) {pins:List (Addr×Obj)} {s:Shared} {σ:St} {H:Hp} {R:V->V->Hp->Prop} (I:AK X pins σ H s)
  (h:ta σ H λx H1=>tb σ H1 λy H2=>R x y H2) {Q:Value->Shared->Prop} {f:Value->Value->Sem Value}
  (hf:∀ v u s2 x y H2,AK X pins σ H2 s2->Bw x v->Bw y u->R x y H2->wpAny (model X.prog X.w) X.A (f v u) Q X.xe s2) :
  wpAny (model X.prog X.w) X.A (eval a X.env) (λv s₁=>wpAny (model X.prog X.w) X.A (eval b X.env) (λu s₂=>wpAny (model X.prog X.w) X.A (f v u) Q X.xe s₂) X.xe s₁) X.xe s:=by
 refine BC (ha pins s σ H _ I h) λv s1 ⟨x,H1,I1,r1,q1⟩=>?_
 refine BC (hb pins s1 σ H1 _ I1 q1) λu s2 ⟨y,H2,I2,r2,q2⟩=>?_
 exact hf v u s2 x y H2 I2 r1 r2 q2

theorem Am {op:Operator} {r:R2} (ho:Fw X (binaryOp op) r) (ha:PE X a ta) (hb:PE X b tb):PE X (.BinOp a op b pos) (tOp r ta tb):=by
 intro pins s σ H Q I h
 exact wpAny_BinOp (binT ha hb I h λv u s2 x y H2 I2 rx ry q=>ho pins s2 σ H2 x y v u Q I2 rx ry q)
theorem DC {op:UnaryOp} {r:V->Hp->VK->Prop} (ho:UnR X (unaryOp op) r) (ha:PE X a ta):PE X (.UnaryOp op a pos) (tUn r ta):=by
 intro pins s σ H Q I h
 exact UnaryOp_ (BC (ha pins s σ H _ I h) λv s1 ⟨x,H1,I1,r1,q1⟩=>ho pins s1 σ H1 x v Q I1 r1 q1)
theorem opI {f:Value->Value->Sem Value} {C:Int->Int->Prop} {g:Int->Int->Int}
  (rule:∀ (i j:Int) (t u:Tok) (s:Shared) (Q:Value->Shared->Prop) (E:Value->Shared->Prop),C i j->Q (.int (g i j) s.toks) { s with toks:=s.toks+1 }->wpAny (model X.prog X.w) X.A (f (.int i t) (.int j u)) Q E s) :
  Fw X f (rI C λi j=>.int (g i j)):=by
 intro pins s σ H x y v u Q I rx ry h
 obtain ⟨i,j,rfl,rfl,hc,q⟩:=h
 obtain ⟨t,rfl⟩:=rx
 obtain ⟨t',rfl⟩:=ry
 exact rule i j t t' s _ _ hc ⟨.int (g i j),H,I.tok _,⟨_,rfl⟩,q⟩
theorem opI0 {f:Value->Value->Sem Value} {g:Int->Int->Int}
  (rule:∀ (i j:Int) (t u:Tok) (s:Shared) (Q:Value->Shared->Prop) (E:Value->Shared->Prop),Q (.int (g i j) s.toks) { s with toks:=s.toks+1 }->wpAny (model X.prog X.w) X.A (f (.int i t) (.int j u)) Q E s) :
  Fw X f (rI0 λi j=>.int (g i j)):=by
 intro pins s σ H x y v u Q I rx ry h
 obtain ⟨i,j,rfl,rfl,q⟩:=h
 obtain ⟨t,rfl⟩:=rx
 obtain ⟨t',rfl⟩:=ry
 exact rule i j t t' s _ _ ⟨.int (g i j),H,I.tok _,⟨_,rfl⟩,q⟩
theorem opB0 {f:Value->Value->Sem Value} {g:Int->Int->Bool}
  (rule:∀ (i j:Int) (t u:Tok) (s:Shared) (Q:Value->Shared->Prop) (E:Value->Shared->Prop),Q (.bool (g i j)) s->wpAny (model X.prog X.w) X.A (f (.int i t) (.int j u)) Q E s) :
  Fw X f (rI0 λi j=>.bl (g i j)):=by
 intro pins s σ H x y v u Q I rx ry h
 obtain ⟨i,j,rfl,rfl,q⟩:=h
 obtain ⟨t,rfl⟩:=rx
 obtain ⟨t',rfl⟩:=ry
 exact rule i j t t' s _ _ ⟨.bl (g i j),H,I,rfl,q⟩

def CDiv (i j:Int):Prop:=0<j/\j<1073741824
def CMul (i j:Int):Prop:=(-(2 ^ 64)<i/\i<2 ^ 64)\/(-(2 ^ 64)<j/\j<2 ^ 64)
theorem CMul.ok {i j:Int} (h:CMul i j):IntMulOk i j:=by
 rcases h with ⟨h1,h2⟩ | ⟨h1,h2⟩
 ·exact .of_left (intBits_le_64 h1 h2)
 ·exact .of_right (intBits_le_64 h1 h2)
theorem Cb:Fw X (binaryOp .Add) (rI0 λi j=>.int (i+j)):=opI0 λ_ _ _ _ _ _ _ q=>add_int q
theorem Lf:Fw X (binaryOp .Sub) (rI0 λi j=>.int (i-j)):=opI0 λ_ _ _ _ _ _ _ q=>sub_int q
theorem Gr:Fw X (binaryOp .Mult) (rI CMul λi j=>.int (i*j)):=opI λ_ _ _ _ _ _ _ hc q=>mul_int q hc.ok
theorem Bk:Fw X (binaryOp .FloorDiv) (rI CDiv λi j=>.int (i / j)):=opI λi j _ _ _ _ _ hc q=>by
 have h1:(0:Int)<j:=hc.1
 have h2:j<1073741824:=hc.2
 exact floordiv_int (by omega) (by rw [Int.fdiv_eq_ediv_of_nonneg i (by omega)];exact q) (.inl (PyProof.noPylong_small (by omega)))
theorem AU:Fw X (binaryOp .Mod) (rI (λ_ j=>0<j) λi j=>.int (i%j)):=opI λi j _ _ _ _ _ hc q=>by
 have h1:(0:Int)<j:=hc
 exact mod_int' (by omega) (by rw [Int.fmod_eq_emod_of_nonneg i (by omega)];exact q)
theorem unI {f:Value->Sem Value} {g:Int->Int}
  (rule:∀ (i:Int) (t:Tok) (s:Shared) (Q:Value->Shared->Prop) (E:Value->Shared->Prop),Q (.int (g i) s.toks) { s with toks:=s.toks+1 }->wpAny (model X.prog X.w) X.A (f (.int i t)) Q E s) :
  UnR X f (rU λi=>.int (g i)):=by
 intro pins s σ H x v Q I rx h
 obtain ⟨i,rfl,q⟩:=h
 obtain ⟨t,rfl⟩:=rx
 exact rule i t s _ _ ⟨.int (g i),H,I.tok _,⟨_,rfl⟩,q⟩
theorem CD:UnR X (unaryOp .USub) (rU λi=>.int (-i)):=unI λ_ _ _ _ _ q=>neg_int q
end

def scal:V->V->Bool
 |.non,.non=>true | .non,.int _=>true | .int _,.non=>true | .non,.bl _=>true | .bl _,.non=>true | .non,.str _=>true | .str _,.non=>true
 |.int _,.int _=>true | .bl _,.bl _=>true | .str _,.str _=>true | .byt _,.byt _=>true
 |.int _,.str _=>true | .str _,.int _=>true | .bl _,.str _=>true | .str _,.bl _=>true
 |_,_=>false
def rEq:R2:=λx y H Q=>scal x y=true/\Q (.bl (decide (x=y))) H
def rNe:R2:=λx y H Q=>scal x y=true/\Q (.bl (!decide (x=y))) H

theorem Pn {i j:Int}:decide (V.int i=V.int j)=(i == j):=by
 rw [k5]
 simp
theorem SM {i j:Bool}:decide (V.bl i=V.bl j)=(i == j):=by
 rw [k5]
 simp
theorem Pm {i j:Str}:decide (V.str i=V.str j)=(i == j):=by
 rw [k5]
 simp
theorem Po {i j:Array UInt8}:decide (V.byt i=V.byt j)=(i.toList == j.toList):=by
 rw [k5]
 cases i
 cases j
 simp

section
variable {X:Cx} {a b c:Expr} {ta tb tc:TE} {pos:Pos}
theorem Bb {pins:List (Addr×Obj)} {σ:St} {H:Hp} {s:Shared} {Q:VK} {k k':Bool} (I:AK X pins σ H s) (q:Q (.bl k) H) (e:k=k'):EP X pins σ Q (.bool k') s:=by
 subst e
 exact ⟨.bl k,H,I,rfl,q⟩
theorem Bg:Fw X (compareOp .Eq) rEq:=by
 intro pins s σ H x y v u Q I rx ry h
 obtain ⟨hs,q⟩:=h
 cases x with
 |non =>
  cases rx
  cases y with
  |non=>cases ry;exact PySem.EqNone.eq_none_none (Bb I q (by simp))
  |bl j=>cases ry;exact PySem.EqNone.eq_none_bool (Bb I q (by simp))
  |int j=>obtain ⟨t',rfl⟩:=ry;exact PySem.EqNone.eq_none_int (Bb I q (by simp))
  |str j=>obtain ⟨t',rfl⟩:=ry;exact PySem.EqNone.eq_none_str (Bb I q (by simp))
  |_=>exact absurd (show false=true from hs) N0
 |bl i =>
  cases rx
  cases y with
  |non=>cases ry;exact PySem.EqNone.eq_bool_none (Bb I q (by simp))
  |bl j=>cases ry;exact eq_bool (Bb I q SM)
  |str j=>obtain ⟨t',rfl⟩:=ry;exact PySem.EqMixed.eq_bool_str (Bb I q (by simp))
  |_=>exact absurd (show false=true from hs) N0
 |int i =>
  obtain ⟨t,rfl⟩:=rx
  cases y with
  |non=>cases ry;exact PySem.EqNone.eq_int_none (Bb I q (by simp))
  |int j=>obtain ⟨t',rfl⟩:=ry;exact eq_int (Bb I q Pn)
  |str j=>obtain ⟨t',rfl⟩:=ry;exact PySem.EqMixed.eq_int_str (Bb I q (by simp))
  |_=>exact absurd (show false=true from hs) N0
 |str i =>
  obtain ⟨t,rfl⟩:=rx
  cases y with
  |non=>cases ry;exact PySem.EqNone.eq_str_none (Bb I q (by simp))
  |bl j=>cases ry;exact PySem.EqMixed.eq_str_bool (Bb I q (by simp))
  |int j=>obtain ⟨t',rfl⟩:=ry;exact PySem.EqMixed.eq_str_int (Bb I q (by simp))
  |str j=>obtain ⟨t',rfl⟩:=ry;exact eq_str (Bb I q Pm)
  |_=>exact absurd (show false=true from hs) N0
 |byt i =>
  obtain ⟨t,rfl⟩:=rx
  cases y with
  |byt j=>obtain ⟨t',rfl⟩:=ry;exact PySem.W.eq_bytes (Bb I q Po)
  |_=>exact absurd (show false=true from hs) N0
 |_=>cases y<;>exact absurd (show false=true from hs) N0
theorem GL:Fw X (compareOp .NotEq) rNe:=by
 intro pins s σ H x y v u Q I rx ry h
 obtain ⟨hs,q⟩:=h
 cases x with
 |non =>
  cases rx
  cases y with
  |non=>cases ry;exact PySem.EqNone.ne_none_none (Bb I q (by simp))
  |bl j=>cases ry;exact PySem.EqNone.ne_none_bool (Bb I q (by simp))
  |int j=>obtain ⟨t',rfl⟩:=ry;exact PySem.EqNone.ne_none_int (Bb I q (by simp))
  |str j=>obtain ⟨t',rfl⟩:=ry;exact PySem.EqNone.ne_none_str (Bb I q (by simp))
  |_=>exact absurd (show false=true from hs) N0
 |bl i =>
  cases rx
  cases y with
  |non=>cases ry;exact PySem.EqNone.ne_bool_none (Bb I q (by simp))
  |bl j=>cases ry;exact ne_bool (Bb I q (congrArg not SM))
  |str j=>obtain ⟨t',rfl⟩:=ry;exact PySem.EqMixed.ne_bool_str (Bb I q (by simp))
  |_=>exact absurd (show false=true from hs) N0
 |int i =>
  obtain ⟨t,rfl⟩:=rx
  cases y with
  |non=>cases ry;exact PySem.EqNone.ne_int_none (Bb I q (by simp))
  |int j=>obtain ⟨t',rfl⟩:=ry;exact ne_int (Bb I q (congrArg not Pn))
  |str j=>obtain ⟨t',rfl⟩:=ry;exact PySem.EqMixed.ne_int_str (Bb I q (by simp))
  |_=>exact absurd (show false=true from hs) N0
 |str i =>
  obtain ⟨t,rfl⟩:=rx
  cases y with
  |non=>cases ry;exact PySem.EqNone.ne_str_none (Bb I q (by simp))
  |bl j=>cases ry;exact PySem.EqMixed.ne_str_bool (Bb I q (by simp))
  |int j=>obtain ⟨t',rfl⟩:=ry;exact PySem.EqMixed.ne_str_int (Bb I q (by simp))
  |str j=>obtain ⟨t',rfl⟩:=ry;exact ne_str (Bb I q (congrArg not Pm))
  |_=>exact absurd (show false=true from hs) N0
 |byt i =>
  obtain ⟨t,rfl⟩:=rx
  cases y with
  |byt j=>obtain ⟨t',rfl⟩:=ry;exact PySem.W.ne_bytes (Bb I q (congrArg not Po))
  |_=>exact absurd (show false=true from hs) N0
 |_=>cases y<;>exact absurd (show false=true from hs) N0

theorem Gf:Fw X (compareOp .Lt) (rI0 λi j=>.bl (decide (i<j))):=opB0 λ_ _ _ _ _ _ _ q=>lt_int q
theorem GM:Fw X (compareOp .LtE) (rI0 λi j=>.bl (decide (i<=j))):=opB0 λ_ _ _ _ _ _ _ q=>le_int q
theorem Kl:Fw X (compareOp .Gt) (rI0 λi j=>.bl (decide (j<i))):=opB0 λ_ _ _ _ _ _ _ q=>gt_int q
theorem NP:Fw X (compareOp .Is) (λx y H Q=>y=.non/\Q (.bl (decide (x=.non))) H):=by
 intro pins s σ H x y v u Q I rx ry h
 obtain ⟨rfl,q⟩:=h
 cases ry
 refine is_none_gen (Bb I q ?_)
 cases x<;>first
  | (cases rx;rfl)
  | (obtain ⟨t,rfl⟩:=rx;rfl)
theorem op_notN:Fw X (compareOp .IsNot) (λx y H Q=>y=.non/\Q (.bl (!decide (x=.non))) H):=by
 intro pins s σ H x y v u Q I rx ry h
 obtain ⟨rfl,q⟩:=h
 cases ry
 refine isnot_none_gen (Bb I q ?_)
 cases x<;>first
  | (cases rx;rfl)
  | (obtain ⟨t,rfl⟩:=rx;rfl)

theorem At (b:Expr) {op:CmpOp} (h:op≠.In:=by decide) (h2:op≠.NotIn:=by decide):behindInMarks op b=false:=by
 have e1:(op == CmpOp.In)=false:=by cases op<;>first | rfl | exact absurd rfl h
 have e2:(op == CmpOp.NotIn)=false:=by cases op<;>first | rfl | exact absurd rfl h2
 cases b<;>simp [behindInMarks,e1,e2]
theorem BZ {op:CmpOp} {r:R2} (ho:Fw X (compareOp op) r) (ha:PE X a ta) (hb:PE X b tb) (hm:behindInMarks op b=false):PE X (.Compare a [op] [b] pos) (tOp r ta tb):=by
 intro pins s σ H Q I h
 exact wpAny_Compare1 (binT ha hb I h λv u s2 x y H2 I2 rx ry q=>ho pins s2 σ H2 x y v u Q I2 rx ry q) hm
def QT (t:TE):TT:=λσ H Q=>t σ H λx H'=>∃ k,x=.bl k/\Q k H'
theorem Ak {op:CmpOp} {r:R2} (ho:Fw X (compareOp op) r) (ha:PE X a ta) (hb:PE X b tb) (hm:behindInMarks op b=false):PT X (.Compare a [op] [b] pos) (QT (tOp r ta tb)):=by
 intro pins s σ H Q I h
 refine wpAny_isTrue_Compare1 (BC (ha pins s σ H _ I h) λv s1 ⟨x,H1,I1,r1,q1⟩=>BC (hb pins s1 σ H1 _ I1 q1) λu s2 ⟨y,H2,I2,r2,q2⟩ =>
  BC (ho pins s2 σ H2 x y v u _ I2 r1 r2 q2) λc s3 ⟨z,H3,I3,r3,k,e,q3⟩=>?_) hm
 subst e
 cases r3
 exact wpAny_truthy_bool ⟨H3,I3,q3⟩
def Ny (r r':R2) (ta tb tc:TE):TE:=λσ H Q=>ta σ H λx H1=>tb σ H1 λy H2=>r x y H2 λz H3=>∃ k,z=.bl k /\
 (if k=true then tc σ H3 λw' H4=>r' y w' H4 Q else Q (.bl false) H3)
theorem IU {op op':CmpOp} {r r':R2} (ho:Fw X (compareOp op) r) (ho':Fw X (compareOp op') r') (ha:PE X a ta) (hb:PE X b tb) (hc:PE X c tc)
  (hm:lastMarks [op,op'] [b,c]=false:=by with_unfolding_all rfl):PE X (.Compare a [op,op'] [b,c] pos) (Ny r r' ta tb tc):=by
 intro pins s σ H Q I h
 refine Compare_chain (BC (ha pins s σ H _ I h) λv s1 ⟨x,H1,I1,r1,q1⟩=>chain_link (BC (hb pins s1 σ H1 _ I1 q1) λu s2 ⟨y,H2,I2,r2,q2⟩ =>
  BC (ho pins s2 σ H2 x y v u _ I2 r1 r2 q2) λd s3 ⟨z,H3,I3,r3,k,e,q3⟩=>?_)) hm
 subst e
 cases r3
 refine wpAny_truthy_bool ?_
 cases k with
 |false=>exact ite_ff ⟨.bl false,H3,I3,rfl,q3⟩
 |true=>exact ite_tt (chain_last (BC (hc pins s3 σ H3 _ I3 q3) λw' s4 ⟨z',H4,I4,r4,q4⟩=>ho' pins s4 σ H4 y z' u w' Q I4 r2 r4 q4))
theorem IR {op op':CmpOp} {r r':R2} (ho:Fw X (compareOp op) r) (ho':Fw X (compareOp op') r') (ha:PE X a ta) (hb:PE X b tb) (hc:PE X c tc)
  (hm:lastMarks [op,op'] [b,c]=false:=by with_unfolding_all rfl):PT X (.Compare a [op,op'] [b,c] pos) (QT (Ny r r' ta tb tc)):=by
 intro pins s σ H Q I h
 refine isTrue_chain (BC (ha pins s σ H _ I h) λv s1 ⟨x,H1,I1,r1,q1⟩=>test_link (BC (hb pins s1 σ H1 _ I1 q1) λu s2 ⟨y,H2,I2,r2,q2⟩ =>
  BC (ho pins s2 σ H2 x y v u _ I2 r1 r2 q2) λd s3 ⟨z,H3,I3,r3,k,e,q3⟩=>?_)) hm
 subst e
 cases r3
 refine wpAny_truthy_bool ?_
 cases k with
 |false =>
  obtain ⟨k',e',q'⟩:=q3
  cases e'
  exact ite_ff ⟨H3,I3,q'⟩
 |true =>
  refine ite_tt (test_last (BC (hc pins s3 σ H3 _ I3 q3) λw' s4 ⟨z',H4,I4,r4,q4⟩=>BC (ho' pins s4 σ H4 y z' u w' _ I4 r2 r4 q4) λd' s5 ⟨z2,H5,I5,r5,k2,e2,q5⟩=>?_))
  subst e2
  cases r5
  exact wpAny_truthy_bool ⟨H5,I5,q5⟩

theorem Lq:(sizeLine:Nat)<2 ^ 63:=by rw [sizeLine_eq];decide
theorem Ca:Fw X (binaryOp .Add) (λx y H Q=>∃ i j,x=.str i/\y=.str j/\i.length+j.length<=sizeLine/\Q (.str (i++j)) H):=by
 intro pins s σ H x y v u Q I rx ry h
 obtain ⟨i,j,rfl,rfl,hz,q⟩:=h
 obtain ⟨t,rfl⟩:=rx
 obtain ⟨t',rfl⟩:=ry
 exact add_str (λt' tk=>⟨.str (i++j),H,I.tok _,⟨_,rfl⟩,q⟩) hz
theorem Er {x:V} {us:List Value} (r:AW [x] us):∃ u,us=[u]/\Bw x u:=by
 cases r with
 |cons r1 r2=>cases r2;exact ⟨_,rfl,r1⟩
theorem vals2 {x y:V} {us:List Value} (r:AW [x,y] us):∃ u w',us=[u,w']/\Bw x u/\Bw y w':=by
 cases r with
 |cons r1 r2 =>
  cases r2 with
  |cons r3 r4=>cases r4;exact ⟨_,_,rfl,r1,r3⟩
theorem HF:Ek X (.type "int") (λxs H Q=>(∃ i,xs=[.int i]/\Q (.int i) H)\/∃ k,xs=[.bl k]/\Q (.int (if k then 1 else 0)) H):=by
 intro pins s σ H xs us Q I r h
 rcases h with ⟨i,rfl,q⟩ | ⟨k,rfl,q⟩
 ·obtain ⟨u,rfl,t,rfl⟩:=Er r
  exact call_int_int ⟨.int i,H,I,⟨_,rfl⟩,q⟩
 ·obtain ⟨u,rfl,r1⟩:=Er r
  cases r1
  exact call_int_bool ⟨.int (if k then 1 else 0),H,I.tok _,⟨_,rfl⟩,q⟩
def OA (K:K0) (x:V) (H:Hp) (n:Nat):Prop :=
 match x with
 |.str y=>y.length<=sizeLine/\n=y.length
 |.byt y=>y.size<=sizeLine/\n=y.size
 |.ref p=>(∃ xs,AH K H p xs/\n=xs.length)\/∃ xs,BN K H p xs/\n=xs.length
 |_=>False
theorem AX:Ek X (.builtin "len") (λxs H Q=>∃ x n,xs=[x]/\OA X.K x H n/\Q (.int n) H):=by
 intro pins s σ H xs us Q I r h
 obtain ⟨x,n,rfl,e,q⟩:=h
 obtain ⟨u,rfl,rx⟩:=Er r
 have hl:=Lq
 have hs:sizeLine=16777216:=sizeLine_eq
 cases x with
 |str y =>
  obtain ⟨t,rfl⟩:=rx
  obtain ⟨hy,e'⟩:y.length<=sizeLine/\n=y.length:=e
  subst e'
  exact len_str (by omega) ⟨.int _,H,I.tok _,⟨_,rfl⟩,q⟩
 |byt y =>
  obtain ⟨t,rfl⟩:=rx
  obtain ⟨hy,e'⟩:y.size<=sizeLine/\n=y.size:=e
  subst e'
  exact PySem.W.len_bytes (by omega) ⟨.int _,H,I.tok _,⟨_,rfl⟩,q⟩
 |ref p =>
  cases rx
  have e':(∃ xs,AH X.K H p xs/\n=xs.length)\/∃ xs,BN X.K H p xs/\n=xs.length:=e
  rcases e' with ⟨xs,hx,e'⟩ | ⟨xs,hx,e'⟩
  ·subst e'
   obtain ⟨its,r',pl,hz⟩:=I.list hx
   have hlen:=r'.length
   exact Calls.call_len_list pl.isList (by simp only [S0];omega) ⟨.int xs.length,H,I.tok _,⟨_,by simp only [S0];rw [hlen]⟩,q⟩
  ·subst e'
   obtain ⟨its,r',pl,hz⟩:=I.tuple hx
   have hlen:=r'.length
   exact len_tuple pl (by simp only [S0];omega) ⟨.int xs.length,H,I.tok _,⟨_,by simp only [S0];rw [hlen]⟩,q⟩
 |_=>exact (show False from e).elim
end
end L2

namespace L2
open PySem PySem.Spec PyProof.Rows

structure Oz (h:Heap) (x dx C:Addr) (mA:Str->Option Value):Prop where
 obj:h.get? x=some (V4 C dx)
 ns:h.Ns1 dx mA
 ne:dx≠x

theorem Qj {h:Heap} {dx:Addr} {mA:Str->Option Value} (n:h.Ns1 dx mA):∃ od,h.get? dx=some od/\∀ name,c6 name od=some (mA name):=by
 obtain ⟨o,es,ep,ho,hd,hk,_,hm⟩:=n
 refine ⟨o,ho,λname=>?_⟩
 have e:=hm name
 unfold nsFind findBy at e
 rw [<- Array.find?_toList] at e
 unfold c6
 rw [hd]
 dsimp only
 split
 ·rename_i y q
  rw [q] at e
  exact congrArg some e
 ·rename_i q
  rw [q] at e
  have a:es.toList.any (·.refKey)=false:=by
   rw [K7]
   intro y hy
   obtain ⟨z,t,hkey⟩:=hk y (Y8.mp hy)
   simp [DictEntry.refKey,hkey]
  have a':¬ es.toList.any (·.refKey)=true:=by rw [a];exact N0
  rw [if_neg a']
  exact congrArg some e

theorem Oz.look {h:Heap} {x dx C:Addr} {mA:Str->Option Value} (I:Oz h x dx C mA):∃ od,PySem.W.InstAt h x (V4 C dx) C (some od)/\∀ name,c6 name od=some (mA name) :=
 let ⟨od,ho,hl⟩:=Qj I.ns
 ⟨od,⟨I.obj,rfl,rfl,ho⟩,hl⟩

section
variable {prog:Program} {w:World} {A:Around} {E:Value->Shared->Prop} {s:Shared} {K:K0} {x dx C f:Addr} {mA:Str->Option Value} {name:Str} {v:Value}

theorem get_map {expr:Bool} {Q:Value->Shared->Prop} (X:K.In s.heap) (I:Oz s.heap x dx C mA) (hg:Y5 K C name=true) (hh:B6 K C=true)
  (ha:J2 K (.ref C) name=some none) (hv:mA name=some v) (hv':PySem.W.handedIn v=true) (h:Q v { s with toks:=s.toks+1 }) :
  wpAny (model prog w) A (getAttr (.ref x) name expr) Q E s:=by
 obtain ⟨od,J,hl⟩:=I.look
 exact PySem.W.get_value X J (k6 hg).1 (PySem.W.findObj_own hh ha rfl (by rw [hl,hv])) hv' h

theorem Sx {pl:Sem Bool} {Q:Value×List Value->Shared->Prop} (X:K.In s.heap) (I:Oz s.heap x dx C mA) (hg:Y5 K C name=true)
  (hf:J2 K (.ref C) name=some (some (.ref f))) (ht:N6 K (.ref f)=true) (hv:mA name=none) (h:Q (.ref f,[.ref x]) s) :
  wpAny (model prog w) A (getMethod (.ref x) name pl) Q E s:=by
 obtain ⟨od,J,hl⟩:=I.look
 exact PySem.W.method_fn X J (k6 hg).1 (k6 hg).2 hf (beq_iff_eq.mp ht) (by show (c6 name od).map (·.isSome)=some false;rw [hl,hv];rfl) h

theorem set_map {ns:List Str} {Q:Unit->Shared->Prop} (X:K.In s.heap) (I:Oz s.heap x dx C mA)
  (hs:J2 K (.ref C) "__setattr__"=some (some (.builtin "object.__setattr__"))) (hp:C7 K C=true) (ht:Q7 K C name=some none) (hh:B6 K C=true)
  (hw:PySem.Within mA ns) (hsz:ns.length<=sizeLine)
  (h:∀ h',Oz h' x dx C (λy=>if y=name then some v else mA y)->Heap.SameBut dx s.heap h'->Q () { s with heap:=h',toks:=s.toks+2 }) :
  wpAny (model prog w) A (setAttr (.ref x) name v) Q E s:=by
 obtain ⟨od,J,hl⟩:=I.look
 refine PySem.W.set_plain X J hs (PySem.W.osa_open (s:={ s with toks:=s.toks+1 }) (r:=none) X J hp ht λb=>?_)
 obtain ⟨cd,hc,hd'⟩:=PySem.W.any_some hh
 have hx:s.heap.get? x=some ⟨.ref C,some dx,.plain,#[]⟩:=I.obj
 refine wpAny_bind (wpAny_pure (wpAny_bind (wpAny_bind (wpAny_loadPart hx (wpAny_bind (PySem.W.Looks.here (s:={ s with toks:=s.toks+1 }) (PySem.W.looks_clsIn X hc) ?_))))))
 rw [hd']
 refine wpAny_pure (a:=some dx) (wpAny_bind (wpAny_pure (wpAny_bind ?_)))
 refine wpAny_nsSet1 (s:={ s with toks:=s.toks+1 }) I.ns λh' hn2 hs2=>?_
 obtain ⟨oD,esD,epD,hoD,hdD,hcD⟩:=hn2.count (PySem.Within.cons name v hw)
 refine wpAny_bind (wpAny_lookBehind hoD (by rw [hdD];exact pastItsLine_dict (Q0 hcD (by rw [J0];omega))) ?_)
 exact wpAny_pure (h _ ⟨(hs2.2 _ (Ne.symm I.ne)).trans I.obj,hn2,I.ne⟩ hs2)

theorem RZ {R:Result->Shared->Prop} {vs:List Value} {kw:List (Str×Value)} (X:K.In s.heap) (hm:S7 K C=true)
  (hi:J2 K (.ref C) "__init__"=some (some (.ref f))) (hf:PySem.W.typeIn K (.ref f)=some (.type "function"))
  (h:codeAny (model prog w) (A.under (.builtin "type.__call__" ⟨.ref C::vs,kw⟩)) (.call (.ref f) ⟨.ref (s.heap.objs.size+1)::vs,kw⟩) (PySem.W.InitBack (s.heap.objs.size+1) R)
   { s with heap:=(s.heap.push Z3).push (V4 C s.heap.objs.size) }) :
  codeAny (model prog w) A (.call (.ref C) ⟨vs,kw⟩) R s:=by
 obtain ⟨hh,g,d,t,os⟩:=s
 exact PySem.W.make_core (PySem.W.makes_of X hm) (PySem.W.looks_findIn X hi) (λself=>PySem.W.bind_fn X self hf) (.inl rfl) h
end

def Cq (f:Str) (v:V):List (Str×V)->List (Str×V)
 |[]=>[(f,v)]
 | (g,x)::r=>if g=f then (g,v)::r else (g,x)::Cq f v r
theorem CW (f g:Str) (v:V):∀ fs:List (Str×V),(Cq f v fs).lookup g=if g=f then some v else fs.lookup g
 |[]=>by
  show P4 g [(f,v)]=_
  by_cases h:g=f
  ·have hb:(g == f)=true:=beq_iff_eq.mpr h
   simp only [P4,hb,if_pos h]
  ·have hb:(g == f)=false:=beq_eq_false_iff_ne.mpr h
   simp only [P4,hb,if_neg h]
 | (k,x)::r=>by
  have ih:=CW f g v r
  rw [show Cq f v ((k,x)::r)=(if k=f then (k,v)::r else (k,x)::Cq f v r) from rfl]
  by_cases hk:k=f
  ·rw [if_pos hk]
   by_cases h:g=k
   ·have hb:(g == k)=true:=beq_iff_eq.mpr h
    simp only [P4,hb,if_pos (h.trans hk)]
   ·have hb:(g == k)=false:=beq_eq_false_iff_ne.mpr h
    simp only [P4,hb,if_neg (λe:g=f=>h (e.trans hk.symm))]
  ·rw [if_neg hk]
   by_cases h:g=k
   ·have hb:(g == k)=true:=beq_iff_eq.mpr h
    simp only [P4,hb,if_neg (λe:g=f=>hk (h.symm.trans e))]
   ·have hb:(g == k)=false:=beq_eq_false_iff_ne.mpr h
    simp only [P4,hb]
    exact ih
theorem Hy (f:Str) (v:V):∀ fs:List (Str×V),f∈(Cq f v fs).map (·.1)/\∀ g,g∈fs.map (·.1)->g∈(Cq f v fs).map (·.1)
 |[]=>⟨by simp [Cq],λg h=>by simp at h⟩
 | (k,x)::r=>by
  obtain ⟨i1,i2⟩:=Hy f v r
  rw [show Cq f v ((k,x)::r)=(if k=f then (k,v)::r else (k,x)::Cq f v r) from rfl]
  by_cases hk:k=f
  ·rw [if_pos hk]
   subst hk
   exact ⟨by simp,λg h=>by simpa using h⟩
  ·rw [if_neg hk]
   refine ⟨?_,λg h=>?_⟩
   ·rw [S1]
    exact A0 _ i1
   ·rw [S1] at h |-
    rcases L0.mp h with e | e
    ·exact L0.mpr (.inl e)
    ·exact A0 _ (i2 g e)
theorem Fj (f:Str) (v:V):∀ fs:List (Str×V),(Cq f v fs).length<=fs.length+1
 |[]=>by simp [Cq]
 | (k,x)::r=>by
  have ih:=Fj f v r
  rw [show Cq f v ((k,x)::r)=(if k=f then (k,v)::r else (k,x)::Cq f v r) from rfl]
  by_cases hk:k=f
  ·rw [if_pos hk,J0,J0];omega
  ·rw [if_neg hk,J0,J0];omega

theorem Ga.some_of {v:V} {o:Option Value} (r:Ga (some v) o):∃ u,o=some u/\Bw v u:=by
 cases o with
 |none=>exact (show False from r).elim
 |some u=>exact ⟨u,rfl,r⟩
theorem Ga.none_of {o:Option Value} (r:Ga none o):o=none:=by
 cases o with
 |none=>rfl
 |some u=>exact (show False from r).elim
theorem Qq {v:V} {u:Value} (r:Bw v u):PySem.W.handedIn u=true:=by
 cases v with
 |non=>cases (show u=Value.none from r);rfl
 |bl b=>cases (show u=Value.bool b from r);rfl
 |int i=>obtain ⟨t,e⟩:=(show ∃ t,u=Value.int i t from r);cases e;rfl
 |str x=>obtain ⟨t,e⟩:=(show ∃ t,u=Value.str x t from r);cases e;rfl
 |byt b=>obtain ⟨t,e⟩:=(show ∃ t,u=Value.bytes b t from r);cases e;rfl
 |flt b=>obtain ⟨t,e⟩:=(show ∃ t,u=Value.float b t from r);cases e;rfl
 |ref a=>cases (show u=Value.ref a from r);rfl
 |ty n=>cases (show u=Value.type n from r);rfl

section
variable {P:Program} {w:World} {H H':Hp} {h h':Heap} {a C dx:Addr} {fs fs':List (Str×V)}
theorem Ix (hok:IA P w H h) (e:H a=some (.ins C dx fs)):∃ mA,Oz h a dx C mA/\(∀ f,Ga (fs.lookup f) (mA f))/\PySem.Within mA (fs.map (·.1))/\fs.length<=1000/\H dx=some (.own a):=by
 obtain ⟨d,z,ne,ob,mA,n,r,q⟩:=(show Cm P w H h a (.ins C dx fs) from hok a _ e)
 exact ⟨mA,⟨ob,n,ne⟩,r,q,z,d⟩
end

structure Nl (K:K0) (C:Addr):Prop where
 pg:Y5 K C Str.empty=true
 hd:B6 K C=true
 po:C7 K C=true
 sa:J2 K (.ref C) "__setattr__"=some (some (.builtin "object.__setattr__"))
theorem Nl.get {K:K0} {C:Addr} (c:Nl K C) (f:Str):Y5 K C f=true:=c.pg
def Cv (K:K0) (C:Addr) (f:Str):Prop:=J2 K (.ref C) f=some none
theorem Cv.taker {K:K0} {C:Addr} {f:Str} (n:Cv K C f):Q7 K C f=some none:=by
 unfold Q7
 rw [show J2 K (.ref C) f=some none from n]
 rfl
structure Meth (K:K0) (C:Addr) (m:Str) (f:Addr):Prop where
 at_:J2 K (.ref C) m=some (some (.ref f))
 fn:N6 K (.ref f)=true
 kp:X3 K (.ref f)=true

section
variable {X:Cx} {pins:List (Addr×Obj)} {σ:St} {H:Hp} {s:Shared} {a C dx:Addr} {fs:List (Str×V)} {f:Str} {v:V} {A:Around} {E:Value->Shared->Prop}

theorem Og {b:Bool} {Q:Value->Shared->Prop} (I:AK X pins σ H s) (e:H a=some (.ins C dx fs)) (c:Nl X.K C) (n:Cv X.K C f) (l:fs.lookup f=some v)
  (h:∀ u s',AK X pins σ H s'->Bw v u->Q u s'):wpAny (model X.prog X.w) A (getAttr (.ref a) f b) Q E s:=by
 obtain ⟨mA,O,r,_,_,_⟩:=Ix I.hok e
 obtain ⟨u,hu,ru⟩:=Ga.some_of (v:=v) (o:=mA f) (by rw [<- l];exact r f)
 exact get_map I.kIn O (c.get f) c.hd n hu (Qq ru) (h u _ (I.tok _) ru)

theorem Jq {m:Str} {g:Addr} {pl:Sem Bool} {Q:Value×List Value->Shared->Prop} (I:AK X pins σ H s) (e:H a=some (.ins C dx fs)) (c:Nl X.K C) (k:Meth X.K C m g) (l:fs.lookup m=none)
  (h:Q (.ref g,[.ref a]) s):wpAny (model X.prog X.w) A (getMethod (.ref a) m pl) Q E s:=by
 obtain ⟨mA,O,r,_,_,_⟩:=Ix I.hok e
 have hn:mA m=none:=Ga.none_of (by rw [<- l];exact r m)
 exact Sx I.kIn O (c.get m) k.at_ k.fn hn h

theorem NG {y:V} {u:Value} {Q:Unit->Shared->Prop} (I:AK X pins σ H s) (e:H a=some (.ins C dx fs)) (c:Nl X.K C) (n:Cv X.K C f) (hl:fs.length<1000) (ry:Bw y u)
  (h:∀ s',AK X pins σ (upd H a (.ins C dx (Cq f y fs))) s'->Q () s'):wpAny (model X.prog X.w) A (setAttr (.ref a) f u) Q E s:=by
 obtain ⟨mA,O,r,wi,_,ho⟩:=Ix I.hok e
 have hz:(fs.map (·.1)).length<=sizeLine:=by rw [D0,sizeLine_eq];omega
 refine set_map I.kIn O c.sa c.po n.taker c.hd wi hz λh' O' sb=>h _ ?_
 have hd:∃ o,h'.get? dx=some o:=let ⟨o,_,_,e',_⟩:=O'.ns;⟨o,e'⟩
 refine I.write (x:=a) (e:=dx) (by rw [e];exact True.intro) (.inr ho) (λb q hb z=>(sb.2 b hb).trans z) hd ?_
 refine ⟨by rw [Aq O.ne];exact ho,?_,O.ne,O'.obj,_,O'.ns,λg=>?_,λg hg=>?_⟩
 ·have:=Fj f y fs;omega
 ·show Ga ((Cq f y fs).lookup g) (if g=f then some u else mA g)
  rw [CW]
  by_cases q:g=f
  ·rw [if_pos q,if_pos q];exact ry
  ·rw [if_neg q,if_neg q];exact r g
 ·by_cases q:g=f
  ·rw [q];exact (Hy f y fs).1
  ·refine (Hy f y fs).2 g (wi g λz=>hg ?_)
   show (if g=f then some u else mA g)=none
   rw [if_neg q];exact z

theorem AK.made (I:AK X pins σ H s):AK X pins σ (upd (upd H s.heap.objs.size (.own (s.heap.objs.size+1))) (s.heap.objs.size+1) (.ins C s.heap.objs.size []))
  { s with heap:=(s.heap.push Z3).push (V4 C s.heap.objs.size) }:=by
 have e1:(s.heap.push Z3).get? s.heap.objs.size=some Z3:=Heap.get?_push_size s.heap rfl
 have e2:((s.heap.push Z3).push (V4 C s.heap.objs.size)).get? (s.heap.objs.size+1)=some (V4 C s.heap.objs.size):=by
  have:=Heap.get?_push_size (s.heap.push Z3) (o:=V4 C s.heap.objs.size) rfl
  rwa [Heap.size_push] at this
 have e3:(s.heap.push Z3).Ns s.heap.objs.size (λ_=>none):=⟨Z3,#[],_,e1,rfl,(λe he=>absurd he (by simp)),λ_=>rfl⟩
 have I1:=I.laid (a:=s.heap.objs.size) (o:=.own (s.heap.objs.size+1)) (h':=s.heap.push Z3) (t':=s.toks) (λb u q=>Heap.get?_push_of_some _ q) (P0 _) ⟨_,e1⟩
 refine I1.laid (a:=s.heap.objs.size+1) (o:=.ins C s.heap.objs.size []) (t':=s.toks) (λb u q=>Heap.get?_push_of_some _ q) (S6 (Heap.size_push _ _)) ?_
 have ne:s.heap.objs.size≠s.heap.objs.size+1:=P1 (c5 _)
 refine ⟨by rw [Aq ne,Ac],D2 _,ne,e2,λ_=>none,(Heap.Ns1.of_empty e3).at λo q=>Heap.get?_push_of_some _ q,λ_=>True.intro,λy hy=>absurd rfl hy⟩

theorem attr_of {prog:Program} {w:World} {env:Env} {e:Expr} {f:Str} {pos:Pos} {s:Shared} {Q:Value->Shared->Prop} (hb:attributeBase e f env (eval e env)=eval e env)
  (h:wpAny (model prog w) A (eval e env) (λo s₁=>wpAny (model prog w) A (getAttr o f true) Q E s₁) E s):wpAny (model prog w) A (eval (.Attribute e f pos) env) Q E s :=
 Attribute_any_ h (by rw [arm_eval_Attribute,hb])
end

def QX (K:K0) (ta:TE) (f:Str):TE:=λσ H Q=>ta σ H λx H1=>∃ a C dx fs v,x=.ref a/\H1 a=some (.ins C dx fs)/\Nl K C/\Cv K C f/\fs.lookup f=some v/\Q v H1
def sFld (K:K0) (ta tv:TE) (f:Str):TS:=λD σ H=>tv σ H λy H1=>ta σ H1 λx H2=>∃ a C dx fs,x=.ref a/\H2 a=some (.ins C dx fs)/\Nl K C/\Cv K C f/\fs.length<1000 /\
 D.nx σ (upd H2 a (.ins C dx (Cq f y fs)))
section
variable {X:Cx} {o e value:Expr} {f:Str} {pos pos' tpos:Pos} {ta tv:TE}
theorem Bh (he:PE X e ta) (hb:attributeBase e f X.env (eval e X.env)=eval e X.env):PE X (.Attribute e f pos) (QX X.K ta f):=by
 intro pins s σ H Q I h
 refine attr_of hb (BC (he pins s σ H _ I h) λu s1 ⟨x,H1,I1,rx,a,C,dx,fs,v,ex,ea,c,n,l,q⟩=>?_)
 subst ex
 obtain rfl:u=Value.ref a:=rx
 exact Og I1 ea c n l λu' s2 I2 ru=>⟨v,H1,I2,ru,q⟩
theorem En (ha:PE X o ta) (hv:PE X value tv) (hs:swapsWith value (some (.Attribute o f pos')) pos.line X.env=pure false):PS X (.Assign [.Attribute o f pos'] value pos) (sFld X.K ta tv f):=by
 intro pins s σ H D I h
 refine plainObj_wpAny_Assign_Attribute (BC (hv pins s σ H _ I h) λu s1 ⟨y,H1,I1,ry,q⟩=>BC (ha pins s1 σ H1 _ I1 q) λov s2 ⟨x,H2,I2,rx,a,C,dx,fs,ex,ea,c,n,l,q2⟩=>?_) hs
 subst ex
 obtain rfl:ov=Value.ref a:=rx
 exact NG I2 ea c n l ry λs3 I3=>⟨σ,_,I3,q2⟩
end

section
variable {X:Cx} {pins:List (Addr×Obj)} {σ:St} {H:Hp} {s:Shared} {A:Around} {E:Value->Shared->Prop} {Q:Value->Shared->Prop} {c:Value} {b:Bool}
inductive Fv (K:K0) (H:Hp):V->Value->Prop where
 |non:Fv K H .non (.type "NoneType")
 |bl (x:Bool):Fv K H (.bl x) (.type "bool")
 |int (i:Int):Fv K H (.int i) (.type "int")
 |str (x:Str):Fv K H (.str x) (.type "str")
 |flt (x:UInt64):Fv K H (.flt x) (.type "float")
 |lst {a:Addr} {xs:List V} (e:H a=some (.lst xs)):Fv K H (.ref a) (.type "list")
 |frz {a:Addr} {o:Obj} {xs:List V} (e:H a=some (.frz o (.lst xs))):Fv K H (.ref a) (.type "list")
 |tup {a:Addr} {xs:List V} (e:H a=some (.tup xs)):Fv K H (.ref a) (.type "tuple")
 |dK {a:Addr} {kvs:List (DX×V)} (e:H a=some (.dK kvs)):Fv K H (.ref a) (.type "dict")
 |dT {a:Addr} {kvs:List (List DX×V)} (e:H a=some (.dT kvs)):Fv K H (.ref a) (.type "dict")
 |ins {a C dx:Addr} {fs:List (Str×V)} (e:H a=some (.ins C dx fs)) (cl:Nl K C) (ha:J2 K (.ref C) "__class__"=some (some (.builtin "object.__class__")))
   (hn:PySem.W.specialIn K (.builtin "object.__class__") "__get__"=some (some (.builtin "getset_descriptor.__get__"))) (htk:PySem.W.takesIn K (.builtin "object.__class__")=some true)
   (hm:PySem.W.mroIn K C (.type "object")=some true):Fv K H (.ref a) (.ref C)
theorem Qm {x:V} {u t:Value} (I:AK X pins σ H s) (rx:Bw x u) (ty:Fv X.K H x t) (e:Z4 X.K t c=some b) (h:∀ tk,Q (.bool b) { s with toks:=tk }) :
  wpAny (model X.prog X.w) A (call (.builtin "isinstance") [u,c]) Q E s:=by
 cases ty with
 |non=>cases (show u=Value.none from rx);exact Q3 PySem.W.kitx_none I.kIn True.intro e (λz=>nomatch z) h
 |bl y=>cases (show u=Value.bool y from rx);exact Q3 PySem.W.kitx_bool I.kIn True.intro e (λz=>nomatch z) h
 |int i=>obtain ⟨t,q⟩:=(show ∃ t,u=Value.int i t from rx);cases q;exact Q3 PySem.W.kitx_int I.kIn True.intro e (λz=>nomatch z) h
 |str y=>obtain ⟨t,q⟩:=(show ∃ t,u=Value.str y t from rx);cases q;exact Q3 PySem.W.kitx_str I.kIn True.intro e (λz=>nomatch z) h
 |flt y=>obtain ⟨t,q⟩:=(show ∃ t,u=Value.float y t from rx);cases q;exact Q3 PySem.W.kitx_float I.kIn True.intro e (λz=>nomatch z) h
 |@lst a xs ea =>
  cases (show u=Value.ref a from rx)
  obtain ⟨_,_,n,_,h1⟩:=(show Cm X.prog X.w H s.heap a (.lst xs) from I.hok a _ ea)
  exact Q3 PySem.W.kitx_list I.kIn ⟨_,h1,rfl⟩ e (λz=>nomatch z) h
 |@frz a ob xs ea =>
  cases (show u=Value.ref a from rx)
  obtain ⟨_,_,_,n,_,h1⟩:=(show Cm X.prog X.w H s.heap a (.frz ob (.lst xs)) from I.hok a _ ea)
  exact Q3 PySem.W.kitx_list I.kIn ⟨_,h1,rfl⟩ e (λz=>nomatch z) h
 |@tup a xs ea =>
  cases (show u=Value.ref a from rx)
  obtain ⟨_,_,_,p⟩:=(show Cm X.prog X.w H s.heap a (.tup xs) from I.hok a _ ea)
  obtain ⟨o,h1,h2,_⟩:=p
  exact Q3 PySem.W.kitx_tuple I.kIn ⟨o,h1,h2⟩ e (λz=>nomatch z) h
 |@dK a kvs ea =>
  cases (show u=Value.ref a from rx)
  obtain ⟨_,_,vs,_,p⟩:=(show Cm X.prog X.w H s.heap a (.dK kvs) from I.hok a _ ea)
  obtain ⟨o,es,ep,h1,h2,_⟩:=p
  exact Q3 PySem.W.kitx_dict I.kIn ⟨o,h1,h2.1⟩ e (λz=>nomatch z) h
 |@dT a kvs ea =>
  cases (show u=Value.ref a from rx)
  obtain ⟨_,_,xs,_,o,es,ep,h1,h2,_⟩:=(show Cm X.prog X.w H s.heap a (.dT kvs) from I.hok a _ ea)
  exact Q3 PySem.W.kitx_dict I.kIn ⟨o,h1,h2.1⟩ e (λz=>nomatch z) h
 |@ins a C dx fs ea cl ha hn htk hm =>
  cases (show u=Value.ref a from rx)
  obtain ⟨mA,O,_⟩:=Ix I.hok ea
  obtain ⟨od,J,_⟩:=O.look
  exact Q3 (PySem.W.kitx_own (cl.get _) cl.hd ha hn htk hm) I.kIn J e (λz=>nomatch z) h
end
end L2

namespace L2
open PySem PySem.Spec PyProof.Rows

structure Dz (k:Nat) (A:Around):Prop where
 hd:A.handled=none
 dp:A.depth+3*k+5<recursionLimit
 un:A.units+16*k+200<cLine
theorem Dz.mono {j k:Nat} {A:Around} (r:Dz k A) (h:j<=k):Dz j A:=⟨r.hd,by have:=r.dp;omega,by have:=r.un;omega⟩
theorem Dz.deeper {k:Nat} {A:Around} (r:Dz (k+1) A) (env:Env):Dz k (A.deeper env) :=
 ⟨r.hd,by have:=r.dp;show A.depth+1+3*k+5<_;omega,by have:=r.un;show A.units+3+16*k+200<_;omega⟩
theorem Oa {A:Around} {C:Addr} {us:List Value} {kw:List (Str×Value)}:(A.under (.builtin "type.__call__" ⟨.ref C::us,kw⟩)).depth=A.depth+1:=by
 first | rfl | simp [Around.under,Code.weight,Code.isCreation,Code.isGuard,Code.isCaller,Code.frames,Code.isFrame,guardIds]
theorem NZ {A:Around} {C:Addr} {us:List Value} {kw:List (Str×Value)}:(A.under (.builtin "type.__call__" ⟨.ref C::us,kw⟩)).units=A.units+1:=by
 first | rfl | simp [Around.under,Code.cUnits,Code.frames,Code.isFrame]
theorem Dz.make {k:Nat} {A:Around} (r:Dz (k+1) A) (C:Addr) (us:List Value) (kw:List (Str×Value)):Dz k (A.under (.builtin "type.__call__" ⟨.ref C::us,kw⟩)) :=
 ⟨r.hd,by have:=r.dp;rw [Oa];omega,by have:=r.un;rw [NZ];omega⟩
theorem Dz.depth {k:Nat} {A:Around} (r:Dz k A):A.depth<recursionLimit:=by have:=r.dp;omega
def Nx:TA:=λ_ H Q=>Q [] H
def JS (ta:TE) (tr:TA):TA:=λσ H Q=>ta σ H λx H1=>tr σ H1 λxs H2=>Q (x::xs) H2
section
variable {X:Cx} {e:Expr} {es:List Expr} {te:TE} {t:TA} {pos:Pos}
theorem Ab:PA X [] Nx:=λ_ _ _ _ H Q I h=>Calls.spliced_nil ⟨[],H,I,.nil,h⟩
theorem Aa (ha:PE X e te) (hr:PA X es t) (hs:starEach (e::es) X.env=(false,eval e X.env)::starEach es X.env:=by rfl):PA X (e::es) (JS te t):=by
 intro pos pins s σ H Q I h
 rw [hs]
 show wpAny _ _ (spliced ((false,eval e X.env)::backTo pos (starEach es X.env))) _ _ s
 refine Calls.spliced_cons (BC (ha pins s σ H _ I h) λu s1 ⟨x,H1,I1,r1,q1⟩=>?_)
 exact BC (hr pos pins s1 σ H1 _ I1 q1) λus s2 ⟨xs,H2,I2,r2,q2⟩=>⟨x::xs,H2,I2,.cons r1 r2,q2⟩

def tTup (t:TA):TE:=λσ H Q=>t σ H λxs H1=>xs.length<=sizeLine/\∀ p,H1 p=none->Q (.ref p) (upd H1 p (.tup xs))
def tLst (t:TA):TE:=λσ H Q=>t σ H λxs H1=>xs.length<=sizeLine/\∀ p,H1 p=none->Q (.ref p) (upd H1 p (.lst xs))
theorem Bl {x1} (h:PA X es t):PE X (.Tuple es x1 pos) (tTup t):=by
 intro pins s σ H Q I hq
 refine wpAny_Tuple_spliced (BC (h pos pins s σ H _ I hq) λus s1 ⟨xs,H1,I1,r,z,q⟩=>⟨by rw [<- r.length];exact z,?_⟩)
 have hf:H1 s1.heap.objs.size=none:=I1.hok.fresh (P0 _)
 refine ⟨.ref s1.heap.objs.size,upd H1 s1.heap.objs.size (.tup xs),I1.laid (t':=s1.toks) (λb u e=>Heap.get?_push_of_some _ e) (P0 _) ?_,rfl,q _ hf⟩
 exact ⟨z,us,r,⟨_,Heap.get?_push_size _ rfl,rfl,_,rfl⟩⟩
theorem Ai (h:PA X es t):PE X (.List es pos) (tLst t):=by
 intro pins s σ H Q I hq
 refine wpAny_List_spliced (BC (h pos pins s σ H _ I hq) λus s1 ⟨xs,H1,I1,r,z,q⟩=>⟨by rw [<- r.length];exact z,?_⟩)
 have hf:H1 s1.heap.objs.size=none:=I1.hok.fresh (P0 _)
 refine ⟨.ref s1.heap.objs.size,upd H1 s1.heap.objs.size (.lst xs),I1.laid (t':=s1.toks) (λb u e=>Heap.get?_push_of_some _ e) (P0 _) ?_,rfl,q _ hf⟩
 exact ⟨z,us,0,r,Heap.get?_push_size _ rfl⟩
end

abbrev Sp:=List V->Hp->VK->XK->Prop
abbrev OC:=List Env->Hp->Shared->XK->Value->Shared->Prop

structure OB (P:Program) (w:World) (K:K0) (mg:Str->Option Value) (base:Heap) (A:Around) (outer:List Env) (s:Shared) (H:Hp):Prop where
 frames:A.frames=some outer
 mod:Mod K mg base
 bs:∀ b o,base.get? b=some o->s.heap.get? b=some o/\H b=none
 bsz:base.objs.size<=s.heap.objs.size
 funs:s.heap.FunFrames base outer
 frf:∀ b∈Sy outer,H b=none
 hok:IA P w H s.heap
 bare:AllBare s.gens
def CE (outer:List Env) (P:Program) (w:World) (H:Hp) (s:Shared) (Q:VK) (u:Value) (s':Shared):Prop :=
 ∃ v H',s'.os=s.os/\AllBare s'.gens/\Un (Sy outer) [] H H' s.heap s'.heap/\IA P w H' s'.heap/\Bw v u/\Q v H'
def CR (CX:OC) (outer:List Env) (P:Program) (w:World) (H:Hp) (s:Shared) (Q:VK) (E:XK) (r:Result) (s':Shared):Prop :=
 match r with
 |.ok (.ret u)=>CE outer P w H s Q u s'
 |.ok _=>False
 |.error e=>CX outer H s E e s'
structure Au (P:Program) (w:World) (K:K0) (mg:Str->Option Value) (base:Heap) (CX:OC) (k:Nat) (f:Addr) (fd:FuncData) (ps:List Str) (sp:Sp):Prop where
 len:∀ vs H Q E,sp vs H Q E->vs.length=ps.length
 run:∀ (A:Around) (outer:List Env) (s:Shared) (H:Hp) (args:Args) (us:List Value) (vs:List V) (Q:VK) (E:XK),Dz k A->OB P w K mg base A outer s H->BindsTo s fd args (ps.zip us)->AW vs us->sp vs H Q E ->
  codeAny (model P w) A (.call (.ref f) args) (CR CX outer P w H s Q E) s
theorem OB.make {P:Program} {w:World} {K:K0} {mg:Str->Option Value} {base:Heap} {A:Around} {outer:List Env} {s:Shared} {H:Hp} (e:OB P w K mg base A outer s H) (C:Addr) (us:List Value) (kw:List (Str×Value)) :
  OB P w K mg base (A.under (.builtin "type.__call__" ⟨.ref C::us,kw⟩)) outer s H:=⟨by first | exact e.frames | (simpa [Around.under,Code.envs,Code.isFrame,pushEnvs] using e.frames),e.mod,e.bs,e.bsz,e.funs,e.frf,e.hok,e.bare⟩
section
variable {X:Cx} {pins:List (Addr×Obj)} {σ:St} {H:Hp} {s s':Shared}
theorem AK.env0 (I:AK X pins σ H s):OB X.prog X.w X.K X.mg X.base X.A X.stack s H :=
 ⟨I.ok.frames,I.ok.mod,I.bs,Q0 I.ok.bsz I.sz,I.stack,I.stkFree,I.hok,I.bare⟩
theorem AK.after {Q:VK} {u:Value} (I:AK X pins σ H s) (h:CE X.stack X.prog X.w H s Q u s'):EP X pins σ Q u s':=by
 obtain ⟨v,H',os,bare,un,hok,r,q⟩:=h
 obtain ⟨hh,g,d,t,os'⟩:=s'
 obtain rfl:os'=s.os:=os
 exact ⟨v,H',I.call (h':=hh) (g':=g) (d':=d) (t':=t) (ch:=[]) un hok bare (λb z=>absurd z (by simp)),r,q⟩
end

def OG (sp:Sp) (dvs:List V) (E:XK) (t:TA):TE:=λσ H Q=>t σ H λvs H1=>sp (vs++dvs) H1 Q E
def QU (C:Addr) (m:Str) (sp:Sp) (dvs:List V) (E:XK) (ta:TE) (t:TA):TE:=λσ H Q=>ta σ H λx H1=>∃ a dx fs,x=.ref a/\H1 a=some (.ins C dx fs)/\fs.lookup m=none /\
 t σ H1 λvs H2=>sp (x::(vs++dvs)) H2 Q E
def QV (C:Addr) (sp:Sp) (dvs:List V) (E:XK) (t:TA):TE:=λσ H Q=>t σ H λvs H1=>∀ x dx,H1 x=none->H1 dx=none->dx≠x ->
 sp (.ref x::(vs++dvs)) (upd (upd H1 dx (.own x)) x (.ins C dx [])) (λv H2=>v=.non/\Q (.ref x) H2) E

def ED (K:K0) (fd:FuncData) (ps:List Str) (ds:List Value):Prop :=
 ∀ (s:Shared) (us:List Value),K.In s.heap->(us++ds).length=ps.length->BindsTo s fd ⟨us,[]⟩ (ps.zip (us++ds))
theorem ED.all {K:K0} {fd:FuncData} {ps:List Str} (h:∀ us:List Value,us.length=ps.length->bindArgs fd ⟨us,[]⟩=pure (ps.zip us)):ED K fd ps []:=λs us _ hl=>by
 rw [o0] at hl |-
 exact .of_eq (h us hl)

def ER (CX:OC) (X:Cx) (E:XK):Prop:=∀ (pins:List (Addr×Obj)) (σ:St) (H:Hp) (s:Shared) (e:Value) (s':Shared),AK X pins σ H s->CX X.stack H s E e s'->X.xe e s'

section
variable {X:Cx} {CX:OC} {k:Nat} {f C:Addr} {fd:FuncData} {ps:List Str} {sp:Sp} {dvs:List V} {ds:List Value} {E:XK} {x m:Str} {p pos apos:Pos} {e o:Expr} {es:List Expr} {ta:TE} {t:TA}

theorem La {pins:List (Addr×Obj)} {σ:St} {H:Hp} {s:Shared} {Q:VK} {us:List Value} {vs:List V} (F:Au X.prog X.w X.K X.mg X.base CX k f fd ps sp) (hr:Dz k X.A) (hb:ED X.K fd ps ds) (hd:AW dvs ds) (hx:ER CX X E)
  (I:AK X pins σ H s) (r:AW vs us) (h:sp (vs++dvs) H Q E):wpAny (model X.prog X.w) X.A (call (.ref f) us) (EP X pins σ Q) X.xe s:=by
 have r2:AW (vs++dvs) (us++ds):=r.append hd
 have hl:(us++ds).length=ps.length:=by rw [<- r2.length];exact F.len _ _ _ _ h
 refine wpAny_call (codeAny_mono (F.run X.A X.stack s H ⟨us,[]⟩ (us++ds) (vs++dvs) Q E hr I.env0 (hb s us I.kIn hl) r2 h) λr s' hq=>?_)
 cases r with
 |error e=>exact hx pins σ H s e s' I hq
 |ok fl =>
  cases fl with
  |ret u=>exact I.after hq
  |next=>exact False.elim hq
  |brk=>exact False.elim hq
  |cont=>exact False.elim hq

theorem Ar (F:Au X.prog X.w X.K X.mg X.base CX k f fd ps sp) (hr:Dz k X.A) (hg:Gl X x) (hm:X.mg x=some (.ref f)) (hk:X3 X.K (.ref f)=true) (hb:ED X.K fd ps ds) (hd:AW dvs ds) (hx:ER CX X E)
  (ha:PA X (e::es) t) (hdb:(x == ("__debug__":Str))=false:=by decide) (he:starEach (e::es) X.env=(false,eval e X.env)::starEach es X.env:=by rfl) (hpl:(backTo pos (starEach es X.env)).any (·.1)=false:=by rfl) :
  PE X (.Call (.Name x p) (e::es) [] pos) (OG sp dvs E t):=by
 intro pins s σ H Q I h
 refine wpAny_Call_Name_kw (Iu I hg hm ?_ hdb)
 refine z5 (h₀:=X.base) I.ok.mod.kin hk (BC (ha pos pins s σ H _ I h) λus s1 ⟨vs,H1,I1,r,q⟩=>⟨I1.kIn,?_⟩) he hpl
 exact La F hr hb hd hx I1 r q
theorem Cl {pl:Sem Bool} (he:PE X o ta) (c:Nl X.K C) (hm:Meth X.K C m f) (F:Au X.prog X.w X.K X.mg X.base CX k f fd ps sp) (hr:Dz k X.A) (hb:ED X.K fd ps ds) (hd:AW dvs ds) (hx:ER CX X E) (ha:PA X (e::es) t)
  (hst:starEach (e::es) X.env=(false,eval e X.env)::starEach es X.env:=by rfl) (hpl:(backTo pos (starEach es X.env)).any (·.1)=false:=by rfl)
  (ht:eval (.Call (.Attribute o m apos) (e::es) [] pos) X.env=(do
   let ov <- eval o X.env
   standAt apos.atName
   let (f,first) <- holding [ov] (getMethod ov m pl)
   callWith pos f first (backTo pos (starEach (e::es) X.env)) (backToKw pos (keywordEach [] X.env))):=by rfl) :
  PE X (.Call (.Attribute o m apos) (e::es) [] pos) (QU C m sp dvs E ta t):=by
 intro pins s σ H Q I h
 refine O8 (pl:=pl) (BC (he pins s σ H _ I h) λu s1 ⟨x,H1,I1,rx,a,dx,fs,ex,ea,l,q⟩=>?_) ht
 subst ex
 obtain rfl:u=Value.ref a:=rx
 refine Jq I1 ea c hm l ?_
 refine z5 (first:=[.ref a]) (h₀:=X.base) I.ok.mod.kin hm.kp (BC (ha pos pins s1 σ H1 _ I1 q) λus s2 ⟨vs,H2,I2,r,q2⟩=>⟨I2.kIn,?_⟩) hst hpl
 exact La (us:=.ref a::us) (vs:=.ref a::vs) F hr hb hd hx I2 (.cons rfl r) q2
theorem GJ {pl:Sem Bool} (he:PE X o ta) (c:Nl X.K C) (hm:Meth X.K C m f) (F:Au X.prog X.w X.K X.mg X.base CX k f fd ps sp) (hr:Dz k X.A) (hb:ED X.K fd ps ds) (hd:AW dvs ds) (hx:ER CX X E)
  (ht:eval (.Call (.Attribute o m apos) [] [] pos) X.env=(do
   let ov <- eval o X.env
   standAt apos.atName
   let (f,first) <- holding [ov] (getMethod ov m pl)
   callWith pos f first (backTo pos (starEach [] X.env)) (backToKw pos (keywordEach [] X.env))):=by rfl) :
  PE X (.Call (.Attribute o m apos) [] [] pos) (QU C m sp dvs E ta Nx):=by
 intro pins s σ H Q I h
 refine O8 (pl:=pl) (BC (he pins s σ H _ I h) λu s1 ⟨x,H1,I1,rx,a,dx,fs,ex,ea,l,q⟩=>?_) ht
 subst ex
 obtain rfl:u=Value.ref a:=rx
 refine Jq I1 ea c hm l ?_
 exact PySem.W.callWith_K0 (first:=[.ref a]) I1.kIn hm.kp (La (us:=[.ref a]) (vs:=[.ref a]) F hr hb hd hx I1 (.cons rfl .nil) q)

structure Mk (K:K0) (C f:Addr):Prop where
 makes:S7 K C=true
 init:J2 K (.ref C) "__init__"=some (some (.ref f))
 fn:N6 K (.ref f)=true
 kp:X3 K (.ref C)=true

theorem Mh {pins:List (Addr×Obj)} {σ:St} {H:Hp} {s:Shared} {Q:VK} {us:List Value} {vs:List V} (M:Mk X.K C f) (F:Au X.prog X.w X.K X.mg X.base CX k f fd ps sp) (hr:Dz (k+1) X.A) (hb:ED X.K fd ps ds) (hd:AW dvs ds)
  (hx:ER CX X E) (I:AK X pins σ H s) (r:AW vs us)
  (h:∀ x dx,H x=none->H dx=none->dx≠x->sp (.ref x::(vs++dvs)) (upd (upd H dx (.own x)) x (.ins C dx [])) (λv H2=>v=.non/\Q (.ref x) H2) E) :
  wpAny (model X.prog X.w) X.A (call (.ref C) us) (EP X pins σ Q) X.xe s:=by
 have hq:=h (s.heap.objs.size+1) s.heap.objs.size (I.hok.fresh (F5 _)) (I.hok.fresh (P0 _)) (P1 (c5 _))
 have I2:=AK.made (C:=C) I
 have r2:AW (V.ref (s.heap.objs.size+1)::(vs++dvs)) (Value.ref (s.heap.objs.size+1)::(us++ds)):=.cons rfl (r.append hd)
 have hl:(Value.ref (s.heap.objs.size+1)::us++ds).length=ps.length:=by
  have e:=r2.length
  rw [F.len _ _ _ _ hq] at e
  exact e.symm
 refine wpAny_call (RZ (f:=f) I.kIn M.makes M.init (beq_iff_eq.mp M.fn) (codeAny_mono (F.run _ X.stack _ _ ⟨Value.ref (s.heap.objs.size+1)::us,[]⟩ (Value.ref (s.heap.objs.size+1)::(us++ds)) _ _ E (hr.make C us [])
  (I2.env0.make C us []) (hb _ (Value.ref (s.heap.objs.size+1)::us) I2.kIn hl) r2 hq) λr s' hq'=>?_))
 cases r with
 |error e=>exact hx pins σ _ _ e s' I2 hq'
 |ok fl =>
  cases fl with
  |ret u =>
   obtain ⟨v,H',I3,rv,ev,q3⟩:=I2.after hq'
   subst ev
   exact ⟨rv,⟨V.ref (s.heap.objs.size+1),H',I3,rfl,q3⟩⟩
  |next=>exact False.elim hq'
  |brk=>exact False.elim hq'
  |cont=>exact False.elim hq'
theorem pe_make (M:Mk X.K C f) (F:Au X.prog X.w X.K X.mg X.base CX k f fd ps sp) (hr:Dz (k+1) X.A) (hg:Gl X x) (hm:X.mg x=some (.ref C)) (hb:ED X.K fd ps ds) (hd:AW dvs ds) (hx:ER CX X E)
  (ha:PA X (e::es) t) (hdb:(x == ("__debug__":Str))=false:=by decide) (he:starEach (e::es) X.env=(false,eval e X.env)::starEach es X.env:=by rfl) (hpl:(backTo pos (starEach es X.env)).any (·.1)=false:=by rfl) :
  PE X (.Call (.Name x p) (e::es) [] pos) (QV C sp dvs E t):=by
 intro pins s σ H Q I h
 refine wpAny_Call_Name_kw (Iu I hg hm ?_ hdb)
 refine z5 (h₀:=X.base) I.ok.mod.kin M.kp (BC (ha pos pins s σ H _ I h) λus s1 ⟨vs,H1,I1,r,q⟩=>⟨I1.kIn,?_⟩) he hpl
 exact Mh M F hr hb hd hx I1 r q
theorem IT (M:Mk X.K C f) (F:Au X.prog X.w X.K X.mg X.base CX k f fd ps sp) (hr:Dz (k+1) X.A) (hg:Gl X x) (hm:X.mg x=some (.ref C)) (hb:ED X.K fd ps ds) (hd:AW dvs ds) (hx:ER CX X E)
  (hdb:(x == ("__debug__":Str))=false:=by decide):PE X (.Call (.Name x p) [] [] pos) (QV C sp dvs E Nx):=by
 intro pins s σ H Q I h
 refine wpAny_Call_Name_kw (Iu I hg hm ?_ hdb)
 exact PySem.W.callWith_K0 I.kIn M.kp (Mh (us:=[]) M F hr hb hd hx I .nil h)
end

section
variable {X:Cx} {CX:OC} {k:Nat} {f C:Addr} {fd:FuncData} {ps ks:List Str} {sp:Sp} {E:XK} {x m:Str} {p pos apos kpos:Pos} {e o:Expr} {es:List Expr} {kws:List Keyword} {te ta:TE} {t tk:TA} {nm:Option Str}
variable {g:List Value->List Value->List Value} {gV:List V->List V->List V}
end

structure Av (N P:List Str) (sc:Scope):Prop where
 kind:sc.kind=.function
 co:sc.isCoroutine=false
 gen:sc.isGenerator=false
 nd:N.Nodup
 pre:N.take P.length=P
 par:∀ x∈P,sc.names.lookup x=some .local\/sc.names.lookup x=some .cell
 nofree:∀ y∈sc.names,y.2≠.free

theorem Ky {kindOf:Str->Option NameKind} {x:Str}:∀ {binds:List (Str×Value)} {m:Str->Option Value},(∀ v,(x,v)∉binds)->bindL kindOf binds m x=m x
 |[],_,_=>rfl
 | (n,v)::r,m,h=>by
  unfold bindL
  rw [Ky λw hw=>h w (A0 _ hw)]
  split
  ·have:x≠n:=by rintro rfl;exact h v C0
   simp [this]
  ·rfl
theorem KA {kindOf:Str->Option NameKind} {x:Str}:∀ {binds:List (Str×Value)} {m:Str->Option Value},(∀ v,(x,v)∉binds)->bindC kindOf binds m x=m x
 |[],_,_=>rfl
 | (n,v)::r,m,h=>by
  unfold bindC
  rw [KA λw hw=>h w (A0 _ hw)]
  split
  ·rfl
  ·have:x≠n:=by rintro rfl;exact h v C0
   simp [this]
theorem Kz {kindOf:Str->Option NameKind} {x:Str} {v:Value}:∀ {P:List Str} {vs:List Value} {i:Nat} {m:Str->Option Value},P.Nodup->P[i]?=some x->vs[i]?=some v->kindOf x=some .local ->
  bindL kindOf (P.zip vs) m x=some v
 |[],_,_,_,_,h,_,_=>by simp at h
 |_::_,[],_,_,_,_,h,_=>by simp at h
 |p::P,w::vs,0,m,nd,h1,h2,hk=>by
  simp at h1 h2;subst h1;subst h2
  show bindL kindOf ((p,w)::P.zip vs) m p=_
  unfold bindL
  rw [Ky λv hv=>(g0.mp nd).1 (U7 hv).1,if_pos hk]
  simp
 |p::P,w::vs,i+1,m,nd,h1,h2,hk=>by
  show bindL kindOf ((p,w)::P.zip vs) m x=_
  unfold bindL
  exact Kz (i:=i) (g0.mp nd).2 (by simpa using h1) (by simpa using h2) hk
theorem KB {kindOf:Str->Option NameKind} {x:Str} {v:Value}:∀ {P:List Str} {vs:List Value} {i:Nat} {m:Str->Option Value},P.Nodup->P[i]?=some x->vs[i]?=some v->kindOf x≠some .local ->
  bindC kindOf (P.zip vs) m x=some v
 |[],_,_,_,_,h,_,_=>by simp at h
 |_::_,[],_,_,_,_,h,_=>by simp at h
 |p::P,w::vs,0,m,nd,h1,h2,hk=>by
  simp at h1 h2;subst h1;subst h2
  show bindC kindOf ((p,w)::P.zip vs) m p=_
  unfold bindC
  rw [KA λv hv=>(g0.mp nd).1 (U7 hv).1,if_neg hk]
  simp
 |p::P,w::vs,i+1,m,nd,h1,h2,hk=>by
  show bindC kindOf ((p,w)::P.zip vs) m x=_
  unfold bindC
  exact KB (i:=i) (g0.mp nd).2 (by simpa using h1) (by simpa using h2) hk

def start (N:List Str) (vs:List V):St:=vs.map some++Y0 (N.length-vs.length) none

def Ot (CX:OC) (P:Program) (w:World) (K:K0) (mg:Str->Option Value) (base:Heap) (N:List Str) (qual:Str) (scope:Scope) (f:Addr) (cd:Value) (A:Around) (outer:List Env) (s:Shared) (H:Hp) (E:XK):Cx where
 prog:=P
 w:=w
 K:=K
 mg:=mg
 base:=base
 A:=A.deeper (envOfC qual scope s.heap.objs.size f cd)
 N:=N
 s₀:=s
 H₀:=H
 env:=envOfC qual scope s.heap.objs.size f cd
 outer:=outer
 stack:=envOfC qual scope s.heap.objs.size f cd::outer
 ex:=[]
 calm:=true
 fn:=λ_=>true
 pn:=[]
 xe:=λe s'=>wpAny (model P w) (A.deeper (envOfC qual scope s.heap.objs.size f cd)) (leaving (envOfC qual scope s.heap.objs.size f cd) e) (λ_ s''=>CX outer H s E e s'') (λe' s''=>CX outer H s E e' s'') s'

theorem Nc {sc:Scope} {n:Nat} {x:Str} (h:sc.names.lookup x=some .cell):∃ c,(cellsFrom n sc.names []).lookup x=some c:=by
 have q:=B8 sc.names n [] (.inl h)
 exact Option.isSome_iff_exists.mp q

theorem Qn {CX:OC} {P:Program} {w:World} {K:K0} {mg:Str->Option Value} {base:Heap} {N ps:List Str} {qual:Str} {scope:Scope} {f:Addr} {cd:Value} {A:Around} {outer:List Env} {s s1:Shared} {H:Hp} {E:XK} {us:List Value} {vs:List V}
  (S:Av N ps scope) (hd:A.handled=none) (e0:OB P w K mg base A outer s H) (hl:vs.length=ps.length) (r:AW vs us)
  (x:InCallC s s.heap.objs.size (bindL (envOfC qual scope s.heap.objs.size f cd).kindOf (ps.zip us) λ_=>none) (cellsFrom (s.heap.objs.size+1) scope.names []) (bindC (envOfC qual scope s.heap.objs.size f cd).kindOf (ps.zip us) λ_=>none) s1) :
  AK (Ot CX P w K mg base N qual scope f cd A outer s H E) [] (start N vs) H s1:=by
 have hpl:ps.length<=N.length:=by have:=congrArg g5 S.pre;rw [K2] at this;omega
 obtain ⟨h1,tk,rfl,hk⟩:=x.done
 have noA:∀ b:Addr,b∉(Ot CX P w K mg base N qual scope f cd A outer s H E).ex:=λb z=>absurd (show b∈([]:List Addr) from z) (by simp)
 refine ⟨⟨e0.mod,S.kind,rfl,rfl,P0 _,λy z c h1 h2=>?_,λy hy=>?_,λy c _ h=>?_,λ_=>hd,Around.frames_deeper e0.frames,.inr ⟨rfl,rfl⟩,λb z=>absurd z (noA b),e0.bs,e0.bsz,λb _ _=>noA b,λb z=>absurd z (noA b),e0.funs,e0.frf⟩,
  rfl,e0.bare,Un.kept hk,⟨_,x.toInCall.ns,λi y v h1 h2 h3=>?_⟩,λy c h=>⟨_,x.cell y c h⟩,e0.hok.fresh (P0 _),λy c h=>?_,λp hp=>absurd (show p∈([]:List (Addr×Obj)) from hp) (by simp),e0.hok.kept hk,?_⟩
 ·exact name_of_addr x.apart (PySem.mem_of_lookup h1) (PySem.mem_of_lookup h2)
 ·have hy:scope.names.lookup y=some .cell\/scope.names.lookup y=some .free:=hy
  rcases hy with hy | hy
  ·exact Nc hy
  ·exact absurd rfl (S.nofree _ (PySem.mem_of_lookup hy))
 ·exact F7 (x.above y c (PySem.mem_of_lookup h))
 ·have hi:i<vs.length:=by
   unfold start at h2
   by_cases hi:i<vs.length
   ·exact hi
   ·rw [L1 (by simpa using hi)] at h2
    rw [List.getElem?_replicate] at h2
    split at h2<;>cases h2
  have ha:vs[i]?=some v:=by
   unfold start at h2
   rw [X0 (by simpa using hi),Q1] at h2
   cases e:vs[i]? with
   |none=>rw [e] at h2;cases h2
   |some a=>rw [e] at h2;cases h2;rfl
  obtain ⟨u,hu,rv⟩:=r.get ha
  have hp:ps[i]?=some y:=by
   rw [<- S.pre,k7 (by omega)];exact h1
  have ndP:ps.Nodup:=by rw [<- S.pre];exact S.nd.sublist (List.take_sublist _ _)
  refine ⟨u,rv,?_⟩
  rcases S.par y (d0 hp) with k | k
  ·exact .inl ⟨k,Kz ndP hp hu k⟩
  ·obtain ⟨c,e⟩:=Nc (n:=s.heap.objs.size+1) k
   refine .inr ⟨.inl k,c,e,?_⟩
   have q:=x.cell y c e
   rw [KB ndP hp hu (by show scope.names.lookup y≠_;rw [k];decide)] at q
   exact q
 ·exact e0.hok.fresh (F7 (x.above y c (PySem.mem_of_lookup h)))
 ·unfold start
  show _=N.length
  rw [B0,D0,S4]
  omega

theorem fn_of {CX:OC} {P:Program} {w:World} {K:K0} {mg:Str->Option Value} {base:Heap} {k:Nat} {f:Addr} {name qual:Str} {params:Arguments} {body:List Stmt} {scope:Scope} {dV kV doc pm cdv ct oc:Value} {an od:Option Addr}
  {osl:Array (Option Value)} {N ps:List Str} {sp:Sp} (lk:K.lookup f=some ⟨oc,od,.func (Y3 name qual params body scope dV kV doc pm an cdv ct),osl⟩) (hcd:D5 K cdv qual=true) (S:Av N ps scope)
  (len:∀ vs H Q E,sp vs H Q E->vs.length=ps.length)
  (hbody:∀ (A:Around) (outer:List Env) (s:Shared) (H:Hp) (vs:List V) (Q:VK) (E:XK),Dz k (A.deeper (envOfC qual scope s.heap.objs.size f cdv))->sp vs H Q E ->
   ∃ t,LL (Ot CX P w K mg base N qual scope f cdv A outer s H E) body t/\t { nx:=λ_ H'=>Q .non H',rt:=Q } (start N vs) H) :
  Au P w K mg base CX (k+1) f (Y3 name qual params body scope dV kV doc pm an cdv ct) ps sp:=by
 refine ⟨len,λA outer s H args us vs Q E hr e0 hb r hsp=>?_⟩
 have hl:=len _ _ _ _ hsp
 have KX:K.In s.heap:=e0.mod.kin.keeps λb o e=>(e0.bs b o e).1
 have lim:s.heap.NoLimit:=e0.mod.nolimit.keeps λb o e=>(e0.bs b o e).1
 have hkind:∀ y∈ps.zip us,scope.names.lookup y.1=some .local\/(scope.names.lookup y.1=some .cell/\((cellsFrom (s.heap.objs.size+1) scope.names []).lookup y.1).isSome=true):=λ⟨n,v⟩ hy=>by
  rcases S.par n (U7 hy).1 with q | q
  ·exact .inl q
  ·exact .inr ⟨q,B8 _ _ _ (.inl q)⟩
 refine codeAny_call_function hr.depth (KX _ _ lk) rfl S.co S.gen rfl (PySem.W.codeRec_of KX hcd) (hb _ _ _ _ ?_)
 refine wpAny_newFunctionEnv_cells S.kind hkind λenv he s1 x=>?_
 subst he
 refine ⟨lim.keeps x.toInCall.keep,codeAny_func ?_⟩
 obtain ⟨t,ht,hq⟩:=hbody A outer s H vs Q E (hr.deeper _) hsp
 have I:AK (Ot CX P w K mg base N qual scope f cdv A outer s H E) [] (start N vs) H s1:=Qn S hr.hd e0 hl r x
 refine wpAny_mono (ht [] s1 (start N vs) H _ I hq) (λfl s' hs=>?_) λe s' hs=>hs
 have fin:∀ {σ':St} {H':Hp} {v:V} {u:Value},AK (Ot CX P w K mg base N qual scope f cdv A outer s H E) [] σ' H' s'->Bw v u->Q v H'->CE outer P w H s Q u s' :=
  λ{σ' H' v u} J rv q=>⟨v,H',J.os,J.bare,J.base,J.hok,rv,q⟩
 cases fl with
 |ret u =>
  obtain ⟨v,σ',H',J,rv,q⟩:=hs
  exact fin J rv q
 |next =>
  obtain ⟨σ',H',J,q⟩:=hs
  exact fin (v:=V.non) (u:=Value.none) J rfl q
 |brk =>
  obtain ⟨_,_,_,q⟩:=hs
  exact False.elim q
 |cont =>
  obtain ⟨_,_,_,q⟩:=hs
  exact False.elim q
end L2

namespace L2
open PySem PySem.Spec PyProof.Rows
section
variable {X:Cx} {x:Str} {p pos:Pos} {e:Expr} {es:List Expr} {t:TA} {id T:String} {r:List V->Hp->VK->Prop}

def tCB (r:List V->Hp->VK->Prop) (t:TA):TE:=λσ H Q=>t σ H λvs H1=>r vs H1 Q
theorem AA (hc:Ek X (.builtin id) r) (hg:Gl X x) (hm:X.mg x=none) (hv:bootBuiltins x=some (.builtin id)) (ha:PA X (e::es) t) (hn:x≠"__name__":=by decide) (hdb:(x == ("__debug__":Str))=false:=by decide)
  (he:starEach (e::es) X.env=(false,eval e X.env)::starEach es X.env:=by rfl) (hpl:(backTo pos (starEach es X.env)).any (·.1)=false:=by rfl):PE X (.Call (.Name x p) (e::es) [] pos) (tCB r t):=by
 intro pins s σ H Q I h
 refine wpAny_Call_Name_kw (Fk I hg hm hv ?_ hn hdb)
 exact PyProof.Rows.callWith_builtin1 (BC (ha pos pins s σ H _ I h) λus s1 ⟨vs,H1,I1,r1,q1⟩=>hc pins s1 σ H1 vs us Q I1 r1 q1) he hpl
theorem AY (hc:Ek X (.type T) r) (hg:Gl X x) (hm:X.mg x=none) (hv:bootBuiltins x=some (.type T)) (ha:PA X (e::es) t) (hn:x≠"__name__":=by decide) (hdb:(x == ("__debug__":Str))=false:=by decide)
  (he:starEach (e::es) X.env=(false,eval e X.env)::starEach es X.env:=by rfl) (hpl:(backTo pos (starEach es X.env)).any (·.1)=false:=by rfl):PE X (.Call (.Name x p) (e::es) [] pos) (tCB r t):=by
 intro pins s σ H Q I h
 refine wpAny_Call_Name_kw (Fk I hg hm hv ?_ hn hdb)
 exact L4 (BC (ha pos pins s σ H _ I h) λus s1 ⟨vs,H1,I1,r1,q1⟩=>hc pins s1 σ H1 vs us Q I1 r1 q1) he hpl
end
end L2

namespace HT
open PySem PyProof.Rows

section
open PySem.SeqAt
open PySem.AutoSeq1 (wpAny_loadPart')
open PySem.MeetsSeq PySem.MeetsSeq2 PySem.MeetsSeq3

end

section
variable {prog:Program} {w:World} {A:Around} {E:Value->Shared->Prop} {s:Shared}

theorem cat_tup {t b:Addr} {vs ws:List Value} {Q:Value->Shared->Prop} (ht:IsTup s.heap t vs.toArray) (hb:IsTup s.heap b ws.toArray) (hv:vs≠[])
  (h1:ws=[]->Q (.ref t) s) (h2:ws≠[]->Q (.ref s.heap.objs.size) { s with heap:=s.heap.push { cls:=.type "tuple",data:=.seq (vs++ws).toArray } })
  (hsz:vs.length+ws.length<=sizeLine):wpAny (model prog w) A (binaryOp .Add (.ref t) (.ref b)) Q E s:=by
 obtain ⟨⟨cls,dd,data,sl⟩,ho,hc,n,hd⟩:=id ht
 obtain ⟨⟨cls2,dd2,data2,sl2⟩,ho2,hc2,n2,hd2⟩:=id hb
 simp only at hc hd hc2 hd2
 subst hc hd hc2 hd2
 have e:vs.toArray++ws.toArray=(vs++ws).toArray:=by simp
 by_cases hw:ws=[]
 ·exact concat_meets ⟨_,ho,rfl⟩ ⟨_,ho2,rfl⟩ noFill_tuple_add seq_tuple_add P6 F6 (D6 _ _)
   (tuple_addW1 t b vs.toArray ws.toArray n n2 dd dd2 sl sl2 (by simpa using hv) (by simp [hw])) ⟨ho,ho2,h1 hw⟩
 ·refine concat_meets ⟨_,ho,rfl⟩ ⟨_,ho2,rfl⟩ noFill_tuple_add seq_tuple_add P6 F6 (D6 _ _)
   (tuple_addW2 t b vs.toArray ws.toArray n n2 dd dd2 sl sl2 (by simpa using hv) (by simpa using hw) (by rw [S0,S0];exact hsz)) ⟨ho,ho2,?_⟩
  rw [e]
  exact h2 hw

def sIx (n d:Nat):Option Int->Nat
 |none=>d
 |some v=>if v<0 then (v+(n:Int)).toNat else min v.toNat n
theorem sIx_none (n d:Nat):sIx n d none=d:=rfl
theorem sIx_nat (n d k:Nat):sIx n d (some (k:Int))=min k n:=by
 show (if (k:Int)<0 then ((k:Int)+(n:Int)).toNat else min (k:Int).toNat n)=min k n
 rw [if_neg (by omega),F4]
theorem sIx_le (n d:Nat) (hd:d<=n) (o:Option Int):sIx n d o<=n:=by
 cases o with
 |none=>exact hd
 |some v =>
  show (if v<0 then (v+(n:Int)).toNat else min v.toNat n)<=n
  by_cases hv:v<0
  ·rw [if_pos hv];omega
  ·rw [if_neg hv];exact Nat.min_le_right _ _
theorem Pq (v:Int) (n d:Nat):(if v<0 then max (v+(n:Int)) 0 else min v (n:Int))=((sIx n d (some v):Nat):Int):=by
 show (if v<0 then max (v+(n:Int)) 0 else min v (n:Int))=(((if v<0 then (v+(n:Int)).toNat else min v.toNat n):Nat):Int)
 by_cases hv:v<0
 ·simp only [if_pos hv];omega
 ·simp only [if_neg hv];omega
theorem Ow (lo hi:Option Int) (n:Nat):Builtin.Slice.sliceAdjust lo hi 1 (n:Int)=(((sIx n 0 lo:Nat):Int),((sIx n n hi:Nat):Int)):=by
 have h1:¬ ((1:Int)<0):=by omega
 unfold Builtin.Slice.sliceAdjust
 simp only [h1,if_false]
 refine Prod.ext ?_ ?_
 ·cases lo with
  |none=>rfl
  |some v=>exact Pq v n 0
 ·cases hi with
  |none=>rfl
  |some v=>exact Pq v n n
theorem NL (i j:Nat):Builtin.Slice.slicePlaces (i:Int) (j:Int) 1=j-i:=by
 unfold Builtin.Slice.slicePlaces
 have h1:(1:Int) > 0:=by omega
 simp only [h1,if_true,Int.ediv_one]
 split<;>omega
theorem IJ {v:Value} {o:Option Int} {Q:Option Int->Shared->Prop} (p:IsPart v o) (h:Q o s):wpAny (model prog w) A (Builtin.Slice.slicePartIndex v) Q E s:=by
 cases p with
 |none=>exact slicePart_none h
 |int i t=>exact slicePart_int h
theorem Ev {sl:Addr} {vl vu:Value} {lo hi:Option Int} {n:Nat} {Q:Int×Int×Nat->Shared->Prop} (hs:s.heap.IsSliceOf sl vl vu .none) (pl:IsPart vl lo) (pu:IsPart vu hi)
  (h:Q (((sIx n 0 lo:Nat):Int),1,sIx n n hi-sIx n 0 lo) s):wpAny (model prog w) A (Builtin.Slice.sliceApplied (.ref sl) (pure (n:Int))) Q E s:=by
 obtain ⟨os,hos,hcs,hds⟩:=id hs
 unfold Builtin.Slice.sliceApplied Builtin.Slice.sliceFields
 refine wpAny_bind (wpAny_bind (wpAny_field hos hds (x:=vl) rfl (wpAny_bind (wpAny_field hos hds (x:=vu) rfl (wpAny_bind (wpAny_field hos hds (x:=.none) rfl (wpAny_pure ?_)))))))
 refine wpAny_bind (slicePart_none ?_)
 show wpAny _ _ (if ((1:Int) == 0)=true then _ else _) _ _ s
 rw [if_neg (by decide)]
 refine wpAny_bind (IJ pl (wpAny_bind (IJ pu (wpAny_bind (wpAny_pure ?_)))))
 show wpAny _ _ (match Builtin.Slice.sliceAdjust lo hi 1 (n:Int) with | (lo,hi)=>pure (lo,(1:Int),Builtin.Slice.slicePlaces lo hi 1)) _ _ s
 rw [Ow lo hi n]
 show wpAny _ _ (pure (((sIx n 0 lo:Nat):Int),(1:Int),Builtin.Slice.slicePlaces ((sIx n 0 lo:Nat):Int) ((sIx n n hi:Nat):Int) 1)) _ _ s
 rw [NL]
 exact wpAny_pure h
theorem RE (xs:Array Value) (i k:Nat):((Q2 k).filterMap λ(m:Nat)=>xs[((i:Int)+(m:Int)*1).toNat]?).toArray=((xs.toList.drop i).take k).toArray:=by
 have e:(λ(m:Nat)=>xs[((i:Int)+(m:Int)*1).toNat]?)=λm=>xs[i+m]?:=by
  funext m
  have:((i:Int)+(m:Int)*1).toNat=i+m:=by omega
  rw [this]
 rw [e]
 have:=pick_run xs i k
 rw [List.filterMap_map] at this
 have e2:((λx=>xs[x]?) ∘ λx=>i+x)=λm=>xs[i+m]?:=rfl
 rw [e2] at this
 rw [this]

theorem getItem_tuple_cut {t sl:Addr} {items:Array Value} {vl vu:Value} {lo hi:Option Int} {Q:Value->Shared->Prop} (ht:IsTup s.heap t items) (hs:s.heap.IsSliceOf sl vl vu .none) (pl:IsPart vl lo) (pu:IsPart vu hi)
  (hw:¬ (sIx items.size 0 lo=0/\sIx items.size items.size hi=items.size))
  (h:Q (.ref s.heap.objs.size) { s with heap:=s.heap.push { cls:=.type "tuple",data:=.seq ((items.toList.drop (sIx items.size 0 lo)).take (sIx items.size items.size hi-sIx items.size 0 lo)).toArray } })
  (hsz:items.size<=sizeLine):wpAny (model prog w) A (getItem (.ref t) (.ref sl)) Q E s:=by
 have htake:sizeOk (.seq ((items.toList.drop (sIx items.size 0 lo)).take (sIx items.size items.size hi-sIx items.size 0 lo)).toArray):=by
  show ((items.toList.drop (sIx items.size 0 lo)).take (sIx items.size items.size hi-sIx items.size 0 lo)).toArray.size<=sizeLine
  rw [S0,K2,K6,u6]
  omega
 have hj:sIx items.size items.size hi<=items.size:=sIx_le _ _ (P0 _) hi
 obtain ⟨os,hos,hcs,hds⟩:=id hs
 have hTs:s.TypeIs (.ref sl) "slice":=⟨os,hos,hcs⟩
 unfold getItem
 try with_reducible refine wpAny_holding ?_
 first | refine wpAny_bind (wpAny_pure ?_) | skip
 refine wpAny_bind (wpAny_sequenceKey ht.typeIs (by decide) ?_)
 refine wpAny_bind (wpAny_callSpecial?_slot (name:=Str.ofString "__getitem__") ht.typeIs X4
  (wpAny_call_entry X4 ht.typeIs entry_tuple_getitem ?_ (args_tuple_getitem _ _)))
 show wpAny _ _ (Builtin.Tuple.tupleItemsOf (.ref t) >>= _) _ _ s
 refine wpAny_bind (tupleItemsOf_ ht ?_)
 refine wpAny_bind (wpAny_typeOf hTs ?_)
 rw [if_pos (by decide)]
 refine wpAny_bind (Ev hs pl pu ?_)
 have hno:¬ ((((sIx items.size 0 lo:Nat):Int) == 0&&(1:Int) == 1&&(sIx items.size items.size hi-sIx items.size 0 lo) == items.size)=true):=by
  intro q
  rw [Z1,Z1] at q
  have q1:((sIx items.size 0 lo:Nat):Int)=0:=eq_of_beq q.1.1
  have q2:sIx items.size items.size hi-sIx items.size 0 lo=items.size:=eq_of_beq q.2
  exact hw ⟨by omega,by omega⟩
 show wpAny _ _ (if (((sIx items.size 0 lo:Nat):Int) == 0&&(1:Int) == 1&&(sIx items.size items.size hi-sIx items.size 0 lo) == items.size)=true then _ else _) _ _ s
 rw [if_neg hno,RE]
 first
  |exact wpAny_bind (m:=Builtin.Tuple.tupleExact _) (wpAny_newObj_type (wpAny_pure ⟨_,rfl,wpAny_pure h⟩) htake)
  |exact wpAny_bind (m:=Builtin.Tuple.tupleExact _) (wpAny_newObj_type (wpAny_bind (wpAny_pure (wpAny_pure ⟨_,rfl,wpAny_pure h⟩))) htake)
  |exact wpAny_bind (wpAny_bind (m:=Builtin.Tuple.tupleExact _) (wpAny_newObj_type (wpAny_pure (wpAny_pure ⟨_,rfl,wpAny_pure h⟩)) htake))
  |exact wpAny_bind (wpAny_bind (m:=Builtin.Tuple.tupleExact _) (wpAny_newObj_type (wpAny_pure ⟨_,rfl,wpAny_pure h⟩) htake))
end
end HT

namespace L2
open PySem PySem.Spec PyProof.Rows

abbrev TO:=St->Hp->(Option Int->Hp->Prop)->Prop
def PO (X:Cx) (e:Option Expr) (t:TO):Prop :=
 ∀ (pins:List (Addr×Obj)) (s:Shared) (σ:St) (H:Hp) (Q:Option Int->Hp->Prop),AK X pins σ H s->t σ H Q ->
  wpAny (model X.prog X.w) X.A (evalPart e X.env) (λu s'=>∃ o H',AK X pins σ H' s'/\IsPart u o/\Q o H') X.xe s
def OF:TO:=λ_ H Q=>Q none H
def tPart (t:TE):TO:=λσ H Q=>t σ H λx H1=>∃ i,x=.int i/\Q (some i) H1

section
variable {X:Cx} {e:Expr} {te:TE} {lo hi:Option Expr} {tl th:TO} {pos p2:Pos}

theorem Ef:PO X none OF:=by
 intro pins s σ H Q I h
 rw [evalPart_none]
 exact wpAny_pure ⟨none,H,I,.none,h⟩
theorem Dv (h:PE X e te):PO X (some e) (tPart te):=by
 intro pins s σ H Q I hw
 rw [evalPart_some]
 refine BC (h pins s σ H _ I hw) λu s1 ⟨x,H1,I1,r1,q1⟩=>?_
 obtain ⟨i,rfl,q⟩:=q1
 obtain ⟨t,rfl⟩:=r1
 exact ⟨some i,H1,I1,.int i t,q⟩

def SlR (X:Cx) (r:V->Option Int->Option Int->Hp->VK->Prop):Prop :=
 ∀ (pins:List (Addr×Obj)) (s:Shared) (σ:St) (H:Hp) (x:V) (v vl vu:Value) (lo hi:Option Int) (sl:Addr) (Q:VK),AK X pins σ H s->Bw x v->s.heap.IsSliceOf sl vl vu .none->IsPart vl lo->IsPart vu hi->r x lo hi H Q ->
  ∃ T id,typeLookup (.type T) "__getitem__"=pure (some (.builtin id))/\s.TypeIs v T/\wpAny (model X.prog X.w) X.A (getItem v (.ref sl)) (EP X pins σ Q) X.xe s
def tSl (r:V->Option Int->Option Int->Hp->VK->Prop) (te:TE) (tl th:TO):TE:=λσ H Q=>te σ H λx H1=>tl σ H1 λl H2=>th σ H2 λu H3=>r x l u H3 Q
theorem Dd {r:V->Option Int->Option Int->Hp->VK->Prop} (hr:SlR X r) (he:PE X e te) (hl:PO X lo tl) (hu:PO X hi th):PE X (.Subscript e (.Slice lo hi none p2) pos) (tSl r te tl th):=by
 intro pins s σ H Q I h
 refine Subscript_ (BC (he pins s σ H _ I h) λv s1 ⟨x,H1,I1,r1,q1⟩=>?_)
 refine wpAny_Slice (BC (hl pins s1 σ H1 _ I1 q1) λvl s2 ⟨l,H2,I2,pl,q2⟩=>BC (hu pins s2 σ H2 _ I2 q2) λvu s3 ⟨u,H3,I3,pu,q3⟩=>?_)
 rw [evalPart_none]
 refine wpAny_pure ?_
 have I4:AK X pins σ H3 { s3 with heap:=s3.heap.push { cls:=.type "slice",data:=.fields #[vl,vu,.none] } }:=I3.kept (t':=s3.toks) λb ob q=>Heap.get?_push_of_some _ q
 obtain ⟨T,id,hT,ht,hg⟩:=hr pins { s3 with heap:=s3.heap.push { cls:=.type "slice",data:=.fields #[vl,vu,.none] } } σ H3 x v vl vu l u s3.heap.objs.size Q I4 r1 (Heap.IsSliceOf.new ..) pl pu q3
 show wpAny (model X.prog X.w) X.A (subscriptTail e (.Slice lo hi none p2) v (.ref s3.heap.objs.size)) (EP X pins σ Q) X.xe { s3 with heap:=s3.heap.push { cls:=.type "slice",data:=.fields #[vl,vu,.none] } }
 exact tail_any (ops:=[.ref s3.heap.objs.size,v]) ht hT hg (by with_unfolding_all rfl)

def Ig (xs:List V) (lo hi:Option Int):List V:=(xs.drop (HT.sIx xs.length 0 lo)).take (HT.sIx xs.length xs.length hi-HT.sIx xs.length 0 lo)
theorem HQ (xs:List V) (lo hi:Option Int):(Ig xs lo hi).length<=xs.length:=by
 unfold Ig
 rw [K2,K6]
 omega
def rSlT (K:K0):V->Option Int->Option Int->Hp->VK->Prop:=λx lo hi H Q=>∃ a xs,x=.ref a/\BN K H a xs /\
 ¬ (HT.sIx xs.length 0 lo=0/\HT.sIx xs.length xs.length hi=xs.length)/\∀ p,H p=none->Q (.ref p) (upd H p (.tup (Ig xs lo hi)))
theorem sl_tup:SlR X (rSlT X.K):=by
 intro pins s σ H x v vl vu lo hi sl Q I rx hs pl pu h
 obtain ⟨a,xs,rfl,hx,hw,q⟩:=h
 cases rx
 obtain ⟨its,r,ht,hz⟩:=I.tuple hx
 have hlen:its.toArray.size=xs.length:=by rw [S0];exact r.length.symm
 refine ⟨"tuple",_,X4.lookup,ht.typeIs,?_⟩
 refine HT.getItem_tuple_cut ht hs pl pu (by rw [hlen];exact hw) ?_ (by rw [hlen];exact hz)
 rw [hlen]
 refine ⟨.ref s.heap.objs.size,_,I.laid (t':=s.toks) (o:=.tup (Ig xs lo hi)) (λb ob q=>Heap.get?_push_of_some _ q) (P0 _) ?_,rfl,q _ (I.hok.fresh (P0 _))⟩
 exact ⟨Q0 (HQ xs lo hi) hz,_,(r.drop (HT.sIx xs.length 0 lo)).take (HT.sIx xs.length xs.length hi-HT.sIx xs.length 0 lo),IsTup.new _ _⟩

def Rx (K:K0):R2:=λx y H Q=>∃ a b xs ys,x=.ref a/\y=.ref b/\BN K H a xs/\BN K H b ys/\xs≠[]/\xs.length+ys.length<=sizeLine /\
 (ys=[]->Q (.ref a) H)/\(ys≠[]->∀ p,H p=none->Q (.ref p) (upd H p (.tup (xs++ys))))
theorem AW.nil_iff {xs:List V} {us:List Value} (r:AW xs us):us=[]↔xs=[]:=by
 cases r with
 |nil=>simp
 |cons _ _=>simp
theorem op_catT:Fw X (binaryOp .Add) (Rx X.K):=by
 intro pins s σ H x y v u Q I rx ry h
 obtain ⟨a,b,xs,ys,rfl,rfl,ha,hb,hx,hz,q1,q2⟩:=h
 cases rx
 cases ry
 obtain ⟨its,r1,p1,_⟩:=I.tuple ha
 obtain ⟨its2,r2,p2,_⟩:=I.tuple hb
 refine HT.cat_tup p1 p2 (λz=>hx (r1.nil_iff.mp z)) (λz=>⟨.ref a,H,I,rfl,q1 (r2.nil_iff.mp z)⟩) (λz=>?_) (by rw [<- r1.length,<- r2.length];exact hz)
 refine ⟨.ref s.heap.objs.size,_,I.laid (t':=s.toks) (o:=.tup (xs++ys)) (λb ob q=>Heap.get?_push_of_some _ q) (P0 _) ?_,rfl,q2 (λw=>z (r2.nil_iff.mpr w)) _ (I.hok.fresh (P0 _))⟩
 exact ⟨by rw [B0];exact hz,_,r1.append r2,IsTup.new _ _⟩
end
end L2

namespace L2
open PySem PySem.Spec PyProof.Rows

def ixN (n:Nat) (i:Int):Option Nat:=if 0<=i then (if i<n then some i.toNat else none) else if -(n:Int)<=i then some (i+n).toNat else none
def Nm {α:Type} (xs:List α) (i:Int):Option α:=(ixN xs.length i).bind λj=>xs[j]?
theorem ixN_seq {n:Nat} {i:Int} {j:Nat} (h:ixN n i=some j):seqIndex? i n=some j/\j<n/\-(n:Int)<=i/\i<n:=by
 unfold ixN at h
 by_cases h0:0<=i
 ·rw [if_pos h0] at h
  by_cases h1:i<n
  ·rw [if_pos h1] at h
   have e:i.toNat=j:=Z2.inj h
   exact ⟨by rw [seqIndex_of h0 h1,e],by omega,by omega,h1⟩
  ·rw [if_neg h1] at h;cases h
 ·rw [if_neg h0] at h
  by_cases h1:-(n:Int)<=i
  ·rw [if_pos h1] at h
   have e:(i+n).toNat=j:=Z2.inj h
   exact ⟨by rw [seqIndex_neg (by omega) h1,e],by omega,h1,by omega⟩
  ·rw [if_neg h1] at h;cases h
theorem LJ {α:Type} {xs:List α} {i:Int} {v:α} (h:Nm xs i=some v):∃ j,seqIndex? i xs.length=some j/\xs[j]?=some v/\j<xs.length/\-(xs.length:Int)<=i/\i<xs.length:=by
 unfold Nm at h
 cases e:ixN xs.length i with
 |none=>rw [e] at h;cases h
 |some j =>
  rw [e] at h
  obtain ⟨h1,h2,h3,h4⟩:=ixN_seq e
  exact ⟨j,h1,h,h2,h3,h4⟩
theorem AV {α:Type} {xs:List α} {j:Nat} {v:α} (h:xs[j]?=some v):Nm xs (j:Int)=some v:=by
 have hj:j<xs.length:=(W0.mp h).1
 have e:ixN xs.length (j:Int)=some j:=by
  unfold ixN
  rw [if_pos (by omega),if_pos (by omega)];simp
 unfold Nm;rw [e];exact h
theorem SV {α:Type} (xs:List α) (v:α):Nm (xs++[v]) (-1)=some v:=by
 have hl:(xs++[v]).length=xs.length+1:=by simp
 have e:ixN (xs++[v]).length (-1)=some xs.length:=by
  unfold ixN
  rw [hl,if_neg (by decide),if_pos (by omega)]
  congr 1
  omega
 unfold Nm
 rw [e]
 show (xs++[v])[xs.length]?=some v
 simp

def PlainIx (b:Expr):Prop:=∀ o i,subscripted b false o i=operate [o,i] (getItem o i)
def IxR (X:Cx) (r:R2):Prop :=
 ∀ (value slice:Expr) (pins:List (Addr×Obj)) (s:Shared) (σ:St) (H:Hp) (x y:V) (v u:Value) (Q:VK),AK X pins σ H s->Bw x v->Bw y u->r x y H Q ->
  subscripted slice false v u=operate [v,u] (getItem v u)->wpAny (model X.prog X.w) X.A (subscriptTail value slice v u) (EP X pins σ Q) X.xe s
def MtR (X:Cx) (id:String) (r:V->List V->Hp->VK->Prop):Prop :=
 ∀ (pins:List (Addr×Obj)) (s:Shared) (σ:St) (H:Hp) (x:V) (xs:List V) (v:Value) (us:List Value) (Q:VK),AK X pins σ H s->Bw x v->AW xs us->r x xs H Q ->
  wpAny (model X.prog X.w) X.A (call (.builtin id) (v::us)) (EP X pins σ Q) X.xe s
section
variable {X:Cx} {a b:Expr} {ta tb:TE} {pos:Pos}
theorem An {r:R2} (hr:IxR X r) (ha:PE X a ta) (hb:PE X b tb) (hs:PlainIx b):PE X (.Subscript a b pos) (tOp r ta tb):=by
 intro pins s σ H Q I h
 exact Subscript_ (binT ha hb I h λv u s2 x y H2 I2 rx ry q=>hr a b pins s2 σ H2 x y v u Q I2 rx ry q (hs _ _))

def Ew (K:K0):R2:=λx y H Q=>∃ p xs i v,x=.ref p/\y=.int i/\AH K H p xs/\Nm xs i=some v/\Q v H
def HY (K:K0):R2:=λx y H Q=>∃ p xs i v,x=.ref p/\y=.int i/\BN K H p xs/\Nm xs i=some v/\Q v H
def rIxS:R2:=λx y H Q=>∃ z i c,x=.str z/\y=.int i/\z.length<=sizeLine/\Nm z.cps.toList i=some c/\Q (.str ⟨#[c]⟩) H
theorem As:IxR X (Ew X.K):=by
 intro value slice pins s σ H x y v u Q I rx ry h hs
 obtain ⟨p,xs,i,z,rfl,rfl,hq,he,q⟩:=h
 cases rx
 obtain ⟨t,rfl⟩:=ry
 obtain ⟨its,r,pl,hz⟩:=I.list hq
 obtain ⟨j,h1,h2,h3,h4,h5⟩:=LJ he
 obtain ⟨w,ew,rw'⟩:=r.get h2
 have hl:=r.length
 have hn:=Lq
 have fin:EP X pins σ Q w s:=⟨z,H,I,rw',q⟩
 by_cases h0:0<=i
 ·have hj:i.toNat=j:=by
   rw [seqIndex_of h0 h5] at h1
   exact Z2.inj h1
  exact item_listR pl.isList h0 (by omega) (by rw [hj];simpa using ew) fin hs
 ·have hj:(i+(its.toArray.size:Int)).toNat=j:=by
   rw [seqIndex_neg (by omega) h4] at h1
   rw [S0,<- hl]
   exact Z2.inj h1
  exact subscriptTail_builtinR (x:=w) pl.isList.typeIs slot_list_getitem.lookup
   (wpAny_getItem_list_neg (Q:=λr s'=>r=w/\EP X pins σ Q r s') pl.isList (by omega) (by rw [S0]<;>omega) (by omega) (by rw [hj];simpa using ew) ⟨rfl,fin⟩) hs
theorem AI:IxR X (HY X.K):=by
 intro value slice pins s σ H x y v u Q I rx ry h hs
 obtain ⟨p,xs,i,z,rfl,rfl,hq,he,q⟩:=h
 cases rx
 obtain ⟨t,rfl⟩:=ry
 obtain ⟨its,r,pl,hz⟩:=I.tuple hq
 obtain ⟨j,h1,h2,h3,h4,h5⟩:=LJ he
 obtain ⟨w,ew,rw'⟩:=r.get h2
 have hl:=r.length
 have hn:=Lq
 have fin:EP X pins σ Q w s:=⟨z,H,I,rw',q⟩
 exact subscriptTail_builtinR (x:=w) pl.typeIs slot_tuple_getitem.lookup
  (getItem_tuple (j:=j) (Q:=λr s'=>r=w/\EP X pins σ Q r s') pl (by omega) (by omega) (by rw [S0,<- hl];exact h1) (by simpa using ew) ⟨rfl,fin⟩) hs
theorem ix_str:IxR X rIxS:=by
 intro value slice pins s σ H x y v u Q I rx ry h hs
 obtain ⟨z,i,c,rfl,rfl,hz,he,q⟩:=h
 obtain ⟨t,rfl⟩:=rx
 obtain ⟨t',rfl⟩:=ry
 obtain ⟨j,h1,h2,h3,h4,h5⟩:=LJ he
 have hl:z.cps.toList.length=z.length:=by simp [Str.length]
 rw [hl] at h1 h4 h5
 have hn:=Lq
 exact tail_any (typeIs_str s z t) slot_str_getitem.lookup (getItem_str (c:=c) (by
  have e1:decide (i < -(2 ^ 63:Int))=false:=decide_eq_false (by omega)
  have e2:decide (i ≥ 2 ^ 63)=false:=decide_eq_false (by omega)
  rw [e1,e2,N5]) (by rw [h1];simpa using h2) ⟨.str ⟨#[c]⟩,H,I.tok _,⟨_,rfl⟩,q⟩) hs
theorem KR (lo hi:Option Int) (n:Nat):(sliceBounds lo hi none n).1=((HT.sIx n 0 lo:Nat):Int)/\(sliceBounds lo hi none n).2.1=((HT.sIx n n hi:Nat):Int)/\(sliceBounds lo hi none n).2.2=1:=by
 refine ⟨?_,?_,rfl⟩
 ·cases lo with
  |none=>simp [sliceBounds,HT.sIx]
  |some i =>
   simp only [sliceBounds,HT.sIx,N7,show (1:Int) > 0 by decide,if_true]
   by_cases h:i<0
   ·simp only [h,if_true]<;>omega
   ·simp only [h,if_false]<;>omega
 ·cases hi with
  |none=>simp [sliceBounds,HT.sIx]
  |some i =>
   simp only [sliceBounds,HT.sIx,N7,show (1:Int) > 0 by decide,if_true]
   by_cases h:i<0
   ·simp only [h,if_true]<;>omega
   ·simp only [h,if_false]<;>omega
theorem JF (its:List Value) (lo hi:Option Int):slicePick its.toArray lo hi none=((its.drop (HT.sIx its.length 0 lo)).take (HT.sIx its.length its.length hi-HT.sIx its.length 0 lo)).toArray:=by
 obtain ⟨h1,h2,h3⟩:=KR lo hi its.toArray.size
 unfold slicePick
 rw [h1,h2,h3]
 simp only [sliceRange_one,pick_run,S0]<;>rfl
def rSlL (K:K0):V->Option Int->Option Int->Hp->VK->Prop:=λx lo hi H Q=>∃ a xs,x=.ref a/\AH K H a xs/\∀ p,H p=none->Q (.ref p) (upd H p (.lst (Ig xs lo hi)))
theorem KT:SlR X (rSlL X.K):=by
 intro pins s σ H x v vl vu lo hi sl Q I rx hs pl pu h
 obtain ⟨a,xs,rfl,hx,q⟩:=h
 cases rx
 obtain ⟨its,r,ht,hz⟩:=I.list hx
 have hlen:=r.length
 refine ⟨"list",_,slot_list_getitem.lookup,ht.isList.typeIs,?_⟩
 refine wpAny_getItem_list_slice ht.isList hs pl pu .none (by simp) ?_ (by rw [S0]<;>omega)
 rw [JF,<- hlen]
 refine ⟨.ref s.heap.objs.size,_,I.laid (t':=s.toks) (o:=.lst (Ig xs lo hi)) (λb ob q=>Heap.get?_push_of_some _ q) (P0 _) ?_,rfl,q _ (I.hok.fresh (P0 _))⟩
 exact ⟨Q0 (HQ xs lo hi) hz,_,0,(r.drop (HT.sIx xs.length 0 lo)).take (HT.sIx xs.length xs.length hi-HT.sIx xs.length 0 lo),Heap.get?_push_size _ rfl⟩

def Dy:V->Bool
 |.non=>true
 |.bl _=>true
 |.int _=>true
 |.str _=>true
 |_=>false
def Ha:V->V->Bool
 |.non,.non=>true
 |.bl a,.bl b=>a == b
 |.bl a,.int b=>(if a then 1 else 0) == b
 |.int a,.bl b=>a == (if b then 1 else 0)
 |.int a,.int b=>a == b
 |.str a,.str b=>a == b
 |_,_=>false
theorem SH {A:Around} {s:Shared} {y x:V} {u v:Value} (ry:Bw y u) (rx:Bw x v) (fy:Dy y=true) (fx:Dy x=true):SeqAt.EqAt A s u v (Ha y x):=by
 cases y with
 |non =>
  cases ry
  cases x with
  |non=>cases rx;exact SeqAt.EqAt.same _
  |bl b=>cases rx;exact SeqAt.EqAt.none_bool b
  |int b=>obtain ⟨t,rfl⟩:=rx;exact SeqAt.EqAt.none_int b t
  |str b=>obtain ⟨t,rfl⟩:=rx;exact SeqAt.EqAt.none_str b t
  |_=>exact absurd (show false=true from fx) N0
 |bl a =>
  cases ry
  cases x with
  |non=>cases rx;exact SeqAt.EqAt.bool_none a
  |bl b=>cases rx;exact SeqAt.EqAt.bool_bool a b
  |int b=>obtain ⟨t,rfl⟩:=rx;exact SeqAt.EqAt.bool_int a b t
  |str b=>obtain ⟨t,rfl⟩:=rx;exact SeqAt.EqAt.bool_str a b t
  |_=>exact absurd (show false=true from fx) N0
 |int a =>
  obtain ⟨t',rfl⟩:=ry
  cases x with
  |non=>cases rx;exact SeqAt.EqAt.int_none a t'
  |bl b=>cases rx;exact SeqAt.EqAt.int_bool a t' b
  |int b=>obtain ⟨t,rfl⟩:=rx;exact SeqAt.EqAt.int_int a t' b t
  |str b=>obtain ⟨t,rfl⟩:=rx;exact SeqAt.EqAt.int_str a t' b t
  |_=>exact absurd (show false=true from fx) N0
 |str a =>
  obtain ⟨t',rfl⟩:=ry
  cases x with
  |non=>cases rx;exact SeqAt.EqAt.str_none a t'
  |bl b=>cases rx;exact SeqAt.EqAt.str_bool a t' b
  |int b=>obtain ⟨t,rfl⟩:=rx;exact SeqAt.EqAt.str_int a t' b t
  |str b=>obtain ⟨t,rfl⟩:=rx;exact SeqAt.EqAt.str_str a t' b t
  |_=>exact absurd (show false=true from fx) N0
 |_=>exact absurd (show false=true from fy) N0
def Op (x:V) (u:Value):Bool:=match u with
 |.none=>Ha .non x
 |.bool b=>Ha (.bl b) x
 |.int i _=>Ha (.int i) x
 |.str z _=>Ha (.str z) x
 |_=>false
theorem SG {x y:V} {u:Value} (r:Bw y u) (f:Dy y=true):Op x u=Ha y x:=by
 cases y with
 |non=>cases r;rfl
 |bl b=>cases r;rfl
 |int i=>obtain ⟨t,rfl⟩:=r;rfl
 |str z=>obtain ⟨t,rfl⟩:=r;rfl
 |_=>exact absurd (show false=true from f) N0
theorem Hd {x:V}:∀ {xs:List V} {us:List Value},AW xs us->xs.all Dy=true->us.any (Op x)=xs.any λy=>Ha y x
 |_,_,.nil,_=>rfl
 |y::xs,u::us,.cons r t,f=>by
  rw [y6,Z1] at f
  rw [x6,x6,SG r f.1,Hd t f.2]
theorem Fh {A:Around} {s:Shared} {x:V} {v:Value} (rx:Bw x v) (fx:Dy x=true):∀ {xs:List V} {us:List Value},AW xs us->xs.all Dy=true->∀ u∈us,SeqAt.EqAt A s u v (Op x u)
 |_,_,.nil,_=>λu hu=>by cases hu
 |y::xs,u::us,.cons r t,f=>λu' hu=>by
  rw [y6,Z1] at f
  rcases L0.mp hu with rfl | hu
  ·rw [SG r f.1];exact SH r rx f.1 fx
  ·exact Fh rx fx t f.2 u' hu
def DH (x:V) (xs:List V):Bool:=xs.any λy=>Ha y x
def rIn (K:K0) (neg:Bool):R2:=λx y H Q=>∃ p xs,y=.ref p/\(AH K H p xs\/BN K H p xs)/\Dy x=true/\xs.all Dy=true/\Q (.bl (if neg then !DH x xs else DH x xs)) H
theorem Cg:Fw X (compareOp .In) (rIn X.K false):=by
 intro pins s σ H x y v u Q I rx ry h
 obtain ⟨p,xs,rfl,hq,fx,fs,q⟩:=h
 cases ry
 rcases hq with hq | hq
 ·obtain ⟨its,r,pl,hz⟩:=I.list hq
  refine SeqAt.in_listAt (Op x) pl.isList (λw hw=>Fh rx fx r fs w (by simpa using hw)) ⟨.bl _,H,I,rfl,?_⟩
  rw [show its.toArray.any (Op x)=its.any (Op x) by simp,Hd r fs]
  exact q
 ·obtain ⟨its,r,pl,hz⟩:=I.tuple hq
  refine SeqAt.in_tupleAt (Op x) pl (λw hw=>Fh rx fx r fs w (by simpa using hw)) ⟨.bl _,H,I,rfl,?_⟩
  rw [show its.toArray.any (Op x)=its.any (Op x) by simp,Hd r fs]
  exact q
theorem DG:Fw X (compareOp .NotIn) (rIn X.K true):=by
 intro pins s σ H x y v u Q I rx ry h
 obtain ⟨p,xs,rfl,hq,fx,fs,q⟩:=h
 cases ry
 rcases hq with hq | hq
 ·obtain ⟨its,r,pl,hz⟩:=I.list hq
  refine SeqAt.notIn_listAt (Op x) pl.isList (λw hw=>Fh rx fx r fs w (by simpa using hw)) ⟨.bl _,H,I,rfl,?_⟩
  rw [show its.toArray.any (Op x)=its.any (Op x) by simp,Hd r fs]
  exact q
 ·obtain ⟨its,r,pl,hz⟩:=I.tuple hq
  refine SeqAt.notIn_tupleAt (Op x) pl (λw hw=>Fh rx fx r fs w (by simpa using hw)) ⟨.bl _,H,I,rfl,?_⟩
  rw [show its.toArray.any (Op x)=its.any (Op x) by simp,Hd r fs]
  exact q
theorem Be:Ek X (.type "tuple") (λxs H Q=>∃ p ys,xs=[.ref p]/\((AH X.K H p ys/\∀ l,H l=none->Q (.ref l) (upd H l (.tup ys)))\/(BN X.K H p ys/\Q (.ref p) H))):=by
 intro pins s σ H xs us Q I r h
 obtain ⟨p,ys,rfl,h⟩:=h
 obtain ⟨u,rfl,rx⟩:=Er r
 cases rx
 rcases h with ⟨hq,q⟩ | ⟨hq,q⟩
 ·obtain ⟨its,r',pl,hz⟩:=I.list hq
  have hlen:=r'.length
  refine call_tuple_list pl.isList (λh' kp=>?_) (by simp only [S0]<;>omega)
  have I1:AK X pins σ H { s with heap:=h' }:=I.kept (t':=s.toks) kp
  have I2:AK X pins σ (upd H h'.objs.size (.tup ys)) { s with heap:=h'.push { cls:=.type "tuple",data:=.seq its.toArray } } :=
   I1.laid (t':=s.toks) (λb o e=>Heap.get?_push_of_some _ e) (P0 _) (show Cm X.prog X.w _ _ _ (.tup ys) from ⟨hz,its,r',IsTup.new _ _⟩)
  exact ⟨.ref h'.objs.size,_,I2,rfl,q _ (I1.hok.fresh (P0 _))⟩
 ·obtain ⟨its,r',pl,hz⟩:=I.tuple hq
  exact call_tuple_same pl ⟨.ref p,H,I,rfl,q⟩

def tyV (K:K0) (T:String) (x:V) (H:Hp):Prop:=match x with
 |.str _=>T="str"
 |.int _=>T="int"
 |.ref p=>(T="list"/\∃ xs,AH K H p xs)\/(T="tuple"/\∃ o,K.lookup p=some o/\o.cls=.type "tuple"/\o.dict=none) \/
   (T="dict"/\((∃ kvs,H p=some (.dK kvs))\/∃ kvs,H p=some (.dT kvs)))\/(T="set"/\∃ S n,H p=some (.set S n))
 |_=>False
theorem QN {pins:List (Addr×Obj)} {σ:St} {H:Hp} {s:Shared} {T:String} {x:V} {v:Value} (I:AK X pins σ H s) (r:Bw x v) (ty:tyV X.K T x H) :
  s.TypeIs v T/\∀ a,v=.ref a->∃ ob,s.heap.get? a=some ob/\ob.dict=none:=by
 cases x with
 |str z =>
  obtain ⟨t,rfl⟩:=r
  cases (show T="str" from ty)
  exact ⟨typeIs_str s z t,λ_ e=>nomatch e⟩
 |int i =>
  obtain ⟨t,rfl⟩:=r
  cases (show T="int" from ty)
  exact ⟨typeIs_int s i t,λ_ e=>nomatch e⟩
 |ref p =>
  cases r
  rcases ty with ⟨rfl,xs,hq⟩ | ⟨rfl,o,hk,hc,hd⟩ | ⟨rfl,hk⟩ | ⟨rfl,S,n,hk⟩
  ·obtain ⟨its,_,pl,_⟩:=I.list hq
   refine ⟨pl.isList.typeIs,λa e=>?_⟩
   cases e
   obtain ⟨o,n,e,c,hd,_⟩:=pl
   exact ⟨o,e,hd⟩
  ·refine ⟨⟨o,I.kIn p o hk,hc⟩,λa e=>?_⟩
   cases e
   exact ⟨o,I.kIn _ o hk,hd⟩
  ·have z:∃ o,s.heap.get? p=some o/\o.ExactDict:=by
    rcases hk with ⟨kvs,hk⟩ | ⟨kvs,hk⟩
    ·obtain ⟨_,_,_,_,o,_,_,e,ex,_⟩:=I.hok p _ hk
     exact ⟨o,e,ex⟩
    ·obtain ⟨_,_,_,_,o,_,_,e,ex,_⟩:=I.hok p _ hk
     exact ⟨o,e,ex⟩
   obtain ⟨o,e,ex⟩:=z
   refine ⟨⟨o,e,ex.1⟩,λa e2=>?_⟩
   cases e2
   exact ⟨o,e,ex.2.1⟩
  ·obtain ⟨o,_,_,_,e,ex,_⟩:=I.hok p _ hk
   refine ⟨⟨o,e,ex.1⟩,λa e2=>?_⟩
   cases e2
   exact ⟨o,e,ex.2.1⟩
 |_=>exact False.elim ty
def tBM0 (K:K0) (T:String) (r:V->List V->Hp->VK->Prop) (to:TE):TE:=λσ H Q=>to σ H λx H1=>tyV K T x H1/\r x [] H1 Q
def tBM (K:K0) (T:String) (r:V->List V->Hp->VK->Prop) (to:TE) (t:TA):TE:=λσ H Q=>to σ H λx H1=>tyV K T x H1/\t σ H1 λxs H2=>r x xs H2 Q
variable {o e:Expr} {es:List Expr} {to:TE} {t:TA} {name:Str} {apos cpos:Pos} {T id:String} {r:V->List V->Hp->VK->Prop}
theorem IV (pa:PlainAttrs T) (slot:Slot T name id) (hty:typeOf (.builtin id)=pure (.type "method_descriptor")) (hm:MtR X id r) (ho:PE X o to)
  (hbase:attributeBase o name X.env (eval o X.env)=eval o X.env:=by rfl) (hline:(apos.endLine == cpos.line)=true:=by rfl):PE X (.Call (.Attribute o name apos) [] [] cpos) (tBM0 X.K T r to):=by
 intro pins s σ H Q I h
 refine wpAny_Call_method0_late hbase hline (BC (ho pins s σ H _ I h) λv s1 ⟨x,H1,I1,r1,ty,q1⟩=>?_)
 obtain ⟨h1,h2⟩:=QN I1 r1 ty
 exact ⟨T,id,pa,slot,hty,h1,h2,Calls.callWith_builtin rfl (PySem.evalArgs_none (hm pins s1 σ H1 x [] v [] Q I1 r1 .nil q1))⟩
theorem Bx (pa:PlainAttrs T) (slot:Slot T name id) (hty:typeOf (.builtin id)=pure (.type "method_descriptor")) (hm:MtR X id r) (ho:PE X o to) (ha:PA X (e::es) t)
  (hbase:attributeBase o name X.env (eval o X.env)=eval o X.env:=by rfl)
  (hfew:((backTo cpos (starEach (e::es) X.env)).all (λx=>!x.1)&&(backToKw cpos (keywordEach [] X.env)).all (λx=>x.1.isSome)
   && decide ((e::es).length+([]:List Keyword).length+(if ([]:List Keyword).isEmpty then 0 else 1)<30))=true:=by rfl)
  (hline:(apos.endLine == cpos.line)=true:=by rfl) (hs:starEach (e::es) X.env=(false,eval e X.env)::starEach es X.env:=by rfl) (hplain:(backTo cpos (starEach es X.env)).any (·.1)=false:=by rfl) :
  PE X (.Call (.Attribute o name apos) (e::es) [] cpos) (tBM X.K T r to t):=by
 intro pins s σ H Q I h
 refine wpAny_Call_method_late hbase hfew hline rfl (BC (ho pins s σ H _ I h) λv s1 ⟨x,H1,I1,r1,ty,q1⟩=>?_)
 obtain ⟨h1,h2⟩:=QN I1 r1 ty
 refine ⟨T,id,pa,slot,hty,h1,h2,?_⟩
 have hA:=ha cpos pins s1 σ H1 _ I1 q1
 rw [hs] at hA |-
 refine Calls.callWith_builtin (by show (false||(backTo cpos (starEach es X.env)).any (·.1))=false;rw [hplain]<;>rfl) (Calls.evalArgs_plain ?_)
 exact BC hA λus s2 ⟨vs,H2,I2,r2,q2⟩=>hm pins s2 σ H2 x vs v us Q I2 r1 r2 q2
/- xs.append(e),list.index on a module's tuple .. are MtR facts of 06m -/
end
end L2

namespace L2
open PySem PySem.Spec PyProof.Rows

def MtM (X:Cx) (id:String) (r:V->List V->Hp->VK->Prop):Prop :=
 ∀ (pins:List (Addr×Obj)) (s:Shared) (σ:St) (H:Hp) (x:V) (xs:List V) (v:Value) (us:List Value) (Q:VK),AK X pins σ H s->Bw x v->AW xs us->r x xs H Q ->
  wpAny (model X.prog X.w) X.A (call (.builtin id) (v::us)) (EP X pins σ Q) X.xe s

theorem AW.one:∀ {x:V} {us:List Value},AW [x] us->∃ u,us=[u]/\Bw x u
 |_,_,.cons r .nil=>⟨_,rfl,r⟩
theorem AW.zero:∀ {us:List Value},AW [] us->us=[]
 |_,.nil=>rfl
theorem AW.dropLast {xs:List V} {us:List Value} (h:AW xs us):AW xs.dropLast us.dropLast:=by
 induction h with
 |nil=>exact .nil
 |cons r t ih =>
  cases t with
  |nil=>exact .nil
  |cons q t'=>exact .cons r ih
theorem AW.rep {xs:List V} {us:List Value} (h:AW xs us):∀ k:Nat,AW (Y0 k xs).flatten (Y0 k us).flatten
 |0=>.nil
 |k+1=>by
  rw [Y4,Y4,S5,S5]
  exact AW.append h (AW.rep h k)
theorem Oo {α:Type} (l:List α):l.eraseIdx (l.length-1)=l.dropLast:=by
 induction l with
 |nil=>rfl
 |cons a r ih =>
  cases r with
  |nil=>rfl
  |cons b r =>
   have e:(a::b::r).length-1=((b::r).length-1)+1:=by
    have h1:(a::b::r).length=r.length+2:=rfl
    have h2:(b::r).length=r.length+1:=rfl
    omega
   rw [e,z7,ih]
   all_goals rfl
theorem Ku (its:List Value):∀ (k:Nat) (acc:List Value),
  List.foldl (λx1 x2=>x1++x2) acc.toArray (Y0 k its.toArray)=(acc++(Y0 k its).flatten).toArray
 |0,acc=>by simp
 |k+1,acc=>by
  have e:acc.toArray++its.toArray=(acc++its).toArray:=by simp
  have e2:(acc++its)++(Y0 k its).flatten=acc++(Y0 (k+1) its).flatten:=by
   rw [Y4,S5,X1]
  rw [<- e2,<- Ku its k (acc++its),<- e,Y4,V7]

section
variable {X:Cx} {pins:List (Addr×Obj)} {σ:St} {H:Hp} {s:Shared} {l b:Addr} {xs ys zs:List V}

theorem AK.lset {its its':List Value} {n:Nat} {f:Array Value->Array Value} {t':Nat} (I:AK X pins σ H s) (hH:H l=some (.lst xs))
  (e:s.heap.get? l=some { cls:=.type "list",data:=.seq its.toArray n }) (hf:f its.toArray=its'.toArray) (hv:AW ys its') (hz:ys.length<=sizeLine) :
  AK X pins σ (upd H l (.lst ys)) { s with heap:=s.heap.update l (Obj.mapSeq f),toks:=t' }:=by
 have q:=PySem.IsL.update e f
 rw [hf] at q
 refine I.write (x:=l) (e:=l) (by rw [hH];exact trivial) (.inl rfl) (λb' u hb hu=>(Heap.get?_update_other s.heap (Obj.mapSeq f) (Ne.symm hb)).trans hu) ⟨_,q⟩ ?_
 exact ⟨hz,its',_,hv,q⟩
theorem AK.lnew {its:List Value} {t':Nat} (I:AK X pins σ H s) (hv:AW ys its) (hz:ys.length<=sizeLine) :
  AK X pins σ (upd H s.heap.objs.size (.lst ys)) { s with heap:=s.heap.push { cls:=.type "list",data:=.seq its.toArray },toks:=t' } :=
 I.laid (λ_ _ q=>Heap.get?_push_of_some _ q) (P0 _) ⟨hz,its,0,hv,Heap.get?_push_size _ rfl⟩
theorem AK.fresh (I:AK X pins σ H s):H s.heap.objs.size=none:=I.hok.fresh (P0 _)
theorem AK.lstM (I:AK X pins σ H s) (hH:H l=some (.lst xs)):xs.length<=sizeLine/\∃ (its:List Value) (n:Nat),AW xs its/\xs.length=its.length/\s.heap.get? l=some { cls:=.type "list",data:=.seq its.toArray n }:=by
 obtain ⟨z,its,n,r,e⟩:=I.hok l _ hH
 exact ⟨z,its,n,r,r.length,e⟩

theorem My {n:Nat} (h:n<=sizeLine):Builtin.List.listTooLong n=false:=by
 unfold Builtin.List.listTooLong
 exact decide_eq_false (by omega)
end

section
variable {X:Cx}

def Ee:V->List V->Hp->VK->Prop:=λx vs H Q=>∃ l xs y,x=.ref l/\vs=[y]/\H l=some (.lst xs)/\xs.length<sizeLine/\Q .non (upd H l (.lst (xs++[y])))
theorem AR:MtM X "list.append" Ee:=by
 intro pins s σ H x vs v us Q I rx rv h
 obtain ⟨l,xs,y,rfl,rfl,hH,hz,q⟩:=h
 cases rx
 obtain ⟨u,rfl,ru⟩:=rv.one
 obtain ⟨z,its,n,r,hl,e⟩:=I.lstM hH
 refine call_meets F.slot_list_append ⟨_,e,rfl⟩ F.entry_list_append (F.args_list_append_2 _ _) (PySem.list_append l its.toArray n u (by rw [S0];omega)) ⟨e,?_⟩
 refine ⟨.non,_,I.lset (its':=its++[u]) hH e (by simp) (r.append (.cons ru .nil)) ?_,rfl,q⟩
 rw [B0,y3]
 omega

def rExtend:V->List V->Hp->VK->Prop:=λx vs H Q=>∃ l b xs zs,x=.ref l/\vs=[.ref b]/\H l=some (.lst xs)/\H b=some (.lst zs)/\xs.length+zs.length<=sizeLine/\Q .non (upd H l (.lst (xs++zs)))
theorem Qi:MtM X "list.extend" rExtend:=by
 intro pins s σ H x vs v us Q I rx rv h
 obtain ⟨l,b,xs,zs,rfl,rfl,hH,hB,hz,q⟩:=h
 cases rx
 obtain ⟨u,rfl,ru⟩:=rv.one
 cases ru
 obtain ⟨z,its,n,r,hl,e⟩:=I.lstM hH
 obtain ⟨z2,its2,n2,r2,hl2,e2⟩:=I.lstM hB
 have hsz:its.toArray.size+its2.toArray.size<=sizeLine:=by rw [S0,S0];omega
 have hlong:¬ (!its.toArray.isEmpty&&Builtin.List.listTooLong (its.toArray.size+its2.toArray.size))=true:=by
  rw [My hsz,f7]
  exact N0
 refine call_meets F.slot_list_extend ⟨_,e,rfl⟩ F.entry_list_extend (F.args_list_extend_2 _ _)
  (AutoSeq1.list_extend_list_list_0 l its.toArray n b its2.toArray n2 hlong (by rw [S0];omega) (by omega)) ⟨e,e2,?_⟩
 refine ⟨.non,_,I.lset (its':=its++its2) hH e (by simp) (r.append r2) ?_,rfl,q⟩
 rw [B0]
 omega

def rPop:V->List V->Hp->VK->Prop:=λx vs H Q=>∃ l xs y,x=.ref l/\vs=[]/\H l=some (.lst xs)/\xs[xs.length-1]?=some y/\Q y (upd H l (.lst xs.dropLast))
theorem Jf:MtM X "list.pop" rPop:=by
 intro pins s σ H x vs v us Q I rx rv h
 obtain ⟨l,xs,y,rfl,rfl,hH,hy,q⟩:=h
 cases rx
 have hus:=rv.zero
 subst hus
 obtain ⟨z,its,n,r,hl,e⟩:=I.lstM hH
 obtain ⟨u,hu,ru⟩:=r.get hy
 have hy':its.toArray[its.toArray.size-1]?=some u:=by
  show its.toArray[its.length-1]?=some u
  rw [<- N3,<- hl]
  exact hu
 refine call_meets F.slot_list_pop ⟨_,e,rfl⟩ F.entry_list_pop (F.args_list_pop_1 _) (MeetsSeq.list_pop_last l its.toArray n u hy' (by rw [S0];omega)) ⟨e,?_⟩
 refine ⟨y,_,I.lset (its':=its.dropLast) hH e ?_ r.dropLast ?_,ru,q⟩
 ·show its.toArray.eraseIdxIfInBounds (its.toArray.size-1)=its.dropLast.toArray
  rw [S0,List.eraseIdxIfInBounds_toArray,Oo]
 ·rw [List.length_dropLast]
  omega

def rCat:R2:=λx y H Q=>∃ l b xs zs,x=.ref l/\y=.ref b/\H l=some (.lst xs)/\H b=some (.lst zs)/\xs.length+zs.length<=sizeLine/\∀ p,H p=none->Q (.ref p) (upd H p (.lst (xs++zs)))
theorem DR:Fw X (binaryOp .Add) rCat:=by
 intro pins s σ H x y v u Q I rx ry h
 obtain ⟨l,b,xs,zs,rfl,rfl,hH,hB,hz,q⟩:=h
 cases rx
 cases ry
 obtain ⟨z,its,n,r,hl,e⟩:=I.lstM hH
 obtain ⟨z2,its2,n2,r2,hl2,e2⟩:=I.lstM hB
 refine PySem.P.add_list e e2 ?_ (by rw [S0,S0];omega)
 have ea:its.toArray++its2.toArray=(its++its2).toArray:=by simp
 rw [ea]
 exact ⟨.ref _,_,I.lnew (t':=s.toks) (r.append r2) (by rw [B0];omega),rfl,q _ I.fresh⟩
def rRep:R2:=λx y H Q=>∃ l k xs,x=.ref l/\y=.int k/\H l=some (.lst xs)/\-(2 ^ 63)<=k/\k<2 ^ 63/\xs.length*k.toNat<=sizeLine /\
 ∀ p,H p=none->Q (.ref p) (upd H p (.lst (Y0 k.toNat xs).flatten))
theorem len_rep {α:Type} (xs:List α) (k:Nat):(Y0 k xs).flatten.length=k*xs.length:=by
 induction k with
 |zero=>simp
 |succ k ih=>rw [Y4,S5,B0,ih,x5,Nat.add_comm]
theorem op_rep:Fw X (binaryOp .Mult) rRep:=by
 intro pins s σ H x y v u Q I rx ry h
 obtain ⟨l,k,xs,rfl,rfl,hH,h1,h2,hz,q⟩:=h
 cases rx
 obtain ⟨t,rfl⟩:=ry
 obtain ⟨z,its,n,r,hl,e⟩:=I.lstM hH
 have hlen:its.toArray.size*k.toNat<=sizeLine:=by rw [S0,<- hl];exact hz
 have hcap:¬ its.toArray.size*k.toNat > (2 ^ 63-1) / 8:=by
  have:(sizeLine:Nat)<=(2 ^ 63-1) / 8:=by decide
  omega
 have hfit:¬ (!Builtin.List.listFitsIndex k)=true:=by
  rw [fitsIndex_both h1 h2]
  exact N0
 have hlong:¬ Builtin.List.listTooLong (its.toArray.size*k.toNat)=true:=by
  rw [My hlen]
  exact N0
 have hnew:List.foldl (λx1 x2=>x1++x2) #[] (Y0 (if its.toArray.isEmpty=true then 0 else k.toNat) its.toArray)=(Y0 k.toNat its).flatten.toArray:=by
  have f0:∀ m:Nat,List.foldl (λx1 x2=>x1++x2) #[] (Y0 m its.toArray)=(Y0 m its).flatten.toArray:=λm=>by
   have:=Ku its m []
   rw [D3] at this
   exact this
  rw [f0]
  cases its with
  |nil=>simp
  |cons a r'=>rw [if_neg (by simp)]
 refine wpAny_binaryOp_repeat_ref (T:="list") (U:="int") (by decide) ⟨_,e,rfl⟩ (λs'=>typeIs_int s' k t) noFill_list_mul F.fills_int_mul F.slot_int_rmul repeat_list F.slot_int_index.lookup
  (call_meets F.slot_int_rmul (typeIs_int s k t) F.entry_int_rmul (F.args_int_rmul_2 _ _) (int___rmul___int_list k t l its.toArray n)
   ⟨e,rfl,⟨_,e,rfl⟩,call_meets F.slot_list_mul ⟨_,e,rfl⟩ F.entry_list_mul (F.args_list_mul_2 _ _) (AutoListH.list___mul___list_int_3 l its.toArray n k t hfit hcap hlong) ⟨e,?_⟩⟩)
 rw [hnew]
 exact ⟨.ref _,_,I.lnew (t':=s.toks) (r.rep k.toNat) (by rw [len_rep,Nat.mul_comm];exact hz),rfl,q _ I.fresh⟩

end

section
variable {prog:Program} {w:World} {A:Around} {E:Value->Shared->Prop} {s:Shared}
end

section
variable {X:Cx}
end
end L2

namespace Att
open PySem PySem.W PySem.Calls PyProof.Rows

theorem Ie {P:Params} {h:Heap}:∀ (ns:List Int) (vs:List Value),WellAll P h vs (ns.map WData.int)->IntsAre vs ns:=by
 intro ns
 induction ns with
 |nil =>
  intro vs w
  rw [x3] at w
  cases w
  exact .nil
 |cons n ns ih =>
  intro vs w
  rw [S1] at w
  cases w with
  |cons a b =>
   cases a
   exact .cons _ _ (ih _ b)

theorem PX {l:OpenLaw} {n:Nat} (hn:l.most=some n) {P:Params} {h:Heap} {args:List WData} {vals:List Value}
  (hpre:l.row.toRowW.claim.pre args=true) (hwl:WellAll P h vals args) :
  ∃ a vs ns,vals=[Value.ref a]/\args=[WData.list (ns.map WData.int)]/\h.get? a=some { cls:=.type "list",data:=.seq vs.toArray }/\IntsAre vs ns/\ns.length<=n:=by
 have hsh:WShape.hasAll [] args [.list .int]=true:=(pre_splitW hpre).1
 have hc:l.pre.holds [] { args:=args }=true:=(pre_splitW hpre).2
 obtain ⟨d,r,rfl,h1,h2⟩:=hasAllW_cons hsh
 obtain rfl:=hasAllW_nil h2
 obtain ⟨xs,rfl,h3⟩:=hasW_list h1
 obtain ⟨ns,rfl⟩:=items_int h3
 have hlen:ns.length<=n:=by
  unfold OpenLaw.pre at hc
  have h4:(WTm.not (.lt (.lit (.int (n:Int))) (.len (.arg 0)))).holds [] { args:=[.list (ns.map .int)] }=true:=by
   have h4:=(holds_andW hc).1
   rw [hn] at h4
   exact h4
  have h5:=condW_of h4 (w_not (w_lt w_lit (w_len_list (w_arg rfl))))
  rw [D0] at h5
  refine Nat.le_of_not_lt λq=>?_
  have q':(n:Int)<((ns.length:Nat):Int):=by omega
  first
   | (rw [decide_eq_true q'] at h5;exact absurd h5 (by decide))
   | (simp at h5;omega)
 cases hwl with
 |cons w1 w2 =>
  cases w2
  cases w1 with
  |list ho hall=>exact ⟨_,_,ns,rfl,rfl,ho,Ie ns _ hall,hlen⟩

theorem Qa (l:OpenLaw) (args:List WData):l.row.toRowW.claim.post args (.bool true) args=true :=
 postW_of (r:=l.row.toRowW) (X:=(true == true))
  (show WShape.has [] (.bool true) .bool=true by first | rfl | decide | simp [WShape.has,WShape.arms,WShape.armsAll])
  (show (WTm.eq .res (.lit (.bool true))).value [] { args:=args,res:=some (.bool true),after:=args }=some (.bool (true == true)) from w_eq_bool (w_res rfl) w_lit) rfl

theorem attach_call {l:OpenLaw} {n:Nat} {q:Program} {loose:List Str} {XP:(Str->Option Value)->Heap->Prop} {YP:World->Heap->Prop} {d:DefRec}
  (hn:l.most=some n) (hdf:d.params.defaults=[])
  (call:∀ (w:World) (s₀ s₁:Shared) (mg mb:Str->Option Value) (fa:Addr) (o:Obj) (pm cd doc:Value) (a:Addr) (vs:List Value) (ns:List Int),
   Ground q loose [] XP w s₀ mg mb s₁.heap->YP w s₁.heap ->
   s₁.heap.get? fa=some o->o.data=.func (docDef d.name d.params d.body d.scope pm cd doc)->s₁.heap.CodeRec cd d.name->mg d.name=some (.ref fa) ->
   s₁.heap.get? a=some { cls:=.type "list",data:=.seq vs.toArray }->IntsAre vs ns->ns.length<=n->s₁.gens=#[] ->
   codeAny (model l.prog w) callerA (.call (.ref fa) ⟨[.ref a],[]⟩) (λr s'=>r=.ok (.ret (.bool true))/\OldK s₁.heap s'.heap/\s'.os=s₁.os/\AllBare s'.gens) s₁) :
  WalkO q loose XP YP l.row.toRowW d [] (λf vs=>PySem.call f vs):=by
 intro w s₀ s₁ mg mb G Y fa o pm cd doc dV kV ho hd hcd hD hmg hg args vals as hpre hlay hrd hwl hlo
 obtain rfl:dV=.none:=Dflts.none hD hdf
 obtain rfl:kV=.none:=Dflts.noKw hD
 obtain ⟨a,vs,ns,rfl,rfl,hobj,hints,hlen⟩:=PX hn hpre hwl
 refine enter_call (codeAny_mono (call w s₀ s₁ mg mb fa o pm cd doc a vs ns G Y ho (fd_plain hd) hcd hmg hobj hints hlen hg) λr s' hq=>?_)
 obtain ⟨rfl,h2,h3,h4⟩:=hq
 exact ⟨.inl ⟨.bool true,.bool true,[],rfl,λ_=>rfl,.bool true,Qa l _,λ_=>⟨List.Pairwise.nil,λ_ hm=>(nomatch hm)⟩⟩,h2,h3,h4⟩

section
variable {prog:Program} {w:World} {A:Around} {E:Value->Shared->Prop} {s:Shared} {K:Frag}

end
end Att

namespace L2
open PySem PySem.Spec PyProof.Rows

theorem JR:∀ {vs:List Value} {ns:List Int},IntsAre vs ns->AW (ns.map V.int) vs
 |_,_,.nil=>.nil
 |_,_,.cons n t h=>.cons ⟨t,rfl⟩ (JR h)

def Only (H:Hp):Prop:=∀ b,H b=none\/∃ o xs,H b=some (.frz o (.lst xs))

theorem Sg {P:Program} {w:World} {K:K0} {mg mb:Str->Option Value} {CX:OC} {k:Nat} {fa a:Addr} {fd:FuncData} {x:Str} {sp:Sp} {s₁:Shared} {vs:List Value} {ns:List Int}
  (KX:K.In s₁.heap) (hns:s₁.heap.Ns mainGlobals mg) (hb:s₁.heap.Ns builtinsNs mb) (hbb:∀ x:Str,x≠"__name__"->mb x=bootBuiltins x) (hlim:s₁.heap.NoLimit) (hg:s₁.gens=#[])
  (ha:s₁.heap.get? a=some { cls:=.type "list",data:=.seq vs.toArray }) (hi:IntsAre vs ns) (hl:ns.length<=sizeLine) (hr:Dz k callerA)
  (F:∀ base:Heap,K.In base->base.Ns mainGlobals mg->Au P w K mg base CX k fa fd [x] sp) (hbind:∀ (s:Shared) (u:Value),BindsTo s fd ⟨[u],[]⟩ [(x,u)])
  (hsp:∀ H:Hp,Only H->AH K H a (ns.map V.int)->sp [.ref a] H (λv _=>v=.bl true) λ_ _ _=>False)
  (hCX:∀ H e s',CX [] H s₁ (λ_ _ _=>False) e s'->False) :
  codeAny (model P w) callerA (.call (.ref fa) ⟨[.ref a],[]⟩) (λr s'=>r=.ok (.ret (.bool true))/\OldK s₁.heap s'.heap/\s'.os=s₁.os/\AllBare s'.gens) s₁:=by
 have rv:=JR hi
 have lenV:=hi.length
 -- from an abstract heap in which nothing but the script may be tracked
 have core:∀ H:Hp,Only H->AH K H a (ns.map V.int)->IA P w H s₁.heap->(∀ b,H b≠none->b=a)->(H a≠none->K.lookup a=none) ->
   codeAny (model P w) callerA (.call (.ref fa) ⟨[.ref a],[]⟩) (λr s'=>r=.ok (.ret (.bool true))/\OldK s₁.heap s'.heap/\s'.os=s₁.os/\AllBare s'.gens) s₁:=by
  intro H hO hS hok hA hK
  have base_of:∀ {b:Addr} {o:Obj},s₁.heap.get? b=some o->H b=none->(Lw s₁.heap H).get? b=some o:=λe n=>Sq e n
  have noA:∀ {b:Addr} {o:Obj} {es:Array DictEntry} {ep:Nat},s₁.heap.get? b=some o->o.data=.dict es ep->H b=none:=λ{b o es ep} e d=>by
   cases q:H b with
   |none=>rfl
   |some u =>
    have e':b=a:=hA b (by rw [q];simp)
    subst e'
    rw [ha] at e;cases e
    have d':Data.seq vs.toArray _=Data.dict es ep:=d
    cases d'
  have nsK:∀ {b:Addr} {m:Str->Option Value},s₁.heap.Ns b m->(Lw s₁.heap H).Ns b m:=λ{b m} ⟨o,es,ep,e,d,r⟩=>⟨o,es,ep,base_of e (noA e d),d,r⟩
  have hKb:K.In (Lw s₁.heap H):=λb o e=>base_of (KX b o e) (by
   cases q:H b with
   |none=>rfl
   |some u =>
    have e':b=a:=hA b (by rw [q];simp)
    subst e'
    rw [hK (by rw [q];simp)] at e;cases e)
  have hM:Mod K mg (Lw s₁.heap H):=⟨hKb,nsK hns,⟨mb,nsK hb,hbb⟩,let ⟨mc,h1,h2⟩:=hlim;⟨mc,nsK h1,h2⟩⟩
  have e0:OB P w K mg (Lw s₁.heap H) callerA [] s₁ H:=⟨rfl,hM,λb o e=>of_hidT e,S6 (Qp _ _),trivial,λb hb=>absurd (show b∈([]:List Addr) from hb) (by simp),hok,.of_eq hg⟩
  refine codeAny_mono ((F _ hKb (nsK hns)).run callerA [] s₁ H ⟨[.ref a],[]⟩ [.ref a] [.ref a] _ _ hr e0 (hbind s₁ (.ref a)) (.cons rfl .nil) (hsp H hO hS)) λr s' h=>?_
  cases r with
  |error e=>exact (hCX H e s' h).elim
  |ok fl =>
   cases fl with
   |next=>exact False.elim h
   |brk=>exact False.elim h
   |cont=>exact False.elim h
   |ret u =>
    obtain ⟨v,H',os,bare,un,hok',r',q⟩:=h
    have q':v=.bl true:=q
    subst q'
    obtain rfl:u=Value.bool true:=r'
    refine ⟨rfl,OldK.of_keep λb o e=>?_,os,bare⟩
    cases q:H b with
    |none=>exact un.keep b o e q (by intro z;exact absurd (show b∈([]:List Addr) from z) (by simp)) (by simp)
    |some u =>
     rcases hO b with z | ⟨ob,xs,z⟩
     ·rw [q] at z;cases z
     ·have z2:=un.frzs b ob _ z
      obtain ⟨e1,_⟩:=hok b _ z
      obtain ⟨e2,_⟩:=hok' b _ z2
      rw [e] at e1;cases e1
      exact e2
 cases hk:K.lookup a with
 |some o =>
  -- the script is one of the module's own objects
  have e:=KX a o hk
  rw [ha] at e
  cases e
  refine core (λ_=>none) (λ_=>.inl rfl) (.inr ⟨_,vs.toArray,_,hk,rfl,rfl,rfl,by rw [S0,lenV];exact hl,by simpa using rv⟩) (λb u z=>by have z':(none:Option HO)=some u:=z;cases z') (λb z=>absurd rfl z) λz=>absurd rfl z
 |none =>
  refine core (λb=>if b=a then some (.frz { cls:=.type "list",data:=.seq vs.toArray } (.lst (ns.map V.int))) else none) (λb=>?_) (.inl (.inr ⟨{ cls:=.type "list",data:=.seq vs.toArray },if_pos rfl⟩)) (λb u z=>?_) (λb z=>?_) λ_=>hk
  ·by_cases hb:b=a
   ·exact .inr ⟨_,_,if_pos hb⟩
   ·exact .inl (if_neg hb)
  ·by_cases hb:b=a
   ·have z':=(if_pos hb).symm.trans z
    cases z'
    subst hb
    exact ⟨ha,by rw [D0];exact hl,vs,_,rv,ha⟩
   ·have z':=(if_neg hb).symm.trans z
    cases z'
  ·by_cases hb:b=a
   ·exact hb
   ·exact absurd (if_neg hb) z
end L2

namespace L2
open PySem PySem.Spec PyProof.Rows

theorem walk_of {l:T7} {n k:Nat} {q:Program} {loose:List Str} {XP:(Str->Option Value)->Heap->Prop} {YP:World->Heap->Prop} {d:DefRec} {K:Params->K0} {CX:World->OC} {sp:World->Sp} {x:Str}
  (hn:l.most=some n) (hn2:n<=sizeLine) (hdf:d.params.defaults=[]) (hr:Dz k callerA)
  (hY:∀ (w:World) (h:Heap),YP w h->(K w.params).In h)
  (F:∀ (w:World) (mg:Str->Option Value) (fa:Addr) (h:Heap),(K w.params).In h->h.Ns mainGlobals mg->mg d.name=some (.ref fa) ->
   ∃ fd:FuncData,(∀ (s:Shared) (u:Value),BindsTo s fd ⟨[u],[]⟩ [(x,u)]) /\
    ∀ base:Heap,(K w.params).In base->base.Ns mainGlobals mg->Au l.prog w (K w.params) mg base (CX w) k fa fd [x] (sp w))
  (hsp:∀ (w:World) (H:Hp) (a:Addr) (ns:List Int),ns.length<=n->Only H->AH (K w.params) H a (ns.map V.int)->sp w [.ref a] H (λv _=>v=.bl true) λ_ _ _=>False)
  (hCX:∀ (w:World) (H:Hp) (s:Shared) (e:Value) (s':Shared),CX w [] H s (λ_ _ _=>False) e s'->False) :
  PySem.W.WalkO q loose XP YP l.row.toRowW d [] (λf vs=>PySem.call f vs):=by
 refine Att.attach_call hn hdf λw s₀ s₁ mg mb fa o pm cd doc a vs ns G Y ho hd hcd hmg hobj hints hlen hg=>?_
 have KX:=hY w _ Y
 obtain ⟨fd,hb,hF⟩:=F w mg fa _ KX G.T.g hmg
 exact Sg KX G.T.g G.T.b G.T.builtins G.T.nolimit hg hobj hints (Q0 hlen hn2) hr hF hb (λH hO hS=>hsp w H a ns hlen hO hS) λH e s'=>hCX w H s₁ e s'
theorem walk_ofK {l:T7} {n k:Nat} {q:Program} {loose:List Str} {XP:(Str->Option Value)->Heap->Prop} {YP:World->Heap->Prop} {d:DefRec} {K:Params->K0} {CX:OC} {sp:K0->Sp} {x:Str}
  (hn:l.most=some n) (hn2:n<=sizeLine) (hdf:d.params.defaults=[]) (hr:Dz k callerA)
  (hY:∀ (w:World) (h:Heap),YP w h->(K w.params).In h)
  (F:∀ (w:World) (mg:Str->Option Value) (fa:Addr) (h:Heap),(K w.params).In h->h.Ns mainGlobals mg->mg d.name=some (.ref fa) ->
   ∃ fd:FuncData,(∀ (s:Shared) (u:Value),BindsTo s fd ⟨[u],[]⟩ [(x,u)]) /\
    ∀ base:Heap,(K w.params).In base->base.Ns mainGlobals mg->Au l.prog w (K w.params) mg base CX k fa fd [x] (sp (K w.params)))
  (hsp:∀ (K:K0) (H:Hp) (a:Addr) (ns:List Int),ns.length<=n->Only H->AH K H a (ns.map V.int)->sp K [.ref a] H (λv _=>v=.bl true) λ_ _ _=>False)
  (hCX:∀ (H:Hp) (s:Shared) (e:Value) (s':Shared),CX [] H s (λ_ _ _=>False) e s'->False) :
  PySem.W.WalkO q loose XP YP l.row.toRowW d [] (λf vs=>PySem.call f vs) :=
 walk_of (K:=K) (CX:=λ_=>CX) (sp:=λw=>sp (K w.params)) hn hn2 hdf hr hY F (λw H a ns h1 h2 h3=>hsp (K w.params) H a ns h1 h2 h3) λ_ H s e s'=>hCX H s e s'
end L2


namespace L2
open PySem PySem.Spec PyProof.Rows

def AB (s:Stmt) (j:Nat):Stmt:=match s with
 |.ClassDef _ _ _ body _ _ _ _ _ _ _=>body.getD j (.Pass ⟨0,0,0,0⟩)
 |_=>.Pass ⟨0,0,0,0⟩
def Df (s:Stmt):Arguments:=match s with
 |.FunctionDef _ a _ _ _ _ _ _ _ _=>a
 |_=>{ posonlyargs:=[],args:=[],vararg:=none,kwonlyargs:=[],kw_defaults:=[],kwarg:=none,defaults:=[] }
def CP (s:Stmt):List Stmt:=match s with
 |.FunctionDef _ _ b _ _ _ _ _ _ _=>b
 |_=>[]
def Aj (s:Stmt):Scope:=match s with
 |.FunctionDef _ _ _ _ _ _ sc _ _ _=>sc
 |_=>{ kind:=.function,names:=[],isGenerator:=false,isCoroutine:=false }

abbrev CX0:OC:=λ_ _ _ _ _ _=>False
abbrev E0:XK:=λ_ _ _=>False
theorem Ay {X:Cx}:ER CX0 X E0:=λ_ _ _ _ _ _ _ h=>h.elim

structure Fun (K:K0) (x qual:Str) (st:Stmt) (f:Addr) (fd:FuncData):Prop where
 ex:∃ (oc:Value) (od:Option Addr) (kV doc pm:Value) (an:Option Addr) (cdv ct:Value) (osl:Array (Option Value)),
  fd=Y3 x qual (Df st) (CP st) (Aj st) .none kV doc pm an cdv ct/\K.lookup f=some ⟨oc,od,.func fd,osl⟩/\D5 K cdv qual=true
 kp:X3 K (.ref f)=true
section
variable {P:Program} {w:World} {K:K0} {mg:Str->Option Value} {base:Heap}
theorem Fun.ok {x qual:Str} {st:Stmt} {f:Addr} {fd:FuncData} {N ps:List Str} {k:Nat} {sp:Sp} (F:Fun K x qual st f fd) (S:Av N ps (Aj st)) (len:∀ vs H Q E,sp vs H Q E->vs.length=ps.length)
  (hbody:∀ (cdv:Value) (A:Around) (outer:List Env) (s:Shared) (H:Hp) (vs:List V) (Q:VK) (E:XK),Dz k (A.deeper (envOfC qual (Aj st) s.heap.objs.size f cdv))->sp vs H Q E ->
   ∃ t,LL (Ot CX0 P w K mg base N qual (Aj st) f cdv A outer s H E).nox (CP st) t/\t { nx:=λ_ H'=>Q .non H',rt:=Q } (start N vs) H):Au P w K mg base CX0 (k+1) f fd ps sp:=by
 obtain ⟨oc,od,kV,doc,pm,an,cdv,ct,osl,rfl,lk,hcd⟩:=F.ex
 refine fn_of lk hcd S len λA outer s H vs Q E hr hsp=>?_
 obtain ⟨t,h,q⟩:=hbody cdv A outer s H vs Q E hr hsp
 exact ⟨t,h.nox,q⟩
theorem Fun.binds {x qual:Str} {st:Stmt} {f:Addr} {fd:FuncData} {ps:List Str} (F:Fun K x qual st f fd)
  (h:∀ (kV doc pm:Value) (an:Option Addr) (cdv ct:Value) (us:List Value),us.length=ps.length->bindArgs (Y3 x qual (Df st) (CP st) (Aj st) .none kV doc pm an cdv ct) ⟨us,[]⟩=pure (ps.zip us)):ED K fd ps []:=by
 obtain ⟨oc,od,kV,doc,pm,an,cdv,ct,osl,rfl,lk,hcd⟩:=F.ex
 exact .all (h kV doc pm an cdv ct)
theorem Oh {x qual:Str} {st:Stmt} {f:Addr} {oc:Value} {od an:Option Addr} {osl:Array (Option Value)} {kV doc pm cdv ct:Value} (l:K.lookup f=some ⟨oc,od,.func (Y3 x qual (Df st) (CP st) (Aj st) .none kV doc pm an cdv ct),osl⟩)
  (c:D5 K cdv qual=true) (k:X3 K (.ref f)=true):Fun K x qual st f (Y3 x qual (Df st) (CP st) (Aj st) .none kV doc pm an cdv ct):=⟨⟨oc,od,kV,doc,pm,an,cdv,ct,osl,rfl,l,c⟩,k⟩
end
section
variable {X:Cx}
theorem pv (i:Nat) {x:Str} {pos:Pos} (hN:X.N[i]?=some x:=by rfl) (hv:Vis X.env.scope x:=by first | exact Or.inl rfl | exact Or.inr (Or.inl rfl) | exact Or.inr (Or.inr rfl)) (hd:(x == ("__debug__":Str))=false:=by decide)
  (hcd:(x == ("__classdict__":Str))=false:=by decide):PE X (.Name x pos) (IB i):=pe_var hN hv hd hcd
end

theorem iteF {A B:Prop} (h:B):if false=true then A else B:=by
 rw [if_neg N0]
 exact h
theorem iteT {A B:Prop} (h:A):if true=true then A else B:=by
 rw [if_pos rfl]
 exact h
def Ag (H H':Hp):Prop:=∀ b o,H b=some o->H' b=some o
theorem Ag.refl (H:Hp):Ag H H:=λ_ _ h=>h
theorem Ag.trans {H H1 H2:Hp} (a:Ag H H1) (b:Ag H1 H2):Ag H H2:=λc o h=>b c o (a c o h)
theorem Ag.free {H H':Hp} (e:Ag H H') {l:Addr} (h:H' l=Option.none):H l=Option.none:=by
 cases q:H l with
 |none=>rfl
 |some o =>
  rw [e l o q] at h
  cases h
theorem Ag.seq {K:K0} {H H':Hp} {a:Addr} {xs:List V} (e:Ag H H') (h:AH K H a xs):AH K H' a xs:=by
 rcases h with (h | ⟨o,h⟩) | h
 ·exact .inl (.inl (e _ _ h))
 ·exact .inl (.inr ⟨o,e _ _ h⟩)
 ·exact .inr h

end L2


namespace L2
open PySem PySem.Spec PyProof.Rows

section
variable {κ:Type} [DecidableEq κ]
def valV (kvs:List (κ×V)) (k:κ):Option V:=(kvs.find? λkv=>decide (kv.1=k)).map (·.2)
theorem QL {p:κ×V} {r:List (κ×V)} {k:κ} (e:p.1=k):valV (p::r) k=some p.2:=by simp [valV,j0,e]
theorem QM {p:κ×V} {r:List (κ×V)} {k:κ} (e:¬ p.1=k):valV (p::r) k=valV r k:=by simp [valV,j0,e]
theorem Ga.isSome_eq {o:Option V} {u:Option Value} (r:Ga o u):o.isSome=u.isSome:=by
 cases o with
 |none=>cases u with
  |none=>rfl
  |some _=>exact (show False from r).elim
 |some _=>cases u with
  |none=>exact (show False from r).elim
  |some _=>rfl
theorem Ga.getD {o:Option V} {u:Option Value} {d:V} {d':Value} (r:Ga o u) (rd:Bw d d'):Bw (o.getD d) (u.getD d'):=by
 cases o with
 |none=>cases u with
  |none=>exact rd
  |some _=>exact (show False from r).elim
 |some _=>cases u with
  |none=>exact (show False from r).elim
  |some _=>exact r

theorem KV.val {kvs:List (κ×V)} {vs:List (κ×Value)} (r:KV kvs vs) (k:κ):Ga (valV kvs k) (valueAt vs k):=by
 unfold KV at r
 induction r with
 |nil=>exact True.intro
 |@cons p q ps qs h t ih =>
  obtain ⟨h1,h2⟩:=h
  by_cases e:p.1=k
  ·have e':q.1=k:=h1.symm.trans e
   have b:valueAt (q::qs) k=some q.2:=by simp [valueAt,j0,e']
   rw [QL e,b];exact h2
  ·have e':¬ q.1=k:=λz=>e (h1.trans z)
   have b:valueAt (q::qs) k=valueAt qs k:=by simp [valueAt,j0,e']
   rw [QM e,b];exact ih
end


theorem MJ {P:Program} {w:World} {k:DX} {u:Value} (r:Bw (kV k) u):(Eg P w).is k u=true:=by
 cases k with
 |inl i=>obtain ⟨t,e⟩:=(show ∃ t,u=Value.int i t from r);subst e;exact ME P w i t
 |inr x=>obtain ⟨t,e⟩:=(show ∃ t,u=Value.str x t from r);subst e;exact MD P w x t
section
variable {P:Program} {w:World} {H:Hp} {h:Heap} {a:Addr}
end

section
variable {X:Cx} {pins:List (Addr×Obj)} {σ:St} {H:Hp} {s:Shared} {a:Addr} {y v:V} {u r:Value} {o:Option V} {A:Around} {E:Value->Shared->Prop}

end

section
variable {X:Cx} {pins:List (Addr×Obj)} {σ:St} {H:Hp} {s:Shared} {a:Addr} {kvs:List (DX×V)} {k:DX} {u:Value} {A:Around} {E:Value->Shared->Prop}
end


def NoSl (i:Expr):Prop:=∀ ov iv,subscripted i false ov iv=operate [ov,iv] (getItem ov iv)
theorem subD_of {prog:Program} {w:World} {A:Around} {E:Value->Shared->Prop} {s:Shared} {env:Env} {value slice:Expr} {pos:Pos} {T id:String} {Q:Value->Shared->Prop}
  (hl:typeLookup (.type T) "__getitem__"=pure (some (.builtin id))) (hs:NoSl slice)
  (h:wpAny (model prog w) A (eval value env) (λo s₁=>wpAny (model prog w) A (eval slice env) (λi s₂=>s₂.TypeIs o T/\wpAny (model prog w) A (getItem o i) Q E s₂) E s₁) E s) :
  wpAny (model prog w) A (eval (.Subscript value slice pos) env) Q E s:=by
 refine Subscript_ (wpAny_mono h (λo s₁ h₁=>wpAny_mono h₁ (λi s₂ h₂=>?_) λ_ _ x=>x) λ_ _ x=>x)
 obtain ⟨hT,h₂⟩:=h₂
 unfold subscriptTail
 refine wpAny_bind ?_
 rw [getitemInPython_of_ne hT.not_modules]
 refine wpAny_bind (wpAny_specialOf hT hl ?_)
 have fin:wpAny (model prog w) A (subscripted slice false o i) (λr s₃=>wpAny (model prog w) A (letTemporaryGo value o r >>= λ_=>pure r) Q E s₃) E s₂:=by
  rw [hs o i]
  exact wpAny_operating (wpAny_mono h₂ (λr s₃ h₃=>wpAny_bind (wpAny_letTemporaryGo (wpAny_pure h₃))) λ_ _ x=>x)
 first
  |exact wpAny_pure (wpAny_bind fin)
  |exact wpAny_bind (wpAny_pure (wpAny_bind fin))
  |exact wpAny_bind fin

section
variable {X:Cx} {o i e value:Expr} {pos pos' tpos:Pos} {td ty tv:TE}
end


def QY:TE:=λ_ H Q=>∀ p,H p=none->Q (.ref p) (upd H p (.dK []))
section
variable {X:Cx} {pos:Pos}
end

structure M1 (X:Cx) (o:Expr) (m:Str) (apos:Pos) (e:Expr) (cpos:Pos):Prop where
 base:attributeBase o m X.env (eval o X.env)=eval o X.env
 few:((backTo cpos (starEach [e] X.env)).all (λx=>!x.1)&&(backToKw cpos (keywordEach [] X.env)).all (λx=>x.1.isSome)
  && decide (([e]:List Expr).length+([]:List Keyword).length+(if ([]:List Keyword).isEmpty then 0 else 1)<30))=true
 line:(apos.endLine == cpos.line)=true
 trees:backTo cpos (starEach [e] X.env)=[(false,eval e X.env)]
structure M2 (X:Cx) (o:Expr) (m:Str) (apos:Pos) (e f:Expr) (cpos:Pos):Prop where
 base:attributeBase o m X.env (eval o X.env)=eval o X.env
 few:((backTo cpos (starEach [e,f] X.env)).all (λx=>!x.1)&&(backToKw cpos (keywordEach [] X.env)).all (λx=>x.1.isSome)
  && decide (([e,f]:List Expr).length+([]:List Keyword).length+(if ([]:List Keyword).isEmpty then 0 else 1)<30))=true
 line:(apos.endLine == cpos.line)=true
 trees:backTo cpos (starEach [e,f] X.env)=[(false,eval e X.env),(false,eval f X.env)]

section
variable {X:Cx} {pins:List (Addr×Obj)} {σ:St} {H:Hp} {s:Shared} {a:Addr} {y d:V} {u r:Value} {o:Option V} {A:Around} {E:Value->Shared->Prop}
end

section
variable {X:Cx} {o e f:Expr} {apos cpos:Pos} {td ty tx:TE}
end

section
variable {X:Cx} {pins:List (Addr×Obj)} {σ:St} {H:Hp} {s:Shared} {a:Addr} {kvs:List (DX×V)} {A:Around} {E:Value->Shared->Prop}
end


section
variable {X:Cx} {pins:List (Addr×Obj)} {σ:St} {H:Hp} {s:Shared} {a:Addr} {y:V} {u:Value} {A:Around} {E:Value->Shared->Prop}
end
end L2
namespace L2
open PySem PySem.Spec PyProof.Rows
section
variable {X:Cx}
end
section
variable {κ:Type} [DecidableEq κ]
end
end L2

set_option maxHeartbeats 4000000
namespace L2
open PySem PySem.Spec PyProof.Rows

theorem noE {α:Type} {M:Model} {A:Around} {t:Sem α} {Q:α->Shared->Prop} {E:Value->Shared->Prop} {s:Shared} (h:wpAny M A t Q (λ_ _=>False) s):wpAny M A t Q E s :=
 wpAny_mono h (λ_ _ q=>q) λ_ _ f=>f.elim

def EU (cells:List (Str×Addr)):List (Str×NameKind)->List (Str×Addr)->List (Str×Addr)
 |[],acc=>acc
 | (n,k)::r,acc=>EU cells r (if (k == NameKind.free)=true then (n,(cells.lookup n).getD 0)::acc else acc)
theorem Kx {cells:List (Str×Addr)} {y:Str} {c:Addr}:∀ (names:List (Str×NameKind)) (acc:List (Str×Addr)),
  (EU cells names acc).lookup y=some c->acc.lookup y=some c\/((y,NameKind.free)∈names/\c=(cells.lookup y).getD 0)
 |[],acc,h=>.inl h
 | (n,k)::r,acc,h=>by
  rcases Kx r _ h with h1 | ⟨h1,h2⟩
  ·by_cases hk:(k == NameKind.free)=true
   ·rw [if_pos hk,V2] at h1
    by_cases e:(y == n)=true
    ·rw [e] at h1
     have e1:y=n:=by simpa using e
     have e2:k=NameKind.free:=by simpa using hk
     subst e1 e2
     exact .inr ⟨C0,(Z2.inj h1).symm⟩
    ·have e1:(y == n)=false:=by simpa using e
     rw [e1] at h1
     exact .inl h1
   ·rw [if_neg hk] at h1
    exact .inl h1
  ·exact .inr ⟨A0 _ h1,h2⟩
theorem HR {cells:List (Str×Addr)} {y:Str}:∀ (names:List (Str×NameKind)) (acc:List (Str×Addr)),(∃ c,acc.lookup y=some c)->∃ c,(EU cells names acc).lookup y=some c
 |[],_,h=>h
 | (n,k)::r,acc,h=>by
  refine HR r _ ?_
  by_cases hk:(k == NameKind.free)=true
  ·rw [if_pos hk,V2]
   by_cases e:(y == n)=true
   ·rw [e];exact ⟨_,rfl⟩
   ·have e1:(y == n)=false:=by simpa using e
    rw [e1];exact h
  ·rw [if_neg hk];exact h
theorem HC {cells:List (Str×Addr)} {y:Str}:∀ (names:List (Str×NameKind)) (acc:List (Str×Addr)),(y,NameKind.free)∈names->∃ c,(EU cells names acc).lookup y=some c
 |[],_,h=>by simp at h
 | (n,k)::r,acc,h=>by
  rcases L0.mp h with h | h
  ·cases h
   refine HR r _ ?_
   rw [if_pos (by rfl),V2,beq_self_eq_true]
   exact ⟨_,rfl⟩
  ·exact HC r _ h
theorem ET {scope:Scope} {env:Env} (h:∀ x,(x,NameKind.free)∈scope.names->∃ c,env.cells.lookup x=some c):closureFor scope env=pure (EU env.cells scope.names []):=by
 have go:∀ (names:List (Str×NameKind)) (acc:List (Str×Addr)),(∀ x,(x,NameKind.free)∈names->∃ c,env.cells.lookup x=some c) ->
   (forIn names acc λ(x:Str×NameKind) (cs:List (Str×Addr))=>match x with
    | (name,kind)=>if (kind == NameKind.free)=true then do let a <- cellOf env name;pure (ForInStep.yield ((name,a)::cs)) else pure (ForInStep.yield cs):Sem (List (Str×Addr)))
   = pure (EU env.cells names acc):=by
  intro names
  induction names with
  |nil=>intro acc _;rfl
  |cons x r ih =>
   intro acc hx
   obtain ⟨n,k⟩:=x
   rw [List.forIn_cons]
   by_cases hk:(k == NameKind.free)=true
   ·have e2:k=NameKind.free:=by simpa using hk
    obtain ⟨c,hc⟩:=hx n (by rw [e2];exact C0)
    have hcell:cellOf env n=pure c:=by unfold cellOf;rw [hc]
    simp only [hk,if_true,hcell]
    show (forIn r ((n,c)::acc) _:Sem (List (Str×Addr)))=_
    rw [ih _ λy hy=>hx y (A0 _ hy)]
    simp only [EU,hk,if_true,hc,Option.getD_some]
   ·simp only [hk,if_false]
    show (forIn r acc _:Sem (List (Str×Addr)))=_
    rw [ih _ λy hy=>hx y (A0 _ hy)]
    simp only [EU,hk,if_false]
    rfl
 have:=go scope.names [] h
 unfold closureFor
 exact (congrArg (λ(t:Sem (List (Str×Addr)))=>t >>= λcs=>(pure cs:Sem (List (Str×Addr)))) this).trans rfl

theorem DE {env:Env}:∀ {names:List (Str×NameKind)} {x:Str},names.lookup x=some .free ->
  (names.map λ(n,k)=>if (k == NameKind.free&&env.scope.kind == .function&&env.kindOf n == some .cell) then (n,NameKind.cell) else (n,k)).lookup x=some .cell \/
  (names.map λ(n,k)=>if (k == NameKind.free&&env.scope.kind == .function&&env.kindOf n == some .cell) then (n,NameKind.cell) else (n,k)).lookup x=some .free
 |[],_,h=>by simp at h
 | (n,k)::r,x,h=>by
  have ih:=@DE env r x
  show P4 x ((if (k == NameKind.free&&env.scope.kind == .function&&env.kindOf n == some .cell)=true then (n,NameKind.cell) else (n,k))::_)=_\/P4 x ((if (k == NameKind.free&&env.scope.kind == .function&&env.kindOf n == some .cell)=true then (n,NameKind.cell) else (n,k))::_)=_
  cases hx:x == n with
  |true =>
   simp only [V2,hx] at h
   cases h
   by_cases hc:(NameKind.free == NameKind.free&&env.scope.kind == .function&&env.kindOf n == some .cell)=true
   ·rw [if_pos hc];left;simp [V2,hx]
   ·rw [if_neg hc];right;simp [V2,hx]
  |false =>
   simp only [V2,hx] at h
   by_cases hc:(k == NameKind.free&&env.scope.kind == .function&&env.kindOf n == some .cell)=true
   ·rw [if_pos hc];simp only [V2,hx];exact ih h
   ·rw [if_neg hc];simp only [V2,hx];exact ih h
theorem CH {env:Env} {k:NameKind}:∀ {names:List (Str×NameKind)} {x:Str},
  (names.map λ(n,k)=>if (k == NameKind.free&&env.scope.kind == .function&&env.kindOf n == some .cell) then (n,NameKind.cell) else (n,k)).lookup x=some k ->
  names.lookup x=some k\/(k=.cell/\names.lookup x=some .free)
 |[],_,h=>by simp at h
 | (n,j)::r,x,h=>by
  have ih:=@CH env k r x
  have h':P4 x ((if (j == NameKind.free&&env.scope.kind == .function&&env.kindOf n == some .cell)=true then (n,NameKind.cell) else (n,j))::r.map λ(n,k)=>if (k == NameKind.free&&env.scope.kind == .function&&env.kindOf n == some .cell) then (n,NameKind.cell) else (n,k))=some k:=h
  cases hx:x == n with
  |true =>
   by_cases hc:(j == NameKind.free&&env.scope.kind == .function&&env.kindOf n == some .cell)=true
   ·rw [if_pos hc] at h'
    simp only [V2,hx] at h' |-
    cases h'
    have e:j=NameKind.free:=by
     have:=hc
     simp only [Z1] at this
     simpa using this.1.1
    rw [e]
    exact .inr ⟨rfl,rfl⟩
   ·rw [if_neg hc] at h'
    simp only [V2,hx] at h' |-
    exact .inl h'
  |false =>
   by_cases hc:(j == NameKind.free&&env.scope.kind == .function&&env.kindOf n == some .cell)=true
   ·rw [if_pos hc] at h';simp only [V2,hx] at h' |-;exact ih h'
   ·rw [if_neg hc] at h';simp only [V2,hx] at h' |-;exact ih h'

def Iz (sc osc:Scope) (N N':List Str) (sel:List (Option Nat)):Bool :=
 (sc.names.all λp=>match p.2 with
  |.free=>(osc.names.lookup p.1 == some .cell||osc.names.lookup p.1 == some .free)&&sc.names.lookup p.1 == some .free
  |.cell=>false
  |.local=>sc.names.lookup p.1 == some .local
  |_=>true)&&N'.length == sel.length&&((N'.zip sel).all λp=>match p.2 with
   |none=>true
   |some j=>N[j]? == some p.1&&sc.names.lookup p.1 == some .free)
def EH (sel:List (Option Nat)) (σ:St):St:=sel.map λo=>o.bind λj=>(σ[j]?).join

def BU (X:Cx) (N':List Str) (scope:Scope) (C:Addr) (s:Shared) (H:Hp) (fp:List Addr) (pn:List (Addr×Obj)):Cx where
 prog:=X.prog
 w:=X.w
 K:=X.K
 mg:=X.mg
 base:=X.base
 A:=X.A
 N:=N'
 s₀:=s
 H₀:=H
 env:=compEnvC scope (EU X.env.cells scope.names []) C X.env
 outer:=X.stack
 stack:=X.stack
 ex:=fp
 fn:=λx=>decide (scope.names.lookup x=some NameKind.local)
 calm:=X.calm
 pn:=pn
 xe:=λ_ _=>False

section
variable {X:Cx} {pins:List (Addr×Obj)} {σ:St} {H:Hp} {s:Shared}

structure Pw (X:Cx) (sc:Scope) (N':List Str) (sel:List (Option Nat)):Prop where
 fr:∀ x,(x,NameKind.free)∈sc.names->(X.env.kindOf x=some .cell\/X.env.kindOf x=some .free)/\sc.names.lookup x=some .free
 nc:∀ y∈sc.names,y.2≠NameKind.cell
 lo:∀ y∈sc.names,y.2=NameKind.local->sc.names.lookup y.1=some .local
 ln:N'.length=sel.length
 sl:∀ (i:Nat) (x:Str) (j:Nat),N'[i]?=some x->sel[i]?=some (some j)->X.N[j]?=some x/\sc.names.lookup x=some .free
theorem SO {sc:Scope} {N':List Str} {sel:List (Option Nat)} (h:Iz sc X.env.scope X.N N' sel=true):Pw X sc N' sel:=by
 unfold Iz at h
 simp only [Z1] at h
 obtain ⟨⟨h1,h2⟩,h3⟩:=h
 rw [Y2] at h1 h3
 refine ⟨λx hx=>?_,λy hy e=>?_,λy hy e=>?_,by simpa using h2,λi x j e1 e2=>?_⟩
 ·have:=h1 _ hx
  simp only [Z1,Bool.or_eq_true,beq_iff_eq] at this
  exact this
 ·have:=h1 _ hy
  rw [e] at this
  simp at this
 ·have:=h1 _ hy
  rw [e] at this
  simpa using this
 ·have hm:(x,some j)∈N'.zip sel:=by
   refine d0 (i:=i) ?_
   rw [List.getElem?_zip_eq_some]
   exact ⟨e1,e2⟩
  have:=h3 _ hm
  simp only [Z1,beq_iff_eq] at this
  exact this

theorem DW (I:AK X pins σ H s) {sc:Scope} {N':List Str} {sel:List (Option Nat)} (k:Pw X sc N' sel) :
  (∀ x,(x,NameKind.free)∈sc.names->∃ c,X.env.cells.lookup x=some c)/\(∀ x c,(EU X.env.cells sc.names []).lookup x=some c->X.env.cells.lookup x=some c/\(x,NameKind.free)∈sc.names):=by
 have a:∀ x,(x,NameKind.free)∈sc.names->∃ c,X.env.cells.lookup x=some c:=λx hx=>I.ok.has x (k.fr x hx).1
 refine ⟨a,λx c h=>?_⟩
 rcases Kx _ _ h with h | ⟨h,e⟩
 ·simp at h
 ·obtain ⟨c',hc⟩:=a x h
  rw [hc] at e
  exact ⟨by rw [hc,e];rfl,h⟩

theorem Qo (I:AK X pins σ H s) {scope:Scope} {N':List Str} {sel:List (Option Nat)} {C:Addr} {fp:List Addr} {h₁:Heap} {t':Nat} {m:Str->Option Value} (hk:scope.kind=.function)
  (k:Pw X scope N' sel) (hC:s.heap.objs.size<=C) (hf:∀ b∈fp,EC X pins H b) (hfl:∀ b∈fp,b<s.heap.objs.size) (hns:h₁.Ns C m) (hkeep:∀ b o,s.heap.get? b=some o->h₁.get? b=some o) :
  AK (BU X N' scope C s H fp (X.pn++pins)) [] (EH sel σ) H { s with heap:=h₁,toks:=t' }:=by
 obtain ⟨cl1,cl2⟩:=DW I k
 have lkf:∀ x,scope.names.lookup x=some .free->(relabel scope X.env).names.lookup x=some .cell\/(relabel scope X.env).names.lookup x=some .free:=λx hx=>DE hx
 have hfr:∀ x,(relabel scope X.env).names.lookup x=some .cell\/(relabel scope X.env).names.lookup x=some .free->(x,NameKind.free)∈scope.names:=λx hx=>by
  rcases hx with hx | hx
  ·rcases CH hx with h | ⟨_,h⟩
   ·exact absurd rfl (k.nc _ (PySem.mem_of_lookup h))
   ·exact PySem.mem_of_lookup h
  ·rcases CH hx with h | ⟨e,h⟩
   ·exact PySem.mem_of_lookup h
   ·exact PySem.mem_of_lookup h
 refine ⟨⟨I.ok.mod,hk,I.ok.glob,I.ok.blt,hC,λx y c h1 h2=>?_,λx hx=>?_,λx c h1 h2=>?_,I.ok.hd,I.ok.frames,.inl rfl,λb hb=>?_,I.bs,Q0 I.ok.bsz I.sz,λb o e hb=>?_,λb hb hb2=>?_,I.stack,I.stkFree⟩,
  rfl,I.bare,Un.kept hkeep,⟨m,hns,λi x v e1 e2 e3=>?_⟩,λx c h=>?_,I.hok.fresh hC,λx c h=>?_,λp hp=>?_,I.hok.kept hkeep,?_⟩
 ·exact I.ok.inj x y c (cl2 x c h1).1 (cl2 y c h2).1
 ·exact HC _ _ (hfr x hx)
 ·have h1':scope.names.lookup x=some NameKind.local:=of_decide_eq_true h1
  have:=(k.fr x (cl2 x c h2).2).2
  rw [h1'] at this
  cases this
 ·refine ⟨P1 (V1 (hfl b hb) hC),λx c h=>?_⟩
  exact (hf b hb).2.2.2.2.1 x c (cl2 x c h).1
 ·rcases (hf b hb).2.2.2.1 with z | z
  ·exact I.ok.noex b o e z
  ·exact absurd (V1 (Heap.lt_size e) (Q0 I.ok.bsz z)) (L5 _)
 ·rcases L0.mp (I.stkSub b hb2) with z | z
  ·exact (hf b hb).2.1 z
  ·exact (hf b hb).2.2.1 z
 ·-- a free name
  have e2':sel[i]?.map (λo=>o.bind λj=>(σ[j]?).join)=some (some v):=by
   have:=e2
   unfold EH at this
   rwa [Q1] at this
  cases hs:sel[i]? with
  |none=>rw [hs] at e2';cases e2'
  |some o =>
   rw [hs] at e2'
   cases o with
   |none=>cases e2'
   |some j =>
    have e4:(σ[j]?).join=some v:=Z2.inj e2'
    have e5:σ[j]?=some (some v):=by
     cases q:σ[j]? with
     |none=>rw [q] at e4;cases e4
     |some r=>rw [q] at e4;rw [show r=some v from e4]
    obtain ⟨hX,hl⟩:=k.sl i x j e1 hs
    obtain ⟨kk,_⟩:=k.fr x (PySem.mem_of_lookup hl)
    obtain ⟨m0,_,hloc⟩:=I.loc
    obtain ⟨u,ru,lu⟩:=hloc j x v hX e5 (kk.elim (λz=>.inr (.inl z)) λz=>.inr (.inr z))
    refine ⟨u,ru,?_⟩
    rcases lu with ⟨z,_⟩ | ⟨_,c,hc,hcell⟩
    ·rcases kk with y | y<;>(rw [z] at y;cases y)
    ·refine .inr ⟨lkf x hl,c,?_,hcell.keeps hkeep⟩
     obtain ⟨c',hc'⟩:=HC (cells:=X.env.cells) scope.names [] (PySem.mem_of_lookup hl)
     have:=(cl2 x c' hc').1
     rw [hc] at this
     cases this
     exact hc'
 ·obtain ⟨v,z⟩:=I.cell x c (cl2 x c h).1
  exact ⟨v,z.keeps hkeep⟩
 ·exact I.freeC x c (cl2 x c h).1
 ·have hp':p∈X.pn++pins:=by
   have:p∈(X.pn++pins)++[]:=hp
   rwa [o0] at this
  obtain ⟨e,n,ne,nf,d⟩:=I.pin p hp'
  refine ⟨hkeep _ _ e,n,P1 (V1 (Heap.lt_size e) hC),λz=>?_,d⟩
  rcases L0.mp (I.stkSub _ z) with z | z
  ·exact ne z
  ·exact nf z
 ·show (sel.map _).length=N'.length
  rw [D0]
  exact k.ln.symm

def PTs (X:Cx) (ifs:List Expr) (t:TT):Prop :=
 ∀ (pins:List (Addr×Obj)) (s:Shared) (σ:St) (H:Hp) (Q:Bool->Hp->Prop),AK X pins σ H s->t σ H Q ->
  wpAny (model X.prog X.w) X.A (forIn ifs true λc r=>if r=true then do let ok <- isTrue c X.env (eval c X.env);pure (ForInStep.yield ok) else pure (ForInStep.yield r)) (TP X pins σ Q) X.xe s
def tTrue:TT:=λ_ H Q=>Q true H
theorem CN:PTs X [] tTrue:=λ_ _ _ H _ I h=>wpAny_tests_nil ⟨H,I,h⟩
theorem Il {c:Expr} {t:TT} (h:PT X c t):PTs X [c] t:=λpins s σ H Q I q=>wpAny_tests_one (h pins s σ H Q I q)

theorem LF {prog:Program} {w:World} {A:Around} {R:Result->Shared->Prop} {s:Shared} {elt target iter:Expr} {ifs:List Expr} {scope:Scope} {pos:Pos} {it acc:Value} {env:Env} (I:Nat->Shared->Prop)
  (turn:∀ n s,I n s->wpAny (model prog w) A (pyNext it) (λr s₁=>match r with
   |none=>R (.ok .next) s₁
   |some v=>wpAny (model prog w) A (letOwnedTupleGo target it v) (λ_ s₁'=>wpAny (model prog w) A (assign target env v) (λ_ s₂ =>
     wpAny (model prog w) A (forIn ifs true λc r=>if r=true then do let ok <- isTrue c env (eval c env);pure (ForInStep.yield ok) else pure (ForInStep.yield r)) (λok s₃ =>
      if ok=true then wpAny (model prog w) A (eval elt env) (λx s₄ =>
       wpAny (model prog w) A (call (.builtin "list.append") [acc,x]) (λ_ s₅=>∃ m,m<n/\I m s₅) (notedBy (model prog w) A env λe s'=>R (.error e) s') s₄) (notedBy (model prog w) A env λe s'=>R (.error e) s') s₃
      else ∃ m,m<n/\I m s₃) (notedBy (model prog w) A env λe s'=>R (.error e) s') s₂) (notedBy (model prog w) A env λe s'=>R (.error e) s') s₁') (notedBy (model prog w) A env λe s'=>R (.error e) s') s₁) (notedBy (model prog w) A env λe s'=>R (.error e) s') s)
  (n:Nat) (h:I n s) :
  codeAny (model prog w) A (.compLoop (.ListComp elt [⟨target,iter,ifs,0⟩] scope pos) 0 it acc env) R s:=by
 refine codeAny_loop rfl I (λn s hI=>?_) n h
 show wpAny _ A ((compTurn (.ListComp elt [⟨target,iter,ifs,0⟩] scope pos) 0 it acc env).onRaise (λx=>do noteFrame x env;theTreesLotGoes x)) _ _ s
 refine wpAny_noted ?_
 rw [compTurn_list]
 refine wpAny_bind (wpAny_standAt (wpAny_bind (wpAny_mono (turn n s hI) (λr s₁ h₁=>?_) λ_ _ h'=>h')))
 cases r with
 |none=>exact wpAny_pure h₁
 |some v =>
  refine wpAny_bind (wpAny_mono h₁ (λ_ s₁' h₁'=>?_) λ_ _ h'=>h')
  refine wpAny_bind (wpAny_mono h₁' (λ_ s₂ h₂=>wpAny_bind (wpAny_mono h₂ (λok s₃ h₃=>?_) λ_ _ h'=>h')) λ_ _ h'=>h')
  cases ok with
  |false=>exact wpAny_pure ⟨rfl,h₃⟩
  |true =>
   exact wpAny_bind (wpAny_bind (wpAny_mono h₃ (λx s₄ h₄=>wpAny_bind (wpAny_mono h₄ (λ_ s₅ h₅=>wpAny_pure (wpAny_pure ⟨rfl,h₅⟩)) λ_ _ h'=>h')) λ_ _ h'=>h'))

def Fm (sel:List (Option Nat)) (g:TG) (tt:TT) (te:TE) (σ:St) (J:It) (W:Nat->Nat->List V->Hp->Prop) (Q:List V->Hp->Prop):Prop :=
 ∀ i m ys H,W i m ys H->(J.stop i H/\Q ys H) \/
  (J.go i H/\ys.length<sizeLine/\∃ N:List V->Hp->Prop,(∀ ys' H',N ys' H'->∃ m',m'<m/\W (i+1) m' ys' H') /\
   ∀ x H',J.yld i H x H'->g x (EH sel σ) H' λσ2 H2=>tt σ2 H2 λb H3=>if b=true then te σ2 H3 λy H4=>N (ys++[y]) H4 else N ys H3)

def JB (sel:List (Option Nat)) (g:TG):Prop:=∀ (σ:St) (x:V) (H:Hp) (Q:St->Hp->Prop),g x (EH sel σ) H Q->g x (EH sel σ) H λσ2 H2=>(∀ (i:Nat) v,(EH sel σ)[i]?=some (some v)->σ2[i]?=some (some v))/\Q σ2 H2
theorem Rr {sel:List (Option Nat)} {i:Nat} {σ:St} {v:V} (h:sel[i]?=some none):¬ (EH sel σ)[i]?=some (some v):=λe=>by
 unfold EH at e
 rw [Q1,h] at e
 cases e
theorem Hk {sel:List (Option Nat)} {i:Nat} {σ σ2:St} {x:V} (h:sel[i]?=some none) (k:∀ (j:Nat) v,(EH sel σ)[j]?=some (some v)->σ2[j]?=some (some v)) :
  ∀ (j:Nat) v,(EH sel σ)[j]?=some (some v)->(σ2.set i (some x))[j]?=some (some v):=λj v e=>by
 by_cases hj:i=j
 ·subst hj;exact absurd e (Rr h)
 ·rw [g6 hj];exact k j v e
theorem Cc {sel:List (Option Nat)} {i:Nat} (h:sel[i]?=some none):JB sel (Kt i):=λ_ _ _ _ q=>⟨Hk h λ_ _ e=>e,q⟩
theorem gk_two {K:K0} {sel:List (Option Nat)} {i j:Nat} (h:sel[i]?=some none) (h':sel[j]?=some none):JB sel (gTup K 2 (Gi (Kt i) (Gi (Kt j) Lx))):=λσ x H Q q=>by
 obtain ⟨a,xs,e1,e2,e3,v,r,e4,v2,r2,e5,e6,q⟩:=q
 exact ⟨a,xs,e1,e2,e3,v,r,e4,v2,r2,e5,e6,Hk h' (Hk h λ_ _ e=>e),q⟩

theorem MI {elt tg iter:Expr} {ifs:List Expr} {scope:Scope} {pos:Pos} {N':List Str} {sel:List (Option Nat)} {g:TG} {tt:TT} {te:TE} {it:Addr} {fp:List Addr} {tn:Nat->Heap->Prop} {J:It}
  {W:Nat->Nat->List V->Hp->Prop} {Qe:List V->Hp->Prop} {RR:Value->Addr->Result->Shared->Prop} {E:Value->Shared->Prop} {m0:Nat}
  (hc:X.calm=true) (hk:scope.kind=.function) (k:Pw X scope N' sel) (I:AK X pins σ H s) (T:JO X.prog X.w X.K tg J fp it tn) (st:tn 0 s.heap) (f2:∀ b∈fp,EC X pins H b)
  (hb:∀ (C:Addr) (s:Shared) (H:Hp) (fp:List Addr) (pn:List (Addr×Obj)),PG (BU X N' scope C s H fp pn) tg g/\PTs (BU X N' scope C s H fp pn) ifs tt/\PE (BU X N' scope C s H fp pn) elt te)
  (hgk:JB sel g) (w0:W 0 m0 [] H) (turn:Fm sel g tt te σ J W Qe)
  (hRR:∀ (D C:Addr) (s':Shared) (H':Hp) (ys:List V) (m:Str->Option Value),H' D=none->AK X pins σ (upd H' D (.lst ys)) s'->s'.heap.Ns C m->EC X pins (upd H' D (.lst ys)) C->Qe ys H'->RR (.ref D) C (.ok .next) s') :
  wpAny (model X.prog X.w) X.A (newList []) (λacc s₃=>wpAny (model X.prog X.w) X.A (newFunctionEnv scope X.env.globals (EU X.env.cells scope.names []) [] X.env.qual none .none (some X.env)) (λcenv s₄ =>
   codeAny (model X.prog X.w) X.A (.compStart (.ListComp elt [⟨tg,iter,ifs,0⟩] scope pos) 0 (.ref it) acc { cenv with scope:=relabel scope X.env }) (RR acc cenv.locals) s₄) E s₃) E s:=by
 refine wpAny_newObj_type (wpAny_newFunctionEnv k.nc (by intro y hy;simp at hy) (λh₁ hns₁ hsb₁=>?_) hk)
 dsimp only at hns₁ hsb₁ |-
 generalize hH2:s.heap.push { cls:=.type "list",dict:=none,data:=.seq ([]:List Value).toArray }=H2 at hns₁ hsb₁ |-
 have hC:H2.objs.size=s.heap.objs.size+1:=by rw [<- hH2,Heap.size_push]
 have hDC:s.heap.objs.size≠H2.objs.size:=by rw [hC];exact P1 (c5 _)
 have hCle:s.heap.objs.size<=H2.objs.size:=by rw [hC];exact F5 _
 have below:∀ b,b<s.heap.objs.size->b≠H2.objs.size/\b≠s.heap.objs.size:=λb hb=>⟨by rw [hC];exact P1 (C5 hb),P1 hb⟩
 have old:∀ b o,s.heap.get? b=some o->h₁.get? b=some o:=λb o e=>hsb₁.extBut b o (below b (Heap.lt_size e)).1 (Heap.get?_push_of_some _ (hH2▸Heap.get?_push_of_some _ e))
 have hacc:h₁.get? s.heap.objs.size=some { cls:=.type "list",data:=.seq ([]:List Value).toArray }:=hsb₁.extBut _ _ hDC (Heap.get?_push_of_some _ (hH2▸Heap.get?_push_size _ rfl))
 have hfl:∀ b∈fp,b<s.heap.objs.size:=λb hb=>let ⟨_,e,_⟩:=T.obj 0 _ st b hb;Heap.lt_size e
 have hst₁:tn 0 h₁:=T.keep _ _ _ st λb _ o e=>old b o e
 generalize hDe:s.heap.objs.size=D at hDC hCle below hacc hfl |-
 generalize hCe:H2.objs.size=C at hns₁ hsb₁ hC hDC hCle below |-
 have fD:∀ {H':Hp},H' D=none->EC X pins H' D:=λhn=>I.fpOk (by rw [hDe];exact P0 _) hn
 have fC:∀ {H':Hp},H' C=none->EC X pins H' C:=λhn=>I.fpOk (by rw [hDe];exact hCle) hn
 have HD:H D=none:=I.hok.fresh (by rw [hDe];exact P0 _)
 -- the pin of the new list,in the block
 have pinD:∀ {o:Obj} {σ':St} {H':Hp} {s':Shared} {ps:List (Addr×Obj)},AK (BU X N' scope C s H fp (X.pn++pins)) ps σ' H' s'->s'.heap.get? D=some o->H' D=none->(∀ v,o.data≠.cell v) ->
   AK (BU X N' scope C s H fp (X.pn++pins)) (ps++[(D,o)]) σ' H' s':=λ{o σ' H' s' ps} J1 e n d=>by
  refine J1.pins_of λp hp=>?_
  rcases T0.mp hp with hp | hp
  ·exact J1.pin p (V0 _ hp)
  ·rw [M0.mp hp]
   refine ⟨e,n,hDC,λz=>?_,d⟩
   rcases L0.mp (I.stkSub D z) with z | z
   ·exact (fD HD).2.1 z
   ·exact (fD HD).2.2.1 z
 have loop:∀ s₃:Shared,s₃={ s with heap:=h₁,toks:=s.toks+([]:List (Str×Value)).length } ->
   codeAny (model X.prog X.w) X.A (.compLoop (.ListComp elt [⟨tg,iter,ifs,0⟩] scope pos) 0 (.ref it) (.ref D) (compEnvC scope (EU X.env.cells scope.names []) C X.env)) (RR (.ref D) C) s₃:=by
  rintro s₃ rfl
  have I4:AK (BU X N' scope C s H fp (X.pn++pins)) [] (EH sel σ) H { s with heap:=h₁,toks:=s.toks+([]:List (Str×Value)).length } :=
   Qo I hk k (by rw [hDe];exact hCle) f2 (λb hb=>by rw [hDe];exact hfl b hb) hns₁ old
  refine LF (λn s'=>∃ i H' ys its nn,AK (BU X N' scope C s H fp (X.pn++pins)) [] (EH sel σ) H' s'/\tn i s'.heap/\(∀ b∈fp,H' b=none)/\H' D=none /\
   s'.heap.get? D=some { cls:=.type "list",data:=.seq (T6 its) nn }/\AW ys its/\ys.length<=sizeLine/\W i n ys H') ?_ m0 ⟨0,H,[],[],0,I4,hst₁,λb hb=>(f2 b hb).1,HD,hacc,.nil,D2 _,w0⟩
  rintro n s3 ⟨i,H3,ys,its,nn,I3,st3,fr3,hD3,o3,v3,z3,w3⟩
  have I3':=pinD I3 o3 hD3 (λv z=>by cases z)
  have stat:∀ {ps:List (Addr×Obj)} {H':Hp},(∀ p∈ps,p.1=D)->(∀ b∈fp,H' b=none)->∀ b∈fp,EC (BU X N' scope C s H fp (X.pn++pins)) ps H' b:=λ{ps H'} hps hn b hb=>by
   obtain ⟨a0,a1,a2,a3,a4,a5⟩:=f2 b hb
   refine ⟨hn b hb,P1 (V1 (hfl b hb) hCle),λz=>?_,.inl hb,λx c h=>a4 x c ((DW I k).2 x c h).1,λp hp=>?_⟩
   ·rcases L0.mp (I.stkSub b z) with z | z
    ·exact a1 z
    ·exact a2 z
   ·rcases T0.mp hp with hp | hp
    ·exact a5 p hp
    ·rw [hps p hp]
     exact (P1 (hfl b hb)).symm
  rcases turn i n ys H3 w3 with ⟨stop,qe⟩ | ⟨go,hz,Nn,hNn,step⟩
  ·refine noE (BC (T.done (BU X N' scope C s H fp (X.pn++pins)) rfl rfl rfl hc i _ s3 _ H3 _ I3' (stat (λp hp=>by have:p∈[]++[(D,_)]:=hp;rw [D3] at this;rw [M0.mp this]) fr3) st3 stop) λr s4 ⟨hr,J4⟩=>?_)
   subst hr
   obtain ⟨m4,n4,_⟩:=id J4.loc
   have o4:=(J4.pin (D,_) (V0 _ (V0 _ (M0.mpr rfl)))).1
   have hC4:H3 C=none:=J4.free
   have hDC':C≠D:=Ne.symm hDC
   refine hRR D C s4 H3 ys m4 hD3 (I.call' (ch:=fp) J4.os ?_ ?_ J4.bare (λb hb=>?_)) n4 (fC (by rw [Aq hDC'];exact hC4)) qe
   ·have u:=J4.base
    have nD:∀ b o,s.heap.get? b=some o->b≠D:=λb o e=>by rw [<- hDe];exact P1 (Heap.lt_size e)
    have nD2:∀ b o,H b=some o->b≠D:=λb o e=>AG e HD
    exact ⟨u.keep,u.slot,λb o e n hx=>by rw [Aq (nD b o e)];exact u.free b o e n hx,u.there,λb xs e=>by rw [Aq (nD2 b _ e)];exact u.tups b xs e,
     λb o w e=>by rw [Aq (nD2 b _ e)];exact u.frzs b o w e,λb ps e=>by rw [Aq (nD2 b _ e)];exact u.tbls b ps e⟩
   ·intro b o e
    by_cases hbD:b=D
    ·subst hbD
     rw [Ac] at e
     cases e
     exact ⟨z3,its,nn,v3,o4⟩
    ·rw [Aq hbD] at e
     exact (J4.hok b o e).stay (λc u _ q=>q) (λc q=>by rw [Aq (AG q hD3)];exact q) λc xs q=>by rw [Aq (AG q hD3)];exact q
   ·obtain ⟨a0,a1,a2,a3,a4,a5⟩:=f2 b hb
    exact ⟨a3,a1,a4,a5⟩
  ·refine noE (BC (T.item (BU X N' scope C s H fp (X.pn++pins)) rfl rfl rfl hc i _ s3 _ H3 _ I3' (stat (λp hp=>by have:p∈[]++[(D,_)]:=hp;rw [D3] at this;rw [M0.mp this]) fr3) st3 go) λr s4 ⟨u,hr,h4⟩=>?_)
   subst hr
   refine noE (BC h4 λ_ s5 ⟨x,H5,I5,r5,y5,st5,fr5⟩=>?_)
   obtain ⟨hb1,hb2,hb3⟩:=hb C s H fp (X.pn++pins)
   have I5':=I5.pinned (stat (λp hp=>by have:p∈[]++[(D,_)]:=hp;rw [D3] at this;rw [M0.mp this]) fr5) (T.obj _ _ st5)
   refine noE (BC (hb1 _ s5 _ H5 x u _ I5' r5 (hgk _ _ _ _ (step x H5 y5))) λ_ s6 ⟨σ6,H6,I6,hw6,q6⟩=>?_)
   refine noE (BC (hb2 _ s6 σ6 H6 _ I6 q6) λok s7 ⟨H7,I7,q7⟩=>?_)
   -- what stands behind the turn
   have back:∀ {σ8:St} {H8:Hp} {s8:Shared},AK (BU X N' scope C s H fp (X.pn++pins)) (([]++[(D,{ cls:=.type "list",data:=.seq (T6 its) nn })])++IS fp s5.heap) σ8 H8 s8 ->
     tn (i+1) s8.heap/\(∀ b∈fp,H8 b=none)/\H8 D=none/\s8.heap.get? D=some { cls:=.type "list",data:=.seq (T6 its) nn }:=λ{σ8 H8 s8} J8=>by
    refine ⟨T.keep _ _ _ st5 λb hb o e=>(J8.pin (b,o) (V0 _ (V0 _ (EM hb e)))).1,λb hb=>?_,?_,?_⟩
    ·obtain ⟨o,e,d⟩:=T.obj _ _ st5 b hb
     exact (J8.pin (b,o) (V0 _ (V0 _ (EM hb e)))).2.1
    ·exact (J8.pin (D,_) (V0 _ (T1 _ (V0 _ (M0.mpr rfl))))).2.1
    ·exact (J8.pin (D,_) (V0 _ (T1 _ (V0 _ (M0.mpr rfl))))).1
   have weak:∀ {H8:Hp} {s8:Shared} {ps:List (Addr×Obj)},AK (BU X N' scope C s H fp (X.pn++pins)) ps σ6 H8 s8->AK (BU X N' scope C s H fp (X.pn++pins)) [] (EH sel σ) H8 s8:=λ{H8 s8 ps} J8 =>
    (J8.pins_of (pins':=[]) λp hp=>by simp at hp).weak (by rw [J8.len];exact I4.len) hw6
   cases ok with
   |false =>
    obtain ⟨st8,fr8,hD8,o8⟩:=back I7
    obtain ⟨m',hm,w8⟩:=hNn ys H7 q7
    exact ⟨m',hm,i+1,H7,ys,its,nn,weak I7,st8,fr8,hD8,o8,v3,z3,w8⟩
   |true =>
    refine noE (BC (hb3 _ s7 σ6 H7 _ I7 q7) λy s8 ⟨yv,H8,I8,ry,q8⟩=>?_)
    obtain ⟨st8,fr8,hD8,o8⟩:=back I8
    obtain ⟨m',hm,w8⟩:=hNn _ _ q8
    have hl:=v3.length
    refine call_meets F.slot_list_append ⟨_,o8,rfl⟩ F.entry_list_append (F.args_list_append_2 _ _) (PySem.list_append D (T6 its) nn y (by rw [S0];omega)) ⟨o8,?_⟩
    have q:=PySem.IsL.update o8 (λz=>z.push y)
    rw [show (T6 its).push y=(its++[y]).toArray by simp] at q
    have kp:∀ b o,b≠D->s8.heap.get? b=some o->(s8.heap.update D (Obj.mapSeq λz=>z.push y)).get? b=some o:=λb o hb e=>(Heap.get?_update_other s8.heap (Obj.mapSeq λz=>z.push y) (Ne.symm hb)).trans e
    refine ⟨m',hm,i+1,H8,ys++[yv],its++[y],_,(weak I8).turned (t':=s8.toks) kp hD8 hDC (.inr (by show s.heap.objs.size<=D;rw [hDe];exact P0 _)) (λx c h=>(fD HD).2.2.2.2.1 x c ((DW I k).2 x c h).1) (λp hp=>(fD HD).2.2.2.2.2 p (by have:p∈(X.pn++pins)++[]:=hp;rwa [o0] at this)),
     T.keep _ _ _ st8 (λb hb o e=>kp b o (P1 (hfl b hb)) e),fr8,hD8,q,v3.append (.cons ry .nil),?_,w8⟩
    rw [B0,y3]
    omega
 exact codeAny_compStart_list (loop _ rfl) (T.self _ 0 _ _ _ hst₁ (loop _ rfl))

def tLc (sel:List (Option Nat)) (wi:TI) (g:TG) (tt:TT) (te:TE):TE:=λσ H Q=>wi σ H λJ H1=>∃ W:Nat->Nat->List V->Hp->Prop,(∃ m,W 0 m [] H1) /\
 Fm sel g tt te σ J W λys H=>∀ D,H D=none->Q (.ref D) (upd H D (.lst ys))
theorem Fe {elt tg iter:Expr} {ifs:List Expr} {scope:Scope} {pos:Pos} {wi:TI} {N':List Str} {sel:List (Option Nat)} {g:TG} {tt:TT} {te:TE}
  (hc:X.calm=true) (hk:scope.kind=.function) (chk:Iz scope X.env.scope X.N N' sel=true) (hi:PI X tg iter wi) (hgk:JB sel g)
  (hb:∀ (C:Addr) (s:Shared) (H:Hp) (fp:List Addr) (pn:List (Addr×Obj)),PG (BU X N' scope C s H fp pn) tg g/\PTs (BU X N' scope C s H fp pn) ifs tt/\PE (BU X N' scope C s H fp pn) elt te)
  (hs:∀ x,foldedSetIterable iter X.env x=pure x:=by intro _;rfl):PE X (.ListComp elt [⟨tg,iter,ifs,0⟩] scope pos) (tLc sel wi g tt te):=by
 intro pins s σ H Q I h
 have k:=SO chk
 rw [eval_ListComp]
 refine wpAny_comprehension_free (use:=none) rfl hs (ET (DW I k).1) hk k.lo (BC (hi pins s σ H _ I h) λv s1 h1=>BC h1 λitv s2 h2=>?_)
 obtain ⟨it,fp,tn,J,H2,e,I2,T,st2,f2,W,⟨m0,w0⟩,turn⟩:=h2
 subst e
 refine MI (RR:=λacc C=>compPost (model X.prog X.w) X.A X.xe none (EP X pins σ Q) acc C) hc hk k I2 T st2 f2 hb hgk w0 turn ?_
 intro D C s' H' ys m hD I' hns fC q
 refine ⟨m,hns,λh' hs'=>⟨.ref D,_,I'.turned (t':=s'.toks) (λb o hb e=>(hs'.2 b hb).trans e) fC.1 fC.2.1 fC.2.2.2.1 fC.2.2.2.2.1 fC.2.2.2.2.2,rfl,q D hD⟩⟩

theorem Ej {K:K0} {a:Addr} {xs:List V} {sel:List (Option Nat)} {g:TG} {tt:TT} {te:TE} {σ:St} {H:Hp} {Qe:List V->Hp->Prop} (Pv:Nat->List V->Hp->Prop) (h0:Pv 0 [] H)
  (hl:∀ i ys H,i<=xs.length->Pv i ys H->AH K H a xs/\ys.length<=i) (hz:xs.length<=sizeLine)
  (hs:∀ i x ys H,xs[i]?=some x->Pv i ys H->g x (EH sel σ) H λσ2 H2=>tt σ2 H2 λb H3=>if b=true then te σ2 H3 λy H4=>Pv (i+1) (ys++[y]) H4 else Pv (i+1) ys H3)
  (hd:∀ ys H,Pv xs.length ys H->Qe ys H):∃ W:Nat->Nat->List V->Hp->Prop,(∃ m,W 0 m [] H)/\Fm sel g tt te σ (Itl K a) W Qe:=by
 refine ⟨λi m ys H=>m=xs.length-i/\i<=xs.length/\Pv i ys H,⟨_,rfl,D2 _,h0⟩,?_⟩
 rintro i m ys H ⟨rfl,hi,p⟩
 obtain ⟨hS,hy⟩:=hl i ys H hi p
 by_cases e:i=xs.length
 ·subst e
  exact .inl ⟨⟨xs,hS,P0 _⟩,hd _ _ p⟩
 ·have hlt:i<xs.length:=P5 hi e
  refine .inr ⟨⟨xs,xs[i],hS,by simp [hlt]⟩,by omega,Pv (i+1),λys' H' p'=>⟨xs.length-(i+1),by omega,rfl,hlt,p'⟩,?_⟩
  rintro x H' ⟨rfl,hx⟩
  exact hs i x ys H' (hx xs hS) p
theorem Lr {K:K0} {a:Addr} {xs:List V} {sel:List (Option Nat)} {g:TG} {tt:TT} {te:TE} {σ:St} {H:Hp} {Qe:List V->Hp->Prop} (Pv:Nat->List V->Hp->Prop) (h0:Pv 0 [] H)
  (hl:∀ i ys H,i<=xs.length->Pv i ys H->BN K H a xs/\ys.length<=i) (hz:xs.length<=sizeLine)
  (hs:∀ i x ys H,xs[i]?=some x->Pv i ys H->g x (EH sel σ) H λσ2 H2=>tt σ2 H2 λb H3=>if b=true then te σ2 H3 λy H4=>Pv (i+1) (ys++[y]) H4 else Pv (i+1) ys H3)
  (hd:∀ ys H,Pv xs.length ys H->Qe ys H):∃ W:Nat->Nat->List V->Hp->Prop,(∃ m,W 0 m [] H)/\Fm sel g tt te σ (Itt K a) W Qe:=by
 refine ⟨λi m ys H=>m=xs.length-i/\i<=xs.length/\Pv i ys H,⟨_,rfl,D2 _,h0⟩,?_⟩
 rintro i m ys H ⟨rfl,hi,p⟩
 obtain ⟨hS,hy⟩:=hl i ys H hi p
 by_cases e:i=xs.length
 ·subst e
  exact .inl ⟨⟨xs,hS,P0 _⟩,hd _ _ p⟩
 ·have hlt:i<xs.length:=P5 hi e
  refine .inr ⟨⟨xs,xs[i],hS,by simp [hlt]⟩,by omega,Pv (i+1),λys' H' p'=>⟨xs.length-(i+1),by omega,rfl,hlt,p'⟩,?_⟩
  rintro x H' ⟨rfl,hx⟩
  exact hs i x ys H' (hx xs hS) p
theorem Sf {lo:Int} {n:Nat} {sel:List (Option Nat)} {g:TG} {tt:TT} {te:TE} {σ:St} {H:Hp} {Qe:List V->Hp->Prop} (Pv:Nat->List V->Hp->Prop) (h0:Pv 0 [] H)
  (hl:∀ i ys H,i<=n->Pv i ys H->ys.length<=i) (hz:n<=sizeLine)
  (hs:∀ i ys H,i<n->Pv i ys H->g (.int (lo+i)) (EH sel σ) H λσ2 H2=>tt σ2 H2 λb H3=>if b=true then te σ2 H3 λy H4=>Pv (i+1) (ys++[y]) H4 else Pv (i+1) ys H3)
  (hd:∀ ys H,Pv n ys H->Qe ys H):∃ W:Nat->Nat->List V->Hp->Prop,(∃ m,W 0 m [] H)/\Fm sel g tt te σ (Itr lo n) W Qe:=by
 refine ⟨λi m ys H=>m=n-i/\i<=n/\Pv i ys H,⟨_,rfl,D2 _,h0⟩,?_⟩
 rintro i m ys H ⟨rfl,hi,p⟩
 have hy:=hl i ys H hi p
 by_cases e:i=n
 ·subst e
  exact .inl ⟨P0 _,hd _ _ p⟩
 ·have hlt:i<n:=P5 hi e
  refine .inr ⟨hlt,by omega,Pv (i+1),λys' H' p'=>⟨n-(i+1),by omega,rfl,hlt,p'⟩,?_⟩
  rintro x H' ⟨rfl,rfl⟩
  exact hs i ys H' hlt p

def KG (i:Nat) (sel:List (Option Nat)) (wi:TI) (g:TG) (tt:TT) (te:TE):TS:=λD σ H=>wi σ H λJ H1=>∃ W:Nat->Nat->List V->Hp->Prop,(∃ m,W 0 m [] H1) /\
 Fm sel g tt te σ J W λys H=>∀ l,H l=none->D.nx (σ.set i (some (.ref l))) (upd H l (.lst ys))
theorem Fd {i:Nat} {x:Str} {elt tg iter:Expr} {ifs:List Expr} {scope:Scope} {pos pos' spos:Pos} {wi:TI} {N':List Str} {sel:List (Option Nat)} {g:TG} {tt:TT} {te:TE}
  (hN:X.N.Nodup) (hi':X.N[i]?=some x) (hx:Loc X.env.scope x)
  (hc:X.calm=true) (hk:scope.kind=.function) (chk:Iz scope X.env.scope X.N N' sel=true) (hi:PI X tg iter wi) (hgk:JB sel g)
  (hb:∀ (C:Addr) (s:Shared) (H:Hp) (fp:List Addr) (pn:List (Addr×Obj)),PG (BU X N' scope C s H fp pn) tg g/\PTs (BU X N' scope C s H fp pn) ifs tt/\PE (BU X N' scope C s H fp pn) elt te)
  (hsw:swapsWith (.ListComp elt [⟨tg,iter,ifs,0⟩] scope pos) (some (.Name x pos')) spos.line X.env=pure true)
  (hs:∀ x,foldedSetIterable iter X.env x=pure x:=by intro _;rfl) (hf:X.fn x=true\/X.env.scope.names.lookup x=some .local:=by first | exact .inl rfl | exact .inr rfl | assumption) :
  PS X (.Assign [.Name x pos'] (.ListComp elt [⟨tg,iter,ifs,0⟩] scope pos) spos) (KG i sel wi g tt te):=by
 intro pins s σ H Dn I h
 have k:=SO chk
 rw [exec_Assign_Name_used _ _ _ _ hsw]
 refine wpAny_bind (wpAny_standAt (wpAny_bind ?_))
 show wpAny _ X.A (do let _ <- comprehension (.ListComp elt [⟨tg,iter,ifs,0⟩] scope pos) scope X.env _ (newList []) false (eval iter X.env) (some (assign (.Name x pos') X.env))) _ _ s
 refine wpAny_bind (wpAny_mono (wpAny_comprehension_free (use:=some (assign (.Name x pos') X.env)) (Q:=λ_ s'=>SP X pins Dn .next s') rfl hs (ET (DW I k).1) hk k.lo
  (BC (hi pins s σ H _ I h) λv s1 h1=>BC h1 λitv s2 h2=>?_)) (λ_ s' hq=>wpAny_pure (wpAny_pure hq)) λ_ _ e=>e)
 obtain ⟨it,fp,tn,J,H2,e,I2,T,st2,f2,W,⟨m0,w0⟩,turn⟩:=h2
 subst e
 refine MI (RR:=λacc C=>compPost (model X.prog X.w) X.A X.xe (some (assign (.Name x pos') X.env)) (λ_ s'=>SP X pins Dn .next s') acc C) hc hk k I2 T st2 f2 hb hgk w0 turn ?_
 intro D C s' H' ys m hD I' hns fC q
 obtain ⟨oC,es,ep,eC,dC,rC⟩:=id hns
 have I'':AK X (pins++[(C,oC)]) σ (upd H' D (.lst ys)) s':=I'.pins_of λp hp=>by
  rcases T0.mp hp with hp | hp
  ·exact I'.pin p (V0 _ hp)
  ·rw [M0.mp hp]
   exact ⟨eC,fC.1,fC.2.1,fC.2.2.1,λv z=>by rw [dC] at z;cases z⟩
 refine BC (AJ (pos:=pos') hN hi' hx hf (pins++[(C,oC)]) s' σ _ (.ref D) (.ref D) (λσ2 H2=>σ2=σ.set i (some (.ref D))/\H2=upd H' D (.lst ys)) I'' rfl ⟨rfl,rfl⟩) λ_ s9 h9=>?_
 obtain ⟨σ9,H9,I9,rfl,rfl⟩:=h9
 have eC9:=(I9.pin (C,oC) (V0 _ (V0 _ (M0.mpr rfl)))).1
 refine ⟨m,⟨oC,es,ep,eC9,dC,rC⟩,λh' hs'=>?_⟩
 exact ⟨_,_,(I9.unpinned).turned (t':=s9.toks) (λb o hb e=>(hs'.2 b hb).trans e) fC.1 fC.2.1 fC.2.2.2.1 fC.2.2.2.2.1 fC.2.2.2.2.2,q D hD⟩
end
end L2
namespace L2
open PySem PySem.Spec PyProof.Rows
section
variable {X:Cx} {tg:Expr} {a b:Expr} {ta tb:TE} {pos:Pos}

def tMid (t u:TS):TS:=λD σ H=>∃ M:St->Hp->Prop,t { D with nx:=M } σ H/\∀ σ' H',M σ' H'->u D σ' H'
theorem Im {st:Stmt} {Em:List Stmt} {t u:TS} (h1:PS X st t) (h2:LL X Em u):LL X (st::Em) (tMid t u):=by
 intro pins s σ H D I h
 obtain ⟨M,hM,hu⟩:=h
 refine wpAny_execs_cons (BC (h1 pins s σ H { D with nx:=M } I hM) λf s1 q=>?_)
 cases f with
 |next =>
  obtain ⟨σ',H',I',q⟩:=q
  exact h2 pins s1 σ' H' D I' (hu _ _ q)
 |ret v=>exact q
 |brk=>exact q
 |cont=>exact q

def Its (x:Str):It:=⟨λi _=>i<x.length,λi H v H'=>H'=H/\∃ c,x.cps.toList[i]?=some c/\v=.str ⟨#[c]⟩,λi _=>x.length<=i⟩
theorem PH {P:Program} {w:World} {K:K0} {tg:Expr} (x:Str) (t:Tok) (it:Addr):JO P w K tg (Its x) [it] it (λi h=>h.IsStrIter it "str_ascii_iterator" x t i) where
 mem:=by simp
 obj:=λi h st b hb=>by
  have e:b=it:=by simpa using hb
  subst e
  obtain ⟨o,e,c,d⟩:=st
  exact ⟨o,e,λv z=>by rw [d] at z;cases z⟩
 keep:=λi h h' st k=>let ⟨o,ho,r⟩:=st;⟨o,k it (by simp) o ho,r⟩
 item:=by
  intro X hP hw hK hc i pins s σ H E I hf st hg
  subst hP hw hK
  have hlt:i<x.cps.size:=hg
  obtain ⟨f0,f1,f2,f3,f4,f5⟩:=hf it (by simp)
  refine wpAny_pyNext_ascii_item st (c:=x.cps[i]) (by simp [hlt]) λh' st' sb=>?_
  have I1:AK X pins σ H { s with heap:=h',toks:=s.toks+1 }:=I.turned (t':=s.toks+1) (λb o hb e=>(sb.2 b hb).trans e) f0 f1 f3 f4 f5
  obtain ⟨o,e,c,d⟩:=id st'
  exact ⟨_,rfl,MQ (s:={ s with heap:=h',toks:=s.toks+1 }) e c d (by decide) ⟨.str ⟨#[x.cps[i]]⟩,H,I1,⟨_,rfl⟩,⟨rfl,x.cps[i],by simp [hlt],rfl⟩,st',λb hb=>(hf b hb).1⟩⟩
 done:=by
  intro X hP hw hK hc i pins s σ H E I hf st hg
  subst hP hw hK
  have hle:x.cps.size<=i:=hg
  obtain ⟨f0,f1,f2,f3,f4,f5⟩:=hf it (by simp)
  exact wpAny_pyNext_ascii_end (I.ok.hd hc) st (by simp;omega) λh' eb=>⟨rfl,I.turned (t':=s.toks) (λb o hb e=>eb b o hb e) f0 f1 f3 f4 f5⟩
 self:=λ_ _ _ _ _ st h=>wpAny_pyIter_striter_ascii st h
theorem PF {P:Program} {w:World} {K:K0} {tg:Expr} (x:Str) (t:Tok) (it:Addr):JO P w K tg (Its x) [it] it (λi h=>h.IsStrIter it "str_iterator" x t i) where
 mem:=by simp
 obj:=λi h st b hb=>by
  have e:b=it:=by simpa using hb
  subst e
  obtain ⟨o,e,c,d⟩:=st
  exact ⟨o,e,λv z=>by rw [d] at z;cases z⟩
 keep:=λi h h' st k=>let ⟨o,ho,r⟩:=st;⟨o,k it (by simp) o ho,r⟩
 item:=by
  intro X hP hw hK hc i pins s σ H E I hf st hg
  subst hP hw hK
  have hlt:i<x.cps.size:=hg
  obtain ⟨f0,f1,f2,f3,f4,f5⟩:=hf it (by simp)
  refine wpAny_pyNext_wide_item st (c:=x.cps[i]) (by simp [hlt]) λh' st' sb=>?_
  have I1:AK X pins σ H { s with heap:=h',toks:=s.toks+1 }:=I.turned (t':=s.toks+1) (λb o hb e=>(sb.2 b hb).trans e) f0 f1 f3 f4 f5
  obtain ⟨o,e,c,d⟩:=id st'
  exact ⟨_,rfl,MQ (s:={ s with heap:=h',toks:=s.toks+1 }) e c d (by decide) ⟨.str ⟨#[x.cps[i]]⟩,H,I1,⟨_,rfl⟩,⟨rfl,x.cps[i],by simp [hlt],rfl⟩,st',λb hb=>(hf b hb).1⟩⟩
 done:=by
  intro X hP hw hK hc i pins s σ H E I hf st hg
  subst hP hw hK
  have hle:x.cps.size<=i:=hg
  obtain ⟨f0,f1,f2,f3,f4,f5⟩:=hf it (by simp)
  exact wpAny_pyNext_wide_end (I.ok.hd hc) st (by simp;omega) λh' eb=>⟨rfl,I.turned (t':=s.toks) (λb o hb e=>eb b o hb e) f0 f1 f3 f4 f5⟩
 self:=λ_ _ _ _ _ st h=>wpAny_pyIter_striter_wide st h
def iStr (tl:TE):TI:=λσ H R=>tl σ H λx H1=>∃ z,x=.str z/\R (Its z) H1
theorem RF {l:Expr} {tl:TE} (hl:PE X l tl):PI X tg l (iStr tl):=by
 intro pins s σ H R I h
 refine BC (hl pins s σ H _ I h) λv s1 ⟨x,H1,I1,r1,q1⟩=>?_
 obtain ⟨z,e,q⟩:=q1
 subst e
 obtain ⟨t,rfl⟩:=r1
 have fp:∀ b∈[s1.heap.objs.size],EC X pins H1 b:=λb hb=>by
  have e:b=s1.heap.objs.size:=by simpa using hb
  subst e
  exact I1.fpOk (P0 _) (I1.hok.fresh (P0 _))
 cases ha:z.cps.all (·<128)
 ·exact wpAny_pyIter_wide ha ⟨s1.heap.objs.size,[s1.heap.objs.size],_,_,H1,rfl,I1.kept (t':=s1.toks) λb o e=>Heap.get?_push_of_some _ e,PF z t _,⟨_,Heap.get?_push_size _ rfl,rfl,rfl⟩,fp,q⟩
 ·exact wpAny_pyIter_ascii ha ⟨s1.heap.objs.size,[s1.heap.objs.size],_,_,H1,rfl,I1.kept (t':=s1.toks) λb o e=>Heap.get?_push_of_some _ e,PH z t _,⟨_,Heap.get?_push_size _ rfl,rfl,rfl⟩,fp,q⟩
theorem Sd {z:Str} {sel:List (Option Nat)} {g:TG} {tt:TT} {te:TE} {σ:St} {H:Hp} {Qe:List V->Hp->Prop} (Pv:Nat->List V->Hp->Prop) (h0:Pv 0 [] H)
  (hl:∀ i ys H,i<=z.length->Pv i ys H->ys.length<=i) (hz:z.length<=sizeLine)
  (hs:∀ i c ys H,z.cps.toList[i]?=some c->Pv i ys H->g (.str ⟨#[c]⟩) (EH sel σ) H λσ2 H2=>tt σ2 H2 λb H3=>if b=true then te σ2 H3 λy H4=>Pv (i+1) (ys++[y]) H4 else Pv (i+1) ys H3)
  (hd:∀ ys H,Pv z.length ys H->Qe ys H):∃ W:Nat->Nat->List V->Hp->Prop,(∃ m,W 0 m [] H)/\Fm sel g tt te σ (Its z) W Qe:=by
 refine ⟨λi m ys H=>m=z.length-i/\i<=z.length/\Pv i ys H,⟨_,rfl,D2 _,h0⟩,?_⟩
 rintro i m ys H ⟨rfl,hi,p⟩
 have hy:=hl i ys H hi p
 by_cases e:i=z.length
 ·subst e
  exact .inl ⟨P0 _,hd _ _ p⟩
 ·have hlt:i<z.length:=P5 hi e
  refine .inr ⟨hlt,by omega,Pv (i+1),λys' H' p'=>⟨z.length-(i+1),by omega,rfl,hlt,p'⟩,?_⟩
  rintro x H' ⟨rfl,c,hc,rfl⟩
  exact hs i c ys H' hc p

theorem SS {bs:List Bool}:∀ {us:List Value},AW (bs.map V.bl) us->LSm.BoolsAre us bs:=by
 induction bs with
 |nil=>intro us r;cases r;exact .nil
 |cons b bs ih =>
  intro us r
  cases r with
  |cons h t =>
   cases h
   exact .cons b (ih t)
theorem Nd (hc:X.calm=true):Ek X (.builtin "all") (λxs H Q=>∃ (p:Addr) (bs:List Bool),xs=[.ref p]/\AH X.K H p (bs.map V.bl)/\Q (.bl (bs.all id)) H):=by
 intro pins s σ H xs us Q I r h
 obtain ⟨p,bs,rfl,hp,q⟩:=h
 obtain ⟨u,rfl,ru⟩:=Er r
 cases ru
 obtain ⟨its,rv,pl,hz⟩:=I.list hp
 have hb:=SS rv
 have hl:=pl.isList
 have hlt:p<s.heap.objs.size:=by obtain ⟨_,e,_⟩:=hl;exact Heap.lt_size e
 refine call_all_walk (wpAny_pyIter_list hl ?_)
 refine ⟨s.heap.objs.size,[s.heap.objs.size,p],[s.heap.objs.size],its.toArray.size,_,_,λi=>(bs[i]?).getD true,rfl,Walks.list (A:=X.A.in1) (I.ok.hd hc) _ p (P1 hlt) its.toArray,
  ⟨⟨_,Heap.get?_push_size _ rfl,rfl,rfl⟩,hl.push _⟩,λi v s' Q' E' hP hQ=>?_,λh' tk hk=>?_⟩
 ·obtain ⟨b,e,rfl⟩:=hb.get i v (by simpa using hP)
  simp only [e,Option.getD_some] at hQ
  exact wpAny_truthy_bool hQ
 ·have e:((Q2 its.toArray.size).all λi=>(bs[i]?).getD true)=bs.all id:=by
   rw [S0,hb.length];exact LSm.range_all bs
  rw [e]
  exact ⟨.bl _,H,I.kept (LSm.kept_iter hk),rfl,q⟩
theorem Br:Ek X (.builtin "isinstance") (λxs H Q=>∃ x n t b,xs=[x,.ty n]/\Fv X.K H x t/\Z4 X.K t (.type n)=some b/\Q (.bl b) H):=by
 intro pins s σ H xs us Q I r h
 obtain ⟨x,n,t,b,rfl,ty,e,q⟩:=h
 obtain ⟨u,w',rfl,ru,rw'⟩:=vals2 r
 cases rw'
 exact Qm I ru ty e λtk=>⟨.bl b,H,I.tok _,rfl,q⟩
theorem FD:Fw X (compareOp .LtE) (λx y H Q=>∃ i j,x=.str i/\y=.str j/\Q (.bl (!decide (j.cps.toList<i.cps.toList))) H):=by
 intro pins s σ H x y v u Q I rx ry h
 obtain ⟨i,j,rfl,rfl,q⟩:=h
 obtain ⟨t,rfl⟩:=rx
 obtain ⟨t',rfl⟩:=ry
 exact PySem.P.le_str (Bb I q rfl)

def EW (z:Str) (lo hi:Option Int):Str:=⟨((z.cps.toList.drop (HT.sIx z.length 0 lo)).take (HT.sIx z.length z.length hi-HT.sIx z.length 0 lo)).toArray⟩
theorem OR (n d:Nat) (hd:d<=n) (o:Option Int):HT.sIx n d o<=n:=by
 cases o with
 |none=>exact hd
 |some v=>simp only [HT.sIx];split<;>omega
theorem PY (a b:Nat):sliceRange (a:Int) (b:Int) 1=(Q2 (b-a)).map (λk=>a+k):=by
 unfold sliceRange
 simp only [show (1:Int) > 0 by decide,if_true]
 have ec:(if (a:Int)<(b:Int) then ((b:Int)-a+1-1) / 1 else 0).toNat=b-a:=by split<;>simp<;>omega
 rw [ec]
 refine r6 λk _=>?_
 omega
theorem idx_eq (lo hi:Option Int) (n:Nat):Builtin.Str.strSliceIndices lo hi 1 n=(Q2 (HT.sIx n n hi-HT.sIx n 0 lo)).map (λk=>HT.sIx n 0 lo+k):=by
 rw [<- PY]
 unfold Builtin.Str.strSliceIndices
 simp only [show (1:Int) > 0 by decide,if_true]
 congr 1
 ·cases lo with
  |none=>rfl
  |some v=>simp only [HT.sIx];split<;>omega
 ·cases hi with
  |none=>rfl
  |some v=>simp only [HT.sIx];split<;>omega
theorem Md (z:Str) (lo hi:Option Int):Txt.slice z lo hi=EW z lo hi:=by
 have ha:=OR z.length 0 (D2 _) lo
 have hb:=OR z.length z.length (P0 _) hi
 unfold Txt.slice EW
 rw [idx_eq]
 generalize HT.sIx z.length 0 lo=a at *
 generalize HT.sIx z.length z.length hi=b at *
 have hl:z.cps.toList.length=z.length:=rfl
 split
 ·rename_i h
  have h':b-a=z.length:=by simpa using h
  apply Str.ext'
  show z.cps=((z.cps.toList.drop a).take (b-a)).toArray
  have h0:a=0\/z.length=0:=by omega
  rcases h0 with h0 | h0
  ·subst h0
   rw [List.drop_zero,h',<- hl,C2]
  ·have:z.cps.toList=[]:=T2 (hl.trans h0)
   have hz:z.cps=#[]:=by rw [<- X8 (xs:=z.cps),this]
   rw [this,hz];simp
 ·by_cases hab:a<=b
  ·have h:=StrLaws.picks z.cps.toList (b-a) a (by omega)
   have h2:List.filterMap (λx=>z.cps[x]?) (d6 (λk=>a+k) (Q2 (b-a)))=j6 (b-a) (List.drop a z.cps.toList):=by simpa using h
   rw [h2]
  ·have:b-a=0:=by omega
   rw [this];simp
theorem LD (z:Str) (lo hi:Option Int):(EW z lo hi).length<=z.length:=by rw [<- Md];exact Txt.slice_le z lo hi
def rSlS:V->Option Int->Option Int->Hp->VK->Prop:=λx lo hi H Q=>∃ z,x=.str z/\z.length<=sizeLine/\Q (.str (EW z lo hi)) H
theorem KS:SlR X rSlS:=by
 intro pins s σ H x v vl vu lo hi sl Q I rx hs pl pu h
 obtain ⟨z,rfl,hz,q⟩:=h
 obtain ⟨t,rfl⟩:=rx
 rw [<- Md] at q
 refine ⟨"str",_,F.slot_str_getitem.lookup,typeIs_str _ _ _,?_⟩
 have fin:∀ (l u:Option (Int×Tok)),vl=partValue l->vu=partValue u->lo=l.map (·.1)->hi=u.map (·.1)->wpAny (model X.prog X.w) X.A (getItem (.str z t) (.ref sl)) (EP X pins σ Q) X.xe s:=by
  rintro l u rfl rfl rfl rfl
  exact wpAny_getItem_str_slice (l:=l) (u:=u) (st:=none) hs rfl (post_val_or_str ⟨Q0 (Txt.slice_le z _ _) hz,λt' k=>⟨.str _,H,I.tok _,⟨_,rfl⟩,q⟩⟩)
 cases pl with
 |none =>
  cases pu with
  |none=>exact fin none none rfl rfl rfl rfl
  |int j uj=>exact fin none (some (j,uj)) rfl rfl rfl rfl
 |int i ui =>
  cases pu with
  |none=>exact fin (some (i,ui)) none rfl rfl rfl rfl
  |int j uj=>exact fin (some (i,ui)) (some (j,uj)) rfl rfl rfl rfl
def OS:V->List V->Hp->VK->Prop:=λx vs H Q=>∃ z y,x=.str z/\vs=[.str y]/\Q (.bl (Txt.startswith z y)) H
theorem Gh:MtR X "str.startswith" OS:=by
 intro pins s σ H x vs v us Q I rx rv h
 obtain ⟨z,y,rfl,rfl,q⟩:=h
 obtain ⟨t,rfl⟩:=rx
 obtain ⟨u,rfl,ru⟩:=Er rv
 obtain ⟨t',rfl⟩:=ru
 exact SC.startswith ⟨.bl _,H,I,rfl,q⟩
theorem strs_of {zs:List Str}:∀ {us:List Value},AW (zs.map V.str) us->StrsAre us zs:=by
 induction zs with
 |nil=>intro us r;cases r;exact .nil
 |cons b bs ih =>
  intro us r
  cases r with
  |cons h t =>
   obtain ⟨tk,rfl⟩:=h
   exact .cons _ _ (ih t)
def rJoin (K:K0):V->List V->Hp->VK->Prop:=λx vs H Q=>∃ (z:Str) (p:Addr) (zs:List Str),x=.str z/\vs=[.ref p]/\AH K H p (zs.map V.str)/\(zs.map (·.length)).sum+zs.length*z.length<=16777216/\Q (.str (Txt.join z zs)) H
theorem Iq:MtR X "str.join" (rJoin X.K):=by
 intro pins s σ H x vs v us Q I rx rv h
 obtain ⟨z,p,zs,rfl,rfl,hp,hz,q⟩:=h
 obtain ⟨t,rfl⟩:=rx
 obtain ⟨u,rfl,ru⟩:=Er rv
 cases ru
 obtain ⟨its,r',pl,_⟩:=I.list hp
 exact join_list pl.isList (strs_of r') hz λt' k=>⟨.str _,H,I.tok _,⟨_,rfl⟩,q⟩

inductive QE (K:K0) (H:Hp):Nat->V->V->Bool->Prop
 |flat {n:Nat} {x y:V}:Dy x=true->Dy y=true->QE K H n x y (Ha x y)
 |same {n:Nat} {a:Addr}:QE K H n (.ref a) (.ref a) true
 |lst {n:Nat} {a b:Addr} {xs ys:List V} {e:Nat->Bool}:AH K H a xs->AH K H b ys->a≠b->xs.length=ys.length->(∀ i x y,xs[i]?=some x->ys[i]?=some y->QE K H n x y (e i))->QE K H (n+1) (.ref a) (.ref b) ((Q2 xs.length).all e)
 |lstN {n:Nat} {a b:Addr} {xs ys:List V}:AH K H a xs->AH K H b ys->a≠b->xs.length≠ys.length->QE K H (n+1) (.ref a) (.ref b) false
 |tup {n:Nat} {a b:Addr} {xs ys:List V} {e:Nat->Bool}:BN K H a xs->BN K H b ys->a≠b->(∀ i x y,xs[i]?=some x->ys[i]?=some y->QE K H n x y (e i))->QE K H (n+1) (.ref a) (.ref b) ((Q2 (min xs.length ys.length)).all e&&xs.length == ys.length)
 |tupF {n:Nat} {a:Addr} {xs:List V} {y:V}:BN K H a xs->Dy y=true->QE K H n (.ref a) y false
 |fTup {n:Nat} {a:Addr} {xs:List V} {y:V}:BN K H a xs->Dy y=true->QE K H n y (.ref a) false
theorem Dw {xs:List V} {its:List Value} {j:Nat} (r:AW xs its) (h:j<its.toArray.size):∃ x,xs[j]?=some x/\Bw x its.toArray[j]:=by
 have hl:=r.length
 have hj:j<xs.length:=by rw [S0] at h;omega
 obtain ⟨u,hu,ru⟩:=r.get (i:=j) (x:=xs[j]) (by simp [hj])
 refine ⟨xs[j],by simp [hj],?_⟩
 have e:its.toArray[j]=u:=by
  have h2:j<its.length:=by rw [S0] at h;exact h
  have:=u0 h2
  rw [hu] at this
  simpa using (Z2.inj this).symm
 rw [e];exact ru
theorem _root_.PyProof.Rows.IsTup.isTuple' {h:Heap} {a:Addr} {its:Array Value} (p:IsTup h a its):h.IsTuple a its:=p
theorem QE.at {K:K0} {H:Hp} {n:Nat} {x y:V} {b:Bool} (d:QE K H n x y b):∀ {X:Cx} {pins:List (Addr×Obj)} {σ:St} {s:Shared} {A:Around} {u v:Value},X.K=K->AK X pins σ H s->Bw x u->Bw y v->A.units+n<cLine->SeqAt.EqAt A s u v b:=by
 induction d with
 |flat fx fy=>intro X pins σ s A u v hK I rx ry hu;exact SH rx ry fx fy
 |same=>intro X pins σ s A u v hK I rx ry hu;cases rx;cases ry;exact SeqAt.EqAt.same _
 |@lst n a b xs ys e hx hy hne hl _ ih =>
  intro X pins σ s A u v hK I rx ry hu
  subst hK
  cases rx;cases ry
  obtain ⟨ia,ra,pa,_⟩:=I.list hx
  obtain ⟨ib,rb,pb,_⟩:=I.list hy
  have la:=ra.length
  have lb:=rb.length
  have hs:ia.toArray.size=ib.toArray.size:=by rw [S0,S0];omega
  have q:=SeqAt.RcAt.lists (A:=A) (e:=e) pa.isList pb.isList hs (by omega) λj h1 h2=>by
   obtain ⟨x,ex,rx⟩:=Dw ra h1
   obtain ⟨y,ey,ry⟩:=Dw rb h2
   exact ih j x y ex ey rfl I rx ry (by show A.units+1+n<cLine;omega)
  rw [S0,<- la] at q
  exact SeqAt.EqAt.of_refs hne q
 |@lstN n a b xs ys hx hy hne hl =>
  intro X pins σ s A u v hK I rx ry hu
  subst hK
  cases rx;cases ry
  obtain ⟨ia,ra,pa,_⟩:=I.list hx
  obtain ⟨ib,rb,pb,_⟩:=I.list hy
  have la:=ra.length
  have lb:=rb.length
  exact SeqAt.EqAt.of_refs hne (SeqAt.RcAt.lists_lengths pa.isList pb.isList (by rw [S0,S0];simp;omega) (by omega))
 |@tup n a b xs ys e hx hy hne _ ih =>
  intro X pins σ s A u v hK I rx ry hu
  subst hK
  cases rx;cases ry
  obtain ⟨ia,ra,pa,_⟩:=I.tuple hx
  obtain ⟨ib,rb,pb,_⟩:=I.tuple hy
  have la:=ra.length
  have lb:=rb.length
  have q:=SeqAt.RcAt.tuples (A:=A) (e:=e) pa.isTuple' pb.isTuple' (by omega) λj h1 h2=>by
   obtain ⟨x,ex,rx⟩:=Dw ra h1
   obtain ⟨y,ey,ry⟩:=Dw rb h2
   exact ih j x y ex ey rfl I rx ry (by show A.units+1+n<cLine;omega)
  rw [S0,S0,<- la,<- lb] at q
  exact SeqAt.EqAt.of_refs hne q
 |@tupF n a xs y hx fy =>
  intro X pins σ s A u v hK I rx ry hu
  subst hK
  cases rx
  obtain ⟨ia,ra,pa,_⟩:=I.tuple hx
  have hu':A.units<cLine:=by omega
  cases y with
  |non=>cases (show v=Value.none from ry);exact SeqAt.EqAt.tuple_none pa.isTuple' hu'
  |bl b=>cases (show v=Value.bool b from ry);exact SeqAt.EqAt.tuple_bool b pa.isTuple' hu'
  |int i=>obtain ⟨t,q⟩:=(show ∃ t,v=Value.int i t from ry);cases q;exact SeqAt.EqAt.tuple_int i t pa.isTuple' hu'
  |str z=>obtain ⟨t,q⟩:=(show ∃ t,v=Value.str z t from ry);cases q;exact SeqAt.EqAt.tuple_str z t pa.isTuple' hu'
  |byt b=>cases fy
  |flt b=>cases fy
  |ref a=>cases fy
  |ty n=>cases fy
 |@fTup n a xs y hx fy =>
  intro X pins σ s A u v hK I rx ry hu
  subst hK
  cases ry
  obtain ⟨ia,ra,pa,_⟩:=I.tuple hx
  have hu':A.units<cLine:=by omega
  cases y with
  |non=>cases (show u=Value.none from rx);exact SeqAt.EqAt.none_tuple pa.isTuple' hu'
  |bl b=>cases (show u=Value.bool b from rx);exact SeqAt.EqAt.bool_tuple b pa.isTuple' hu'
  |int i=>obtain ⟨t,q⟩:=(show ∃ t,u=Value.int i t from rx);cases q;exact SeqAt.EqAt.int_tuple i t pa.isTuple' hu'
  |str z=>obtain ⟨t,q⟩:=(show ∃ t,u=Value.str z t from rx);cases q;exact SeqAt.EqAt.str_tuple z t pa.isTuple' hu'
  |byt b=>cases fy
  |flt b=>cases fy
  |ref a=>cases fy
  |ty n=>cases fy
def EqIt (K:K0) (H:Hp) (n:Nat) (xs ys:List V) (e:Nat->Bool):Prop:=∀ i x y,xs[i]?=some x->ys[i]?=some y->QE K H n x y (e i)
def rEqL (K:K0) (neg:Bool):R2:=λx y H Q=>∃ a b xs ys n e,x=.ref a/\y=.ref b/\AH K H a xs/\AH K H b ys/\n<=90/\EqIt K H n xs ys e/\Q (.bl (neg^^(decide (xs.length=ys.length)&&(Q2 xs.length).all e))) H
theorem Ht (hu:X.A.units+100<cLine):Fw X (compareOp .Eq) (rEqL X.K false):=by
 intro pins s σ H x y v u Q I rx ry h
 obtain ⟨a,b,xs,ys,n,e,rfl,rfl,hx,hy,hn,he,q⟩:=h
 cases rx;cases ry
 obtain ⟨ia,ra,pa,_⟩:=I.list hx
 obtain ⟨ib,rb,pb,_⟩:=I.list hy
 have la:=ra.length
 have lb:=rb.length
 rw [i6] at q
 by_cases hl:xs.length=ys.length
 ·rw [decide_eq_true hl,u4] at q
  refine SeqAt.eq_listAt (e:=e) pa.isList pb.isList (by rw [S0,S0];omega) (by omega) (λj h1 h2=>?_) ⟨.bl _,H,I,rfl,?_⟩
  ·obtain ⟨x,ex,rx⟩:=Dw ra h1
   obtain ⟨y,ey,ry⟩:=Dw rb h2
   exact (he j x y ex ey).at rfl I rx ry (by show X.A.units+1+n<cLine;omega)
  ·rw [S0,<- la];exact q
 ·rw [decide_eq_false hl,P3] at q
  exact SeqAt.eq_list_lengthsAt pa.isList pb.isList (by rw [S0,S0];simp;omega) (by omega) ⟨.bl _,H,I,rfl,q⟩
theorem IW (hu:X.A.units+100<cLine):Fw X (compareOp .NotEq) (rEqL X.K true):=by
 intro pins s σ H x y v u Q I rx ry h
 obtain ⟨a,b,xs,ys,n,e,rfl,rfl,hx,hy,hn,he,q⟩:=h
 cases rx;cases ry
 obtain ⟨ia,ra,pa,_⟩:=I.list hx
 obtain ⟨ib,rb,pb,_⟩:=I.list hy
 have la:=ra.length
 have lb:=rb.length
 rw [l7] at q
 by_cases hl:xs.length=ys.length
 ·rw [decide_eq_true hl,u4] at q
  refine SeqAt.RcNeAt.lists (e:=e) pa.isList pb.isList (by rw [S0,S0];omega) (by omega) (λj h1 h2=>?_) _ _ _ _ ⟨.bl _,H,I,rfl,?_⟩
  ·obtain ⟨x,ex,rx⟩:=Dw ra h1
   obtain ⟨y,ey,ry⟩:=Dw rb h2
   exact (he j x y ex ey).at rfl I rx ry (by show X.A.units+1+n<cLine;omega)
  ·rw [S0,<- la];exact q
 ·rw [decide_eq_false hl,P3] at q
  exact SeqAt.RcNeAt.lists_lengths pa.isList pb.isList (by rw [S0,S0];simp;omega) (by omega) _ _ _ _ ⟨.bl _,H,I,rfl,q⟩
def rEqT (K:K0) (neg:Bool):R2:=λx y H Q=>∃ a b xs ys n e,x=.ref a/\y=.ref b/\BN K H a xs/\BN K H b ys/\n<=90/\EqIt K H n xs ys e/\Q (.bl (neg^^((Q2 (min xs.length ys.length)).all e&&xs.length == ys.length))) H
theorem RM (hu:X.A.units+100<cLine):Fw X (compareOp .NotEq) (rEqT X.K true):=by
 intro pins s σ H x y v u Q I rx ry h
 obtain ⟨a,b,xs,ys,n,e,rfl,rfl,hx,hy,hn,he,q⟩:=h
 cases rx;cases ry
 obtain ⟨ia,ra,pa,_⟩:=I.tuple hx
 obtain ⟨ib,rb,pb,_⟩:=I.tuple hy
 have la:=ra.length
 have lb:=rb.length
 rw [l7] at q
 refine SeqAt.RcNeAt.tuples (e:=e) pa.isTuple' pb.isTuple' (by omega) (λj h1 h2=>?_) _ _ _ _ ⟨.bl _,H,I,rfl,?_⟩
 ·obtain ⟨x,ex,rx⟩:=Dw ra h1
  obtain ⟨y,ey,ry⟩:=Dw rb h2
  exact (he j x y ex ey).at rfl I rx ry (by show X.A.units+1+n<cLine;omega)
 ·rw [S0,S0,<- la,<- lb];exact q
theorem Fn {A:Around} {k:Nat} (hr:Dz k A):A.units+100<cLine:=S3 (by omega) hr.un

def KH:List Expr->List Str->Bool
 |[],[]=>true
 |.Constant (.str x) _ _::r,z::zs=>x == z&&KH r zs
 |_,_=>false
def tStrs (zs:List Str):TA:=λ_ H Q=>Q (zs.map V.str) H
theorem De:∀ {es:List Expr} {zs:List Str},KH es zs=true->PA X es (tStrs zs):=by
 intro es
 induction es with
 |nil =>
  intro zs h
  cases zs with
  |nil=>exact Ab
  |cons z zs=>cases h
 |cons e r ih =>
  intro zs h
  unfold KH at h
  split at h
  ·exact absurd ‹e::r=[]› (List.cons_ne_nil _ _)
  ·rename_i x j p r' z zs' h1
   cases h1
   rw [Z1] at h
   have hx:x=z:=by simpa using h.1
   subst hx
   exact Aa (X:=X) (e:=.Constant (.str x) j p) Ao (ih h.2)
  ·cases h
end
end L2
namespace L2
open PySem PySem.Spec PyProof.Rows
set_option genInjectivity false in
structure EE (K:K0) (mg:Str->Option Value) (x:Str) (st:Stmt) (ps:List Str) where
 f:Addr
 fd:FuncData
 F:Fun K x x st f fd
 hm:mg x=some (.ref f)
 b:ED K fd ps []
theorem cxOf_K {CX:OC} {P:Program} {w:World} {K:K0} {mg:Str->Option Value} {base:Heap} {N:List Str} {qual:Str} {scope:Scope} {f:Addr} {cd:Value} {A:Around} {outer:List Env} {s:Shared} {H:Hp} {E:XK} :
  (Ot CX P w K mg base N qual scope f cd A outer s H E).K=K:=rfl
theorem SN {X:Cx} {N:List Str} {scope:Scope} {C:Addr} {s:Shared} {H:Hp} {fp:List Addr} {pn:List (Addr×Obj)}:(BU X N scope C s H fp pn).K=X.K:=rfl
structure InK (K:K0) (x:Str) (st:Stmt):Prop where
 ex:∃ (f:Addr) (oc:Value) (od:Option Addr) (kV doc pm:Value) (an:Option Addr) (cdv ct:Value) (osl:Array (Option Value)),
  A2 K mainGlobals x=some (some (.ref f))/\K.lookup f=some ⟨oc,od,.func (Y3 x x (Df st) (CP st) (Aj st) .none kV doc pm an cdv ct),osl⟩/\D5 K cdv x=true/\X3 K (.ref f)=true
theorem InK.of {K:K0} {x:Str} {st:Stmt} {f:Addr} {oc:Value} {od:Option Addr} {kV doc pm:Value} {an:Option Addr} {cdv ct:Value} {osl:Array (Option Value)}
  (a:A2 K mainGlobals x=some (some (.ref f))) (l:K.lookup f=some ⟨oc,od,.func (Y3 x x (Df st) (CP st) (Aj st) .none kV doc pm an cdv ct),osl⟩) (c:D5 K cdv x=true) (k:X3 K (.ref f)=true):InK K x st :=
 ⟨⟨f,oc,od,kV,doc,pm,an,cdv,ct,osl,a,l,c,k⟩⟩
theorem InK.def {K:K0} {mg:Str->Option Value} {h:Heap} {x:Str} {st:Stmt} {ps:List Str} (i:InK K x st) (X:K.In h) (G:h.Ns mainGlobals mg)
  (hb:∀ (kV doc pm:Value) (an:Option Addr) (cdv ct:Value) (us:List Value),us.length=ps.length->bindArgs (Y3 x x (Df st) (CP st) (Aj st) .none kV doc pm an cdv ct) ⟨us,[]⟩=pure (ps.zip us)):Nonempty (EE K mg x st ps):=by
 obtain ⟨f,oc,od,kV,doc,pm,an,cdv,ct,osl,a,l,c,k⟩:=i.ex
 have F:=Oh (x:=x) (qual:=x) (st:=st) l c k
 exact ⟨⟨f,_,F,A3 X G a,F.binds hb⟩⟩
def IC:List Str->List Value->Bool
 |[],[]=>true
 |z::zs,.str x _::r=>x == z&&IC zs r
 |_,_=>false
theorem EX:∀ {zs:List Str} {us:List Value},IC zs us=true->AW (zs.map V.str) us:=by
 intro zs
 induction zs with
 |nil =>
  intro us h
  cases us with
  |nil=>exact .nil
  |cons u r=>cases h
 |cons z zs ih =>
  intro us h
  cases us with
  |nil=>cases h
  |cons u r =>
   cases u with
   |str x t =>
    have h':(x == z&&IC zs r)=true:=h
    rw [Z1] at h'
    have e:x=z:=by simpa using h'.1
    subst e
    exact .cons ⟨t,rfl⟩ (ih h'.2)
   |_=>cases h
structure InT (K:K0) (x:Str) (zs:List Str):Prop where
 ex:∃ (p:Addr) (dd:Option Addr) (its:Array Value) (n:Nat) (sl:Array (Option Value)),A2 K mainGlobals x=some (some (.ref p))/\K.lookup p=some ⟨.type "tuple",dd,.seq its n,sl⟩/\its.size<=sizeLine/\IC zs its.toList=true
theorem InT.of {K:K0} {x:Str} {zs:List Str} {p:Addr} {dd:Option Addr} {its:Array Value} {n:Nat} {sl:Array (Option Value)} (a:A2 K mainGlobals x=some (some (.ref p))) (l:K.lookup p=some ⟨.type "tuple",dd,.seq its n,sl⟩)
  (s:its.size<=sizeLine) (v:IC zs its.toList=true):InT K x zs:=⟨⟨p,dd,its,n,sl,a,l,s,v⟩⟩
theorem BB:bootBuiltins "len"=some (.builtin "len"):=by decide +kernel
theorem SR:bootBuiltins "all"=some (.builtin "all"):=by decide +kernel
theorem Ba:bootBuiltins "isinstance"=some (.builtin "isinstance"):=by decide +kernel
theorem EO:bootBuiltins "str"=some (.type "str"):=by decide +kernel
theorem HG:bootBuiltins "int"=some (.type "int"):=by decide +kernel
theorem Pr:bootBuiltins "bool"=some (.type "bool"):=by decide +kernel
theorem BJ:bootBuiltins "tuple"=some (.type "tuple"):=by decide +kernel
theorem Ag.upd {H:Hp} {a:Addr} {o:HO} (h:H a=none):Ag H (L2.upd H a o):=λb u e=>by rw [Aq (AG e h)];exact e
theorem Sb {K:K0} {z:Str} {H:Hp} {n:Nat}:OA K (.str z) H n↔z.length<=sizeLine/\n=z.length:=Iff.rfl
theorem Bo {K:K0} {p:Addr} {H:Hp} {n:Nat}:OA K (.ref p) H n↔(∃ xs,AH K H p xs/\n=xs.length)\/∃ xs,BN K H p xs/\n=xs.length:=Iff.rfl
end L2
namespace L2
open PySem PySem.Spec PyProof.Rows
section
variable {X:Cx} {o e f:Expr} {apos cpos pos:Pos} {td ty tx:TE}

def QF (P:Program) (w:World) (K:K0) (a:Addr) (kvs:List (DX×V)):Prop:=(a == sysModules)=false/\∀ h:Heap,K.In h->∃ vs,KV kvs vs/\h.DictOf (Eg P w) a vs
def tDGetK (P:Program) (w:World) (K:K0) (td ty tx:TE):TE:=λσ H Q=>td σ H λx H1=>∃ a kvs,x=.ref a/\QF P w K a kvs/\ty σ H1 λy H2=>tx σ H2 λz H3=>∃ k,y=kV k/\Q ((valV kvs k).getD z) H3
theorem RJ (ho:PE X o td) (he:PE X e ty) (hf:PE X f tx) (m:M2 X o "get" apos e f cpos):PE X (.Call (.Attribute o "get" apos) [e,f] [] cpos) (tDGetK X.prog X.w X.K td ty tx):=by
 intro pins s σ H Q I h
 refine wpAny_Call_method m.base m.few m.line y7 W5 Q8 (BC (ho pins s σ H _ I h) λu s1 ⟨x,H1,I1,rx,a,kvs,ex,d,q1⟩=>?_)
 subst ex
 obtain rfl:u=Value.ref a:=rx
 obtain ⟨vs1,_,dd1⟩:=d.2 s1.heap I1.kIn
 have t2:∀ b,Value.ref a=.ref b->∃ ob,s1.heap.get? b=some ob/\ob.dict=none:=by
  intro b hb
  cases hb
  obtain ⟨o,es,ep,h1,h2,_⟩:=dd1
  exact ⟨o,h1,h2.2.1⟩
 refine ⟨dd1.typeIs,t2,?_⟩
 rw [m.trees]
 refine Calls.callWith_builtin rfl (Calls.evalArgs_plain (Calls.spliced_cons (BC (he pins s1 σ H1 _ I1 q1) λiv s2 ⟨y,H2,I2,ry,q2⟩ =>
  Calls.spliced_cons (BC (hf pins s2 σ H2 _ I2 q2) λfv s3 ⟨z,H3,I3,rz,k,ey,q3⟩=>Calls.spliced_nil ?_))))
 subst ey
 obtain ⟨vs,rel,dd⟩:=d.2 s3.heap I3.kIn
 refine call_meetsIn W5 dd.typeIs C8 (PySem.F.args_dict_get_3 _ _ _) (meets_dict_get_default (Eg X.prog X.w) a (MJ ry) d.1 fv) ⟨_,dd.mapOf,?_⟩
 exact ⟨_,H3,I3.tok _,(rel.val k).getD rz,q3⟩

def gLst (K:K0) (n:Nat) (t:TGs):TG:=λv σ H Q=>∃ a xs,v=.ref a/\AH K H a xs/\xs.length=n/\t xs σ H Q
theorem Kw {prog:Program} {w:World} {A:Around} {E:Value->Shared->Prop} {it l:Addr} {items:Array Value} (hne:l≠it):∀ (n i:Nat) (s:Shared) (Q:List Value->Shared->Prop),s.heap.IsListIter it l i->s.heap.IsList l items->i+n<=items.size ->
  (∀ h',h'.IsListIter it l (i+n)->Heap.SameBut it s.heap h'->Q ((items.toList.drop i).take n) { s with heap:=h' })->wpAny (model prog w) A (draw (.ref it) n) Q E s
 |0,i,s,Q,hit,_,_,hQ=>by
  show wpAny _ _ (pure []) Q E s
  exact wpAny_pure (by simpa using hQ s.heap hit (Heap.SameBut.refl ..))
 |n+1,i,s,Q,hit,ht,hle,hQ=>by
  have hlt:i<items.size:=by omega
  show wpAny _ _ (pyNext (.ref it) >>= _) Q E s
  refine wpAny_bind (wpAny_pyNext_list_item hit ht (x:=items[i]) (by simp [hlt]) λh₁ hit₁ hs₁=>?_)
  refine wpAny_bind (wpAny_holding (Kw hne n (i+1) _ _ hit₁ (ht.extBut hs₁.extBut hne) (by omega) λh₂ hit₂ hs₂=>wpAny_pure ?_))
  have hd:items.toList.drop i=items[i]::items.toList.drop (i+1):=by simp [T4,hlt]
  have:=hQ h₂ (by rw [show i+(n+1)=i+1+n by omega];exact hit₂) (hs₁.trans hs₂)
  rw [hd,List.take_succ_cons] at this
  exact this
theorem Hg {prog:Program} {w:World} {A:Around} {E:Value->Shared->Prop} {s:Shared} {t:Addr} {items:Array Value} {Q:List Value->Shared->Prop} (hh:A.handled=none) (ht:s.heap.IsList t items)
  (hQ:∀ h',Heap.ExtBut s.heap.objs.size s.heap h'->Q items.toList { s with heap:=h' }):wpAny (model prog w) A (unpackItems (.ref t) items.size none) Q E s:=by
 have hlt:t≠s.heap.objs.size:=by obtain ⟨o,ho,_⟩:=ht;exact P1 (Heap.lt_size ho)
 unfold unpackItems
 refine wpAny_bind ?_
 ·unfold notIterableAtAll
  refine wpAny_bind (wpAny_specialOf ht.typeIs F.slot_list_iter.lookup ?_)
  refine wpAny_pure ?_
  simp only [B7,if_false]
  refine wpAny_bind (wpAny_holding (wpAny_pyIter_list ht ?_))
  refine wpAny_bind (wpAny_holding (Kw hlt items.size 0 _ _ ⟨_,Heap.get?_push_size _ rfl,rfl,rfl⟩ (ht.push _) (by omega) λh₁ hit₁ hs₁=>?_))
  have hall:j6 items.size (List.drop 0 items.toList)=items.toList:=by
   rw [List.drop_zero];exact U6 (by simp)
  rw [hall]
  rw [if_neg (by simp)]
  have ht₁:h₁.IsList t items:=(ht.push _).extBut hs₁.extBut hlt
  refine wpAny_bind (wpAny_holding (wpAny_pyNext_list_end hh hit₁ ht₁ (by simp) λh₂ he₂=>?_))
  simp only [Option.isSome_none,B7,if_false]
  refine wpAny_pure (hQ h₂ λb o hb e=>he₂ b o hb (hs₁.extBut b o hb (Heap.get?_push_of_some _ e)))
theorem pg_lst {es:List Expr} {k:Nat} {t:TGs} {n:Nat} (hc:X.calm=true) (h:PGs X es t)
  (hn:(assignEach es X.env).length=n:=by rfl) (hst:(assignEach es X.env).findIdx? (·.1)=none:=by rfl):PG X (.Tuple es k pos) (gLst X.K n t):=by
 intro pins s σ H v u Q I r hw
 obtain ⟨a,xs,e1,hq,hl,hw⟩:=hw
 subst e1
 cases r
 obtain ⟨its,rv,ht,hz⟩:=I.list hq
 rw [arm_assign_Tuple]
 refine wpAny_bind (wpAny_standAt ?_)
 unfold unpack
 rw [show (assignEach es X.env).length=its.toArray.size by rw [hn,<- hl,S0,rv.length],hst]
 refine wpAny_bind (wpAny_holding (Hg (I.ok.hd hc) ht.isList λh' hx=>?_))
 have I1:AK X pins σ H { s with heap:=h' }:=I.kept (t':=s.toks) λb o e=>hx b o (P1 (Heap.lt_size e)) e
 exact h pins _ σ H xs _ Q I1 (by simpa using rv) hw

variable {K:K0}
theorem Si (h:X.K=K):IxR X (Ew K):=by subst h;exact As
theorem Iw (h:X.K=K):IxR X (HY K):=by subst h;exact AI
theorem JJ (h:X.K=K):Fw X (compareOp .NotIn) (rIn K true):=by subst h;exact DG
theorem Qy (h:X.K=K):Ek X (.builtin "len") (λxs H Q=>∃ x n,xs=[x]/\OA K x H n/\Q (.int n) H):=by subst h;exact AX
theorem Jw (h:X.K=K):Ek X (.type "tuple") (λxs H Q=>∃ p ys,xs=[.ref p]/\((AH K H p ys/\∀ l,H l=none->Q (.ref l) (upd H l (.tup ys)))\/(BN K H p ys/\Q (.ref p) H))):=by subst h;exact Be
def tIfM (c:TT) (t u:TS):TS:=λD σ H=>∃ M1 M2:Hp->Prop,(c σ H λb H1=>if b=true then M1 H1 else M2 H1)/\(∀ H1,M1 H1->t D σ H1)/\∀ H1,M2 H1->u D σ H1
theorem Lc {X:Cx} {pos:Pos} {t u:TS} {c:Expr} {a b:List Stmt} {tc:TT} (hc:PT X c tc) (ha:LL X a t) (hb:LL X b u):PS X (.If c a b pos) (tIfM tc t u):=by
 intro pins s σ H D I h
 obtain ⟨M1,M2,h,h1,h2⟩:=h
 refine wpAny_If (BC (hc pins s σ H _ I h) λd s1 ⟨H1,I1,q1⟩=>?_)
 cases d with
 |true=>exact ha pins s1 σ H1 D I1 (h1 _ q1)
 |false=>exact hb pins s1 σ H1 D I1 (h2 _ q1)
theorem AK.turned2 {X:Cx} {pins:List (Addr×Obj)} {σ:List (Option V)} {H:Hp} {s:Shared} {h':Heap} {t':Nat} {e it:Addr} (I:AK X pins σ H s) (k:∀ b o,b≠e->b≠it->s.heap.get? b=some o->h'.get? b=some o) (fe:EC X pins H e) (fi:EC X pins H it):AK X pins σ H { s with heap:=h',toks:=t' }:=by
 obtain ⟨e0,e1,_,e3,e4,e5⟩:=fe
 obtain ⟨i0,i1,_,i3,i4,i5⟩:=fi
 have nit:∀ b u,H b=some u->b≠it:=λb u q z=>by rw [z,i0] at q;cases q
 have nie:∀ b u,H b=some u->b≠e:=λb u q z=>by rw [z,e0] at q;cases q
 have kk:∀ b o,b∉[e,it]->s.heap.get? b=some o->h'.get? b=some o:=λb o hc q=>k b o (λz=>hc (by simp [z])) (λz=>hc (by simp [z])) q
 refine I.step (g':=s.gens) (d':=s.drawn) (ch:=[e,it]) (λb hb=>?_) (λb o _ _ hc q _=>kk b o hc q) (λb o _ _ hc q _=>⟨o.slots,kk b o hc q⟩) (λ_ _ _ _ n=>n)
  (λb o hc q=>⟨o,kk b o hc q⟩) (λ_ _ q=>q) (λ_ _ _ q=>q) (λb ps q=>⟨#[],by rw [q];simp⟩) (λm hm=>?_) (λb u q=>?_) I.bare
 ·rcases L0.mp hb with rfl | hb
  ·exact ⟨e3,e1,e4,e5⟩
  ·have z:b=it:=by simpa using hb
   subst z
   exact ⟨i3,i1,i4,i5⟩
 ·obtain ⟨o,es,ep,ho,r⟩:=hm
  exact ⟨o,es,ep,k _ o (Ne.symm e1) (Ne.symm i1) ho,r⟩
 ·refine (I.hok b u q).stay (λc v hc q'=>k c v ?_ ?_ q') (λ_ q=>q) λ_ _ q=>q
  ·rcases hc with z | z
   ·rw [z];exact nie b u q
   ·exact nie c _ z
  ·rcases hc with z | z
   ·rw [z];exact nit b u q
   ·exact nit c _ z
def Ite (K:K0) (a:Addr):It :=
 ⟨λi H=>∃ xs x,AH K H a xs/\xs[i]?=some x,λi H v H'=>∃ p x,v=.ref p/\H p=none/\H'=upd H p (.tup [.int (i:Nat),x])/\∀ xs,AH K H a xs->xs[i]?=some x,λi H=>∃ xs,AH K H a xs/\xs.length<=i⟩
theorem PK {P:Program} {w:World} {K:K0} {es:List Expr} {x1} {pos:Pos} (a e it:Addr) (hne:e≠it):JO P w K (.Tuple es x1 pos) (Ite K a) [e,it] e (λi h=>(∃ old,IsEnum h e it (i:Nat) old)/\h.IsListIter it a i) where
 mem:=by simp
 obj:=λi h st b hb=>by
  obtain ⟨⟨old,he⟩,hit⟩:=st
  rcases L0.mp hb with rfl | hb
  ·exact ⟨_,he,λv z=>by
    have z':Data.fields _=Data.cell v:=z
    cases z'⟩
  ·have z:b=it:=by simpa using hb
   subst z
   obtain ⟨o,e,c,d⟩:=hit
   exact ⟨o,e,λv z=>by rw [d] at z;cases z⟩
 keep:=λi h h' st k=>⟨let ⟨old,he⟩:=st.1;⟨old,k e (by simp) _ he⟩,st.2.at λo q=>k it (by simp) o q⟩
 item:=by
  intro X hP hw hK hc i pins s σ H E I hf st hg
  subst hP hw hK
  obtain ⟨xs,x,hq,hx⟩:=hg
  obtain ⟨its,rv,p,hz⟩:=I.list hq
  obtain ⟨u,hu,ru⟩:=rv.get hx
  obtain ⟨⟨old,he⟩,hit⟩:=st
  have fe:=hf e (by simp)
  have fi:=hf it (by simp)
  have helt:e<s.heap.objs.size:=Heap.lt_size he
  have hilt:it<s.heap.objs.size:=by obtain ⟨_,q,_⟩:=hit;exact Heap.lt_size q
  refine wpAny_pyNext_enum_item he hit p.isList (x:=u) (by simpa using hu) hne λh' ho hit' hT hsz hk=>?_
  refine ⟨_,rfl,wpAny_letOwnedTupleGo_enum ho λh'' he'' hs''=>?_⟩
  have hfr:H s.heap.objs.size=none:=I.hok.fresh (P0 _)
  have I1:AK X pins σ (upd H s.heap.objs.size (.tup [.int (i:Nat),x])) { s with heap:=s.heap.push { cls:=.type "tuple",data:=.seq #[.int (i:Nat) s.toks,u] },toks:=s.toks } :=
   I.laid (t':=s.toks) (λb v q=>Heap.get?_push_of_some _ q) (P0 _) ⟨show 2<=sizeLine by decide,[.int (i:Nat) s.toks,u],.cons ⟨_,rfl⟩ (.cons ru .nil),⟨_,Heap.get?_push_size _ rfl,rfl,_,rfl⟩⟩
  have up:∀ {b:Addr},EC X pins H b->b<s.heap.objs.size->EC X pins (upd H s.heap.objs.size (.tup [.int (i:Nat),x])) b:=λf hb=>⟨by rw [Aq (P1 hb)];exact f.1,f.2⟩
  have I2:AK X pins σ (upd H s.heap.objs.size (.tup [.int (i:Nat),x])) { s with heap:=h'',toks:=s.toks+1 } :=
   AK.turned2 (s:={ s with heap:=s.heap.push { cls:=.type "tuple",data:=.seq #[.int (i:Nat) s.toks,u] },toks:=s.toks }) (h':=h'') (t':=s.toks+1) (e:=e) (it:=it) I1 (λb o b1 b2 q=>by
    rw [hs''.2 b b1]
    by_cases hb:b=s.heap.objs.size
    ·subst hb
     rw [Heap.get?_push_size _ rfl] at q
     cases q
     exact hT
    ·refine hk b o b1 b2 ?_
     rw [<- q]
     exact (Heap.get?_push_ne _ _ _ hb).symm) (up fe helt) (up fi hilt)
  refine ⟨.ref s.heap.objs.size,_,I2,rfl,⟨_,x,rfl,hfr,rfl,λys hy=>by rw [I.list_inj hy hq];exact hx⟩,⟨⟨_,by simpa using he''⟩,hit'.at λo q=>(hs''.2 it hne.symm).trans q⟩,λb hb=>?_⟩
  rcases L0.mp hb with rfl | hb
  ·exact (up fe helt).1
  ·have z:b=it:=by simpa using hb
   subst z
   exact (up fi hilt).1
 done:=by
  intro X hP hw hK hc i pins s σ H E I hf st hg
  subst hP hw hK
  obtain ⟨xs,hq,hx⟩:=hg
  obtain ⟨its,rv,p,hz⟩:=I.list hq
  obtain ⟨⟨old,he⟩,hit⟩:=st
  have fe:=hf e (by simp)
  have fi:=hf it (by simp)
  have hl:=rv.length
  exact wpAny_pyNext_enum_end (I.ok.hd hc) he hit p.isList (by simp;omega) λh' eb=>⟨rfl,AK.turned2 (t':=s.toks) (e:=e) (it:=it) I (λb o _ hb q=>eb b o hb q) fe fi⟩
 self:=λ_ _ _ _ _ st h=>let ⟨_,he⟩:=st.1;wpAny_pyIter_enum he h
theorem Hc:bootBuiltins "enumerate"=some (.type "enumerate"):=by decide +kernel
def Pj (K:K0) (ta:TA):TI:=λσ H R=>ta σ H λvs H1=>∃ a:Addr,vs=[.ref a]/\(∃ xs,AH K H1 a xs)/\R (Ite K a) H1
theorem Ld {X:Cx} {es:List Expr} {x1} {tpos:Pos} {a:Expr} {ta:TA} {p pos:Pos} (hg:Gl X "enumerate") (hm:X.mg "enumerate"=none) (ha:PA X [a] ta) (hs:starEach [a] X.env=[(false,eval a X.env)]:=by rfl):PI X (.Tuple es x1 tpos) (.Call (.Name "enumerate" p) [a] [] pos) (Pj X.K ta):=by
 intro pins s σ H R I h
 refine Call_ (Fk I hg hm Hc (L4 (BC (ha pos pins s σ H _ I h) λus s1 ⟨vs,H1,I1,r1,q1⟩=>?_) hs rfl))
 obtain ⟨l,q0,⟨xs,hq⟩,q⟩:=q1
 subst q0
 cases r1 with
 |cons r rr =>
  cases rr
  cases r
  obtain ⟨its,rv,pl,hz⟩:=I1.list hq
  refine call_enumerate_list pl.isList λh' he hit hsz hk=>wpAny_pyIter_enum he ?_
  refine ⟨s1.heap.objs.size+1,[s1.heap.objs.size+1,s1.heap.objs.size],_,_,H1,rfl,I1.kept (t':=s1.toks) hk,PK l _ _ (Nat.succ_ne_self _),⟨⟨_,he⟩,hit⟩,λb hb=>?_,q⟩
  rcases L0.mp hb with rfl | hb
  ·exact I1.fpOk (by omega) (I1.hok.fresh (by omega))
  ·have z:b=s1.heap.objs.size:=by simpa using hb
   subst z
   exact I1.fpOk (P0 _) (I1.hok.fresh (P0 _))
theorem Jr {K:K0} {a:Addr} {xs:List V} {g:TG} {tb:TS} {D:JC} {σ:St} {H:Hp} (Pv:Nat->St->Hp->Prop) (h0:Pv 0 σ H) (hl:∀ i σ H,i<=xs.length->Pv i σ H->AH K H a xs)
  (hs:∀ i x p σ H,xs[i]?=some x->Pv i σ H->H p=none->g (.ref p) σ (upd H p (.tup [.int (i:Nat),x])) λσ2 H2=>tb { D with nx:=Pv (i+1),ct:=Pv (i+1),bk:=D.nx } σ2 H2) (hd:∀ σ H,Pv xs.length σ H->D.nx σ H) :
  ∃ W:Nat->Nat->St->Hp->Prop,(∃ m,W 0 m σ H)/\∀ i m σ H,W i m σ H ->
   ((Ite K a).stop i H/\D.nx σ H)\/((Ite K a).go i H/\∃ N:St->Hp->Prop,(∀ σ' H',N σ' H'->∃ m',m'<m/\W (i+1) m' σ' H')/\∀ x H',(Ite K a).yld i H x H'->g x σ H' λσ2 H2=>tb { D with nx:=N,ct:=N,bk:=D.nx } σ2 H2):=by
 refine ⟨λi m σ H=>m=xs.length-i/\i<=xs.length/\Pv i σ H,⟨xs.length,by simp,D2 _,h0⟩,?_⟩
 rintro i m σ H ⟨rfl,hi,p⟩
 have q:=hl i σ H hi p
 by_cases hlt:i<xs.length
 ·refine .inr ⟨⟨xs,xs[i],q,by simp [hlt]⟩,Pv (i+1),λσ' H' p'=>⟨xs.length-(i+1),by omega,rfl,hlt,p'⟩,λv H' y=>?_⟩
  obtain ⟨b,x,rfl,hb,rfl,hx⟩:=y
  exact hs i x b σ H (hx xs q) p hb
 ·have z:i=xs.length:=by omega
  subst z
  exact .inl ⟨⟨xs,q,P0 _⟩,hd σ H p⟩
end
end L2
namespace L2
open PySem PySem.Spec PyProof.Rows
structure InC (K:K0) (x:Str) (C:Addr):Prop where
 a:A2 K mainGlobals x=some (some (.ref C))
 pg:Y5 K C Str.empty=true
 hd:B6 K C=true
 po:C7 K C=true
 sa:J2 K (.ref C) "__setattr__"=some (some (.builtin "object.__setattr__"))
 mak:S7 K C=true
 kp:X3 K (.ref C)=true
theorem InC.cls {K:K0} {x:Str} {C:Addr} (i:InC K x C):Nl K C:=⟨i.pg,i.hd,i.po,i.sa⟩
structure InM (K:K0) (C:Addr) (m q:Str) (st:Stmt):Prop where
 ex:∃ (f:Addr) (oc:Value) (od:Option Addr) (kV doc pm:Value) (an:Option Addr) (cdv ct:Value) (osl:Array (Option Value)),
  J2 K (.ref C) m=some (some (.ref f))/\N6 K (.ref f)=true/\K.lookup f=some ⟨oc,od,.func (Y3 m q (Df st) (CP st) (Aj st) .none kV doc pm an cdv ct),osl⟩/\D5 K cdv q=true/\X3 K (.ref f)=true
theorem InM.of {K:K0} {C:Addr} {m q:Str} {st:Stmt} {f:Addr} {oc:Value} {od:Option Addr} {kV doc pm:Value} {an:Option Addr} {cdv ct:Value} {osl:Array (Option Value)}
  (a:J2 K (.ref C) m=some (some (.ref f))) (i:N6 K (.ref f)=true) (l:K.lookup f=some ⟨oc,od,.func (Y3 m q (Df st) (CP st) (Aj st) .none kV doc pm an cdv ct),osl⟩) (c:D5 K cdv q=true) (k:X3 K (.ref f)=true):InM K C m q st :=
 ⟨⟨f,oc,od,kV,doc,pm,an,cdv,ct,osl,a,i,l,c,k⟩⟩
set_option genInjectivity false in
structure Fx (K:K0) (C:Addr) (m q:Str) (st:Stmt) (ps:List Str) where
 f:Addr
 fd:FuncData
 F:Fun K m q st f fd
 me:Meth K C m f
 b:ED K fd ps []
theorem InM.def {K:K0} {C:Addr} {m q:Str} {st:Stmt} {ps:List Str} (i:InM K C m q st)
  (hb:∀ (kV doc pm:Value) (an:Option Addr) (cdv ct:Value) (us:List Value),us.length=ps.length->bindArgs (Y3 m q (Df st) (CP st) (Aj st) .none kV doc pm an cdv ct) ⟨us,[]⟩=pure (ps.zip us)):Nonempty (Fx K C m q st ps):=by
 obtain ⟨f,oc,od,kV,doc,pm,an,cdv,ct,osl,a,i,l,c,k⟩:=i.ex
 have F:=Oh (x:=m) (qual:=q) (st:=st) l c k
 exact ⟨⟨f,_,F,⟨a,i,k⟩,F.binds hb⟩⟩
section
variable {X:Cx}
end
end L2
namespace HT
open PySem PySem.Spec PyProof.Rows
section
variable {prog:Program} {w:World} {A:Around} {E:Value->Shared->Prop} {s:Shared}
theorem getItem_tuple_whole {t sl:Addr} {items:Array Value} {vl vu:Value} {lo hi:Option Int} {Q:Value->Shared->Prop} (ht:IsTup s.heap t items) (hs:s.heap.IsSliceOf sl vl vu .none) (pl:IsPart vl lo) (pu:IsPart vu hi)
  (hw:sIx items.size 0 lo=0/\sIx items.size items.size hi=items.size) (h:Q (.ref t) s):wpAny (model prog w) A (getItem (.ref t) (.ref sl)) Q E s:=by
 obtain ⟨os,hos,hcs,hds⟩:=id hs
 have hTs:s.TypeIs (.ref sl) "slice":=⟨os,hos,hcs⟩
 unfold getItem
 try with_reducible refine wpAny_holding ?_
 first | refine wpAny_bind (wpAny_pure ?_) | skip
 refine wpAny_bind (wpAny_sequenceKey ht.typeIs (by decide) ?_)
 refine wpAny_bind (wpAny_callSpecial?_slot (name:=Str.ofString "__getitem__") ht.typeIs X4
  (wpAny_call_entry X4 ht.typeIs entry_tuple_getitem ?_ (args_tuple_getitem _ _)))
 show wpAny _ _ (Builtin.Tuple.tupleItemsOf (.ref t) >>= _) _ _ s
 refine wpAny_bind (tupleItemsOf_ ht ?_)
 refine wpAny_bind (wpAny_typeOf hTs ?_)
 rw [if_pos (by decide)]
 refine wpAny_bind (Ev hs pl pu ?_)
 dsimp only
 rw [if_pos (by rw [hw.1,hw.2];simp)]
 unfold Builtin.Tuple.tupleIsExact
 refine wpAny_bind (wpAny_bind (wpAny_typeOf ht.typeIs (wpAny_pure ?_)))
 rw [if_pos (by decide)]
 refine wpAny_bind (wpAny_rule (wpAny_pure ?_))
 exact ⟨_,rfl,wpAny_pure h⟩
end
end HT
namespace L2
open PySem PySem.Spec PyProof.Rows
section
variable {X:Cx}
def rSlTW (K:K0):V->Option Int->Option Int->Hp->VK->Prop:=λx lo hi H Q=>∃ a xs,x=.ref a/\BN K H a xs /\
 ((HT.sIx xs.length 0 lo=0/\HT.sIx xs.length xs.length hi=xs.length)->Q x H)/\(¬ (HT.sIx xs.length 0 lo=0/\HT.sIx xs.length xs.length hi=xs.length)->∀ p,H p=none->Q (.ref p) (upd H p (.tup (Ig xs lo hi))))
theorem OP:SlR X (rSlTW X.K):=by
 intro pins s σ H x v vl vu lo hi sl Q I rx hs pl pu h
 obtain ⟨a,xs,e,hx,q1,q2⟩:=h
 by_cases hw:HT.sIx xs.length 0 lo=0/\HT.sIx xs.length xs.length hi=xs.length
 ·subst e
  cases rx
  obtain ⟨its,r,ht,hz⟩:=I.tuple hx
  have hlen:its.toArray.size=xs.length:=by rw [S0];exact r.length.symm
  refine ⟨"tuple",_,X4.lookup,ht.typeIs,?_⟩
  exact HT.getItem_tuple_whole ht hs pl pu (by rw [hlen];exact hw) ⟨.ref a,H,I,rfl,q1 hw⟩
 ·exact sl_tup pins s σ H x v vl vu lo hi sl Q I rx hs pl pu ⟨a,xs,e,hx,hw,q2 hw⟩
end
end L2
namespace L2
open PySem PySem.Spec PyProof.Rows
section
variable {X:Cx} {pins:List (Addr×Obj)} {σ:St} {H:Hp} {s:Shared}
end
end L2
namespace L2
open PySem PySem.Spec PyProof.Rows
section
variable {X:Cx} {CX:OC} {k:Nat} {f C:Addr} {fd:FuncData} {ps:List Str} {sp:Sp} {dvs:List V} {ds:List Value} {E:XK} {x m:Str} {p pos apos:Pos} {e o:Expr} {es:List Expr} {ta:TE} {t:TA}
end
end L2
namespace L2
open PySem PySem.Spec PyProof.Rows
theorem DU:∀ {ns:List Int} {w:Int},w∈ns->∃ j,ns[j]?=some w/\(∀ m,m<j->∀ x,ns[m]?=some x->x≠w)/\ns.eraseIdx j=ns.erase w
 |[],_,h=>by cases h
 |n::r,w,h=>by
  by_cases e:n=w
  ·subst e
   exact ⟨0,rfl,λm hm=>absurd hm (X6 _),by simp⟩
  ·have h':w∈r:=by
    rcases L0.mp h with q | q
    ·exact absurd q.symm e
    ·exact q
   obtain ⟨j,h1,h2,h3⟩:=DU h'
   refine ⟨j+1,h1,λm hm x hx=>?_,?_⟩
   ·cases m with
    |zero =>
     have:n=x:=by simpa using hx
     rw [<- this];exact e
    |succ m=>exact h2 m (by omega) x (by simpa using hx)
   ·rw [z7,h3,List.erase_cons_tail (by simpa using e)]
section
variable {X:Cx}
end
section
variable {X:Cx} {pins:List (Addr×Obj)} {σ:St} {H:Hp} {s:Shared} {a:Addr} {kvs:List (DX×V)} {k:DX} {u r:Value} {v:V} {A:Around} {E:Value->Shared->Prop}
end
end L2
namespace L2
open PySem PySem.Spec PyProof.Rows
end L2
namespace L2
open PySem PySem.Spec PyProof.Rows
end L2
namespace L2
open PySem PySem.Spec PyProof.Rows
end L2
namespace L2
open PySem PySem.Spec PyProof.Rows
section
variable {X:Cx} {CX:OC} {k:Nat} {f:Addr} {fd:FuncData} {ps:List Str} {sp:Sp} {dvs:List V} {ds:List Value} {E:XK} {x:Str} {p pos:Pos} {e:Expr} {es:List Expr} {ta:TE} {t:TA}
def Ra (f:Addr) (sp:Sp) (dvs:List V) (E:XK) (ta:TE) (t:TA):TE:=λσ H Q=>ta σ H λy H0=>y=.ref f/\t σ H0 λvs H1=>sp (vs++dvs) H1 Q E
theorem RL (hn:PE X (.Name x p) ta) (F:Au X.prog X.w X.K X.mg X.base CX k f fd ps sp) (hr:Dz k X.A) (hk:X3 X.K (.ref f)=true) (hb:ED X.K fd ps ds) (hd:AW dvs ds) (hx:ER CX X E)
  (ha:PA X (e::es) t) (he:starEach (e::es) X.env=(false,eval e X.env)::starEach es X.env:=by rfl) (hpl:(backTo pos (starEach es X.env)).any (·.1)=false:=by rfl) :
  PE X (.Call (.Name x p) (e::es) [] pos) (Ra f sp dvs E ta t):=by
 intro pins s σ H Q I h
 refine wpAny_Call_Name_kw (BC (hn pins s σ H _ I h) λu s0 ⟨y,H0,I0,r0,ey,q0⟩=>?_)
 subst ey
 obtain rfl:u=Value.ref f:=r0
 refine z5 (h₀:=X.base) I.ok.mod.kin hk (BC (ha pos pins s0 σ H0 _ I0 q0) λus s1 ⟨vs,H1,I1,r,q⟩=>⟨I1.kIn,?_⟩) he hpl
 exact La F hr hb hd hx I1 r q
end
end L2
namespace L2
open PySem PySem.Spec PyProof.Rows
theorem LP (l b:Addr) (items items2:Array Value) (n n2:Nat) (dd dd2:Option Addr) (sl sl2:Array (Option Value)) (hc0:items.isEmpty=true) :
  Meets (Builtin.«tuple.__add__» ⟨[.ref l,.ref b],[]⟩) (λ_ R s=>s.heap.get? l=some { cls:=.type "tuple",dict:=dd,data:=.seq items n,slots:=sl }/\s.heap.get? b=some { cls:=.type "tuple",dict:=dd2,data:=.seq items2 n2,slots:=sl2 }/\R (.ok (.ret (Value.ref b))) { s with heap:=s.heap,toks:=s.toks }) :=
 .of_wp λprog w A R s h=>by obtain ⟨hp,g,d,tk,os⟩:=s;obtain ⟨hl,hb,h⟩:=h;have f2:=sub_tuple_tuple;wp_walk using wpAny_loadPart' hl,wpAny_loadPart' hb;exact ⟨_,rfl,h⟩
def Rw (K:K0):R2:=λx y H Q=>Rx K x y H Q\/∃ a b,x=.ref a/\y=.ref b/\BN K H a []/\(∃ ys,BN K H b ys)/\Q (.ref b) H
theorem Ey {X:Cx}:Fw X (binaryOp .Add) (Rw X.K):=by
 intro pins s σ H x y v u Q I rx ry h
 rcases h with h | ⟨a,b,rfl,rfl,ha,⟨ys,hb⟩,q⟩
 ·exact op_catT pins s σ H x y v u Q I rx ry h
 ·cases rx
  cases ry
  obtain ⟨its,r1,p1,_⟩:=I.tuple ha
  obtain ⟨its2,r2,p2,_⟩:=I.tuple hb
  cases r1
  obtain ⟨⟨cls,dd,data,sl⟩,ho,hc,n,hd⟩:=id p1
  obtain ⟨⟨cls2,dd2,data2,sl2⟩,ho2,hc2,n2,hd2⟩:=id p2
  simp only at hc hd hc2 hd2
  subst hc hd hc2 hd2
  exact concat_meets ⟨_,ho,rfl⟩ ⟨_,ho2,rfl⟩ noFill_tuple_add seq_tuple_add P6 F6 (D6 _ _)
   (LP a b _ its2.toArray n n2 dd dd2 sl sl2 (by simp)) ⟨ho,ho2,⟨.ref b,H,I,rfl,q⟩⟩
end L2
namespace L2
open PySem PySem.Spec PyProof.Rows
theorem LH {X:Cx} {K:K0} (h:X.K=K):Ek X (.builtin "isinstance") (λxs H Q=>∃ x n t b,xs=[x,.ty n]/\Fv K H x t/\Z4 K t (.type n)=some b/\Q (.bl b) H):=by subst h;exact Br
end L2
namespace L2
open PySem PySem.Spec PyProof.Rows
theorem EB {X:Cx}:Ek X (.type "str") (λxs H Q=>(∃ i:Int,xs=[.int i]/\i.natAbs.log2<1920/\Q (.str (toString i)) H)\/∃ z,xs=[.str z]/\Q (.str z) H):=by
 intro pins s σ H xs us Q I r h
 rcases h with ⟨i,rfl,hz,q⟩ | ⟨z,rfl,q⟩
 ·obtain ⟨u,rfl,t,rfl⟩:=Er r
  exact PySem.P.str_of_int hz ⟨.str _,H,I.tok _,⟨_,rfl⟩,q⟩
 ·obtain ⟨u,rfl,t,rfl⟩:=Er r
  exact PySem.P.str_of_str ⟨.str _,H,I,⟨_,rfl⟩,q⟩
def Ho (k:Nat) (z:Str):Str:=⟨(Y0 k z.cps).foldl (·++·) #[]⟩
theorem Oi (xs:List (Array Nat)):∀ a:Array Nat,(xs.foldl (·++·) a).size=a.size+(xs.map Array.size).sum:=by
 induction xs with
 |nil=>intro a;simp
 |cons x r ih=>intro a;rw [V7,ih,M7,S1,V3,E6]
theorem GI (k:Nat) (z:Str):(Ho k z).length=k*z.length:=by
 show ((Y0 k z.cps).foldl (·++·) #[]).size=_
 rw [Oi]
 simp [Str.length]
def rMulS:R2:=λx y H Q=>∃ (z:Str) (k:Nat),x=.str z/\y=.int k/\k<=1000/\z.length*k<=sizeLine/\Q (.str (Ho k z)) H
theorem Ip {X:Cx}:Fw X (binaryOp .Mult) rMulS:=by
 intro pins s σ H x y v u Q I rx ry h
 obtain ⟨z,k,rfl,rfl,hk0,hz,q⟩:=h
 obtain ⟨t,rfl⟩:=rx
 obtain ⟨t',rfl⟩:=ry
 by_cases hk:(k:Int)<1
 ·have k0:k=0:=by omega
  subst k0
  refine PySem.P.mul_str_none hk (by decide) ⟨.str _,H,I.tok _,⟨_,rfl⟩,?_⟩
  exact q
 have hsl:sizeLine=16777216:=by decide
 by_cases h1:((k:Int) == 1||z.length == 0)=true
 ·have e:Ho k z=z:=by
   rcases Bool.or_eq_true_iff.mp h1 with e | e
   ·have k1:k=1:=by have:=eq_of_beq e;omega
    subst k1
    show (⟨#[]++z.cps⟩:Str)=z
    rw [Array.empty_append]
   ·have e0:z.length=0:=eq_of_beq e
    have hr:=GI k z
    rw [e0,K8] at hr
    have c1:z.cps=#[]:=N8.mp e0
    have c2:(Ho k z).cps=#[]:=N8.mp hr
    have:∀ {a b:Str},a.cps=b.cps->a=b:=λ{a b} h=>by cases a;cases b;simp_all
    exact this (c2.trans c1.symm)
  rw [e] at q
  ·refine PySem.P.mul_str ?_ (λ_ h=>by rw [h1] at h;cases h) (λ_ h=>by rw [h1] at h;cases h) ?_
   ·rw [decide_eq_false (by omega),decide_eq_false (by omega)];rfl
   ·rw [if_neg hk,if_pos h1]
    exact ⟨.str _,H,I,⟨_,rfl⟩,q⟩
 ·have h1':((k:Int) == 1||z.length == 0)=false:=by
   cases e:((k:Int) == 1||z.length == 0) with
   |true=>exact absurd e h1
   |false=>rfl
  have hz0:z.length≠0:=λe=>by rw [e] at h1';simp at h1'
  have hkk:k<=sizeLine:=Q0 (Nat.le_mul_of_pos_left k (Nat.pos_of_ne_zero hz0)) hz
  refine PySem.P.mul_str ?_ (λ_ _=>?_) (λ_ _=>?_) ?_
  ·rw [decide_eq_false (by omega),decide_eq_false (by omega)];rfl
  ·have:z.length*k<=16777216:=by omega
   rw [Int.not_gt_eq]
   refine (Int.le_ediv_iff_mul_le (by omega)).mpr ?_
   have e:((z.length:Int)*(k:Int))=((z.length*k:Nat):Int):=by simp
   rw [e]
   omega
  ·show decide (z.length*((k:Int)).toNat > sizeLine)=false
   rw [F4]
   exact decide_eq_false (by omega)
  ·rw [if_neg hk,if_neg h1]
   exact ⟨by rw [F4];show (Ho k z).length<=sizeLine;rw [GI,Nat.mul_comm];exact hz,.str _,H,I.tok _,⟨_,rfl⟩,by rw [F4];exact q⟩
end L2
namespace L2
open PySem PySem.Spec PyProof.Rows
end L2
namespace L2
open PySem PySem.Spec PyProof.Rows PySem.Builtin PySem.Builtin.Str
theorem PR {prog:Program} {w:World} {A:Around} {E:Value->Shared->Prop} {s:Shared} {x:Str} {t u:Tok} {c:Nat} {Q:Value->Shared->Prop} (hx:x.length<=sizeLine) (hn:(Txt.split x ⟨#[c]⟩).length<=sizeLine)
  (q:∀ (l:List (Str×Tok)) (k:Nat),l.map (·.1)=Txt.split x ⟨#[c]⟩->Q (.ref s.heap.objs.size) { s with heap:=s.heap.push { cls:=.type "list",data:=.seq (strValues l).toArray },toks:=k }) :
  wpAny (model prog w) A (call (.builtin "str.split") [.str x t,.str ⟨#[c]⟩ u]) Q E s:=by
 have ne:((⟨#[c]⟩:Str).length == 0)=false:=rfl
 have def_:Txt.split x ⟨#[c]⟩=if (decide (x.length<(⟨#[c]⟩:Str).length)||decide (strKind x<strKind ⟨#[c]⟩))=true then [x] else if (occurrences x ⟨#[c]⟩ 0 x.length (x.length+1)).isEmpty=true then [x] else partsBetween x (occurrences x ⟨#[c]⟩ 0 x.length (x.length+1)) (⟨#[c]⟩:Str).length:=rfl
 by_cases no:(decide (x.length<(⟨#[c]⟩:Str).length)||decide (strKind x<strKind ⟨#[c]⟩))=true
 ·rw [if_pos no] at def_
  exact call_meets F.slot_str_split (typeIs_str _ _ _) F.entry_str_split (F.args_str_split_2 _ _) (meets_str_split_cannot_occur x _ t u no) (q [(x,t)] s.toks def_.symm)
 ·have no':(decide (x.length<(⟨#[c]⟩:Str).length)||decide (strKind x<strKind ⟨#[c]⟩))=false:=by simpa using no
  rw [if_neg no] at def_
  by_cases em:(occurrences x ⟨#[c]⟩ 0 x.length (x.length+1)).isEmpty=true
  ·rw [if_pos em] at def_
   exact call_meets F.slot_str_split (typeIs_str _ _ _) F.entry_str_split (F.args_str_split_2 _ _) (meets_str_split_not_found x _ t u no' ne em) (q [(x,t)] s.toks def_.symm)
  ·rw [if_neg em] at def_
   rw [def_] at hn
   refine call_meets F.slot_str_split (typeIs_str _ _ _) F.entry_str_split (F.args_str_split_2 _ _) (meets_str_split_sep x _ t u no' ne (by simpa using em) hx hn) ?_
   have h:=q (numbered s.toks (partsBetween x (occurrences x ⟨#[c]⟩ 0 x.length (x.length+1)) (⟨#[c]⟩:Str).length))
   have h2:=λk=>h k ((numbered_texts _ _).trans def_.symm)
   rw [<- strsFrom_eq] at h2
   exact h2 _
def rSplit:V->List V->Hp->VK->Prop:=λx vs H Q=>∃ (z:Str) (c:Nat),x=.str z/\vs=[.str ⟨#[c]⟩]/\z.length<=10000000/\∀ l,H l=none->Q (.ref l) (upd H l (.lst ((Txt.split z ⟨#[c]⟩).map V.str)))
theorem JT:∀ (l:List (Str×Tok)),AW ((l.map (·.1)).map V.str) (strValues l)
 |[]=>.nil
 | (x,t)::r=>.cons ⟨t,rfl⟩ (JT r)
section
variable {X:Cx}
theorem Je:MtR X "str.split" rSplit:=by
 intro pins s σ H x vs v us Q I rx rv h
 obtain ⟨z,c,rfl,rfl,hz,q⟩:=h
 obtain ⟨t,rfl⟩:=rx
 obtain ⟨u,rfl,ru⟩:=Er rv
 obtain ⟨t',rfl⟩:=ru
 have sl:=split_le z ⟨#[c]⟩
 have hs:z.length<=sizeLine:=Q0 hz (by decide)
 have hn:(Txt.split z ⟨#[c]⟩).length<=sizeLine:=Q0 sl (Q0 (Nat.add_le_add_right hz 2) (by decide))
 refine PR hs hn λl k e=>?_
 refine ⟨.ref s.heap.objs.size,_,I.laid (t':=k) (λb o g=>Heap.get?_push_of_some _ g) (P0 _) (show Cm X.prog X.w _ _ _ (.lst ((Txt.split z ⟨#[c]⟩).map V.str)) from ⟨by rw [D0];exact hn,strValues l,0,?_,Heap.get?_push_size _ rfl⟩),rfl,q _ (I.hok.fresh (P0 _))⟩
 rw [<- e]
 exact JT l
theorem Qz:Ek X (.type "int") (λxs H Q=>∃ (z:Str) (n:Int),xs=[.str z]/\intText? z=some n/\z.length<=640/\Q (.int n) H):=by
 intro pins s σ H xs us Q I r h
 obtain ⟨z,n,rfl,h0,h1,q⟩:=h
 obtain ⟨u,rfl,rx⟩:=Er r
 obtain ⟨t,rfl⟩:=rx
 exact PySem.W.KIN.call_text h0 h1 ⟨.int n,H,I.tok _,⟨_,rfl⟩,q⟩
end
theorem GT (c:Nat):∀ (a:Str) (r:List Str),(Str.join ⟨#[c]⟩ (a::r)).cps.toList=a.cps.toList++(r.map λb=>c::b.cps.toList).flatten
 |a,[]=>by simp [Str.join]
 |a,b::r=>by
  have ih:=GT c b r
  show (a++⟨#[c]⟩++Str.join ⟨#[c]⟩ (b::r)).cps.toList=_
  show ((a.cps++#[c])++(Str.join ⟨#[c]⟩ (b::r)).cps).toList=_
  rw [u5,u5,ih]
  simp
theorem Pp {c:Nat}:∀ {a b x y:List Nat},c∉a->c∉b->a++c::x=b++c::y->a=b/\x=y
 |[],[],_,_,_,_,h=>⟨rfl,(M6.inj h).2⟩
 |[],d::b,_,_,_,hb,h=>absurd (L0.mpr (.inl (M6.inj h).1)) hb
 |d::a,[],_,_,ha,_,h=>absurd (L0.mpr (.inl (M6.inj h).1.symm)) ha
 |d::a,e::b,x,y,ha,hb,h=>by
  have h1:=M6.inj h
  obtain ⟨e1,e2⟩:=Pp (λz=>ha (A0 _ z)) (λz=>hb (A0 _ z)) h1.2
  exact ⟨by rw [h1.1,e1],e2⟩
theorem Na {c:Nat} {a b x:List Nat} (ha:c∉a) (h:a=b++c::x):False:=ha (by rw [h];simp)
theorem MK (c:Nat):∀ {l m:List Str},l≠[]->m≠[]->(∀ a∈l,c∉a.cps.toList)->(∀ a∈m,c∉a.cps.toList)->Str.join ⟨#[c]⟩ l=Str.join ⟨#[c]⟩ m->l=m
 |[],_,h,_,_,_,_=>absurd rfl h
 |_,[],_,h,_,_,_=>absurd rfl h
 |a::l,b::m,_,_,hl,hm,h=>by
  have e:=congrArg (λz:Str=>z.cps.toList) h
  simp only [GT] at e
  have ha:=hl a C0
  have hb:=hm b C0
  cases l with
  |nil =>
   cases m with
   |nil =>
    simp at e
    have:a=b:=by cases a;cases b;simpa using e
    rw [this]
   |cons b2 m=>exact (Na ha (by simpa using e)).elim
  |cons a2 l =>
   cases m with
   |nil=>exact (Na hb (by simpa using e.symm)).elim
   |cons b2 m =>
    simp only [S1,S5,X2] at e
    obtain ⟨e1,e2⟩:=Pp ha hb e
    have e3:a=b:=by cases a;cases b;simpa using e1
    have e4:Str.join ⟨#[c]⟩ (a2::l)=Str.join ⟨#[c]⟩ (b2::m):=by
     apply Str.ext'
     apply Array.toList_inj.mp
     rw [GT,GT]
     exact e2
    rw [e3,MK c (by simp) (by simp) (λx hx=>hl x (A0 _ hx)) (λx hx=>hm x (A0 _ hx)) e4]
theorem EG {c:Nat} {l:List Str} (h:l≠[]) (hf:∀ a∈l,c∉a.cps.toList):Txt.split (Str.join ⟨#[c]⟩ l) ⟨#[c]⟩=l :=
 MK c (λe=>by have:=split_pos (Str.join ⟨#[c]⟩ l) ⟨#[c]⟩;rw [e] at this;exact absurd this (by decide)) h (λa ha=>StrLaws.split_free _ c a ha) hf (StrLaws.join_split _ _)
end L2
namespace L2
open PySem PySem.Spec PyProof.Rows
theorem AK.turnedN {X:Cx} {pins:List (Addr×Obj)} {σ:List (Option V)} {H:Hp} {s:Shared} {h':Heap} {t':Nat} {ch:List Addr} (I:AK X pins σ H s) (k:∀ b o,b∉ch->s.heap.get? b=some o->h'.get? b=some o) (f:∀ c∈ch,EC X pins H c):AK X pins σ H { s with heap:=h',toks:=t' }:=by
 have ni:∀ b u,H b=some u->b∉ch:=λb u q m=>by
  rw [(f b m).1] at q;cases q
 refine I.step (g':=s.gens) (d':=s.drawn) (ch:=ch) (λb hb=>?_) (λb o _ _ hc q _=>k b o hc q) (λb o _ _ hc q _=>⟨o.slots,k b o hc q⟩) (λ_ _ _ _ n=>n)
  (λb o hc q=>⟨o,k b o hc q⟩) (λ_ _ q=>q) (λ_ _ _ q=>q) (λb ps q=>⟨#[],by rw [q];simp⟩) (λm hm=>?_) (λb u q=>?_) I.bare
 ·obtain ⟨_,f1,_,f3,f4,f5⟩:=f b hb
  exact ⟨f3,f1,f4,f5⟩
 ·obtain ⟨o,es,ep,ho,r⟩:=hm
  exact ⟨o,es,ep,k _ o (λhc=>(f _ hc).2.1 rfl) ho,r⟩
 ·refine (I.hok b u q).stay (λc v hc q'=>k c v ?_ q') (λ_ q=>q) λ_ _ q=>q
  rcases hc with z | z
  ·rw [z];exact ni b u q
  ·exact ni c _ z
def Itz (K:K0) (a b:Addr):It :=
 ⟨λi H=>∃ xs ys x y,AH K H a xs/\AH K H b ys/\xs[i]?=some x/\ys[i]?=some y,λi H v H'=>∃ p x y,v=.ref p/\H p=none/\H'=upd H p (.tup [x,y])/\(∀ xs,AH K H a xs->xs[i]?=some x)/\∀ ys,AH K H b ys->ys[i]?=some y,λi H=>∃ xs ys,AH K H a xs/\AH K H b ys/\(xs.length<=i\/ys.length<=i)⟩
structure ZAp (z TI TO i1 i2:Addr):Prop where
 a1:TI≠z
 a2:TO≠z
 a3:i1≠z
 a4:i2≠z
 a5:TI≠TO
 a6:TI≠i1
 a7:TI≠i2
 a8:TO≠i1
 a9:TO≠i2
 a10:i1≠i2
theorem DV {h:Heap} {a b:Addr} {o p:Obj} (ha:h.get? a=some o) (hb:h.get? b=some p) (n:o.cls≠p.cls):a≠b:=λe=>by
 subst e
 rw [ha] at hb
 cases hb
 exact n rfl
theorem ZAp.apart {z TI TO i1 i2 l1 l2:Addr} {h:Heap} {xs ys:Array Value} {f0 a b:Value} {k1 k2:Nat} {m1 m2:Addr} (Z:ZAp z TI TO i1 i2) (hz:IsZip h z TI TO f0) (hO:IsPair h TO a b) (h1:h.IsListIter i1 m1 k1) (h2:h.IsListIter i2 m2 k2) (g1:h.IsList l1 xs) (g2:h.IsList l2 ys):ZipApart z TI TO i1 i2 l1 l2:=by
 obtain ⟨o1,e1,c1,_⟩:=h1
 obtain ⟨o2,e2,c2,_⟩:=h2
 obtain ⟨p1,d1,b1,_⟩:=g1
 obtain ⟨p2,d2,b2,_⟩:=g2
 refine ⟨Z.a1,Z.a2,Z.a3,Z.a4,Z.a5,Z.a6,Z.a7,Z.a8,Z.a9,Z.a10,DV d1 hz ?_,DV d1 hO ?_,DV d1 e1 ?_,DV d1 e2 ?_,DV d2 hz ?_,DV d2 hO ?_,DV d2 e1 ?_,DV d2 e2 ?_⟩
 ·rw [b1];show Value.type "list"≠Value.type "zip";decide
 ·rw [b1];show Value.type "list"≠Value.type "tuple";decide
 ·rw [b1,c1];decide
 ·rw [b1,c2];decide
 ·rw [b2];show Value.type "list"≠Value.type "zip";decide
 ·rw [b2];show Value.type "list"≠Value.type "tuple";decide
 ·rw [b2,c1];decide
 ·rw [b2,c2];decide
def znow (z TI TO i1 i2 l1 l2:Addr) (i:Nat) (h:Heap):Prop:=IsZip h z TI TO .none/\IsPair h TI (.ref i1) (.ref i2)/\(∃ a b,IsPair h TO a b)/\h.IsListIter i1 l1 i/\h.IsListIter i2 l2 i
theorem QP {P:Program} {w:World} {K:K0} {es:List Expr} {x1} {pos:Pos} (z TI TO i1 i2 l1 l2:Addr) (Z:ZAp z TI TO i1 i2):JO P w K (.Tuple es x1 pos) (Itz K l1 l2) [z,TI,TO,i1,i2] z (znow z TI TO i1 i2 l1 l2) where
 mem:=by simp
 obj:=λi h st b hb=>by
  obtain ⟨hz,hI,⟨a,c,hO⟩,h1,h2⟩:=st
  simp only [L0,E1,or_false] at hb
  rcases hb with rfl | rfl | rfl | rfl | rfl
  ·exact ⟨_,hz,λv q=>nomatch q⟩
  ·exact ⟨_,hI,λv q=>nomatch q⟩
  ·exact ⟨_,hO,λv q=>nomatch q⟩
  ·obtain ⟨o,e,_,d⟩:=h1
   exact ⟨o,e,λv q=>by rw [d] at q;cases q⟩
  ·obtain ⟨o,e,_,d⟩:=h2
   exact ⟨o,e,λv q=>by rw [d] at q;cases q⟩
 keep:=λi h h' st k=>by
  obtain ⟨hz,hI,⟨a,c,hO⟩,h1,h2⟩:=st
  exact ⟨k z (by simp) _ hz,k TI (by simp) _ hI,⟨a,c,k TO (by simp) _ hO⟩,h1.at λo q=>k i1 (by simp) o q,h2.at λo q=>k i2 (by simp) o q⟩
 item:=by
  intro X hP hw hK hc i pins s σ H E I hf st hg
  subst hP hw hK
  obtain ⟨xs,ys,x,y,q1,q2,hx,hy⟩:=hg
  obtain ⟨t1,rv1,p1,z1⟩:=I.list q1
  obtain ⟨t2,rv2,p2,z2⟩:=I.list q2
  obtain ⟨u1,hu1,ru1⟩:=rv1.get hx
  obtain ⟨u2,hu2,ru2⟩:=rv2.get hy
  obtain ⟨hz,hI,⟨a,c,hO⟩,h1,h2⟩:=st
  have D:=Z.apart hz hO h1 h2 p1.isList p2.isList
  have lz:=Heap.lt_size hz
  have lI:=Heap.lt_size hI
  have lO:=Heap.lt_size hO
  have l1':i1<s.heap.objs.size:=by obtain ⟨_,q,_⟩:=h1;exact Heap.lt_size q
  have l2':i2<s.heap.objs.size:=by obtain ⟨_,q,_⟩:=h2;exact Heap.lt_size q
  refine wpAny_pyNext_zip_item D hz hI hO h1 h2 p1.isList p2.isList (x:=u1) (y:=u2) (by simpa using hu1) (by simpa using hu2) λh' b1 b2 b3 b4 b5 b6 hk=>?_
  refine ⟨_,rfl,wpAny_letOwnedTupleGo_zip b1 λh'' bz bs=>?_⟩
  have hfr:H s.heap.objs.size=none:=I.hok.fresh (P0 _)
  have I1:AK X pins σ (upd H s.heap.objs.size (.tup [x,y])) { s with heap:=s.heap.push { cls:=.type "tuple",data:=.seq #[u1,u2] },toks:=s.toks } :=
   I.laid (t':=s.toks) (λb v q=>Heap.get?_push_of_some _ q) (P0 _) ⟨show 2<=sizeLine by decide,[u1,u2],.cons ru1 (.cons ru2 .nil),⟨_,Heap.get?_push_size _ rfl,rfl,_,rfl⟩⟩
  have small:∀ b∈[z,TI,TO,i1,i2],b<s.heap.objs.size:=λb hb=>by
   simp only [L0,E1,or_false] at hb
   rcases hb with rfl | rfl | rfl | rfl | rfl<;>assumption
  have up:∀ b∈[z,TI,TO,i1,i2],EC X pins (upd H s.heap.objs.size (.tup [x,y])) b:=λb hb=>⟨by rw [Aq (P1 (small b hb))];exact (hf b hb).1,(hf b hb).2⟩
  have I2:AK X pins σ (upd H s.heap.objs.size (.tup [x,y])) { s with heap:=h'',toks:=s.toks } :=
   AK.turnedN (s:={ s with heap:=s.heap.push { cls:=.type "tuple",data:=.seq #[u1,u2] },toks:=s.toks }) (h':=h'') (t':=s.toks) (ch:=[z,TI,TO,i1,i2]) I1 (λb o hb q=>by
    simp only [L0,E1,or_false,not_or] at hb
    obtain ⟨n1,n2,n3,n4,n5⟩:=hb
    refine bs.extBut b o n1 ?_
    by_cases e:b=s.heap.objs.size
    ·subst e
     rw [Heap.get?_push_size _ rfl] at q
     cases q
     exact b5
    ·refine hk b o n1 n3 n4 n5 ?_
     rw [<- q]
     exact (Heap.get?_push_ne _ _ _ e).symm) up
  refine ⟨.ref s.heap.objs.size,_,I2,rfl,⟨_,x,y,rfl,hfr,rfl,λzs hs=>by rw [I.list_inj hs q1];exact hx,λzs hs=>by rw [I.list_inj hs q2];exact hy⟩,⟨bz,bs.extBut _ _ Z.a1 (hk _ _ Z.a1 Z.a5 Z.a6 Z.a7 hI),⟨_,_,bs.extBut _ _ Z.a2 b2⟩,b3.extBut bs.extBut Z.a3,b4.extBut bs.extBut Z.a4⟩,λb hb=>(up b hb).1⟩
 done:=by
  intro X hP hw hK hc i pins s σ H E I hf st hg
  subst hP hw hK
  obtain ⟨xs,ys,q1,q2,hx⟩:=hg
  obtain ⟨t1,rv1,p1,z1⟩:=I.list q1
  obtain ⟨t2,rv2,p2,z2⟩:=I.list q2
  obtain ⟨hz,hI,⟨a,c,hO⟩,h1,h2⟩:=st
  have D:=Z.apart hz hO h1 h2 p1.isList p2.isList
  have e1:=rv1.length
  have e2:=rv2.length
  refine wpAny_pyNext_zip_end (I.ok.hd hc) D hz hI hO h1 h2 p1.isList p2.isList (hx.imp (λq=>by simp;omega) (λq=>by simp;omega)) λh' hk=>⟨rfl,AK.turnedN (t':=s.toks) (ch:=[z,TI,TO,i1,i2]) I (λb o hb q=>?_) hf⟩
  simp only [L0,E1,or_false,not_or] at hb
  obtain ⟨n1,n2,n3,n4,n5⟩:=hb
  exact hk b o n1 n3 n4 n5 q
 self:=λ_ _ _ _ _ st h=>wpAny_pyIter_zip st.1 h
theorem zap (n:Nat):ZAp (n+4) (n+2) (n+3) n (n+1) :=
 have q:∀ {i j:Nat},i≠j->∀ {a b:Addr},a=i->b=j->a≠b:=λh _ _ e1 e2 e=>h (e1.symm.trans (e.trans e2))
 ⟨q (i:=n+2) (j:=n+4) (by omega) rfl rfl,q (i:=n+3) (j:=n+4) (by omega) rfl rfl,q (i:=n) (j:=n+4) (by omega) rfl rfl,q (i:=n+1) (j:=n+4) (by omega) rfl rfl,q (i:=n+2) (j:=n+3) (by omega) rfl rfl,q (i:=n+2) (j:=n) (by omega) rfl rfl,q (i:=n+2) (j:=n+1) (by omega) rfl rfl,q (i:=n+3) (j:=n) (by omega) rfl rfl,q (i:=n+3) (j:=n+1) (by omega) rfl rfl,q (i:=n) (j:=n+1) (by omega) rfl rfl⟩
theorem bt_zip:bootBuiltins "zip"=some (.type "zip"):=by decide +kernel
def iZip (K:K0) (ta:TA):TI:=λσ H R=>ta σ H λvs H1=>∃ a b:Addr,vs=[.ref a,.ref b]/\(∃ xs,AH K H1 a xs)/\(∃ ys,AH K H1 b ys)/\R (Itz K a b) H1
theorem pi_zip {X:Cx} {es:List Expr} {x1} {tpos:Pos} {a b:Expr} {ta:TA} {p pos:Pos} (hg:Gl X "zip") (hm:X.mg "zip"=none) (ha:PA X [a,b] ta) (hs:starEach [a,b] X.env=(false,eval a X.env)::starEach [b] X.env:=by rfl) (hs2:(backTo pos (starEach [b] X.env)).any (·.1)=false:=by rfl):PI X (.Tuple es x1 tpos) (.Call (.Name "zip" p) [a,b] [] pos) (iZip X.K ta):=by
 intro pins s σ H R I h
 refine Call_ (Fk I hg hm bt_zip (L4 (BC (ha pos pins s σ H _ I h) λus s1 ⟨vs,H1,I1,r1,q1⟩=>?_) hs hs2))
 obtain ⟨l1,l2,q0,⟨xs,hq1⟩,⟨ys,hq2⟩,q⟩:=q1
 subst q0
 obtain ⟨u1,u2,rfl,r1,r2⟩:=vals2 r1
 cases r1
 cases r2
 obtain ⟨t1,rv1,p1,z1⟩:=I1.list hq1
 obtain ⟨t2,rv2,p2,z2⟩:=I1.list hq2
 refine call_zip_2 p1.isList p2.isList λh' hz hI hO h1 h2 hsz hk=>wpAny_pyIter_zip hz ?_
 have ne:∀ {i j:Nat},i≠j->s1.heap.objs.size+i≠s1.heap.objs.size+j:=λh=>by omega
 refine ⟨s1.heap.objs.size+4,[s1.heap.objs.size+4,s1.heap.objs.size+2,s1.heap.objs.size+3,s1.heap.objs.size,s1.heap.objs.size+1],_,_,H1,rfl,I1.kept (t':=s1.toks) hk,QP (s1.heap.objs.size+4) (s1.heap.objs.size+2) (s1.heap.objs.size+3) s1.heap.objs.size (s1.heap.objs.size+1) l1 l2 (zap _),⟨hz,hI,⟨_,_,hO⟩,h1,h2⟩,λb hb=>?_,q⟩
 have hb':s1.heap.objs.size<=b:=by
  simp only [L0,E1,or_false] at hb
  rcases hb with rfl | rfl | rfl | rfl | rfl
  ·exact T3 _ _
  ·exact T3 _ _
  ·exact T3 _ _
  ·exact P0 _
  ·exact T3 _ _
 exact I1.fpOk hb' (I1.hok.fresh hb')
theorem lc_zip {K:K0} {a b:Addr} {xs ys:List V} {sel:List (Option Nat)} {g:TG} {tt:TT} {te:TE} {σ:St} {H:Hp} {Qe:List V->Hp->Prop} (hlen:xs.length=ys.length) (Pv:Nat->List V->Hp->Prop) (h0:Pv 0 [] H)
  (hl:∀ i zs H,i<=xs.length->Pv i zs H->AH K H a xs/\AH K H b ys/\zs.length<=i) (hz:xs.length<=sizeLine)
  (hs:∀ i x y p zs H,xs[i]?=some x->ys[i]?=some y->Pv i zs H->H p=none->g (.ref p) (EH sel σ) (upd H p (.tup [x,y])) λσ2 H2=>tt σ2 H2 λb H3=>if b=true then te σ2 H3 λy H4=>Pv (i+1) (zs++[y]) H4 else Pv (i+1) zs H3)
  (hd:∀ zs H,Pv xs.length zs H->Qe zs H):∃ W:Nat->Nat->List V->Hp->Prop,(∃ m,W 0 m [] H)/\Fm sel g tt te σ (Itz K a b) W Qe:=by
 refine ⟨λi m zs H=>m=xs.length-i/\i<=xs.length/\Pv i zs H,⟨_,rfl,D2 _,h0⟩,?_⟩
 rintro i m zs H ⟨rfl,hi,p⟩
 obtain ⟨hA,hB,hy⟩:=hl i zs H hi p
 by_cases e:i=xs.length
 ·subst e
  exact .inl ⟨⟨xs,ys,hA,hB,.inl (P0 _)⟩,hd _ _ p⟩
 ·have lt1:i<xs.length:=P5 hi e
  have lt2:i<ys.length:=by omega
  refine .inr ⟨⟨xs,ys,xs[i],ys[i],hA,hB,by simp [lt1],by simp [lt2]⟩,by omega,Pv (i+1),λzs' H' p'=>⟨xs.length-(i+1),by omega,rfl,lt1,p'⟩,?_⟩
  rintro v H' ⟨q,x,y,rfl,hq,rfl,hx,hy⟩
  exact hs i x y q zs H (hx xs hA) (hy ys hB) p hq
end L2
namespace L2
open PySem PySem.Spec PyProof.Rows
section
variable {X:Cx} {o e i:Expr} {apos cpos pos:Pos} {td ty:TE}
def QZ (P:Program) (w:World) (K:K0) (neg:Bool) (ty td:TE):TE:=λσ H Q=>ty σ H λy H1=>td σ H1 λx H2=>∃ a kvs k,x=.ref a/\QF P w K a kvs/\y=kV k/\Q (.bl (neg^^(valV kvs k).isSome)) H2
theorem Le (hi:PE X i ty) (ho:PE X o td):PC X .In i o (QZ X.prog X.w X.K false ty td):=by
 intro pins s σ H Q I h
 refine BC (hi pins s σ H _ I h) λiv s1 ⟨y,H1,I1,ry,q1⟩=>BC (ho pins s1 σ H1 _ I1 q1) λu s2 ⟨x,H2,I2,rx,a,kvs,k,ex,d,ey,q2⟩=>?_
 subst ex ey
 obtain rfl:u=Value.ref a:=rx
 obtain ⟨vs,rel,dd⟩:=d.2 s2.heap I2.kIn
 refine wpAny_in_of (MJ ry) d.1 dd.mapOf ?_
 rw [<- (rel.val k).isSome_eq]
 exact ⟨.bl (valV kvs k).isSome,H2,I2.tok _,rfl,by rw [i6] at q2;exact q2⟩
theorem NO (hi:PE X i ty) (ho:PE X o td):PC X .NotIn i o (QZ X.prog X.w X.K true ty td):=by
 intro pins s σ H Q I h
 refine BC (hi pins s σ H _ I h) λiv s1 ⟨y,H1,I1,ry,q1⟩=>BC (ho pins s1 σ H1 _ I1 q1) λu s2 ⟨x,H2,I2,rx,a,kvs,k,ex,d,ey,q2⟩=>?_
 subst ex ey
 obtain rfl:u=Value.ref a:=rx
 obtain ⟨vs,rel,dd⟩:=d.2 s2.heap I2.kIn
 refine wpAny_notIn_of (MJ ry) d.1 dd.mapOf ?_
 rw [<- (rel.val k).isSome_eq]
 exact ⟨.bl (!(valV kvs k).isSome),H2,I2.tok _,rfl,by rw [l7] at q2;exact q2⟩
def tDIxK (P:Program) (w:World) (K:K0) (td ty:TE):TE:=λσ H Q=>td σ H λx H1=>ty σ H1 λy H2=>∃ a kvs k v,x=.ref a/\QF P w K a kvs/\y=kV k/\valV kvs k=some v/\Q v H2
theorem pe_dixK (ho:PE X o td) (hi:PE X i ty) (hs:NoSl i):PE X (.Subscript o i pos) (tDIxK X.prog X.w X.K td ty):=by
 intro pins s σ H Q I h
 refine subD_of PySem.F.slot_dict_getitem.lookup hs (BC (ho pins s σ H _ I h) λu s1 ⟨x,H1,I1,rx,q1⟩=>BC (hi pins s1 σ H1 _ I1 q1) λiv s2 ⟨y,H2,I2,ry,a,kvs,k,v,ex,d,ey,l,q2⟩=>?_)
 subst ex ey
 obtain rfl:u=Value.ref a:=rx
 obtain ⟨vs,rel,dd⟩:=d.2 s2.heap I2.kIn
 obtain ⟨w',hw,rw'⟩:=Ga.some_of (v:=v) (o:=valueAt vs k) (by rw [<- l];exact rel.val k)
 exact ⟨dd.typeIs,wpAny_getItem_of (MJ ry) dd.mapOf hw ⟨v,H2,I2.tok _,rw',q2⟩⟩
def tDGetK1 (P:Program) (w:World) (K:K0) (td ty:TE):TE:=λσ H Q=>td σ H λx H1=>∃ a kvs,x=.ref a/\QF P w K a kvs/\ty σ H1 λy H2=>∃ k,y=kV k/\Q ((valV kvs k).getD .non) H2
theorem Qc (ho:PE X o td) (he:PE X e ty) (m:M1 X o "get" apos e cpos):PE X (.Call (.Attribute o "get" apos) [e] [] cpos) (tDGetK1 X.prog X.w X.K td ty):=by
 intro pins s σ H Q I h
 refine wpAny_Call_method m.base m.few m.line y7 W5 Q8 (BC (ho pins s σ H _ I h) λu s1 ⟨x,H1,I1,rx,a,kvs,ex,d,q1⟩=>?_)
 subst ex
 obtain rfl:u=Value.ref a:=rx
 obtain ⟨vs1,_,dd1⟩:=d.2 s1.heap I1.kIn
 refine ⟨dd1.typeIs,λb hb=>?_,?_⟩
 ·cases hb
  obtain ⟨o,es,ep,h1,h2,_⟩:=dd1
  exact ⟨o,h1,h2.2.1⟩
 rw [m.trees]
 refine Calls.callWith_builtin rfl (Calls.evalArgs_plain (Calls.spliced_cons (BC (he pins s1 σ H1 _ I1 q1) λiv s2 ⟨y,H2,I2,ry,k,ey,q2⟩=>Calls.spliced_nil ?_)))
 subst ey
 obtain ⟨vs,rel,dd⟩:=d.2 s2.heap I2.kIn
 exact call_meetsIn W5 dd.typeIs C8 (PySem.F.args_dict_get_2 _ _) (meets_dict_get (Eg X.prog X.w) a (MJ ry) d.1) ⟨_,dd.mapOf,_,H2,I2.tok _,(show Bw ((valV kvs k).getD .non) _ from (rel.val k).getD rfl),q2⟩
end
end L2
namespace L2
open PySem PySem.Spec PyProof.Rows
open AutoSeq1 (wpAny_loadPart')
theorem Ob (l:Addr) (items:Array Value) (n:Nat) (dct:Option Addr) (sl:Array (Option Value)) (t:Tok) :
  Meets (Builtin.«enumerate.__new__» ⟨[.type "enumerate",.ref l],[("start",.int 1 t)]⟩) (λ_ R s=>s.heap.get? l=some { cls:=.type "list",dict:=dct,data:=.seq items n,slots:=sl } /\
   R (.ok (.ret (.ref (s.heap.push { cls:=.type "list_iterator",data:=.fields #[.ref l,.int 0 0] }).objs.size)))
    { s with heap:=(s.heap.push { cls:=.type "list_iterator",data:=.fields #[.ref l,.int 0 0] }).push { cls:=.type "enumerate",data:=.fields #[.none,.bool false,.ref s.heap.objs.size,rawInt 1,.none,.none] } }) :=
 .of_wp λprog w A R s h=>by
  obtain ⟨hp,g,d,tk,os⟩:=s;obtain ⟨hl,h⟩:=h
  have hsub:=sub_enumerate
  have hL:Heap.IsList (Shared.heap ⟨hp,g,d,tk,os⟩) l items:=⟨_,hl,rfl,n,rfl⟩
  wp_walk using wpAny_loadPart' hl
  refine wpAny_stack_any λst=>wpAny_pure ?_
  split
  ·rename_i cc _ _ _ _ _
   cases (cc == Value.type "enumerate")<;>(wp_walk using wpAny_pyIter_list hL,wpAny_loadPart' hl;exact ⟨_,rfl,h⟩)
  ·wp_walk using wpAny_pyIter_list hL,wpAny_loadPart' hl
   exact ⟨_,rfl,h⟩
theorem initE (a l:Value) (t:Tok):argsOk "object.__init__" ⟨[a,l],[("start",.int 1 t)]⟩:=by
 unfold argsOk;rw [signature?_of (id:="object.__init__") (n:=['_','_','t','i','n','i','_','_']) (o:=['t','c','e','j','b','o']) (by kernel_rfl) F.owner_object];kernel_rfl
theorem MO {self l:Value} {t:Tok}:Meets (Builtin.«object.__init__» ⟨[self,l],[("start",.int 1 t)]⟩) (λ_ R s=>s.TypeIs self "enumerate"/\R (.ok (.ret .none)) s):=by
 refine Meets.of_wp λprog w A R s hs=>?_
 obtain ⟨hT,hq⟩:=hs
 have g1:=F.called_enumerate.init.lookup
 have g2:=F.called_enumerate.made
 repeat (any_goals (first | assumption | wp_step))
 exact ⟨_,rfl,hq⟩
theorem Ov {prog:Program} {w:World} {A:Around} {E:Value->Shared->Prop} {s:Shared} {l:Addr} {items:Array Value} {t:Tok} {Q:Value->Shared->Prop} (hL:s.heap.IsList l items)
  (h:∀ h',IsEnum h' (s.heap.objs.size+1) s.heap.objs.size 1 .none->h'.IsListIter s.heap.objs.size l 0->(∀ b o,s.heap.get? b=some o->h'.get? b=some o)->Q (.ref (s.heap.objs.size+1)) { s with heap:=h' }) :
  wpAny (model prog w) A (call (.type "enumerate") [.ref l] [("start",.int 1 t)]) Q E s:=by
 obtain ⟨⟨c,dct,dt,sl⟩,hl,hc,n,hd⟩:=hL
 cases (show c=.type "list" from hc)
 cases (show dt=.seq items n from hd)
 have ft:=F.called_enumerate
 have k1:checkTypeCall "enumerate" ⟨[.ref l],[("start",.int 1 t)]⟩=pure ():=by kernel_rfl
 have k2:checkBuiltinCall "enumerate.__new__" ⟨[.type "enumerate",.ref l],[("start",.int 1 t)]⟩=pure ():=by kernel_rfl
 obtain ⟨c0,tl0,m0⟩:=ft.mro
 have m1:=ft.made
 have m2:=ft.sub
 have m3:=ft.notType
 have m4:=ft.canCreate
 have z:(s.heap.push { cls:=.type "list_iterator",data:=.fields #[.ref l,.int 0 0] }).objs.size=s.heap.objs.size+1:=Heap.size_push ..
 refine wpAny_call (codeAny_of_tree ?_)
 show wpAny _ _ (callAny (.type "enumerate") _) _ _ _
 refine wpAny_pure ⟨Code.quiet_builtin _ (by decide +kernel),codeAny_builtin F.entry_type_call ?_⟩
 rw [Around.under_plain (weight_type_call_type "enumerate" [.ref l] _) (units_type_call_type "enumerate" [.ref l] _)]
 repeat (any_goals (first | assumption | wp_step))
 obtain ⟨RR,hR⟩:∃ RR:Result->Shared->Prop,RR=λr s1=>r=.ok (.ret (.ref (s.heap.push { cls:=.type "list_iterator",data:=.fields #[.ref l,.int 0 0] }).objs.size))/\s1={ s with heap:=(s.heap.push { cls:=.type "list_iterator",data:=.fields #[.ref l,.int 0 0] }).push { cls:=.type "enumerate",data:=.fields #[.none,.bool false,.ref s.heap.objs.size,rawInt 1,.none,.none] } }:=⟨_,rfl⟩
 refine codeAny_mono (R:=RR) (codeAny_call_builtin ft.plain F.entry_enumerate_new (wpAny_of_eq k2 (Ob l items n dct sl t prog w A.in1 RR s (And.intro hl (by rw [hR];exact ⟨rfl,rfl⟩))))) ?_
 intro r s1 hr
 rw [hR] at hr
 obtain ⟨rfl,e1⟩:=hr
 have he:IsEnum s1.heap (s.heap.objs.size+1) s.heap.objs.size 1 .none:=by
  rw [e1,<- z]
  exact Heap.get?_push_size _ rfl
 have hi:s1.heap.IsListIter s.heap.objs.size l 0:=by
  rw [e1]
  exact ⟨_,Heap.get?_push_of_some _ (Heap.get?_push_size _ rfl),rfl,rfl⟩
 have hk:∀ b o,s.heap.get? b=some o->s1.heap.get? b=some o:=λb o q=>by
  rw [e1]
  exact Heap.get?_push_of_some _ (Heap.get?_push_of_some _ q)
 have hQ:Q (.ref (s.heap.objs.size+1)) s1:=by
  have e2:s1={ s with heap:=s1.heap }:=by rw [e1]
  rw [e2]
  exact h _ he hi hk
 have hT:s1.TypeIs (.ref (s.heap.objs.size+1)) "enumerate":=⟨_,he,rfl⟩
 rw [z]
 have b1:=ft.init.lookup
 have b2:=ft.init.bind (.ref (s.heap.objs.size+1))
 clear e1 hl hk he hi h
 repeat (any_goals (first | assumption | wp_step))
 obtain ⟨RI,hI⟩:∃ RI:Result->Shared->Prop,RI=λr s2=>r=.ok (.ret .none)/\s2=s1:=⟨_,rfl⟩
 refine codeAny_mono (R:=RI) (codeAny_call_builtin ft.init.plain F.entry_object_init (ft.init.check _ _ _ _ _ _ _ _ hT (initE _ _ _) (MO prog w A.in1 RI s1 (And.intro hT (by rw [hI];exact ⟨rfl,rfl⟩))))) ?_
 intro r s2 hr
 rw [hI] at hr
 obtain ⟨rfl,rfl⟩:=hr
 repeat (any_goals (first | assumption | wp_step))
end L2
namespace L2
open PySem PySem.Spec PyProof.Rows
theorem MY {prog:Program} {w:World} {A:Around} {it:Addr} {fp:List Addr} {n:Nat} {P:Nat->Value->Prop} {S:Nat->Heap->Prop} (D:Draws prog w A it fp n P S):Draws prog w A it fp (n+1) (λj x=>∃ i,j=i+1/\P i x) (λj h=>∃ i,j=i+1/\S i h) where
 live:=λj h ⟨i,_,hs⟩=>D.live i h hs
 frame:=λj h h' ⟨i,e,hs⟩ k=>⟨i,e,D.frame i h h' hs k⟩
 item:=λj s Q E hj st hQ=>by
  obtain ⟨i,rfl,hs⟩:=st
  exact D.item i s Q E (by omega) hs λx h' tk px hs' sb=>hQ x h' tk ⟨i,rfl,px⟩ ⟨i+1,rfl,hs'⟩ sb
 done:=λs Q E st hE=>by
  obtain ⟨i,e,hs⟩:=st
  obtain rfl:n=i:=by omega
  exact D.done s Q E hs hE
def SZ (K:K0) (a:Addr):It :=
 ⟨λi H=>∃ xs x,AH K H a xs/\xs[i]?=some x,λi H v H'=>∃ p x,v=.ref p/\H p=none/\H'=upd H p (.tup [.int ((i+1:Nat):Int),x])/\∀ xs,AH K H a xs->xs[i]?=some x,λi H=>∃ xs,AH K H a xs/\xs.length=i⟩
theorem Nr {P:Program} {w:World} {K:K0} {es:List Expr} {x1} {pos:Pos} (a e it:Addr) (hne:e≠it):JO P w K (.Tuple es x1 pos) (SZ K a) [e,it] e (λi h=>(∃ old,IsEnum h e it ((i+1:Nat):Int) old)/\h.IsListIter it a i) where
 mem:=by simp
 obj:=λi h st b hb=>by
  obtain ⟨⟨old,he⟩,hit⟩:=st
  rcases L0.mp hb with rfl | hb
  ·exact ⟨_,he,λv z=>nomatch z⟩
  ·cases M0.mp hb
   obtain ⟨o,q,_,d⟩:=hit
   exact ⟨o,q,λv z=>by rw [d] at z;cases z⟩
 keep:=λi h h' st k=>by
  obtain ⟨⟨old,he⟩,hit⟩:=st
  exact ⟨⟨old,k e (by simp) _ he⟩,hit.at λo q=>k it (by simp) o q⟩
 item:=by
  intro X hP hw hK hc i pins s σ H E I hf st hg
  subst hP hw hK
  obtain ⟨xs,x,hq,hx⟩:=hg
  obtain ⟨its,rv,p,hz⟩:=I.list hq
  obtain ⟨u,hu,ru⟩:=rv.get hx
  obtain ⟨⟨old,he⟩,hit⟩:=st
  have le:=Heap.lt_size he
  have li:it<s.heap.objs.size:=by obtain ⟨_,q,_⟩:=hit;exact Heap.lt_size q
  have nl:a≠it:=by
   obtain ⟨_,q1,c1,_⟩:=hit
   obtain ⟨_,q2,c2,_⟩:=p.isList
   exact DV q2 q1 (by rw [c1,c2];decide)
  have nle:a≠e:=by
   obtain ⟨_,q2,c2,_⟩:=p.isList
   exact DV q2 he (by rw [c2];show Value.type "list"≠Value.type "enumerate";decide)
  have D:=MY (Draws.list (prog:=X.prog) (w:=X.w) (A:=X.A.in1) (I.ok.hd hc) it a nl its.toArray)
  have lt:i<its.toArray.size:=by
   have:=(W0.mp hu).1
   simpa using this
  refine wpAny_pyNext_enum_itemD D (i:=i+1) he ⟨i,rfl,hit,p.isList⟩ (by omega) hne (by simp only [L0,E1,or_false,not_or];exact ⟨hne,Ne.symm nle⟩) λv h' tk pv ho hs hT hsz hk=>?_
  obtain ⟨i',ei,hv⟩:=pv
  obtain rfl:i=i':=by omega
  obtain rfl:u=v:=by
   have:its.toArray[i]?=some u:=by simpa using hu
   rw [this] at hv
   exact Z2.inj hv
  obtain ⟨i2,ei2,hit',_⟩:=hs
  obtain rfl:i2=i+1:=by omega
  refine ⟨_,rfl,wpAny_letOwnedTupleGo_enum ho λh'' he'' hs''=>?_⟩
  have hfr:H s.heap.objs.size=none:=I.hok.fresh (P0 _)
  have I1:AK X pins σ (upd H s.heap.objs.size (.tup [.int ((i+1:Nat):Int),x])) { s with heap:=s.heap.push { cls:=.type "tuple",data:=.seq #[.int ((i+1:Nat):Int) tk,u] },toks:=s.toks } :=
   I.laid (t':=s.toks) (λb v q=>Heap.get?_push_of_some _ q) (P0 _) ⟨show 2<=sizeLine by decide,[.int ((i+1:Nat):Int) tk,u],.cons ⟨_,rfl⟩ (.cons ru .nil),⟨_,Heap.get?_push_size _ rfl,rfl,_,rfl⟩⟩
  have up:∀ b∈[e,it],EC X pins (upd H s.heap.objs.size (.tup [.int ((i+1:Nat):Int),x])) b:=λb hb=>by
   have hlt:b<s.heap.objs.size:=by
    rcases L0.mp hb with rfl | hb
    ·exact le
    ·cases M0.mp hb;exact li
   exact ⟨by rw [Aq (P1 hlt)];exact (hf b hb).1,(hf b hb).2⟩
  have I2:AK X pins σ (upd H s.heap.objs.size (.tup [.int ((i+1:Nat):Int),x])) { s with heap:=h'',toks:=tk+1 } :=
   AK.turnedN (s:={ s with heap:=s.heap.push { cls:=.type "tuple",data:=.seq #[.int ((i+1:Nat):Int) tk,u] },toks:=s.toks }) (h':=h'') (t':=tk+1) (ch:=[e,it]) I1 (λb o hb q=>by
    simp only [L0,E1,or_false,not_or] at hb
    rw [hs''.2 b hb.1]
    by_cases z:b=s.heap.objs.size
    ·subst z
     rw [Heap.get?_push_size _ rfl] at q
     cases q
     exact hT
    ·refine hk b o hb.1 hb.2 ?_
     rw [<- q]
     exact (Heap.get?_push_ne _ _ _ z).symm) up
  exact ⟨.ref s.heap.objs.size,_,I2,rfl,⟨_,x,rfl,hfr,rfl,λys hy=>by rw [I.list_inj hy hq];exact hx⟩,⟨⟨_,by simpa using he''⟩,hit'.at λo q=>(hs''.2 it hne.symm).trans q⟩,λb hb=>(up b hb).1⟩
 done:=by
  intro X hP hw hK hc i pins s σ H E I hf st hg
  subst hP hw hK
  obtain ⟨xs,hq,hx⟩:=hg
  obtain ⟨its,rv,p,hz⟩:=I.list hq
  obtain ⟨⟨old,he⟩,hit⟩:=st
  have hl:=rv.length
  have nl:a≠it:=by
   obtain ⟨_,q1,c1,_⟩:=hit
   obtain ⟨_,q2,c2,_⟩:=p.isList
   exact DV q2 q1 (by rw [c1,c2];decide)
  have D:=MY (Draws.list (prog:=X.prog) (w:=X.w) (A:=X.A.in1) (I.ok.hd hc) it a nl its.toArray)
  have e1:its.toArray.size=i:=by simp;omega
  exact wpAny_pyNext_enum_endD D he ⟨i,by rw [e1],hit,p.isList⟩ λh' eb=>⟨rfl,AK.turnedN (t':=s.toks) (ch:=[e,it]) I (λb o hb q=>eb b o (λz=>hb (by simp [z])) q) hf⟩
 self:=λ_ _ _ _ _ st h=>let ⟨_,he⟩:=st.1;wpAny_pyIter_enum he h
theorem QO {M:Model} {A:Around} {E:Value->Shared->Prop} {s:Shared} {pos:Pos} {T:String} {args:List (Bool×Sem Value)} {keywords:List (Option Str×Sem Value)} {Q:Value->Shared->Prop} (hp:args.any (·.1)=false) (hk:keywords.any (·.1.isNone)=false)
  (h:wpAny M A (evalArgs (.type T) true args keywords) (λa s1=>wpAny M A (call (.type T) a.pos a.kw) Q E s1) E s):wpAny M A (callWith pos (.type T) [] args keywords) Q E s:=by
 unfold callWith
 refine wpAny_bind (wpAny_holding (wpAny_mono h (λa s1 g=>wpAny_bind (wpAny_standAt ?_)) λ_ _ q=>q))
 simp only [hp,hk,N5]
 exact wpAny_bind (wpAny_pure (wpAny_bind (wpAny_mono g (λr s2 hr=>wpAny_bind (wpAny_holding (wpAny_point (wpAny_pure hr)))) λ_ _ q=>q)))
def Sn (K:K0) (te:TE):TI:=λσ H R=>te σ H λx H1=>∃ a:Addr,x=.ref a/\(∃ xs,AH K H1 a xs)/\R (SZ K a) H1
theorem RG {X:Cx} {es:List Expr} {x1 j} {tpos:Pos} {a:Expr} {te:TE} {p pos kp cp:Pos} (hg:Gl X "enumerate") (hm:X.mg "enumerate"=none) (ha:PE X a te) (hst:starEach [a] X.env=[(false,eval a X.env)]:=by rfl):PI X (.Tuple es x1 tpos) (.Call (.Name "enumerate" p) [a] [⟨some "start",.Constant (.int 1) j cp,kp⟩] pos) (Sn X.K te):=by
 intro pins s σ H R I h
 refine wpAny_Call_Name_kw (Fk I hg hm Hc ?_)
 refine QO (by rw [hst];rfl) rfl ?_
 rw [hst]
 refine evalArgs_kwB rfl ?_
 show wpAny _ _ (spliced ((false,eval a X.env)::backTo pos [])) _ _ s
 refine Calls.spliced_cons (BC (ha pins s σ H _ I h) λu s1 ⟨x,H1,I1,rx,l,ex,⟨xs,hq⟩,q⟩=>Calls.spliced_nil ?_)
 subst ex
 cases rx
 refine kws_cons (BC (Ad (X:=X) pins s1 σ H1 (λv G=>v=.int 1/\G=H1) I1 ⟨rfl,rfl⟩) λv s2 ⟨y,H2,I2,ry,ey,eH⟩=>kws_nil ?_)
 subst ey eH
 obtain ⟨t,rfl⟩:=ry
 obtain ⟨its,rv,pl,hz⟩:=I2.list hq
 refine Ov pl.isList λh' he hit hk=>wpAny_pyIter_enum he ?_
 refine ⟨s2.heap.objs.size+1,[s2.heap.objs.size+1,s2.heap.objs.size],_,_,H2,rfl,I2.kept (t':=s2.toks) hk,Nr l _ _ (Nat.succ_ne_self _),⟨⟨_,he⟩,hit⟩,λb hb=>?_,q⟩
 rcases L0.mp hb with rfl | hb
 ·exact I2.fpOk (by omega) (I2.hok.fresh (by omega))
 ·cases M0.mp hb
  exact I2.fpOk (P0 _) (I2.hok.fresh (P0 _))
theorem Qs {K:K0} {a:Addr} {xs:List V} {g:TG} {tb:TS} {D:JC} {σ:St} {H:Hp} (Pv:Nat->St->Hp->Prop) (h0:Pv 0 σ H) (hl:∀ i σ H,i<=xs.length->Pv i σ H->AH K H a xs)
  (hs:∀ i x p σ H,xs[i]?=some x->Pv i σ H->H p=none->g (.ref p) σ (upd H p (.tup [.int ((i+1:Nat):Int),x])) λσ2 H2=>tb { D with nx:=Pv (i+1),ct:=Pv (i+1),bk:=D.nx } σ2 H2) (hd:∀ σ H,Pv xs.length σ H->D.nx σ H) :
  ∃ W:Nat->Nat->St->Hp->Prop,(∃ m,W 0 m σ H)/\∀ i m σ H,W i m σ H ->
   ((SZ K a).stop i H/\D.nx σ H)\/((SZ K a).go i H/\∃ N:St->Hp->Prop,(∀ σ' H',N σ' H'->∃ m',m'<m/\W (i+1) m' σ' H')/\∀ x H',(SZ K a).yld i H x H'->g x σ H' λσ2 H2=>tb { D with nx:=N,ct:=N,bk:=D.nx } σ2 H2):=by
 refine ⟨λi m σ H=>m=xs.length-i/\i<=xs.length/\Pv i σ H,⟨xs.length,by simp,D2 _,h0⟩,?_⟩
 rintro i m σ H ⟨rfl,hi,p⟩
 have q:=hl i σ H hi p
 by_cases lt:i<xs.length
 ·refine .inr ⟨⟨xs,xs[i],q,by simp [lt]⟩,Pv (i+1),λσ' H' p'=>⟨xs.length-(i+1),by omega,rfl,lt,p'⟩,λv H' y=>?_⟩
  obtain ⟨b,x,rfl,hb,rfl,hx⟩:=y
  exact hs i x b σ H (hx xs q) p hb
 ·have z:xs.length=i:=by omega
  subst z
  exact .inl ⟨⟨xs,q,rfl⟩,hd σ H p⟩
end L2
namespace L2
open PySem
def Nh (xs:Array Nat):Prop:=∀ (i j:Nat) (hi:i<xs.size) (hj:j<xs.size),i<j->xs[i]<xs[j]
theorem bel_go {xs:Array Nat} (r:Nh xs) (j:Nat):∀ (f lo hi:Nat),hi<=xs.size->lo<=hi->hi-lo<=f->(∀ i (h:i<xs.size),i<lo->xs[i]<j)->(∀ i (h:i<xs.size),hi<=i->j<=xs[i]) ->
  SetTable.below.go xs j f lo hi<=xs.size/\(∀ i (h:i<xs.size),i<SetTable.below.go xs j f lo hi->xs[i]<j)/\(∀ i (h:i<xs.size),SetTable.below.go xs j f lo hi<=i->j<=xs[i]):=by
 intro f
 induction f with
 |zero =>
  intro lo hi h1 h2 h3 h4 h5
  have e:lo=hi:=by omega
  subst e
  exact ⟨h1,h4,h5⟩
 |succ f ih =>
  intro lo hi h1 h2 h3 h4 h5
  unfold SetTable.below.go
  by_cases hl:lo<hi
  ·rw [if_pos hl]
   dsimp only
   have hm:(lo+hi) / 2<xs.size:=by omega
   have eg:xs.getD ((lo+hi) / 2) j=xs[(lo+hi) / 2]:=by simp [hm]
   rw [eg]
   by_cases hc:xs[(lo+hi) / 2]<j
   ·rw [if_pos hc]
    refine ih _ _ h1 (by omega) (by omega) (λi h hi'=>?_) h5
    by_cases q:i<(lo+hi) / 2
    ·exact Nat.lt_trans (r i _ h hm q) hc
    ·have:i=(lo+hi) / 2:=by omega
     subst this;exact hc
   ·rw [if_neg hc]
    refine ih _ _ (by omega) (by omega) (by omega) h4 (λi h hi'=>?_)
    by_cases q:(lo+hi) / 2<i
    ·have:=r _ i hm h q
     omega
    ·have:i=(lo+hi) / 2:=by omega
     subst this;omega
  ·rw [if_neg hl]
   have e:lo=hi:=by omega
   subst e
   exact ⟨h1,h4,h5⟩
theorem bel {xs:Array Nat} (r:Nh xs) (j:Nat):SetTable.below xs j<=xs.size/\(∀ i (h:i<xs.size),i<SetTable.below xs j->xs[i]<j)/\(∀ i (h:i<xs.size),SetTable.below xs j<=i->j<=xs[i]) :=
 bel_go r j _ _ _ (P0 _) (D2 _) (by omega) (λi _ h=>absurd h (X6 _)) (λi h q=>absurd h (by omega))
theorem ST {xs:Array Nat} (r:Nh xs):SetTable.below xs 0=0:=by
 obtain ⟨h1,h2,h3⟩:=bel r 0
 by_cases h:SetTable.below xs 0=0
 ·exact h
 ·exact absurd (h2 0 (by omega) (by omega)) (X6 _)
theorem SU {xs:Array Nat} (r:Nh xs) {i:Nat} (hi:i<xs.size):SetTable.below xs (xs[i]+1)=i+1:=by
 obtain ⟨h1,h2,h3⟩:=bel r (xs[i]+1)
 have a:¬ SetTable.below xs (xs[i]+1)<=i:=λq=>by have:=h3 i hi q;omega
 by_cases b:i+1<SetTable.below xs (xs[i]+1)
 ·have:=h2 (i+1) (by omega) b
  have:=r i (i+1) hi (by omega) (by omega)
  omega
 ·omega
theorem rise_in {xs:Array Nat} (r:Nh xs) {j:Nat} (hn:¬ xs[SetTable.below xs j]?=some j):Nh (SetTable.insertAt xs (SetTable.below xs j) j):=by
 obtain ⟨h1,h2,h3⟩:=bel r j
 generalize SetTable.below xs j=p at h1 h2 h3 hn
 have h4:∀ i (h:i<xs.size),p<=i->j<xs[i]:=λi h q=>by
  have a:=h3 i h q
  by_cases e:i=p
  ·subst e
   have:xs[i]≠j:=λz=>hn (by rw [N2 h,z])
   omega
  ·have b:=r p i (by omega) h (by omega)
   have c:=h3 p (by omega) (P0 _)
   omega
 have sz:(SetTable.insertAt xs p j).size=xs.size+1:=by
  simp [SetTable.insertAt];omega
 have at_:∀ i (h:i<(SetTable.insertAt xs p j).size),(SetTable.insertAt xs p j)[i]=if h':i<p then xs[i]'(by omega) else if h2:i=p then j else xs[i-1]'(by rw [sz] at h;omega):=by
  intro i h
  have h':i<xs.size+1:=by rw [<- sz];exact h
  have e:(SetTable.insertAt xs p j)[i]?=(xs.toList.take p++j::xs.toList.drop p)[i]?:=by
   rw [<- N3]
   congr 1
   simp [SetTable.insertAt,List.extract_eq_take_drop,U6]
  have e2:(SetTable.insertAt xs p j)[i]?=some (SetTable.insertAt xs p j)[i]:=N2 h
  rw [e2] at e
  by_cases c1:i<p
  ·rw [dif_pos c1]
   rw [X0 (by simp;omega),k7 c1,N3,N2 (by omega)] at e
   exact Z2.inj e
  ·rw [dif_neg c1]
   rw [L1 (by simp;omega)] at e
   have l:(xs.toList.take p).length=p:=by simp;omega
   rw [l] at e
   by_cases c2:i=p
   ·rw [dif_pos c2]
    subst c2
    rw [E8,Q5] at e
    exact Z2.inj e
   ·rw [dif_neg c2]
    obtain ⟨k,rfl⟩:∃ k,i=p+k+1:=⟨i-p-1,by omega⟩
    rw [show p+k+1-p=k+1 by omega,L6,List.getElem?_drop,N3,N2 (by omega)] at e
    exact Z2.inj e
 intro a b ha hb hab
 rw [at_ a ha,at_ b hb]
 rw [sz] at ha hb
 by_cases c1:b<p
 ·rw [dif_pos c1,dif_pos (by omega)]
  exact r a b _ _ hab
 ·rw [dif_neg c1]
  by_cases c2:b=p
  ·rw [dif_pos c2,dif_pos (by omega)]
   exact h2 a _ (by omega)
  ·rw [dif_neg c2]
   by_cases c3:a<p
   ·rw [dif_pos c3]
    exact Nat.lt_trans (h2 a (by omega) c3) (h4 (b-1) (by omega) (by omega))
   ·rw [dif_neg c3]
    by_cases c4:a=p
    ·rw [dif_pos c4]
     exact h4 (b-1) (by omega) (by omega)
    ·rw [dif_neg c4]
     exact r (a-1) (b-1) _ _ (by omega)
theorem rise_of {l:List Nat} (h:l.Pairwise (· < ·)):Nh l.toArray:=λi j hi hj hij=>by
 have:=i7.mp h i j (by simpa using hi) (by simpa using hj) hij
 simpa using this
structure Tb (t:SetTable) (led:Bool):Prop where
 rise:Nh t.place
 dum:t.dummies=#[]
 led:t.led=led
theorem Tb.fresh (b:Bool):Tb (SetTable.fresh 0 0 b) b:=⟨λi j hi=>absurd hi (by simp [SetTable.fresh]),rfl,rfl⟩
theorem Tb.standIn {t:SetTable} {b:Bool} (h:Tb t b) (n:Nat):Tb (t.standIn n) b:=by
 refine ⟨λi j hi hj hij=>?_,rfl,h.led⟩
 simp [SetTable.standIn]
 exact hij
theorem Tb.slot {t:SetTable} {b:Bool} (h:Tb t b) (j:Nat):t.slot j≠.dummy/\(t.slot j=.empty->¬ t.place[SetTable.below t.place j]?=some j):=by
 unfold SetTable.slot
 dsimp only
 by_cases e:t.place[SetTable.below t.place j]?=some j
 ·have:(t.place[SetTable.below t.place j]? == some j)=true:=by rw [e];simp
  rw [if_pos this]
  exact ⟨(λz=>nomatch z),(λz=>nomatch z)⟩
 ·have:¬ (t.place[SetTable.below t.place j]? == some j)=true:=by simpa using e
  rw [if_neg this]
  have hd:SetTable.has t.dummies j=false:=by rw [h.dum];simp [SetTable.has,SetTable.below,SetTable.below.go]
  rw [hd]
  exact ⟨(λz=>nomatch z),λ_=>e⟩
theorem Tb.probe {t:SetTable} {b:Bool} (h:Tb t b) (ha:Nat->Int) (x:Int):∀ (f:Nat) (p:SetTable.Probe),p.dummy=none->∀ j d,SetTable.probe.go t ha x f p=some (.empty j d)->d=none/\t.slot j=.empty:=by
 intro f
 induction f with
 |zero=>intro p _ j d e;cases e
 |succ f ih =>
  intro p hp j d e
  unfold SetTable.probe.go at e
  cases q:t.slot p.j with
  |empty =>
   rw [q] at e
   simp only [A5,SetTable.Met.empty.injEq] at e
   obtain ⟨e1,e2⟩:=e
   subst e1
   exact ⟨e2.symm.trans hp,q⟩
  |dummy=>exact absurd q (h.slot p.j).1
  |live i =>
   rw [q] at e
   dsimp only at e
   have hp':(t.advance p).dummy=none:=by
    unfold SetTable.advance
    split
    ·exact hp
    ·exact hp
   split at e
   ·cases e
   ·exact ih _ hp' j d e
theorem Tb.layNew {t:SetTable} {b:Bool} (h:Tb t b) (es:Array (Int×Value)) (x:Int) (v:Value):Tb (PySem.layNew t es x v).2.1 b:=by
 unfold PySem.layNew
 cases q:t.freeSlot x with
 |none=>exact h.standIn _
 |some sw =>
  obtain ⟨sl,wd⟩:=sw
  dsimp only
  have hs:¬ t.place[SetTable.below t.place sl]?=some sl:=by
   unfold SetTable.freeSlot at q
   cases m:t.probe (λ_=>x+1) x (t.probeStart x) with
   |none=>rw [m] at q;cases q
   |some me =>
    rw [m] at q
    cases me with
    |candidate _ _ _=>cases q
    |empty j d =>
     obtain ⟨e1,e2⟩:=h.probe _ _ _ _ (by rfl) _ _ m
     subst e1
     simp only [A5,Prod.mk.injEq,N7] at q
     rw [<- q.1]
     exact (h.slot j).2 e2
  have hp:Tb (t.put sl).1 b:=by
   refine ⟨rise_in h.rise hs,?_,h.led⟩
   show (if SetTable.has t.dummies sl then _ else t.dummies)=_
   have hd:SetTable.has t.dummies sl=false:=by rw [h.dum];simp [SetTable.has,SetTable.below,SetTable.below.go]
   rw [hd]
   exact h.dum
  unfold SetTable.orStandIn
  split
  ·exact hp
  ·exact hp.standIn _
theorem Tb.relay {t:SetTable} {b:Bool} (h:Tb t b) (es:Array (Int×Value)) (n:Nat):Tb (relayAll t es n).2.1 b:=by
 unfold relayAll
 cases q:t.relaid (es.map (·.1)) n with
 |none=>exact h.standIn _
 |some r =>
  obtain ⟨t',order⟩:=r
  dsimp only
  split
  ·unfold SetTable.relaid SetTable.laid at q
   cases m:SetTable.layClean (SetTable.sizeAbove n-1) (es.map (·.1)) with
   |none=>rw [m] at q;cases q
   |some ow =>
    rw [m] at q
    simp only [Option.bind_eq_bind,J6,Option.pure_def,A5,Prod.mk.injEq] at q
    obtain ⟨e1,_⟩:=q
    subst e1
    refine ⟨rise_of ?_,rfl,h.led⟩
    rw [List.map_filterMap]
    refine List.Pairwise.filterMap (R:=(· < ·)) _ (λa a' haa c hc c' hc'=>?_) List.pairwise_lt_range
    simp at hc hc'
    omega
  ·exact h.standIn _
end L2
namespace L2
open PySem PySem.Spec PyProof.Rows
def iv:Value->Int
 |.int n _=>n
 |_=>0
structure Se (P:Program) (w:World) (h:Heap) (a:Addr) (led:Bool) (es:Array (Int×Value)) (ep:Nat) (t:SetTable):Prop where
 at_:h.get? a=some { cls:=.type "set",data:=.set es ep t }
 el:ElemsOf (intKind P w) es.toList
 all:∀ e∈es.toList,∃ n tk,e.2=.int n tk
 nd:(es.toList.map λe=>iv e.2).Nodup
 small:es.size<scanBound
 fits:t.fits es.size=true
 tb:Tb t led
def SI (P:Program) (w:World) (h:Heap) (a:Addr) (led:Bool) (ms:List Int) (c:Nat):Prop :=
 ∃ es ep t,Se P w h a led es ep t/\(∀ k,k∈ms↔k∈es.toList.map λe=>iv e.2)/\es.size<=c
theorem ik_is {P:Program} {w:World} {k n:Int} {tk:Tok}:(intKind P w).is k (.int n tk)=true↔k=n:=by
 constructor
 ·intro h
  exact (intKind P w).inj _ _ _ h (intKind_is P w n tk)
 ·rintro rfl
  exact intKind_is P w k tk
theorem se_add {P:Program} {w:World} {h:Heap} {a:Addr} {led:Bool} {es es1:Array (Int×Value)} {ep ep1:Nat} {t t1:SetTable} {k:Int} {tk:Tok}
  (hs:Se P w h a led es ep t) (hno:k∉es.toList.map λe=>iv e.2) (hz:es.size+1<scanBound) {h1:Heap} (at1:h1.get? a=some { cls:=.type "set",data:=.set es1 ep1 t1 })
  (hp:g4 es1.toList (es.toList++[((intKind P w).hash k,.int k tk)])) (hf:t1.fits es1.size=true) (tb1:Tb t1 led) :
  Se P w h1 a led es1 ep1 t1/\es1.size=es.size+1/\∀ j,j∈(es1.toList.map λe=>iv e.2)↔j∈(es.toList.map λe=>iv e.2)\/j=k:=by
 have hm:g4 (es1.toList.map λe=>iv e.2) ((es.toList.map λe=>iv e.2)++[k]):=by
  have:=hp.map λe=>iv e.2
  rwa [A1] at this
 have sz:es1.size=es.size+1:=by
  have:=hp.length_eq
  simpa using this
 refine ⟨⟨at1,?_,λe he=>?_,?_,by omega,hf,tb1⟩,sz,λj=>?_⟩
 ·exact (hs.el.push (intKind_is P w k tk) rfl).perm hp
 ·rcases T0.mp (hp.mem_iff.mp he) with q | q
  ·exact hs.all e q
  ·rw [M0] at q
   rw [q]
   exact ⟨_,_,rfl⟩
 ·rw [hm.nodup_iff,J3]
  refine ⟨hs.nd,by simp,λx hx y hy e=>?_⟩
  rw [M0] at hy
  rw [e,hy] at hx
  exact hno hx
 ·rw [hm.mem_iff,T0,M0]
theorem Lb {h:Heap} {a:Addr} {es es1:Array (Int×Value)} {ep:Nat} {t t1:SetTable} (e:h.get? a=some { cls:=.type "set",data:=.set es ep t }) :
  (h.update a (Obj.putSet es1 t1)).get? a=some { cls:=.type "set",data:=.set es1 (ep+1) t1 }:=by
 have q:=Heap.get?_update_self (Obj.putSet es1 t1) e (by rw [putSet_of es1 t1 rfl];rfl)
 rw [putSet_of es1 t1 rfl] at q
 exact q
theorem add_int {P:Program} {w:World} {A:Around} {E:Value->Shared->Prop} {s:Shared} {a:Addr} {led:Bool} {ms:List Int} {c:Nat} {k:Int} {tk:Tok} {Q:Bool->Shared->Prop}
  (hS:SI P w s.heap a led ms c) (hc:c+1<scanBound) (hQ:∀ b h',Heap.SameBut a s.heap h'->SI P w h' a led (ms++[k]) (c+1)->Q b { s with heap:=h' }) :
  wpAny (model P w) A (setAddHashed a (.int k tk) ((intKind P w).hash k)) Q E s:=by
 obtain ⟨es,ep,t,se,mem,le⟩:=hS
 have ik:=intKind_is P w k tk
 unfold setAddHashed setAddHashedIn
 refine wpAny_holding (wpAny_bind (wpAny_setState_of se.at_ rfl se.fits ?_))
 dsimp only
 rw [if_pos (byScan_of rfl se.small se.el)]
 unfold setAddByScan
 refine wpAny_bind (wpAny_bind (wpAny_rule (wpAny_bind (wpAny_setScan_of ik se.at_ rfl se.fits se.el ?_))))
 cases q:List.findIdx? (λe=>(intKind P w).is k e.2) es.toList with
 |some j =>
  obtain ⟨hj,hp,_⟩:=List.findIdx?_eq_some_iff_getElem.mp q
  refine wpAny_pure (wpAny_pure ?_)
  have z:=hQ false s.heap (Heap.SameBut.refl a s.heap) ⟨es,ep,t,se,λx=>?_,by omega⟩
  ·cases s;exact z
  ·rw [T0,M0,mem x]
   refine ⟨λz=>z.elim id λe=>?_,.inl⟩
   obtain ⟨n,u,en⟩:=se.all _ (Q4 hj)
   rw [en] at hp
   rw [e,ik_is.mp hp]
   exact j1.mpr ⟨_,Q4 hj,by rw [en];rfl⟩
 |none =>
  have hno:k∉es.toList.map λe=>iv e.2:=λz=>by
   obtain ⟨e,he,ek⟩:=j1.mp z
   obtain ⟨n,u,en⟩:=se.all e he
   have:=List.findIdx?_eq_none_iff.mp q e he
   rw [en] at ek this
   have:(intKind P w).is k (.int n u)=true:=ik_is.mpr ek.symm
   simp_all
  dsimp only
  have hperm:=layNew_perm t es ((intKind P w).hash k) (.int k tk)
  have hfit:=layNew_fits t es ((intKind P w).hash k) (.int k tk)
  have htb:=se.tb.layNew es ((intKind P w).hash k) (.int k tk)
  generalize layNew t es ((intKind P w).hash k) (.int k tk)=L at hperm hfit htb |-
  obtain ⟨es1,t1,wd,gv⟩:=L
  dsimp only at hperm hfit htb |-
  rw [Array.toList_push] at hperm
  have zz:es.size+1<scanBound:=by omega
  have fin:∀ h1 es2 ep2 t2,h1.get? a=some { cls:=.type "set",data:=.set es2 ep2 t2 }->g4 es2.toList (es.toList++[((intKind P w).hash k,.int k tk)])->t2.fits es2.size=true->Tb t2 led->SI P w h1 a led (ms++[k]) (c+1):=λh1 es2 ep2 t2 e1 e2 e3 e4=>by
   obtain ⟨s1,s2,s3⟩:=se_add se hno zz e1 e2 e3 e4
   exact ⟨es2,ep2,t2,s1,λx=>by rw [T0,M0,mem x,s3 x],by omega⟩
  have main:∀ t2:SetTable,t2.fits es1.size=true->Tb t2 led->∀ g:Bool->Sem Unit,(∀ (b:Bool) (s1:Shared) (R:Unit->Shared->Prop),R () s1->wpAny (model P w) A (g b) R E s1)->wpAny (model P w) A (do
    storeSet a es1 t2
    if (!wd&&t2.tooFull)=true then do
      g (relayAll t2 es1 (SetTable.grown es1.size)).2.2
      storeSet a (relayAll t2 es1 (SetTable.grown es1.size)).1 (relayAll t2 es1 (SetTable.grown es1.size)).2.1
      pure (some true)
     else pure (some true)) (λo s'=>wpAny (model P w) A (match o with | some added=>pure added | none=>setAddHashedIn a (.int k tk) ((intKind P w).hash k) 99999) Q E s') E s:=by
   intro t2 f2 b2 g hg
   have z1:es1.size<=sizeLine:=fits_of_scanBound (by have:=hperm.length_eq;simp at this;omega)
   refine wpAny_bind (wpAny_storeSet_of se.at_ rfl ?_ z1)
   split
   ·have hp2:=relayAll_perm t2 es1 (SetTable.grown es1.size)
    have hf2:=relayAll_fits t2 es1 (SetTable.grown es1.size)
    have hb2:=b2.relay es1 (SetTable.grown es1.size)
    generalize relayAll t2 es1 (SetTable.grown es1.size)=Rl at hp2 hf2 hb2 |-
    obtain ⟨es2,t3,gv2⟩:=Rl
    dsimp only at hp2 hf2 hb2 |-
    have z2:es2.size<=sizeLine:=by have:=hp2.length_eq;simp at this;omega
    refine wpAny_bind (hg _ _ _ (wpAny_bind (wpAny_storeSet_of (Lb se.at_) rfl (wpAny_pure (wpAny_pure ?_)) z2)))
    exact hQ _ _ ((Heap.SameBut.update s.heap a _).trans (Heap.SameBut.update _ a _)) (fin _ _ _ _ (Lb (Lb se.at_)) (hp2.trans hperm) hf2 hb2)
   ·exact wpAny_pure (wpAny_pure (hQ _ _ (Heap.SameBut.update s.heap a _) (fin _ _ _ _ (Lb se.at_) hperm f2 b2)))
  refine wpAny_bind ?_
  cases gv
  all_goals first | refine wpAny_pure ?_ | refine wpAny_rule ?_
  all_goals
   by_cases pl:t1.plain=true
   ·rw [if_pos pl,hashByValue_scannable 8 rfl]
    exact wpAny_bind (wpAny_pure (main t1 hfit htb _ λb s1 R z=>by cases b<;>first | exact wpAny_pure z | exact wpAny_rule z))
   ·rw [if_neg pl]
    exact wpAny_bind (wpAny_pure (main t1 hfit htb _ λb s1 R z=>by cases b<;>first | exact wpAny_pure z | exact wpAny_rule z))
end L2
namespace L2
open PySem PySem.Spec PyProof.Rows
theorem Px {M:Model} {A:Around} {E:Value->Shared->Prop} {s:Shared} {src:Source} {n:Nat} {Q:Nat->Shared->Prop} (hn:n≠0) (h:∀ i,i<n->Q i { s with drawn:=s.drawn.bump src }):wpAny M A (choose src n) Q E s :=
 λ_ _ _=>⟨hn,h _ (Nat.mod_lt _ (Nat.pos_of_ne_zero hn))⟩
theorem GC {α:Type}:∀ (l:List α) (i:Nat) (h:i<l.length),g4 (l[i]::l.eraseIdx i) l
 |[],_,h=>absurd h (X6 _)
 |x::r,0,_=>.rfl
 |x::r,i+1,h=>((g4.swap _ _ _)).trans ((GC r i (by simpa using h)).cons x)
theorem Os {M:Model} {A:Around} {E:Value->Shared->Prop} {α:Type}:∀ (n:Nat) (xs:List α) (s:Shared) (Q:List α->Shared->Prop),xs.length=n->(∀ ys d,g4 ys xs->Q ys { s with drawn:=d })->wpAny M A (drawOrder n xs) Q E s:=by
 intro n
 induction n with
 |zero =>
  intro xs s Q e h
  obtain rfl:=E2.mp e
  unfold drawOrder
  have q:=h [] s.drawn .rfl
  exact wpAny_pure (by cases s;exact q)
 |succ n ih =>
  intro xs s Q e h
  cases xs with
  |nil=>cases e
  |cons x r =>
   unfold drawOrder
   refine wpAny_bind (Px (by simp) λi hi=>?_)
   have hg:(x::r)[i]?=some (x::r)[i]:=u0 hi
   rw [hg]
   refine wpAny_bind (ih _ _ _ (by rw [d7 hi];simpa using e) λys d p=>wpAny_pure ?_)
   exact h _ d ((p.cons _).trans (GC _ _ hi))
theorem FC {α:Type} (nx:Nat->Nat):∀ (n k:Nat) (l:List α) (out:Array α),l.length=n->g4 (pickOrder.go nx n k l out).toList (out.toList++l)
 |0,k,l,out,e=>by
  have:l=[]:=E2.mp e
  subst this
  unfold pickOrder.go
  simp
 |n+1,k,l,out,e=>by
  unfold pickOrder.go
  have hi:nx k%l.length<l.length:=Nat.mod_lt _ (by omega)
  rw [u0 hi]
  dsimp only
  refine (FC nx n (k+1) _ _ (by rw [d7 hi];omega)).trans ?_
  rw [Array.toList_push,X1]
  exact (GC _ _ hi).append_left _
theorem LB:entryFor table "set_iterator.__next__"=some Builtin.«set_iterator.__next__»:=entryFor_of_tree (by kernel_rfl)
theorem DN:Slot "set_iterator" "__next__" "set_iterator.__next__" :=
 .of (owner:="set_iterator") (n:="__next__") (by rw [typeLookup_type,builtinLookup_eq_fast];kernel_rfl) (by decide +kernel) (by decide +kernel) (by decide +kernel) (by first | exact .inl (by decide +kernel) | exact .inr (by decide +kernel)) (by rw [isSubtype_type];kernel_rfl)
theorem LK (a:Value):argsOk "set_iterator.__next__" ⟨[a],[]⟩:=by unfold argsOk;kernel_rfl
theorem en_sei:entryFor table "set.__iter__"=some Builtin.«frozenset.__iter__»:=entryFor_alias (id':="frozenset.__iter__") (by kernel_rfl) rfl (by decide +kernel) (by kernel_rfl)
theorem en_sii:entryFor table "set_iterator.__iter__"=some Builtin.«dict_keyiterator.__iter__»:=entryFor_alias (id':="dict_keyiterator.__iter__") (by kernel_rfl) rfl (by decide +kernel) (by kernel_rfl)
theorem Rp:Slot "set_iterator" "__iter__" "set_iterator.__iter__" :=
 .of (owner:="set_iterator") (n:="__iter__") (by rw [typeLookup_type,builtinLookup_eq_fast];kernel_rfl) (by decide +kernel) (by decide +kernel) (by decide +kernel) (by first | exact .inl (by decide +kernel) | exact .inr (by decide +kernel)) (by rw [isSubtype_type];kernel_rfl)
theorem ar_sii (a:Value):argsOk "set_iterator.__iter__" ⟨[a],[]⟩:=by unfold argsOk;kernel_rfl
end L2
namespace L2
open PySem PySem.Spec PyProof.Rows
def HW (es:Array (Int×Value)) (ep:Nat) (t:SetTable):Obj:={ cls:=.type "set",data:=.set es ep t }
def CY (f:Value) (i:Int) (S:Addr) (n ep:Nat):Obj:={ cls:=.type "set_iterator",data:=.fields #[f,rawInt i,.ref S,rawInt n,rawInt ep] }
theorem Sj {P:Program} {w:World} {A:Around} {E:Value->Shared->Prop} {s:Shared} {S:Addr} {es:Array (Int×Value)} {ep:Nat} {t:SetTable} {Q:Value->Shared->Prop}
  (at_:s.heap.get? S=some (HW es ep t)) (fits:t.fits es.size=true) (small:es.size<=sizeLine)
  (h1:(!(w.params.followText "set-order")&&(!t.plain&&decide (es.size > 1)))=false->Q (.ref s.heap.objs.size) { s with heap:=s.heap.push (CY (rawInt 0) 0 S es.size ep) })
  (h2:w.params.followText "set-order"=false->∀ (ps:List Nat) d,g4 ps (Q2 es.size) ->
   Q (.ref (s.heap.objs.size+1)) { s with heap:=(s.heap.push { cls:=.type "tuple",data:=.seq (ps.map λ(i:Nat)=>rawInt i).toArray }).push (CY (.ref s.heap.objs.size) 0 S es.size ep),drawn:=d }) :
  wpAny (model P w) A (pyIter (.ref S)) Q E s:=by
 have hT:s.TypeIs (.ref S) "set":=⟨_,at_,rfl⟩
 refine wpAny_pyIter_slot hT F.slot_set_iter (wpAny_call_entry F.slot_set_iter hT en_sei ?_ (F.args_set_iter_1 _))
 unfold Builtin.«frozenset.__iter__»
 refine wpAny_bind (wpAny_of_eq (a:=S) rfl ?_)
 unfold Builtin.Frozenset.sizeOf setEntries setDrawn setsByText
 refine wpAny_bind (wpAny_bind (wpAny_bind (wpAny_setState_of at_ rfl fits (wpAny_pure (wpAny_pure ?_)))))
 refine wpAny_bind (wpAny_bind (wpAny_setState_of at_ rfl fits (wpAny_bind (wpAny_bind (wpAny_askSetting (wpAny_pure (wpAny_pure ?_)))))))
 dsimp only
 split
 ·rename_i q
  have q':(!w.params.followText "set-order"&&(!t.plain&&decide (es.size > 1)))=true:=q
  have hf:w.params.followText "set-order"=false:=by
   cases z:w.params.followText "set-order" with
   |false=>rfl
   |true=>rw [z] at q';simp at q'
  refine wpAny_bind (Os _ _ _ _ (by simp) λps d hp=>?_)
  have hl:(ps.map λ(i:Nat)=>rawInt i).length=es.size:=by have:=hp.length_eq;simpa using this
  have hz:es.size<=sizeLine:=small
  simp only [newTuple,newFields]
  refine wpAny_bind (wpAny_newObj_type ?_ (show (ps.map λ(i:Nat)=>rawInt i).toArray.size<=sizeLine by rw [S0,hl];exact hz))
  have at2:(s.heap.push { cls:=.type "tuple",data:=.seq (ps.map λ(i:Nat)=>rawInt i).toArray }).get? S=some (HW es ep t):=Heap.get?_push_of_some _ at_
  refine wpAny_bind (wpAny_setEpoch_of (s:={ s with heap:=_,drawn:=d }) at2 rfl fits ?_)
  refine wpAny_bind (wpAny_newObj_type (wpAny_pure ⟨_,rfl, "set_iterator",_,⟨_,Heap.get?_push_size _ rfl,rfl⟩,DN.lookup,?_⟩) (by size_fits))
  have:=h2 hf ps d hp
  have sz:(s.heap.push { cls:=.type "tuple",data:=.seq (ps.map λ(i:Nat)=>rawInt i).toArray }).objs.size=s.heap.objs.size+1:=by rw [Heap.size_push]
  rw [sz]
  exact this
 ·rename_i q
  have q':(!w.params.followText "set-order"&&(!t.plain&&decide (es.size > 1)))=false:=by
   cases z:(!w.params.followText "set-order"&&(!t.plain&&decide (es.size > 1))) with
   |false=>rfl
   |true=>exact absurd z q
  refine wpAny_bind (wpAny_pure ?_)
  simp only [newFields]
  refine wpAny_bind (wpAny_setEpoch_of at_ rfl fits ?_)
  exact wpAny_bind (wpAny_newObj_type (wpAny_pure ⟨_,rfl, "set_iterator",_,⟨_,Heap.get?_push_size _ rfl,rfl⟩,DN.lookup,h1 q'⟩) (by size_fits))
end L2
namespace L2
open PySem PySem.Spec PyProof.Rows
section
variable {P:Program} {w:World} {A:Around} {E:Value->Shared->Prop} {s:Shared} {S I:Addr} {es:Array (Int×Value)} {ep:Nat} {t:SetTable}
theorem ON {j i:Nat} {Q:Option (Value×Nat)->Shared->Prop} (at_:s.heap.get? S=some (HW es ep t)) (fits:t.fits es.size=true) (ht:w.params.followText "set-order"=true)
  (h:Q (((pickOrder (w.params.setOrder S ep) es)[i]?).map λe=>(e.2,j)) s):wpAny (model P w) A (setNext S j i ep) Q E s:=by
 have ht':(model P w).w.params.followText "set-order"=true:=ht
 unfold setNext setsByText setWalk
 refine wpAny_bind (wpAny_setState_of at_ rfl fits (wpAny_bind (wpAny_bind (wpAny_askSetting (wpAny_pure ?_)))))
 dsimp only
 rw [if_pos ht',if_neg (by simp)]
 unfold setsByText
 refine wpAny_bind (wpAny_bind (wpAny_setState_of at_ rfl fits (wpAny_bind (wpAny_bind (wpAny_askSetting (wpAny_pure ?_))))))
 dsimp only
 rw [if_pos ht']
 exact wpAny_bind (wpAny_askSetting (wpAny_pure (wpAny_pure h)))
theorem OO {j i:Nat} {Q:Option (Value×Nat)->Shared->Prop} (at_:s.heap.get? S=some (HW es ep t)) (fits:t.fits es.size=true) (ht:w.params.followText "set-order"=false)
  (hd:(!t.plain&&decide (es.size > 1))=false) (hl:t.led=true)
  (h:Q (match es[SetTable.below t.place j]?,t.place[SetTable.below t.place j]? with | some (_,x),some p=>some (x,p+1) | _,_=>none) s):wpAny (model P w) A (setNext S j i ep) Q E s:=by
 have ht':¬ (model P w).w.params.followText "set-order"=true:=by rw [show (model P w).w.params.followText "set-order"=false from ht];simp
 unfold setNext setsByText
 refine wpAny_bind (wpAny_setState_of at_ rfl fits (wpAny_bind (wpAny_bind (wpAny_askSetting (wpAny_pure ?_)))))
 dsimp only
 rw [if_neg ht']
 split
 ·rename_i q
  have q':(!t.plain&&decide (es.size > 1))=true:=q
  rw [hd] at q'
  cases q'
 ·refine wpAny_bind (wpAny_of_eq (a:=()) ?_ (wpAny_pure h))
  show (if (!t.led&&!es.isEmpty)=true then unsupported "set:maker-not-led" else pure ())=pure ()
  rw [hl]
  rfl
theorem it_upd {h:Heap} {f g:Value} {i i':Int} {n:Nat} (e:h.get? I=some (CY f i S n ep)) :
  ((h.update I (Obj.mapFields (·.setIfInBounds 0 g))).update I (Obj.mapFields (·.setIfInBounds 1 (rawInt i')))).get? I=some (CY g i' S n ep):=by
 have e1:(h.update I (Obj.mapFields (·.setIfInBounds 0 g))).get? I=some (CY g i S n ep):=Heap.get?_update_self _ e rfl
 exact Heap.get?_update_self _ e1 rfl
theorem it_upd1 {h:Heap} {f:Value} {i i':Int} {n:Nat} (e:h.get? I=some (CY f i S n ep)):(h.update I (Obj.mapFields (·.setIfInBounds 1 (rawInt i')))).get? I=some (CY f i' S n ep):=Heap.get?_update_self _ e rfl
theorem JU {Q:Option Value->Shared->Prop} (hh:A.handled=none) (hQ:∀ h',(∀ b o,s.heap.get? b=some o->h'.get? b=some o)->Q none { s with heap:=h' }) :
  wpAny (model P w) A.in1 (newExc (Value.type "StopIteration") [] >>= λe=>raiseNew e) (λ(fin:PySem.Fin) s'=>∃ v,fin=Fin.done (Flow.ret v)/\wpAny (model P w) A (pure (some v)) Q E s')
   (λe s'=>wpAny (model P w) A (isInstance e (Value.type "StopIteration") >>= λb=>if b=true then pure none else throw e) Q E s') s:=by
 refine wpAny_bind ?_
 simp only [newExc,newTuple]
 refine wpAny_bind (wpAny_newObj_type (wpAny_bind (m:=firstArgMember _ _) (wpAny_of_eq (a:=Value.none) (by first | rfl | (simp only [firstArgMember];rfl)) (wpAny_newObj_type ?_ (by size_fits)))) (by size_fits))
 simp only [raiseNew]
 refine wpAny_bind (wpAny_handled ?_)
 rw [show A.in1.handled=none from hh]
 refine ((wpAny_bind (wpAny_pure (wpAny_throw ?_))))
 refine ((wpAny_bind (wpAny_isInstance (T:="StopIteration") (b:=true) ⟨_,Heap.get?_push_size _ rfl,rfl⟩ isSubtype_stop ?_)))
 refine (wpAny_pure ?_)
 exact hQ _ λb o e=>Heap.get?_push_of_some _ (Heap.get?_push_of_some _ e)
theorem OV {j i j':Nat} {x:Value} {Q:Option Value->Shared->Prop} (it:s.heap.get? I=some (CY (rawInt j) i S es.size ep)) (at_:s.heap.get? S=some (HW es ep t)) (fits:t.fits es.size=true)
  (sn:∀ (A:Around) (E:Value->Shared->Prop) (R:Option (Value×Nat)->Shared->Prop),R (some (x,j')) s->wpAny (model P w) A (setNext S j i ep) R E s)
  (hQ:∀ h',Heap.SameBut I s.heap h'->h'.get? I=some (CY (rawInt j') (i+1:Nat) S es.size ep)->Q (some x) { s with heap:=h' }):wpAny (model P w) A (pyNext (.ref I)) Q E s:=by
 have hT:s.TypeIs (.ref I) "set_iterator":=⟨_,it,rfl⟩
 unfold pyNext
 refine wpAny_bind (wpAny_attempt (wpAny_callSpecial?_slot (name:=Str.ofString "__next__") hT DN (wpAny_call_entry DN hT LB ?_ (LK _))))
 unfold Builtin.«set_iterator.__next__»
 refine wpAny_bind (wpAny_of_eq (a:=(Value.ref I,[])) rfl ?_)
 refine wpAny_bind (wpAny_fieldsOf it rfl ?_)
 show wpAny _ _ (setEntries S >>= _) _ _ s
 unfold setEntries
 refine wpAny_bind (wpAny_bind (wpAny_setState_of at_ rfl fits (wpAny_pure ?_)))
 dsimp only
 rw [if_neg (by simp)]
 show wpAny _ _ (setNext S j i ep >>= _) _ _ s
 refine wpAny_bind (sn _ _ _ ?_)
 dsimp only
 refine wpAny_bind (wpAny_setField it rfl (by simp) ?_)
 have it1:(s.heap.update I (Obj.mapFields (·.setIfInBounds 0 (rawInt j')))).get? I=some (CY (rawInt j') i S es.size ep):=Heap.get?_update_self _ it rfl
 refine wpAny_bind (wpAny_setField (s:={ s with heap:=_ }) it1 rfl (by simp) (wpAny_pure ⟨_,rfl,wpAny_pure (hQ _ ?_ ?_)⟩))
 ·exact (Heap.SameBut.update _ I _).trans (Heap.SameBut.update _ I _)
 ·exact it_upd it
theorem RQ {j i:Nat} {Q:Option Value->Shared->Prop} (hh:A.handled=none) (it:s.heap.get? I=some (CY (rawInt j) i S es.size ep)) (at_:s.heap.get? S=some (HW es ep t)) (fits:t.fits es.size=true)
  (sn:∀ (A:Around) (E:Value->Shared->Prop) (R:Option (Value×Nat)->Shared->Prop),R none s->wpAny (model P w) A (setNext S j i ep) R E s)
  (hQ:∀ h',(∀ b o,b≠I->s.heap.get? b=some o->h'.get? b=some o)->Q none { s with heap:=h' }):wpAny (model P w) A (pyNext (.ref I)) Q E s:=by
 have hT:s.TypeIs (.ref I) "set_iterator":=⟨_,it,rfl⟩
 unfold pyNext
 refine wpAny_bind (wpAny_attempt (wpAny_callSpecial?_slot (name:=Str.ofString "__next__") hT DN (wpAny_call_entry DN hT LB ?_ (LK _))))
 unfold Builtin.«set_iterator.__next__»
 refine wpAny_bind (wpAny_of_eq (a:=(Value.ref I,[])) rfl (wpAny_bind (wpAny_fieldsOf it rfl ?_)))
 show wpAny _ _ (setEntries S >>= _) _ _ s
 unfold setEntries
 refine wpAny_bind (wpAny_bind (wpAny_setState_of at_ rfl fits (wpAny_pure ?_)))
 dsimp only
 rw [if_neg (by simp)]
 show wpAny _ _ (setNext S j i ep >>= _) _ _ s
 refine wpAny_bind (sn _ _ _ ?_)
 dsimp only
 refine wpAny_bind (wpAny_setField it rfl (by simp) ?_)
 exact JU hh λh' z=>hQ h' λb o hb e=>z b o ((Heap.get?_update_other _ _ (Ne.symm hb)).trans e)
end
end L2
namespace L2
open PySem PySem.Spec PyProof.Rows
section
variable {P:Program} {w:World} {A:Around} {E:Value->Shared->Prop} {s:Shared} {S I T:Addr} {es:Array (Int×Value)} {ep:Nat} {t:SetTable}
theorem KU {f:Value} {i:Int} {n:Nat} {Q:Value->Shared->Prop} (it:s.heap.get? I=some (CY f i S n ep)) (h:Q (.ref I) s):wpAny (model P w) A (pyIter (.ref I)) Q E s:=by
 have hT:s.TypeIs (.ref I) "set_iterator":=⟨_,it,rfl⟩
 refine wpAny_pyIter_slot hT Rp (wpAny_call_entry Rp hT en_sii ?_ (ar_sii _))
 show wpAny (model P w) _ (ret (.ref I)) _ _ s
 exact wpAny_pure ⟨_,rfl, "set_iterator",_,hT,DN.lookup,h⟩
def Oc (ps:List Nat):Obj:={ cls:=.type "tuple",data:=.seq (ps.map λ(i:Nat)=>rawInt i).toArray }
theorem Sa {i p:Nat} {ps:List Nat} {x:Int×Value} {Q:Option Value->Shared->Prop} (it:s.heap.get? I=some (CY (.ref T) i S es.size ep)) (at_:s.heap.get? S=some (HW es ep t)) (fits:t.fits es.size=true)
  (tt:s.heap.get? T=some (Oc ps)) (hp:ps[i]?=some p) (hx:es[p]?=some x) (hQ:∀ h',Heap.SameBut I s.heap h'->h'.get? I=some (CY (.ref T) (i+1:Nat) S es.size ep)->Q (some x.2) { s with heap:=h' }) :
  wpAny (model P w) A (pyNext (.ref I)) Q E s:=by
 have hT:s.TypeIs (.ref I) "set_iterator":=⟨_,it,rfl⟩
 unfold pyNext
 refine wpAny_bind (wpAny_attempt (wpAny_callSpecial?_slot (name:=Str.ofString "__next__") hT DN (wpAny_call_entry DN hT LB ?_ (LK _))))
 unfold Builtin.«set_iterator.__next__»
 refine wpAny_bind (wpAny_of_eq (a:=(Value.ref I,[])) rfl (wpAny_bind (wpAny_fieldsOf it rfl ?_)))
 show wpAny _ _ (setEntries S >>= _) _ _ s
 unfold setEntries
 refine wpAny_bind (wpAny_bind (wpAny_setState_of at_ rfl fits (wpAny_pure ?_)))
 dsimp only
 rw [if_neg (by simp)]
 show wpAny _ _ (seqItems? (.ref T) >>= _) _ _ s
 refine wpAny_bind ?_
 unfold seqItems?
 dsimp only
 refine wpAny_bind (wpAny_load tt (wpAny_pure ?_))
 have hi:(ps.map λ(i:Nat)=>rawInt i).toArray[i]?=some (rawInt p):=by simp [hp]
 show wpAny _ _ (match (ps.map λ(i:Nat)=>rawInt i).toArray[i]? with | some (Value.int place tok)=>_ | some val=>_ | none=>_) _ _ s
 rw [hi]
 show wpAny _ _ (setNextDrawn S p ep >>= _) _ _ s
 unfold setNextDrawn
 refine wpAny_bind (wpAny_bind (wpAny_setState_of at_ rfl fits ?_))
 dsimp only
 rw [if_neg (by simp),hx]
 refine wpAny_pure (wpAny_bind (wpAny_setField it rfl (by simp) (wpAny_pure ⟨_,rfl,wpAny_pure (hQ _ (Heap.SameBut.update _ I _) (it_upd1 it))⟩)))
theorem lot_end {i:Nat} {ps:List Nat} {Q:Option Value->Shared->Prop} (hh:A.handled=none) (it:s.heap.get? I=some (CY (.ref T) i S es.size ep)) (at_:s.heap.get? S=some (HW es ep t)) (fits:t.fits es.size=true)
  (tt:s.heap.get? T=some (Oc ps)) (hp:ps[i]?=none) (hQ:∀ h',(∀ b o,b≠I->s.heap.get? b=some o->h'.get? b=some o)->Q none { s with heap:=h' }):wpAny (model P w) A (pyNext (.ref I)) Q E s:=by
 have hT:s.TypeIs (.ref I) "set_iterator":=⟨_,it,rfl⟩
 unfold pyNext
 refine wpAny_bind (wpAny_attempt (wpAny_callSpecial?_slot (name:=Str.ofString "__next__") hT DN (wpAny_call_entry DN hT LB ?_ (LK _))))
 unfold Builtin.«set_iterator.__next__»
 refine wpAny_bind (wpAny_of_eq (a:=(Value.ref I,[])) rfl (wpAny_bind (wpAny_fieldsOf it rfl ?_)))
 show wpAny _ _ (setEntries S >>= _) _ _ s
 unfold setEntries
 refine wpAny_bind (wpAny_bind (wpAny_setState_of at_ rfl fits (wpAny_pure ?_)))
 dsimp only
 rw [if_neg (by simp)]
 show wpAny _ _ (seqItems? (.ref T) >>= _) _ _ s
 refine wpAny_bind ?_
 unfold seqItems?
 dsimp only
 refine wpAny_bind (wpAny_load tt (wpAny_pure ?_))
 have hi:(ps.map λ(i:Nat)=>rawInt i).toArray[i]?=none:=by
  rw [List.getElem?_eq_none_iff] at hp
  simp;exact hp
 show wpAny _ _ (match (ps.map λ(i:Nat)=>rawInt i).toArray[i]? with | some (Value.int place tok)=>_ | some val=>_ | none=>_) _ _ s
 rw [hi]
 dsimp only
 refine wpAny_bind (wpAny_setField it rfl (by simp) ?_)
 have it1:(s.heap.update I (Obj.mapFields (·.setIfInBounds 0 (rawInt 0)))).get? I=some (CY (rawInt 0) i S es.size ep):=Heap.get?_update_self _ it rfl
 refine wpAny_bind (wpAny_setField (s:={ s with heap:=_ }) it1 rfl (by simp) ?_)
 exact JU hh λh' z=>hQ h' λb o hb e=>z b o ((Heap.get?_update_other _ _ (Ne.symm hb)).trans ((Heap.get?_update_other _ _ (Ne.symm hb)).trans e))
theorem Py (hh:A.handled=none) (fits:t.fits es.size=true) (ht:w.params.followText "set-order"=true) (hne:S≠I) :
  Walks P w A I [I,S] [I] es.size (λi v=>∃ e,(pickOrder (w.params.setOrder S ep) es)[i]?=some e/\v=e.2) (λi h=>h.get? I=some (CY (rawInt (0:Nat)) i S es.size ep)/\h.get? S=some (HW es ep t)) where
 sub:=λb hb=>by simp at hb;simp [hb]
 frame:=λi h h' st k=>⟨k I (by simp) _ st.1,k S (by simp) _ st.2⟩
 item:=λi s Q E hi st hQ=>by
  have hl:(pickOrder (w.params.setOrder S ep) es).size=es.size:=by
   have:=(FC (w.params.setOrder S ep) es.size 0 es.toList #[] (by simp)).length_eq
   simpa [pickOrder] using this
  have hx:(pickOrder (w.params.setOrder S ep) es)[i]?=some (pickOrder (w.params.setOrder S ep) es)[i]:=N2 (by omega)
  refine OV st.1 st.2 fits (x:=(pickOrder (w.params.setOrder S ep) es)[i].2) (j':=0) (λA E R q=>ON st.2 fits ht (by rw [hx];exact q)) λh' sb e=>?_
  exact hQ _ h' s.toks ⟨_,hx,rfl⟩ ⟨e,(sb.2 S hne).trans st.2⟩ λb o hb q=>(sb.2 b (λz=>hb (by simp [z]))).trans q
 done:=λs Q E st hQ=>by
  have hl:(pickOrder (w.params.setOrder S ep) es).size=es.size:=by
   have:=(FC (w.params.setOrder S ep) es.size 0 es.toList #[] (by simp)).length_eq
   simpa [pickOrder] using this
  have hx:(pickOrder (w.params.setOrder S ep) es)[es.size]?=none:=W6 (by omega)
  exact RQ hh st.1 st.2 fits (λA E R q=>ON st.2 fits ht (by rw [hx];exact q)) λh' k=>hQ h' s.toks λb o hb q=>k b o (λz=>hb (by simp [z])) q
 self:=λi s Q E st hQ=>KU st.1 hQ
theorem Pz (hh:A.handled=none) (fits:t.fits es.size=true) (ht:w.params.followText "set-order"=false) (hd:(!t.plain&&decide (es.size > 1))=false) (tb:Tb t true) (hne:S≠I) :
  Walks P w A I [I,S] [I] es.size (λi v=>∃ e,es[i]?=some e/\v=e.2) (λi h=>(∃ j:Nat,SetTable.below t.place j=i/\h.get? I=some (CY (rawInt j) i S es.size ep))/\h.get? S=some (HW es ep t)) where
 sub:=λb hb=>by simp at hb;simp [hb]
 frame:=λi h h' st k=>by
  obtain ⟨⟨j,hj,e⟩,q⟩:=st
  exact ⟨⟨j,hj,k I (by simp) _ e⟩,k S (by simp) _ q⟩
 item:=λi s Q E hi st hQ=>by
  obtain ⟨⟨j,hj,e⟩,q⟩:=st
  have hz:t.place.size=es.size:=by
   unfold SetTable.fits at fits
   simp at fits
   exact fits.1
  have hx:es[i]?=some es[i]:=N2 hi
  have hp:t.place[i]?=some (t.place[i]'(by omega)):=N2 (by omega)
  refine OV e q fits (x:=es[i].2) (j':=t.place[i]'(by omega)+1) (λA E R z=>OO q fits ht hd tb.led (by rw [hj,hx,hp];exact z)) λh' sb e'=>?_
  exact hQ _ h' s.toks ⟨_,hx,rfl⟩ ⟨⟨_,SU tb.rise (by omega),e'⟩,(sb.2 S hne).trans q⟩ λb o hb z=>(sb.2 b (λy=>hb (by simp [y]))).trans z
 done:=λs Q E st hQ=>by
  obtain ⟨⟨j,hj,e⟩,q⟩:=st
  exact RQ hh e q fits (λA E R z=>OO q fits ht hd tb.led (by rw [hj,W6 (P0 _)];exact z)) λh' k=>hQ h' s.toks λb o hb z=>k b o (λy=>hb (by simp [y])) z
 self:=λi s Q E st hQ=>let ⟨⟨_,_,e⟩,_⟩:=st;KU e hQ
theorem QK (hh:A.handled=none) (fits:t.fits es.size=true) {ps:List Nat} (hp:g4 ps (Q2 es.size)) (hne:S≠I) (hnt:T≠I) :
  Walks P w A I [I,S,T] [I] es.size (λi v=>∃ p e,ps[i]?=some p/\es[p]?=some e/\v=e.2) (λi h=>h.get? I=some (CY (.ref T) i S es.size ep)/\h.get? S=some (HW es ep t)/\h.get? T=some (Oc ps)) where
 sub:=λb hb=>by simp at hb;simp [hb]
 frame:=λi h h' st k=>⟨k I (by simp) _ st.1,k S (by simp) _ st.2.1,k T (by simp) _ st.2.2⟩
 item:=λi s Q E hi st hQ=>by
  have hl:ps.length=es.size:=by have:=hp.length_eq;simpa using this
  have h1:ps[i]?=some (ps[i]'(by omega)):=u0 (by omega)
  have h2:ps[i]'(by omega)<es.size:=c7.mp (hp.mem_iff.mp (Q4 _))
  have h3:es[ps[i]'(by omega)]?=some (es[ps[i]'(by omega)]'h2):=N2 h2
  refine Sa st.1 st.2.1 fits st.2.2 h1 h3 λh' sb e=>?_
  exact hQ _ h' s.toks ⟨_,_,h1,h3,rfl⟩ ⟨e,(sb.2 S hne).trans st.2.1,(sb.2 T hnt).trans st.2.2⟩ λb o hb q=>(sb.2 b (λz=>hb (by simp [z]))).trans q
 done:=λs Q E st hQ=>by
  have hl:ps.length=es.size:=by have:=hp.length_eq;simpa using this
  exact lot_end hh st.1 st.2.1 fits st.2.2 (X5 (by omega)) λh' k=>hQ h' s.toks λb o hb q=>k b o (λz=>hb (by simp [z])) q
 self:=λi s Q E st hQ=>KU st.1 hQ
end
end L2
namespace L2
open PySem PySem.Spec PyProof.Rows
theorem SJ:entryFor table "set.update.loop"=some Builtin.«set.update.loop»:=entryFor_of_tree (by kernel_rfl)
theorem NM:plainId "set.update.loop"=true:=by decide +kernel
theorem SI.at {P:Program} {w:World} {h h':Heap} {S:Addr} {led:Bool} {ms:List Int} {c:Nat} (x:SI P w h S led ms c) (k:∀ o,h.get? S=some o->h'.get? S=some o):SI P w h' S led ms c:=by
 obtain ⟨es,ep,t,se,r⟩:=x
 exact ⟨es,ep,t,⟨k _ se.at_,se.el,se.all,se.nd,se.small,se.fits,se.tb⟩,r⟩
theorem Rc {P:Program} {w:World} {A:Around} {R:Result->Shared->Prop} {I:Addr} {fp wr:List Addr} {n:Nat} {Pv:Nat->Value->Prop} {St:Nat->Heap->Prop} {led:Bool} (W:Walks P w A.in1 I fp wr n Pv St) (S:Addr) (hSf:S∉fp)
  (val:Nat->Int) (hval:∀ i v,Pv i v->∃ t,v=.int (val i) t) (hb:n+1<scanBound) :
  ∀ (k i:Nat) (s:Shared),n-i=k->i<=n->St i s.heap->SI P w s.heap S led ((Q2 i).map val) i ->
   (∀ h' tk,(∀ b o,b∉S::wr->s.heap.get? b=some o->h'.get? b=some o)->SI P w h' S led ((Q2 n).map val) n->R (.ok (.ret .none)) { s with heap:=h',toks:=tk }) ->
   codeAny (model P w) A (.builtin "set.update.loop" ⟨[.ref S,.ref I],[]⟩) R s:=by
 have hSw:S∉wr:=λz=>hSf (W.sub _ z)
 intro k
 induction k with
 |zero =>
  intro i s hk hi st hS hR
  obtain rfl:i=n:=by omega
  refine codeAny_builtin SJ ?_
  rw [Around.under_plainId NM _]
  refine wpAny_bind (m:=pyNext (.ref I)) (W.done s _ _ st λh' tk kp=>?_)
  exact wpAny_pure (hR h' tk (λb o hb e=>kp b o (λz=>hb (A0 _ z)) e) (hS.at λo e=>kp S o hSw e))
 |succ k ih =>
  intro i s hk hi st hS hR
  refine codeAny_builtin SJ ?_
  rw [Around.under_plainId NM _]
  refine wpAny_bind (m:=pyNext (.ref I)) (W.item i s _ _ (by omega) st λv h' tk hP st' kp=>?_)
  obtain ⟨t,rfl⟩:=hval i v hP
  have hS':SI P w h' S led ((Q2 i).map val) i:=hS.at λo e=>kp S o hSw e
  refine wpAny_bind (m:=holding [Value.int (val i) t] (setAdd S (.int (val i) t))) (wpAny_holding ?_)
  unfold setAdd
  refine wpAny_holding (wpAny_bind ((intKind P w).pyHash (k:=val i) (intKind_is _ _ _ _) ?_))
  refine add_int (s:={ s with heap:=h',toks:=tk+1 }) hS' (by omega) λb h2 sb hS2=>?_
  rw [show (Q2 i).map val++[val i]=(Q2 (i+1)).map val by rw [List.range_succ,A1];rfl] at hS2
  refine wpAny_pure ⟨plainId_quiet NM _,ih (i+1) _ (by omega) (by omega) (W.frame _ _ _ st' λb hb o e=>?_) hS2 λh3 tk3 k3 s3=>?_⟩
  ·rw [sb.2 b (λz:b=S=>hSf (by rw [<- z];exact hb))];exact e
  ·refine hR h3 tk3 (λb o hb e=>k3 b o hb ?_) s3
   rw [sb.2 b (λz:b=S=>hb (by rw [z];exact C0))]
   exact kp b o (λz=>hb (A0 _ z)) e
end L2
namespace L2
open PySem PySem.Spec PyProof.Rows
section
variable {P:Program} {w:World} {A:Around} {E:Value->Shared->Prop} {s:Shared}
theorem Nb (a:Value) {R:Value->Shared->Prop} {led:Bool} (hled:led=!w.params.followText "set-order") (h:R (.ref s.heap.objs.size) { s with heap:=s.heap.push { cls:=.type "set",dict:=none,data:=.set #[] 0 (.fresh 0 0 led) } }) :
  codeAny (model P w) A (.call (.builtin "set.__new__") ⟨[.type "set",a],[]⟩) (wants R E) s:=by
 refine codeAny_of_tree (?_:wpAny _ A.in1 (do checkBuiltinCall "set.__new__" ⟨[.type "set",a],[]⟩;again (.builtin "set.__new__" ⟨[.type "set",a],[]⟩)) _ _ s)
 refine wpAny_bind (wpAny_of_eq (PySem.F.newCall_set_1 a) (wpAny_pure ⟨plainId_quiet S8 _,codeAny_builtin PySem.F.entry_set_new ?_⟩))
 rw [Around.under_plainId S8 _]
 unfold Builtin.«set.__new__» Builtin.Frozenset.newClass
 have sub:=sub_set_self
 obtain ⟨hp,g,d,tk,os⟩:=s
 dsimp only
 wp_walk
 refine wpAny_askSetting (wpAny_pure ?_)
 dsimp only
 simp only [newObj]
 subst hled
 exact wpAny_bind (wpAny_alloc (wpAny_pure (wpAny_pure h)))
set_option maxHeartbeats 3200000 in
theorem Qx {l:Addr} {items:Array Value} {ns:List Int} {Q:Value->Shared->Prop} {led:Bool} (hled:led=!w.params.followText "set-order") (hh:A.handled=none) (hl:s.heap.IsList l items) (hi:PyProof.Rows.IntsAre items.toList ns) (hb:items.size+1<scanBound)
  (h:∀ (h':Heap) (tk:Nat),SI P w h' s.heap.objs.size led ((Q2 items.size).map λi=>ns.getD i 0) items.size->(∀ b o,s.heap.get? b=some o->h'.get? b=some o)->Q (.ref s.heap.objs.size) { s with heap:=h',toks:=tk }) :
  wpAny (model P w) A (call (.type "set") [.ref l]) Q E s:=by
 obtain ⟨c,tl,hmro⟩:=PySem.F.called_set.mro
 have hmade:=PySem.F.called_set.made
 have hsub:=PySem.F.called_set.sub
 refine wpAny_call (codeAny_of_tree (?_:wpAny _ _ (callAny (.type "set") _) _ _ _))
 refine wpAny_pure ⟨Code.quiet_builtin _ (by decide +kernel),codeAny_builtin PySem.F.entry_type_call ?_⟩
 rw [Around.under_plain (weight_type_call_type "set" [.ref l] []) rfl]
 have h1:=PySem.F.called_set.notType
 have h2:=PySem.F.called_set.canCreate
 have hct:=PySem.F.typeCall_set_1 (.ref l)
 repeat any_goals (first | assumption | wp_step)
 refine codeAny_mono (Nb (.ref l) (E:=E) hled (R:=λob s1=>ob=.ref s.heap.objs.size/\s1={ s with heap:=s.heap.push { cls:=.type "set",dict:=none,data:=.set #[] 0 (.fresh 0 0 led) } }) ⟨rfl,rfl⟩) λr s1 hr=>?_
 cases r with
 |error e=>exact hr
 |ok fl =>
  cases fl with
  |ret ob =>
   obtain ⟨rfl,rfl⟩:=hr
   have oS:(s.heap.push { cls:=.type "set",dict:=none,data:=.set #[] 0 (.fresh 0 0 led) }).get? s.heap.objs.size=some { cls:=.type "set",dict:=none,data:=.set #[] 0 (.fresh 0 0 led) }:=Heap.get?_push_size _ rfl
   have tS:Shared.TypeIs { s with heap:=s.heap.push { cls:=.type "set",dict:=none,data:=.set #[] 0 (.fresh 0 0 led) } } (.ref s.heap.objs.size) "set":=⟨_,oS,rfl⟩
   have li:=PySem.F.called_set.init.lookup
   have bi:=PySem.F.called_set.init.bind (.ref s.heap.objs.size)
   repeat any_goals (first | assumption | wp_step)
   refine codeAny_mono (codeAny_call_builtin (R:=wants (λr s2=>r=.none/\∃ h' tk,s2={ s with heap:=h',toks:=tk }/\SI P w h' s.heap.objs.size led ((Q2 items.size).map λi=>ns.getD i 0) items.size /\
     (∀ b o,s.heap.get? b=some o->h'.get? b=some o)) E) PySem.F.called_set.init.plain PySem.F.entry_set_init (check_set_init_1 tS ?_)) λr2 s2 hr2=>?_
   ·obtain ⟨ol,ho,hc,nl,hd⟩:=hl
    obtain ⟨ocls,odict,odata,oslots⟩:=ol
    simp only at hc hd
    subst hc;subst hd
    have ho1:(s.heap.push { cls:=.type "set",dict:=none,data:=.set #[] 0 (.fresh 0 0 led) }).get? l=some { cls:=.type "list",dict:=odict,data:=.seq items nl,slots:=oslots }:=Heap.get?_push_of_some _ ho
    have n1:=PySem.F.sub_list_set
    have n2:=PySem.F.sub_list_frozenset
    have n3:(Value.type "list" == Value.type "dict")=false:=by decide
    have hl1:(s.heap.push { cls:=.type "set",dict:=none,data:=.set #[] 0 (.fresh 0 0 led) }).IsList l items:=⟨_,ho1,rfl,nl,rfl⟩
    unfold Builtin.«set.__init__» noKeywords Builtin.Frozenset.updateFrom
    generalize ePI:pyIter=PI
    wp_walk
    subst ePI
    refine wpAny_pyIter_list hl1 (wpAny_bind (wpAny_runValue ?_))
    have hlS:l<s.heap.objs.size:=Heap.lt_size ho
    have hh3:A.in1.in1.in1.handled=none:=by simp [hh]
    have hne:l≠(s.heap.push { cls:=.type "set",dict:=none,data:=.set #[] 0 (.fresh 0 0 led) }).objs.size:=by
     rw [Heap.size_push];exact P1 (C5 hlS)
    have hSf:s.heap.objs.size∉[(s.heap.push { cls:=.type "set",dict:=none,data:=.set #[] 0 (.fresh 0 0 led) }).objs.size,l]:=by
     rw [Heap.size_push];simp only [L0,E1,or_false,not_or]
     exact ⟨P1 (c5 _),F8 hlS⟩
    have hval:∀ (i:Nat) (v:Value),items[i]?=some v->∃ t,v=.int ((λi=>ns.getD i 0) i) t:=λi v hv =>
     PyProof.Rows.IntsAre.int_at hi i v (by rw [N3];exact hv)
    refine Rc (led:=led) (Walks.list hh3 _ l hne items) s.heap.objs.size hSf (λi=>ns.getD i 0) hval hb (items.size-0) 0 _ (by omega) (D2 _)
     ⟨⟨_,Heap.get?_push_size _ rfl,rfl,rfl⟩,(hl1.push _)⟩ ?s0 ?sR
    case s0 =>
     refine ⟨#[],0,.fresh 0 0 led,⟨Heap.get?_push_of_some _ oS,λe he=>by simp at he,λe he=>by simp at he,by simp,by decide,rfl,Tb.fresh led⟩,λk=>by simp,by simp⟩
    case sR =>
     intro h' tk kp hS'
     refine wpAny_pure ?_
     exact wpAny_pure ⟨rfl,h',tk,rfl,hS',λb o e=>kp b o (by
      have hb:=Heap.lt_size e
      rw [Heap.size_push];simp only [L0,E1,or_false,not_or]
      exact ⟨P1 hb,P1 (C5 hb)⟩) (Heap.get?_push_of_some _ (Heap.get?_push_of_some _ e))⟩
   ·cases r2 with
    |error e=>exact hr2
    |ok fl2 =>
     cases fl2 with
     |ret r =>
      obtain ⟨rfl,h',tk,rfl,hS',k'⟩:=hr2
      repeat any_goals (first | assumption | wp_step)
      exact h _ _ hS' k'
     |_=>exact False.elim hr2
  |_=>exact False.elim hr
end
end L2
namespace L2
open PySem PySem.Spec PyProof.Rows
section
variable {P:Program} {w:World} {A:Around} {E:Value->Shared->Prop} {s:Shared}
theorem So {r:Addr} {Q:Bool->Shared->Prop} (hT:s.TypeIs (.ref r) "set") (h:Q false s):wpAny (model P w) A (Builtin.List.listLengthHint (.ref r)) Q E s:=by
 unfold Builtin.List.listLengthHint
 refine wpAny_bind (wpAny_specialOf hT PySem.F.slot_set_len.lookup ?_)
 generalize eid:("set.__len__":String)=id0
 wp_delta
 rw [show splitId id0=some ("set", "__len__") from by subst eid;decide +kernel]
 subst eid
 refine wpAny_bind (wpAny_isInstance (T:="set") (b:=true) hT sub_set_self ?_)
 refine wpAny_ite_split (λq=>absurd q (by decide)) (λ_=>wpAny_ite_split (λ_=>?_) (λq=>absurd (by decide +kernel) q))
 exact wpAny_bind (wpAny_typeOf hT (wpAny_pure h))
theorem Gq {Pv:Nat->Value->Prop} {acc:Array Value} {n:Nat} {Z:List Value} (h:ItemsOf Pv acc n) (hz:Z.length=n) (hp:∀ i v,Pv i v->Z[i]?=some v):acc.toList=Z:=by
 refine List.ext_getElem? λi=>?_
 rw [N3]
 by_cases hi:i<acc.size
 ·have e:=N2 hi
  rw [e,hp i _ (h.2 i _ e)]
 ·rw [W6 (by omega),X5 (by have:=h.1;omega)]
def He (P:Program) (w:World) (A:Around) (s:Shared) (S:Addr) (n:Nat) (Z:List Value):Prop:=∀ (E:Value->Shared->Prop) (Q:Value->Shared->Prop),
 (∀ (I:Addr) (fp:List Addr) (Pv:Nat->Value->Prop) (St:Nat->Heap->Prop) (h':Heap) (d:Drawn),s.heap.objs.size<=I->(∀ b∈fp,b=S\/s.heap.objs.size<=b)->Walks P w A I fp [I] n Pv St->St 0 h' ->
  (∀ b o,s.heap.get? b=some o->h'.get? b=some o)->(∀ acc:Array Value,ItemsOf Pv acc n->g4 acc.toList Z)->Q (.ref I) { s with heap:=h',drawn:=d })->wpAny (model P w) A (pyIter (.ref S)) Q E s
theorem Sk {S:Addr} {led:Bool} {es:Array (Int×Value)} {ep:Nat} {t:SetTable} (hh:A.handled=none) (at_:s.heap.get? S=some (HW es ep t)) (fits:t.fits es.size=true) (small:es.size<scanBound) (tbl:Tb t led) (hled:led=!w.params.followText "set-order"):He P w A s S es.size (es.toList.map (·.2)):=by
 intro E Q h
 have hlt:S<s.heap.objs.size:=Heap.lt_size at_
 have hlen:(es.toList.map (·.2)).length=es.size:=by simp
 refine Sj at_ fits (fits_of_scanBound small) (λq=>?_) (λhf ps d hp=>?_)
 ·cases ht:w.params.followText "set-order" with
  |true =>
   have hpm:=FC (w.params.setOrder S ep) es.size 0 es.toList #[] (by simp)
   have e1:(pickOrder (w.params.setOrder S ep) es).toList.Perm es.toList:=by simpa [pickOrder] using hpm
   refine h _ [s.heap.objs.size,S] _ _ _ s.drawn (P0 _) (λb hb=>?_) (Py (ep:=ep) hh fits ht (P1 hlt)) ⟨Heap.get?_push_size _ rfl,Heap.get?_push_of_some _ at_⟩ (λb o e=>Heap.get?_push_of_some _ e) λacc ha=>?_
   ·simp at hb
    rcases hb with e | e
    ·exact .inr (by rw [e];exact P0 _)
    ·exact .inl e
   ·rw [Gq (Z:=(pickOrder (w.params.setOrder S ep) es).toList.map (·.2)) ha (by rw [D0,e1.length_eq];simp) λi v hv=>by
     obtain ⟨e,he,rfl⟩:=hv
     rw [Q1,N3,he];rfl]
    exact e1.map _
  |false =>
   rw [ht] at q hled
   have hd:(!t.plain&&decide (es.size > 1))=false:=by simpa using q
   have tb:Tb t true:=by have:=tbl;rw [hled] at this;exact this
   refine h _ [s.heap.objs.size,S] _ _ _ s.drawn (P0 _) (λb hb=>?_) (Pz (ep:=ep) hh fits ht hd tb (P1 hlt)) ⟨⟨0,ST tb.rise,Heap.get?_push_size _ rfl⟩,Heap.get?_push_of_some _ at_⟩ (λb o e=>Heap.get?_push_of_some _ e) λacc ha=>?_
   ·simp at hb
    rcases hb with e | e
    ·exact .inr (by rw [e];exact P0 _)
    ·exact .inl e
   ·rw [Gq (Z:=es.toList.map (·.2)) ha hlen λi v hv=>by
     obtain ⟨e,he,rfl⟩:=hv
     rw [Q1,N3,he];rfl]
 ·have hl:ps.length=es.size:=by have:=hp.length_eq;simpa using this
  refine h _ [s.heap.objs.size+1,S,s.heap.objs.size] _ _ _ d (F5 _) (λb hb=>?_) (QK (T:=s.heap.objs.size) (ep:=ep) hh fits hp (P1 (C5 hlt)) (P1 (c5 _))) ⟨?_,?_,?_⟩ (λb o e=>Heap.get?_push_of_some _ (Heap.get?_push_of_some _ e)) λacc ha=>?_
  ·simp at hb
   rcases hb with e | e | e
   ·exact .inr (by rw [e];exact F5 _)
   ·exact .inl e
   ·exact .inr (by rw [e];exact P0 _)
  ·have:=Heap.get?_push_size (s.heap.push { cls:=.type "tuple",data:=.seq (ps.map λ(i:Nat)=>rawInt i).toArray }) (o:=CY (.ref s.heap.objs.size) 0 S es.size ep) rfl
   rw [Heap.size_push] at this
   exact this
  ·exact Heap.get?_push_of_some _ (Heap.get?_push_of_some _ at_)
  ·exact Heap.get?_push_of_some _ (Heap.get?_push_size _ rfl)
  ·have e1:(ps.filterMap λp=>es[p]?).Perm es.toList:=by
    refine (hp.filterMap _).trans ?_
    rw [filterMap_getElem?_range]
   have e2:∀ (qs:List Nat),(∀ p∈qs,p<es.size)->∀ (i p:Nat),qs[i]?=some p->(qs.filterMap λp=>es[p]?)[i]?=es[p]?:=by
    intro qs
    induction qs with
    |nil=>intro _ i p e;simp at e
    |cons a r ih =>
     intro hq i p e
     have ha:a<es.size:=hq a (by simp)
     rw [List.filterMap_cons_some (N2 ha)]
     cases i with
     |zero=>simp at e;rw [Q5,<- e,N2 ha]
     |succ i=>rw [L6];exact ih (λp hp=>hq p (by simp [hp])) i p (by simpa using e)
   rw [Gq (Z:=(ps.filterMap λp=>es[p]?).map (·.2)) ha (by rw [D0,e1.length_eq];simp) λi v hv=>by
    obtain ⟨p,e,h1,h2,rfl⟩:=hv
    rw [Q1,e2 ps (λp hp'=>c7.mp (hp.mem_iff.mp hp')) i p h1,h2];rfl]
   exact e1.map _
theorem iter_of {S:Addr} {led:Bool} {es:Array (Int×Value)} {ep:Nat} {t:SetTable} (hh:A.handled=none) (se:Se P w s.heap S led es ep t) (hled:led=!w.params.followText "set-order"):He P w A s S es.size (es.toList.map (·.2)):=Sk hh se.at_ se.fits se.small se.tb hled
theorem ext_of {R:Result->Shared->Prop} {S L:Addr} {n:Nat} {Z:List Value} {c:Nat} (hn:n<=sizeLine) (hT:s.TypeIs (.ref S) "set") (hS:S<s.heap.objs.size) (hLS:L≠S) (it:He P w A.in1 s S n Z) (hL:s.heap.get? L=some { cls:=.type "list",data:=.seq #[] c })
  (hR:∀ h' tk d acc c',(∀ b o,b≠L->s.heap.get? b=some o->h'.get? b=some o)->h'.get? L=some { cls:=.type "list",dict:=none,data:=.seq acc c',slots:=#[] }->g4 acc.toList Z->R (.ok (.ret (.ref L))) { s with heap:=h',toks:=tk,drawn:=d }) :
  wpAny (model P w) A.in1 (Builtin.List.listExtendWith (.ref L) (.ref S) (.ref L)) (λfin s'=>match fin with | .done f=>R (.ok f) s' | .again c'=>c'.quiet=true/\codeAny (model P w) A c' R s') (λe s'=>R (.error e) s') s:=by
 unfold Builtin.List.listExtendWith
 refine wpAny_bind (wpAny_typeOf (T:="set") hT ?_)
 have h1:Builtin.List.listSameRef (.ref L) (.ref S)=false:=by simp [Builtin.List.listSameRef,hLS]
 have h2:(Value.type "set" == Value.type "list")=false:=by decide
 have h3:(Value.type "set" == Value.type "tuple")=false:=by decide
 simp only [h1,h2,h3,N5,B7,if_false]
 refine wpAny_bind (it _ _ λI fp Pv St h' d hI hfp W st kp pm=>?_)
 have hlL:L<s.heap.objs.size:=Heap.lt_size hL
 have hLf:L∉fp:=λz=>(hfp L z).elim (λe=>hLS e) λe=>absurd hlL (Nat.not_lt.mpr e)
 have hL1:=kp _ _ hL
 have hT1:Shared.TypeIs { s with heap:=h',drawn:=d } (.ref S) "set":=by
  obtain ⟨o,e,c⟩:=hT
  exact ⟨o,kp _ _ e,c⟩
 refine wpAny_bind (wpAny_holding (So hT1 ?_))
 have key:∀ (h1:Heap) (c1 tk:Nat),St 0 h1->(∀ b o,b≠L->s.heap.get? b=some o->h1.get? b=some o)->h1.get? L=some { cls:=.type "list",data:=.seq #[] c1 } ->
   codeAny (model P w) A (.builtin "list.extend.loop" ⟨[.ref L,.ref I,.ref L],[]⟩) R { s with heap:=h1,toks:=tk,drawn:=d }:=by
  intro h1 c1 tk st1 k1 hL1
  refine codeAny_extend_loopS W.toS hn L hLf (.ref L) n 0 _ #[] c1 rfl (D2 _) st1 hL1 (ItemsOf.nil _) λs' acc' c' hm hL' hacc=>?_
  obtain ⟨h2,g2,d2,tk2,os2⟩:=s'
  have eg:g2=s.gens:=hm.gens
  have ed:d2=d:=hm.drawn
  have eo:os2=s.os:=hm.os
  subst eg;subst ed;subst eo
  refine hR h2 tk2 d2 acc' c' (λb o hb e=>hm.heap b o (λz=>?_) (k1 b o hb e)) hL' (pm _ hacc)
  rcases L0.mp z with z | z
  ·exact hb z
  ·rw [M0.mp z] at e
   exact absurd (Heap.lt_size e) (Nat.not_lt.mpr hI)
 refine wpAny_ite_split (λ_=>?_) (λ_=>wpAny_pure ⟨plainId_quiet g7 _,key _ c _ st (λb o _ e=>kp b o e) hL1⟩)
 refine wpAny_bind (wpAny_rule (wpAny_bind (?_:wpAny _ _ (updateSeq L (·.push .none) >>= λ_=>updateSeq L (·.pop)) _ _ _)))
 refine wpAny_bind (wpAny_updateSeq hL1 rfl ?_)
 have hL2:=Heap.get?_update_self (Obj.mapSeq (·.push Value.none)) hL1 rfl
 refine wpAny_updateSeq (hz:=by seq_fits) hL2 rfl ?_
 have hL3:=Heap.get?_update_self (Obj.mapSeq (·.pop)) hL2 rfl
 refine wpAny_pure ⟨plainId_quiet g7 _,key _ _ _ (W.frame 0 _ _ st λb hb o e=>?_) (λb o hb e=>?_) hL3⟩
 ·have hbL:b≠L:=λz=>hLf (z▸hb)
  exact (Heap.get?_update_other _ _ (Ne.symm hbL)).trans ((Heap.get?_update_other _ _ (Ne.symm hbL)).trans e)
 ·exact (Heap.get?_update_other _ _ (Ne.symm hb)).trans ((Heap.get?_update_other _ _ (Ne.symm hb)).trans (kp b o e))
end
end L2
namespace L2
open PySem PySem.Spec PyProof.Rows
section
variable {P:Program} {w:World} {A:Around} {E:Value->Shared->Prop} {s:Shared}
theorem col_of {S:Addr} {n:Nat} {Z:List Value} {R:List Value->Shared->Prop} (hn:n<=sizeLine) (hS:s.TypeIs (.ref S) "set") (hlt:S<s.heap.objs.size)
  (it:∀ s':Shared,(∀ b o,s.heap.get? b=some o->s'.heap.get? b=some o)->He P w A.in1 s' S n Z)
  (h:∀ h' tk d vs,(∀ b o,s.heap.get? b=some o->h'.get? b=some o)->s.heap.objs.size<h'.objs.size->g4 vs Z->R vs { s with heap:=h',toks:=tk,drawn:=d }):wpAny (model P w) A (collect (.ref S)) R E s:=by
 unfold collect
 refine wpAny_bind (wpAny_runValue (codeAny_builtin entry_proto_collect' ?_))
 rw [Around.under_plainId PySem.F.plain_proto_collect _]
 refine wpAny_bind (m:=newList []) (wpAny_newObj_type (wpAny_pure ⟨plainId_quiet v7 _,codeAny_builtin entry_list_iadd' ?_⟩))
 rw [Around.under_plainId v7 _]
 have hL:(s.heap.push { cls:=.type "list",data:=.seq ([]:List Value).toArray }).get? s.heap.objs.size=some { cls:=.type "list",data:=.seq #[] }:=Heap.get?_push_size _ rfl
 have kp:∀ b o,s.heap.get? b=some o->(s.heap.push { cls:=.type "list",data:=.seq ([]:List Value).toArray }).get? b=some o:=λb o e=>Heap.get?_push_of_some _ e
 have hT1:Shared.TypeIs { s with heap:=s.heap.push { cls:=.type "list",data:=.seq ([]:List Value).toArray } } (.ref S) "set":=by
  obtain ⟨o,e,c⟩:=hS
  exact ⟨o,kp _ _ e,c⟩
 have key:=ext_of (A:=A) (s:={ s with heap:=s.heap.push { cls:=.type "list",data:=.seq ([]:List Value).toArray } })
  (R:=λ(q:Result) (s':Shared)=>∃ h' tk d acc c',q=.ok (.ret (.ref s.heap.objs.size))/\s'={ s with heap:=h',toks:=tk,drawn:=d }/\(∀ b o,s.heap.get? b=some o->h'.get? b=some o) /\
   h'.get? s.heap.objs.size=some { cls:=.type "list",dict:=none,data:=.seq acc c',slots:=#[] }/\g4 acc.toList Z)
  hn hT1 (by show S<(s.heap.push _).objs.size;rw [Heap.size_push];exact C5 hlt) (F8 hlt) (it _ kp) hL
  (λh' tk d acc c' k1 hL' p=>⟨h',tk,d,acc,c',rfl,rfl,λb o e=>k1 b o (P1 (Heap.lt_size e)) (kp b o e),hL',p⟩)
 refine wpAny_mono key (λfin s' x=>?_) λe s' x=>?_
 ·cases fin with
  |done f =>
   obtain ⟨h',tk,d,acc,c',e,rfl,k1,hL',p⟩:=x
   cases e
   refine wpAny_bind (m:=load s.heap.objs.size) (wpAny_load hL' ?_)
   exact wpAny_pure (h h' tk d _ k1 (Heap.lt_size hL') p)
  |again c1 =>
   refine ⟨x.1,codeAny_mono x.2 λq s2 y=>?_⟩
   obtain ⟨h',tk,d,acc,c',rfl,rfl,k1,hL',p⟩:=y
   refine wpAny_bind (m:=load s.heap.objs.size) (wpAny_load hL' ?_)
   exact wpAny_pure (h h' tk d _ k1 (Heap.lt_size hL') p)
 ·obtain ⟨_,_,_,_,_,e',_⟩:=x
  cases e'
theorem Pg:∀ {vs:List Value},(∀ v∈vs,∃ n tk,v=Value.int n tk)->IntsAre vs (vs.map iv)
 |[],_=>.nil
 |v::r,h=>by
  obtain ⟨n,tk,rfl⟩:=h v (by simp)
  exact .cons n tk (Pg λv hv=>h v (by simp [hv]))
theorem pw_lt:∀ {ns:List Int},ns.Pairwise (·<=·)->ns.Nodup->ns.Pairwise (· < ·)
 |[],_,_=>.nil
 |x::r,h,n=>by
  rw [z6] at h |-
  rw [g0] at n
  exact ⟨λy hy=>Int.lt_iff_le_and_ne.mpr ⟨h.1 y hy,λe=>n.1 (by rw [e];exact hy)⟩,pw_lt h.2 n.2⟩
theorem NE {S:Addr} {led:Bool} {ms:List Int} {c:Nat} {Q:Value->Shared->Prop} (hh:A.handled=none) (hS:SI P w s.heap S led ms c) (hled:led=!w.params.followText "set-order") (hc:∀ us:List Int,us.Nodup->(∀ k,k∈us↔k∈ms)->us.length<64)
  (h:∀ D h' tk d e vs ns,s.heap.objs.size<=D->(∀ b o,s.heap.get? b=some o->h'.get? b=some o)->h'.get? D=some (seqObj "list" vs e)->IntsAre vs.toList ns->ns.Pairwise (· < ·)->(∀ k,k∈ns↔k∈ms)->Q (.ref D) { s with heap:=h',toks:=tk,drawn:=d }) :
  wpAny (model P w) A (call (.builtin "sorted") [.ref S]) Q E s:=by
 obtain ⟨es,ep,t,se,mem,_⟩:=hS
 have hlt:S<s.heap.objs.size:=Heap.lt_size se.at_
 have z:=fits_of_scanBound se.small
 refine Calls.call_function_entry kind_sorted plain_sorted entry_sorted (args_sorted1 _) ?_
 unfold Builtin.«sorted»
 refine wpAny_bind (m:=checkCount "sorted" 1 1 _) (wpAny_pure (wpAny_bind (col_of (n:=es.size) (Z:=es.toList.map (·.2)) z ⟨_,se.at_,rfl⟩ hlt (λs' k=>iter_of (by simp [hh]) ⟨k _ _ se.at_,se.el,se.all,se.nd,se.small,se.fits,se.tb⟩ hled) λh' tk d vs k1 ksz p=>?_)))
 have hall:∀ v∈vs,∃ n tk,v=Value.int n tk:=λv hv=>by
  obtain ⟨e,he,rfl⟩:=j1.mp (p.mem_iff.mp hv)
  exact se.all e he
 have hI:=Pg hall
 have p2:g4 (vs.map iv) (es.toList.map λe=>iv e.2):=by
  have:=p.map iv
  rwa [C4] at this
 have nd:(vs.map iv).Nodup:=p2.nodup_iff.mpr se.nd
 have me:∀ k,k∈vs.map iv↔k∈ms:=λk=>by rw [p2.mem_iff,mem k]
 have h64:vs.length<64:=by have:=hc _ nd me;simpa using this
 refine wpAny_bind (wpAny_newList ?_ (by rw [sizeLine_eq];omega))
 have hoL:(h'.push (seqObj "list" vs.toArray 0)).get? h'.objs.size=some (seqObj "list" vs.toArray 0):=Heap.get?_push_size _ rfl
 refine wpAny_bind (wpAny_holding (wpAny_call_entry slot_list_sort ⟨_,hoL,rfl⟩ entry_list_sort (list_sort_tree (s:={ s with heap:=h'.push (seqObj "list" vs.toArray 0),toks:=tk,drawn:=d }) hoL hI h64 λout ns a1 a2 a3=>⟨_,rfl,?_⟩) (args_list_sort _)))
 refine wpAny_pure ⟨_,rfl,?_⟩
 obtain ⟨e,he⟩:=sortedHeap_at (out:=out) hoL
 have nn:ns.Nodup:=a2.nodup_iff.mpr nd
 refine h h'.objs.size _ tk d e out ns ?_ (λb o q=>?_) he a1 (pw_lt a3 nn) λk=>by rw [a2.mem_iff,me k]
 ·exact F7 ksz
 ·have hb:=Heap.lt_size (k1 b o q)
  rw [sortedHeap_old (P1 hb) (by rw [Heap.size_push];exact C5 hb)]
  exact Heap.get?_push_of_some _ (k1 b o q)
end
end L2
namespace L2
open PySem PySem.Spec PyProof.Rows
theorem QA:bootBuiltins "sorted"=some (.builtin "sorted"):=by decide +kernel
theorem bt_set:bootBuiltins "set"=some (.type "set"):=by decide +kernel
theorem ia_of:∀ {ns:List Int} {us:List Value},AW (ns.map V.int) us->IntsAre us ns
 |[],_,.nil=>.nil
 |n::r,_,.cons hv hr=>by
  obtain ⟨t,rfl⟩:=hv
  exact .cons n t (ia_of hr)
theorem va_of:∀ {ns:List Int} {us:List Value},IntsAre us ns->AW (ns.map V.int) us
 |_,_,.nil=>.nil
 |_,_,.cons n t hr=>.cons ⟨t,rfl⟩ (va_of hr)
section
variable {X:Cx} {pins:List (Addr×Obj)} {σ:St} {H:Hp} {s:Shared}
theorem AK.laidD {a:Addr} {o:HO} {h':Heap} {t':Nat} {d':Drawn} (I:AK X pins σ H s) (k:∀ b u,s.heap.get? b=some u->h'.get? b=some u) (hp:s.heap.objs.size<=a) (new:Cm X.prog X.w (upd H a o) h' a o) :
  AK X pins σ (upd H a o) { s with heap:=h',toks:=t',drawn:=d' }:=by
 have I1:=I.laid (t':=t') k hp new
 exact ⟨I1.ok,I1.os,I1.bare,I1.base,I1.loc,I1.cell,I1.free,I1.freeC,I1.pin,I1.hok,I1.len⟩
def Ke (P:Program) (w:World) (S:Addr) (ns:List Int):HO:=.ext λh=>SI P w h S (!w.params.followText "set-order") ns ns.length
theorem NK:∀ (ns:List Int),(Q2 ns.length).map (λi=>ns.getD i 0)=ns:=λns=>by
 refine List.ext_getElem? λi=>?_
 rw [Q1]
 by_cases h:i<ns.length
 ·rw [List.getElem?_range h]
  simp [h]
 ·rw [X5 (by simp;omega),X5 (by omega)];rfl
theorem SQ {P:Program} {w:World} (eP:X.prog=P) (ew:X.w=w) (hc:X.calm=true):Ek X (.type "set") (λxs H Q=>∃ (p:Addr) (ns:List Int),xs=[.ref p]/\AH X.K H p (ns.map V.int)/\ns.length+1<scanBound/\∀ S,H S=none->Q (.ref S) (upd H S (Ke P w S ns))):=by
 subst eP ew
 intro pins s σ H xs us Q I r h
 obtain ⟨p,ns,rfl,hq,hb,q⟩:=h
 obtain ⟨u,rfl,rx⟩:=Er r
 cases rx
 obtain ⟨its,rv,pl,hz⟩:=I.list hq
 have hI:=ia_of rv
 have hlen:=rv.length
 rw [D0] at hlen
 refine Qx (ns:=ns) rfl (I.ok.hd hc) pl.isList (by simpa using hI) (by simp;omega) λh' tk hS k=>?_
 have ez:its.toArray.size=ns.length:=by rw [S0];omega
 rw [ez,NK] at hS
 refine ⟨.ref s.heap.objs.size,_,I.laidD (t':=tk) (d':=s.drawn) k (P0 _) (show Cm X.prog X.w _ h' _ (Ke X.prog X.w s.heap.objs.size ns) from ⟨hS,?_,λh1 h2 z k2=>z.at k2⟩),rfl,q _ (I.hok.fresh (P0 _))⟩
 obtain ⟨es,ep,t,se,_⟩:=hS
 exact ⟨_,se.at_⟩
theorem LG {P:Program} {w:World} (eP:X.prog=P) (ew:X.w=w) (hc:X.calm=true):Ek X (.builtin "sorted") (λxs H Q=>∃ (S:Addr) (ns:List Int),xs=[.ref S]/\H S=some (Ke P w S ns)/\(∀ us:List Int,us.Nodup->(∀ k,k∈us↔k∈ns)->us.length<64) /\
  ∀ (l:Addr) (ns':List Int),H l=none->ns'.Pairwise (· < ·)->(∀ k,k∈ns'↔k∈ns)->Q (.ref l) (upd H l (.lst (ns'.map V.int)))):=by
 subst eP ew
 intro pins s σ H xs us Q I r h
 obtain ⟨S,ns,rfl,hq,hb,q⟩:=h
 obtain ⟨u,rfl,rx⟩:=Er r
 cases rx
 obtain ⟨hS,_,_⟩:=(show Cm X.prog X.w H s.heap S (Ke X.prog X.w S ns) from I.hok S _ hq)
 refine NE (I.ok.hd hc) hS rfl hb λD h' tk d e vs ns' hD k he hI hpw hm=>?_
 have nd:ns'.Nodup:=hpw.imp λh=>Int.ne_of_lt h
 have h64:=hb ns' nd hm
 have hz2:(ns'.map V.int).length<=sizeLine:=by rw [D0,sizeLine_eq];omega
 exact ⟨.ref D,_,I.laidD (t':=tk) (d':=d) k hD (show Cm X.prog X.w _ _ _ (.lst (ns'.map V.int)) from ⟨hz2,vs.toList,e,va_of hI,by rw [X8];exact he⟩),rfl,q _ ns' (I.hok.fresh hD) hpw hm⟩
end
end L2
namespace K15
open PySem L2
@[elab_as_elim] theorem GD {α:Type} {P:List α->Prop} {us:List α} (h:us.length=1) (k:∀ a,P [a]):P us:=by
 match us,h with
 |[a],_=>exact k a
theorem lxC {α:Type} {P:List α->Prop} {us:List α} {n:Nat} (h:us.length=n+1) (k:∀ a r,r.length=n->P (a::r)):P us:=by
 cases us with
 |nil=>cases h
 |cons a r=>exact k a r (E5.inj h)
@[elab_as_elim] theorem MF {α:Type} {P:List α->Prop} {us:List α} (h:us.length=2) (k:∀ a b,P [a,b]):P us:=lxC h λa _ h=>GD (P:=λr=>P (a::r)) h (k a)
@[elab_as_elim] theorem lx3 {α:Type} {P:List α->Prop} {us:List α} (h:us.length=3) (k:∀ a b c,P [a,b,c]):P us:=lxC h λa _ h=>MF (P:=λr=>P (a::r)) h (k a)
@[elab_as_elim] theorem lx4 {α:Type} {P:List α->Prop} {us:List α} (h:us.length=4) (k:∀ a b c d,P [a,b,c,d]):P us:=lxC h λa _ h=>lx3 (P:=λr=>P (a::r)) h (k a)
@[elab_as_elim] theorem lx5 {α:Type} {P:List α->Prop} {us:List α} (h:us.length=5) (k:∀ a b c d e,P [a,b,c,d,e]):P us:=lxC h λa _ h=>lx4 (P:=λr=>P (a::r)) h (k a)
theorem Dh {c A B:Prop} [Decidable c] (hc:c) (h:A):if decide c=true then A else B:=by
 rw [if_pos (decide_eq_true hc)];exact h
theorem Du {c A B:Prop} [Decidable c] (hc:¬ c) (h:B):if decide c=true then A else B:=by
 rw [if_neg (by rw [decide_eq_false hc];exact N0)];exact h
theorem Hz {c A B:Prop} [Decidable c] (hc:¬ c) (h:A):if (!decide c)=true then A else B:=by
 rw [if_pos (by rw [decide_eq_false hc];rfl)];exact h
theorem GU {c A B:Prop} [Decidable c] (hc:c) (h:B):if (!decide c)=true then A else B:=by
 rw [if_neg (by rw [decide_eq_true hc];exact N0)];exact h
theorem Es {α β:Type} {f:α->β} {xs:List α} {i:Nat} {x:α} (h:xs[i]?=some x):(xs.take i).map f++[f x]=(xs.take (i+1)).map f:=by
 rw [A6,h,A1]
 rfl
def AL (z:Str):List Nat :=
 if z="group" then [3] else if z="limit" then [3,4] else if z="keep" then [2] else if z="try" then [2,4] else if z="do" then [2,3] else if z="when" then [4] else if z="repeat" then [3] else if z="errand" then [3] else []
def CB (z:Str):Nat :=
 if z="group" then 4 else if z="limit" then 5 else if z="keep" then 3 else if z="try" then 5 else if z="do" then 4 else if z="when" then 5 else if z="repeat" then 4 else if z="errand" then 4 else 0
theorem Dc (z:Str):(z="group"/\AL z=[3]/\CB z=4)\/(z="limit"/\AL z=[3,4]/\CB z=5)\/(z="keep"/\AL z=[2]/\CB z=3)\/(z="try"/\AL z=[2,4]/\CB z=5)\/(z="do"/\AL z=[2,3]/\CB z=4)\/(z="when"/\AL z=[4]/\CB z=5)\/(z="repeat"/\AL z=[3]/\CB z=4)\/(z="errand"/\AL z=[3]/\CB z=4) \/
  (AL z=[]/\z≠"group"/\z≠"limit"/\z≠"keep"/\z≠"try"/\z≠"do"/\z≠"when"/\z≠"repeat"/\z≠"errand"):=by
 by_cases h1:z="group"
 ·subst h1;exact .inl ⟨rfl,by decide +kernel,by decide +kernel⟩
 by_cases h2:z="limit"
 ·subst h2;exact .inr (.inl ⟨rfl,by decide +kernel,by decide +kernel⟩)
 by_cases h3:z="keep"
 ·subst h3;exact .inr (.inr (.inl ⟨rfl,by decide +kernel,by decide +kernel⟩))
 by_cases h4:z="try"
 ·subst h4;exact .inr (.inr (.inr (.inl ⟨rfl,by decide +kernel,by decide +kernel⟩)))
 by_cases h5:z="do"
 ·subst h5;exact .inr (.inr (.inr (.inr (.inl ⟨rfl,by decide +kernel,by decide +kernel⟩))))
 by_cases h6:z="when"
 ·subst h6;exact .inr (.inr (.inr (.inr (.inr (.inl ⟨rfl,by decide +kernel,by decide +kernel⟩)))))
 by_cases h7:z="repeat"
 ·subst h7;exact .inr (.inr (.inr (.inr (.inr (.inr (.inl ⟨rfl,by decide +kernel,by decide +kernel⟩))))))
 by_cases h8:z="errand"
 ·subst h8;exact .inr (.inr (.inr (.inr (.inr (.inr (.inr (.inl ⟨rfl,by decide +kernel,by decide +kernel⟩)))))))
 ·refine .inr (.inr (.inr (.inr (.inr (.inr (.inr (.inr (⟨?_,h1,h2,h3,h4,h5,h6,h7,h8⟩))))))))
  unfold AL
  rw [if_neg h1,if_neg h2,if_neg h3,if_neg h4,if_neg h5,if_neg h6,if_neg h7,if_neg h8]
def TV (v:V):Prop:=(∃ n:Int,v=.int n/\0<=n/\n<10000000)\/∃ z:Str,v=.str z/\z.length<=60
def QH (v:V):Prop:=∃ z:Str,v=.str z/\z.length<=60
theorem TV.int {n:Int} (h0:0<=n) (h1:n<10000000):TV (.int n):=.inl ⟨n,rfl,h0,h1⟩
theorem QH.tv {v:V} (h:QH v):TV v:=.inr h
def Cj (z:Str):Nat:=if z="when" then 2 else if z="keep" then 0 else if z="try" then 0 else if z="do" then 0 else 1
abbrev BH (z:Str):Prop:=z="try"\/z="do"\/z="limit"
abbrev LN (z:Str):Prop:=z="errand"\/z="group"\/z="limit"\/z="keep"\/z="try"\/z="do"\/z="when"\/z="repeat"
def Nu:List Addr->V->List V
 |[b0,b1],fa=>[.ref b0,fa,.ref b1]
 |_,_=>[]
def Gb:List Str:=["any", "ask", "begin", "but", "do", "end", "errand", "give", "group", "hear", "in", "keep", "last", "late", "let", "limit", "off", "raise", "repeat", "ring", "send", "take", "try", "wait", "when", "within"]
def JA (z:Str):Prop:=∀ c∈z.cps.toList,97<=c/\c<=122
structure CM (z:Str):Prop where
 lo:1<=z.length
 hi:z.length<=8
 low:JA z
 nk:z∉Gb
def lowB (z:Str):Bool:=z.cps.toList.all λc=>decide (97<=c/\c<=122)
theorem Pb {z:Str} (h:lowB z=true):JA z:=λc hc=>of_decide_eq_true (Y2.mp h c hc)
def nmB (z:Str):Bool:=decide (1<=z.length)&&decide (z.length<=8)&&lowB z&&!Gb.contains z
theorem RT {z:Str} (h:nmB z=true):CM z:=by
 unfold nmB at h
 simp only [Z1,decide_eq_true_eq,L7] at h
 exact ⟨h.1.1.1,h.1.1.2,Pb h.1.2,λm=>by rw [V8,decide_eq_true m] at h;exact absurd h.2 (by decide)⟩
def TdOk (z:Str):Prop:=∃ y:Str,z=(":":Str)++y/\1<=y.length/\y.length<=8/\JA y
def JP (v:V):Prop:=∃ z:Str,v=.str z/\CM z
def Ox (v:V):Prop:=(∃ n:Int,v=.int n/\0<=n/\n<=999999)\/∃ z:Str,v=.str z/\(CM z\/TdOk z)
def QC (lo hi:Int) (v:V):Prop:=∃ n:Int,v=.int n/\lo<=n/\n<=hi
inductive Nk:Str->List V->Prop
 |wait {v:V}:QC 1 99 v->Nk "wait" [v]
 |one {z:Str} {a:V}:z="hear"\/z="ring"\/z="raise"\/z="off"->JP a->Nk z [a]
 |val {z:Str} {a v:V}:z="send"\/z="let"->JP a->Ox v->Nk z [a,v]
 |two {z:Str} {a b:V}:z="take"\/z="ask"->JP a->JP b->Nk z [a,b]
 |begin {a b c v:V}:JP a->JP b->JP c->QC 0 99 v->Nk "begin" [a,b,c,v]
 |give {v:V}:Ox v->Nk "give" [v]
inductive Gc:Str->List V->V->Prop
 |name {z:Str} {a fa:V}:z="errand"\/z="group"->JP a->Gc z [a] fa
 |limit {v fa:V}:QC 1 99 v->Gc "limit" [v] fa
 |bare {z:Str} {fa:V}:z="keep"\/z="do"->Gc z [] fa
 |try_ {z:Str}:CM z\/z="any"->Gc "try" [] (.str z)
 |when {a v fa:V}:JP a->Ox v->Gc "when" [a,v] fa
 |rep {v fa:V}:QC 1 9 v->Gc "repeat" [v] fa
structure EV (z:Str) (r:List V) (th:List V) (fa:V) (bs:List Addr):Prop where
 w:LN z
 e:r=th++(if z="try" then Nu bs fa else bs.map V.ref)
 tv:∀ t∈th,TV t
 sv:z="when"->∀ t,th[0]?=some t->QH t
 tl:th.length=Cj z
 fv:(z="try"->QH fa)/\Gc z th fa
 two:BH z->bs.length=2
 one:¬ BH z->bs.length=1
structure HS (z:Str) (r:List V):Prop where
 p:AL z=[]
 l:z.length<=10
 tv:∀ t∈r,TV t
 rl:r.length<=4
 b:(z="begin"->∃ (a b c:Str) (l:Int),r=[.str a,.str b,.str c,.int l]/\0<=l)/\Nk z r
def Jz (z:Str) (r:List V):Prop:=∃ (ln:Int) (r':List V),r=.int ln::r'/\(HS z r'\/∃ th fa bs,EV z r' th fa bs)
def CL:List V->List V
 |.str z::r=>(AL z).filterMap λi=>(V.str z::r)[i]?
 |_=>[]
def Dp (z:Str) (n:Nat):Prop:=2<=n/\(z="errand"↔n=22)
def AF:Nat->Hp->V->Prop
 |0,_,_=>False
 |n+1,H,v=>∃ (a:Addr) (z:Str) (r:List V),v=.ref a/\H a=some (.tup (.str z::r))/\Jz z r/\(AL z≠[]->r.length+1=CB z/\Dp z n) /\
   ∀ p∈CL (.str z::r),∃ (b:Addr) (ys:List V),p=.ref b/\H b=some (.tup ys)/\∀ y∈ys,AF n H y
def AN (n:Nat) (H:Hp) (v:V):Prop:=∃ (b:Addr) (ys:List V),v=.ref b/\H b=some (.tup ys)/\∀ y∈ys,AF n H y
theorem AF.same {H H':Hp} (s:Ag H H'):∀ {n:Nat} {v:V},AF n H v->AF n H' v
 |0,_,h=>h
 |n+1,v,h=>by
  obtain ⟨a,z,r,e1,e2,e3,e4,e5⟩:=h
  refine ⟨a,z,r,e1,s a _ e2,e3,e4,λp hp=>?_⟩
  obtain ⟨b,ys,f1,f2,f3⟩:=e5 p hp
  exact ⟨b,ys,f1,s b _ f2,λy hy=>(f3 y hy).same s⟩
theorem AN.same {H H':Hp} (s:Ag H H') {n:Nat} {v:V} (h:AN n H v):AN n H' v:=by
 obtain ⟨b,ys,e1,e2,e3⟩:=h
 exact ⟨b,ys,e1,s b _ e2,λy hy=>(e3 y hy).same s⟩
def Bn (H:Hp):V->List V
 |.ref a=>match H a with
  |some (.tup xs)=>CL xs
  |_=>[]
 |_=>[]
theorem BV {H:Hp} {a:Addr} {xs:List V} (h:H a=some (.tup xs)):Bn H (.ref a)=CL xs:=by
 show (match H a with | some (.tup xs)=>CL xs | _=>[])=_
 rw [h]
theorem BF (z:Str) (r:List V):CL (.str z::r)=(AL z).filterMap λi=>(V.str z::r)[i]?:=rfl
theorem Hq {z:Str} {r:List V} (h:AL z≠[]->r.length+1=CB z):∀ p∈AL z,p<(V.str z::r).length:=by
 intro p hp
 rw [J0]
 rcases Dc z with ⟨_,ep,el⟩ | ⟨_,ep,el⟩ | ⟨_,ep,el⟩ | ⟨_,ep,el⟩ | ⟨_,ep,el⟩ | ⟨_,ep,el⟩ | ⟨_,ep,el⟩ | ⟨_,ep,el⟩ | ⟨ep,_⟩
 all_goals
  rw [ep] at hp h
  simp only [L0,E1,or_false] at hp
 all_goals
  have h':=h (by simp)
  rw [el] at h'
  omega
theorem snoc_fm {α β:Type} {f:α->Option β} {xs:List α} {i:Nat} {x:α} {y:β} (h:xs[i]?=some x) (hf:f x=some y):(xs.take i).filterMap f++[y]=(xs.take (i+1)).filterMap f:=by
 rw [A6,h,List.filterMap_append]
 simp [hf]
def Bq:Nat->Hp->V->List V
 |0,_,_=>[]
 |n+1,H,.ref b=>match H b with
  |some (.tup ys)=>ys.flatMap λy=>y::(Bn H y).flatMap (Bq n H)
  |_=>[]
 |_+1,_,_=>[]
theorem Bd {n:Nat} {H:Hp} {b:Addr} {ys:List V} (h:H b=some (.tup ys)):Bq (n+1) H (.ref b)=ys.flatMap λy=>y::(Bn H y).flatMap (Bq n H):=by
 show (match H b with | some (.tup ys)=>ys.flatMap λy=>y::(Bn H y).flatMap (Bq n H) | _=>[])=_
 rw [h]
theorem AF.parts_same {n:Nat} {H H':Hp} {v:V} (h:AF n H v) (s:Ag H H'):Bn H' v=Bn H v:=by
 cases n with
 |zero=>exact h.elim
 |succ n =>
  obtain ⟨a,z,r,rfl,e2,_⟩:=h
  rw [BV e2,BV (s a _ e2)]
theorem AF.parts_ok {n:Nat} {H:Hp} {v:V} (h:AF (n+1) H v):∀ p∈Bn H v,AN n H p:=by
 obtain ⟨a,z,r,rfl,e2,_,_,e5⟩:=h
 rw [BV e2]
 exact e5
theorem AC {α β:Type} {f g:α->List β}:∀ {xs:List α},(∀ x∈xs,f x=g x)->xs.flatMap f=xs.flatMap g
 |[],_=>rfl
 |x::r,h=>by
  rw [N1,N1,h x C0,AC λy hy=>h y (A0 _ hy)]
theorem Gj {H H':Hp} (s:Ag H H'):∀ {n:Nat} {v:V},AN n H v->Bq (n+1) H' v=Bq (n+1) H v:=by
 intro n
 induction n with
 |zero =>
  intro v h
  obtain ⟨b,ys,rfl,e2,e3⟩:=h
  rw [Bd e2,Bd (s b _ e2)]
  exact AC λy hy=>(e3 y hy).elim
 |succ n ih =>
  intro v h
  obtain ⟨b,ys,rfl,e2,e3⟩:=h
  rw [Bd e2,Bd (s b _ e2)]
  refine AC λy hy=>?_
  rw [(e3 y hy).parts_same s]
  congr 1
  exact AC λp hp=>ih ((e3 y hy).parts_ok p hp)
theorem BS {α β:Type} {f:α->List β} {xs:List α} {i:Nat} {x:α} (h:xs[i]?=some x):(xs.take (i+1)).flatMap f=(xs.take i).flatMap f++f x:=by
 rw [A6,h,L3]
 simp
theorem DT {α β:Type} {f:α->List β} (xs:List α) (i:Nat):((xs.take i).flatMap f).length<=(xs.flatMap f).length:=by
 have e:xs.flatMap f=(xs.take i).flatMap f++(xs.drop i).flatMap f:=by rw [<- L3,T8]
 rw [e,B0]
 omega
theorem Co {H H2:Hp} {l:Addr} {o:HO} (s:Ag H H2) (h:H l=none):Ag H (upd H2 l o):=λb u e=>by rw [Aq (AG e h)];exact s b u e
theorem join1:∀ cs:List Nat,(Txt.join "" (cs.map λc=>(⟨#[c]⟩:Str))).length=cs.length:=by
 intro cs
 show (Builtin.Str.glued _ _).length=_
 rw [StrLaws.glued_eq_join]
 induction cs with
 |nil=>rfl
 |cons c r ih =>
  cases r with
  |nil=>rfl
  |cons d r =>
   show ((⟨#[c]⟩:Str)++""++Str.join "" (d6 (λc=>(⟨#[c]⟩:Str)) (d::r))).length=_
   have e:∀ a b:Str,(a++b).length=a.length+b.length:=λa b=>M7
   rw [e,e,ih]
   show 1+(Str.ofString "").length+_=_
   rw [show (Str.ofString "").length=0 by decide +kernel]
   simp only [J0]
   omega
theorem CQ (a b:Str):(a++b).length=a.length+b.length:=M7
theorem EA:∀ zs:List Str,(zs.map V.str).all Dy=true
 |[]=>rfl
 |_::r=>by rw [S1,y6,EA r];rfl
theorem Jo {ns:List Int} {i:Nat} {y:V} (h:(ns.map V.int)[i]?=some y):∃ n,y=V.int n/\ns[i]?=some n:=by
 rw [Q1] at h
 cases e:ns[i]? with
 |none=>rw [e] at h;cases h
 |some n=>rw [e] at h;exact ⟨n,(Z2.inj h).symm,rfl⟩
theorem pick {xs:List V} {m:Int} (h0:0<=m) (h1:m<xs.length):∃ v,Nm xs m=some v/\v∈xs:=by
 have hlt:m.toNat<xs.length:=by omega
 refine ⟨xs[m.toNat],?_,Q4 hlt⟩
 have hat:=AV (xs:=xs) (j:=m.toNat) (v:=xs[m.toNat]) (by simp [hlt])
 rw [show ((m.toNat:Nat):Int)=m by omega] at hat
 exact hat
def Rq:V->Bool
 |.str z=>decide (z.length<=20)
 |_=>false
theorem NF {xs:List V} (h:xs.all Rq=true):∀ v∈xs,∃ z:Str,v=.str z/\z.length<=20:=by
 intro v hv
 have:=Y2.mp h v hv
 cases v with
 |str z=>exact ⟨z,rfl,of_decide_eq_true this⟩
 |_=>cases this
theorem sum1:∀ cs:List Nat,(d6 ((λx=>x.length) ∘ λc=>(⟨#[c]⟩:Str)) cs).sum=cs.length:=by
 intro cs
 induction cs with
 |nil=>rfl
 |cons c r ih=>rw [S1,V3,ih,J0];show 1+_=_;omega
theorem Lv {c A B:Prop} [Decidable c] (ha:A) (hb:B):if c then A else B:=by
 by_cases e:c
 ·rw [if_pos e];exact ha
 ·rw [if_neg e];exact hb
theorem Mn {xs:List V} (h:0<xs.length):∃ v,Nm xs (-1)=some v/\v∈xs/\xs[xs.length-1]?=some v:=by
 have hlt:xs.length-1<xs.length:=by omega
 refine ⟨xs[xs.length-1],?_,Q4 hlt,u0 hlt⟩
 unfold Nm ixN
 rw [if_neg (by decide),if_pos (by omega)]
 simp only [J6]
 rw [show ((-1:Int)+(xs.length:Nat)).toNat=xs.length-1 by omega]
 exact u0 hlt
theorem Dg {K:K0} {H:Hp} {p:Addr} {xs:List V} {m:Int} {Q:VK} (hp:AH K H p xs) (h0:0<=m) (h1:m<xs.length) (k:∀ v∈xs,Q v H):Ew K (.ref p) (.int m) H Q:=by
 obtain ⟨v,e,hv⟩:=pick h0 h1
 exact ⟨p,_,_,_,rfl,rfl,hp,e,k v hv⟩
theorem mod_lt {x:Int} {n:Nat} (h:1<=n):0<=x%(n:Int)/\x%(n:Int)<n:=⟨W7 _ (by omega),A7 _ (by omega)⟩
def Bf (H H':Hp):Prop:=∀ (a:Addr) (xs:List V),H a=some (.tup xs)->H' a=some (.tup xs)
theorem CM.st {z:Str} (h:CM z):z.length<=60:=Q0 h.hi (by decide)
theorem CM.tv {z:Str} (h:CM z):TV (.str z):=.inr ⟨z,rfl,h.st⟩
def nmS:V->Bool
 |.str z=>nmB z
 |_=>false
theorem nmS_all {xs:List V} (h:xs.all nmS=true):∀ v∈xs,JP v:=by
 intro v hv
 have:=Y2.mp h v hv
 cases v with
 |str z=>exact ⟨z,rfl,RT this⟩
 |_=>cases this
def tdB (z:Str):Bool:=match z.cps.toList with
 |c::r=>decide (c=58)&&decide (1<=r.length)&&decide (r.length<=8)&&r.all λc=>decide (97<=c/\c<=122)
 |[]=>false
theorem El {a b:Str} (h:a.cps.toList=b.cps.toList):a=b:=by
 cases a;cases b
 simp only [Str.mk.injEq]
 exact Array.toList_inj.mp h
theorem By (a b:Str):(a++b).cps.toList=a.cps.toList++b.cps.toList:=by
 show (a.cps++b.cps).toList=_
 exact u5
theorem Ei (a:Str):a.length=a.cps.toList.length:=rfl
theorem tdB_of {z:Str} (h:tdB z=true):TdOk z:=by
 unfold tdB at h
 split at h
 ·rename_i c r e
  simp only [Z1,decide_eq_true_eq] at h
  refine ⟨⟨r.toArray⟩,El ?_,h.1.1.2,h.1.2,λx hx=>of_decide_eq_true (Y2.mp h.2 x hx)⟩
  rw [By,e,h.1.1.1,show (Str.ofString ":").cps.toList=[58] by decide +kernel]
  rfl
 ·cases h
theorem Pa {a b:Str} (ha:JA a) (hb:JA b):JA (a++b):=λc hc=>by
 rw [By] at hc
 rcases T0.mp hc with q | q
 ·exact ha c q
 ·exact hb c q
theorem keys_q:∀ k∈Gb,(113:Nat)∉k.cps.toList:=by decide +kernel
theorem has_q {z:Str} (h:(113:Nat)∈z.cps.toList):z∉Gb:=λm=>keys_q z m h
theorem low_q:JA "q":=Pb (by decide +kernel)
theorem q_cps:(Str.ofString "q").cps.toList=[113]:=by decide +kernel
theorem Ry {z y:Str} (hz:JA z) (hy:∀ c∈y.cps.toList,c∈z.cps.toList) (hl:y.length<=7):CM (y++"q")/\CM ("q"++y):=by
 have ly:JA y:=λc hc=>hz c (hy c hc)
 have e1:(y++("q":Str)).length=y.length+1:=by rw [CQ];rfl
 have e2:(("q":Str)++y).length=1+y.length:=by rw [CQ];rfl
 exact ⟨⟨by omega,by omega,Pa ly low_q,has_q (by rw [By,q_cps];simp)⟩,⟨by omega,by omega,Pa low_q ly,has_q (by rw [By,q_cps];simp)⟩⟩
theorem keys_z:∀ k∈Gb,nmB ((Str.ofString "z")++k)=true:=by decide +kernel
theorem Lu:∀ cs:List Nat,(Txt.join "" (cs.map λc=>(⟨#[c]⟩:Str))).cps.toList=cs:=by
 intro cs
 show (Builtin.Str.glued _ _).cps.toList=_
 rw [StrLaws.glued_eq_join]
 induction cs with
 |nil=>rfl
 |cons c r ih =>
  cases r with
  |nil=>rfl
  |cons d r =>
   show ((⟨#[c]⟩:Str)++(Str.ofString "")++Str.join "" (d6 (λc=>(⟨#[c]⟩:Str)) (d::r))).cps.toList=_
   rw [By,By,ih,show (Str.ofString "").cps.toList=[] by decide +kernel]
   rfl
theorem abc_low:("abcdefghijklmnopqrstuvwxyz":Str).cps.toList.all (λc=>decide (97<=c/\c<=122))=true:=by decide +kernel
theorem in_keys {z:Str} {xs:List Str}:DH (.str z) (xs.map V.str)=decide (z∈xs):=by
 unfold DH
 induction xs with
 |nil=>rfl
 |cons a r ih =>
  rw [S1,x6,ih]
  show ((a == z)||decide (z∈r))=decide (z∈a::r)
  by_cases e:a=z
  ·rw [e];simp
  ·have:z≠a:=λh=>e h.symm
   simp [e,this]
theorem Sl {b:Bool} {A B:Prop} (h:b=true) (a:A):if b=true then A else B:=by rw [if_pos h];exact a
theorem iteF' {b:Bool} {A B:Prop} (h:b=false) (a:B):if b=true then A else B:=by rw [h,if_neg N0];exact a
theorem Ou (z:Str) (lo hi:Option Int):∀ c∈(EW z lo hi).cps.toList,c∈z.cps.toList:=λc hc=>by
 unfold EW at hc
 exact List.mem_of_mem_drop (List.mem_of_mem_take (by simpa using hc))
theorem LC (z:Str) (lo hi:Option Int):(EW z lo hi).length=min (HT.sIx z.length z.length hi-HT.sIx z.length 0 lo) (z.length-HT.sIx z.length 0 lo):=by
 unfold EW
 show (((z.cps.toList.drop _).take _).toArray).size=_
 rw [S0,K2,K6]
 rfl
theorem cut_m1 {z:Str} (h:1<=z.length) (h8:z.length<=8):(EW z none (some (-1))).length<=7:=by
 rw [LC,HT.sIx_none]
 have:HT.sIx z.length z.length (some (-1))=z.length-1:=by
  unfold HT.sIx
  simp
  omega
 omega
theorem cut_f1 {z:Str} (h:1<=z.length) (h8:z.length<=8):(EW z (some 1) none).length<=7:=by
 rw [LC,HT.sIx_none]
 have:HT.sIx z.length 0 (some ((1:Nat):Int))=min 1 z.length:=HT.sIx_nat _ _ _
 have e:HT.sIx z.length 0 (some 1)=min 1 z.length:=this
 omega
theorem cut_t7 (z:Str):(EW z none (some 7)).length<=7:=by
 rw [LC,HT.sIx_none]
 have e:HT.sIx z.length z.length (some 7)=min 7 z.length:=HT.sIx_nat z.length z.length 7
 omega
theorem AF.sameT {H H':Hp} (s:Bf H H'):∀ {n:Nat} {v:V},AF n H v->AF n H' v
 |0,_,h=>h
 |n+1,v,h=>by
  obtain ⟨a,z,r,e1,e2,e3,e4,e5⟩:=h
  refine ⟨a,z,r,e1,s a _ e2,e3,e4,λp hp=>?_⟩
  obtain ⟨b,ys,f1,f2,f3⟩:=e5 p hp
  exact ⟨b,ys,f1,s b _ f2,λy hy=>(f3 y hy).sameT s⟩
theorem AN.sameT {H H':Hp} (s:Bf H H') {n:Nat} {v:V} (h:AN n H v):AN n H' v:=by
 obtain ⟨b,ys,e1,e2,e3⟩:=h
 exact ⟨b,ys,e1,s b _ e2,λy hy=>(e3 y hy).sameT s⟩
theorem AF.parts_sameT {n:Nat} {H H':Hp} {v:V} (h:AF n H v) (s:Bf H H'):Bn H' v=Bn H v:=by
 cases n with
 |zero=>exact h.elim
 |succ n =>
  obtain ⟨a,z,r,rfl,e2,_⟩:=h
  rw [BV e2,BV (s a _ e2)]
theorem LO {H H':Hp} (s:Bf H H'):∀ {n:Nat} {v:V},AN n H v->Bq (n+1) H' v=Bq (n+1) H v:=by
 intro n
 induction n with
 |zero =>
  intro v h
  obtain ⟨b,ys,rfl,e2,e3⟩:=h
  rw [Bd e2,Bd (s b _ e2)]
  exact AC λy hy=>(e3 y hy).elim
 |succ n ih =>
  intro v h
  obtain ⟨b,ys,rfl,e2,e3⟩:=h
  rw [Bd e2,Bd (s b _ e2)]
  refine AC λy hy=>?_
  rw [(e3 y hy).parts_sameT s]
  congr 1
  exact AC λp hp=>ih ((e3 y hy).parts_ok p hp)
def Bp (n:Nat) (H:Hp) (y:V):List V:=y::(Bn H y).flatMap (Bq n H)
theorem Cp {H H':Hp} (s:Bf H H') {n:Nat} {y:V} (h:AF n H y):Bp n H' y=Bp n H y:=by
 unfold Bp
 rw [h.parts_sameT s]
 congr 1
 cases n with
 |zero=>exact h.elim
 |succ n=>exact AC λp hp=>LO s (h.parts_ok p hp)
set_option genInjectivity false in
structure Fr where
 f:Addr
 t:Addr
 L:Addr
 ps:List Addr
 z:Str
 fa:V
 th:List V
 rss:List (List V)
 c:Nat
def Fr.own (F:Fr):List Addr:=F.f::F.L::F.ps
structure Ea (H:Hp) (n:Nat) (F:Fr):Prop where
 hf:H F.f=some (.lst [.str F.z,.ref F.t,.ref F.L,F.fa])
 ht:H F.t=some (.tup F.th)
 hL:H F.L=some (.lst (F.ps.map V.ref))
 hp:∀ (i:Nat) (p:Addr) (rs:List V),F.ps[i]?=some p->F.rss[i]?=some rs->H p=some (.lst rs)
 len:F.ps.length=F.rss.length
 one:F.ps.length=1\/(F.ps.length=2/\BH F.z)
 word:LN F.z
 things:F.th.length=Cj F.z
 tv:∀ t∈F.th,TV t
 sv:F.z="when"->∀ t,F.th[0]?=some t->QH t
 fv:(F.z="try"->QH F.fa)/\Gc F.z F.th F.fa
 rows:∀ rs∈F.rss,∀ r∈rs,AF n H r
 wt:(F.rss.flatMap λrs=>rs.flatMap (Bp n H)).length<=F.c
theorem Ea.move {H H':Hp} {n:Nat} {F:Fr} (h:Ea H n F) (s:Bf H H') (o:∀ a∈F.own,H' a=H a):Ea H' n F where
 hf:=by rw [o F.f C0];exact h.hf
 ht:=s _ _ h.ht
 hL:=by rw [o F.L (A0 _ C0)];exact h.hL
 hp:=λi p rs h1 h2=>by rw [o p (A0 _ (A0 _ (d0 h1)))];exact h.hp i p rs h1 h2
 len:=h.len
 one:=h.one
 word:=h.word
 things:=h.things
 tv:=h.tv
 sv:=h.sv
 fv:=h.fv
 rows:=λrs hrs r hr=>(h.rows rs hrs r hr).sameT s
 wt:=by
  have e:(F.rss.flatMap λrs=>rs.flatMap (Bp n H'))=F.rss.flatMap λrs=>rs.flatMap (Bp n H) :=
   AC λrs hrs=>AC λr hr=>Cp s (h.rows rs hrs r hr)
  rw [e];exact h.wt
theorem AE {H H':Hp} (s:Ag H H'):Bf H H':=λa _ h=>s a _ h
theorem Ea.here {H:Hp} {n:Nat} {F:Fr} (h:Ea H n F):∀ a∈F.own,∃ xs,H a=some (.lst xs):=by
 intro a ha
 rcases L0.mp ha with rfl | ha
 ·exact ⟨_,h.hf⟩
 rcases L0.mp ha with rfl | ha
 ·exact ⟨_,h.hL⟩
 obtain ⟨i,hi⟩:=D4 ha
 have hlt:i<F.rss.length:=by
  have:=(W0.mp hi).1
  have:=h.len
  omega
 exact ⟨_,h.hp i a _ hi (u0 hlt)⟩
theorem Ea.same {H H':Hp} {n:Nat} {F:Fr} (h:Ea H n F) (s:Ag H H'):Ea H' n F :=
 h.move (AE s) λa ha=>by
  obtain ⟨xs,e⟩:=h.here a ha
  rw [e];exact s a _ e
def mkE (w:World) (x:Str×Tok×Value):DictEntry:=⟨PyData.keyHash w.params x.1,.str x.1 x.2.1,x.2.2⟩
theorem SK {P:Program} {w:World} {K:K0} {p:Addr} {ep:Nat} (L:List (Str×Tok×Value)) {kvs:List (DX×V)} (l:K.lookup p=some ⟨.type "dict",none,.dict (L.map (mkE w)).toArray ep,#[]⟩) (s:(p == sysModules)=false) (nd:(L.map (·.1)).Nodup) (kv:KV kvs (L.map λx=>((.inr x.1:DX),x.2.2))):QF P w K p kvs:=by
 refine ⟨s,λh X=>⟨L.map λx=>((.inr x.1:DX),x.2.2),kv,_,_,_,X _ _ l,⟨rfl,rfl,rfl⟩,rfl,?_,?_,?_⟩⟩
 ·intro e he
  have he':e∈L.map (mkE w):=by rw [<- List.mem_toArray];exact he
  obtain ⟨x,_,rfl⟩:=j1.mp he'
  exact ⟨.inr x.1,Bj _ x.2.1,rfl⟩
 ·show Pairs _ (L.map (mkE w)).toArray.toList _
  rw [List.toList_toArray]
  clear l nd kv
  induction L with
  |nil=>exact .nil
  |cons x r ih=>exact .cons (Bj _ x.2.1) rfl ih
 ·rw [C4]
  have e:(λx=>x.1) ∘ (λx:Str×Tok×Value=>((.inr x.1:DX),x.2.2))=(Sum.inr:Str->DX) ∘ (λx:Str×Tok×Value=>x.1):=rfl
  rw [e,<- C4]
  exact List.Pairwise.map _ (λa b h q=>h (Sum.inr.inj q)) nd
def FORMS:List Str:=["errand NAME", "wait N", "hear NAME", "ring NAME", "send NAME VALUE", "take NAME NAME", "let NAME VALUE", "raise NAME", "begin NAME NAME in NAME", "begin NAME NAME in NAME within N", "ask NAME NAME", "off NAME", "give VALUE", "group NAME", "limit N", "late", "keep", "try", "but NAME", "but any", "do", "last", "when NAME VALUE", "repeat ROUNDS", "end"]
def TWS:List Str:=["late", "but", "last"]
def GRkv:List (DX×V):=[(.inr "N",.int 99),(.inr "ROUNDS",.int 9)]
def Oy:List (DX×V):=[(.inr "limit",.str "late"),(.inr "try",.str "but"),(.inr "do",.str "last")]
structure InGR (w:World) (K:K0):Prop where
 ex:∃ (p:Addr) (t1 t2 u1 u2:Tok) (ep:Nat),A2 K mainGlobals "GREATEST"=some (some (.ref p))/\(p == sysModules)=false /\
  K.lookup p=some ⟨.type "dict",none,.dict #[⟨PyData.keyHash w.params "N",.str "N" t1,.int 99 u1⟩,⟨PyData.keyHash w.params "ROUNDS",.str "ROUNDS" t2,.int 9 u2⟩] ep,#[]⟩
theorem InGR.of {w:World} {K:K0} {p:Addr} {t1 t2 u1 u2:Tok} {ep:Nat} (a:A2 K mainGlobals "GREATEST"=some (some (.ref p)))
  (l:K.lookup p=some ⟨.type "dict",none,.dict #[⟨PyData.keyHash w.params "N",.str "N" t1,.int 99 u1⟩,⟨PyData.keyHash w.params "ROUNDS",.str "ROUNDS" t2,.int 9 u2⟩] ep,#[]⟩) (s:(p == sysModules)=false):InGR w K:=⟨⟨p,t1,t2,u1,u2,ep,a,s,l⟩⟩
theorem InGR.get {P:Program} {w:World} {K:K0} {mg:Str->Option Value} {h:Heap} (i:InGR w K) (X:K.In h) (G:h.Ns mainGlobals mg):∃ a:Addr,mg "GREATEST"=some (.ref a)/\QF P w K a GRkv:=by
 obtain ⟨p,t1,t2,u1,u2,ep,a,s,l⟩:=i.ex
 refine ⟨p,A3 X G a,SK [("N",t1,.int 99 u1),("ROUNDS",t2,.int 9 u2)] l s ?_ ?_⟩
 ·show (["N", "ROUNDS"]:List Str).Nodup
  decide +kernel
 ·exact .cons ⟨rfl,_,rfl⟩ (.cons ⟨rfl,_,rfl⟩ .nil)
structure InTU (w:World) (K:K0):Prop where
 ex:∃ (p:Addr) (t1 t2 t3 u1 u2 u3:Tok) (ep:Nat),A2 K mainGlobals "TURNS"=some (some (.ref p))/\(p == sysModules)=false /\
  K.lookup p=some ⟨.type "dict",none,.dict #[⟨PyData.keyHash w.params "limit",.str "limit" t1,.str "late" u1⟩,⟨PyData.keyHash w.params "try",.str "try" t2,.str "but" u2⟩,⟨PyData.keyHash w.params "do",.str "do" t3,.str "last" u3⟩] ep,#[]⟩
theorem InTU.of {w:World} {K:K0} {p:Addr} {t1 t2 t3 u1 u2 u3:Tok} {ep:Nat} (a:A2 K mainGlobals "TURNS"=some (some (.ref p)))
  (l:K.lookup p=some ⟨.type "dict",none,.dict #[⟨PyData.keyHash w.params "limit",.str "limit" t1,.str "late" u1⟩,⟨PyData.keyHash w.params "try",.str "try" t2,.str "but" u2⟩,⟨PyData.keyHash w.params "do",.str "do" t3,.str "last" u3⟩] ep,#[]⟩) (s:(p == sysModules)=false):InTU w K:=⟨⟨p,t1,t2,t3,u1,u2,u3,ep,a,s,l⟩⟩
theorem InTU.get {P:Program} {w:World} {K:K0} {mg:Str->Option Value} {h:Heap} (i:InTU w K) (X:K.In h) (G:h.Ns mainGlobals mg):∃ a:Addr,mg "TURNS"=some (.ref a)/\QF P w K a Oy:=by
 obtain ⟨p,t1,t2,t3,u1,u2,u3,ep,a,s,l⟩:=i.ex
 refine ⟨p,A3 X G a,SK [("limit",t1,.str "late" u1),("try",t2,.str "but" u2),("do",t3,.str "last" u3)] l s ?_ ?_⟩
 ·show (["limit", "try", "do"]:List Str).Nodup
  decide +kernel
 ·exact .cons ⟨rfl,_,rfl⟩ (.cons ⟨rfl,_,rfl⟩ (.cons ⟨rfl,_,rfl⟩ .nil))
def Jn:List Nat->List Value->Bool
 |[],[]=>true
 |i::r,.int j _::us=>j == (i:Int)&&Jn r us
 |_,_=>false
theorem MN:∀ {is:List Nat} {us:List Value},Jn is us=true->AW (is.map λi=>V.int (i:Nat)) us:=by
 intro is
 induction is with
 |nil =>
  intro us h
  cases us with
  |nil=>exact .nil
  |cons u r=>cases h
 |cons i r ih =>
  intro us h
  cases us with
  |nil=>cases h
  |cons u us =>
   cases u with
   |int j t =>
    have h':(j == (i:Int)&&Jn r us)=true:=h
    rw [Z1] at h'
    have e:j=(i:Int):=by simpa using h'.1
    subst e
    exact .cons ⟨t,rfl⟩ (ih h'.2)
   |_=>cases h
structure InI (K:K0) (b:Addr) (is:List Nat):Prop where
 ex:∃ (dd:Option Addr) (its:Array Value) (n:Nat) (sl:Array (Option Value)),K.lookup b=some ⟨.type "tuple",dd,.seq its n,sl⟩/\its.size<=sizeLine/\Jn is its.toList=true
theorem InI.of {K:K0} {b:Addr} {is:List Nat} {dd:Option Addr} {its:Array Value} {n:Nat} {sl:Array (Option Value)} (l:K.lookup b=some ⟨.type "tuple",dd,.seq its n,sl⟩) (s:its.size<=sizeLine) (v:Jn is its.toList=true):InI K b is:=⟨⟨dd,its,n,sl,l,s,v⟩⟩
theorem InI.sq {K:K0} {b:Addr} {is:List Nat} (i:InI K b is) (H:Hp):BN K H b (is.map λi=>V.int (i:Nat)):=by
 obtain ⟨dd,its,n,sl,l,s,v⟩:=i.ex
 exact .inr ⟨_,its,n,l,rfl,rfl,s,MN v⟩
structure InPP (w:World) (K:K0):Prop where
 ex:∃ (p b1 b2 b3 b4 b5 b6 b7:Addr) (t1 t2 t3 t4 t5 t6 t7:Tok) (ep:Nat),A2 K mainGlobals "PART_PLACES"=some (some (.ref p))/\(p == sysModules)=false /\
  K.lookup p=some ⟨.type "dict",none,.dict #[⟨PyData.keyHash w.params "group",.str "group" t1,.ref b1⟩,⟨PyData.keyHash w.params "limit",.str "limit" t2,.ref b2⟩,⟨PyData.keyHash w.params "keep",.str "keep" t3,.ref b3⟩,⟨PyData.keyHash w.params "try",.str "try" t4,.ref b4⟩,⟨PyData.keyHash w.params "do",.str "do" t5,.ref b5⟩,⟨PyData.keyHash w.params "when",.str "when" t6,.ref b6⟩,⟨PyData.keyHash w.params "repeat",.str "repeat" t7,.ref b7⟩] ep,#[]⟩ /\
  InI K b1 [3]/\InI K b2 [3,4]/\InI K b3 [2]/\InI K b4 [2,4]/\InI K b5 [2,3]/\InI K b6 [4]/\InI K b7 [3]
theorem InPP.of {w:World} {K:K0} {p b1 b2 b3 b4 b5 b6 b7:Addr} {t1 t2 t3 t4 t5 t6 t7:Tok} {ep:Nat} (a:A2 K mainGlobals "PART_PLACES"=some (some (.ref p))) 
  (l:K.lookup p=some ⟨.type "dict",none,.dict #[⟨PyData.keyHash w.params "group",.str "group" t1,.ref b1⟩,⟨PyData.keyHash w.params "limit",.str "limit" t2,.ref b2⟩,⟨PyData.keyHash w.params "keep",.str "keep" t3,.ref b3⟩,⟨PyData.keyHash w.params "try",.str "try" t4,.ref b4⟩,⟨PyData.keyHash w.params "do",.str "do" t5,.ref b5⟩,⟨PyData.keyHash w.params "when",.str "when" t6,.ref b6⟩,⟨PyData.keyHash w.params "repeat",.str "repeat" t7,.ref b7⟩] ep,#[]⟩)
  (s:(p == sysModules)=false) (q1:InI K b1 [3]) (q2:InI K b2 [3,4]) (q3:InI K b3 [2]) (q4:InI K b4 [2,4]) (q5:InI K b5 [2,3]) (q6:InI K b6 [4]) (q7:InI K b7 [3]):InPP w K :=
 ⟨⟨p,b1,b2,b3,b4,b5,b6,b7,t1,t2,t3,t4,t5,t6,t7,ep,a,s,l,q1,q2,q3,q4,q5,q6,q7⟩⟩
def PPW:List Str:=["group", "limit", "keep", "try", "do", "when", "repeat"]
theorem PD {L:List (Str×V)} (z:Str):(valV (L.map λx=>((.inr x.1:DX),x.2)) (.inr z)).isSome=decide (z∈L.map (·.1)):=by
 unfold valV
 rw [Option.isSome_map]
 induction L with
 |nil=>rfl
 |cons x r ih =>
  rw [S1,S1,j0]
  by_cases e:x.1=z
  ·subst e
   simp
  ·have n1:decide ((Sum.inr x.1:DX)=Sum.inr z)=false:=decide_eq_false λq=>e (Sum.inr.inj q)
   have n2:¬ z=x.1:=λq=>e q.symm
   simp only [n1,ih,L0,n2,false_or]
theorem InPP.get {P:Program} {w:World} {K:K0} {mg:Str->Option Value} {h:Heap} (i:InPP w K) (X:K.In h) (G:h.Ns mainGlobals mg):∃ (pp:Addr) (pkv:List (DX×V)),mg "PART_PLACES"=some (.ref pp)/\QF P w K pp pkv/\(∀ z:Str,(valV pkv (.inr z)).isSome=decide (z∈PPW)) /\
  ∀ z:Str,z≠"errand"->(AL z=[]->valV pkv (.inr z)=none)/\(AL z≠[]->∃ b,valV pkv (.inr z)=some (.ref b)/\∀ H:Hp,BN K H b ((AL z).map λi=>V.int (i:Nat))):=by
 obtain ⟨p,b1,b2,b3,b4,b5,b6,b7,t1,t2,t3,t4,t5,t6,t7,ep,a,s,l,q1,q2,q3,q4,q5,q6,q7⟩:=i.ex
 refine ⟨p,[(.inr "group",.ref b1),(.inr "limit",.ref b2),(.inr "keep",.ref b3),(.inr "try",.ref b4),(.inr "do",.ref b5),(.inr "when",.ref b6),(.inr "repeat",.ref b7)],A3 X G a,⟨s,λh' X'=>⟨[(.inr "group",.ref b1),(.inr "limit",.ref b2),(.inr "keep",.ref b3),(.inr "try",.ref b4),(.inr "do",.ref b5),(.inr "when",.ref b6),(.inr "repeat",.ref b7)],?_,_,_,_,X' _ _ l,⟨rfl,rfl,rfl⟩,rfl,?_,?_,?_⟩⟩,λz=>PD (L:=[("group",.ref b1),("limit",.ref b2),("keep",.ref b3),("try",.ref b4),("do",.ref b5),("when",.ref b6),("repeat",.ref b7)]) z,λz nz=>?_⟩
 ·exact .cons ⟨rfl,rfl⟩ (.cons ⟨rfl,rfl⟩ (.cons ⟨rfl,rfl⟩ (.cons ⟨rfl,rfl⟩ (.cons ⟨rfl,rfl⟩ (.cons ⟨rfl,rfl⟩ (.cons ⟨rfl,rfl⟩ .nil))))))
 ·intro e he
  have he':=Y8.mpr he
  simp only [L0,E1,or_false] at he'
  rcases he' with rfl | rfl | rfl | rfl | rfl | rfl | rfl
  ·exact ⟨.inr "group",Bj _ t1,rfl⟩
  ·exact ⟨.inr "limit",Bj _ t2,rfl⟩
  ·exact ⟨.inr "keep",Bj _ t3,rfl⟩
  ·exact ⟨.inr "try",Bj _ t4,rfl⟩
  ·exact ⟨.inr "do",Bj _ t5,rfl⟩
  ·exact ⟨.inr "when",Bj _ t6,rfl⟩
  ·exact ⟨.inr "repeat",Bj _ t7,rfl⟩
 ·exact .cons (Bj _ t1) rfl (.cons (Bj _ t2) rfl (.cons (Bj _ t3) rfl (.cons (Bj _ t4) rfl (.cons (Bj _ t5) rfl (.cons (Bj _ t6) rfl (.cons (Bj _ t7) rfl .nil))))))
 ·show ([.inr "group",.inr "limit",.inr "keep",.inr "try",.inr "do",.inr "when",.inr "repeat"]:List DX).Nodup
  decide +kernel
 ·have ne:∀ {y z:Str},y≠z->decide ((Sum.inr y:DX)=Sum.inr z)=false:=λh=>decide_eq_false λe=>h (Sum.inr.inj e)
  have eq:∀ (y:Str),decide ((Sum.inr y:DX)=Sum.inr y)=true:=λy=>decide_eq_true rfl
  unfold valV
  rcases Dc z with ⟨rfl,ep,_⟩ | ⟨rfl,ep,_⟩ | ⟨rfl,ep,_⟩ | ⟨rfl,ep,_⟩ | ⟨rfl,ep,_⟩ | ⟨rfl,ep,_⟩ | ⟨rfl,ep,_⟩ | ⟨rfl,ep,_⟩ | ⟨ep,n1,n2,n3,n4,n5,n6,n7,n8⟩
  ·refine ⟨λh=>absurd (ep.symm.trans h) (by decide),λ_=>⟨b1,?_,λH=>by rw [ep];exact q1.sq H⟩⟩
   rw [j0,eq];rfl
  ·refine ⟨λh=>absurd (ep.symm.trans h) (by decide),λ_=>⟨b2,?_,λH=>by rw [ep];exact q2.sq H⟩⟩
   rw [j0,ne (by decide +kernel),j0,eq];rfl
  ·refine ⟨λh=>absurd (ep.symm.trans h) (by decide),λ_=>⟨b3,?_,λH=>by rw [ep];exact q3.sq H⟩⟩
   rw [j0,ne (by decide +kernel),j0,ne (by decide +kernel),j0,eq];rfl
  ·refine ⟨λh=>absurd (ep.symm.trans h) (by decide),λ_=>⟨b4,?_,λH=>by rw [ep];exact q4.sq H⟩⟩
   rw [j0,ne (by decide +kernel),j0,ne (by decide +kernel),j0,ne (by decide +kernel),j0,eq];rfl
  ·refine ⟨λh=>absurd (ep.symm.trans h) (by decide),λ_=>⟨b5,?_,λH=>by rw [ep];exact q5.sq H⟩⟩
   rw [j0,ne (by decide +kernel),j0,ne (by decide +kernel),j0,ne (by decide +kernel),j0,ne (by decide +kernel),j0,eq];rfl
  ·refine ⟨λh=>absurd (ep.symm.trans h) (by decide),λ_=>⟨b6,?_,λH=>by rw [ep];exact q6.sq H⟩⟩
   rw [j0,ne (by decide +kernel),j0,ne (by decide +kernel),j0,ne (by decide +kernel),j0,ne (by decide +kernel),j0,ne (by decide +kernel),j0,eq];rfl
  ·refine ⟨λh=>absurd (ep.symm.trans h) (by decide),λ_=>⟨b7,?_,λH=>by rw [ep];exact q7.sq H⟩⟩
   rw [j0,ne (by decide +kernel),j0,ne (by decide +kernel),j0,ne (by decide +kernel),j0,ne (by decide +kernel),j0,ne (by decide +kernel),j0,ne (by decide +kernel),j0,eq];rfl
  ·exact absurd rfl nz
  ·refine ⟨λ_=>?_,λh=>absurd ep h⟩
   rw [j0,ne (Ne.symm n1),j0,ne (Ne.symm n2),j0,ne (Ne.symm n3),j0,ne (Ne.symm n4),j0,ne (Ne.symm n5),j0,ne (Ne.symm n6),j0,ne (Ne.symm n7)];rfl

def top (i:Nat):Stmt:=PySem.Challenge.pw_nightwatch_k15_whole_there_and_back.main.body.getD i (.Pass ⟨0,0,0,0⟩)

set_option genInjectivity false in
structure Tx (P:Program) (w:World) (K:K0) (mg:Str->Option Value) where
 d_l_parts:EE K mg "_law_parts" (top 53) ["_law_row"]
 d_l_cell_at:EE K mg "_law_cell_at" (top 41) ["_law_script", "_law_k"]
 d_l_mixed:EE K mg "_law_mixed" (top 42) ["_law_x"]
 d_l_stream:EE K mg "_law_stream" (top 43) ["_law_cell", "_law_many"]
 d_l_name_by:EE K mg "_law_name_by" (top 44) ["_law_x"]
 d_l_names:EE K mg "_law_names" (top 45) ["_law_x"]
 d_l_value_by:EE K mg "_law_value_by" (top 46) ["_law_x", "_law_names_here"]
 d_l_plain:EE K mg "_law_plain" (top 47) ["_law_x", "_law_names_here"]
 d_l_opened:EE K mg "_law_opened" (top 48) ["_law_x", "_law_names_here"]
 d_l_closed:EE K mg "_law_closed" (top 49) ["_law_frame"]
 d_l_put:EE K mg "_law_put" (top 50) ["_law_errands", "_law_stack", "_law_x", "_law_names_here", "_law_deep"]
 d_l_program:EE K mg "_law_program" (top 51) ["_law_cells", "_law_names_here", "_law_deep"]
 d_l_words:EE K mg "_law_words" (top 52) ["_law_row"]
 d_l_turning:EE K mg "_law_turning" (top 54) ["_law_row"]
 d_l_lines:EE K mg "_law_lines" (top 55) ["_law_rows", "_law_deep"]
 d_l_alike:EE K mg "_law_alike" (top 59) ["_law_found", "_law_due"]
 d_is_letters:EE K mg "is_letters" (top 8) ["text"]
 d_is_name:EE K mg "is_name" (top 9) ["thing"]
 d_is_told_word:EE K mg "is_told_word" (top 10) ["text"]
 d_is_value:EE K mg "is_value" (top 11) ["thing"]
 d_is_block_word:EE K mg "is_block_word" (top 12) ["word"]
 d_number_of:EE K mg "number_of" (top 22) ["word"]
 d_bounded:EE K mg "bounded" (top 23) ["word", "least", "greatest"]
 d_value_of:EE K mg "value_of" (top 24) ["word"]
 d_field_of:EE K mg "field_of" (top 25) ["slot", "word"]
 d_fitted:EE K mg "fitted" (top 26) ["slots", "words", "field_at"]
 d_first_fit:EE K mg "first_fit" (top 27) ["forms", "words", "field_at"]
 d_row_of:EE K mg "row_of" (top 28) ["fields", "number"]
 d_read:EE K mg "read" (top 31) ["text"]
 d_l_spread:EE K mg "_law_spread" (top 60) ["_law_words_here", "_law_xs"]
 d_l_text:EE K mg "_law_text" (top 61) ["_law_program_here", "_law_x"]
 d_begin_words:EE K mg "begin_words" (top 34) ["row"]
 d_head_words:EE K mg "head_words" (top 35) ["row"]
 d_turn_words:EE K mg "turn_words" (top 36) ["row"]
 d_written:EE K mg "written" (top 38) ["program"]
 d_numbered:EE K mg "numbered" (top 39) ["program"]
 d_parts:EE K mg "parts" (top 13) ["row"]
 d_walk:EE K mg "walk" (top 14) ["rows"]
 d_l_rising:EE K mg "_law_rising" (top 62) ["_law_program_here"]
 C_Unended:Addr
 k_Unended:Nl K C_Unended
 h_Unended:mg "Unended"=some (.ref C_Unended)
 n_Unended_head:Cv K C_Unended "head"
 n_Unended_rows:Cv K C_Unended "rows"
 n_Unended_turned:Cv K C_Unended "turned"
 n_Unended_turn_fields:Cv K C_Unended "turn_fields"
 n_Unended_others:Cv K C_Unended "others"
 m_Unended___init__:Fx K C_Unended "__init__" "Unended.__init__" (AB (top 29) 0) ["self", "head"]
 m_Unended_put:Fx K C_Unended "put" "Unended.put" (AB (top 29) 1) ["self", "row"]
 m_Unended_may_turn:Fx K C_Unended "may_turn" "Unended.may_turn" (AB (top 29) 2) ["self", "word"]
 m_Unended_turn:Fx K C_Unended "turn" "Unended.turn" (AB (top 29) 3) ["self", "turn_fields"]
 m_Unended_may_end:Fx K C_Unended "may_end" "Unended.may_end" (AB (top 29) 4) ["self"]
 m_Unended_whole:Fx K C_Unended "whole" "Unended.whole" (AB (top 29) 5) ["self"]
 M_Unended:Mk K C_Unended m_Unended___init__.f
 C_Reading:Addr
 k_Reading:Nl K C_Reading
 h_Reading:mg "Reading"=some (.ref C_Reading)
 n_Reading_program:Cv K C_Reading "program"
 n_Reading_unended:Cv K C_Reading "unended"
 m_Reading___init__:Fx K C_Reading "__init__" "Reading.__init__" (AB (top 30) 0) ["self"]
 m_Reading_allows:Fx K C_Reading "allows" "Reading.allows" (AB (top 30) 1) ["self", "word"]
 m_Reading_put_line:Fx K C_Reading "put_line" "Reading.put_line" (AB (top 30) 2) ["self", "fields", "number"]
 m_Reading_end_innermost:Fx K C_Reading "end_innermost" "Reading.end_innermost" (AB (top 30) 3) ["self"]
 m_Reading_is_whole:Fx K C_Reading "is_whole" "Reading.is_whole" (AB (top 30) 4) ["self"]
 M_Reading:Mk K C_Reading m_Reading___init__.f
 C_Writing:Addr
 k_Writing:Nl K C_Writing
 h_Writing:mg "Writing"=some (.ref C_Writing)
 n_Writing_lines:Cv K C_Writing "lines"
 m_Writing___init__:Fx K C_Writing "__init__" "Writing.__init__" (AB (top 37) 0) ["self"]
 m_Writing_put_line:Fx K C_Writing "put_line" "Writing.put_line" (AB (top 37) 1) ["self", "words", "deep"]
 m_Writing_put_turn:Fx K C_Writing "put_turn" "Writing.put_turn" (AB (top 37) 2) ["self", "row", "deep"]
 m_Writing_put_rows:Fx K C_Writing "put_rows" "Writing.put_rows" (AB (top 37) 3) ["self", "rows", "deep"]
 m_Writing_put_row:Fx K C_Writing "put_row" "Writing.put_row" (AB (top 37) 4) ["self", "row", "deep"]
 M_Writing:Mk K C_Writing m_Writing___init__.f
 kwa:Addr
 kwm:mg "KEY_WORDS"=some (.ref kwa)
 kwt:∀ H:Hp,BN K H kwa (Gb.map V.str)
 fma:Addr
 fmm:mg "FORMS"=some (.ref fma)
 fmt:∀ H:Hp,BN K H fma (FORMS.map V.str)
 twa:Addr
 twm:mg "TURN_WORDS"=some (.ref twa)
 twt:∀ H:Hp,BN K H twa (TWS.map V.str)
 mlt:Tok
 mlm:mg "MOST_LETTERS"=some (.int 8 mlt)
 mvt:Tok
 mvm:mg "MOST_VALUE"=some (.int 999999 mvt)
 mft:Tok
 mfm:mg "MOST_FIGURES"=some (.int 6 mft)
 mdt:Tok
 mdm:mg "MOST_DEEP"=some (.int 20 mdt)
 gra:Addr
 grm:mg "GREATEST"=some (.ref gra)
 grd:QF P w K gra GRkv
 tua:Addr
 tum:mg "TURNS"=some (.ref tua)
 tud:QF P w K tua Oy
 pp:Addr
 ppm:mg "PART_PLACES"=some (.ref pp)
 pkv:List (DX×V)
 pd:QF P w K pp pkv
 pis:∀ z:Str,(valV pkv (.inr z)).isSome=decide (z∈PPW)
 pv:∀ z:Str,z≠"errand"->(AL z=[]->valV pkv (.inr z)=none)/\(AL z≠[]->∃ b,valV pkv (.inr z)=some (.ref b)/\∀ H:Hp,BN K H b ((AL z).map λi=>V.int (i:Nat)))
 stt:Tok
 stm:mg "STEP_IN"=some (.str "  " stt)
 n_len:mg "len"=none
 n_isinstance:mg "isinstance"=none
 n_list:mg "list"=none
 n_tuple:mg "tuple"=none
 n_int:mg "int"=none
 n_range:mg "range"=none
 n_enumerate:mg "enumerate"=none
 n_str:mg "str"=none
 n_bool:mg "bool"=none
 n_all:mg "all"=none
 n_zip:mg "zip"=none
 n_sorted:mg "sorted"=none
 n_set:mg "set"=none
section
variable {P:Program} {w:World} {K:K0} {mg:Str->Option Value} {base:Heap}
local macro_rules
  | `(tactic| walk_at $s:str) => do
  let e <- match s.getString with
   |"sx"=>pure ""
   |"sy"=>pure "tLst tTup QY "
   |"sw"=>pure "tLst tTup QY tLc Ph iStr iTup "
   |_=>Lean.Macro.throwUnsupported
  let a:=((e++"L2.start cxOf_K SN tSeq tAsg Kt tRet tRetN tDrop tIfS QT tB tNot tAnd tOr tAndV tOrV tNotV tOp tUn IB tC JS Nx tStrs tCB OG Ny tBM tBM0 tPart OF tSl tIf tNext tTrue EH Option.bind_none J6 Option.join_some if_true rI rI0 rU rEq rNe OS rSlS Sb tyV S1 x3 J0 K1 Y0 X2 D3 o0 Nat.reduceAdd Nat.reduceSub D8 J7 E8 Q5 L6 List.set_cons_zero List.set_cons_succ QX sFld QU QV").splitOn " ").toArray.map λx=>Lean.mkIdent x.toName
  let b:=a++(("A5 V.int.injEq V.str.injEq V.ref.injEq V.bl.injEq V.ty.injEq M6.injEq exists_eq_left exists_eq_left' exists_eq_right exists_and_left exists_eq and_true true_and and_self and_assoc").splitOn " ").toArray.map λx=>Lean.mkIdent x.toName
  `(tactic| (try dsimp only [$[$a:term],*]; try simp only [$[$b:term],*]))




seal PE PT PW PA PS LL PG PGs PI PC PTs PO
def Rn (K:K0):Sp:=λvs H Q _=>∃ (a:Addr) (ns:List Int) (k:Int),vs=[.ref a,.int k]/\AH K H a (ns.map V.int)/\ns.length<=63/\0<=k/\∀ n:Int,Q (.int n) H
def KQ:Sp:=λvs H Q _=>∃ x:Int,vs=[.int x]/\∀ r:Int,0<=r->r<2147483647->Q (.int r) H
def EY:Sp:=λvs H Q _=>∃ c m:Int,vs=[.int c,.int m]/\0<=m/\m<=100/\∀ (l:Addr) (ns:List Int) (H':Hp),H l=none->(ns.length:Int)=m->(∀ n∈ns,0<=n/\n<2147483647)->H' l=some (.lst (ns.map V.int))->Ag H H'->Q (.ref l) H'
def IH:Sp:=λvs H Q _=>∃ (v:V) (n:Nat),vs=[v]/\AF n H v/\∀ (p:Addr) (H':Hp),H p=none->H' p=some (.lst (Bn H v))->Ag H H'->Q (.ref p) H'
def Rk:Sp:=λ_ _ _ _=>False
theorem Pl {f:Addr} {fd:FuncData} {ps:List Str} {k:Nat}:Au P w K mg base CX0 k f fd ps Rk:=⟨λ_ _ _ _ h=>h.elim,λ_ _ _ _ _ _ _ _ _ _ _ _ _ h=>h.elim⟩
def Ma:Sp:=λvs H Q _=>∃ x:Int,vs=[.int x]/\0<=x/\∀ (z:Str) (H':Hp),CM z->Ag H H'->Q (.str z) H'
def ES (H:Hp) (l:Addr):Prop:=∃ zs:List Str,H l=some (.lst (zs.map V.str))/\1<=zs.length/\zs.length<=9/\∀ z∈zs,CM z
def OK:Sp:=λvs H Q _=>∃ x:Int,vs=[.int x]/\∀ (l:Addr) (H':Hp),H l=none->ES H' l->Ag H H'->Q (.ref l) H'
theorem Jc {zs:List Str} (h:∀ z∈zs,CM z) {v:V} (hv:v∈zs.map V.str):TV v:=by
 obtain ⟨z,hz,rfl⟩:=j1.mp hv
 exact .inr ⟨z,rfl,Q0 (h z hz).hi (by decide)⟩
theorem RW {zs:List Str} (h:∀ z∈zs,CM z) {v:V} (hv:v∈zs.map V.str):QH v:=by
 obtain ⟨z,hz,rfl⟩:=j1.mp hv
 exact ⟨z,rfl,Q0 (h z hz).hi (by decide)⟩
def Hi:Sp:=λvs H Q _=>∃ (x:Int) (l:Addr),vs=[.int x,.ref l]/\0<=x/\ES H l/\∀ (v:V) (H':Hp),TV v->Ox v->Ag H H'->Q v H'
def KN:Sp:=λvs H Q _=>∃ (x:Int) (l:Addr),vs=[.int x,.ref l]/\0<=x/\ES H l/\∀ (p:Addr) (z:Str) (r:List V) (H':Hp),H p=none->H' p=some (.tup (.str z::r))->Jz z r->AL z=[]->Ag H H'->Q (.ref p) H'
def Pu (H H':Hp) (F:Fr):Prop:=(∀ n,Ea H' n F)/\F.own.Nodup/\(∀ a∈F.own,H a=none)/\F.c=0/\Ag H H'
def LZ:Sp:=λvs H Q _=>∃ (x:Int) (l:Addr),vs=[.int x,.ref l]/\0<=x/\ES H l/\∀ (F:Fr) (H':Hp),Pu H H' F->F.z≠"errand"->Q (.ref F.f) H'
def ThOk (z:Str) (th:List V) (fa:V):Prop:=th.length=Cj z/\(∀ t∈th,TV t)/\(z="when"->∀ t,th[0]?=some t->QH t)/\((z="try"->QH fa)/\Gc z th fa)
theorem LQ {z:Str} {v fa:V} (h:(1:Nat)=Cj z) (hw:z≠"when") (ht:z≠"try") (hv:TV v) (fb:Gc z [v] fa):ThOk z [v] fa:=⟨h,λt ht=>by rw [M0.mp ht];exact hv,λe=>absurd e hw,λe=>absurd e ht,fb⟩
theorem QQ {z:Str} {fa:V} (h:(0:Nat)=Cj z) (hf:z="try"->QH fa) (fb:Gc z [] fa):ThOk z [] fa:=⟨h,(λ_ h=>nomatch h),(λ_ _ h=>nomatch h),hf,fb⟩
theorem Lm {H G G3:Hp} {t p L f:Addr} {z:Str} {fa:V} {th:List V} (s:Ag H G) (ht:G t=some (.tup th)) (hp:G p=none) (hL:upd G p (.lst []) L=none) (s2':Ag (upd (upd G p (.lst [])) L (.lst [.ref p])) G3) (hf:G3 f=none) (hw:LN z) (hth:ThOk z th fa) :
  Pu H (upd G3 f (.lst [.str z,.ref t,.ref L,fa])) ⟨f,t,L,[p],z,fa,th,[[]],0⟩:=by
 have s1:=Ag.upd (o:=.lst []) hp
 have s2:=(Ag.upd (o:=.lst [.ref p]) hL).trans s2'
 have s3:=Ag.upd (o:=.lst [.str z,.ref t,.ref L,fa]) hf
 have sA:=s.trans ((s1.trans s2).trans s3)
 have nLp:L≠p:=λe=>by rw [e,Ac] at hL;cases hL
 have nfL:f≠L:=λe=>by rw [e,s2' L _ Ac] at hf;cases hf
 have nfp:f≠p:=λe=>by rw [e,s2 p _ Ac] at hf;cases hf
 refine ⟨λn=>⟨Ac,((s1.trans s2).trans s3) t _ ht,s3 L _ (s2' L _ Ac),?_,rfl,.inl rfl,hw,hth.1,hth.2.1,hth.2.2.1,hth.2.2.2,?_,by simp⟩,?_,?_,rfl,sA⟩
 ·intro i p' rs h1 h2
  cases i with
  |zero =>
   cases h1
   cases h2
   exact s3 p _ (s2 p _ Ac)
  |succ i=>cases h1
 ·intro rs hrs r hr
  rw [M0.mp hrs] at hr
  cases hr
 ·show [f,L,p].Nodup
  simp [nfL,nfp,nLp]
 ·intro a ha
  rcases L0.mp ha with rfl | ha
  ·exact (s.trans (s1.trans s2)).free hf
  rcases L0.mp ha with rfl | ha
  ·exact (s.trans s1).free hL
  ·rw [M0.mp ha];exact s.free hp
def Di (n c:Nat) (H:Hp) (v:V):Prop:=AF (n+1) H v/\(Bp (n+1) H v).length<=c+1/\∃ (a:Addr) (r:List V),v=.ref a/\H a=some (.tup (.str "errand"::r))
def SY (n c:Nat) (H:Hp) (z:Str) (v:V):Prop:=(z="errand"/\Di n c H v)\/(z≠"errand"/\AF (n+1) H v/\(Bp (n+1) H v).length<=c+1)
def GG:Sp:=λvs H Q _=>∃ (F:Fr) (n:Nat),vs=[.ref F.f]/\Ea H n F/\Dp F.z n/\F.c<=1000/\∀ (v:V) (H':Hp),SY n F.c H' F.z v->Ag H H'->Q v H'
theorem pln {z:Str} {ln:Int} {r:List V} (hp:AL z=[]) (hl:z.length<=10) (nb:z≠"begin") (tv:∀ t∈r,TV t) (rl:r.length<=4) (ft:Nk z r):Jz z (.int ln::r):=⟨ln,r,rfl,.inl ⟨hp,hl,tv,rl,λe=>absurd e nb,ft⟩⟩
theorem No {a:V} (h:TV a):∀ t∈[a],TV t:=λt ht=>by rw [M0.mp ht];exact h
theorem tv2 {a b:V} (h:TV a) (h':TV b):∀ t∈[a,b],TV t:=λt ht=>by
 rcases L0.mp ht with rfl | ht
 ·exact h
 ·exact No h' t ht
abbrev plW (z:Str):Prop:=AL z=[]/\z.length<=10/\z≠"begin"
theorem RV {zs:List Str} (h:∀ z∈zs,CM z) {v:V} (hv:v∈zs.map V.str):Ox v:=by
 obtain ⟨z,hz,rfl⟩:=j1.mp hv
 exact .inr ⟨z,rfl,.inl (h z hz)⟩
theorem Jd {zs:List Str} (h:∀ z∈zs,CM z) {v:V} (hv:v∈zs.map V.str):JP v:=by
 obtain ⟨z,hz,rfl⟩:=j1.mp hv
 exact ⟨z,rfl,h z hz⟩
theorem OD {n:Nat} {H:Hp}:∀ (bs:List Addr) (rss:List (List V)),bs.length=rss.length->(∀ (j:Nat) (b:Addr) (rs:List V),bs[j]?=some b->rss[j]?=some rs->H b=some (.tup rs)) ->
  (bs.map V.ref).flatMap (Bq (n+1) H)=rss.flatMap λrs=>rs.flatMap (Bp n H)
 |[],[],_,_=>rfl
 |[],_::_,h,_=>nomatch h
 |_::_,[],h,_=>nomatch h
 |b::bs,rs::rss,h,hb=>by
  rw [S1,N1,N1,Bd (hb 0 b rs rfl rfl),OD bs rss (E5.inj h) λj b' rs' h1 h2=>hb (j+1) b' rs' h1 h2]
  rfl
theorem FY {α:Type}:∀ {xs:List α},xs.length=1->∃ x,xs=[x]
 |[x],_=>⟨x,rfl⟩
theorem Gz {α:Type}:∀ {xs:List α},xs.length=2->∃ x y,xs=[x,y]
 |[x,y],_=>⟨x,y,rfl⟩
theorem CT {z:Str} {i:Int} {r th:List V} {fa:V} {bs:List Addr} (B:EV z r th fa bs):CL (.str z::.int i::r)=bs.map V.ref/\(V.int i::r).length+1=CB z:=by
 obtain ⟨hw,rfl,_,_,hth,_,h2,h1⟩:=B
 rw [BF]
 rcases hw with rfl | rfl | rfl | rfl | rfl | rfl | rfl | rfl
 ·obtain ⟨x,rfl⟩:=FY (hth.trans (show Cj "errand"=1 by decide +kernel))
  obtain ⟨b,rfl⟩:=FY (h1 (by decide +kernel))
  rw [if_neg (by decide +kernel),show AL "errand"=[3] by decide +kernel,show CB "errand"=4 by decide +kernel]
  exact ⟨rfl,rfl⟩
 ·obtain ⟨x,rfl⟩:=FY (hth.trans (show Cj "group"=1 by decide +kernel))
  obtain ⟨b,rfl⟩:=FY (h1 (by decide +kernel))
  rw [if_neg (by decide +kernel),show AL "group"=[3] by decide +kernel,show CB "group"=4 by decide +kernel]
  exact ⟨rfl,rfl⟩
 ·obtain ⟨x,rfl⟩:=FY (hth.trans (show Cj "limit"=1 by decide +kernel))
  obtain ⟨b,b1,rfl⟩:=Gz (h2 (by decide +kernel))
  rw [if_neg (by decide +kernel),show AL "limit"=[3,4] by decide +kernel,show CB "limit"=5 by decide +kernel]
  exact ⟨rfl,rfl⟩
 ·obtain rfl:=E2.mp (hth.trans (show Cj "keep"=0 by decide +kernel))
  obtain ⟨b,rfl⟩:=FY (h1 (by decide +kernel))
  rw [if_neg (by decide +kernel),show AL "keep"=[2] by decide +kernel,show CB "keep"=3 by decide +kernel]
  exact ⟨rfl,rfl⟩
 ·obtain rfl:=E2.mp (hth.trans (show Cj "try"=0 by decide +kernel))
  obtain ⟨b,b1,rfl⟩:=Gz (h2 (by decide +kernel))
  rw [if_pos rfl,show AL "try"=[2,4] by decide +kernel,show CB "try"=5 by decide +kernel]
  exact ⟨rfl,rfl⟩
 ·obtain rfl:=E2.mp (hth.trans (show Cj "do"=0 by decide +kernel))
  obtain ⟨b,b1,rfl⟩:=Gz (h2 (by decide +kernel))
  rw [if_neg (by decide +kernel),show AL "do"=[2,3] by decide +kernel,show CB "do"=4 by decide +kernel]
  exact ⟨rfl,rfl⟩
 ·obtain ⟨x,y,rfl⟩:=Gz (hth.trans (show Cj "when"=2 by decide +kernel))
  obtain ⟨b,rfl⟩:=FY (h1 (by decide +kernel))
  rw [if_neg (by decide +kernel),show AL "when"=[4] by decide +kernel,show CB "when"=5 by decide +kernel]
  exact ⟨rfl,rfl⟩
 ·obtain ⟨x,rfl⟩:=FY (hth.trans (show Cj "repeat"=1 by decide +kernel))
  obtain ⟨b,rfl⟩:=FY (h1 (by decide +kernel))
  rw [if_neg (by decide +kernel),show AL "repeat"=[3] by decide +kernel,show CB "repeat"=4 by decide +kernel]
  exact ⟨rfl,rfl⟩
theorem made_of {n c:Nat} {z:Str} (h2n:Dp z n) {H:Hp} {th:List V} {i:Int} {bs:List Addr} {fa:V} {rss:List (List V)} {a:Addr} (B:EV z (th++(if z="try" then Nu bs fa else bs.map V.ref)) th fa bs)
  (hlen:bs.length=rss.length) (hb:∀ (j:Nat) (b:Addr) (rs:List V),bs[j]?=some b->rss[j]?=some rs->H b=some (.tup rs)) (hrows:∀ rs∈rss,∀ r∈rs,AF n H r) (hwt:(rss.flatMap λrs=>rs.flatMap (Bp n H)).length<=c)
  (ha:H a=some (.tup (.str z::(.int i::th++(if z="try" then Nu bs fa else bs.map V.ref))))):SY n c H z (.ref a):=by
 have hW:=OD (n:=n) bs rss hlen hb
 have each:∀ p∈bs.map V.ref,AN n H p:=by
  intro p hp
  obtain ⟨b,hbm,rfl⟩:=j1.mp hp
  obtain ⟨j,hj⟩:=D4 hbm
  have hlt:j<rss.length:=by
   have:=(W0.mp hj).1
   omega
  exact ⟨b,rss[j],rfl,hb j b _ hj (u0 hlt),λy hy=>hrows _ (Q4 hlt) y hy⟩
 obtain ⟨e1,e2⟩:=CT (i:=i) B
 have key:AF (n+1) H (.ref a)/\(Bp (n+1) H (.ref a)).length<=c+1:=by
  refine ⟨⟨a,z,_,rfl,ha,⟨i,_,rfl,.inr ⟨th,fa,bs,B⟩⟩,λ_=>⟨e2,h2n⟩,λp hp=>?_⟩,?_⟩
  ·exact each p (by rw [<- e1];exact hp)
  ·unfold Bp
   rw [BV ha,show CL (.str z::(.int i::th++(if z="try" then Nu bs fa else bs.map V.ref)))=bs.map V.ref from e1,hW,J0]
   omega
 by_cases hz:z="errand"
 ·exact .inl ⟨hz,key.1,key.2,a,_,rfl,by rw [<- hz];exact ha⟩
 ·exact .inr ⟨hz,key⟩
theorem Jv {K:K0} {H:Hp} {a b:Addr} {xs ys:List V} {Q:VK} (ha:H a=some (.tup xs)) (hb:H b=some (.tup ys)) (hne:xs≠[]) (hl:xs.length+ys.length<=sizeLine) (k:∀ (p:Addr) (H':Hp),H' p=some (.tup (xs++ys))->Ag H H'->Q (.ref p) H'):Rx K (.ref a) (.ref b) H Q :=
 ⟨a,b,xs,ys,rfl,rfl,BN.of ha,BN.of hb,hne,hl,λe=>k a H (by rw [e,o0];exact ha) (Ag.refl H),λ_ p hp=>k p _ Ac (Ag.upd hp)⟩
theorem FI (y z:Str):Ha (.str y) (.str z)=decide (z=y):=by
 show (y == z)=_
 by_cases e:z=y
 ·subst e;simp
 ·rw [decide_eq_false e];simp [Ne.symm e]
theorem inTwo (z:Str):DH (V.str z) [V.str "try",V.str "do",V.str "limit"]=decide (BH z):=by
 show (Ha _ _||(Ha _ _||(Ha _ _||false)))=_
 rw [FI,FI,FI,N5]
 by_cases h1:z="try"
 ·subst h1;decide +kernel
 by_cases h2:z="do"
 ·subst h2;decide +kernel
 by_cases h3:z="limit"
 ·subst h3;decide +kernel
 have hn:¬ BH z:=λh=>h.elim h1 λh=>h.elim h2 h3
 rw [decide_eq_false h1,decide_eq_false h2,decide_eq_false h3,decide_eq_false hn]
 rfl
theorem Di.sameT {n c:Nat} {H H':Hp} {v:V} (s:Bf H H') (h:Di n c H v):Di n c H' v:=⟨h.1.sameT s,by rw [Cp s h.1];exact h.2.1,by
 obtain ⟨a,r,e1,e2⟩:=h.2.2
 exact ⟨a,r,e1,s _ _ e2⟩⟩
theorem BO {H:Hp} {a:Addr} {xs:List V} {o:HO} (h:H a=some (.lst xs)):Bf H (upd H a o):=λb ys hb=>by
 rw [Aq (λe=>by rw [e,h] at hb;cases hb)];exact hb
theorem Bf.trans {H H1 H2:Hp} (a:Bf H H1) (b:Bf H1 H2):Bf H H2:=λx ys h=>b x ys (a x ys h)
structure SA (H0 H:Hp) (sa ea:Addr) (Fs:List Fr) (c t:Nat):Prop where
 out:Ag H0 H
 new:∀ a∈sa::ea::Fs.flatMap Fr.own,H0 a=none
 hs:H sa=some (.lst (Fs.map λF=>V.ref F.f))
 he:∃ es:List V,H ea=some (.lst es)/\es.length<=t/\∀ e∈es,Di 22 100 H e
 le:Fs.length<=21
 fr:∀ (i:Nat) (F:Fr),Fs[i]?=some F->Ea H (22-i) F/\(F.z="errand"↔i=0)
 nd:(sa::ea::Fs.flatMap Fr.own).Nodup
 sum:∀ es:List V,H ea=some (.lst es)->(es.flatMap (Bp 23 H)).length+(Fs.map λF=>F.c+1).sum<=c
theorem DL {H H':Hp} {es:List V} (s:Bf H H') (h:∀ e∈es,Di 22 100 H e):es.flatMap (Bp 23 H')=es.flatMap (Bp 23 H):=AC λe he=>Cp s (h e he).1
theorem GK {Fs:List Fr} {i:Nat} {F:Fr} (h:Fs[i]?=some F) {a:Addr} (ha:a∈F.own):a∈Fs.flatMap Fr.own:=j2.mpr ⟨F,d0 h,ha⟩
theorem SA.mono {H0 H:Hp} {sa ea:Addr} {Fs:List Fr} {c t c' t':Nat} (h:SA H0 H sa ea Fs c t) (hc:c<=c') (ht:t<=t'):SA H0 H sa ea Fs c' t':=by
 obtain ⟨es,e1,e2,e3⟩:=h.he
 exact ⟨h.out,h.new,h.hs,⟨es,e1,Q0 e2 ht,e3⟩,h.le,h.fr,h.nd,λes hx=>Q0 (h.sum es hx) hc⟩
theorem SA.move {H0 H H':Hp} {sa ea:Addr} {Fs:List Fr} {c t:Nat} (h:SA H0 H sa ea Fs c t) (s:Bf H H') (out:Ag H0 H') (o:∀ a∈sa::ea::Fs.flatMap Fr.own,H' a=H a):SA H0 H' sa ea Fs c t:=by
 obtain ⟨es,e1,e2,e3⟩:=h.he
 refine ⟨out,h.new,?_,⟨es,?_,e2,λe he=>(e3 e he).sameT s⟩,h.le,λi F hi=>⟨(h.fr i F hi).1.move s λa ha=>o a (A0 _ (A0 _ (GK hi ha))),(h.fr i F hi).2⟩,h.nd,λes' hx=>?_⟩
 ·rw [o sa C0];exact h.hs
 ·rw [o ea (A0 _ C0)];exact e1
 ·rw [o ea (A0 _ C0),e1] at hx
  cases hx
  rw [DL s e3]
  exact h.sum _ e1
theorem SA.there {H0 H:Hp} {sa ea:Addr} {Fs:List Fr} {c t:Nat} (h:SA H0 H sa ea Fs c t):∀ a∈sa::ea::Fs.flatMap Fr.own,∃ xs,H a=some (.lst xs):=by
 intro a ha
 rcases L0.mp ha with rfl | ha
 ·exact ⟨_,h.hs⟩
 rcases L0.mp ha with rfl | ha
 ·obtain ⟨es,e1,_⟩:=h.he
  exact ⟨_,e1⟩
 obtain ⟨F,hF,ha⟩:=j2.mp ha
 obtain ⟨i,hi⟩:=D4 hF
 exact (h.fr i F hi).1.here a ha
theorem SA.same {H0 H H':Hp} {sa ea:Addr} {Fs:List Fr} {c t:Nat} (h:SA H0 H sa ea Fs c t) (s:Ag H H'):SA H0 H' sa ea Fs c t :=
 h.move (AE s) (h.out.trans s) λa ha=>by
  obtain ⟨xs,e⟩:=h.there a ha
  rw [e];exact s _ _ e
theorem Cz (Gs:List Fr) (F:Fr):(Gs++[F]).flatMap Fr.own=Gs.flatMap Fr.own++F.own:=by simp
theorem DS {α:Type} {Gs:List α} {F X:α} {i:Nat} (h:(Gs++[F])[i]?=some X):(i<Gs.length/\Gs[i]?=some X)\/(i=Gs.length/\X=F):=by
 by_cases hi:i<Gs.length
 ·rw [X0 hi] at h
  exact .inl ⟨hi,h⟩
 ·rw [L1 (by omega)] at h
  have e1:=(W0.mp h).1
  have e2:i-Gs.length=0:=by simp only [J0,K1] at e1;omega
  rw [e2] at h
  cases h
  exact .inr ⟨by omega,rfl⟩
theorem Bt {α:Type} {Gs:List α} {F:α}:(Gs++[F])[Gs.length]?=some F:=by
 rw [L1 (P0 _),E8];rfl
theorem SA.pop {H0 H:Hp} {sa ea:Addr} {Gs:List Fr} {F:Fr} {c t:Nat} (h:SA H0 H sa ea (Gs++[F]) c t) :
  ∃ c',c'+F.c+1<=c/\SA H0 (upd H sa (.lst (Gs.map λF=>V.ref F.f))) sa ea Gs c' t/\Ea (upd H sa (.lst (Gs.map λF=>V.ref F.f))) (22-Gs.length) F/\(F.z="errand"↔Gs.length=0):=by
 have nd:=h.nd
 have hnew:=h.new
 rw [Cz] at nd hnew
 obtain ⟨n1,n2⟩:=g0.mp nd
 obtain ⟨n3,n4⟩:=g0.mp n2
 obtain ⟨n5,n6,n7⟩:=J3.mp n4
 have sT:Bf H (upd H sa (.lst (Gs.map λF=>V.ref F.f))):=BO h.hs
 have mv:∀ a∈ea::(Gs.flatMap Fr.own++F.own),upd H sa (.lst (Gs.map λF=>V.ref F.f)) a=H a:=λa ha=>Aq (λe=>n1 (e▸ha))
 obtain ⟨es,e1,e2,e3⟩:=h.he
 have hl:=h.le
 rw [B0] at hl
 have hw:=h.sum _ e1
 rw [A1,Y6] at hw
 simp only [S1,x3,V3,V6] at hw
 refine ⟨c-(F.c+1),by omega,⟨Co h.out (h.new sa C0),?_,Ac,⟨es,?_,e2,λe he=>(e3 e he).sameT sT⟩,by omega,?_,?_,λes' hx=>?_⟩,?_,?_⟩
 ·intro a ha
  refine hnew a ?_
  rcases L0.mp ha with rfl | ha
  ·exact C0
  rcases L0.mp ha with rfl | ha
  ·exact A0 _ C0
  ·exact A0 _ (A0 _ (T1 _ ha))
 ·rw [mv ea C0];exact e1
 ·intro i X hi
  have hi':(Gs++[F])[i]?=some X:=by rw [X0 (W0.mp hi).1];exact hi
  exact ⟨(h.fr i X hi').1.move sT λa ha=>mv a (A0 _ (T1 _ (GK hi ha))),(h.fr i X hi').2⟩
 ·refine g0.mpr ⟨λhm=>n1 ?_,g0.mpr ⟨λhm=>n3 (T1 _ hm),n5⟩⟩
  rcases L0.mp hm with e | hm
  ·rw [e];exact C0
  ·exact A0 _ (T1 _ hm)
 ·rw [mv ea C0,e1] at hx
  cases hx
  rw [DL sT e3]
  omega
 ·exact (h.fr _ _ Bt).1.move sT λa ha=>mv a (A0 _ (V0 _ ha))
 ·exact (h.fr _ _ Bt).2
theorem SA.push {H0 H H1:Hp} {sa ea:Addr} {Fs:List Fr} {F:Fr} {c t:Nat} (h:SA H0 H sa ea Fs c t) (hn:Pu H H1 F) (hl:Fs.length<21) (hz:F.z="errand"↔Fs.length=0) :
  SA H0 (upd H1 sa (.lst ((Fs.map λF=>V.ref F.f)++[.ref F.f]))) sa ea (Fs++[F]) (c+1) t:=by
 obtain ⟨hF,hnd,hno,hc,s⟩:=hn
 have h1:=h.same s
 have dis:∀ a∈sa::ea::Fs.flatMap Fr.own,a∉F.own:=λa ha hm=>by
  obtain ⟨xs,e⟩:=h.there a ha
  rw [hno a hm] at e
  cases e
 have nd:=h.nd
 obtain ⟨n1,n2⟩:=g0.mp nd
 obtain ⟨n3,n4⟩:=g0.mp n2
 have sT:Bf H1 (upd H1 sa (.lst ((Fs.map λF=>V.ref F.f)++[.ref F.f]))):=BO h1.hs
 have mv:∀ a,a≠sa->upd H1 sa (.lst ((Fs.map λF=>V.ref F.f)++[.ref F.f])) a=H1 a:=λa ha=>Aq ha
 obtain ⟨es,e1,e2,e3⟩:=h1.he
 refine ⟨Co h1.out (h.new sa C0),?_,?_,⟨es,?_,e2,λe he=>(e3 e he).sameT sT⟩,?_,?_,?_,?_⟩
 ·intro a ha
  rw [Cz] at ha
  rcases L0.mp ha with rfl | ha
  ·exact h.new _ C0
  rcases L0.mp ha with rfl | ha
  ·exact h.new _ (A0 _ C0)
  rcases T0.mp ha with ha | ha
  ·exact h.new _ (A0 _ (A0 _ ha))
  ·exact h.out.free (hno a ha)
 ·rw [Ac,A1];rfl
 ·rw [mv ea (λe=>n1 (by rw [<- e];exact C0))];exact e1
 ·rw [B0];simp only [J0,K1];omega
 ·intro i X hi
  rcases DS hi with ⟨_,hi'⟩ | ⟨rfl,rfl⟩
  ·exact ⟨(h1.fr i X hi').1.move sT λa ha=>mv a λe=>n1 (e▸A0 _ (GK hi' ha)),(h1.fr i X hi').2⟩
  ·exact ⟨(hF _).move sT λa ha=>mv a λe=>dis sa C0 (e▸ha),hz⟩
 ·rw [Cz]
  refine g0.mpr ⟨λhm=>?_,g0.mpr ⟨λhm=>?_,J3.mpr ⟨n4,hnd,λa ha b hb e=>dis a (A0 _ (A0 _ ha)) (e▸hb)⟩⟩⟩
  ·rcases L0.mp hm with e | hm
   ·exact n1 (e▸C0)
   rcases T0.mp hm with hm | hm
   ·exact n1 (A0 _ hm)
   ·exact dis _ C0 hm
  ·rcases T0.mp hm with hm | hm
   ·exact n3 hm
   ·exact dis _ (A0 _ C0) hm
 ·intro es' hx
  rw [mv ea (λe=>n1 (by rw [<- e];exact C0)),e1] at hx
  cases hx
  have hw:=h1.sum _ e1
  rw [DL sT e3,A1,Y6]
  simp only [S1,x3,V3,V6,hc]
  omega
theorem SA.addErr {H0 H:Hp} {sa ea:Addr} {Fs:List Fr} {c t:Nat} {es:List V} {e:V} (h:SA H0 H sa ea Fs c t) (hes:H ea=some (.lst es)) (he:Di 22 100 H e):SA H0 (upd H ea (.lst (es++[e]))) sa ea Fs (c+(Bp 23 H e).length) (t+1):=by
 have nd:=h.nd
 obtain ⟨n1,n2⟩:=g0.mp nd
 obtain ⟨n3,n4⟩:=g0.mp n2
 have sT:Bf H (upd H ea (.lst (es++[e]))):=BO hes
 obtain ⟨es',e1,e2,e3⟩:=h.he
 rw [hes] at e1
 cases e1
 refine ⟨Co h.out (h.new ea (A0 _ C0)),h.new,?_,⟨es++[e],Ac,?_,λx hx=>?_⟩,h.le,λi X hi=>⟨(h.fr i X hi).1.move sT λa ha=>Aq λe=>n3 (e▸GK hi ha),(h.fr i X hi).2⟩,h.nd,λes' hx=>?_⟩
 ·rw [Aq (λe=>n1 (by rw [e];exact C0))];exact h.hs
 ·rw [B0];simp only [J0,K1];omega
 ·rcases T0.mp hx with hx | hx
  ·exact (e3 x hx).sameT sT
  ·rw [M0.mp hx];exact he.sameT sT
 ·rw [Ac] at hx
  cases hx
  have hw:=h.sum _ hes
  rw [L3,B0,DL sT e3]
  simp only [N1,R4,o0]
  rw [Cp sT he.1]
  have e9:(Bp (22+1) H e).length=(Bp 23 H e).length:=rfl
  omega
theorem SA.last {H0 H H':Hp} {sa ea:Addr} {Gs:List Fr} {F F':Fr} {c t w:Nat} (h:SA H0 H sa ea (Gs++[F]) c t) (sT:Bf H H') (out:Ag H0 H') (o:∀ a∈sa::ea::Gs.flatMap Fr.own,H' a=H a) (hF:Ea H' (22-Gs.length) F') (ez:F'.z=F.z) (ef:F'.f=F.f) (ec:F'.c<=F.c+w)
  (sub:∀ a∈F'.own,a∈F.own\/(H a=none)) (nd':F'.own.Nodup):SA H0 H' sa ea (Gs++[F']) (c+w) t:=by
 have there:=h.there
 have nd:=h.nd
 have hnew:=h.new
 rw [Cz] at nd hnew there
 obtain ⟨n1,n2⟩:=g0.mp nd
 obtain ⟨n3,n4⟩:=g0.mp n2
 obtain ⟨n5,n6,n7⟩:=J3.mp n4
 obtain ⟨es,e1,e2,e3⟩:=h.he
 have up:∀ a∈sa::ea::Gs.flatMap Fr.own,a∈sa::ea::(Gs.flatMap Fr.own++F.own):=by
  intro a ha
  rcases L0.mp ha with rfl | ha
  ·exact C0
  rcases L0.mp ha with rfl | ha
  ·exact A0 _ C0
  ·exact A0 _ (A0 _ (T1 _ ha))
 have dis:∀ a∈sa::ea::Gs.flatMap Fr.own,a∉F'.own:=by
  intro a ha hm
  rcases sub a hm with hm | hm
  ·rcases L0.mp ha with rfl | ha
   ·exact n1 (A0 _ (V0 _ hm))
   rcases L0.mp ha with rfl | ha
   ·exact n3 (V0 _ hm)
   ·exact n7 a ha a hm rfl
  ·obtain ⟨xs,e⟩:=there a (up a ha)
   rw [hm] at e
   cases e
 refine ⟨out,?_,?_,⟨es,?_,e2,λe he=>(e3 e he).sameT sT⟩,?_,?_,?_,?_⟩
 ·intro a ha
  rw [Cz] at ha
  rcases L0.mp ha with rfl | ha
  ·exact hnew _ C0
  rcases L0.mp ha with rfl | ha
  ·exact hnew _ (A0 _ C0)
  rcases T0.mp ha with ha | ha
  ·exact hnew _ (A0 _ (A0 _ (T1 _ ha)))
  ·rcases sub a ha with ha | ha
   ·exact hnew _ (A0 _ (A0 _ (V0 _ ha)))
   ·exact h.out.free ha
 ·rw [o sa C0,h.hs,A1,A1]
  simp only [S1,x3,ef]
 ·rw [o ea (A0 _ C0)];exact e1
 ·have:=h.le
  rw [B0] at this |-
  exact this
 ·intro i X hi
  rcases DS hi with ⟨hlt,hi'⟩ | ⟨rfl,rfl⟩
  ·have hi2:(Gs++[F])[i]?=some X:=by rw [X0 hlt];exact hi'
   exact ⟨(h.fr i X hi2).1.move sT λa ha=>o a (A0 _ (A0 _ (GK hi' ha))),(h.fr i X hi2).2⟩
  ·exact ⟨hF,by rw [ez];exact (h.fr _ _ Bt).2⟩
 ·rw [Cz]
  refine g0.mpr ⟨λhm=>?_,g0.mpr ⟨λhm=>?_,J3.mpr ⟨n5,nd',λa ha b hb e=>dis a (A0 _ (A0 _ ha)) (e▸hb)⟩⟩⟩
  ·rcases L0.mp hm with e | hm
   ·exact n1 (by rw [e];exact C0)
   rcases T0.mp hm with hm | hm
   ·exact n1 (A0 _ (T1 _ hm))
   ·exact dis _ C0 hm
  ·rcases T0.mp hm with hm | hm
   ·exact n3 (T1 _ hm)
   ·exact dis _ (A0 _ C0) hm
 ·intro es' hx
  rw [o ea (A0 _ C0),e1] at hx
  cases hx
  have:=h.sum _ e1
  rw [DL sT e3]
  rw [A1,Y6] at this |-
  simp only [S1,x3,V3,V6] at this |-
  omega
def spPut:Sp:=λvs H Q _=>∃ (ea sa na:Addr) (x:Int) (d:Bool) (H0:Hp) (Fs:List Fr) (c t:Nat),vs=[.ref ea,.ref sa,.int x,.ref na,.bl d]/\0<=x/\ES H0 na/\0<Fs.length/\SA H0 H sa ea Fs c t/\c<=90/\t<=70 /\
 ∀ (H':Hp) (Fs':List Fr),0<Fs'.length->SA H0 H' sa ea Fs' (c+1) (t+1)->Q .non H'
theorem KC {xs:List V} {x:V}:Nm (xs++[x]) (-1)=some x:=by
 obtain ⟨v,e,_,h⟩:=Mn (xs:=xs++[x]) (by rw [B0];simp only [J0,K1];omega)
 rw [e,<- h,show (xs++[x]).length-1=xs.length by rw [B0];rfl]
 exact Bt
theorem Da {α:Type} {xs:List α} (h:0<xs.length):∃ ys x,xs=ys++[x]:=by
 rcases List.eq_nil_or_concat xs with rfl | ⟨L,b,e⟩
 ·exact absurd h (L5 0)
 ·exact ⟨L,b,by rw [e];simp⟩
theorem Ea.lastP {H:Hp} {n:Nat} {F:Fr} (h:Ea H n F):∃ qs p rss0 rs,F.ps=qs++[p]/\F.rss=rss0++[rs]/\qs.length=rss0.length:=by
 have l1:0<F.ps.length:=by rcases h.one with e | ⟨e,_⟩<;>omega
 obtain ⟨qs,p,e1⟩:=Da l1
 obtain ⟨rss0,rs,e2⟩:=Da (show 0<F.rss.length by have:=h.len;omega)
 refine ⟨qs,p,rss0,rs,e1,e2,?_⟩
 have:=h.len
 rw [e1,e2,B0,B0] at this
 exact Nat.add_right_cancel this
theorem SA.readTop {K:K0} {H0 H:Hp} {sa ea:Addr} {Gs:List Fr} {F:Fr} {c t:Nat} {R:VK} (h:SA H0 H sa ea (Gs++[F]) c t) (k:R (.ref F.f) H):Ew K (.ref sa) (.int (-1)) H R :=
 ⟨sa,_,_,.ref F.f,rfl,rfl,AH.of h.hs,by rw [A1];exact KC,k⟩
theorem Ea.readL {K:K0} {H:Hp} {n:Nat} {F:Fr} {R:VK} (h:Ea H n F) (k:R (.ref F.L) H):Ew K (.ref F.f) (.int 2) H R :=
 ⟨F.f,_,_,.ref F.L,rfl,rfl,AH.of h.hf,AV (j:=2) rfl,k⟩
theorem Ea.readZ {K:K0} {H:Hp} {n:Nat} {F:Fr} {R:VK} (h:Ea H n F) (k:R (.str F.z) H):Ew K (.ref F.f) (.int 0) H R :=
 ⟨F.f,_,_,.str F.z,rfl,rfl,AH.of h.hf,AV (j:=0) rfl,k⟩
theorem Ea.readP {K:K0} {H:Hp} {n:Nat} {F:Fr} {R:VK} {qs:List Addr} {p:Addr} (h:Ea H n F) (e:F.ps=qs++[p]) (k:R (.ref p) H):Ew K (.ref F.L) (.int (-1)) H R :=
 ⟨F.L,_,_,.ref p,rfl,rfl,AH.of h.hL,by rw [e,A1];exact KC,k⟩
theorem SA.top {H0 H:Hp} {sa ea:Addr} {Gs:List Fr} {F:Fr} {c t:Nat} (h:SA H0 H sa ea (Gs++[F]) c t):Ea H (22-Gs.length) F:=(h.fr _ _ Bt).1
theorem SA.topNd {H0 H:Hp} {sa ea:Addr} {Gs:List Fr} {F:Fr} {c t:Nat} (h:SA H0 H sa ea (Gs++[F]) c t):F.own.Nodup/\∀ a∈sa::ea::Gs.flatMap Fr.own,a∉F.own:=by
 have nd:=h.nd
 rw [Cz] at nd
 obtain ⟨n1,n2⟩:=g0.mp nd
 obtain ⟨n3,n4⟩:=g0.mp n2
 obtain ⟨n5,n6,n7⟩:=J3.mp n4
 refine ⟨n6,λa ha hm=>?_⟩
 rcases L0.mp ha with rfl | ha
 ·exact n1 (A0 _ (V0 _ hm))
 rcases L0.mp ha with rfl | ha
 ·exact n3 (V0 _ hm)
 ·exact n7 a ha a hm rfl
theorem SA.topC {H0 H:Hp} {sa ea:Addr} {Gs:List Fr} {F:Fr} {c t:Nat} (h:SA H0 H sa ea (Gs++[F]) c t):F.c<=c:=by
 obtain ⟨es,e1,_⟩:=h.he
 have:=h.sum _ e1
 rw [A1,Y6] at this
 simp only [S1,x3,V3,V6] at this
 omega
theorem SA.newOwn {H0 H:Hp} {sa ea:Addr} {Gs:List Fr} {F:Fr} {c t:Nat} (h:SA H0 H sa ea (Gs++[F]) c t) {a:Addr} (ha:a∈F.own):H0 a=none :=
 h.new a (A0 _ (A0 _ (by rw [Cz];exact V0 _ ha)))
theorem SA.addRow {H0 H:Hp} {sa ea:Addr} {Gs:List Fr} {F:Fr} {c t:Nat} {qs:List Addr} {p:Addr} {rss0:List (List V)} {rs:List V} {y:V} (h:SA H0 H sa ea (Gs++[F]) c t) (e1:F.ps=qs++[p]) (e2:F.rss=rss0++[rs]) (e3:qs.length=rss0.length) (hy:AF (22-Gs.length) H y) :
  H p=some (.lst rs)/\rs.length<=c/\∃ F',SA H0 (upd H p (.lst (rs++[y]))) sa ea (Gs++[F']) (c+(Bp (22-Gs.length) H y).length) t:=by
 have hF:=h.top
 obtain ⟨nd,dis⟩:=h.topNd
 have hpm:p∈F.own:=A0 _ (A0 _ (by rw [e1];exact V0 _ C0))
 have hp:H p=some (.lst rs):=hF.hp qs.length p rs (by rw [e1];exact Bt) (by rw [e2,e3];exact Bt)
 have lw:rs.length<=F.c:=by
  have hw:=hF.wt
  rw [e2,L3,B0] at hw
  simp only [N1,R4,o0] at hw
  have:∀ xs:List V,xs.length<=(xs.flatMap (Bp (22-Gs.length) H)).length:=by
   intro xs
   induction xs with
   |nil=>exact P0 _
   |cons x r ih =>
    rw [N1,B0,J0]
    have:1<=(Bp (22-Gs.length) H x).length:=by unfold Bp;rw [J0];omega
    omega
  have:=this rs
  omega
 have sT:Bf H (upd H p (.lst (rs++[y]))):=BO hp
 have nd':=nd
 unfold Fr.own at nd'
 rw [e1] at nd'
 obtain ⟨m1,m2⟩:=g0.mp nd'
 obtain ⟨m3,m4⟩:=g0.mp m2
 obtain ⟨m5,m6,m7⟩:=J3.mp m4
 have nf:F.f≠p:=λe=>m1 (by rw [e];exact A0 _ (V0 _ C0))
 have nL:F.L≠p:=λe=>m3 (by rw [e];exact V0 _ C0)
 refine ⟨hp,Q0 lw h.topC,{ F with rss:=rss0++[rs++[y]],c:=F.c+(Bp (22-Gs.length) H y).length },?_⟩
 refine h.last sT (Co h.out (h.newOwn hpm)) (λa ha=>Aq λe=>dis a ha (by rw [e];exact hpm)) ⟨?_,?_,?_,?_,?_,hF.one,hF.word,hF.things,hF.tv,hF.sv,hF.fv,?_,?_⟩ rfl rfl (P0 _) (λa ha=>.inl ha) nd
 ·show upd H p _ F.f=_
  rw [Aq nf];exact hF.hf
 ·exact sT _ _ hF.ht
 ·show upd H p _ F.L=_
  rw [Aq nL];exact hF.hL
 ·intro i q rs' hq hr
  have hq':(qs++[p])[i]?=some q:=by rw [<- e1];exact hq
  rcases DS hq' with ⟨hlt,hq2⟩ | ⟨rfl,rfl⟩
  ·have hr':rss0[i]?=some rs':=by
    have hr0:(rss0++[rs++[y]])[i]?=some rs':=hr
    rw [X0 (by omega)] at hr0
    exact hr0
   rw [Aq (λe=>m7 q (d0 hq2) p C0 e)]
   exact hF.hp i q rs' hq (by rw [e2,X0 (by omega)];exact hr')
  ·have hr0:(rss0++[rs++[y]])[qs.length]?=some rs':=hr
   rw [e3,Bt] at hr0
   cases hr0
   exact Ac
 ·show F.ps.length=(rss0++[rs++[y]]).length
  rw [hF.len,e2,B0,B0];rfl
 ·intro rs' hrs r hr
  rcases T0.mp hrs with hrs | hrs
  ·exact (hF.rows rs' (by rw [e2];exact T1 _ hrs) r hr).sameT sT
  ·rw [M0.mp hrs] at hr
   rcases T0.mp hr with hr | hr
   ·exact (hF.rows rs (by rw [e2];exact V0 _ C0) r hr).sameT sT
   ·rw [M0.mp hr];exact hy.sameT sT
 ·show ((rss0++[rs++[y]]).flatMap λr=>r.flatMap (Bp (22-Gs.length) (upd H p (.lst (rs++[y]))))).length<=F.c+(Bp (22-Gs.length) H y).length
  have hw:=hF.wt
  rw [e2] at hw
  have e:((rss0++[rs++[y]]).flatMap λr=>r.flatMap (Bp (22-Gs.length) (upd H p (.lst (rs++[y])))))=(rss0++[rs++[y]]).flatMap λr=>r.flatMap (Bp (22-Gs.length) H):=by
   refine AC λrs' hrs=>AC λr hr=>Cp sT ?_
   rcases T0.mp hrs with hrs | hrs
   ·exact hF.rows rs' (by rw [e2];exact T1 _ hrs) r hr
   ·rw [M0.mp hrs] at hr
    rcases T0.mp hr with hr | hr
    ·exact hF.rows rs (by rw [e2];exact V0 _ C0) r hr
    ·rw [M0.mp hr];exact hy
  rw [e]
  rw [L3,B0] at hw |-
  simp only [N1,R4,o0,L3,B0] at hw |-
  omega
theorem SA.addPart {H0 H:Hp} {sa ea:Addr} {Gs:List Fr} {F:Fr} {c t:Nat} {q:Addr} (h:SA H0 H sa ea (Gs++[F]) c t) (hq:H q=none) (h1:F.ps.length=1) (h2:BH F.z) :
  ∃ F',SA H0 (upd (upd H q (.lst [])) F.L (.lst (F.ps.map V.ref++[.ref q]))) sa ea (Gs++[F']) c t:=by
 have hF:=h.top
 obtain ⟨nd,dis⟩:=h.topNd
 have hLm:F.L∈F.own:=A0 _ C0
 have s1:=Ag.upd (o:=.lst []) hq
 have hF1:=hF.same s1
 have sT:Bf H (upd (upd H q (.lst [])) F.L (.lst (F.ps.map V.ref++[.ref q]))):=(AE s1).trans (BO hF1.hL)
 have here:∀ a∈F.own,a≠q:=λa ha e=>by
  obtain ⟨xs,e'⟩:=hF.here a ha
  rw [e,hq] at e'
  cases e'
 have nd':=nd
 unfold Fr.own at nd'
 obtain ⟨m1,m2⟩:=g0.mp nd'
 obtain ⟨m3,m4⟩:=g0.mp m2
 refine ⟨{ F with ps:=F.ps++[q],rss:=F.rss++[[]] },?_⟩
 refine h.last (w:=0) sT (Co (h.out.trans s1) (h.newOwn hLm)) (λa ha=>?_) ⟨?_,sT _ _ hF.ht,?_,?_,?_,.inr ⟨?_,h2⟩,hF.word,hF.things,hF.tv,hF.sv,hF.fv,?_,?_⟩ rfl rfl (P0 _) (λa ha=>?_) ?_
 ·rw [Aq (λe=>dis a ha (by rw [e];exact hLm))]
  refine Aq λe=>?_
  have ha':a∈sa::ea::(Gs++[F]).flatMap Fr.own:=by
   rw [Cz]
   rcases L0.mp ha with rfl | ha
   ·exact C0
   rcases L0.mp ha with rfl | ha
   ·exact A0 _ C0
   ·exact A0 _ (A0 _ (T1 _ ha))
  obtain ⟨xs,e'⟩:=h.there a ha'
  rw [e,hq] at e'
  cases e'
 ·show upd _ F.L _ F.f=_
  rw [Aq (λe=>m1 (by rw [e];exact C0))]
  exact hF1.hf
 ·show upd _ F.L _ F.L=some (.lst ((F.ps++[q]).map V.ref))
  rw [Ac,A1];rfl
 ·intro i p rs hp hr
  have hp0:(F.ps++[q])[i]?=some p:=hp
  have hr0:(F.rss++[[]])[i]?=some rs:=hr
  rcases DS hp0 with ⟨hlt,hp2⟩ | ⟨rfl,rfl⟩
  ·rw [X0 (by have:=hF.len;omega)] at hr0
   rw [Aq (λe=>m3 (by rw [<- e];exact d0 hp2))]
   exact hF1.hp i p rs hp2 hr0
  ·rw [hF.len,Bt] at hr0
   cases hr0
   rw [Aq (λe=>here F.L hLm e.symm)]
   exact Ac
 ·show (F.ps++[q]).length=(F.rss++[[]]).length
  rw [B0,B0,hF.len];rfl
 ·show (F.ps++[q]).length=2
  rw [B0,h1];rfl
 ·intro rs hrs r hr
  rcases T0.mp hrs with hrs | hrs
  ·exact (hF.rows rs hrs r hr).sameT sT
  ·rw [M0.mp hrs] at hr;cases hr
 ·have hw:=hF.wt
  have e:∀ G:Hp,Bf H G->(((F.rss++[[]]).flatMap λ(r:List V)=>r.flatMap (Bp (22-Gs.length) G)))=F.rss.flatMap λr=>r.flatMap (Bp (22-Gs.length) H):=by
   intro G s
   rw [L3]
   simp only [N1,R4,o0]
   exact AC λrs' hrs=>AC λr hr=>Cp s (hF.rows rs' hrs r hr)
  show ((F.rss++[[]]).flatMap λ(r:List V)=>r.flatMap (Bp (22-Gs.length) _)).length<=F.c
  rw [e _ sT];exact hw
 ·have ha':a∈F.f::F.L::(F.ps++[q]):=ha
  rcases L0.mp ha' with rfl | ha'
  ·exact .inl C0
  rcases L0.mp ha' with rfl | ha'
  ·exact .inl hLm
  rcases T0.mp ha' with ha' | ha'
  ·exact .inl (A0 _ (A0 _ ha'))
  ·rw [M0.mp ha'];exact .inr hq
 ·show (F.f::F.L::(F.ps++[q])).Nodup
  refine g0.mpr ⟨λhm=>?_,g0.mpr ⟨λhm=>?_,J3.mpr ⟨m4,by simp,λa ha b hb e=>?_⟩⟩⟩
  ·rcases L0.mp hm with e | hm
   ·exact m1 (by rw [e];exact C0)
   rcases T0.mp hm with hm | hm
   ·exact m1 (A0 _ hm)
   ·exact here F.f C0 (M0.mp hm)
  ·rcases T0.mp hm with hm | hm
   ·exact m3 hm
   ·exact here F.L hLm (M0.mp hm)
  ·exact here a (A0 _ (A0 _ ha)) (e.trans (M0.mp hb))
theorem SA.doPop {H0 H:Hp} {sa ea:Addr} {Gs:List Fr} {F:Fr} {c t:Nat} {R:VK} (h:SA H0 H sa ea (Gs++[F]) c t) (k:R (.ref F.f) (upd H sa (.lst (Gs.map λF=>V.ref F.f)))):rPop (.ref sa) [] H R:=by
 have e:(Gs++[F]).map (λF=>V.ref F.f)=Gs.map (λF=>V.ref F.f)++[.ref F.f]:=by rw [A1];rfl
 refine ⟨sa,_,.ref F.f,rfl,rfl,h.hs,?_,?_⟩
 ·rw [e,show (Gs.map (λF=>V.ref F.f)++[V.ref F.f]).length-1=(Gs.map (λF=>V.ref F.f)).length by rw [B0];rfl]
  exact Bt
 ·rw [e,j5];exact k
theorem SA.putRow {K:K0} {H0 H:Hp} {sa ea:Addr} {Gs:List Fr} {G:Fr} {c t:Nat} {mt:V->Hp->Prop} {R:V->V->Hp->Prop} {N:VK} (h:SA H0 H sa ea (Gs++[G]) c t) (hm:∀ p xs H1,AH K H1 p xs->mt (.ref p) H1)
  (k:∀ p:Addr,(∀ (y:V) (H1:Hp),Ag H H1->AF (22-Gs.length) H1 y->c<=500->(∀ H' G',SA H0 H' sa ea (Gs++[G']) (c+(Bp (22-Gs.length) H1 y).length) t->N .non H')->Ee (.ref p) [y] H1 N)->R (.ref p) (.ref p) H) :
  Ew K (.ref sa) (.int (-1)) H λx H1=>Ew K x (.int 2) H1 λx H1=>Ew K x (.int (-1)) H1 λx H1=>mt x H1/\R x x H1:=by
 have hF:=h.top
 obtain ⟨qs,p,rss0,rs,e1,e2,e3⟩:=hF.lastP
 refine h.readTop (hF.readL (hF.readP e1 ⟨?_,k p λy H1 s hy hc k2=>?_⟩))
 ·exact hm p _ _ (AH.of (hF.hp qs.length p rs (by rw [e1];exact Bt) (by rw [e2,e3];exact Bt)))
 ·obtain ⟨a1,a2,F',a3⟩:=(h.same s).addRow e1 e2 e3 hy
  exact ⟨p,rs,y,rfl,rfl,a1,S3 (Q0 a2 hc) (show 500<sizeLine by decide),k2 _ F' a3⟩
theorem SA.closeIn {K:K0} {H0 H:Hp} {sa ea:Addr} {Gs:List Fr} {F:Fr} {c t:Nat} {mt:V->Hp->Prop} {N:VK} {E:XK} (h:SA H0 H sa ea (Gs++[F]) c t) (hg:0<Gs.length) (hc:c<=400) (hm:∀ p xs H1,AH K H1 p xs->mt (.ref p) H1)
  (k:∀ (H':Hp) (Gs':List Fr),Gs'.length=Gs.length->SA H0 H' sa ea Gs' c t->N .non H') :
  rPop (.ref sa) [] H λx H1=>GG [x] H1 (λy H1=>Ew K (.ref sa) (.int (-1)) H1 λx H1=>Ew K x (.int 2) H1 λx H1=>Ew K x (.int (-1)) H1 λx H1=>mt x H1/\Ee x [y] H1 N) E:=by
 obtain ⟨c',hc',hS',hF',hz⟩:=h.pop
 have hl:=h.le
 rw [B0] at hl
 simp only [J0,K1] at hl
 refine h.doPop ⟨F,_,rfl,hF',⟨by omega,by rw [hz];omega⟩,by omega,λv H2 hmade s2=>?_⟩
 rcases hmade with ⟨e,_⟩ | ⟨_,hrow,hw⟩
 ·exact absurd (hz.mp e) (by omega)
 have hS2:=hS'.same s2
 clear hS' hF' s2 h
 obtain ⟨Gs',G,rfl⟩:=Da hg
 have hlen:(Gs'++[G]).length=Gs'.length+1:=by rw [B0];rfl
 rw [hlen] at hrow hw hl
 rw [show 22-(Gs'.length+1)+1=22-Gs'.length by omega] at hrow hw
 refine hS2.putRow (R:=λx _ H1=>Ee x [v] H1 N) hm λp add=>add v H2 (Ag.refl _) hrow (by omega) λH' G' hS3=>?_
 refine k H' (Gs'++[G']) ?_ (hS3.mono (by omega) (P0 _))
 rw [hlen,B0];rfl
def Ka:Sp:=λvs H Q _=>∃ (ca na:Addr) (d:Bool) (ns:List Int),vs=[.ref ca,.ref na,.bl d]/\H ca=some (.lst (ns.map V.int))/\ns.length<=60/\ES H na /\
 ∀ (p:Addr) (es:List V) (H':Hp),H p=none->H' p=some (.tup es)->(∀ e∈es,Di 22 100 H' e)->es.length<=64->(es.flatMap (Bp 23 H')).length<=63->es≠[]->Ag H H'->Q (.ref p) H'
def spLaw (K:K0):Sp:=λvs H Q _=>∃ (a:Addr) (ns:List Int),vs=[.ref a]/\AH K H a (ns.map V.int)/\ns.length<=63/\∀ H',Q (.bl true) H'
theorem PB {H:Hp}:∀ {n:Nat} {v:V},AN n H v->∀ y∈Bq (n+1) H v,∃ m,AF m H y:=by
 intro n
 induction n with
 |zero =>
  intro v h y hy
  obtain ⟨b,ys,rfl,e2,e3⟩:=h
  rw [Bd e2] at hy
  obtain ⟨y',hy',_⟩:=j2.mp hy
  exact (e3 y' hy').elim
 |succ n ih =>
  intro v h y hy
  obtain ⟨b,ys,rfl,e2,e3⟩:=h
  rw [Bd e2] at hy
  obtain ⟨y',hy',hm⟩:=j2.mp hy
  rcases L0.mp hm with rfl | hm
  ·exact ⟨_,e3 _ hy'⟩
  ·obtain ⟨p,hp,hm⟩:=j2.mp hm
   exact ih ((e3 y' hy').parts_ok p hp) y hm
theorem SA.first {H G4:Hp} {ea sa:Addr} {F:Fr} (hea:H ea=none) (hn:Pu (upd H ea (.lst [])) G4 F) (hz:F.z="errand") (hsa:G4 sa=none):SA H (upd G4 sa (.lst [.ref F.f])) sa ea [F] 1 0:=by
 obtain ⟨hF,hnd,hno,hc,s⟩:=hn
 have s1:=Ag.upd (o:=.lst []) hea
 have s3:=Ag.upd (o:=.lst [.ref F.f]) hsa
 have out:=(s1.trans s).trans s3
 have hea4:=s ea _ Ac
 have e:[F].flatMap Fr.own=F.own:=by simp
 have n1:sa∉F.own:=λhm=>by
  obtain ⟨xs,q⟩:=(hF 0).here sa hm
  rw [hsa] at q
  cases q
 have n2:sa≠ea:=λq=>by rw [q,hea4] at hsa;cases hsa
 have n3:ea∉F.own:=λhm=>by
  have q:=hno ea hm
  rw [Ac] at q
  cases q
 refine ⟨out,?_,Ac,⟨[],s3 _ _ hea4,P0 _,λ_ h=>nomatch h⟩,(show 1<=21 by decide),?_,?_,?_⟩
 ·intro a ha
  rw [e] at ha
  rcases L0.mp ha with rfl | ha
  ·exact (s1.trans s).free hsa
  rcases L0.mp ha with rfl | ha
  ·exact hea
  ·exact s1.free (hno a ha)
 ·intro i X hi
  cases i with
  |zero =>
   cases hi
   exact ⟨(hF _).same s3,λ_=>rfl,λ_=>hz⟩
  |succ i=>cases hi
 ·rw [e]
  refine g0.mpr ⟨λhm=>?_,g0.mpr ⟨n3,hnd⟩⟩
  rcases L0.mp hm with q | hm
  ·exact n2 q
  ·exact n1 hm
 ·intro es' hx
  rw [s3 _ _ hea4] at hx
  cases hx
  rw [S1,x3,V3,V6,hc]
  exact P0 _
def Sc (H:Hp) (a:Addr):Nat:=match H a with
 |some (.lst xs)=>xs.length
 |_=>0
theorem MH {H:Hp} {a:Addr} {xs:List V} (h:H a=some (.lst xs)):Sc H a=xs.length:=by unfold Sc;rw [h]
theorem SW (n:Nat):((Q2 n).all λ_=>true)=true:=Y2.mpr λ_ _=>rfl
theorem AF.partsRef {m:Nat} {H:Hp} {y:V} (h:AF m H y):∀ p∈Bn H y,∃ a,p=V.ref a:=by
 intro p hp
 cases m with
 |zero=>exact h.elim
 |succ m =>
  obtain ⟨b,_,e,_⟩:=h.parts_ok p hp
  exact ⟨b,e⟩
def CI:V->Str
 |.int n=>(toString n:String)
 |.str z=>z
 |_=>""
def BM:V->Bool
 |.ref _=>true
 |_=>false
theorem TV.notR {v:V} (h:TV v):BM v=false:=by
 rcases h with ⟨n,rfl,_⟩ | ⟨z,rfl,_⟩<;>rfl
def AS (z:Str) (r:List V):List Str :=
 if z="begin" then
  match r with
  |[.str a,.str b,.str c,.int l]=>[("begin":Str),a,b, "in",c]++(if l=0 then [] else [("within":Str),CI (.int l)])
  |_=>[]
 else if z="try" then ["try"] else z::((r.filter λv=>!BM v).map CI)
def CK (H:Hp):V->Str×List V
 |.ref a=>match H a with
  |some (.tup (.str z::_::r))=>(z,r)
  |_=>("",[])
 |_=>("",[])
theorem Ck {H:Hp} {a:Addr} {z:Str} {x:V} {r:List V} (h:H a=some (.tup (.str z::x::r))):CK H (.ref a)=(z,r):=by
 show (match H a with | some (.tup (.str z::_::r))=>(z,r) | _=>("",[]))=_
 rw [h]
def AT (H:Hp) (v:V):List Str:=AS (CK H v).1 (CK H v).2
def Bc (H:Hp):V->List V
 |.ref a=>match H a with
  |some (.tup ys)=>ys
  |_=>[]
 |_=>[]
theorem Az {H:Hp} {a:Addr} {ys:List V} (h:H a=some (.tup ys)):Bc H (.ref a)=ys:=by
 show (match H a with | some (.tup ys)=>ys | _=>[])=_
 rw [h]
def AO (H:Hp) (v:V):List (List Str) :=
 if (CK H v).1="try" then [[("but":Str),CI ((CK H v).2.getD 1 .non)]] else if (CK H v).1="do" then [["last"]] else if Bc H ((CK H v).2.getD 2 .non)=[] then [] else [["late"]]
abbrev Ln:=Nat×List Str
def BK (f:V->List Ln) (tn en:List Ln):Bool->List V->List Ln
 |w,[]=>if w then en else []
 |w,x::r=>if BM x then (if w then tn else [])++(f x++BK f tn en true r) else BK f tn en w r
theorem Cy {f:V->List Ln} {tn en:List Ln} {w:Bool} {x:V} {r:List V} (h:BM x=false):BK f tn en w (x::r)=BK f tn en w r:=by
 show (if BM x then _ else _)=_
 rw [if_neg (by rw [h];exact N0)]
theorem BQ {f:V->List Ln} {tn en:List Ln} {w:Bool} {a:Addr} {r:List V}:BK f tn en w (.ref a::r)=(if w then tn else [])++(f (.ref a)++BK f tn en true r):=rfl
theorem Gx {f g:V->List Ln} {tn en:List Ln}:∀ {r:List V} {w:Bool},(∀ x∈r,BM x=true->f x=g x)->BK f tn en w r=BK g tn en w r
 |[],_,_=>rfl
 |x::r,w,h=>by
  cases e:BM x with
  |false=>rw [Cy e,Cy e];exact Gx λy hy=>h y (A0 _ hy)
  |true =>
   cases x with
   |ref a=>rw [BQ,BQ,h _ C0 rfl,Gx λy hy=>h y (A0 _ hy)]
   |_=>cases e
theorem GQ {f g:V->List Ln} {tn en tn' en':List Ln} (ht:tn.length=tn'.length) (he:en.length=en'.length):∀ {r:List V} {w:Bool},(∀ x∈r,BM x=true->(f x).length=(g x).length)->(BK f tn en w r).length=(BK g tn' en' w r).length
 |[],w,_=>by
  cases w with
  |false=>rfl
  |true=>exact he
 |x::r,w,h=>by
  cases e:BM x with
  |false=>rw [Cy e,Cy e];exact GQ ht he λy hy=>h y (A0 _ hy)
  |true =>
   cases x with
   |ref a =>
    rw [BQ,BQ,B0,B0,B0,B0,h _ C0 rfl,GQ ht he λy hy=>h y (A0 _ hy)]
    cases w<;>simp [ht]
   |_=>cases e
theorem Eh {f:V->List Ln} {tn en:List Ln}:∀ (r:List V) (w:Bool),BK f tn en w (r.filter BM)=BK f tn en w r
 |[],_=>rfl
 |x::r,w=>by
  cases e:BM x with
  |false=>rw [Y1,if_neg (by rw [e];exact N0),Cy e];exact Eh r w
  |true =>
   rw [Y1,if_pos e]
   cases x with
   |ref a=>rw [BQ,BQ,Eh r true]
   |_=>cases e
def AM (f:V->Nat->List Ln) (H:Hp) (y:V) (d:Nat):List Ln:=(d,AT H y)::BK (λp=>f p (d+1)) ((AO H y).map λws=>(d,ws)) [(d,["end"])] false (CK H y).2
def Ah:Nat->Hp->V->Nat->List Ln
 |0,_,_,_=>[]
 |n+1,H,v,d=>(Bc H v).flatMap λy=>AM (Ah n H) H y d
theorem EN (n:Nat) (H:Hp):∀ (v:V) (d e:Nat),(Ah n H v d).length=(Ah n H v e).length:=by
 induction n with
 |zero=>intro v d e;rfl
 |succ n ih =>
  intro v d e
  show ((Bc H v).flatMap λy=>AM (Ah n H) H y d).length=((Bc H v).flatMap λy=>AM (Ah n H) H y e).length
  rw [J5,J5]
  congr 1
  refine r6 λy _=>?_
  unfold AM
  have:=GQ (f:=λp=>Ah n H p (d+1)) (g:=λp=>Ah n H p (e+1)) (tn:=(AO H y).map λws=>(d,ws)) (tn':=(AO H y).map λws=>(e,ws)) (en:=[(d,["end"])]) (en':=[(e,["end"])]) (by rw [D0,D0]) rfl (r:=(CK H y).2) (w:=false) λx _ _=>ih x _ _
  rw [J0,J0,this]
inductive Tr where
 |i (n:Int)
 |s (z:Str)
 |t (ts:List Tr)
def JE:V->Tr
 |.int n=>.i n
 |.str z=>.s z
 |_=>.t []
def Ct (num:V->Nat->Tr) (len:V->Nat) (tn:Nat):Bool->Nat->List V->List Tr
 |_,_,[]=>[]
 |w,c,x::r=>if BM x then num x (if w then c+tn else c)::Ct num len tn true ((if w then c+tn else c)+len x) r else JE x::Ct num len tn w c r
def Cd (f:V->Nat->Tr) (len:V->Nat):Nat->List V->List Tr
 |_,[]=>[]
 |k,y::r=>f y k::Cd f len (k+len y) r
def CG (pf:Nat->Int) (num:V->Nat->Tr) (len:V->Nat) (H:Hp) (y:V) (k:Nat):Tr:=.t (.s (CK H y).1::.i (pf k)::Ct num len (AO H y).length false (k+1) (CK H y).2)
def Bm (pf:Nat->Int):Nat->Hp->V->Nat->Tr
 |0,_,_,_=>.t []
 |n+1,H,v,k=>.t (Cd (CG pf (Bm pf n H) (λp=>(Ah n H p 0).length) H) (λy=>(AM (Ah n H) H y 0).length) k (Bc H v))
def EQ:Nat->Hp->V->Tr->Prop
 |0,_,v,t=>match t with
  |.i n=>v=.int n
  |.s z=>v=.str z
  |.t _=>False
 |m+1,H,v,t=>match t with
  |.i n=>v=.int n
  |.s z=>v=.str z
  |.t ts=>∃ (a:Addr) (xs:List V),v=.ref a/\H a=some (.tup xs)/\xs.length=ts.length/\ts.length<=100000/\∀ (i:Nat) (x:V) (t:Tr),xs[i]?=some x->ts[i]?=some t->EQ m H x t
theorem EQ.sameT {H H':Hp} (s:Bf H H'):∀ {m:Nat} {v:V} {t:Tr},EQ m H v t->EQ m H' v t
 |0,_,.i _,h=>h
 |0,_,.s _,h=>h
 |_+1,_,.i _,h=>h
 |_+1,_,.s _,h=>h
 |0,_,.t _,h=>h
 |m+1,v,.t ts,h=>by
  obtain ⟨a,xs,e1,e2,e3,e4,e5⟩:=h
  exact ⟨a,xs,e1,s _ _ e2,e3,e4,λi x t hx ht=>(e5 i x t hx ht).sameT s⟩
theorem EQ.tv {m:Nat} {H:Hp} {v:V} (h:TV v):EQ m H v (JE v):=by
 rcases h with ⟨n,rfl,_⟩ | ⟨z,rfl,_⟩<;>cases m<;>rfl
theorem Jz.z {z:Str} {r:List V} (h:Jz z r):∃ ln r',r=.int ln::r':=by
 obtain ⟨ln,r',e,_⟩:=h
 exact ⟨ln,r',e⟩
theorem AF.zOf {n:Nat} {H:Hp} {v:V} (h:AF n H v):∃ (a:Addr) (ln:Int),v=.ref a/\H a=some (.tup (.str (CK H v).1::.int ln::(CK H v).2)):=by
 cases n with
 |zero=>exact h.elim
 |succ n =>
  obtain ⟨a,z,r,rfl,e2,e3,_⟩:=h
  obtain ⟨ln,r',rfl⟩:=e3.z
  rw [Ck e2]
  exact ⟨a,ln,rfl,e2⟩
theorem AF.z_same {n:Nat} {H H':Hp} {v:V} (h:AF n H v) (s:Bf H H'):CK H' v=CK H v:=by
 obtain ⟨a,ln,rfl,e⟩:=h.zOf
 exact Ck (s _ _ e)
theorem DI {z:Str} {r th:List V} {fa:V} {bs:List Addr} (B:EV z r th fa bs):r.filter BM=bs.map V.ref:=by
 have f0:∀ {xs:List V},(∀ t∈xs,TV t)->xs.filter BM=[]:=λh=>j4.mpr λx hx=>by rw [(h x hx).notR];exact N0
 have f1:∀ ys:List Addr,(ys.map V.ref).filter BM=ys.map V.ref:=λys=>K5.mpr λx hx=>by
  obtain ⟨b,_,rfl⟩:=j1.mp hx
  rfl
 rw [B.e,A4,f0 B.tv,D3]
 by_cases ez:z="try"
 ·rw [if_pos ez]
  obtain ⟨b0,b1,rfl⟩:=Gz (B.two (.inl ez))
  obtain ⟨y,hy,_⟩:=B.fv.1 ez
  rw [hy]
  rfl
 ·rw [if_neg ez];exact f1 bs
theorem AF.parts_eq {n:Nat} {H:Hp} {v:V} (h:AF n H v):Bn H v=(CK H v).2.filter BM:=by
 cases n with
 |zero=>exact h.elim
 |succ n =>
  obtain ⟨a,z,r,rfl,e2,e3,_,_⟩:=h
  obtain ⟨ln,r',rfl,P | ⟨th,fa,bs,B⟩⟩:=e3
  ·rw [BV e2,Ck e2,BF,P.p]
   show []=r'.filter BM
   refine (j4.mpr λx hx=>?_).symm
   rw [(P.tv x hx).notR];exact N0
  ·rw [BV e2,Ck e2,(CT B).1]
   exact (DI B).symm
theorem AF.part_ok {n:Nat} {H:Hp} {v:V} (h:AF (n+1) H v):∀ p∈(CK H v).2,BM p=true->AN n H p:=λp hp e=>h.parts_ok p (by rw [h.parts_eq];exact W4.mpr ⟨hp,e⟩)
theorem AN.elems_same {n:Nat} {H H':Hp} {v:V} (h:AN n H v) (s:Bf H H'):Bc H' v=Bc H v:=by
 obtain ⟨b,ys,rfl,e,_⟩:=h
 rw [Az e,Az (s _ _ e)]
theorem Hb {H:Hp} {x:V} (h:BM x=false):Bc H x=[]:=by
 cases x<;>first | rfl | cases h
theorem AF.turn_same {n:Nat} {H H':Hp} {v:V} (h:AF (n+1) H v) (s:Bf H H'):AO H' v=AO H v:=by
 unfold AO
 rw [h.z_same s]
 have e:Bc H' ((CK H v).2.getD 2 .non)=Bc H ((CK H v).2.getD 2 .non):=by
  cases e:BM ((CK H v).2.getD 2 .non) with
  |false=>rw [Hb e,Hb e]
  |true =>
   refine (h.part_ok _ ?_ e).elems_same s
   rw [K3] at e |-
   cases q:(CK H v).2[2]? with
   |none=>rw [q] at e;cases e
   |some x=>exact d0 q
 rw [e]
theorem Gp {f g:V->Nat->List Ln} {n:Nat} {H H':Hp} {y:V} (h:AF (n+1) H y) (s:Bf H H') (d:Nat) (e:∀ p,AN n H p->∀ d,f p d=g p d):AM f H' y d=AM g H y d:=by
 unfold AM AT
 rw [h.z_same s,h.turn_same s]
 congr 1
 exact Gx λx hx hr=>e x (h.part_ok x hx hr) _
theorem Bu {H H':Hp} (s:Bf H H'):∀ {n:Nat} {v:V},AN n H v->∀ d,Ah (n+1) H' v d=Ah (n+1) H v d:=by
 intro n
 induction n with
 |zero =>
  intro v h d
  obtain ⟨b,ys,rfl,e2,e3⟩:=id h
  show (Bc H' _).flatMap _=(Bc H _).flatMap _
  rw [h.elems_same s]
  exact AC λy hy=>by rw [Az e2] at hy;exact (e3 y hy).elim
 |succ n ih =>
  intro v h d
  obtain ⟨b,ys,rfl,e2,e3⟩:=id h
  show (Bc H' _).flatMap _=(Bc H _).flatMap _
  rw [h.elems_same s]
  refine AC λy hy=>?_
  rw [Az e2] at hy
  exact Gp (e3 y hy) s d λp hp d=>ih hp d
theorem GB {num num':V->Nat->Tr} {len len':V->Nat} {tn:Nat}:∀ {r:List V} {w:Bool} {c:Nat},(∀ x∈r,BM x=true->len x=len' x/\∀ k,num x k=num' x k)->Ct num len tn w c r=Ct num' len' tn w c r
 |[],_,_,_=>rfl
 |x::r,w,c,h=>by
  unfold Ct
  by_cases e:BM x=true
  ·rw [if_pos e,if_pos e,(h x C0 e).1,(h x C0 e).2,GB λy hy=>h y (A0 _ hy)]
  ·rw [if_neg e,if_neg e,GB λy hy=>h y (A0 _ hy)]
theorem Gw {f f':V->Nat->Tr} {len len':V->Nat}:∀ {ys:List V} {k:Nat},(∀ y∈ys,len y=len' y/\∀ k,f y k=f' y k)->Cd f len k ys=Cd f' len' k ys
 |[],_,_=>rfl
 |y::r,k,h=>by
  unfold Cd
  rw [(h y C0).1,(h y C0).2,Gw λx hx=>h x (A0 _ hx)]
theorem Kj {num num':V->Nat->Tr} {len len':V->Nat} {n:Nat} {H H':Hp} {y:V} (h:AF (n+1) H y) (s:Bf H H') (k:Nat) (e:∀ p,AN n H p->len p=len' p/\∀ k,num p k=num' p k):CG pf num len H' y k=CG pf num' len' H y k:=by
 unfold CG
 rw [h.z_same s,h.turn_same s,GB λx hx hr=>e x (h.part_ok x hx hr)]
theorem FE {H H':Hp} (s:Bf H H'):∀ {n:Nat} {v:V},AN n H v->∀ k,Bm pf (n+1) H' v k=Bm pf (n+1) H v k:=by
 intro n
 induction n with
 |zero =>
  intro v h k
  obtain ⟨b,ys,rfl,e2,e3⟩:=id h
  show Tr.t (Cd _ _ k (Bc H' _))=Tr.t (Cd _ _ k (Bc H _))
  rw [h.elems_same s,Gw λy hy=>by rw [Az e2] at hy;exact (e3 y hy).elim]
 |succ n ih =>
  intro v h k
  obtain ⟨b,ys,rfl,e2,e3⟩:=id h
  show Tr.t (Cd _ _ k (Bc H' _))=Tr.t (Cd _ _ k (Bc H _))
  rw [h.elems_same s,Gw λy hy=>?_]
  rw [Az e2] at hy
  refine ⟨by rw [Gp (g:=Ah (n+1) H) (e3 y hy) s 0 λp hp d=>Bu s hp d],λk=>Kj (e3 y hy) s k λp hp=>⟨by rw [Bu s hp],λk=>ih hp k⟩⟩
def ND:Sp:=λvs H Q _=>∃ (v:V) (n:Nat),vs=[v]/\AF (n+1) H v/\∀ (l:Addr) (ws:List V) (H':Hp),H l=none->H' l=some (.lst ws)->(∀ x∈ws,TV x)->ws.map CI=AT H v->ws.length<=7->Ag H H'->Q (.ref l) H'
def OM:Sp:=λvs H Q _=>∃ (p:Addr) (ln:Int) (a b c:Str) (l:Int),vs=[.ref p]/\H p=some (.tup [.str "begin",.int ln,.str a,.str b,.str c,.int l])/\a.length<=60/\b.length<=60/\c.length<=60/\0<=l/\l<10000000/\∀ (q:Addr) (ws:List V) (H':Hp),H q=none->H' q=some (.lst ws)->(∀ x∈ws,TV x)->ws.map CI=AS "begin" [.str a,.str b,.str c,.int l]->ws.length<=7->Ag H H'->Q (.ref q) H'
def OI:Sp:=λvs H Q _=>∃ (v:V) (n:Nat),vs=[v]/\AF (n+1) H v/\BH (CK H v).1/\∀ (l:Addr) (ws:List V) (H':Hp),H l=none->H' l=some (.lst ws)->(∀ x∈ws,TV x)->AO H v=(if ws=[] then [] else [ws.map CI])->ws.length<=2->Ag H H'->Q (.ref l) H'
def KJ:Sp:=λvs H Q _=>∃ (v:V) (n:Nat),vs=[v]/\AF (n+1) H v/\∀ (l:Addr) (H':Hp),H l=none->H' l=some (.lst ((AT H v).map V.str))->Ag H H'->Q (.ref l) H'
def Fy:Sp:=λvs H Q _=>∃ (v:V) (n:Nat) (t:List Str),vs=[v]/\AF (n+1) H v/\BH (CK H v).1/\AO H v=[t]/\∀ (l:Addr) (H':Hp),H l=none->H' l=some (.lst (t.map V.str))->Ag H H'->Q (.ref l) H'
theorem iteT {c A B:Prop} [Decidable c] (hc:c) (h:A):if c then A else B:=by rw [if_pos hc];exact h
theorem iteF {c A B:Prop} [Decidable c] (hc:¬ c) (h:B):if c then A else B:=by rw [if_neg hc];exact h
structure RI (n:Nat) (H:Hp) (v:V) (a:Addr) (z:Str) (ln:Int) (r:List V):Prop where
 e:v=.ref a
 h:H a=some (.tup (.str z::.int ln::r))
 zr:CK H v=(z,r)
 zl:z.length<=10
 len:r.length<=4
 each:∀ x∈r,(BM x=true/\AN n H x)\/TV x
 sh:HS z r\/∃ th fa bs,EV z r th fa bs
theorem word_le {z:Str} (h:LN z):z.length<=10:=by
 rcases h with rfl | rfl | rfl | rfl | rfl | rfl | rfl | rfl<;>decide +kernel
theorem AF.ri {n:Nat} {H:Hp} {v:V} (h:AF (n+1) H v):∃ a z ln r,RI n H v a z ln r:=by
 obtain ⟨a,z,r,rfl,e2,e3,e4,_⟩:=id h
 obtain ⟨ln,r',rfl,hS⟩:=e3
 have eZ:=Ck e2
 have ep:∀ x∈r',BM x=true->AN n H x:=λx hx hr=>h.part_ok x (by rw [eZ];exact hx) hr
 refine ⟨a,z,ln,r',rfl,e2,eZ,?_,?_,λx hx=>?_,hS⟩
 ·rcases hS with P | ⟨th,fa,bs,B⟩
  ·exact P.l
  ·exact word_le B.w
 ·rcases hS with P | ⟨th,fa,bs,B⟩
  ·exact P.rl
  ·have:=(CT (i:=ln) B).2
   have hz:CB z<=5:=by
    rcases B.w with rfl | rfl | rfl | rfl | rfl | rfl | rfl | rfl<;>decide +kernel
   rw [J0] at this
   omega
 ·cases e:BM x with
  |true=>exact .inl ⟨rfl,ep x hx e⟩
  |false =>
   refine .inr ?_
   rcases hS with P | ⟨th,fa,bs,B⟩
   ·exact P.tv x hx
   ·rw [B.e] at hx
    rcases T0.mp hx with hx | hx
    ·exact B.tv x hx
    ·by_cases ez:z="try"
     ·rw [if_pos ez] at hx
      obtain ⟨b0,b1,rfl⟩:=Gz (B.two (.inl ez))
      simp only [Nu,L0,E1,or_false] at hx
      rcases hx with rfl | rfl | rfl
      ·cases e
      ·exact (B.fv.1 ez).tv
      ·cases e
     ·rw [if_neg ez] at hx
      obtain ⟨b,_,rfl⟩:=j1.mp hx
      cases e
theorem RI.ix {K:K0} {n:Nat} {H G:Hp} {v:V} {a:Addr} {z:Str} {ln:Int} {r:List V} {R:VK} (I:RI n H v a z ln r) (j:Nat) (x:V) (hx:(V.str z::.int ln::r)[j]?=some x) (s:Ag H G) (q:R x G):HY K v (.int (j:Nat)) G R:=by
 obtain rfl:=I.e
 exact ⟨a,_,_,x,rfl,rfl,BN.of (s _ _ I.h),AV hx,q⟩
theorem RI.words {n:Nat} {H:Hp} {v:V} {a:Addr} {z:Str} {ln:Int} {r:List V} (I:RI n H v a z ln r):AT H v=AS z r:=by
 unfold AT
 rw [I.zr]
theorem OQ {K:K0} {G:Hp} {a:Addr} {x y:V} {r:List V} {R:VK} (h:G a=some (.tup (x::y::r))) (k:∀ q G',G q=none->Ag G G'->G' q=some (.tup r)->R (.ref q) G'):rSlTW K (.ref a) (some 2) none G R:=by
 have e1:HT.sIx (x::y::r).length 0 (some 2)=2:=(HT.sIx_nat _ _ 2).trans (by rw [J0,J0];omega)
 refine ⟨a,_,rfl,BN.of h,λhw=>?_,λhw q hq=>k q _ hq (Ag.upd hq) ?_⟩
 ·exfalso
  have:=hw.1
  rw [e1] at this
  omega
 ·rw [Ac]
  unfold Ig
  have e2:HT.sIx (x::y::r).length (x::y::r).length none=(x::y::r).length:=rfl
  rw [e1,e2]
  congr 2
  show j6 ((r.length+1+1)-2) r=r
  rw [show r.length+1+1-2=r.length by omega,C2]
theorem RU {K:K0} {G:Hp} {b:Addr} {ys:List V} {R:VK} (h:G b=some (.tup ys)) (k:∀ G',Ag G G'->R (.bl (!decide (ys=[]))) G'):0<=sizeLine/\∀ p,G p=none->rEqT K true (.ref b) (.ref p) (upd G p (.tup [])) R:=by
 refine ⟨by decide,λp hp=>⟨b,p,ys,[],0,λ_=>true,rfl,rfl,BN.of ((Ag.upd hp) _ _ h),BN.of Ac,by decide,(λi x y _ hy=>by cases hy),?_⟩⟩
 have e:(true^^((Q2 (min ys.length ([]:List V).length)).all λ_=>true)&&ys.length == ([]:List V).length)=!decide (ys=[]):=by
  cases ys with
  |nil=>rfl
  |cons z r=>simp
 rw [e]
 exact k _ (Ag.upd hp)
theorem Lo {K:K0} {G:Hp} {a:Addr} {xs:List V} {R:VK} (h:G a=some (.lst xs)) (k:∀ G',Ag G G'->R (.bl (!decide (xs=[]))) G'):0<=sizeLine/\∀ p,G p=none->rEqL K true (.ref a) (.ref p) (upd G p (.lst [])) R:=by
 refine ⟨by decide,λp hp=>⟨a,p,_,[],0,λ_=>true,rfl,rfl,AH.of ((Ag.upd hp) _ _ h),AH.of Ac,by decide,(λi x y _ hy=>by cases hy),?_⟩⟩
 have e:(true^^(decide (xs.length=([]:List V).length)&&(Q2 xs.length).all λ_=>true))=!decide (xs=[]):=by
  cases xs with
  |nil=>rfl
  |cons z r=>simp
 rw [e]
 exact k _ (Ag.upd hp)
theorem Jg {n:Int} (h0:0<=n) (h1:n<10000000):n.natAbs.log2<1920:=by
 by_cases e:n.natAbs=0
 ·rw [e];decide
 ·refine (Nat.log2_lt e).mpr (V1 (show n.natAbs<10000000 by omega) ?_)
  exact Q0 (show 10000000<=2 ^ 24 by decide) (Nat.pow_le_pow_right (show 0<2 by decide) (show 24<=1920 by decide))
theorem MP (z:Str) (zs:List Str):DH (.str z) (zs.map V.str)=decide (z∈zs):=by
 unfold DH
 rw [k5,P7,decide_eq_true_eq]
 constructor
 ·rintro ⟨y,hy,q⟩
  obtain ⟨n,hn,rfl⟩:=j1.mp hy
  have:n=z:=by simpa [Ha] using q
  subst this
  exact hn
 ·intro h
  exact ⟨.str z,j1.mpr ⟨z,h,rfl⟩,by simp [Ha]⟩
theorem inL {K:K0} {G:Hp} {p:Addr} {z:Str} {R:VK} (zs:List Str) (k:R (.bl (decide (z∈zs))) (upd G p (.lst (zs.map V.str)))):rIn K false (.str z) (.ref p) (upd G p (.lst (zs.map V.str))) R:=by
 refine ⟨p,_,rfl,.inl (AH.of Ac),rfl,EA zs,?_⟩
 rw [if_neg N0,MP]
 exact k
theorem noR {z:Str} {r th:List V} {fa:V} {bs:List Addr} (B:EV z r th fa bs) (hz:z≠"try"):r.filter (λv=>!BM v)=th:=by
 rw [B.e,if_neg hz,A4]
 have f1:(bs.map V.ref).filter (λv=>!BM v)=[]:=j4.mpr λx hx=>by
  obtain ⟨b,_,rfl⟩:=j1.mp hx
  exact N0
 rw [f1,o0]
 exact K5.mpr λx hx=>by rw [(B.tv x hx).notR];rfl
theorem CV {z:Str} {r th:List V} {fa:V} {bs:List Addr} (B:EV z r th fa bs) (hz:z≠"try"):AS z r=z::th.map CI:=by
 unfold AS
 rw [if_neg (λe=>absurd B.w (by rw [e];decide +kernel)),if_neg hz,noR B hz]
theorem Hf {z:Str} {r:List V} (P:HS z r) (hz:z≠"begin"):AS z r=z::r.map CI:=by
 unfold AS
 rw [if_neg hz,if_neg (λe=>absurd P.p (by rw [e];decide +kernel)),K5.mpr λx hx=>by rw [(P.tv x hx).notR];rfl]
def DY (d:Addr) (H H':Hp):Prop:=∀ c o,c≠d->H c=some o->H' c=some o
theorem DY.refl (d:Addr) (H:Hp):DY d H H:=λ_ _ _ h=>h
theorem DY.trans {d:Addr} {H H1 H2:Hp} (a:DY d H H1) (b:DY d H1 H2):DY d H H2:=λc o n h=>b c o n (a c o n h)
theorem DY.of {d:Addr} {H H':Hp} (s:Ag H H'):DY d H H':=λc o _ h=>s c o h
theorem DY.upd {d:Addr} {H:Hp} {u:HO}:DY d H (L2.upd H d u):=λc o n h=>by rw [Aq n];exact h
structure QB (C:Addr) (H:Hp) (p L:Addr) (ts:List Str):Prop where
 ob:∃ dx,H p=some (.ins C dx [("lines",.ref L)])
 ls:H L=some (.lst (ts.map V.str))
theorem QB.same {C:Addr} {H H':Hp} {p L:Addr} {ts:List Str} (W:QB C H p L ts) (s:Ag H H'):QB C H' p L ts:=by
 obtain ⟨⟨dx,h⟩,e⟩:=W
 exact ⟨⟨dx,s _ _ h⟩,s _ _ e⟩
theorem QB.but {C:Addr} {H H':Hp} {p L:Addr} {ts ts':List Str} (W:QB C H p L ts) (b:DY L H H') (e:H' L=some (.lst (ts'.map V.str))):QB C H' p L ts':=by
 obtain ⟨⟨dx,h⟩,e'⟩:=W
 exact ⟨⟨dx,b _ _ (Gg h e' (λz=>nomatch z)) h⟩,e⟩
theorem DY.sameT {L:Addr} {H H':Hp} {xs:List V} (b:DY L H H') (h:H L=some (.lst xs)):Bf H H':=λa ys e=>b _ _ (Gg e h (λz=>nomatch z)) e
theorem SD (L:Addr):([("lines",.ref L)]:List (Str×V)).lookup ("lines":Str)=some (.ref L):=by
 show (Cq "lines" (.ref L) []).lookup ("lines":Str)=_
 rw [CW,if_pos rfl]
theorem HN (L:Addr) {m:Str} (h:¬ m="lines"):([("lines",.ref L)]:List (Str×V)).lookup m=none:=by
 show (Cq "lines" (.ref L) []).lookup m=_
 rw [CW,if_neg h]
 rfl
def AZ (x:Ln):Str:=Ho x.1 "  "++Txt.join " " x.2
def NC (C:Addr):Sp:=λvs H Q _=>∃ (x dx:Addr),vs=[.ref x]/\H x=some (.ins C dx [])/\∀ (L:Addr) (H':Hp),H L=none->DY x H H'->H' x=some (.ins C dx [("lines",.ref L)])->H' L=some (.lst [])->Q .non H'
def Eu (C:Addr):Sp:=λvs H Q _=>∃ (p L:Addr) (ts:List Str) (l:Addr) (ws:List V) (d:Nat),vs=[.ref p,.ref l,.int d]/\QB C H p L ts/\H l=some (.lst ws)/\(∀ x∈ws,TV x)/\ws.length<=7/\d<=30/\ts.length<=60000/\∀ H',DY L H H'->H' L=some (.lst ((ts++[AZ (d,ws.map CI)]).map V.str))->Q (.int (ts.length+1)) H'
def Fz (C:Addr):Sp:=λvs H Q _=>∃ (p L:Addr) (ts:List Str) (v:V) (n d:Nat),vs=[.ref p,v,.int d]/\QB C H p L ts/\AF (n+1) H v/\BH (CK H v).1/\d<=30/\ts.length<=60000/\∀ H',DY L H H'->H' L=some (.lst ((ts++(AO H v).map λws=>AZ (d,ws)).map V.str))->Q .non H'
theorem txt_le {v:V} (h:TV v):(CI v).length<=60:=by
 rcases h with ⟨n,rfl,h0,h1⟩ | ⟨z,rfl,h⟩
 ·exact Q0 (T5 h0 (k:=7) (by decide) h1) (by decide)
 ·exact h
theorem Iv (sep:Str):∀ zs:List Str,(Txt.join sep zs).length<=(zs.map (·.length)).sum+zs.length*sep.length:=by
 intro zs
 show (Builtin.Str.glued _ _).length<=_
 rw [StrLaws.glued_eq_join]
 induction zs with
 |nil=>exact D2 _
 |cons c r ih =>
  cases r with
  |nil=>show c.length<=_;simp
  |cons d r =>
   show (c++sep++Str.join sep (d::r)).length<=_
   rw [CQ,CQ]
   rw [S1,V3,J0,x5]
   omega
theorem Rb {zs:List Str} {b:Nat} (h:∀ z∈zs,z.length<=b):(zs.map (·.length)).sum<=zs.length*b:=by
 induction zs with
 |nil=>exact D2 _
 |cons z r ih =>
  rw [S1,V3,J0,x5]
  have:=h z C0
  have:=ih λy hy=>h y (A0 _ hy)
  omega
theorem LM {ws:List V} (h:∀ x∈ws,TV x) (hl:ws.length<=7):((ws.map CI).map (·.length)).sum+(ws.map CI).length*(" ":Str).length<=427:=by
 have h1:=Rb (zs:=ws.map CI) (b:=60) λz hz=>by
  obtain ⟨v,hv,rfl⟩:=j1.mp hz
  exact txt_le (h v hv)
 rw [show (" ":Str).length=1 by decide +kernel,D0] at *
 omega
theorem Hm (n:Nat) (H:Hp) (y:V) (d e:Nat):(AM (Ah n H) H y d).length=(AM (Ah n H) H y e).length:=by
 unfold AM
 have:=GQ (f:=λp=>Ah n H p (d+1)) (g:=λp=>Ah n H p (e+1)) (tn:=(AO H y).map λws=>(d,ws)) (tn':=(AO H y).map λws=>(e,ws)) (en:=[(d,["end"])]) (en':=[(e,["end"])]) (by rw [D0,D0]) rfl (r:=(CK H y).2) (w:=false) λx _ _=>EN n H x _ _
 rw [J0,J0,this]
theorem GO {f:V->Nat->Tr} {len:V->Nat}:∀ {ys:List V} {k:Nat},(Cd f len k ys).length=ys.length
 |[],_=>rfl
 |_::r,_=>by unfold Cd;rw [J0,J0,GO]
theorem Km {f:V->Nat->Tr} {len:V->Nat} {y:V}:∀ {ys:List V} {k:Nat},Cd f len k (ys++[y])=Cd f len k ys++[f y (k+(ys.map len).sum)]
 |[],_=>rfl
 |x::r,k=>by
  show f x k::Cd f len (k+len x) (r++[y])=f x k::(Cd f len (k+len x) r++_)
  rw [Km,S1,V3,E6]
theorem MG {α β:Type} {f:α->List β} (h:∀ x,1<=(f x).length):∀ xs:List α,xs.length<=(xs.flatMap f).length
 |[]=>P0 _
 |x::r=>by
  rw [N1,B0,J0]
  have:=h x
  have:=MG h r
  omega
theorem Gk {α:Type} {xs:List α} {i:Nat} {x:α} (h:xs[i]?=some x):xs.take (i+1)=xs.take i++[x]:=by
 rw [A6,h];rfl
theorem turn_if {C:Addr} {w:Bool} {R:Hp->Prop} {E:XK} {p L a:Addr} {d m:Nat} {ts:List Str} {G:Hp} (W:QB C G p L ts) (hv:AF (m+1) G (.ref a)) (h2:w=true->BH (CK G (.ref a)).1) (hd:d<=30) (htl:ts.length<=60000)
  (k:∀ G1,DY L G G1->G1 L=some (.lst ((ts++(if w then (AO G (.ref a)).map (λws=>AZ (d,ws)) else [])).map V.str))->R G1) :
  if w=true then ∃ x x_1,G p=some (.ins C x x_1)/\P4 ("put_turn":Str) x_1=none/\Fz C [.ref p,.ref a,.int d] G (λ_ H1=>R H1) E else R G:=by
 cases w with
 |false=>exact iteF (by decide) (k G (DY.refl _ _) (by rw [if_neg (by decide),o0];exact W.ls))
 |true =>
  obtain ⟨⟨dx,hp⟩,_⟩:=id W
  exact iteT rfl ⟨dx,_,hp,HN L (by decide +kernel),p,L,ts,.ref a,m,d,rfl,W,hv,h2 rfl,hd,htl,λH' b h=>k H' b h⟩
theorem end_if {C:Addr} {w:Bool} {R:Hp->Prop} {E:XK} {p L:Addr} {d:Nat} {ts:List Str} {G:Hp} (W:QB C G p L ts) (hd:d<=30) (htl:ts.length<=60000)
  (k:∀ G1,DY L G G1->G1 L=some (.lst ((ts++(if w then [AZ (d,["end"])] else [])).map V.str))->R G1) :
  if w=true then ∃ x x_1,G p=some (.ins C x x_1)/\P4 ("put_line":Str) x_1=none/\1<=sizeLine/\∀ q:Addr,G q=none->Eu C [.ref p,.ref q,.int d] (upd G q (.lst [.str "end"])) (λ_ H1=>R H1) E else R G:=by
 cases w with
 |false=>exact iteF (by decide) (k G (DY.refl _ _) (by rw [if_neg (by decide),o0];exact W.ls))
 |true =>
  obtain ⟨⟨dx,hp⟩,_⟩:=id W
  refine iteT rfl ⟨dx,_,hp,HN L (by decide +kernel),by decide,λq hq=>⟨p,L,ts,q,[.str "end"],d,rfl,W.same (Ag.upd hq),Ac,No (.inr ⟨_,rfl,by decide +kernel⟩),(show 1<=7 by decide),hd,htl,λH' b h=>k H' ((DY.of (Ag.upd hq)).trans b) h⟩⟩
theorem AF.words {n:Nat} {H:Hp} {v:V} (h:AF (n+1) H v):∃ ws:List V,(∀ x∈ws,TV x)/\ws.length<=7/\ws.map CI=AT H v:=by
 obtain ⟨a,z,ln,r,I⟩:=h.ri
 rw [I.words]
 have st:∀ {z:Str},z.length<=60->TV (.str z):=λh=>.inr ⟨_,rfl,h⟩
 have hzl:=I.zl
 by_cases hb:z="begin"
 ·rcases I.sh with P | ⟨th,fa,bs,B⟩
  ·obtain ⟨x,y,w,l,rfl,hl0⟩:=P.b.1 hb
   have e:AS z [.str x,.str y,.str w,.int l]=[("begin":Str),x,y, "in",w]++(if l=0 then [] else [("within":Str),CI (.int l)]):=by
    unfold AS
    rw [if_pos hb]
   rw [e]
   have t1:=P.tv (.str x) (by simp)
   have t2:=P.tv (.str y) (by simp)
   have t3:=P.tv (.str w) (by simp)
   have t4:=P.tv (.int l) (by simp)
   have t5:∀ v∈[V.str "begin",.str x,.str y,.str "in",.str w],TV v:=λv hv=>by
    simp only [L0,E1,or_false] at hv
    rcases hv with rfl | rfl | rfl | rfl | rfl
    ·exact st (by decide +kernel)
    ·exact t1
    ·exact t2
    ·exact st (by decide +kernel)
    ·exact t3
   by_cases e0:l=0
   ·rw [if_pos e0]
    exact ⟨_,t5,(show 5<=7 by decide),rfl⟩
   ·rw [if_neg e0]
    refine ⟨[V.str "begin",.str x,.str y,.str "in",.str w]++[.str "within",.int l],λv hv=>?_,by simp,rfl⟩
    rcases T0.mp hv with hv | hv
    ·exact t5 v hv
    ·exact tv2 (st (by decide +kernel)) t4 v hv
  ·exact absurd B.w (by rw [hb];decide +kernel)
 ·by_cases ht:z="try"
  ·refine ⟨[.str "try"],No (st (by decide +kernel)),(show 1<=7 by decide),?_⟩
   unfold AS
   rw [if_neg hb,if_pos ht]
   rfl
  ·have:=E3 (λv=>!BM v) r
   have:=I.len
   refine ⟨.str z::r.filter (λv=>!BM v),λv hv=>?_,by rw [J0];omega,?_⟩
   ·rcases L0.mp hv with rfl | hv
    ·exact st (by omega)
    ·obtain ⟨h1,h2⟩:=W4.mp hv
     rcases I.each v h1 with ⟨h,_⟩ | h
     ·rw [h] at h2;cases h2
     ·exact h
   ·unfold AS
    rw [if_neg hb,if_neg ht]
    rfl
theorem Ir {ws:List V} {d:Nat} (h:∀ x∈ws,TV x) (hl:ws.length<=7) (hd:d<=30):(AZ (d,ws.map CI)).length<=487:=by
 have h1:=LM h hl
 have h2:=Iv " " (ws.map CI)
 show (Ho d "  "++Txt.join " " (ws.map CI)).length<=487
 rw [CQ,GI,show ("  ":Str).length=2 by decide +kernel]
 omega
theorem AF.turns {n:Nat} {H:Hp} {v:V} (h:AF (n+1) H v):∀ t∈AO H v,∃ ws:List V,(∀ x∈ws,TV x)/\ws.length<=7/\ws.map CI=t\/t=[("but":Str), ""]:=by
 intro t ht
 have st:∀ {z:Str},z.length<=60->TV (.str z):=λh=>.inr ⟨_,rfl,h⟩
 obtain ⟨a,z,ln,r,I⟩:=h.ri
 unfold AO at ht
 rw [I.zr] at ht
 split at ht
 ·rw [M0.mp ht]
  rw [K3]
  cases q:r[1]? with
  |none=>exact ⟨[],.inr rfl⟩
  |some x =>
   rcases I.each x (d0 q) with ⟨hr,b,_,rfl,_⟩ | hx
   ·exact ⟨[],.inr rfl⟩
   ·exact ⟨[.str "but",x],.inl ⟨tv2 (st (by decide +kernel)) hx,(show 2<=7 by decide),rfl⟩⟩
 ·split at ht
  ·rw [M0.mp ht]
   exact ⟨[.str "last"],.inl ⟨No (st (by decide +kernel)),(show 1<=7 by decide),rfl⟩⟩
  ·split at ht
   ·cases ht
   ·rw [M0.mp ht]
    exact ⟨[.str "late"],.inl ⟨No (st (by decide +kernel)),(show 1<=7 by decide),rfl⟩⟩
theorem Jh {p:Ln->Prop} {f:V->List Ln} {tn en:List Ln} (ht:∀ x∈tn,p x) (he:∀ x∈en,p x):∀ {r:List V} {w:Bool},(∀ x∈r,BM x=true->∀ y∈f x,p y)->∀ y∈BK f tn en w r,p y
 |[],w,_,y,hy=>by
  cases w with
  |false=>cases hy
  |true=>exact he y hy
 |x::r,w,h,y,hy=>by
  cases e:BM x with
  |false =>
   rw [Cy e] at hy
   exact Jh ht he (λz hz=>h z (A0 _ hz)) y hy
  |true =>
   cases x with
   |ref a =>
    rw [BQ] at hy
    rcases T0.mp hy with hy | hy
    ·cases w with
     |false=>cases hy
     |true=>exact ht y hy
    rcases T0.mp hy with hy | hy
    ·exact h _ C0 rfl y hy
    ·exact Jh ht he (λz hz=>h z (A0 _ hz)) y hy
   |_=>cases e
theorem Pc:∀ {n:Nat} {H:Hp} {v:V} {d:Nat},AN n H v->d+n<=30->∀ x∈Ah (n+1) H v d,(AZ x).length<=487:=by
 intro n
 induction n with
 |zero =>
  intro H v d h _ x hx
  obtain ⟨b,ys,rfl,e2,e3⟩:=id h
  obtain ⟨y,hy,_⟩:=j2.mp (show x∈(Bc H (.ref b)).flatMap _ from hx)
  rw [Az e2] at hy
  exact (e3 y hy).elim
 |succ n ih =>
  intro H v d h hd x hx
  obtain ⟨b,ys,rfl,e2,e3⟩:=id h
  obtain ⟨y,hy,hx⟩:=j2.mp (show x∈(Bc H (.ref b)).flatMap _ from hx)
  rw [Az e2] at hy
  have hr:=e3 y hy
  rcases L0.mp hx with rfl | hx
  ·obtain ⟨ws,h1,h2,h3⟩:=hr.words
   rw [<- h3]
   exact Ir h1 h2 (by omega)
  ·refine Jh (p:=λx=>(AZ x).length<=487) (λx hx=>?_) (λx hx=>?_) (λp hp e z hz=>ih (hr.part_ok p hp e) (by omega) z hz) x hx
   ·obtain ⟨t,ht,rfl⟩:=j1.mp hx
    obtain ⟨ws,h | h⟩:=hr.turns t ht
    ·rw [<- h.2.2]
     exact Ir h.1 h.2.1 (by omega)
    ·rw [h]
     exact Ir (ws:=[.str "but",.str ""]) (tv2 (.inr ⟨_,rfl,by decide +kernel⟩) (.inr ⟨_,rfl,by decide +kernel⟩)) (show 2<=7 by decide) (by omega)
   ·rw [M0.mp hx]
    exact Ir (ws:=[.str "end"]) (No (.inr ⟨_,rfl,by decide +kernel⟩)) (show 1<=7 by decide) (by omega)
def Gd (ls:List Ln):Str:=Txt.join "" (ls.map λx=>AZ x++"\n")
theorem wNew {C:Addr} {H H2:Hp} {x dx L:Addr} (hx:H x=none) (hdx:H dx=none) (ne:dx≠x) (hL:upd (upd H dx (.own x)) x (.ins C dx []) L=none) (b:DY x (upd (upd H dx (.own x)) x (.ins C dx [])) H2) (h1:H2 x=some (.ins C dx [("lines",.ref L)])) (h2:H2 L=some (.lst [])):Ag H H2/\QB C H2 x L []/\H L=none:=by
 have up:∀ c o,H c=some o->upd (upd H dx (.own x)) x (.ins C dx []) c=some o:=λc o h=>by rw [Aq (AG h hx),Aq (AG h hdx)];exact h
 refine ⟨λc o h=>b c o (AG h hx) (up c o h),⟨⟨dx,h1⟩,h2⟩,?_⟩
 cases e:H L with
 |none=>rfl
 |some o=>rw [up L o e] at hL;cases hL
theorem sumL {ls:List Ln} {b:Nat} (h:∀ x∈ls,(AZ x).length<=b):((ls.map λx=>AZ x++"\n").map (·.length)).sum<=ls.length*(b+1):=by
 have:=Rb (zs:=ls.map λx=>AZ x++"\n") (b:=b+1) λz hz=>by
  obtain ⟨x,hx,rfl⟩:=j1.mp hz
  rw [CQ,show ("\n":Str).length=1 by decide +kernel]
  have:=h x hx
  omega
 rwa [D0] at this
def Ce (H:Hp) (ps:List Addr) (ls:List Ln):Prop:=ps.length=ls.length/\∀ (i:Nat) (q:Addr) (x:Ln),ps[i]?=some q->ls[i]?=some x->x.2≠[]/\∃ w,H q=some (.tup [.int (x.1:Nat),.ref w])/\H w=some (.lst (x.2.map V.str))
theorem Ce.same {H H':Hp} {ps:List Addr} {ls:List Ln} (h:Ce H ps ls) (s:Ag H H'):Ce H' ps ls:=⟨h.1,λi q x a b=>by
 obtain ⟨e,w,h1,h2⟩:=h.2 i q x a b
 exact ⟨e,w,s _ _ h1,s _ _ h2⟩⟩
theorem Ce.updL {H:Hp} {ps qs:List Addr} {ls:List Ln} {lp:Addr} {o:HO} (h:Ce H ps ls) (hl:H lp=some (.lst (qs.map V.ref))):Ce (upd H lp o) ps ls:=⟨h.1,λi q x a b=>by
 obtain ⟨e,w,h1,h2⟩:=h.2 i q x a b
 refine ⟨e,w,by rw [Aq (Gg h1 hl (λz=>nomatch z))];exact h1,?_⟩
 rw [Aq (λz=>?_)]
 ·exact h2
 ·rw [z,hl] at h2
  cases hx:x.2 with
  |nil=>exact e hx
  |cons y r =>
   rw [hx] at h2
   cases qs with
   |nil=>cases h2
   |cons q' qs=>cases h2⟩
theorem Ce.snoc {H:Hp} {ps:List Addr} {ls:List Ln} {q w:Addr} {x:Ln} (h:Ce H ps ls) (e:x.2≠[]) (h1:H q=some (.tup [.int (x.1:Nat),.ref w])) (h2:H w=some (.lst (x.2.map V.str))):Ce H (ps++[q]) (ls++[x]):=by
 refine ⟨by rw [B0,B0,h.1];rfl,λi q' x' a b=>?_⟩
 by_cases hi:i<ps.length
 ·rw [X0 hi] at a
  rw [X0 (by rw [<- h.1];exact hi)] at b
  exact h.2 i q' x' a b
 ·rw [L1 (by omega)] at a
  rw [L1 (by rw [<- h.1];omega),<- h.1] at b
  have hi':=(W0.mp a).1
  rw [y3] at hi'
  rw [show i-ps.length=0 by omega] at a b
  cases a
  cases b
  exact ⟨e,w,h1,h2⟩
theorem Ce.app {H:Hp} {ps qs:List Addr} {ls ms:List Ln} (h:Ce H ps ls) (g:Ce H qs ms):Ce H (ps++qs) (ls++ms):=by
 refine ⟨by rw [B0,B0,h.1,g.1],λi q x a b=>?_⟩
 by_cases hi:i<ps.length
 ·rw [X0 hi] at a
  rw [X0 (by rw [<- h.1];exact hi)] at b
  exact h.2 i q x a b
 ·rw [L1 (by omega)] at a
  rw [L1 (by rw [<- h.1];omega),<- h.1] at b
  exact g.2 _ q x a b
theorem AF.words_ne {n:Nat} {H:Hp} {v:V} (h:AF (n+1) H v):AT H v≠[]:=by
 obtain ⟨a,z,ln,r,I⟩:=h.ri
 rw [I.words]
 by_cases hb:z="begin"
 ·rcases I.sh with P | ⟨th,fa,bs,B⟩
  ·obtain ⟨x,y,w,l,rfl,_⟩:=P.b.1 hb
   unfold AS
   rw [if_pos hb]
   simp
  ·exact absurd B.w (by rw [hb];decide +kernel)
 ·unfold AS
  rw [if_neg hb]
  split<;>simp
def GF (n:Nat):Sp:=λvs H Q _=>∃ (v:V) (d:Nat),vs=[v,.int d]/\AN n H v/\(Ah (n+1) H v d).length<=20000/\∀ (l:Addr) (ps:List Addr) (H':Hp),H l=none->H' l=some (.lst (ps.map V.ref))->Ce H' ps (Ah (n+1) H v d)->Ag H H'->Q (.ref l) H'
def Rm:Nat->Sp
 |0=>Rk
 |n+1=>GF n
theorem SX {H G1:Hp} {lp w p:Addr} {ps:List Addr} {Ls:List Ln} {d:Nat} {t:List Str} {R:VK} (hlp:H lp=none) (hG:G1 lp=some (.lst (ps.map V.ref))) (hA:Ce G1 ps Ls) (s:Ag H G1) (ht:t≠[]) (hw:G1 w=some (.lst (t.map V.str))) (hp:G1 p=none) (hl:Ls.length<=20000)
  (k:∀ H3,H3 lp=some (.lst ((ps++[p]).map V.ref))->Ce H3 (ps++[p]) (Ls++[(d,t)])->Ag H H3->DY lp G1 H3->R .non H3):Ee (.ref lp) [.ref p] (upd G1 p (.tup [.int d,.ref w])) R:=by
 have s1:=Ag.upd (o:=.tup [.int (d:Nat),.ref w]) hp
 have h1:=s1 _ _ hG
 have hz:sizeLine=16777216:=by decide
 have hpl:=hA.1
 have e:ps.map V.ref++[.ref p]=(ps++[p]).map V.ref:=by rw [A1];rfl
 refine ⟨lp,_,_,rfl,rfl,h1,by rw [D0];omega,?_⟩
 rw [e]
 refine k _ Ac (((hA.same s1).snoc (x:=(d,t)) ht Ac (s1 _ _ hw)).updL h1) (λc o h=>by rw [Aq (AG h hlp)];exact s1 _ _ (s _ _ h)) λc o n h=>by rw [Aq n];exact s1 _ _ h
theorem Pt {H G:Hp} {y:V} {m:Nat} {lp:Addr} {ps:List Addr} {Ls:List Ln} {d:Nat} {t:List Str} {R:VK} {E:XK} (hlp:H lp=none) (hG:G lp=some (.lst (ps.map V.ref))) (hA:Ce G ps Ls) (s:Ag H G) (hy:AF (m+1) H y) (h2:BH (CK H y).1) (hT:AO H y=[t]) (ht:t≠[]) (hl:Ls.length<=20000)
  (k:∀ H3 p,H3 lp=some (.lst ((ps++[p]).map V.ref))->Ce H3 (ps++[p]) (Ls++[(d,t)])->Ag H H3->DY lp G H3->R .non H3):Fy [y] G (λx H1=>2<=sizeLine/\∀ p:Addr,H1 p=none->Ee (.ref lp) [.ref p] (upd H1 p (.tup [.int d,x])) R) E:=by
 refine ⟨y,m,t,rfl,hy.same s,by rw [hy.z_same (AE s)];exact h2,by rw [hy.turn_same (AE s)];exact hT,λwl G1 hwl h1 s1=>⟨by decide,λp hp=>?_⟩⟩
 exact SX (d:=d) hlp (s1 _ _ hG) (hA.same s1) (s.trans s1) ht h1 hp hl λH3 e1 e2 e3 e4=>k H3 p e1 e2 e3 ((DY.of s1).trans e4)
def RepL (F:Nat) (H:Hp) (us:List V) (ts:List Tr):Prop:=us.length=ts.length/\∀ (j:Nat) (u:V) (t:Tr),us[j]?=some u->ts[j]?=some t->EQ F H u t
theorem Ju {K:K0} {G:Hp} {a:Addr} {xs:List V} {R:VK} (h:G a=some (.lst xs)) (k:∀ G',Ag G G'->R (.bl (decide (xs=[]))) G'):0<=sizeLine/\∀ p,G p=none->rEqL K false (.ref a) (.ref p) (upd G p (.lst [])) R:=by
 refine ⟨by decide,λp hp=>⟨a,p,_,[],0,λ_=>true,rfl,rfl,AH.of ((Ag.upd hp) _ _ h),AH.of Ac,by decide,(λi x y _ hy=>by cases hy),?_⟩⟩
 have e:(false^^(decide (xs.length=([]:List V).length)&&(Q2 xs.length).all λ_=>true))=decide (xs=[]):=by
  cases xs with
  |nil=>rfl
  |cons z r=>simp
 rw [e]
 exact k _ (Ag.upd hp)
theorem HE {K:K0} {H:Hp} {a b:Addr} {xs ys:List V} {Q:VK} (ha:H a=some (.tup xs)) (hb:H b=some (.tup ys)) (hne:xs≠[]) (hl:xs.length+ys.length<=sizeLine) (k:∀ (p:Addr) (H':Hp),H' p=some (.tup (xs++ys))->Ag H H'->Q (.ref p) H'):Rw K (.ref a) (.ref b) H Q :=
 .inl ⟨a,b,xs,ys,rfl,rfl,BN.of ha,BN.of hb,hne,hl,λe=>k a H (by rw [e,o0];exact ha) (Ag.refl H),λ_ p hp=>k p _ Ac (Ag.upd hp)⟩
def Ii (m:Nat):Sp:=λvs H Q _=>∃ (a b:V) (t:Tr),vs=[a,b]/\EQ m H a t/\EQ m H b t/\∀ H':Hp,Ag H H'->Q (.bl true) H'
def Ro:Nat->Sp
 |0=>Rk
 |n+1=>Ii n
theorem QR {ls:List Ln} (h:∀ x∈ls,(AZ x).length<=487):(Gd ls).length<=ls.length*488:=by
 have h1:=sumL h
 have h2:=Iv "" (ls.map λx=>AZ x++"\n")
 rw [show ("":Str).length=0 by decide +kernel,K8,J7] at h2
 exact Q0 h2 h1
theorem turn_le (H:Hp) (v:V):(AO H v).length<=1:=by
 unfold AO
 split
 ·exact P0 _
 ·split
  ·exact P0 _
  ·split
   ·exact D2 _
   ·exact P0 _
theorem AF.parts_le {n:Nat} {H:Hp} {v:V} (h:AF (n+1) H v):(Bn H v).length<=2:=by
 obtain ⟨a,z,ln,r,I⟩:=h.ri
 rw [h.parts_eq,I.zr]
 rcases I.sh with P | ⟨th,fa,bs,B⟩
 ·rw [j4.mpr λx hx=>by rw [(P.tv x hx).notR];exact N0]
  exact D2 _
 ·show (r.filter BM).length<=2
  rw [DI B,D0]
  by_cases h2:BH z
  ·exact S6 (B.two h2)
  ·have:=B.one h2
   omega
theorem lns_le {f:V->List Ln} {g:V->List V} {tn en:List Ln} (ht:tn.length<=1) (he:en.length<=1):∀ {ps:List V},ps.length<=2->(∀ p∈ps,∃ a,p=V.ref a)->(∀ p∈ps,(f p).length<=3*(g p).length)->(BK f tn en false ps).length<=2+3*(ps.flatMap g).length
 |[],_,_,_=>D2 _
 |[p],_,hr,h=>by
  obtain ⟨a,rfl⟩:=hr p C0
  have h1:=h _ C0
  show ((if false=true then tn else [])++(f (.ref a)++en)).length<=2+3*(g (.ref a)++[]).length
  rw [if_neg (by decide),D3,B0,o0]
  omega
 |[p,q],_,hr,h=>by
  obtain ⟨a,rfl⟩:=hr p C0
  obtain ⟨b,rfl⟩:=hr q (A0 _ C0)
  have h1:=h _ C0
  have h2:=h _ (A0 _ C0)
  show ((if false=true then tn else [])++(f (.ref a)++(tn++(f (.ref b)++en)))).length<=2+3*(g (.ref a)++(g (.ref b)++[])).length
  rw [if_neg (by decide),D3,o0]
  simp only [B0]
  omega
 |_::_::_::_,h,_,_=>by simp at h
theorem Lz {α β γ:Type} {f:α->List β} {g:α->List γ} {c:Nat}:∀ {xs:List α},(∀ x∈xs,(f x).length<=c*(g x).length)->(xs.flatMap f).length<=c*(xs.flatMap g).length
 |[],_=>D2 _
 |x::r,h=>by
  rw [N1,N1,B0,B0,Nat.mul_add]
  have:=h x C0
  have:=Lz (xs:=r) λy hy=>h y (A0 _ hy)
  omega
theorem Oe:∀ {n:Nat} {H:Hp} {v:V} {d:Nat},AN n H v->(Ah (n+1) H v d).length<=3*(Bq (n+1) H v).length:=by
 intro n
 induction n with
 |zero =>
  intro H v d h
  obtain ⟨b,ys,rfl,e2,e3⟩:=id h
  rw [Bd e2]
  show ((Bc H _).flatMap _).length<=_
  rw [Az e2]
  exact Lz λy hy=>(e3 y hy).elim
 |succ n ih =>
  intro H v d h
  obtain ⟨b,ys,rfl,e2,e3⟩:=id h
  rw [Bd e2]
  show ((Bc H _).flatMap _).length<=_
  rw [Az e2]
  refine Lz λy hy=>?_
  have hr:=e3 y hy
  have eRow:AM (Ah (n+1) H) H y d=(d,AT H y)::BK (λp=>Ah (n+1) H p (d+1)) ((AO H y).map λws=>(d,ws)) [(d,["end"])] false (Bn H y):=by
   rw [hr.parts_eq,Eh]
   rfl
  have:=lns_le (f:=λp=>Ah (n+1) H p (d+1)) (g:=Bq (n+1) H) (tn:=(AO H y).map λws=>(d,ws)) (en:=[(d,["end"])]) (by rw [D0];exact turn_le H y) (P0 _) hr.parts_le hr.partsRef λp hp=>ih (hr.parts_ok p hp)
  rw [eRow,J0,J0]
  omega
theorem MS {α β:Type} {g:α->List β} {c:Nat}:∀ {xs:List α},(∀ x∈xs,(g x).length<=c)->(xs.flatMap g).length<=xs.length*c
 |[],_=>D2 _
 |x::r,h=>by
  rw [N1,B0,J0,x5]
  have:=h x C0
  have:=MS (xs:=r) λy hy=>h y (A0 _ hy)
  omega
theorem Io {H:Hp} {p:Addr} {es:List V} (h:H p=some (.tup es)) (he:∀ e∈es,Di 22 100 H e) (hl:es.length<=64):AN 23 H (.ref p)/\(Ah 24 H (.ref p) 0).length<=20000:=by
 have hv:AN 23 H (.ref p):=⟨p,es,rfl,h,λy hy=>(he y hy).1⟩
 refine ⟨hv,?_⟩
 have h1:=Oe (d:=0) hv
 rw [Bd h] at h1
 have h2:=MS (g:=λy=>y::(Bn H y).flatMap (Bq 23 H)) (c:=101) (xs:=es) λy hy=>(he y hy).2.1
 have h3:es.length*101<=64*101:=Nat.mul_le_mul_right _ hl
 exact Q0 h1 (by omega)

def isL (c:Nat):Bool:=decide (97<=c)&&decide (c<=122)
def Ez (z:Str):Bool:=decide (1<=z.length)&&decide (z.length<=8)&&z.cps.toList.all isL
def Cr (z:Str):Bool:=Ez z&&!(Gb.any λy=>y == z)
def Dt (z:Str):Bool:=Txt.startswith z ":"&&Ez (EW z (some 1) none)
def Kn:V->Bool
 |.str z=>Cr z
 |_=>false
def Hw:V->Bool
 |.str z=>Cr z||Dt z
 |.int i=>decide (0<=i)&&decide (i<=999999)
 |_=>false
def QG (c:Nat):Bool:=decide (48<=c)&&decide (c<=57)
def Js (z:Str):Bool:=decide (1<=z.length)&&decide (z.length<=6)&&z.cps.toList.all QG
def Gv (z:Str):Option Int:=if Js z=true then (if Txt.startswith z "0"=true/\z≠"0" then none else some ((u7 z.cps.toList:Nat):Int)) else none
def LI (z:Str) (lo hi:Int):V:=match Gv z with
 |some n=>if lo<=n/\n<=hi then .int n else .non
 |none=>.non
def EF (z:Str):V:=match Gv z with
 |some n=>if Hw (.int n)=true then .int n else .non
 |none=>if Hw (.str z)=true then .str z else .non
def Aw (slot z:Str):V:=if slot="N" then LI z 1 99 else if slot="ROUNDS" then LI z 1 9 else if slot="VALUE" then EF z else if slot="NAME" then (if Cr z=true then .str z else .non) else if z=slot then .str z else .non
def Fo (slots ws:List Str):Option (List V):=if slots.length=ws.length then (if DH .non (M4 Aw slots ws)=true then none else some (M4 Aw slots ws)) else none
def Bz:List (List Str)->List Str->Option (List V)
 |[],_=>none
 |f::r,ws=>match Fo f ws with
  |some x=>some x
  |none=>Bz r ws
def SL:List (List Str):=[["errand", "NAME"],["wait", "N"],["hear", "NAME"],["ring", "NAME"],["send", "NAME", "VALUE"],["take", "NAME", "NAME"],["let", "NAME", "VALUE"],["raise", "NAME"],["begin", "NAME", "NAME", "in", "NAME"],["begin", "NAME", "NAME", "in", "NAME", "within", "N"],["ask", "NAME", "NAME"],["off", "NAME"],["give", "VALUE"],["group", "NAME"],["limit", "N"],["late"],["keep"],["try"],["but", "NAME"],["but", "any"],["do"],["last"],["when", "NAME", "VALUE"],["repeat", "ROUNDS"],["end"]]
theorem MR:FORMS.map (λf=>Txt.split f ⟨#[32]⟩)=SL:=by decide +kernel
def Mc (s:Str):Bool:=s == "N"||s == "ROUNDS"||s == "VALUE"||s == "NAME"
def IK (z:Str) (n:Nat) (slots:List Str):Bool:=slots.length != n||(match slots with
 |[]=>false
 |s::_=>!Mc s&&s != z)
theorem SE {z:Str} {slots r:List Str} (h:IK z (r.length+1) slots=true):Fo slots (z::r)=none:=by
 unfold Fo
 unfold IK at h
 by_cases e:slots.length=(z::r).length
 ·rw [if_pos e]
  cases slots with
  |nil=>cases e
  |cons s t =>
   rw [J0] at e
   have e':(s::t).length=r.length+1:=e
   rw [e'] at h
   simp only [bne_self_eq_false,o7,Z1,L7,Mc,W8,beq_eq_false_iff_ne,bne_iff_ne,ne_eq] at h
   obtain ⟨⟨⟨⟨h1,h2⟩,h3⟩,h4⟩,h5⟩:=h
   rw [L8]
   have f:Aw s z=.non:=by
    unfold Aw
    rw [if_neg h1,if_neg h2,if_neg h3,if_neg h4,if_neg (λq=>h5 q.symm)]
   rw [f]
   exact if_pos rfl
 ·rw [if_neg e]
theorem DU {z:Str} {r:List Str} {x:List V}:∀ (F:List (List Str)) (i:Nat) (f:List Str),F[i]?=some f->(F.take i).all (IK z (r.length+1))=true->Fo f (z::r)=some x->Bz F (z::r)=some x
 |[],_,_,h,_,_=>by cases h
 |g::F,0,f,h,_,hf=>by
  obtain rfl:g=f:=Z2.inj h
  show (match Fo g (z::r) with | some x=>some x | none=>Bz F (z::r))=_
  rw [hf]
 |g::F,i+1,f,h,hs,hf=>by
  rw [List.take_succ_cons,y6,Z1] at hs
  show (match Fo g (z::r) with | some x=>some x | none=>Bz F (z::r))=_
  rw [SE hs.1]
  exact DU F i f h hs.2 hf
theorem Pd {z:Str} (h1:1<=z.length) (h2:z.length<=8) (h:JA z):Ez z=true:=by
 unfold Ez
 rw [decide_eq_true h1,decide_eq_true h2,u4,u4,Y2]
 intro c hc
 unfold isL
 rw [decide_eq_true (h c hc).1,decide_eq_true (h c hc).2]
 rfl
theorem OZ {z:Str} (h:CM z):Cr z=true:=by
 unfold Cr
 rw [Pd h.lo h.hi h.low,u4,L7,K7]
 intro y hy e
 rw [beq_iff_eq] at e
 subst e
 exact h.nk hy
theorem Ol {z:Str} (h:1<=z.length):∃ c r,z.cps.toList=c::r:=by
 rw [Ei] at h
 cases e:z.cps.toList with
 |nil=>rw [e] at h;exact absurd h (by decide)
 |cons c r=>exact ⟨c,r,rfl⟩
theorem OY {z:Str} {c:Nat} (h:c∈z.cps.toList) (hc:¬ (48<=c/\c<=57)):Gv z=none:=by
 unfold Gv
 rw [if_neg]
 intro e
 unfold Js at e
 rw [Z1,Y2] at e
 have:=e.2 c h
 unfold QG at this
 rw [Z1,decide_eq_true_eq,decide_eq_true_eq] at this
 exact hc this
theorem RS {z:Str} (h:CM z):Gv z=none:=by
 obtain ⟨c,r,e⟩:=Ol h.lo
 have hm:c∈z.cps.toList:=by rw [e];exact C0
 have:=h.low c hm
 exact OY hm (by omega)
theorem starts1 (a c:Nat) (r:List Nat):Txt.startswith ⟨⟨a::r⟩⟩ ⟨#[c]⟩=decide (a=c):=by
 unfold Txt.startswith Builtin.Str.subAt
 have e1:(⟨⟨a::r⟩⟩:Str).length=r.length+1:=rfl
 have e3:(⟨#[c]⟩:Str).length=1:=rfl
 rw [e1,e3]
 have e5:(⟨a::r⟩:Array Nat).extract 0 (0+1)=#[a]:=by simp
 rw [e5]
 by_cases h:a=c
 ·subst h;simp
 ·simp [h]
theorem JV {z:Str} {a c:Nat} {r:List Nat} (h:z.cps.toList=a::r):Txt.startswith z ⟨#[c]⟩=decide (a=c):=by
 obtain ⟨⟨l⟩⟩:=z
 cases h
 exact starts1 a c r
theorem OE {z:Str} (h:TdOk z):Dt z=true/\Gv z=none:=by
 obtain ⟨y,rfl,h1,h2,h3⟩:=h
 have ec:((":":Str)++y).cps.toList=58::y.cps.toList:=by
  rw [By,show (Str.ofString ":").cps.toList=[58] by decide +kernel];rfl
 constructor
 ·unfold Dt
  have e1:Txt.startswith ((":":Str)++y) ":"=true:=by
   have e0:(":":Str)=⟨#[58]⟩:=by decide +kernel
   have:=JV (c:=58) ec
   rw [<- e0] at this
   rw [this];rfl
  have e2:EW ((":":Str)++y) (some 1) none=y:=by
   unfold EW
   have l1:((":":Str)++y).length=y.length+1:=by rw [Ei,ec];rfl
   have i1:HT.sIx ((":":Str)++y).length 0 (some 1)=1:=(HT.sIx_nat _ _ 1).trans (by rw [l1];omega)
   rw [i1,HT.sIx_none,l1,ec]
   refine El ?_
   show (j6 (y.length+1-1) y.cps.toList)=y.cps.toList
   rw [Nat.add_sub_cancel,Ei,C2]
  rw [e1,e2,Pd h1 h2 h3]
  rfl
 ·exact OY (c:=58) (by rw [ec];exact C0) (by omega)
theorem MZ (m:Nat) (h:0<m):∃ c r,E7 10 m=c::r/\c.toNat≠48:=by
 induction m using Nat.strongRecOn with
 |_ m ih =>
  by_cases h9:m<10
  ·rw [Nat.toDigits_of_lt_base h9]
   refine ⟨_,[],rfl,?_⟩
   have:=PySem.W.KIN.digit_back m h9
   omega
  ·have hm:m%10<10:=Nat.mod_lt m (by decide)
   have t:E7 10 (m / 10)++E7 10 (m%10)=E7 10 (10*(m / 10)+m%10):=Nat.toDigits_append_toDigits (by decide) (by omega) hm
   rw [Nat.div_add_mod] at t
   obtain ⟨c,r,e,hc⟩:=ih (m / 10) (by omega) (by omega)
   rw [e] at t
   exact ⟨c,_,t.symm,hc⟩
theorem OX {n:Int} (h0:0<=n) (h1:n<=999999):Gv (CI (.int n))=some n:=by
 obtain ⟨m,rfl⟩:=A8 h0
 have hs:=P8 m
 show Gv (Str.ofString (toString ((m:Nat):Int)))=_
 have hl:(Str.ofString (toString ((m:Nat):Int))).length<=6:=T5 h0 (k:=6) (by decide) (by omega)
 have hp:1<=(Str.ofString (toString ((m:Nat):Int))).length:=by
  rw [Ei,hs,D0]
  exact PySem.toDigits_len_ge 10 m
 have hd:(Str.ofString (toString ((m:Nat):Int))).cps.toList.all QG=true:=by
  rw [Y2]
  intro c hc
  rw [hs] at hc
  obtain ⟨ch,hch,e⟩:=j1.mp hc
  have r:=j7 (Z7 (by decide) (by decide) hch)
  unfold QG
  rw [Z1,decide_eq_true_eq,decide_eq_true_eq,<- e]
  exact r
 unfold Gv
 rw [if_pos (by unfold Js;rw [decide_eq_true hp,decide_eq_true hl,hd];rfl),if_neg,hs,PySem.W.KIN.val_back]
 rintro ⟨e,ne⟩
 by_cases hm:m=0
 ·subst hm
  exact ne (by decide +kernel)
 ·obtain ⟨c,r,e2,hc⟩:=MZ m (by omega)
  rw [e2,S1] at hs
  rw [show ("0":Str)=⟨#[48]⟩ by decide +kernel,JV hs,decide_eq_true_eq] at e
  exact hc e
theorem Ps {n lo hi:Int} (h0:0<=n) (h1:n<=999999) (h2:lo<=n) (h3:n<=hi):LI (CI (.int n)) lo hi=.int n:=by
 unfold LI
 rw [OX h0 h1]
 exact if_pos ⟨h2,h3⟩
theorem val_txt {v:V} (h:Ox v):EF (CI v)=v:=by
 rcases h with ⟨n,rfl,h0,h1⟩ | ⟨z,rfl,h | h⟩
 ·unfold EF
  rw [OX h0 h1]
  exact if_pos (by show (decide (0<=n)&&decide (n<=999999))=true;rw [decide_eq_true h0,decide_eq_true h1];rfl)
 ·unfold EF
  rw [show CI (.str z)=z from rfl,RS h]
  exact if_pos (by show (Cr z||Dt z)=true;rw [OZ h];rfl)
 ·unfold EF
  rw [show CI (.str z)=z from rfl,(OE h).2]
  exact if_pos (by show (Cr z||Dt z)=true;rw [(OE h).1,Bool.or_true])
theorem On {v:V} (h:QC 1 99 v):Aw "N" (CI v)=v:=by
 obtain ⟨n,rfl,h0,h1⟩:=h
 unfold Aw
 rw [if_pos rfl,Ps (by omega) (by omega) h0 h1]
theorem fieldR {v:V} (h:QC 1 9 v):Aw "ROUNDS" (CI v)=v:=by
 obtain ⟨n,rfl,h0,h1⟩:=h
 unfold Aw
 rw [if_neg (by decide +kernel),if_pos rfl,Ps (by omega) (by omega) h0 h1]
theorem Iy {v:V} (h:Ox v):Aw "VALUE" (CI v)=v:=by
 unfold Aw
 rw [if_neg (by decide +kernel),if_neg (by decide +kernel),if_pos rfl,val_txt h]
theorem BT {v:V} (h:JP v):Aw "NAME" (CI v)=v:=by
 obtain ⟨z,rfl,h⟩:=h
 unfold Aw
 rw [if_neg (by decide +kernel),if_neg (by decide +kernel),if_neg (by decide +kernel),if_pos rfl]
 exact if_pos (OZ h)
theorem Fp {s:Str} (h:Mc s=false):Aw s s=.str s:=by
 simp only [Mc,W8,beq_eq_false_iff_ne,ne_eq] at h
 unfold Aw
 rw [if_neg h.1.1.1,if_neg h.1.1.2,if_neg h.1.2,if_neg h.2,if_pos rfl]
theorem inV_non {xs:List V} (h:∀ v∈xs,v≠.non):DH .non xs=false:=by
 unfold DH
 rw [K7]
 intro v hv e
 refine h v hv ?_
 cases v<;>first | rfl | (exfalso;revert e;simp [Ha])
theorem GZ {slots ws:List Str} {xs:List V} (hl:slots.length=ws.length) (e:M4 Aw slots ws=xs) (h:∀ v∈xs,v≠.non):Fo slots ws=some xs:=by
 unfold Fo
 rw [if_pos hl,e,if_neg (by rw [inV_non h];exact N0)]
def GS (fs:List V):List V:=(fs.tail.filter λv=>!DH v [.str "in",.str "within"])++(if fs.head?=some (.str "begin")/\DH (.str "within") fs=false then [.int 0] else [])
def HX (fs:List V) (n:Int):List V:=fs.headD .non::.int n::GS fs
def QD (v:V):Prop:=DH v [.str "in",.str "within"]=false
theorem MB {z:Str} (h1:z≠"in") (h2:z≠"within"):QD (.str z):=by
 show (Ha _ _||(Ha _ _||false))=false
 rw [FI,FI,decide_eq_false h1,decide_eq_false h2]
 rfl
theorem JP.noIn {v:V} (h:JP v):QD v:=by
 obtain ⟨z,rfl,h⟩:=h
 exact MB (λe=>h.nk (by rw [e];decide +kernel)) (λe=>h.nk (by rw [e];decide +kernel))
theorem QC.noIn {lo hi:Int} {v:V} (h:QC lo hi v):QD v:=by
 obtain ⟨n,rfl,_⟩:=h
 rfl
theorem Ox.noIn {v:V} (h:Ox v):QD v:=by
 rcases h with ⟨n,rfl,_⟩ | ⟨z,rfl,h | ⟨y,rfl,_⟩⟩
 ·rfl
 ·exact JP.noIn ⟨z,rfl,h⟩
 ·have ec:((":":Str)++y).cps.toList=58::y.cps.toList:=by
   rw [By,show (Str.ofString ":").cps.toList=[58] by decide +kernel];rfl
  refine MB (λe=>?_) (λe=>?_)
  ·rw [e,show (Str.ofString "in").cps.toList=[105,110] by decide +kernel] at ec
   cases ec
  ·rw [e,show (Str.ofString "within").cps.toList=[119,105,116,104,105,110] by decide +kernel] at ec
   cases ec
theorem JP.nn {v:V} (h:JP v):v≠.non:=by
 obtain ⟨z,rfl,_⟩:=h
 exact λe=>nomatch e
theorem QC.nn {lo hi:Int} {v:V} (h:QC lo hi v):v≠.non:=by
 obtain ⟨z,rfl,_⟩:=h
 exact λe=>nomatch e
theorem Ox.nn {v:V} (h:Ox v):v≠.non:=by
 rcases h with ⟨n,rfl,_⟩ | ⟨z,rfl,_⟩<;>exact λe=>nomatch e
theorem Sh {z:Str} {r:List V} (hz:z≠"begin") (h:∀ v∈r,QD v):GS (.str z::r)=r:=by
 unfold GS
 rw [if_neg (λe=>hz (by cases e.1;rfl)),o0]
 exact K5.mpr λv hv=>by rw [show DH v [.str "in",.str "within"]=false from h v hv];rfl
def Has (ws:List Str) (z:Str) (r:List V):Prop:=∃ fs,Bz SL ws=some fs/\fs.head?=some (.str z)/\∀ n,HX fs n=.str z::.int n::r
theorem Ci {z:Str} {r:List V} {ts:List Str} {ws:List Str} (i:Nat) (hi:SL[i]?=some (z::ts)) (hs:(SL.take i).all (IK z (ts.length+1))=true) (hz:Mc z=false) (hb:z≠"begin") (hl:ts.length=ws.length) (e:M4 Aw ts ws=r) (hn:∀ v∈r,v≠.non/\QD v):Has (z::ws) z r:=by
 refine ⟨.str z::r,DU SL i _ hi (by rw [<- hl];exact hs) (GZ (by rw [J0,J0,hl]) (by rw [L8,Fp hz,e]) λv hv=>?_),rfl,λn=>?_⟩
 ·rcases L0.mp hv with rfl | hv
  ·exact λe=>nomatch e
  ·exact (hn v hv).1
 ·unfold HX
  rw [Sh hb λv hv=>(hn v hv).2]
  rfl
theorem Ft {a:V} {p:V->Prop} (h:p a):∀ v∈[a],p v:=λv hv=>by rw [M0.mp hv];exact h
theorem Kv {a b:V} {p:V->Prop} (h:p a) (h':p b):∀ v∈[a,b],p v:=λv hv=>by
 rcases L0.mp hv with rfl | hv
 ·exact h
 ·exact Ft h' v hv
theorem has_pln {z:Str} {r:List V} (P:HS z r):Has (AS z r) z r:=by
 have fp:=P.b.2
 by_cases hb:z="begin"
 ·cases fp with
  |wait _=>exact absurd hb (by decide +kernel)
  |one hz _=>rcases hz with rfl | rfl | rfl | rfl<;>exact absurd hb (by decide +kernel)
  |val hz _ _=>rcases hz with rfl | rfl<;>exact absurd hb (by decide +kernel)
  |two hz _ _=>rcases hz with rfl | rfl<;>exact absurd hb (by decide +kernel)
  |give _=>exact absurd hb (by decide +kernel)
  |begin ha hc hd hv =>
   obtain ⟨a,rfl,ha'⟩:=id ha
   obtain ⟨b,rfl,hb'⟩:=id hc
   obtain ⟨c,rfl,hc'⟩:=id hd
   obtain ⟨n,rfl,h0,h1⟩:=id hv
   have fa:Aw "NAME" a=.str a:=BT ha
   have fb:Aw "NAME" b=.str b:=BT hc
   have fc:Aw "NAME" c=.str c:=BT hd
   have l1:Aw "begin" "begin"=.str "begin":=Fp (by decide +kernel)
   have l2:Aw "in" "in"=.str "in":=Fp (by decide +kernel)
   have l3:Aw "within" "within"=.str "within":=Fp (by decide +kernel)
   have na:(!DH (.str a) [.str "in",.str "within"])=true:=by rw [show DH _ _=false from ha.noIn];rfl
   have nb:(!DH (.str b) [.str "in",.str "within"])=true:=by rw [show DH _ _=false from hc.noIn];rfl
   have nc:(!DH (.str c) [.str "in",.str "within"])=true:=by rw [show DH _ _=false from hd.noIn];rfl
   have wI:∀ {x:Str},CM x->Ha (.str x) (.str "within")=false:=λh=>by
    rw [FI];exact decide_eq_false λe=>h.nk (by rw [<- e];decide +kernel)
   unfold AS
   rw [if_pos rfl]
   by_cases hn:n=0
   ·subst hn
    refine ⟨[.str "begin",.str a,.str b,.str "in",.str c],?_,rfl,λn=>?_⟩
    ·refine DU (r:=[a,b, "in",c]) SL 8 _ rfl (show (SL.take 8).all (IK "begin" 5)=true by decide +kernel) (GZ rfl ?_ ?_)
     ·show [Aw "begin" "begin",Aw "NAME" a,Aw "NAME" b,Aw "in" "in",Aw "NAME" c]=_
      rw [l1,fa,fb,l2,fc]
     ·intro v hv
      simp only [L0,E1,or_false] at hv
      rcases hv with rfl | rfl | rfl | rfl | rfl<;>exact λe=>nomatch e
    ·unfold HX GS
     have e:DH (.str "within") [.str "begin",.str a,.str b,.str "in",.str c]=false:=by
      unfold DH
      simp only [x6,List.any_nil,wI ha',wI hb',wI hc',o7,N5]
      decide +kernel
     rw [if_pos ⟨rfl,e⟩]
     show V.str "begin"::V.int n::(([V.str a,.str b,.str "in",.str c].filter λv=>!DH v [.str "in",.str "within"])++[.int 0])=_
     rw [Y1,if_pos na,Y1,if_pos nb,Y1,if_neg (by decide +kernel),Y1,if_pos nc]
     rfl
   ·have hv1:QC 1 99 (.int n):=⟨n,rfl,by omega,h1⟩
    refine ⟨[.str "begin",.str a,.str b,.str "in",.str c,.str "within",.int n],?_,rfl,λm=>?_⟩
    ·show Bz SL ([Str.ofString "begin",a,b,Str.ofString "in",c]++if n=0 then [] else [Str.ofString "within",CI (V.int n)])=_
     rw [if_neg hn]
     refine DU (r:=[a,b, "in",c, "within",CI (.int n)]) SL 9 _ rfl (show (SL.take 9).all (IK "begin" 7)=true by decide +kernel) (GZ rfl ?_ ?_)
     ·show [Aw "begin" "begin",Aw "NAME" a,Aw "NAME" b,Aw "in" "in",Aw "NAME" c,Aw "within" "within",Aw "N" (CI (.int n))]=_
      rw [l1,fa,fb,l2,fc,l3,On hv1]
     ·intro v hv
      simp only [L0,E1,or_false] at hv
      rcases hv with rfl | rfl | rfl | rfl | rfl | rfl | rfl<;>exact λe=>nomatch e
    ·unfold HX GS
     have e:DH (.str "within") [.str "begin",.str a,.str b,.str "in",.str c,.str "within",.int n]=true:=by
      unfold DH
      rw [P7]
      exact ⟨.str "within",by simp,by decide +kernel⟩
     rw [if_neg (λq=>by rw [e] at q;exact nomatch q.2)]
     show V.str "begin"::V.int m::(([V.str a,.str b,.str "in",.str c,.str "within",.int n].filter λv=>!DH v [.str "in",.str "within"])++[])=_
     rw [Y1,if_pos na,Y1,if_pos nb,Y1,if_neg (by decide +kernel),Y1,if_pos nc,Y1,if_neg (by decide +kernel)]
     rfl
 ·rw [Hf P hb]
  cases fp with
  |wait h=>exact Ci (ts:=["N"]) 1 rfl (by decide +kernel) (by decide +kernel) hb rfl (by show [Aw "N" _]=_;rw [On h]) (Ft ⟨h.nn,h.noIn⟩)
  |one hz h =>
   rcases hz with rfl | rfl | rfl | rfl
   ·exact Ci (ts:=["NAME"]) 2 rfl (by decide +kernel) (by decide +kernel) hb rfl (by show [Aw "NAME" _]=_;rw [BT h]) (Ft ⟨h.nn,h.noIn⟩)
   ·exact Ci (ts:=["NAME"]) 3 rfl (by decide +kernel) (by decide +kernel) hb rfl (by show [Aw "NAME" _]=_;rw [BT h]) (Ft ⟨h.nn,h.noIn⟩)
   ·exact Ci (ts:=["NAME"]) 7 rfl (by decide +kernel) (by decide +kernel) hb rfl (by show [Aw "NAME" _]=_;rw [BT h]) (Ft ⟨h.nn,h.noIn⟩)
   ·exact Ci (ts:=["NAME"]) 11 rfl (by decide +kernel) (by decide +kernel) hb rfl (by show [Aw "NAME" _]=_;rw [BT h]) (Ft ⟨h.nn,h.noIn⟩)
  |val hz h h2 =>
   rcases hz with rfl | rfl
   ·exact Ci (ts:=["NAME", "VALUE"]) 4 rfl (by decide +kernel) (by decide +kernel) hb rfl (by show [Aw "NAME" _,Aw "VALUE" _]=_;rw [BT h,Iy h2]) (Kv ⟨h.nn,h.noIn⟩ ⟨h2.nn,h2.noIn⟩)
   ·exact Ci (ts:=["NAME", "VALUE"]) 6 rfl (by decide +kernel) (by decide +kernel) hb rfl (by show [Aw "NAME" _,Aw "VALUE" _]=_;rw [BT h,Iy h2]) (Kv ⟨h.nn,h.noIn⟩ ⟨h2.nn,h2.noIn⟩)
  |two hz h h2 =>
   rcases hz with rfl | rfl
   ·exact Ci (ts:=["NAME", "NAME"]) 5 rfl (by decide +kernel) (by decide +kernel) hb rfl (by show [Aw "NAME" _,Aw "NAME" _]=_;rw [BT h,BT h2]) (Kv ⟨h.nn,h.noIn⟩ ⟨h2.nn,h2.noIn⟩)
   ·exact Ci (ts:=["NAME", "NAME"]) 10 rfl (by decide +kernel) (by decide +kernel) hb rfl (by show [Aw "NAME" _,Aw "NAME" _]=_;rw [BT h,BT h2]) (Kv ⟨h.nn,h.noIn⟩ ⟨h2.nn,h2.noIn⟩)
  |begin _ _ _ _=>exact absurd rfl hb
  |give h=>exact Ci (ts:=["VALUE"]) 12 rfl (by decide +kernel) (by decide +kernel) hb rfl (by show [Aw "VALUE" _]=_;rw [Iy h]) (Ft ⟨h.nn,h.noIn⟩)
theorem Pk {z:Str} {th:List V} {fa:V} (B:Gc z th fa):Has (z::th.map CI) z th:=by
 cases B with
 |name hz h =>
  rcases hz with rfl | rfl
  ·exact Ci (ts:=["NAME"]) 0 rfl (by decide +kernel) (by decide +kernel) (by decide +kernel) rfl (by show [Aw "NAME" _]=_;rw [BT h]) (Ft ⟨h.nn,h.noIn⟩)
  ·exact Ci (ts:=["NAME"]) 13 rfl (by decide +kernel) (by decide +kernel) (by decide +kernel) rfl (by show [Aw "NAME" _]=_;rw [BT h]) (Ft ⟨h.nn,h.noIn⟩)
 |limit h=>exact Ci (ts:=["N"]) 14 rfl (by decide +kernel) (by decide +kernel) (by decide +kernel) rfl (by show [Aw "N" _]=_;rw [On h]) (Ft ⟨h.nn,h.noIn⟩)
 |bare hz =>
  rcases hz with rfl | rfl
  ·exact Ci (ts:=[]) 16 rfl (by decide +kernel) (by decide +kernel) (by decide +kernel) rfl rfl (λ_ h=>nomatch h)
  ·exact Ci (ts:=[]) 20 rfl (by decide +kernel) (by decide +kernel) (by decide +kernel) rfl rfl (λ_ h=>nomatch h)
 |try_ _=>exact Ci (ts:=[]) 17 rfl (by decide +kernel) (by decide +kernel) (by decide +kernel) rfl rfl (λ_ h=>nomatch h)
 |when h h2=>exact Ci (ts:=["NAME", "VALUE"]) 22 rfl (by decide +kernel) (by decide +kernel) (by decide +kernel) rfl (by show [Aw "NAME" _,Aw "VALUE" _]=_;rw [BT h,Iy h2]) (Kv ⟨h.nn,h.noIn⟩ ⟨h2.nn,h2.noIn⟩)
 |rep h=>exact Ci (ts:=["ROUNDS"]) 23 rfl (by decide +kernel) (by decide +kernel) (by decide +kernel) rfl (by show [Aw "ROUNDS" _]=_;rw [fieldR h]) (Ft ⟨h.nn,h.noIn⟩)
theorem has_but {z:Str} (h:CM z\/z="any"):Bz SL ["but",z]=some [.str "but",.str z]:=by
 rcases h with h | rfl
 ·refine DU SL 18 _ rfl (show (SL.take 18).all (IK "but" 2)=true by decide +kernel) (GZ rfl ?_ ?_)
  ·show [Aw "but" "but",Aw "NAME" z]=_
   have:=BT (v:=.str z) ⟨z,rfl,h⟩
   rw [Fp (by decide +kernel),show Aw "NAME" z=.str z from this]
  ·exact Kv (λe=>nomatch e) (λe=>nomatch e)
 ·rfl
theorem Ss:Bz SL ["last"]=some [.str "last"]:=rfl
theorem Sr:Bz SL ["late"]=some [.str "late"]:=rfl
theorem has_end:Bz SL ["end"]=some [.str "end"]:=rfl
set_option genInjectivity false in
structure Fq where
 hd:List V
 rs:List Tr
 tn:Bool
 tf:List V
 os:List Tr
set_option genInjectivity false in
structure St where
 pg:List Tr
 un:List Fq
abbrev Eb (w:Str):Prop:=w="late"\/w="but"\/w="last"
abbrev HH (z:Str):Prop:=z="group"\/z="limit"\/z="keep"\/z="try"\/z="do"\/z="when"\/z="repeat"
def CF (z:Str):Str:=if z="limit" then "late" else if z="try" then "but" else if z="do" then "last" else ""
def Fq.wd (F:Fq):Str:=match F.hd with
 |.str z::_=>z
 |_=>""
def Fq.put (F:Fq) (t:Tr):Fq:=if F.tn=true then { F with os:=F.os++[t] } else { F with rs:=F.rs++[t] }
def Fq.puts (F:Fq) (ts:List Tr):Fq:=if F.tn=true then { F with os:=F.os++ts } else { F with rs:=F.rs++ts }
def Fq.mayTurn (F:Fq) (w:Str):Bool:=!F.tn&&decide (BH F.wd/\CF F.wd=w)
def Fq.mayEnd (F:Fq):Bool:=if F.wd="limit" then !F.tn||!F.os.isEmpty else F.tn||!decide (BH F.wd)
def Fq.whole (F:Fq):Tr:=.t (F.hd.map JE++[.t F.rs]++(if BH F.wd then F.tf.map JE++[.t F.os] else []))
def CA (s:St) (w:Str):Bool:=match s.un.getLast? with
 |none=>decide (w="errand")
 |some F=>if w="end" then F.mayEnd else if Eb w then F.mayTurn w else if HH w then decide (s.un.length<=20) else decide (w≠"errand")
def modL (f:Fq->Fq) (s:St):St:=match s.un.getLast? with
 |none=>s
 |some F=>⟨s.pg,s.un.dropLast++[f F]⟩
def MX (s:St):St:=match s.un.getLast? with
 |none=>s
 |some F=>match s.un.dropLast.getLast? with
  |none=>⟨s.pg++[F.whole],s.un.dropLast⟩
  |some G=>⟨s.pg,s.un.dropLast.dropLast++[G.put F.whole]⟩
def HZ (s:St) (w:Str) (fs:List V) (n:Int):St :=
 if w="end" then MX s else if Eb w then modL (λF=>{ F with tn:=true,tf:=fs.tail }) s else if w="errand"\/HH w then ⟨s.pg,s.un++[⟨HX fs n,[],false,[],[]⟩]⟩ else modL (λF=>F.put (.t ((HX fs n).map JE))) s
def step (s:St) (n:Int) (ws:List Str):Option St:=match Bz SL ws with
 |none=>none
 |some fs=>match fs.head? with
  |some (.str w)=>if CA s w=true then some (HZ s w fs n) else none
  |_=>none
def run (pf:Nat->Int):Nat->List Ln->St->Option St
 |_,[],s=>some s
 |k,l::r,s=>match step s (pf k) l.2 with
  |none=>none
  |some s'=>run pf (k+1) r s'
theorem FA (pf:Nat->Int):∀ (a b:List Ln) (k:Nat) (s s':St),run pf k a s=some s'->run pf k (a++b) s=run pf (k+a.length) b s'
 |[],b,k,s,s',h=>by
  cases h
  rfl
 |l::r,b,k,s,s',h=>by
  have h':(match step s (pf k) l.2 with | none=>none | some s'=>run pf (k+1) r s')=some s':=h
  show (match step s (pf k) l.2 with | none=>none | some s'=>run pf (k+1) (r++b) s')=_
  cases e:step s (pf k) l.2 with
  |none=>rw [e] at h';cases h'
  |some s1 =>
   rw [e] at h'
   show run pf (k+1) (r++b) s1=_
   rw [FA pf r b (k+1) s1 s' h',J0]
   congr 1
   omega
theorem DP {pf:Nat->Int} {k:Nat} {l:Ln} {r:List Ln} {s s':St} (h:step s (pf k) l.2=some s'):run pf k (l::r) s=run pf (k+1) r s':=by
 show (match step s (pf k) l.2 with | none=>none | some s'=>run pf (k+1) r s')=_
 rw [h]
theorem GE {s:St} {n:Int} {ws:List Str} {fs:List V} {w:Str} (h:Bz SL ws=some fs) (hw:fs.head?=some (.str w)) (ha:CA s w=true):step s n ws=some (HZ s w fs n):=by
 unfold step
 rw [h]
 show (match fs.head? with | some (.str w)=>if CA s w=true then some (HZ s w fs n) else none | _=>none)=_
 rw [hw]
 exact if_pos ha
theorem Hx (S:List Fq) (F:Fq):(S++[F]).getLast?=some F:=List.getLast?_concat
theorem FF {f:Fq->Fq} {pg:List Tr} {S:List Fq} {F:Fq}:modL f ⟨pg,S++[F]⟩=⟨pg,S++[f F]⟩:=by
 unfold modL
 simp only [Hx,j5]
theorem MW {pg:List Tr} {S:List Fq} {F G:Fq}:MX ⟨pg,S++[G]++[F]⟩=⟨pg,S++[G.put F.whole]⟩:=by
 unfold MX
 simp only [Hx,j5]
theorem CZ {pg:List Tr} {S:List Fq} {F:Fq} {w:Str}:CA ⟨pg,S++[F]⟩ w=(if w="end" then F.mayEnd else if Eb w then F.mayTurn w else if HH w then decide (S.length+1<=20) else decide (w≠"errand")):=by
 unfold CA
 simp only [Hx,B0,J0,K1,D8]
theorem Mm {z:Str} {r:List V} (P:HS z r):z≠"end"/\¬ Eb z/\¬ HH z/\z≠"errand":=by
 cases P.b.2 with
 |wait _=>decide +kernel
 |one hz _=>rcases hz with rfl | rfl | rfl | rfl<;>decide +kernel
 |val hz _ _=>rcases hz with rfl | rfl<;>decide +kernel
 |two hz _ _=>rcases hz with rfl | rfl<;>decide +kernel
 |begin _ _ _ _=>decide +kernel
 |give _=>decide +kernel
theorem Re {pg:List Tr} {S:List Fq} {F:Fq} {z:Str} {r:List V} {n:Int} (P:HS z r):step ⟨pg,S++[F]⟩ n (AS z r)=some ⟨pg,S++[F.put (.t (.s z::.i n::r.map JE))]⟩:=by
 obtain ⟨fs,h1,h2,h3⟩:=has_pln P
 obtain ⟨w1,w2,w3,w4⟩:=Mm P
 rw [GE h1 h2 (by rw [CZ,if_neg w1,if_neg w2,if_neg w3,decide_eq_true w4])]
 unfold HZ
 rw [if_neg w1,if_neg w2,if_neg (λe=>e.elim w4 w3),FF,h3]
 rfl
theorem Rg {pg:List Tr} {S:List Fq} {F:Fq} {z:Str} {th:List V} {fa:V} {n:Int} (B:Gc z th fa) (hz:HH z) (hl:S.length+1<=20):step ⟨pg,S++[F]⟩ n (z::th.map CI)=some ⟨pg,S++[F]++[⟨.str z::.int n::th,[],false,[],[]⟩]⟩:=by
 obtain ⟨fs,h1,h2,h3⟩:=Pk B
 have w:z≠"end"/\¬ Eb z/\z≠"errand":=by rcases hz with rfl | rfl | rfl | rfl | rfl | rfl | rfl<;>decide +kernel
 rw [GE h1 h2 (by rw [CZ,if_neg w.1,if_neg w.2.1,if_pos hz,decide_eq_true hl])]
 unfold HZ
 rw [if_neg w.1,if_neg w.2.1,if_pos (.inr hz),h3]
theorem Rf {pg:List Tr} {th:List V} {fa:V} {n:Int} (B:Gc "errand" th fa):step ⟨pg,[]⟩ n ("errand"::th.map CI)=some ⟨pg,[⟨.str "errand"::.int n::th,[],false,[],[]⟩]⟩:=by
 obtain ⟨fs,h1,h2,h3⟩:=Pk B
 rw [GE h1 h2 (by show decide (("errand":Str)="errand")=true;exact decide_eq_true rfl)]
 unfold HZ
 rw [if_neg (by decide +kernel),if_neg (by decide +kernel),if_pos (.inl rfl),h3]
 rfl
theorem PM {pg:List Tr} {S:List Fq} {F:Fq} {ws:List Str} {w:Str} {tf:List V} {n:Int} (h:Bz SL ws=some (.str w::tf)) (hw:Eb w) (ht:F.mayTurn w=true):step ⟨pg,S++[F]⟩ n ws=some ⟨pg,S++[{ F with tn:=true,tf:=tf }]⟩:=by
 have w1:w≠"end":=by rcases hw with rfl | rfl | rfl<;>decide +kernel
 rw [GE h rfl (by rw [CZ,if_neg w1,if_pos hw,ht])]
 unfold HZ
 rw [if_neg w1,if_pos hw,FF]
 rfl
theorem ID {s:St} {n:Int} (h:CA s "end"=true):step s n ["end"]=some (MX s):=by
 rw [GE has_end rfl h]
 exact congrArg some (if_pos rfl)
theorem Oq {pg:List Tr} {S:List Fq} {F:Fq} (h:F.mayEnd=true):CA ⟨pg,S++[F]⟩ "end"=true:=by
 rw [CZ,if_pos rfl,h]
def Ic:Tr->List Tr
 |.t ts=>ts
 |_=>[]
theorem Rz (F:Fq):F.puts []=F:=by
 unfold Fq.puts
 split<;>simp
theorem PZ (F:Fq) (t:Tr) (ts:List Tr):(F.put t).puts ts=F.puts (t::ts):=by
 unfold Fq.puts Fq.put
 by_cases h:F.tn=true
 ·simp [h]
 ·simp [h]
theorem FG {f:V->List Ln} {tn en:List Ln} {w:Bool}:∀ {th r:List V},(∀ t∈th,BM t=false)->BK f tn en w (th++r)=BK f tn en w r
 |[],_,_=>rfl
 |x::th,r,h=>by
  rw [X2,Cy (h x C0)]
  exact FG λt ht=>h t (A0 _ ht)
theorem HB {num:V->Nat->Tr} {len:V->Nat} {tn:Nat} {w:Bool} {c:Nat}:∀ {th r:List V},(∀ t∈th,BM t=false)->Ct num len tn w c (th++r)=th.map JE++Ct num len tn w c r
 |[],_,_=>rfl
 |x::th,r,h=>by
  show (if BM x then _ else JE x::Ct num len tn w c (th++r))=_
  rw [if_neg (by rw [h x C0];exact N0),HB λt ht=>h t (A0 _ ht)]
  rfl
def Ng (pf:Nat->Int) (H:Hp) (m:Nat):Prop:=∀ v,AN m H v->∀ (d k:Nat) (pg:List Tr) (S:List Fq) (F:Fq),S.length+1+m<=23->run pf k (Ah (m+1) H v d) ⟨pg,S++[F]⟩=some ⟨pg,S++[F.puts (Ic (Bm pf (m+1) H v k))]⟩
theorem Bi {n:Nat} {H:Hp} {v:V} {d:Nat}:Ah (n+1) H v d=(Bc H v).flatMap λy=>AM (Ah n H) H y d:=rfl
theorem BE {pf:Nat->Int} {n:Nat} {H:Hp} {v:V} {k:Nat}:Bm pf (n+1) H v k=.t (Cd (CG pf (Bm pf n H) (λp=>(Ah n H p 0).length) H) (λy=>(AM (Ah n H) H y 0).length) k (Bc H v)):=rfl
theorem KF {pf:Nat->Int} {H:Hp} {n:Nat} (ih:Ng pf H n) {z:Str} {th:List V} {b0 b1:Addr} (h2:BH z) (p0:AN n H (.ref b0)) (p1:AN n H (.ref b1)) (tl:List (List Str)) (tf:List V)
  (hT:(∃ ws,tl=[ws]/\Bz SL ws=some (.str (CF z)::tf)/\(z="limit"->Bc H (.ref b1)≠[]))\/(tl=[]/\tf=[]/\z="limit"/\Bc H (.ref b1)=[])) (d k:Nat) (pg:List Tr) (S:List Fq) (hS:S.length+1+n<=23) :
  ∃ F1:Fq,run pf (k+1) (Ah (n+1) H (.ref b0) (d+1)++(tl.map (λws=>(d,ws))++(Ah (n+1) H (.ref b1) (d+1)++([(d,["end"])]:List Ln)))) ⟨pg,S++[⟨.str z::.int (pf k)::th,[],false,[],[]⟩]⟩=some (MX ⟨pg,S++[F1]⟩) /\
   F1.whole=.t (.s z::.i (pf k)::(th.map JE++(Bm pf (n+1) H (.ref b0) (k+1)::(tf.map JE++[Bm pf (n+1) H (.ref b1) (k+1+(Ah (n+1) H (.ref b0) 0).length+tl.length)])))):=by
 rw [FA pf _ _ _ _ _ (ih _ p0 (d+1) (k+1) pg S _ hS)]
 rcases hT with ⟨ws,rfl,hf,hne⟩ | ⟨rfl,rfl,hz,he⟩
 ·refine ⟨⟨.str z::.int (pf k)::th,Ic (Bm pf (n+1) H (.ref b0) (k+1)),true,tf,Ic (Bm pf (n+1) H (.ref b1) (k+1+(Ah (n+1) H (.ref b0) 0).length+1))⟩,?_,?_⟩
  ·rw [S1,x3,X2,D3,DP (PM hf ?_ ?_)]
   ·rw [EN (n+1) H (.ref b0) (d+1) 0,FA pf _ _ _ _ _ (ih _ p1 (d+1) _ pg S _ hS)]
    refine DP (ID (Oq ?_))
    show (if z="limit" then _ else _||!decide (BH z))=true
    by_cases hz:z="limit"
    ·rw [if_pos hz]
     show (!true||!(Ic (Bm pf (n+1) H (.ref b1) _)).isEmpty)=true
     rw [BE]
     show (!true||!(Cd _ _ _ (Bc H (.ref b1))).isEmpty)=true
     cases e:Bc H (.ref b1) with
     |nil=>exact absurd e (hne hz)
     |cons x r=>rfl
    ·rw [if_neg hz]
     rfl
   ·rcases h2 with rfl | rfl | rfl<;>decide +kernel
   ·show (!false&&decide (BH z/\CF z=CF z))=true
    rw [decide_eq_true ⟨h2,rfl⟩]
    rfl
  ·show Tr.t (_++(if BH z then _ else []))=_
   rw [if_pos h2]
   simp only [S1,X2,X1,D3]
   rfl
 ·refine ⟨⟨.str z::.int (pf k)::th,Ic (Bm pf (n+1) H (.ref b0) (k+1)),false,[],[]⟩,?_,?_⟩
  ·rw [Bi (v:=.ref b1),he]
   show run pf _ ([(d,["end"])]:List Ln) _=_
   refine DP (ID (Oq ?_))
   show (if z="limit" then _ else _||!decide (BH z))=true
   rw [if_pos hz]
   rfl
  ·show Tr.t (_++(if BH z then _ else []))=_
   rw [if_pos h2,BE (v:=.ref b1),he]
   simp only [S1,x3,X2,X1,D3]
   rfl
theorem Nf {pf:Nat->Int} {H:Hp} {n:Nat} (ih:Ng pf H n) {z:Str} {r th:List V} {fa:V} {bs:List Addr} (B:EV z r th fa bs) {a:Addr} {ln:Int} (ha:H a=some (.tup (.str z::.int ln::r))) (hp:∀ b∈bs,AN n H (.ref b)) (d k:Nat) (pg:List Tr) (S:List Fq) (hS:S.length+1+n<=23) :
  ∃ F1:Fq,run pf (k+1) (BK (λp=>Ah (n+1) H p (d+1)) ((AO H (.ref a)).map λws=>(d,ws)) ([(d,["end"])]:List Ln) false r) ⟨pg,S++[⟨.str z::.int (pf k)::th,[],false,[],[]⟩]⟩=some (MX ⟨pg,S++[F1]⟩) /\
   F1.whole=CG pf (Bm pf (n+1) H) (λp=>(Ah (n+1) H p 0).length) H (.ref a) k:=by
 have eZ:=Ck ha
 have tv:∀ t∈th,BM t=false:=λt ht=>(B.tv t ht).notR
 unfold CG
 rw [eZ]
 by_cases h2:BH z
 ·obtain ⟨b0,b1,rfl⟩:=Gz (B.two h2)
  have p0:=hp b0 C0
  have p1:=hp b1 (A0 _ C0)
  have fb:=B.fv.2
  rcases h2 with rfl | rfl | rfl
  ·obtain rfl:=E2.mp (B.tl.trans (show Cj "try"=0 by decide +kernel))
   have er:r=[.ref b0,fa,.ref b1]:=by rw [B.e,if_pos rfl];rfl
   obtain ⟨fz,hfa,hfz⟩:∃ fz,fa=.str fz/\(CM fz\/fz="any"):=by
    generalize hq:Str.ofString "try"=q at fb
    generalize ([]:List V)=th at fb
    cases fb with
    |name hz _=>rw [<- hq] at hz;exact absurd hz (by decide +kernel)
    |limit _=>exact absurd hq (by decide +kernel)
    |bare hz=>rw [<- hq] at hz;exact absurd hz (by decide +kernel)
    |try_ h=>exact ⟨_,rfl,h⟩
    |when _ _=>exact absurd hq (by decide +kernel)
    |rep _=>exact absurd hq (by decide +kernel)
   subst hfa
   have eT:AO H (.ref a)=[[("but":Str),fz]]:=by
    unfold AO
    rw [eZ,er,if_pos rfl]
    rfl
   obtain ⟨F1,h1,h3⟩:=KF ih (th:=[]) (.inl rfl) p0 p1 [[("but":Str),fz]] [.str fz] (.inl ⟨_,rfl,(has_but hfz).trans (by rw [show CF "try"="but" by decide +kernel]),λe=>absurd e (by decide +kernel)⟩) d k pg S hS
   refine ⟨F1,?_,?_⟩
   ·rw [eT,er]
    exact h1
   ·rw [eT,er,h3]
    rfl
  ·obtain rfl:=E2.mp (B.tl.trans (show Cj "do"=0 by decide +kernel))
   have er:r=[.ref b0,.ref b1]:=by rw [B.e,if_neg (by decide +kernel)];rfl
   have eT:AO H (.ref a)=[[("last":Str)]]:=by
    unfold AO
    rw [eZ,if_neg (show ¬ ("do":Str)="try" by decide +kernel),if_pos rfl]
   obtain ⟨F1,h1,h3⟩:=KF ih (th:=[]) (.inr (.inl rfl)) p0 p1 [[("last":Str)]] [] (.inl ⟨_,rfl,Ss.trans (by rw [show CF "do"="last" by decide +kernel]),λe=>absurd e (by decide +kernel)⟩) d k pg S hS
   refine ⟨F1,?_,?_⟩
   ·rw [eT,er]
    exact h1
   ·rw [eT,er,h3]
    rfl
  ·obtain ⟨v,rfl⟩:=FY (B.tl.trans (show Cj "limit"=1 by decide +kernel))
   have er:r=[v,.ref b0,.ref b1]:=by rw [B.e,if_neg (by decide +kernel)];rfl
   have hv:=tv v C0
   have eT:AO H (.ref a)=if Bc H (.ref b1)=[] then [] else [[("late":Str)]]:=by
    unfold AO
    rw [eZ,if_neg (show ¬ ("limit":Str)="try" by decide +kernel),if_neg (show ¬ ("limit":Str)="do" by decide +kernel),er]
    rfl
   have fin:∀ tl:List (List Str),AO H (.ref a)=tl->((∃ ws,tl=[ws]/\Bz SL ws=some (.str (CF "limit")::[])/\(("limit":Str)="limit"->Bc H (.ref b1)≠[]))\/(tl=[]/\([]:List V)=[]/\("limit":Str)="limit"/\Bc H (.ref b1)=[])) ->
     ∃ F1:Fq,run pf (k+1) (BK (λp=>Ah (n+1) H p (d+1)) ((AO H (.ref a)).map λws=>(d,ws)) ([(d,["end"])]:List Ln) false r) ⟨pg,S++[⟨.str "limit"::.int (pf k)::[v],[],false,[],[]⟩]⟩=some (MX ⟨pg,S++[F1]⟩)/\F1.whole=Tr.t (.s "limit"::.i (pf k)::Ct (Bm pf (n+1) H) (λp=>(Ah (n+1) H p 0).length) (AO H (.ref a)).length false (k+1) r):=λtl eT hT=>by
    obtain ⟨F1,h1,h3⟩:=KF ih (th:=[v]) (.inr (.inr rfl)) p0 p1 tl [] hT d k pg S hS
    refine ⟨F1,?_,?_⟩
    ·rw [eT,er,Cy hv]
     exact h1
    ·rw [eT,er,h3]
     show _=Tr.t (.s "limit"::.i (pf k)::(if BM v then _ else JE v::Ct _ _ _ _ _ _))
     rw [if_neg (by rw [hv];exact N0)]
     rfl
   by_cases he:Bc H (.ref b1)=[]
   ·rw [if_pos he] at eT
    exact fin [] eT (.inr ⟨rfl,rfl,rfl,he⟩)
   ·rw [if_neg he] at eT
    exact fin [[("late":Str)]] eT (.inl ⟨_,rfl,Sr.trans (by rw [show CF "limit"="late" by decide +kernel]),λ_=>he⟩)
 ·obtain ⟨b,rfl⟩:=FY (B.one h2)
  have hz:z≠"try":=λe=>h2 (.inl e)
  have er:r=th++[.ref b]:=by rw [B.e,if_neg hz];rfl
  rw [er,FG tv,BQ,HB tv]
  refine ⟨⟨.str z::.int (pf k)::th,Ic (Bm pf (n+1) H (.ref b) (k+1)),false,[],[]⟩,?_,?_⟩
  ·rw [if_neg N0,D3,FA pf _ _ _ _ _ (ih _ (hp b C0) (d+1) (k+1) pg S _ hS)]
   show run pf _ ([(d,["end"])]:List Ln) _=_
   refine DP (ID (Oq ?_))
   show (if z="limit" then _ else _||!decide (BH z))=true
   rw [if_neg (λe=>h2 (.inr (.inr e))),decide_eq_false h2]
   rfl
  ·show Tr.t (_++(if BH z then _ else []))=_
   rw [if_neg h2,o0]
   rfl
theorem row_run {pf:Nat->Int} {H:Hp} {m:Nat} (ih:∀ n,m=n+1->Ng pf H n) {y:V} (hy:AF m H y) (d k:Nat) (pg:List Tr) (S:List Fq) (F:Fq) (hS:S.length+1+m<=23) :
  run pf k (AM (Ah m H) H y d) ⟨pg,S++[F]⟩=some ⟨pg,S++[F.put (CG pf (Bm pf m H) (λp=>(Ah m H p 0).length) H y k)]⟩:=by
 cases m with
 |zero=>exact hy.elim
 |succ n =>
  obtain ⟨a,z,r,rfl,e2,e3,e4,e5⟩:=id hy
  obtain ⟨ln,r',rfl,P | ⟨th,fa,bs,B⟩⟩:=e3
  ·have eZ:=Ck e2
   have nr:∀ t∈r',BM t=false:=λt ht=>(P.tv t ht).notR
   unfold AM CG AT
   rw [eZ]
   have e1:BK (λp=>Ah (n+1) H p (d+1)) ((AO H (.ref a)).map λws=>(d,ws)) ([(d,["end"])]:List Ln) false r'=[]:=by
    have:=FG (f:=λp=>Ah (n+1) H p (d+1)) (tn:=(AO H (.ref a)).map λws=>(d,ws)) (en:=([(d,["end"])]:List Ln)) (w:=false) (r:=[]) nr
    rw [o0] at this
    rw [this]
    rfl
   have e2:Ct (Bm pf (n+1) H) (λp=>(Ah (n+1) H p 0).length) (AO H (.ref a)).length false (k+1) r'=r'.map JE:=by
    have:=HB (num:=Bm pf (n+1) H) (len:=λp=>(Ah (n+1) H p 0).length) (tn:=(AO H (.ref a)).length) (w:=false) (c:=k+1) (r:=[]) nr
    rw [o0] at this
    rw [this]
    exact o0 _
   rw [DP (Re P)]
   show run pf (k+1) (BK _ _ _ _ r') _=some ⟨pg,S++[F.put (Tr.t (.s z::.i (pf k)::Ct _ _ _ _ _ r'))]⟩
   rw [e1,e2]
   rfl
  ·have eZ:=Ck e2
   have hb:HH z/\2<=n:=by
    have pl:AL z≠[]:=by rcases B.w with rfl | rfl | rfl | rfl | rfl | rfl | rfl | rfl<;>decide +kernel
    obtain ⟨_,h2,h3⟩:=e4 pl
    refine ⟨?_,h2⟩
    rcases B.w with h | h
    ·have:=h3.mp h
     omega
    ·exact h
   have hp:∀ b∈bs,AN n H (.ref b):=λb hb=>e5 _ (by rw [(CT B).1];exact j1.mpr ⟨b,hb,rfl⟩)
   obtain ⟨F1,h1,h2⟩:=Nf (ih n rfl) B e2 hp d k pg (S++[F]) (by rw [B0];show S.length+1+1+n<=23;omega)
   unfold AM AT
   rw [eZ]
   have hw:AS z r'=z::th.map CI:=by
    by_cases hz:z="try"
    ·subst hz
     obtain rfl:=E2.mp (B.tl.trans (show Cj "try"=0 by decide +kernel))
     unfold AS
     rw [if_neg (by decide +kernel),if_pos rfl]
     rfl
    ·exact CV B hz
   show run pf k ((d,AS z r')::BK _ _ _ _ r') _=_
   rw [hw,DP (Rg B.fv.2 hb.1 (by omega)),h1,MW,h2]
theorem Ji {pf:Nat->Int} {H:Hp} {m:Nat} (ih:∀ n,m=n+1->Ng pf H n) (d:Nat) (pg:List Tr) (S:List Fq) (hS:S.length+1+m<=23):∀ (ys:List V),(∀ y∈ys,AF m H y)->∀ (k:Nat) (F:Fq),
  run pf k (ys.flatMap λy=>AM (Ah m H) H y d) ⟨pg,S++[F]⟩=some ⟨pg,S++[F.puts (Cd (CG pf (Bm pf m H) (λp=>(Ah m H p 0).length) H) (λy=>(AM (Ah m H) H y 0).length) k ys)]⟩
 |[],_,k,F=>by
  show some _=some _
  rw [show Cd _ _ k []=[] from rfl,Rz]
 |y::ys,h,k,F=>by
  rw [N1,FA pf _ _ _ _ _ (row_run ih (h y C0) d k pg S F hS),Ji ih d pg S hS ys (λx hx=>h x (A0 _ hx)),PZ,Hm]
  rfl
theorem runs (pf:Nat->Int) (H:Hp):∀ m,Ng pf H m
 |0=>λv hv d k pg S F hS=>by
  obtain ⟨b,ys,rfl,e,hy⟩:=hv
  rw [Bi,BE,Az e]
  exact Ji (λn e=>by cases e) d pg S hS ys hy k F
 |m+1=>λv hv d k pg S F hS=>by
  have ih:=runs pf H m
  obtain ⟨b,ys,rfl,e,hy⟩:=hv
  rw [Bi,BE,Az e]
  exact Ji (λn e=>by cases e;exact ih) d pg S hS ys hy k F
theorem err_run {pf:Nat->Int} {H:Hp} {y:V} (hy:Di 22 100 H y) (d k:Nat) (pg:List Tr) :
  run pf k (AM (Ah 23 H) H y d) ⟨pg,[]⟩=some ⟨pg++[CG pf (Bm pf 23 H) (λp=>(Ah 23 H p 0).length) H y k],[]⟩:=by
 obtain ⟨hr,_,a',r0,e0,e1⟩:=hy
 obtain ⟨a,z,r,rfl,e2,e3,e4,e5⟩:=id hr
 cases e0
 rw [e2] at e1
 cases e1
 obtain ⟨ln,r',rfl,P | ⟨th,fa,bs,B⟩⟩:=e3
 ·exact absurd rfl (Mm P).2.2.2
 ·have eZ:=Ck e2
  have hp:∀ b∈bs,AN 22 H (.ref b):=λb hb=>e5 _ (by rw [(CT B).1];exact j1.mpr ⟨b,hb,rfl⟩)
  obtain ⟨F1,h1,h2⟩:=Nf (runs pf H 22) B e2 hp d k pg [] (by decide)
  unfold AM AT
  rw [eZ]
  have hw:AS "errand" r'=("errand":Str)::th.map CI:=CV B (by decide +kernel)
  show run pf k ((d,AS "errand" r')::BK _ _ _ _ r') _=_
  rw [hw,DP (Rf B.fv.2)]
  refine h1.trans ?_
  rw [<- h2]
  rfl
theorem MU {pf:Nat->Int} {H:Hp} (d:Nat):∀ (ys:List V),(∀ y∈ys,Di 22 100 H y)->∀ (k:Nat) (pg:List Tr),
  run pf k (ys.flatMap λy=>AM (Ah 23 H) H y d) ⟨pg,[]⟩=some ⟨pg++Cd (CG pf (Bm pf 23 H) (λp=>(Ah 23 H p 0).length) H) (λy=>(AM (Ah 23 H) H y 0).length) k ys,[]⟩
 |[],_,k,pg=>by
  show some _=some _
  rw [show Cd _ _ k []=[] from rfl,o0]
 |y::ys,h,k,pg=>by
  rw [N1,FA pf _ _ _ _ _ (err_run (h y C0) d k pg),MU d ys (λx hx=>h x (A0 _ hx)),Hm]
  rw [X1]
  rfl
theorem Ml {pf:Nat->Int} {H:Hp} {p:Addr} {es:List V} (h:H p=some (.tup es)) (he:∀ e∈es,Di 22 100 H e):run pf 0 (Ah 24 H (.ref p) 0) ⟨[],[]⟩=some ⟨Ic (Bm pf 24 H (.ref p) 0),[]⟩:=by
 rw [Bi,BE,Az h]
 exact MU 0 es he 0 []
def Bv (l:Str):List Str:=(Txt.split l ⟨#[32]⟩).filter λw=>w != ""
def readL:Nat->List Str->St->Option St
 |_,[],s=>some s
 |i,l::r,s=>if Bv l=[] then readL (i+1) r s else match step s i (Bv l) with
  |none=>none
  |some s'=>readL (i+1) r s'
inductive Ih:Nat->List Str->List Ln->List Int->Prop
 |nil {i:Nat}:Ih i [] [] []
 |blank {i:Nat} {l:Str} {r:List Str} {X:List Ln} {ps:List Int}:Bv l=[]->Ih (i+1) r X ps->Ih i (l::r) X ps
 |line {i:Nat} {l:Str} {r:List Str} {x:Ln} {X:List Ln} {ps:List Int}:Bv l=x.2->x.2≠[]->Ih (i+1) r X ps->Ih i (l::r) (x::X) ((i:Int)::ps)
theorem Ih.read {i:Nat} {L:List Str} {X:List Ln} {ps:List Int} (h:Ih i L X ps) {pf:Nat->Int}:∀ (k:Nat) (s:St),(∀ j p,ps[j]?=some p->pf (k+j)=p)->readL i L s=run pf k X s:=by
 induction h with
 |nil=>intro k s _;rfl
 |blank e _ ih =>
  intro k s hp
  show (if Bv _=[] then _ else _)=_
  rw [if_pos e]
  exact ih k s hp
 |line e ne _ ih =>
  intro k s hp
  show (if Bv _=[] then _ else _)=_
  rw [if_neg (by rw [e];exact ne),e]
  have h0:=hp 0 _ rfl
  rw [J7] at h0
  show _=match step s (pf k) _ with | none=>none | some s'=>run pf (k+1) _ s'
  rw [h0]
  split
  ·rfl
  ·exact ih (k+1) _ λj p hj=>by
    have:=hp (j+1) p hj
    rw [show k+1+j=k+(j+1) by omega];exact this
theorem Ih.app {i:Nat} {L:List Str} {X:List Ln} {ps:List Int} (h:Ih i L X ps):∀ {j:Nat} {M:List Str} {Y:List Ln} {qs:List Int},Ih j M Y qs->j=i+L.length->Ih i (L++M) (X++Y) (ps++qs):=by
 induction h with
 |nil =>
  intro j M Y qs g e
  have e':j=_:=e
  rw [K1,J7] at e'
  rw [<- e']
  exact g
 |blank e _ ih =>
  intro j M Y qs g ej
  exact .blank e (ih g (by rw [J0] at ej;omega))
 |line e ne _ ih =>
  intro j M Y qs g ej
  exact .line e ne (ih g (by rw [J0] at ej;omega))
theorem Ih.blanks {l:Str} (h:Bv l=[]):∀ (n i:Nat),Ih i (Y0 n l) [] []
 |0,_=>.nil
 |n+1,i=>.blank h (Ih.blanks h n (i+1))
theorem Ih.len {i:Nat} {L:List Str} {X:List Ln} {ps:List Int} (h:Ih i L X ps):ps.length=X.length:=by
 induction h with
 |nil=>rfl
 |blank _ _ ih=>exact ih
 |line _ _ _ ih=>rw [J0,J0,ih]
theorem Jm (c:Nat):∀ {l m:List Str},l≠[]->m≠[]->Str.join ⟨#[c]⟩ (l++m)=Str.join ⟨#[c]⟩ l++⟨#[c]⟩++Str.join ⟨#[c]⟩ m
 |[],_,h,_=>absurd rfl h
 |[a],b::m,_,_=>rfl
 |[a],[],_,h=>absurd rfl h
 |a::b::l,m,_,h=>by
  have ih:=Jm c (l:=b::l) (m:=m) (λz=>nomatch z) h
  show a++⟨#[c]⟩++Str.join ⟨#[c]⟩ (b::l++m)=a++⟨#[c]⟩++Str.join ⟨#[c]⟩ (b::l)++⟨#[c]⟩++_
  rw [ih]
  refine El ?_
  simp only [By,X1]
theorem IE (z:Str) (c:Nat):Txt.split z ⟨#[c]⟩≠[]:=λe=>by
 have:=PyProof.Rows.split_pos z ⟨#[c]⟩
 rw [e] at this
 exact absurd this (by decide)
theorem PP (a b:Str) (c:Nat):Txt.split (a++⟨#[c]⟩++b) ⟨#[c]⟩=Txt.split a ⟨#[c]⟩++Txt.split b ⟨#[c]⟩:=by
 have e:a++⟨#[c]⟩++b=Str.join ⟨#[c]⟩ (Txt.split a ⟨#[c]⟩++Txt.split b ⟨#[c]⟩):=by
  rw [Jm c (IE a c) (IE b c),StrLaws.join_split,StrLaws.join_split]
 rw [e]
 refine EG (λq=>IE a c (N4.mp q).1) λx hx=>?_
 rcases T0.mp hx with hx | hx
 ·exact StrLaws.split_free _ c x hx
 ·exact StrLaws.split_free _ c x hx
theorem PQ {z:Str} {c:Nat} (h:c∉z.cps.toList):Txt.split z ⟨#[c]⟩=[z]:=by
 have:=EG (c:=c) (l:=[z]) (λq=>nomatch q) (λa ha=>by rw [M0.mp ha];exact h)
 exact this
theorem Jk (a b:Str):Bv (a++⟨#[32]⟩++b)=Bv a++Bv b:=by
 unfold Bv
 rw [PP,A4]
theorem Fi:Bv ""=[]:=by decide +kernel
structure CC (w:Str):Prop where
 ne:w≠""
 nb:(32:Nat)∉w.cps.toList
 nl:(10:Nat)∉w.cps.toList
 le:w.length<=10
theorem Ko {w:Str} (h:CC w):Bv w=[w]:=by
 unfold Bv
 rw [PQ h.nb,Y1,if_pos (by simpa using h.ne)]
 rfl
def KD (L:Str):Prop:=L=""\/∃ M,L=M++⟨#[32]⟩
theorem Fu (a:Str):a++("":Str)=a:=El (by rw [By,show (Str.ofString "").cps.toList=[] by decide +kernel,o0])
theorem Fg (a:Str):("":Str)++a=a:=El (by rw [By,show (Str.ofString "").cps.toList=[] by decide +kernel];rfl)
theorem Gy (a:Str):Bv (a++⟨#[32]⟩)=Bv a:=by
 have:=Jk a ""
 rw [Fu,Fi,o0] at this
 exact this
theorem Qk {L w:Str} (h:KD L) (hw:CC w):Bv (L++w)=Bv L++[w]:=by
 rcases h with rfl | ⟨M,rfl⟩
 ·rw [Fg,Ko hw,Fi];rfl
 ·rw [Jk,Ko hw,Gy]
inductive Kd where
 |une | rdg
inductive Fl where
 |head | rows | turned | tfl | others | prog | unended
deriving DecidableEq
def Fl.kd:Fl->Kd
 |.prog=>.rdg | .unended=>.rdg | _=>.une
def Fl.name:Fl->Str
 |.head=>"head" | .rows=>"rows" | .turned=>"turned" | .tfl=>"turn_fields" | .others=>"others" | .prog=>"program" | .unended=>"unended"
def Fl.ix:Fl->Fin 7
 |.head=>0 | .rows=>1 | .turned=>2 | .tfl=>3 | .others=>4 | .prog=>5 | .unended=>6
def FLS:List Fl:=[.head,.rows,.turned,.tfl,.others,.prog,.unended]
theorem fls_nd:(FLS.map Fl.name).Nodup:=by decide +kernel
theorem Ly (l:Fl):FLS[l.ix.val]?=some l:=by cases l<;>rfl
theorem RX (a b:Fl) (h:a.name=b.name):a=b:=by
 have ha:=Ly a
 have hb:=Ly b
 have e1:(FLS.map Fl.name)[a.ix.val]?=some a.name:=by rw [Q1,ha];rfl
 have e2:(FLS.map Fl.name)[b.ix.val]?=some a.name:=by rw [Q1,hb,h];rfl
 have l1:=(W0.mp e1).1
 have e:=(List.getElem?_inj l1 fls_nd).mp (e1.trans e2.symm)
 rw [e] at ha
 exact Z2.inj (ha.symm.trans hb)
def Tx.C (T:Tx P w K mg):Kd->Addr
 |.une=>T.C_Unended
 |.rdg=>T.C_Reading
theorem Tx.cl (T:Tx P w K mg) (c:Kd):Nl K (T.C c):=by
 cases c
 ·exact T.k_Unended
 ·exact T.k_Reading
theorem Tx.na (T:Tx P w K mg) (l:Fl):Cv K (T.C l.kd) l.name:=match l with
 |.head=>T.n_Unended_head | .rows=>T.n_Unended_rows | .turned=>T.n_Unended_turned | .tfl=>T.n_Unended_turn_fields | .others=>T.n_Unended_others | .prog=>T.n_Reading_program | .unended=>T.n_Reading_unended
def PV (g:Fl->Option V) (l:Fl) (v:V):Fl->Option V:=λx=>if x=l then some v else g x
structure Cu (T:Tx P w K mg) (n:Nat) (c:Kd) (H:Hp) (p:Addr) (g:Fl->Option V):Prop where
 ex:∃ dx fs,H p=some (.ins (T.C c) dx fs)/\fs.length<=n/\(∀ l:Fl,fs.lookup l.name=g l)/\∀ m:Str,(∀ l:Fl,l.name≠m)->fs.lookup m=none
theorem Cu.same {T:Tx P w K mg} {n:Nat} {c:Kd} {H H':Hp} {p:Addr} {g:Fl->Option V} (F:Cu T n c H p g) (s:Ag H H'):Cu T n c H' p g:=by
 obtain ⟨dx,fs,h1,h2⟩:=F.ex
 exact ⟨dx,fs,s _ _ h1,h2⟩
theorem Cu.at' {T:Tx P w K mg} {n:Nat} {c:Kd} {H H':Hp} {p:Addr} {g:Fl->Option V} (F:Cu T n c H p g) (s:∀ o,H p=some o->H' p=some o):Cu T n c H' p g:=by
 obtain ⟨dx,fs,h1,h2⟩:=F.ex
 exact ⟨dx,fs,s _ h1,h2⟩
theorem Cu.new {T:Tx P w K mg} {c:Kd} {H:Hp} {p dx:Addr} (h:H p=some (.ins (T.C c) dx [])):Cu T 0 c H p (λ_=>none):=⟨dx,[],h,P0 _,λ_=>rfl,λ_ _=>rfl⟩
theorem Cu.fld {T:Tx P w K mg} {n:Nat} {c:Kd} {H:Hp} {p:Addr} {g:Fl->Option V} (F:Cu T n c H p g) (l:Fl) {z:Str} {v:V} {R:V->Prop} (e:g l=some v) (k:R v) (hz:l.name=z:=by rfl) (hc:l.kd=c:=by rfl):∃ C dx fs,H p=some (.ins C dx fs)/\Nl K C/\Cv K C z/\∃ v,fs.lookup z=some v/\R v:=by
 subst hz
 obtain ⟨dx,fs,h1,_,h3,_⟩:=F.ex
 exact ⟨_,dx,fs,h1,T.cl c,by rw [<- hc];exact T.na l,v,(h3 l).trans e,k⟩
theorem GR {f:Str} {v:V}:∀ {fs:List (Str×V)},fs.lookup f≠none->(Cq f v fs).length=fs.length
 |[],h=>absurd rfl h
 | (g,x)::r,h=>by
  show (if g=f then (g,v)::r else (g,x)::Cq f v r).length=_
  by_cases e:g=f
  ·rw [if_pos e];rfl
  ·rw [if_neg e]
   show (Cq f v r).length+1=r.length+1
   rw [GR]
   intro z
   apply h
   rw [V2]
   have:(f == g)=false:=by simp [Ne.symm e]
   rw [this];exact z
theorem Cu.put {T:Tx P w K mg} {n:Nat} {c:Kd} {H:Hp} {p:Addr} {g:Fl->Option V} (F:Cu T n c H p g) (l:Fl) (v:V):∃ dx fs,H p=some (.ins (T.C c) dx fs)/\fs.length<=n /\
  Cu T (n+1) c (upd H p (.ins (T.C c) dx (Cq l.name v fs))) p (PV g l v)/\(g l≠none->Cu T n c (upd H p (.ins (T.C c) dx (Cq l.name v fs))) p (PV g l v)):=by
 obtain ⟨dx,fs,h1,h2,h3,h4⟩:=F.ex
 have q1:∀ x:Fl,(Cq l.name v fs).lookup x.name=PV g l v x:=λx=>by
  rw [CW]
  unfold PV
  by_cases e:x=l
  ·rw [if_pos (by rw [e]),if_pos e]
  ·rw [if_neg (λz=>e (RX _ _ z)),if_neg e,h3]
 have q2:∀ m:Str,(∀ l:Fl,l.name≠m)->(Cq l.name v fs).lookup m=none:=λm hm=>by
  rw [CW,if_neg (Ne.symm (hm l)),h4 m hm]
 refine ⟨dx,fs,h1,h2,⟨dx,_,Ac,?_,q1,q2⟩,λhg=>⟨dx,_,Ac,?_,q1,q2⟩⟩
 ·have:=Fj l.name v fs;omega
 ·rw [GR (by rw [h3];exact hg)];exact h2
theorem nofl {z:Str} (h:(FLS.map Fl.name).contains z=false) (l:Fl):l.name≠z:=λe=>by
 have m:l.name∈FLS.map Fl.name:=j1.mpr ⟨l,d0 (Ly l),rfl⟩
 rw [e] at m
 rw [V8,decide_eq_true m] at h
 cases h
theorem Cu.call {T:Tx P w K mg} {n:Nat} {c:Kd} {H:Hp} {p:Addr} {g:Fl->Option V} (F:Cu T n c H p g) {z:Str} {A:Prop} (k:A) (h:(FLS.map Fl.name).contains z=false:=by decide +kernel):∃ x y,H p=some (.ins (T.C c) x y)/\y.lookup z=none/\A:=by
 obtain ⟨dx,fs,h1,_,_,h4⟩:=F.ex
 exact ⟨dx,fs,h1,h4 z (nofl h),k⟩
inductive DZ (H:Hp):V->Tr->Prop
 |i (n:Int):DZ H (.int n) (.i n)
 |s (z:Str):DZ H (.str z) (.s z)
 |t {a:Addr} {xs:List V} {ts:List Tr}:H a=some (.tup xs)->xs.length=ts.length->(∀ (i:Nat) (x:V) (t:Tr),xs[i]?=some x->ts[i]?=some t->DZ H x t)->DZ H (.ref a) (.t ts)
theorem DZ.sameT {H H':Hp} {v:V} {t:Tr} (r:DZ H v t) (s:Bf H H'):DZ H' v t:=by
 induction r with
 |i n=>exact .i n
 |s z=>exact .s z
 |t h l _ ih=>exact .t (s _ _ h) l ih
theorem DZ.toT {H H2:Hp}:∀ {m:Nat} {v w:V} {t:Tr},EQ m H2 w t->DZ H v t->EQ m H v t
 |0,_,_,.i _,_,r=>by cases r;rfl
 |0,_,_,.s _,_,r=>by cases r;rfl
 |0,_,_,.t _,h,_=>h.elim
 |_+1,_,_,.i _,_,r=>by cases r;rfl
 |_+1,_,_,.s _,_,r=>by cases r;rfl
 |m+1,v,w,.t ts,h,r=>by
  obtain ⟨a,xs,_,_,l1,l2,each⟩:=h
  cases r with
  |t ha hl hr =>
   rename_i b ys
   refine ⟨b,ys,rfl,ha,hl,l2,λi x t hx ht=>?_⟩
   have hi:i<xs.length:=by
    have:=(W0.mp ht).1
    omega
   exact DZ.toT (each i xs[i] t (u0 hi) ht) (hr i x t hx ht)
def CU (H:Hp) (xs:List V) (ts:List Tr):Prop:=xs.length=ts.length/\∀ (i:Nat) (x:V) (t:Tr),xs[i]?=some x->ts[i]?=some t->DZ H x t
theorem CU.sameT {H H':Hp} {xs:List V} {ts:List Tr} (r:CU H xs ts) (s:Bf H H'):CU H' xs ts:=⟨r.1,λi x t hx ht=>(r.2 i x t hx ht).sameT s⟩
theorem CU.nil (H:Hp):CU H [] []:=⟨rfl,λ_ _ _ h=>nomatch h⟩
theorem CU.snoc {H:Hp} {xs:List V} {ts:List Tr} {x:V} {t:Tr} (r:CU H xs ts) (h:DZ H x t):CU H (xs++[x]) (ts++[t]):=by
 refine ⟨by rw [B0,B0,r.1];rfl,λi y u hy hu=>?_⟩
 rcases DS hy with ⟨lt,hy⟩ | ⟨ei,ey⟩
 ·have lt2:i<ts.length:=by rw [<- r.1];exact lt
  rw [X0 lt2] at hu
  exact r.2 i y u hy hu
 ·rw [ei,r.1,Bt] at hu
  cases hu
  rw [ey]
  exact h
def flatB:V->Bool
 |.int _=>true
 |.str _=>true
 |_=>false
theorem Rv {H:Hp} {v:V} (h:flatB v=true):DZ H v (JE v):=by
 cases v with
 |int n=>exact .i n
 |str z=>exact .s z
 |_=>cases h
theorem CU.flat {H:Hp} {xs:List V} (h:∀ v∈xs,flatB v=true):CU H xs (xs.map JE):=by
 refine ⟨by rw [D0],λi x t hx ht=>?_⟩
 rw [Q1,hx] at ht
 cases ht
 exact Rv (h x (d0 hx))
theorem CU.app {H:Hp} {xs ys:List V} {ts us:List Tr} (r:CU H xs ts) (q:CU H ys us):CU H (xs++ys) (ts++us):=by
 refine ⟨by rw [B0,B0,r.1,q.1],λi x t hx ht=>?_⟩
 by_cases lt:i<xs.length
 ·rw [X0 lt] at hx
  rw [X0 (by rw [<- r.1];exact lt)] at ht
  exact r.2 i x t hx ht
 ·rw [L1 (by omega)] at hx
  rw [L1 (by rw [<- r.1];omega),<- r.1] at ht
  exact q.2 _ x t hx ht
theorem CU.one {H:Hp} {x:V} {t:Tr} (h:DZ H x t):CU H [x] [t]:=(CU.nil H).snoc h
theorem DZ.tup {H:Hp} {a:Addr} {xs:List V} {ts:List Tr} (h:H a=some (.tup xs)) (r:CU H xs ts):DZ H (.ref a) (.t ts):=.t h r.1 r.2
theorem Lp (a b:Nat):([a] < [b])↔a<b:=by
 constructor
 ·intro h
  cases h with
  |rel h=>exact h
  |cons h=>cases h
 ·intro h;exact List.Lex.rel h
theorem Qv (c:Nat):(if (!decide ((⟨#[c]⟩:Str).cps.toList<("a":Str).cps.toList))=true then (!decide (("z":Str).cps.toList<(⟨#[c]⟩:Str).cps.toList)) else false)=isL c:=by
 have ea:("a":Str).cps.toList=[97]:=by decide +kernel
 have ez:("z":Str).cps.toList=[122]:=by decide +kernel
 have ec:(⟨#[c]⟩:Str).cps.toList=[c]:=rfl
 rw [ea,ez,ec]
 have h1:=Lp c 97
 have h2:=Lp 122 c
 unfold isL
 by_cases a:c<97<;>by_cases b:122<c<;>simp [h1,h2,a,b]<;>omega
theorem Qw (c:Nat):(if (!decide ((⟨#[c]⟩:Str).cps.toList<("0":Str).cps.toList))=true then (!decide (("9":Str).cps.toList<(⟨#[c]⟩:Str).cps.toList)) else false)=QG c:=by
 have ea:("0":Str).cps.toList=[48]:=by decide +kernel
 have ez:("9":Str).cps.toList=[57]:=by decide +kernel
 have ec:(⟨#[c]⟩:Str).cps.toList=[c]:=rfl
 rw [ea,ez,ec]
 have h1:=Lp c 48
 have h2:=Lp 57 c
 unfold QG
 by_cases a:c<48<;>by_cases b:57<c<;>simp [h1,h2,a,b]<;>omega
inductive Th (H:Hp):V->Prop
 |str (z:Str):z.length<=1000->Th H (.str z)
 |int (i:Int):Th H (.int i)
 |bl (b:Bool):Th H (.bl b)
 |non:Th H .non
 |lst {a:Addr} {xs:List V}:H a=some (.lst xs)->Th H (.ref a)
 |tup {a:Addr} {xs:List V}:H a=some (.tup xs)->Th H (.ref a)
 |dic {a:Addr} {kvs:List (DX×V)}:H a=some (.dK kvs)->Th H (.ref a)
theorem Th.same {H H':Hp} {v:V} (t:Th H v) (s:Ag H H'):Th H' v:=by
 cases t with
 |str z h=>exact .str z h
 |int i=>exact .int i
 |bl b=>exact .bl b
 |non=>exact .non
 |lst h=>exact .lst (s _ _ h)
 |tup h=>exact .tup (s _ _ h)
 |dic h=>exact .dic (s _ _ h)
def isS:V->Bool
 |.str _=>true
 |_=>false
def isB:V->Bool
 |.bl _=>true
 |_=>false
def isI:V->Bool
 |.int _=>true
 |.bl _=>true
 |_=>false
theorem Th.ty {K:K0} {H:Hp} {v:V} (t:Th H v):∃ u,Fv K H v u/\Z4 K u (.type "str")=some (isS v)/\Z4 K u (.type "bool")=some (isB v)/\Z4 K u (.type "int")=some (isI v):=by
 cases t with
 |str z h=>exact ⟨_,.str z,rfl,rfl,rfl⟩
 |int i=>exact ⟨_,.int i,rfl,rfl,rfl⟩
 |bl b=>exact ⟨_,.bl b,rfl,rfl,rfl⟩
 |non=>exact ⟨_,.non,rfl,rfl,rfl⟩
 |lst h=>exact ⟨_,.lst h,rfl,rfl,rfl⟩
 |tup h=>exact ⟨_,.tup h,rfl,rfl,rfl⟩
 |dic h=>exact ⟨_,.dK h,rfl,rfl,rfl⟩
theorem RY (z:Str):DH (V.str z) (Gb.map V.str)=Gb.any λy=>y == z:=by
 unfold DH
 rw [List.any_map]
 rfl
def Hj:Sp:=λvs H Q _=>∃ z:Str,vs=[.str z]/\z.length<=1000/\∀ H',Ag H H'->Q (.bl (Ez z)) H'
def KP:Sp:=λvs H Q _=>∃ v:V,vs=[v]/\Th H v/\∀ H',Ag H H'->Q (.bl (Kn v)) H'
def NA:Sp:=λvs H Q _=>∃ z:Str,vs=[.str z]/\z.length<=1000/\∀ H',Ag H H'->Q (.bl (Dt z)) H'
def spVal:Sp:=λvs H Q _=>∃ v:V,vs=[v]/\Th H v/\∀ H',Ag H H'->Q (.bl (Hw v)) H'
def II:Sp:=λvs H Q _=>∃ z:Str,vs=[.str z]/\Q (.bl (decide (z∈PPW))) H
def oN:Option Int->V
 |some n=>.int n
 |none=>.non
def IG:Sp:=λvs H Q _=>∃ z:Str,vs=[.str z]/\z.length<=1000/\∀ H',Ag H H'->Q (oN (Gv z)) H'
def Kc:Sp:=λvs H Q _=>∃ (z:Str) (lo hi:Int),vs=[.str z,.int lo,.int hi]/\z.length<=1000/\∀ H',Ag H H'->Q (LI z lo hi) H'
def JX:Sp:=λvs H Q _=>∃ z:Str,vs=[.str z]/\z.length<=1000/\∀ H',Ag H H'->Q (EF z) H'
def Kb:Sp:=λvs H Q _=>∃ y z:Str,vs=[.str y,.str z]/\y.length<=1000/\z.length<=1000/\∀ H',Ag H H'->Q (Aw y z) H'
def WsOk (ws:List Str):Prop:=ws.length<=1000/\∀ w∈ws,w.length<=1000
def Mb (f:Addr):Sp:=λvs H Q _=>∃ (a b:Addr) (slots ws:List Str),vs=[.ref a,.ref b,.ref f]/\H a=some (.lst (slots.map V.str))/\H b=some (.lst (ws.map V.str))/\WsOk slots/\WsOk ws /\
 (Fo slots ws=none->∀ H',Ag H H'->Q .non H')/\∀ x,Fo slots ws=some x->∀ (l:Addr) (H':Hp),H l=none->H' l=some (.lst x)->Ag H H'->Q (.ref l) H'
def OL (T:Tx P w K mg):Sp:=λvs H Q _=>∃ (b:Addr) (ws:List Str),vs=[.ref T.fma,.ref b,.ref T.d_field_of.f]/\H b=some (.lst (ws.map V.str))/\WsOk ws /\
 (Bz SL ws=none->∀ H',Ag H H'->Q .non H')/\∀ x,Bz SL ws=some x->∀ (l:Addr) (H':Hp),H l=none->H' l=some (.lst x)->Ag H H'->Q (.ref l) H'
def Ta (fs:List V):Prop:=(∃ w r,fs=.str w::r)/\fs.length<=10/\∀ v∈fs,flatB v=true
def KM:Sp:=λvs H Q _=>∃ (l:Addr) (fs:List V) (n:Int),vs=[.ref l,.int n]/\H l=some (.lst fs)/\Ta fs/\∀ (a:Addr) (H':Hp),H' a=some (.tup (HX fs n))->Ag H H'->Q (.ref a) H'
set_option genInjectivity false in
structure Ub where
 p:Addr
 h:Addr
 r:Addr
 t:Addr
 o:Addr
def Ub.own (b:Ub):List Addr:=[b.p,b.r,b.o]
def gU (b:Ub) (tn:Bool):Fl->Option V
 |.head=>some (.ref b.h) | .rows=>some (.ref b.r) | .turned=>some (.bl tn) | .tfl=>some (.ref b.t) | .others=>some (.ref b.o) | _=>none
def gR (pa ua:Addr):Fl->Option V
 |.prog=>some (.ref pa) | .unended=>some (.ref ua) | _=>none
structure Jy (T:Tx P w K mg) (H:Hp) (b:Ub) (F:Fq):Prop where
 ob:Cu T 5 .une H b.p (gU b F.tn)
 hd:H b.h=some (.tup F.hd)
 hz:∃ z n r,F.hd=.str z::.int n::r/\r.length<=10/\∀ v∈r,flatB v=true
 rs:∃ xs,H b.r=some (.lst xs)/\CU H xs F.rs
 tf:H b.t=some (.tup F.tf)/\F.tf.length<=10/\∀ v∈F.tf,flatB v=true
 os:∃ ys,H b.o=some (.lst ys)/\CU H ys F.os
 ne:b.r≠b.o
theorem Jy.sameT {T:Tx P w K mg} {H H':Hp} {b:Ub} {F:Fq} (U:Jy T H b F) (s:Bf H H') (o:∀ a∈b.own,H' a=H a):Jy T H' b F:=by
 obtain ⟨xs,x1,x2⟩:=U.rs
 obtain ⟨ys,y1,y2⟩:=U.os
 exact ⟨U.ob.at' λu h=>by rw [o _ (by simp [Ub.own])];exact h,s _ _ U.hd,U.hz,⟨xs,by rw [o _ (by simp [Ub.own])];exact x1,x2.sameT s⟩,⟨s _ _ U.tf.1,U.tf.2⟩,⟨ys,by rw [o _ (by simp [Ub.own])];exact y1,y2.sameT s⟩,U.ne⟩
theorem Jy.there {T:Tx P w K mg} {H:Hp} {b:Ub} {F:Fq} (U:Jy T H b F):∀ a∈b.own,∃ u,H a=some u:=by
 intro a ha
 obtain ⟨xs,x1,_⟩:=U.rs
 obtain ⟨ys,y1,_⟩:=U.os
 obtain ⟨dx,fs,h1,_⟩:=U.ob.ex
 simp only [Ub.own,L0,E1,or_false] at ha
 rcases ha with rfl | rfl | rfl
 ·exact ⟨_,h1⟩
 ·exact ⟨_,x1⟩
 ·exact ⟨_,y1⟩
theorem Jy.same {T:Tx P w K mg} {H H':Hp} {b:Ub} {F:Fq} (U:Jy T H b F) (s:Ag H H'):Jy T H' b F :=
 U.sameT (AE s) λa ha=>by
  obtain ⟨u,e⟩:=U.there a ha
  rw [e];exact s _ _ e
def KL (T:Tx P w K mg):Sp:=λvs H Q _=>∃ (x dx hA:Addr) (hd:List V),vs=[.ref x,.ref hA]/\H x=some (.ins T.C_Unended dx [])/\H hA=some (.tup hd)/\(∃ z n r,hd=.str z::.int n::r/\r.length<=10/\∀ v∈r,flatB v=true) /\
 ∀ (b:Ub) (H':Hp),b.p=x->Jy T H' b ⟨hd,[],false,[],[]⟩->H b.r=none->H b.o=none->DY x H H'->Q .non H'
def Nz (T:Tx P w K mg):Sp:=λvs H Q _=>∃ (b:Ub) (F:Fq) (v:V) (t:Tr),vs=[.ref b.p,v]/\Jy T H b F/\DZ H v t/\F.rs.length<=100000/\F.os.length<=100000 /\
 ∀ H':Hp,Jy T H' b (F.put t)->(∀ a u,a≠b.r->a≠b.o->H a=some u->H' a=some u)->Q .non H'
def IF (T:Tx P w K mg):Sp:=λvs H Q _=>∃ (b:Ub) (F:Fq) (z:Str),vs=[.ref b.p,.str z]/\Jy T H b F/\Q (.bl (F.mayTurn z)) H
def OH (T:Tx P w K mg):Sp:=λvs H Q _=>∃ (b:Ub) (F:Fq) (ta:Addr) (tf:List V),vs=[.ref b.p,.ref ta]/\Jy T H b F/\H ta=some (.tup tf)/\tf.length<=10/\(∀ v∈tf,flatB v=true) /\
 ∀ H':Hp,Jy T H' { b with t:=ta } { F with tn:=true,tf:=tf }->DY b.p H H'->Q .non H'
def JY (T:Tx P w K mg):Sp:=λvs H Q _=>∃ (b:Ub) (F:Fq),vs=[.ref b.p]/\Jy T H b F/\∀ H',Ag H H'->Q (.bl F.mayEnd) H'
def LU (T:Tx P w K mg):Sp:=λvs H Q _=>∃ (b:Ub) (F:Fq),vs=[.ref b.p]/\Jy T H b F/\F.rs.length<=100000/\F.os.length<=100000/\∀ (v:V) (H':Hp),DZ H' v F.whole->Ag H H'->Q v H'
structure RA (T:Tx P w K mg) (H0 H:Hp) (p pa ua:Addr) (s:St) (Bs:List Ub) (c:Nat):Prop where
 out:Ag H0 H
 new:∀ a∈p::pa::ua::Bs.flatMap Ub.own,H0 a=none
 ob:Cu T 2 .rdg H p (gR pa ua)
 pr:∃ xs,H pa=some (.lst xs)/\CU H xs s.pg
 ul:H ua=some (.lst (Bs.map λb=>V.ref b.p))
 len:Bs.length=s.un.length
 le:s.un.length<=21
 each:∀ (i:Nat) (b:Ub) (F:Fq),Bs[i]?=some b->s.un[i]?=some F->Jy T H b F
 nd:(p::pa::ua::Bs.flatMap Ub.own).Nodup
 ct:s.pg.length<=c/\∀ F∈s.un,F.rs.length<=c/\F.os.length<=c
theorem RA.there {T:Tx P w K mg} {H0 H:Hp} {p pa ua:Addr} {s:St} {Bs:List Ub} {c:Nat} (R:RA T H0 H p pa ua s Bs c):∀ a∈p::pa::ua::Bs.flatMap Ub.own,∃ u,H a=some u/\∀ ys,u≠.tup ys:=by
 intro a ha
 rcases L0.mp ha with rfl | ha
 ·obtain ⟨dx,fs,h1,_⟩:=R.ob.ex
  exact ⟨_,h1,λ_ e=>nomatch e⟩
 rcases L0.mp ha with rfl | ha
 ·obtain ⟨xs,x1,_⟩:=R.pr
  exact ⟨_,x1,λ_ e=>nomatch e⟩
 rcases L0.mp ha with rfl | ha
 ·exact ⟨_,R.ul,λ_ e=>nomatch e⟩
 obtain ⟨b,hb,ha⟩:=j2.mp ha
 obtain ⟨i,hi⟩:=D4 hb
 have lt:i<s.un.length:=by rw [<- R.len];exact (W0.mp hi).1
 have U:=R.each i b _ hi (u0 lt)
 obtain ⟨xs,x1,_⟩:=U.rs
 obtain ⟨ys,y1,_⟩:=U.os
 obtain ⟨dx,fs,h1,_⟩:=U.ob.ex
 simp only [Ub.own,L0,E1,or_false] at ha
 rcases ha with rfl | rfl | rfl
 ·exact ⟨_,h1,λ_ e=>nomatch e⟩
 ·exact ⟨_,x1,λ_ e=>nomatch e⟩
 ·exact ⟨_,y1,λ_ e=>nomatch e⟩
theorem RA.same {T:Tx P w K mg} {H0 H H':Hp} {p pa ua:Addr} {s:St} {Bs:List Ub} {c:Nat} (R:RA T H0 H p pa ua s Bs c) (sm:Ag H H'):RA T H0 H' p pa ua s Bs c:=by
 obtain ⟨xs,x1,x2⟩:=R.pr
 exact ⟨R.out.trans sm,R.new,R.ob.same sm,⟨xs,sm _ _ x1,x2.sameT (AE sm)⟩,sm _ _ R.ul,R.len,R.le,λi b F h1 h2=>(R.each i b F h1 h2).same sm,R.nd,R.ct⟩
theorem RA.mono {T:Tx P w K mg} {H0 H:Hp} {p pa ua:Addr} {s:St} {Bs:List Ub} {c c':Nat} (R:RA T H0 H p pa ua s Bs c) (h:c<=c'):RA T H0 H p pa ua s Bs c' :=
 ⟨R.out,R.new,R.ob,R.pr,R.ul,R.len,R.le,R.each,R.nd,Q0 R.ct.1 h,λF hF=>⟨Q0 (R.ct.2 F hF).1 h,Q0 (R.ct.2 F hF).2 h⟩⟩
def OJ (T:Tx P w K mg):Sp:=λvs H Q _=>∃ (x dx:Addr),vs=[.ref x]/\H x=some (.ins T.C_Reading dx [])/\∀ (pa ua:Addr) (H':Hp),Cu T 2 .rdg H' x (gR pa ua)->H' pa=some (.lst [])->H' ua=some (.lst [])->H pa=none->H ua=none->pa≠ua->DY x H H'->Q .non H'
def JZ (T:Tx P w K mg):Sp:=λvs H Q _=>∃ (H0:Hp) (p pa ua:Addr) (s:St) (Bs:List Ub) (c:Nat) (z:Str),vs=[.ref p,.str z]/\RA T H0 H p pa ua s Bs c/\∀ H',Ag H H'->Q (.bl (CA s z)) H'
def Rj (T:Tx P w K mg):Sp:=λvs H Q _=>∃ (H0:Hp) (p pa ua:Addr) (s:St) (Bs:List Ub) (c:Nat),vs=[.ref p]/\RA T H0 H p pa ua s Bs c/\s.un≠[]/\c<=99999/\∀ (H':Hp) (Bs':List Ub),RA T H0 H' p pa ua (MX s) Bs' (c+1)->Q .non H'
def Ri (T:Tx P w K mg):Sp:=λvs H Q _=>∃ (H0:Hp) (p pa ua:Addr) (s:St) (Bs:List Ub) (c:Nat) (l:Addr) (z:Str) (fs:List V) (n:Int),vs=[.ref p,.ref l,.int n]/\RA T H0 H p pa ua s Bs c/\c<=99999/\H l=some (.lst fs)/\Ta fs/\fs.head?=some (.str z)/\CA s z=true /\
 ∀ (H':Hp) (Bs':List Ub),RA T H0 H' p pa ua (HZ s z fs n) Bs' (c+1)->Q .non H'
def LX (T:Tx P w K mg):Sp:=λvs H Q _=>∃ (H0:Hp) (p pa ua:Addr) (s:St) (Bs:List Ub) (c:Nat),vs=[.ref p]/\RA T H0 H p pa ua s Bs c/\∀ H',Ag H H'->Q (.bl (s.un.isEmpty&&!s.pg.isEmpty)) H'
def NB:Sp:=λvs H Q _=>∃ (L:List Str) (ts:List Tr),vs=[.str (Str.join ⟨#[10]⟩ L)]/\L≠[]/\(∀ l∈L,(10:Nat)∉l.cps.toList/\l.length<=500)/\L.length<=90000/\(Str.join ⟨#[10]⟩ L).length<=10000000/\readL 1 L ⟨[],[]⟩=some ⟨ts,[]⟩/\ts≠[]/\∀ (v:V) (H':Hp),DZ H' v (.t ts)->Ag H H'->Q v H'
theorem dinK {P:Program} {w:World} {K:K0} {neg:Bool} {σ:L2.St} {i:Nat} {a:Addr} {kvs:List (DX×V)} {z:Str} {H:Hp} {R:VK} (hσ:σ[i]?=some (some (.str z))) (hd:QF P w K a kvs) (k:R (.bl (neg^^(L2.valV kvs (.inr z)).isSome)) H):QZ P w K neg (IB i) (tC (.ref a)) σ H R:=⟨_,hσ,a,kvs,.inr z,rfl,hd,rfl,k⟩
theorem dixK {P:Program} {w:World} {K:K0} {σ:L2.St} {i:Nat} {a:Addr} {kvs:List (DX×V)} {z:Str} {v:V} {H:Hp} {R:VK} (hσ:σ[i]?=some (some (.str z))) (hd:QF P w K a kvs) (e:L2.valV kvs (.inr z)=some v) (k:R v H):tDIxK P w K (tC (.ref a)) (IB i) σ H R:=⟨_,hσ,a,kvs,.inr z,v,rfl,hd,rfl,e,k⟩
theorem ppw_iff (z:Str):z∈PPW↔HH z:=by
 unfold PPW HH
 simp only [L0,E1,or_false]
theorem gr_get (y:Str):L2.valV GRkv (.inr y)=if y="N" then some (.int 99) else if y="ROUNDS" then some (.int 9) else none:=by
 unfold L2.valV GRkv
 rw [j0]
 by_cases h1:y="N"
 ·subst h1
  rw [if_pos rfl]
  simp
 ·have e1:decide ((Sum.inr "N":DX)=Sum.inr y)=false:=decide_eq_false λq=>h1 (Sum.inr.inj q).symm
  rw [if_neg h1,e1,j0]
  by_cases h2:y="ROUNDS"
  ·subst h2
   rw [if_pos rfl]
   simp
  ·have e2:decide ((Sum.inr "ROUNDS":DX)=Sum.inr y)=false:=decide_eq_false λq=>h2 (Sum.inr.inj q).symm
   rw [if_neg h2,e2]
   rfl
theorem Nt (z:Str):L2.valV Oy (.inr z)=if BH z then some (.str (CF z)) else none:=by
 unfold L2.valV Oy
 rw [j0]
 by_cases h1:z="limit"
 ·subst h1
  rw [if_pos (.inr (.inr rfl)),show CF "limit"="late" by decide +kernel]
  simp
 ·have e1:decide ((Sum.inr "limit":DX)=Sum.inr z)=false:=decide_eq_false λq=>h1 (Sum.inr.inj q).symm
  rw [e1,j0]
  by_cases h2:z="try"
  ·subst h2
   rw [if_pos (.inl rfl),show CF "try"="but" by decide +kernel]
   simp
  ·have e2:decide ((Sum.inr "try":DX)=Sum.inr z)=false:=decide_eq_false λq=>h2 (Sum.inr.inj q).symm
   rw [e2,j0]
   by_cases h3:z="do"
   ·subst h3
    rw [if_pos (.inr (.inl rfl)),show CF "do"="last" by decide +kernel]
    simp
   ·have e3:decide ((Sum.inr "do":DX)=Sum.inr z)=false:=decide_eq_false λq=>h3 (Sum.inr.inj q).symm
    rw [e3,if_neg (λq=>q.elim h2 λq=>q.elim h3 h1)]
    rfl
theorem SF {z:Str} (h:Js z=true):intText? z=some ((u7 z.cps.toList:Nat):Int):=by
 unfold Js at h
 rw [Z1,Z1,decide_eq_true_eq,decide_eq_true_eq,Y2] at h
 refine PySem.intText_digits (λc hc=>?_) (λe=>?_) (Q0 h.1.2 (by decide))
 ·have:=h.2 c hc
  unfold QG at this
  rw [Z1,decide_eq_true_eq,decide_eq_true_eq] at this
  exact this
 ·have:=h.1.1
  rw [Ei,e] at this
  exact absurd this (by decide)
theorem cut1 (x:V) (r:List V):Ig (x::r) (some 1) none=r:=by
 unfold Ig
 have e1:HT.sIx (x::r).length 0 (some 1)=1:=(HT.sIx_nat _ _ 1).trans (by rw [J0];omega)
 have e2:HT.sIx (x::r).length (x::r).length none=(x::r).length:=rfl
 rw [e1,e2]
 show j6 (r.length+1-1) r=r
 rw [Nat.add_sub_cancel,C2]
theorem HP {α:Type} {f:α->Bool} {xs:List α} {i:Nat} {x:α} (h:xs[i]?=some x):(xs.take (i+1)).filter f=if f x=true then (xs.take i).filter f++[x] else (xs.take i).filter f:=by
 rw [C6,h,A4]
 show _++[x].filter f=_
 rw [Y1]
 split<;>simp
theorem Jt (y z:Str):Aw y z=.non\/flatB (Aw y z)=true:=by
 have hb:∀ lo hi,LI z lo hi=.non\/flatB (LI z lo hi)=true:=λlo hi=>by
  unfold LI
  split
  ·split
   ·exact .inr rfl
   ·exact .inl rfl
  ·exact .inl rfl
 unfold Aw
 split
 ·exact hb _ _
 split
 ·exact hb _ _
 split
 ·unfold EF
  split
  ·split
   ·exact .inr rfl
   ·exact .inl rfl
  ·split
   ·exact .inr rfl
   ·exact .inl rfl
 split
 ·split
  ·exact .inr rfl
  ·exact .inl rfl
 split
 ·exact .inr rfl
 ·exact .inl rfl
theorem LA {v:V} (h:flatB v=true):Dy v=true:=by
 cases v with
 |int _=>rfl
 |str _=>rfl
 |_=>cases h
theorem field_V (y z:Str):Dy (Aw y z)=true:=by
 rcases Jt y z with h | h
 ·rw [h];rfl
 ·exact LA h
theorem zip_V (slots ws:List Str):(M4 Aw slots ws).all Dy=true:=by
 rw [Y2]
 intro v hv
 obtain ⟨i,hi⟩:=D4 hv
 rw [Z6] at hi
 cases e1:slots[i]? with
 |none=>rw [e1] at hi;cases hi
 |some y =>
  cases e2:ws[i]? with
  |none=>rw [e1,e2] at hi;cases hi
  |some z=>rw [e1,e2] at hi;cases hi;exact field_V y z
theorem sp1:(" ":Str)=⟨#[32]⟩:=by decide +kernel
theorem nl1:("\n":Str)=⟨#[10]⟩:=by decide +kernel
theorem Sz:∀ f∈FORMS,f.length<=1000:=by decide +kernel
theorem sl_ok:∀ s∈SL,s.length<=1000/\∀ w∈s,w.length<=1000:=by decide +kernel
theorem Om {F:List (List Str)} {i:Nat} {f:List Str} {ws:List Str} (h:F[i]?=some f):Bz (F.drop i) ws=match Fo f ws with
  |some x=>some x
  |none=>Bz (F.drop (i+1)) ws:=by
 obtain ⟨lt,e⟩:=W0.mp h
 rw [T4 lt,e]
 rfl
theorem Cu.stN {T:Tx P w K mg} {n:Nat} {c:Kd} {H:Hp} {p:Addr} {g:Fl->Option V} (F:Cu T n c H p g) (l:Fl) (y:V) (hn:n<900:=by decide) (hc:l.kd=c:=by rfl):∃ dx fs,H p=some (.ins (T.C c) dx fs)/\Nl K (T.C c)/\Cv K (T.C c) l.name/\fs.length<1000/\∃ H2,H2=upd H p (.ins (T.C c) dx (Cq l.name y fs))/\DY p H H2/\Cu T (n+1) c H2 p (PV g l y)/\(g l≠none->Cu T n c H2 p (PV g l y)):=by
 obtain ⟨dx,fs,h1,h2,h3,h4⟩:=F.put l y
 exact ⟨dx,fs,h1,T.cl c,by rw [<- hc];exact T.na l,by omega,_,rfl,DY.upd,h3,h4⟩
theorem Cu.congr {T:Tx P w K mg} {n:Nat} {c:Kd} {H:Hp} {p:Addr} {g g':Fl->Option V} (F:Cu T n c H p g) (e:∀ l,g l=g' l):Cu T n c H p g':=by
 have:g=g':=funext e
 rw [<- this];exact F
theorem Cu.live {T:Tx P w K mg} {n:Nat} {c:Kd} {H:Hp} {p:Addr} {g:Fl->Option V} (F:Cu T n c H p g) {a:Addr} (h:H a=none):a≠p:=λe=>by
 obtain ⟨dx,fs,h1,_⟩:=F.ex
 rw [e,h1] at h
 cases h
theorem Cu.neL {T:Tx P w K mg} {n:Nat} {c:Kd} {H:Hp} {p:Addr} {g:Fl->Option V} (F:Cu T n c H p g) {a:Addr} {o:HO} (h:H a=some o) (hn:∀ C dx fs,o≠.ins C dx fs):a≠p:=λe=>by
 obtain ⟨dx,fs,h1,_⟩:=F.ex
 rw [e,h1] at h
 cases h
 exact hn _ _ _ rfl
theorem tw_iff (z:Str):z∈TWS↔Eb z:=by
 unfold TWS Eb
 simp only [L0,E1,or_false]
theorem inTW {K:K0} {G:Hp} {a:Addr} {z:Str} {R:VK} (h:BN K G a (TWS.map V.str)) (k:R (.bl (decide (Eb z))) G):rIn K false (.str z) (.ref a) G R:=by
 refine ⟨a,_,rfl,.inr h,rfl,EA TWS,?_⟩
 rw [if_neg N0,MP]
 have e:decide (z∈TWS)=decide (Eb z):=decide_eq_decide.mpr (tw_iff z)
 rw [e]
 exact k
theorem decP {z:Str}:decide (z∈PPW)=decide (HH z):=decide_eq_decide.mpr (ppw_iff z)
section
variable {T:Tx P w K mg} {H0 H H':Hp} {p pa ua:Addr} {pg:List Tr} {S:List Fq} {F F':Fq} {Bs Cs:List Ub} {b b':Ub} {c c':Nat} {st:St}
theorem RA.split (R:RA T H0 H p pa ua ⟨pg,S++[F]⟩ Bs c):∃ Cs b,Bs=Cs++[b]/\Cs.length=S.length:=by
 have hl:=R.len
 have hl':Bs.length=S.length+1:=by rw [hl];exact B0
 obtain ⟨Cs,b,rfl⟩:=Da (xs:=Bs) (by omega)
 rw [B0] at hl'
 exact ⟨Cs,b,rfl,by simpa using hl'⟩
theorem RA.top (R:RA T H0 H p pa ua ⟨pg,S++[F]⟩ (Cs++[b]) c) (h:Cs.length=S.length):Jy T H b F:=R.each S.length b F (by rw [<- h];exact Bt) Bt
theorem RA.ixTop {Q:VK} (R:RA T H0 H p pa ua st (Cs++[b]) c) (k:Q (.ref b.p) H):Ew K (.ref ua) (.int (-1)) H Q:=by
 refine ⟨ua,_,-1,.ref b.p,rfl,rfl,AH.of R.ul,?_,k⟩
 rw [A1]
 exact SV _ _
theorem GY (Cs:List Ub) (b:Ub):(Cs++[b]).flatMap Ub.own=Cs.flatMap Ub.own++b.own:=by simp
theorem OT {i:Nat} (h:Bs[i]?=some b) {a:Addr} (ha:a∈b.own):a∈Bs.flatMap Ub.own:=j2.mpr ⟨b,d0 h,ha⟩
theorem Jy.notT (U:Jy T H b F) {a:Addr} {ys:List V} (h:H a=some (.tup ys)):a∉b.own:=λha=>by
 obtain ⟨xs,x1,_⟩:=U.rs
 obtain ⟨zs,y1,_⟩:=U.os
 obtain ⟨dx,fs,h1,_⟩:=U.ob.ex
 simp only [Ub.own,L0,E1,or_false] at ha
 rcases ha with rfl | rfl | rfl
 ·rw [h] at h1;cases h1
 ·rw [h] at x1;cases x1
 ·rw [h] at y1;cases y1
theorem RA.mod (R:RA T H0 H p pa ua ⟨pg,S++[F]⟩ (Cs++[b]) c) (hl:Cs.length=S.length) (U:Jy T H' b' F') (e1:b'.p=b.p) (e2:b'.r=b.r) (e3:b'.o=b.o) (k:∀ a u,a∉b.own->H a=some u->H' a=some u) (hc:c<=c') (h1:F'.rs.length<=c') (h2:F'.os.length<=c'):RA T H0 H' p pa ua ⟨pg,S++[F']⟩ (Cs++[b']) c':=by
 have eo:b'.own=b.own:=by unfold Ub.own;rw [e1,e2,e3]
 have U0:=R.top hl
 have nd:=R.nd
 rw [GY] at nd
 have nin:∀ a∈p::pa::ua::Cs.flatMap Ub.own,a∉b.own:=λa ha hb=>by
  have:(p::pa::ua::Cs.flatMap Ub.own++b.own).Nodup:=nd
  exact (J3.mp this).2.2 a ha a hb rfl
 have sT:Bf H H':=λa ys h=>k a _ (U0.notT h) h
 obtain ⟨xs,x1,x2⟩:=R.pr
 have ob2:∀ {a u},a∈p::pa::ua::Cs.flatMap Ub.own->H a=some u->H' a=some u:=λha h=>k _ _ (nin _ ha) h
 refine ⟨λa u h=>?_,λa ha=>?_,R.ob.at' λo h=>ob2 C0 h,⟨xs,ob2 (A0 _ C0) x1,x2.sameT sT⟩,?_,?_,?_,?_,?_,?_⟩
 ·refine k a u (λhb=>?_) (R.out a u h)
  have:=R.new a (by rw [GY];exact A0 _ (A0 _ (A0 _ (V0 _ hb))))
  rw [this] at h;cases h
 ·rw [GY,eo,<- GY] at ha
  exact R.new a ha
 ·have:=ob2 (A0 _ (A0 _ C0)) R.ul
  rw [A1] at this |-
  show H' ua=some (.lst (Cs.map (λb=>V.ref b.p)++[.ref b'.p]))
  rw [e1]
  exact this
 ·rw [B0,hl]
  show S.length+1=(S++[F']).length
  rw [B0]
  rfl
 ·have:=R.le
  have e:(S++[F]).length=(S++[F']).length:=by rw [B0,B0];rfl
  show (S++[F']).length<=21
  rw [<- e];exact this
 ·intro i d G h1 h2
  rcases DS h1 with ⟨lt,h1⟩ | ⟨ei,ed⟩
  ·have lt2:i<S.length:=by omega
   have h2':S[i]?=some G:=by rw [<- h2];exact (X0 lt2).symm
   have UU:=R.each i d G (by rw [X0 lt];exact h1) (by rw [X0 lt2];exact h2')
   refine UU.sameT sT λa ha=>?_
   obtain ⟨u,hu⟩:=UU.there a ha
   rw [hu]
   exact ob2 (A0 _ (A0 _ (A0 _ (OT h1 ha)))) hu
  ·rw [ei,hl] at h2
   have:(S++[F'])[S.length]?=some F':=Bt
   rw [show (⟨pg,S++[F']⟩:St).un=S++[F'] from rfl,this] at h2
   cases h2
   rw [ed]
   exact U
 ·rw [GY,eo];exact nd
 ·refine ⟨Q0 R.ct.1 hc,λG hG=>?_⟩
  rcases T0.mp (show G∈S++[F'] from hG) with q | q
  ·have:=R.ct.2 G (T1 _ q)
   exact ⟨Q0 this.1 hc,Q0 this.2 hc⟩
  ·rw [M0.mp q];exact ⟨h1,h2⟩
theorem RA.pop (R:RA T H0 H p pa ua ⟨pg,S++[F]⟩ (Cs++[b]) c) (hl:Cs.length=S.length):RA T H0 (upd H ua (.lst (Cs.map λb=>V.ref b.p))) p pa ua ⟨pg,S⟩ Cs c/\Jy T (upd H ua (.lst (Cs.map λb=>V.ref b.p))) b F:=by
 have nd:=R.nd
 rw [GY] at nd
 have sT:Bf H (upd H ua (.lst (Cs.map λb=>V.ref b.p))):=BO R.ul
 have nua:∀ a∈Cs.flatMap Ub.own++b.own,a≠ua:=λa ha e=>by
  have n1:=(g0.mp (g0.mp (g0.mp nd).2).2).1
  exact n1 (e▸ha)
 have np:p≠ua:=λe=>(g0.mp nd).1 (by rw [e];exact A0 _ C0)
 have npa:pa≠ua:=λe=>(g0.mp (g0.mp nd).2).1 (by rw [e];exact C0)
 obtain ⟨xs,x1,x2⟩:=R.pr
 have hle:=R.le
 have hle':S.length+1<=21:=by
  have e:(S++[F]).length=S.length+1:=B0
  rw [<- e];exact hle
 refine ⟨⟨λa u h=>?_,λa ha=>R.new a ?_,R.ob.at' λo h=>by rw [Aq np];exact h,⟨xs,by rw [Aq npa];exact x1,x2.sameT sT⟩,Ac,hl,(show S.length<=21 by omega),λi d G h1 h2=>?_,?_,R.ct.1,λG hG=>R.ct.2 G (T1 _ hG)⟩,?_⟩
 ·rw [Aq (λe=>by rw [e,R.new ua (A0 _ (A0 _ C0))] at h;cases h)]
  exact R.out a u h
 ·rw [GY]
  rcases L0.mp ha with rfl | ha
  ·exact C0
  rcases L0.mp ha with rfl | ha
  ·exact A0 _ C0
  rcases L0.mp ha with rfl | ha
  ·exact A0 _ (A0 _ C0)
  ·exact A0 _ (A0 _ (A0 _ (T1 _ ha)))
 ·have lt:i<Cs.length:=(W0.mp h1).1
  have lt2:i<S.length:=by omega
  have UU:=R.each i d G (by rw [X0 lt];exact h1) (by rw [X0 lt2];exact h2)
  exact UU.sameT sT λa ha=>Aq (nua a (T1 _ (OT h1 ha)))
 ·have:(p::pa::ua::Cs.flatMap Ub.own++b.own).Nodup:=nd
  exact (J3.mp this).1
 ·exact (R.top hl).sameT sT λa ha=>Aq (nua a (V0 _ ha))
theorem RA.addP (R:RA T H0 H p pa ua ⟨pg,S⟩ Bs c) {xs:List V} {v:V} {t:Tr} (hx:H pa=some (.lst xs)) (hr:CU H xs pg) (hv:DZ H v t):RA T H0 (upd H pa (.lst (xs++[v]))) p pa ua ⟨pg++[t],S⟩ Bs (c+1):=by
 have nd:=R.nd
 have sT:Bf H (upd H pa (.lst (xs++[v]))):=BO hx
 have np:p≠pa:=λe=>(g0.mp nd).1 (by rw [e];exact C0)
 have n1:=(g0.mp (g0.mp nd).2).1
 have nu:ua≠pa:=λe=>n1 (by rw [<- e];exact C0)
 refine ⟨λa u h=>?_,R.new,R.ob.at' λo h=>by rw [Aq np];exact h,⟨_,Ac,(hr.sameT sT).snoc (hv.sameT sT)⟩,by rw [Aq nu];exact R.ul,R.len,R.le,λi d G h1 h2=>(R.each i d G h1 h2).sameT sT λa ha=>Aq (λe=>n1 (by rw [<- e];exact A0 _ (OT h1 ha))),nd,?_,λG hG=>?_⟩
 ·rw [Aq (λe=>by rw [e,R.new pa (A0 _ C0)] at h;cases h)]
  exact R.out a u h
 ·rw [B0]
  exact Z5 R.ct.1
 ·have:=R.ct.2 G hG
  exact ⟨E4 this.1,E4 this.2⟩
theorem RA.push (R:RA T H0 H p pa ua ⟨pg,S⟩ Bs c) (hl:S.length<=20) (s:Ag H H') (U:Jy T H' b F) (hn:∀ a∈b.own,H a=none) (hd:b.own.Nodup) (h1:F.rs.length<=c) (h2:F.os.length<=c):RA T H0 (upd H' ua (.lst (Bs.map (λb=>V.ref b.p)++[.ref b.p]))) p pa ua ⟨pg,S++[F]⟩ (Bs++[b]) c:=by
 have R2:=R.same s
 have nd:=R.nd
 have sT:Bf H' (upd H' ua (.lst (Bs.map (λb=>V.ref b.p)++[.ref b.p]))):=BO R2.ul
 have np:p≠ua:=λe=>(g0.mp nd).1 (by rw [e];exact A0 _ C0)
 have npa:pa≠ua:=λe=>(g0.mp (g0.mp nd).2).1 (by rw [e];exact C0)
 have n1:=(g0.mp (g0.mp (g0.mp nd).2).2).1
 have nb:∀ a∈b.own,∀ x∈p::pa::ua::Bs.flatMap Ub.own,x≠a:=λa ha x hx e=>by
  obtain ⟨u,hu,_⟩:=R.there x hx
  rw [e,hn a ha] at hu
  cases hu
 obtain ⟨xs,x1,x2⟩:=R2.pr
 refine ⟨λa u h=>?_,λa ha=>?_,R2.ob.at' λo h=>by rw [Aq np];exact h,⟨xs,by rw [Aq npa];exact x1,x2.sameT sT⟩,?_,?_,?_,λi d G h1 h2=>?_,?_,R.ct.1,λG hG=>?_⟩
 ·rw [Aq (λe=>by rw [e,R.new ua (A0 _ (A0 _ C0))] at h;cases h)]
  exact R2.out a u h
 ·rw [GY] at ha
  rcases T0.mp (show a∈(p::pa::ua::Bs.flatMap Ub.own)++b.own from ha) with q | q
  ·exact R.new a q
  ·exact R.out.free (hn a q)
 ·rw [Ac,A1]
  rfl
 ·rw [B0,R.len]
  show S.length+1=(S++[F]).length
  rw [B0]
  rfl
 ·show (S++[F]).length<=21
  rw [B0]
  show S.length+1<=21
  omega
 ·rcases DS h1 with ⟨lt,h1⟩ | ⟨ei,ed⟩
  ·have lt2:i<S.length:=by have:=R.len;rw [this] at lt;exact lt
   have UU:=R2.each i d G h1 (by rw [<- h2];exact (X0 lt2).symm)
   exact UU.sameT sT λa ha=>Aq (λe=>n1 (by rw [<- e];exact OT h1 ha))
  ·have hl2:Bs.length=S.length:=R.len
   rw [ei,hl2] at h2
   have:(S++[F])[S.length]?=some F:=Bt
   rw [show (⟨pg,S++[F]⟩:St).un=S++[F] from rfl,this] at h2
   cases h2
   rw [ed]
   exact U.sameT sT λa ha=>Aq (λe=>nb a ha ua (A0 _ (A0 _ C0)) e.symm)
 ·rw [GY]
  show ((p::pa::ua::Bs.flatMap Ub.own)++b.own).Nodup
  exact J3.mpr ⟨nd,hd,λx hx a ha=>nb a ha x hx⟩
 ·rcases T0.mp (show G∈S++[F] from hG) with q | q
  ·exact R.ct.2 G q
  ·rw [M0.mp q];exact ⟨h1,h2⟩
end
theorem MT:∀ {F:List (List Str)} {ws:List Str} {fs:List V},(∀ f∈F,f.length<=10)->Bz F ws=some fs->fs.length<=10/\∀ v∈fs,flatB v=true
 |[],_,_,_,h=>nomatch h
 |f::F,ws,fs,hF,h=>by
  have h':(match Fo f ws with | some x=>some x | none=>Bz F ws)=some fs:=h
  cases e:Fo f ws with
  |none =>
   rw [e] at h'
   exact MT (λg hg=>hF g (A0 _ hg)) h'
  |some x =>
   rw [e] at h'
   cases h'
   unfold Fo at e
   split at e
   ·split at e
    ·cases e
    ·rename_i hl hin
     cases e
     refine ⟨?_,λv hv=>?_⟩
     ·rw [List.length_zipWith]
      exact Q0 (Nat.min_le_left _ _) (hF f C0)
     ·obtain ⟨i,hi⟩:=D4 hv
      rw [Z6] at hi
      cases e1:f[i]? with
      |none=>rw [e1] at hi;cases hi
      |some y =>
       cases e2:ws[i]? with
       |none=>rw [e1,e2] at hi;cases hi
       |some z =>
        rw [e1,e2] at hi
        cases hi
        rcases Jt y z with q | q
        ·exfalso
         apply hin
         unfold DH
         rw [P7]
         exact ⟨_,hv,by rw [q];rfl⟩
        ·exact q
   ·cases e
theorem sl_len:∀ f∈SL,f.length<=10:=by decide +kernel
theorem PN {s s':St} {n:Int} {ws:List Str} (h:step s n ws=some s'):∃ fs z,Bz SL ws=some fs/\fs.head?=some (.str z)/\CA s z=true/\s'=HZ s z fs n/\Ta fs:=by
 unfold step at h
 cases e:Bz SL ws with
 |none=>rw [e] at h;cases h
 |some fs =>
  rw [e] at h
  have h2:(match fs.head? with | some (.str z)=>if CA s z=true then some (HZ s z fs n) else none | _=>none)=some s':=h
  cases fs with
  |nil=>cases h2
  |cons v r =>
   cases v with
   |str z =>
    have h3:(if CA s z=true then some (HZ s z (.str z::r) n) else none)=some s':=h2
    by_cases ha:CA s z=true
    ·rw [if_pos ha] at h3
     exact ⟨_,z,rfl,rfl,ha,(Z2.inj h3).symm,⟨z,r,rfl⟩,MT sl_len e⟩
    ·rw [if_neg ha] at h3;cases h3
   |_=>cases h2
theorem HM (sep:Str):∀ {l:List Str} {a:Str},a∈l->a.length<=(Str.join sep l).length
 |[b],a,h=>by rw [M0.mp h];exact P0 _
 |b::c::l,a,h=>by
  show a.length<=(b++sep++Str.join sep (c::l)).length
  rw [CQ,CQ]
  rcases L0.mp h with rfl | h
  ·omega
  ·have:=HM sep (l:=c::l) h
   omega
theorem KI {z a:Str} {c:Nat} (h:a∈Txt.split z ⟨#[c]⟩):a.length<=z.length:=by
 have:=HM ⟨#[c]⟩ h
 rw [StrLaws.join_split] at this
 exact this
def FZ (H:Hp) (xs:List Addr):Hp:=λa=>if a∈xs then none else H a
theorem Kq (H:Hp) (xs:List Addr):Ag (FZ H xs) H:=λa o h=>by
 unfold FZ at h
 by_cases e:a∈xs
 ·rw [if_pos e] at h;cases h
 ·rw [if_neg e] at h;exact h
theorem GV {H:Hp} {xs:List Addr} {a:Addr} {o:HO} (h:H a=some o) (n:a∉xs):FZ H xs a=some o:=by
 unfold FZ
 rw [if_neg n];exact h
theorem Kh {H G:Hp} {xs:List Addr} (s:Ag H G) (h:∀ a∈xs,H a=none):Ag H (FZ G xs):=λa o e=>GV (s a o e) λq=>by rw [h a q] at e;cases e
theorem Kr (H:Hp) {xs:List Addr} {a:Addr} (h:a∈xs):FZ H xs a=none:=if_pos h
theorem RA.first {T:Tx P w K mg} {H:Hp} {p pa ua:Addr} (ob:Cu T 2 .rdg H p (gR pa ua)) (h1:H pa=some (.lst [])) (h2:H ua=some (.lst [])) (n:pa≠ua):RA T (FZ H [p,pa,ua]) H p pa ua ⟨[],[]⟩ [] 0:=by
 refine ⟨Kq _ _,λa ha=>Kr _ ha,ob,⟨[],h1,CU.nil _⟩,h2,rfl,D2 _,(λ_ _ _ h=>nomatch h),?_,P0 _,(λ_ h=>nomatch h)⟩
 have n1:p≠pa:=λe=>ob.neL h1 (λ_ _ _ z=>nomatch z) e.symm
 have n2:p≠ua:=λe=>ob.neL h2 (λ_ _ _ z=>nomatch z) e.symm
 show [p,pa,ua].Nodup
 simp [n1,n2,n]
theorem GW {w:Str} (h1:1<=w.length) (h2:w.length<=10) (h:∀ c∈w.cps.toList,33<=c):CC w:=by
 refine ⟨λe=>?_,λm=>?_,λm=>?_,h2⟩
 ·rw [e] at h1
  exact absurd h1 (by decide +kernel)
 ·have:=h _ m;omega
 ·have:=h _ m;omega
theorem DJ {z:Str} (h:CM z):CC z:=GW h.lo (by have:=h.hi;omega) λc hc=>by have:=h.low c hc;omega
theorem Jp {n:Int} (h0:0<=n) (h1:n<=999999):CC (CI (.int n)):=by
 obtain ⟨m,rfl⟩:=A8 h0
 have hs:=P8 m
 show CC (Str.ofString (toString ((m:Nat):Int)))
 refine GW ?_ (Q0 (T5 h0 (k:=6) (by decide) (by omega)) (by decide)) λc hc=>?_
 ·rw [Ei,hs,D0]
  exact PySem.toDigits_len_ge 10 m
 ·rw [hs] at hc
  obtain ⟨ch,hch,e⟩:=j1.mp hc
  have r:=j7 (Z7 (by decide) (by decide) hch)
  omega
theorem JP.good {v:V} (h:JP v):CC (CI v):=by
 obtain ⟨z,rfl,h⟩:=h
 exact DJ h
theorem QC.good {lo hi:Int} {v:V} (h:QC lo hi v) (h0:0<=lo:=by decide) (h1:hi<=999999:=by decide):CC (CI v):=by
 obtain ⟨n,rfl,a,b⟩:=h
 exact Jp (by omega) (by omega)
theorem Ox.good {v:V} (h:Ox v):CC (CI v):=by
 rcases h with ⟨n,rfl,h0,h1⟩ | ⟨z,rfl,h | ⟨y,rfl,h1,h2,h3⟩⟩
 ·exact Jp h0 h1
 ·exact DJ h
 ·have ec:((":":Str)++y).cps.toList=58::y.cps.toList:=by
   rw [By,show (Str.ofString ":").cps.toList=[58] by decide +kernel];rfl
  have el:((":":Str)++y).length=y.length+1:=by rw [Ei,ec];rfl
  show CC ((":":Str)++y)
  refine GW (by omega) (by omega) λc hc=>?_
  rw [ec] at hc
  rcases L0.mp hc with rfl | hc
  ·decide
  ·have:=h3 c hc;omega
def gdB (z:Str):Bool:=decide (1<=z.length)&&decide (z.length<=10)&&z.cps.toList.all λc=>decide (33<=c)
theorem BW {z:Str} (h:gdB z=true):CC z:=by
 unfold gdB at h
 simp only [Z1,decide_eq_true_eq,Y2] at h
 exact GW h.1.1 h.1.2 h.2
def HI (x:List Str):Prop:=(∀ w∈x,CC w)/\x.length<=7
theorem Ks {a:Str} (h:CC a):HI [a]:=⟨λw hw=>by rw [M0.mp hw];exact h,(show 1<=7 by decide)⟩
theorem Ch {a:Str} {r:List Str} (h:CC a) (hr:∀ w∈r,CC w) (hl:r.length<=6):HI (a::r):=⟨λw hw=>by
 rcases L0.mp hw with rfl | hw
 ·exact h
 ·exact hr w hw,by rw [J0];omega⟩
theorem NY {a:V} (h:CC (CI a)):∀ w∈[a].map CI,CC w:=λw hw=>by rw [M0.mp hw];exact h
theorem map2 {a b:V} (h:CC (CI a)) (h':CC (CI b)):∀ w∈[a,b].map CI,CC w:=λw hw=>by
 rcases L0.mp hw with rfl | hw
 ·exact h
 ·exact NY h' w hw
theorem Sv {z:Str} {r:List V} (P:HS z r):HI (AS z r):=by
 have fp:=P.b.2
 by_cases hb:z="begin"
 ·cases fp with
  |wait _=>exact absurd hb (by decide +kernel)
  |one hz _=>rcases hz with rfl | rfl | rfl | rfl<;>exact absurd hb (by decide +kernel)
  |val hz _ _=>rcases hz with rfl | rfl<;>exact absurd hb (by decide +kernel)
  |two hz _ _=>rcases hz with rfl | rfl<;>exact absurd hb (by decide +kernel)
  |give _=>exact absurd hb (by decide +kernel)
  |begin ha hc hd hv =>
   obtain ⟨a,rfl,ha'⟩:=id ha
   obtain ⟨b,rfl,hb'⟩:=id hc
   obtain ⟨c,rfl,hc'⟩:=id hd
   obtain ⟨n,rfl,h0,h1⟩:=id hv
   unfold AS
   rw [if_pos rfl]
   show HI ([("begin":Str),a,b, "in",c]++(if n=0 then [] else [("within":Str),CI (.int n)]))
   have g1:∀ w∈([("begin":Str),a,b, "in",c]:List Str),CC w:=λw hw=>by
    simp only [L0,E1,or_false] at hw
    rcases hw with rfl | rfl | rfl | rfl | rfl
    ·exact BW (by decide +kernel)
    ·exact DJ ha'
    ·exact DJ hb'
    ·exact BW (by decide +kernel)
    ·exact DJ hc'
   by_cases hn:n=0
   ·rw [if_pos hn]
    exact ⟨λw hw=>g1 w (by simpa using hw),(show 5<=7 by decide)⟩
   ·rw [if_neg hn]
    refine ⟨λw hw=>?_,(show 7<=7 by decide)⟩
    rcases T0.mp hw with q | q
    ·exact g1 w q
    ·simp only [L0,E1,or_false] at q
     rcases q with rfl | rfl
     ·exact BW (by decide +kernel)
     ·exact Jp h0 (by omega)
 ·rw [Hf P hb]
  cases fp with
  |wait h=>exact Ch (BW (by decide +kernel)) (NY h.good) (by show 1<=6;decide)
  |one hz h =>
   refine Ch ?_ (NY h.good) (by show 1<=6;decide)
   rcases hz with rfl | rfl | rfl | rfl<;>exact BW (by decide +kernel)
  |val hz h h2 =>
   refine Ch ?_ (map2 h.good h2.good) (by show 2<=6;decide)
   rcases hz with rfl | rfl<;>exact BW (by decide +kernel)
  |two hz h h2 =>
   refine Ch ?_ (map2 h.good h2.good) (by show 2<=6;decide)
   rcases hz with rfl | rfl<;>exact BW (by decide +kernel)
  |begin _ _ _ _=>exact absurd rfl hb
  |give h=>exact Ch (BW (by decide +kernel)) (NY h.good) (by show 1<=6;decide)
theorem Sw {z:Str} {th:List V} {fa:V} (B:Gc z th fa):HI (z::th.map CI):=by
 cases B with
 |name hz h =>
  refine Ch ?_ (NY h.good) (by show 1<=6;decide)
  rcases hz with rfl | rfl<;>exact BW (by decide +kernel)
 |limit h=>exact Ch (BW (by decide +kernel)) (NY h.good) (by show 1<=6;decide)
 |bare hz =>
  refine Ks ?_
  rcases hz with rfl | rfl<;>exact BW (by decide +kernel)
 |try_ _=>exact Ks (BW (by decide +kernel))
 |when h h2=>exact Ch (BW (by decide +kernel)) (map2 h.good h2.good) (by show 2<=6;decide)
 |rep h=>exact Ch (BW (by decide +kernel)) (NY h.good) (by show 1<=6;decide)
theorem GP {f:V->List Ln} {tn en:List Ln}:∀ {r:List V} {w:Bool} {x:Ln},x∈BK f tn en w r->x∈tn\/x∈en\/∃ p∈r,BM p=true/\x∈f p
 |[],w,x,h=>by
  cases w with
  |false=>cases h
  |true=>exact .inr (.inl h)
 |y::r,w,x,h=>by
  cases e:BM y with
  |false =>
   rw [Cy e] at h
   rcases GP h with q | q | ⟨p,hp,q⟩
   ·exact .inl q
   ·exact .inr (.inl q)
   ·exact .inr (.inr ⟨p,A0 _ hp,q⟩)
  |true =>
   cases y with
   |ref a =>
    rw [BQ] at h
    rcases T0.mp h with q | q
    ·cases w with
     |false=>cases q
     |true=>exact .inl q
    ·rcases T0.mp q with q | q
     ·exact .inr (.inr ⟨_,C0,rfl,q⟩)
     ·rcases GP q with q | q | ⟨p,hp,q⟩
      ·exact .inl q
      ·exact .inr (.inl q)
      ·exact .inr (.inr ⟨p,A0 _ hp,q⟩)
   |_=>cases e
theorem Su {m:Nat} {H:Hp} {y:V} (hy:AF (m+1) H y) {f:V->Nat->List Ln} (d:Nat) (hf:∀ p,AN m H p->∀ x∈f p (d+1),HI x.2):∀ x∈AM f H y d,HI x.2:=by
 obtain ⟨a,z,r,rfl,e2,e3,e4,e5⟩:=id hy
 obtain ⟨ln,r',rfl,P | ⟨th,fa,bs,B⟩⟩:=e3
 ·have eZ:=Ck e2
  have nr:∀ t∈r',BM t=false:=λt ht=>(P.tv t ht).notR
  intro x hx
  unfold AM AT at hx
  rw [eZ] at hx
  rcases L0.mp hx with rfl | hx
  ·exact Sv P
  ·have:=FG (f:=λp=>f p (d+1)) (tn:=(AO H (.ref a)).map λws=>(d,ws)) (en:=([(d,["end"])]:List Ln)) (w:=false) (r:=[]) nr
   rw [o0] at this
   have hx':x∈BK (λp=>f p (d+1)) ((AO H (.ref a)).map λws=>(d,ws)) ([(d,["end"])]:List Ln) false r':=hx
   rw [this] at hx'
   cases hx'
 ·have eZ:=Ck e2
  intro x hx
  have hx0:=hx
  unfold AM AT at hx
  rw [eZ] at hx
  rcases L0.mp hx with rfl | hx
  ·show HI (AS z r')
   by_cases hz:z="try"
   ·subst hz
    unfold AS
    rw [if_neg (by decide +kernel),if_pos rfl]
    exact Ks (BW (by decide +kernel))
   ·rw [CV B hz];exact Sw B.fv.2
  ·rcases GP hx with q | q | ⟨p,hp,hr,q⟩
   ·obtain ⟨ws,hws,rfl⟩:=j1.mp q
    show HI ws
    unfold AO at hws
    rw [eZ] at hws
    by_cases h1:z="try"
    ·subst h1
     rw [if_pos rfl] at hws
     obtain rfl:=E2.mp (B.tl.trans (show Cj "try"=0 by decide +kernel))
     obtain ⟨b0,b1,rfl⟩:=Gz (B.two (.inl rfl))
     have er:r'=[.ref b0,fa,.ref b1]:=by rw [B.e,if_pos rfl];rfl
     have fb:=B.fv.2
     obtain ⟨fz,hfa,hfz⟩:∃ fz,fa=.str fz/\(CM fz\/fz="any"):=by
      generalize hq:Str.ofString "try"=q at fb
      generalize ([]:List V)=th at fb
      cases fb with
      |name hz _=>rw [<- hq] at hz;exact absurd hz (by decide +kernel)
      |limit _=>exact absurd hq (by decide +kernel)
      |bare hz=>rw [<- hq] at hz;exact absurd hz (by decide +kernel)
      |try_ h=>exact ⟨_,rfl,h⟩
      |when _ _=>exact absurd hq (by decide +kernel)
      |rep _=>exact absurd hq (by decide +kernel)
     rw [er,hfa] at hws
     rw [M0.mp hws]
     refine Ch (BW (by decide +kernel)) (λw hw=>?_) (by show 1<=6;decide)
     rw [M0.mp hw]
     show CC fz
     rcases hfz with h | rfl
     ·exact DJ h
     ·exact BW (by decide +kernel)
    ·rw [if_neg h1] at hws
     by_cases h2:z="do"
     ·rw [if_pos h2] at hws
      rw [M0.mp hws]
      exact Ks (BW (by decide +kernel))
     ·rw [if_neg h2] at hws
      split at hws
      ·cases hws
      ·rw [M0.mp hws]
       exact Ks (BW (by decide +kernel))
   ·rw [M0.mp q]
    exact Ks (BW (by decide +kernel))
   ·exact hf p (hy.part_ok p (by rw [eZ];exact hp) hr) x q
theorem GA (H:Hp):∀ (m:Nat) (v:V) (d:Nat),AN m H v->∀ x∈Ah (m+1) H v d,HI x.2
 |0,v,d,hv,x,hx=>by
  obtain ⟨b,ys,rfl,e,hy⟩:=hv
  rw [Bi,Az e] at hx
  obtain ⟨y,hym,_⟩:=j2.mp hx
  exact (hy y hym).elim
 |m+1,v,d,hv,x,hx=>by
  obtain ⟨b,ys,rfl,e,hy⟩:=hv
  rw [Bi,Az e] at hx
  obtain ⟨y,hym,hx⟩:=j2.mp hx
  exact Su (hy y hym) d (λp hp x hx=>GA H m p (d+1) hp x hx) x hx
def JD (n:Nat) (z:Str):Prop:=z.cps.toList=Y0 n 32
theorem FH {L:Str}:∀ {n:Nat} {z:Str},JD n z->Bv (L++z)=Bv L/\(1<=n->KD (L++z))
 |0,z,h=>by
  have e:z="":=El (by rw [show z.cps.toList=[] from h];decide +kernel)
  rw [e,Fu]
  exact ⟨rfl,λq=>absurd q (by decide)⟩
 |n+1,z,h=>by
  have e:z=(⟨(Y0 n 32).toArray⟩:Str)++⟨#[32]⟩:=El (by
   rw [By,show z.cps.toList=Y0 (n+1) 32 from h,List.replicate_succ'])
  have ea:L++z=(L++(⟨(Y0 n 32).toArray⟩:Str))++⟨#[32]⟩:=by
   rw [e]
   exact El (by simp only [By,X1])
  rw [ea,Gy]
  exact ⟨(FH (n:=n) (z:=⟨(Y0 n 32).toArray⟩) rfl).1,λ_=>.inr ⟨_,rfl⟩⟩
theorem JD.nl {n:Nat} {z:Str} (h:JD n z):(10:Nat)∉z.cps.toList:=λm=>by
 rw [show z.cps.toList=Y0 n 32 from h] at m
 exact absurd (M5 m) (by decide)
theorem JD.len {n:Nat} {z:Str} (h:JD n z):z.length=n:=by rw [Ei,show z.cps.toList=Y0 n 32 from h,S4]
theorem JD.line {n:Nat} {z:Str} (h:JD n z):Bv z=[]:=by
 have:=(FH (L:="") h).1
 rw [Fg,Fi] at this
 exact this
theorem Ik (n:Nat) {m:Nat} {z:Str} (h:JD m z):JD (n*m) (Ho n z):=by
 show (Ho n z).cps.toList=_
 unfold Ho
 have:∀ (k:Nat) (a:Array Nat),((Y0 k z.cps).foldl (·++·) a).toList=a.toList++Y0 (k*m) 32:=by
  intro k
  induction k with
  |zero=>intro a;simp
  |succ k ih =>
   intro a
   rw [Y4,V7,ih,u5,show z.cps.toList=Y0 m 32 from h,X1,List.replicate_append_replicate]
   congr 2
   rw [x5];omega
 rw [this]
 rfl
def LV:Sp:=λvs H Q _=>∃ (a b:Addr) (ws:List Str) (ns:List Int),vs=[.ref a,.ref b]/\H a=some (.lst (ws.map V.str))/\ws≠[]/\HI ws/\H b=some (.lst (ns.map V.int))/\ns.length=6/\(∀ n∈ns,0<=n/\n<2147483647)/\∀ (z:Str) (H':Hp),Bv z=ws->(10:Nat)∉z.cps.toList->z.length<=100->Ag H H'->Q (.str z) H'
structure TxtAt (H:Hp) (la pa:Addr) (L:List Str) (X:List Ln) (ps:List Int):Prop where
 hl:H la=some (.lst (L.map V.str))
 hp:H pa=some (.lst (ps.map V.int))
 sp:Ih 1 L X ps
 ok:∀ l∈L,(10:Nat)∉l.cps.toList/\l.length<=100
 le:L.length<=3*X.length
def Rh:Sp:=λvs H Q _=>∃ (p:Addr) (es:List V) (x:Int),vs=[.ref p,.int x]/\H p=some (.tup es)/\(∀ e∈es,Di 22 100 H e)/\es.length<=64/\∀ (q la pa:Addr) (L:List Str) (ps:List Int) (H':Hp),H' q=some (.tup [.ref la,.ref pa])->TxtAt H' la pa L (Ah 24 H (.ref p) 0) ps->Ag H H'->Q (.ref q) H'
theorem Qu {K:K0} {sp:Sp} {E:XK} {σ:L2.St} {G:Hp} {R:It->Hp->Prop} {v u:V} (hσ:σ[0]?=some (some v)) (k:sp [v,u] G (λx H1=>∃ a:Addr,x=.ref a/\(∃ xs,AH K H1 a xs)/\R (Ite K a) H1) E):Pj K (JS (OG sp [] E (JS (IB 0) (JS (tC u) Nx))) Nx) σ G R:=by
 simp only [Pj,JS,OG,IB,tC,Nx,o0,hσ,A5,exists_eq_left',M6.injEq,and_true]
 exact k
theorem LR {L:List Str} {c:Nat} (h:∀ l∈L,l.length<=c):(L.map (·.length)).sum<=L.length*c:=by
 induction L with
 |nil=>exact D2 _
 |cons a r ih =>
  have h1:=h a C0
  have h2:=ih λl hl=>h l (A0 _ hl)
  rw [S1,V3,J0,x5]
  omega
theorem DK (z:Str) (L:List Str):Txt.join z L=Str.join z L:=by
 show Builtin.Str.glued _ _=_
 rw [StrLaws.glued_eq_join]
theorem Nv {H G:Hp} {p la pa:Addr} {es:List V} {L:List Str} {ps:List Int} (hp:H p=some (.tup es)) (he:∀ e∈es,Di 22 100 H e) (hl:es.length<=64) (hne:es≠[]) (X:TxtAt G la pa L (Ah 24 H (.ref p) 0) ps) {c:Nat} (hc:c<=2) :
  L≠[]/\(L++Y0 c ("":Str))≠[]/\(∀ l∈L++Y0 c ("":Str),(10:Nat)∉l.cps.toList/\l.length<=500)/\(L++Y0 c ("":Str)).length<=90000/\(Str.join ⟨#[10]⟩ (L++Y0 c ("":Str))).length<=10000000/\readL 1 (L++Y0 c ("":Str)) ⟨[],[]⟩=some ⟨Ic (Bm (λk=>ps.getD k 0) 24 H (.ref p) 0),[]⟩/\Ic (Bm (λk=>ps.getD k 0) 24 H (.ref p) 0)≠[]/\ps.length=(Ah 24 H (.ref p) 0).length/\(Ah 24 H (.ref p) 0).length<=20000:=by
 obtain ⟨rok,rlen⟩:=Io hp he hl
 have hpl:=X.sp.len
 have le:=X.le
 have kne:Ic (Bm (λk=>ps.getD k 0) 24 H (.ref p) 0)≠[]:=by
  rw [BE,Az hp]
  show Cd _ _ _ es≠[]
  cases es with
  |nil=>exact absurd rfl hne
  |cons a r=>exact λz=>nomatch z
 have Lne:L≠[]:=λe=>by
  have x0:(Ah 24 H (.ref p) 0).length=0:=by
   have h1:=X.sp
   rw [e] at h1
   generalize Ah 24 H (.ref p) 0=Y at h1
   cases h1
   rfl
  rw [Bi,Az hp] at x0
  cases es with
  |nil=>exact absurd rfl hne
  |cons a r =>
   rw [N1,B0] at x0
   unfold AM at x0
   rw [J0] at x0
   omega
 refine ⟨Lne,λz=>Lne (N4.mp z).1,λl hm=>?_,?_,?_,?_,kne,hpl,rlen⟩
 ·rcases T0.mp hm with q | q
  ·exact ⟨(X.ok l q).1,Q0 (X.ok l q).2 (by decide)⟩
  ·rw [M5 q]
   exact ⟨by decide +kernel,by decide +kernel⟩
 ·rw [B0,S4];omega
 ·have h1:=Iv ⟨#[10]⟩ (L++Y0 c ("":Str))
  rw [DK] at h1
  have h2:((L++Y0 c ("":Str)).map (·.length)).sum<=(L++Y0 c ("":Str)).length*100:=LR λl hm=>by
   rcases T0.mp hm with q | q
   ·exact (X.ok l q).2
   ·rw [M5 q];decide +kernel
  have h3:(L++Y0 c ("":Str)).length<=60002:=by rw [B0,S4];omega
  have h4:(⟨#[10]⟩:Str).length=1:=rfl
  rw [h4,U8] at h1
  omega
 ·have q1:=X.sp.app (Ih.blanks Fi c (1+L.length)) rfl
  rw [o0,o0] at q1
  rw [q1.read (pf:=λk=>ps.getD k 0) 0 ⟨[],[]⟩ λj p hj=>by rw [D8,K3,hj];rfl]
  exact Ml hp he
def Cf (R:V->V->Prop):List V->List V->Prop
 |[],[]=>True
 |x::r,x'::r'=>((BM x=false/\x'=x)\/(BM x=true/\BM x'=true/\R x x'))/\Cf R r r'
 |_,_=>False
theorem Cf.mono {R R':V->V->Prop}:∀ {r r':List V},Cf R r r'->(∀ x∈r,BM x=true->∀ x',R x x'->R' x x')->Cf R' r r'
 |[],[],_,_=>trivial
 |[],_::_,h,_=>h.elim
 |_::_,[],h,_=>h.elim
 |x::r,x'::r',h,f=>by
  obtain ⟨h1,h2⟩:=h
  refine ⟨?_,h2.mono λy hy=>f y (A0 _ hy)⟩
  rcases h1 with q | ⟨q1,q2,q3⟩
  ·exact .inl q
  ·exact .inr ⟨q1,q2,f x C0 q1 x' q3⟩
theorem Cf.flat {R:V->V->Prop}:∀ {th s r':List V},(∀ t∈th,BM t=false)->Cf R (th++s) r'->∃ s',r'=th++s'/\Cf R s s'
 |[],s,r',_,h=>⟨r',rfl,h⟩
 |x::th,s,[],_,h=>h.elim
 |x::th,s,x'::r',ht,h=>by
  obtain ⟨h1,h2⟩:=h
  obtain ⟨s',rfl,h3⟩:=Cf.flat (λt m=>ht t (A0 _ m)) h2
  rcases h1 with ⟨_,e⟩ | ⟨q,_⟩
  ·exact ⟨s',by rw [e];rfl,h3⟩
  ·rw [ht x C0] at q;cases q
theorem Cf.refs {R:V->V->Prop}:∀ {bs:List Addr} {r':List V},Cf R (bs.map V.ref) r'->∃ cs:List Addr,r'=cs.map V.ref/\cs.length=bs.length
 |[],[],_=>⟨[],rfl,rfl⟩
 |[],_::_,h=>h.elim
 |_::_,[],h=>h.elim
 |b::bs,x'::r',h=>by
  obtain ⟨h1,h2⟩:=h
  obtain ⟨cs,rfl,hl⟩:=Cf.refs h2
  rcases h1 with ⟨q,_⟩ | ⟨_,q,_⟩
  ·cases q
  ·cases x' with
   |ref c=>exact ⟨c::cs,rfl,by rw [J0,J0,hl]⟩
   |_=>cases q
theorem Cf.same {R:V->V->Prop} {r r':List V} (h:Cf R r r') (n:∀ t∈r,BM t=false):r'=r:=by
 have h':Cf R (r++[]) r':=by rw [o0];exact h
 obtain ⟨s',e,h2⟩:=Cf.flat n h'
 cases s' with
 |nil=>rw [e,o0]
 |cons _ _=>exact h2.elim
theorem Cf.lns {R:V->V->Prop} {f f':V->List Ln} {tn en:List Ln} (hf:∀ x x',R x x'->f x=f' x'):∀ {r r':List V} {w:Bool},Cf R r r'->BK f' tn en w r'=BK f tn en w r
 |[],[],_,_=>rfl
 |[],_::_,_,h=>h.elim
 |_::_,[],_,h=>h.elim
 |x::r,x'::r',w,h=>by
  obtain ⟨h1,h2⟩:=h
  rcases h1 with ⟨q,rfl⟩ | ⟨q1,q2,q3⟩
  ·rw [Cy q,Cy q,Cf.lns hf h2]
  ·cases x with
   |ref a =>
    cases x' with
    |ref a'=>rw [BQ,BQ,hf _ _ q3,Cf.lns hf h2]
    |_=>cases q2
   |_=>cases q1
theorem Cf.fld {R:V->V->Prop} {num num':V->Nat->Tr} {len len':V->Nat} {tn:Nat} (hf:∀ x x',R x x'->(∀ k,num' x' k=num x k)/\len' x'=len x):∀ {r r':List V} {w:Bool} {c:Nat},Cf R r r'->Ct num' len' tn w c r'=Ct num len tn w c r
 |[],[],_,_,_=>rfl
 |[],_::_,_,_,h=>h.elim
 |_::_,[],_,_,h=>h.elim
 |x::r,x'::r',w,c,h=>by
  obtain ⟨h1,h2⟩:=h
  rcases h1 with ⟨q,rfl⟩ | ⟨q1,q2,q3⟩
  ·show (if BM x' then _ else JE x'::Ct num' len' tn w c r')=(if BM x' then _ else JE x'::Ct num len tn w c r)
   rw [if_neg (by rw [q];exact N0),if_neg (by rw [q];exact N0),Cf.fld hf h2]
  ·show (if BM x' then _ else _)=(if BM x then _ else _)
   rw [if_pos q1,if_pos q2,(hf _ _ q3).1,(hf _ _ q3).2,Cf.fld hf h2]
theorem Cf.noR {R:V->V->Prop}:∀ {r r':List V},Cf R r r'->r'.filter (λv=>!BM v)=r.filter (λv=>!BM v)
 |[],[],_=>rfl
 |[],_::_,h=>h.elim
 |_::_,[],h=>h.elim
 |x::r,x'::r',h=>by
  obtain ⟨h1,h2⟩:=h
  rw [Y1,Y1,Cf.noR h2]
  rcases h1 with ⟨q,rfl⟩ | ⟨q1,q2,_⟩
  ·rfl
  ·rw [if_neg (by rw [q2];exact N0),if_neg (by rw [q1];exact N0)]
theorem Cf.at {R:V->V->Prop}:∀ {r r':List V} (i:Nat),Cf R r r'->(r'.getD i .non=r.getD i .non/\BM (r.getD i .non)=false)\/(BM (r.getD i .non)=true/\BM (r'.getD i .non)=true/\R (r.getD i .non) (r'.getD i .non))
 |[],[],_,_=>.inl ⟨rfl,rfl⟩
 |[],_::_,_,h=>h.elim
 |_::_,[],_,h=>h.elim
 |x::r,x'::r',0,h=>by
  rcases h.1 with ⟨q,e⟩ | q
  ·exact .inl ⟨e,q⟩
  ·exact .inr q
 |x::r,x'::r',i+1,h=>Cf.at i h.2
theorem Oj {H':Hp} {num:V->Nat->Tr} {len:V->Nat} {tn:Nat} (ht:∀ x k,∃ ts,num x k=.t ts):∀ {r r':List V} {w:Bool} {c:Nat},(∀ x∈r,BM x=false->flatB x=true)->r'.length=(Ct num len tn w c r).length->(∀ (i:Nat) (x:V) (t:Tr),r'[i]?=some x->(Ct num len tn w c r)[i]?=some t->DZ H' x t)->Cf (λx x'=>∃ k,DZ H' x' (num x k)) r r'
 |[],[],_,_,_,_,_=>trivial
 |[],_::_,_,_,_,h,_=>nomatch h
 |x::r,r',w,c,hx,h,hr=>by
  cases e:BM x with
  |true =>
   have ef:Ct num len tn w c (x::r)=num x (if w then c+tn else c)::Ct num len tn true ((if w then c+tn else c)+len x) r:=by
    show (if BM x then _ else _)=_
    rw [if_pos e]
   rw [ef] at h hr
   cases r' with
   |nil=>cases h
   |cons x' r' =>
    have h0:=hr 0 x' _ rfl rfl
    obtain ⟨ts,et⟩:=ht x (if w then c+tn else c)
    refine ⟨.inr ⟨e,?_,_,h0⟩,Oj ht (λy hy=>hx y (A0 _ hy)) (E5.inj h) λi y t a b=>hr (i+1) y t a b⟩
    rw [et] at h0
    cases h0
    rfl
  |false =>
   have ef:Ct num len tn w c (x::r)=JE x::Ct num len tn w c r:=by
    show (if BM x then _ else _)=_
    rw [if_neg (by rw [e];exact N0)]
   rw [ef] at h hr
   cases r' with
   |nil=>cases h
   |cons x' r' =>
    have h0:=hr 0 x' _ rfl rfl
    refine ⟨.inl ⟨e,?_⟩,Oj ht (λy hy=>hx y (A0 _ hy)) (E5.inj h) λi y t a b=>hr (i+1) y t a b⟩
    have hf:=hx x C0 e
    cases x with
    |int n=>cases h0;rfl
    |str z=>cases h0;rfl
    |_=>cases hf
theorem TV.flatB {v:V} (h:TV v):K15.flatB v=true:=by
 rcases h with ⟨n,rfl,_⟩ | ⟨z,rfl,_⟩<;>rfl
def Nj (pf:Nat->Int) (H H':Hp) (m:Nat) (v v':V):Prop:=AN m H' v'/\(∀ d,Ah (m+1) H' v' d=Ah (m+1) H v d)/\(∀ (qf:Nat->Int) j,Bm qf (m+1) H' v' j=Bm qf (m+1) H v j)/\(Bc H' v').length=(Bc H v).length
def IsoR (pf:Nat->Int) (H H':Hp) (m:Nat) (y y':V):Prop:=AF m H' y'/\(∀ d,AM (Ah m H') H' y' d=AM (Ah m H) H y d)/\∀ (qf:Nat->Int) j,CG qf (Bm qf m H') (λp=>(Ah m H' p 0).length) H' y' j=CG qf (Bm qf m H) (λp=>(Ah m H p 0).length) H y j
theorem Pf {pf:Nat->Int} {H H':Hp} {n:Nat} (ih:∀ v v' k,AN n H v->DZ H' v' (Bm pf (n+1) H v k)->Nj pf H H' n v v') {y y':V} {k:Nat} (hy:AF (n+1) H y) (hr:DZ H' y' (CG pf (Bm pf (n+1) H) (λp=>(Ah (n+1) H p 0).length) H y k)):IsoR pf H H' (n+1) y y':=by
 obtain ⟨a,z,r,rfl,e2,e3,e4,e5⟩:=id hy
 obtain ⟨ln,r1,rfl,hS⟩:=e3
 have eZ:=Ck e2
 have each:∀ x∈r1,BM x=false->flatB x=true:=λx hx hf=>by
  obtain ⟨a2,z2,ln2,r2,I⟩:=hy.ri
  have ez:(z2,r2)=(z,r1):=I.zr.symm.trans eZ
  have:x∈r2:=by rw [show r2=r1 from congrArg Prod.snd ez];exact hx
  rcases I.each x this with ⟨q,_⟩ | q
  ·rw [hf] at q;cases q
  ·exact q.flatB
 unfold CG at hr
 rw [eZ] at hr
 cases hr with
 |t ha hl hx =>
  rename_i a' xs
  cases xs with
  |nil=>cases hl
  |cons v0 xs =>
   cases xs with
   |nil=>cases hl
   |cons v1 r' =>
    have h0:=hx 0 v0 _ rfl rfl
    have h1:=hx 1 v1 _ rfl rfl
    cases h0
    cases h1
    have F0:=Oj (H':=H') (num:=Bm pf (n+1) H) (len:=λp=>(Ah (n+1) H p 0).length) (tn:=(AO H (.ref a)).length) (w:=false) (c:=k+1) (λx k=>⟨_,rfl⟩) each (E5.inj (E5.inj hl)) λi x t a b=>hx (i+2) x t a b
    have F:Cf (Nj pf H H' n) r1 r':=F0.mono λx hxm hxr x' hq=>by
     obtain ⟨kk,hq⟩:=hq
     exact ih x x' kk (hy.part_ok x (by rw [eZ];exact hxm) hxr) hq
    have eZ':=Ck ha
    have hsh:Jz z (.int (pf k)::r')/\(AL z≠[]->(V.int (pf k)::r').length+1=CB z/\Dp z n)/\∀ p∈CL (.str z::.int (pf k)::r'),∃ (b:Addr) (ys:List V),p=.ref b/\H' b=some (.tup ys)/\∀ y∈ys,AF n H' y:=by
     rcases hS with P | ⟨th,fa,bs,B⟩
     ·have er:r'=r1:=F.same λt ht=>(P.tv t ht).notR
      rw [er]
      exact ⟨⟨_,_,rfl,.inl P⟩,λh=>absurd P.p h,λp hp=>by rw [BF,P.p] at hp;cases hp⟩
     ·have tv:∀ t∈th,BM t=false:=λt ht=>(B.tv t ht).notR
      have FB:=F
      rw [B.e] at FB
      obtain ⟨s',rfl,F2⟩:=Cf.flat tv FB
      obtain ⟨cs,hcl,ecs⟩:∃ cs:List Addr,cs.length=bs.length/\s'=(if z="try" then Nu cs fa else cs.map V.ref):=by
       by_cases hz:z="try"
       ·rw [if_pos hz] at F2
        obtain ⟨b0,b1,rfl⟩:=Gz (B.two (.inl hz))
        obtain ⟨fz,hfa,_⟩:=B.fv.1 hz
        have F3:Cf (Nj pf H H' n) [.ref b0,fa,.ref b1] s':=F2
        cases s' with
        |nil=>exact F3.elim
        |cons x0 s' =>
         cases s' with
         |nil=>exact F3.2.elim
         |cons x1 s' =>
          cases s' with
          |nil=>exact F3.2.2.elim
          |cons x2 s' =>
           cases s' with
           |cons _ _=>exact F3.2.2.2.elim
           |nil =>
            obtain ⟨c0,rfl⟩:∃ c0,x0=.ref c0:=by
             rcases F3.1 with ⟨q,_⟩ | ⟨_,q,_⟩
             ·cases q
             ·cases x0 with
              |ref c=>exact ⟨c,rfl⟩
              |_=>cases q
            obtain ⟨c1,rfl⟩:∃ c0,x2=.ref c0:=by
             rcases F3.2.2.1 with ⟨q,_⟩ | ⟨_,q,_⟩
             ·cases q
             ·cases x2 with
              |ref c=>exact ⟨c,rfl⟩
              |_=>cases q
            obtain rfl:x1=fa:=by
             rcases F3.2.1 with ⟨_,q⟩ | ⟨q,_⟩
             ·exact q
             ·rw [hfa] at q;cases q
            exact ⟨[c0,c1],rfl,by rw [if_pos hz];rfl⟩
       ·rw [if_neg hz] at F2
        obtain ⟨cs,e,hl⟩:=F2.refs
        exact ⟨cs,hl,by rw [if_neg hz];exact e⟩
      have B2:EV z (th++s') th fa cs:=⟨B.w,by rw [ecs],B.tv,B.sv,B.tl,B.fv,λh=>by rw [hcl];exact B.two h,λh=>by rw [hcl];exact B.one h⟩
      have pl:AL z≠[]:=by rcases B.w with rfl | rfl | rfl | rfl | rfl | rfl | rfl | rfl<;>decide +kernel
      refine ⟨⟨_,_,rfl,.inr ⟨th,fa,cs,B2⟩⟩,λ_=>⟨(CT (i:=pf k) B2).2,(e4 pl).2⟩,λp hp=>?_⟩
      rw [(CT (i:=pf k) B2).1] at hp
      have hpr:p∈th++s'/\BM p=true:=by
       have:=DI B2
       rw [<- this] at hp
       exact W4.mp hp
      obtain ⟨i,hi⟩:=D4 hpr.1
      rcases Cf.at i F with ⟨q1,q2⟩ | ⟨_,_,q3⟩
      ·rw [K3,hi] at q1
       rw [<- q1] at q2
       have:BM p=false:=q2
       rw [hpr.2] at this;cases this
      ·rw [K3 (l:=th++s'),hi] at q3
       exact q3.1
    have hw:AS z r'=AS z r1:=by
     rcases hS with P | ⟨th,fa,bs,B⟩
     ·rw [F.same λt ht=>(P.tv t ht).notR]
     ·have nb:z≠"begin":=λe=>absurd B.w (by rw [e];decide +kernel)
      unfold AS
      rw [if_neg nb,if_neg nb,F.noR]
    have htn:AO H' (.ref a')=AO H (.ref a):=by
     unfold AO
     rw [eZ',eZ]
     have x1:CI (r'.getD 1 .non)=CI (r1.getD 1 .non):=by
      rcases Cf.at 1 F with ⟨q,_⟩ | ⟨q1,q2,_⟩
      ·rw [q]
      ·generalize r'.getD 1 .non=u at q2
       generalize r1.getD 1 .non=u2 at q1
       cases u with
       |ref _=>cases u2 with
        |ref _=>rfl
        |_=>cases q1
       |_=>cases q2
     have x2:(Bc H' (r'.getD 2 .non)=[])=(Bc H (r1.getD 2 .non)=[]):=by
      rcases Cf.at 2 F with ⟨q,q0⟩ | ⟨_,_,q3⟩
      ·rw [q,Hb q0,Hb q0]
      ·have:=q3.2.2.2
       apply propext
       constructor
       ·intro h;rw [h] at this;exact T2 this.symm
       ·intro h;rw [h] at this;exact T2 this
     simp only [x1,x2]
    refine ⟨⟨a',z,_,rfl,ha,hsh⟩,λd=>?_,λqf j=>?_⟩
    ·unfold AM AT
     rw [htn,eZ,eZ']
     congr 1
     ·show (d,AS z r')=(d,AS z r1)
      rw [hw]
     ·exact Cf.lns (λx x' h=>(h.2.1 (d+1)).symm) F
    ·unfold CG
     rw [htn,eZ,eZ']
     congr 3
     exact Cf.fld (λx x' h=>⟨h.2.2.1 qf,by rw [h.2.1 0]⟩) F
theorem Jb {pf:Nat->Int} {H H':Hp} {m:Nat} (hrow:∀ y y' k,AF m H y->DZ H' y' (CG pf (Bm pf m H) (λp=>(Ah m H p 0).length) H y k)->IsoR pf H H' m y y'):∀ {ys xs:List V} {k:Nat},(∀ y∈ys,AF m H y)->xs.length=(Cd (CG pf (Bm pf m H) (λp=>(Ah m H p 0).length) H) (λy=>(AM (Ah m H) H y 0).length) k ys).length ->
  (∀ (i:Nat) (x:V) (t:Tr),xs[i]?=some x->(Cd (CG pf (Bm pf m H) (λp=>(Ah m H p 0).length) H) (λy=>(AM (Ah m H) H y 0).length) k ys)[i]?=some t->DZ H' x t) ->
  (∀ x∈xs,AF m H' x)/\xs.length=ys.length/\(∀ d,xs.flatMap (λy=>AM (Ah m H') H' y d)=ys.flatMap λy=>AM (Ah m H) H y d)/\∀ (qf:Nat->Int) j,Cd (CG qf (Bm qf m H') (λp=>(Ah m H' p 0).length) H') (λy=>(AM (Ah m H') H' y 0).length) j xs=Cd (CG qf (Bm qf m H) (λp=>(Ah m H p 0).length) H) (λy=>(AM (Ah m H) H y 0).length) j ys
 |[],[],_,_,_,_=>⟨(λ_ h=>nomatch h),rfl,λ_=>rfl,λ_ _=>rfl⟩
 |[],_::_,_,_,h,_=>nomatch h
 |_::_,[],_,_,h,_=>nomatch h
 |y::ys,x::xs,k,hy,hl,hr=>by
  have R:=hrow y x k (hy y C0) (hr 0 x _ rfl rfl)
  obtain ⟨a1,a2,a3,a4⟩:=Jb hrow (ys:=ys) (xs:=xs) (k:=k+(AM (Ah m H) H y 0).length) (λz hz=>hy z (A0 _ hz)) (E5.inj hl) λi z t h1 h2=>hr (i+1) z t h1 h2
  refine ⟨λz hz=>?_,by rw [J0,J0,a2],λd=>?_,λqf j=>?_⟩
  ·rcases L0.mp hz with rfl | hz
   ·exact R.1
   ·exact a1 z hz
  ·rw [N1,N1,R.2.1,a3]
  ·show CG qf _ _ H' x j::Cd _ _ (j+(AM (Ah m H') H' x 0).length) xs=CG qf _ _ H y j::Cd _ _ (j+(AM (Ah m H) H y 0).length) ys
   rw [R.2.2,R.2.1,a4]
theorem iso (pf:Nat->Int) (H H':Hp):∀ (m:Nat) (v v':V) (k:Nat),AN m H v->DZ H' v' (Bm pf (m+1) H v k)->Nj pf H H' m v v':=by
 intro m
 induction m with
 |zero =>
  intro v v' k hv hr
  obtain ⟨b,ys,rfl,e,hy⟩:=hv
  rw [BE,Az e] at hr
  cases hr with
  |t ha hl hx =>
   rename_i a' xs
   obtain ⟨a1,a2,a3,a4⟩:=Jb (m:=0) (λy y' k h _=>(show False from h).elim) hy hl hx
   exact ⟨⟨a',xs,rfl,ha,a1⟩,λd=>by rw [Bi,Bi,Az ha,Az e,a3],λqf j=>by rw [BE,BE,Az ha,Az e,a4],by rw [Az ha,Az e,a2]⟩
 |succ n ih =>
  intro v v' k hv hr
  obtain ⟨b,ys,rfl,e,hy⟩:=hv
  rw [BE,Az e] at hr
  cases hr with
  |t ha hl hx =>
   rename_i a' xs
   obtain ⟨a1,a2,a3,a4⟩:=Jb (λy y' k h q=>Pf ih h q) hy hl hx
   exact ⟨⟨a',xs,rfl,ha,a1⟩,λd=>by rw [Bi,Bi,Az ha,Az e,a3],λqf j=>by rw [BE,BE,Az ha,Az e,a4],by rw [Az ha,Az e,a2]⟩
def sf (k:Nat):Int:=((k+1:Nat):Int)
def Et (C:Addr) (n:Nat):Sp:=λvs H Q _=>∃ (p L:Addr) (ts:List Str) (v:V) (d:Nat),vs=[.ref p,v,.int d]/\QB C H p L ts/\AN n H v/\d+n<=30/\ts.length+(Ah (n+1) H v d).length<=60000 /\
 ∀ (v':V) (H':Hp),DY L H H'->H' L=some (.lst ((ts++(Ah (n+1) H v d).map AZ).map V.str))->EQ (2*n+2) H' v' (Bm sf (n+1) H v ts.length)->Q v' H'
def LY (C:Addr) (m:Nat):Sp:=λvs H Q _=>∃ (p L:Addr) (ts:List Str) (v:V) (d:Nat),vs=[.ref p,v,.int d]/\QB C H p L ts/\AF (m+1) H v/\d+m+1<=30/\ts.length+(AM (Ah (m+1) H) H v d).length<=60000 /\
 ∀ (v':V) (H':Hp),DY L H H'->H' L=some (.lst ((ts++(AM (Ah (m+1) H) H v d).map AZ).map V.str))->EQ (2*m+3) H' v' (CG sf (Bm sf (m+1) H) (λp=>(Ah (m+1) H p 0).length) H v ts.length)->Q v' H'
def PU (C:Addr):Nat->Sp
 |0=>Rk
 |m+1=>LY C m
def Hh (C:Addr):Sp:=λvs H Q _=>∃ v:V,vs=[v]/\AN 23 H v/\(Ah 24 H v 0).length<=20000/\∀ H':Hp,Ag H H'->Q (.str (Gd (Ah 24 H v 0))) H'
def Gm:Sp:=λvs H Q _=>∃ v:V,vs=[v]/\AN 23 H v/\(Ah 24 H v 0).length<=20000/\∀ (v':V) (H':Hp),Ag H H'->EQ 48 H' v' (Bm sf 24 H v 0)->Q v' H'
def KO:Sp:=λvs H Q _=>∃ (v:V) (n:Nat),vs=[v]/\AF n H v/\n<=22/\∀ (p:Addr) (H':Hp),H p=none->H' p=some (.tup (Bn H v))->Ag H H'->Q (.ref p) H'
def KK (n:Nat):Sp:=λvs H Q _=>∃ v:V,vs=[v]/\n<=22/\AN n H v/\(Bq (n+1) H v).length<=100000/\∀ (l:Addr) (H':Hp),H l=none->H' l=some (.lst (Bq (n+1) H v))->Ag H H'->Q (.ref l) H'
def spDown:Nat->Sp
 |0=>Rk
 |n+1=>KK n
def lnV (H:Hp):V->V
 |.ref a=>match H a with
  |some (.tup (_::l::_))=>l
  |_=>.non
 |_=>.non
theorem Od {H:Hp} {a:Addr} {x l:V} {r:List V} (h:H a=some (.tup (x::l::r))):lnV H (.ref a)=l:=by
 show (match H a with | some (.tup (_::l::_))=>l | _=>.non)=_
 rw [h]
def MM (H:Hp) (v:V):Prop:=∃ (a:Addr) (r:List V),v=.ref a/\H a=some (.tup (.str "errand"::r))
def LW:Sp:=λvs H Q _=>∃ (p:Addr) (es:List V) (ns:List Int),vs=[.ref p]/\H p=some (.tup es)/\(∀ e∈es,AF 23 H e/\MM H e)/\(es.flatMap (Bp 23 H)).map (lnV H)=ns.map V.int/\ns.Pairwise (· < ·)/\ns.length<=63/\∀ H':Hp,Ag H H'->Q (.bl true) H'
theorem words_ne {m:Nat} {H:Hp} {v:V} {a:Addr} {z:Str} {ln:Int} {r:List V} (I:RI m H v a z ln r):AS z r≠[]:=by
 by_cases hb:z="begin"
 ·rcases I.sh with P | ⟨th,fa,bs,B⟩
  ·obtain ⟨x,y,w,l,rfl,_⟩:=P.b.1 hb
   have e:AS z [.str x,.str y,.str w,.int l]=[("begin":Str),x,y, "in",w]++(if l=0 then [] else [("within":Str),CI (.int l)]):=by
    unfold AS
    rw [if_pos hb]
   rw [e]
   exact λq=>nomatch q
  ·exact absurd B.w (by rw [hb];decide +kernel)
 ·unfold AS
  rw [if_neg hb]
  by_cases ht:z="try"
  ·rw [if_pos ht];exact λq=>nomatch q
  ·rw [if_neg ht];exact λq=>nomatch q
theorem turn_ne {H:Hp} {v:V} {t:List Str} (ht:t∈AO H v):t≠[]:=by
 unfold AO at ht
 split at ht
 ·rw [M0.mp ht];exact λq=>nomatch q
 ·split at ht
  ·rw [M0.mp ht];exact λq=>nomatch q
  ·split at ht
   ·cases ht
   ·rw [M0.mp ht];exact λq=>nomatch q
theorem MC (H:Hp):∀ (m:Nat) (v:V) (d:Nat),AN m H v->∀ x∈Ah (m+1) H v d,x.2≠[]
 |0,v,d,hv,x,hx=>by
  obtain ⟨b,ys,rfl,e,hy⟩:=hv
  rw [Bi,Az e] at hx
  obtain ⟨y,hym,_⟩:=j2.mp hx
  exact (hy y hym).elim
 |m+1,v,d,hv,x,hx=>by
  obtain ⟨b,ys,rfl,e,hy⟩:=hv
  rw [Bi,Az e] at hx
  obtain ⟨y,hym,hx⟩:=j2.mp hx
  have hr:=hy y hym
  obtain ⟨a,z,ln,r,I⟩:=hr.ri
  unfold AM AT at hx
  rw [I.zr] at hx
  rcases L0.mp hx with rfl | hx
  ·exact words_ne I
  ·rcases GP hx with q | q | ⟨p,hp,hr',q⟩
   ·obtain ⟨ws,hws,rfl⟩:=j1.mp q
    exact turn_ne hws
   ·rw [M0.mp q];exact λq=>nomatch q
   ·exact MC H m p (d+1) (hr.part_ok p (by rw [I.zr];exact hp) hr') x q
theorem ML (s:Nat) {c:Nat}:∀ {l:List Str},c∈(Str.join ⟨#[s]⟩ l).cps.toList->c=s\/∃ a∈l,c∈a.cps.toList
 |[],h=>by
  have h':c∈([]:List Nat):=h
  cases h'
 |[a],h=>.inr ⟨a,M0.mpr rfl,h⟩
 |a::b::l,h=>by
  have h':c∈(a++⟨#[s]⟩++Str.join ⟨#[s]⟩ (b::l)).cps.toList:=h
  rw [By,By] at h'
  rcases T0.mp h' with q | q
  ·rcases T0.mp q with q | q
   ·exact .inr ⟨a,C0,q⟩
   ·exact .inl (M0.mp q)
  ·rcases ML s q with q | ⟨x,hx,q⟩
   ·exact .inl q
   ·exact .inr ⟨x,A0 _ hx,q⟩
theorem Jl {x:Ln} (h:HI x.2) (hn:x.2≠[]):Bv (AZ x)=x.2/\(10:Nat)∉(AZ x).cps.toList:=by
 have bl:JD (x.1*2) (Ho x.1 "  "):=Ik x.1 (m:=2) (by show (Str.ofString "  ").cps.toList=[32,32];decide +kernel)
 have e2:Bv (Str.join ⟨#[32]⟩ x.2)=x.2:=by
  unfold Bv
  rw [EG hn λa ha=>(h.1 a ha).nb]
  exact K5.mpr λa ha=>by simpa using (h.1 a ha).ne
 have e3:AZ x=Ho x.1 "  "++Str.join ⟨#[32]⟩ x.2:=by
  unfold AZ
  rw [DK,show (Str.ofString " ")=⟨#[32]⟩ by decide +kernel]
 rw [e3]
 refine ⟨?_,λm=>?_⟩
 ·have o:KD (Ho x.1 "  "):=by
   have:=(FH (L:="") bl).2
   rw [Fg] at this
   cases e:x.1 with
   |zero=>exact .inl (by decide +kernel)
   |succ n =>
    rw [e] at this
    exact this (by omega)
  have b0:=bl.line
  rcases o with o | ⟨M,o⟩
  ·rw [o,Fg,e2]
  ·rw [o] at b0 |-
   rw [Jk,e2,<- Gy M,b0];rfl
 ·rw [By] at m
  rcases T0.mp m with m | m
  ·exact bl.nl m
  ·rcases ML 32 m with q | ⟨a,ha,q⟩
   ·exact absurd q (by decide)
   ·exact (h.1 a ha).nl q
theorem Pe:Str.join "" []=("":Str):=by decide +kernel
theorem Nw (x:Ln) (ls:List Ln):Gd (x::ls)=AZ x++⟨#[10]⟩++Gd ls:=by
 unfold Gd
 rw [S1,DK,DK,nl1]
 cases ls with
 |nil =>
  show AZ x++⟨#[10]⟩=AZ x++⟨#[10]⟩++Str.join "" []
  rw [Pe,Fu]
 |cons y r =>
  show AZ x++⟨#[10]⟩++("":Str)++Str.join "" _=_
  rw [Fu]
theorem DM:∀ ls:List Ln,Gd ls=Str.join ⟨#[10]⟩ (ls.map AZ++[("":Str)])
 |[]=>by
  unfold Gd
  rw [DK]
  exact Pe
 |x::r=>by
  rw [Nw,DM r]
  exact (Jm 10 (l:=[AZ x]) (m:=r.map AZ++[("":Str)]) (λz=>nomatch z) (by simp)).symm
def OW:Nat->Nat->List Int
 |_,0=>[]
 |i,n+1=>(i:Int)::OW (i+1) n
theorem Mx:∀ {n i j:Nat} {p:Int},(OW i n)[j]?=some p->p=((i+j:Nat):Int)
 |0,_,_,_,h=>nomatch h
 |n+1,i,0,p,h=>by
  have h':some (i:Int)=some p:=h
  cases h'
  rfl
 |n+1,i,j+1,p,h=>by
  have h':(OW (i+1) n)[j]?=some p:=h
  have:=Mx h'
  omega
theorem JW:∀ (ls:List Ln) (i:Nat),(∀ x∈ls,HI x.2/\x.2≠[])->Ih i (ls.map AZ++[("":Str)]) ls (OW i ls.length)
 |[],_,_=>.blank Fi .nil
 |x::r,i,h=>.line (Jl (h x C0).1 (h x C0).2).1 (h x C0).2 (JW r (i+1) λy hy=>h y (A0 _ hy))
theorem QI {H:Hp} {p:Addr} {es:List V} (hp:H p=some (.tup es)) (he:∀ e∈es,Di 22 100 H e) (hl:es.length<=64) (hne:es≠[]) :
  ((Ah 24 H (.ref p) 0).map AZ++[("":Str)])≠[]/\(∀ l∈(Ah 24 H (.ref p) 0).map AZ++[("":Str)],(10:Nat)∉l.cps.toList/\l.length<=500)/\((Ah 24 H (.ref p) 0).map AZ++[("":Str)]).length<=90000/\(Str.join ⟨#[10]⟩ ((Ah 24 H (.ref p) 0).map AZ++[("":Str)])).length<=10000000/\readL 1 ((Ah 24 H (.ref p) 0).map AZ++[("":Str)]) ⟨[],[]⟩=some ⟨Ic (Bm sf 24 H (.ref p) 0),[]⟩/\Ic (Bm sf 24 H (.ref p) 0)≠[]:=by
 obtain ⟨rok,rlen⟩:=Io hp he hl
 have g1:=GA H 23 (.ref p) 0 rok
 have g2:=MC H 23 (.ref p) 0 rok
 have g3:=Pc rok (show 0+23<=30 by decide)
 refine ⟨by simp,λl hm=>?_,?_,?_,?_,?_⟩
 ·rcases T0.mp hm with q | q
  ·obtain ⟨x,hx,rfl⟩:=j1.mp q
   exact ⟨(Jl (g1 x hx) (g2 x hx)).2,Q0 (g3 x hx) (by decide)⟩
  ·rw [M0.mp q]
   exact ⟨by decide +kernel,by decide +kernel⟩
 ·rw [B0,D0]
  show _+1<=90000
  omega
 ·rw [<- DM]
  have t:(Gd (Ah 24 H (.ref p) 0)).length<=(Ah 24 H (.ref p) 0).length*488:=QR g3
  omega
 ·rw [(JW _ 1 λx hx=>⟨g1 x hx,g2 x hx⟩).read (pf:=sf) 0 ⟨[],[]⟩ λj q hj=>by
   have:=Mx hj
   show ((0+j+1:Nat):Int)=q
   omega]
  exact Ml hp he
 ·rw [BE,Az hp]
  show Cd _ _ _ es≠[]
  cases es with
  |nil=>exact absurd rfl hne
  |cons a r=>exact λz=>nomatch z
theorem Ih.rise {i:Nat} {L:List Str} {X:List Ln} {ps:List Int} (h:Ih i L X ps):ps.Pairwise (· < ·)/\∀ p∈ps,(i:Int)<=p:=by
 induction h with
 |nil=>exact ⟨.nil,(λ_ h=>nomatch h)⟩
 |blank _ _ ih=>exact ⟨ih.1,λp hp=>by have:=ih.2 p hp;omega⟩
 |line _ _ _ ih =>
  refine ⟨.cons (λp hp=>by have:=ih.2 p hp;omega) ih.1,λp hp=>?_⟩
  rcases L0.mp hp with rfl | hp
  ·exact Int.le_refl _
  ·have:=ih.2 p hp
   omega
theorem Qr {ps:List Int} (h:ps.Pairwise (· < ·)) {i j:Nat} (hij:i<j) (hj:j<ps.length):ps.getD i 0<ps.getD j 0:=by
 have:=i7.mp h i j (by omega) hj hij
 rw [K3,K3,u0 hj,u0 (show i<ps.length by omega)]
 exact this
def Ni (pf:Nat->Int) (H':Hp) (ws:List V) (lo hi n:Nat):Prop:=∃ js:List Nat,ws.map (lnV H')=js.map (λj=>V.int (pf j))/\js.Pairwise (· < ·)/\(∀ j∈js,lo<=j/\j<hi)/\js.length=n
theorem Ni.nil {pf:Nat->Int} {H':Hp} {lo hi:Nat}:Ni pf H' [] lo hi 0:=⟨[],rfl,.nil,(λ_ h=>nomatch h),rfl⟩
theorem Ni.app {pf:Nat->Int} {H':Hp} {ws us:List V} {lo a b hi n m:Nat} (x:Ni pf H' ws lo a n) (y:Ni pf H' us b hi m) (h1:a<=b) (h2:lo<=b) (h3:a<=hi):Ni pf H' (ws++us) lo hi (n+m):=by
 obtain ⟨js,e1,e2,e3,e4⟩:=x
 obtain ⟨ks,f1,f2,f3,f4⟩:=y
 refine ⟨js++ks,by rw [A1,A1,e1,f1],List.pairwise_append.mpr ⟨e2,f2,λi hi j hj=>?_⟩,λj hj=>?_,by rw [B0,e4,f4]⟩
 ·have:=e3 i hi
  have:=f3 j hj
  omega
 ·rcases T0.mp hj with q | q
  ·have:=e3 j q
   omega
  ·have:=f3 j q
   omega
theorem IQ {pf:Nat->Int} {H':Hp} {num:V->Nat->Tr} {len:V->Nat} {tn:Nat} {W W':V->List V} {f:V->List Ln} {tl el:List Ln} (htl:tl.length=tn) (hfl:∀ x,(f x).length=len x) (ht:∀ x k,∃ ts,num x k=.t ts) :
  ∀ {r r':List V} {w:Bool} {c:Nat},(∀ x∈r,BM x=false->flatB x=true)->(∀ x∈r,BM x=true->∀ x' k,DZ H' x' (num x k)->Ni pf H' (W' x') k (k+len x) (W x).length)->r'.length=(Ct num len tn w c r).length->(∀ (i:Nat) (x:V) (t:Tr),r'[i]?=some x->(Ct num len tn w c r)[i]?=some t->DZ H' x t) ->
  Ni pf H' ((r'.filter BM).flatMap W') c (c+(BK f tl el w r).length) ((r.filter BM).flatMap W).length
 |[],[],_,_,_,_,_,_=>Ni.nil
 |[],_::_,_,_,_,_,h,_=>nomatch h
 |x::r,r',w,c,hx,hW,h,hr=>by
  cases e:BM x with
  |true =>
   have ef:Ct num len tn w c (x::r)=num x (if w then c+tn else c)::Ct num len tn true ((if w then c+tn else c)+len x) r:=by
    show (if BM x then _ else _)=_
    rw [if_pos e]
   rw [ef] at h hr
   cases r' with
   |nil=>cases h
   |cons x' r' =>
    have h0:=hr 0 x' _ rfl rfl
    have ex:BM x'=true:=by
     obtain ⟨ts,et⟩:=ht x (if w then c+tn else c)
     rw [et] at h0
     cases h0
     rfl
    have a1:=hW x C0 e x' _ h0
    have a2:=IQ (el:=el) htl hfl ht (λy hy=>hx y (A0 _ hy)) (λy hy=>hW y (A0 _ hy)) (E5.inj h) λi y t a b=>hr (i+1) y t a b
    have el0:(BK f tl el w (x::r)).length=(if w then tn else 0)+(len x+(BK f tl el true r).length):=by
     cases x with
     |ref a =>
      rw [BQ,B0,B0,hfl]
      cases w
      ·rfl
      ·rw [if_pos rfl,if_pos rfl,htl]
     |_=>cases e
    rw [Y1,if_pos ex,Y1,if_pos e,N1,N1,B0]
    have a3:=a1.app a2 (P0 _) (T3 _ _) (T3 _ _)
    obtain ⟨js,e1,e2,e3,e4⟩:=a3
    refine ⟨js,e1,e2,λj hj=>?_,e4⟩
    have:=e3 j hj
    rw [el0]
    cases w
    ·rw [if_neg (by decide)] at this |-
     omega
    ·rw [if_pos rfl] at this |-
     omega
  |false =>
   have ef:Ct num len tn w c (x::r)=JE x::Ct num len tn w c r:=by
    show (if BM x then _ else _)=_
    rw [if_neg (by rw [e];exact N0)]
   rw [ef] at h hr
   cases r' with
   |nil=>cases h
   |cons x' r' =>
    have h0:=hr 0 x' _ rfl rfl
    have ex:BM x'=false:=by
     have hf:=hx x C0 e
     cases x with
     |int n=>cases h0;rfl
     |str z=>cases h0;rfl
     |_=>cases hf
    rw [Cy e,Y1,if_neg (by rw [ex];exact N0),Y1,if_neg (by rw [e];exact N0)]
    exact IQ htl hfl ht (λy hy=>hx y (A0 _ hy)) (λy hy=>hW y (A0 _ hy)) (E5.inj h) λi y t a b=>hr (i+1) y t a b
theorem Hn {pf:Nat->Int} {H':Hp} {f:V->Nat->Tr} {len:V->Nat} {R R':V->List V}:∀ {ys xs:List V} {k:Nat},(∀ y∈ys,∀ x k,DZ H' x (f y k)->Ni pf H' (R' x) k (k+len y) (R y).length)->xs.length=(Cd f len k ys).length->(∀ (i:Nat) (x:V) (t:Tr),xs[i]?=some x->(Cd f len k ys)[i]?=some t->DZ H' x t) ->
  Ni pf H' (xs.flatMap R') k (k+(ys.map len).sum) (ys.flatMap R).length
 |[],[],_,_,_,_=>Ni.nil
 |[],_::_,_,_,h,_=>nomatch h
 |_::_,[],_,_,h,_=>nomatch h
 |y::ys,x::xs,k,hy,hl,hr=>by
  have a1:=hy y C0 x k (hr 0 x _ rfl rfl)
  have a2:=Hn (ys:=ys) (xs:=xs) (k:=k+len y) (λz hz=>hy z (A0 _ hz)) (E5.inj hl) λi z t h1 h2=>hr (i+1) z t h1 h2
  rw [N1,N1,B0,S1,V3,<- E6]
  exact a1.app a2 (P0 _) (T3 _ _) (T3 _ _)
theorem Ru {pf:Nat->Int} {H H':Hp} {n:Nat} (ih:∀ v v' k,AN n H v->DZ H' v' (Bm pf (n+1) H v k)->Ni pf H' (Bq (n+1) H' v') k (k+(Ah (n+1) H v 0).length) (Bq (n+1) H v).length) {y y':V} {k:Nat} (hy:AF (n+1) H y) (hr:DZ H' y' (CG pf (Bm pf (n+1) H) (λp=>(Ah (n+1) H p 0).length) H y k)) :
  Ni pf H' (Bp (n+1) H' y') k (k+(AM (Ah (n+1) H) H y 0).length) (Bp (n+1) H y).length:=by
 have hy':=(Pf (iso pf H H' n) hy hr).1
 obtain ⟨a,z,ln,r,I⟩:=hy.ri
 unfold CG at hr
 rw [I.zr] at hr
 unfold Bp AM
 rw [hy.parts_eq,hy'.parts_eq,I.zr]
 show Ni pf H' (y'::(((CK H' y').2.filter BM).flatMap (Bq (n+1) H'))) k (k+((0,AT H y)::BK (λp=>Ah (n+1) H p (0+1)) ((AO H y).map λws=>(0,ws)) [(0,["end"])] false r).length) (y::((r.filter BM).flatMap (Bq (n+1) H))).length
 cases hr with
 |t ha hl hx =>
  rename_i a' xs
  cases xs with
  |nil=>cases hl
  |cons v0 xs =>
   cases xs with
   |nil=>cases hl
   |cons v1 r' =>
    have h0:=hx 0 v0 _ rfl rfl
    have h1:=hx 1 v1 _ rfl rfl
    cases h0
    cases h1
    rw [Ck ha]
    have each:∀ x∈r,BM x=false->flatB x=true:=λx hx hf=>by
     rcases I.each x hx with ⟨q,_⟩ | q
     ·rw [hf] at q;cases q
     ·exact q.flatB
    have a2:=IQ (pf:=pf) (H':=H') (num:=Bm pf (n+1) H) (len:=λp=>(Ah (n+1) H p 0).length) (tn:=(AO H y).length) (W:=Bq (n+1) H) (W':=Bq (n+1) H') (f:=λp=>Ah (n+1) H p (0+1)) (tl:=(AO H y).map λws=>(0,ws)) (el:=[(0,["end"])]) (w:=false) (c:=k+1) (r:=r) (r':=r') (by rw [D0]) (λx=>EN _ _ _ _ _) (λx k=>⟨_,rfl⟩) each (λx hx hxr x' kk hq=>ih x x' kk (hy.part_ok x (by rw [I.zr];exact hx) hxr) hq) (E5.inj (E5.inj hl)) λi x t a b=>hx (i+2) x t a b
    have a1:Ni pf H' [.ref a'] k (k+1) 1:=⟨[k],by rw [S1,Od ha];rfl,List.pairwise_singleton _ _,λj hj=>by rw [M0.mp hj];omega,rfl⟩
    have a3:=a1.app a2 (P0 _) (T3 _ _) (T3 _ _)
    obtain ⟨js,e1,e2,e3,e4⟩:=a3
    refine ⟨js,e1,e2,λj hj=>?_,?_⟩
    ·have:=e3 j hj
     rw [J0]
     omega
    ·rw [e4,J0,Nat.add_comm]
theorem rise (pf:Nat->Int) (H H':Hp):∀ (m:Nat) (v v':V) (k:Nat),AN m H v->DZ H' v' (Bm pf (m+1) H v k)->Ni pf H' (Bq (m+1) H' v') k (k+(Ah (m+1) H v 0).length) (Bq (m+1) H v).length:=by
 intro m
 induction m with
 |zero =>
  intro v v' k hv hr
  obtain ⟨b,ys,rfl,e,hy⟩:=hv
  rw [BE,Az e] at hr
  rw [Bi,Az e,Bd e,J5]
  cases hr with
  |t ha hl hx =>
   rename_i a' xs
   rw [Bd ha]
   exact Hn (λy hym=>(show False from hy y hym).elim) hl hx
 |succ n ih =>
  intro v v' k hv hr
  obtain ⟨b,ys,rfl,e,hy⟩:=hv
  rw [BE,Az e] at hr
  rw [Bi,Az e,Bd e,J5]
  cases hr with
  |t ha hl hx =>
   rename_i a' xs
   rw [Bd ha]
   exact Hn (R:=Bp (n+1) H) (R':=Bp (n+1) H') (λy hym x k hq=>Ru ih (hy y hym) hq) hl hx
theorem MV {pf:Nat->Int} {H H':Hp} {num:V->Nat->Tr} {ln len:V->Nat}:∀ {ys xs:List V} {k:Nat},(∀ y∈ys,(CK H y).1="errand")->xs.length=(Cd (CG pf num ln H) len k ys).length->(∀ (i:Nat) (x:V) (t:Tr),xs[i]?=some x->(Cd (CG pf num ln H) len k ys)[i]?=some t->DZ H' x t)->∀ x∈xs,MM H' x
 |[],[],_,_,_,_=>(λ_ h=>nomatch h)
 |[],_::_,_,_,h,_=>nomatch h
 |_::_,[],_,_,h,_=>nomatch h
 |y::ys,x::xs,k,hy,hl,hr=>by
  intro u hu
  rcases L0.mp hu with e0 | hu
  ·rw [e0]
   have h0:=hr 0 x _ rfl rfl
   clear hr hl hu e0
   have e:=hy y C0
   unfold CG at h0
   rw [e] at h0
   cases h0 with
   |t ha hl hx =>
    rename_i a' us
    cases us with
    |nil=>cases hl
    |cons v0 r' =>
     have h1:=hx 0 v0 _ rfl rfl
     cases h1
     exact ⟨a',r',rfl,ha⟩
  ·exact MV (λz hz=>hy z (A0 _ hz)) (E5.inj hl) (λi z t h1 h2=>hr (i+1) z t h1 h2) u hu
theorem Kk {pf:Nat->Int} {H H':Hp} {p:Addr} {es:List V} {v':V} (hp:H p=some (.tup es)) (he:∀ e∈es,Di 22 100 H e) (hw:(es.flatMap (Bp 23 H)).length<=63) (hr:DZ H' v' (Bm pf 24 H (.ref p) 0)) (hpf:∀ i j,i<j->j<(Ah 24 H (.ref p) 0).length->pf i<pf j) :
  ∃ (p':Addr) (es':List V) (ns:List Int),v'=.ref p'/\H' p'=some (.tup es')/\(∀ e∈es',AF 23 H' e/\MM H' e)/\(es'.flatMap (Bp 23 H')).map (lnV H')=ns.map V.int/\ns.Pairwise (· < ·)/\ns.length<=63:=by
 have rok:AN 23 H (.ref p):=⟨p,es,rfl,hp,λy hy=>(he y hy).1⟩
 have R:=rise pf H H' 23 _ v' 0 rok hr
 obtain ⟨p',es',rfl,hp',hok⟩:=(iso pf H H' 23 _ v' 0 rok hr).1
 rw [BE,Az hp] at hr
 rw [Bd hp',Bd hp] at R
 obtain ⟨js,e1,e2,e3,e4⟩:=R
 have er:∀ e∈es',MM H' e:=by
  cases hr with
  |t ha hl hx =>
   rw [hp'] at ha
   cases ha
   refine MV (λy hy=>?_) hl hx
   obtain ⟨hrow,_,a,r,rfl,ha⟩:=he y hy
   obtain ⟨a2,z,ln,r2,I⟩:=hrow.ri
   have e5:=I.e
   cases e5
   have:=I.h
   rw [ha] at this
   cases this
   rw [I.zr]
 refine ⟨p',es',js.map pf,rfl,hp',λe hm=>⟨hok e hm,er e hm⟩,?_,?_,?_⟩
 ·rw [C4]
  exact e1
 ·refine List.pairwise_map.mpr (e2.imp_of_mem λ{i j} _ hj hij=>hpf i j hij ?_)
  have:=(e3 j hj).2
  show j<(Ah (23+1) H (.ref p) 0).length
  omega
 ·rw [D0,e4]
  exact hw
theorem nd_le:∀ {us ns:List Int},us.Nodup->(∀ k∈us,k∈ns)->us.length<=ns.length
 |[],_,_,_=>D2 _
 |x::r,ns,nd,h=>by
  rw [g0] at nd
  have hx:=h x C0
  have:=nd_le (us:=r) (ns:=ns.erase x) nd.2 λk hk=>(List.mem_erase_of_ne (a:=k) (b:=x) (λz=>nd.1 (by rw [<- z];exact hk))).mpr (h k (A0 _ hk))
  rw [List.length_erase_of_mem hx] at this
  have:=List.length_pos_of_mem hx
  rw [J0]
  omega
theorem HJ:∀ {xs ys:List Int},xs.Pairwise (· < ·)->ys.Pairwise (· < ·)->(∀ k,k∈xs↔k∈ys)->xs=ys
 |[],[],_,_,_=>rfl
 |[],y::_,_,_,h=>nomatch (h y).mpr C0
 |x::_,[],_,_,h=>nomatch (h x).mp C0
 |x::xs,y::ys,hx,hy,h=>by
  have hx':=z6.mp hx
  have hy':=z6.mp hy
  have e:x=y:=by
   have h1:=(h x).mp C0
   have h2:=(h y).mpr C0
   rcases L0.mp h1 with e | m
   ·exact e
   ·rcases L0.mp h2 with e | m2
    ·exact e.symm
    ·have:=hy'.1 x m
     have:=hx'.1 y m2
     omega
  subst e
  congr 1
  refine HJ hx'.2 hy'.2 λk=>⟨λm=>?_,λm=>?_⟩
  ·rcases L0.mp ((h k).mp (A0 _ m)) with e | q
   ·have:=hx'.1 k m;omega
   ·exact q
  ·rcases L0.mp ((h k).mpr (A0 _ m)) with e | q
   ·have:=hy'.1 k m;omega
   ·exact q
theorem Qt {H:Hp} {y:V} (h:AF 23 H y) (e:MM H y):∃ (a:Addr) (ln:Int) (x:V) (b:Addr),y=.ref a/\H a=some (.tup [.str "errand",.int ln,x,.ref b])/\AN 22 H (.ref b)/\Bp 23 H y=y::Bq 23 H (.ref b):=by
 obtain ⟨a,z,ln,r,I⟩:=h.ri
 obtain ⟨a',r0,e1,e2⟩:=e
 have e5:=I.e
 subst e5
 cases e1
 have e6:=I.h
 rw [e2] at e6
 cases e6
 rcases I.sh with P | ⟨th,fa,bs,B⟩
 ·exact absurd P.p (by decide +kernel)
 ·obtain ⟨x,rfl⟩:=FY (B.tl.trans (show Cj "errand"=1 by decide +kernel))
  obtain ⟨b,rfl⟩:=FY (B.one (by decide +kernel))
  have er:r=[x,.ref b]:=by rw [B.e,if_neg (by decide +kernel)];rfl
  subst er
  refine ⟨a,ln,x,b,rfl,e2,h.part_ok _ (by rw [I.zr];exact A0 _ C0) rfl,?_⟩
  unfold Bp
  rw [h.parts_eq,I.zr]
  show _::(List.filter BM [x,.ref b]).flatMap _=_
  rw [Y1,if_neg (by rw [(B.tv x C0).notR];exact N0)]
  show _::([V.ref b].flatMap _)=_
  rw [N1,R4,o0]
theorem row_ln {m:Nat} {H:Hp} {y:V} (h:AF m H y):∃ (a:Addr) (z:Str) (ln:Int) (r:List V),y=.ref a/\H a=some (.tup (.str z::.int ln::r))/\lnV H y=.int ln:=by
 cases m with
 |zero=>exact h.elim
 |succ m =>
  obtain ⟨a,z,ln,r,I⟩:=h.ri
  have e5:=I.e
  subst e5
  exact ⟨a,z,ln,r,rfl,I.h,Od I.h⟩
theorem cut60 (ns:List Int) (hn:ns.length<=63):∃ ms:List Int,Ig (ns.map V.int) (some 3) (some 53)=ms.map V.int/\ms.length<=60:=by
 unfold Ig
 have e1:HT.sIx (ns.map V.int).length 0 (some 3)=min 3 ns.length:=(HT.sIx_nat _ _ 3).trans (by rw [D0])
 refine ⟨(ns.drop (min 3 ns.length)).take (HT.sIx (ns.map V.int).length (ns.map V.int).length (some 53)-min 3 ns.length),by rw [e1,List.map_take,List.map_drop],?_⟩
 rw [K2,K6]
 omega
theorem Of {C:Addr} {pf:Nat->Int} {H G:Hp} {u v:V} {R:VK} {E:XK} (I:Nj pf H G 23 u v) (hl:(Ah 24 H u 0).length<=20000) (f:∀ G',Ag G G'->R (.str (Gd (Ah 24 H u 0))) G'):Hh C [v] G R E:=by
 have e:Ah 24 G v 0=Ah 24 H u 0:=I.2.1 0
 exact ⟨v,rfl,I.1,by rw [e];exact hl,λG' s=>by rw [e];exact f G' s⟩
theorem Sm {pf:Nat->Int} {H G:Hp} {u v:V} {R:VK} {E:XK} (I:Nj pf H G 23 u v) (hl:(Ah 24 H u 0).length<=20000) (f:∀ v' G',Ag G G'->EQ 48 G' v' (Bm sf 24 H u 0)->R v' G'):Gm [v] G R E:=by
 have e:Ah 24 G v 0=Ah 24 H u 0:=I.2.1 0
 have e2:Bm sf 24 G v 0=Bm sf 24 H u 0:=I.2.2.1 sf 0
 exact ⟨v,rfl,I.1,by rw [e];exact hl,λv' G' s r=>f v' G' s (by rw [e2] at r;exact r)⟩


theorem NH:Av ["_law_row"] ["_law_row"] (Aj (top 53)):=⟨rfl,rfl,rfl,by decide +kernel,rfl,by decide +kernel,by decide +kernel⟩
theorem NT (T:Tx P w K mg):Au P w K mg base CX0 1 T.d_l_parts.f T.d_l_parts.fd ["_law_row"] (IH):=by
 refine T.d_l_parts.F.ok NH (λvs H Q E h=>?_) (λcdv A outer s H vs Q E hr h=>?_)
 ·obtain ⟨v,n,rfl,_⟩:=h
  rfl
 ·obtain ⟨v,n,rfl,hv,k⟩:=h
  refine ⟨_,(Ae (AD (Ak Cg (An AI (pv 0) Ad (λ_ _=>rfl)) (Ai (Aa Ao Ab)) (by with_unfolding_all rfl))
  (Af (Al (Ai (Aa (An AI (pv 0) Ad (λ_ _=>rfl)) (Aa (An AI (pv 0) Ad (λ_ _=>rfl)) Ab)))))
  Ap)
  (Ae (AD (Ak Bg (An AI (pv 0) Ad (λ_ _=>rfl)) Ao (At _))
  (Af (Al (Ai (Aa (An AI (pv 0) Ad (λ_ _=>rfl)) (Aa (An AI (pv 0) Ad (λ_ _=>rfl)) Ab)))))
  Ap)
  (Ae (AD (Ak Bg (An AI (pv 0) Ad (λ_ _=>rfl)) Ao (At _))
  (Af (Al (Ai (Aa (An AI (pv 0) Ad (λ_ _=>rfl)) (Aa (An AI (pv 0) Ad (λ_ _=>rfl)) Ab)))))
  Ap)
  (Ae (AD (Ak Cg (An AI (pv 0) Ad (λ_ _=>rfl)) (Ai (De (zs:=["errand", "group", "keep", "when", "repeat"]) (by decide +kernel))) (by with_unfolding_all rfl))
  (Af (Al (Ai (Aa (An AI (pv 0) (DC CD Ad) (λ_ _=>rfl)) Ab))))
  Ap)
  (Af (Al (Ai Ab))))))),?_⟩
  walk_at "sw"
  cases n with
  |zero=>exact hv.elim
  |succ n =>
  obtain ⟨a,z,r,rfl,ha,hne,hlen,hps⟩:=hv
  have eP:=BV ha
  rw [eP] at k
  have at0:∀ {G:Hp} {R:VK},Ag H G->R (.str z) G->HY K (.ref a) (.int 0) G R:=λ{G R} s' q=>⟨a,_,0,.str z,rfl,rfl,BN.of (s' a _ ha),AV (j:=0) rfl,q⟩
  have atj:∀ {G:Hp} {R:VK} (j:Nat) (i:Int) (x:V),i=(j:Nat)->(V.str z::r)[j]?=some x->Ag H G->R x G->HY K (.ref a) (.int i) G R:=λ{G R} j i x hi hx s' q=>by
   subst hi
   exact ⟨a,_,_,x,rfl,rfl,BN.of (s' a _ ha),AV hx,q⟩
  have get:∀ j,j<r.length+1->∃ x,(V.str z::r)[j]?=some x:=λj hj=>⟨_,u0 (by simpa using hj)⟩
  refine at0 (Ag.refl H) ⟨by decide,λp hp=>?_⟩
  have s1:Ag H (upd H p (HO.lst [V.str "try"])):=Ag.upd hp
  refine ⟨p,_,rfl,.inl (AH.of Ac),rfl,rfl,_,rfl,?_⟩
  have inT:∀ y:Str,DH (V.str z) [V.str y]=decide (z=y):=λy=>by
   show (Ha (.str y) (.str z)||false)=_
   rw [N5]
   show (y == z)=_
   by_cases e:z=y
   ·subst e;simp
   ·rw [decide_eq_false e];simp [Ne.symm e]
  show if (DH (V.str z) [V.str "try"])=true then _ else _
  rw [inT]
  have two:∀ {G:Hp} (x y:V),Ag H G->CL (.str z::r)=[x,y]->2<=sizeLine/\∀ p:Addr,G p=none->Q (.ref p) (upd G p (.lst [x,y])):=λ{G} x y s' e =>
   ⟨by decide,λq hq=>k q _ (s'.free hq) (by rw [Ac,e]) (s'.trans (Ag.upd hq))⟩
  have two':∀ {G:Hp} (i j:Nat) (i' j':Int),i'=(i:Nat)->j'=(j:Nat)->AL z=[i,j]->Ag H G->HY K (.ref a) (.int i') G λx G1=>HY K (.ref a) (.int j') G1 λy G2=>2<=sizeLine/\∀ p:Addr,G2 p=none->Q (.ref p) (upd G2 p (.lst [x,y])):=λ{G} i j i' j' hi hj ep s'=>by
   have b1:=Hq (λe=>(hlen e).1) i (by rw [ep];simp)
   have b2:=Hq (λe=>(hlen e).1) j (by rw [ep];simp)
   have g1:(V.str z::r)[i]?=some (V.str z::r)[i]:=u0 b1
   have g2:(V.str z::r)[j]?=some (V.str z::r)[j]:=u0 b2
   refine atj i _ _ hi g1 s' (atj j _ _ hj g2 s' (two _ _ s' ?_))
   rw [BF,ep]
   simp only [M3,g1,g2,l4]
  have nD:∀ {y:Str},z=y->∀ {y':Str},(decide (y=y'))=false->¬ z=y':=λe y' h=>by rw [e];exact of_decide_eq_false h
  by_cases hT:z="try"
  ·refine Dh hT (two' 2 4 2 4 rfl rfl ?_ s1)
   rw [hT];decide +kernel
  refine Du hT (at0 s1 ⟨rfl,?_⟩)
  have eqS:∀ y:Str,decide (V.str z=V.str y)=decide (z=y):=λy=>by
   by_cases e:z=y
   ·subst e;simp
   ·rw [decide_eq_false e,decide_eq_false (λq=>e (V.str.inj q))]
  rw [eqS]
  by_cases hL:z="limit"
  ·refine Dh hL (two' 3 4 3 4 rfl rfl ?_ s1)
   rw [hL];decide +kernel
  refine Du hL (at0 s1 ⟨rfl,?_⟩)
  rw [eqS]
  by_cases hD:z="do"
  ·refine Dh hD (two' 2 3 2 3 rfl rfl ?_ s1)
   rw [hD];decide +kernel
  refine Du hD (at0 s1 ⟨by decide,λq hq=>?_⟩)
  have s2:=s1.trans (Ag.upd hq (o:=.lst [V.str "errand",V.str "group",V.str "keep",V.str "when",V.str "repeat"]))
  refine ⟨q,_,rfl,.inl (AH.of Ac),rfl,rfl,_,rfl,?_⟩
  have inF:DH (V.str z) [V.str "errand",V.str "group",V.str "keep",V.str "when",V.str "repeat"]=decide (AL z≠[]):=by
   have e1:DH (V.str z) [V.str "errand",V.str "group",V.str "keep",V.str "when",V.str "repeat"]=(decide (z="errand")||(decide (z="group")||(decide (z="keep")||(decide (z="when")||decide (z="repeat"))))):=by
    have b:∀ y:Str,Ha (.str y) (.str z)=decide (z=y):=λy=>by
     show (y == z)=_
     by_cases e:z=y
     ·subst e;simp
     ·rw [decide_eq_false e];simp [Ne.symm e]
    show (Ha _ _||(Ha _ _||(Ha _ _||(Ha _ _||(Ha _ _||false)))))=_
    rw [b,b,b,b,b,N5]
   rw [e1]
   rcases Dc z with ⟨ez,ep,el⟩ | ⟨ez,ep,el⟩ | ⟨ez,ep,el⟩ | ⟨ez,ep,el⟩ | ⟨ez,ep,el⟩ | ⟨ez,ep,el⟩ | ⟨ez,ep,el⟩ | ⟨ez,ep,el⟩ | ⟨ep,n1,n2,n3,n4,n5,n6,n7,n8⟩
   ·rw [ep,ez];decide +kernel
   ·exact absurd ez hL
   ·rw [ep,ez];decide +kernel
   ·exact absurd ez hT
   ·exact absurd ez hD
   ·rw [ep,ez];decide +kernel
   ·rw [ep,ez];decide +kernel
   ·rw [ep,ez];decide +kernel
   ·rw [ep,decide_eq_false n8,decide_eq_false n1,decide_eq_false n3,decide_eq_false n6,decide_eq_false n7];rfl
  show if (DH (V.str z) [V.str "errand",V.str "group",V.str "keep",V.str "when",V.str "repeat"])=true then _ else _
  rw [inF]
  by_cases hp0:AL z≠[]
  ·refine Dh hp0 ?_
   have hl:=hlen hp0
   obtain ⟨x,hx,ex⟩:∃ x,(V.str z::r)[r.length]?=some x/\CL (.str z::r)=[x]:=by
    have g:(V.str z::r)[r.length]?=some ((V.str z::r)[r.length]'(by simp)):=u0 (by simp)
    refine ⟨_,g,?_⟩
    rw [BF]
    rcases Dc z with ⟨ez,ep,el⟩ | ⟨ez,ep,el⟩ | ⟨ez,ep,el⟩ | ⟨ez,ep,el⟩ | ⟨ez,ep,el⟩ | ⟨ez,ep,el⟩ | ⟨ez,ep,el⟩ | ⟨ez,ep,el⟩ | ⟨ep,n1,n2,n3,n4,n5,n6,n7,n8⟩
    ·rw [ep];rw [el] at hl;have e:r.length=3:=by omega
     simp only [e] at g |-
     simp only [M3,g,l4]
    ·exact absurd ez hL
    ·rw [ep];rw [el] at hl;have e:r.length=2:=by omega
     simp only [e] at g |-
     simp only [M3,g,l4]
    ·exact absurd ez hT
    ·exact absurd ez hD
    ·rw [ep];rw [el] at hl;have e:r.length=4:=by omega
     simp only [e] at g |-
     simp only [M3,g,l4]
    ·rw [ep];rw [el] at hl;have e:r.length=3:=by omega
     simp only [e] at g |-
     simp only [M3,g,l4]
    ·rw [ep];rw [el] at hl;have e:r.length=3:=by omega
     simp only [e] at g |-
     simp only [M3,g,l4]
    ·exact absurd ep hp0
   refine ⟨a,_,_,x,rfl,rfl,BN.of (s2 a _ ha),?_,(show 1<=sizeLine by decide),λl hl2=>k l _ (s2.free hl2) (by rw [Ac,ex]) (s2.trans (Ag.upd hl2))⟩
   unfold Nm ixN
   rw [if_neg (by decide),if_pos (by simp;omega)]
   simp only [J6]
   rw [show ((-1:Int)+((V.str z::r).length:Nat)).toNat=r.length by simp;omega]
   exact hx
  ·refine Du hp0 ⟨by decide,λl hl2=>k l _ (s2.free hl2) ?_ (s2.trans (Ag.upd hl2))⟩
   have ep:AL z=[]:=by
    by_cases e:AL z=[]
    ·exact e
    ·exact absurd e hp0
   rw [Ac,BF,ep]
   rfl
theorem KZ:Av ["_law_script", "_law_k"] ["_law_script", "_law_k"] (Aj (top 41)):=⟨rfl,rfl,rfl,by decide +kernel,rfl,by decide +kernel,by decide +kernel⟩
theorem Lk (T:Tx P w K mg):Au P w K mg base CX0 1 T.d_l_cell_at.f T.d_l_cell_at.fd ["_law_script", "_law_k"] (Rn K):=by
 refine T.d_l_cell_at.F.ok KZ (λvs H Q E h=>?_) (λcdv A outer s H vs Q E hr h=>?_)
 ·obtain ⟨a,ns,k,rfl,_⟩:=h
  rfl
 ·obtain ⟨a,ns,i,rfl,hS,hl,h0,k⟩:=h
  refine ⟨_,(Ae (AD (Ak Gf (pv 1) (AA AX (by rfl) T.n_len BB (Aa (pv 0) Ab)) (At _))
  (Af (Al (An As (pv 0) (pv 1) (λ_ _=>rfl))))
  Ap)
  (Af (Al Ad))),?_⟩
  walk_at "sx"
  refine ⟨_,.inl ⟨_,hS,rfl⟩,?_⟩
  rw [D0]
  by_cases hi:i<(ns.length:Int)
  ·refine Dh hi ?_
   have hi2:i.toNat<ns.length:=by omega
   refine ⟨a,_,i,.int ns[i.toNat],rfl,rfl,hS,?_,k _⟩
   have:=AV (xs:=ns.map V.int) (j:=i.toNat) (v:=.int ns[i.toNat]) (by rw [Q1];simp [hi2])
   rwa [show ((i.toNat:Nat):Int)=i by omega] at this
  ·exact Du hi (k _)
theorem Gn:Av ["_law_x", "_law_number"] ["_law_x"] (Aj (top 42)):=⟨rfl,rfl,rfl,by decide +kernel,rfl,by decide +kernel,by decide +kernel⟩
theorem NV (T:Tx P w K mg):Au P w K mg base CX0 1 T.d_l_mixed.f T.d_l_mixed.fd ["_law_x"] (KQ):=by
 refine T.d_l_mixed.F.ok Gn (λvs H Q E h=>?_) (λcdv A outer s H vs Q E hr h=>?_)
 ·obtain ⟨x,rfl,_⟩:=h
  rfl
 ·obtain ⟨x,rfl,k⟩:=h
  refine ⟨_,(Ae (Ax (i:=1) Gn.nd rfl (Or.inl rfl) (Am AU (Am Gr (Am Cb (pv 0) Ad) Ad) Ad))
  (Ae (Ax (i:=1) Gn.nd rfl (Or.inl rfl) (Am AU (Am Cb (Am Gr (pv 1) (Am Cb (Am AU (pv 1) Ad) Ad)) Ad) Ad))
  (Af (Al (Am AU (Am Gr (pv 1) (Am Cb (Am AU (pv 1) Ad) Ad)) Ad))))),?_⟩
  walk_at "sx"
  have md:∀ y:Int,0<=y%2147483647/\y%2147483647<2147483647:=λy=>⟨W7 _ (by decide),A7 _ (by decide)⟩
  have big:∀ y:Int,0<=y/\y<2147483647->-(2 ^ 64)<y/\y<2 ^ 64:=λy h=>by
   have:(2:Int) ^ 64=18446744073709551616:=by decide
   omega
  refine ⟨.inr (by decide),by decide,by decide,.inl (big _ (md _)),by decide,by decide,.inl (big _ (md _)),by decide,k _ (md _).1 (md _).2⟩
theorem Dx:Av ["_law_cell", "_law_many", "_law_found", "_law_number", "_law_k"] ["_law_cell", "_law_many"] (Aj (top 43)):=⟨rfl,rfl,rfl,by decide +kernel,rfl,by decide +kernel,by decide +kernel⟩
theorem Mq (T:Tx P w K mg)
  (G_l_mixed:Au P w K mg base CX0 1 T.d_l_mixed.f T.d_l_mixed.fd ["_law_x"] (KQ)):Au P w K mg base CX0 2 T.d_l_stream.f T.d_l_stream.fd ["_law_cell", "_law_many"] (EY):=by
 refine T.d_l_stream.F.ok Dx (λvs H Q E h=>?_) (λcdv A outer s H vs Q E hr h=>?_)
 ·obtain ⟨c,m,rfl,_⟩:=h
  rfl
 ·obtain ⟨c,m,rfl,h0,h1,k⟩:=h
  refine ⟨_,(Ae (Ax (i:=2) Dx.nd rfl (Or.inl rfl) (Ai Ab))
  (Ae (Ax (i:=3) Dx.nd rfl (Or.inl rfl) (Am AU (pv 0) Ad))
  (Ae (Dr PassesOwn.never rfl (Hr rfl T.n_range (Aa (pv 1) Ab)) (AJ (i:=4) Dx.nd rfl (Or.inl rfl))
  (Ae (Ax (i:=3) Dx.nd rfl (Or.inl rfl) (Ar G_l_mixed (hr.mono (by omega)) rfl T.d_l_mixed.hm T.d_l_mixed.F.kp T.d_l_mixed.b .nil Ay (Aa (Am Cb (pv 3) (Am Gr Ad (pv 4))) Ab)))
  (Af (AQ (Bx Z0 D1 C1 AR (pv 2) (Aa (pv 3) Ab))))))
  (Af (Al (pv 2)))))),?_⟩
  walk_at "sx"
  refine ⟨by decide,λl hl=>⟨by decide,?_⟩⟩
  have b62:(2:Int) ^ 62=4611686018427387904:=by decide
  have b64:(2:Int) ^ 64=18446744073709551616:=by decide
  refine ⟨_,rfl,m,rfl,by omega,by omega,?_⟩
  refine HA (λi σ H2=>∃ (ns:List Int) (num:Int) (kk:Option V),σ=[some (.int c),some (.int m),some (.ref l),some (.int num),kk]/\ns.length=i/\(∀ n∈ns,0<=n/\n<2147483647)/\H2 l=some (.lst (ns.map V.int))/\Ag H H2)
   ⟨[],_,none,rfl,rfl,(λ_ h=>nomatch h),Ac,Ag.upd hl⟩ ?_ ?_
  ·rintro i σ H2 hi ⟨ns,num,kk,rfl,hlen,hns,hl2,hs2⟩
   walk_at "sx"
   refine ⟨.inl ⟨by omega,by omega⟩,_,rfl,λr r0 r1=>?_⟩
   refine ⟨.inl ⟨_,AH.of hl2⟩,?_⟩
   refine ⟨l,_,_,rfl,rfl,hl2,?_,?_⟩
   ·rw [D0,hlen]
    exact V1 (show i<1000 by omega) (by decide)
   ·refine ⟨ns++[r],r,rfl,?_,?_,?_,?_⟩
    ·rw [B0,hlen];rfl
    ·intro n hn
     rcases T0.mp hn with hn | hn
     ·exact hns n hn
     ·rw [M0.mp hn];exact ⟨r0,r1⟩
    ·rw [Ac,A1];rfl
    ·intro b o e
     rw [Aq (AG e hl)]
     exact hs2 b o e
  ·rintro σ H2 ⟨ns,num,kk,rfl,hlen,hns,hl2,hs2⟩
   exact ⟨_,rfl,k l ns H2 hl (by omega) hns hl2 hs2⟩
theorem BY:Av ["_law_x", "_law_some", "_law_way", "_law_size", "_law_name", "_law_keys"] ["_law_x"] (Aj (top 44)):=⟨rfl,rfl,rfl,by decide +kernel,rfl,by decide +kernel,by decide +kernel⟩
theorem Lj (T:Tx P w K mg)
  (G_l_stream:Au P w K mg base CX0 2 T.d_l_stream.f T.d_l_stream.fd ["_law_cell", "_law_many"] (EY)):Au P w K mg base CX0 3 T.d_l_name_by.f T.d_l_name_by.fd ["_law_x"] (Ma):=by
 refine T.d_l_name_by.F.ok BY (λvs H Q E h=>?_) (λcdv A outer s H vs Q E hr h=>?_)
 ·obtain ⟨x,rfl,_⟩:=h
  rfl
 ·obtain ⟨x,rfl,hx,k⟩:=h
  refine ⟨_,(Ae (Ax (i:=1) BY.nd rfl (Or.inr rfl) Ao)
  (Ae (Ax (i:=2) BY.nd rfl (Or.inl rfl) (Am AU (pv 0) Ad))
  (Ae (AD (Ak Gf (pv 2) Ad (At _))
  (Af (Al (An As (Ai (De (zs:=["a", "b", "ab", "ba", "aa", "c", "ends", "inn"]) (by decide +kernel))) (Am AU (Am Bk (pv 0) Ad) Ad) (λ_ _=>rfl))))
  Ap)
  (Ae (Ax (i:=3) BY.nd rfl (Or.inl rfl) (An As (Ai (Aa (Am Cb Ad (Am AU (Am Bk (pv 0) Ad) Ad)) (Aa Ad (Aa (Am Cb Ad (Am AU (Am Bk (pv 0) Ad) Ad)) Ab)))) (Am Lf (pv 2) Ad) (λ_ _=>rfl)))
  (Ae (Ax (i:=4) BY.nd rfl (Or.inl rfl) (Bx C3 V5 U5 Iq Ao (Aa (Fe (N':=["_law_y", "_law_some"]) (sel:=[none,some 1]) rfl rfl rfl (DF (Ar G_l_stream (hr.mono (by omega)) rfl T.d_l_stream.hm T.d_l_stream.F.kp T.d_l_stream.b .nil Ay (Aa (Am Bk (pv 0) Ad) (Aa (pv 3) Ab)))) (Cc rfl) (λ_ _ _ _ _=>⟨(AJ (i:=0) (show (["_law_y", "_law_some"]:List Str).Nodup by decide +kernel) rfl (Or.inl rfl)),CN,(An ix_str (pv 1) (Am AU (pv 0) Ad) (λ_ _=>rfl))⟩)) Ab)))
  (Ae (Ax (i:=5) BY.nd rfl (Or.inl rfl) (Ai (De (zs:=["any", "ask", "begin", "but", "do", "end", "errand", "give", "group", "hear", "in", "keep"]) (by decide +kernel))))
  (Ae (Ax (i:=5) BY.nd rfl (Or.inl rfl) (Am DR (pv 5) (Ai (De (zs:=["last", "late", "let", "limit", "off", "raise", "repeat", "ring", "send", "take", "try"]) (by decide +kernel)))))
  (Ae (AD (Ak Cg (pv 4) (Am DR (pv 5) (Ai (De (zs:=["wait", "when", "within"]) (by decide +kernel)))) (by with_unfolding_all rfl))
  (Af (Al (Am Ca Ao (pv 4))))
  Ap)
  (Af (Al (pv 4))))))))))),?_⟩
  walk_at "sw"
  refine ⟨by decide,?_⟩
  by_cases hw:x%5<2
  ·refine Dh hw ⟨by decide,λp hp=>⟨⟨by decide,by decide⟩,by decide,?_⟩⟩
   obtain ⟨v,hz,hv⟩:=pick (xs:=[V.str "a",V.str "b",V.str "ab",V.str "ba",V.str "aa",V.str "c",V.str "ends",V.str "inn"]) (m:=x / 5%8) (by omega) (by simp only [J0,K1];omega)
   obtain ⟨z,rfl,hzl⟩:=nmS_all (by decide +kernel) v hv
   exact ⟨p,_,_,_,rfl,rfl,AH.of Ac,hz,k z _ hzl (Ag.upd hp)⟩
  refine Du hw ⟨⟨by decide,by decide⟩,by decide,⟨by decide,by decide⟩,by decide,by decide,λp hp=>?_⟩
  obtain ⟨m,hm,hm0,hm1⟩:∃ m:Int,Nm [V.int (1+x / 5%8),V.int 8,V.int (1+x / 5%3)] (x%5-2)=some (.int m)/\1<=m/\m<=8:=by
   have h3:x%5-2=0\/x%5-2=1\/x%5-2=2:=by omega
   rcases h3 with h3 | h3 | h3<;>rw [h3]
   ·exact ⟨_,rfl,by omega,by omega⟩
   ·exact ⟨_,rfl,by omega,by omega⟩
   ·exact ⟨_,rfl,by omega,by omega⟩
  refine ⟨p,_,_,_,rfl,rfl,AH.of Ac,hm,⟨by decide,by decide⟩,_,m,rfl,by omega,by omega,λl ms H' hl0 hml hms hl' s'=>⟨l,rfl,⟨_,AH.of hl'⟩,?_⟩⟩
  have hml2:ms.length<=8:=by omega
  refine Ej (K:=K) (a:=l) (xs:=ms.map V.int) (λi ys H2=>H2=H'/\∃ cs:List Nat,cs.length=i/\(∀ c∈cs,97<=c/\c<=122)/\ys=cs.map λc=>V.str ⟨#[c]⟩) ⟨rfl,[],rfl,(λ_ h=>nomatch h),rfl⟩ ?_ ?_ ?_ ?_
  ·rintro i ys H2 hi ⟨rfl,cs,hc,_,rfl⟩
   exact ⟨AH.of hl',by rw [D0,hc];exact P0 _⟩
  ·rw [D0];exact Q0 hml2 (by decide)
  ·rintro i x ys H2 hx ⟨rfl,cs,hc,hcl,rfl⟩
   obtain ⟨n,rfl,hn'⟩:=Jo hx
   walk_at "sx"
   have hlt:(n%26).toNat<("abcdefghijklmnopqrstuvwxyz":Str).cps.toList.length:=by
    rw [show ("abcdefghijklmnopqrstuvwxyz":Str).cps.toList.length=26 by decide +kernel]
    omega
   have hat:=AV (xs:=("abcdefghijklmnopqrstuvwxyz":Str).cps.toList) (j:=(n%26).toNat) (v:=("abcdefghijklmnopqrstuvwxyz":Str).cps.toList[(n%26).toNat]) (by simp [hlt])
   rw [show (((n%26).toNat:Nat):Int)=n%26 by omega] at hat
   refine ⟨by decide,_,_,_,rfl,rfl,by decide +kernel,hat,rfl,cs++[_],by rw [B0,hc];rfl,λc hc'=>?_,by rw [A1];rfl⟩
   rcases T0.mp hc' with q | q
   ·exact hcl c q
   ·rw [M0.mp q];exact of_decide_eq_true (Y2.mp abc_low _ (Q4 hlt))
  ·rintro ys H2 ⟨rfl,cs,hc,hcl,rfl⟩ D hD
   rw [D0] at hc
   refine ⟨_,D,cs.map λc=>(⟨#[c]⟩:Str),rfl,rfl,AH.of (by rw [Ac,C4];rfl),?_,?_⟩
   ·rw [C4,D0,sum1,show (Str.ofString "").length=0 by decide +kernel]
    omega
   ·have ht0:(Txt.join "" (cs.map λc=>(⟨#[c]⟩:Str))).length<=8:=by
     rw [join1]
     omega
    have ht1:1<=(Txt.join "" (cs.map λc=>(⟨#[c]⟩:Str))).length:=by
     rw [join1]
     omega
    have ht2:JA (Txt.join "" (cs.map λc=>(⟨#[c]⟩:Str))):=λc hc'=>by
     rw [Lu] at hc'
     exact hcl c hc'
    generalize Txt.join "" (cs.map λc=>(⟨#[c]⟩:Str))=t0 at ht0 ht1 ht2 |-
    generalize hG2:upd H2 D _=G2
    have sG2:Ag H G2:=by rw [<- hG2];exact ((Ag.upd hp).trans s').trans (Ag.upd hD)
    clear hG2
    refine ⟨by decide,λp hp=>⟨by decide,λq hq=>?_⟩⟩
    have n1:p≠q:=AG Ac hq
    refine ⟨p,q,_,_,rfl,rfl,(by rw [Aq n1];exact Ac),Ac,by decide,λr hr'=>⟨by decide,λt ht=>?_⟩⟩
    have n2:r≠t:=AG Ac ht
    refine ⟨r,t,_,_,rfl,rfl,(by rw [Aq n2];exact Ac),Ac,by decide,λy hy=>?_⟩
    have sG:=λo=>sG2.trans ((((Ag.upd hp).trans (Ag.upd hq)).trans (Ag.upd hr')).trans (Ag.upd ht) |>.trans (Ag.upd (o:=o) hy))
    refine ⟨y,_,rfl,.inl (AH.of Ac),rfl,rfl,_,rfl,?_⟩
    have e1:("z":Str).length=1:=by decide +kernel
    have b20:(20:Nat)<=sizeLine:=by decide
    have ik:DH (.str t0) (Gb.map V.str)=decide (t0∈Gb):=in_keys
    by_cases e:t0∈Gb
    ·rw [decide_eq_true e] at ik
     exact Sl ik ⟨t0,rfl,by omega,k _ _ (RT (keys_z t0 e)) (sG _)⟩
    ·rw [decide_eq_false e] at ik
     exact iteF' ik (k _ _ ⟨ht1,ht0,ht2,e⟩ (sG _))
theorem Dl:Av ["_law_x", "_law_names_here", "_law_y", "_law_name", "_law_last"] ["_law_x"] (Aj (top 45)):=⟨rfl,rfl,rfl,by decide +kernel,rfl,by decide +kernel,by decide +kernel⟩
theorem NU (T:Tx P w K mg)
  (G_l_stream:Au P w K mg base CX0 2 T.d_l_stream.f T.d_l_stream.fd ["_law_cell", "_law_many"] (EY))
  (G_l_name_by:Au P w K mg base CX0 3 T.d_l_name_by.f T.d_l_name_by.fd ["_law_x"] (Ma)):Au P w K mg base CX0 4 T.d_l_names.f T.d_l_names.fd ["_law_x"] (OK):=by
 refine T.d_l_names.F.ok Dl (λvs H Q E h=>?_) (λcdv A outer s H vs Q E hr h=>?_)
 ·obtain ⟨x,rfl,_⟩:=h
  rfl
 ·obtain ⟨x,rfl,k⟩:=h
  have hu:=Fn hr
  refine ⟨_,(Ae (Ax (i:=1) Dl.nd rfl (Or.inl rfl) (Ai Ab))
  (Ae (Dr PassesOwn.never rfl (DF (Ar G_l_stream (hr.mono (by omega)) rfl T.d_l_stream.hm T.d_l_stream.F.kp T.d_l_stream.b .nil Ay (Aa (pv 0) (Aa Ad Ab)))) (AJ (i:=2) Dl.nd rfl (Or.inl rfl))
  (Ae (Ax (i:=3) Dl.nd rfl (Or.inl rfl) (Ar G_l_name_by (hr.mono (by omega)) rfl T.d_l_name_by.hm T.d_l_name_by.F.kp T.d_l_name_by.b .nil Ay (Aa (pv 2) Ab)))
  (Im (AD (PW.pt (Dq (Ak (IW hu) (pv 1) (Ai Ab) (At _)) (Db (Ak Bg (Am AU (Am Bk (pv 2) Ad) Ad) Ad (At _)))))
  (Ae (Ax (i:=4) Dl.nd rfl (Or.inl rfl) (An As (pv 1) (DC CD Ad) (λ_ _=>rfl)))
  (Af (Ax (i:=3) Dl.nd rfl (Or.inl rfl) (An As (Ai (Aa (Am Ca (Dd KS (pv 4) Ef (Dv (DC CD Ad))) Ao) (Aa (Am Ca Ao (Dd KS (pv 4) (Dv Ad) Ef)) (Aa (Am Ca (Dd KS (pv 4) Ef (Dv Ad)) Ao) Ab)))) (Am AU (Am Bk (pv 2) Ad) Ad) (λ_ _=>rfl)))))
  Ap)
  (Af (AD (Ak DG (pv 3) (pv 1) (by with_unfolding_all rfl))
  (Af (AQ (Bx Z0 D1 C1 AR (pv 1) (Aa (pv 3) Ab))))
  Ap)))))
  (Af (Al (pv 1))))),?_⟩
  walk_at "sx"
  refine ⟨by decide,λl hl=>?_⟩
  refine ⟨_,rfl,_,_,rfl,by decide,by decide,λl0 ns H0 hl0 hnl hns hH0 s0=>⟨l0,rfl,⟨_,AH.of hH0⟩,?_⟩⟩
  have hnl9:ns.length=9:=by omega
  have hll:l0≠l:=λe=>by rw [e,Ac] at hl0;cases hl0
  have b60:(60:Nat)<=sizeLine:=by decide
  refine SB (K:=K) (a:=l0) (xs:=ns.map V.int) (λi σ H2=>∃ (o1 o2 o3:Option V) (zs:List Str),σ=[some (.int x),some (.ref l),o1,o2,o3]/\H2 l=some (.lst (zs.map V.str))/\zs.length<=i/\(0<i->1<=zs.length)/\(∀ z∈zs,CM z)/\Ag H H2/\H2 l0=some (.lst (ns.map V.int)))
   ⟨none,none,none,[],rfl,s0 l _ Ac,P0 _,(λh=>absurd h (by decide)),(λ_ h=>nomatch h),(Ag.upd hl).trans s0,hH0⟩ (λi σ H2 _ ⟨_,_,_,_,_,_,_,_,_,_,h⟩=>AH.of h) ?_ ?_
  ·rintro i y σ H2 hi ⟨o1,o2,o3,zs,rfl,hl2,hz1,hz2,hz3,s2,h02⟩
   obtain ⟨n,rfl,hn⟩:=Jo hi
   have hi9:i<9:=by
    have:=(W0.mp hn).1
    omega
   have hn0:=hns n (d0 hn)
   walk_at "sx"
   refine ⟨n,rfl,hn0.1,λnm H3 hnm s3=>?_⟩
   have hl3:=s3 l _ hl2
   refine ⟨λσ' H'=>∃ (o3:Option V) (nm:Str),σ'=[some (.int x),some (.ref l),some (.int n),some (.str nm),o3]/\CM nm/\Ag H3 H',?_,?_⟩
   ·walk_at "sy"
    refine ⟨by decide,λp hp=>?_⟩
    have hpl:l≠p:=AG hl3 hp
    refine ⟨l,p,_,_,0,λ_=>true,rfl,rfl,AH.of (by rw [Aq hpl];exact hl3),AH.of Ac,by decide,(λj x y hx hy=>nomatch hy),?_⟩
    have s3p:Ag H3 (upd H3 p (.lst [])):=Ag.upd hp
    by_cases hz0:zs.length=0
    ·refine ⟨false,?_,?_⟩
     ·rw [D0,K1,hz0];rfl
     ·exact ⟨hnm,s3p⟩
    ·refine ⟨true,?_,?_⟩
     ·rw [D0,K1,decide_eq_false hz0];rfl
     ·refine ⟨⟨by decide,by decide⟩,by decide,rfl,?_⟩
      refine Lv ?_ ⟨hnm,s3p⟩
      obtain ⟨v,hv,hvm,_⟩:=Mn (xs:=zs.map V.str) (by rw [D0];omega)
      obtain ⟨z,hz,rfl⟩:=j1.mp hvm
      have hzn:=hz3 z hz
      have hzl:=hzn.hi
      have c1:=LD z none (some (-1))
      have c2:=LD z (some 1) none
      have c3:=LD z none (some 7)
      have q1:("q":Str).length=1:=by decide +kernel
      refine ⟨l,_,_,_,rfl,rfl,AH.of (s3p l _ hl3),hv,z,rfl,by omega,by omega,z,rfl,by omega,by omega,z,rfl,by omega,by omega,by decide,λp2 hp2=>⟨⟨by decide,by decide⟩,by decide,?_⟩⟩
      obtain ⟨z4,hz4,hz4l⟩:∃ z4:Str,Nm [V.str (EW z none (some (-1))++"q"),V.str ("q"++EW z (some 1) none),V.str (EW z none (some 7)++"q")] (n / 28%3)=some (.str z4)/\CM z4:=by
       have h3:n / 28%3=0\/n / 28%3=1\/n / 28%3=2:=by omega
       rcases h3 with h3 | h3 | h3<;>rw [h3]
       ·exact ⟨_,rfl,(Ry hzn.low (Ou z _ _) (cut_m1 hzn.lo hzn.hi)).1⟩
       ·exact ⟨_,rfl,(Ry hzn.low (Ou z _ _) (cut_f1 hzn.lo hzn.hi)).2⟩
       ·exact ⟨_,rfl,(Ry hzn.low (Ou z _ _) (cut_t7 z)).1⟩
      exact ⟨p2,_,_,_,rfl,rfl,AH.of Ac,hz4,_,z4,rfl,rfl,hz4l,s3p.trans (Ag.upd hp2)⟩
   ·rintro σ' H4 ⟨o4,nm,rfl,hnm,s4⟩
    walk_at "sx"
    have hl4:=s4 l _ hl3
    have h04:=s4 l0 _ (s3 l0 _ h02)
    have sa:=(s2.trans s3).trans s4
    refine ⟨l,_,rfl,.inl (AH.of hl4),rfl,EA zs,_,rfl,?_⟩
    have here:∃ zs:List Str,H4 l=some (.lst (zs.map V.str))/\zs.length<=i/\(0<i->1<=zs.length)/\(∀ z∈zs,CM z):=⟨zs,hl4,hz1,hz2,hz3⟩
    have add:∃ zs':List Str,upd H4 l (.lst (zs.map V.str++[V.str nm])) l=some (.lst (zs'.map V.str))/\zs'.length<=i+1/\(0<i+1->1<=zs'.length)/\(∀ z∈zs',CM z)/\Ag H (upd H4 l (.lst (zs.map V.str++[V.str nm])))/\upd H4 l (.lst (zs.map V.str++[V.str nm])) l0=some (.lst (ns.map V.int)):=by
     refine ⟨zs++[nm],?_,?_,?_,?_,Co sa hl,?_⟩
     ·rw [Ac,A1];rfl
     ·rw [B0];simp only [J0,K1];omega
     ·intro _;rw [B0];simp only [J0,K1];omega
     ·intro z hz
      rcases T0.mp hz with hz | hz
      ·exact hz3 z hz
      ·rw [M0.mp hz];exact hnm
     ·rw [Aq hll];exact h04
    by_cases hz0:zs.length=0
    ·have e:zs=[]:=E2.mp hz0
     subst e
     exact ⟨.inl ⟨_,AH.of hl4⟩,l,_,_,rfl,rfl,hl4,by decide,add⟩
    ·refine Lv ⟨.inl ⟨_,AH.of hl4⟩,l,_,_,rfl,rfl,hl4,?_,add⟩ ⟨zs,hl4,by omega,λ_=>by omega,hz3,sa,h04⟩
     rw [D0];omega
  ·rintro σ H2 ⟨o1,o2,o3,zs,rfl,hl2,hz1,hz2,hz3,s2,h02⟩
   rw [D0,hnl9] at hz1 hz2
   exact ⟨_,rfl,k l H2 hl ⟨zs,hl2,hz2 (by decide),hz1,hz3⟩ s2⟩
theorem Ge:Av ["_law_x", "_law_names_here", "_law_way"] ["_law_x", "_law_names_here"] (Aj (top 46)):=⟨rfl,rfl,rfl,by decide +kernel,rfl,by decide +kernel,by decide +kernel⟩
theorem JL (T:Tx P w K mg):Au P w K mg base CX0 1 T.d_l_value_by.f T.d_l_value_by.fd ["_law_x", "_law_names_here"] (Hi):=by
 refine T.d_l_value_by.F.ok Ge (λvs H Q E h=>?_) (λcdv A outer s H vs Q E hr h=>?_)
 ·obtain ⟨x,l,rfl,_⟩:=h
  rfl
 ·obtain ⟨x,l,rfl,hx,⟨zs,hl,hz1,hz2,hz3⟩,k⟩:=h
  refine ⟨_,(Ae (Ax (i:=2) Ge.nd rfl (Or.inl rfl) (Am AU (pv 0) Ad))
  (Ae (AD (Ak Gf (pv 2) Ad (At _))
  (Af (Al (Am AU (Am Bk (pv 0) Ad) Ad)))
  Ap)
  (Ae (AD (Ak Bg (pv 2) Ad (At _))
  (Af (Al (An As (Ai (Aa Ad (Aa Ad (Aa Ad (Aa Ad (Aa Ad (Aa (Am AU (Am Bk (pv 0) Ad) Ad) Ab))))))) (Am AU (Am Bk (pv 0) Ad) Ad) (λ_ _=>rfl))))
  Ap)
  (Ae (AD (Ak Gf (pv 2) Ad (At _))
  (Af (Al (An As (pv 1) (Am AU (Am Bk (pv 0) Ad) (AA AX (by rfl) T.n_len BB (Aa (pv 1) Ab))) (λ_ _=>rfl))))
  Ap)
  (Af (Al (An As (Ai (De (zs:=[":late", ":off", ":nobody", ":a", ":abcdefgh", ":end"]) (by decide +kernel))) (Am AU (Am Bk (pv 0) Ad) Ad) (λ_ _=>rfl)))))))),?_⟩
  walk_at "sy"
  have len:OA K (.ref l) H zs.length:=Bo.mpr (.inl ⟨_,AH.of hl,by rw [D0]⟩)
  refine ⟨by decide,?_⟩
  refine Lv ⟨⟨by decide,by decide⟩,by decide,k _ _ (TV.int (by omega) (by omega)) (.inl ⟨_,rfl,by omega,by omega⟩) (Ag.refl H)⟩ ⟨rfl,?_⟩
  refine Lv ?_ (Lv ?_ ?_)
  ·refine ⟨⟨by decide,by decide⟩,by decide,by decide,λp hp=>⟨⟨by decide,by decide⟩,by decide,?_⟩⟩
   refine Dg (AH.of Ac) (by omega) (by simp only [J0,K1];omega) λv hv=>(λ(h:TV v/\Ox v)=>k v _ h.1 h.2 (Ag.upd hp)) ?_
   simp only [L0,E1,or_false] at hv
   rcases hv with rfl | rfl | rfl | rfl | rfl | rfl<;>exact ⟨TV.int (by omega) (by omega),.inl ⟨_,rfl,by omega,by omega⟩⟩
  ·have hm:=mod_lt (x:=x / 6) hz1
   exact ⟨⟨by decide,by decide⟩,zs.length,len,by omega,Dg (AH.of hl) hm.1 (by rw [D0];exact hm.2) λv hv=>k v _ (Jc hz3 hv) (RV hz3 hv) (Ag.refl H)⟩
  ·refine ⟨by decide,λp hp=>⟨⟨by decide,by decide⟩,by decide,?_⟩⟩
   refine Dg (AH.of Ac) (by omega) (by simp only [J0,K1];omega) λv hv=>(λ(h:TV v/\Ox v)=>k v _ h.1 h.2 (Ag.upd hp)) ?_
   obtain ⟨z,hzv,hz⟩:=NF (show [V.str ":late",V.str ":off",V.str ":nobody",V.str ":a",V.str ":abcdefgh",V.str ":end"].all Rq=true by decide +kernel) v hv
   subst hzv
   refine ⟨.inr ⟨z,rfl,by omega⟩,.inr ⟨z,rfl,.inr (tdB_of ?_)⟩⟩
   simp only [L0,E1,or_false,V.str.injEq] at hv
   rcases hv with rfl | rfl | rfl | rfl | rfl | rfl<;>decide +kernel
theorem Dk:Av ["_law_x", "_law_names_here", "_law_some", "_law_value", "_law_way", "_law_line", "_law_limit"] ["_law_x", "_law_names_here"] (Aj (top 47)):=⟨rfl,rfl,rfl,by decide +kernel,rfl,by decide +kernel,by decide +kernel⟩
theorem NS (T:Tx P w K mg)
  (G_l_stream:Au P w K mg base CX0 2 T.d_l_stream.f T.d_l_stream.fd ["_law_cell", "_law_many"] (EY))
  (G_l_value_by:Au P w K mg base CX0 1 T.d_l_value_by.f T.d_l_value_by.fd ["_law_x", "_law_names_here"] (Hi)):Au P w K mg base CX0 3 T.d_l_plain.f T.d_l_plain.fd ["_law_x", "_law_names_here"] (KN):=by
 refine T.d_l_plain.F.ok Dk (λvs H Q E h=>?_) (λcdv A outer s H vs Q E hr h=>?_)
 ·obtain ⟨x,l,rfl,_⟩:=h
  rfl
 ·obtain ⟨x,l,rfl,hx,hN,k⟩:=h
  obtain ⟨zs,hl,hz1,hz2,hz3⟩:=id hN
  refine ⟨_,(Ae (Fd (i:=2) Dk.nd rfl (Or.inl rfl) (N':=["_law_y", "_law_names_here"]) (sel:=[none,some 1]) rfl rfl rfl (DF (Ar G_l_stream (hr.mono (by omega)) rfl T.d_l_stream.hm T.d_l_stream.F.kp T.d_l_stream.b .nil Ay (Aa (pv 0) (Aa Ad Ab)))) (Cc rfl) (λ_ _ _ _ _=>⟨(AJ (i:=0) (show (["_law_y", "_law_names_here"]:List Str).Nodup by decide +kernel) rfl (Or.inl rfl)),CN,(An (Si (K:=K) rfl) (pv 1) (Am AU (pv 0) (AA (Qy (K:=K) rfl) (by rfl) T.n_len BB (Aa (pv 1) Ab))) (λ_ _=>rfl))⟩) rfl)
  (Ae (Ax (i:=3) Dk.nd rfl (Or.inl rfl) (Ar G_l_value_by (hr.mono (by omega)) rfl T.d_l_value_by.hm T.d_l_value_by.F.kp T.d_l_value_by.b .nil Ay (Aa (Am Bk (pv 0) Ad) (Aa (pv 1) Ab))))
  (Ae (Ax (i:=4) Dk.nd rfl (Or.inl rfl) (Am AU (pv 0) Ad))
  (Ae (Ax (i:=5) Dk.nd rfl (Or.inl rfl) (Am Cb Ad (Am AU (Am Bk (pv 0) Ad) Ad)))
  (Ae (AD (Ak Bg (pv 4) Ad (At _))
  (Af (Al (Bl (Aa Ao (Aa (pv 5) (Aa (Am Cb Ad (Am AU (Am Bk (pv 0) Ad) Ad)) Ab))))))
  Ap)
  (Ae (AD (Ak Gf (pv 4) Ad (At _))
  (Af (Al (Bl (Aa (An As (Ai (Aa Ao (Aa Ao Ab))) (Am Lf (pv 4) Ad) (λ_ _=>rfl)) (Aa (pv 5) (Aa (An As (pv 2) Ad (λ_ _=>rfl)) Ab))))))
  Ap)
  (Ae (AD (Ak Gf (pv 4) Ad (At _))
  (Af (Al (Bl (Aa (An As (Ai (Aa Ao (Aa Ao Ab))) (Am Lf (pv 4) Ad) (λ_ _=>rfl)) (Aa (pv 5) (Aa (An As (pv 2) Ad (λ_ _=>rfl)) (Aa (pv 3) Ab)))))))
  Ap)
  (Ae (AD (Ak Gf (pv 4) Ad (At _))
  (Af (Al (Bl (Aa (An As (Ai (Aa Ao (Aa Ao Ab))) (Am Lf (pv 4) Ad) (λ_ _=>rfl)) (Aa (pv 5) (Aa (An As (pv 2) Ad (λ_ _=>rfl)) (Aa (An As (pv 2) Ad (λ_ _=>rfl)) Ab)))))))
  Ap)
  (Ae (AD (Ak Bg (pv 4) Ad (At _))
  (Af (Al (Bl (Aa (An As (Ai (Aa Ao (Aa Ao Ab))) (Am AU (Am Bk (pv 0) Ad) Ad) (λ_ _=>rfl)) (Aa (pv 5) (Aa (An As (pv 2) Ad (λ_ _=>rfl)) Ab))))))
  Ap)
  (Ae (AD (Ak Bg (pv 4) Ad (At _))
  (Ae (Ax (i:=6) Dk.nd rfl (Or.inl rfl) (An As (Ai (Aa Ad (Aa (Am Cb Ad (Am AU (Am Bk (pv 0) Ad) Ad)) Ab))) (Am AU (Am Bk (pv 0) Ad) Ad) (λ_ _=>rfl)))
  (Af (Al (Bl (Aa Ao (Aa (pv 5) (Aa (An As (pv 2) Ad (λ_ _=>rfl)) (Aa (An As (pv 2) Ad (λ_ _=>rfl)) (Aa (An As (pv 2) Ad (λ_ _=>rfl)) (Aa (pv 6) Ab))))))))))
  Ap)
  (Ae (AD (Ak Bg (pv 4) Ad (At _))
  (Af (Al (Bl (Aa Ao (Aa (pv 5) (Aa (pv 3) Ab))))))
  Ap)
  (Af (Al (Bl (Aa Ao (Aa (pv 5) (Aa (An As (pv 2) Ad (λ_ _=>rfl)) Ab))))))))))))))))),?_⟩
  walk_at "sw"
  refine ⟨_,rfl,_,_,rfl,by decide,by decide,λl0 ns H0 hl0 hnl hns hH0 s0=>⟨l0,rfl,⟨_,AH.of hH0⟩,?_⟩⟩
  have hnl4:ns.length=4:=by omega
  refine Ej (K:=K) (a:=l0) (xs:=ns.map V.int) (λi ys H2=>H2=H0/\∃ cs:List Str,cs.length=i/\(∀ c∈cs,CM c)/\ys=cs.map V.str) ⟨rfl,[],rfl,(λ_ h=>nomatch h),rfl⟩ ?_ ?_ ?_ ?_
  ·rintro i ys H2 hi ⟨rfl,cs,hc,_,rfl⟩
   exact ⟨AH.of hH0,by rw [D0,hc];exact P0 _⟩
  ·rw [D0,hnl4];decide
  ·rintro i x ys H2 hx ⟨rfl,cs,hc,hcl,rfl⟩
   obtain ⟨n,rfl,hn'⟩:=Jo hx
   walk_at "sx"
   have hm:=mod_lt (x:=n) hz1
   refine ⟨zs.length,Bo.mpr (.inl ⟨_,AH.of (s0 l _ hl),by rw [D0]⟩),by omega,Dg (AH.of (s0 l _ hl)) hm.1 (by rw [D0];exact hm.2) λv hv=>?_⟩
   obtain ⟨z,hzm,rfl⟩:=j1.mp hv
   refine ⟨rfl,cs++[z],by rw [B0,hc];rfl,λc hcm=>?_,by rw [A1];rfl⟩
   rcases T0.mp hcm with q | q
   ·exact hcl c q
   ·rw [M0.mp q];exact hz3 z hzm
  ·rintro ys H2 ⟨rfl,cs,hc,hcl,rfl⟩ D hD
   rw [D0,hnl4] at hc
   obtain ⟨c0,c1,c2,c3,rfl⟩:∃ c0 c1 c2 c3:Str,cs=[c0,c1,c2,c3]:=by
    match cs,hc with
    |[c0,c1,c2,c3],_=>exact ⟨_,_,_,_,rfl⟩
   have sG:Ag H (upd H2 D (.lst ([c0,c1,c2,c3].map V.str))):=s0.trans (Ag.upd hD)
   generalize hG:upd H2 D (.lst ([c0,c1,c2,c3].map V.str))=G at sG
   have hDG:G D=some (.lst [V.str c0,V.str c1,V.str c2,V.str c3]):=by rw [<- hG];exact Ac
   clear hG
   walk_at "sy"
   have fin:∀ {G':Hp} {m:Nat} (z:Str) (r:List V),Ag H G'->m<=sizeLine->Jz z r->AL z=[]->m<=sizeLine/\∀ p:Addr,G' p=none->Q (.ref p) (upd G' p (.tup (.str z::r))):=λ{G' m} z r s' hm e1 e2 =>
    ⟨hm,λp hp=>k p z r _ (s'.free hp) Ac e1 e2 (s'.trans (Ag.upd hp))⟩
   have at_:∀ {G':Hp} {R:VK} (j:Int),Ag G G'->0<=j->j<4->(∀ z:Str,CM z->R (.str z) G')->Ew K (.ref D) (.int j) G' R:=λ{G' R} j s' h0 h1 f =>
    Dg (AH.of (s' D _ hDG)) h0 h1 λv hv=>by
     obtain ⟨z,hz,rfl⟩:=j1.mp (show v∈[c0,c1,c2,c3].map V.str from hv)
     exact f z (hcl z hz)
   have two:∀ {G':Hp} {R:VK} (a b:Str) (j:Int),Ag G G'->0<=j->j<2->(∀ z G2,(z=a\/z=b)->Ag G G2->R (.str z) G2)->2<=sizeLine/\∀ p:Addr,G' p=none->Ew K (.ref p) (.int j) (upd G' p (.lst [V.str a,V.str b])) R:=λ{G' R} a b j s' h0 h1 f =>
    ⟨by decide,λp hp=>Dg (AH.of Ac) h0 h1 λv hv=>by
     rcases L0.mp hv with rfl | hv
     ·exact f a _ (.inl rfl) (s'.trans (Ag.upd hp))
     ·rw [M0.mp hv];exact f b _ (.inr rfl) (s'.trans (Ag.upd hp))⟩
   refine ⟨⟨by decide,by decide⟩,_,_,rfl,by omega,⟨zs,sG l _ hl,hz1,hz2,hz3⟩,λvv G1 hvv hvl s1=>?_⟩
   have sH:∀ {G2:Hp},Ag G G2->Ag H G2:=λs=>sG.trans s
   refine ⟨by decide,⟨by decide,by decide⟩,by decide,rfl,?_⟩
   have st:∀ {z:Str},CM z->TV (.str z):=λh=>h.tv
   have nv:∀ {z:Str},CM z->JP (.str z):=λh=>⟨_,rfl,h⟩
   have pw:∀ {z a b:Str},(z=a\/z=b)->plW a->plW b->plW z:=λh ha hb=>by
    rcases h with rfl | rfl
    ·exact ha
    ·exact hb
   by_cases w0:x%11=0
   ·exact Dh w0 ⟨⟨by decide,by decide⟩,by decide,fin _ _ (sH s1) (by decide) (pln (by decide +kernel) (by decide +kernel) (by decide +kernel) (No (TV.int (by omega) (by omega))) (show 1<=4 by decide) (.wait ⟨_,rfl,by omega,by omega⟩)) (by decide +kernel)⟩
   refine Du w0 ?_
   by_cases w3:x%11<3
   ·refine Dh w3 (two _ _ _ s1 (by omega) (by omega) λz G2 hz s2=>at_ 0 s2 (by decide) (by decide) λv hv=>?_)
    have p:=pw hz (by decide +kernel) (by decide +kernel)
    exact fin z _ (sH s2) (by decide) (pln p.1 p.2.1 p.2.2 (No (st hv)) (show 1<=4 by decide) (.one (by rcases hz with e | e;exact .inl e;exact .inr (.inl e)) (nv hv))) p.1
   refine Du w3 ?_
   by_cases w5:x%11<5
   ·refine Dh w5 (two _ _ _ s1 (by omega) (by omega) λz G2 hz s2=>at_ 0 s2 (by decide) (by decide) λv hv=>?_)
    have p:=pw hz (by decide +kernel) (by decide +kernel)
    exact fin z _ (sH s2) (by decide) (pln p.1 p.2.1 p.2.2 (tv2 (st hv) hvv) (show 2<=4 by decide) (.val hz (nv hv) hvl)) p.1
   refine Du w5 ?_
   by_cases w7:x%11<7
   ·refine Dh w7 (two _ _ _ s1 (by omega) (by omega) λz G2 hz s2=>at_ 0 s2 (by decide) (by decide) λv hv=>at_ 1 s2 (by decide) (by decide) λv2 hv2=>?_)
    have p:=pw hz (by decide +kernel) (by decide +kernel)
    exact fin z _ (sH s2) (by decide) (pln p.1 p.2.1 p.2.2 (tv2 (st hv) (st hv2)) (show 2<=4 by decide) (.two hz (nv hv) (nv hv2))) p.1
   refine Du w7 ⟨rfl,?_⟩
   by_cases w8:x%11=7
   ·refine Dh w8 ⟨by decide,λp hp=>⟨⟨by decide,by decide⟩,by decide,?_⟩⟩
    refine (two _ _ _ s1 (by omega) (by omega) λz G2 hz s2=>at_ 0 s2 (by decide) (by decide) λv hv=>?_).2 p hp
    have p:=pw hz (by decide +kernel) (by decide +kernel)
    exact fin z _ (sH s2) (by decide) (pln p.1 p.2.1 p.2.2 (No (st hv)) (show 1<=4 by decide) (.one (by rcases hz with e | e;exact .inr (.inr (.inl e));exact .inr (.inr (.inr e))) (nv hv))) p.1
   refine Du w8 ⟨rfl,?_⟩
   refine Lv ?_ ⟨rfl,Lv ?_ ?_⟩
   ·refine ⟨⟨by decide,by decide⟩,by decide,by decide,λp hp=>⟨⟨by decide,by decide⟩,by decide,?_⟩⟩
    have s2:=s1.trans (Ag.upd (o:=.lst [V.int 0,V.int (1+x / 22%99)]) hp)
    refine Dg (AH.of Ac) (by omega) (by simp only [J0,K1];omega) λv hv=>at_ 0 s2 (by decide) (by decide) λv2 h2=>at_ 1 s2 (by decide) (by decide) λv3 h3=>at_ 2 s2 (by decide) (by decide) λv4 h4=>?_
    obtain ⟨l,rfl,hl0,hl1⟩:∃ l:Int,v=.int l/\0<=l/\l<=99:=by
     rcases L0.mp hv with rfl | hv
     ·exact ⟨_,rfl,by decide,by decide⟩
     ·rw [M0.mp hv];exact ⟨_,rfl,by omega,by omega⟩
    refine fin _ _ (sH s2) (by decide) ⟨_,_,rfl,.inl ⟨by decide +kernel,by decide +kernel,λt ht=>?_,(show 4<=4 by decide),⟨λ_=>⟨v2,v3,v4,l,rfl,hl0⟩,.begin (nv h2) (nv h3) (nv h4) ⟨l,rfl,hl0,hl1⟩⟩⟩⟩ (by decide +kernel)
    simp only [L0,E1,or_false] at ht
    rcases ht with rfl | rfl | rfl | rfl
    ·exact st h2
    ·exact st h3
    ·exact st h4
    ·exact TV.int hl0 (by omega)
   ·exact fin _ _ (sH s1) (by decide) (pln (by decide +kernel) (by decide +kernel) (by decide +kernel) (No hvv) (show 1<=4 by decide) (.give hvl)) (by decide +kernel)
   ·exact at_ 3 s1 (by decide) (by decide) λv hv=>fin _ _ (sH s1) (by decide) (pln (by decide +kernel) (by decide +kernel) (by decide +kernel) (No (st hv)) (show 1<=4 by decide) (.one (.inl rfl) (nv hv))) (by decide +kernel)
theorem Fb:Av ["_law_x", "_law_names_here", "_law_name", "_law_way"] ["_law_x", "_law_names_here"] (Aj (top 48)):=⟨rfl,rfl,rfl,by decide +kernel,rfl,by decide +kernel,by decide +kernel⟩
theorem Mt (T:Tx P w K mg)
  (G_l_value_by:Au P w K mg base CX0 1 T.d_l_value_by.f T.d_l_value_by.fd ["_law_x", "_law_names_here"] (Hi)):Au P w K mg base CX0 2 T.d_l_opened.f T.d_l_opened.fd ["_law_x", "_law_names_here"] (LZ):=by
 refine T.d_l_opened.F.ok Fb (λvs H Q E h=>?_) (λcdv A outer s H vs Q E hr h=>?_)
 ·obtain ⟨x,l,rfl,_⟩:=h
  rfl
 ·obtain ⟨x,l,rfl,hx,hN,k⟩:=h
  obtain ⟨zs,hl,hz1,hz2,hz3⟩:=id hN
  refine ⟨_,(Ae (Ax (i:=2) Fb.nd rfl (Or.inl rfl) (An As (pv 1) (Am AU (Am Bk (pv 0) Ad) (AA AX (by rfl) T.n_len BB (Aa (pv 1) Ab))) (λ_ _=>rfl)))
  (Ae (Ax (i:=3) Fb.nd rfl (Or.inl rfl) (Am AU (pv 0) Ad))
  (Ae (AD (Ak Bg (pv 3) Ad (At _))
  (Af (Al (Ai (Aa Ao (Aa (Bl (Aa (pv 2) Ab)) (Aa (Ai (Aa (Ai Ab) Ab)) (Aa BL Ab)))))))
  Ap)
  (Ae (AD (Ak Bg (pv 3) Ad (At _))
  (Af (Al (Ai (Aa Ao (Aa (Bl (Aa (Am Cb Ad (Am AU (Am Bk (pv 0) Ad) Ad)) Ab)) (Aa (Ai (Aa (Ai Ab) Ab)) (Aa BL Ab)))))))
  Ap)
  (Ae (AD (Ak Bg (pv 3) Ad (At _))
  (Af (Al (Ai (Aa Ao (Aa (Bl Ab) (Aa (Ai (Aa (Ai Ab) Ab)) (Aa BL Ab)))))))
  Ap)
  (Ae (AD (Ak Bg (pv 3) Ad (At _))
  (Af (Al (Ai (Aa Ao (Aa (Bl Ab) (Aa (Ai (Aa (Ai Ab) Ab)) (Aa (An As (Ai (Aa (pv 2) (Aa Ao Ab))) (Am AU (Am Bk (pv 0) Ad) Ad) (λ_ _=>rfl)) Ab)))))))
  Ap)
  (Ae (AD (Ak Bg (pv 3) Ad (At _))
  (Af (Al (Ai (Aa Ao (Aa (Bl Ab) (Aa (Ai (Aa (Ai Ab) Ab)) (Aa BL Ab)))))))
  Ap)
  (Ae (AD (Ak Bg (pv 3) Ad (At _))
  (Af (Al (Ai (Aa Ao (Aa (Bl (Aa (pv 2) (Aa (Ar G_l_value_by (hr.mono (by omega)) rfl T.d_l_value_by.hm T.d_l_value_by.F.kp T.d_l_value_by.b .nil Ay (Aa (Am Bk (pv 0) Ad) (Aa (pv 1) Ab))) Ab))) (Aa (Ai (Aa (Ai Ab) Ab)) (Aa BL Ab)))))))
  Ap)
  (Af (Al (Ai (Aa Ao (Aa (Bl (Aa (Am Cb Ad (Am AU (Am Bk (pv 0) Ad) Ad)) Ab)) (Aa (Ai (Aa (Ai Ab) Ab)) (Aa BL Ab))))))))))))))),?_⟩
  walk_at "sy"
  have len:OA K (.ref l) H zs.length:=Bo.mpr (.inl ⟨_,AH.of hl,by rw [D0]⟩)
  have hm:=mod_lt (x:=x / 7) hz1
  refine ⟨⟨by decide,by decide⟩,zs.length,len,by omega,Dg (AH.of hl) hm.1 (by rw [D0];exact hm.2) λv hv=>?_⟩
  have hv1:=RW hz3 hv
  have hn1:=Jd hz3 hv
  have two2:∀ {a v2:V},QH a->v2∈[a,V.str "any"]->QH v2:=λha h=>by
   rcases L0.mp h with rfl | h
   ·exact ha
   ·rw [M0.mp h];exact ⟨_,rfl,by decide +kernel⟩
  have two3:∀ {a v2:V},JP a->v2∈[a,V.str "any"]->Gc "try" [] v2:=λha h=>by
   rcases L0.mp h with rfl | h
   ·obtain ⟨z,rfl,hz⟩:=ha
    exact .try_ (.inl hz)
   ·rw [M0.mp h];exact .try_ (.inr rfl)
  have mk:∀ {G:Hp} {m:Nat} (z:Str) (th:List V) (hw:LN z) (hz:z≠"errand") (hth:ThOk z th .non),Ag H G->m<=sizeLine->m<=sizeLine/\∀ p:Addr,G p=none->0<=sizeLine/\∀ p1:Addr,upd G p (.tup th) p1=none->1<=sizeLine/\∀ p2:Addr,upd (upd G p (.tup th)) p1 (.lst []) p2=none->4<=sizeLine/\∀ p3:Addr,upd (upd (upd G p (.tup th)) p1 (.lst [])) p2 (.lst [.ref p1]) p3=none->Q (.ref p3) (upd (upd (upd (upd G p (.tup th)) p1 (.lst [])) p2 (.lst [.ref p1])) p3 (.lst [.str z,.ref p,.ref p2,.non])) :=
   λ{G m} z th hw hz hth s hm=>⟨hm,λp hp=>⟨by decide,λp1 hp1=>⟨by decide,λp2 hp2=>⟨by decide,λp3 hp3=>k _ _ (Lm (s.trans (Ag.upd hp)) Ac hp1 hp2 (Ag.refl _) hp3 hw hth) hz⟩⟩⟩⟩
  have sR:=Ag.refl H
  refine ⟨by decide,rfl,Lv (mk _ _ (by decide +kernel) (by decide +kernel) (LQ (by decide +kernel) (by decide +kernel) (by decide +kernel) hv1.tv (.name (.inr rfl) hn1)) sR (by decide)) ⟨rfl,?_⟩⟩
  refine Lv ⟨⟨by decide,by decide⟩,by decide,mk _ _ (by decide +kernel) (by decide +kernel) (LQ (by decide +kernel) (by decide +kernel) (by decide +kernel) (TV.int (by omega) (by omega)) (.limit ⟨_,rfl,by omega,by omega⟩)) sR (by decide)⟩ ⟨rfl,?_⟩
  refine Lv (mk _ _ (by decide +kernel) (by decide +kernel) (QQ (by decide +kernel) (λe=>absurd e (by decide +kernel)) (.bare (.inl rfl))) sR (by decide)) ⟨rfl,?_⟩
  refine Lv ⟨by decide,λp hp=>⟨by decide,λp1 hp1=>⟨by decide,λp2 hp2=>⟨by decide,λp3 hp3=>⟨⟨by decide,by decide⟩,by decide,?_⟩⟩⟩⟩⟩ ⟨rfl,?_⟩
  ·exact Dg (AH.of Ac) (by omega) (by simp only [J0,K1];omega) λv2 hv2=>⟨by decide,λp4 hp4=>k _ _ (Lm (Ag.upd hp) Ac hp1 hp2 (Ag.upd hp3) hp4 (by decide +kernel) (QQ (by decide +kernel) (λ_=>two2 hv1 hv2) (two3 hn1 hv2))) (show ("try":Str)≠"errand" by decide +kernel)⟩
  refine Lv (mk _ _ (by decide +kernel) (by decide +kernel) (QQ (by decide +kernel) (λe=>absurd e (by decide +kernel)) (.bare (.inr rfl))) sR (by decide)) ⟨rfl,?_⟩
  refine Lv ⟨⟨by decide,by decide⟩,_,_,rfl,by omega,hN,λv2 H2 hv2 hvl2 s2=>mk _ _ (by decide +kernel) (by decide +kernel) ⟨(show (2:Nat)=Cj "when" by decide +kernel),tv2 hv1.tv hv2,(λ_ t ht=>by cases ht;exact hv1),(λe=>absurd e (by decide +kernel)),.when hn1 hvl2⟩ s2 (by decide)⟩ ?_
  exact ⟨⟨by decide,by decide⟩,by decide,mk _ _ (by decide +kernel) (by decide +kernel) (LQ (by decide +kernel) (by decide +kernel) (by decide +kernel) (TV.int (by omega) (by omega)) (.rep ⟨_,rfl,by omega,by omega⟩)) sR (by decide)⟩
theorem BX:Av ["_law_frame", "_law_word", "_law_things", "_law_lists", "_law_fault", "_law_head", "_law_rows"] ["_law_frame"] (Aj (top 49)):=⟨rfl,rfl,rfl,by decide +kernel,rfl,by decide +kernel,by decide +kernel⟩
theorem Mu (T:Tx P w K mg):Au P w K mg base CX0 1 T.d_l_closed.f T.d_l_closed.fd ["_law_frame"] (GG):=by
 refine T.d_l_closed.F.ok BX (λvs H Q E h=>?_) (λcdv A outer s H vs Q E hr h=>?_)
 ·obtain ⟨F,n,rfl,_⟩:=h
  rfl
 ·obtain ⟨F,n,rfl,hF,h2n,hc,k⟩:=h
  refine ⟨_,(Ae (RD (pv 0) (pg_lst (n:=4) rfl (BD (AJ (i:=1) BX.nd rfl (Or.inl rfl)) (BD (AJ (i:=2) BX.nd rfl (Or.inl rfl)) (BD (AJ (i:=3) BX.nd rfl (Or.inl rfl)) (BD (AJ (i:=4) BX.nd rfl (Or.inl rfl)) EL))))))
  (Ae (Ax (i:=5) BX.nd rfl (Or.inl rfl) (Am Ey (Bl (Aa (pv 1) (Aa (Am Cb Ad (AA AX (by rfl) T.n_len BB (Aa (An As (pv 3) Ad (λ_ _=>rfl)) Ab))) Ab))) (pv 2)))
  (Im (AD (PW.pt (Dq (Ak Cg (pv 1) (Ai (De (zs:=["try", "do", "limit"]) (by decide +kernel))) (by with_unfolding_all rfl)) (Db (Ak Bg (AA AX (by rfl) T.n_len BB (Aa (pv 3) Ab)) Ad (At _)))))
  (Af (Ax (i:=3) BX.nd rfl (Or.inl rfl) (Am DR (pv 3) (Ai (Aa (Ai Ab) Ab)))))
  Ap)
  (Ae (Fd (i:=6) BX.nd rfl (Or.inl rfl) (N':=["_law_part"]) (sel:=[none]) rfl rfl rfl (DF (pv 3)) (Cc rfl) (λ_ _ _ _ _=>⟨(AJ (i:=0) (show (["_law_part"]:List Str).Nodup by decide +kernel) rfl (Or.inl rfl)),CN,(AY (Jw (K:=K) rfl) (by rfl) T.n_tuple BJ (Aa (pv 0) Ab))⟩) rfl)
  (Im (AD (Ak Bg (pv 1) Ao (At _))
  (Af (Al (Am Ey (pv 5) (Bl (Aa (An As (pv 6) Ad (λ_ _=>rfl)) (Aa (pv 4) (Aa (An As (pv 6) Ad (λ_ _=>rfl)) Ab)))))))
  Ap)
  (Af (Al (Am Ey (pv 5) (AY Be (by rfl) T.n_tuple BJ (Aa (pv 6) Ab)))))))))),?_⟩
  walk_at "sy"
  refine ⟨F.f,_,rfl,AH.of hF.hf,rfl,?_⟩
  simp only [Gi,Lx]
  walk_at "sy"
  have ps1:0<F.ps.length:=by rcases hF.one with e | ⟨e,_⟩<;>omega
  have hr0:F.rss[0]?=some (F.rss[0]'(by have:=hF.len;omega)):=u0 _
  have hp0:F.ps[0]?=some F.ps[0]:=u0 ps1
  have hth2:F.th.length<=2:=by
   rw [hF.things]
   rcases hF.word with e | e | e | e | e | e | e | e<;>rw [e]<;>decide +kernel
  have b10:(2010:Nat)<=sizeLine:=by decide
  refine ⟨F.L,_,_,.ref F.ps[0],rfl,rfl,AH.of hF.hL,AV (j:=0) (by rw [Q1,hp0];rfl),_,Bo.mpr (.inl ⟨_,AH.of (hF.hp 0 _ _ hp0 hr0),rfl⟩),by decide,λp hp=>?_⟩
  refine HE Ac ((Ag.upd hp) _ _ hF.ht) (by simp) (by simp only [J0,K1];omega) λhd G hG sG0=>?_
  have sG:Ag H G:=(Ag.upd hp).trans sG0
  have hFG:=hF.same sG
  generalize (1+((F.rss[0]'(by have:=hF.len;omega)).length:Int))=li at hG
  clear hp sG0
  refine ⟨λσ' G'=>∃ (L':Addr) (ps':List Addr) (rss':List (List V)),σ'=[some (.ref F.f),some (.str F.z),some (.ref F.t),some (.ref L'),some F.fa,some (.ref hd),none]/\G' L'=some (.lst (ps'.map V.ref))/\ps'.length=rss'.length/\(∀ (i:Nat) (p:Addr) (rs:List V),ps'[i]?=some p->rss'[i]?=some rs->G' p=some (.lst rs))/\(BH F.z->ps'.length=2)/\(¬ BH F.z->ps'.length=1)/\(∀ rs∈rss',∀ r∈rs,AF n H r)/\(rss'.flatMap λrs=>rs.flatMap (Bp n H)).length<=F.c/\Ag G G',?_,?_⟩
  ·walk_at "sy"
   refine ⟨by decide,λq hq=>⟨q,_,rfl,.inl (AH.of Ac),rfl,rfl,decide (BH F.z),congrArg V.bl (inTwo F.z),?_⟩⟩
   have s1:Ag G (upd G q (.lst [V.str "try",V.str "do",V.str "limit"])):=Ag.upd hq
   generalize upd G q (.lst [V.str "try",V.str "do",V.str "limit"])=G1 at s1 |-
   have hF1:=hFG.same s1
   have keep:(BH F.z->F.ps.length=2)->(¬ BH F.z->F.ps.length=1)->∃ x,G1 F.L=some (HO.lst (d6 V.ref x))/\∃ x_1,x.length=x_1.length/\(∀ (i:Nat) (p:Addr) (rs:List V),x[i]?=some p->x_1[i]?=some rs->G1 p=some (HO.lst rs))/\(BH F.z->x.length=2)/\(¬BH F.z->x.length=1)/\(∀ (rs:List V),rs∈x_1->∀ (r:V),r∈rs->AF n H r)/\(List.flatMap (λrs=>List.flatMap (Bp n H) rs) x_1).length<=F.c/\Ag G G1 :=
    λa b=>⟨F.ps,hF1.hL,F.rss,hF1.len,hF1.hp,a,b,hF.rows,hF.wt,s1⟩
   by_cases hT:BH F.z
   ·refine Dh hT ⟨_,Bo.mpr (.inl ⟨_,AH.of hF1.hL,rfl⟩),rfl,?_⟩
    rw [D0]
    by_cases h1:F.ps.length=1
    ·refine Dh (by omega) ⟨by decide,λq1 hq1=>⟨by decide,λq2 hq2=>?_⟩⟩
     have s2:=Ag.upd (o:=.lst []) hq1
     have s3:=Ag.upd (o:=.lst [.ref q1]) hq2
     refine ⟨F.L,q2,_,_,rfl,rfl,(s2.trans s3) _ _ hF1.hL,Ac,by rw [D0,h1];show 2<=sizeLine;decide,λq3 hq3=>⟨q3,rfl,F.ps++[q1],by rw [Ac,A1];rfl,F.rss++[[]],?_,?_,λ_=>?_,λh=>absurd hT h,?_,?_,((s1.trans s2).trans s3).trans (Ag.upd hq3)⟩⟩
     ·rw [B0,B0,hF.len];rfl
     ·have s4:=Ag.upd (o:=.lst (F.ps.map V.ref++[.ref q1])) hq3
      intro i p rs hpi hri
      by_cases hi:i<F.ps.length
      ·rw [X0 hi] at hpi
       rw [X0 (by have:=hF.len;omega)] at hri
       exact ((s2.trans s3).trans s4) _ _ (hF1.hp i p rs hpi hri)
      ·rw [L1 (by omega)] at hpi
       rw [L1 (by have:=hF.len;omega)] at hri
       have e1:=(W0.mp hpi).1
       have e2:i-F.ps.length=0:=by simp only [J0,K1] at e1;omega
       rw [e2] at hpi
       rw [<- hF.len,e2] at hri
       cases hpi
       cases hri
       exact (s3.trans s4) _ _ Ac
     ·rw [B0,h1];rfl
     ·intro rs hrs r hr
      rcases T0.mp hrs with hrs | hrs
      ·exact hF.rows rs hrs r hr
      ·rw [M0.mp hrs] at hr;cases hr
     ·rw [L3,B0]
      have:=hF.wt
      simp only [N1,R4,K1,o0]
      omega
    ·refine Du (by omega) (keep (λ_=>?_) λh=>absurd hT h)
     rcases hF.one with e | ⟨e,_⟩
     ·exact absurd e h1
     ·exact e
   ·refine Du hT (keep (λh=>absurd h hT) λ_=>?_)
    rcases hF.one with e | ⟨_,e⟩
    ·exact e
    ·exact absurd e hT
  ·rintro σ' G' ⟨L',ps',rss',rfl,hL',hlen',hp',h2,h1,hrows,hwt,sG'⟩
   have l2:ps'.length<=2:=by
    by_cases e:BH F.z
    ·rw [h2 e];exact P0 _
    ·rw [h1 e];decide
   refine ⟨_,rfl,L',rfl,⟨_,AH.of hL'⟩,?_⟩
   refine Ej (K:=K) (a:=L') (xs:=ps'.map V.ref) (λi ys H2=>∃ bs:List Addr,ys=bs.map V.ref/\bs.length=i/\(∀ (j:Nat) (b:Addr) (rs:List V),bs[j]?=some b->rss'[j]?=some rs->H2 b=some (.tup rs))/\Ag G' H2) ⟨[],rfl,rfl,(λj b rs h=>nomatch h),Ag.refl _⟩ ?_ ?_ ?_ ?_
   ·rintro i ys H2 hi ⟨bs,rfl,hbl,hbs,s2⟩
    exact ⟨AH.of (s2 _ _ hL'),by rw [D0,hbl];exact P0 _⟩
   ·rw [D0];omega
   ·rintro i x ys H2 hx ⟨bs,rfl,hbl,hbs,s2⟩
    rw [Q1] at hx
    cases e:ps'[i]? with
    |none=>rw [e] at hx;cases hx
    |some p =>
     rw [e] at hx
     cases hx
     have hlt:=(W0.mp e).1
     have hri:rss'[i]?=some (rss'[i]'(by omega)):=u0 _
     have hpr:=hp' i p _ e hri
     walk_at "sx"
     refine ⟨_,.inl ⟨AH.of (s2 _ _ hpr),λb hb=>⟨bs++[b],by rw [A1];rfl,by rw [B0,hbl];rfl,?_,s2.trans (Ag.upd hb)⟩⟩⟩
     intro j b' rs hj hrj
     by_cases hjl:j<bs.length
     ·rw [X0 hjl] at hj
      exact (Ag.upd hb) _ _ (hbs j b' rs hj hrj)
     ·rw [L1 (by omega)] at hj
      have e1:=(W0.mp hj).1
      have e2:j-bs.length=0:=by simp only [J0,K1] at e1;omega
      rw [e2] at hj
      cases hj
      rw [show j=i by omega,hri] at hrj
      cases hrj
      exact Ac
   ·rintro ys H2 ⟨bs,rfl,hbl,hbs,s2⟩ D hD
    rw [D0] at hbl
    have sD:=Ag.upd (o:=.lst (bs.map V.ref)) hD
    have sA:Ag H (upd H2 D (.lst (bs.map V.ref))):=((sG.trans sG').trans s2).trans sD
    have hDD:upd H2 D (.lst (bs.map V.ref)) D=some (.lst (bs.map V.ref)):=Ac
    have hbD:∀ (j:Nat) (b:Addr) (rs:List V),bs[j]?=some b->rss'[j]?=some rs->upd H2 D (.lst (bs.map V.ref)) b=some (.tup rs):=λj b rs a c=>sD _ _ (hbs j b rs a c)
    have hhd:upd H2 D (.lst (bs.map V.ref)) hd=some (.tup ([V.str F.z,V.int li]++F.th)):=((sG'.trans s2).trans sD) _ _ hG
    generalize upd H2 D (.lst (bs.map V.ref))=G3 at sA hDD hbD hhd |-
    have done:∀ (a:Addr) (G4:Hp),G4 a=some (.tup ([V.str F.z,V.int li]++F.th++(if F.z="try" then Nu bs F.fa else bs.map V.ref)))->Ag G3 G4->Q (.ref a) G4:=λa G4 ha s4 =>
     k (.ref a) G4 (made_of h2n (rss:=rss') (th:=F.th) (i:=li) (fa:=F.fa) ⟨hF.word,rfl,hF.tv,hF.sv,hF.things,hF.fv,λe=>by rw [hbl];exact h2 e,λe=>by rw [hbl];exact h1 e⟩ (by omega) (λj b rs a c=>s4 _ _ (hbD j b rs a c)) (λrs hrs r hr=>(hrows rs hrs r hr).same (sA.trans s4))
      (by
       have e:(rss'.flatMap λrs=>rs.flatMap (Bp n G4))=rss'.flatMap λrs=>rs.flatMap (Bp n H):=AC λrs hrs=>AC λr hr=>Cp (AE (sA.trans s4)) (hrows rs hrs r hr)
       rw [e];exact hwt) ha) (sA.trans s4)
    refine ⟨λσ' H'=>F.z≠"try"/\σ'=[some (.ref F.f),some (.str F.z),some (.ref F.t),some (.ref L'),some F.fa,some (.ref hd),some (.ref D)]/\H'=G3,?_,?_⟩
    ·walk_at "sy"
     refine ⟨rfl,?_⟩
     by_cases hz:F.z="try"
     ·have b2:bs.length=2:=by rw [hbl];exact h2 (.inl hz)
      obtain ⟨b0,b1,rfl⟩:=Gz b2
      refine Dh hz ⟨D,_,_,.ref b0,rfl,rfl,AH.of hDD,AV (j:=0) rfl,D,_,_,.ref b1,rfl,rfl,AH.of hDD,AV (j:=1) rfl,by decide,λp hp=>?_⟩
      refine HE ((Ag.upd hp) _ _ hhd) Ac (by simp) (by simp only [B0,J0,K1];omega) λa G4 ha s4=>done a G4 ?_ ((Ag.upd hp).trans s4)
      rw [ha,if_pos hz]
      rfl
     ·exact Du hz hz
    ·rintro σ' H' ⟨hz,rfl,rfl⟩
     walk_at "sy"
     refine ⟨_,.inl ⟨AH.of hDD,λp hp=>?_⟩⟩
     refine HE ((Ag.upd hp) _ _ hhd) Ac (by simp) (by simp only [B0,J0,K1,D0];omega) λa G4 ha s4=>done a G4 ?_ ((Ag.upd hp).trans s4)
     rw [ha,if_neg hz]
theorem GH:Av ["_law_errands", "_law_stack", "_law_x", "_law_names_here", "_law_deep", "_law_way", "_law_more", "_law_made"] ["_law_errands", "_law_stack", "_law_x", "_law_names_here", "_law_deep"] (Aj (top 50)):=⟨rfl,rfl,rfl,by decide +kernel,rfl,by decide +kernel,by decide +kernel⟩
theorem RO (T:Tx P w K mg)
  (G_l_opened:Au P w K mg base CX0 2 T.d_l_opened.f T.d_l_opened.fd ["_law_x", "_law_names_here"] (LZ))
  (G_l_closed:Au P w K mg base CX0 1 T.d_l_closed.f T.d_l_closed.fd ["_law_frame"] (GG))
  (G_l_plain:Au P w K mg base CX0 3 T.d_l_plain.f T.d_l_plain.fd ["_law_x", "_law_names_here"] (KN)):Au P w K mg base CX0 4 T.d_l_put.f T.d_l_put.fd ["_law_errands", "_law_stack", "_law_x", "_law_names_here", "_law_deep"] (spPut):=by
 refine T.d_l_put.F.ok GH (λvs H Q E h=>?_) (λcdv A outer s H vs Q E hr h=>?_)
 ·obtain ⟨ea,sa,na,x,d,H0,Fs,c,t,rfl,_⟩:=h
  rfl
 ·obtain ⟨ea,sa,na,x,d,H0,Fs,c,t,rfl,hx,hN,hne,hS,hc,ht,k⟩:=h
  refine ⟨_,(Ae (Ax (i:=5) GH.nd rfl (Or.inl rfl) (Am AU (pv 2) Ad))
  (Ae (Ax (i:=6) GH.nd rfl (Or.inl rfl) (Am Bk (pv 2) Ad))
  (Af (Lc (PW.pt (Dq (Ak Gf (pv 5) (Am Cb Ad (Am Gr Ad (AY HF (by rfl) T.n_int HG (Aa (pv 4) Ab)))) (At _)) (Db (Ak Gf (AA AX (by rfl) T.n_len BB (Aa (pv 1) Ab)) Ad (At _)))))
  (Af (AQ (Bx Z0 D1 C1 AR (pv 1) (Aa (Ar G_l_opened (hr.mono (by omega)) rfl T.d_l_opened.hm T.d_l_opened.F.kp T.d_l_opened.b .nil Ay (Aa (pv 6) (Aa (pv 3) Ab))) Ab))))
  (Af (Lc (PW.pt (Dq (Ak Bg (pv 5) Ad (At _)) (Dq (Ak Cg (An As (An As (pv 1) (DC CD Ad) (λ_ _=>rfl)) Ad (λ_ _=>rfl)) (Ai (De (zs:=["try", "do", "limit"]) (by decide +kernel))) (by with_unfolding_all rfl)) (Db (Ak Bg (AA AX (by rfl) T.n_len BB (Aa (An As (An As (pv 1) (DC CD Ad) (λ_ _=>rfl)) Ad (λ_ _=>rfl)) Ab)) Ad (At _))))))
  (Af (AQ (Bx Z0 D1 C1 AR (An As (An As (pv 1) (DC CD Ad) (λ_ _=>rfl)) Ad (λ_ _=>rfl)) (Aa (Ai Ab) Ab))))
  (Af (Lc (PW.pt (Dq (Ak Kl (pv 5) Ad (At _)) (Dq (Ak Kl (AA AX (by rfl) T.n_len BB (Aa (pv 1) Ab)) Ad (At _)) (Db (CS (PW.pt (Dq (BG (pv 4)) (Db (Ak Gf (AA AX (by rfl) T.n_len BB (Aa (pv 1) Ab)) Ad (At _))))))))))
  (Ae (Ax (i:=7) GH.nd rfl (Or.inl rfl) (Ar G_l_closed (hr.mono (by omega)) rfl T.d_l_closed.hm T.d_l_closed.F.kp T.d_l_closed.b .nil Ay (Aa (IV Z0 y4 x4 Jf (pv 1)) Ab)))
  (Af (AQ (Bx Z0 D1 C1 AR (An As (An As (An As (pv 1) (DC CD Ad) (λ_ _=>rfl)) Ad (λ_ _=>rfl)) (DC CD Ad) (λ_ _=>rfl)) (Aa (pv 7) Ab)))))
  (Af (Lc (PW.pt (Dq (Ak Bg (pv 5) Ad (At _)) (Db (Ak Bg (AA AX (by rfl) T.n_len BB (Aa (pv 1) Ab)) Ad (At _)))))
  (Ae (AQ (Bx Z0 D1 C1 AR (pv 0) (Aa (Ar G_l_closed (hr.mono (by omega)) rfl T.d_l_closed.hm T.d_l_closed.F.kp T.d_l_closed.b .nil Ay (Aa (IV Z0 y4 x4 Jf (pv 1)) Ab)) Ab)))
  (Af (AQ (Bx Z0 D1 C1 AR (pv 1) (Aa (Ai (Aa Ao (Aa (Bl (Aa (An As (pv 3) (Am AU (pv 6) (AA AX (by rfl) T.n_len BB (Aa (pv 3) Ab))) (λ_ _=>rfl)) Ab)) (Aa (Ai (Aa (Ai Ab) Ab)) (Aa BL Ab))))) Ab)))))
  (Af (AQ (Bx Z0 D1 C1 AR (An As (An As (An As (pv 1) (DC CD Ad) (λ_ _=>rfl)) Ad (λ_ _=>rfl)) (DC CD Ad) (λ_ _=>rfl)) (Aa (Ar G_l_plain (hr.mono (by omega)) rfl T.d_l_plain.hm T.d_l_plain.F.kp T.d_l_plain.b .nil Ay (Aa (pv 6) (Aa (pv 3) Ab))) Ab)))))))))))))),?_⟩
  walk_at "sy"
  obtain ⟨Gs,F,rfl⟩:=Da hne
  have hlen:(Gs++[F]).length=Gs.length+1:=by rw [B0];rfl
  have hle:=hS.le
  rw [hlen] at hle
  have lenS:∀ {G:Hp},SA H0 G sa ea (Gs++[F]) c t->OA K (.ref sa) G (Gs.length+1):=λh=>Bo.mpr (.inl ⟨_,AH.of h.hs,by rw [D0,hlen]⟩)
  have names:∀ {G:Hp},SA H0 G sa ea (Gs++[F]) c t->ES G na:=λh=>by
   obtain ⟨zs,a,b⟩:=hN
   exact ⟨zs,h.out _ _ a,b⟩
  refine ⟨by decide,⟨by decide,by decide⟩,?_⟩
  refine ⟨λH1=>H1=H/\Gs.length+1<21,λH1=>H1=H,?_,?_,?_⟩
  ·walk_at "sy"
   refine .inr ⟨.inl ⟨by decide,by decide⟩,?_⟩
   refine Lv ⟨_,lenS hS,?_⟩ trivial
   by_cases hlt:Gs.length+1<21
   ·exact Dh (by omega) hlt
   ·exact Du (by omega) trivial
  ·rintro H1 ⟨rfl,hlt⟩
   walk_at "sy"
   refine ⟨.inl ⟨_,AH.of hS.hs⟩,_,_,rfl,by omega,names hS,λF' G hn hz=>?_⟩
   refine ⟨sa,_,_,rfl,rfl,hn.2.2.2.2 _ _ hS.hs,?_,k _ _ ?_ ((hS.push hn (by rw [hlen];exact hlt) ⟨λe=>absurd e hz,λe=>by rw [hlen] at e;cases e⟩).mono (by omega) (by omega))⟩
   ·rw [D0,hlen];exact S3 hle (by decide)
   ·rw [B0];simp only [J0,K1];omega
  rintro H1 rfl
  refine ⟨λG=>Ag H1 G/\BH F.z/\F.ps.length=1,λG=>Ag H1 G,?_,?_,?_⟩
  ·walk_at "sy"
   refine ⟨rfl,Lv ?_ (Ag.refl _)⟩
   refine hS.readTop (hS.top.readZ ⟨by decide,λp hp=>⟨p,_,rfl,.inl (AH.of Ac),rfl,rfl,decide (BH F.z),congrArg V.bl (inTwo F.z),?_⟩⟩)
   have s1:=Ag.upd (o:=.lst [V.str "try",V.str "do",V.str "limit"]) hp
   have hS1:=hS.same s1
   by_cases h2:BH F.z
   ·refine Dh h2 (hS1.readTop (hS1.top.readL ⟨_,Bo.mpr (.inl ⟨_,AH.of hS1.top.hL,rfl⟩),rfl,?_⟩))
    rw [D0]
    by_cases h1:F.ps.length=1
    ·exact Dh (by omega) ⟨s1,h2,h1⟩
    ·exact Du (by omega) s1
   ·exact Du h2 s1
  ·rintro G ⟨sG,h2,h1⟩
   have hG:=hS.same sG
   walk_at "sy"
   refine hG.readTop (hG.top.readL ⟨.inl ⟨_,AH.of hG.top.hL⟩,by decide,λq hq=>?_⟩)
   obtain ⟨F',hS'⟩:=hG.addPart hq h1 h2
   refine ⟨F.L,_,_,rfl,rfl,(Ag.upd hq) _ _ hG.top.hL,?_,k _ _ ?_ (hS'.mono (by omega) (by omega))⟩
   ·rw [D0,h1];decide
   ·rw [B0];simp only [J0,K1];omega
  intro G sG
  have hG:=hS.same sG
  refine ⟨λG1=>G1=G/\0<Gs.length,λG1=>G1=G,?_,?_,?_⟩
  ·walk_at "sy"
   refine Lv ⟨_,lenS hG,?_⟩ trivial
   by_cases hlt:0<Gs.length
   ·refine Dh (by omega) (Lv ⟨_,lenS hG,Lv hlt trivial⟩ hlt)
   ·exact Du (by omega) trivial
  ·rintro G1 ⟨rfl,hlt⟩
   walk_at "sy"
   refine ⟨.inl ⟨_,AH.of hG.hs⟩,hG.closeIn hlt (by omega) (λp xs H1 h=>.inl ⟨_,h⟩) λH' Gs' hl' hS'=>k _ _ (by omega) (hS'.mono (by omega) (by omega))⟩
  rintro G1 rfl
  refine ⟨λG2=>G2=G1/\Gs.length=0,λG2=>G2=G1,?_,?_,?_⟩
  ·walk_at "sy"
   refine ⟨rfl,Lv ⟨_,lenS hG,rfl,?_⟩ trivial⟩
   by_cases hl0:Gs.length=0
   ·exact Dh (by omega) hl0
   ·exact Du (by omega) trivial
  ·rintro G2 ⟨rfl,hl0⟩
   walk_at "sy"
   obtain ⟨es,he1,he2,he3⟩:=hG.he
   refine ⟨.inl ⟨_,AH.of he1⟩,.inl ⟨_,AH.of hG.hs⟩,?_⟩
   obtain ⟨c',hc',hS',hF',hz⟩:=hG.pop
   refine hG.doPop ⟨F,_,rfl,hF',by have:=hG.le;rw [B0] at this;simp only [J0,K1] at this;exact ⟨by omega,by rw [hz];omega⟩,by omega,λv H2 hmade s2=>?_⟩
   rcases hmade with ⟨_,hE⟩ | ⟨e,_⟩
   ·have hS2:=hS'.same s2
    obtain ⟨es2,he1,he2,he3⟩:=hS2.he
    rw [hl0] at hE
    have hE2:Di 22 100 H2 v:=by
     exact ⟨hE.1,Q0 hE.2.1 (by omega),hE.2.2⟩
    have hS3:=hS2.addErr he1 hE2
    have hw:(Bp 23 H2 v).length<=F.c+1:=hE.2.1
    refine ⟨ea,es2,v,rfl,rfl,he1,S3 (Q0 he2 ht) (by decide),.inl ⟨_,AH.of hS3.hs⟩,?_⟩
    obtain ⟨zs,hl,hz1,hz2,hz3⟩:=hN
    have hl3:=hS3.out _ _ hl
    have hm:=mod_lt (x:=x / 16) hz1
    refine ⟨zs.length,Bo.mpr (.inl ⟨_,AH.of hl3,by rw [D0]⟩),by omega,Dg (AH.of hl3) hm.1 (by rw [D0];exact hm.2) λnm hnm=>?_⟩
    refine ⟨by decide,λp hp=>⟨by decide,λp1 hp1=>⟨by decide,λp2 hp2=>⟨by decide,λp3 hp3=>?_⟩⟩⟩⟩
    have hn:=Lm (z:="errand") (fa:=V.non) (th:=[nm]) (Ag.upd hp) Ac hp1 hp2 (Ag.refl _) hp3 (by decide +kernel) (LQ (by decide +kernel) (by decide +kernel) (by decide +kernel) (Jc hz3 hnm) (.name (.inl rfl) (Jd hz3 hnm)))
    refine ⟨sa,_,_,rfl,rfl,hn.2.2.2.2 _ _ hS3.hs,?_,k _ _ ?_ ((hS3.push hn (by omega) ⟨λ_=>hl0,λ_=>rfl⟩).mono (by omega) (P0 _))⟩
    ·rw [D0,hl0];decide
    ·rw [B0];simp only [J0,K1];omega
   ·exact absurd (hz.mpr hl0) e
  ·rintro G2 rfl
   walk_at "sy"
   refine hG.putRow (N:=λ_ H1=>Q V.non H1) (R:=λx _ H1=>KN [V.int (_ / 16),V.ref na] H1 (λy H1=>Ee x [y] H1 λ_ H1=>Q V.non H1) E0) (λp xs H1 h=>.inl ⟨_,h⟩) λp add=>?_
   refine ⟨_,_,rfl,by omega,names hG,λa z r H' hfree ha hz hpl s'=>?_⟩
   have hrow:AF (22-Gs.length) H' (.ref a):=by
    rw [show 22-Gs.length=(21-Gs.length)+1 by omega]
    exact ⟨a,z,r,rfl,ha,hz,λe=>absurd hpl e,λq hq=>by rw [BF,hpl] at hq;cases hq⟩
   have hone:(Bp (22-Gs.length) H' (.ref a)).length=1:=by
    unfold Bp
    rw [BV ha,BF,hpl];rfl
   refine add _ H' s' hrow (by omega) λH'' G' hS''=>k _ (Gs++[G']) ?_ (hS''.mono (by omega) (by omega))
   rw [B0];simp only [J0,K1];omega
theorem Cw:Av ["_law_cells", "_law_names_here", "_law_deep", "_law_errands", "_law_stack", "_law_turn", "_law_cell", "_law_made"] ["_law_cells", "_law_names_here", "_law_deep"] (Aj (top 51)):=⟨rfl,rfl,rfl,by decide +kernel,rfl,by decide +kernel,by decide +kernel⟩
theorem Li (T:Tx P w K mg)
  (G_l_mixed:Au P w K mg base CX0 1 T.d_l_mixed.f T.d_l_mixed.fd ["_law_x"] (KQ))
  (G_l_put:Au P w K mg base CX0 4 T.d_l_put.f T.d_l_put.fd ["_law_errands", "_law_stack", "_law_x", "_law_names_here", "_law_deep"] (spPut))
  (G_l_closed:Au P w K mg base CX0 1 T.d_l_closed.f T.d_l_closed.fd ["_law_frame"] (GG)):Au P w K mg base CX0 5 T.d_l_program.f T.d_l_program.fd ["_law_cells", "_law_names_here", "_law_deep"] (Ka):=by
 refine T.d_l_program.F.ok Cw (λvs H Q E h=>?_) (λcdv A outer s H vs Q E hr h=>?_)
 ·obtain ⟨ca,na,d,ns,rfl,_⟩:=h
  rfl
 ·obtain ⟨ca,na,d,ns,rfl,hca,hns,hN,k⟩:=h
  refine ⟨_,(Ae (Ax (i:=3) Cw.nd rfl (Or.inl rfl) (Ai Ab))
  (Ae (Ax (i:=4) Cw.nd rfl (Or.inl rfl) (Ai (Aa (Ai (Aa Ao (Aa (Bl (Aa (An As (pv 1) Ad (λ_ _=>rfl)) Ab)) (Aa (Ai (Aa (Ai Ab) Ab)) (Aa BL Ab))))) Ab)))
  (Ae (Dr PassesOwn.never rfl (Ld rfl T.n_enumerate (Aa (pv 0) Ab)) (Hs (n:=2) rfl (BD (AJ (i:=5) Cw.nd rfl (Or.inl rfl)) (BD (AJ (i:=6) Cw.nd rfl (Or.inl rfl)) EL)))
  (Af (AQ (Ar G_l_put (hr.mono (by omega)) rfl T.d_l_put.hm T.d_l_put.F.kp T.d_l_put.b .nil Ay (Aa (pv 3) (Aa (pv 4) (Aa (Ar G_l_mixed (hr.mono (by omega)) rfl T.d_l_mixed.hm T.d_l_mixed.F.kp T.d_l_mixed.b .nil Ay (Aa (Am Cb (Ar G_l_mixed (hr.mono (by omega)) rfl T.d_l_mixed.hm T.d_l_mixed.F.kp T.d_l_mixed.b .nil Ay (Aa (pv 6) Ab)) (Am Gr Ad (pv 5))) Ab)) (Aa (pv 1) (Aa (pv 2) Ab)))))))))
  (Ae (RC PassesOwn.never (Ak Kl (AA AX (by rfl) T.n_len BB (Aa (pv 4) Ab)) Ad (At _))
  (Ae (Ax (i:=7) Cw.nd rfl (Or.inl rfl) (Ar G_l_closed (hr.mono (by omega)) rfl T.d_l_closed.hm T.d_l_closed.F.kp T.d_l_closed.b .nil Ay (Aa (IV Z0 y4 x4 Jf (pv 4)) Ab)))
  (Af (AQ (Bx Z0 D1 C1 AR (An As (An As (An As (pv 4) (DC CD Ad) (λ_ _=>rfl)) Ad (λ_ _=>rfl)) (DC CD Ad) (λ_ _=>rfl)) (Aa (pv 7) Ab))))))
  (Af (Al (AY Be (by rfl) T.n_tuple BJ (Aa (Am DR (pv 3) (Ai (Aa (Ar G_l_closed (hr.mono (by omega)) rfl T.d_l_closed.hm T.d_l_closed.F.kp T.d_l_closed.b .nil Ay (Aa (IV Z0 y4 x4 Jf (pv 4)) Ab)) Ab))) Ab)))))))),?_⟩
  walk_at "sy"
  obtain ⟨zs,hna,hz1,hz2,hz3⟩:=id hN
  refine ⟨by decide,λea hea=>Dg (AH.of ((Ag.upd hea) _ _ hna)) (by decide) (by rw [D0];omega) λnm hnm=>?_⟩
  refine ⟨by decide,λp hp=>⟨by decide,λp1 hp1=>⟨by decide,λp2 hp2=>⟨by decide,λp3 hp3=>⟨by decide,λsa hsa=>?_⟩⟩⟩⟩⟩
  have hn:=Lm (z:="errand") (fa:=V.non) (th:=[nm]) (Ag.upd hp) Ac hp1 hp2 (Ag.refl _) hp3 (by decide +kernel) (LQ (by decide +kernel) (by decide +kernel) (by decide +kernel) (Jc hz3 hnm) (.name (.inl rfl) (Jd hz3 hnm)))
  have hS0:=SA.first hea hn rfl hsa
  generalize upd (upd (upd (upd (upd (upd H ea (.lst [])) p (.tup [nm])) p1 (.lst [])) p2 (.lst [.ref p1])) p3 (.lst [.str "errand",.ref p,.ref p2,.non])) sa (.lst [.ref p3])=G at hS0 |-
  refine ⟨_,rfl,ca,rfl,⟨_,AH.of (hS0.out _ _ hca)⟩,?_⟩
  refine Jr (K:=K) (a:=ca) (xs:=ns.map V.int) (λi σ H2=>∃ (o1 o2 o3:Option V) (Fs:List Fr),σ=[some (.ref ca),some (.ref na),some (.bl d),some (.ref ea),some (.ref sa),o1,o2,o3]/\0<Fs.length/\SA H H2 sa ea Fs (i+1) i)
   ⟨none,none,none,[⟨p3,p,p2,[p1], "errand",V.non,[nm],[[]],0⟩],rfl,Nat.zero_lt_one,hS0⟩ (λi σ H2 _ ⟨_,_,_,_,_,_,h⟩=>AH.of (h.out _ _ hca)) ?_ ?_
  ·rintro i x q σ H2 hi ⟨o1,o2,o3,Fs,rfl,hne,hS⟩ hq
   obtain ⟨n,rfl,hn'⟩:=Jo hi
   have hi50:i<63:=by
    have:=(W0.mp hn').1
    omega
   refine ⟨q,_,rfl,BN.of Ac,rfl,?_⟩
   simp only [Gi,Lx]
   walk_at "sx"
   refine ⟨_,rfl,λr hr0 hr1=>⟨.inl ⟨by decide,by decide⟩,_,rfl,_,rfl,λr2 hr2 hr3=>?_⟩⟩
   refine ⟨ea,sa,na,r2,d,H,Fs,i+1,i,rfl,hr2,hN,hne,hS.same (Ag.upd hq),by omega,by omega,λH' Fs' hne' hS'=>?_⟩
   exact ⟨Fs',hne',hS'⟩
  ·rintro σ H2 ⟨o1,o2,o3,Fs,rfl,hne,hS⟩
   rw [D0] at hS
   have hS2:=hS.mono (show _<=61 by omega) (show _<=63 by omega)
   have hle:=hS2.le
   refine QJ (λσ H2=>∃ (o3:Option V) (Fs:List Fr) (c:Nat),σ=[some (.ref ca),some (.ref na),some (.bl d),some (.ref ea),some (.ref sa),o1,o2,o3]/\0<Fs.length/\c<=61/\SA H H2 sa ea Fs c 63) (λ_ H2=>Sc H2 sa) ⟨o3,Fs,61,rfl,hne,by omega,hS2⟩ ?_ ?_
   ·rintro σ H3 ⟨o3,Fs,c,rfl,hne,hcl,hS⟩
    obtain ⟨Gs,F,rfl⟩:=Da hne
    have hlen:(Gs++[F]).length=Gs.length+1:=by rw [B0];rfl
    have hat:=MH hS.hs
    rw [D0,hlen] at hat
    walk_at "sx"
    refine ⟨_,Bo.mpr (.inl ⟨_,AH.of hS.hs,rfl⟩),?_⟩
    rw [D0,hlen]
    by_cases hg:0<Gs.length
    ·refine Dh (by omega) ⟨.inl ⟨_,AH.of hS.hs⟩,?_⟩
     refine hS.closeIn hg (by omega) (λp xs H1 h=>.inl ⟨_,h⟩) λH' Gs' hl' hS'=>⟨⟨Gs',by omega,c,by omega,hS'⟩,?_⟩
     rw [hat,MH hS'.hs,D0];omega
    ·refine Du (by omega) ?_
     walk_at "sy"
     refine ⟨.inl ⟨_,AH.of hS.hs⟩,?_⟩
     obtain ⟨c',hc',hS',hF',hz⟩:=hS.pop
     have hl0:Gs.length=0:=by omega
     refine hS.doPop ⟨F,_,rfl,hF',by have:=hS.le;rw [B0] at this;simp only [J0,K1] at this;exact ⟨by omega,by rw [hz];omega⟩,by omega,λv H4 hmade s4=>?_⟩
     rcases hmade with ⟨_,hE⟩ | ⟨e,_⟩
     ·rw [hl0] at hE
      have hS4:=hS'.same s4
      obtain ⟨es,he1,he2,he3⟩:=hS4.he
      have hw1:=hS4.sum _ he1
      have hw2:(Bp 23 H4 v).length<=F.c+1:=hE.2.1
      have hE2:Di 22 100 H4 v:=by
       exact ⟨hE.1,Q0 hE.2.1 (by omega),hE.2.2⟩
      refine ⟨by decide,λl1 hl1=>?_⟩
      have s5:=Ag.upd (o:=.lst [v]) hl1
      refine ⟨ea,l1,_,_,rfl,rfl,s5 _ _ he1,Ac,?_,λl2 hl2=>⟨l2,rfl,_,.inl ⟨AH.of Ac,λl3 hl3=>?_⟩⟩⟩
      ·exact Q0 (show es.length+1<=100 by omega) (by decide)
      ·have s6:=s5.trans ((Ag.upd (o:=.lst (es++[v])) hl2).trans (Ag.upd (o:=.tup (es++[v])) hl3))
       refine k l3 (es++[v]) _ ((hS4.out.trans s5).trans (Ag.upd hl2) |>.free hl3) Ac (λx hx=>?_) ?_ ?_ (by simp) (hS4.out.trans s6)
       ·rcases T0.mp hx with hx | hx
        ·exact (he3 x hx).sameT (AE s6)
        ·rw [M0.mp hx];exact hE2.sameT (AE s6)
       ·rw [B0];simp only [J0,K1];omega
       ·rw [L3,B0,DL (AE s6) he3]
        simp only [N1,R4,o0]
        rw [Cp (AE s6) hE2.1]
        have e9:(Bp (22+1) H4 v).length=(Bp 23 H4 v).length:=rfl
        omega
     ·exact absurd (hz.mpr hl0) e
   ·intro σ H Q Q' hQ
    walk_at "sx"
    rintro ⟨v,e,n,hl,hq⟩
    exact ⟨v,e,n,hl,hQ _ _ hq⟩
theorem IM:Av ["_law_row", "_law_word"] ["_law_row"] (Aj (top 52)):=⟨rfl,rfl,rfl,by decide +kernel,rfl,by decide +kernel,by decide +kernel⟩
theorem NR (T:Tx P w K mg):Au P w K mg base CX0 1 T.d_l_words.f T.d_l_words.fd ["_law_row"] (KJ):=by
 refine T.d_l_words.F.ok IM (λvs H Q E h=>?_) (λcdv A outer s H vs Q E hr h=>?_)
 ·obtain ⟨v,n,rfl,_⟩:=h
  rfl
 ·obtain ⟨v,n,rfl,hv,k⟩:=h
  refine ⟨_,(Ae (Ax (i:=1) IM.nd rfl (Or.inl rfl) (An AI (pv 0) Ad (λ_ _=>rfl)))
  (Ae (AD (PW.pt (Dq (Ak Bg (pv 1) Ao (At _)) (Db (Ak Kl (An AI (pv 0) Ad (λ_ _=>rfl)) Ad (At _)))))
  (Af (Al (Ai (Aa (pv 1) (Aa (An AI (pv 0) Ad (λ_ _=>rfl)) (Aa (An AI (pv 0) Ad (λ_ _=>rfl)) (Aa Ao (Aa (An AI (pv 0) Ad (λ_ _=>rfl)) (Aa Ao (Aa (AY EB (by rfl) T.n_str EO (Aa (An AI (pv 0) Ad (λ_ _=>rfl)) Ab)) Ab))))))))))
  Ap)
  (Ae (AD (Ak Bg (pv 1) Ao (At _))
  (Af (Al (Ai (Aa (pv 1) (Aa (An AI (pv 0) Ad (λ_ _=>rfl)) (Aa (An AI (pv 0) Ad (λ_ _=>rfl)) (Aa Ao (Aa (An AI (pv 0) Ad (λ_ _=>rfl)) Ab))))))))
  Ap)
  (Ae (AD (Ak Cg (pv 1) (Ai (De (zs:=["keep", "try", "do"]) (by decide +kernel))) (by with_unfolding_all rfl))
  (Af (Al (Ai (Aa (pv 1) Ab))))
  Ap)
  (Ae (AD (Ak Cg (pv 1) (Ai (De (zs:=["errand", "group", "limit", "repeat"]) (by decide +kernel))) (by with_unfolding_all rfl))
  (Af (Al (Ai (Aa (pv 1) (Aa (AY EB (by rfl) T.n_str EO (Aa (An AI (pv 0) Ad (λ_ _=>rfl)) Ab)) Ab)))))
  Ap)
  (Ae (AD (Ak Bg (pv 1) Ao (At _))
  (Af (Al (Ai (Aa (pv 1) (Aa (An AI (pv 0) Ad (λ_ _=>rfl)) (Aa (AY EB (by rfl) T.n_str EO (Aa (An AI (pv 0) Ad (λ_ _=>rfl)) Ab)) Ab))))))
  Ap)
  (Af (Al (Am DR (Ai (Aa (pv 1) Ab)) (Fe (N':=["_law_thing"]) (sel:=[none]) rfl rfl rfl (EK (Dd OP (pv 0) (Dv Ad) Ef)) (Cc rfl) (λ_ _ _ _ _=>⟨(AJ (i:=0) (show (["_law_thing"]:List Str).Nodup by decide +kernel) rfl (Or.inl rfl)),CN,(AY EB (by rfl) T.n_str EO (Aa (pv 0) Ab))⟩))))))))))),?_⟩
  walk_at "sw"
  obtain ⟨a,z,ln,r,I⟩:=hv.ri
  rw [I.words] at k
  have sR:=Ag.refl H
  have fin:∀ {G:Hp} {m:Nat} {xs:List V},Ag H G->m<=sizeLine->xs=(AS z r).map V.str->m<=sizeLine/\∀ p:Addr,G p=none->Q (.ref p) (upd G p (.lst xs)):=λs hm e=>⟨hm,λp hp=>k p _ (s.free hp) (by rw [Ac,e]) (s.trans (Ag.upd hp))⟩
  refine I.ix 0 (.str z) rfl sR ⟨rfl,?_⟩
  by_cases hb:z="begin"
  ·refine Dh (by rw [hb]) ?_
   rcases I.sh with P | ⟨th,fa,bs,B⟩
   ·obtain ⟨x,y,w,l,rfl,hl0⟩:=P.b.1 hb
    have il:TV (.int l):=P.tv (.int l) (by simp)
    have ew:AS z [.str x,.str y,.str w,.int l]=[("begin":Str),x,y, "in",w]++(if l=0 then [] else [("within":Str),CI (.int l)]):=by
     unfold AS
     rw [if_pos hb]
    refine I.ix 5 (.int l) rfl sR ⟨l,rfl,?_⟩
    by_cases e:0<l
    ·refine Dh e (I.ix 2 (.str x) rfl sR (I.ix 3 (.str y) rfl sR (I.ix 4 (.str w) rfl sR (I.ix 5 (.int l) rfl sR (.inl ⟨l,rfl,?_,fin sR (by decide) ?_⟩)))))
     ·rcases il with ⟨_,e,h0,h1⟩ | ⟨_,e,_⟩
      ·cases e;exact Jg h0 h1
      ·cases e
     ·rw [ew,if_neg (by omega),hb];rfl
    ·refine Du e ⟨rfl,Dh (by rw [hb]) (I.ix 2 (.str x) rfl sR (I.ix 3 (.str y) rfl sR (I.ix 4 (.str w) rfl sR (fin sR (by decide) ?_))))⟩
     rw [ew,if_pos (by omega),hb];rfl
   ·exact absurd B.w (by rw [hb];decide +kernel)
  refine Du (λe=>hb (V.str.inj e)) ⟨rfl,Du (λe=>hb (V.str.inj e)) ⟨by decide,λp hp=>inL ["keep", "try", "do"] ⟨_,rfl,?_⟩⟩⟩
  have s1:=Ag.upd (o:=.lst ([V.str "keep",V.str "try",V.str "do"])) hp
  by_cases h1:z∈(["keep", "try", "do"]:List Str)
  ·refine Dh h1 (fin s1 (by decide) ?_)
   rcases I.sh with P | ⟨th,fa,bs,B⟩
   ·exfalso
    have:=P.p
    simp only [L0,E1,or_false] at h1
    rcases h1 with rfl | rfl | rfl<;>exact absurd this (by decide +kernel)
   ·by_cases ht:z="try"
    ·unfold AS
     rw [if_neg hb,if_pos ht,ht]
     rfl
    ·rw [CV B ht,E2.mp (B.tl.trans _)]
     ·rfl
     ·simp only [L0,E1,or_false] at h1
      rcases h1 with rfl | rfl | rfl<;>decide +kernel
  refine Du h1 ⟨by decide,λp2 hp2=>inL ["errand", "group", "limit", "repeat"] ⟨_,rfl,?_⟩⟩
  have s2:=s1.trans (Ag.upd (o:=.lst ([V.str "errand",V.str "group",V.str "limit",V.str "repeat"])) hp2)
  by_cases h2:z∈(["errand", "group", "limit", "repeat"]:List Str)
  ·refine Dh h2 ?_
   have h2':=h2
   simp only [L0,E1,or_false] at h2'
   rcases I.sh with P | ⟨th,fa,bs,B⟩
   ·exfalso
    have:=P.p
    rcases h2' with rfl | rfl | rfl | rfl<;>exact absurd this (by decide +kernel)
   ·have ht:z≠"try":=by rcases h2' with rfl | rfl | rfl | rfl<;>decide +kernel
    obtain ⟨x,rfl⟩:=FY (B.tl.trans (show Cj z=1 by rcases h2' with rfl | rfl | rfl | rfl<;>decide +kernel))
    refine I.ix 2 x (by rw [B.e];rfl) s2 ?_
    rcases B.tv x (by simp) with ⟨i,rfl,h0,h1⟩ | ⟨y,rfl,_⟩
    ·exact .inl ⟨i,rfl,Jg h0 h1,fin s2 (by decide) (by rw [CV B ht];rfl)⟩
    ·exact .inr ⟨y,rfl,fin s2 (by decide) (by rw [CV B ht];rfl)⟩
  refine Du h2 ⟨rfl,?_⟩
  by_cases hw:z="when"
  ·refine Dh (by rw [hw]) ?_
   rcases I.sh with P | ⟨th,fa,bs,B⟩
   ·exact absurd P.p (by rw [hw];decide +kernel)
   ·have ht:z≠"try":=by rw [hw];decide +kernel
    obtain ⟨x,y,rfl⟩:=Gz (B.tl.trans (show Cj z=2 by rw [hw];decide +kernel))
    obtain ⟨x',rfl,_⟩:=B.sv hw x rfl
    refine I.ix 2 (.str x') (by rw [B.e];rfl) s2 (I.ix 3 y (by rw [B.e];rfl) s2 ?_)
    rcases B.tv y (by simp) with ⟨i,rfl,h0,h1⟩ | ⟨y,rfl,_⟩
    ·exact .inl ⟨i,rfl,Jg h0 h1,fin s2 (by decide) (by rw [CV B ht];rfl)⟩
    ·exact .inr ⟨y,rfl,fin s2 (by decide) (by rw [CV B ht];rfl)⟩
  refine Du (λe=>hw (V.str.inj e)) ⟨by decide,λp3 hp3=>?_⟩
  have s3:=s2.trans (Ag.upd (o:=.lst [V.str z]) hp3)
  have hP:HS z r:=by
   rcases I.sh with P | ⟨th,fa,bs,B⟩
   ·exact P
   ·exfalso
    rcases B.w with rfl | rfl | rfl | rfl | rfl | rfl | rfl | rfl
    ·exact h2 (by decide +kernel)
    ·exact h2 (by decide +kernel)
    ·exact h2 (by decide +kernel)
    ·exact h1 (by decide +kernel)
    ·exact h1 (by decide +kernel)
    ·exact h1 (by decide +kernel)
    ·exact hw rfl
    ·exact h2 (by decide +kernel)
  obtain rfl:=I.e
  refine OQ (s3 _ _ I.h) λq G1 hq s4 h1=>⟨q,rfl,⟨_,BN.of h1⟩,Lr (K:=K) (a:=q) (xs:=r) (λi ys G=>G=G1/\ys=(r.take i).map λv=>V.str (CI v)) ⟨rfl,rfl⟩ ?_ ?_ ?_ ?_⟩
  ·rintro i ys G hi ⟨rfl,rfl⟩
   exact ⟨BN.of h1,by rw [D0,K2];omega⟩
  ·exact Q0 I.len (by decide)
  ·rintro i x ys G hi ⟨rfl,rfl⟩
   walk_at "sw"
   have e:((r.take i).map λv=>V.str (CI v))++[V.str (CI x)]=(r.take (i+1)).map λv=>V.str (CI v):=Es hi
   rcases hP.tv x (d0 hi) with ⟨m,rfl,h0,h1⟩ | ⟨y,rfl,_⟩
   ·exact .inl ⟨m,rfl,Jg h0 h1,e⟩
   ·exact .inr ⟨y,rfl,e⟩
  ·rintro ys G ⟨rfl,rfl⟩ D hD
   rw [C2]
   have s5:=Ag.upd (o:=.lst (r.map λv=>V.str (CI v))) hD
   refine ⟨p3,D,_,_,rfl,rfl,(s4.trans s5) _ _ Ac,Ac,?_,λl hl=>k l _ (((s3.trans s4).trans s5).free hl) ?_ (((s3.trans s4).trans s5).trans (Ag.upd hl))⟩
   ·have:=I.len
    rw [D0]
    exact Q0 (show 1+_<=7 by omega) (by decide)
   ·rw [Ac,Hf hP hb,S1,C4]
    rfl
theorem KY:Av ["_law_row"] ["_law_row"] (Aj (top 54)):=⟨rfl,rfl,rfl,by decide +kernel,rfl,by decide +kernel,by decide +kernel⟩
theorem Lh (T:Tx P w K mg):Au P w K mg base CX0 1 T.d_l_turning.f T.d_l_turning.fd ["_law_row"] (Fy):=by
 refine T.d_l_turning.F.ok KY (λvs H Q E h=>?_) (λcdv A outer s H vs Q E hr h=>?_)
 ·obtain ⟨v,n,t,rfl,_⟩:=h
  rfl
 ·obtain ⟨v,n,t,rfl,hv,h2,ht,k⟩:=h
  refine ⟨_,(Ae (AD (Ak Bg (An AI (pv 0) Ad (λ_ _=>rfl)) Ao (At _))
  (Af (Al (Ai (Aa Ao (Aa (An AI (pv 0) Ad (λ_ _=>rfl)) Ab)))))
  Ap)
  (Af (Al (An As (Ai (Aa (Ai (Aa Ao Ab)) (Aa (Ai (Aa Ao Ab)) Ab))) (AY HF (by rfl) T.n_int HG (Aa (BZ Bg (An AI (pv 0) Ad (λ_ _=>rfl)) Ao (At _)) Ab)) (λ_ _=>rfl))))),?_⟩
  walk_at "sy"
  obtain ⟨a,z,ln,r,I⟩:=hv.ri
  have sR:=Ag.refl H
  rw [I.zr] at h2
  have eT:AO H v=(if z="try" then [[("but":Str),CI (r.getD 1 .non)]] else if z="do" then [["last"]] else if Bc H (r.getD 2 .non)=[] then [] else [["late"]]):=by
   unfold AO
   rw [I.zr]
  rw [eT] at ht
  obtain ⟨th,fa,bs,B⟩:∃ th fa bs,EV z r th fa bs:=by
   rcases I.sh with P | B
   ·exfalso
    have:=P.p
    rcases h2 with rfl | rfl | rfl<;>exact absurd this (by decide +kernel)
   ·exact B
  refine I.ix 0 (.str z) rfl sR ⟨rfl,?_⟩
  by_cases hy:z="try"
  ·refine Dh (by rw [hy]) ?_
   obtain ⟨b0,b1,rfl⟩:=Gz (B.two h2)
   obtain rfl:=E2.mp (B.tl.trans (by rw [hy];decide +kernel))
   obtain ⟨y,hy',hyl⟩:=B.fv.1 hy
   have hr:=B.e
   rw [if_pos hy,hy'] at hr
   rw [if_pos hy,hr] at ht
   refine I.ix 3 (.str y) (by rw [hr];rfl) sR ⟨by decide,λp hp=>k p _ hp ?_ (Ag.upd hp)⟩
   rw [Ac,<- (M6.inj ht).1]
   rfl
  rw [if_neg hy] at ht
  refine Du (λe=>hy (V.str.inj e)) ⟨by decide,λp hp=>⟨by decide,λp1 hp1=>⟨by decide,λp2 hp2=>?_⟩⟩⟩
  have s1:=Ag.upd (o:=.lst [V.str "last"]) hp
  have s2:=Ag.upd (o:=.lst [V.str "late"]) hp1
  have s3:=Ag.upd (o:=.lst [V.ref p,V.ref p1]) hp2
  refine I.ix 0 (.str z) rfl ((s1.trans s2).trans s3) ⟨rfl,.inr ?_⟩
  by_cases hl:z="limit"
  ·rw [if_pos (decide_eq_true (by rw [hl]))]
   have hd:z≠"do":=by rw [hl];decide +kernel
   rw [if_neg hd] at ht
   refine ⟨p2,_,_,.ref p1,rfl,rfl,AH.of Ac,AV (j:=1) rfl,k p1 _ (s1.free hp1) ?_ ((s1.trans s2).trans s3)⟩
   rw [s3 _ _ Ac]
   by_cases e:Bc H (r.getD 2 .non)=[]
   ·rw [if_pos e] at ht;cases ht
   ·rw [if_neg e] at ht
    rw [<- (M6.inj ht).1]
    rfl
  ·rw [if_neg (by rw [decide_eq_false (λe=>hl (V.str.inj e))];exact N0)]
   have hd:z="do":=by
    rcases h2 with h | h | h
    ·exact absurd h hy
    ·exact h
    ·exact absurd h hl
   rw [if_pos hd] at ht
   refine ⟨p2,_,_,.ref p,rfl,rfl,AH.of Ac,AV (j:=0) rfl,k p _ hp ?_ ((s1.trans s2).trans s3)⟩
   rw [(s2.trans s3) _ _ Ac,<- (M6.inj ht).1]
   rfl
theorem Dm:Av ["_law_rows", "_law_deep", "_law_lines_here", "_law_row", "_law_pieces", "_law_k"] ["_law_rows", "_law_deep"] (Aj (top 55)):=⟨rfl,rfl,rfl,by decide +kernel,rfl,by decide +kernel,by decide +kernel⟩
theorem Jj (T:Tx P w K mg) (n:Nat) (G_l_words:Au P w K mg base CX0 1 T.d_l_words.f T.d_l_words.fd ["_law_row"] KJ) (G_l_parts:Au P w K mg base CX0 1 T.d_l_parts.f T.d_l_parts.fd ["_law_row"] IH) (G_l_turning:Au P w K mg base CX0 1 T.d_l_turning.f T.d_l_turning.fd ["_law_row"] Fy) (G_l_lines:Au P w K mg base CX0 (n+2) T.d_l_lines.f T.d_l_lines.fd ["_law_rows", "_law_deep"] (Rm n)):Au P w K mg base CX0 (n+3) T.d_l_lines.f T.d_l_lines.fd ["_law_rows", "_law_deep"] (GF n):=by
 refine T.d_l_lines.F.ok (k:=n+2) Dm (λvs H Q E h=>?_) (λcdv A outer s H vs Q E hr h=>?_)
 ·obtain ⟨v,d,rfl,_⟩:=h
  rfl
 ·obtain ⟨v,d,rfl,hv,hll,k⟩:=h
  have hu:=Fn hr
  refine ⟨_,(Ae (Ax (i:=2) Dm.nd rfl (Or.inl rfl) (Ai Ab))
  (Ae (Dr PassesOwn.never rfl (EK (pv 0)) (AJ (i:=3) Dm.nd rfl (Or.inl rfl))
  (Ae (AQ (Bx Z0 D1 C1 AR (pv 2) (Aa (Bl (Aa (pv 1) (Aa (Ar G_l_words (hr.mono (by omega)) rfl T.d_l_words.hm T.d_l_words.F.kp T.d_l_words.b .nil Ay (Aa (pv 3) Ab)) Ab))) Ab)))
  (Ae (Ax (i:=4) Dm.nd rfl (Or.inl rfl) (Ar G_l_parts (hr.mono (by omega)) rfl T.d_l_parts.hm T.d_l_parts.F.kp T.d_l_parts.b .nil Ay (Aa (pv 3) Ab)))
  (Ae (Dr PassesOwn.never rfl (Hr rfl T.n_range (Aa (AA AX (by rfl) T.n_len BB (Aa (pv 4) Ab)) Ab)) (AJ (i:=5) Dm.nd rfl (Or.inl rfl))
  (Im (AD (PW.pt (Dq (Ak Kl (pv 5) Ad (At _)) (Db (PW.pt (HK (Ak GL (An AI (pv 3) Ad (λ_ _=>rfl)) Ao (At _)) (Fc (Ak (RM hu) (An As (pv 4) Ad (λ_ _=>rfl)) (Bl Ab) (At _))))))))
  (Af (AQ (Bx Z0 D1 C1 AR (pv 2) (Aa (Bl (Aa (pv 1) (Aa (Ar G_l_turning (hr.mono (by omega)) rfl T.d_l_turning.hm T.d_l_turning.F.kp T.d_l_turning.b .nil Ay (Aa (pv 3) Ab)) Ab))) Ab))))
  Ap)
  (Af (Ax (i:=2) Dm.nd rfl (Or.inl rfl) (Am DR (pv 2) (Ar G_l_lines (hr.mono (by omega)) rfl T.d_l_lines.hm T.d_l_lines.F.kp T.d_l_lines.b .nil Ay (Aa (An As (pv 4) (pv 5) (λ_ _=>rfl)) (Aa (Am Cb (pv 1) Ad) Ab))))))))
  (Af (AD (Ak (IW hu) (pv 4) (Ai Ab) (At _))
  (Af (AQ (Bx Z0 D1 C1 AR (pv 2) (Aa (Bl (Aa (pv 1) (Aa (Ai (Aa Ao Ab)) Ab))) Ab))))
  Ap))))))
  (Af (Al (pv 2))))),?_⟩
  walk_at "sy"
  refine ⟨by decide,λl0 hl0=>?_⟩
  obtain ⟨b,E,rfl,hb,hE⟩:=id hv
  have eL:Ah (n+1) H (.ref b) d=E.flatMap λy=>AM (Ah n H) H y d:=by
   show (Bc H _).flatMap _=_
   rw [Az hb]
  rw [eL] at hll k
  have hz:sizeLine=16777216:=by decide
  have s0:=Ag.upd (o:=.lst []) hl0
  refine ⟨_,rfl,b,rfl,⟨_,BN.of (s0 _ _ hb)⟩,GX (K:=K) (a:=b) (xs:=E) (λi σ G=>∃ (lp:Addr) (o3 o4 o5:Option V) (ps:List Addr),σ=[some (.ref b),some (.int d),some (.ref lp),o3,o4,o5]/\H lp=none/\G lp=some (.lst (ps.map V.ref))/\Ce G ps ((E.take i).flatMap λy=>AM (Ah n H) H y d)/\Ag H G)
   ⟨l0,none,none,none,[],rfl,hl0,Ac,⟨rfl,λi q x h=>nomatch h⟩,s0⟩ (λi σ G _ ⟨_,_,_,_,_,_,_,_,_,sg⟩=>BN.of (sg _ _ hb)) ?_ ?_⟩
  ·rintro i y σ G hi ⟨lp,o3,o4,o5,ps,rfl,hlp,hG,hA,sG⟩
   walk_at "sy"
   have hy:=hE y (d0 hi)
   cases n with
   |zero=>exact hy.elim
   |succ m =>
    have eS:=BS (f:=λy=>AM (Ah (m+1) H) H y d) hi
    have hle:=DT (f:=λy=>AM (Ah (m+1) H) H y d) E (i+1)
    rw [eS,B0] at hle
    rw [eS]
    have hyG:=hy.same sG
    obtain ⟨a,z,ln,r,I⟩:=hy.ri
    obtain ⟨f,hf⟩:∃ f:V->List Ln,f=λp=>Ah (m+1) H p (d+1):=⟨_,rfl⟩
    obtain ⟨tn,htn⟩:∃ tn:List Ln,tn=(AO H y).map λws=>(d,ws):=⟨_,rfl⟩
    obtain ⟨base0,hbase⟩:∃ base0,base0=(E.take i).flatMap λy=>AM (Ah (m+1) H) H y d:=⟨_,rfl⟩
    have eRow:AM (Ah (m+1) H) H y d=(d,AT H y)::BK f tn [(d,["end"])] false (Bn H y):=by
     rw [hy.parts_eq,Eh,htn,hf]
     rfl
    rw [<- hbase] at hA hle |-
    rw [eRow] at hle |-
    rw [J0] at hle
    obtain ⟨parts,hparts⟩:∃ parts,parts=Bn H y:=⟨_,rfl⟩
    rw [<- hparts] at hle |-
    have hpr:∀ p∈parts,∃ b,p=.ref b/\AN m H (.ref b):=λp hp=>by
     rw [hparts] at hp
     obtain ⟨b,_,e,_⟩:=id (hy.parts_ok p hp)
     rw [e]
     exact ⟨b,rfl,by rw [<- e];exact hy.parts_ok p hp⟩
    have hpl2:parts.length<=2/\(parts.length=2->BH z):=by
     rw [hparts,hy.parts_eq,I.zr]
     rcases I.sh with P | ⟨th,fa,bs,B⟩
     ·rw [j4.mpr λx hx=>by rw [(P.tv x hx).notR];exact N0]
      exact ⟨by decide,λh=>by cases h⟩
     ·show (r.filter BM).length<=2/\((r.filter BM).length=2->BH z)
      rw [DI B,D0]
      by_cases h2:BH z
      ·exact ⟨S6 (B.two h2),λ_=>h2⟩
      ·have:=B.one h2
       exact ⟨by omega,λh=>by omega⟩
    refine ⟨.inl ⟨_,AH.of hG⟩,y,m,rfl,hyG,λwl G1 hwl h1 s1=>⟨by decide,λp hp=>?_⟩⟩
    have ew:AT G y=AT H y:=by
     unfold AT
     rw [hy.z_same (AE sG)]
    rw [ew] at h1
    refine SX (d:=d) hlp (s1 _ _ hG) (hA.same s1) (sG.trans s1) hy.words_ne h1 hp (by omega) λG2 hG2 hA2 s2 _=>?_
    refine ⟨y,m+1,rfl,hy.same s2,λpa G3 hpa h3 s3=>?_⟩
    rw [hy.parts_same s2,<- hparts] at h3
    have nlp:lp≠pa:=AG hG2 hpa
    refine ⟨_,rfl,_,rfl,parts.length,Bo.mpr (.inl ⟨_,AH.of h3,rfl⟩),_,rfl,by omega,by omega,HA (lo:=0) (n:=((parts.length:Nat):Int).toNat) (λj σ G=>∃ (lp:Addr) (o5:Option V) (ps:List Addr) (Ls:List Ln),σ=[some (.ref b),some (.int d),some (.ref lp),some y,some (.ref pa),o5]/\H lp=none/\lp≠pa/\G lp=some (.lst (ps.map V.ref))/\Ce G ps (base0++Ls)/\Ls++BK f tn [(d,["end"])] (decide (0<j)) (parts.drop j)=(d,AT H y)::BK f tn [(d,["end"])] false parts/\G pa=some (.lst parts)/\Ag H G)
     ⟨lp,o5,ps++[p],[(d,AT H y)],rfl,hlp,nlp,s3 _ _ hG2,hA2.same s3,rfl,h3,s2.trans s3⟩ ?_ ?_⟩
    ·rintro j σ G4 hj ⟨lp4,o54,ps4,Ls,rfl,hlp4,n4,hG4,hA4,eLs,h4,s4⟩
     rw [F4] at hj
     obtain ⟨x,hx⟩:∃ x,parts[j]?=some x:=⟨_,u0 hj⟩
     obtain ⟨xb,rfl,hrows⟩:=hpr x (d0 hx)
     have hdr:parts.drop j=.ref xb::parts.drop (j+1):=by
      have:=W0.mp hx
      rw [<- this.2]
      exact T4 hj
     rw [hdr,BQ] at eLs
     have hsum:Ls.length+((if decide (0<j) then tn else []).length+((f (.ref xb)).length+(BK f tn [(d,["end"])] true (parts.drop (j+1))).length))=(BK f tn [(d,["end"])] false parts).length+1:=by
      have:=congrArg g5 eLs
      rw [B0,B0,B0,J0] at this
      exact this
     walk_at "sy"
     refine ⟨λσ' G'=>∃ (lp:Addr) (ps:List Addr),σ'=[some (.ref b),some (.int d),some (.ref lp),some y,some (.ref pa),some (.int (0+j))]/\H lp=none/\lp≠pa/\G' lp=some (.lst (ps.map V.ref))/\Ce G' ps (base0++(Ls++(if decide (0<j) then tn else [])))/\G' pa=some (.lst parts)/\Ag H G',?_,?_⟩
     ·walk_at "sy"
      by_cases hj0:j=0
      ·subst hj0
       refine Du (by omega) ⟨hlp4,n4,ps4,hG4,?_,h4,s4⟩
       rw [if_neg (by decide),o0]
       exact hA4
      have hj1:j=1:=by omega
      subst hj1
      have h2:=hpl2.2 (by omega)
      rw [show (if decide (0<1)=true then tn else [])=tn from rfl] at hsum |-
      have h2':BH (CK H y).1:=by rw [I.zr];exact h2
      have lsl:(base0++Ls).length<=20000:=by rw [B0];omega
      obtain ⟨th,fa,bs,B⟩:∃ th fa bs,EV z r th fa bs:=by
       rcases I.sh with P | B
       ·exfalso
        have:=P.p
        rcases h2 with rfl | rfl | rfl<;>exact absurd this (by decide +kernel)
       ·exact B
      have eT:AO H y=(if z="try" then [[("but":Str),CI (r.getD 1 .non)]] else if z="do" then [["last"]] else if Bc H (r.getD 2 .non)=[] then [] else [["late"]]):=by
       unfold AO
       rw [I.zr]
      have fin:∀ {G':Hp} {t:List Str},Ag G4 G'->AO H y=[t]->t≠[]->∀ (H3:Hp) (p:Addr),H3 lp4=some (.lst ((ps4++[p]).map V.ref))->Ce H3 (ps4++[p]) (base0++Ls++[(d,t)])->Ag H H3->DY lp4 G' H3->H lp4=none/\lp4≠pa/\∃ x,H3 lp4=some (.lst (d6 V.ref x))/\Ce H3 x (base0++(Ls++tn))/\H3 pa=some (.lst parts)/\Ag H H3:=λ{G' t} s' hT _ H3 p e1 e2 e3 e4=>by
       refine ⟨hlp4,n4,ps4++[p],e1,?_,e4 _ _ (Ne.symm n4) (s' _ _ h4),e3⟩
       rw [htn,hT,<- X1]
       exact e2
      refine Dh (by omega) (I.ix 0 (.str z) rfl s4 ⟨rfl,?_⟩)
      by_cases hl:z="limit"
      ·refine GU (by rw [hl]) ⟨pa,_,_,.ref xb,rfl,rfl,AH.of h4,AV (j:=1) hx,?_⟩
       obtain ⟨_,ys,e,hb1,_⟩:=id hrows
       cases e
       have hd1:z≠"try":=by rw [hl];decide +kernel
       have hd2:z≠"do":=by rw [hl];decide +kernel
       have hxr:r.getD 2 .non=.ref xb:=by
        obtain ⟨c0,c1,rfl⟩:=Gz (B.two h2)
        obtain ⟨y0,rfl⟩:=FY (B.tl.trans (show Cj z=1 by rw [hl];decide +kernel))
        have ep:parts=[.ref c0,.ref c1]:=by rw [hparts,hy.parts_eq,I.zr];exact DI B
        rw [ep] at hx
        cases hx
        rw [B.e,if_neg hd1]
        rfl
       rw [if_neg hd1,if_neg hd2,hxr,Az hb1] at eT
       refine RU (s4 _ _ hb1) λG5 s5=>⟨_,rfl,?_⟩
       by_cases e:ys=[]
       ·rw [if_pos e] at eT
        refine GU e ⟨hlp4,n4,ps4,s5 _ _ hG4,?_,s5 _ _ h4,s4.trans s5⟩
        rw [htn,eT,x3,o0]
        exact hA4.same s5
       ·rw [if_neg e] at eT
        exact Hz e ⟨.inl ⟨_,AH.of (s5 _ _ hG4)⟩,Pt hlp4 (s5 _ _ hG4) (hA4.same s5) (s4.trans s5) hy h2' eT (by simp) lsl (fin s5 eT (by simp))⟩
      ·obtain ⟨t,hT,ht⟩:∃ t,AO H y=[t]/\t≠[]:=by
        rw [eT]
        by_cases h1:z="try"
        ·rw [if_pos h1];exact ⟨_,rfl,by simp⟩
        ·rw [if_neg h1]
         have h3:z="do":=by
          rcases h2 with h | h | h
          ·exact absurd h h1
          ·exact h
          ·exact absurd h hl
         rw [if_pos h3];exact ⟨_,rfl,by simp⟩
       exact Hz (λe=>hl (V.str.inj e)) ⟨.inl ⟨_,AH.of hG4⟩,Pt hlp4 hG4 hA4 s4 hy h2' hT ht lsl (fin (Ag.refl _) hT ht)⟩
     ·rintro σ' G5 ⟨lp5,ps5,rfl,hlp5,n5,hG5,hA5,h5,s5⟩
      walk_at "sy"
      have ef:Ah (m+1) G5 (.ref xb) (d+1)=f (.ref xb):=by rw [Bu (AE s5) hrows,hf]
      refine ⟨pa,_,_,.ref xb,rfl,rfl,AH.of h5,by rw [show (0:Int)+(j:Int)=((j:Nat):Int) by omega];exact AV hx,.ref xb,d+1,rfl,hrows.same s5,by rw [ef];omega,λl6 ps6 G6 hl6 h6 hA6 s6=>?_⟩
      rw [ef] at hA6
      have l5:=hA5.1
      have l6':=hA6.1
      rw [B0,B0] at l5
      refine ⟨lp5,l6,_,_,rfl,rfl,s6 _ _ hG5,h6,by rw [D0,D0];omega,λl hl=>?_⟩
      have s7:=Ag.upd (o:=.lst (ps5.map V.ref++ps6.map V.ref)) hl
      refine ⟨l,rfl,(s5.trans s6).free hl,(AG (s6 _ _ h5) hl).symm,ps5++ps6,by rw [Ac,A1],(Ls++(if decide (0<j) then tn else []))++f (.ref xb),?_,?_,(s6.trans s7) _ _ h5,(s5.trans s6).trans s7⟩
      ·rw [<- X1 base0]
       exact ((hA5.same s6).app hA6).same s7
      ·rw [<- eLs,show decide (0<j+1)=true from decide_eq_true (by omega)]
       simp only [X1]
    ·rintro σ G4 ⟨lp4,o54,ps4,Ls,rfl,hlp4,n4,hG4,hA4,eLs,h4,s4⟩
     rw [F4,O7] at eLs
     walk_at "sy"
     refine Lo h4 λG5 s5=>⟨_,rfl,?_⟩
     by_cases e:parts=[]
     ·refine GU e ⟨hlp4,ps4,s5 _ _ hG4,?_,s4.trans s5⟩
      rw [<- eLs,show decide (0<parts.length)=false by rw [e];rfl]
      show Ce G5 ps4 (base0++(Ls++[]))
      rw [o0]
      exact hA4.same s5
     ·have hpos:decide (0<parts.length)=true:=decide_eq_true (K4.mpr e)
      rw [hpos] at eLs
      have hsum:Ls.length+1=(BK f tn [(d,["end"])] false parts).length+1:=by
       have:=congrArg g5 eLs
       rw [B0,J0] at this
       exact this
      refine Hz e ⟨.inl ⟨_,AH.of (s5 _ _ hG4)⟩,by decide,λp1 hp1=>⟨by decide,λp2 hp2=>?_⟩⟩
      have s6:=Ag.upd (o:=.lst [V.str "end"]) hp1
      refine SX (d:=d) (t:=["end"]) hlp4 ((s5.trans s6) _ _ hG4) (hA4.same (s5.trans s6)) ((s4.trans s5).trans s6) (by simp) Ac hp2 (by rw [B0];omega) λH3 e1 e2 e3 _=>⟨hlp4,_,e1,?_,e3⟩
      rw [<- eLs,<- X1]
      exact e2
  ·rintro σ G ⟨lp,o3,o4,o5,ps,rfl,hlp,hG,hA,sG⟩
   rw [C2] at hA
   walk_at "sy"
   exact k lp ps G hlp hG hA sG
theorem IX (T:Tx P w K mg) (G_l_words:Au P w K mg base CX0 1 T.d_l_words.f T.d_l_words.fd ["_law_row"] KJ) (G_l_parts:Au P w K mg base CX0 1 T.d_l_parts.f T.d_l_parts.fd ["_law_row"] IH) (G_l_turning:Au P w K mg base CX0 1 T.d_l_turning.f T.d_l_turning.fd ["_law_row"] Fy):∀ n:Nat,Au P w K mg base CX0 (n+3) T.d_l_lines.f T.d_l_lines.fd ["_law_rows", "_law_deep"] (GF n)
 |0=>Jj T 0 G_l_words G_l_parts G_l_turning Pl
 |n+1=>Jj T (n+1) G_l_words G_l_parts G_l_turning (IX T G_l_words G_l_parts G_l_turning n)
theorem NI:Av ["_law_found", "_law_due"] ["_law_found", "_law_due"] (Aj (top 59)):=⟨rfl,rfl,rfl,by decide +kernel,rfl,by decide +kernel,by decide +kernel⟩
theorem Jx (T:Tx P w K mg) (m:Nat) (G_l_alike:Au P w K mg base CX0 (m+1) T.d_l_alike.f T.d_l_alike.fd ["_law_found", "_law_due"] (Ro m)):Au P w K mg base CX0 (m+2) T.d_l_alike.f T.d_l_alike.fd ["_law_found", "_law_due"] (Ii m):=by
 refine T.d_l_alike.F.ok (k:=m+1) NI (λvs H Q E h=>?_) (λcdv A outer s H vs Q E hr h=>?_)
 ·obtain ⟨a,b,t,rfl,_⟩:=h
  rfl
 ·obtain ⟨a,b,t,rfl,ha,hb,k⟩:=h
  have hu:=Fn hr
  refine ⟨_,(Ae (AD (BG (AA Br (by rfl) T.n_isinstance Ba (Aa (pv 1) (Aa (CO (v:=.ty "tuple") rfl T.n_tuple BJ rfl) Ab))))
  (Ae (AD (PW.pt (HK (CS (BG (AA Br (by rfl) T.n_isinstance Ba (Aa (pv 0) (Aa (CO (v:=.ty "tuple") rfl T.n_tuple BJ rfl) Ab))))) (Fc (Ak GL (AA AX (by rfl) T.n_len BB (Aa (pv 0) Ab)) (AA AX (by rfl) T.n_len BB (Aa (pv 1) Ab)) (At _)))))
  (Af (Al Ff))
  Ap)
  (Af (Al (BZ (Ht hu) (Fe (N':=["_law_k", "_law_found", "_law_due"]) (sel:=[none,some 0,some 1]) rfl rfl rfl (Hr rfl T.n_range (Aa (AA AX (by rfl) T.n_len BB (Aa (pv 1) Ab)) Ab)) (Cc rfl) (λ_ _ _ _ _=>⟨(AJ (i:=0) (show (["_law_k", "_law_found", "_law_due"]:List Str).Nodup by decide +kernel) rfl (Or.inl rfl)),(Il (CS (BG (Ar G_l_alike (hr.mono (by omega)) rfl T.d_l_alike.hm T.d_l_alike.F.kp T.d_l_alike.b .nil Ay (Aa (An (Iw (K:=K) rfl) (pv 1) (pv 0) (λ_ _=>rfl)) (Aa (An (Iw (K:=K) rfl) (pv 2) (pv 0) (λ_ _=>rfl)) Ab)))))),(pv 0)⟩)) (Ai Ab) (At _)))))
  Ap)
  (Ae (AD (BG (AA Br (by rfl) T.n_isinstance Ba (Aa (pv 1) (Aa (CO (v:=.ty "str") rfl T.n_str EO rfl) Ab))))
  (Af (Al (Eo (AA Br (by rfl) T.n_isinstance Ba (Aa (pv 0) (Aa (CO (v:=.ty "str") rfl T.n_str EO rfl) Ab))) (DQ (BZ Bg (pv 0) (pv 1) (At _))))))
  Ap)
  (Af (Al (Eo (AA Br (by rfl) T.n_isinstance Ba (Aa (pv 0) (Aa (CO (v:=.ty "int") rfl T.n_int HG rfl) Ab))) (Eo (NN (AA Br (by rfl) T.n_isinstance Ba (Aa (pv 0) (Aa (CO (v:=.ty "bool") rfl T.n_bool Pr rfl) Ab)))) (DQ (BZ Bg (pv 0) (pv 1) (At _))))))))),?_⟩
  walk_at "sw"
  cases t with
  |i n =>
   obtain rfl:a=.int n:=by cases m<;>exact ha
   obtain rfl:b=.int n:=by cases m<;>exact hb
   exact ⟨_,.int n,false,rfl,iteF (by decide) ⟨_,.int n,false,rfl,iteF (by decide) ⟨_,.int n,true,rfl,iteT rfl ⟨_,.int n,false,rfl,iteT rfl ⟨rfl,by rw [decide_eq_true rfl];exact k H (Ag.refl H)⟩⟩⟩⟩⟩
  |s z =>
   obtain rfl:a=.str z:=by cases m<;>exact ha
   obtain rfl:b=.str z:=by cases m<;>exact hb
   exact ⟨_,.str z,false,rfl,iteF (by decide) ⟨_,.str z,true,rfl,iteT rfl ⟨_,.str z,true,rfl,iteT rfl ⟨rfl,by rw [decide_eq_true rfl];exact k H (Ag.refl H)⟩⟩⟩⟩
  |t ts =>
   cases m with
   |zero=>exact ha.elim
   |succ m =>
    obtain ⟨a',xs,rfl,hxa,hxl,hts,hx⟩:=ha
    obtain ⟨b',ys,rfl,hyb,hyl,_,hy⟩:=hb
    have hz:sizeLine=16777216:=by decide
    refine ⟨_,.tup hyb,true,rfl,iteT rfl ⟨_,.tup hxa,true,rfl,iteF (by decide) ⟨xs.length,Bo.mpr (.inr ⟨_,BN.of hxa,rfl⟩),ys.length,Bo.mpr (.inr ⟨_,BN.of hyb,rfl⟩),rfl,GU (by omega) ?_⟩⟩⟩
    refine ⟨_,rfl,_,rfl,ys.length,Bo.mpr (.inr ⟨_,BN.of hyb,rfl⟩),_,rfl,by omega,by omega,Sf (lo:=0) (n:=((ys.length:Nat):Int).toNat) (λi zs G=>zs=[]/\Ag H G) ⟨rfl,Ag.refl H⟩ ?_ ?_ ?_ ?_⟩
    ·rintro i zs G hi ⟨rfl,_⟩
     exact D2 _
    ·omega
    ·rintro i zs G hi ⟨rfl,sG⟩
     rw [F4] at hi
     walk_at "sw"
     have g1:xs[i]?=some (xs[i]'(by omega)):=u0 _
     have g2:ys[i]?=some (ys[i]'hi):=u0 _
     have g3:ts[i]?=some (ts[i]'(by omega)):=u0 _
     have ei:(0:Int)+(i:Int)=((i:Nat):Int):=by omega
     rw [ei]
     refine ⟨a',_,_,_,rfl,rfl,BN.of (sG _ _ hxa),AV g1,b',_,_,_,rfl,rfl,BN.of (sG _ _ hyb),AV g2,_,_,ts[i]'(by omega),rfl,(hx i _ _ g1 g3).sameT (AE sG),(hy i _ _ g2 g3).sameT (AE sG),λH' s'=>⟨true,rfl,iteF (by decide) (sG.trans s')⟩⟩
    ·rintro zs G ⟨rfl,sG⟩ D hD
     have s1:=Ag.upd (o:=.lst []) hD
     refine Ju (K:=K) (G:=upd G D (.lst [])) Ac λG' s'=>?_
     rw [decide_eq_true rfl]
     exact k G' ((sG.trans s1).trans s')
theorem IY (T:Tx P w K mg):∀ m:Nat,Au P w K mg base CX0 (m+2) T.d_l_alike.f T.d_l_alike.fd ["_law_found", "_law_due"] (Ii m)
 |0=>Jx T 0 Pl
 |m+1=>Jx T (m+1) (IY T m)


theorem JH:Av ["text"] ["text"] (Aj (top 8)):=⟨rfl,rfl,rfl,by decide +kernel,rfl,by decide +kernel,by decide +kernel⟩
theorem JM (T:Tx P w K mg):Au P w K mg base CX0 1 T.d_is_letters.f T.d_is_letters.fd ["text"] (Hj):=by
 refine T.d_is_letters.F.ok JH (λvs H Q E h=>?_) (λcdv A outer s H vs Q E hr h=>?_)
 ·obtain ⟨z,rfl,_⟩:=h
  rfl
 ·obtain ⟨z,rfl,hz,k⟩:=h
  have hz2:z.length<=sizeLine:=Q0 hz (by decide)
  refine ⟨_,(Ae (AD (CS (IR GM GM Ad (AA AX (by rfl) T.n_len BB (Aa (pv 0) Ab)) (BP (v:=.int 8) rfl T.mlm ⟨_,rfl⟩)))
  (Af (Al Ff))
  Ap)
  (Af (Al (AA (Nd rfl) (by rfl) T.n_all SR (Aa (Fe (N':=["sign"]) (sel:=[none]) rfl rfl rfl (RF (pv 0)) (Cc rfl) (λ_ _ _ _ _=>⟨(AJ (i:=0) (show (["sign"]:List Str).Nodup by decide +kernel) rfl (Or.inl rfl)),CN,(IU FD FD Ao (pv 0) Ao)⟩)) Ab))))),?_⟩
  walk_at "sx"
  refine ⟨hz2,?_⟩
  have hF:Ez z=false->Q (V.bl false) H:=λe=>by rw [<- e];exact k H (Ag.refl H)
  by_cases h1:1<=z.length
  ·by_cases h2:z.length<=8
   ·refine Dh (by omega) (GU (by omega) ?_)
    refine ⟨_,rfl,z,rfl,?_⟩
    refine Sd (λi ys H'=>H'=H/\ys=(z.cps.toList.take i).map λc=>V.bl (isL c)) ⟨rfl,rfl⟩ ?_ hz2 ?_ ?_
    ·rintro i ys H' hi ⟨rfl,rfl⟩
     rw [D0,K2]
     omega
    ·rintro i c ys H' hc ⟨rfl,rfl⟩
     walk_at "sx"
     have e:=Qv c
     have e2:=Es (f:=λc=>V.bl (isL c)) hc
     split<;>rename_i hb
     ·rw [if_pos hb] at e
      rw [e]
      exact e2
     ·rw [if_neg hb] at e
      rw [e]
      exact e2
    ·rintro ys H' ⟨rfl,rfl⟩ D hD
     refine ⟨D,rfl,z.cps.toList.map isL,?_,?_⟩
     ·refine AH.of ?_
      rw [Ac,C4]
      have:z.cps.toList.take z.length=z.cps.toList:=C2
      rw [this]
      rfl
     ·have e:(z.cps.toList.map isL).all id=Ez z:=by
       unfold Ez
       rw [decide_eq_true h1,decide_eq_true h2,List.all_map]
       rfl
      rw [e]
      exact k _ (Ag.upd hD)
   ·refine Dh (by omega) (Hz (by omega) (hF ?_))
    unfold Ez
    rw [decide_eq_false h2,f7,P3]
  ·refine Du (by omega) (L2.iteT (hF ?_))
   unfold Ez
   rw [decide_eq_false h1,P3,P3]
theorem NJ:Av ["thing"] ["thing"] (Aj (top 9)):=⟨rfl,rfl,rfl,by decide +kernel,rfl,by decide +kernel,by decide +kernel⟩
theorem NW (T:Tx P w K mg)
  (G_is_letters:Au P w K mg base CX0 1 T.d_is_letters.f T.d_is_letters.fd ["text"] (Hj)):Au P w K mg base CX0 2 T.d_is_name.f T.d_is_name.fd ["thing"] (KP):=by
 refine T.d_is_name.F.ok NJ (λvs H Q E h=>?_) (λcdv A outer s H vs Q E hr h=>?_)
 ·obtain ⟨v,rfl,_⟩:=h
  rfl
 ·obtain ⟨v,rfl,th,k⟩:=h
  obtain ⟨u,hu1,hS,hB,hI⟩:=th.ty (K:=K)
  refine ⟨_,(Af (Al (Eo (AA Br (by rfl) T.n_isinstance Ba (Aa (pv 0) (Aa (CO (v:=.ty "str") rfl T.n_str EO rfl) Ab))) (Eo (Ar G_is_letters (hr.mono (by omega)) rfl T.d_is_letters.hm T.d_is_letters.F.kp T.d_is_letters.b .nil Ay (Aa (pv 0) Ab)) (DQ (BZ DG (pv 0) (BP (v:=.ref T.kwa) rfl T.kwm rfl) (by with_unfolding_all rfl))))))),?_⟩
  walk_at "sx"
  refine ⟨u,hu1,_,hS,?_⟩
  cases th with
  |str z hz =>
   refine L2.iteT ⟨z,rfl,hz,λH' s'=>⟨_,rfl,?_⟩⟩
   by_cases hl:Ez z=true
   ·rw [if_pos hl]
    refine ⟨_,_,rfl,.inr (T.kwt H'),rfl,EA Gb,?_⟩
    have e:(if true=true then !DH (V.str z) (Gb.map V.str) else DH (V.str z) (Gb.map V.str))=Kn (.str z):=by
     rw [if_pos rfl,RY]
     show _=Cr z
     unfold Cr
     rw [hl,u4]
    rw [e]
    exact k H' s'
   ·rw [if_neg hl]
    have e:false=Kn (.str z):=by
     show _=Cr z
     unfold Cr
     rw [show Ez z=false by simpa using hl,P3]
    rw [e]
    exact k H' s'
  |_=>exact L2.iteF (k H (Ag.refl H))
theorem HU:Av ["text"] ["text"] (Aj (top 10)):=⟨rfl,rfl,rfl,by decide +kernel,rfl,by decide +kernel,by decide +kernel⟩
theorem Ia (T:Tx P w K mg)
  (G_is_letters:Au P w K mg base CX0 1 T.d_is_letters.f T.d_is_letters.fd ["text"] (Hj)):Au P w K mg base CX0 2 T.d_is_told_word.f T.d_is_told_word.fd ["text"] (NA):=by
 refine T.d_is_told_word.F.ok HU (λvs H Q E h=>?_) (λcdv A outer s H vs Q E hr h=>?_)
 ·obtain ⟨z,rfl,_⟩:=h
  rfl
 ·obtain ⟨z,rfl,hz,k⟩:=h
  have hz2:z.length<=sizeLine:=Q0 hz (by decide)
  refine ⟨_,(Af (Al (Eo (Bx C3 Y7 X7 Gh (pv 0) (Aa Ao Ab)) (DQ (Ar G_is_letters (hr.mono (by omega)) rfl T.d_is_letters.hm T.d_is_letters.F.kp T.d_is_letters.b .nil Ay (Aa (Dd KS (pv 0) (Dv Ad) Ef) Ab)))))),?_⟩
  walk_at "sx"
  by_cases hl:Txt.startswith z ":"=true
  ·rw [if_pos hl]
   refine ⟨hz2,_,rfl,Q0 (LD z _ _) hz,λH' s'=>?_⟩
   have e:Ez (EW z (some 1) none)=Dt z:=by unfold Dt;rw [hl,u4]
   rw [e]
   exact k H' s'
  ·rw [if_neg hl]
   have e:false=Dt z:=by unfold Dt;rw [show Txt.startswith z ":"=false by simpa using hl,P3]
   rw [e]
   exact k H (Ag.refl H)
theorem Mf:Av ["thing"] ["thing"] (Aj (top 11)):=⟨rfl,rfl,rfl,by decide +kernel,rfl,by decide +kernel,by decide +kernel⟩
theorem Mv (T:Tx P w K mg)
  (G_is_name:Au P w K mg base CX0 2 T.d_is_name.f T.d_is_name.fd ["thing"] (KP))
  (G_is_told_word:Au P w K mg base CX0 2 T.d_is_told_word.f T.d_is_told_word.fd ["text"] (NA)):Au P w K mg base CX0 4 T.d_is_value.f T.d_is_value.fd ["thing"] (spVal):=by
 refine T.d_is_value.F.ok Mf (λvs H Q E h=>?_) (λcdv A outer s H vs Q E hr h=>?_)
 ·obtain ⟨v,rfl,_⟩:=h
  rfl
 ·obtain ⟨v,rfl,th,k⟩:=h
  obtain ⟨u,hu1,hS,hB,hI⟩:=th.ty (K:=K)
  refine ⟨_,(Ae (AD (BG (AA Br (by rfl) T.n_isinstance Ba (Aa (pv 0) (Aa (CO (v:=.ty "bool") rfl T.n_bool Pr rfl) Ab))))
  (Af (Al Ff))
  Ap)
  (Ae (AD (BG (AA Br (by rfl) T.n_isinstance Ba (Aa (pv 0) (Aa (CO (v:=.ty "int") rfl T.n_int HG rfl) Ab))))
  (Af (Al (IU GM GM Ad (pv 0) (BP (v:=.int 999999) rfl T.mvm ⟨_,rfl⟩))))
  Ap)
  (Af (Al (RH (Ar G_is_name (hr.mono (by omega)) rfl T.d_is_name.hm T.d_is_name.F.kp T.d_is_name.b .nil Ay (Aa (pv 0) Ab)) (DQ (Eo (AA Br (by rfl) T.n_isinstance Ba (Aa (pv 0) (Aa (CO (v:=.ty "str") rfl T.n_str EO rfl) Ab))) (DQ (Ar G_is_told_word (hr.mono (by omega)) rfl T.d_is_told_word.hm T.d_is_told_word.F.kp T.d_is_told_word.b .nil Ay (Aa (pv 0) Ab)))))))))),?_⟩
  walk_at "sx"
  refine ⟨u,hu1,_,hB,?_⟩
  have Em:isB v=false->isI v=false->(isS v=false->Hw v=false)->(Kn v=false->isS v=false->Hw v=false)->KP [v] H (λx H1=>∃ c,x=V.bl c/\if c=true then Q (V.bl true) H1 else ∃ x_5,Fv K H1 v x_5/\∃ x_6,Z4 K x_5 (Value.type "str")=some x_6/\if x_6=true then NA [v] H1 Q E0 else Q (V.bl false) H1) E0:=by
   intro _ _ h3 h4
   refine ⟨v,rfl,th,λH' s'=>⟨_,rfl,?_⟩⟩
   obtain ⟨u',hu1',hS',_,_⟩:=(th.same s').ty (K:=K)
   cases th with
   |str z hz =>
    by_cases hn:Kn (.str z)=true
    ·rw [if_pos hn]
     have e:true=Hw (.str z):=by
      show _=(Cr z||Dt z)
      rw [show Cr z=true from hn,Bool.true_or]
     rw [e]
     exact k H' s'
    ·rw [if_neg hn]
     refine ⟨u',hu1',_,hS',L2.iteT ⟨z,rfl,hz,λH2 s2=>?_⟩⟩
     have e:Dt z=Hw (.str z):=by
      show _=(Cr z||Dt z)
      rw [show Cr z=false by simpa [Kn] using hn,o7]
     rw [e]
     exact k H2 (s'.trans s2)
   |int i=>exact L2.iteF ⟨u',hu1',_,hS',L2.iteF (by have e:=h3 rfl;rw [<- e];exact k H' s')⟩
   |bl b=>exact L2.iteF ⟨u',hu1',_,hS',L2.iteF (k H' s')⟩
   |non=>exact L2.iteF ⟨u',hu1',_,hS',L2.iteF (k H' s')⟩
   |lst _=>exact L2.iteF ⟨u',hu1',_,hS',L2.iteF (k H' s')⟩
   |tup _=>exact L2.iteF ⟨u',hu1',_,hS',L2.iteF (k H' s')⟩
   |dic _=>exact L2.iteF ⟨u',hu1',_,hS',L2.iteF (k H' s')⟩
  cases th with
  |bl b=>exact L2.iteT (k H (Ag.refl H))
  |int i =>
   refine L2.iteF ⟨u,hu1,_,hI,L2.iteT ⟨i,rfl,?_⟩⟩
   by_cases h0:0<=i
   ·refine Dh h0 ⟨i,rfl,?_⟩
    have e:decide (i<=999999)=Hw (.int i):=by
     show _=(decide (0<=i)&&decide (i<=999999))
     rw [decide_eq_true h0,u4]
    rw [e]
    exact k H (Ag.refl H)
   ·refine Du h0 ?_
    have e:false=Hw (.int i):=by
     show _=(decide (0<=i)&&decide (i<=999999))
     rw [decide_eq_false h0,P3]
    rw [e]
    exact k H (Ag.refl H)
  |str z hz=>exact L2.iteF ⟨u,hu1,_,hI,L2.iteF (Em rfl rfl (λz=>nomatch z) (λ_ z=>nomatch z))⟩
  |non=>exact L2.iteF ⟨u,hu1,_,hI,L2.iteF (Em rfl rfl (λ_=>rfl) (λ_ _=>rfl))⟩
  |lst _=>exact L2.iteF ⟨u,hu1,_,hI,L2.iteF (Em rfl rfl (λ_=>rfl) (λ_ _=>rfl))⟩
  |tup _=>exact L2.iteF ⟨u,hu1,_,hI,L2.iteF (Em rfl rfl (λ_=>rfl) (λ_ _=>rfl))⟩
  |dic _=>exact L2.iteF ⟨u,hu1,_,hI,L2.iteF (Em rfl rfl (λ_=>rfl) (λ_ _=>rfl))⟩
theorem Hl:Av ["word"] ["word"] (Aj (top 12)):=⟨rfl,rfl,rfl,by decide +kernel,rfl,by decide +kernel,by decide +kernel⟩
theorem Hu (T:Tx P w K mg):Au P w K mg base CX0 1 T.d_is_block_word.f T.d_is_block_word.fd ["word"] (II):=by
 refine T.d_is_block_word.F.ok Hl (λvs H Q E h=>?_) (λcdv A outer s H vs Q E hr h=>?_)
 ·obtain ⟨z,rfl,_⟩:=h
  rfl
 ·obtain ⟨z,rfl,k⟩:=h
  have hd:=T.pd
  have hv:=T.pis
  refine ⟨_,(Af (Al (RK (Le (pv 0) (BP (v:=.ref T.pp) rfl T.ppm rfl))))),?_⟩
  walk_at "sx"
  refine dinK (P:=P) (w:=w) rfl hd ?_
  rw [hv,i6]
  exact k
theorem KW:Av ["word"] ["word"] (Aj (top 22)):=⟨rfl,rfl,rfl,by decide +kernel,rfl,by decide +kernel,by decide +kernel⟩
theorem Lg (T:Tx P w K mg):Au P w K mg base CX0 1 T.d_number_of.f T.d_number_of.fd ["word"] (IG):=by
 refine T.d_number_of.F.ok KW (λvs H Q E h=>?_) (λcdv A outer s H vs Q E hr h=>?_)
 ·obtain ⟨z,rfl,_⟩:=h
  rfl
 ·obtain ⟨z,rfl,hz,k⟩:=h
  have hz2:z.length<=sizeLine:=Q0 hz (by decide)
  refine ⟨_,(Ae (AD (PW.pt (HK (CS (IR GM GM Ad (AA AX (by rfl) T.n_len BB (Aa (pv 0) Ab)) (BP (v:=.int 6) rfl T.mfm ⟨_,rfl⟩))) (Fc (CS (BG (AA (Nd rfl) (by rfl) T.n_all SR (Aa (Fe (N':=["sign"]) (sel:=[none]) rfl rfl rfl (RF (pv 0)) (Cc rfl) (λ_ _ _ _ _=>⟨(AJ (i:=0) (show (["sign"]:List Str).Nodup by decide +kernel) rfl (Or.inl rfl)),CN,(IU FD FD Ao (pv 0) Ao)⟩)) Ab)))))))
  (Af (Al BL))
  Ap)
  (Ae (AD (PW.pt (Dq (BG (Bx C3 Y7 X7 Gh (pv 0) (Aa Ao Ab))) (Db (Ak GL (pv 0) Ao (At _)))))
  (Af (Al BL))
  Ap)
  (Af (Al (AY Qz (by rfl) T.n_int HG (Aa (pv 0) Ab)))))),?_⟩
  walk_at "sx"
  refine ⟨hz2,?_⟩
  have hF:Js z=false->∀ H',Ag H H'->Q V.non H':=λe H' s=>by
   have e2:Gv z=none:=by unfold Gv;rw [e];rfl
   have:=k H' s
   rw [e2] at this
   exact this
  by_cases h1:1<=z.length
  ·by_cases h2:z.length<=6
   ·refine Dh (by omega) (GU (by omega) ?_)
    refine ⟨_,rfl,z,rfl,?_⟩
    refine Sd (λi ys H'=>H'=H/\ys=(z.cps.toList.take i).map λc=>V.bl (QG c)) ⟨rfl,rfl⟩ ?_ hz2 ?_ ?_
    ·rintro i ys H' hi ⟨rfl,rfl⟩
     rw [D0,K2]
     omega
    ·rintro i c ys H' hc ⟨rfl,rfl⟩
     walk_at "sx"
     have e:=Qw c
     have e2:=Es (f:=λc=>V.bl (QG c)) hc
     split<;>rename_i hb
     ·rw [if_pos hb] at e
      rw [e]
      exact e2
     ·rw [if_neg hb] at e
      rw [e]
      exact e2
    ·rintro ys H' ⟨rfl,rfl⟩ D hD
     have s1:=Ag.upd (o:=.lst ((z.cps.toList.take z.length).map λc=>V.bl (QG c))) hD
     refine ⟨D,rfl,z.cps.toList.map QG,?_,?_⟩
     ·refine AH.of ?_
      rw [Ac,C4]
      have:z.cps.toList.take z.length=z.cps.toList:=C2
      rw [this]
      rfl
     ·have e:(z.cps.toList.map QG).all id=Js z:=by
       unfold Js
       rw [decide_eq_true h1,decide_eq_true h2,List.all_map]
       rfl
      rw [e]
      cases hg:Js z with
      |false=>exact hF hg _ s1
      |true =>
       have hI:=SF hg
       have k1:=k _ s1
       unfold Gv at k1
       rw [if_pos hg] at k1
       rw [if_neg (by decide)]
       by_cases h0:Txt.startswith z "0"=true
       ·rw [if_pos h0]
        refine ⟨rfl,?_⟩
        by_cases hzz:z="0"
        ·rw [if_neg (λq=>q.2 hzz)] at k1
         exact GU hzz ⟨_,hI,Q0 h2 (by decide),k1⟩
        ·rw [if_pos ⟨h0,hzz⟩] at k1
         exact Hz hzz k1
       ·rw [if_neg (λq=>h0 q.1)] at k1
        rw [if_neg h0,if_neg N0]
        exact ⟨_,hI,Q0 h2 (by decide),k1⟩
   ·refine Dh (by omega) (Hz (by omega) (hF ?_ H (Ag.refl H)))
    unfold Js
    rw [decide_eq_false h2,f7,P3]
  ·refine Du (by omega) (L2.iteT (hF ?_ H (Ag.refl H)))
   unfold Js
   rw [decide_eq_false h1,P3,P3]
theorem IN:Av ["word", "least", "greatest", "number"] ["word", "least", "greatest"] (Aj (top 23)):=⟨rfl,rfl,rfl,by decide +kernel,rfl,by decide +kernel,by decide +kernel⟩
theorem NX (T:Tx P w K mg)
  (G_number_of:Au P w K mg base CX0 1 T.d_number_of.f T.d_number_of.fd ["word"] (IG)):Au P w K mg base CX0 2 T.d_bounded.f T.d_bounded.fd ["word", "least", "greatest"] (Kc):=by
 refine T.d_bounded.F.ok IN (λvs H Q E h=>?_) (λcdv A outer s H vs Q E hr h=>?_)
 ·obtain ⟨z,lo,hi,rfl,_⟩:=h
  rfl
 ·obtain ⟨z,lo,hi,rfl,hz,k⟩:=h
  refine ⟨_,(Ae (Ax (i:=3) IN.nd rfl (Or.inl rfl) (Ar G_number_of (hr.mono (by omega)) rfl T.d_number_of.hm T.d_number_of.F.kp T.d_number_of.b .nil Ay (Aa (pv 0) Ab)))
  (Ae (AD (PW.pt (HK (Ak NP (pv 3) BL (At _)) (Fc (CS (IR GM GM (pv 1) (pv 3) (pv 2))))))
  (Af (Al BL))
  Ap)
  (Af (Al (pv 3))))),?_⟩
  walk_at "sx"
  refine ⟨z,rfl,hz,λH1 s1=>?_⟩
  have k1:=k H1 s1
  unfold LI at k1
  cases e:Gv z with
  |none =>
   rw [e] at k1
   exact Dh rfl k1
  |some n =>
   rw [e] at k1
   refine Du (λq=>nomatch q) ⟨n,rfl,?_⟩
   have k2:Q (if lo<=n/\n<=hi then V.int n else V.non) H1:=k1
   by_cases h1:lo<=n
   ·refine Dh h1 ⟨n,rfl,?_⟩
    by_cases h2:n<=hi
    ·rw [if_pos ⟨h1,h2⟩] at k2
     exact GU h2 k2
    ·rw [if_neg (λq=>h2 q.2)] at k2
     exact Hz h2 k2
   ·rw [if_neg (λq=>h1 q.1)] at k2
    exact Du h1 (L2.iteT k2)
theorem EZ:Av ["word", "number", "value"] ["word"] (Aj (top 24)):=⟨rfl,rfl,rfl,by decide +kernel,rfl,by decide +kernel,by decide +kernel⟩
theorem Mo (T:Tx P w K mg)
  (G_number_of:Au P w K mg base CX0 1 T.d_number_of.f T.d_number_of.fd ["word"] (IG))
  (G_is_value:Au P w K mg base CX0 4 T.d_is_value.f T.d_is_value.fd ["thing"] (spVal)):Au P w K mg base CX0 6 T.d_value_of.f T.d_value_of.fd ["word"] (JX):=by
 refine T.d_value_of.F.ok EZ (λvs H Q E h=>?_) (λcdv A outer s H vs Q E hr h=>?_)
 ·obtain ⟨z,rfl,_⟩:=h
  rfl
 ·obtain ⟨z,rfl,hz,k⟩:=h
  refine ⟨_,(Ae (Ax (i:=1) EZ.nd rfl (Or.inl rfl) (Ar G_number_of (hr.mono (by omega)) rfl T.d_number_of.hm T.d_number_of.F.kp T.d_number_of.b .nil Ay (Aa (pv 0) Ab)))
  (Ae (Ax (i:=2) EZ.nd rfl (Or.inl rfl) (Ex (Ak NP (pv 1) BL (At _)) (pv 0) (pv 1)))
  (Af (Al (Ex (BG (Ar G_is_value (hr.mono (by omega)) rfl T.d_is_value.hm T.d_is_value.F.kp T.d_is_value.b .nil Ay (Aa (pv 2) Ab))) (pv 2) BL))))),?_⟩
  walk_at "sx"
  refine ⟨z,rfl,hz,λH1 s1=>?_⟩
  cases e:Gv z with
  |none =>
   refine Dh rfl ⟨.str z,rfl,.str z hz,λH2 s2=>⟨_,rfl,?_⟩⟩
   have k1:=k H2 (s1.trans s2)
   unfold EF at k1
   rw [e] at k1
   have k2:Q (if Hw (.str z)=true then V.str z else V.non) H2:=k1
   cases hm:Hw (.str z) with
   |true=>rw [hm] at k2;exact k2
   |false=>rw [hm] at k2;exact k2
  |some n =>
   refine Du (λq=>nomatch q) ⟨.int n,rfl,.int n,λH2 s2=>⟨_,rfl,?_⟩⟩
   have k1:=k H2 (s1.trans s2)
   unfold EF at k1
   rw [e] at k1
   have k2:Q (if Hw (.int n)=true then V.int n else V.non) H2:=k1
   cases hm:Hw (.int n) with
   |true=>rw [hm] at k2;exact k2
   |false=>rw [hm] at k2;exact k2
theorem Mg:Av ["slot", "word"] ["slot", "word"] (Aj (top 25)):=⟨rfl,rfl,rfl,by decide +kernel,rfl,by decide +kernel,by decide +kernel⟩
theorem Mw (T:Tx P w K mg)
  (G_bounded:Au P w K mg base CX0 2 T.d_bounded.f T.d_bounded.fd ["word", "least", "greatest"] (Kc))
  (G_value_of:Au P w K mg base CX0 6 T.d_value_of.f T.d_value_of.fd ["word"] (JX))
  (G_is_name:Au P w K mg base CX0 2 T.d_is_name.f T.d_is_name.fd ["thing"] (KP)):Au P w K mg base CX0 8 T.d_field_of.f T.d_field_of.fd ["slot", "word"] (Kb):=by
 refine T.d_field_of.F.ok Mg (λvs H Q E h=>?_) (λcdv A outer s H vs Q E hr h=>?_)
 ·obtain ⟨y,z,rfl,_⟩:=h
  rfl
 ·obtain ⟨y,z,rfl,hy,hz,k⟩:=h
  refine ⟨_,(Ae (AD (RB (Le (pv 0) (BP (v:=.ref T.gra) rfl T.grm rfl)))
  (Af (Al (Ar G_bounded (hr.mono (by omega)) rfl T.d_bounded.hm T.d_bounded.F.kp T.d_bounded.b .nil Ay (Aa (pv 1) (Aa Ad (Aa (pe_dixK (BP (v:=.ref T.gra) rfl T.grm rfl) (pv 0) (λ_ _=>rfl)) Ab))))))
  Ap)
  (Ae (AD (Ak Bg (pv 0) Ao (At _))
  (Af (Al (Ar G_value_of (hr.mono (by omega)) rfl T.d_value_of.hm T.d_value_of.F.kp T.d_value_of.b .nil Ay (Aa (pv 1) Ab))))
  Ap)
  (Ae (AD (Ak Bg (pv 0) Ao (At _))
  (Af (Al (Ex (BG (Ar G_is_name (hr.mono (by omega)) rfl T.d_is_name.hm T.d_is_name.F.kp T.d_is_name.b .nil Ay (Aa (pv 1) Ab))) (pv 1) BL)))
  Ap)
  (Af (Al (Ex (Ak Bg (pv 1) (pv 0) (At _)) (pv 1) BL)))))),?_⟩
  walk_at "sx"
  refine dinK (P:=P) (w:=w) rfl T.grd ⟨_,rfl,?_⟩
  have hg:=gr_get y
  unfold Aw at k
  rw [i6]
  by_cases h1:y="N"
  ·rw [if_pos h1] at hg
   rw [hg]
   refine L2.iteT (dixK (P:=P) (w:=w) rfl T.grd hg ⟨z,1,99,rfl,hz,λH1 s1=>?_⟩)
   have:=k H1 s1
   rw [if_pos h1] at this
   exact this
  ·rw [if_neg h1] at hg
   by_cases h2:y="ROUNDS"
   ·rw [if_pos h2] at hg
    rw [hg]
    refine L2.iteT (dixK (P:=P) (w:=w) rfl T.grd hg ⟨z,1,9,rfl,hz,λH1 s1=>?_⟩)
    have:=k H1 s1
    rw [if_neg h1,if_pos h2] at this
    exact this
   ·rw [if_neg h2] at hg
    rw [hg]
    refine L2.iteF ⟨rfl,?_⟩
    by_cases h3:y="VALUE"
    ·refine Dh h3 ⟨z,rfl,hz,λH1 s1=>?_⟩
     have:=k H1 s1
     rw [if_neg h1,if_neg h2,if_pos h3] at this
     exact this
    ·refine Du h3 ⟨rfl,?_⟩
     by_cases h4:y="NAME"
     ·refine Dh h4 ⟨.str z,rfl,.str z hz,λH1 s1=>⟨_,rfl,?_⟩⟩
      have k1:=k H1 s1
      rw [if_neg h1,if_neg h2,if_neg h3,if_pos h4] at k1
      show if Cr z=true then _ else _
      cases hm:Cr z with
      |true=>rw [hm] at k1;exact k1
      |false=>rw [hm] at k1;exact k1
     ·refine Du h4 ⟨rfl,?_⟩
      have k1:=k H (Ag.refl H)
      rw [if_neg h1,if_neg h2,if_neg h3,if_neg h4] at k1
      by_cases h5:z=y
      ·rw [if_pos h5] at k1
       exact Dh h5 k1
      ·rw [if_neg h5] at k1
       exact Du h5 k1
theorem Kg:Av ["slots", "words", "field_at", "fields"] ["slots", "words", "field_at"] (Aj (top 26)):=⟨rfl,rfl,rfl,by decide +kernel,rfl,by decide +kernel,by decide +kernel⟩
theorem Qg (T:Tx P w K mg)
  (G_field_of:Au P w K mg base CX0 8 T.d_field_of.f T.d_field_of.fd ["slot", "word"] (Kb)):Au P w K mg base CX0 10 T.d_fitted.f T.d_fitted.fd ["slots", "words", "field_at"] (Mb T.d_field_of.f):=by
 refine T.d_fitted.F.ok Kg (λvs H Q E h=>?_) (λcdv A outer s H vs Q E hr h=>?_)
 ·obtain ⟨a,b,slots,ws,rfl,_⟩:=h
  rfl
 ·obtain ⟨a,b,slots,ws,rfl,ha,hb,ws1,ws2,k0,k1⟩:=h
  have G_own:=G_field_of
  have kp_own:=T.d_field_of.F.kp
  have b_own:=T.d_field_of.b
  refine ⟨_,(Ae (AD (Ak GL (AA AX (by rfl) T.n_len BB (Aa (pv 0) Ab)) (AA AX (by rfl) T.n_len BB (Aa (pv 1) Ab)) (At _))
  (Af (Al BL))
  Ap)
  (Ae (Fd (i:=3) Kg.nd rfl (Or.inl rfl) (N':=["slot", "word", "field_at"]) (sel:=[none,none,some 2]) rfl rfl rfl (pi_zip rfl T.n_zip (Aa (pv 0) (Aa (pv 1) Ab))) (gk_two rfl rfl) (λ_ _ _ _ _=>⟨(Hs rfl (BD (AJ (i:=0) (show (["slot", "word", "field_at"]:List Str).Nodup by decide +kernel) rfl (Or.inl rfl)) (BD (AJ (i:=1) (show (["slot", "word", "field_at"]:List Str).Nodup by decide +kernel) rfl (Or.inl rfl)) EL))),CN,(RL (pv 2) G_own (hr.mono (by omega)) kp_own b_own .nil Ay (Aa (pv 0) (Aa (pv 1) Ab)))⟩) rfl)
  (Af (Al (Ex (Ak Cg BL (pv 3) (by with_unfolding_all rfl)) BL (pv 3)))))),?_⟩
  walk_at "sx"
  refine ⟨slots.length,Bo.mpr (.inl ⟨_,AH.of ha,by rw [D0]⟩),ws.length,Bo.mpr (.inl ⟨_,AH.of hb,by rw [D0]⟩),rfl,?_⟩
  by_cases hl:slots.length=ws.length
  ·refine GU (by rw [hl]) ?_
   simp only [KG,iZip]
   walk_at "sx"
   refine ⟨⟨_,AH.of ha⟩,⟨_,AH.of hb⟩,?_⟩
   refine lc_zip (K:=K) (xs:=slots.map V.str) (ys:=ws.map V.str) (by rw [D0,D0,hl]) (λi zs G=>Ag H G/\zs=(M4 Aw slots ws).take i) ⟨Ag.refl H,rfl⟩ ?_ ?_ ?_ ?_
   ·rintro i zs G hi ⟨s1,rfl⟩
    exact ⟨AH.of (s1 _ _ ha),AH.of (s1 _ _ hb),by rw [K2];omega⟩
   ·rw [D0];exact Q0 ws1.1 (by decide)
   ·rintro i x y p zs G hx hy ⟨s1,rfl⟩ hp
    rw [Q1] at hx hy
    obtain ⟨sl,hsl,rfl⟩:=j3.mp hx
    obtain ⟨wd,hwd,rfl⟩:=j3.mp hy
    simp only [gTup,Gi,Lx,Ra]
    walk_at "sx"
    have e1:(M4 Aw slots ws)[i]?=some (Aw sl wd):=by rw [Z6,hsl,hwd]
    refine ⟨_,BN.of Ac,rfl,_,_,rfl,_,_,rfl,rfl,sl,wd,rfl,ws1.2 _ (d0 hsl),ws2.2 _ (d0 hwd),λH4 s4=>⟨(s1.trans (Ag.upd hp)).trans s4,?_⟩⟩
    rw [C6,e1]
    rfl
   ·rintro zs G ⟨s1,rfl⟩ D hD
    rw [D0]
    have eL:(M4 Aw slots ws).take slots.length=M4 Aw slots ws:=U6 (by rw [List.length_zipWith];omega)
    rw [eL]
    have s2:Ag H (upd G D (.lst (M4 Aw slots ws))):=s1.trans (Ag.upd hD)
    refine ⟨D,_,rfl,.inl (AH.of Ac),rfl,zip_V slots ws,_,rfl,?_⟩
    rw [if_neg N0]
    cases hi:DH V.non (M4 Aw slots ws) with
    |true =>
     refine k0 ?_ _ s2
     unfold Fo
     rw [if_pos hl,if_pos hi]
    |false =>
     refine k1 _ ?_ D _ (s1.free hD) Ac s2
     unfold Fo
     rw [if_pos hl,if_neg (by rw [hi];exact N0)]
  ·refine Hz (λq=>hl (Int.ofNat.inj q)) (k0 ?_ H (Ag.refl H))
   unfold Fo
   rw [if_neg hl]
theorem EJ:Av ["forms", "words", "field_at", "form", "fields"] ["forms", "words", "field_at"] (Aj (top 27)):=⟨rfl,rfl,rfl,by decide +kernel,rfl,by decide +kernel,by decide +kernel⟩
theorem Ll (T:Tx P w K mg)
  (G_fitted:Au P w K mg base CX0 10 T.d_fitted.f T.d_fitted.fd ["slots", "words", "field_at"] (Mb T.d_field_of.f)):Au P w K mg base CX0 12 T.d_first_fit.f T.d_first_fit.fd ["forms", "words", "field_at"] (OL T):=by
 refine T.d_first_fit.F.ok EJ (λvs H Q E h=>?_) (λcdv A outer s H vs Q E hr h=>?_)
 ·obtain ⟨b,ws,rfl,_⟩:=h
  rfl
 ·obtain ⟨b,ws,rfl,hb,hw,k0,k1⟩:=h
  refine ⟨_,(Ae (Dr PassesOwn.never rfl (EK (pv 0)) (AJ (i:=3) EJ.nd rfl (Or.inl rfl))
  (Ae (Ax (i:=4) EJ.nd rfl (Or.inl rfl) (Ar G_fitted (hr.mono (by omega)) rfl T.d_fitted.hm T.d_fitted.F.kp T.d_fitted.b .nil Ay (Aa (Bx C3 Q6 O6 Je (pv 3) (Aa Ao Ab)) (Aa (pv 1) (Aa (pv 2) Ab)))))
  (Af (AD (Ak op_notN (pv 4) BL (At _))
  (Af (Al (pv 4)))
  Ap))))
  (Af (Al BL))),?_⟩
  walk_at "sx"
  simp only [QW,iTup,IB,Q5,A5,exists_eq_left',V.ref.injEq]
  refine ⟨⟨_,T.fmt H⟩,?_⟩
  refine GX (K:=K) (a:=T.fma) (xs:=FORMS.map V.str) (D:={ nx:=tRet (tC V.non) { nx:=λx H'=>Q V.non H',rt:=Q },rt:=Q }) (λi σ G=>Ag H G/\(∃ x y,σ=[some (V.ref T.fma),some (V.ref b),some (V.ref T.d_field_of.f),x,y])/\Bz (SL.drop i) ws=Bz SL ws) ⟨Ag.refl H,⟨_,_,rfl⟩,rfl⟩ ?_ ?_ ?_
  ·rintro i σ G hi ⟨s1,_,_⟩
   exact T.fmt G
  ·rintro i x σ G hx ⟨s1,⟨x1,y1,rfl⟩,e⟩
   rw [Q1] at hx
   obtain ⟨fm,hfm,rfl⟩:=j3.mp hx
   have hS:SL[i]?=some (Txt.split fm ⟨#[32]⟩):=by rw [<- MR,Q1,hfm];rfl
   have hd:=Om (ws:=ws) hS
   rw [e] at hd
   walk_at "sx"
   refine ⟨fm,32,rfl,by rw [sp1],Q0 (Sz fm (d0 hfm)) (by decide),λq hq=>?_⟩
   have sq:=s1.trans (Ag.upd (o:=.lst ((Txt.split fm ⟨#[32]⟩).map V.str)) hq)
   refine ⟨q,b,_,ws,rfl,Ac,sq _ _ hb,sl_ok _ (d0 hS),hw,λe2 H1 sm=>?_,λx e2 l H1 hl0 hl1 sm=>?_⟩
   ·rw [e2] at hd
    exact GU rfl ⟨sq.trans sm,⟨_,rfl⟩,hd.symm⟩
   ·rw [e2] at hd
    exact Hz (λz=>nomatch z) (k1 x hd l H1 (sq.free hl0) hl1 (sq.trans sm))
  ·rintro σ G ⟨s1,_,e⟩
   rw [D0] at e
   have e2:SL.drop FORMS.length=[]:=rfl
   rw [e2] at e
   walk_at "sx"
   exact k0 e.symm G s1
theorem Kf:Av ["fields", "number", "kept"] ["fields", "number"] (Aj (top 28)):=⟨rfl,rfl,rfl,by decide +kernel,rfl,by decide +kernel,by decide +kernel⟩
theorem Qd (T:Tx P w K mg):Au P w K mg base CX0 1 T.d_row_of.f T.d_row_of.fd ["fields", "number"] (KM):=by
 refine T.d_row_of.F.ok Kf (λvs H Q E h=>?_) (λcdv A outer s H vs Q E hr h=>?_)
 ·obtain ⟨l,fs,n,rfl,_⟩:=h
  rfl
 ·obtain ⟨l,fs,n,rfl,hl,hf,k⟩:=h
  obtain ⟨⟨wd,r,rfl⟩,hlen,hfl⟩:=hf
  refine ⟨_,(Ae (Fd (i:=2) Kf.nd rfl (Or.inl rfl) (N':=["field"]) (sel:=[none]) rfl rfl rfl (DF (Dd KT (pv 0) (Dv Ad) Ef)) (Cc rfl) (λ_ _ _ _ _=>⟨(AJ (i:=0) (show (["field"]:List Str).Nodup by decide +kernel) rfl (Or.inl rfl)),(Il (Ak (JJ (K:=K) rfl) (pv 0) (Bl (Aa Ao (Aa Ao Ab))) (by with_unfolding_all rfl))),(pv 0)⟩) rfl)
  (Ae (AD (PW.pt (Dq (Ak Bg (An As (pv 0) Ad (λ_ _=>rfl)) Ao (At _)) (Db (Ak DG Ao (pv 0) (by with_unfolding_all rfl)))))
  (Af (AQ (Bx Z0 D1 C1 AR (pv 2) (Aa Ad Ab))))
  Ap)
  (Af (Al (AY Be (by rfl) T.n_tuple BJ (Aa (Am DR (Ai (Aa (An As (pv 0) Ad (λ_ _=>rfl)) (Aa (pv 1) Ab))) (pv 2)) Ab)))))),?_⟩
  walk_at "sy"
  simp only [KG,Ph]
  walk_at "sy"
  have hwd:(.str wd:V)=.str wd:=rfl
  have hr:∀ v∈r,flatB v=true:=λv hv=>hfl v (A0 _ hv)
  rw [J0] at hlen
  refine ⟨l,_,rfl,AH.of hl,λp hp=>⟨p,rfl,⟨_,AH.of Ac⟩,?_⟩⟩
  rw [cut1]
  have s0:=Ag.upd (o:=.lst r) hp
  have at0:∀ {G:Hp} {R:VK},Ag H G->R (.str wd) G->Ew K (.ref l) (.int 0) G R:=λ{G R} s q=>⟨l,_,0,.str wd,rfl,rfl,AH.of (s _ _ hl),AV (j:=0) rfl,q⟩
  refine Ej (K:=K) (a:=p) (xs:=r) (λi zs G=>Ag (upd H p (.lst r)) G/\zs=(r.take i).filter λv=>!DH v [.str "in",.str "within"]) ⟨Ag.refl _,rfl⟩ ?_ (Q0 (show r.length<=10 by omega) (by decide)) ?_ ?_
  ·rintro i zs G hi ⟨s1,rfl⟩
   refine ⟨AH.of (s1 _ _ Ac),Q0 (E3 _ _) ?_⟩
   rw [K2];omega
  ·rintro i x zs G hx ⟨s1,rfl⟩
   walk_at "sy"
   have e:=HP (f:=λv=>!DH v [.str "in",.str "within"]) hx
   refine ⟨by decide,λq hq=>⟨q,_,rfl,.inr (BN.of Ac),LA (hr x (d0 hx)),rfl,_,rfl,?_⟩⟩
   rw [if_pos rfl]
   have s2:=s1.trans (Ag.upd (o:=.tup [.str "in",.str "within"]) hq)
   cases hin:DH x [.str "in",.str "within"] with
   |true =>
    rw [if_neg (by rw [hin];exact N0)] at e
    exact ⟨s2,e.symm⟩
   |false =>
    rw [if_pos (by rw [hin];rfl)] at e
    exact ⟨s2,e.symm⟩
  ·rintro zs G ⟨s1,rfl⟩ D hD
   rw [C2]
   have sG:Ag H G:=s0.trans s1
   have fin:∀ {G':Hp} (ks:List V),Ag H G'->G' D=some (.lst ks)->ks.length<=1000->.str wd::.int n::ks=HX (.str wd::r) n->Ew K (.ref l) (.int 0) G' λx H1=>2<=sizeLine/\∀ (p:Addr),H1 p=none->rCat (V.ref p) (V.ref D) (upd H1 p (HO.lst [x,V.int n])) λx H1=>∃ p,x=V.ref p/\∃ x,(AH K H1 p x/\∀ (l:Addr),H1 l=none->Q (V.ref l) (upd H1 l (HO.tup x)))\/BN K H1 p x/\Q (V.ref p) H1:=λ{G'} ks sm hk hkl ek=>by
    refine at0 sm ⟨by decide,λq hq=>?_⟩
    have sq:=Ag.upd (o:=.lst [.str wd,.int n]) hq
    refine ⟨q,D,_,_,rfl,rfl,Ac,sq _ _ hk,Q0 (Nat.add_le_add_left hkl _) (show 2+1000<=sizeLine by decide),λq2 hq2=>⟨q2,rfl,_,.inl ⟨AH.of Ac,λq3 hq3=>?_⟩⟩⟩
    refine k q3 _ ?_ (sm.trans (sq.trans ((Ag.upd hq2).trans (Ag.upd hq3))))
    rw [Ac,<- ek]
    rfl
   have lenF:(r.filter λv=>!DH v [.str "in",.str "within"]).length<=10:=Q0 (E3 _ _) (by omega)
   generalize hZ:(r.filter λv=>!DH v [.str "in",.str "within"])=zs at lenF
   have sD:Ag H (upd G D (.lst zs)):=sG.trans (Ag.upd hD)
   have eK:∀ b:Bool,(b=true↔(wd="begin"/\DH (.str "within") (.str wd::r)=false))->HX (.str wd::r) n=.str wd::.int n::(zs++if b=true then [.int 0] else []):=λb hb=>by
    unfold HX GS
    show V.str wd::V.int n::((r.filter λv=>!DH v [.str "in",.str "within"])++_)=_
    rw [hZ]
    have:(some (V.str wd)=some (V.str "begin")/\DH (.str "within") (.str wd::r)=false)↔b=true:=by
     rw [hb]
     constructor
     ·rintro ⟨h1,h2⟩
      cases h1
      exact ⟨rfl,h2⟩
     ·rintro ⟨h1,h2⟩
      rw [h1] at h2 |-
      exact ⟨rfl,h2⟩
    show V.str wd::V.int n::(zs++(if some (V.str wd)=some (V.str "begin")/\DH (.str "within") (.str wd::r)=false then [.int 0] else []))=_
    by_cases hbt:b=true
    ·rw [if_pos hbt,if_pos (this.mpr hbt)]
    ·rw [if_neg hbt,if_neg (λq=>hbt (this.mp q))]
   refine at0 sD ⟨rfl,?_⟩
   have hfv:(V.str wd::r).all Dy=true:=by
    rw [Y2]
    exact λv hv=>LA (hfl v hv)
   by_cases hbg:wd="begin"
   ·refine Dh (by rw [hbg]) ⟨l,_,rfl,.inl (AH.of (sD _ _ hl)),rfl,hfv,_,rfl,?_⟩
    rw [if_pos rfl]
    cases hin:DH (.str "within") (V.str wd::r) with
    |true =>
     refine fin zs sD Ac (by omega) ?_
     rw [eK false ⟨(λq=>nomatch q),λq=>by rw [hin] at q;exact nomatch q.2⟩]
     show _=V.str wd::V.int n::(zs++[])
     rw [o0]
    |false =>
     show _/\_
     refine ⟨.inl ⟨_,AH.of Ac⟩,D,zs,.int 0,rfl,rfl,Ac,S3 lenF (by decide),?_⟩
     have hD0:H D=none:=sG.free hD
     refine fin (zs++[.int 0]) (λa o e=>?_) Ac (by rw [B0];show zs.length+1<=1000;omega) ?_
     ·rw [Aq (λq=>by rw [q,hD0] at e;cases e)]
      exact sD _ _ e
     ·rw [eK true ⟨λ_=>⟨hbg,hin⟩,λ_=>rfl⟩]
      rfl
   ·refine Du (λq=>hbg (V.str.inj q)) ?_
    rw [if_neg N0]
    refine fin zs sD Ac (by omega) ?_
    rw [eK false ⟨(λq=>nomatch q),λq=>absurd q.1 hbg⟩]
    show _=V.str wd::V.int n::(zs++[])
    rw [o0]
theorem FN:Av ["self", "head"] ["self", "head"] (Aj (AB (top 29) 0)):=⟨rfl,rfl,rfl,by decide +kernel,rfl,by decide +kernel,by decide +kernel⟩
theorem FU (T:Tx P w K mg):Au P w K mg base CX0 1 T.m_Unended___init__.f T.m_Unended___init__.fd ["self", "head"] (KL T):=by
 refine T.m_Unended___init__.F.ok FN (λvs H Q E h=>?_) (λcdv A outer s H vs Q E hr h=>?_)
 ·obtain ⟨x,dx,hA,hd,rfl,_⟩:=h
  rfl
 ·obtain ⟨x,dx,hA,hd,rfl,hx,hh,hz,k⟩:=h
  refine ⟨_,(Ae (En (pv 0) (pv 1) rfl)
  (Ae (En (pv 0) (Ai Ab) rfl)
  (Ae (En (pv 0) Ff rfl)
  (Ae (En (pv 0) (Bl Ab) rfl)
  (Af (En (pv 0) (Ai Ab) rfl)))))),?_⟩
  walk_at "sy"
  have O0:=Cu.new (T:=T) (c:=.une) hx
  obtain ⟨d1,f1,q1,q2,q3,q4,H1,e1,B1,O1,_⟩:=O0.stN .head (.ref hA)
  refine ⟨_,d1,f1,q1,q2,q3,q4,by decide,?_⟩
  rw [show upd H x (HO.ins (T.C .une) d1 (Cq ("head":Str) (V.ref hA) f1))=H1 from e1.symm]
  intro rA hr0
  have sr:=Ag.upd (o:=.lst []) hr0
  have O1':=O1.same sr
  obtain ⟨d2,f2,q1,q2,q3,q4,H2,e2,B2,O2,_⟩:=O1'.stN .rows (.ref rA)
  refine ⟨_,d2,f2,q1,q2,q3,q4,?_⟩
  rw [show upd (upd H1 rA (.lst [])) x (HO.ins (T.C .une) d2 (Cq ("rows":Str) (V.ref rA) f2))=H2 from e2.symm]
  obtain ⟨d3,f3,q1,q2,q3,q4,H3,e3,B3,O3,_⟩:=O2.stN .turned (.bl false)
  refine ⟨_,d3,f3,q1,q2,q3,q4,by decide,?_⟩
  rw [show upd H2 x (HO.ins (T.C .une) d3 (Cq ("turned":Str) (V.bl false) f3))=H3 from e3.symm]
  intro tA ht0
  have st:=Ag.upd (o:=.tup []) ht0
  have O3':=O3.same st
  obtain ⟨d4,f4,q1,q2,q3,q4,H4,e4,B4,O4,_⟩:=O3'.stN .tfl (.ref tA)
  refine ⟨_,d4,f4,q1,q2,q3,q4,by decide,?_⟩
  rw [show upd (upd H3 tA (.tup [])) x (HO.ins (T.C .une) d4 (Cq ("turn_fields":Str) (V.ref tA) f4))=H4 from e4.symm]
  intro oA ho0
  have so:=Ag.upd (o:=.lst []) ho0
  have O4':=O4.same so
  obtain ⟨d5,f5,q1,q2,q3,q4,H5,e5,B5,O5,_⟩:=O4'.stN .others (.ref oA)
  refine ⟨_,d5,f5,q1,q2,q3,q4,?_⟩
  rw [show upd (upd H4 oA (.lst [])) x (HO.ins (T.C .une) d5 (Cq ("others":Str) (V.ref oA) f5))=H5 from e5.symm]
  have nr:rA≠x:=O1.live hr0
  have nt:tA≠x:=O3.live ht0
  have no:oA≠x:=O4.live ho0
  have b1r:∀ a o,a≠x->upd H1 rA (.lst []) a=some o->H4 a=some o:=λa o n h=>B4 _ _ n (st _ _ (B3 _ _ n (B2 _ _ n h)))
  have r4:H4 rA=some (.lst []):=b1r _ _ nr Ac
  have nro:rA≠oA:=λe=>by rw [<- e,r4] at ho0;cases ho0
  have t5:H5 tA=some (.tup []):=B5 _ _ nt (so _ _ (B4 _ _ nt Ac))
  have nh:hA≠x:=O0.neL hh (λ_ _ _ z=>nomatch z)
  have BA:DY x H H5:=λa o n h=>B5 _ _ n (so _ _ (b1r _ _ n (sr _ _ (B1 _ _ n h))))
  have n0:∀ {a:Addr},a≠x->H5 a≠none->True:=λ_ _=>trivial
  refine k ⟨x,hA,rA,tA,oA⟩ H5 rfl ⟨O5.congr λl=>by cases l<;>rfl,BA _ _ nh hh,hz,⟨[],B5 _ _ nr (so _ _ r4),CU.nil _⟩,⟨t5,by show 0<=10;decide,λ_ h=>nomatch h⟩,⟨[],B5 _ _ no Ac,CU.nil _⟩,nro⟩ ?_ ?_ BA
  ·show H rA=none
   cases e:H rA with
   |none=>rfl
   |some o=>rw [B1 _ _ nr e] at hr0;cases hr0
  ·show H oA=none
   cases e:H oA with
   |none=>rfl
   |some o=>rw [b1r _ _ no (sr _ _ (B1 _ _ no e))] at ho0;cases ho0
theorem IP:Av ["self", "row"] ["self", "row"] (Aj (AB (top 29) 1)):=⟨rfl,rfl,rfl,by decide +kernel,rfl,by decide +kernel,by decide +kernel⟩
theorem Ja (T:Tx P w K mg):Au P w K mg base CX0 1 T.m_Unended_put.f T.m_Unended_put.fd ["self", "row"] (Nz T):=by
 refine T.m_Unended_put.F.ok IP (λvs H Q E h=>?_) (λcdv A outer s H vs Q E hr h=>?_)
 ·obtain ⟨b,F,v,t,rfl,_⟩:=h
  rfl
 ·obtain ⟨b,F,v,t,rfl,U,hv,l1,l2,k⟩:=h
  obtain ⟨xs,x1,x2⟩:=U.rs
  obtain ⟨ys,y1,y2⟩:=U.os
  have big:100000<sizeLine:=by decide
  refine ⟨_,(Af (AD (BG (Bh (pv 0) rfl))
  (Af (AQ (Bx Z0 D1 C1 AR (Bh (pv 0) rfl) (Aa (pv 1) Ab))))
  (Af (AQ (Bx Z0 D1 C1 AR (Bh (pv 0) rfl) (Aa (pv 1) Ab)))))),?_⟩
  walk_at "sy"
  refine U.ob.fld .turned rfl ?_
  refine ⟨_,rfl,?_⟩
  unfold Fq.put at k
  cases ht:F.tn with
  |true =>
   rw [if_pos ht] at k
   rw [if_pos rfl]
   refine U.ob.fld .others rfl ?_
   refine ⟨.inl ⟨_,AH.of y1⟩,b.o,ys,v,rfl,rfl,y1,by rw [y2.1];omega,?_⟩
   have sT:=BO (o:=.lst (ys++[v])) y1
   have neb:b.p≠b.o:=λe=>(U.ob.neL y1 (λ_ _ _ z=>nomatch z)) e.symm
   have O2:Cu T 5 .une (upd H b.o (.lst (ys++[v]))) b.p (gU b true):=by
    have:=U.ob.at' (H':=upd H b.o (.lst (ys++[v]))) λo h=>by rw [Aq neb];exact h
    rw [ht] at this
    exact this
   refine k _ ⟨by rw [ht];exact O2,sT _ _ U.hd,U.hz,⟨xs,by rw [Aq U.ne];exact x1,x2.sameT sT⟩,⟨sT _ _ U.tf.1,U.tf.2⟩,⟨_,Ac,(y2.sameT sT).snoc (hv.sameT sT)⟩,U.ne⟩ (λa u _ n h=>by rw [Aq n];exact h)
  |false =>
   rw [if_neg (by rw [ht];exact N0)] at k
   rw [if_neg N0]
   refine U.ob.fld .rows rfl ?_
   refine ⟨.inl ⟨_,AH.of x1⟩,b.r,xs,v,rfl,rfl,x1,by rw [x2.1];omega,?_⟩
   have sT:=BO (o:=.lst (xs++[v])) x1
   have neb:b.p≠b.r:=λe=>(U.ob.neL x1 (λ_ _ _ z=>nomatch z)) e.symm
   have O2:Cu T 5 .une (upd H b.r (.lst (xs++[v]))) b.p (gU b F.tn):=U.ob.at' λo h=>by rw [Aq neb];exact h
   refine k _ ⟨O2,sT _ _ U.hd,U.hz,⟨_,Ac,(x2.sameT sT).snoc (hv.sameT sT)⟩,⟨sT _ _ U.tf.1,U.tf.2⟩,⟨ys,by rw [Aq (Ne.symm U.ne)];exact y1,y2.sameT sT⟩,U.ne⟩ (λa u n _ h=>by rw [Aq n];exact h)
theorem FM:Av ["self", "word"] ["self", "word"] (Aj (AB (top 29) 2)):=⟨rfl,rfl,rfl,by decide +kernel,rfl,by decide +kernel,by decide +kernel⟩
theorem FT (T:Tx P w K mg):Au P w K mg base CX0 1 T.m_Unended_may_turn.f T.m_Unended_may_turn.fd ["self", "word"] (IF T):=by
 refine T.m_Unended_may_turn.F.ok FM (λvs H Q E h=>?_) (λcdv A outer s H vs Q E hr h=>?_)
 ·obtain ⟨b,F,z,rfl,_⟩:=h
  rfl
 ·obtain ⟨b,F,z,rfl,U,k⟩:=h
  obtain ⟨hz,n,r,ehd,_⟩:=U.hz
  have ewd:F.wd=hz:=by unfold Fq.wd;rw [ehd]
  refine ⟨_,(Af (Al (Eo (NN (Bh (pv 0) rfl)) (DQ (BZ Bg (Qc (BP (v:=.ref T.tua) rfl T.tum rfl) (An AI (Bh (pv 0) rfl) Ad (λ_ _=>rfl)) ⟨rfl,rfl,rfl,rfl⟩) (pv 1) (At _)))))),?_⟩
  walk_at "sy"
  refine U.ob.fld .turned rfl ?_
  refine ⟨_,rfl,?_⟩
  unfold Fq.mayTurn at k
  rw [ewd] at k
  cases ht:F.tn with
  |true =>
   rw [ht] at k
   exact k
  |false =>
   rw [ht] at k
   refine Sl (b:=!false) rfl ?_
   refine ⟨T.tua,Oy,rfl,T.tud,?_⟩
   show tOp (HY K) (QX K (IB 0) "head") (tC (.int 0)) _ _ _
   walk_at "sy"
   refine U.ob.fld .head rfl ?_
   refine ⟨b.h,_,0,.str hz,rfl,rfl,BN.of U.hd,by rw [ehd];exact AV (j:=0) rfl,.inr hz,rfl,?_⟩
   rw [Nt]
   by_cases h2:BH hz
   ·rw [if_pos h2]
    refine ⟨rfl,?_⟩
    have e:decide (V.str (CF hz)=V.str z)=decide (BH hz/\CF hz=z):=by
     by_cases q:CF hz=z
     ·exact (decide_eq_true (by rw [q])).trans (decide_eq_true ⟨h2,q⟩).symm
     ·exact (decide_eq_false λw=>q (V.str.inj w)).trans (decide_eq_false (λw=>q w.2)).symm
    show Q (V.bl (decide (V.str (CF hz)=V.str z))) H
    rw [e]
    exact k
   ·rw [if_neg h2]
    refine ⟨rfl,?_⟩
    rw [decide_eq_false (λw=>h2 w.1)] at k
    exact k
theorem HV:Av ["self", "turn_fields"] ["self", "turn_fields"] (Aj (AB (top 29) 3)):=⟨rfl,rfl,rfl,by decide +kernel,rfl,by decide +kernel,by decide +kernel⟩
theorem Ib (T:Tx P w K mg):Au P w K mg base CX0 1 T.m_Unended_turn.f T.m_Unended_turn.fd ["self", "turn_fields"] (OH T):=by
 refine T.m_Unended_turn.F.ok HV (λvs H Q E h=>?_) (λcdv A outer s H vs Q E hr h=>?_)
 ·obtain ⟨b,F,ta,tf,rfl,_⟩:=h
  rfl
 ·obtain ⟨b,F,ta,tf,rfl,U,ht,hl,hf,k⟩:=h
  refine ⟨_,(Ae (En (pv 0) Ff rfl)
  (Af (En (pv 0) (pv 1) rfl))),?_⟩
  walk_at "sy"
  obtain ⟨d1,f1,q1,q2,q3,q4,H1,e1,B1,_,O1⟩:=U.ob.stN .turned (.bl true)
  refine ⟨_,d1,f1,q1,q2,q3,q4,?_⟩
  rw [show upd H b.p (HO.ins (T.C .une) d1 (Cq ("turned":Str) (V.bl true) f1))=H1 from e1.symm]
  obtain ⟨d2,f2,q1,q2,q3,q4,H2,e2,B2,_,O2⟩:=(O1 (λz=>nomatch z)).stN .tfl (.ref ta)
  refine ⟨_,d2,f2,q1,q2,q3,q4,?_⟩
  rw [show upd H1 b.p (HO.ins (T.C .une) d2 (Cq ("turn_fields":Str) (V.ref ta) f2))=H2 from e2.symm]
  have B:=B1.trans B2
  obtain ⟨xs,x1,x2⟩:=U.rs
  obtain ⟨ys,y1,y2⟩:=U.os
  have sT:Bf H H2:=λa zs h=>B _ _ (U.ob.neL h (λ_ _ _ z=>nomatch z)) h
  have nl:∀ {a zs},H a=some (.lst zs)->H2 a=some (.lst zs):=λh=>B _ _ (U.ob.neL h (λ_ _ _ z=>nomatch z)) h
  exact k _ ⟨(O2 (λz=>nomatch z)).congr λl=>by cases l<;>rfl,sT _ _ U.hd,U.hz,⟨xs,nl x1,x2.sameT sT⟩,⟨sT _ _ ht,hl,hf⟩,⟨ys,nl y1,y2.sameT sT⟩,U.ne⟩ B
theorem Go:Av ["self"] ["self"] (Aj (AB (top 29) 4)):=⟨rfl,rfl,rfl,by decide +kernel,rfl,by decide +kernel,by decide +kernel⟩
theorem Gu (T:Tx P w K mg):Au P w K mg base CX0 1 T.m_Unended_may_end.f T.m_Unended_may_end.fd ["self"] (JY T):=by
 refine T.m_Unended_may_end.F.ok Go (λvs H Q E h=>?_) (λcdv A outer s H vs Q E hr h=>?_)
 ·obtain ⟨b,F,rfl,_⟩:=h
  rfl
 ·obtain ⟨b,F,rfl,U,k⟩:=h
  have hu:=Fn hr
  obtain ⟨hz,n,r,ehd,_⟩:=U.hz
  have ewd:F.wd=hz:=by unfold Fq.wd;rw [ehd]
  obtain ⟨ys,y1,y2⟩:=U.os
  refine ⟨_,(Ae (AD (Ak Bg (An AI (Bh (pv 0) rfl) Ad (λ_ _=>rfl)) Ao (At _))
  (Af (Al (RH (NN (Bh (pv 0) rfl)) (DQ (BZ (IW hu) (Bh (pv 0) rfl) (Ai Ab) (At _))))))
  Ap)
  (Af (Al (RH (Bh (pv 0) rfl) (DQ (RK (NO (An AI (Bh (pv 0) rfl) Ad (λ_ _=>rfl)) (BP (v:=.ref T.tua) rfl T.tum rfl)))))))),?_⟩
  walk_at "sy"
  refine U.ob.fld .head rfl ?_
  refine ⟨b.h,_,0,.str hz,rfl,rfl,BN.of U.hd,by rw [ehd];exact AV (j:=0) rfl,rfl,?_⟩
  unfold Fq.mayEnd at k
  rw [ewd] at k
  by_cases hl:hz="limit"
  ·rw [if_pos hl] at k
   refine Dh (by rw [hl]) (U.ob.fld .turned rfl ?_)
   refine ⟨_,rfl,?_⟩
   cases ht:F.tn with
   |false =>
    rw [ht] at k
    exact k H (Ag.refl H)
   |true =>
    rw [ht] at k
    rw [if_neg (by decide)]
    refine U.ob.fld .others rfl ?_
    refine Lo y1 λG s=>?_
    have e:(!decide (ys=[]))=(!true||!F.os.isEmpty):=by
     have:=y2.1
     cases ys with
     |nil =>
      rw [K1] at this
      rw [T2 this.symm]
      rfl
     |cons y r =>
      cases ho:F.os with
      |nil=>rw [ho] at this;cases this
      |cons _ _=>rfl
    rw [e]
    exact k G s
  ·rw [if_neg hl] at k
   refine Du (λq=>hl (V.str.inj q)) (U.ob.fld .turned rfl ?_)
   refine ⟨_,rfl,?_⟩
   cases ht:F.tn with
   |true =>
    rw [ht] at k
    exact k H (Ag.refl H)
   |false =>
    rw [ht] at k
    rw [if_neg N0]
    show tOp (HY K) (QX K (IB 0) "head") (tC (.int 0)) _ _ _
    walk_at "sy"
    refine U.ob.fld .head rfl ?_
    refine ⟨b.h,_,0,.str hz,rfl,rfl,BN.of U.hd,by rw [ehd];exact AV (j:=0) rfl,Oy,T.tud,.inr hz,rfl,?_⟩
    rw [Nt]
    have:=k H (Ag.refl H)
    by_cases h2:BH hz
    ·rw [if_pos h2]
     rw [decide_eq_true h2] at this
     exact this
    ·rw [if_neg h2]
     rw [decide_eq_false h2] at this
     exact this
theorem Do:Av ["self", "row"] ["self"] (Aj (AB (top 29) 5)):=⟨rfl,rfl,rfl,by decide +kernel,rfl,by decide +kernel,by decide +kernel⟩
theorem Hv (T:Tx P w K mg):Au P w K mg base CX0 1 T.m_Unended_whole.f T.m_Unended_whole.fd ["self"] (LU T):=by
 refine T.m_Unended_whole.F.ok Do (λvs H Q E h=>?_) (λcdv A outer s H vs Q E hr h=>?_)
 ·obtain ⟨b,F,rfl,_⟩:=h
  rfl
 ·obtain ⟨b,F,rfl,U,l1,l2,k⟩:=h
  obtain ⟨hz,n,r,ehd,hrl,hrf⟩:=U.hz
  have ewd:F.wd=hz:=by unfold Fq.wd;rw [ehd]
  obtain ⟨xs,x1,x2⟩:=U.rs
  obtain ⟨ys,y1,y2⟩:=U.os
  refine ⟨_,(Ae (Ax (i:=1) Do.nd rfl (Or.inl rfl) (Am Ey (Bh (pv 0) rfl) (Bl (Aa (AY Be (by rfl) T.n_tuple BJ (Aa (Bh (pv 0) rfl) Ab)) Ab))))
  (Ae (AD (RB (Le (An AI (Bh (pv 0) rfl) Ad (λ_ _=>rfl)) (BP (v:=.ref T.tua) rfl T.tum rfl)))
  (Af (Ax (i:=1) Do.nd rfl (Or.inl rfl) (Am Ey (Am Ey (pv 1) (Bh (pv 0) rfl)) (Bl (Aa (AY Be (by rfl) T.n_tuple BJ (Aa (Bh (pv 0) rfl) Ab)) Ab)))))
  Ap)
  (Af (Al (pv 1))))),?_⟩
  walk_at "sy"
  refine U.ob.fld .head rfl ?_
  refine U.ob.fld .rows rfl ?_
  refine ⟨b.r,rfl,_,.inl ⟨AH.of x1,λp1 hp1=>⟨by decide,λp2 hp2=>?_⟩⟩⟩
  have s1:=Ag.upd (o:=.tup xs) hp1
  have s2:=Ag.upd (o:=.tup [.ref p1]) hp2
  have sA:=s1.trans s2
  refine .inl (Jv (sA _ _ U.hd) Ac (by rw [ehd];exact λz=>nomatch z) (by rw [ehd];show r.length+1+1+1<=sizeLine;exact Q0 (show r.length+3<=13 by omega) (by decide)) λp3 H3 h3 s3=>?_)
  have sB:=sA.trans s3
  have U3:=U.same sB
  show tOp (HY K) (QX K (IB 0) "head") (tC (.int 0)) _ _ _
  walk_at "sy"
  refine U3.ob.fld .head rfl ?_
  refine ⟨b.h,_,0,.str hz,rfl,rfl,BN.of U3.hd,by rw [ehd];exact AV (j:=0) rfl,Oy,T.tud,.inr hz,rfl,?_⟩
  rw [Nt]
  have hflat:∀ v∈F.hd,flatB v=true:=λv hv=>by
   rw [ehd] at hv
   rcases L0.mp hv with rfl | hv
   ·rfl
   rcases L0.mp hv with rfl | hv
   ·rfl
   ·exact hrf v hv
  have e1:H3 p1=some (.tup xs):=s3 _ _ (s2 _ _ Ac)
  have R1:CU H3 (F.hd++[.ref p1]) (F.hd.map JE++[.t F.rs]):=(CU.flat hflat).app (CU.one (DZ.tup e1 (x2.sameT (AE sB))))
  unfold Fq.whole at k
  rw [ewd] at k
  by_cases h2:BH hz
  ·rw [if_pos h2] at k |-
   refine Sl (b:=false^^true) rfl ?_
   refine U3.ob.fld .tfl rfl ?_
   refine .inl (Jv h3 U3.tf.1 (λz=>absurd (N4.mp z).2 (by simp)) (by rw [B0,ehd];have:=U.tf.2.1;exact Q0 (show r.length+1+1+1+F.tf.length<=23 by omega) (by decide)) λp4 H4 h4 s4=>?_)
   have U4:=U3.same s4
   refine U4.ob.fld .others rfl ?_
   obtain ⟨ys,y1,y2⟩:=U4.os
   refine ⟨b.o,rfl,_,.inl ⟨AH.of y1,λp5 hp5=>⟨by decide,λp6 hp6=>?_⟩⟩⟩
   have s5:=Ag.upd (o:=.tup ys) hp5
   have s6:=Ag.upd (o:=.tup [.ref p5]) hp6
   have s56:=s5.trans s6
   refine .inl (Jv (s56 _ _ h4) Ac (λz=>absurd (N4.mp (N4.mp z).1).2 (by simp)) (by rw [B0,B0,ehd];have:=U.tf.2.1;exact Q0 (show r.length+1+1+1+F.tf.length+1<=24 by omega) (by decide)) λp7 H7 h7 s7=>?_)
   have sC:=(s4.trans s56).trans s7
   have e5:H7 p5=some (.tup ys):=s7 _ _ (s6 _ _ Ac)
   have R7:=((R1.sameT (AE sC)).app (CU.flat U.tf.2.2)).app (CU.one (DZ.tup e5 (y2.sameT (AE (s56.trans s7)))))
   refine k _ H7 (DZ.tup h7 ?_) (sB.trans sC)
   rw [<- X1]
   exact R7
  ·rw [if_neg h2] at k |-
   refine L2.iteF ?_
   rw [o0] at k
   exact k _ H3 (DZ.tup h3 R1) sB
theorem FP:Av ["self"] ["self"] (Aj (AB (top 30) 0)):=⟨rfl,rfl,rfl,by decide +kernel,rfl,by decide +kernel,by decide +kernel⟩
theorem FX (T:Tx P w K mg):Au P w K mg base CX0 1 T.m_Reading___init__.f T.m_Reading___init__.fd ["self"] (OJ T):=by
 refine T.m_Reading___init__.F.ok FP (λvs H Q E h=>?_) (λcdv A outer s H vs Q E hr h=>?_)
 ·obtain ⟨x,dx,rfl,_⟩:=h
  rfl
 ·obtain ⟨x,dx,rfl,hx,k⟩:=h
  refine ⟨_,(Ae (En (pv 0) (Ai Ab) rfl)
  (Af (En (pv 0) (Ai Ab) rfl))),?_⟩
  walk_at "sy"
  have O0:=Cu.new (T:=T) (c:=.rdg) hx
  refine ⟨by decide,λpA hp0=>?_⟩
  have sp:=Ag.upd (o:=.lst []) hp0
  obtain ⟨d1,f1,q1,q2,q3,q4,H1,e1,B1,O1,_⟩:=(O0.same sp).stN .prog (.ref pA)
  refine ⟨_,d1,f1,q1,q2,q3,q4,by decide,?_⟩
  rw [show upd (upd H pA (.lst [])) x (HO.ins (T.C .rdg) d1 (Cq ("program":Str) (V.ref pA) f1))=H1 from e1.symm]
  intro uA hu0
  have su:=Ag.upd (o:=.lst []) hu0
  obtain ⟨d2,f2,q1,q2,q3,q4,H2,e2,B2,O2,_⟩:=(O1.same su).stN .unended (.ref uA)
  refine ⟨_,d2,f2,q1,q2,q3,q4,?_⟩
  rw [show upd (upd H1 uA (.lst [])) x (HO.ins (T.C .rdg) d2 (Cq ("unended":Str) (V.ref uA) f2))=H2 from e2.symm]
  have np:pA≠x:=O0.live hp0
  have nu:uA≠x:=O1.live hu0
  have p1:H1 pA=some (.lst []):=B1 _ _ np Ac
  have npu:pA≠uA:=λe=>by rw [<- e,p1] at hu0;cases hu0
  have BA:DY x H H2:=λa o n h=>B2 _ _ n (su _ _ (B1 _ _ n (sp _ _ h)))
  refine k pA uA H2 (O2.congr λl=>by cases l<;>rfl) (B2 _ _ np (su _ _ p1)) (B2 _ _ nu Ac) hp0 ?_ npu BA
  cases e:H uA with
  |none=>rfl
  |some o=>rw [B1 _ _ nu (sp _ _ e)] at hu0;cases hu0
theorem Ed:Av ["self", "word", "innermost"] ["self", "word"] (Aj (AB (top 30) 1)):=⟨rfl,rfl,rfl,by decide +kernel,rfl,by decide +kernel,by decide +kernel⟩
theorem GN (T:Tx P w K mg)
  (G_Unended_may_end:Au P w K mg base CX0 1 T.m_Unended_may_end.f T.m_Unended_may_end.fd ["self"] (JY T))
  (G_Unended_may_turn:Au P w K mg base CX0 1 T.m_Unended_may_turn.f T.m_Unended_may_turn.fd ["self", "word"] (IF T))
  (G_is_block_word:Au P w K mg base CX0 1 T.d_is_block_word.f T.d_is_block_word.fd ["word"] (II)):Au P w K mg base CX0 3 T.m_Reading_allows.f T.m_Reading_allows.fd ["self", "word"] (JZ T):=by
 refine T.m_Reading_allows.F.ok Ed (λvs H Q E h=>?_) (λcdv A outer s H vs Q E hr h=>?_)
 ·obtain ⟨H0,p,pa,ua,st,Bs,c,z,rfl,_⟩:=h
  rfl
 ·obtain ⟨H0,p,pa,ua,st,Bs,c,z,rfl,R,k⟩:=h
  have hu:=Fn hr
  refine ⟨_,(Ae (AD (Ak (Ht hu) (Bh (pv 0) rfl) (Ai Ab) (At _))
  (Af (Al (BZ Bg (pv 1) Ao (At _))))
  Ap)
  (Ae (Ax (i:=2) Ed.nd rfl (Or.inl rfl) (An As (Bh (pv 0) rfl) (DC CD Ad) (λ_ _=>rfl)))
  (Ae (AD (Ak Bg (pv 1) Ao (At _))
  (Af (Al (GJ (pv 2) T.k_Unended T.m_Unended_may_end.me G_Unended_may_end (hr.mono (by omega)) T.m_Unended_may_end.b .nil Ay)))
  Ap)
  (Ae (AD (Ak Cg (pv 1) (BP (v:=.ref T.twa) rfl T.twm rfl) (by with_unfolding_all rfl))
  (Af (Al (Cl (pv 2) T.k_Unended T.m_Unended_may_turn.me G_Unended_may_turn (hr.mono (by omega)) T.m_Unended_may_turn.b .nil Ay (Aa (pv 1) Ab))))
  Ap)
  (Ae (AD (BG (Ar G_is_block_word (hr.mono (by omega)) rfl T.d_is_block_word.hm T.d_is_block_word.F.kp T.d_is_block_word.b .nil Ay (Aa (pv 1) Ab)))
  (Af (Al (BZ GM (AA AX (by rfl) T.n_len BB (Aa (Bh (pv 0) rfl) Ab)) (BP (v:=.int 20) rfl T.mdm ⟨_,rfl⟩) (At _))))
  Ap)
  (Af (Al (BZ GL (pv 1) Ao (At _))))))))),?_⟩
  walk_at "sy"
  obtain ⟨pg,un⟩:=st
  refine R.ob.fld .unended rfl ?_
  refine Ju R.ul λH1 s1=>⟨_,rfl,?_⟩
  have R1:=R.same s1
  have hlen:Bs.length=un.length:=R.len
  by_cases hn:un=[]
  ·subst hn
   obtain rfl:Bs=[]:=T2 hlen
   exact Dh rfl ⟨rfl,k H1 s1⟩
  ·obtain ⟨S,F,rfl⟩:=Da (K4.mpr hn)
   obtain ⟨Cs,b,rfl,hl⟩:=R.split
   rw [CZ] at k
   refine Du (by rw [A1];simp) ?_
   refine R1.ob.fld .unended rfl ?_
   refine R1.ixTop ⟨rfl,?_⟩
   have U:=R1.top hl
   by_cases h1:z="end"
   ·rw [if_pos h1] at k
    exact Dh h1 ⟨b.p,rfl,U.ob.call ⟨b,F,rfl,U,λH2 s2=>k H2 (s1.trans s2)⟩⟩
   ·rw [if_neg h1] at k
    refine Du h1 (inTW (T.twt H1) ⟨_,rfl,?_⟩)
    by_cases h2:Eb z
    ·rw [if_pos h2] at k
     exact Dh h2 ⟨b.p,rfl,U.ob.call ⟨b,F,z,rfl,U,k H1 s1⟩⟩
    ·rw [if_neg h2] at k
     refine Du h2 ⟨z,rfl,?_⟩
     rw [decP]
     refine ⟨_,rfl,?_⟩
     by_cases h3:HH z
     ·rw [if_pos h3] at k
      refine Dh h3 ?_
      refine R1.ob.fld .unended rfl ?_
      refine ⟨(Cs++[b]).length,Bo.mpr (.inl ⟨_,AH.of R1.ul,by rw [D0]⟩),?_⟩
      have e:decide ((((Cs++[b]).length:Nat):Int)<=20)=decide (S.length+1<=20):=by
       rw [B0,hl]
       refine decide_eq_decide.mpr ?_
       show ((S.length+1:Nat):Int)<=20↔_
       omega
      rw [e]
      exact k H1 s1
     ·rw [if_neg h3] at k
      refine Du h3 ⟨rfl,?_⟩
      have e:(!decide (z="errand"))=decide (z≠"errand"):=by
       by_cases q:z="errand"<;>simp [q]
      rw [e]
      exact k H1 s1
theorem CJ:Av ["self", "row"] ["self"] (Aj (AB (top 30) 3)):=⟨rfl,rfl,rfl,by decide +kernel,rfl,by decide +kernel,by decide +kernel⟩
theorem Ep (T:Tx P w K mg)
  (G_Unended_whole:Au P w K mg base CX0 1 T.m_Unended_whole.f T.m_Unended_whole.fd ["self"] (LU T))
  (G_Unended_put:Au P w K mg base CX0 1 T.m_Unended_put.f T.m_Unended_put.fd ["self", "row"] (Nz T)):Au P w K mg base CX0 3 T.m_Reading_end_innermost.f T.m_Reading_end_innermost.fd ["self"] (Rj T):=by
 refine T.m_Reading_end_innermost.F.ok CJ (λvs H Q E h=>?_) (λcdv A outer s H vs Q E hr h=>?_)
 ·obtain ⟨H0,p,pa,ua,st,Bs,c,rfl,_⟩:=h
  rfl
 ·obtain ⟨H0,p,pa,ua,st,Bs,c,rfl,R,hne,hc,k⟩:=h
  have hu:=Fn hr
  refine ⟨_,(Ae (Ax (i:=1) CJ.nd rfl (Or.inl rfl) (GJ (IV Z0 y4 x4 Jf (Bh (pv 0) rfl)) T.k_Unended T.m_Unended_whole.me G_Unended_whole (hr.mono (by omega)) T.m_Unended_whole.b .nil Ay))
  (Af (AD (Ak (Ht hu) (Bh (pv 0) rfl) (Ai Ab) (At _))
  (Af (AQ (Bx Z0 D1 C1 AR (Bh (pv 0) rfl) (Aa (pv 1) Ab))))
  (Af (AQ (Cl (An As (Bh (pv 0) rfl) (DC CD Ad) (λ_ _=>rfl)) T.k_Unended T.m_Unended_put.me G_Unended_put (hr.mono (by omega)) T.m_Unended_put.b .nil Ay (Aa (pv 1) Ab))))))),?_⟩
  walk_at "sy"
  obtain ⟨pg,un⟩:=st
  obtain ⟨S,F,rfl⟩:=Da (K4.mpr hne)
  obtain ⟨Cs,b,rfl,hl⟩:=R.split
  obtain ⟨R1,U1⟩:=R.pop hl
  have hF:=R.ct.2 F (V0 _ C0)
  refine R.ob.fld .unended rfl ?_
  refine ⟨.inl ⟨_,AH.of R.ul⟩,?_⟩
  have eM:(Cs++[b]).map (λb=>V.ref b.p)=Cs.map (λb=>V.ref b.p)++[.ref b.p]:=by rw [A1];rfl
  refine ⟨ua,_,.ref b.p,rfl,rfl,R.ul,?_,?_⟩
  ·rw [eM,show (Cs.map (λb=>V.ref b.p)++[V.ref b.p]).length-1=(Cs.map (λb=>V.ref b.p)).length by rw [B0];rfl]
   exact Bt
  ·rw [eM,j5]
   refine ⟨b.p,rfl,U1.ob.call ⟨b,F,rfl,U1,by omega,by omega,λv H2 hv s2=>?_⟩⟩
   have R2:=R1.same s2
   refine R2.ob.fld .unended rfl ?_
   refine Ju R2.ul λH3 s3=>⟨_,rfl,?_⟩
   have R3:=R2.same s3
   have hv3:=hv.sameT (AE s3)
   by_cases hS:S=[]
   ·subst hS
    obtain rfl:Cs=[]:=T2 hl
    refine Dh rfl ?_
    refine R3.ob.fld .prog rfl ?_
    obtain ⟨xs,x1,x2⟩:=R3.pr
    have hx:xs.length<=99999:=by rw [x2.1];exact Q0 R3.ct.1 hc
    refine ⟨.inl ⟨_,AH.of x1⟩,pa,xs,v,rfl,rfl,x1,S3 hx (by decide),?_⟩
    exact k _ [] (R3.addP x1 x2 hv3)
   ·obtain ⟨S2,G,rfl⟩:=Da (K4.mpr hS)
    obtain ⟨Ds,d,rfl,hl2⟩:=R3.split
    refine Du (by rw [A1];simp) ?_
    refine R3.ob.fld .unended rfl ?_
    have UG:=R3.top hl2
    have hG:=R3.ct.2 G (V0 _ C0)
    refine R3.ixTop ⟨d.p,rfl,UG.ob.call ⟨d,G,v,F.whole,rfl,UG,hv3,by omega,by omega,λH4 U4 k4=>?_⟩⟩
    rw [MW] at k
    have hput:(G.put F.whole).rs.length<=c+1/\(G.put F.whole).os.length<=c+1:=by
     unfold Fq.put
     split
     ·exact ⟨E4 hG.1,by rw [B0];exact Z5 hG.2⟩
     ·exact ⟨by rw [B0];exact Z5 hG.1,E4 hG.2⟩
    refine k H4 (Ds++[d]) (R3.mod hl2 U4 rfl rfl rfl (λa u ha h=>?_) (F5 _) hput.1 hput.2)
    refine k4 a u (λe=>ha (by simp [Ub.own,e])) (λe=>ha (by simp [Ub.own,e])) h
theorem DB:Av ["self", "fields", "number", "word"] ["self", "fields", "number"] (Aj (AB (top 30) 2)):=⟨rfl,rfl,rfl,by decide +kernel,rfl,by decide +kernel,by decide +kernel⟩
theorem FV (T:Tx P w K mg)
  (G_Reading_end_innermost:Au P w K mg base CX0 3 T.m_Reading_end_innermost.f T.m_Reading_end_innermost.fd ["self"] (Rj T))
  (G_Unended_turn:Au P w K mg base CX0 1 T.m_Unended_turn.f T.m_Unended_turn.fd ["self", "turn_fields"] (OH T))
  (G_is_block_word:Au P w K mg base CX0 1 T.d_is_block_word.f T.d_is_block_word.fd ["word"] (II))
  (G_Unended___init__:Au P w K mg base CX0 1 T.m_Unended___init__.f T.m_Unended___init__.fd ["self", "head"] (KL T))
  (G_row_of:Au P w K mg base CX0 1 T.d_row_of.f T.d_row_of.fd ["fields", "number"] (KM))
  (G_Unended_put:Au P w K mg base CX0 1 T.m_Unended_put.f T.m_Unended_put.fd ["self", "row"] (Nz T)):Au P w K mg base CX0 5 T.m_Reading_put_line.f T.m_Reading_put_line.fd ["self", "fields", "number"] (Ri T):=by
 refine T.m_Reading_put_line.F.ok DB (λvs H Q E h=>?_) (λcdv A outer s H vs Q E hr h=>?_)
 ·obtain ⟨H0,p,pa,ua,st,Bs,c,l,z,fs,n,rfl,_⟩:=h
  rfl
 ·obtain ⟨H0,p,pa,ua,st,Bs,c,l,z,fs,n,rfl,R,hc,hl,hf,hz,ha,k⟩:=h
  refine ⟨_,(Ae (Ax (i:=3) DB.nd rfl (Or.inl rfl) (An As (pv 1) Ad (λ_ _=>rfl)))
  (Af (AD (Ak Bg (pv 3) Ao (At _))
  (Af (AQ (GJ (pv 0) T.k_Reading T.m_Reading_end_innermost.me G_Reading_end_innermost (hr.mono (by omega)) T.m_Reading_end_innermost.b .nil Ay)))
  (Af (AD (Ak Cg (pv 3) (BP (v:=.ref T.twa) rfl T.twm rfl) (by with_unfolding_all rfl))
  (Af (AQ (Cl (An As (Bh (pv 0) rfl) (DC CD Ad) (λ_ _=>rfl)) T.k_Unended T.m_Unended_turn.me G_Unended_turn (hr.mono (by omega)) T.m_Unended_turn.b .nil Ay (Aa (AY Be (by rfl) T.n_tuple BJ (Aa (Dd KT (pv 1) (Dv Ad) Ef) Ab)) Ab))))
  (Af (AD (PW.pt (HK (Ak Bg (pv 3) Ao (At _)) (Fc (BG (Ar G_is_block_word (hr.mono (by omega)) rfl T.d_is_block_word.hm T.d_is_block_word.F.kp T.d_is_block_word.b .nil Ay (Aa (pv 3) Ab))))))
  (Af (AQ (Bx Z0 D1 C1 AR (Bh (pv 0) rfl) (Aa (pe_make T.M_Unended G_Unended___init__ (hr.mono (by omega)) rfl T.h_Unended T.m_Unended___init__.b .nil Ay (Aa (Ar G_row_of (hr.mono (by omega)) rfl T.d_row_of.hm T.d_row_of.F.kp T.d_row_of.b .nil Ay (Aa (pv 1) (Aa (pv 2) Ab))) Ab)) Ab))))
  (Af (AQ (Cl (An As (Bh (pv 0) rfl) (DC CD Ad) (λ_ _=>rfl)) T.k_Unended T.m_Unended_put.me G_Unended_put (hr.mono (by omega)) T.m_Unended_put.b .nil Ay (Aa (Ar G_row_of (hr.mono (by omega)) rfl T.d_row_of.hm T.d_row_of.F.kp T.d_row_of.b .nil Ay (Aa (pv 1) (Aa (pv 2) Ab))) Ab))))))))))),?_⟩
  walk_at "sy"
  obtain ⟨⟨wd,r,rfl⟩,hlen,hfl⟩:=id hf
  obtain rfl:wd=z:=by cases hz;rfl
  obtain ⟨pg,un⟩:=st
  refine ⟨l,_,0,.str wd,rfl,rfl,AH.of hl,AV (j:=0) rfl,rfl,?_⟩
  unfold HZ at k
  have hrow:∃ z' n' r',HX (.str wd::r) n=.str z'::.int n'::r'/\r'.length<=10/\∀ v∈r',flatB v=true:=by
   refine ⟨wd,n,GS (.str wd::r),rfl,?_,?_⟩
   ·unfold GS
    rw [B0]
    have e1:((V.str wd::r).tail.filter λv=>!DH v [.str "in",.str "within"]).length<=r.length:=E3 _ _
    rw [J0] at hlen
    split
    ·show _+1<=10
     omega
    ·show _+0<=10
     omega
   ·intro v hv
    unfold GS at hv
    rcases T0.mp hv with q | q
    ·exact hfl v (A0 _ (W4.mp q).1)
    ·split at q
     ·rw [M0.mp q];rfl
     ·cases q
  have opn:(wd="errand"\/HH wd)->un.length<=20:=λh=>by
   by_cases hn:un=[]
   ·rw [hn];exact D2 _
   ·obtain ⟨S,F,rfl⟩:=Da (K4.mpr hn)
    rw [CZ] at ha
    have w:wd≠"end"/\¬ Eb wd:=by
     rcases h with rfl | rfl | rfl | rfl | rfl | rfl | rfl | rfl<;>decide +kernel
    rw [if_neg w.1,if_neg w.2] at ha
    rcases h with h | h
    ·rw [if_neg (by rw [h];decide +kernel)] at ha
     exact absurd h (of_decide_eq_true ha)
    ·rw [if_pos h] at ha
     rw [B0]
     exact of_decide_eq_true ha
  have nonempty:wd≠"errand"->∃ S F Cs b,un=S++[F]/\Bs=Cs++[b]/\Cs.length=S.length:=λh=>by
   by_cases hn:un=[]
   ·subst hn
    exact absurd (of_decide_eq_true ha) h
   ·obtain ⟨S,F,rfl⟩:=Da (K4.mpr hn)
    obtain ⟨Cs,b,e,hl⟩:=R.split
    exact ⟨S,F,Cs,b,rfl,e,hl⟩
  have open_:(wd="errand"\/HH wd)->∀ {x:V},x=.ref ua->KM [V.ref l,V.int n] H (λx_4 H1=>∀ (x_5 dx:Addr),H1 x_5=none->H1 dx=none->dx≠x_5->KL T [V.ref x_5,x_4] (upd (upd H1 dx (HO.own x_5)) x_5 (HO.ins T.C_Unended dx [])) (λv H2=>v=V.non/\Ee x [V.ref x_5] H2 λx H1=>Q V.non H1) E0) E0:=λh x ex=>by
   subst ex
   have w:wd≠"end"/\¬ Eb wd:=by
    rcases h with rfl | rfl | rfl | rfl | rfl | rfl | rfl | rfl<;>decide +kernel
   rw [if_neg w.1,if_neg w.2,if_pos h] at k
   refine ⟨l,_,n,rfl,hl,hf,λa H1 ha1 s1 x dx hx hdx hne=>?_⟩
   have hx2:upd H1 dx (.own x) x=none:=by rw [Aq (Ne.symm hne)];exact hx
   have sm:Ag H1 (upd (upd H1 dx (.own x)) x (.ins T.C_Unended dx [])):=(Ag.upd hdx).trans (Ag.upd hx2)
   refine ⟨x,dx,a,_,rfl,Ac,sm _ _ ha1,hrow,λb H2 eb U nr no B2=>⟨rfl,?_⟩⟩
   have s2:Ag H1 H2:=λy u hy=>B2 _ _ (λe=>by rw [e,hx] at hy;cases hy) (sm _ _ hy)
   have R1:=R.same s1
   have R2:=R1.same s2
   have own:∀ y∈b.own,H1 y=none:=λy hy=>by
    simp only [Ub.own,L0,E1,or_false] at hy
    rcases hy with rfl | rfl | rfl
    ·rw [eb];exact hx
    ·exact sm.free nr
    ·exact sm.free no
   have ndo:b.own.Nodup:=by
    have n1:b.r≠x:=λe=>by rw [e,Ac] at nr;cases nr
    have n2:b.o≠x:=λe=>by rw [e,Ac] at no;cases no
    unfold Ub.own
    simp [eb,Ne.symm n1,Ne.symm n2,U.ne]
   have hle:Bs.length<=21:=by rw [R.len];exact R.le
   refine ⟨ua,_,.ref x,rfl,rfl,R2.ul,by rw [D0];exact S3 hle (by decide),?_⟩
   have RP:=R1.push (opn h) s2 U own ndo (D2 _) (D2 _)
   rw [eb] at RP
   exact k _ _ (RP.mono (F5 _))
  by_cases h1:wd="end"
  ·obtain ⟨S,F,Cs,b,rfl,rfl,hl2⟩:=nonempty (by rw [h1];decide +kernel)
   rw [if_pos h1] at k
   exact Dh (by rw [h1]) (R.ob.call ⟨H0,p,pa,ua,_,_,c,rfl,R,by simp,hc,k⟩)
  ·refine Du (λq=>h1 (V.str.inj q)) (inTW (T.twt H) ⟨_,rfl,?_⟩)
   by_cases h2:Eb wd
   ·obtain ⟨S,F,Cs,b,rfl,rfl,hl2⟩:=nonempty (by rcases h2 with rfl | rfl | rfl<;>decide +kernel)
    rw [if_neg h1,if_pos h2,FF] at k
    have U:=R.top hl2
    refine Dh h2 ?_
    refine R.ob.fld .unended rfl ?_
    refine R.ixTop ⟨b.p,rfl,U.ob.call ⟨l,_,rfl,AH.of hl,λq hq=>⟨q,rfl,_,.inl ⟨AH.of Ac,λq2 hq2=>?_⟩⟩⟩⟩
    rw [cut1] at hq2 |-
    have s1:=Ag.upd (o:=.lst r) hq
    have s2:=s1.trans (Ag.upd (o:=.tup r) hq2)
    have hF:=R.ct.2 F (V0 _ C0)
    refine ⟨b,F,q2,r,rfl,U.same s2,Ac,by rw [J0] at hlen;omega,λv hv=>hfl v (A0 _ hv),λH3 U3 B3=>?_⟩
    refine k H3 (Cs++[{ b with t:=q2 }]) ((R.same s2).mod hl2 U3 rfl rfl rfl (λa u ha h=>B3 a u (λe=>ha (by simp [Ub.own,e])) h) (F5 _) (E4 hF.1) (E4 hF.2))
   ·refine Du h2 ⟨rfl,?_⟩
    by_cases h3:wd="errand"
    ·refine Dh (by rw [h3]) ?_
     refine R.ob.fld .unended rfl ?_
     exact ⟨.inl ⟨_,AH.of R.ul⟩,open_ (.inl h3) rfl⟩
    ·refine Du (λq=>h3 (V.str.inj q)) ⟨wd,rfl,?_⟩
     rw [decP]
     refine ⟨_,rfl,?_⟩
     by_cases h4:HH wd
     ·refine Dh h4 ?_
      refine R.ob.fld .unended rfl ?_
      exact ⟨.inl ⟨_,AH.of R.ul⟩,open_ (.inr h4) rfl⟩
     ·obtain ⟨S,F,Cs,b,rfl,rfl,hl2⟩:=nonempty h3
      rw [if_neg h1,if_neg h2,if_neg (λq=>q.elim h3 h4),FF] at k
      have U:=R.top hl2
      have hF:=R.ct.2 F (V0 _ C0)
      refine Du h4 ?_
      refine R.ob.fld .unended rfl ?_
      refine R.ixTop ⟨b.p,rfl,U.ob.call ⟨l,_,n,rfl,hl,hf,λa H1 ha1 s1=>?_⟩⟩
      have fl:∀ v∈HX (.str wd::r) n,flatB v=true:=λv hv=>by
       obtain ⟨z',n',r',e,_,hr'⟩:=hrow
       rw [e] at hv
       rcases L0.mp hv with rfl | hv
       ·rfl
       rcases L0.mp hv with rfl | hv
       ·rfl
       ·exact hr' v hv
      refine ⟨b,F,.ref a,_,rfl,U.same s1,DZ.tup ha1 (CU.flat fl),by omega,by omega,λH2 U2 k2=>?_⟩
      have hput:∀ t,(F.put t).rs.length<=c+1/\(F.put t).os.length<=c+1:=λt=>by
       unfold Fq.put
       split
       ·exact ⟨E4 hF.1,by rw [B0];exact Z5 hF.2⟩
       ·exact ⟨by rw [B0];exact Z5 hF.1,E4 hF.2⟩
      exact k H2 (Cs++[b]) ((R.same s1).mod hl2 U2 rfl rfl rfl (λa u ha h=>k2 a u (λe=>ha (by simp [Ub.own,e])) (λe=>ha (by simp [Ub.own,e])) h) (F5 _) (hput _).1 (hput _).2)
theorem FO:Av ["self"] ["self"] (Aj (AB (top 30) 4)):=⟨rfl,rfl,rfl,by decide +kernel,rfl,by decide +kernel,by decide +kernel⟩
theorem FW (T:Tx P w K mg):Au P w K mg base CX0 1 T.m_Reading_is_whole.f T.m_Reading_is_whole.fd ["self"] (LX T):=by
 refine T.m_Reading_is_whole.F.ok FO (λvs H Q E h=>?_) (λcdv A outer s H vs Q E hr h=>?_)
 ·obtain ⟨H0,p,pa,ua,st,Bs,c,rfl,_⟩:=h
  rfl
 ·obtain ⟨H0,p,pa,ua,st,Bs,c,rfl,R,k⟩:=h
  have hu:=Fn hr
  refine ⟨_,(Af (Al (Eo (BZ (Ht hu) (Bh (pv 0) rfl) (Ai Ab) (At _)) (DQ (BZ (IW hu) (Bh (pv 0) rfl) (Ai Ab) (At _)))))),?_⟩
  walk_at "sy"
  obtain ⟨pg,un⟩:=st
  refine R.ob.fld .unended rfl ?_
  refine Ju R.ul λH1 s1=>⟨_,rfl,?_⟩
  have R1:=R.same s1
  have hlen:Bs.length=un.length:=R.len
  cases un with
  |nil =>
   obtain rfl:Bs=[]:=T2 hlen
   refine Dh rfl ?_
   refine R1.ob.fld .prog rfl ?_
   obtain ⟨xs,x1,x2⟩:=R1.pr
   refine Lo x1 λH2 s2=>?_
   have e:(!decide (xs=[]))=(([]:List Fq).isEmpty&&!pg.isEmpty):=by
    have:=x2.1
    cases xs with
    |nil =>
     rw [K1] at this
     have e2:pg=[]:=T2 this.symm
     rw [e2]
     rfl
    |cons y r =>
     cases ho:pg with
     |nil=>rw [show (⟨pg,[]⟩:St).pg=pg from rfl,ho] at this;cases this
     |cons _ _=>rfl
   rw [e]
   exact k H2 (s1.trans s2)
  |cons x r =>
   cases Bs with
   |nil=>cases hlen
   |cons y t=>exact Du (λq=>nomatch q) (k H1 s1)
theorem EI:Av ["text", "reading", "lines", "number", "line", "words", "fields"] ["text"] (Aj (top 31)):=⟨rfl,rfl,rfl,by decide +kernel,rfl,by decide +kernel,by decide +kernel⟩
theorem ok_read (T:Tx P w K mg)
  (G_Reading___init__:Au P w K mg base CX0 1 T.m_Reading___init__.f T.m_Reading___init__.fd ["self"] (OJ T))
  (G_first_fit:Au P w K mg base CX0 12 T.d_first_fit.f T.d_first_fit.fd ["forms", "words", "field_at"] (OL T))
  (G_Reading_allows:Au P w K mg base CX0 3 T.m_Reading_allows.f T.m_Reading_allows.fd ["self", "word"] (JZ T))
  (G_Reading_put_line:Au P w K mg base CX0 5 T.m_Reading_put_line.f T.m_Reading_put_line.fd ["self", "fields", "number"] (Ri T))
  (G_Reading_is_whole:Au P w K mg base CX0 1 T.m_Reading_is_whole.f T.m_Reading_is_whole.fd ["self"] (LX T)):Au P w K mg base CX0 15 T.d_read.f T.d_read.fd ["text"] (NB):=by
 refine T.d_read.F.ok EI (λvs H Q E h=>?_) (λcdv A outer s H vs Q E hr h=>?_)
 ·obtain ⟨L,ts,rfl,_⟩:=h
  rfl
 ·obtain ⟨L,ts,rfl,hne,hL,hn,hlen,hrd,hts,k⟩:=h
  have hu:=Fn hr
  refine ⟨_,(Ae (Ax (i:=1) EI.nd rfl (Or.inl rfl) (IT T.M_Reading G_Reading___init__ (hr.mono (by omega)) rfl T.h_Reading T.m_Reading___init__.b .nil Ay))
  (Ae (Ax (i:=2) EI.nd rfl (Or.inl rfl) (Bx C3 Q6 O6 Je (pv 0) (Aa Ao Ab)))
  (Ae (Dr PassesOwn.never rfl (RG rfl T.n_enumerate (pv 2)) (Hs (n:=2) rfl (BD (AJ (i:=3) EI.nd rfl (Or.inl rfl)) (BD (AJ (i:=4) EI.nd rfl (Or.inl rfl)) EL)))
  (Ae (Fd (i:=5) EI.nd rfl (Or.inl rfl) (N':=["word"]) (sel:=[none]) rfl rfl rfl (DF (Bx C3 Q6 O6 Je (pv 4) (Aa Ao Ab))) (Cc rfl) (λ_ _ _ _ _=>⟨(AJ (i:=0) (show (["word"]:List Str).Nodup by decide +kernel) rfl (Or.inl rfl)),(Il (Ak GL (pv 0) Ao (At _))),(pv 0)⟩) rfl)
  (Ae (AD (Ak (Ht hu) (pv 5) (Ai Ab) (At _))
  (Af HL)
  Ap)
  (Ae (Ax (i:=6) EI.nd rfl (Or.inl rfl) (Ar G_first_fit (hr.mono (by omega)) rfl T.d_first_fit.hm T.d_first_fit.F.kp T.d_first_fit.b .nil Ay (Aa (BP (v:=.ref T.fma) rfl T.fmm rfl) (Aa (pv 5) (Aa (BP (v:=.ref T.d_field_of.f) rfl T.d_field_of.hm rfl) Ab)))))
  (Ae (AD (PW.pt (HK (Ak NP (pv 6) BL (At _)) (Fc (CS (BG (Cl (pv 1) T.k_Reading T.m_Reading_allows.me G_Reading_allows (hr.mono (by omega)) T.m_Reading_allows.b .nil Ay (Aa (An As (pv 6) Ad (λ_ _=>rfl)) Ab)))))))
  (Af Mj)
  Ap)
  (Af (AQ (Cl (pv 1) T.k_Reading T.m_Reading_put_line.me G_Reading_put_line (hr.mono (by omega)) T.m_Reading_put_line.b .nil Ay (Aa (pv 6) (Aa (pv 3) Ab))))))))))
  (Ae (AD (CS (BG (GJ (pv 1) T.k_Reading T.m_Reading_is_whole.me G_Reading_is_whole (hr.mono (by omega)) T.m_Reading_is_whole.b .nil Ay)))
  (Af Mj)
  Ap)
  (Af (Al (AY Be (by rfl) T.n_tuple BJ (Aa (Bh (pv 1) rfl) Ab)))))))),?_⟩
  walk_at "sy"
  intro x dx hx hdx hxd
  have hx2:upd H dx (.own x) x=none:=by rw [Aq (Ne.symm hxd)];exact hx
  have sm:Ag H (upd (upd H dx (.own x)) x (.ins T.C_Reading dx [])):=(Ag.upd hdx).trans (Ag.upd hx2)
  refine ⟨x,dx,rfl,Ac,λpa ua H2 ob h1 h2 n1 n2 n3 B=>⟨rfl,?_⟩⟩
  have s2:Ag H H2:=λy u hy=>B _ _ (λe=>by rw [e,hx] at hy;cases hy) (sm _ _ hy)
  have hid:∀ a∈[x,pa,ua],H a=none:=λa ha=>by
   simp only [L0,E1,or_false] at ha
   rcases ha with rfl | rfl | rfl
   ·exact hx
   ·exact sm.free n1
   ·exact sm.free n2
  have eL:Txt.split (Str.join ⟨#[10]⟩ L) ⟨#[10]⟩=L:=EG hne λl hl=>(hL l hl).1
  refine ⟨_,10,rfl,by rw [nl1],hlen,λq hq=>?_⟩
  rw [eL]
  have s3:=Ag.upd (o:=.lst (L.map V.str)) hq
  have nq:q∉[x,pa,ua]:=λm=>by
   simp only [L0,E1,or_false] at m
   rcases m with rfl | rfl | rfl
   ·obtain ⟨d,f,e,_⟩:=ob.ex
    rw [hq] at e;cases e
   ·rw [hq] at h1;cases h1
   ·rw [hq] at h2;cases h2
  have R0:=RA.first (ob.same s3) (s3 _ _ h1) (s3 _ _ h2) n3
  have hq0:FZ (upd H2 q (.lst (L.map V.str))) [x,pa,ua] q=some (.lst (L.map V.str)):=GV Ac nq
  have sH:Ag H (FZ (upd H2 q (.lst (L.map V.str))) [x,pa,ua]):=Kh (s2.trans s3) hid
  generalize FZ (upd H2 q (.lst (L.map V.str))) [x,pa,ua]=H0 at R0 hq0 sH
  have hqq:upd H2 q (.lst (L.map V.str)) q=some (.lst (L.map V.str)):=Ac
  generalize upd H2 q (.lst (L.map V.str))=G at R0 hqq
  clear hq h1 h2 n1 n2 s2 s3 B ob sm hx2 hid nq
  unfold QW Sn
  refine ⟨_,rfl,q,rfl,⟨_,AH.of hqq⟩,?_⟩
  refine Qs (K:=K) (a:=q) (xs:=L.map V.str) (λi σ G=>(∃ s Bs,RA T H0 G x pa ua s Bs i/\readL (i+1) (L.drop i) s=some ⟨ts,[]⟩)/\∃ v3 v4 v5 v6,σ=[some (V.str (Str.join ⟨#[10]⟩ L)),some (V.ref x),some (V.ref q),v3,v4,v5,v6]) ⟨⟨_,_,R0,hrd⟩,_,_,_,_,rfl⟩ ?_ ?_ ?_
  ·rintro i σ G1 hi ⟨⟨s,Bs,R,_⟩,_⟩
   exact AH.of (R.out _ _ hq0)
  ·rintro i y p σ G1 hy ⟨⟨s,Bs,R,e⟩,v3,v4,v5,v6,rfl⟩ hp
   rw [Q1] at hy
   obtain ⟨l,hl,rfl⟩:=j3.mp hy
   have hlm:=hL l (d0 hl)
   obtain ⟨lt,el⟩:=W0.mp hl
   rw [T4 lt,el] at e
   simp only [gTup,Gi,Lx]
   walk_at "sy"
   refine ⟨_,BN.of Ac,rfl,_,_,rfl,_,_,rfl,rfl,?_⟩
   have R1:=R.same (Ag.upd (o:=.tup [.int ((i+1:Nat):Int),.str l]) hp)
   generalize upd G1 p (.tup [.int ((i+1:Nat):Int),.str l])=G2 at R1
   simp only [KG,Ph]
   walk_at "sy"
   have hls:=PyProof.Rows.split_le l ⟨#[32]⟩
   refine ⟨l,32,rfl,by rw [sp1],Q0 hlm.2 (by decide),λq2 hq2=>⟨q2,rfl,⟨_,AH.of Ac⟩,?_⟩⟩
   have s2:=Ag.upd (o:=.lst ((Txt.split l ⟨#[32]⟩).map V.str)) hq2
   refine Ej (K:=K) (a:=q2) (xs:=(Txt.split l ⟨#[32]⟩).map V.str) (λj zs G3=>G3=upd G2 q2 (.lst ((Txt.split l ⟨#[32]⟩).map V.str))/\zs=(((Txt.split l ⟨#[32]⟩).take j).filter λw:Str=>w != "").map V.str) ⟨rfl,rfl⟩ ?_ ?_ ?_ ?_
   ·rintro j zs G3 hj ⟨rfl,rfl⟩
    refine ⟨AH.of Ac,?_⟩
    rw [D0]
    refine Q0 (E3 _ _) ?_
    rw [K2];omega
   ·rw [D0]
    exact Q0 hls (Q0 (show l.length+2<=502 by have:=hlm.2;omega) (by decide))
   ·rintro j y zs G3 hy ⟨rfl,rfl⟩
    rw [Q1] at hy
    obtain ⟨wd,hwd,rfl⟩:=j3.mp hy
    have ef:=HP (f:=λw:Str=>w != "") hwd
    walk_at "sy"
    refine ⟨rfl,?_⟩
    by_cases hw:wd=""
    ·rw [if_neg (by simp [hw])] at ef
     rw [ef]
     exact GU hw rfl
    ·rw [if_pos (by simp [hw])] at ef
     rw [ef]
     exact Hz hw (by rw [A1];rfl)
   ·rintro zs G3 ⟨rfl,rfl⟩ D hD
    rw [D0,C2]
    have s3:=s2.trans (Ag.upd (o:=.lst (((Txt.split l ⟨#[32]⟩).filter λw:Str=>w != "").map V.str)) hD)
    have R3:=R1.same s3
    have hD3:upd (upd G2 q2 (.lst ((Txt.split l ⟨#[32]⟩).map V.str))) D (.lst (((Txt.split l ⟨#[32]⟩).filter λw:Str=>w != "").map V.str)) D=some (.lst ((Bv l).map V.str)):=Ac
    generalize upd (upd G2 q2 (.lst ((Txt.split l ⟨#[32]⟩).map V.str))) D (.lst (((Txt.split l ⟨#[32]⟩).filter λw:Str=>w != "").map V.str))=G4 at R3 hD3
    refine Ju hD3 λG5 s5=>⟨_,rfl,?_⟩
    have R5:=R3.same s5
    have e':(if Bv l=[] then readL (i+1+1) (L.drop (i+1)) s else match step s ((i+1:Nat):Int) (Bv l) with | none=>none | some s'=>readL (i+1+1) (L.drop (i+1)) s')=some ⟨ts,[]⟩:=e
    by_cases hw:Bv l=[]
    ·rw [if_pos hw] at e'
     refine Dh (by rw [hw];rfl) ?_
     exact ⟨⟨s,Bs,R5.mono (F5 _),e'⟩,_,_,_,_,rfl⟩
    ·rw [if_neg hw] at e'
     refine Du (λz=>hw (List.map_eq_nil_iff.mp z)) ?_
     cases hst:step s ((i+1:Nat):Int) (Bv l) with
     |none=>rw [hst] at e';cases e'
     |some s' =>
      rw [hst] at e'
      obtain ⟨fs,z,f1,f2,f3,rfl,f5⟩:=PN hst
      have wok:WsOk (Bv l):=by
       unfold Bv
       refine ⟨Q0 (E3 _ _) (by have:=hlm.2;omega),λw hw=>?_⟩
       exact Q0 (KI (W4.mp hw).1) (by have:=hlm.2;omega)
      refine ⟨D,Bv l,rfl,s5 _ _ hD3,wok,(λq=>by rw [f1] at q;cases q),λy hy lf G6 _ hlf s6=>?_⟩
      rw [f1] at hy
      cases hy
      have R6:=R5.same s6
      obtain ⟨⟨z0,r,rfl⟩,_⟩:=id f5
      obtain rfl:z0=z:=by cases f2;rfl
      refine Du (λz=>nomatch z) ?_
      refine R6.ob.call ⟨lf,_,0,.str z0,rfl,rfl,AH.of hlf,AV (j:=0) rfl,H0,x,pa,ua,s,Bs,i,z0,rfl,R6,λG7 s7=>⟨_,rfl,?_⟩⟩
      rw [f3]
      refine L2.iteF ?_
      have R7:=R6.same s7
      refine R7.ob.call ⟨H0,x,pa,ua,s,Bs,i,lf,z0,_,_,rfl,R7,by omega,s7 _ _ hlf,f5,rfl,f3,λG8 Bs' R8=>⟨⟨_,Bs',R8,e'⟩,by simp⟩⟩
  ·rintro σ G1 ⟨⟨s,Bs,R,e⟩,v3,v4,v5,v6,rfl⟩
   rw [D0,O7] at e
   obtain rfl:s=⟨ts,[]⟩:=Z2.inj e
   walk_at "sy"
   refine R.ob.call ⟨H0,x,pa,ua,_,Bs,_,rfl,R,λH1 s1=>⟨_,rfl,?_⟩⟩
   have R1:=R.same s1
   have e1:(([]:List Fq).isEmpty&&!ts.isEmpty)=true:=by
    cases ts with
    |nil=>exact absurd rfl hts
    |cons _ _=>rfl
   rw [e1]
   refine L2.iteF ?_
   refine R1.ob.fld .prog rfl ?_
   obtain ⟨xs,x1,x2⟩:=R1.pr
   refine ⟨pa,rfl,_,.inl ⟨AH.of x1,λl hl=>?_⟩⟩
   have s2:=Ag.upd (o:=.tup xs) hl
   exact k _ _ (DZ.tup Ac (x2.sameT (AE s2))) ((sH.trans R1.out).trans s2)
theorem Cn:Av ["_law_words_here", "_law_xs", "_law_blank", "_law_line", "_law_k", "_law_word", "_law_between"] ["_law_words_here", "_law_xs"] (Aj (top 60)):=⟨rfl,rfl,rfl,by decide +kernel,rfl,by decide +kernel,by decide +kernel⟩
theorem Mr (T:Tx P w K mg):Au P w K mg base CX0 1 T.d_l_spread.f T.d_l_spread.fd ["_law_words_here", "_law_xs"] (LV):=by
 refine T.d_l_spread.F.ok Cn (λvs H Q E h=>?_) (λcdv A outer s H vs Q E hr h=>?_)
 ·obtain ⟨a,b,ws,ns,rfl,_⟩:=h
  rfl
 ·obtain ⟨a,b,ws,ns,rfl,ha,hne,hok,hb,hn,hns,k⟩:=h
  refine ⟨_,(Ae (Ax (i:=2) Cn.nd rfl (Or.inl rfl) (Ai (De (zs:=[" ", "  ", "   "]) (by decide +kernel))))
  (Ae (Ax (i:=3) Cn.nd rfl (Or.inl rfl) (An As (Ai (Aa (Am Ip Ao (Am AU (An As (pv 1) Ad (λ_ _=>rfl)) Ad)) (Aa Ao Ab))) (Am AU (An As (pv 1) Ad (λ_ _=>rfl)) Ad) (λ_ _=>rfl)))
  (Ae (Dr PassesOwn.never rfl (Ld rfl T.n_enumerate (Aa (pv 0) Ab)) (Hs (n:=2) rfl (BD (AJ (i:=4) Cn.nd rfl (Or.inl rfl)) (BD (AJ (i:=5) Cn.nd rfl (Or.inl rfl)) EL)))
  (Ae (Ax (i:=6) Cn.nd rfl (Or.inl rfl) (An As (Ai (Aa (An As (pv 2) (Am AU (Am Cb (An As (pv 1) Ad (λ_ _=>rfl)) (pv 4)) Ad) (λ_ _=>rfl)) (Aa Ao Ab))) (Am AU (Am Bk (An As (pv 1) Ad (λ_ _=>rfl)) Ad) Ad) (λ_ _=>rfl)))
  (Af (Ax (i:=3) Cn.nd rfl (Or.inl rfl) (Am Ca (Am Ca (pv 3) (Am Ip (pv 6) (AY HF (by rfl) T.n_int HG (Aa (BZ Kl (pv 4) Ad (At _)) Ab)))) (pv 5))))))
  (Af (Al (Am Ca (pv 3) (Am Ip Ao (Am AU (An As (pv 1) Ad (λ_ _=>rfl)) Ad)))))))),?_⟩
  walk_at "sy"
  have b1:JD 1 " ":=by show (Str.ofString " ").cps.toList=[32];decide +kernel
  have b2:JD 2 "  ":=by show (Str.ofString "  ").cps.toList=[32,32];decide +kernel
  have b3:JD 3 "   ":=by show (Str.ofString "   ").cps.toList=[32,32,32];decide +kernel
  have b0:JD 0 "":=by show (Str.ofString "").cps.toList=[];decide +kernel
  have atN:∀ {G:Hp} {R:VK} (j:Int),Ag H G->0<=j->j<6->(∀ n:Int,0<=n->R (.int n) G)->Ew K (.ref b) (.int j) G R:=λ{G R} j sm h0 h1 f=>Dg (AH.of (sm _ _ hb)) h0 (by rw [D0,hn];exact h1) λv hv=>by
   obtain ⟨n,hnm,rfl⟩:=j1.mp hv
   exact f n (hns n hnm).1
  have mul:∀ {G:Hp} {R:VK} (m:Int) (c:Int),0<c->c<=5->(∀ (t:Nat) (z:Str),t<=4->JD t z->R (.str z) G)->rMulS (.str " ") (.int (m%c)) G R:=λ{G R} m c h0 h1 f=>by
   have hm:=W7 m (show c≠0 by omega)
   have hl:=A7 m h0
   refine ⟨" ",(m%c).toNat,rfl,by rw [Int.toNat_of_nonneg hm],by omega,?_,?_⟩
   ·rw [b1.len]
    exact Q0 (show 1*(m%c).toNat<=5 by omega) (by decide)
   ·have:=Ik (m%c).toNat b1
    rw [U8] at this
    exact f _ _ (by omega) this
  refine ⟨by decide,λp hp=>?_⟩
  have s1:=Ag.upd (o:=.lst [.str " ",.str "  ",.str "   "]) hp
  refine atN 0 s1 (by decide) (by decide) λn0 h0=>⟨n0,rfl,by decide,mul n0 5 (by decide) (by decide) λt z ht hz=>⟨by decide,λp1 hp1=>?_⟩⟩
  have s2:=s1.trans (Ag.upd (o:=.lst [.str z,.str ""]) hp1)
  refine atN 1 s2 (by decide) (by decide) λn1 h1=>⟨n1,rfl,by decide,?_⟩
  have hm:=mod_lt (x:=n1) (n:=2) (by decide)
  refine Dg (AH.of Ac) hm.1 hm.2 λv hv=>?_
  obtain ⟨z0,t0,rfl,ht0,hz0⟩:∃ z0 t0,v=.str z0/\t0<=4/\JD t0 z0:=by
   simp only [L0,E1,or_false] at hv
   rcases hv with rfl | rfl
   ·exact ⟨z,t,rfl,ht,hz⟩
   ·exact ⟨_,0,rfl,by decide,b0⟩
  have hpG:upd (upd H p (.lst [.str " ",.str "  ",.str "   "])) p1 (.lst [.str z,.str ""]) p=some (.lst [.str " ",.str "  ",.str "   "]):=(Ag.upd hp1) _ _ Ac
  generalize upd (upd H p (.lst [.str " ",.str "  ",.str "   "])) p1 (.lst [.str z,.str ""])=G at s2 hpG
  unfold QW Pj
  refine ⟨_,rfl,a,rfl,⟨_,AH.of (s2 _ _ ha)⟩,?_⟩
  refine Jr (K:=K) (a:=a) (xs:=ws.map V.str) (λi σ G1=>Ag G G1/\∃ L o4 o5 o6,σ=[some (.ref a),some (.ref b),some (.ref p),some (.str L),o4,o5,o6]/\Bv L=ws.take i/\(10:Nat)∉L.cps.toList/\L.length<=4+13*i/\(i=0->KD L)) ⟨Ag.refl _,z0,_,_,_,rfl,?_,hz0.nl,by rw [hz0.len];omega,λ_=>?_⟩ ?_ ?_ ?_
  ·rw [hz0.line];rfl
  ·have:=FH (L:="") hz0
   rw [Fg] at this
   by_cases q:1<=t0
   ·exact this.2 q
   ·refine .inl (El ?_)
    rw [show z0.cps.toList=Y0 t0 32 from hz0,show t0=0 by omega]
    decide +kernel
  ·rintro i σ G1 hi ⟨sg,_⟩
   exact AH.of (sg _ _ (s2 _ _ ha))
  ·rintro i y q σ G1 hy ⟨sg,L,o4,o5,o6,rfl,hL,hnl,hlen,hop⟩ hq
   rw [Q1] at hy
   obtain ⟨wd,hwd,rfl⟩:=j3.mp hy
   have hi7:i<7:=by
    have:=(W0.mp hwd).1
    have:=hok.2
    omega
   have gw:=hok.1 wd (d0 hwd)
   refine ⟨q,_,rfl,BN.of Ac,rfl,?_⟩
   simp only [Gi,Lx]
   walk_at "sy"
   have sq:=sg.trans (Ag.upd (o:=.tup [.int (i:Nat),.str wd]) hq)
   refine atN 2 (s2.trans sq) (by decide) (by decide) λn2 h2=>⟨n2,rfl,by decide,?_⟩
   have hm2:=mod_lt (x:=n2+(i:Nat)) (n:=3) (by decide)
   refine Dg (AH.of (sq _ _ hpG)) hm2.1 hm2.2 λv hv=>⟨by decide,λp3 hp3=>?_⟩
   obtain ⟨z1,t1,rfl,ht1,ht2,hz1⟩:∃ z0 t0,v=.str z0/\1<=t0/\t0<=3/\JD t0 z0:=by
    simp only [L0,E1,or_false] at hv
    rcases hv with rfl | rfl | rfl
    ·exact ⟨_,1,rfl,by decide,by decide,b1⟩
    ·exact ⟨_,2,rfl,by decide,by decide,b2⟩
    ·exact ⟨_,3,rfl,by decide,by decide,b3⟩
   have s4:=sq.trans (Ag.upd (o:=.lst [.str z1,.str " "]) hp3)
   refine atN 1 (s2.trans s4) (by decide) (by decide) λn4 h4=>⟨n4,rfl,⟨by decide,by decide⟩,by decide,?_⟩
   have hm3:=mod_lt (x:=n4 / 2) (n:=2) (by decide)
   refine Dg (AH.of Ac) hm3.1 hm3.2 λv hv=>.inr ?_
   obtain ⟨z2,t2,rfl,hu1,hu2,hz2⟩:∃ z0 t0,v=.str z0/\1<=t0/\t0<=3/\JD t0 z0:=by
    simp only [L0,E1,or_false] at hv
    rcases hv with rfl | rfl
    ·exact ⟨_,t1,rfl,ht1,ht2,hz1⟩
    ·exact ⟨_,1,rfl,by decide,by decide,b1⟩
   have big:∀ n:Nat,n<=1000->n<=sizeLine:=λn h=>Q0 h (by decide)
   have hwl:=gw.le
   have fin:∀ (c:Nat) (z:Str),c<=3->JD c z->(i=0\/1<=c)->∃ x,V.str z=V.str x/\L.length+x.length<=sizeLine/\(L++x).length+wd.length<=sizeLine/\Ag G (upd (upd G1 q (HO.tup [V.int (i:Nat),V.str wd])) p3 (.lst [.str z1,.str " "]))/\Bv (L++x++wd)=j6 (i+1) ws/\¬10∈(L++x++wd).cps.toList/\(L++x++wd).length<=4+13*(i+1)/\(i+1=0->KD (L++x++wd)):=λc z hc hz ho=>by
    have hb:=FH (L:=L) hz
    have hop2:KD (L++z):=by
     by_cases q:1<=c
     ·exact hb.2 q
     ·have c0:c=0:=by omega
      have e:z="":=El (by rw [show z.cps.toList=Y0 c 32 from hz,c0];decide +kernel)
      rw [e,Fu]
      exact hop (by omega)
    have l1:=hz.len
    refine ⟨z,rfl,big _ (by rw [l1];omega),big _ (by rw [CQ,l1];omega),s4,?_,?_,?_,λq=>absurd q (by omega)⟩
    ·rw [Qk hop2 gw,hb.1,hL,C6,hwd]
     rfl
    ·rw [By,By]
     intro m
     rcases T0.mp m with m | m
     ·rcases T0.mp m with m | m
      ·exact hnl m
      ·exact hz.nl m
     ·exact gw.nl m
    ·rw [CQ,CQ,l1]
     omega
   by_cases hi0:i=0
   ·subst hi0
    refine ⟨z2,0,rfl,rfl,by decide,by rw [K8];exact D2 _,?_⟩
    have:=Ik 0 hz2
    rw [Nat.zero_mul] at this
    exact fin 0 _ (by decide) this (.inl rfl)
   ·rw [if_pos (decide_eq_true (by omega))]
    refine ⟨z2,1,rfl,rfl,by decide,by rw [hz2.len,U8];exact big _ (by omega),?_⟩
    have:=Ik 1 hz2
    rw [Nat.one_mul] at this
    exact fin t2 _ hu2 this (.inr hu1)
  ·rintro σ G1 ⟨sg,L,o4,o5,o6,rfl,hL,hnl,hlen,_⟩
   walk_at "sy"
   rw [D0,C2] at hL
   rw [D0] at hlen
   have hw7:=hok.2
   refine atN 3 (s2.trans sg) (by decide) (by decide) λn3 h3=>⟨n3,rfl,by decide,mul n3 3 (by decide) (by decide) λt1 z1 ht1 hz1=>?_⟩
   have hb:=FH (L:=L) hz1
   have l1:=hz1.len
   refine ⟨z1,rfl,Q0 (show L.length+z1.length<=1000 by rw [l1];omega) (by decide),k _ _ (hb.1.trans hL) ?_ (by rw [CQ,l1];omega) (s2.trans sg)⟩
   rw [By]
   intro m
   rcases T0.mp m with m | m
   ·exact hnl m
   ·exact hz1.nl m
theorem Dj:Av ["_law_program_here", "_law_x", "_law_lines_here", "_law_places", "_law_k", "_law_pair", "_law_xs"] ["_law_program_here", "_law_x"] (Aj (top 61)):=⟨rfl,rfl,rfl,by decide +kernel,rfl,by decide +kernel,by decide +kernel⟩
theorem Qf (T:Tx P w K mg)
  (G_l_lines:Au P w K mg base CX0 26 T.d_l_lines.f T.d_l_lines.fd ["_law_rows", "_law_deep"] (GF 23))
  (G_l_stream:Au P w K mg base CX0 2 T.d_l_stream.f T.d_l_stream.fd ["_law_cell", "_law_many"] (EY))
  (G_l_spread:Au P w K mg base CX0 1 T.d_l_spread.f T.d_l_spread.fd ["_law_words_here", "_law_xs"] (LV)):Au P w K mg base CX0 27 T.d_l_text.f T.d_l_text.fd ["_law_program_here", "_law_x"] (Rh):=by
 refine T.d_l_text.F.ok Dj (λvs H Q E h=>?_) (λcdv A outer s H vs Q E hr h=>?_)
 ·obtain ⟨p,es,x,rfl,_⟩:=h
  rfl
 ·obtain ⟨p,es,x,rfl,hp,he,hel,k⟩:=h
  obtain ⟨rok,rlen⟩:=Io hp he hel
  have gl:=GA H 23 (.ref p) 0 rok
  refine ⟨_,(Ae (Ax (i:=2) Dj.nd rfl (Or.inl rfl) (Ai Ab))
  (Ae (Ax (i:=3) Dj.nd rfl (Or.inl rfl) (Ai Ab))
  (Ae (Dr PassesOwn.never rfl (Ld rfl T.n_enumerate (Aa (Ar G_l_lines (hr.mono (by omega)) rfl T.d_l_lines.hm T.d_l_lines.F.kp T.d_l_lines.b .nil Ay (Aa (pv 0) (Aa Ad Ab))) Ab)) (Hs (n:=2) rfl (BD (AJ (i:=4) Dj.nd rfl (Or.inl rfl)) (BD (AJ (i:=5) Dj.nd rfl (Or.inl rfl)) EL)))
  (Ae (Ax (i:=6) Dj.nd rfl (Or.inl rfl) (Ar G_l_stream (hr.mono (by omega)) rfl T.d_l_stream.hm T.d_l_stream.F.kp T.d_l_stream.b .nil Ay (Aa (Am Cb (pv 1) (Am Gr Ad (pv 4))) (Aa Ad Ab))))
  (Ae (Ax (i:=2) Dj.nd rfl (Or.inl rfl) (Am DR (pv 2) (Am op_rep (Ai (Aa (An As (Ai (Aa Ao (Aa Ao Ab))) (Am AU (An As (pv 6) Ad (λ_ _=>rfl)) Ad) (λ_ _=>rfl)) Ab)) (An As (Ai (Aa Ad (Aa Ad (Aa Ad (Aa Ad (Aa Ad Ab)))))) (Am AU (An As (pv 6) Ad (λ_ _=>rfl)) Ad) (λ_ _=>rfl)))))
  (Ae (AQ (Bx Z0 D1 C1 AR (pv 2) (Aa (Ar G_l_spread (hr.mono (by omega)) rfl T.d_l_spread.hm T.d_l_spread.F.kp T.d_l_spread.b .nil Ay (Aa (An AI (pv 5) Ad (λ_ _=>rfl)) (Aa (pv 6) Ab))) Ab)))
  (Af (AQ (Bx Z0 D1 C1 AR (pv 3) (Aa (AA AX (by rfl) T.n_len BB (Aa (pv 2) Ab)) Ab))))))))
  (Af (Al (Bl (Aa (pv 2) (Aa (pv 3) Ab)))))))),?_⟩
  walk_at "sy"
  refine ⟨by decide,λp1 hp1=>⟨by decide,λp2 hp2=>?_⟩⟩
  have s1:=Ag.upd (o:=.lst []) hp1
  have s2:=s1.trans (Ag.upd (o:=.lst []) hp2)
  have hp20:H p2=none:=s1.free hp2
  have e1:upd (upd H p1 (.lst [])) p2 (.lst []) p1=some (.lst []):=(Ag.upd hp2) _ _ Ac
  have e2:upd (upd H p1 (.lst [])) p2 (.lst []) p2=some (.lst []):=Ac
  generalize upd (upd H p1 (.lst [])) p2 (.lst [])=G at s2 e1 e2
  have eX:Ah 24 G (.ref p) 0=Ah 24 H (.ref p) 0:=Bu (AE s2) rok 0
  unfold QW
  refine Qu rfl (sp:=GF 23) ?_
  refine ⟨.ref p,0,rfl,rok.sameT (AE s2),by rw [eX];exact rlen,λl qs H1 hl0 hl1 hLn s3=>?_⟩
  rw [eX] at hLn
  generalize hX:Ah 24 H (.ref p) 0=X at hLn k rlen gl
  have f2:=s3 _ _ e2
  have hid:Ce (FZ H1 [p2]) qs X:=by
   refine ⟨hLn.1,λi q y h1 h2=>?_⟩
   obtain ⟨hy,w,a1,a2⟩:=hLn.2 i q y h1 h2
   refine ⟨hy,w,GV a1 (λm=>?_),GV a2 (λm=>?_)⟩
   ·rw [M0.mp m,f2] at a1;cases a1
   ·rw [M0.mp m,f2] at a2
    have a3:([]:List V)=y.2.map V.str:=HO.lst.inj (Z2.inj a2)
    exact hy (List.map_eq_nil_iff.mp a3.symm)
  have hl1':FZ H1 [p2] l=some (.lst (qs.map V.ref)):=GV hl1 (λm=>by rw [M0.mp m,e2] at hl0;cases hl0)
  have sH:Ag H (FZ H1 [p2]):=Kh (s2.trans s3) (λa ha=>by rw [M0.mp ha];exact hp20)
  have sI:Ag (FZ H1 [p2]) H1:=Kq _ _
  have hn2:FZ H1 [p2] p2=none:=Kr _ C0
  have f1:=s3 _ _ e1
  generalize FZ H1 [p2]=H0 at hid hl1' sH sI hn2
  refine ⟨l,rfl,⟨_,AH.of hl1⟩,?_⟩
  have hqX:qs.length=X.length:=hid.1
  have b3:JD 3 "   ":=by show (Str.ofString "   ").cps.toList=[32,32,32];decide +kernel
  have b0:JD 0 "":=by show (Str.ofString "").cps.toList=[];decide +kernel
  refine Jr (K:=K) (a:=l) (xs:=qs.map V.ref) (λi σ G1=>Ag H0 G1/\∃ la L ps o4 o5 o6,σ=[some (.ref p),some (.int x),some (.ref la),some (.ref p2),o4,o5,o6]/\G1 la=some (.lst (L.map V.str))/\la≠p2/\G1 p2=some (.lst (ps.map V.int))/\Ih 1 L (X.take i) ps/\(∀ l∈L,(10:Nat)∉l.cps.toList/\l.length<=100)/\L.length<=3*i) ⟨sI,p1,[],[],_,_,_,rfl,f1,?_,f2,.nil,(λ_ h=>nomatch h),D2 _⟩ ?_ ?_ ?_
  ·intro e
   rw [e,Ac] at hp2
   cases hp2
  ·rintro i σ G1 hi ⟨sg,_⟩
   exact AH.of (sg _ _ hl1')
  ·rintro i y q σ G1 hy ⟨sg,la,L,ps,o4,o5,o6,rfl,hla,nla,hps,hsp,hok,hlen⟩ hq
   rw [Q1] at hy
   obtain ⟨qa,hqa,rfl⟩:=j3.mp hy
   have hi1:i<X.length:=by
    have:=(W0.mp hqa).1
    omega
   have hXi:X[i]?=some X[i]:=u0 hi1
   obtain ⟨hne,w,w1,w2⟩:=hid.2 i qa _ hqa hXi
   refine ⟨q,_,rfl,BN.of Ac,rfl,?_⟩
   simp only [Gi,Lx]
   walk_at "sy"
   have sq:=sg.trans (Ag.upd (o:=.tup [.int (i:Nat),.ref qa]) hq)
   have hla2:upd G1 q (.tup [.int (i:Nat),.ref qa]) la=some (.lst (L.map V.str)):=(Ag.upd hq) _ _ hla
   have hps2:upd G1 q (.tup [.int (i:Nat),.ref qa]) p2=some (.lst (ps.map V.int)):=(Ag.upd hq) _ _ hps
   generalize upd G1 q (.tup [.int (i:Nat),.ref qa])=G2 at sq hla2 hps2
   refine ⟨.inl ⟨by decide,by decide⟩,_,_,rfl,by decide,by decide,λsl ns G3 hsl hsn hsb hs3 s3=>⟨by decide,λd1 hd1=>?_⟩⟩
   have hn6:ns.length=6:=by omega
   have atN:∀ {G':Hp} {R:VK} (j:Int),Ag G3 G'->0<=j->j<6->(∀ n:Int,0<=n->R (.int n) G')->Ew K (.ref sl) (.int j) G' R:=λ{G' R} j sm h0 h1 f=>Dg (AH.of (sm _ _ hs3)) h0 (by rw [D0,hn6];exact h1) λv hv=>by
    obtain ⟨n,hnm,rfl⟩:=j1.mp hv
    exact f n (hsb n hnm).1
   have t1:=Ag.upd (o:=.lst [.str "",.str "   "]) hd1
   refine atN 5 t1 (by decide) (by decide) λn5 h5=>⟨n5,rfl,by decide,?_⟩
   have hm2:=mod_lt (x:=n5) (n:=2) (by decide)
   refine Dg (AH.of Ac) hm2.1 hm2.2 λv hv=>⟨by decide,λd2 hd2=>?_⟩
   obtain ⟨zb,tb,rfl,htb,hzb⟩:∃ z0 t0,v=.str z0/\t0<=3/\JD t0 z0:=by
    simp only [L0,E1,or_false] at hv
    rcases hv with rfl | rfl
    ·exact ⟨_,0,rfl,by decide,b0⟩
    ·exact ⟨_,3,rfl,by decide,b3⟩
   have t2:=t1.trans (Ag.upd (o:=.lst [.str zb]) hd2)
   have hd2':upd (upd G3 d1 (.lst [.str "",.str "   "])) d2 (.lst [.str zb]) d2=some (.lst [.str zb]):=Ac
   generalize upd (upd G3 d1 (.lst [.str "",.str "   "])) d2 (.lst [.str zb])=G4 at t2 hd2'
   refine ⟨by decide,λd3 hd3=>?_⟩
   have t3:=t2.trans (Ag.upd (o:=.lst [.int 0,.int 0,.int 0,.int 1,.int 2]) hd3)
   refine atN 4 t3 (by decide) (by decide) λn4 h4=>⟨n4,rfl,by decide,?_⟩
   have hm5:=mod_lt (x:=n4) (n:=5) (by decide)
   refine Dg (AH.of Ac) hm5.1 hm5.2 λv hv=>?_
   obtain ⟨m,rfl,hm⟩:∃ m:Nat,v=.int m/\m<=2:=by
    simp only [L0,E1,or_false] at hv
    rcases hv with rfl | rfl | rfl | rfl | rfl
    ·exact ⟨0,rfl,by decide⟩
    ·exact ⟨0,rfl,by decide⟩
    ·exact ⟨0,rfl,by decide⟩
    ·exact ⟨1,rfl,by decide⟩
    ·exact ⟨2,rfl,by decide⟩
   have hd2'':=(Ag.upd (o:=.lst [.int 0,.int 0,.int 0,.int 1,.int 2]) hd3) _ _ hd2'
   generalize upd G4 d3 (.lst [.int 0,.int 0,.int 0,.int 1,.int 2])=G5 at t3 hd2''
   refine ⟨d2,m,_,rfl,rfl,hd2'',by omega,by omega,?_,λd4 hd4=>?_⟩
   ·show 1*(m:Int).toNat<=sizeLine
    exact Q0 (show 1*(m:Int).toNat<=2 by omega) (by decide)
   have eR:(Y0 (m:Int).toNat [V.str zb]).flatten=(Y0 m zb).map V.str:=by
    rw [F4,List.map_replicate]
    induction m with
    |zero=>rfl
    |succ m _=>simp
   rw [eR]
   have t4:=t3.trans (Ag.upd (o:=.lst ((Y0 m zb).map V.str)) hd4)
   have sA:=(sq.trans s3).trans t4
   have hla4:=t4 _ _ (s3 _ _ hla2)
   have hL20:L.length<=60000:=by omega
   refine ⟨la,d4,_,_,rfl,rfl,hla4,Ac,?_,λlb hlb=>?_⟩
   ·rw [D0,D0,S4]
    exact Q0 (show L.length+m<=70000 by omega) (by decide)
   rw [<- A1]
   have hps4:=t4 _ _ (s3 _ _ hps2)
   have t5:=Ag.upd (o:=.lst ((L++Y0 m zb).map V.str)) hlb
   have sB:=sA.trans t5
   have hlb0:H0 lb=none:=sA.free hlb
   have nlb:lb≠p2:=λe=>by rw [e,hps4] at hlb;cases hlb
   have hps5:=t5 _ _ hps4
   have hlb5:upd (upd G5 d4 (.lst ((Y0 m zb).map V.str))) lb (.lst ((L++Y0 m zb).map V.str)) lb=some (.lst ((L++Y0 m zb).map V.str)):=Ac
   have hsl5:=t5 _ _ (t4 _ _ hs3)
   generalize upd (upd G5 d4 (.lst ((Y0 m zb).map V.str))) lb (.lst ((L++Y0 m zb).map V.str))=G6 at sB hps5 hlb5 hsl5
   refine ⟨.inl ⟨_,AH.of hlb5⟩,qa,_,1,.ref w,rfl,rfl,BN.of (sB _ _ w1),AV (j:=1) rfl,w,sl,X[i].2,ns,rfl,sB _ _ w2,hne,gl _ (Q4 hi1),hsl5,hn6,hsb,λz G7 hz hznl hzl s7=>?_⟩
   have hlb7:=s7 _ _ hlb5
   have hps7:=s7 _ _ hps5
   have sC:=sB.trans s7
   have e1:(L++Y0 m zb).length=L.length+m:=by rw [B0,S4]
   refine ⟨lb,_,.str z,rfl,rfl,hlb7,by rw [D0,e1];exact S3 (show L.length+m<=70000 by omega) (by decide),?_⟩
   have sD:Ag H0 (upd G7 lb (.lst ((L++Y0 m zb).map V.str++[.str z]))):=Co sC hlb0
   have hps8:upd G7 lb (.lst ((L++Y0 m zb).map V.str++[.str z])) p2=some (.lst (ps.map V.int)):=by rw [Aq (Ne.symm nlb)];exact hps7
   have hpl:ps.length<=20000:=by
    have:=hsp.len
    rw [this,K2]
    omega
   refine ⟨.inl ⟨_,AH.of hps8⟩,L.length+m+1,Bo.mpr (.inl ⟨_,AH.of Ac,by rw [B0,D0,e1];rfl⟩),p2,_,_,rfl,rfl,hps8,by rw [D0];exact S3 hpl (by decide),?_⟩
   refine ⟨Co sD hn2,lb,rfl,L++Y0 m zb++[z],by rw [Aq nlb,Ac,A1 (l₁:=L++Y0 m zb)];rfl,nlb,ps++[((L.length+m+1:Nat):Int)],by rw [Ac,A1];rfl,?_,?_,?_⟩
   ·have q1:=hsp.app (Ih.blanks hzb.line m (1+L.length)) rfl
    rw [o0,o0] at q1
    have q2:=q1.app (j:=1+(L++Y0 m zb).length) (Ih.line (x:=X[i]) hz hne Ih.nil) rfl
    rw [C6,hXi]
    rw [e1,show ((1+(L.length+m):Nat):Int)=((L.length+m+1:Nat):Int) by omega] at q2
    exact q2
   ·intro y hy
    rcases T0.mp hy with hy | hy
    ·rcases T0.mp hy with hy | hy
     ·exact hok y hy
     ·rw [M5 hy]
      exact ⟨hzb.nl,by rw [hzb.len];omega⟩
    ·rw [M0.mp hy]
     exact ⟨hznl,hzl⟩
   ·rw [B0,e1]
    show L.length+m+1<=3*(i+1)
    omega
  ·rintro σ G1 ⟨sg,la,L,ps,o4,o5,o6,rfl,hla,nla,hps,hsp,hok,hlen⟩
   rw [D0,hqX] at hlen
   rw [D0,hqX,C2] at hsp
   walk_at "sy"
   refine ⟨by decide,λq hq=>?_⟩
   have sq:=Ag.upd (o:=.tup [.ref la,.ref p2]) hq
   exact k q la p2 L ps _ Ac ⟨sq _ _ hla,sq _ _ hps,hsp,hok,hlen⟩ ((sH.trans sg).trans sq)
theorem DO:Av ["row", "words"] ["row"] (Aj (top 34)):=⟨rfl,rfl,rfl,by decide +kernel,rfl,by decide +kernel,by decide +kernel⟩
theorem IZ (T:Tx P w K mg):Au P w K mg base CX0 1 T.d_begin_words.f T.d_begin_words.fd ["row"] (OM):=by
 refine T.d_begin_words.F.ok DO (λvs H Q E h=>?_) (λcdv A outer s H vs Q E hr h=>?_)
 ·obtain ⟨p,ln,a,b,c,l,rfl,_⟩:=h
  rfl
 ·obtain ⟨p,ln,a,b,c,l,rfl,hp,ha,hb,hc,hl0,hl1,k⟩:=h
  refine ⟨_,(Ae (Ax (i:=1) DO.nd rfl (Or.inl rfl) (Ai (Aa Ao (Aa (An AI (pv 0) Ad (λ_ _=>rfl)) (Aa (An AI (pv 0) Ad (λ_ _=>rfl)) (Aa Ao (Aa (An AI (pv 0) Ad (λ_ _=>rfl)) Ab)))))))
  (Ae (AD (Ak GL (An AI (pv 0) Ad (λ_ _=>rfl)) Ad (At _))
  (Af (Ax (i:=1) DO.nd rfl (Or.inl rfl) (Am DR (pv 1) (Ai (Aa Ao (Aa (An AI (pv 0) Ad (λ_ _=>rfl)) Ab))))))
  Ap)
  (Af (Al (pv 1))))),?_⟩
  walk_at "sy"
  have at_:∀ {G:Hp} {R:VK} (j:Nat) (x:V),[V.str "begin",.int ln,.str a,.str b,.str c,.int l][j]?=some x->Ag H G->R x G->HY K (.ref p) (.int (j:Nat)) G R:=λj x hx s q=>⟨p,_,_,x,rfl,rfl,BN.of (s _ _ hp),AV hx,q⟩
  have sR:=Ag.refl H
  refine at_ 2 (.str a) rfl sR (at_ 3 (.str b) rfl sR (at_ 4 (.str c) rfl sR ⟨by decide,λq hq=>?_⟩))
  have s1:=Ag.upd (o:=.lst [V.str "begin",V.str a,V.str b,V.str "in",V.str c]) hq
  have st:∀ {z:Str},z.length<=60->TV (.str z):=λh=>.inr ⟨_,rfl,h⟩
  have t5:∀ x∈[V.str "begin",V.str a,V.str b,V.str "in",V.str c],TV x:=λx hx=>by
   simp only [L0,E1,or_false] at hx
   rcases hx with rfl | rfl | rfl | rfl | rfl
   ·exact st (by decide +kernel)
   ·exact st ha
   ·exact st hb
   ·exact st (by decide +kernel)
   ·exact st hc
  refine at_ 5 (.int l) rfl s1 ⟨rfl,?_⟩
  by_cases e:l=0
  ·refine GU (by rw [e]) (k q _ _ hq Ac t5 ?_ (show 5<=7 by decide) s1)
   unfold AS
   rw [if_pos rfl]
   show _=_++(if l=0 then [] else _)
   rw [if_pos e]
   rfl
  ·refine Hz (λz=>e (V.int.inj z)) (at_ 5 (.int l) rfl s1 ⟨by decide,λq2 hq2=>?_⟩)
   have s2:=Ag.upd (o:=.lst [V.str "within",V.int l]) hq2
   refine ⟨q,q2,_,_,rfl,rfl,s2 _ _ Ac,Ac,(show 7<=sizeLine by decide),λq3 hq3=>k q3 _ _ ((s1.trans s2).free hq3) Ac (λx hx=>?_) ?_ (show 7<=7 by decide) ((s1.trans s2).trans (Ag.upd hq3))⟩
   ·rcases T0.mp hx with hx | hx
    ·exact t5 x hx
    ·exact tv2 (st (by decide +kernel)) (TV.int hl0 hl1) x hx
   ·unfold AS
    rw [if_pos rfl]
    show _=_++(if l=0 then [] else _)
    rw [if_neg e]
    rfl
theorem JI:Av ["row"] ["row"] (Aj (top 35)):=⟨rfl,rfl,rfl,by decide +kernel,rfl,by decide +kernel,by decide +kernel⟩
theorem JN (T:Tx P w K mg)
  (G_begin_words:Au P w K mg base CX0 1 T.d_begin_words.f T.d_begin_words.fd ["row"] (OM)):Au P w K mg base CX0 2 T.d_head_words.f T.d_head_words.fd ["row"] (ND):=by
 refine T.d_head_words.F.ok JI (λvs H Q E h=>?_) (λcdv A outer s H vs Q E hr h=>?_)
 ·obtain ⟨v,n,rfl,_⟩:=h
  rfl
 ·obtain ⟨v,n,rfl,hv,k⟩:=h
  refine ⟨_,(Ae (AD (Ak Bg (An AI (pv 0) Ad (λ_ _=>rfl)) Ao (At _))
  (Af (Al (Ar G_begin_words (hr.mono (by omega)) rfl T.d_begin_words.hm T.d_begin_words.F.kp T.d_begin_words.b .nil Ay (Aa (pv 0) Ab))))
  Ap)
  (Ae (AD (Ak Bg (An AI (pv 0) Ad (λ_ _=>rfl)) Ao (At _))
  (Af (Al (Ai (Aa Ao Ab))))
  Ap)
  (Af (Al (Am DR (Ai (Aa (An AI (pv 0) Ad (λ_ _=>rfl)) Ab)) (Fe (N':=["field"]) (sel:=[none]) rfl rfl rfl (EK (Dd OP (pv 0) (Dv Ad) Ef)) (Cc rfl) (λ_ _ _ _ _=>⟨(AJ (i:=0) (show (["field"]:List Str).Nodup by decide +kernel) rfl (Or.inl rfl)),(Il (CS (BG (AA (LH (K:=K) rfl) (by rfl) T.n_isinstance Ba (Aa (pv 0) (Aa (CO (v:=.ty "tuple") rfl T.n_tuple BJ rfl) Ab)))))),(pv 0)⟩))))))),?_⟩
  walk_at "sw"
  obtain ⟨a,z,ln,r,I⟩:=hv.ri
  rw [I.words] at k
  have sR:=Ag.refl H
  have st:∀ {z:Str},z.length<=60->TV (.str z):=λh=>.inr ⟨_,rfl,h⟩
  have hzl:=I.zl
  refine I.ix 0 (.str z) rfl sR ⟨rfl,?_⟩
  by_cases hb:z="begin"
  ·refine Dh (by rw [hb]) ?_
   rcases I.sh with P | ⟨th,fa,bs,B⟩
   ·obtain ⟨x,y,w,l,rfl,hl0⟩:=P.b.1 hb
    have h1:=P.tv (.str x) (by simp)
    have h2:=P.tv (.str y) (by simp)
    have h3:=P.tv (.str w) (by simp)
    have h4:=P.tv (.int l) (by simp)
    have sl:∀ {x:Str},TV (.str x)->x.length<=60:=λh=>by
     rcases h with ⟨_,e,_⟩ | ⟨_,e,h⟩
     ·cases e
     ·cases e;exact h
    have il:l<10000000:=by
     rcases h4 with ⟨_,e,_,h⟩ | ⟨_,e,_⟩
     ·cases e;exact h
     ·cases e
    obtain rfl:=I.e
    subst hb
    exact ⟨a,ln,x,y,w,l,rfl,I.h,sl h1,sl h2,sl h3,hl0,il,k⟩
   ·exact absurd B.w (by rw [hb];decide +kernel)
  refine Du (λe=>hb (V.str.inj e)) (I.ix 0 (.str z) rfl sR ⟨rfl,?_⟩)
  by_cases ht:z="try"
  ·refine Dh (by rw [ht]) ⟨by decide,λp hp=>k p _ _ hp Ac (No (st (by decide +kernel))) ?_ (show 1<=7 by decide) (Ag.upd hp)⟩
   unfold AS
   rw [if_neg hb,if_pos ht]
   rfl
  refine Du (λe=>ht (V.str.inj e)) (I.ix 0 (.str z) rfl sR ⟨by decide,λp hp=>?_⟩)
  have s1:=Ag.upd (o:=.lst [V.str z]) hp
  obtain rfl:=I.e
  refine OQ (s1 _ _ I.h) λq G1 hq s2 h1=>⟨q,rfl,⟨_,BN.of h1⟩,Lr (K:=K) (a:=q) (xs:=r) (λi ys G=>G=G1/\ys=(r.take i).filter λv=>!BM v) ⟨rfl,rfl⟩ ?_ ?_ ?_ ?_⟩
  ·rintro i ys G hi ⟨rfl,rfl⟩
   exact ⟨BN.of h1,Q0 (E3 _ _) (by rw [K2];omega)⟩
  ·exact Q0 I.len (by decide)
  ·rintro i x ys G hi ⟨rfl,rfl⟩
   walk_at "sw"
   have e:(r.take (i+1)).filter (λv=>!BM v)=(r.take i).filter (λv=>!BM v)++[x].filter λv=>!BM v:=by
    rw [A6,hi,A4];rfl
   rw [e]
   rcases I.each x (d0 hi) with ⟨hx,b,ys,rfl,hb,_⟩ | hx
   ·exact ⟨_,.tup ((s1.trans s2) _ _ hb),true,rfl,iteF (by decide) (by rw [show [V.ref b].filter (λv=>!BM v)=[] from rfl,o0])⟩
   ·have hf:[x].filter (λv=>!BM v)=[x]:=by rw [List.filter_cons_of_pos (by rw [hx.notR];rfl)];rfl
    rw [hf]
    rcases hx with ⟨m,rfl,_⟩ | ⟨y,rfl,_⟩
    ·exact ⟨_,.int m,false,rfl,iteT rfl rfl⟩
    ·exact ⟨_,.str y,false,rfl,iteT rfl rfl⟩
  ·rintro ys G ⟨rfl,rfl⟩ D hD
   rw [C2]
   have s3:=Ag.upd (o:=.lst (r.filter λv=>!BM v)) hD
   refine ⟨p,D,_,_,rfl,rfl,(s2.trans s3) _ _ Ac,Ac,?_,λl hl=>k l _ _ (((s1.trans s2).trans s3).free hl) Ac (λx hx=>?_) ?_ ?_ (((s1.trans s2).trans s3).trans (Ag.upd hl))⟩
   ·have:=E3 (λv=>!BM v) r
    have:=I.len
    exact Q0 (show 1+_<=7 by omega) (by decide)
   ·rcases T0.mp hx with hx | hx
    ·exact No (st (by omega)) x hx
    ·obtain ⟨hx1,hx2⟩:=W4.mp hx
     rcases I.each x hx1 with ⟨h,_⟩ | h
     ·rw [h] at hx2;cases hx2
     ·exact h
   ·unfold AS
    rw [if_neg hb,if_neg ht,A1]
    rfl
   ·have:=E3 (λv=>!BM v) r
    have:=I.len
    rw [B0,y3]
    omega
theorem JG:Av ["row"] ["row"] (Aj (top 36)):=⟨rfl,rfl,rfl,by decide +kernel,rfl,by decide +kernel,by decide +kernel⟩
theorem JK (T:Tx P w K mg):Au P w K mg base CX0 1 T.d_turn_words.f T.d_turn_words.fd ["row"] (OI):=by
 refine T.d_turn_words.F.ok JG (λvs H Q E h=>?_) (λcdv A outer s H vs Q E hr h=>?_)
 ·obtain ⟨v,n,rfl,_⟩:=h
  rfl
 ·obtain ⟨v,n,rfl,hv,h2,k⟩:=h
  have hu:=Fn hr
  refine ⟨_,(Ae (AD (Ak Bg (An AI (pv 0) Ad (λ_ _=>rfl)) Ao (At _))
  (Af (Al (Ai (Aa Ao (Aa (An AI (pv 0) Ad (λ_ _=>rfl)) Ab)))))
  Ap)
  (Ae (AD (Ak Bg (An AI (pv 0) Ad (λ_ _=>rfl)) Ao (At _))
  (Af (Al (Ai (Aa Ao Ab))))
  Ap)
  (Af (Al (Ex (Ak (RM hu) (An AI (pv 0) Ad (λ_ _=>rfl)) (Bl Ab) (At _)) (Ai (Aa Ao Ab)) (Ai Ab)))))),?_⟩
  walk_at "sy"
  obtain ⟨a,z,ln,r,I⟩:=hv.ri
  have sR:=Ag.refl H
  have st:∀ {z:Str},z.length<=60->TV (.str z):=λh=>.inr ⟨_,rfl,h⟩
  rw [I.zr] at h2
  have eT:AO H v=(if z="try" then [[("but":Str),CI (r.getD 1 .non)]] else if z="do" then [["last"]] else if Bc H (r.getD 2 .non)=[] then [] else [["late"]]):=by
   unfold AO
   rw [I.zr]
  rw [eT] at k
  obtain ⟨th,fa,bs,B⟩:∃ th fa bs,EV z r th fa bs:=by
   rcases I.sh with P | B
   ·exfalso
    have:=P.p
    rcases h2 with rfl | rfl | rfl<;>exact absurd this (by decide +kernel)
   ·exact B
  refine I.ix 0 (.str z) rfl sR ⟨rfl,?_⟩
  by_cases ht:z="try"
  ·refine Dh (by rw [ht]) ?_
   obtain ⟨b0,b1,rfl⟩:=Gz (B.two h2)
   obtain rfl:=E2.mp (B.tl.trans (by rw [ht];decide +kernel))
   obtain ⟨y,hy,hyl⟩:=B.fv.1 ht
   have hr:=B.e
   rw [if_pos ht,hy] at hr
   rw [if_pos ht,hr] at k
   refine I.ix 3 (.str y) (by rw [hr];rfl) sR ⟨by decide,λp hp=>k p _ _ hp Ac (tv2 (st (by decide +kernel)) (st hyl)) ?_ (show 2<=2 by decide) (Ag.upd hp)⟩
   rw [if_neg (by simp)]
   rfl
  rw [if_neg ht] at k
  refine Du (λe=>ht (V.str.inj e)) (I.ix 0 (.str z) rfl sR ⟨rfl,?_⟩)
  by_cases hd:z="do"
  ·rw [if_pos hd] at k
   refine Dh (by rw [hd]) ⟨by decide,λp hp=>k p _ _ hp Ac (No (st (by decide +kernel))) ?_ (show 1<=2 by decide) (Ag.upd hp)⟩
   rw [if_neg (by simp)]
   rfl
  rw [if_neg hd] at k
  have hl:z="limit":=by
   rcases h2 with h | h | h
   ·exact absurd h ht
   ·exact absurd h hd
   ·exact h
  obtain ⟨b0,b1,rfl⟩:=Gz (B.two h2)
  obtain ⟨y,rfl⟩:=FY (B.tl.trans (show Cj z=1 by rw [hl];decide +kernel))
  have hr:=B.e
  rw [if_neg ht] at hr
  obtain ⟨_,ys,e,hb1,_⟩:AN n H (.ref b1):=by
   rcases I.each (.ref b1) (by rw [hr];simp) with ⟨_,h⟩ | h
   ·exact h
   ·cases h.notR
  cases e
  rw [hr,show ([y]++d6 V.ref [b0,b1]).getD 2 V.non=.ref b1 from rfl,Az hb1] at k
  refine Du (λe=>hd (V.str.inj e)) (I.ix 4 (.ref b1) (by rw [hr];rfl) sR (RU hb1 λG1 s1=>⟨_,rfl,?_⟩))
  by_cases e:ys=[]
  ·rw [if_pos e] at k
   refine GU e ⟨by decide,λp hp=>k p _ _ (s1.free hp) Ac (λ_ h=>nomatch h) ?_ (by decide) (s1.trans (Ag.upd hp))⟩
   rfl
  ·rw [if_neg e] at k
   refine Hz e ⟨by decide,λp hp=>k p _ _ (s1.free hp) Ac (No (st (by decide +kernel))) ?_ (show 1<=2 by decide) (s1.trans (Ag.upd hp))⟩
   rw [if_neg (by simp)]
   rfl
theorem FL:Av ["self"] ["self"] (Aj (AB (top 37) 0)):=⟨rfl,rfl,rfl,by decide +kernel,rfl,by decide +kernel,by decide +kernel⟩
theorem FS (T:Tx P w K mg):Au P w K mg base CX0 1 T.m_Writing___init__.f T.m_Writing___init__.fd ["self"] (NC T.C_Writing):=by
 refine T.m_Writing___init__.F.ok FL (λvs H Q E h=>?_) (λcdv A outer s H vs Q E hr h=>?_)
 ·obtain ⟨x,dx,rfl,_⟩:=h
  rfl
 ·obtain ⟨x,dx,rfl,hx,k⟩:=h
  refine ⟨_,(Af (En (pv 0) (Ai Ab) rfl)),?_⟩
  walk_at "sy"
  refine ⟨by decide,λp hp=>⟨T.C_Writing,dx,[],?_,T.k_Writing,T.n_Writing_lines,(by show 0<1000;decide),k p _ hp (λc o n h=>?_) ?_ ?_⟩⟩
  ·rw [Aq (AG hx hp)];exact hx
  ·rw [Aq n];exact (Ag.upd hp) _ _ h
  ·rw [Ac];rfl
  ·rw [Aq (λe=>AG hx hp e.symm),Ac]
theorem FK:Av ["self", "words", "deep"] ["self", "words", "deep"] (Aj (AB (top 37) 1)):=⟨rfl,rfl,rfl,by decide +kernel,rfl,by decide +kernel,by decide +kernel⟩
theorem FR (T:Tx P w K mg):Au P w K mg base CX0 1 T.m_Writing_put_line.f T.m_Writing_put_line.fd ["self", "words", "deep"] (Eu T.C_Writing):=by
 refine T.m_Writing_put_line.F.ok FK (λvs H Q E h=>?_) (λcdv A outer s H vs Q E hr h=>?_)
 ·obtain ⟨p,L,ts,l,ws,d,rfl,_⟩:=h
  rfl
 ·obtain ⟨p,L,ts,l,ws,d,rfl,W,hl,htv,hwl,hd,htl,k⟩:=h
  refine ⟨_,(Ae (AQ (Bx Z0 D1 C1 AR (Bh (pv 0) rfl) (Aa (Am Ca (Am Ip (BP (v:=.str "  ") rfl T.stm ⟨_,rfl⟩) (pv 2)) (Bx C3 V5 U5 Iq Ao (Aa (Fe (N':=["word"]) (sel:=[none]) rfl rfl rfl (DF (pv 1)) (Cc rfl) (λ_ _ _ _ _=>⟨(AJ (i:=0) (show (["word"]:List Str).Nodup by decide +kernel) rfl (Or.inl rfl)),CN,(AY EB (by rfl) T.n_str EO (Aa (pv 0) Ab))⟩)) Ab))) Ab)))
  (Af (Al (AA AX (by rfl) T.n_len BB (Aa (Bh (pv 0) rfl) Ab))))),?_⟩
  walk_at "sw"
  obtain ⟨⟨dx,hp⟩,hL⟩:=id W
  have e2:("  ":Str).length=2:=by decide +kernel
  have hz:sizeLine=16777216:=by decide
  have hw:=LM htv hwl
  have hj:=Iv " " (ws.map CI)
  have hrep:=GI d "  "
  rw [e2] at hrep
  refine ⟨T.C_Writing,dx,_,hp,T.k_Writing,T.n_Writing_lines,_,SD L,.inl ⟨_,AH.of hL⟩, "  ",d,rfl,rfl,by omega,by rw [e2];omega,⟨_,AH.of hl⟩,Ej (K:=K) (a:=l) (xs:=ws) (λi ys G=>G=H/\ys=(ws.take i).map λv=>V.str (CI v)) ⟨rfl,rfl⟩ ?_ ?_ ?_ ?_⟩
  ·rintro i ys G hi ⟨rfl,rfl⟩
   exact ⟨AH.of hl,by rw [D0,K2];omega⟩
  ·omega
  ·rintro i x ys G hi ⟨rfl,rfl⟩
   walk_at "sw"
   have e:((ws.take i).map λv=>V.str (CI v))++[V.str (CI x)]=(ws.take (i+1)).map λv=>V.str (CI v):=Es hi
   rcases htv x (d0 hi) with ⟨m,rfl,h0,h1⟩ | ⟨y,rfl,_⟩
   ·exact .inl ⟨m,rfl,Jg h0 h1,e⟩
   ·exact .inr ⟨y,rfl,e⟩
  ·rintro ys G ⟨rfl,rfl⟩ D hD
   rw [C2]
   have s1:=Ag.upd (o:=.lst (ws.map λv=>V.str (CI v))) hD
   have hpL:p≠L:=Gg hp hL (λz=>nomatch z)
   refine ⟨" ",D,ws.map CI,rfl,rfl,AH.of (by rw [Ac,C4];rfl),by omega,_,rfl,_,rfl,by omega,L,_,_,rfl,rfl,s1 _ _ hL,by rw [D0];omega,T.C_Writing,dx,_,by rw [Aq hpL];exact s1 _ _ hp,T.k_Writing,T.n_Writing_lines,_,SD L,ts.length+1,?_,?_⟩
   ·exact Bo.mpr (.inl ⟨_,AH.of Ac,by rw [B0,D0];rfl⟩)
   ·refine k _ (λc o n h=>by rw [Aq n];exact s1 _ _ h) ?_
    rw [Ac,A1]
    rfl
theorem DA:Av ["self", "row", "deep", "words"] ["self", "row", "deep"] (Aj (AB (top 37) 2)):=⟨rfl,rfl,rfl,by decide +kernel,rfl,by decide +kernel,by decide +kernel⟩
theorem FQ (T:Tx P w K mg)
  (G_turn_words:Au P w K mg base CX0 1 T.d_turn_words.f T.d_turn_words.fd ["row"] (OI))
  (G_Writing_put_line:Au P w K mg base CX0 1 T.m_Writing_put_line.f T.m_Writing_put_line.fd ["self", "words", "deep"] (Eu T.C_Writing)):Au P w K mg base CX0 2 T.m_Writing_put_turn.f T.m_Writing_put_turn.fd ["self", "row", "deep"] (Fz T.C_Writing):=by
 refine T.m_Writing_put_turn.F.ok DA (λvs H Q E h=>?_) (λcdv A outer s H vs Q E hr h=>?_)
 ·obtain ⟨p,L,ts,v,n,d,rfl,_⟩:=h
  rfl
 ·obtain ⟨p,L,ts,v,n,d,rfl,W,hv,h2,hd,htl,k⟩:=h
  have hu:=Fn hr
  refine ⟨_,(Ae (Ax (i:=3) DA.nd rfl (Or.inl rfl) (Ar G_turn_words (hr.mono (by omega)) rfl T.d_turn_words.hm T.d_turn_words.F.kp T.d_turn_words.b .nil Ay (Aa (pv 1) Ab)))
  (Af (AD (Ak (IW hu) (pv 3) (Ai Ab) (At _))
  (Af (AQ (Cl (pv 0) T.k_Writing T.m_Writing_put_line.me G_Writing_put_line (hr.mono (by omega)) T.m_Writing_put_line.b .nil Ay (Aa (pv 3) (Aa (pv 2) Ab)))))
  Ap))),?_⟩
  walk_at "sw"
  refine ⟨v,n,rfl,hv,h2,λl ws H1 hl h1 htv hT hwl s1=>Lo h1 λH2 s2=>⟨_,rfl,?_⟩⟩
  have W2:=W.same (s1.trans s2)
  obtain ⟨⟨dx,hp⟩,hL⟩:=id W2
  rw [hT] at k
  by_cases e:ws=[]
  ·rw [if_pos e] at k
   exact GU e (k H2 (DY.of (s1.trans s2)) (by rw [x3,o0];exact hL))
  ·rw [if_neg e] at k
   refine Hz e ⟨dx,_,hp,HN L (by decide +kernel),p,L,ts,l,ws,d,rfl,W2,s2 _ _ h1,htv,by omega,hd,htl,λH3 b3 h3=>k H3 ((DY.of (s1.trans s2)).trans b3) h3⟩
theorem FJ:Av ["self", "rows", "deep"] ["self", "rows", "deep"] (Aj (AB (top 37) 3)):=⟨rfl,rfl,rfl,by decide +kernel,rfl,by decide +kernel,by decide +kernel⟩
theorem Ki (T:Tx P w K mg) (n:Nat) (G_Writing_put_row:Au P w K mg base CX0 (2*n+3) T.m_Writing_put_row.f T.m_Writing_put_row.fd ["self", "row", "deep"] (PU T.C_Writing n)):Au P w K mg base CX0 (2*n+4) T.m_Writing_put_rows.f T.m_Writing_put_rows.fd ["self", "rows", "deep"] (Et T.C_Writing n):=by
 refine T.m_Writing_put_rows.F.ok (k:=2*n+3) FJ (λvs H Q E h=>?_) (λcdv A outer s H vs Q E hr h=>?_)
 ·obtain ⟨p,L,ts,v,d,rfl,_⟩:=h
  rfl
 ·obtain ⟨p,L,ts,v,d,rfl,W,hv,hd,htl,k⟩:=h
  refine ⟨_,(Af (Al (AY Be (by rfl) T.n_tuple BJ (Aa (Fe (N':=["row", "self", "deep"]) (sel:=[none,some 0,some 2]) rfl rfl rfl (EK (pv 1)) (Cc rfl) (λ_ _ _ _ _=>⟨(AJ (i:=0) (show (["row", "self", "deep"]:List Str).Nodup by decide +kernel) rfl (Or.inl rfl)),CN,(Cl (pv 1) T.k_Writing T.m_Writing_put_row.me G_Writing_put_row (hr.mono (by omega)) T.m_Writing_put_row.b .nil Ay (Aa (pv 0) (Aa (pv 2) Ab)))⟩)) Ab)))),?_⟩
  walk_at "sw"
  obtain ⟨b,E,rfl,hb,hE⟩:=id hv
  have eL:Ah (n+1) H (.ref b) d=E.flatMap λy=>AM (Ah n H) H y d:=by
   show (Bc H _).flatMap _=_
   rw [Az hb]
  obtain ⟨F,hF⟩:∃ F,F=CG sf (Bm sf n H) (λp=>(Ah n H p 0).length) H:=⟨_,rfl⟩
  obtain ⟨len,hlen⟩:∃ len:V->Nat,len=λy=>(AM (Ah n H) H y 0).length:=⟨_,rfl⟩
  have eN:∀ k,Bm sf (n+1) H (.ref b) k=.t (Cd F len k E):=λk=>by
   show Tr.t (Cd _ _ k (Bc H _))=_
   rw [Az hb,hF,hlen]
  rw [eL] at htl k
  rw [eN] at k
  have hL0:=W.ls
  have hbL:b≠L:=Gg hb hL0 (λz=>nomatch z)
  have hz:sizeLine=16777216:=by decide
  have hEl:E.length<=(E.flatMap λy=>AM (Ah n H) H y d).length:=MG (λx=>by unfold AM;rw [J0];omega) E
  refine ⟨b,rfl,⟨_,BN.of hb⟩,Lr (K:=K) (a:=b) (xs:=E) (λi ys G=>DY L H G/\G L=some (.lst ((ts++((E.take i).flatMap λy=>AM (Ah n H) H y d).map AZ).map V.str))/\ys.length=i/\∀ (j:Nat) (y:V) (t:Tr),ys[j]?=some y->(Cd F len ts.length (E.take i))[j]?=some t->EQ (2*n+1) G y t) ⟨DY.refl _ _,?_,rfl,(λj y t h=>nomatch h)⟩ ?_ ?_ ?_ ?_⟩
  ·rw [List.take_zero,R4,x3,o0];exact hL0
  ·rintro i ys G hi ⟨b1,_,hl,_⟩
   exact ⟨BN.of (b1 _ _ hbL hb),S6 hl⟩
  ·omega
  ·rintro i y ys G hi ⟨b1,hG,hl,hR⟩
   walk_at "sw"
   have hy:=hE y (d0 hi)
   cases n with
   |zero=>exact hy.elim
   |succ m =>
    have W1:=W.but b1 hG
    have sT:=b1.sameT hL0
    obtain ⟨⟨dx,hp⟩,_⟩:=id W1
    have eR:AM (Ah (m+1) G) G y d=AM (Ah (m+1) H) H y d:=Gp hy sT d λp hp d=>Bu sT hp d
    have eS:=BS (f:=λy=>AM (Ah (m+1) H) H y d) hi
    have hle:=DT (f:=λy=>AM (Ah (m+1) H) H y d) E (i+1)
    rw [eS,B0] at hle
    have hsz:(ts++((E.take i).flatMap λy=>AM (Ah (m+1) H) H y d).map AZ).length=ts.length+((E.take i).flatMap λy=>AM (Ah (m+1) H) H y d).length:=by rw [B0,D0]
    refine ⟨dx,_,hp,HN L (by decide +kernel),p,L,_,y,d,rfl,W1,hy.sameT sT,by omega,by rw [eR,hsz];omega,λy' G' b2 h2 r2=>⟨b1.trans b2,?_,by rw [B0,hl];rfl,?_⟩⟩
    ·rw [h2,eR,eS]
     simp only [A1,X1]
    ·rw [Gk hi,Km]
     intro j z t hz ht
     have sT2:=b2.sameT W1.ls
     have hnl:(Cd F len ts.length (E.take i)).length=i:=by
      rw [GO,K2]
      have:=(W0.mp hi).1
      omega
     by_cases hj:j<i
     ·rw [X0 (by omega)] at hz ht
      exact (hR j z t hz ht).sameT sT2
     ·rw [L1 (by omega)] at hz ht
      have hj':=(W0.mp hz).1
      rw [y3] at hj'
      have e0:j-ys.length=0:=by omega
      rw [e0] at hz
      rw [show j-(Cd F len ts.length (E.take i)).length=0 by omega] at ht
      cases hz
      cases ht
      rw [Kj hy sT _ λp hp=>⟨by rw [Bu sT hp],λk=>FE sT hp k⟩,hsz] at r2
      have e3:((E.take i).flatMap λy=>AM (Ah (m+1) H) H y d).length=((E.take i).map len).sum:=by
       rw [J5,hlen]
       congr 1
       exact r6 λy _=>Hm _ _ _ _ _
      rw [e3] at r2
      rw [hF]
      exact r2
  ·rintro ys G ⟨b1,hG,hl,hR⟩ D hD
   rw [C2] at hG hR
   have s1:=Ag.upd (o:=.lst ys) hD
   refine ⟨ys,.inl ⟨AH.of Ac,λl hl2=>?_⟩⟩
   have s2:=s1.trans (Ag.upd (o:=.tup ys) hl2)
   refine k (.ref l) _ (b1.trans (DY.of s2)) (s2 _ _ hG) ⟨l,ys,rfl,Ac,by rw [GO,hl],by rw [GO];omega,λj y t hy ht=>(hR j y t hy ht).sameT (AE s2)⟩
theorem BI:Av ["self", "row", "deep", "fields", "within", "place"] ["self", "row", "deep"] (Aj (AB (top 37) 4)):=⟨rfl,rfl,rfl,by decide +kernel,rfl,by decide +kernel,by decide +kernel⟩
theorem Rt (T:Tx P w K mg) (m:Nat) (G_head_words:Au P w K mg base CX0 2 T.d_head_words.f T.d_head_words.fd ["row"] ND) (G_Writing_put_line:Au P w K mg base CX0 1 T.m_Writing_put_line.f T.m_Writing_put_line.fd ["self", "words", "deep"] (Eu T.C_Writing)) (G_Writing_put_turn:Au P w K mg base CX0 2 T.m_Writing_put_turn.f T.m_Writing_put_turn.fd ["self", "row", "deep"] (Fz T.C_Writing)) (G_Writing_put_rows:Au P w K mg base CX0 (2*m+4) T.m_Writing_put_rows.f T.m_Writing_put_rows.fd ["self", "rows", "deep"] (Et T.C_Writing m)):Au P w K mg base CX0 (2*m+5) T.m_Writing_put_row.f T.m_Writing_put_row.fd ["self", "row", "deep"] (LY T.C_Writing m):=by
 refine T.m_Writing_put_row.F.ok (k:=2*m+4) BI (λvs H Q E h=>?_) (λcdv A outer s H vs Q E hr h=>?_)
 ·obtain ⟨p,L,ts,v,d,rfl,_⟩:=h
  rfl
 ·obtain ⟨p,L,ts,v,d,rfl,W,hv,hd,htl,k⟩:=h
  refine ⟨_,(Ae (Ax (i:=3) BI.nd rfl (Or.inl rfl) (Ai (Aa (An AI (pv 1) Ad (λ_ _=>rfl)) (Aa (Cl (pv 0) T.k_Writing T.m_Writing_put_line.me G_Writing_put_line (hr.mono (by omega)) T.m_Writing_put_line.b .nil Ay (Aa (Ar G_head_words (hr.mono (by omega)) rfl T.d_head_words.hm T.d_head_words.F.kp T.d_head_words.b .nil Ay (Aa (pv 1) Ab)) (Aa (pv 2) Ab))) Ab))))
  (Ae (Ax (i:=4) BI.nd rfl (Or.inl rfl) Ff)
  (Ae (Dr PassesOwn.never rfl (Qb rfl T.n_range (Aa Ad (Aa (AA AX (by rfl) T.n_len BB (Aa (pv 1) Ab)) Ab))) (AJ (i:=5) BI.nd rfl (Or.inl rfl))
  (Ae (AD (CS (BG (AA Br (by rfl) T.n_isinstance Ba (Aa (An AI (pv 1) (pv 5) (λ_ _=>rfl)) (Aa (CO (v:=.ty "tuple") rfl T.n_tuple BJ rfl) Ab)))))
  (Ae (AQ (Bx Z0 D1 C1 AR (pv 3) (Aa (An AI (pv 1) (pv 5) (λ_ _=>rfl)) Ab)))
  (Af HL))
  Ap)
  (Ae (AD (BG (pv 4))
  (Af (AQ (Cl (pv 0) T.k_Writing T.m_Writing_put_turn.me G_Writing_put_turn (hr.mono (by omega)) T.m_Writing_put_turn.b .nil Ay (Aa (pv 1) (Aa (pv 2) Ab)))))
  Ap)
  (Ae (AQ (Bx Z0 D1 C1 AR (pv 3) (Aa (Cl (pv 0) T.k_Writing T.m_Writing_put_rows.me G_Writing_put_rows (hr.mono (by omega)) T.m_Writing_put_rows.b .nil Ay (Aa (An AI (pv 1) (pv 5) (λ_ _=>rfl)) (Aa (Am Cb (pv 2) Ad) Ab))) Ab)))
  (Af (Ax (i:=4) BI.nd rfl (Or.inl rfl) Ff))))))
  (Ae (AD (BG (pv 4))
  (Af (AQ (Cl (pv 0) T.k_Writing T.m_Writing_put_line.me G_Writing_put_line (hr.mono (by omega)) T.m_Writing_put_line.b .nil Ay (Aa (Ai (Aa Ao Ab)) (Aa (pv 2) Ab)))))
  Ap)
  (Af (Al (AY Be (by rfl) T.n_tuple BJ (Aa (pv 3) Ab)))))))),?_⟩
  walk_at "sy"
  obtain ⟨a,z,ln,r,I⟩:=hv.ri
  have hz:sizeLine=16777216:=by decide
  have hL0:=W.ls
  obtain ⟨⟨dx,hp⟩,_⟩:=id W
  have hpL:p≠L:=Gg hp hL0 (λz=>nomatch z)
  obtain ⟨f,hf⟩:∃ f:V->List Ln,f=λp=>Ah (m+1) H p (d+1):=⟨_,rfl⟩
  have eRow:AM (Ah (m+1) H) H v d=(d,AT H v)::BK f ((AO H v).map λws=>(d,ws)) [(d,["end"])] false r:=by
   unfold AM
   rw [I.zr,hf]
  have eNum:∀ k,CG sf (Bm sf (m+1) H) (λp=>(Ah (m+1) H p 0).length) H v k=.t (.s z::.i ((k+1:Nat):Int)::Ct (Bm sf (m+1) H) (λp=>(Ah (m+1) H p 0).length) (AO H v).length false (k+1) r):=λk=>by
   unfold CG
   rw [I.zr]
   rfl
  rw [eRow] at htl k
  rw [eNum] at k
  have hfl:∀ x,(f x).length=(Ah (m+1) H x 0).length:=λx=>by rw [hf];exact EN _ _ _ _ _
  generalize hnum:Bm sf (m+1) H=num at k
  generalize hlen:(λp=>(Ah (m+1) H p 0).length)=len at k
  generalize htn:(AO H v).map (λws=>(d,ws))=tn at htl k eRow
  have htnl:(AO H v).length=tn.length:=by rw [<- htn,D0]
  rw [htnl] at k
  refine I.ix 0 (.str z) rfl (Ag.refl H) ⟨dx,_,hp,HN L (by decide +kernel),v,m,rfl,hv,λl ws H1 hl h1 htv hws hwl s1=>?_⟩
  have hcl:=J0 (a:=(d,AT H v)) (as:=BK f tn [(d,["end"])] false r)
  refine ⟨p,L,ts,l,ws,d,rfl,W.same s1,h1,htv,hwl,by omega,by omega,λH2 b2 h2=>⟨by decide,λq hq=>?_⟩⟩
  rw [hws] at h2
  have b02:DY L H H2:=(DY.of s1).trans b2
  have hqL:q≠L:=λe=>by rw [e,h2] at hq;cases hq
  have s3:=Ag.upd (o:=.lst [.str z,.int (ts.length+1)]) hq
  have hqH:H q=none:=by
   cases e:H q with
   |none=>rfl
   |some o=>rw [b02 _ _ hqL e] at hq;cases hq
  have h3q:upd H2 q (.lst [.str z,.int (ts.length+1)]) q=_:=Ac
  have b03:=b02.trans (DY.of (d:=L) s3)
  have h3L:=s3 _ _ h2
  generalize upd H2 q (.lst [.str z,.int (ts.length+1)])=G0 at s3 h3q b03 h3L
  have hvG:∀ {G:Hp},DY L H G->G a=some (.tup (.str z::.int ln::r)):=λb=>b _ _ (Gg I.h hL0 (λz=>nomatch z)) I.h
  have rl:=I.len
  obtain rfl:=I.e
  have eTot:=eRow
  refine ⟨_,rfl,_,rfl,r.length+2,Bo.mpr (.inr ⟨_,BN.of (hvG b03),rfl⟩),2,_,rfl,⟨by decide,by decide,by omega,by omega⟩,HA (lo:=2) (n:=(((r.length+2:Nat):Int)-2).toNat) (λi σ G=>∃ (w:Bool) (o5:Option V) (xs:List V) (Ls:List Ln) (done:List Tr),σ=[some (.ref p),some (.ref a),some (.int d),some (.ref q),some (.bl w),o5]/\DY L H G/\G q=some (.lst xs)/\xs.length=i+2/\done.length=i/\G L=some (.lst ((ts++Ls.map AZ).map V.str))/\Ls++BK f tn [(d,["end"])] w (r.drop i)=(d,AT H (.ref a))::BK f tn [(d,["end"])] false r/\done++Ct num len tn.length w (ts.length+Ls.length) (r.drop i)=Ct num len tn.length false (ts.length+1) r/\(w=true->(r.take i).filter BM≠[])/\∀ (j:Nat) (x:V) (t:Tr),xs[j]?=some x->(Tr.s z::.i ((ts.length+1:Nat):Int)::done)[j]?=some t->EQ (2*m+2) G x t)
   ⟨false,none,_,[(d,AT H (.ref a))],[],rfl,b03,h3q,rfl,rfl,h3L,rfl,rfl,(λh=>by cases h),?_⟩ ?_ ?_⟩
  ·intro j x t hx ht
   match j with
   |0=>cases hx;cases ht;rfl
   |1=>cases hx;cases ht;rfl
   |j+2=>cases ht
  ·rintro i σ G hi ⟨w,o5,xs,Ls,done,rfl,bG,hGq,hxl,hdl,hGL,eLs,eDn,hw,hR⟩
   have hir:i<r.length:=by omega
   obtain ⟨x,hx⟩:∃ x,r[i]?=some x:=⟨_,u0 hir⟩
   have hdr:r.drop i=x::r.drop (i+1):=by
    have:=W0.mp hx
    rw [<- this.2]
    exact T4 hir
   rw [hdr] at eLs eDn
   have ix:∀ {G':Hp} {R:VK},DY L H G'->R x G'->HY K (.ref a) (.int (2+(i:Int))) G' R:=λb k=>⟨a,_,_,x,rfl,rfl,BN.of (hvG b),by
    rw [show (2:Int)+(i:Int)=((i+2:Nat):Int) by omega]
    exact AV hx,k⟩
   have tk:(r.take (i+1))=r.take i++[x]:=Gk hx
   walk_at "sy"
   refine ix bG ?_
   rcases I.each x (d0 hx) with ⟨hr',hrows⟩ | htv'
   ·obtain ⟨xb,ys,rfl,hxb,_⟩:=id hrows
    refine ⟨_,.tup (bG _ _ (Gg hxb hL0 (λz=>nomatch z)) hxb),true,rfl,iteF (by decide) ?_⟩
    have sT:=bG.sameT hL0
    have WG:=W.but bG hGL
    have h2:w=true->BH (CK G (.ref a)).1:=λe=>by
     rw [hv.z_same sT,I.zr]
     rcases I.sh with P | ⟨th,fa,bs,B⟩
     ·exfalso
      have:=P.tv _ (d0 hx)
      cases this.notR
     ·by_cases h2:BH z
      ·exact h2
      ·exfalso
       have e1:=B.one h2
       have e2:=congrArg g5 (DI B)
       rw [D0,e1] at e2
       rw [<- T8 i r,hdr,A4,B0,Y1,if_pos hr',J0] at e2
       have:=K4.mpr (hw e)
       omega
    have hLsl:Ls.length+(BK f tn [(d,["end"])] w (.ref xb::r.drop (i+1))).length=(BK f tn [(d,["end"])] false r).length+1:=by
     have:=congrArg g5 eLs
     rw [B0,J0] at this
     exact this
    rw [BQ] at eLs hLsl
    rw [B0,B0] at hLsl
    have hts:(ts++Ls.map AZ).length=ts.length+Ls.length:=by rw [B0,D0]
    refine turn_if (m:=m) WG (hv.sameT sT) h2 (by omega) (by omega) λG1 b1 h1=>?_
    have e1:(if w then (AO G (.ref a)).map (λws=>AZ (d,ws)) else [])=(if w then tn else []).map AZ:=by
     rw [hv.turn_same sT,<- htn]
     cases w with
     |false=>rfl
     |true=>rw [if_pos rfl,if_pos rfl,C4];rfl
    rw [e1] at h1
    have bG1:=bG.trans b1
    have sT1:=bG1.sameT hL0
    have W1:=W.but (ts':=ts++Ls.map AZ++(if w then tn else []).map AZ) bG1 h1
    obtain ⟨⟨dx1,hp1⟩,_⟩:=id W1
    have hts1:(ts++Ls.map AZ++(if w then tn else []).map AZ).length=ts.length+Ls.length+(if w then tn else []).length:=by rw [B0,hts,D0]
    have ef:Ah (m+1) G1 (.ref xb) (d+1)=f (.ref xb):=by rw [Bu sT1 hrows,hf]
    have hq1:=b1 _ _ hqL hGq
    refine ⟨.inl ⟨_,AH.of hq1⟩,dx1,_,hp1,HN L (by decide +kernel),ix bG1 ⟨p,L,_,.ref xb,d+1,rfl,W1,hrows.sameT sT1,by omega,by rw [hts1,ef];omega,λv' G2 b2 h2' r2=>?_⟩⟩
    have hq2:=b2 _ _ hqL hq1
    have b02':=bG1.trans b2
    refine ⟨q,xs,v',rfl,rfl,hq2,by omega,λc o n h=>?_,xs++[v'],Ac,by rw [B0,hxl];rfl,Ls++((if w then tn else [])++f (.ref xb)),done++[num (.ref xb) (ts.length+Ls.length+(if w then tn else []).length)],by rw [B0,hdl];rfl,?_,?_,?_,λ_=>?_,?_⟩
    ·rw [Aq (AG h hqH)];exact b02' c o n h
    ·rw [Aq (Ne.symm hqL),h2',ef]
     simp only [A1,X1]
    ·rw [<- eLs]
     simp only [X1]
    ·rw [<- eDn]
     show _=done++(if BM (V.ref xb) then _ else _)
     rw [if_pos hr',X1]
     have el:len (.ref xb)=(f (.ref xb)).length:=by rw [hfl,<- hlen]
     rw [el,B0,B0]
     cases w with
     |false=>simp [E6]
     |true=>simp [E6]
    ·rw [tk,A4,Y1,if_pos hr']
     simp
    ·have sT3:Bf G2 (upd G2 q (.lst (xs++[v']))):=BO hq2
     have sTG2:Bf G G2:=λc ys h=>(b1.trans b2) _ _ (Gg h hGL (λz=>nomatch z)) h
     intro j y t hy ht
     by_cases hj:j<xs.length
     ·rw [X0 hj] at hy
      have ht':(Tr.s z::.i ((ts.length+1:Nat):Int)::done)[j]?=some t:=by
       rw [<- ht,<- X2,<- X2,X0 (by rw [J0,J0];omega)]
      exact ((hR j y t hy ht').sameT sTG2).sameT sT3
     ·rw [L1 (by omega)] at hy
      have hj':=(W0.mp hy).1
      rw [y3] at hj'
      rw [show j-xs.length=0 by omega] at hy
      cases hy
      rw [<- X2,<- X2,L1 (by rw [J0,J0];omega),show j-(Tr.s z::.i ((ts.length+1:Nat):Int)::done).length=0 by rw [J0,J0];omega] at ht
      cases ht
      rw [FE sT1 hrows,hnum,hts1] at r2
      exact r2.sameT sT3
   ·have hf0:=htv'.notR
    rw [Cy hf0] at eLs
    have eD':Ct num len tn.length w (ts.length+Ls.length) (x::r.drop (i+1))=JE x::Ct num len tn.length w (ts.length+Ls.length) (r.drop (i+1)):=by
     show (if BM x then _ else _)=_
     rw [if_neg (by rw [hf0];exact N0)]
    rw [eD'] at eDn
    obtain ⟨ty,hty,hk⟩:∃ ty,Fv K G x ty/\Z4 K ty (Value.type "tuple")=some false:=by
     rcases htv' with ⟨n,rfl,_⟩ | ⟨y,rfl,_⟩
     ·exact ⟨_,.int n,rfl⟩
     ·exact ⟨_,.str y,rfl⟩
    have sT3:Bf G (upd G q (.lst (xs++[x]))):=BO hGq
    refine ⟨ty,hty,false,hk,iteT rfl ⟨.inl ⟨_,AH.of hGq⟩,ix bG ⟨q,xs,x,rfl,rfl,hGq,by omega,w,_,rfl,λc o n h=>?_,xs++[x],Ac,by rw [B0,hxl];rfl,Ls,done++[JE x],by rw [B0,hdl];rfl,?_,eLs,by rw [X1];exact eDn,λe=>?_,?_⟩⟩⟩
    ·rw [Aq (AG h hqH)];exact bG c o n h
    ·rw [Aq (Ne.symm hqL)];exact hGL
    ·rw [tk,A4]
     intro h0
     exact hw e (N4.mp h0).1
    ·intro j y t hy ht
     by_cases hj:j<xs.length
     ·rw [X0 hj] at hy
      have ht':(Tr.s z::.i ((ts.length+1:Nat):Int)::done)[j]?=some t:=by
       rw [<- ht,<- X2,<- X2,X0 (by rw [J0,J0];omega)]
      exact (hR j y t hy ht').sameT sT3
     ·rw [L1 (by omega)] at hy
      have hj':=(W0.mp hy).1
      rw [y3] at hj'
      rw [show j-xs.length=0 by omega] at hy
      cases hy
      rw [<- X2,<- X2,L1 (by rw [J0,J0];omega),show j-(Tr.s z::.i ((ts.length+1:Nat):Int)::done).length=0 by rw [J0,J0];omega] at ht
      cases ht
      exact EQ.tv htv'
  ·rintro σ G ⟨w,o5,xs,Ls,done,rfl,bG,hGq,hxl,hdl,hGL,eLs,eDn,hw,hR⟩
   rw [show (((r.length+2:Nat):Int)-2).toNat=r.length by omega] at hxl hdl eLs eDn
   rw [O7] at eLs eDn
   walk_at "sy"
   have WG:=W.but bG hGL
   have hts:(ts++Ls.map AZ).length=ts.length+Ls.length:=by rw [B0,D0]
   have hLsl:Ls.length<=(BK f tn [(d,["end"])] false r).length+1:=by
    have:=congrArg g5 eLs
    rw [B0,J0] at this
    omega
   refine end_if WG (by omega) (by omega) λG1 b1 h1=>⟨xs,.inl ⟨AH.of (b1 _ _ hqL hGq),λl hl2=>?_⟩⟩
   have s9:=Ag.upd (o:=.tup xs) hl2
   have eD:Ct num len tn.length w (ts.length+Ls.length) []=[]:=rfl
   rw [eD,o0] at eDn
   have sTG1:Bf G G1:=λc ys h=>b1 _ _ (Gg h hGL (λz=>nomatch z)) h
   refine k (.ref l) _ ((bG.trans b1).trans (DY.of s9)) ?_ ⟨l,xs,rfl,Ac,?_,?_,λj x t hx ht=>?_⟩
   ·rw [s9 _ _ h1,<- eLs]
    have e2:(if w then [AZ (d,["end"])] else [])=(BK f tn [(d,["end"])] w []).map AZ:=by
     cases w<;>rfl
    rw [e2]
    simp only [A1,X1]
   ·rw [hxl,<- eDn,J0,J0,hdl]
   ·rw [<- eDn,J0,J0,hdl];omega
   ·rw [<- eDn] at ht
    exact ((hR j x t hx ht).sameT sTG1).sameT (AE s9)
theorem DD (T:Tx P w K mg) (G_head_words:Au P w K mg base CX0 2 T.d_head_words.f T.d_head_words.fd ["row"] ND) (G_Writing_put_line:Au P w K mg base CX0 1 T.m_Writing_put_line.f T.m_Writing_put_line.fd ["self", "words", "deep"] (Eu T.C_Writing)) (G_Writing_put_turn:Au P w K mg base CX0 2 T.m_Writing_put_turn.f T.m_Writing_put_turn.fd ["self", "row", "deep"] (Fz T.C_Writing)):∀ n:Nat,Au P w K mg base CX0 (2*n+4) T.m_Writing_put_rows.f T.m_Writing_put_rows.fd ["self", "rows", "deep"] (Et T.C_Writing n)
 |0=>Ki T 0 Pl
 |n+1=>Ki T (n+1) (Rt T n G_head_words G_Writing_put_line G_Writing_put_turn (DD T G_head_words G_Writing_put_line G_Writing_put_turn n))

theorem IL:Av ["program", "writing"] ["program"] (Aj (top 38)):=⟨rfl,rfl,rfl,by decide +kernel,rfl,by decide +kernel,by decide +kernel⟩
theorem NQ (T:Tx P w K mg)
  (G_Writing___init__:Au P w K mg base CX0 1 T.m_Writing___init__.f T.m_Writing___init__.fd ["self"] (NC T.C_Writing))
  (G_Writing_put_rows:Au P w K mg base CX0 50 T.m_Writing_put_rows.f T.m_Writing_put_rows.fd ["self", "rows", "deep"] (Et T.C_Writing 23)):Au P w K mg base CX0 51 T.d_written.f T.d_written.fd ["program"] (Hh T.C_Writing):=by
 refine T.d_written.F.ok IL (λvs H Q E h=>?_) (λcdv A outer s H vs Q E hr h=>?_)
 ·obtain ⟨v,rfl,_⟩:=h
  rfl
 ·obtain ⟨v,rfl,hv,hll,k⟩:=h
  refine ⟨_,(Ae (Ax (i:=1) IL.nd rfl (Or.inl rfl) (IT T.M_Writing G_Writing___init__ (hr.mono (by omega)) rfl T.h_Writing T.m_Writing___init__.b .nil Ay))
  (Ae (AQ (Cl (pv 1) T.k_Writing T.m_Writing_put_rows.me G_Writing_put_rows (hr.mono (by omega)) T.m_Writing_put_rows.b .nil Ay (Aa (pv 0) (Aa Ad Ab))))
  (Af (Al (Bx C3 V5 U5 Iq Ao (Aa (Fe (N':=["line"]) (sel:=[none]) rfl rfl rfl (DF (Bh (pv 1) rfl)) (Cc rfl) (λ_ _ _ _ _=>⟨(AJ (i:=0) (show (["line"]:List Str).Nodup by decide +kernel) rfl (Or.inl rfl)),CN,(Am Ca (pv 0) Ao)⟩)) Ab)))))),?_⟩
  walk_at "sw"
  refine λx dx hx hdx ne=>⟨x,dx,rfl,Ac,λL H2 hL b h1 h2=>⟨rfl,dx,_,h1,HN L (by decide +kernel),?_⟩⟩
  obtain ⟨s2,W2,hLn⟩:=wNew hx hdx ne hL b h1 h2
  have eL:=Bu (AE s2) hv 0
  refine ⟨x,L,[],v,0,rfl,W2,hv.same s2,by decide,by rw [eL];show 0+(Ah 24 H v 0).length<=60000;omega,λv' H3 b3 h3 _=>?_⟩
  rw [eL,D3] at h3
  have W3:=W2.but b3 h3
  obtain ⟨⟨dx3,hx3⟩,_⟩:=id W3
  have s3:Ag H H3:=λc o h=>b3 _ _ (AG h hLn) (s2 _ _ h)
  have hz:sizeLine=16777216:=by decide
  have hle:=Pc hv (show 0+23<=30 by decide)
  have hsum:=sumL hle
  have e1:("\n":Str).length=1:=by decide +kernel
  have e0:("":Str).length=0:=by decide +kernel
  generalize hls:Ah 24 H v 0=ls at h3 hll hle hsum k
  refine ⟨T.C_Writing,dx3,_,hx3,T.k_Writing,T.n_Writing_lines,_,SD L,L,rfl,⟨_,AH.of h3⟩,Ej (K:=K) (a:=L) (xs:=(ls.map AZ).map V.str) (λi ys G=>G=H3/\ys=(ls.take i).map λx=>V.str (AZ x++"\n")) ⟨rfl,rfl⟩ ?_ ?_ ?_ ?_⟩
  ·rintro i ys G hi ⟨rfl,rfl⟩
   exact ⟨AH.of h3,by rw [D0,K2];omega⟩
  ·rw [D0,D0];omega
  ·rintro i y ys G hi ⟨rfl,rfl⟩
   rw [Q1,Q1] at hi
   cases e:ls[i]? with
   |none=>rw [e] at hi;cases hi
   |some l =>
    rw [e] at hi
    cases hi
    have hl:=hle l (d0 e)
    walk_at "sw"
    exact ⟨by omega,Es e⟩
  ·rintro ys G ⟨rfl,rfl⟩ D hD
   rw [D0,D0,C2]
   refine ⟨"",D,ls.map λx=>AZ x++"\n",rfl,rfl,AH.of (by rw [Ac,C4];rfl),?_,k _ (s3.trans (Ag.upd hD))⟩
   rw [e0]
   omega
theorem Me:Av ["program"] ["program"] (Aj (top 39)):=⟨rfl,rfl,rfl,by decide +kernel,rfl,by decide +kernel,by decide +kernel⟩
theorem Mp (T:Tx P w K mg)
  (G_Writing___init__:Au P w K mg base CX0 1 T.m_Writing___init__.f T.m_Writing___init__.fd ["self"] (NC T.C_Writing))
  (G_Writing_put_rows:Au P w K mg base CX0 50 T.m_Writing_put_rows.f T.m_Writing_put_rows.fd ["self", "rows", "deep"] (Et T.C_Writing 23)):Au P w K mg base CX0 51 T.d_numbered.f T.d_numbered.fd ["program"] (Gm):=by
 refine T.d_numbered.F.ok Me (λvs H Q E h=>?_) (λcdv A outer s H vs Q E hr h=>?_)
 ·obtain ⟨v,rfl,_⟩:=h
  rfl
 ·obtain ⟨v,rfl,hv,hll,k⟩:=h
  refine ⟨_,(Af (Al (Cl (IT T.M_Writing G_Writing___init__ (hr.mono (by omega)) rfl T.h_Writing T.m_Writing___init__.b .nil Ay) T.k_Writing T.m_Writing_put_rows.me G_Writing_put_rows (hr.mono (by omega)) T.m_Writing_put_rows.b .nil Ay (Aa (pv 0) (Aa Ad Ab))))),?_⟩
  walk_at "sw"
  refine λx dx hx hdx ne=>⟨x,dx,rfl,Ac,λL H2 hL b h1 h2=>⟨rfl,dx,_,h1,HN L (by decide +kernel),?_⟩⟩
  obtain ⟨s2,W2,hLn⟩:=wNew hx hdx ne hL b h1 h2
  have eL:=Bu (AE s2) hv 0
  refine ⟨x,L,[],v,0,rfl,W2,hv.same s2,by decide,by rw [eL];show 0+(Ah 24 H v 0).length<=60000;omega,λv' H3 b3 _ r3=>k v' H3 (λc o h=>b3 _ _ (AG h hLn) (s2 _ _ h)) ?_⟩
  rw [FE (AE s2) hv] at r3
  exact r3
theorem Rs:Av ["row"] ["row"] (Aj (top 13)):=⟨rfl,rfl,rfl,by decide +kernel,rfl,by decide +kernel,by decide +kernel⟩
theorem RN (T:Tx P w K mg):Au P w K mg base CX0 1 T.d_parts.f T.d_parts.fd ["row"] (KO):=by
 refine T.d_parts.F.ok Rs (λvs H Q E h=>?_) (λcdv A outer s H vs Q E hr h=>?_)
 ·obtain ⟨v,n,rfl,_⟩:=h
  rfl
 ·obtain ⟨v,n,rfl,hv,hn,k⟩:=h
  refine ⟨_,(Af (Al (AY Be (by rfl) T.n_tuple BJ (Aa (Fe (N':=["place", "row"]) (sel:=[none,some 0]) rfl rfl rfl (EK (RJ (BP (v:=.ref T.pp) rfl T.ppm rfl) (An AI (pv 0) Ad (λ_ _=>rfl)) (Bl Ab) ⟨rfl,rfl,rfl,rfl⟩)) (Cc rfl) (λ_ _ _ _ _=>⟨(AJ (i:=0) (show (["place", "row"]:List Str).Nodup by decide +kernel) rfl (Or.inl rfl)),CN,(An (Iw (K:=K) rfl) (pv 1) (pv 0) (λ_ _=>rfl))⟩)) Ab)))),?_⟩
  walk_at "sw"
  cases n with
  |zero=>exact hv.elim
  |succ n =>
  obtain ⟨a,z,r,rfl,ha,hne,hlen0,hps⟩:=hv
  have hlen:AL z≠[]->r.length+1=CB z:=λh=>(hlen0 h).1
  have nz:z≠"errand":=λe=>by
   have:=((hlen0 (by rw [e];decide +kernel)).2.2).mp e
   omega
  have eP:=BV ha
  rw [eP] at k
  refine ⟨T.pp,T.pkv,rfl,T.pd,_,rfl,a,_,0,.str z,rfl,rfl,BN.of ha,AV (j:=0) rfl,(show 0<=sizeLine by decide),λd hd=>⟨.inr z,rfl,?_⟩⟩
  obtain ⟨b,hb,hq⟩:∃ b,(valV T.pkv (.inr z)).getD (.ref d)=.ref b/\BN K (upd H d (.tup [])) b ((AL z).map λi=>V.int (i:Nat)):=by
   obtain ⟨p1,p2⟩:=T.pv z nz
   by_cases e:AL z=[]
   ·rw [p1 e,e]
    exact ⟨d,rfl,BN.of Ac⟩
   ·obtain ⟨b,h1,h2⟩:=p2 e
    rw [h1]
    exact ⟨b,rfl,h2 _⟩
  refine ⟨b,hb,⟨_,hq⟩,?_⟩
  have pl:(AL z).length<=2:=by
   rcases Dc z with ⟨_,ep,_⟩ | ⟨_,ep,_⟩ | ⟨_,ep,_⟩ | ⟨_,ep,_⟩ | ⟨_,ep,_⟩ | ⟨_,ep,_⟩ | ⟨_,ep,_⟩ | ⟨_,ep,_⟩ | ⟨ep,_⟩<;>rw [ep]<;>decide
  refine Lr (xs:=(AL z).map λi=>V.int (i:Nat)) (λi ys G=>G=upd H d (.tup [])/\ys=((AL z).take i).filterMap λj=>(V.str z::r)[j]?) ⟨rfl,rfl⟩ ?_ ?_ ?_ ?_
  ·rintro i ys G hi ⟨rfl,rfl⟩
   exact ⟨hq,Q0 (List.length_filterMap_le _ _) (by rw [K2];omega)⟩
  ·rw [D0];exact Q0 pl (by decide)
  ·rintro i x ys G hx ⟨rfl,rfl⟩
   rw [Q1] at hx
   cases e:(AL z)[i]? with
   |none=>rw [e] at hx;cases hx
   |some j =>
    rw [e] at hx
    cases hx
    have hj:=Hq hlen j (d0 e)
    have hg:(V.str z::r)[j]?=some (V.str z::r)[j]:=u0 hj
    walk_at "sx"
    refine ⟨a,_,_,_,rfl,rfl,BN.of ((Ag.upd hd) a _ ha),AV hg,rfl,snoc_fm e hg⟩
  ·rintro ys G ⟨rfl,rfl⟩ D hD
   refine ⟨_,.inl ⟨AH.of Ac,λl hl=>?_⟩⟩
   refine k l _ (((Ag.upd hd).trans (Ag.upd hD)).free hl) ?_ (((Ag.upd hd).trans (Ag.upd hD)).trans (Ag.upd hl))
   rw [Ac,D0,C2,BF]
theorem Ij:Av ["rows", "listed", "row", "part"] ["rows"] (Aj (top 14)):=⟨rfl,rfl,rfl,by decide +kernel,rfl,by decide +kernel,by decide +kernel⟩
theorem JQ (T:Tx P w K mg) (G_parts:Au P w K mg base CX0 1 T.d_parts.f T.d_parts.fd ["row"] KO) (n:Nat) (G_walk:Au P w K mg base CX0 (n+1) T.d_walk.f T.d_walk.fd ["rows"] (spDown n)) :
  Au P w K mg base CX0 (n+2) T.d_walk.f T.d_walk.fd ["rows"] (KK n):=by
 refine T.d_walk.F.ok (k:=n+1) Ij (λvs H Q E h=>?_) (λcdv A outer s H vs Q E hr h=>?_)
 ·obtain ⟨v,rfl,_⟩:=h
  rfl
 ·obtain ⟨v,rfl,hn,hv,hlen,k⟩:=h
  obtain ⟨b,ys,rfl,hb,hys⟩:=id hv
  have hW:=Bd (n:=n) hb
  rw [hW] at hlen k
  refine ⟨_,(Ae (Ax (i:=1) Ij.nd rfl (Or.inl rfl) (Ai Ab))
  (Ae (Dr PassesOwn.never rfl (EK (pv 0)) (AJ (i:=2) Ij.nd rfl (Or.inl rfl))
  (Ae (AQ (Bx Z0 D1 C1 AR (pv 1) (Aa (pv 2) Ab)))
  (Af (Dr PassesOwn.never rfl (EK (Ar G_parts (hr.mono (by omega)) rfl T.d_parts.hm T.d_parts.F.kp T.d_parts.b .nil Ay (Aa (pv 2) Ab))) (AJ (i:=3) Ij.nd rfl (Or.inl rfl))
  (Af (AQ (Bx Z0 PySem.F.slot_list_extend PySem.F.type_list_extend Qi (pv 1) (Aa (Ar G_walk (hr.mono (by omega)) rfl T.d_walk.hm T.d_walk.F.kp T.d_walk.b .nil Ay (Aa (pv 3) Ab)) Ab))))))))
  (Af (Al (pv 1))))),?_⟩
  walk_at "sy"
  refine ⟨by decide,λl hl=>⟨_,rfl,b,rfl,⟨_,BN.of ((Ag.upd hl) b _ hb)⟩,?_⟩⟩
  refine GX (K:=K) (a:=b) (xs:=ys) (λi σ H2=>∃ o1 o2:Option V,σ=[some (.ref b),some (.ref l),o1,o2]/\H2 l=some (.lst ((ys.take i).flatMap λy=>y::(Bn H y).flatMap (Bq n H)))/\Ag H H2)
   ⟨none,none,rfl,Ac,Ag.upd hl⟩ (λi σ H2 _ ⟨_,_,_,_,s2⟩=>BN.of (s2 b _ hb)) ?_ ?_
  ·rintro i y σ H2 hi ⟨o1,o2,rfl,hl2,s2⟩
   have hy:=hys y (d0 hi)
   have hle:=DT (f:=λy=>y::(Bn H y).flatMap (Bq n H)) ys (i+1)
   rw [BS hi,B0] at hle
   walk_at "sx"
   have hle2:((ys.take i).flatMap λy=>y::(Bn H y).flatMap (Bq n H)).length+(1+((Bn H y).flatMap (Bq n H)).length)<=100000:=by
    rw [J0] at hle
    omega
   refine ⟨.inl ⟨_,AH.of hl2⟩,l,_,y,rfl,rfl,hl2,V1 (by omega) (show 100000<=sizeLine by decide),?_⟩
   have s3:=Co s2 hl (o:=.lst (((ys.take i).flatMap λy=>y::(Bn H y).flatMap (Bq n H))++[y]))
   refine ⟨y,rfl,y,n,rfl,hy.same s3,hn,λp H4 hp hp4 s4=>⟨p,rfl,⟨_,BN.of hp4⟩,?_⟩⟩
   rw [hy.parts_same s3] at hp4
   have hpl:p≠l:=λe=>by rw [e,Ac] at hp;cases hp
   refine GX (K:=K) (a:=p) (xs:=Bn H y) (λj σ H5=>∃ o2:Option V,σ=[some (.ref b),some (.ref l),some y,o2]/\H5 l=some (.lst (((ys.take i).flatMap λy=>y::(Bn H y).flatMap (Bq n H))++[y]++((Bn H y).take j).flatMap (Bq n H)))/\Ag H H5/\H5 p=some (.tup (Bn H y)))
    ⟨o2,rfl,by rw [s4 l _ Ac];simp,s3.trans s4,hp4⟩ (λj σ H5 _ ⟨_,_,_,_,h5⟩=>BN.of h5) ?_ ?_
   ·rintro j pt σ H5 hj ⟨o3,rfl,hl5,s5,hp5⟩
    have hle3:=DT (f:=Bq n H) (Bn H y) (j+1)
    rw [BS hj,B0] at hle3
    walk_at "sx"
    cases n with
    |zero=>exact hy.elim
    |succ n =>
    have hpo:=hy.parts_ok pt (d0 hj)
    have hw5:=Gj s5 hpo
    refine ⟨.inl ⟨_,AH.of hl5⟩,pt,rfl,by omega,hpo.same s5,by rw [hw5];omega,λl2 H6 hl6 h6 s6=>?_⟩
    rw [hw5] at h6
    refine ⟨l,l2,_,_,rfl,rfl,s6 l _ hl5,h6,?_,?_⟩
    ·rw [B0,B0]
     exact Q0 (by simp only [J0,K1];omega) (show 100000<=sizeLine by decide)
    ·refine ⟨?_,Co (s5.trans s6) hl,?_⟩
     ·rw [Ac,BS hj,X1]
     ·rw [Aq hpl]
      exact s6 p _ hp5
   ·rintro σ H5 ⟨o3,rfl,hl5,s5,hp5⟩
    refine ⟨_,_,rfl,?_,s5⟩
    rw [hl5,C2,BS hi,X1]
    rfl
  ·rintro σ H2 ⟨o1,o2,rfl,hl2,s2⟩
   refine ⟨_,rfl,k l H2 hl ?_ s2⟩
   rw [hl2,C2]
theorem OU (T:Tx P w K mg) (G_parts:Au P w K mg base CX0 1 T.d_parts.f T.d_parts.fd ["row"] KO):∀ n,Au P w K mg base CX0 (n+2) T.d_walk.f T.d_walk.fd ["rows"] (KK n)
 |0=>JQ T G_parts 0 Pl
 |n+1=>JQ T G_parts (n+1) (OU T G_parts n)

theorem Ec:Av ["_law_program_here", "_law_lines_here", "_law_errand"] ["_law_program_here"] (Aj (top 62)):=⟨rfl,rfl,rfl,by decide +kernel,rfl,by decide +kernel,by decide +kernel⟩
theorem Ms (T:Tx P w K mg)
  (G_walk:Au P w K mg base CX0 24 T.d_walk.f T.d_walk.fd ["rows"] (KK 22)):Au P w K mg base CX0 26 T.d_l_rising.f T.d_l_rising.fd ["_law_program_here"] (LW):=by
 refine T.d_l_rising.F.ok Ec (λvs H Q E h=>?_) (λcdv A outer s H vs Q E hr h=>?_)
 ·obtain ⟨p,es,ns,rfl,_⟩:=h
  rfl
 ·obtain ⟨p,es,ns,rfl,hp,he,hns,hpw,hnl,k⟩:=h
  have hu:=Fn hr
  refine ⟨_,(Ae (Ax (i:=1) Ec.nd rfl (Or.inl rfl) (Ai Ab))
  (Ae (Dr PassesOwn.never rfl (EK (pv 0)) (AJ (i:=2) Ec.nd rfl (Or.inl rfl))
  (Ae (AQ (Bx Z0 D1 C1 AR (pv 1) (Aa (An AI (pv 2) Ad (λ_ _=>rfl)) Ab)))
  (Af (Ax (i:=1) Ec.nd rfl (Or.inl rfl) (Am DR (pv 1) (Fe (N':=["_law_row"]) (sel:=[none]) rfl rfl rfl (DF (Ar G_walk (hr.mono (by omega)) rfl T.d_walk.hm T.d_walk.F.kp T.d_walk.b .nil Ay (Aa (An AI (pv 2) Ad (λ_ _=>rfl)) Ab))) (Cc rfl) (λ_ _ _ _ _=>⟨(AJ (i:=0) (show (["_law_row"]:List Str).Nodup by decide +kernel) rfl (Or.inl rfl)),CN,(An (Iw (K:=K) rfl) (pv 0) Ad (λ_ _=>rfl))⟩)))))))
  (Af (Al (BZ (Ht hu) (pv 1) (AA (LG (P:=P) (w:=w) rfl rfl rfl) (by rfl) T.n_sorted QA (Aa (AY (SQ (P:=P) (w:=w) rfl rfl rfl) (by rfl) T.n_set bt_set (Aa (pv 1) Ab)) Ab)) (At _)))))),?_⟩
  walk_at "sy"
  refine ⟨by decide,λl0 hl0=>⟨_,rfl,p,rfl,⟨_,BN.of ((Ag.upd hl0) p _ hp)⟩,?_⟩⟩
  have hlen:(es.flatMap (Bp 23 H)).length<=63:=by
   have:=congrArg g5 hns
   rw [D0,D0] at this
   omega
  refine GX (K:=K) (a:=p) (xs:=es) (λi σ H2=>∃ (l:Addr) (o:Option V),σ=[some (.ref p),some (.ref l),o]/\H l=none/\H2 l=some (.lst (((es.take i).flatMap (Bp 23 H)).map (lnV H)))/\Ag H H2)
   ⟨l0,none,rfl,hl0,Ac,Ag.upd hl0⟩ (λi σ H2 _ ⟨_,_,_,_,_,s2⟩=>BN.of (s2 p _ hp)) ?_ ?_
  ·rintro i y σ H2 hi ⟨l,o,rfl,hl,hl2,s2⟩
   obtain ⟨hrow,hie⟩:=he y (d0 hi)
   obtain ⟨a,ln,x,b,rfl,ha,hb,erow⟩:=Qt hrow hie
   have hle:=DT (f:=Bp 23 H) es (i+1)
   rw [BS hi,B0,erow,J0] at hle
   have hw:=PB hb
   have scB:63+1<scanBound:=by decide
   have hz:sizeLine=16777216:=by decide
   walk_at "sw"
   refine ⟨.inl ⟨_,AH.of hl2⟩,a,_,1,.int ln,rfl,rfl,BN.of (s2 _ _ ha),AV (j:=1) rfl,l,_,.int ln,rfl,rfl,hl2,by rw [D0];omega,?_⟩
   have s3:=Co s2 hl (o:=.lst (((es.take i).flatMap (Bp 23 H)).map (lnV H)++[.int ln]))
   have e3:upd H2 l (.lst (((es.take i).flatMap (Bp 23 H)).map (lnV H)++[.int ln])) l=_:=Ac
   generalize upd H2 l (.lst (((es.take i).flatMap (Bp 23 H)).map (lnV H)++[.int ln]))=H3 at s3 e3
   have hwl:(Bq 23 H3 (.ref b)).length=(Bq 23 H (.ref b)).length:=by rw [Gj s3 hb]
   refine ⟨a,_,3,.ref b,rfl,rfl,BN.of (s3 _ _ ha),AV (j:=3) rfl,.ref b,rfl,by decide,hb.same s3,by show (Bq 23 H3 (.ref b)).length<=100000;omega,λl2 H4 hl4 h4 s4=>?_⟩
   rw [Gj s3 hb] at h4
   refine ⟨l2,rfl,⟨_,AH.of h4⟩,Ej (K:=K) (a:=l2) (xs:=Bq 23 H (.ref b)) (λj ys G=>G=H4/\ys=((Bq 23 H (.ref b)).take j).map (lnV H)) ⟨rfl,rfl⟩ ?_ ?_ ?_ ?_⟩
   ·rintro j ys G hj ⟨rfl,rfl⟩
    exact ⟨AH.of h4,by rw [D0,K2];omega⟩
   ·omega
   ·rintro j u ys G hj ⟨rfl,rfl⟩
    obtain ⟨m,hm⟩:=hw u (d0 hj)
    obtain ⟨a2,z2,ln2,r2,rfl,ha2,eln⟩:=row_ln hm
    walk_at "sw"
    refine ⟨a2,_,1,.int ln2,rfl,rfl,BN.of (s4 _ _ (s3 _ _ ha2)),AV (j:=1) rfl,rfl,?_⟩
    rw [Gk hj,A1,S1,eln]
    rfl
   ·rintro ys G ⟨rfl,rfl⟩ D hD
    rw [C2]
    refine ⟨l,D,_,_,rfl,rfl,(Ag.upd hD) _ _ (s4 _ _ e3),Ac,?_,λl5 hl5=>⟨l5,rfl,?_,?_,?_⟩⟩
    ·rw [B0,D0,D0]
     simp only [J0,K1]
     omega
    ·exact ((s3.trans s4).trans (Ag.upd hD)).free hl5
    ·rw [Ac,BS hi,erow,A1,S1,Od ha,X1]
     rfl
    ·exact ((s3.trans s4).trans (Ag.upd hD)).trans (Ag.upd hl5)
  ·rintro σ H2 ⟨l,o,rfl,hl,hl2,s2⟩
   rw [C2,hns] at hl2
   have scB:63+1<scanBound:=by decide
   walk_at "sy"
   refine ⟨ns,AH.of hl2,by omega,λS hS=>⟨ns,Ac,λus nd hm=>?_,λl6 ns' hl6 hp6 hm6=>?_⟩⟩
   ·have:=nd_le nd λk hk=>(hm k).mp hk
    omega
   ·have e:=HJ hp6 hpw hm6
    subst e
    have s6:=(Ag.upd (o:=Ke P w S ns') hS).trans (Ag.upd (o:=.lst (ns'.map V.int)) hl6)
    refine ⟨l,l6,_,_,1,λ_=>true,rfl,rfl,AH.of (s6 _ _ hl2),AH.of Ac,by decide,λi x y hx hy=>?_,?_⟩
    ·rw [hx] at hy
     cases hy
     obtain ⟨q,rfl,_⟩:=Jo hx
     have e7:QE K (upd (upd H2 S (Ke P w S ns')) l6 (.lst (ns'.map V.int))) 1 (.int q) (.int q) (Ha (.int q) (.int q)):=.flat rfl rfl
     rw [show Ha (.int q) (.int q)=true by simp [Ha]] at e7
     exact e7
    ·rw [SW,Bool.and_true,decide_eq_true rfl]
     exact k _ (s2.trans s6)
theorem Fa:Av ["_law_script", "_law_names_here", "_law_program_here", "_law_text_here", "_law_told", "_law_lines_here", "_law_places", "_law_spread_here"] ["_law_script"] (Aj (top 63)):=⟨rfl,rfl,rfl,by decide +kernel,rfl,by decide +kernel,by decide +kernel⟩
theorem ok_law (T:Tx P w K mg) {f:Addr} {fd:FuncData} (F:Fun K "law" "law" (top 63) f fd)
  (G_l_names:Au P w K mg base CX0 4 T.d_l_names.f T.d_l_names.fd ["_law_x"] (OK))
  (G_l_cell_at:Au P w K mg base CX0 1 T.d_l_cell_at.f T.d_l_cell_at.fd ["_law_script", "_law_k"] (Rn K))
  (G_l_program:Au P w K mg base CX0 5 T.d_l_program.f T.d_l_program.fd ["_law_cells", "_law_names_here", "_law_deep"] (Ka))
  (G_l_text:Au P w K mg base CX0 27 T.d_l_text.f T.d_l_text.fd ["_law_program_here", "_law_x"] (Rh))
  (G_written:Au P w K mg base CX0 51 T.d_written.f T.d_written.fd ["program"] (Hh T.C_Writing))
  (G_read:Au P w K mg base CX0 15 T.d_read.f T.d_read.fd ["text"] (NB))
  (G_l_alike:Au P w K mg base CX0 50 T.d_l_alike.f T.d_l_alike.fd ["_law_found", "_law_due"] (Ii 48))
  (G_numbered:Au P w K mg base CX0 51 T.d_numbered.f T.d_numbered.fd ["program"] (Gm))
  (G_l_rising:Au P w K mg base CX0 26 T.d_l_rising.f T.d_l_rising.fd ["_law_program_here"] (LW)):Au P w K mg base CX0 61 f fd ["_law_script"] (spLaw K):=by
 refine F.ok Fa (λvs H Q E h=>?_) (λcdv A outer s H vs Q E hr h=>?_)
 ·obtain ⟨a,ns,rfl,_⟩:=h
  rfl
 ·obtain ⟨a,ns,rfl,hS,hn,k⟩:=h
  refine ⟨_,(Ae (Ax (i:=1) Fa.nd rfl (Or.inl rfl) (Ar G_l_names (hr.mono (by omega)) rfl T.d_l_names.hm T.d_l_names.F.kp T.d_l_names.b .nil Ay (Aa (Ar G_l_cell_at (hr.mono (by omega)) rfl T.d_l_cell_at.hm T.d_l_cell_at.F.kp T.d_l_cell_at.b .nil Ay (Aa (pv 0) (Aa Ad Ab))) Ab)))
  (Ae (Ax (i:=2) Fa.nd rfl (Or.inl rfl) (Ar G_l_program (hr.mono (by omega)) rfl T.d_l_program.hm T.d_l_program.F.kp T.d_l_program.b .nil Ay (Aa (Dd KT (pv 0) (Dv Ad) (Dv Ad)) (Aa (pv 1) (Aa (BZ Bg (Am AU (Ar G_l_cell_at (hr.mono (by omega)) rfl T.d_l_cell_at.hm T.d_l_cell_at.F.kp T.d_l_cell_at.b .nil Ay (Aa (pv 0) (Aa Ad Ab))) Ad) Ad (At _)) Ab)))))
  (Ae (Ax (i:=3) Fa.nd rfl (Or.inl rfl) (Ar G_written (hr.mono (by omega)) rfl T.d_written.hm T.d_written.F.kp T.d_written.b .nil Ay (Aa (pv 2) Ab)))
  (Ae (Ax (i:=4) Fa.nd rfl (Or.inl rfl) (Ar G_read (hr.mono (by omega)) rfl T.d_read.hm T.d_read.F.kp T.d_read.b .nil Ay (Aa (pv 3) Ab)))
  (Ae (AD (PW.pt (HK (CS (BG (Ar G_l_alike (hr.mono (by omega)) rfl T.d_l_alike.hm T.d_l_alike.F.kp T.d_l_alike.b .nil Ay (Aa (pv 4) (Aa (Ar G_numbered (hr.mono (by omega)) rfl T.d_numbered.hm T.d_numbered.F.kp T.d_numbered.b .nil Ay (Aa (pv 2) Ab)) Ab))))) (Fc (Ak GL (Ar G_written (hr.mono (by omega)) rfl T.d_written.hm T.d_written.F.kp T.d_written.b .nil Ay (Aa (pv 4) Ab)) (pv 3) (At _)))))
  (Af (Al Ff))
  Ap)
  (Ae (AD (CS (BG (Ar G_l_alike (hr.mono (by omega)) rfl T.d_l_alike.hm T.d_l_alike.F.kp T.d_l_alike.b .nil Ay (Aa (Ar G_numbered (hr.mono (by omega)) rfl T.d_numbered.hm T.d_numbered.F.kp T.d_numbered.b .nil Ay (Aa (pv 4) Ab)) (Aa (pv 4) Ab)))))
  (Af (Al Ff))
  Ap)
  (Ae (RD (Ar G_l_text (hr.mono (by omega)) rfl T.d_l_text.hm T.d_l_text.F.kp T.d_l_text.b .nil Ay (Aa (pv 2) (Aa (Ar G_l_cell_at (hr.mono (by omega)) rfl T.d_l_cell_at.hm T.d_l_cell_at.F.kp T.d_l_cell_at.b .nil Ay (Aa (pv 0) (Aa Ad Ab))) Ab))) (Hs rfl (BD (AJ (i:=5) Fa.nd rfl (Or.inl rfl)) (BD (AJ (i:=6) Fa.nd rfl (Or.inl rfl)) EL))))
  (Ae (Ax (i:=7) Fa.nd rfl (Or.inl rfl) (Ar G_read (hr.mono (by omega)) rfl T.d_read.hm T.d_read.F.kp T.d_read.b .nil Ay (Aa (Bx C3 V5 U5 Iq Ao (Aa (pv 5) Ab)) Ab)))
  (Ae (AD (PW.pt (HK (Ak GL (Ar G_written (hr.mono (by omega)) rfl T.d_written.hm T.d_written.F.kp T.d_written.b .nil Ay (Aa (pv 7) Ab)) (pv 3) (At _)) (Fc (CS (BG (Ar G_l_alike (hr.mono (by omega)) rfl T.d_l_alike.hm T.d_l_alike.F.kp T.d_l_alike.b .nil Ay (Aa (Ar G_numbered (hr.mono (by omega)) rfl T.d_numbered.hm T.d_numbered.F.kp T.d_numbered.b .nil Ay (Aa (pv 7) Ab)) (Aa (pv 4) Ab))))))))
  (Af (Al Ff))
  Ap)
  (Ae (AD (CS (BG (Ar G_l_rising (hr.mono (by omega)) rfl T.d_l_rising.hm T.d_l_rising.F.kp T.d_l_rising.b .nil Ay (Aa (pv 7) Ab))))
  (Af (Al Ff))
  Ap)
  (Af (Al (Eo (Ar G_l_rising (hr.mono (by omega)) rfl T.d_l_rising.hm T.d_l_rising.F.kp T.d_l_rising.b .nil Ay (Aa (pv 4) Ab)) (DQ (Ar G_l_alike (hr.mono (by omega)) rfl T.d_l_alike.hm T.d_l_alike.F.kp T.d_l_alike.b .nil Ay (Aa (Ar G_read (hr.mono (by omega)) rfl T.d_read.hm T.d_read.F.kp T.d_read.b .nil Ay (Aa (Ar G_written (hr.mono (by omega)) rfl T.d_written.hm T.d_written.F.kp T.d_written.b .nil Ay (Aa (pv 7) Ab)) Ab)) (Aa (pv 4) Ab))))))))))))))))),?_⟩
  walk_at "sy"
  refine ⟨a,ns,0,rfl,hS,hn,by decide,λc0=>⟨c0,rfl,λna H1 hna0 hN s1=>?_⟩⟩
  refine ⟨a,_,rfl,s1.seq hS,λca hca=>?_⟩
  obtain ⟨ms,hms,hml⟩:=cut60 ns hn
  rw [hms]
  have s2:=Ag.upd (o:=.lst (ms.map V.int)) hca
  refine ⟨a,ns,1,rfl,(s1.trans s2).seq hS,hn,by decide,λn1=>⟨n1,rfl,by decide,rfl,?_⟩⟩
  obtain ⟨zs,hz1,hz2,hz3,hz4⟩:=hN
  refine ⟨ca,na,_,ms,rfl,Ac,hml,⟨zs,s2 _ _ hz1,hz2,hz3,hz4⟩,λp es H3 hp0 h3 hes hel hw hene s3=>?_⟩
  have s13:=(s1.trans s2).trans s3
  clear s1 s2 s3 hca hms hna0 hp0 hz1 hz2 hz3 hz4
  obtain ⟨rok,rlen⟩:=Io h3 hes hel
  obtain ⟨w1,w2,w3,w4,w5,w6⟩:=QI h3 hes hel hene
  rw [<- DM] at w4
  have rd:∀ {G:Hp} {R:VK} {E:XK},(∀ (v:V) (G':Hp),Ag G G'->DZ G' v (Bm sf 24 H3 (.ref p) 0)->R v G')->NB [.str (Gd (Ah 24 H3 (.ref p) 0))] G R E:=λ{G R E} f =>
   ⟨_,_,by rw [DM],w1,w2,w3,by rw [<- DM];exact w4,w5,w6,λv G' hv sv=>f v G' sv hv⟩
  refine ⟨.ref p,rfl,rok,rlen,λH4 s4=>rd λvt H5 s5 ht=>?_⟩
  have s35:=s4.trans s5
  have e5:Ah 24 H5 (.ref p) 0=Ah 24 H3 (.ref p) 0:=Bu (AE s35) rok 0
  have n5:Bm sf 24 H5 (.ref p) 0=Bm sf 24 H3 (.ref p) 0:=FE (AE s35) rok 0
  refine ⟨.ref p,rfl,rok.same s35,by rw [e5];exact rlen,λvd H6 s6 due=>?_⟩
  rw [n5] at due
  have isoT:∀ {G:Hp},Ag H5 G->Nj sf H3 G 23 (.ref p) vt:=λ{G} s=>iso sf H3 G 23 _ vt 0 rok (ht.sameT (AE s))
  have told:∀ {G:Hp},Ag H5 G->EQ 48 G vt (Bm sf 24 H3 (.ref p) 0):=λ{G} s=>DZ.toT due (ht.sameT (AE s))
  refine ⟨vt,vd,_,rfl,told s6,due,λH7 s7=>⟨true,rfl,?_⟩⟩
  refine L2.iteF ?_
  have s57:=s6.trans s7
  refine Of (isoT s57) rlen λH8 s8=>⟨rfl,?_⟩
  refine K15.iteF (by simp) ?_
  have s58:=s57.trans s8
  refine Sm (isoT s58) rlen λv9 H9 s9 r9=>⟨v9,vt,_,rfl,r9,told (s58.trans s9),λH10 s10=>⟨true,rfl,?_⟩⟩
  refine L2.iteF ?_
  have sA:=(s58.trans s9).trans s10
  have sB:=s35.trans sA
  refine ⟨a,ns,2,rfl,(s13.trans sB).seq hS,hn,by decide,λn2=>⟨p,es,n2,rfl,sB _ _ h3,λe he=>(hes e he).sameT (AE sB),hel,λq la pa L ps H11 hq hX s11=>?_⟩⟩
  have eX:Ah 24 H10 (.ref p) 0=Ah 24 H3 (.ref p) 0:=Bu (AE sB) rok 0
  rw [eX] at hX
  refine ⟨q,_,rfl,BN.of hq,rfl,?_⟩
  simp only [Gi,Lx]
  walk_at "sy"
  obtain ⟨_,t1,t2,t3,t4,t5,t6,hpl,_⟩:=Nv h3 hes hel hene hX (c:=0) (by decide)
  rw [List.replicate_zero,o0] at t1 t2 t3 t4 t5
  have hjl:(L.map (·.length)).sum+L.length*("\n":Str).length<=16777216:=by
   have h1:=LR λl hl=>(hX.ok l hl).2
   have h2:=hX.le
   rw [show ("\n":Str).length=1 by decide +kernel]
   omega
  refine ⟨"\n",la,L,rfl,rfl,AH.of hX.hl,hjl,?_⟩
  rw [DK,nl1]
  refine ⟨L,_,rfl,t1,t2,t3,t4,t5,t6,λvs H12 hv s12=>?_⟩
  have hvs:DZ H12 vs (Bm (λk=>ps.getD k 0) 24 H3 (.ref p) 0):=hv
  have isoV:∀ {G:Hp},Ag H12 G->Nj (λk=>ps.getD k 0) H3 G 23 (.ref p) vs:=λ{G} s=>iso _ H3 G 23 _ vs 0 rok (hvs.sameT (AE s))
  have sC:=(sA.trans s11).trans s12
  refine Of (isoV (Ag.refl _)) rlen λH13 s13'=>⟨rfl,?_⟩
  refine K15.iteF (by simp) ?_
  refine Sm (isoV s13') rlen λv14 H14 s14 r14=>⟨v14,vt,_,rfl,r14,told (sC.trans (s13'.trans s14)),λH15 s15=>⟨true,rfl,?_⟩⟩
  refine L2.iteF ?_
  have sD:=(s13'.trans s14).trans s15
  obtain ⟨p',es',ms',e1,e2,e3,e4,e5',e6⟩:=Kk (H':=H15) (v':=vs) h3 hes hw (hvs.sameT (AE sD)) λi j hij hj=>Qr hX.sp.rise.1 hij (by rw [hpl];exact hj)
  refine ⟨p',es',ms',by rw [e1],e2,e3,e4,e5',e6,λH16 s16=>⟨true,rfl,?_⟩⟩
  refine L2.iteF ?_
  have sE:=sC.trans (sD.trans s16)
  obtain ⟨q',fs',ls',f1,f2,f3,f4,f5,f6⟩:=Kk (H':=H16) (v':=vt) h3 hes hw (ht.sameT (AE sE)) λi j hij hj=>by
   show ((i+1:Nat):Int)<((j+1:Nat):Int)
   omega
  refine ⟨q',fs',ls',by rw [f1],f2,f3,f4,f5,f6,λH17 s17=>⟨true,rfl,?_⟩⟩
  refine L2.iteT ?_
  refine Of (isoV ((sD.trans s16).trans s17)) rlen λH18 s18=>rd λv19 H19 s19 r19=>?_
  exact ⟨v19,vt,_,rfl,DZ.toT due r19,told (((sE.trans s17).trans s18).trans s19),λH20 _=>k H20⟩
theorem law_fn {l:T7} {h:Heap} {fa:Addr} (X:K.In h) (G:h.Ns mainGlobals mg) (hfa:mg "law"=some (.ref fa))
  (i53:InK K "_law_parts" (top 53))
  (i41:InK K "_law_cell_at" (top 41))
  (i42:InK K "_law_mixed" (top 42))
  (i43:InK K "_law_stream" (top 43))
  (i44:InK K "_law_name_by" (top 44))
  (i45:InK K "_law_names" (top 45))
  (i46:InK K "_law_value_by" (top 46))
  (i47:InK K "_law_plain" (top 47))
  (i48:InK K "_law_opened" (top 48))
  (i49:InK K "_law_closed" (top 49))
  (i50:InK K "_law_put" (top 50))
  (i51:InK K "_law_program" (top 51))
  (i52:InK K "_law_words" (top 52))
  (i54:InK K "_law_turning" (top 54))
  (i55:InK K "_law_lines" (top 55))
  (i59:InK K "_law_alike" (top 59))
  (i8:InK K "is_letters" (top 8))
  (i9:InK K "is_name" (top 9))
  (i10:InK K "is_told_word" (top 10))
  (i11:InK K "is_value" (top 11))
  (i12:InK K "is_block_word" (top 12))
  (i22:InK K "number_of" (top 22))
  (i23:InK K "bounded" (top 23))
  (i24:InK K "value_of" (top 24))
  (i25:InK K "field_of" (top 25))
  (i26:InK K "fitted" (top 26))
  (i27:InK K "first_fit" (top 27))
  (i28:InK K "row_of" (top 28))
  (i31:InK K "read" (top 31))
  (i60:InK K "_law_spread" (top 60))
  (i61:InK K "_law_text" (top 61))
  (i34:InK K "begin_words" (top 34))
  (i35:InK K "head_words" (top 35))
  (i36:InK K "turn_words" (top 36))
  (i38:InK K "written" (top 38))
  (i39:InK K "numbered" (top 39))
  (i13:InK K "parts" (top 13))
  (i14:InK K "walk" (top 14))
  (i62:InK K "_law_rising" (top 62))
  (i63:InK K "law" (top 63))
  {C_Unended:Addr} (c_Unended:InC K "Unended" C_Unended)
  (na_Unended_head:J2 K (.ref C_Unended) "head"=some none)
  (na_Unended_rows:J2 K (.ref C_Unended) "rows"=some none)
  (na_Unended_turned:J2 K (.ref C_Unended) "turned"=some none)
  (na_Unended_turn_fields:J2 K (.ref C_Unended) "turn_fields"=some none)
  (na_Unended_others:J2 K (.ref C_Unended) "others"=some none)
  (im_Unended___init__:InM K C_Unended "__init__" "Unended.__init__" (AB (top 29) 0))
  (im_Unended_put:InM K C_Unended "put" "Unended.put" (AB (top 29) 1))
  (im_Unended_may_turn:InM K C_Unended "may_turn" "Unended.may_turn" (AB (top 29) 2))
  (im_Unended_turn:InM K C_Unended "turn" "Unended.turn" (AB (top 29) 3))
  (im_Unended_may_end:InM K C_Unended "may_end" "Unended.may_end" (AB (top 29) 4))
  (im_Unended_whole:InM K C_Unended "whole" "Unended.whole" (AB (top 29) 5))
  {C_Reading:Addr} (c_Reading:InC K "Reading" C_Reading)
  (na_Reading_program:J2 K (.ref C_Reading) "program"=some none)
  (na_Reading_unended:J2 K (.ref C_Reading) "unended"=some none)
  (im_Reading___init__:InM K C_Reading "__init__" "Reading.__init__" (AB (top 30) 0))
  (im_Reading_allows:InM K C_Reading "allows" "Reading.allows" (AB (top 30) 1))
  (im_Reading_put_line:InM K C_Reading "put_line" "Reading.put_line" (AB (top 30) 2))
  (im_Reading_end_innermost:InM K C_Reading "end_innermost" "Reading.end_innermost" (AB (top 30) 3))
  (im_Reading_is_whole:InM K C_Reading "is_whole" "Reading.is_whole" (AB (top 30) 4))
  {C_Writing:Addr} (c_Writing:InC K "Writing" C_Writing)
  (na_Writing_lines:J2 K (.ref C_Writing) "lines"=some none)
  (im_Writing___init__:InM K C_Writing "__init__" "Writing.__init__" (AB (top 37) 0))
  (im_Writing_put_line:InM K C_Writing "put_line" "Writing.put_line" (AB (top 37) 1))
  (im_Writing_put_turn:InM K C_Writing "put_turn" "Writing.put_turn" (AB (top 37) 2))
  (im_Writing_put_rows:InM K C_Writing "put_rows" "Writing.put_rows" (AB (top 37) 3))
  (im_Writing_put_row:InM K C_Writing "put_row" "Writing.put_row" (AB (top 37) 4))
  (ikwa:InT K "KEY_WORDS" Gb)
  
  
  (ifma:InT K "FORMS" FORMS)
  
  
  (itwa:InT K "TURN_WORDS" TWS)
  
  
  {mlt:Tok} (imlt:A2 K mainGlobals "MOST_LETTERS"=some (some (.int 8 mlt)))
  
  {mvt:Tok} (imvt:A2 K mainGlobals "MOST_VALUE"=some (some (.int 999999 mvt)))
  
  {mft:Tok} (imft:A2 K mainGlobals "MOST_FIGURES"=some (some (.int 6 mft)))
  
  {mdt:Tok} (imdt:A2 K mainGlobals "MOST_DEEP"=some (some (.int 20 mdt)))
  
  (igra:InGR w K)
  
  
  (itua:InTU w K)
  
  
  (ipp:InPP w K)
  
  
  
  
  
  {stt:Tok} (iST:A2 K mainGlobals "STEP_IN"=some (some (.str "  " stt)))
  
  (z_len:A2 K mainGlobals "len"=some none)
  (z_isinstance:A2 K mainGlobals "isinstance"=some none)
  (z_list:A2 K mainGlobals "list"=some none)
  (z_tuple:A2 K mainGlobals "tuple"=some none)
  (z_int:A2 K mainGlobals "int"=some none)
  (z_range:A2 K mainGlobals "range"=some none)
  (z_enumerate:A2 K mainGlobals "enumerate"=some none)
  (z_str:A2 K mainGlobals "str"=some none)
  (z_bool:A2 K mainGlobals "bool"=some none)
  (z_all:A2 K mainGlobals "all"=some none)
  (z_zip:A2 K mainGlobals "zip"=some none)
  (z_sorted:A2 K mainGlobals "sorted"=some none)
  (z_set:A2 K mainGlobals "set"=some none)
  : ∃ fd:FuncData,(∀ (s:Shared) (v:Value),BindsTo s fd ⟨[v],[]⟩ [("_law_script",v)])/\∀ base:Heap,K.In base->base.Ns mainGlobals mg->Au l.prog w K mg base CX0 61 fa fd ["_law_script"] (spLaw K):=by
 obtain ⟨d53⟩:=i53.def (ps:=["_law_row"]) X G λ_ _ _ _ _ _ us hl=>GD hl (λ_=>rfl)
 obtain ⟨d41⟩:=i41.def (ps:=["_law_script", "_law_k"]) X G λ_ _ _ _ _ _ us hl=>MF hl (λ_ _=>rfl)
 obtain ⟨d42⟩:=i42.def (ps:=["_law_x"]) X G λ_ _ _ _ _ _ us hl=>GD hl (λ_=>rfl)
 obtain ⟨d43⟩:=i43.def (ps:=["_law_cell", "_law_many"]) X G λ_ _ _ _ _ _ us hl=>MF hl (λ_ _=>rfl)
 obtain ⟨d44⟩:=i44.def (ps:=["_law_x"]) X G λ_ _ _ _ _ _ us hl=>GD hl (λ_=>rfl)
 obtain ⟨d45⟩:=i45.def (ps:=["_law_x"]) X G λ_ _ _ _ _ _ us hl=>GD hl (λ_=>rfl)
 obtain ⟨d46⟩:=i46.def (ps:=["_law_x", "_law_names_here"]) X G λ_ _ _ _ _ _ us hl=>MF hl (λ_ _=>rfl)
 obtain ⟨d47⟩:=i47.def (ps:=["_law_x", "_law_names_here"]) X G λ_ _ _ _ _ _ us hl=>MF hl (λ_ _=>rfl)
 obtain ⟨d48⟩:=i48.def (ps:=["_law_x", "_law_names_here"]) X G λ_ _ _ _ _ _ us hl=>MF hl (λ_ _=>rfl)
 obtain ⟨d49⟩:=i49.def (ps:=["_law_frame"]) X G λ_ _ _ _ _ _ us hl=>GD hl (λ_=>rfl)
 obtain ⟨d50⟩:=i50.def (ps:=["_law_errands", "_law_stack", "_law_x", "_law_names_here", "_law_deep"]) X G λ_ _ _ _ _ _ us hl=>lx5 hl (λ_ _ _ _ _=>rfl)
 obtain ⟨d51⟩:=i51.def (ps:=["_law_cells", "_law_names_here", "_law_deep"]) X G λ_ _ _ _ _ _ us hl=>lx3 hl (λ_ _ _=>rfl)
 obtain ⟨d52⟩:=i52.def (ps:=["_law_row"]) X G λ_ _ _ _ _ _ us hl=>GD hl (λ_=>rfl)
 obtain ⟨d54⟩:=i54.def (ps:=["_law_row"]) X G λ_ _ _ _ _ _ us hl=>GD hl (λ_=>rfl)
 obtain ⟨d55⟩:=i55.def (ps:=["_law_rows", "_law_deep"]) X G λ_ _ _ _ _ _ us hl=>MF hl (λ_ _=>rfl)
 obtain ⟨d59⟩:=i59.def (ps:=["_law_found", "_law_due"]) X G λ_ _ _ _ _ _ us hl=>MF hl (λ_ _=>rfl)
 obtain ⟨d8⟩:=i8.def (ps:=["text"]) X G λ_ _ _ _ _ _ us hl=>GD hl (λ_=>rfl)
 obtain ⟨d9⟩:=i9.def (ps:=["thing"]) X G λ_ _ _ _ _ _ us hl=>GD hl (λ_=>rfl)
 obtain ⟨d10⟩:=i10.def (ps:=["text"]) X G λ_ _ _ _ _ _ us hl=>GD hl (λ_=>rfl)
 obtain ⟨d11⟩:=i11.def (ps:=["thing"]) X G λ_ _ _ _ _ _ us hl=>GD hl (λ_=>rfl)
 obtain ⟨d12⟩:=i12.def (ps:=["word"]) X G λ_ _ _ _ _ _ us hl=>GD hl (λ_=>rfl)
 obtain ⟨d22⟩:=i22.def (ps:=["word"]) X G λ_ _ _ _ _ _ us hl=>GD hl (λ_=>rfl)
 obtain ⟨d23⟩:=i23.def (ps:=["word", "least", "greatest"]) X G λ_ _ _ _ _ _ us hl=>lx3 hl (λ_ _ _=>rfl)
 obtain ⟨d24⟩:=i24.def (ps:=["word"]) X G λ_ _ _ _ _ _ us hl=>GD hl (λ_=>rfl)
 obtain ⟨d25⟩:=i25.def (ps:=["slot", "word"]) X G λ_ _ _ _ _ _ us hl=>MF hl (λ_ _=>rfl)
 obtain ⟨d26⟩:=i26.def (ps:=["slots", "words", "field_at"]) X G λ_ _ _ _ _ _ us hl=>lx3 hl (λ_ _ _=>rfl)
 obtain ⟨d27⟩:=i27.def (ps:=["forms", "words", "field_at"]) X G λ_ _ _ _ _ _ us hl=>lx3 hl (λ_ _ _=>rfl)
 obtain ⟨d28⟩:=i28.def (ps:=["fields", "number"]) X G λ_ _ _ _ _ _ us hl=>MF hl (λ_ _=>rfl)
 obtain ⟨d31⟩:=i31.def (ps:=["text"]) X G λ_ _ _ _ _ _ us hl=>GD hl (λ_=>rfl)
 obtain ⟨d60⟩:=i60.def (ps:=["_law_words_here", "_law_xs"]) X G λ_ _ _ _ _ _ us hl=>MF hl (λ_ _=>rfl)
 obtain ⟨d61⟩:=i61.def (ps:=["_law_program_here", "_law_x"]) X G λ_ _ _ _ _ _ us hl=>MF hl (λ_ _=>rfl)
 obtain ⟨d34⟩:=i34.def (ps:=["row"]) X G λ_ _ _ _ _ _ us hl=>GD hl (λ_=>rfl)
 obtain ⟨d35⟩:=i35.def (ps:=["row"]) X G λ_ _ _ _ _ _ us hl=>GD hl (λ_=>rfl)
 obtain ⟨d36⟩:=i36.def (ps:=["row"]) X G λ_ _ _ _ _ _ us hl=>GD hl (λ_=>rfl)
 obtain ⟨d38⟩:=i38.def (ps:=["program"]) X G λ_ _ _ _ _ _ us hl=>GD hl (λ_=>rfl)
 obtain ⟨d39⟩:=i39.def (ps:=["program"]) X G λ_ _ _ _ _ _ us hl=>GD hl (λ_=>rfl)
 obtain ⟨d13⟩:=i13.def (ps:=["row"]) X G λ_ _ _ _ _ _ us hl=>GD hl (λ_=>rfl)
 obtain ⟨d14⟩:=i14.def (ps:=["rows"]) X G λ_ _ _ _ _ _ us hl=>GD hl (λ_=>rfl)
 obtain ⟨d62⟩:=i62.def (ps:=["_law_program_here"]) X G λ_ _ _ _ _ _ us hl=>GD hl (λ_=>rfl)
 obtain ⟨e_Unended___init__⟩:=im_Unended___init__.def (ps:=["self", "head"]) λ_ _ _ _ _ _ us hl=>MF hl (λ_ _=>rfl)
 obtain ⟨e_Unended_put⟩:=im_Unended_put.def (ps:=["self", "row"]) λ_ _ _ _ _ _ us hl=>MF hl (λ_ _=>rfl)
 obtain ⟨e_Unended_may_turn⟩:=im_Unended_may_turn.def (ps:=["self", "word"]) λ_ _ _ _ _ _ us hl=>MF hl (λ_ _=>rfl)
 obtain ⟨e_Unended_turn⟩:=im_Unended_turn.def (ps:=["self", "turn_fields"]) λ_ _ _ _ _ _ us hl=>MF hl (λ_ _=>rfl)
 obtain ⟨e_Unended_may_end⟩:=im_Unended_may_end.def (ps:=["self"]) λ_ _ _ _ _ _ us hl=>GD hl (λ_=>rfl)
 obtain ⟨e_Unended_whole⟩:=im_Unended_whole.def (ps:=["self"]) λ_ _ _ _ _ _ us hl=>GD hl (λ_=>rfl)
 obtain ⟨e_Reading___init__⟩:=im_Reading___init__.def (ps:=["self"]) λ_ _ _ _ _ _ us hl=>GD hl (λ_=>rfl)
 obtain ⟨e_Reading_allows⟩:=im_Reading_allows.def (ps:=["self", "word"]) λ_ _ _ _ _ _ us hl=>MF hl (λ_ _=>rfl)
 obtain ⟨e_Reading_put_line⟩:=im_Reading_put_line.def (ps:=["self", "fields", "number"]) λ_ _ _ _ _ _ us hl=>lx3 hl (λ_ _ _=>rfl)
 obtain ⟨e_Reading_end_innermost⟩:=im_Reading_end_innermost.def (ps:=["self"]) λ_ _ _ _ _ _ us hl=>GD hl (λ_=>rfl)
 obtain ⟨e_Reading_is_whole⟩:=im_Reading_is_whole.def (ps:=["self"]) λ_ _ _ _ _ _ us hl=>GD hl (λ_=>rfl)
 obtain ⟨e_Writing___init__⟩:=im_Writing___init__.def (ps:=["self"]) λ_ _ _ _ _ _ us hl=>GD hl (λ_=>rfl)
 obtain ⟨e_Writing_put_line⟩:=im_Writing_put_line.def (ps:=["self", "words", "deep"]) λ_ _ _ _ _ _ us hl=>lx3 hl (λ_ _ _=>rfl)
 obtain ⟨e_Writing_put_turn⟩:=im_Writing_put_turn.def (ps:=["self", "row", "deep"]) λ_ _ _ _ _ _ us hl=>lx3 hl (λ_ _ _=>rfl)
 obtain ⟨e_Writing_put_rows⟩:=im_Writing_put_rows.def (ps:=["self", "rows", "deep"]) λ_ _ _ _ _ _ us hl=>lx3 hl (λ_ _ _=>rfl)
 obtain ⟨e_Writing_put_row⟩:=im_Writing_put_row.def (ps:=["self", "row", "deep"]) λ_ _ _ _ _ _ us hl=>lx3 hl (λ_ _ _=>rfl)
 obtain ⟨p1,dd1,its1,n1,sl1,aK1,lK1,hsz1,hst1⟩:=ikwa.ex
 obtain ⟨p2,dd2,its2,n2,sl2,aK2,lK2,hsz2,hst2⟩:=ifma.ex
 obtain ⟨p3,dd3,its3,n3,sl3,aK3,lK3,hsz3,hst3⟩:=itwa.ex
 obtain ⟨ga,gm,gd⟩:=igra.get (P:=l.prog) X G
 obtain ⟨tu,tm,td⟩:=itua.get (P:=l.prog) X G
 obtain ⟨pa,pkv,pm0,pd,pis,pv⟩:=ipp.get (P:=l.prog) X G
 obtain ⟨f,oc,od,kV,doc,pm,an,cdv,ct,osl,a,lk,c,kp⟩:=i63.ex
 have F:=Oh (x:="law") (qual:="law") (st:=top 63) lk c kp
 have e:=hfa.symm.trans (A3 X G a)
 cases e
 have T:Tx l.prog w K mg:=⟨d53,d41,d42,d43,d44,d45,d46,d47,d48,d49,d50,d51,d52,d54,d55,d59,d8,d9,d10,d11,d12,d22,d23,d24,d25,d26,d27,d28,d31,d60,d61,d34,d35,d36,d38,d39,d13,d14,d62,C_Unended,c_Unended.cls,A3 X G c_Unended.a,na_Unended_head,na_Unended_rows,na_Unended_turned,na_Unended_turn_fields,na_Unended_others,e_Unended___init__,e_Unended_put,e_Unended_may_turn,e_Unended_turn,e_Unended_may_end,e_Unended_whole,⟨c_Unended.mak,e_Unended___init__.me.at_,e_Unended___init__.me.fn,c_Unended.kp⟩,C_Reading,c_Reading.cls,A3 X G c_Reading.a,na_Reading_program,na_Reading_unended,e_Reading___init__,e_Reading_allows,e_Reading_put_line,e_Reading_end_innermost,e_Reading_is_whole,⟨c_Reading.mak,e_Reading___init__.me.at_,e_Reading___init__.me.fn,c_Reading.kp⟩,C_Writing,c_Writing.cls,A3 X G c_Writing.a,na_Writing_lines,e_Writing___init__,e_Writing_put_line,e_Writing_put_turn,e_Writing_put_rows,e_Writing_put_row,⟨c_Writing.mak,e_Writing___init__.me.at_,e_Writing___init__.me.fn,c_Writing.kp⟩,p1,A3 X G aK1,λH=>.inr ⟨_,its1,n1,lK1,rfl,rfl,hsz1,EX hst1⟩,p2,A3 X G aK2,λH=>.inr ⟨_,its2,n2,lK2,rfl,rfl,hsz2,EX hst2⟩,p3,A3 X G aK3,λH=>.inr ⟨_,its3,n3,lK3,rfl,rfl,hsz3,EX hst3⟩,mlt,(A3 X G imlt),mvt,(A3 X G imvt),mft,(A3 X G imft),mdt,(A3 X G imdt),ga,gm,gd,tu,tm,td,pa,pm0,pkv,pd,pis,pv,stt,(A3 X G iST),P2 X G z_len,P2 X G z_isinstance,P2 X G z_list,P2 X G z_tuple,P2 X G z_int,P2 X G z_range,P2 X G z_enumerate,P2 X G z_str,P2 X G z_bool,P2 X G z_all,P2 X G z_zip,P2 X G z_sorted,P2 X G z_set⟩
 refine ⟨Y3 "law" "law" (Df (top 63)) (CP (top 63)) (Aj (top 63)) .none kV doc pm an cdv ct,λs v=>.of_eq rfl,λbase _ _=>?_⟩
 have g_l_parts:=NT (P:=l.prog) (w:=w) (base:=base) T  
 have g_l_cell_at:=Lk (P:=l.prog) (w:=w) (base:=base) T  
 have g_l_mixed:=NV (P:=l.prog) (w:=w) (base:=base) T  
 have g_l_stream:=Mq (P:=l.prog) (w:=w) (base:=base) T  g_l_mixed
 have g_l_name_by:=Lj (P:=l.prog) (w:=w) (base:=base) T  g_l_stream
 have g_l_names:=NU (P:=l.prog) (w:=w) (base:=base) T  g_l_stream g_l_name_by
 have g_l_value_by:=JL (P:=l.prog) (w:=w) (base:=base) T  
 have g_l_plain:=NS (P:=l.prog) (w:=w) (base:=base) T  g_l_stream g_l_value_by
 have g_l_opened:=Mt (P:=l.prog) (w:=w) (base:=base) T  g_l_value_by
 have g_l_closed:=Mu (P:=l.prog) (w:=w) (base:=base) T  
 have g_l_put:=RO (P:=l.prog) (w:=w) (base:=base) T  g_l_opened g_l_closed g_l_plain
 have g_l_program:=Li (P:=l.prog) (w:=w) (base:=base) T  g_l_mixed g_l_put g_l_closed
 have g_l_words:=NR (P:=l.prog) (w:=w) (base:=base) T  
 have g_l_turning:=Lh (P:=l.prog) (w:=w) (base:=base) T  
 have g_l_lines:=IX (P:=l.prog) (w:=w) (base:=base) T  g_l_words g_l_parts g_l_turning 23
 have g_l_alike:=IY (P:=l.prog) (w:=w) (base:=base) T   48
 have g_is_letters:=JM (P:=l.prog) (w:=w) (base:=base) T  
 have g_is_name:=NW (P:=l.prog) (w:=w) (base:=base) T  g_is_letters
 have g_is_told_word:=Ia (P:=l.prog) (w:=w) (base:=base) T  g_is_letters
 have g_is_value:=Mv (P:=l.prog) (w:=w) (base:=base) T  g_is_name g_is_told_word
 have g_is_block_word:=Hu (P:=l.prog) (w:=w) (base:=base) T  
 have g_number_of:=Lg (P:=l.prog) (w:=w) (base:=base) T  
 have g_bounded:=NX (P:=l.prog) (w:=w) (base:=base) T  g_number_of
 have g_value_of:=Mo (P:=l.prog) (w:=w) (base:=base) T  g_number_of g_is_value
 have g_field_of:=Mw (P:=l.prog) (w:=w) (base:=base) T  g_bounded g_value_of g_is_name
 have g_fitted:=Qg (P:=l.prog) (w:=w) (base:=base) T  g_field_of
 have g_first_fit:=Ll (P:=l.prog) (w:=w) (base:=base) T  g_fitted
 have g_row_of:=Qd (P:=l.prog) (w:=w) (base:=base) T  
 have g_Unended___init__:=FU (P:=l.prog) (w:=w) (base:=base) T  
 have g_Unended_put:=Ja (P:=l.prog) (w:=w) (base:=base) T  
 have g_Unended_may_turn:=FT (P:=l.prog) (w:=w) (base:=base) T  
 have g_Unended_turn:=Ib (P:=l.prog) (w:=w) (base:=base) T  
 have g_Unended_may_end:=Gu (P:=l.prog) (w:=w) (base:=base) T  
 have g_Unended_whole:=Hv (P:=l.prog) (w:=w) (base:=base) T  
 have g_Reading___init__:=FX (P:=l.prog) (w:=w) (base:=base) T  
 have g_Reading_allows:=GN (P:=l.prog) (w:=w) (base:=base) T  g_Unended_may_end g_Unended_may_turn g_is_block_word
 have g_Reading_end_innermost:=Ep (P:=l.prog) (w:=w) (base:=base) T  g_Unended_whole g_Unended_put
 have g_Reading_put_line:=FV (P:=l.prog) (w:=w) (base:=base) T  g_Reading_end_innermost g_Unended_turn g_is_block_word g_Unended___init__ g_row_of g_Unended_put
 have g_Reading_is_whole:=FW (P:=l.prog) (w:=w) (base:=base) T  
 have g_read:=ok_read (P:=l.prog) (w:=w) (base:=base) T  g_Reading___init__ g_first_fit g_Reading_allows g_Reading_put_line g_Reading_is_whole
 have g_l_spread:=Mr (P:=l.prog) (w:=w) (base:=base) T  
 have g_l_text:=Qf (P:=l.prog) (w:=w) (base:=base) T  g_l_lines g_l_stream g_l_spread
 have g_begin_words:=IZ (P:=l.prog) (w:=w) (base:=base) T  
 have g_head_words:=JN (P:=l.prog) (w:=w) (base:=base) T  g_begin_words
 have g_turn_words:=JK (P:=l.prog) (w:=w) (base:=base) T  
 have g_Writing___init__:=FS (P:=l.prog) (w:=w) (base:=base) T  
 have g_Writing_put_line:=FR (P:=l.prog) (w:=w) (base:=base) T  
 have g_Writing_put_turn:=FQ (P:=l.prog) (w:=w) (base:=base) T  g_turn_words g_Writing_put_line
 have g_Writing_put_rows:=DD (P:=l.prog) (w:=w) (base:=base) T  g_head_words g_Writing_put_line g_Writing_put_turn 23
 have g_written:=NQ (P:=l.prog) (w:=w) (base:=base) T  g_Writing___init__ g_Writing_put_rows
 have g_numbered:=Mp (P:=l.prog) (w:=w) (base:=base) T  g_Writing___init__ g_Writing_put_rows
 have g_parts:=RN (P:=l.prog) (w:=w) (base:=base) T  
 have g_walk:=OU (P:=l.prog) (w:=w) (base:=base) T  g_parts 22
 have g_l_rising:=Ms (P:=l.prog) (w:=w) (base:=base) T  g_walk
 exact ok_law T F  g_l_names g_l_cell_at g_l_program g_l_text g_written g_read g_l_alike g_numbered g_l_rising

end
end K15
open PySem PySem.W PyProof.Rows
namespace PySem.W.Fast
def tw1727496678651955044:=()
def tw9949916968817269705:=()
def tw9934677911129547748:=()
def tw8546566332862862975:=()
def tw12589100838923186991:=()
def tw7783753579175248693:=()
def tw16362177768085403109:=()
def tw9030416680101264792:=()
def tw16119690511483701951:=()
def tw17471877376704327968:=()
def tw5933795020980232097:=()
def tw13769562338098435066:=()
def tw15768673879296969255:=()
def tw15931193955278705217:=()
def tw8714569926081595086:=()
def tw7994275802890620708:=()
def tw8844137353767054723:=()
def tw3104592038272207810:=()
def tw6275769103629599424:=()
def tw14917424739295296628:=()
def tw4729163857681803963:=()
def tw9828439568268178220:=()
def tw17119846871118382297:=()
def tw12834023001046277428:=()
def tw904279322686096474:=()
def tw1222057891888657375:=()
def tw6819945561151809371:=()
def tw2814204003168085823:=()
def tw8386839694179511182:=()
def tw18016512679521855375:=()
def tw4987096515668635804:=()
def tw2612833063190325025:=()
def tw928249676987693994:=()
def tw15413699586882955513:=()
def tw2715206664369683521:=()
def tw15749205464450166422:=()
def tw15074268294932607161:=()
def tw15529702889905939959:=()
def tw15171373224118153369:=()
def tw5447909181189696670:=()
def tw9603962909702349122:=()
def tw15248263605127917004:=()
def tw314081493248958812:=()
def tw15049728011433510311:=()
def tw8683437214977710441:=()
def tw12620225580600181373:=()
def tw9848373122288888516:=()
def tw5811083857747756064:=()
def tw14921529894144961016:=()
def tw11244573148677202117:=()
def tw336242550276442799:=()
def tw12732231185072937896:=()
def tw859535940887338569:=()
def tw15405022383828137885:=()
def tw8714617796310334591:=()
def tw15487536169360467115:=()
def tw11627887083273894319:=()
def tw11302321053222605829:=()
def tw6274410027664112924:=()
def tw2457176362725488396:=()
def tw9620335036437052396:=()
def tw4195654050309651197:=()
def tw172332954057975665:=()
def tw1013421510787461180:=()
def tw58049242874255541:=()
def tw627695214501745993:=()
def tw11306822332546716861:=()
def tw18329565695934684997:=()
def tw13780613914842476891:=()
def tw12499992108719087284:=()
def tw15445031465266742273:=()
def tw118506140465839071:=()
def tw3914164423541732177:=()
def tw15668957191849441302:=()
def tw14448804600527623418:=()
def tw16770678088220808587:=()
def tw16360894298683478529:=()
def tw16608315814659562445:=()
def tw1038925268346527070:=()
def tw18126673694473346430:=()
def tw15577098337171088010:=()
def tw51733493654452962:=()
def tw6286096536955375333:=()
def tw4570626494570337562:=()
def tw5846610309895959034:=()
def tw7885116689860998174:=()
def tw16298932075703985100:=()
def tw8609700169501131489:=()
def tw7394387778238891807:=()
def tw11739096906137398573:=()
def tw17483325997902768617:=()
def tw2958207277709798042:=()
def tw6858862660817410133:=()
def tw801963994179898825:=()
def tw15334677951671136873:=()
def tw14560385673792547335:=()
def tw147372708700068098:=()
def tw9159121488724916162:=()
def tw1799289139051838445:=()
def tw7688858456860177245:=()
def tw14312744897313918368:=()
def tw912634446499680646:=()
def tw14840261089445136500:=()
def tw14111255121489762734:=()
def tw1665070795101207097:=()
def tw13366233911699401952:=()
def tw2577790043990526405:=()
def tw7119821935030141507:=()
def tw1920931593616621748:=()
def tw5321840320015298140:=()
def tw4477315071929752269:=()
def tw8456813697928361437:=()
def tw5188542244090913723:=()
def tw1528151701255555605:=()
def tw1225181581487085079:=()
def tw13779703717385338763:=()
def tw11002087994088030473:=()
def tw1018723360062189661:=()
def tw17543790230116216242:=()
def tw1442473466850958076:=()
def tw10430115902293896217:=()
def tw14593702252489357983:=()
def tw16610017652384887336:=()
def tw13723081190961719877:=()
def tw15276748735268747187:=()
def tw9677790578625406221:=()
def tw3519565113260770193:=()
def tw328083544086109148:=()
def tw6314523206505346520:=()
def tw12101555300245574676:=()
def tw13707998539540197500:=()
def tw577549757351500107:=()
def tw4913865988288301120:=()
def tw7574809976830506143:=()
def tw9881096125405849048:=()
def tw12013916119815871826:=()
def tw4365882054877619148:=()
def tw16555138264135026283:=()
def tw12481556922198430380:=()
def tw10791633389907198298:=()
def tw6209556836640708132:=()
def tw632156155359140089:=()
def tw3998436206901829785:=()
def tw7365400003358151138:=()
def tw11583801588579804607:=()
def tw15849204504714615141:=()
def tw2992702887979559582:=()
def tw5757891258069187779:=()
def tw14758021874420558234:=()
def tw13509688112432608117:=()
def tw1625645505450405920:=()
def tw9686631751174019451:=()
def tw10364243572073801309:=()
def tw6945954776844746336:=()
def tw17766213330966919767:=()
def tw15405915444162222164:=()
def tw15414092077060195643:=()
def tw8406395949457993177:=()
def tw6728737046035845060:=()
def tw6817469213871564255:=()
def tw14672417859749716253:=()
def tw6286629917279928026:=()
def tw14474720781598518535:=()
def tw5593574525717272348:=()
def tw4681414001653826293:=()
def tw10414281474407662442:=()
def tw1915798239635336202:=()
def tw8704723399302337675:=()
def tw165812385842015370:=()
def tw13047855906789666452:=()
def tw2264440624290553929:=()
def tw3211668476481870724:=()
def tw8620440002566939850:=()
def tw16948456959717172143:=()
def tw16549692787905127311:=()
def tw5790957857343681180:=()
def tw8930352053652530541:=()
def tw3733499645924559927:=()
def tw1987349588280852457:=()
def tw17440473994845196541:=()
def tw4238708451200316640:=()
def tw12006708815221600629:=()
def tw6953928106297294046:=()
def tw9547057046944525757:=()
def tw9966547005881865110:=()
def tw8510570821255636250:=()
def tw6707255802616935286:=()
def tw8677169980757643408:=()
def tw11768256039125634627:=()
def tw60230472338117973:=()
def tw4480619028696355653:=()
def tw10759304310396482906:=()
def tw4901537812616517695:=()
def tw3117533053155617584:=()
def tw9393545446827232153:=()
def tw369244118209728996:=()
def tw306160555331171248:=()
def tw12150382165962188025:=()
def tw13302937626095587891:=()
def tw17213313315656027141:=()
def tw2063547959218953426:=()
def tw4937343272935425211:=()
def tw5250200918627955272:=()
def tw10761727328804858405:=()
def tw3620299209747055542:=()
def tw3243000943828955601:=()
def tw6529587359839553682:=()
def tw16204337097194774214:=()
def tw146975304832897708:=()
def tw13915612575864204227:=()
def tw7905401173763345292:=()
def tw6496530816180029996:=()
def tw3637357381954452662:=()
def tw15135393499789981685:=()
def tw10406240818616178349:=()
def tw10207366650811203688:=()
def tw7439950122486306532:=()
def tw16904578855600403090:=()
def tw15240052537814314222:=()
def tw14602594426094394399:=()
def tw5393357990483139208:=()
def tw15604314441558018917:=()
def tw12848576094602679555:=()
def tw1817997036079203698:=()
def tw11539988776453048092:=()
def tw3862438408181200274:=()
def tw10635419669581392276:=()
def tw805536536917637922:=()
def tw17030634922654117197:=()
def tw5249609212304827784:=()
def tw3580537420456872243:=()
def tw5733052104052892477:=()
def tw9687043058973009489:=()
def tw17720252762078230912:=()
def tw1545711738959528483:=()
def tw13521140053613178968:=()
def tw4291632908893580491:=()
def tw9763084793561965182:=()
def tw419048787852475487:=()
def tw16937846933238538331:=()
def tw1970174605160931000:=()
def tw4024136391229539196:=()
def tw16980487478866804981:=()
def tw9784998578929562957:=()
def tw18390565396910293814:=()
def tw10073108296499308383:=()
def tw16475611105466136647:=()
def tw3184317644161299008:=()
def tw15056732996438366006:=()
def tw5662270851978902879:=()
def tw12529341808043788966:=()
def tw15637463935039611960:=()
def tw11510866578293128846:=()
def tw11350904435772048512:=()
def tw8753347940752814245:=()
def tw10501215491946059341:=()
def tw15999936913304089399:=()
def tw8224016961896762164:=()
def tw8545214029080703449:=()
end PySem.W.Fast
set_option maxRecDepth 100000 in
set_option maxHeartbeats 0 in
theorem PySem.Challenge.cw_nightwatch_k15_whole_there_and_back_holds : PySem.Challenge.rw_nightwatch_k15_whole_there_and_back.Holds := by
  w_on; o_law; k_head; (case hw => w_witness2)
  k_fill
  refine L2.walk_ofK (l := PySem.Challenge.rw_nightwatch_k15_whole_there_and_back) (n := 63) (k := 61) (x := "_law_script") (CX := L2.CX0) (sp := K15.spLaw) rfl (by decide) rfl ⟨rfl, by decide, by decide⟩ (fun w h Y => PySem.W.kIn_of Y) ?F (fun K H a ns hl _ hS => ⟨a, ns, rfl, hS, hl, fun _ => rfl⟩) (fun _ _ _ _ z => z)
  case F =>
    intro w mg fa h KX G hmg
    refine' K15.law_fn KX G hmg ?i53 ?i41 ?i42 ?i43 ?i44 ?i45 ?i46 ?i47 ?i48 ?i49 ?i50 ?i51 ?i52 ?i54 ?i55 ?i59 ?i8 ?i9 ?i10 ?i11 ?i12 ?i22 ?i23 ?i24 ?i25 ?i26 ?i27 ?i28 ?i31 ?i60 ?i61 ?i34 ?i35 ?i36 ?i38 ?i39 ?i13 ?i14 ?i62 ?i63 ?c_Unended ?na_Unended_head ?na_Unended_rows ?na_Unended_turned ?na_Unended_turn_fields ?na_Unended_others ?im_Unended___init__ ?im_Unended_put ?im_Unended_may_turn ?im_Unended_turn ?im_Unended_may_end ?im_Unended_whole ?c_Reading ?na_Reading_program ?na_Reading_unended ?im_Reading___init__ ?im_Reading_allows ?im_Reading_put_line ?im_Reading_end_innermost ?im_Reading_is_whole ?c_Writing ?na_Writing_lines ?im_Writing___init__ ?im_Writing_put_line ?im_Writing_put_turn ?im_Writing_put_rows ?im_Writing_put_row ?ikwa ?ifma ?itwa ?imlt ?imvt ?imft ?imdt ?igra ?itua ?ipp ?iST ?z_len ?z_isinstance ?z_list ?z_tuple ?z_int ?z_range ?z_enumerate ?z_str ?z_bool ?z_all ?z_zip ?z_sorted ?z_set
    case i53 =>
      refine' L2.InK.of ?a ?l ?c ?k
      (case a => k_is); (case l => k_is); (case c => k_is); (case k => k_is)
    case i41 =>
      refine' L2.InK.of ?a ?l ?c ?k
      (case a => k_is); (case l => k_is); (case c => k_is); (case k => k_is)
    case i42 =>
      refine' L2.InK.of ?a ?l ?c ?k
      (case a => k_is); (case l => k_is); (case c => k_is); (case k => k_is)
    case i43 =>
      refine' L2.InK.of ?a ?l ?c ?k
      (case a => k_is); (case l => k_is); (case c => k_is); (case k => k_is)
    case i44 =>
      refine' L2.InK.of ?a ?l ?c ?k
      (case a => k_is); (case l => k_is); (case c => k_is); (case k => k_is)
    case i45 =>
      refine' L2.InK.of ?a ?l ?c ?k
      (case a => k_is); (case l => k_is); (case c => k_is); (case k => k_is)
    case i46 =>
      refine' L2.InK.of ?a ?l ?c ?k
      (case a => k_is); (case l => k_is); (case c => k_is); (case k => k_is)
    case i47 =>
      refine' L2.InK.of ?a ?l ?c ?k
      (case a => k_is); (case l => k_is); (case c => k_is); (case k => k_is)
    case i48 =>
      refine' L2.InK.of ?a ?l ?c ?k
      (case a => k_is); (case l => k_is); (case c => k_is); (case k => k_is)
    case i49 =>
      refine' L2.InK.of ?a ?l ?c ?k
      (case a => k_is); (case l => k_is); (case c => k_is); (case k => k_is)
    case i50 =>
      refine' L2.InK.of ?a ?l ?c ?k
      (case a => k_is); (case l => k_is); (case c => k_is); (case k => k_is)
    case i51 =>
      refine' L2.InK.of ?a ?l ?c ?k
      (case a => k_is); (case l => k_is); (case c => k_is); (case k => k_is)
    case i52 =>
      refine' L2.InK.of ?a ?l ?c ?k
      (case a => k_is); (case l => k_is); (case c => k_is); (case k => k_is)
    case i54 =>
      refine' L2.InK.of ?a ?l ?c ?k
      (case a => k_is); (case l => k_is); (case c => k_is); (case k => k_is)
    case i55 =>
      refine' L2.InK.of ?a ?l ?c ?k
      (case a => k_is); (case l => k_is); (case c => k_is); (case k => k_is)
    case i59 =>
      refine' L2.InK.of ?a ?l ?c ?k
      (case a => k_is); (case l => k_is); (case c => k_is); (case k => k_is)
    case i8 =>
      refine' L2.InK.of ?a ?l ?c ?k
      (case a => k_is); (case l => k_is); (case c => k_is); (case k => k_is)
    case i9 =>
      refine' L2.InK.of ?a ?l ?c ?k
      (case a => k_is); (case l => k_is); (case c => k_is); (case k => k_is)
    case i10 =>
      refine' L2.InK.of ?a ?l ?c ?k
      (case a => k_is); (case l => k_is); (case c => k_is); (case k => k_is)
    case i11 =>
      refine' L2.InK.of ?a ?l ?c ?k
      (case a => k_is); (case l => k_is); (case c => k_is); (case k => k_is)
    case i12 =>
      refine' L2.InK.of ?a ?l ?c ?k
      (case a => k_is); (case l => k_is); (case c => k_is); (case k => k_is)
    case i22 =>
      refine' L2.InK.of ?a ?l ?c ?k
      (case a => k_is); (case l => k_is); (case c => k_is); (case k => k_is)
    case i23 =>
      refine' L2.InK.of ?a ?l ?c ?k
      (case a => k_is); (case l => k_is); (case c => k_is); (case k => k_is)
    case i24 =>
      refine' L2.InK.of ?a ?l ?c ?k
      (case a => k_is); (case l => k_is); (case c => k_is); (case k => k_is)
    case i25 =>
      refine' L2.InK.of ?a ?l ?c ?k
      (case a => k_is); (case l => k_is); (case c => k_is); (case k => k_is)
    case i26 =>
      refine' L2.InK.of ?a ?l ?c ?k
      (case a => k_is); (case l => k_is); (case c => k_is); (case k => k_is)
    case i27 =>
      refine' L2.InK.of ?a ?l ?c ?k
      (case a => k_is); (case l => k_is); (case c => k_is); (case k => k_is)
    case i28 =>
      refine' L2.InK.of ?a ?l ?c ?k
      (case a => k_is); (case l => k_is); (case c => k_is); (case k => k_is)
    case i31 =>
      refine' L2.InK.of ?a ?l ?c ?k
      (case a => k_is); (case l => k_is); (case c => k_is); (case k => k_is)
    case i60 =>
      refine' L2.InK.of ?a ?l ?c ?k
      (case a => k_is); (case l => k_is); (case c => k_is); (case k => k_is)
    case i61 =>
      refine' L2.InK.of ?a ?l ?c ?k
      (case a => k_is); (case l => k_is); (case c => k_is); (case k => k_is)
    case i34 =>
      refine' L2.InK.of ?a ?l ?c ?k
      (case a => k_is); (case l => k_is); (case c => k_is); (case k => k_is)
    case i35 =>
      refine' L2.InK.of ?a ?l ?c ?k
      (case a => k_is); (case l => k_is); (case c => k_is); (case k => k_is)
    case i36 =>
      refine' L2.InK.of ?a ?l ?c ?k
      (case a => k_is); (case l => k_is); (case c => k_is); (case k => k_is)
    case i38 =>
      refine' L2.InK.of ?a ?l ?c ?k
      (case a => k_is); (case l => k_is); (case c => k_is); (case k => k_is)
    case i39 =>
      refine' L2.InK.of ?a ?l ?c ?k
      (case a => k_is); (case l => k_is); (case c => k_is); (case k => k_is)
    case i13 =>
      refine' L2.InK.of ?a ?l ?c ?k
      (case a => k_is); (case l => k_is); (case c => k_is); (case k => k_is)
    case i14 =>
      refine' L2.InK.of ?a ?l ?c ?k
      (case a => k_is); (case l => k_is); (case c => k_is); (case k => k_is)
    case i62 =>
      refine' L2.InK.of ?a ?l ?c ?k
      (case a => k_is); (case l => k_is); (case c => k_is); (case k => k_is)
    case i63 =>
      refine' L2.InK.of ?a ?l ?c ?k
      (case a => k_is); (case l => k_is); (case c => k_is); (case k => k_is)
    case c_Unended =>
      refine' L2.InC.mk ?a ?b ?c ?d ?e ?f ?g
      (case a => k_is); (case b => k_is); (case c => k_is); (case d => k_is); (case e => k_is); (case f => k_is); (case g => k_is)
    (case na_Unended_head => k_is)
    (case na_Unended_rows => k_is)
    (case na_Unended_turned => k_is)
    (case na_Unended_turn_fields => k_is)
    (case na_Unended_others => k_is)
    case im_Unended___init__ =>
      refine' L2.InM.of ?a ?i ?l ?c ?k
      (case a => k_is); (case i => k_is); (case l => k_is); (case c => k_is); (case k => k_is)
    case im_Unended_put =>
      refine' L2.InM.of ?a ?i ?l ?c ?k
      (case a => k_is); (case i => k_is); (case l => k_is); (case c => k_is); (case k => k_is)
    case im_Unended_may_turn =>
      refine' L2.InM.of ?a ?i ?l ?c ?k
      (case a => k_is); (case i => k_is); (case l => k_is); (case c => k_is); (case k => k_is)
    case im_Unended_turn =>
      refine' L2.InM.of ?a ?i ?l ?c ?k
      (case a => k_is); (case i => k_is); (case l => k_is); (case c => k_is); (case k => k_is)
    case im_Unended_may_end =>
      refine' L2.InM.of ?a ?i ?l ?c ?k
      (case a => k_is); (case i => k_is); (case l => k_is); (case c => k_is); (case k => k_is)
    case im_Unended_whole =>
      refine' L2.InM.of ?a ?i ?l ?c ?k
      (case a => k_is); (case i => k_is); (case l => k_is); (case c => k_is); (case k => k_is)
    case c_Reading =>
      refine' L2.InC.mk ?a ?b ?c ?d ?e ?f ?g
      (case a => k_is); (case b => k_is); (case c => k_is); (case d => k_is); (case e => k_is); (case f => k_is); (case g => k_is)
    (case na_Reading_program => k_is)
    (case na_Reading_unended => k_is)
    case im_Reading___init__ =>
      refine' L2.InM.of ?a ?i ?l ?c ?k
      (case a => k_is); (case i => k_is); (case l => k_is); (case c => k_is); (case k => k_is)
    case im_Reading_allows =>
      refine' L2.InM.of ?a ?i ?l ?c ?k
      (case a => k_is); (case i => k_is); (case l => k_is); (case c => k_is); (case k => k_is)
    case im_Reading_put_line =>
      refine' L2.InM.of ?a ?i ?l ?c ?k
      (case a => k_is); (case i => k_is); (case l => k_is); (case c => k_is); (case k => k_is)
    case im_Reading_end_innermost =>
      refine' L2.InM.of ?a ?i ?l ?c ?k
      (case a => k_is); (case i => k_is); (case l => k_is); (case c => k_is); (case k => k_is)
    case im_Reading_is_whole =>
      refine' L2.InM.of ?a ?i ?l ?c ?k
      (case a => k_is); (case i => k_is); (case l => k_is); (case c => k_is); (case k => k_is)
    case c_Writing =>
      refine' L2.InC.mk ?a ?b ?c ?d ?e ?f ?g
      (case a => k_is); (case b => k_is); (case c => k_is); (case d => k_is); (case e => k_is); (case f => k_is); (case g => k_is)
    (case na_Writing_lines => k_is)
    case im_Writing___init__ =>
      refine' L2.InM.of ?a ?i ?l ?c ?k
      (case a => k_is); (case i => k_is); (case l => k_is); (case c => k_is); (case k => k_is)
    case im_Writing_put_line =>
      refine' L2.InM.of ?a ?i ?l ?c ?k
      (case a => k_is); (case i => k_is); (case l => k_is); (case c => k_is); (case k => k_is)
    case im_Writing_put_turn =>
      refine' L2.InM.of ?a ?i ?l ?c ?k
      (case a => k_is); (case i => k_is); (case l => k_is); (case c => k_is); (case k => k_is)
    case im_Writing_put_rows =>
      refine' L2.InM.of ?a ?i ?l ?c ?k
      (case a => k_is); (case i => k_is); (case l => k_is); (case c => k_is); (case k => k_is)
    case im_Writing_put_row =>
      refine' L2.InM.of ?a ?i ?l ?c ?k
      (case a => k_is); (case i => k_is); (case l => k_is); (case c => k_is); (case k => k_is)
    case ikwa =>
      refine' L2.InT.of ?a ?l ?s ?v
      (case a => k_is); (case l => k_is); (case s => decide); (case v => decide +kernel)
    case ifma =>
      refine' L2.InT.of ?a ?l ?s ?v
      (case a => k_is); (case l => k_is); (case s => decide); (case v => decide +kernel)
    case itwa =>
      refine' L2.InT.of ?a ?l ?s ?v
      (case a => k_is); (case l => k_is); (case s => decide); (case v => decide +kernel)
    (case imlt => k_is)
    (case imvt => k_is)
    (case imft => k_is)
    (case imdt => k_is)
    case igra =>
      refine' K15.InGR.of ?a ?l ?s
      (case a => k_is); (case l => k_is); (case s => decide)
    case itua =>
      refine' K15.InTU.of ?a ?l ?s
      (case a => k_is); (case l => k_is); (case s => decide)
    case ipp =>
      refine' K15.InPP.of ?a ?l ?s ?q1 ?q2 ?q3 ?q4 ?q5 ?q6 ?q7
      (case a => k_is); (case l => k_is); (case s => decide)
      case q1 =>
        refine' K15.InI.of ?l ?s ?v
        (case l => k_is); (case s => decide); (case v => decide +kernel)
      case q2 =>
        refine' K15.InI.of ?l ?s ?v
        (case l => k_is); (case s => decide); (case v => decide +kernel)
      case q3 =>
        refine' K15.InI.of ?l ?s ?v
        (case l => k_is); (case s => decide); (case v => decide +kernel)
      case q4 =>
        refine' K15.InI.of ?l ?s ?v
        (case l => k_is); (case s => decide); (case v => decide +kernel)
      case q5 =>
        refine' K15.InI.of ?l ?s ?v
        (case l => k_is); (case s => decide); (case v => decide +kernel)
      case q6 =>
        refine' K15.InI.of ?l ?s ?v
        (case l => k_is); (case s => decide); (case v => decide +kernel)
      case q7 =>
        refine' K15.InI.of ?l ?s ?v
        (case l => k_is); (case s => decide); (case v => decide +kernel)
    (case iST => k_is)
    (case z_len => k_is)
    (case z_isinstance => k_is)
    (case z_list => k_is)
    (case z_tuple => k_is)
    (case z_int => k_is)
    (case z_range => k_is)
    (case z_enumerate => k_is)
    (case z_str => k_is)
    (case z_bool => k_is)
    (case z_all => k_is)
    (case z_zip => k_is)
    (case z_sorted => k_is)
    (case z_set => k_is)
#print axioms PySem.Challenge.cw_nightwatch_k15_whole_there_and_back_holds

