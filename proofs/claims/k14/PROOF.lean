import PyProof.Rows.All
import Wide.All
import OpenK.AllK
import Wide.FinOn
import Lean
import PyProof.EqAt
import PyProof.EqKinds
import PyProof.NeKinds
import PyProof.TupleCall
import KE.KPairComp
import KE.KIntText
import PyProof.Rows.StrSplitCount
import PyProof.ZipIter
import PyProof.EnumMake
import PyProof.Draws
import PyProof.Rows.CallKwBuiltin
import PyProof.Rows.StrJoin2
import PyProof.Rows.Range3
import KE.KIsAll
import PyProof.ExcAttrAll.ValueError
import PyProof.StrCalls6
import PyProof.StrLawsReplace
import KE.RegKIsAll
import PyProof.Rows.MatchSeqLen
import PySem.Challenge.RW_nightwatch_k14_texts_refused
open Array renaming getElem?_eq_some_iff→Y5,length_toList→Z7,mem_toList_iff→V9,size_eq_zero_iff→L6,toArray_toList→U9,toList_append→g6
open Bool renaming and_eq_true→C1,and_false→N5,decide_or→X7,eq_iff_iff→X6,false_and→Q2,false_ne_true→Q0,false_or→C7,false_xor→z6,not_eq_true'→K6,not_false→X8,not_true→g8,or_eq_false_iff→T9,or_eq_true→O8,or_false→Z3,or_true→P7,true_and→K4,true_xor→f8
open Int renaming emod_lt_of_pos→u4,emod_nonneg→Q5,eq_ofNat_of_zero_le→t8,le_ediv_iff_mul_le→D9,toNat_natCast→N3
open List renaming all_cons→D4,all_eq_true→W2,any_cons→U5,any_eq_true→J7,append_assoc→P4,append_eq_nil_iff→F6,append_nil→L1,concat_eq_append→D3,cons_append→T6,cons→T5,contains_eq_mem→S9,count_append→F5,count_cons_self→R9,count_eq_zero→i7,dropLast_concat→M4,drop_eq_getElem_cons→x5,drop_length→S6,drop_of_length_le→C9,drop_zero→y6,eq_nil_of_length_eq_zero→v1,eq_nil_or_concat→Y2,filterMap_cons→W3,filterMap_nil→P5,filter_append→g7,filter_cons→j2,filter_eq_nil_iff→V3,filter_eq_self→d6,find?_cons→S3,flatMap_append→V4,flatMap_cons→V2,flatMap_nil→F7,flatten_cons→E6,foldl_cons→N8,getD_eq_getElem?_getD→W8,getElem?_append_left→Z0,getElem?_append_right→C2,getElem?_cons_zero→r8,getElem?_eq_getElem→x0,getElem?_eq_some_iff→d0,getElem?_map→Z1,getElem?_of_mem→L4,getElem?_replicate→m8,getElem?_set_ne→W7,getElem?_set_self→B9,getElem?_zipWith→O6,getElem_mem→Z4,length_append→B0,length_cons→P0,length_drop→C4,length_eq_zero_iff→P3,length_filter_le→Y3,length_map→L0,length_nil→K1,length_pos_iff→T4,length_replicate→M9,length_singleton→U7,length_take→j1,length_zipWith→Z6,length→E8,lookup_cons→Z2,lookup→A4,map_append→o0,map_cons→F1,map_drop→e8,map_eq_nil_iff→S4,map_map→j5,map_nil→F4,map→Q9,mem_append_left→p0,mem_append_right→S0,mem_append→X0,mem_cons_of_mem→A0,mem_cons_self→C0,mem_cons→K0,mem_filterMap→f7,mem_filter→Q4,mem_flatMap→M3,mem_flatten→D8,mem_map→D2,mem_of_getElem?→E1,mem_of_mem_drop→P9,mem_of_mem_take→O9,mem_singleton_self→N4,mem_singleton→M0,nil_append→D5,nodup_append→F2,nodup_cons→Y0,not_mem_nil→A1,of_mem_zip→W6,range→K3,replicate_succ→L5,replicate→E2,size_toArray→W0,sum_append→j3,sum_cons→L3,sum_nil→O7,take_append_drop→W5,take_length→T2,take_of_length_le→T3,take_succ→x6,take_zero→V8,take→C8,toArray→N7,toList_toArray→Y6,zipWith_cons_cons→Y4,zipWith→N2
open Nat renaming add_sub_cancel→e7,le_add_right→Q6,le_mul_of_pos_left→A9,le_of_eq→M7,le_of_lt→z7,le_refl→V0,le_succ_of_le→X3,le_succ→C3,le_total→y7,le_trans→T0,lt_irrefl→B6,lt_of_le_of_lt→X2,lt_of_le_of_ne→r6,lt_of_lt_of_le→V1,lt_succ_self→B8,min_eq_left→S7,min_eq_right→E7,mul_comm→z8,mul_le_mul_right→U6,ne_of_gt→y8,ne_of_lt→Y1,sub_self→v7,sub_zero→x8,succ_le_succ→g5,succ_mul→i6,succ→U8,zero_le→N1
open Option renaming bind_some→Z5,map_eq_some_iff→K2,toList→d8
open PyProof.Rows renaming callWith_type1→X5,slot_tuple_getitem→K5,split_le→L9,toString_length_le→A8
open PySem.F renaming args_dict_get_3→k8,args_tuple_add_2→B7,entry_dict_get→L7,entry_tuple_add→D7,plainAttrs_dict→M5,plainAttrs_list→j0,plainAttrs_str→X1,slot_dict_get→V5,slot_dict_update→A6,slot_list_append→v0,slot_list_count→j8,slot_list_pop→y4,slot_str_isalpha→c8,slot_str_join→N6,slot_str_lower→v8,slot_str_split→X4,slot_str_startswith→Q8,slot_tuple_add→K7,type_dict_get→K9,type_dict_update→A7,type_list_append→u0,type_list_pop→w4,type_str_isalpha→Z8,type_str_join→M6,type_str_lower→u8,type_str_split→W4,type_str_startswith→P8
open PySem.NumText renaming digitsVal→i8
open PySem.P renaming mul_str_none→N9,mul_str→Q7
open PySem.Unicode renaming isAlpha→J9,lowerAt→T7,lowerOf→F9
open PySem.W renaming Frag→J0,InstAt→T8,OpenLaw→M8,callWith_K→j4,cellsFrom_some→D6,clsIn→Y8,codeIn→g4,codeRec_of→d7,emptyDict→E4,excIn→z5,findIn→T1,findObj→V6,fnOf→E3,hasDictIn→E5,hideAll_none→V7,hideAll→L8,instObj→C5,isFn→C6,keepIn→F3,kia_one→Q3,kitOne→W1,lookIn→j6,makesIn→K8,methodCall_KW→E9,methodObj→u7,mg_none_of→A3,mg_of→A2,mroIn→S5,notCls→S8,nsIn→Q1,plainGet_of→Y7,plainGet→P6,plainOver→k7,specialIn→j7,takerIn→A5,takesIn→F8
set_option Elab.async false
set_option linter.all false
set_option genSizeOf false
set_option maxRecDepth 100000
section
local macro_rules | `(tactic| lk) => `(tactic| decide +kernel)
local macro_rules | `(tactic| kd_p) => `(tactic| decide)
namespace L2
open PySem PySem.Spec PyProof.Rows

abbrev Cr:=Sum Int Str
def KI:Cr->Value->Bool
 |.inl k,v=>Value.isInt k v
 |.inr x,v=>Value.isStrOf x v
def keyH (w:World):Cr->Int
 |.inl k=>hashInt k
 |.inr x=>hashStr w x
theorem BU:∀ {k:Cr} {v:Value},KI k v=true->(∃ i t,k=Sum.inl i/\v=Value.int i t)\/(∃ x t,k=Sum.inr x/\v=Value.str x t)
 |.inl i,v,h=>by
  obtain ⟨t,e⟩:=Value.isInt_shape (k:=i) (v:=v) h
  exact .inl ⟨i,t,rfl,e⟩
 |.inr x,v,h=>by
  obtain ⟨t,e⟩:=Value.isStrOf_shape (x:=x) (v:=v) h
  exact .inr ⟨x,t,rfl,e⟩
theorem Ro (i:Int) (t:Tok):KI (.inl i) (.int i t)=true:=by simp [KI,Value.isInt]
theorem HS (x:Str) (t:Tok):KI (.inr x) (.str x t)=true:=by simp [KI,Value.isStrOf]
theorem key_ll (a b:Int):decide ((Sum.inl a:Cr)=Sum.inl b)=(a == b):=by
 by_cases e:a=b
 ·subst e;simp
 ·have h:¬ (Sum.inl a:Cr)=Sum.inl b:=λq=>e (Sum.inl.inj q)
  rw [decide_eq_false h]
  exact (beq_eq_false_iff_ne.mpr e).symm
theorem key_rr (a b:Str):decide ((Sum.inr a:Cr)=Sum.inr b)=decide (a=b):=by
 by_cases e:a=b
 ·subst e;simp
 ·have h:¬ (Sum.inr a:Cr)=Sum.inr b:=λq=>e (Sum.inr.inj q)
  rw [decide_eq_false h,decide_eq_false e]
theorem key_lr (a:Int) (b:Str):decide ((Sum.inl a:Cr)=Sum.inr b)=false:=decide_eq_false (λq=>nomatch q)
theorem key_rl (a:Str) (b:Int):decide ((Sum.inr a:Cr)=Sum.inl b)=false:=decide_eq_false (λq=>nomatch q)

def BE (prog:Program) (w:World):PySem.KeyKind prog w Cr where
 is:=KI
 hash:=keyH w
 inj:=λv a b ha hb=>by
  rcases BU ha with ⟨i,t,rfl,rfl⟩ | ⟨x,t,rfl,rfl⟩
  ·rcases BU hb with ⟨j,u,rfl,e⟩ | ⟨y,u,rfl,e⟩
   ·injection e with e1 _;rw [e1]
   ·exact nomatch e
  ·rcases BU hb with ⟨j,u,rfl,e⟩ | ⟨y,u,rfl,e⟩
   ·exact nomatch e
   ·injection e with e1 _;rw [e1]
 byValue:=λk v h=>by
  rcases BU h with ⟨i,t,rfl,rfl⟩ | ⟨x,t,rfl,rfl⟩<;>rfl
 pyHash:=λhv h=>by
  rcases BU hv with ⟨i,t,rfl,rfl⟩ | ⟨x,t,rfl,rfl⟩
  ·exact wpAny_pyHash_int h
  ·exact wpAny_pyHash_str h
 eqBool:=λhu hv h=>by
  rcases BU hu with ⟨i,t,rfl,rfl⟩ | ⟨x,t,rfl,rfl⟩
  ·rcases BU hv with ⟨j,u,rfl,rfl⟩ | ⟨y,u,rfl,rfl⟩
   ·rw [key_ll] at h;exact wpAny_eqBool_int h
   ·rw [key_lr] at h;exact SeqAt.EqAt.int_str i t y u _ _ _ _ h
  ·rcases BU hv with ⟨j,u,rfl,rfl⟩ | ⟨y,u,rfl,rfl⟩
   ·rw [key_rl] at h;exact SeqAt.EqAt.str_int x t j u _ _ _ _ h
   ·rw [key_rr] at h;exact wpAny_eqBool_str h
 «strs»:=λk x t v h=>by
  rcases BU h with ⟨i,u,rfl,e⟩ | ⟨y,u,rfl,e⟩
  ·exact nomatch e
  ·injection e with e1 _
   subst e1
   cases v<;>rfl

theorem Nu (prog:Program) (w:World) (i:Int) (t:Tok):(BE prog w).is (.inl i) (.int i t)=true:=Ro i t
theorem Nt (prog:Program) (w:World) (x:Str) (t:Tok):(BE prog w).is (.inr x) (.str x t)=true:=HS x t

inductive V where
 |non | bl (b:Bool) | int (i:Int) | str (x:Str) | byt (b:Array UInt8) | flt (b:UInt64) | ref (a:Addr) | ty (n:String)
 deriving DecidableEq

def Bd:V->Value->Prop
 |.non,u=>u=Value.none
 |.bl b,u=>u=Value.bool b
 |.int i,u=>∃ t,u=Value.int i t
 |.str x,u=>∃ t,u=Value.str x t
 |.byt b,u=>∃ t,u=Value.bytes b t
 |.flt b,u=>∃ t,u=Value.float b t
 |.ref a,u=>u=Value.ref a
 |.ty n,u=>u=Value.type n

abbrev AL:List V->List Value->Prop:=Paired Bd
theorem AL.length {xs:List V} {us:List Value} (r:AL xs us):xs.length=us.length:=Paired.length r
theorem AL.get:∀ {xs:List V} {us:List Value} {i:Nat} {x:V},AL xs us->xs[i]?=some x->∃ u,us[i]?=some u/\Bd x u
 |_,_,_,_,.nil,e=>by simp at e
 |_,_,0,_,.cons r _,e=>by simp at e;subst e;exact ⟨_,rfl,r⟩
 |_,_,i+1,x,.cons _ t,e=>by
  obtain ⟨u,h1,h2⟩:=AL.get (i:=i) (x:=x) t (by simpa using e)
  exact ⟨u,by simpa using h1,h2⟩
theorem AL.set {x:V} {u:Value} (r:Bd x u):∀ {xs:List V} {us:List Value} (i:Nat),AL xs us->AL (xs.set i x) (us.set i u)
 |_,_,_,.nil=>.nil
 |_,_,0,.cons _ t=>.cons r t
 |_,_,i+1,.cons q t=>.cons q (AL.set r i t)
theorem AL.append:∀ {xs ys:List V} {us ws:List Value},AL xs us->AL ys ws->AL (xs++ys) (us++ws)
 |_,_,_,_,.nil,s=>s
 |_,_,_,_,.cons r t,s=>.cons r (AL.append t s)
theorem AL.take:∀ {xs:List V} {us:List Value} (n:Nat),AL xs us->AL (xs.take n) (us.take n)
 |_,_,0,_=>.nil
 |_,_,_+1,.nil=>.nil
 |_,_,n+1,.cons r t=>.cons r (AL.take n t)
theorem AL.drop:∀ {xs:List V} {us:List Value} (n:Nat),AL xs us->AL (xs.drop n) (us.drop n)
 |_,_,0,r=>r
 |_,_,_+1,.nil=>.nil
 |_,_,n+1,.cons _ t=>AL.drop n t
def DL:Option V->Option Value->Prop
 |some v,some u=>Bd v u
 |none,none=>True
 |_,_=>False
def KV {κ:Type}:List (κ×V)->List (κ×Value)->Prop:=Paired λ(p:κ×V) (q:κ×Value)=>p.1=q.1/\Bd p.2 q.2

def kV:Cr->V
 |.inl i=>.int i
 |.inr x=>.str x

inductive HO where
 |lst (xs:List V)
 |tup (xs:List V)
 |dK (kvs:List (Cr×V)) | dT (kvs:List (List Cr×V))
 |set (S:Int->Bool) (n:Nat)
 |ins (C dx:Addr) (fs:List (Str×V))
 |own (x:Addr)
 |xd (fs:List (Str×V))
 |met (f x:Addr)
 |rng (lo hi:Int)
 |frz (o:Obj) (u:HO)
 |tbl (ps:Array Value)
 |ext (φ:Heap->Prop)

abbrev Hp:=Addr->Option HO
def upd (H:Hp) (a:Addr) (o:HO):Hp:=λb=>if b=a then some o else H b
theorem Ad {H:Hp} {a:Addr} {o:HO}:upd H a o a=some o:=by unfold upd;rw [if_pos rfl]
theorem Ap {H:Hp} {a b:Addr} {o:HO} (h:b≠a):upd H a o b=H b:=by unfold upd;rw [if_neg h]
theorem ne_of {H:Hp} {a b:Addr} {o u:HO} (h:H a=some o) (h':H b=some u) (d:o≠u):a≠b:=by
 intro e;subst e;rw [h] at h';exact d (Option.some.inj h')
theorem AY {H:Hp} {a b:Addr} {o:HO} (h:H a=some o) (h':H b=none):a≠b:=by
 intro e;subst e;rw [h] at h';cases h'

section
variable (P:Program) (w:World)
def BC (H:Hp) (h:Heap) (a:Addr):HO->Prop
 |.lst xs=>xs.length<=sizeLine/\∃ (its:List Value) (n:Nat),AL xs its/\h.get? a=some { cls:=.type "list",data:=.seq its.toArray n }
 |.tup xs=>xs.length<=sizeLine/\∃ its:List Value,AL xs its/\IsTup h a its.toArray
 |.dK kvs=>kvs.length<=sizeLine/\(a == sysModules)=false/\∃ vs,KV kvs vs/\h.DictOf (BE P w) a vs
 |.dT kvs=>kvs.length<=sizeLine/\(a == sysModules)=false/\∃ xs:List (List Cr×Addr×Value),
   Paired (λ(p:List Cr×V) (q:List Cr×Addr×Value)=>p.1=q.1/\H q.2.1=some (.tup (p.1.map kV))/\Bd p.2 q.2.2) kvs xs /\
   ∃ o es ep,h.get? a=some o/\o.ExactDict/\o.data=.dict es ep/\es.toList=xs.map (entryOfKey (tupleKind (BE P w)))/\(xs.map (·.1)).Nodup
 |.set S n=>h.SetOf (intKind P w) a S n
 |.ins C dx fs=>H dx=some (.own a)/\fs.length<=1000/\dx≠a/\h.get? a=some (C5 C dx) /\
   ∃ mA,h.Ns1 dx mA/\(∀ f,DL (fs.lookup f) (mA f))/\PySem.Within mA (fs.map (·.1))
 |.own _=>∃ o,h.get? a=some o
 |.xd fs=>∃ mA,h.Ns1 a mA/\∀ f,DL (fs.lookup f) (mA f)
 |.rng lo hi=>∃ t u v,h.get? a=some { cls:=.type "range",data:=.fields #[.int lo t,.int hi u,.int 1 v] }
 |.frz o u=>h.get? a=some o/\BC H h a u
 |.tbl ps=>h.get? a=some { cls:=.none,data:=.fields ps }
 |.met f x=>h.get? a=some (u7 (.ref f) (.ref x))
 |.ext φ=>φ h/\(∃ o,h.get? a=some o)/\∀ h1 h2:Heap,φ h1->(∀ o,h1.get? a=some o->h2.get? a=some o)->φ h2
def Gp (H:Hp) (h:Heap):Prop:=∀ a o,H a=some o->BC P w H h a o
end

section
variable {P:Program} {w:World} {H H':Hp} {h h':Heap} {a:Addr} {o:HO}
theorem BC.lt (x:BC P w H h a o):a<h.objs.size:=by
 cases o with
 |lst xs=>obtain ⟨_,_,_,_,e⟩:=x;exact Heap.lt_size e
 |tup xs=>obtain ⟨_,_,_,p⟩:=x;exact p.lt
 |dK kvs=>obtain ⟨_,_,_,_,o,_,_,e,_⟩:=x;exact Heap.lt_size e
 |dT kvs=>obtain ⟨_,_,_,_,o,_,_,e,_⟩:=x;exact Heap.lt_size e
 |set S n=>obtain ⟨o,_,_,_,e,_⟩:=x;exact Heap.lt_size e
 |ins C dx fs=>obtain ⟨_,_,_,e,_⟩:=x;exact Heap.lt_size e
 |own y=>obtain ⟨_,e⟩:=x;exact Heap.lt_size e
 |xd fs=>obtain ⟨_,⟨_,_,_,e,_⟩,_⟩:=x;exact Heap.lt_size e
 |rng lo hi=>obtain ⟨_,_,_,e⟩:=x;exact Heap.lt_size e
 |frz ob u=>obtain ⟨e,_⟩:=x;exact Heap.lt_size e
 |tbl ps=>exact Heap.lt_size (show h.get? a=some _ from x)
 |met f y=>exact Heap.lt_size (show h.get? a=some _ from x)
 |ext φ=>obtain ⟨_,⟨_,e⟩,_⟩:=x;exact Heap.lt_size e
theorem Paired.mapP {α β:Type} {F G:α->β->Prop}:∀ {l₁:List α} {l₂:List β},Paired F l₁ l₂->(∀ a b,F a b->G a b)->Paired G l₁ l₂
 |_,_,.nil,_=>.nil
 |_,_,.cons r t,f=>.cons (f _ _ r) (Paired.mapP t f)
theorem BC.stay (x:BC P w H h a o) (k:∀ b u,(b=a\/H b=some (.own a))->h.get? b=some u->h'.get? b=some u)
  (ho:∀ b,H b=some (.own a)->H' b=some (.own a)) (ht:∀ b xs,H b=some (.tup xs)->H' b=some (.tup xs)):BC P w H' h' a o:=by
 induction o with
 |lst xs=>obtain ⟨z,its,n,r,e⟩:=x;exact ⟨z,its,n,r,k _ _ (.inl rfl) e⟩
 |tup xs=>obtain ⟨z,its,r,ob,e,c⟩:=x;exact ⟨z,its,r,ob,k _ _ (.inl rfl) e,c⟩
 |dK kvs=>obtain ⟨z,y,vs,r,ob,es,ep,e,c⟩:=x;exact ⟨z,y,vs,r,ob,es,ep,k _ _ (.inl rfl) e,c⟩
 |dT kvs =>
  obtain ⟨z,y,xs,r,ob,es,ep,e,c⟩:=x
  exact ⟨z,y,xs,Paired.mapP r λp q z=>⟨z.1,ht _ _ z.2.1,z.2.2⟩,ob,es,ep,k _ _ (.inl rfl) e,c⟩
 |set S n=>obtain ⟨ob,es,ep,t,e,c⟩:=x;exact ⟨ob,es,ep,t,k _ _ (.inl rfl) e,c⟩
 |ins C dx fs =>
  obtain ⟨d,z,ne,e,mA,⟨od,es,ep,e2,c⟩,r⟩:=x
  exact ⟨ho _ d,z,ne,k _ _ (.inl rfl) e,mA,⟨od,es,ep,k _ _ (.inr d) e2,c⟩,r⟩
 |own y=>obtain ⟨ob,e⟩:=x;exact ⟨ob,k _ _ (.inl rfl) e⟩
 |xd fs=>obtain ⟨mA,⟨od,es,ep,e,c⟩,r⟩:=x;exact ⟨mA,⟨od,es,ep,k _ _ (.inl rfl) e,c⟩,r⟩
 |rng lo hi=>obtain ⟨t,u,v,e⟩:=x;exact ⟨t,u,v,k _ _ (.inl rfl) e⟩
 |frz ob u ih=>obtain ⟨e,q⟩:=x;exact ⟨k _ _ (.inl rfl) e,ih q⟩
 |tbl ps =>
  have e:h.get? a=some { cls:=.none,data:=.fields ps }:=x
  show h'.get? a=some { cls:=.none,data:=.fields ps }
  exact k a _ (.inl rfl) e
 |met f y =>
  have e:h.get? a=some (u7 (.ref f) (.ref y)):=x
  show h'.get? a=some (u7 (.ref f) (.ref y))
  exact k a _ (.inl rfl) e
 |ext φ=>obtain ⟨p,⟨o,e⟩,st⟩:=x;exact ⟨st _ _ p λo q=>k _ _ (.inl rfl) q,⟨o,k _ _ (.inl rfl) e⟩,st⟩
theorem Gp.lt (x:Gp P w H h) (e:H a=some o):a<h.objs.size:=(x a o e).lt
theorem Gp.fresh (x:Gp P w H h) (e:h.objs.size<=a):H a=none:=by
 cases q:H a with
 |none=>rfl
 |some u=>exact absurd (V1 (x.lt q) e) (B6 _)
theorem Gp.kept (x:Gp P w H h) (k:∀ b u,h.get? b=some u->h'.get? b=some u):Gp P w H h':=λa o e =>
 (x a o e).stay (λb u _ q=>k b u q) (λ_ q=>q) λ_ _ q=>q
theorem Gp.laid (x:Gp P w H h) (k:∀ b u,h.get? b=some u->h'.get? b=some u) (hp:h.objs.size<=a) (new:BC P w (upd H a o) h' a o):Gp P w (upd H a o) h':=λb u e=>by
 have hn:=x.fresh hp
 by_cases hb:b=a
 ·subst hb;rw [Ad] at e;cases e;exact new
 ·rw [Ap hb] at e
  exact (x b u e).stay (λc v _ q=>k c v q) (λc q=>by rw [Ap (AY q hn)];exact q) λc xs q=>by rw [Ap (AY q hn)];exact q
end

def Rd (H:Hp) (a:Addr) (u:HO):Prop:=H a=some u\/∃ o,H a=some (.frz o u)
theorem Rd.ok {P:Program} {w:World} {H:Hp} {h:Heap} {a:Addr} {u:HO} (r:Rd H a u) (x:Gp P w H h):BC P w H h a u:=by
 rcases r with r | ⟨o,r⟩
 ·exact x a u r
 ·obtain ⟨_,q⟩:=x a _ r
  exact q
def Mut:Option HO->Prop
 |some (.lst _)=>True
 |some (.dK _)=>True
 |some (.dT _)=>True
 |some (.set _ _)=>True
 |some (.ins _ _ _)=>True
 |some (.ext _)=>True
 |_=>False
section
variable {P:Program} {w:World} {H:Hp} {h h':Heap} {x e:Addr} {o':HO}
theorem Gp.write (ok:Gp P w H h) (mu:Mut (H x)) (he:e=x\/H e=some (.own x)) (k:∀ b u,b≠e->h.get? b=some u->h'.get? b=some u) (heo:∃ u,h'.get? e=some u)
  (new:BC P w (upd H x o') h' x o'):Gp P w (upd H x o') h':=λb u q=>by
 have nown:∀ c y,H c=some (.own y)->c≠x:=λc y r z=>by subst z;rw [r] at mu;exact mu
 have ntup:∀ c xs,H c=some (.tup xs)->c≠x:=λc xs r z=>by subst z;rw [r] at mu;exact mu
 by_cases hb:b=x
 ·subst hb;rw [Ad] at q;cases q;exact new
 ·rw [Ap hb] at q
  by_cases hbe:b=e
  ·have q':H b=some (.own x):=by
    rcases he with z | z
    ·exact absurd (hbe.trans z) hb
    ·rw [hbe];exact z
   rw [q] at q';cases q'
   obtain ⟨v,hv⟩:=heo
   exact ⟨v,by rw [hbe];exact hv⟩
  ·refine (ok b u q).stay (λc v hc r=>k c v ?_ r) (λc r=>by rw [Ap (nown c b r)];exact r) λc xs r=>by rw [Ap (ntup c xs r)];exact r
   rcases hc with rfl | hc
   ·exact hbe
   ·rintro rfl
    rcases he with z | z
    ·exact nown c b hc z
    ·rw [hc] at z;cases z;exact hb rfl
end

structure Un (fs ex:List Addr) (H H':Hp) (h h':Heap):Prop where
 keep:∀ b o,h.get? b=some o->H b=none->b∉fs->b∉ex->h'.get? b=some o
 slot:∀ b o,h.get? b=some o->H b=none->b∈fs->b∉ex->∃ sl,h'.get? b=some { o with slots:=sl }
 free:∀ b o,h.get? b=some o->H b=none->b∉ex->H' b=none
 there:∀ b o,h.get? b=some o->b∉ex->∃ o',h'.get? b=some o'
 tups:∀ b xs,H b=some (.tup xs)->H' b=some (.tup xs)
 frzs:∀ b o u,H b=some (.frz o u)->H' b=some (.frz o u)
 tbls:∀ b ps,H b=some (.tbl ps)->∃ more,H' b=some (.tbl (ps++more))
section
variable {fs fs' ex ex':List Addr} {H H1 H2:Hp} {h h1 h2 h':Heap} {a x e:Addr} {o:HO}
theorem Un.any (u:Un fs ex H H1 h h1) {b:Addr} {ob:Obj} (q:h.get? b=some ob) (n:H b=none) (hx:b∉ex):∃ sl,h1.get? b=some { ob with slots:=sl }:=by
 by_cases hb:b∈fs
 ·exact u.slot b ob q n hb hx
 ·exact ⟨ob.slots,u.keep b ob q n hb hx⟩
theorem Un.kept (k:∀ b u,h.get? b=some u->h'.get? b=some u):Un fs ex H H h h' :=
 ⟨λb ob q _ _ _=>k b ob q,λb ob q _ _ _=>⟨ob.slots,k b ob q⟩,λ_ _ _ n _=>n,λb ob q _=>⟨ob,k b ob q⟩,λ_ _ q=>q,λ_ _ _ q=>q,λ_ ps q=>⟨#[],by rw [q];simp⟩⟩
theorem Un.refl:Un fs ex H H h h:=Un.kept λ_ _ q=>q
theorem Un.laid (k:∀ b u,h.get? b=some u->h'.get? b=some u) (hp:h.objs.size<=a) (hn:H a=none):Un fs ex H (upd H a o) h h' where
 keep:=λb u q _ _ _=>k b u q
 slot:=λb u q _ _ _=>⟨u.slots,k b u q⟩
 free:=λb u q n _=>by rw [Ap (Y1 (V1 (Heap.lt_size q) hp))];exact n
 there:=λb u q _=>⟨u,k b u q⟩
 tups:=λb xs q=>by rw [Ap (AY q hn)];exact q
 frzs:=λb u xs q=>by rw [Ap (AY q hn)];exact q
 tbls:=λb ps q=>⟨#[],by rw [Ap (AY q hn),q];simp⟩
theorem Un.write (mu:Mut (H x)) (he:e=x\/H e=some (.own x)) (k:∀ b u,b≠e->h.get? b=some u->h'.get? b=some u) (heo:∃ u,h'.get? e=some u):Un fs ex H (upd H x o) h h':=by
 have hx:∀ b,H b=none->b≠x:=λb n z=>by subst z;rw [n] at mu;exact mu
 have hb:∀ b,H b=none->b≠e:=λb n z=>by
  subst z
  rcases he with r | r
  ·exact hx b n r
  ·rw [n] at r;cases r
 have hm:∀ b u,H b=some u->¬ Mut (some u)->b≠x:=λb u q nm z=>by subst z;rw [q] at mu;exact nm mu
 refine ⟨λb u q n _ _=>k b u (hb b n) q,λb u q n _ _=>⟨u.slots,k b u (hb b n) q⟩,λb u q n _=>by rw [Ap (hx b n)];exact n,λb u q _=>?_,
  λb xs q=>by rw [Ap (hm b _ q λz=>z)];exact q,λb u xs q=>by rw [Ap (hm b _ q λz=>z)];exact q,λb ps q=>⟨#[],by rw [Ap (hm b _ q λz=>z),q];simp⟩⟩
 by_cases hbe:b=e
 ·subst hbe;exact heo
 ·exact ⟨u,k b u hbe q⟩
end

def trk (h:Heap) (H:Hp):List Addr:=(K3 h.objs.size).filter λa=>(H a).isSome
def LY (h:Heap) (H:Hp):Heap:=L8 h (trk h H)
theorem Rs (h:Heap) (H:Hp):(LY h H).objs.size=h.objs.size:=PySem.W.hideAll_size _ _
theorem Uj {h:Heap} {H:Hp} {b:Addr} {o:Obj} (e:h.get? b=some o) (n:H b=none):(LY h H).get? b=some o :=
 PySem.W.hideAll_get _ e λhm=>by
  have q:(H b).isSome=true:=(Q4.mp hm).2
  rw [n] at q;simp at q
theorem of_hidT {h:Heap} {H:Hp} {b:Addr} {o:Obj} (e:(LY h H).get? b=some o):h.get? b=some o/\H b=none:=by
 have e':h.get? b=some o:=PySem.W.of_hideAll (trk h H) e
 refine ⟨e',?_⟩
 cases q:H b with
 |none=>rfl
 |some x =>
  have hm:b∈trk h H:=Q4.mpr ⟨List.mem_range.mpr (Heap.lt_size e'),by simp [q]⟩
  have z:(LY h H).get? b=none:=V7 (trk h H) hm
  rw [z] at e;cases e

def allNews (g h:Heap) (L:Addr):List (Addr×Obj):=(K3 h.objs.size).filterMap λa=>if a=L\/(g.get? a).isSome=true then none else (h.get? a).map λo=>(a,o)
def Cf (g h:Heap) (L d:Addr):List (Addr×Obj):=(allNews g h L).filter λp=>decide (p.1≠d)

structure Mod (K:J0) (mg:Str->Option Value) (base:Heap):Prop where
 kin:K.In base
 glob:base.Ns mainGlobals mg
 blt:∃ mb,base.Ns builtinsNs mb/\∀ x:Str,x≠"__name__"->mb x=bootBuiltins x
 nolimit:base.NoLimit

set_option genInjectivity false in
structure Cx where
 prog:Program
 w:World
 K:J0
 mg:Str->Option Value
 base:Heap
 A:Around
 N:List Str
 s₀:Shared
 H₀:Hp
 env:Env
 outer:List Env
 stack:List Env
 ex:List Addr
 fn:Str->Bool
 calm:Bool
 pn:List (Addr×Obj)
 xe:Value->Shared->Prop
def IE (l:List Env):List Addr:=l.filterMap (·.frame)
abbrev Cx.fs (X:Cx):List Addr:=IE X.outer

def Vis (sc:Scope) (x:Str):Prop:=sc.names.lookup x=some .local\/sc.names.lookup x=some .cell\/sc.names.lookup x=some .free
def Loc (sc:Scope) (x:Str):Prop:=sc.names.lookup x=some .local\/sc.names.lookup x=some .cell
def Look (env:Env) (h:Heap) (m:Str->Option Value) (x:Str) (u:Value):Prop :=
 (env.kindOf x=some .local/\m x=some u)\/((env.kindOf x=some .cell\/env.kindOf x=some .free)/\∃ c,env.cells.lookup x=some c/\h.IsCell c (some u))

structure Cx.Ok (X:Cx):Prop where
 mod:Mod X.K X.mg X.base
 kind:X.env.scope.kind=.function
 glob:X.env.globals=mainGlobals
 blt:X.env.builtins=builtinsNs
 above:X.s₀.heap.objs.size<=X.env.locals
 inj:∀ x y c,X.env.cells.lookup x=some c->X.env.cells.lookup y=some c->x=y
 has:∀ x,(X.env.kindOf x=some .cell\/X.env.kindOf x=some .free)->∃ c,X.env.cells.lookup x=some c
 cab:∀ x c,X.fn x=true->X.env.cells.lookup x=some c->X.s₀.heap.objs.size<=c
 hd:X.calm=true->X.A.handled=none
 frames:X.A.frames=some X.stack
 stk:X.stack=X.outer\/(X.stack=X.env::X.outer/\X.env.frame=some X.env.locals)
 exf:∀ b∈X.ex,b≠X.env.locals/\∀ x c,X.env.cells.lookup x=some c->c≠b
 bs:∀ b o,X.base.get? b=some o->X.s₀.heap.get? b=some o/\X.H₀ b=none
 bsz:X.base.objs.size<=X.s₀.heap.objs.size
 noex:∀ b o,X.base.get? b=some o->b∉X.ex
 exfs:∀ b∈X.ex,b∉X.fs
 funs:X.s₀.heap.FunFrames X.base X.outer
 frf:∀ b∈X.fs,X.H₀ b=none

structure Ax (X:Cx) (pins:List (Addr×Obj)) (σ:List (Option V)) (H:Hp) (s:Shared):Prop where
 ok:X.Ok
 os:s.os=X.s₀.os
 bare:AllBare s.gens
 base:Un X.fs X.ex X.H₀ H X.s₀.heap s.heap
 loc:∃ m,s.heap.Ns X.env.locals m/\∀ (i:Nat) (x:Str) (v:V),X.N[i]?=some x->σ[i]?=some (some v)->Vis X.env.scope x->∃ u,Bd v u/\Look X.env s.heap m x u
 cell:∀ x c,X.env.cells.lookup x=some c->∃ v,s.heap.IsCell c v
 free:H X.env.locals=none
 freeC:∀ x c,X.env.cells.lookup x=some c->H c=none
 pin:∀ p∈X.pn++pins,s.heap.get? p.1=some p.2/\H p.1=none/\p.1≠X.env.locals/\p.1∉X.fs/\∀ v,p.2.data≠.cell v
 hok:Gp X.prog X.w H s.heap
 len:σ.length=X.N.length

section
variable {X:Cx} {pins:List (Addr×Obj)} {σ:List (Option V)} {H H':Hp} {s:Shared} {h':Heap}

theorem Cx.Ok.nofr (ok:X.Ok) {b:Addr} {o:Obj} (e:X.base.get? b=some o):b∉X.fs:=λhb=>by
 have:=(ok.funs.mem hb).1
 rw [e] at this;cases this
theorem Ax.bs (I:Ax X pins σ H s):∀ b o,X.base.get? b=some o->s.heap.get? b=some o/\H b=none:=λb o e =>
 ⟨I.base.keep b o (I.ok.bs b o e).1 (I.ok.bs b o e).2 (I.ok.nofr e) (I.ok.noex b o e),I.base.free b o (I.ok.bs b o e).1 (I.ok.bs b o e).2 (I.ok.noex b o e)⟩
theorem Ax.bk (I:Ax X pins σ H s):∀ b o,X.base.get? b=some o->s.heap.get? b=some o:=λb o e=>(I.bs b o e).1
theorem Ax.mod (I:Ax X pins σ H s):Mod X.K X.mg X.base:=I.ok.mod
theorem Ax.kIn (I:Ax X pins σ H s):X.K.In s.heap:=I.ok.mod.kin.keeps I.bk
theorem Ax.lt (I:Ax X pins σ H s):X.env.locals<s.heap.objs.size:=let ⟨_,hn,_⟩:=I.loc;hn.lt
theorem Ax.sz (I:Ax X pins σ H s):X.s₀.heap.objs.size<=s.heap.objs.size:=T0 I.ok.above (z7 I.lt)
theorem Ax.nofs (I:Ax X pins σ H s) {a:Addr} (h:s.heap.objs.size<=a):a∉X.fs:=λhb=>by
 obtain ⟨_,o,ho,_⟩:=I.ok.funs.mem hb
 exact absurd (V1 (Heap.lt_size ho) (T0 I.sz h)) (B6 _)
theorem Ax.cne (I:Ax X pins σ H s):∀ x c,X.env.cells.lookup x=some c->c≠X.env.locals:=λx c e z=>by
 obtain ⟨v,o,ho,hd⟩:=I.cell x c e
 obtain ⟨m,⟨o',es,ep,ho',hd',_⟩,_⟩:=I.loc
 rw [z,ho'] at ho;cases ho;rw [hd'] at hd;cases hd
theorem Ax.funs (I:Ax X pins σ H s):s.heap.FunFrames X.base X.outer:=by
 have all:∀ (l:List Env),(∀ b∈IE l,b∈X.fs)->X.s₀.heap.FunFrames X.base l->s.heap.FunFrames X.base l:=by
  intro l
  induction l with
  |nil=>intro _ _;trivial
  |cons env r ih =>
   intro hs hl
   obtain ⟨hk,⟨L,o,hf,hn,ho,hd⟩,hr⟩:=hl
   have hL:L∈X.fs:=hs L (by unfold IE;rw [W3,hf];exact C0)
   obtain ⟨sl,e⟩:=I.base.slot L o ho (I.ok.frf L hL) hL λz=>I.ok.exfs L z hL
   exact ⟨hk,⟨L,_,hf,hn,e,hd⟩,ih (λb hb=>hs b (by unfold IE;rw [W3,hf];exact A0 _ hb)) hr⟩
 exact all X.outer (λ_ hb=>hb) I.ok.funs

theorem Ax.stack (I:Ax X pins σ H s):s.heap.FunFrames X.base X.stack:=by
 rcases I.ok.stk with e | ⟨e,hf⟩
 ·rw [e];exact I.funs
 ·rw [e]
  obtain ⟨m,hn,_⟩:=I.loc
  refine .cons (by rw [I.ok.kind];decide) hf hn ?_ I.funs
  exact Heap.get?_none_of_le (T0 I.ok.bsz I.ok.above)
theorem Ax.stkSub (I:Ax X pins σ H s):∀ b∈IE X.stack,b∈X.env.locals::X.fs:=λb hb=>by
 rcases I.ok.stk with e | ⟨e,hf⟩
 ·rw [e] at hb;exact A0 _ hb
 ·rw [e] at hb
  unfold IE at hb
  rw [W3,hf] at hb
  exact hb
theorem Ax.stkFree (I:Ax X pins σ H s):∀ b∈IE X.stack,H b=none:=λb hb=>by
 rcases K0.mp (I.stkSub b hb) with e | hb
 ·rw [e];exact I.free
 ·obtain ⟨_,o,ho,_⟩:=I.ok.funs.mem hb
  exact I.base.free b o ho (I.ok.frf b hb) λz=>I.ok.exfs b z hb

theorem Ax.step {g':Array GenState} {t':Nat} {d':Drawn} {ch:List Addr} (I:Ax X pins σ H s)
  (hch:∀ b∈ch,(b∈X.ex\/X.s₀.heap.objs.size<=b)/\b≠X.env.locals/\(∀ x c,X.env.cells.lookup x=some c->c≠b)/\∀ p∈X.pn++pins,p.1≠b)
  (keep:∀ b o,b≠X.env.locals->b∉X.fs->b∉ch->s.heap.get? b=some o->H b=none->h'.get? b=some o)
  (slot:∀ b o,b≠X.env.locals->b∈X.fs->b∉ch->s.heap.get? b=some o->H b=none->∃ sl,h'.get? b=some { o with slots:=sl }) (free:∀ b o,b∉ch->s.heap.get? b=some o->H b=none->H' b=none)
  (there:∀ b o,b∉ch->s.heap.get? b=some o->∃ o',h'.get? b=some o')
  (tups:∀ b xs,H b=some (.tup xs)->H' b=some (.tup xs)) (frzs:∀ b o u,H b=some (.frz o u)->H' b=some (.frz o u)) (tbls:∀ b ps,H b=some (.tbl ps)->∃ more,H' b=some (.tbl (ps++more)))
  (ns:∀ m,s.heap.Ns X.env.locals m->h'.Ns X.env.locals m) (hok:Gp X.prog X.w H' h') (hg:AllBare g') :
  Ax X pins σ H' { s with heap:=h',gens:=g',drawn:=d',toks:=t' }:=by
 have neL:∀ b o,X.s₀.heap.get? b=some o->b≠X.env.locals:=λb o e=>Y1 (V1 (Heap.lt_size e) I.ok.above)
 have neC:∀ b o,X.s₀.heap.get? b=some o->b∉X.ex->b∉ch:=λb o e hx hb=>by
  rcases (hch b hb).1 with z | z
  ·exact hx z
  ·exact absurd (V1 (Heap.lt_size e) z) (B6 _)
 have cellK:∀ x c,X.env.cells.lookup x=some c->∀ v,s.heap.IsCell c v->h'.IsCell c v:=λx c e v ⟨o,ho,hd⟩=>by
  have nch:c∉ch:=λz=>(hch c z).2.2.1 x c e rfl
  by_cases hc:c∈X.fs
  ·obtain ⟨sl,q⟩:=slot c o (I.cne x c e) hc nch ho (I.freeC x c e)
   exact ⟨_,q,hd⟩
  ·exact ⟨o,keep c o (I.cne x c e) hc nch ho (I.freeC x c e),hd⟩
 refine ⟨I.ok,I.os,hg,⟨λb o e n hb hx=>?_,λb o e n hb hx=>?_,λb o e n hx=>?_,λb o e hx=>?_,λb xs e=>tups b xs (I.base.tups b xs e),λb o xs e=>frzs b o xs (I.base.frzs b o xs e),λb ps e=>?_⟩,?_,λx c e=>?_,?_,λx c e=>?_,λp hp=>?_,hok,I.len⟩
 ·exact keep b o (neL b o e) hb (neC b o e hx) (I.base.keep b o e n hb hx) (I.base.free b o e n hx)
 ·obtain ⟨sl,e1⟩:=I.base.slot b o e n hb hx
  obtain ⟨sl',e2⟩:=slot b _ (neL b o e) hb (neC b o e hx) e1 (I.base.free b o e n hx)
  exact ⟨sl',e2⟩
 ·obtain ⟨o',e1⟩:=I.base.there b o e hx
  exact free b o' (neC b o e hx) e1 (I.base.free b o e n hx)
 ·obtain ⟨o',e1⟩:=I.base.there b o e hx
  exact there b o' (neC b o e hx) e1
 ·obtain ⟨m1,e1⟩:=I.base.tbls b ps e
  obtain ⟨m2,e2⟩:=tbls b _ e1
  exact ⟨m1++m2,by rw [e2,Array.append_assoc]⟩
 ·obtain ⟨m,hn,hl⟩:=I.loc
  refine ⟨m,ns m hn,λi x v e1 e2 e3=>?_⟩
  obtain ⟨u,r,l⟩:=hl i x v e1 e2 e3
  refine ⟨u,r,?_⟩
  rcases l with l | ⟨k,c,e,z⟩
  ·exact .inl l
  ·exact .inr ⟨k,c,e,cellK x c e _ z⟩
 ·obtain ⟨v,z⟩:=I.cell x c e
  exact ⟨v,cellK x c e v z⟩
 ·obtain ⟨m,⟨o,_,_,ho,_⟩,_⟩:=I.loc
  exact free _ o (λz=>(hch _ z).2.1 rfl) ho I.free
 ·obtain ⟨v,o,ho,hd⟩:=I.cell x c e
  exact free c o (λz=>(hch c z).2.2.1 x c e rfl) ho (I.freeC x c e)
 ·obtain ⟨e,n,ne,nf,d⟩:=I.pin p hp
  have nch:p.1∉ch:=λz=>(hch p.1 z).2.2.2 p hp rfl
  exact ⟨keep p.1 p.2 ne nf nch e n,free p.1 p.2 nch e n,ne,nf,d⟩
theorem Ax.un {t':Nat} (I:Ax X pins σ H s) (u:Un X.fs [] H H' s.heap h') (hok:Gp X.prog X.w H' h'):Ax X pins σ H' { s with heap:=h',toks:=t' }:=by
 obtain ⟨m,⟨o,es,ep,ho,r⟩,_⟩:=id I.loc
 obtain ⟨sl,hL⟩:=u.any ho I.free (by simp)
 exact I.step (g':=s.gens) (d':=s.drawn) (ch:=[]) (λ_ z=>nomatch z) (λb o _ hb _ e n=>u.keep b o e n hb (by simp)) (λb o _ hb _ e n=>u.slot b o e n hb (by simp)) (λb o _ e n=>u.free b o e n (by simp)) (λb o _ e=>u.there b o e (by simp)) u.tups u.frzs u.tbls (λm' hm=>by
  obtain ⟨o',es',ep',ho',r'⟩:=hm
  rw [ho] at ho';cases ho'
  exact ⟨_,es',ep',hL,r'⟩) hok I.bare
theorem Ax.call {g':Array GenState} {t':Nat} {d':Drawn} {ch:List Addr} (I:Ax X pins σ H s) (u:Un (IE X.stack) ch H H' s.heap h') (hok:Gp X.prog X.w H' h') (hg:AllBare g')
  (hch:∀ b∈ch,(b∈X.ex\/X.s₀.heap.objs.size<=b)/\b≠X.env.locals/\(∀ x c,X.env.cells.lookup x=some c->c≠b)/\∀ p∈X.pn++pins,p.1≠b) :
  Ax X pins σ H' { s with heap:=h',gens:=g',drawn:=d',toks:=t' }:=by
 obtain ⟨m,⟨o,es,ep,ho,r⟩,_⟩:=id I.loc
 obtain ⟨sl,hL⟩:=u.any ho I.free λz=>(hch _ z).2.1 rfl
 exact I.step (ch:=ch) hch (λb o hL hb hc e n=>u.keep b o e n (λz=>(K0.mp (I.stkSub b z)).elim hL hb) hc) (λb o _ _ hc e n=>u.any e n hc) (λb o hc e n=>u.free b o e n hc) (λb o hc e=>u.there b o e hc) u.tups u.frzs u.tbls (λm' hm=>by
  obtain ⟨o',es',ep',ho',r'⟩:=hm
  rw [ho] at ho';cases ho'
  exact ⟨_,es',ep',hL,r'⟩) hok hg
theorem Ax.turned {t':Nat} {it:Addr} (I:Ax X pins σ H s) (k:∀ b o,b≠it->s.heap.get? b=some o->h'.get? b=some o) (hn:H it=none) (hL:it≠X.env.locals)
  (h1:it∈X.ex\/X.s₀.heap.objs.size<=it) (h2:∀ x c,X.env.cells.lookup x=some c->c≠it) (h3:∀ p∈X.pn++pins,p.1≠it):Ax X pins σ H { s with heap:=h',toks:=t' }:=by
 have nit:∀ b u,H b=some u->b≠it:=λb u e z=>by rw [z,hn] at e;cases e
 refine I.step (g':=s.gens) (d':=s.drawn) (ch:=[it]) (λb hb=>?_) (λb o _ _ hc e _=>k b o (λz=>hc (by simp [z])) e) (λb o _ _ hc e _=>⟨o.slots,k b o (λz=>hc (by simp [z])) e⟩) (λ_ _ _ _ n=>n)
  (λb o hc e=>⟨o,k b o (λz=>hc (by simp [z])) e⟩) (λ_ _ e=>e) (λ_ _ _ e=>e) (λb ps e=>⟨#[],by rw [e];simp⟩) (λm hm=>?_) (λb u e=>?_) I.bare
 ·have e:b=it:=by simpa using hb
  subst e
  exact ⟨h1,hL,h2,h3⟩
 ·obtain ⟨o,es,ep,ho,r⟩:=hm
  exact ⟨o,es,ep,k _ o (Ne.symm hL) ho,r⟩
 ·refine (I.hok b u e).stay (λc v hc q=>k c v ?_ q) (λ_ q=>q) λ_ _ q=>q
  rcases hc with z | z
  ·rw [z];exact nit b u e
  ·exact nit c _ z
theorem Ax.tok (I:Ax X pins σ H s) (t:Nat):Ax X pins σ H { s with toks:=t }:=I.un (h':=s.heap) (t':=t) Un.refl I.hok
theorem Ax.kept {t':Nat} (I:Ax X pins σ H s) (k:∀ b u,s.heap.get? b=some u->h'.get? b=some u):Ax X pins σ H { s with heap:=h',toks:=t' }:=I.un (Un.kept k) (I.hok.kept k)
theorem Ax.laid {a:Addr} {o:HO} {t':Nat} (I:Ax X pins σ H s) (k:∀ b u,s.heap.get? b=some u->h'.get? b=some u) (hp:s.heap.objs.size<=a) (new:BC X.prog X.w (upd H a o) h' a o) :
  Ax X pins σ (upd H a o) { s with heap:=h',toks:=t' }:=I.un (Un.laid k hp (I.hok.fresh hp)) (I.hok.laid k hp new)
theorem Ax.write {x e:Addr} {o:HO} {t':Nat} (I:Ax X pins σ H s) (mu:Mut (H x)) (he:e=x\/H e=some (.own x)) (k:∀ b u,b≠e->s.heap.get? b=some u->h'.get? b=some u) (heo:∃ u,h'.get? e=some u)
  (new:BC X.prog X.w (upd H x o) h' x o):Ax X pins σ (upd H x o) { s with heap:=h',toks:=t' }:=I.un (Un.write mu he k heo) (I.hok.write mu he k heo new)
theorem Ax.weak {σ':List (Option V)} (I:Ax X pins σ H s) (hl:σ'.length=σ.length) (w:∀ (i:Nat) v,σ'[i]?=some (some v)->σ[i]?=some (some v)):Ax X pins σ' H s :=
 ⟨I.ok,I.os,I.bare,I.base,let ⟨m,hn,hl'⟩:=I.loc;⟨m,hn,λi x v e1 e2 e3=>hl' i x v e1 (w i v e2) e3⟩,I.cell,I.free,I.freeC,I.pin,I.hok,hl.trans I.len⟩
theorem Ax.pins_of {pins':List (Addr×Obj)} (I:Ax X pins σ H s) (h:∀ p∈pins',s.heap.get? p.1=some p.2/\H p.1=none/\p.1≠X.env.locals/\p.1∉X.fs/\∀ v,p.2.data≠.cell v):Ax X pins' σ H s :=
 ⟨I.ok,I.os,I.bare,I.base,I.loc,I.cell,I.free,I.freeC,λp hp=>(X0.mp hp).elim (λz=>I.pin p (p0 _ z)) (h p),I.hok,I.len⟩

theorem No {N:List Str} (hN:N.Nodup) {i j:Nat} {x:Str} (a:N[i]?=some x) (b:N[j]?=some x):i=j:=by
 obtain ⟨h1,e1⟩:=d0.mp a
 obtain ⟨h2,e2⟩:=d0.mp b
 exact (List.getElem_inj hN).mp (e1.trans e2.symm)

theorem QN {M:Model} {A:Around} {E:Value->Shared->Prop} {i:Nat} {x:Str} {v:V} {u:Value} {Q:Unit->Shared->Prop} (I:Ax X pins σ H s) (hN:X.N.Nodup) (hi:X.N[i]?=some x) (hx:Loc X.env.scope x) (r:Bd v u)
  (h:∀ s',Ax X pins (σ.set i (some v)) H s'->(∃ a,Heap.SameBut a s.heap s'.heap/\(a=X.env.locals\/X.env.cells.lookup x=some a))->Q () s') (hf:X.fn x=true\/X.env.scope.names.lookup x=some .local:=by first | exact .inl rfl | exact .inr rfl | assumption):wpAny M A (storeName X.env x u) Q E s:=by
 obtain ⟨m,hn,hl⟩:=id I.loc
 have hcls:(X.env.scope.kind == .class||(X.env.scope.kind == .module&&X.env.locals != X.env.globals))=false:=by rw [I.ok.kind];rfl
 have hiσ:i<σ.length:=by rw [I.len];exact (d0.mp hi).1
 have cne:=I.cne
 have tracked:∀ {a:Addr} {h':Heap},(∃ o,s.heap.get? a=some o/\H a=none)->Heap.SameBut a s.heap h'->Gp X.prog X.w H h':=λ{a h'} ha hs b ob e=>by
  obtain ⟨_,_,hfree⟩:=ha
  refine (I.hok b ob e).stay (λc w' hc q=>(hs.2 c ?_).trans q) (λ_ q=>q) λ_ _ q=>q
  rintro rfl
  rcases hc with rfl | hc
  ·rw [hfree] at e;cases e
  ·rw [hfree] at hc;cases hc
 rcases hx with hk | hk
 ·refine wpAny_storeName_local hk hn (λh' hn' hs=>?_) hcls
  obtain ⟨oL,_,_,hoL,_⟩:=id hn
  refine h _ ⟨I.ok,I.os,I.bare,⟨λb o e n hb hx=>?_,λb o e n hb hx=>?_,I.base.free,λb o e hx=>?_,I.base.tups,I.base.frzs,I.base.tbls⟩,⟨_,hn',λj y v' e1 e2 e3=>?_⟩,λy c e=>?_,I.free,I.freeC,λp hp=>?_,tracked ⟨oL,hoL,I.free⟩ hs,by simpa using I.len⟩ ⟨_,hs,.inl rfl⟩
  ·exact (hs.2 b (Y1 (V1 (Heap.lt_size e) I.ok.above))).trans (I.base.keep b o e n hb hx)
  ·obtain ⟨sl,e1⟩:=I.base.slot b o e n hb hx
   exact ⟨sl,(hs.2 b (Y1 (V1 (Heap.lt_size e) I.ok.above))).trans e1⟩
  ·obtain ⟨o',e1⟩:=I.base.there b o e hx
   exact ⟨o',(hs.2 b (Y1 (V1 (Heap.lt_size e) I.ok.above))).trans e1⟩
  ·by_cases hj:j=i
   ·subst hj
    rw [hi] at e1;cases e1
    rw [B9 hiσ] at e2
    cases e2
    exact ⟨u,r,.inl ⟨hk,by simp⟩⟩
   ·rw [W7 (Ne.symm hj)] at e2
    obtain ⟨u',r',q⟩:=hl j y v' e1 e2 e3
    refine ⟨u',r',?_⟩
    rcases q with ⟨k,e⟩ | ⟨k,c,e,z⟩
    ·refine .inl ⟨k,?_⟩
     have:y≠x:=λe=>hj (No hN e1 (e▸hi))
     simp [this,e]
    ·exact .inr ⟨k,c,e,z.sameBut hs (cne y c e)⟩
  ·obtain ⟨w',z⟩:=I.cell y c e
   exact ⟨w',z.sameBut hs (cne y c e)⟩
  ·obtain ⟨e,n,ne,nf,d⟩:=I.pin p hp
   exact ⟨(hs.2 p.1 ne).trans e,n,ne,nf,d⟩
 ·have hfn:X.fn x=true:=by
   rcases hf with z | z
   ·exact z
   ·rw [z] at hk;cases hk
  obtain ⟨c,hc⟩:=I.ok.has x (.inl hk)
  obtain ⟨w',z⟩:=I.cell x c hc
  refine wpAny_storeName_cell I.ok.kind hk hc z (λh' hc' hs=>?_)
  obtain ⟨oc,hoc,hocd⟩:=id z
  refine h { s with heap:=h' } ⟨I.ok,I.os,I.bare,⟨λb o e n hb hx=>?_,λb o e n hb hx=>?_,I.base.free,λb o e hx=>?_,I.base.tups,I.base.frzs,I.base.tbls⟩,⟨m,hn.sameBut hs (Ne.symm (cne x c hc)),λj y v' e1 e2 e3=>?_⟩,λy c' e=>?_,I.free,I.freeC,λp hp=>?_,tracked ⟨oc,hoc,I.freeC x c hc⟩ hs,by simpa using I.len⟩ ⟨c,hs,.inr hc⟩
  ·exact (hs.2 b (Y1 (V1 (Heap.lt_size e) (I.ok.cab x c hfn hc)))).trans (I.base.keep b o e n hb hx)
  ·obtain ⟨sl,e1⟩:=I.base.slot b o e n hb hx
   exact ⟨sl,(hs.2 b (Y1 (V1 (Heap.lt_size e) (I.ok.cab x c hfn hc)))).trans e1⟩
  ·obtain ⟨o',e1⟩:=I.base.there b o e hx
   exact ⟨o',(hs.2 b (Y1 (V1 (Heap.lt_size e) (I.ok.cab x c hfn hc)))).trans e1⟩
  ·by_cases hj:j=i
   ·subst hj
    rw [hi] at e1;cases e1
    rw [B9 hiσ] at e2
    cases e2
    exact ⟨u,r,.inr ⟨.inl hk,c,hc,hc'⟩⟩
   ·rw [W7 (Ne.symm hj)] at e2
    obtain ⟨u',r',q⟩:=hl j y v' e1 e2 e3
    refine ⟨u',r',?_⟩
    rcases q with q | ⟨k,c',e,z'⟩
    ·exact .inl q
    ·refine .inr ⟨k,c',e,z'.sameBut hs ?_⟩
     rintro rfl
     exact hj (No hN e1 (I.ok.inj _ _ _ e hc▸hi))
  ·by_cases hcc:c'=c
   ·subst hcc;exact ⟨_,hc'⟩
   ·obtain ⟨w2,z2⟩:=I.cell y c' e
    exact ⟨w2,z2.sameBut hs hcc⟩
  ·obtain ⟨e,n,ne,nf,d⟩:=I.pin p hp
   refine ⟨(hs.2 p.1 ?_).trans e,n,ne,nf,d⟩
   intro q
   rw [q,hoc] at e
   have q':oc=p.2:=Option.some.inj e
   exact d w' (by rw [<- q'];exact hocd)
theorem IY {M:Model} {A:Around} {E:Value->Shared->Prop} {i:Nat} {x:Str} {v:V} {u:Value} {Q:Unit->Shared->Prop} (I:Ax X pins σ H s) (hN:X.N.Nodup) (hi:X.N[i]?=some x) (hx:Loc X.env.scope x) (r:Bd v u)
  (h:∀ s',Ax X pins (σ.set i (some v)) H s'->Q () s') (hf:X.fn x=true\/X.env.scope.names.lookup x=some .local:=by first | exact .inl rfl | exact .inr rfl | assumption):wpAny M A (storeName X.env x u) Q E s :=
 QN I hN hi hx r (λs' I' _=>h s' I') hf
theorem Ax.call' {s':Shared} {ch:List Addr} (I:Ax X pins σ H s) (ho:s'.os=s.os) (u:Un (IE X.stack) ch H H' s.heap s'.heap) (hok:Gp X.prog X.w H' s'.heap) (hg:AllBare s'.gens)
  (hch:∀ b∈ch,(b∈X.ex\/X.s₀.heap.objs.size<=b)/\b≠X.env.locals/\(∀ x c,X.env.cells.lookup x=some c->c≠b)/\∀ p∈X.pn++pins,p.1≠b):Ax X pins σ H' s':=by
 obtain ⟨h',g',d',t',o'⟩:=s'
 have e:o'=s.os:=ho
 subst e
 exact I.call (g':=g') (t':=t') (d':=d') u hok hg hch
end

abbrev XK:=Value->Option Addr->Hp->Prop
abbrev St:=List (Option V)
abbrev VK:=V->Hp->Prop
abbrev TE:=St->Hp->VK->Prop
abbrev TT:=St->Hp->(Bool->Hp->Prop)->Prop
abbrev TA:=St->Hp->(List V->Hp->Prop)->Prop
set_option genInjectivity false in
structure FO where
 nx:St->Hp->Prop
 rt:VK
 bk:St->Hp->Prop:=λ_ _=>False
 ct:St->Hp->Prop:=λ_ _=>False
abbrev TS:=FO->St->Hp->Prop

def EP (X:Cx) (pins:List (Addr×Obj)) (σ:St) (Q:VK) (u:Value) (s':Shared):Prop:=∃ v H',Ax X pins σ H' s'/\Bd v u/\Q v H'
def TP (X:Cx) (pins:List (Addr×Obj)) (σ:St) (Q:Bool->Hp->Prop) (b:Bool) (s':Shared):Prop:=∃ H',Ax X pins σ H' s'/\Q b H'
def AP (X:Cx) (pins:List (Addr×Obj)) (σ:St) (Q:List V->Hp->Prop) (us:List Value) (s':Shared):Prop:=∃ vs H',Ax X pins σ H' s'/\AL vs us/\Q vs H'
def SP (X:Cx) (pins:List (Addr×Obj)) (D:FO) (f:Flow) (s':Shared):Prop :=
 match f with
 |.next=>∃ σ' H',Ax X pins σ' H' s'/\D.nx σ' H'
 |.brk=>∃ σ' H',Ax X pins σ' H' s'/\D.bk σ' H'
 |.cont=>∃ σ' H',Ax X pins σ' H' s'/\D.ct σ' H'
 |.ret u=>∃ v σ' H',Ax X pins σ' H' s'/\Bd v u/\D.rt v H'

def PE (X:Cx) (e:Expr) (t:TE):Prop :=
 ∀ (pins:List (Addr×Obj)) (s:Shared) (σ:St) (H:Hp) (Q:VK),Ax X pins σ H s->t σ H Q->wpAny (model X.prog X.w) X.A (eval e X.env) (EP X pins σ Q) X.xe s
def PT (X:Cx) (e:Expr) (t:TT):Prop :=
 ∀ (pins:List (Addr×Obj)) (s:Shared) (σ:St) (H:Hp) (Q:Bool->Hp->Prop),Ax X pins σ H s->t σ H Q->wpAny (model X.prog X.w) X.A (isTrue e X.env (eval e X.env)) (TP X pins σ Q) X.xe s
def PW (X:Cx) (e:Expr) (t:TT):Prop :=
 ∀ (whole:Sem Value) (pins:List (Addr×Obj)) (s:Shared) (σ:St) (H:Hp) (Q:Bool->Hp->Prop),Ax X pins σ H s->t σ H Q->wpAny (model X.prog X.w) X.A (isTrue e X.env whole) (TP X pins σ Q) X.xe s
theorem PW.pt {X:Cx} {e:Expr} {t:TT} (h:PW X e t):PT X e t:=h _
def PA (X:Cx) (es:List Expr) (t:TA):Prop :=
 ∀ (pos:Pos) (pins:List (Addr×Obj)) (s:Shared) (σ:St) (H:Hp) (Q:List V->Hp->Prop),Ax X pins σ H s->t σ H Q->wpAny (model X.prog X.w) X.A (spliced (backTo pos (starEach es X.env))) (AP X pins σ Q) X.xe s
def PS (X:Cx) (st:Stmt) (t:TS):Prop :=
 ∀ (pins:List (Addr×Obj)) (s:Shared) (σ:St) (H:Hp) (D:FO),Ax X pins σ H s->t D σ H->wpAny (model X.prog X.w) X.A (exec st X.env) (SP X pins D) X.xe s
def Ix (X:Cx) (st:List Stmt) (t:TS):Prop :=
 ∀ (pins:List (Addr×Obj)) (s:Shared) (σ:St) (H:Hp) (D:FO),Ax X pins σ H s->t D σ H->wpAny (model X.prog X.w) X.A (execs st X.env) (SP X pins D) X.xe s
theorem Bt {α:Type} {t:Sem α} {Q Q':α->Shared->Prop} {M:Model} {A:Around} {E:Value->Shared->Prop} {s:Shared} (h:wpAny M A t Q E s) (hQ:∀ a s,Q a s->Q' a s):wpAny M A t Q' E s:=wpAny_mono h hQ λ_ _ x=>x
section
variable {X:Cx}

def GW (i:Nat):TE:=λσ H Q=>∃ v,σ[i]?=some (some v)/\Q v H
def tC (v:V):TE:=λ_ H Q=>Q v H
theorem pe_var {i:Nat} {x:Str} {pos:Pos} (hN:X.N[i]?=some x) (hv:Vis X.env.scope x) (hd:(x == ("__debug__":Str))=false:=by kd_p) (hcd:(x == ("__classdict__":Str))=false:=by kd_p):PE X (.Name x pos) (GW i):=by
 intro pins s σ H Q I h
 obtain ⟨v,e,h⟩:=h
 obtain ⟨m,hn,hl⟩:=I.loc
 obtain ⟨u,r,l⟩:=hl i x v hN e hv
 have fin:EP X pins σ Q u s:=⟨v,H,I,r,h⟩
 rcases l with ⟨hk,hm⟩ | ⟨hk,c,hc,hcell⟩
 ·exact wpAny_Name (wpAny_loadName_local I.ok.kind hk hn hm fin) hd
 ·rcases hk with hk | hk
  ·exact wpAny_Name (wpAny_loadName_cell I.ok.kind hk hc hcell fin) hd
  ·exact wpAny_Name (wpAny_loadName_free I.ok.kind hk hc hcell fin hcd) hd
theorem Ac {i j pos}:PE X (.Constant (.int i) j pos) (tC (.int i)):=λ_ _ _ H _ I h=>wpAny_Constant_int ⟨.int i,H,I.tok _,⟨_,rfl⟩,h⟩
theorem FC {b j pos}:PE X (.Constant (.bool b) j pos) (tC (.bl b)):=λ_ _ _ H _ I h=>Constant_bool ⟨.bl b,H,I,rfl,h⟩
theorem AQ {j pos}:PE X (.Constant .none j pos) (tC .non):=λ_ _ _ H _ I h=>Constant_none ⟨.non,H,I,rfl,h⟩
theorem Ai {x j pos}:PE X (.Constant (.str x) j pos) (tC (.str x)):=λ_ _ _ H _ I h=>Calls.Constant_str ⟨.str x,H,I.tok _,⟨_,rfl⟩,h⟩

def Gl (X:Cx) (x:Str):Prop:=X.env.kindOf x=some .globalImplicit
theorem Ev {E:Value->Shared->Prop} {pins:List (Addr×Obj)} {s:Shared} {σ:St} {H:Hp} {x:Str} {u:Value} {pos:Pos} {Q:Value->Shared->Prop} (I:Ax X pins σ H s) (hg:Gl X x) (hm:X.mg x=some u) (h:Q u s)
  (hd:(x == ("__debug__":Str))=false:=by kd_p):wpAny (model X.prog X.w) X.A (eval (.Name x pos) X.env) Q E s :=
 Calls.Name_function_global I.ok.kind hg (Calls.loadGlobal_global (by rw [I.ok.glob];exact I.mod.glob.keeps I.bk) hm h) hd
theorem GO {E:Value->Shared->Prop} {pins:List (Addr×Obj)} {s:Shared} {σ:St} {H:Hp} {x:Str} {u:Value} {pos:Pos} {Q:Value->Shared->Prop} (I:Ax X pins σ H s) (hg:Gl X x) (hm:X.mg x=none) (hv:bootBuiltins x=some u) (h:Q u s)
  (hn:x≠"__name__":=by kd_p) (hd:(x == ("__debug__":Str))=false:=by kd_p):wpAny (model X.prog X.w) X.A (eval (.Name x pos) X.env) Q E s:=by
 obtain ⟨mb,h1,h2⟩:=I.mod.blt
 exact Calls.Name_function_global I.ok.kind hg (Calls.loadGlobal_builtin (by rw [I.ok.glob];exact I.mod.glob.keeps I.bk) hm (by rw [I.ok.blt];exact h1.keeps I.bk) ((h2 x hn).trans hv) h) hd
theorem Ck {x:Str} {v:V} {u:Value} {pos:Pos} (hg:Gl X x) (hm:X.mg x=some u) (r:Bd v u) (hd:(x == ("__debug__":Str))=false:=by kd_p):PE X (.Name x pos) (tC v) :=
 λ_ _ _ H _ I h=>Ev I hg hm ⟨v,H,I,r,h⟩ hd
theorem DU {x:Str} {v:V} {u:Value} {pos:Pos} (hg:Gl X x) (hm:X.mg x=none) (hv:bootBuiltins x=some u) (r:Bd v u) (hn:x≠"__name__":=by kd_p) (hd:(x == ("__debug__":Str))=false:=by kd_p):PE X (.Name x pos) (tC v) :=
 λ_ _ _ H _ I h=>GO I hg hm hv ⟨v,H,I,r,h⟩ hn hd

variable {a b:Expr} {ta tb:TE} {pos:Pos}
def PC (X:Cx) (op:CmpOp) (a b:Expr) (t:TE):Prop :=
 ∀ (pins:List (Addr×Obj)) (s:Shared) (σ:St) (H:Hp) (Q:VK),Ax X pins σ H s->t σ H Q ->
  wpAny (model X.prog X.w) X.A (eval a X.env) (λv s₁=>wpAny (model X.prog X.w) X.A (eval b X.env) (λu s₂=>wpAny (model X.prog X.w) X.A (compareOp op v u) (EP X pins σ Q) X.xe s₂) X.xe s₁) X.xe s
theorem Np (b:Expr) {op:CmpOp} (h:op≠.In) (h2:op≠.NotIn):behindInMarks op b=false:=by
 have e1:(op == CmpOp.In)=false:=by cases op<;>first | rfl | exact absurd rfl h
 have e2:(op == CmpOp.NotIn)=false:=by cases op<;>first | rfl | exact absurd rfl h2
 cases b<;>simp [behindInMarks,e1,e2]
def tB (t:TE):TT:=λσ H Q=>t σ H λx H1=>∃ c,x=.bl c/\Q c H1
theorem Tf {op:CmpOp} {t:TE} (h:PC X op a b t) (h1:behindInMarks op b=false:=by first | exact Np _ (by kd_p) (by kd_p) | rfl):PE X (.Compare a [op] [b] pos) t:=λpins s σ H Q I hw=>wpAny_Compare1 (h pins s σ H Q I hw) h1
theorem OA {op:CmpOp} {t:TE} (h:PC X op a b t) (h1:behindInMarks op b=false:=by first | exact Np _ (by kd_p) (by kd_p) | rfl):PT X (.Compare a [op] [b] pos) (tB t):=by
 intro pins s σ H Q I hw
 refine wpAny_isTrue_Compare1 (Bt (h pins s σ H _ I hw) λv s1 h1=>Bt h1 λu s2 h2=>Bt h2 λc s3 ⟨x,H1,I1,r1,q1⟩=>?_) h1
 obtain ⟨d,rfl,q⟩:=q1
 cases r1
 exact wpAny_truthy_bool ⟨H1,I1,q⟩
theorem Cv {e:Expr} {t:TE} (h:PE X e t) (he:∀ whole,isTrue e X.env whole=(do let v <- whole;standAt e.pos;holding [v] (truthy v)):=by intro _;rfl):PT X e (tB t):=by
 intro pins s σ H Q I hw
 refine isTrue_plain (Bt (h pins s σ H _ I hw) λv s1 ⟨x,H1,I1,r1,q1⟩=>?_) (he _)
 obtain ⟨d,rfl,q⟩:=q1
 cases r1
 exact wpAny_truthy_bool ⟨H1,I1,q⟩

variable {tA tB':TT} {Cf:List Expr}
def tAnd (t u:TT):TT:=λσ H Q=>t σ H λc H1=>if c=true then u σ H1 Q else Q false H1
def tOr (t u:TT):TT:=λσ H Q=>t σ H λc H1=>if c=true then Q true H1 else u σ H1 Q
def tNot (t:TT):TT:=λσ H Q=>t σ H λc H1=>Q (!c) H1
theorem BM (ha:PT X a tA):PW X (.BoolOp .And [a] pos) tA:=by
 intro wh pins s σ H Q I h
 refine isTrue_and (Bt (ha pins s σ H Q I h) λc s1 e=>?_)
 cases c with
 |true=>exact isTrue_and_nil e
 |false=>exact e
theorem Dd (ha:PT X a tA):PW X (.BoolOp .Or [a] pos) tA:=by
 intro wh pins s σ H Q I h
 refine isTrue_or (Bt (ha pins s σ H Q I h) λc s1 e=>?_)
 cases c with
 |false=>exact isTrue_or_nil e
 |true=>exact e
theorem BR (ha:PT X a tA) (hb:PW X (.BoolOp .And (b::Cf) pos) tB'):PW X (.BoolOp .And (a::b::Cf) pos) (tAnd tA tB'):=by
 intro wh pins s σ H Q I h
 refine isTrue_and (Bt (ha pins s σ H _ I h) λc s1 ⟨H1,I1,q1⟩=>?_)
 cases c with
 |true=>exact hb wh pins s1 σ H1 Q I1 q1
 |false=>exact ⟨H1,I1,q1⟩
theorem Eb (ha:PT X a tA) (hb:PW X (.BoolOp .Or (b::Cf) pos) tB'):PW X (.BoolOp .Or (a::b::Cf) pos) (tOr tA tB'):=by
 intro wh pins s σ H Q I h
 refine isTrue_or (Bt (ha pins s σ H _ I h) λc s1 ⟨H1,I1,q1⟩=>?_)
 cases c with
 |true=>exact ⟨H1,I1,q1⟩
 |false=>exact hb wh pins s1 σ H1 Q I1 q1
theorem DK (ha:PT X a tA):PT X (.UnaryOp .Not a pos) (tNot tA):=by
 intro pins s σ H Q I h
 exact isTrue_not (ha pins s σ H (λc H1=>Q (!c) H1) I h)
def tAndV (ta tb:TE):TE:=λσ H Q=>ta σ H λx H1=>∃ c,x=.bl c/\if c=true then tb σ H1 Q else Q (.bl false) H1
def tOrV (ta tb:TE):TE:=λσ H Q=>ta σ H λx H1=>∃ c,x=.bl c/\if c=true then Q (.bl true) H1 else tb σ H1 Q
def tNotV (ta:TE):TE:=λσ H Q=>ta σ H λx H1=>∃ c,x=.bl c/\Q (.bl (!c)) H1
theorem De {op} {t:TE} (h:PE X a t):PE X (.BoolOp op [a] pos) t:=λpins s σ H Q I hw=>BoolOp_one (h pins s σ H Q I hw)
theorem Dm (ha:PE X a ta) (hb:PE X (.BoolOp .And (b::Cf) pos) tb):PE X (.BoolOp .And (a::b::Cf) pos) (tAndV ta tb):=by
 intro pins s σ H Q I h
 refine BoolOp_and (Bt (ha pins s σ H _ I h) λv s1 ⟨x,H1,I1,r1,q1⟩=>?_)
 obtain ⟨c,rfl,q1⟩:=q1
 cases r1
 refine wpAny_truthy_bool ?_
 cases c with
 |true=>exact hb pins s1 σ H1 Q I1 q1
 |false=>exact ⟨.bl false,H1,I1,rfl,q1⟩
theorem Qa (ha:PE X a ta) (hb:PE X (.BoolOp .Or (b::Cf) pos) tb):PE X (.BoolOp .Or (a::b::Cf) pos) (tOrV ta tb):=by
 intro pins s σ H Q I h
 refine BoolOp_or (Bt (ha pins s σ H _ I h) λv s1 ⟨x,H1,I1,r1,q1⟩=>?_)
 obtain ⟨c,rfl,q1⟩:=q1
 cases r1
 refine wpAny_truthy_bool ?_
 cases c with
 |false=>exact hb pins s1 σ H1 Q I1 q1
 |true=>exact ⟨.bl true,H1,I1,rfl,q1⟩
theorem Tc (ha:PE X a ta):PE X (.UnaryOp .Not a pos) (tNotV ta):=by
 intro pins s σ H Q I h
 refine UnaryOp_ (Bt (ha pins s σ H _ I h) λv s1 ⟨x,H1,I1,r1,q1⟩=>?_)
 obtain ⟨c,rfl,q1⟩:=q1
 cases r1
 exact not_of (wpAny_truthy_bool ⟨.bl (!c),H1,I1,rfl,q1⟩)
def tIf (t:TT) (ta tb:TE):TE:=λσ H Q=>t σ H λc H1=>if c=true then ta σ H1 Q else tb σ H1 Q
theorem EI {c:Expr} (hc:PT X c tA) (ha:PE X a ta) (hb:PE X b tb):PE X (.IfExp c a b pos) (tIf tA ta tb):=by
 intro pins s σ H Q I h
 refine wpAny_IfExp (Bt (hc pins s σ H _ I h) λd s1 ⟨H1,I1,q1⟩=>?_)
 cases d with
 |true=>exact ha pins s1 σ H1 Q I1 q1
 |false=>exact hb pins s1 σ H1 Q I1 q1
end

def Aw (K:J0) (H:Hp) (a:Addr) (xs:List V):Prop :=
 Rd H a (.lst xs) \/
  ∃ (o:Obj) (its:Array Value) (n:Nat),K.lookup a=some o/\o.cls=.type "list"/\o.dict=none/\o.data=.seq its n/\its.size<=sizeLine/\AL xs its.toList
def Cn (K:J0) (H:Hp) (a:Addr) (xs:List V):Prop :=
 Rd H a (.tup xs) \/
  ∃ (o:Obj) (its:Array Value) (n:Nat),K.lookup a=some o/\o.cls=.type "tuple"/\o.data=.seq its n/\its.size<=sizeLine/\AL xs its.toList
def absV:Value->Option V
 |.none=>some .non
 |.bool b=>some (.bl b)
 |.int i _=>some (.int i)
 |.str x _=>some (.str x)
 |.bytes b _=>some (.byt b)
 |.float b _=>some (.flt b)
 |.ref a=>some (.ref a)
 |.type n=>some (.ty n)
 |_=>none
theorem Bd.abs {x:V} {u:Value} (r:Bd x u):absV u=some x:=by
 cases x with
 |non=>cases r;rfl
 |bl _=>cases r;rfl
 |int _=>obtain ⟨t,rfl⟩:=r;rfl
 |str _=>obtain ⟨t,rfl⟩:=r;rfl
 |byt _=>obtain ⟨t,rfl⟩:=r;rfl
 |flt _=>obtain ⟨t,rfl⟩:=r;rfl
 |ref _=>cases r;rfl
 |ty _=>cases r;rfl
theorem Bd.inj {x y:V} {u:Value} (r:Bd x u) (q:Bd y u):x=y:=Option.some.inj (r.abs.symm.trans q.abs)
theorem AL.inj:∀ {xs ys:List V} {us:List Value},AL xs us->AL ys us->xs=ys
 |_,_,_,.nil,.nil=>rfl
 |_,_,_,.cons r t,.cons r' t'=>by rw [r.inj r',AL.inj t t']
section
variable {X:Cx} {pins:List (Addr×Obj)} {σ:St} {H:Hp} {s:Shared} {a:Addr} {xs ys:List V}
theorem Aw.of {K:J0} (h:H a=some (.lst xs)):Aw K H a xs:=.inl (.inl h)
theorem Cn.of {K:J0} (h:H a=some (.tup xs)):Cn K H a xs:=.inl (.inl h)
theorem Ax.list (I:Ax X pins σ H s) (h:Aw X.K H a xs):∃ its:List Value,AL xs its/\PlainL s.heap a its.toArray/\xs.length<=sizeLine:=by
 rcases h with h | ⟨o,its,n,hk,hc,hd,hs,hz,r⟩
 ·obtain ⟨z,its,n,r,e⟩:=h.ok I.hok
  exact ⟨its,r,⟨_,n,e,rfl,rfl,rfl⟩,z⟩
 ·refine ⟨its.toList,r,⟨o,n,I.kIn a o hk,hc,hd,by simpa using hs⟩,?_⟩
  have e:=r.length
  simp only [Z7] at e
  lia
theorem Ax.tuple (I:Ax X pins σ H s) (h:Cn X.K H a xs):∃ its:List Value,AL xs its/\IsTup s.heap a its.toArray/\xs.length<=sizeLine:=by
 rcases h with h | ⟨o,its,n,hk,hc,hs,hz,r⟩
 ·obtain ⟨z,its,r,p⟩:=h.ok I.hok
  exact ⟨its,r,p,z⟩
 ·refine ⟨its.toList,r,⟨o,I.kIn a o hk,hc,n,by simpa using hs⟩,?_⟩
  have e:=r.length
  simp only [Z7] at e
  lia
theorem Ax.list_inj (I:Ax X pins σ H s) (h:Aw X.K H a xs) (h':Aw X.K H a ys):xs=ys:=by
 obtain ⟨its,r,⟨o,n,e,_,_,d⟩,_⟩:=I.list h
 obtain ⟨its',r',⟨o',n',e',_,_,d'⟩,_⟩:=I.list h'
 rw [e] at e';cases e'
 rw [d] at d'
 injection d' with d1 _
 have:its=its':=by simpa using congrArg Array.toList d1
 subst this
 exact r.inj r'
theorem Ax.tuple_inj (I:Ax X pins σ H s) (h:Cn X.K H a xs) (h':Cn X.K H a ys):xs=ys:=by
 obtain ⟨its,r,⟨o,e,_,n,d⟩,_⟩:=I.tuple h
 obtain ⟨its',r',⟨o',e',_,n',d'⟩,_⟩:=I.tuple h'
 rw [e] at e';cases e'
 rw [d] at d'
 injection d' with d1 _
 have:its=its':=by simpa using congrArg Array.toList d1
 subst this
 exact r.inj r'
end

abbrev Cx.wish (X:Cx) (E:Value->Shared->Prop):Cx:={ X with xe:=E }
abbrev Cx.nox (X:Cx):Cx:=X.wish λ_ _=>False
theorem Cx.Ok.wish {X:Cx} (ok:X.Ok) (E:Value->Shared->Prop):(X.wish E).Ok :=
 ⟨ok.mod,ok.kind,ok.glob,ok.blt,ok.above,ok.inj,ok.has,ok.cab,ok.hd,ok.frames,ok.stk,ok.exf,ok.bs,ok.bsz,ok.noex,ok.exfs,ok.funs,ok.frf⟩
theorem Cx.Ok.unwish {X:Cx} {E:Value->Shared->Prop} (ok:(X.wish E).Ok):X.Ok :=
 ⟨ok.mod,ok.kind,ok.glob,ok.blt,ok.above,ok.inj,ok.has,ok.cab,ok.hd,ok.frames,ok.stk,ok.exf,ok.bs,ok.bsz,ok.noex,ok.exfs,ok.funs,ok.frf⟩
section
variable {X:Cx} {pins:List (Addr×Obj)} {σ:St} {H:Hp} {s:Shared} {E:Value->Shared->Prop}
theorem Ax.wish (I:Ax X pins σ H s) (E:Value->Shared->Prop):Ax (X.wish E) pins σ H s:=⟨I.ok.wish E,I.os,I.bare,I.base,I.loc,I.cell,I.free,I.freeC,I.pin,I.hok,I.len⟩
theorem Ax.unwish (I:Ax (X.wish E) pins σ H s):Ax X pins σ H s:=⟨I.ok.unwish,I.os,I.bare,I.base,I.loc,I.cell,I.free,I.freeC,I.pin,I.hok,I.len⟩
theorem SP.unwish {D:FO} {f:Flow} {s':Shared} (h:SP (X.wish E) pins D f s'):SP X pins D f s':=by
 cases f with
 |next=>obtain ⟨σ',H',I,q⟩:=h;exact ⟨σ',H',I.unwish,q⟩
 |brk=>obtain ⟨σ',H',I,q⟩:=h;exact ⟨σ',H',I.unwish,q⟩
 |cont=>obtain ⟨σ',H',I,q⟩:=h;exact ⟨σ',H',I.unwish,q⟩
 |ret u=>obtain ⟨v,σ',H',I,r,q⟩:=h;exact ⟨v,σ',H',I.unwish,r,q⟩
theorem Ix.nox {st:List Stmt} {t:TS} (h:Ix X.nox st t):Ix X st t:=λpins s σ H D I hw =>
 wpAny_mono (h pins s σ H D (I.wish _) hw) (λ_ _ q=>q.unwish) λ_ _ z=>False.elim z
end

section
variable {X:Cx} {st:Stmt} {Cf:List Stmt} {t u:TS} {e:Expr} {te:TE} {pos:Pos}
def tNext:TS:=λD σ H=>D.nx σ H
def tSeq (t u:TS):TS:=λD σ H=>t { D with nx:=u D } σ H
theorem Ao:Ix X [] tNext:=λ_ _ σ H _ I h=>wpAny_execs_nil ⟨σ,H,I,h⟩
theorem Ae (h1:PS X st t) (h2:Ix X Cf u):Ix X (st::Cf) (tSeq t u):=by
 intro pins s σ H D I h
 refine wpAny_execs_cons (Bt (h1 pins s σ H { D with nx:=u D } I h) λf s1 q=>?_)
 cases f with
 |next =>
  obtain ⟨σ',H',I',q⟩:=q
  exact h2 pins s1 σ' H' D I' q
 |ret v=>exact q
 |brk=>exact q
 |cont=>exact q
theorem Af (h1:PS X st t):Ix X [st] t:=by
 intro pins s σ H D I h
 refine wpAny_execs_cons (Bt (h1 pins s σ H D I h) λf s1 q=>?_)
 cases f with
 |next=>exact wpAny_execs_nil q
 |ret v=>exact q
 |brk=>exact q
 |cont=>exact q
def tCont:TS:=λD σ H=>D.ct σ H
theorem MZ:PS X (.Continue pos) tCont:=λ_ _ σ H _ I h=>wpAny_Continue ⟨σ,H,I,h⟩
theorem Ax.quiet {pins:List (Addr×Obj)} {σ:St} {H:Hp} {s:Shared} (I:Ax X pins σ H s):interactive X.env=false:=by simp [interactive,I.ok.kind]
def tDrop (te:TE):TS:=λD σ H=>te σ H λ_ H1=>D.nx σ H1
theorem AR (he:PE X e te) (hs:swapsWith e none pos.line X.env=pure false:=by rfl):PS X (.Expr e pos) (tDrop te):=by
 intro pins s σ H D I h
 exact wpAny_Expr_any (Bt (he pins s σ H _ I h) λv s1 ⟨x,H1,I1,r1,q1⟩=>⟨σ,H1,I1,q1⟩) I.quiet hs
def tRet (te:TE):TS:=λD σ H=>te σ H D.rt
theorem Am (he:PE X e te):PS X (.Return (some e) pos) (tRet te):=by
 intro pins s σ H D I h
 exact wpAny_Return_some (Bt (he pins s σ H _ I h) λv s1 ⟨x,H1,I1,r1,q1⟩=>⟨x,σ,H1,I1,r1,q1⟩)
def tRetN:TS:=λD _ H=>D.rt .non H
def tIfS (c:TT) (t u:TS):TS:=λD σ H=>c σ H λb H1=>if b=true then t D σ H1 else u D σ H1
theorem Au {c:Expr} {a b:List Stmt} {tc:TT} (hc:PT X c tc) (ha:Ix X a t) (hb:Ix X b u):PS X (.If c a b pos) (tIfS tc t u):=by
 intro pins s σ H D I h
 refine wpAny_If (Bt (hc pins s σ H _ I h) λd s1 ⟨H1,I1,q1⟩=>?_)
 cases d with
 |true=>exact ha pins s1 σ H1 D I1 q1
 |false=>exact hb pins s1 σ H1 D I1 q1
end

abbrev TG:=V->St->Hp->(St->Hp->Prop)->Prop
abbrev TGs:=List V->St->Hp->(St->Hp->Prop)->Prop
def PG (X:Cx) (target:Expr) (t:TG):Prop :=
 ∀ (pins:List (Addr×Obj)) (s:Shared) (σ:St) (H:Hp) (v:V) (u:Value) (Q:St->Hp->Prop),Ax X pins σ H s->Bd v u->t v σ H Q ->
  wpAny (model X.prog X.w) X.A (assign target X.env u) (λ_ s'=>∃ σ' H',Ax X pins σ' H' s'/\Q σ' H') X.xe s
def PGs (X:Cx) (ts:List Expr) (t:TGs):Prop :=
 ∀ (pins:List (Addr×Obj)) (s:Shared) (σ:St) (H:Hp) (vs:List V) (us:List Value) (Q:St->Hp->Prop),Ax X pins σ H s->AL vs us->t vs σ H Q ->
  wpAny (model X.prog X.w) X.A (assignInOrder ((assignEach ts X.env).map (·.2)) us) (λ_ s'=>∃ σ' H',Ax X pins σ' H' s'/\Q σ' H') X.xe s
abbrev TSet:=V->V->V->Hp->(Hp->Prop)->Prop
def PSet (X:Cx) (t:TSet):Prop :=
 ∀ (pins:List (Addr×Obj)) (s:Shared) (σ:St) (H:Hp) (o i v:V) (ov iv u:Value) (Q:Hp->Prop),Ax X pins σ H s->Bd o ov->Bd i iv->Bd v u->t o i v H Q ->
  wpAny (model X.prog X.w) X.A (setItem ov iv u) (λ_ s'=>∃ H',Ax X pins σ H' s'/\Q H') X.xe s
section
variable {X:Cx} {pos:Pos}
def Ir (i:Nat):TG:=λv σ H Q=>Q (σ.set i (some v)) H
theorem AK {i:Nat} {x:Str} (hN:X.N.Nodup) (hi:X.N[i]?=some x) (hx:Loc X.env.scope x) (hf:X.fn x=true\/X.env.scope.names.lookup x=some .local:=by first | exact .inl rfl | exact .inr rfl | assumption):PG X (.Name x pos) (Ir i):=by
 intro pins s σ H v u Q I r h
 exact wpAny_assign_Name (IY I hN hi hx r (λs' I'=>⟨_,H,I',h⟩) hf)
def Ma:TGs:=λvs σ H Q=>vs=[]/\Q σ H
def Gy (t:TG) (u:TGs):TGs:=λvs σ H Q=>∃ v r,vs=v::r/\t v σ H λσ' H'=>u r σ' H' Q
theorem Es:PGs X [] Ma:=by
 intro pins s σ H vs us Q I r h
 obtain ⟨e,h⟩:=h
 subst e
 cases r
 exact assignInOrder_nil ⟨σ,H,I,h⟩
theorem Bn {e:Expr} {es:List Expr} {t:TG} {u:TGs} (h1:PG X e t) (h2:PGs X es u)
  (hs:(assignEach (e::es) X.env).map (·.2)=assign e X.env::(assignEach es X.env).map (·.2):=by rfl):PGs X (e::es) (Gy t u):=by
 intro pins s σ H vs us Q I r h
 obtain ⟨v,vr,e1,h⟩:=h
 subst e1
 cases r with
 |cons r rr =>
  rw [hs]
  refine assignInOrder_cons (Bt (h1 pins s σ H _ _ _ I r h) λ_ s1 ⟨σ1,H1,I1,q1⟩=>?_)
  exact h2 pins s1 σ1 H1 _ _ Q I1 rr q1
def Ur (K:J0) (n:Nat) (t:TGs):TG:=λv σ H Q=>∃ a xs,v=.ref a/\Cn K H a xs/\xs.length=n/\t xs σ H Q
theorem HG {es:List Expr} {k:Nat} {t:TGs} {n:Nat} (hc:X.calm=true) (h:PGs X es t)
  (hn:(assignEach es X.env).length=n:=by rfl) (hst:(assignEach es X.env).findIdx? (·.1)=none:=by rfl):PG X (.Tuple es k pos) (Ur X.K n t):=by
 intro pins s σ H v u Q I r hw
 obtain ⟨a,xs,e1,hq,hl,hw⟩:=hw
 subst e1
 cases r
 obtain ⟨its,rv,ht,hz⟩:=I.tuple hq
 refine assign_Tuple_tuple (I.ok.hd hc) ht (by simp [hn,<- hl,rv.length]) hst λh' hx=>?_
 have I1:Ax X pins σ H { s with heap:=h' }:=I.kept (t':=s.toks) λb o e=>hx b o (Y1 (Heap.lt_size e)) e
 exact h pins _ σ H xs _ Q I1 (by simpa using rv) hw
def gSub (to ti:TE) (t:TSet):TG:=λv σ H Q=>to σ H λo H1=>ti σ H1 λi H2=>t o i v H2 λH3=>Q σ H3
theorem pg_sub {o i:Expr} {to ti:TE} {t:TSet} (ho:PE X o to) (hi:PE X i ti) (hs:PSet X t)
  (ha:∀ v,assign (.Subscript o i pos) X.env v=(do
   let ov <- holding [v] (eval o X.env)
   let iv <- holding [v,ov] (eval i X.env)
   standAt pos
   holding [v,ov,iv] (setItem ov iv v)
   release [v,ov,iv] []):=by intro _;rfl):PG X (.Subscript o i pos) (gSub to ti t):=by
 intro pins s σ H v u Q I r h
 rw [ha]
 refine wpAny_bind (wpAny_holding (Bt (ho pins s σ H _ I h) λov s1 ⟨x,H1,I1,r1,q1⟩=>?_))
 refine wpAny_bind (wpAny_holding (Bt (hi pins s1 σ H1 _ I1 q1) λiv s2 ⟨y,H2,I2,r2,q2⟩=>?_))
 refine wpAny_bind (wpAny_standAt (wpAny_bind (wpAny_holding (Bt (hs pins s2 σ H2 x y v ov iv u _ I2 r1 r2 r q2) λ_ s3 ⟨H3,I3,q3⟩=>?_))))
 exact wpAny_release ⟨σ,H3,I3,q3⟩
def tAsg (te:TE) (g:TG):TS:=λD σ H=>te σ H λx H1=>g x σ H1 D.nx
theorem OB {tg e:Expr} {te:TE} {g:TG} (he:PE X e te) (hg:PG X tg g) (hs:swapsWithSole [tg] e pos.line X.env=pure false:=by rfl) (hw:swappedStores [tg] e X.env=pure none:=by rfl)
  (h1:(assignEach [tg] X.env).map (·.2)=[assign tg X.env]:=by rfl):PS X (.Assign [tg] e pos) (tAsg te g):=by
 intro pins s σ H D I h
 refine wpAny_Assign_stores (Bt (he pins s σ H _ I h) λv s1 ⟨x,H1,I1,r1,q1⟩=>?_) hs hw
 rw [h1]
 exact Bt (hg pins s1 σ H1 x v _ I1 r1 q1) λ_ s2 q=>q
theorem As {i:Nat} {x:Str} {e:Expr} {te:TE} {pos':Pos} (hN:X.N.Nodup) (hi:X.N[i]?=some x) (hx:Loc X.env.scope x) (he:PE X e te) (hs:swapsWith e (some (.Name x pos')) pos.line X.env=pure false:=by rfl) (hf:X.fn x=true\/X.env.scope.names.lookup x=some .local:=by first | exact .inl rfl | exact .inr rfl | assumption) :
  PS X (.Assign [.Name x pos'] e pos) (tAsg te (Ir i)):=by
 intro pins s σ H D I h
 refine wpAny_Assign_Name (Bt (he pins s σ H _ I h) λv s1 ⟨y,H1,I1,r1,q1⟩=>?_) hs
 exact IY I1 hN hi hx r1 (λs2 I2=>⟨_,H1,I2,q1⟩) hf
end

section
variable {X:Cx} {pos:Pos}
def Sj (c:TT) (tb:TS):TS:=λD σ H=>∃ W:Nat->St->Hp->Prop,(∃ m,W m σ H)/\∀ m σ H,W m σ H ->
 c σ H λb H1=>if b=true then ∃ N:St->Hp->Prop,(∀ σ' H',N σ' H'->∃ m',m'<m/\W m' σ' H')/\tb { D with nx:=N,ct:=N,bk:=D.nx } σ H1 else D.nx σ H1
theorem SX {c:Expr} {body:List Stmt} {tc:TT} {tb:TS} (hp:PassesOwn (model X.prog X.w) X.A X.env X.xe) (hc:PT X c tc) (hb:Ix X body tb):PS X (.While c body [] pos) (Sj tc tb):=by
 intro pins s σ H D I h
 obtain ⟨W,⟨m0,w0⟩,turn⟩:=h
 refine wpAny_While (codeAny_whileLoop (λn s'=>∃ σ' H',Ax X pins σ' H' s'/\W n σ' H') ?_ m0 ⟨σ,H,I,w0⟩)
 rintro n s1 ⟨σ1,H1,I1,w1⟩
 refine wpAny_passesOwn hp (Bt (hc pins s1 σ1 H1 _ I1 (turn n σ1 H1 w1)) λb s2 ⟨H2,I2,q2⟩=>?_)
 cases b with
 |true =>
  obtain ⟨N,hN,q2⟩:=q2
  rw [if_pos rfl]
  refine wpAny_passesOwn hp (Bt (hb pins s2 σ1 H2 _ I2 q2) λf s3 q3=>?_)
  cases f with
  |next =>
   obtain ⟨σ3,H3,I3,n3⟩:=q3
   obtain ⟨m',hm,w3⟩:=hN σ3 H3 n3
   exact ⟨m',hm,σ3,H3,I3,w3⟩
  |cont =>
   obtain ⟨σ3,H3,I3,n3⟩:=q3
   obtain ⟨m',hm,w3⟩:=hN σ3 H3 n3
   exact ⟨m',hm,σ3,H3,I3,w3⟩
  |brk=>exact q3
  |ret v=>exact q3
 |false =>
  rw [if_neg Q0]
  exact wpAny_execs_nil ⟨σ1,H2,I2,q2⟩
end

set_option genInjectivity false in
structure It where
 go:Nat->Hp->Prop
 yld:Nat->Hp->V->Hp->Prop
 stop:Nat->Hp->Prop
def EE (X:Cx) (pins:List (Addr×Obj)) (H:Hp) (b:Addr):Prop :=
 H b=none/\b≠X.env.locals/\b∉X.fs/\(b∈X.ex\/X.s₀.heap.objs.size<=b)/\(∀ x c,X.env.cells.lookup x=some c->c≠b)/\∀ p∈X.pn++pins,p.1≠b
theorem Ax.fpOk {X:Cx} {pins:List (Addr×Obj)} {σ:St} {H H':Hp} {s:Shared} {b:Addr} (I:Ax X pins σ H s) (hb:s.heap.objs.size<=b) (hn:H' b=none):EE X pins H' b:=by
 refine ⟨hn,y8 (V1 I.lt hb),I.nofs hb,.inr (T0 I.sz hb),λx c e z=>?_,λp hp z=>?_⟩
 ·obtain ⟨v,q⟩:=I.cell x c e
  exact absurd (V1 q.lt (by rw [z];exact hb)) (B6 _)
 ·exact absurd (V1 (Heap.lt_size (I.pin p hp).1) (by rw [z];exact hb)) (B6 _)
structure Kc (P:Program) (w:World) (K:J0) (tg:Expr) (J:It) (fp:List Addr) (it:Addr) (tn:Nat->Heap->Prop):Prop where
 mem:it∈fp
 obj:∀ i h,tn i h->∀ b∈fp,∃ o,h.get? b=some o/\∀ v,o.data≠.cell v
 keep:∀ i h h',tn i h->(∀ b∈fp,∀ o,h.get? b=some o->h'.get? b=some o)->tn i h'
 item:∀ (X:Cx),X.prog=P->X.w=w->X.K=K->X.calm=true->∀ (i:Nat) (pins:List (Addr×Obj)) (s:Shared) (σ:St) (H:Hp) (E:Value->Shared->Prop),Ax X pins σ H s->(∀ b∈fp,EE X pins H b)->tn i s.heap->J.go i H ->
  wpAny (model P w) X.A (pyNext (.ref it)) (λr s1=>∃ u,r=some u /\
   wpAny (model P w) X.A (letOwnedTupleGo tg (.ref it) u) (λ_ s2=>∃ x H',Ax X pins σ H' s2/\Bd x u/\J.yld i H x H'/\tn (i+1) s2.heap/\∀ b∈fp,H' b=none) E s1) E s
 done:∀ (X:Cx),X.prog=P->X.w=w->X.K=K->X.calm=true->∀ (i:Nat) (pins:List (Addr×Obj)) (s:Shared) (σ:St) (H:Hp) (E:Value->Shared->Prop),Ax X pins σ H s->(∀ b∈fp,EE X pins H b)->tn i s.heap->J.stop i H ->
  wpAny (model P w) X.A (pyNext (.ref it)) (λr s1=>r=none/\Ax X pins σ H s1) E s
 self:∀ (A:Around) (i:Nat) (s:Shared) (Q:Value->Shared->Prop) (E:Value->Shared->Prop),tn i s.heap->Q (.ref it) s->wpAny (model P w) A (pyIter (.ref it)) Q E s
abbrev TI:=St->Hp->(It->Hp->Prop)->Prop
def PIE (X:Cx) (pins:List (Addr×Obj)) (σ:St) (tg:Expr) (R:It->Hp->Prop) (itv:Value) (s2:Shared):Prop :=
 ∃ (it:Addr) (fp:List Addr) (tn:Nat->Heap->Prop) (J:It) (H':Hp),itv=.ref it/\Ax X pins σ H' s2/\Kc X.prog X.w X.K tg J fp it tn/\tn 0 s2.heap/\(∀ b∈fp,EE X pins H' b)/\R J H'
def PI (X:Cx) (tg iter:Expr) (wi:TI):Prop :=
 ∀ (pins:List (Addr×Obj)) (s:Shared) (σ:St) (H:Hp) (R:It->Hp->Prop),Ax X pins σ H s->wi σ H R ->
  wpAny (model X.prog X.w) X.A (eval iter X.env) (λv s1=>wpAny (model X.prog X.w) X.A (pyIter v) (PIE X pins σ tg R) X.xe s1) X.xe s

theorem NH {M:Model} {A:Around} {E:Value->Shared->Prop} {s:Shared} {tg:Expr} {it:Addr} {u:Value} {o:Obj} {n:String} {vs:Array Value} {Q:Unit->Shared->Prop} (ho:s.heap.get? it=some o) (hc:o.cls=.type n) (hd:o.data=.fields vs)
    (hn:["enumerate", "zip", "dict_itemiterator", "dict_reverseitemiterator", "odict_iterator", "itertools.zip_longest", "itertools.pairwise"].contains n=false) (hQ:Q () s):wpAny M A (letOwnedTupleGo tg (.ref it) u) Q E s:=by
  unfold letOwnedTupleGo
  cases tg<;>first
    |exact wpAny_pure hQ
    | (cases u<;>first
        |exact wpAny_pure hQ
        | (refine wpAny_bind (wpAny_load ho ?_)
           rw [hc,hd]
           show wpAny M A (if (["enumerate", "zip", "dict_itemiterator", "dict_reverseitemiterator", "odict_iterator", "itertools.zip_longest", "itertools.pairwise"].contains n&&vs[0]? == some (rawInt _))=true then _ else _) Q E s
           rw [if_neg (by intro h;rw [hn,Q2] at h;cases h)]
           exact wpAny_pure hQ))

def Itl (K:J0) (a:Addr):It :=
 ⟨λi H=>∃ xs x,Aw K H a xs/\xs[i]?=some x,λi H x H'=>H'=H/\∀ xs,Aw K H a xs->xs[i]?=some x,λi H=>∃ xs,Aw K H a xs/\xs.length<=i⟩
def Itt (K:J0) (a:Addr):It :=
 ⟨λi H=>∃ xs x,Cn K H a xs/\xs[i]?=some x,λi H x H'=>H'=H/\∀ xs,Cn K H a xs->xs[i]?=some x,λi H=>∃ xs,Cn K H a xs/\xs.length<=i⟩
def Itr (lo:Int) (n:Nat):It:=⟨λi _=>i<n,λi H x H'=>H'=H/\x=.int (lo+i),λi _=>n<=i⟩
theorem QJ {P:Program} {w:World} {K:J0} {tg:Expr} (a it:Addr):Kc P w K tg (Itl K a) [it] it (λi h=>h.IsListIter it a i) where
 mem:=by simp
 obj:=λi h st b hb=>by
  have e:b=it:=by simpa using hb
  subst e
  obtain ⟨o,e,c,d⟩:=st
  exact ⟨o,e,λv z=>by rw [d] at z;cases z⟩
 keep:=λi h h' st k=>st.at λo e=>k it (by simp) o e
 item:=by
  intro X hP hw hK hc i pins s σ H E I hf st hg
  subst hP hw hK
  obtain ⟨xs,x,hq,hx⟩:=hg
  obtain ⟨its,rv,p,hz⟩:=I.list hq
  obtain ⟨u,hu,ru⟩:=rv.get hx
  obtain ⟨f0,f1,f2,f3,f4,f5⟩:=hf it (by simp)
  refine wpAny_pyNext_list_item st p.isList (x:=u) (by simpa using hu) λh' st' sb=>?_
  have I1:Ax X pins σ H { s with heap:=h' }:=I.turned (t':=s.toks) (λb o hb e=>(sb.2 b hb).trans e) f0 f1 f3 f4 f5
  obtain ⟨o,e,c,d⟩:=id st'
  exact ⟨u,rfl,NH (s:={ s with heap:=h' }) e c d (by kd_p) ⟨x,H,I1,ru,⟨rfl,λys hy=>by rw [I.list_inj hy hq];exact hx⟩,st',λb hb=>(hf b hb).1⟩⟩
 done:=by
  intro X hP hw hK hc i pins s σ H E I hf st hg
  subst hP hw hK
  obtain ⟨xs,hq,hx⟩:=hg
  obtain ⟨its,rv,p,hz⟩:=I.list hq
  obtain ⟨f0,f1,f2,f3,f4,f5⟩:=hf it (by simp)
  have hl:=rv.length
  exact wpAny_pyNext_list_end (I.ok.hd hc) st p.isList (by simp;lia) λh' eb=>⟨rfl,I.turned (t':=s.toks) (λb o hb e=>eb b o hb e) f0 f1 f3 f4 f5⟩
 self:=λ_ _ _ _ _ st h=>wpAny_pyIter_listiter st h
theorem Od {P:Program} {w:World} {K:J0} {tg:Expr} (a it:Addr):Kc P w K tg (Itt K a) [it] it (λi h=>h.IsTupleIter it a i) where
 mem:=by simp
 obj:=λi h st b hb=>by
  have e:b=it:=by simpa using hb
  subst e
  obtain ⟨o,e,c,d⟩:=st
  exact ⟨o,e,λv z=>by rw [d] at z;cases z⟩
 keep:=λi h h' st k=>st.at λo e=>k it (by simp) o e
 item:=by
  intro X hP hw hK hc i pins s σ H E I hf st hg
  subst hP hw hK
  obtain ⟨xs,x,hq,hx⟩:=hg
  obtain ⟨its,rv,p,hz⟩:=I.tuple hq
  obtain ⟨u,hu,ru⟩:=rv.get hx
  obtain ⟨f0,f1,f2,f3,f4,f5⟩:=hf it (by simp)
  refine wpAny_pyNext_tuple_item st (show s.heap.IsTuple a its.toArray from p) (x:=u) (by simpa using hu) λh' st' sb=>?_
  have I1:Ax X pins σ H { s with heap:=h' }:=I.turned (t':=s.toks) (λb o hb e=>(sb.2 b hb).trans e) f0 f1 f3 f4 f5
  obtain ⟨o,e,c,d⟩:=id st'
  exact ⟨u,rfl,NH (s:={ s with heap:=h' }) e c d (by kd_p) ⟨x,H,I1,ru,⟨rfl,λys hy=>by rw [I.tuple_inj hy hq];exact hx⟩,st',λb hb=>(hf b hb).1⟩⟩
 done:=by
  intro X hP hw hK hc i pins s σ H E I hf st hg
  subst hP hw hK
  obtain ⟨xs,hq,hx⟩:=hg
  obtain ⟨its,rv,p,hz⟩:=I.tuple hq
  obtain ⟨f0,f1,f2,f3,f4,f5⟩:=hf it (by simp)
  have hl:=rv.length
  exact wpAny_pyNext_tuple_end (I.ok.hd hc) st (show s.heap.IsTuple a its.toArray from p) (by simp;lia) λh' eb=>⟨rfl,I.turned (t':=s.toks) (λb o hb e=>eb b o hb e) f0 f1 f3 f4 f5⟩
 self:=λ_ _ _ _ _ st h=>wpAny_pyIter_tupleiter st h
theorem Oe {P:Program} {w:World} {K:J0} {tg:Expr} (it:Addr) (lo:Int) (n:Nat):Kc P w K tg (Itr lo n) [it] it (λi h=>IsRangeIter h it (lo+(i:Nat)*1) ((n:Int)-(i:Nat)) 1) where
 mem:=by simp
 obj:=λi h st b hb=>by
  have e:b=it:=by simpa using hb
  subst e
  exact ⟨_,st,λv z=>by
   have z':Data.fields _=Data.cell v:=z
   cases z'⟩
 keep:=λi h h' st k=>k it (by simp) _ st
 item:=by
  intro X hP hw hK hc i pins s σ H E I hf st hg
  subst hP hw hK
  obtain ⟨f0,f1,f2,f3,f4,f5⟩:=hf it (by simp)
  have W:=Walks.range (prog:=X.prog) (w:=X.w) (I.ok.hd hc) it lo 1 n
  refine W.item i s _ _ hg st λv h' tk hv st' kk=>?_
  obtain ⟨t,rfl⟩:=hv
  have I1:Ax X pins σ H { s with heap:=h',toks:=tk }:=I.turned (λb o hb e=>kk b o (by simpa using hb) e) f0 f1 f3 f4 f5
  refine ⟨_,rfl,NH (s:={ s with heap:=h',toks:=tk }) (n:="range_iterator") st' rfl rfl (by kd_p) ⟨.int (lo+i),H,I1,⟨t,?_⟩,⟨rfl,rfl⟩,st',λb hb=>(hf b hb).1⟩⟩
  rw [Int.mul_one]
 done:=by
  intro X hP hw hK hc i pins s σ H E I hf st hg
  subst hP hw hK
  obtain ⟨f0,f1,f2,f3,f4,f5⟩:=hf it (by simp)
  exact wpAny_pyNext_range_end (I.ok.hd hc) st (by have:n<=i:=hg;lia) λh' eb=>⟨rfl,I.turned (t':=s.toks) (λb o hb e=>eb b o hb e) f0 f1 f3 f4 f5⟩
 self:=λ_ _ _ _ _ st h=>wpAny_pyIter_rangeiter st h
section
variable {X:Cx} {tg:Expr}
def Ql (K:J0) (tl:TE):TI:=λσ H R=>tl σ H λx H1=>∃ a,x=.ref a/\(∃ xs,Aw K H1 a xs)/\R (Itl K a) H1
def iTup (K:J0) (tl:TE):TI:=λσ H R=>tl σ H λx H1=>∃ a,x=.ref a/\(∃ xs,Cn K H1 a xs)/\R (Itt K a) H1
theorem Fc {l:Expr} {tl:TE} (hl:PE X l tl):PI X tg l (Ql X.K tl):=by
 intro pins s σ H R I h
 refine Bt (hl pins s σ H _ I h) λv s1 ⟨x,H1,I1,r1,q1⟩=>?_
 obtain ⟨a,e,⟨xs,hq⟩,q⟩:=q1
 subst e
 cases r1
 obtain ⟨its,rv,p,hz⟩:=I1.list hq
 refine wpAny_pyIter_list p.isList ?_
 refine ⟨s1.heap.objs.size,[s1.heap.objs.size],_,_,H1,rfl,I1.kept (t':=s1.toks) λb o e=>Heap.get?_push_of_some _ e,QJ a _,⟨_,Heap.get?_push_size _ rfl,rfl,rfl⟩,λb hb=>?_,q⟩
 have e:b=s1.heap.objs.size:=by simpa using hb
 subst e
 exact I1.fpOk (V0 _) (I1.hok.fresh (V0 _))
theorem OD {l:Expr} {tl:TE} (hl:PE X l tl):PI X tg l (iTup X.K tl):=by
 intro pins s σ H R I h
 refine Bt (hl pins s σ H _ I h) λv s1 ⟨x,H1,I1,r1,q1⟩=>?_
 obtain ⟨a,e,⟨xs,hq⟩,q⟩:=q1
 subst e
 cases r1
 obtain ⟨its,rv,p,hz⟩:=I1.tuple hq
 refine wpAny_pyIter_tuple (show s1.heap.IsTuple a its.toArray from p) ?_
 refine ⟨s1.heap.objs.size,[s1.heap.objs.size],_,_,H1,rfl,I1.kept (t':=s1.toks) λb o e=>Heap.get?_push_of_some _ e,Od a _,⟨_,Heap.get?_push_size _ rfl,rfl,rfl⟩,λb hb=>?_,q⟩
 have e:b=s1.heap.objs.size:=by simpa using hb
 subst e
 exact I1.fpOk (V0 _) (I1.hok.fresh (V0 _))
theorem ST {pins:List (Addr×Obj)} {σ:St} {H:Hp} {s:Shared} {R:It->Hp->Prop} {E:Value->Shared->Prop} {lo hi:Int} {t u v:Tok} {tk:Nat} (I:Ax X pins σ H s) (h1:-(2 ^ 62)<=lo) (h2:lo<2 ^ 62) (h3:-(2 ^ 62)<=hi) (h4:hi<2 ^ 62)
  (q:R (Itr lo (hi-lo).toNat) H):wpAny (model X.prog X.w) X.A (pyIter (.ref s.heap.objs.size)) (PIE X pins σ tg R) E { s with heap:=s.heap.push { cls:=.type "range",data:=.fields #[.int lo t,.int hi u,.int 1 v] },toks:=tk }:=by
 refine wpAny_pyIter_range (IsRange.new ..) (small_one h1 h2 h3 h4) ?_
 have I1:Ax X pins σ H { s with heap:=s.heap.push { cls:=.type "range",data:=.fields #[.int lo t,.int hi u,.int 1 v] },toks:=tk }:=I.kept λb o e=>Heap.get?_push_of_some _ e
 refine ⟨(s.heap.push { cls:=.type "range",data:=.fields #[.int lo t,.int hi u,.int 1 v] }).objs.size,[(s.heap.push { cls:=.type "range",data:=.fields #[.int lo t,.int hi u,.int 1 v] }).objs.size],_,_,H,rfl,
  I1.kept (t':=tk) λb o e=>Heap.get?_push_of_some _ e,Oe _ lo (hi-lo).toNat,?_,λb hb=>?_,q⟩
 ·have e1:lo+((0:Nat):Int)*1=lo:=by simp
  have e2:(((hi-lo).toNat:Nat):Int)-((0:Nat):Int)=Builtin.Range.rangeSize lo hi 1:=by rw [rangeSize_one];split<;>lia
  show IsRangeIter _ _ (lo+((0:Nat):Int)*1) ((((hi-lo).toNat:Nat):Int)-((0:Nat):Int)) 1
  rw [e1,e2]
  exact Heap.get?_push_size _ rfl
 ·have e:b=(s.heap.push { cls:=.type "range",data:=.fields #[.int lo t,.int hi u,.int 1 v] }).objs.size:=by simpa using hb
  subst e
  exact I1.fpOk (V0 _) (I1.hok.fresh (V0 _))
def iRng1 (ta:TA):TI:=λσ H R=>ta σ H λvs H1=>∃ j:Int,vs=[.int j]/\-(2 ^ 62)<=j/\j<2 ^ 62/\R (Itr 0 j.toNat) H1
theorem HF {a:Expr} {ta:TA} {p pos:Pos} (hg:Gl X "range") (hm:X.mg "range"=none) (ha:PA X [a] ta) (hs:starEach [a] X.env=[(false,eval a X.env)]:=by rfl):PI X tg (.Call (.Name "range" p) [a] [] pos) (iRng1 ta):=by
 intro pins s σ H R I h
 refine Call_ (GO I hg hm boot_range (X5 (Bt (ha pos pins s σ H _ I h) λus s1 ⟨vs,H1,I1,r1,q1⟩=>?_) hs rfl))
 obtain ⟨j,e,q1,q2,q⟩:=q1
 subst e
 cases r1 with
 |cons r rr =>
  cases rr
  obtain ⟨t,rfl⟩:=r
  exact call_range_1 (ST I1 (by lia) (by lia) q1 q2 (by simpa using q))
def MD (wi:TI) (g:TG) (tb:TS):TS:=λD σ H=>wi σ H λJ H1=>∃ W:Nat->Nat->St->Hp->Prop,(∃ m,W 0 m σ H1)/\∀ i m σ H,W i m σ H ->
 (J.stop i H/\D.nx σ H)\/(J.go i H/\∃ N:St->Hp->Prop,(∀ σ' H',N σ' H'->∃ m',m'<m/\W (i+1) m' σ' H')/\∀ x H',J.yld i H x H'->g x σ H' λσ2 H2=>tb { D with nx:=N,ct:=N,bk:=D.nx } σ2 H2)
def Jl (fp:List Addr) (h:Heap):List (Addr×Obj):=fp.filterMap λb=>(h.get? b).map λo=>(b,o)
theorem Ff {fp:List Addr} {h:Heap} {b:Addr} {o:Obj} (hb:b∈fp) (e:h.get? b=some o):(b,o)∈Jl fp h:=f7.mpr ⟨b,hb,by rw [e];rfl⟩
theorem Rm {fp:List Addr} {h:Heap} {p:Addr×Obj} (hp:p∈Jl fp h):p.1∈fp/\h.get? p.1=some p.2:=by
 obtain ⟨b,hb,e⟩:=f7.mp hp
 cases q:h.get? b with
 |none=>rw [q] at e;cases e
 |some o =>
  rw [q] at e
  have e':(b,o)=p:=Option.some.inj e
  subst e'
  exact ⟨hb,q⟩
theorem Ax.pinned {pins:List (Addr×Obj)} {σ:St} {H:Hp} {s:Shared} {fp:List Addr} (I:Ax X pins σ H s) (hf:∀ b∈fp,EE X pins H b) (ho:∀ b∈fp,∃ o,s.heap.get? b=some o/\∀ v,o.data≠.cell v):Ax X (pins++Jl fp s.heap) σ H s :=
 I.pins_of λp hp=>(X0.mp hp).elim (λz=>I.pin p (S0 _ z)) λz=>by
  obtain ⟨hb,e⟩:=Rm z
  obtain ⟨f0,f1,f2,_⟩:=hf p.1 hb
  obtain ⟨o,e',d⟩:=ho p.1 hb
  rw [e] at e';cases e'
  exact ⟨e,f0,f1,f2,d⟩
theorem Ax.unpinned {pins pl:List (Addr×Obj)} {σ:St} {H:Hp} {s:Shared} (I:Ax X (pins++pl) σ H s):Ax X pins σ H s:=I.pins_of λp hp=>I.pin p (S0 _ (p0 _ hp))
theorem Ey {iter:Expr} {body:List Stmt} {wi:TI} {g:TG} {tb:TS} {pos:Pos} (hp:PassesOwn (model X.prog X.w) X.A X.env X.xe) (hc:X.calm=true) (hi:PI X tg iter wi) (hg:PG X tg g) (hb:Ix X body tb)
  (hs:∀ x,foldedSetIterable iter X.env x=pure x:=by intro _;rfl):PS X (.For tg iter body [] pos) (MD wi g tb):=by
 intro pins s σ H D I h
 refine wpAny_For (Bt (hi pins s σ H _ I h) λv s1 h1=>Bt h1 λitv s2 h2=>?_) hs
 obtain ⟨it,fp,tn,J,H2,e,I2,T,st2,f2,W,⟨m0,w0⟩,turn⟩:=h2
 subst e
 -- what stays true of the iterator's objects through the loop
 have stat:∀ {H':Hp},(∀ b∈fp,H' b=none)->∀ b∈fp,EE X pins H' b:=λhn b hb=>⟨hn b hb,(f2 b hb).2⟩
 refine codeAny_forLoop_any (λn s'=>∃ i σ' H',Ax X pins σ' H' s'/\tn i s'.heap/\(∀ b∈fp,H' b=none)/\W i n σ' H') ?_ m0 ⟨0,σ,H2,I2,st2,λb hb=>(f2 b hb).1,w0⟩
 rintro n s3 ⟨i,σ3,H3,I3,st3,fr3,w3⟩
 rcases turn i n σ3 H3 w3 with ⟨stop,qn⟩ | ⟨go,N,hN,step⟩
 ·refine wpAny_passesOwn hp (Bt (T.done X rfl rfl rfl hc i pins s3 σ3 H3 X.xe I3 (stat fr3) st3 stop) λr s4 ⟨hr,I4⟩=>?_)
  subst hr
  exact wpAny_execs_nil ⟨σ3,H3,I4,qn⟩
 ·refine wpAny_passesOwn hp (Bt (T.item X rfl rfl rfl hc i pins s3 σ3 H3 X.xe I3 (stat fr3) st3 go) λr s4 ⟨u,hr,h4⟩=>?_)
  subst hr
  refine wpAny_passesOwn hp (Bt h4 λ_ s5 ⟨x,H5,I5,r5,y5,st5,fr5⟩=>?_)
  have I5':=I5.pinned (stat fr5) (T.obj _ _ st5)
  refine wpAny_passesOwn hp (Bt (hg _ s5 σ3 H5 x u _ I5' r5 (step x H5 y5)) λ_ s6 ⟨σ6,H6,I6,q6⟩=>?_)
  refine wpAny_passesOwn hp (Bt (hb _ s6 σ6 H6 _ I6 q6) λf s7 q7=>?_)
  have again:∀ {σ7:St} {H7:Hp},Ax X (pins++Jl fp s5.heap) σ7 H7 s7->N σ7 H7->∃ m,m<n/\∃ i σ' H',Ax X pins σ' H' s7/\tn i s7.heap/\(∀ b∈fp,H' b=none)/\W i m σ' H':=λ{σ7 H7} I7 n7=>by
   obtain ⟨m',hm,w7⟩:=hN σ7 H7 n7
   refine ⟨m',hm,i+1,σ7,H7,I7.unpinned,T.keep _ _ _ st5 λb hb o e=>(I7.pin (b,o) (S0 _ (S0 _ (Ff hb e)))).1,λb hb=>?_,w7⟩
   obtain ⟨o,e,d⟩:=T.obj _ _ st5 b hb
   exact (I7.pin (b,o) (S0 _ (S0 _ (Ff hb e)))).2.1
  cases f with
  |next=>obtain ⟨σ7,H7,I7,n7⟩:=q7;exact again I7 n7
  |cont=>obtain ⟨σ7,H7,I7,n7⟩:=q7;exact again I7 n7
  |brk=>obtain ⟨σ7,H7,I7,q7⟩:=q7;exact ⟨σ7,H7,I7.unpinned,q7⟩
  |ret v=>obtain ⟨x7,σ7,H7,I7,r7,q7⟩:=q7;exact ⟨x7,σ7,H7,I7.unpinned,r7,q7⟩
end

theorem Ut {K:J0} {a:Addr} {xs:List V} {g:TG} {tb:TS} {D:FO} {σ:St} {H:Hp} (Pv:Nat->St->Hp->Prop) (h0:Pv 0 σ H) (hl:∀ i σ H,i<=xs.length->Pv i σ H->Aw K H a xs)
  (hs:∀ i x σ H,xs[i]?=some x->Pv i σ H->g x σ H λσ2 H2=>tb { D with nx:=Pv (i+1),ct:=Pv (i+1),bk:=D.nx } σ2 H2) (hd:∀ σ H,Pv xs.length σ H->D.nx σ H) :
  ∃ W:Nat->Nat->St->Hp->Prop,(∃ m,W 0 m σ H)/\∀ i m σ H,W i m σ H ->
   ((Itl K a).stop i H/\D.nx σ H)\/((Itl K a).go i H/\∃ N:St->Hp->Prop,(∀ σ' H',N σ' H'->∃ m',m'<m/\W (i+1) m' σ' H')/\∀ x H',(Itl K a).yld i H x H'->g x σ H' λσ2 H2=>tb { D with nx:=N,ct:=N,bk:=D.nx } σ2 H2):=by
 refine ⟨λi m σ H=>m=xs.length-i/\i<=xs.length/\Pv i σ H,⟨xs.length,by simp,N1 _,h0⟩,?_⟩
 rintro i m σ H ⟨rfl,hi,p⟩
 have q:=hl i σ H hi p
 by_cases hlt:i<xs.length
 ·refine .inr ⟨⟨xs,xs[i],q,by simp [hlt]⟩,Pv (i+1),λσ' H' p'=>⟨xs.length-(i+1),by lia,rfl,hlt,p'⟩,λx H' y=>?_⟩
  obtain ⟨e,y⟩:=y
  subst e
  exact hs i x σ _ (y xs q) p
 ·have e:i=xs.length:=by lia
  subst e
  exact .inl ⟨⟨xs,q,V0 _⟩,hd σ H p⟩
theorem Qm {K:J0} {a:Addr} {xs:List V} {g:TG} {tb:TS} {D:FO} {σ:St} {H:Hp} (Pv:Nat->St->Hp->Prop) (h0:Pv 0 σ H) (hl:∀ i σ H,i<=xs.length->Pv i σ H->Cn K H a xs)
  (hs:∀ i x σ H,xs[i]?=some x->Pv i σ H->g x σ H λσ2 H2=>tb { D with nx:=Pv (i+1),ct:=Pv (i+1),bk:=D.nx } σ2 H2) (hd:∀ σ H,Pv xs.length σ H->D.nx σ H) :
  ∃ W:Nat->Nat->St->Hp->Prop,(∃ m,W 0 m σ H)/\∀ i m σ H,W i m σ H ->
   ((Itt K a).stop i H/\D.nx σ H)\/((Itt K a).go i H/\∃ N:St->Hp->Prop,(∀ σ' H',N σ' H'->∃ m',m'<m/\W (i+1) m' σ' H')/\∀ x H',(Itt K a).yld i H x H'->g x σ H' λσ2 H2=>tb { D with nx:=N,ct:=N,bk:=D.nx } σ2 H2):=by
 refine ⟨λi m σ H=>m=xs.length-i/\i<=xs.length/\Pv i σ H,⟨xs.length,by simp,N1 _,h0⟩,?_⟩
 rintro i m σ H ⟨rfl,hi,p⟩
 have q:=hl i σ H hi p
 by_cases hlt:i<xs.length
 ·refine .inr ⟨⟨xs,xs[i],q,by simp [hlt]⟩,Pv (i+1),λσ' H' p'=>⟨xs.length-(i+1),by lia,rfl,hlt,p'⟩,λx H' y=>?_⟩
  obtain ⟨e,y⟩:=y
  subst e
  exact hs i x σ _ (y xs q) p
 ·have e:i=xs.length:=by lia
  subst e
  exact .inl ⟨⟨xs,q,V0 _⟩,hd σ H p⟩
theorem HX {lo:Int} {n:Nat} {g:TG} {tb:TS} {D:FO} {σ:St} {H:Hp} (Pv:Nat->St->Hp->Prop) (h0:Pv 0 σ H)
  (hs:∀ i σ H,i<n->Pv i σ H->g (.int (lo+i)) σ H λσ2 H2=>tb { D with nx:=Pv (i+1),ct:=Pv (i+1),bk:=D.nx } σ2 H2) (hd:∀ σ H,Pv n σ H->D.nx σ H) :
  ∃ W:Nat->Nat->St->Hp->Prop,(∃ m,W 0 m σ H)/\∀ i m σ H,W i m σ H ->
   ((Itr lo n).stop i H/\D.nx σ H)\/((Itr lo n).go i H/\∃ N:St->Hp->Prop,(∀ σ' H',N σ' H'->∃ m',m'<m/\W (i+1) m' σ' H')/\∀ x H',(Itr lo n).yld i H x H'->g x σ H' λσ2 H2=>tb { D with nx:=N,ct:=N,bk:=D.nx } σ2 H2):=by
 refine ⟨λi m σ H=>m=n-i/\i<=n/\Pv i σ H,⟨n,by simp,N1 _,h0⟩,?_⟩
 rintro i m σ H ⟨rfl,hi,p⟩
 by_cases hlt:i<n
 ·refine .inr ⟨hlt,Pv (i+1),λσ' H' p'=>⟨n-(i+1),by lia,rfl,hlt,p'⟩,λx H' y=>?_⟩
  obtain ⟨e,y⟩:=y
  subst e y
  exact hs i σ _ hlt p
 ·have e:i=n:=by lia
  subst e
  exact .inl ⟨V0 _,hd σ H p⟩
theorem RY {c:TT} {tb:TS} {D:FO} {σ:St} {H:Hp} (Pv:St->Hp->Prop) (μ:St->Hp->Nat) (h0:Pv σ H)
  (hs:∀ σ H,Pv σ H->c σ H λb H1=>if b=true then tb { D with nx:=λσ' H'=>Pv σ' H'/\μ σ' H'<μ σ H,ct:=λσ' H'=>Pv σ' H'/\μ σ' H'<μ σ H,bk:=D.nx } σ H1 else D.nx σ H1)
  (mono:∀ σ H Q Q',(∀ b H1,Q b H1->Q' b H1)->c σ H Q->c σ H Q'):Sj c tb D σ H:=by
 refine ⟨λm σ H=>m=μ σ H/\Pv σ H,⟨_,rfl,h0⟩,?_⟩
 rintro m σ H ⟨rfl,p⟩
 refine mono σ H _ _ (λb H1 q=>?_) (hs σ H p)
 cases b with
 |true=>exact ⟨_,λσ' H' ⟨p',l⟩=>⟨_,l,rfl,p'⟩,q⟩
 |false=>exact q

abbrev R2:=V->V->Hp->VK->Prop
def ES (X:Cx) (f:Value->Value->Sem Value) (r:R2):Prop :=
 ∀ (pins:List (Addr×Obj)) (s:Shared) (σ:St) (H:Hp) (x y:V) (v u:Value) (Q:VK),Ax X pins σ H s->Bd x v->Bd y u->r x y H Q ->
  wpAny (model X.prog X.w) X.A (f v u) (EP X pins σ Q) X.xe s
def UnR (X:Cx) (f:Value->Sem Value) (r:V->Hp->VK->Prop):Prop :=
 ∀ (pins:List (Addr×Obj)) (s:Shared) (σ:St) (H:Hp) (x:V) (v:Value) (Q:VK),Ax X pins σ H s->Bd x v->r x H Q ->
  wpAny (model X.prog X.w) X.A (f v) (EP X pins σ Q) X.xe s
def Ek (X:Cx) (f:Value) (r:List V->Hp->VK->Prop):Prop :=
 ∀ (pins:List (Addr×Obj)) (s:Shared) (σ:St) (H:Hp) (xs:List V) (us:List Value) (Q:VK),Ax X pins σ H s->AL xs us->r xs H Q ->
  wpAny (model X.prog X.w) X.A (call f us) (EP X pins σ Q) X.xe s
def TruR (X:Cx) (r:V->Hp->(Bool->Hp->Prop)->Prop):Prop :=
 ∀ (pins:List (Addr×Obj)) (s:Shared) (σ:St) (H:Hp) (x:V) (v:Value) (Q:Bool->Hp->Prop),Ax X pins σ H s->Bd x v->r x H Q ->
  wpAny (model X.prog X.w) X.A (truthy v) (TP X pins σ Q) X.xe s

def tOp (r:R2) (ta tb:TE):TE:=λσ H Q=>ta σ H λx H1=>tb σ H1 λy H2=>r x y H2 Q
def tUn (r:V->Hp->VK->Prop) (ta:TE):TE:=λσ H Q=>ta σ H λx H1=>r x H1 Q
def rI (C:Int->Int->Prop) (g:Int->Int->V):R2:=λx y H Q=>∃ i j,x=.int i/\y=.int j/\C i j/\Q (g i j) H
def rI0 (g:Int->Int->V):R2:=λx y H Q=>∃ i j,x=.int i/\y=.int j/\Q (g i j) H
def rU (g:Int->V):V->Hp->VK->Prop:=λx H Q=>∃ i,x=.int i/\Q (g i) H

section
variable {X:Cx} {a b c:Expr} {ta tb tc:TE} {pos:Pos}

theorem binT (ha:PE X a ta) (hb:PE X b tb) {pins:List (Addr×Obj)} {s:Shared} {σ:St} {H:Hp} {R:V->V->Hp->Prop} (I:Ax X pins σ H s)
  (h:ta σ H λx H1=>tb σ H1 λy H2=>R x y H2) {Q:Value->Shared->Prop} {f:Value->Value->Sem Value}
  (hf:∀ v u s2 x y H2,Ax X pins σ H2 s2->Bd x v->Bd y u->R x y H2->wpAny (model X.prog X.w) X.A (f v u) Q X.xe s2) :
  wpAny (model X.prog X.w) X.A (eval a X.env) (λv s₁=>wpAny (model X.prog X.w) X.A (eval b X.env) (λu s₂=>wpAny (model X.prog X.w) X.A (f v u) Q X.xe s₂) X.xe s₁) X.xe s:=by
 refine Bt (ha pins s σ H _ I h) λv s1 ⟨x,H1,I1,r1,q1⟩=>?_
 refine Bt (hb pins s1 σ H1 _ I1 q1) λu s2 ⟨y,H2,I2,r2,q2⟩=>?_
 exact hf v u s2 x y H2 I2 r1 r2 q2

theorem An {op:Operator} {r:R2} (ho:ES X (binaryOp op) r) (ha:PE X a ta) (hb:PE X b tb):PE X (.BinOp a op b pos) (tOp r ta tb):=by
 intro pins s σ H Q I h
 exact wpAny_BinOp (binT ha hb I h λv u s2 x y H2 I2 rx ry q=>ho pins s2 σ H2 x y v u Q I2 rx ry q)
theorem CO {op:UnaryOp} {r:V->Hp->VK->Prop} (ho:UnR X (unaryOp op) r) (ha:PE X a ta):PE X (.UnaryOp op a pos) (tUn r ta):=by
 intro pins s σ H Q I h
 exact UnaryOp_ (Bt (ha pins s σ H _ I h) λv s1 ⟨x,H1,I1,r1,q1⟩=>ho pins s1 σ H1 x v Q I1 r1 q1)
theorem opI {f:Value->Value->Sem Value} {C:Int->Int->Prop} {g:Int->Int->Int}
  (rule:∀ (i j:Int) (t u:Tok) (s:Shared) (Q:Value->Shared->Prop) (E:Value->Shared->Prop),C i j->Q (.int (g i j) s.toks) { s with toks:=s.toks+1 }->wpAny (model X.prog X.w) X.A (f (.int i t) (.int j u)) Q E s) :
  ES X f (rI C λi j=>.int (g i j)):=by
 intro pins s σ H x y v u Q I rx ry h
 obtain ⟨i,j,rfl,rfl,hc,q⟩:=h
 obtain ⟨t,rfl⟩:=rx
 obtain ⟨t',rfl⟩:=ry
 exact rule i j t t' s _ _ hc ⟨.int (g i j),H,I.tok _,⟨_,rfl⟩,q⟩
theorem opI0 {f:Value->Value->Sem Value} {g:Int->Int->Int}
  (rule:∀ (i j:Int) (t u:Tok) (s:Shared) (Q:Value->Shared->Prop) (E:Value->Shared->Prop),Q (.int (g i j) s.toks) { s with toks:=s.toks+1 }->wpAny (model X.prog X.w) X.A (f (.int i t) (.int j u)) Q E s) :
  ES X f (rI0 λi j=>.int (g i j)):=by
 intro pins s σ H x y v u Q I rx ry h
 obtain ⟨i,j,rfl,rfl,q⟩:=h
 obtain ⟨t,rfl⟩:=rx
 obtain ⟨t',rfl⟩:=ry
 exact rule i j t t' s _ _ ⟨.int (g i j),H,I.tok _,⟨_,rfl⟩,q⟩
theorem opB0 {f:Value->Value->Sem Value} {g:Int->Int->Bool}
  (rule:∀ (i j:Int) (t u:Tok) (s:Shared) (Q:Value->Shared->Prop) (E:Value->Shared->Prop),Q (.bool (g i j)) s->wpAny (model X.prog X.w) X.A (f (.int i t) (.int j u)) Q E s) :
  ES X f (rI0 λi j=>.bl (g i j)):=by
 intro pins s σ H x y v u Q I rx ry h
 obtain ⟨i,j,rfl,rfl,q⟩:=h
 obtain ⟨t,rfl⟩:=rx
 obtain ⟨t',rfl⟩:=ry
 exact rule i j t t' s _ _ ⟨.bl (g i j),H,I,rfl,q⟩

def CDiv (i j:Int):Prop:=0<j/\j<1073741824
def CMul (i j:Int):Prop:=(-(2 ^ 64)<i/\i<2 ^ 64)\/(-(2 ^ 64)<j/\j<2 ^ 64)
theorem CMul.ok {i j:Int} (h:CMul i j):IntMulOk i j:=by
 rcases h with ⟨h1,h2⟩ | ⟨h1,h2⟩
 ·exact .of_left (intBits_le_64 h1 h2)
 ·exact .of_right (intBits_le_64 h1 h2)
theorem Bz:ES X (binaryOp .Add) (rI0 λi j=>.int (i+j)):=opI0 λ_ _ _ _ _ _ _ q=>add_int q
theorem LG:ES X (binaryOp .Sub) (rI0 λi j=>.int (i-j)):=opI0 λ_ _ _ _ _ _ _ q=>sub_int q
theorem GG:ES X (binaryOp .Mult) (rI CMul λi j=>.int (i*j)):=opI λ_ _ _ _ _ _ _ hc q=>mul_int q hc.ok
theorem BT:ES X (binaryOp .FloorDiv) (rI CDiv λi j=>.int (i / j)):=opI λi j _ _ _ _ _ hc q=>by
 have h1:(0:Int)<j:=hc.1
 have h2:j<1073741824:=hc.2
 exact floordiv_int (by lia) (by rw [Int.fdiv_eq_ediv_of_nonneg i (by lia)];exact q) (.inl (PyProof.noPylong_small (by lia)))
theorem AW:ES X (binaryOp .Mod) (rI (λ_ j=>0<j) λi j=>.int (i%j)):=opI λi j _ _ _ _ _ hc q=>by
 have h1:(0:Int)<j:=hc
 exact mod_int' (by lia) (by rw [Int.fmod_eq_emod_of_nonneg i (by lia)];exact q)
theorem unI {f:Value->Sem Value} {g:Int->Int}
  (rule:∀ (i:Int) (t:Tok) (s:Shared) (Q:Value->Shared->Prop) (E:Value->Shared->Prop),Q (.int (g i) s.toks) { s with toks:=s.toks+1 }->wpAny (model X.prog X.w) X.A (f (.int i t)) Q E s) :
  UnR X f (rU λi=>.int (g i)):=by
 intro pins s σ H x v Q I rx h
 obtain ⟨i,rfl,q⟩:=h
 obtain ⟨t,rfl⟩:=rx
 exact rule i t s _ _ ⟨.int (g i),H,I.tok _,⟨_,rfl⟩,q⟩
theorem BP:UnR X (unaryOp .USub) (rU λi=>.int (-i)):=unI λ_ _ _ _ _ q=>neg_int q
end

def scal:V->V->Bool
 |.non,.non=>true | .non,.int _=>true | .int _,.non=>true | .non,.bl _=>true | .bl _,.non=>true | .non,.str _=>true | .str _,.non=>true
 |.int _,.int _=>true | .bl _,.bl _=>true | .str _,.str _=>true | .byt _,.byt _=>true
 |.int _,.str _=>true | .str _,.int _=>true | .bl _,.str _=>true | .str _,.bl _=>true
 |_,_=>false
def rEq:R2:=λx y H Q=>scal x y=true/\Q (.bl (decide (x=y))) H
def rNe:R2:=λx y H Q=>scal x y=true/\Q (.bl (!decide (x=y))) H

theorem Qo {i j:Int}:decide (V.int i=V.int j)=(i == j):=by
 rw [X6]
 simp
theorem UJ {i j:Bool}:decide (V.bl i=V.bl j)=(i == j):=by
 rw [X6]
 simp
theorem Qn {i j:Str}:decide (V.str i=V.str j)=(i == j):=by
 rw [X6]
 simp
theorem Qp {i j:Array UInt8}:decide (V.byt i=V.byt j)=(i.toList == j.toList):=by
 rw [X6]
 cases i
 cases j
 simp

section
variable {X:Cx} {a b c:Expr} {ta tb tc:TE} {pos:Pos}
theorem Bj {pins:List (Addr×Obj)} {σ:St} {H:Hp} {s:Shared} {Q:VK} {k k':Bool} (I:Ax X pins σ H s) (q:Q (.bl k) H) (e:k=k'):EP X pins σ Q (.bool k') s:=by
 subst e
 exact ⟨.bl k,H,I,rfl,q⟩
theorem AF:ES X (compareOp .Eq) rEq:=by
 intro pins s σ H x y v u Q I rx ry h
 obtain ⟨hs,q⟩:=h
 cases x with
 |non =>
  cases rx
  cases y with
  |non=>cases ry;exact PySem.EqNone.eq_none_none (Bj I q (by simp))
  |bl j=>cases ry;exact PySem.EqNone.eq_none_bool (Bj I q (by simp))
  |int j=>obtain ⟨t',rfl⟩:=ry;exact PySem.EqNone.eq_none_int (Bj I q (by simp))
  |str j=>obtain ⟨t',rfl⟩:=ry;exact PySem.EqNone.eq_none_str (Bj I q (by simp))
  |_=>exact absurd (show false=true from hs) Q0
 |bl i =>
  cases rx
  cases y with
  |non=>cases ry;exact PySem.EqNone.eq_bool_none (Bj I q (by simp))
  |bl j=>cases ry;exact eq_bool (Bj I q UJ)
  |str j=>obtain ⟨t',rfl⟩:=ry;exact PySem.EqMixed.eq_bool_str (Bj I q (by simp))
  |_=>exact absurd (show false=true from hs) Q0
 |int i =>
  obtain ⟨t,rfl⟩:=rx
  cases y with
  |non=>cases ry;exact PySem.EqNone.eq_int_none (Bj I q (by simp))
  |int j=>obtain ⟨t',rfl⟩:=ry;exact eq_int (Bj I q Qo)
  |str j=>obtain ⟨t',rfl⟩:=ry;exact PySem.EqMixed.eq_int_str (Bj I q (by simp))
  |_=>exact absurd (show false=true from hs) Q0
 |str i =>
  obtain ⟨t,rfl⟩:=rx
  cases y with
  |non=>cases ry;exact PySem.EqNone.eq_str_none (Bj I q (by simp))
  |bl j=>cases ry;exact PySem.EqMixed.eq_str_bool (Bj I q (by simp))
  |int j=>obtain ⟨t',rfl⟩:=ry;exact PySem.EqMixed.eq_str_int (Bj I q (by simp))
  |str j=>obtain ⟨t',rfl⟩:=ry;exact eq_str (Bj I q Qn)
  |_=>exact absurd (show false=true from hs) Q0
 |byt i =>
  obtain ⟨t,rfl⟩:=rx
  cases y with
  |byt j=>obtain ⟨t',rfl⟩:=ry;exact PySem.W.eq_bytes (Bj I q Qp)
  |_=>exact absurd (show false=true from hs) Q0
 |_=>cases y<;>exact absurd (show false=true from hs) Q0
theorem Fm:ES X (compareOp .NotEq) rNe:=by
 intro pins s σ H x y v u Q I rx ry h
 obtain ⟨hs,q⟩:=h
 cases x with
 |non =>
  cases rx
  cases y with
  |non=>cases ry;exact PySem.EqNone.ne_none_none (Bj I q (by simp))
  |bl j=>cases ry;exact PySem.EqNone.ne_none_bool (Bj I q (by simp))
  |int j=>obtain ⟨t',rfl⟩:=ry;exact PySem.EqNone.ne_none_int (Bj I q (by simp))
  |str j=>obtain ⟨t',rfl⟩:=ry;exact PySem.EqNone.ne_none_str (Bj I q (by simp))
  |_=>exact absurd (show false=true from hs) Q0
 |bl i =>
  cases rx
  cases y with
  |non=>cases ry;exact PySem.EqNone.ne_bool_none (Bj I q (by simp))
  |bl j=>cases ry;exact ne_bool (Bj I q (congrArg not UJ))
  |str j=>obtain ⟨t',rfl⟩:=ry;exact PySem.EqMixed.ne_bool_str (Bj I q (by simp))
  |_=>exact absurd (show false=true from hs) Q0
 |int i =>
  obtain ⟨t,rfl⟩:=rx
  cases y with
  |non=>cases ry;exact PySem.EqNone.ne_int_none (Bj I q (by simp))
  |int j=>obtain ⟨t',rfl⟩:=ry;exact ne_int (Bj I q (congrArg not Qo))
  |str j=>obtain ⟨t',rfl⟩:=ry;exact PySem.EqMixed.ne_int_str (Bj I q (by simp))
  |_=>exact absurd (show false=true from hs) Q0
 |str i =>
  obtain ⟨t,rfl⟩:=rx
  cases y with
  |non=>cases ry;exact PySem.EqNone.ne_str_none (Bj I q (by simp))
  |bl j=>cases ry;exact PySem.EqMixed.ne_str_bool (Bj I q (by simp))
  |int j=>obtain ⟨t',rfl⟩:=ry;exact PySem.EqMixed.ne_str_int (Bj I q (by simp))
  |str j=>obtain ⟨t',rfl⟩:=ry;exact ne_str (Bj I q (congrArg not Qn))
  |_=>exact absurd (show false=true from hs) Q0
 |byt i =>
  obtain ⟨t,rfl⟩:=rx
  cases y with
  |byt j=>obtain ⟨t',rfl⟩:=ry;exact PySem.W.ne_bytes (Bj I q (congrArg not Qp))
  |_=>exact absurd (show false=true from hs) Q0
 |_=>cases y<;>exact absurd (show false=true from hs) Q0

theorem Et:ES X (compareOp .Lt) (rI0 λi j=>.bl (decide (i<j))):=opB0 λ_ _ _ _ _ _ _ q=>lt_int q
theorem FD:ES X (compareOp .LtE) (rI0 λi j=>.bl (decide (i<=j))):=opB0 λ_ _ _ _ _ _ _ q=>le_int q
theorem Gr:ES X (compareOp .Gt) (rI0 λi j=>.bl (decide (j<i))):=opB0 λ_ _ _ _ _ _ _ q=>gt_int q
theorem FE:ES X (compareOp .Is) (λx y H Q=>y=.non/\Q (.bl (decide (x=.non))) H):=by
 intro pins s σ H x y v u Q I rx ry h
 obtain ⟨rfl,q⟩:=h
 cases ry
 refine is_none_gen (Bj I q ?_)
 cases x<;>first
  | (cases rx;rfl)
  | (obtain ⟨t,rfl⟩:=rx;rfl)
theorem LI:ES X (compareOp .IsNot) (λx y H Q=>y=.non/\Q (.bl (!decide (x=.non))) H):=by
 intro pins s σ H x y v u Q I rx ry h
 obtain ⟨rfl,q⟩:=h
 cases ry
 refine isnot_none_gen (Bj I q ?_)
 cases x<;>first
  | (cases rx;rfl)
  | (obtain ⟨t,rfl⟩:=rx;rfl)

theorem LH:ES X (compareOp .NotIn) (λx y H Q=>∃ i j,x=.str i/\y=.str j/\Q (.bl (!(!(Builtin.Str.occurrences j i 0 j.length 1).isEmpty))) H):=by
 intro pins s σ H x y v u Q I rx ry h
 obtain ⟨i,j,rfl,rfl,q⟩:=h
 obtain ⟨t,rfl⟩:=rx
 obtain ⟨t',rfl⟩:=ry
 exact notIn_str (Bj I q rfl)
theorem Ak (b:Expr) {op:CmpOp} (h:op≠.In:=by kd_p) (h2:op≠.NotIn:=by kd_p):behindInMarks op b=false:=by
 have e1:(op == CmpOp.In)=false:=by cases op<;>first | rfl | exact absurd rfl h
 have e2:(op == CmpOp.NotIn)=false:=by cases op<;>first | rfl | exact absurd rfl h2
 cases b<;>simp [behindInMarks,e1,e2]
theorem Bv {op:CmpOp} {r:R2} (ho:ES X (compareOp op) r) (ha:PE X a ta) (hb:PE X b tb) (hm:behindInMarks op b=false):PE X (.Compare a [op] [b] pos) (tOp r ta tb):=by
 intro pins s σ H Q I h
 exact wpAny_Compare1 (binT ha hb I h λv u s2 x y H2 I2 rx ry q=>ho pins s2 σ H2 x y v u Q I2 rx ry q) hm
def Sk (t:TE):TT:=λσ H Q=>t σ H λx H'=>∃ k,x=.bl k/\Q k H'
theorem Ah {op:CmpOp} {r:R2} (ho:ES X (compareOp op) r) (ha:PE X a ta) (hb:PE X b tb) (hm:behindInMarks op b=false):PT X (.Compare a [op] [b] pos) (Sk (tOp r ta tb)):=by
 intro pins s σ H Q I h
 refine wpAny_isTrue_Compare1 (Bt (ha pins s σ H _ I h) λv s1 ⟨x,H1,I1,r1,q1⟩=>Bt (hb pins s1 σ H1 _ I1 q1) λu s2 ⟨y,H2,I2,r2,q2⟩ =>
  Bt (ho pins s2 σ H2 x y v u _ I2 r1 r2 q2) λc s3 ⟨z,H3,I3,r3,k,e,q3⟩=>?_) hm
 subst e
 cases r3
 exact wpAny_truthy_bool ⟨H3,I3,q3⟩
def Oj (r r':R2) (ta tb tc:TE):TE:=λσ H Q=>ta σ H λx H1=>tb σ H1 λy H2=>r x y H2 λz H3=>∃ k,z=.bl k /\
 (if k=true then tc σ H3 λw' H4=>r' y w' H4 Q else Q (.bl false) H3)
theorem Jm {op op':CmpOp} {r r':R2} (ho:ES X (compareOp op) r) (ho':ES X (compareOp op') r') (ha:PE X a ta) (hb:PE X b tb) (hc:PE X c tc)
  (hm:lastMarks [op,op'] [b,c]=false:=by with_unfolding_all rfl):PE X (.Compare a [op,op'] [b,c] pos) (Oj r r' ta tb tc):=by
 intro pins s σ H Q I h
 refine Compare_chain (Bt (ha pins s σ H _ I h) λv s1 ⟨x,H1,I1,r1,q1⟩=>chain_link (Bt (hb pins s1 σ H1 _ I1 q1) λu s2 ⟨y,H2,I2,r2,q2⟩ =>
  Bt (ho pins s2 σ H2 x y v u _ I2 r1 r2 q2) λd s3 ⟨z,H3,I3,r3,k,e,q3⟩=>?_)) hm
 subst e
 cases r3
 refine wpAny_truthy_bool ?_
 cases k with
 |false=>exact ite_ff ⟨.bl false,H3,I3,rfl,q3⟩
 |true=>exact ite_tt (chain_last (Bt (hc pins s3 σ H3 _ I3 q3) λw' s4 ⟨z',H4,I4,r4,q4⟩=>ho' pins s4 σ H4 y z' u w' Q I4 r2 r4 q4))
theorem FB {op op':CmpOp} {r r':R2} (ho:ES X (compareOp op) r) (ho':ES X (compareOp op') r') (ha:PE X a ta) (hb:PE X b tb) (hc:PE X c tc)
  (hm:lastMarks [op,op'] [b,c]=false:=by with_unfolding_all rfl):PT X (.Compare a [op,op'] [b,c] pos) (Sk (Oj r r' ta tb tc)):=by
 intro pins s σ H Q I h
 refine isTrue_chain (Bt (ha pins s σ H _ I h) λv s1 ⟨x,H1,I1,r1,q1⟩=>test_link (Bt (hb pins s1 σ H1 _ I1 q1) λu s2 ⟨y,H2,I2,r2,q2⟩ =>
  Bt (ho pins s2 σ H2 x y v u _ I2 r1 r2 q2) λd s3 ⟨z,H3,I3,r3,k,e,q3⟩=>?_)) hm
 subst e
 cases r3
 refine wpAny_truthy_bool ?_
 cases k with
 |false =>
  obtain ⟨k',e',q'⟩:=q3
  cases e'
  exact ite_ff ⟨H3,I3,q'⟩
 |true =>
  refine ite_tt (test_last (Bt (hc pins s3 σ H3 _ I3 q3) λw' s4 ⟨z',H4,I4,r4,q4⟩=>Bt (ho' pins s4 σ H4 y z' u w' _ I4 r2 r4 q4) λd' s5 ⟨z2,H5,I5,r5,k2,e2,q5⟩=>?_))
  subst e2
  cases r5
  exact wpAny_truthy_bool ⟨H5,I5,q5⟩

def TruV (K:J0) (x:V) (H:Hp) (k:Bool):Prop :=
 match x with
 |.non=>k=false
 |.bl b=>k=b
 |.int i=>k=(i != 0)
 |.str y=>y.length<=sizeLine/\k=((y.length:Int) != 0)
 |.byt y=>y.size<=sizeLine/\k=((y.size:Int) != 0)
 |.ref p=>(∃ xs,Aw K H p xs/\k=!xs.isEmpty)\/(∃ xs,Cn K H p xs/\k=!xs.isEmpty)\/∃ kvs,H p=some (.dK kvs)/\k=!kvs.isEmpty
 |_=>False
theorem Pd {κ:Type} {kvs:List (κ×V)} {vs:List (κ×Value)} (r:KV kvs vs):(!vs.isEmpty)=!kvs.isEmpty:=by
 cases r<;>rfl
theorem JA {xs:List V} {its:List Value} (r:AL xs its):(!its.toArray.isEmpty)=!xs.isEmpty:=by
 cases r<;>simp
theorem HP:(sizeLine:Nat)<2 ^ 63:=by rw [sizeLine_eq];decide
theorem tru_ok:TruR X (λx H Q=>∃ k,TruV X.K x H k/\Q k H):=by
 intro pins s σ H x v Q I rx h
 obtain ⟨k,e,q⟩:=h
 have hl:=HP
 have hs:sizeLine=16777216:=sizeLine_eq
 cases x with
 |non =>
  cases rx
  have e':k=false:=e
  subst e'
  exact truthy_none ⟨H,I,q⟩
 |bl b =>
  cases rx
  have e':k=b:=e
  subst e'
  exact wpAny_truthy_bool ⟨H,I,q⟩
 |int i =>
  obtain ⟨t,rfl⟩:=rx
  have e':k=(i != 0):=e
  subst e'
  exact PySem.P.truthy_int ⟨H,I,q⟩
 |str y =>
  obtain ⟨t,rfl⟩:=rx
  obtain ⟨hy,e'⟩:y.length<=sizeLine/\k=((y.length:Int) != 0):=e
  subst e'
  exact PySem.P.truthy_str (by lia) ⟨H,I.tok _,q⟩
 |byt y =>
  obtain ⟨t,rfl⟩:=rx
  obtain ⟨hy,e'⟩:y.size<=sizeLine/\k=((y.size:Int) != 0):=e
  subst e'
  exact PySem.W.truthy_bytes (by lia) ⟨H,I.tok _,q⟩
 |ref p =>
  cases rx
  have e':(∃ xs,Aw X.K H p xs/\k=!xs.isEmpty)\/(∃ xs,Cn X.K H p xs/\k=!xs.isEmpty)\/∃ kvs,H p=some (.dK kvs)/\k=!kvs.isEmpty:=e
  rcases e' with ⟨xs,hx,e'⟩ | ⟨xs,hx,e'⟩ | ⟨kvs,hx,e'⟩
  ·subst e'
   obtain ⟨its,r,pl,hz⟩:=I.list hx
   have hlen:=r.length
   exact wpAny_truthy_list pl.isList (by simp only [W0];lia) ⟨H,I.tok _,by rw [JA r];exact q⟩
  ·subst e'
   obtain ⟨its,r,pl,hz⟩:=I.tuple hx
   have hlen:=r.length
   exact truthy_tuple pl (by simp only [W0];lia) ⟨H,I.tok _,by rw [JA r];exact q⟩
  ·subst e'
   obtain ⟨hz,hS,vs,r,m⟩:kvs.length<=sizeLine/\(p == sysModules)=false/\∃ vs,KV kvs vs/\s.heap.DictOf (BE X.prog X.w) p vs:=I.hok p _ hx
   have hlen:kvs.length=vs.length:=Paired.length r
   exact wpAny_truthy_dict hS m (by lia) ⟨H,I.tok _,by rw [Pd r];exact q⟩
 |_=>exact (show False from e).elim
theorem MY (ha:PE X a ta) (he:∀ whole,isTrue a X.env whole=(do let v <- whole;standAt a.pos;holding [v] (truthy v))) :
  PT X a (λσ H Q=>ta σ H λx H'=>∃ k,TruV X.K x H' k/\Q k H'):=by
 intro pins s σ H Q I h
 exact isTrue_plain (Bt (ha pins s σ H _ I h) λv s1 ⟨x,H1,I1,r1,q1⟩=>tru_ok pins s1 σ H1 x v Q I1 r1 q1) (he _)

theorem Bl:ES X (binaryOp .Add) (λx y H Q=>∃ i j,x=.str i/\y=.str j/\i.length+j.length<=sizeLine/\Q (.str (i++j)) H):=by
 intro pins s σ H x y v u Q I rx ry h
 obtain ⟨i,j,rfl,rfl,hz,q⟩:=h
 obtain ⟨t,rfl⟩:=rx
 obtain ⟨t',rfl⟩:=ry
 exact add_str (λt' tk=>⟨.str (i++j),H,I.tok _,⟨_,rfl⟩,q⟩) hz
theorem Eo {x:V} {us:List Value} (r:AL [x] us):∃ u,us=[u]/\Bd x u:=by
 cases r with
 |cons r1 r2=>cases r2;exact ⟨_,rfl,r1⟩
theorem RZ {x y:V} {us:List Value} (r:AL [x,y] us):∃ u w',us=[u,w']/\Bd x u/\Bd y w':=by
 cases r with
 |cons r1 r2 =>
  cases r2 with
  |cons r3 r4=>cases r4;exact ⟨_,_,rfl,r1,r3⟩
theorem Gb:Ek X (.type "int") (λxs H Q=>(∃ i,xs=[.int i]/\Q (.int i) H)\/∃ k,xs=[.bl k]/\Q (.int (if k then 1 else 0)) H):=by
 intro pins s σ H xs us Q I r h
 rcases h with ⟨i,rfl,q⟩ | ⟨k,rfl,q⟩
 ·obtain ⟨u,rfl,t,rfl⟩:=Eo r
  exact call_int_int ⟨.int i,H,I,⟨_,rfl⟩,q⟩
 ·obtain ⟨u,rfl,r1⟩:=Eo r
  cases r1
  exact call_int_bool ⟨.int (if k then 1 else 0),H,I.tok _,⟨_,rfl⟩,q⟩
def Ke (K:J0) (x:V) (H:Hp) (n:Nat):Prop :=
 match x with
 |.str y=>y.length<=sizeLine/\n=y.length
 |.byt y=>y.size<=sizeLine/\n=y.size
 |.ref p=>(∃ xs,Aw K H p xs/\n=xs.length)\/∃ xs,Cn K H p xs/\n=xs.length
 |_=>False
theorem Az:Ek X (.builtin "len") (λxs H Q=>∃ x n,xs=[x]/\Ke X.K x H n/\Q (.int n) H):=by
 intro pins s σ H xs us Q I r h
 obtain ⟨x,n,rfl,e,q⟩:=h
 obtain ⟨u,rfl,rx⟩:=Eo r
 have hl:=HP
 have hs:sizeLine=16777216:=sizeLine_eq
 cases x with
 |str y =>
  obtain ⟨t,rfl⟩:=rx
  obtain ⟨hy,e'⟩:y.length<=sizeLine/\n=y.length:=e
  subst e'
  exact len_str (by lia) ⟨.int _,H,I.tok _,⟨_,rfl⟩,q⟩
 |byt y =>
  obtain ⟨t,rfl⟩:=rx
  obtain ⟨hy,e'⟩:y.size<=sizeLine/\n=y.size:=e
  subst e'
  exact PySem.W.len_bytes (by lia) ⟨.int _,H,I.tok _,⟨_,rfl⟩,q⟩
 |ref p =>
  cases rx
  have e':(∃ xs,Aw X.K H p xs/\n=xs.length)\/∃ xs,Cn X.K H p xs/\n=xs.length:=e
  rcases e' with ⟨xs,hx,e'⟩ | ⟨xs,hx,e'⟩
  ·subst e'
   obtain ⟨its,r',pl,hz⟩:=I.list hx
   have hlen:=r'.length
   exact Calls.call_len_list pl.isList (by simp only [W0];lia) ⟨.int xs.length,H,I.tok _,⟨_,by simp only [W0];rw [hlen]⟩,q⟩
  ·subst e'
   obtain ⟨its,r',pl,hz⟩:=I.tuple hx
   have hlen:=r'.length
   exact len_tuple pl (by simp only [W0];lia) ⟨.int xs.length,H,I.tok _,⟨_,by simp only [W0];rw [hlen]⟩,q⟩
 |_=>exact (show False from e).elim
end

structure Pw (h:Heap) (x dx C:Addr) (mA:Str->Option Value):Prop where
 obj:h.get? x=some (C5 C dx)
 ns:h.Ns1 dx mA
 ne:dx≠x

theorem HN {h:Heap} {dx:Addr} {mA:Str->Option Value} (n:h.Ns1 dx mA):∃ od,h.get? dx=some od/\∀ name,j6 name od=some (mA name):=by
 obtain ⟨o,es,ep,ho,hd,hk,_,hm⟩:=n
 refine ⟨o,ho,λname=>?_⟩
 have e:=hm name
 unfold nsFind findBy at e
 rw [<- Array.find?_toList] at e
 unfold j6
 rw [hd]
 dsimp only
 split
 ·rename_i y q
  rw [q] at e
  exact congrArg some e
 ·rename_i q
  rw [q] at e
  have a:es.toList.any (·.refKey)=false:=by
   rw [List.any_eq_false]
   intro y hy
   obtain ⟨z,t,hkey⟩:=hk y (V9.mp hy)
   simp [DictEntry.refKey,hkey]
  have a':¬ es.toList.any (·.refKey)=true:=by rw [a];exact Q0
  rw [if_neg a']
  exact congrArg some e

theorem Pw.look {h:Heap} {x dx C:Addr} {mA:Str->Option Value} (I:Pw h x dx C mA):∃ od,T8 h x (C5 C dx) C (some od)/\∀ name,j6 name od=some (mA name) :=
 let ⟨od,ho,hl⟩:=HN I.ns
 ⟨od,⟨I.obj,rfl,rfl,ho⟩,hl⟩

section
variable {prog:Program} {w:World} {A:Around} {E:Value->Shared->Prop} {s:Shared} {K:J0} {x dx C f:Addr} {mA:Str->Option Value} {name:Str} {v:Value}

theorem get_map {expr:Bool} {Q:Value->Shared->Prop} (X:K.In s.heap) (I:Pw s.heap x dx C mA) (hg:P6 K C name=true) (hh:E5 K C=true)
  (ha:T1 K (.ref C) name=some none) (hv:mA name=some v) (hv':PySem.W.handedIn v=true) (h:Q v { s with toks:=s.toks+1 }) :
  wpAny (model prog w) A (getAttr (.ref x) name expr) Q E s:=by
 obtain ⟨od,J,hl⟩:=I.look
 exact PySem.W.get_value X J (Y7 hg).1 (PySem.W.findObj_own hh ha rfl (by rw [hl,hv])) hv' h

theorem Up {pl:Sem Bool} {Q:Value×List Value->Shared->Prop} (X:K.In s.heap) (I:Pw s.heap x dx C mA) (hg:P6 K C name=true)
  (hf:T1 K (.ref C) name=some (some (.ref f))) (ht:C6 K (.ref f)=true) (hv:mA name=none) (h:Q (.ref f,[.ref x]) s) :
  wpAny (model prog w) A (getMethod (.ref x) name pl) Q E s:=by
 obtain ⟨od,J,hl⟩:=I.look
 exact PySem.W.method_fn X J (Y7 hg).1 (Y7 hg).2 hf (beq_iff_eq.mp ht) (by show (j6 name od).map (·.isSome)=some false;rw [hl,hv];rfl) h

theorem set_map {ns:List Str} {Q:Unit->Shared->Prop} (X:K.In s.heap) (I:Pw s.heap x dx C mA)
  (hs:T1 K (.ref C) "__setattr__"=some (some (.builtin "object.__setattr__"))) (hp:k7 K C=true) (ht:A5 K C name=some none) (hh:E5 K C=true)
  (hw:PySem.Within mA ns) (hsz:ns.length<=sizeLine)
  (h:∀ h',Pw h' x dx C (λy=>if y=name then some v else mA y)->Heap.SameBut dx s.heap h'->Q () { s with heap:=h',toks:=s.toks+2 }) :
  wpAny (model prog w) A (setAttr (.ref x) name v) Q E s:=by
 obtain ⟨od,J,hl⟩:=I.look
 refine PySem.W.set_plain X J hs (PySem.W.osa_open (s:={ s with toks:=s.toks+1 }) (r:=none) X J hp ht λb=>?_)
 obtain ⟨cd,hc,hd'⟩:=PySem.W.any_some hh
 have hx:s.heap.get? x=some ⟨.ref C,some dx,.plain,#[]⟩:=I.obj
 refine wpAny_bind (wpAny_pure (wpAny_bind (wpAny_bind (wpAny_loadPart hx (wpAny_bind (PySem.W.Looks.here (s:={ s with toks:=s.toks+1 }) (PySem.W.looks_clsIn X hc) ?_))))))
 rw [hd']
 refine wpAny_pure (a:=some dx) (wpAny_bind (wpAny_pure (wpAny_bind ?_)))
 refine wpAny_nsSet1 (s:={ s with toks:=s.toks+1 }) I.ns λh' hn2 hs2=>?_
 obtain ⟨oD,esD,epD,hoD,hdD,hcD⟩:=hn2.count (PySem.Within.cons name v hw)
 refine wpAny_bind (wpAny_lookBehind hoD (by rw [hdD];exact pastItsLine_dict (T0 hcD (by rw [P0];lia))) ?_)
 exact wpAny_pure (h _ ⟨(hs2.2 _ (Ne.symm I.ne)).trans I.obj,hn2,I.ne⟩ hs2)

theorem TH {R:Result->Shared->Prop} {vs:List Value} {kw:List (Str×Value)} (X:K.In s.heap) (hm:K8 K C=true)
  (hi:T1 K (.ref C) "__init__"=some (some (.ref f))) (hf:PySem.W.typeIn K (.ref f)=some (.type "function"))
  (h:codeAny (model prog w) (A.under (.builtin "type.__call__" ⟨.ref C::vs,kw⟩)) (.call (.ref f) ⟨.ref (s.heap.objs.size+1)::vs,kw⟩) (PySem.W.InitBack (s.heap.objs.size+1) R)
   { s with heap:=(s.heap.push E4).push (C5 C s.heap.objs.size) }) :
  codeAny (model prog w) A (.call (.ref C) ⟨vs,kw⟩) R s:=by
 obtain ⟨hh,g,d,t,os⟩:=s
 exact PySem.W.make_core (PySem.W.makes_of X hm) (PySem.W.looks_findIn X hi) (λself=>PySem.W.bind_fn X self hf) (.inl rfl) h
end

def Cz (f:Str) (v:V):List (Str×V)->List (Str×V)
 |[]=>[(f,v)]
 | (g,x)::r=>if g=f then (g,v)::r else (g,x)::Cz f v r
theorem DF (f g:Str) (v:V):∀ fs:List (Str×V),(Cz f v fs).lookup g=if g=f then some v else fs.lookup g
 |[]=>by
  show A4 g [(f,v)]=_
  by_cases h:g=f
  ·have hb:(g == f)=true:=beq_iff_eq.mpr h
   simp only [A4,hb,if_pos h]
  ·have hb:(g == f)=false:=beq_eq_false_iff_ne.mpr h
   simp only [A4,hb,if_neg h]
 | (k,x)::r=>by
  have ih:=DF f g v r
  rw [show Cz f v ((k,x)::r)=(if k=f then (k,v)::r else (k,x)::Cz f v r) from rfl]
  by_cases hk:k=f
  ·rw [if_pos hk]
   by_cases h:g=k
   ·have hb:(g == k)=true:=beq_iff_eq.mpr h
    simp only [A4,hb,if_pos (h.trans hk)]
   ·have hb:(g == k)=false:=beq_eq_false_iff_ne.mpr h
    simp only [A4,hb,if_neg (λe:g=f=>h (e.trans hk.symm))]
  ·rw [if_neg hk]
   by_cases h:g=k
   ·have hb:(g == k)=true:=beq_iff_eq.mpr h
    simp only [A4,hb,if_neg (λe:g=f=>hk (h.symm.trans e))]
   ·have hb:(g == k)=false:=beq_eq_false_iff_ne.mpr h
    simp only [A4,hb]
    exact ih
theorem EL (f:Str) (v:V):∀ fs:List (Str×V),f∈(Cz f v fs).map (·.1)/\∀ g,g∈fs.map (·.1)->g∈(Cz f v fs).map (·.1)
 |[]=>⟨by simp [Cz],λg h=>by simp at h⟩
 | (k,x)::r=>by
  obtain ⟨i1,i2⟩:=EL f v r
  rw [show Cz f v ((k,x)::r)=(if k=f then (k,v)::r else (k,x)::Cz f v r) from rfl]
  by_cases hk:k=f
  ·rw [if_pos hk]
   subst hk
   exact ⟨by simp,λg h=>by simpa using h⟩
  ·rw [if_neg hk]
   refine ⟨?_,λg h=>?_⟩
   ·rw [F1]
    exact A0 _ i1
   ·rw [F1] at h |-
    rcases K0.mp h with e | e
    ·exact K0.mpr (.inl e)
    ·exact A0 _ (i2 g e)
theorem FH (f:Str) (v:V):∀ fs:List (Str×V),(Cz f v fs).length<=fs.length+1
 |[]=>by simp [Cz]
 | (k,x)::r=>by
  have ih:=FH f v r
  rw [show Cz f v ((k,x)::r)=(if k=f then (k,v)::r else (k,x)::Cz f v r) from rfl]
  by_cases hk:k=f
  ·rw [if_pos hk,P0,P0];lia
  ·rw [if_neg hk,P0,P0];lia

theorem DL.some_of {v:V} {o:Option Value} (r:DL (some v) o):∃ u,o=some u/\Bd v u:=by
 cases o with
 |none=>exact (show False from r).elim
 |some u=>exact ⟨u,rfl,r⟩
theorem DL.none_of {o:Option Value} (r:DL none o):o=none:=by
 cases o with
 |none=>rfl
 |some u=>exact (show False from r).elim
theorem KL {v:V} {u:Value} (r:Bd v u):PySem.W.handedIn u=true:=by
 cases v with
 |non=>cases (show u=Value.none from r);rfl
 |bl b=>cases (show u=Value.bool b from r);rfl
 |int i=>obtain ⟨t,e⟩:=(show ∃ t,u=Value.int i t from r);cases e;rfl
 |str x=>obtain ⟨t,e⟩:=(show ∃ t,u=Value.str x t from r);cases e;rfl
 |byt b=>obtain ⟨t,e⟩:=(show ∃ t,u=Value.bytes b t from r);cases e;rfl
 |flt b=>obtain ⟨t,e⟩:=(show ∃ t,u=Value.float b t from r);cases e;rfl
 |ref a=>cases (show u=Value.ref a from r);rfl
 |ty n=>cases (show u=Value.type n from r);rfl

section
variable {P:Program} {w:World} {H H':Hp} {h h':Heap} {a C dx:Addr} {fs fs':List (Str×V)}
theorem IN (hok:Gp P w H h) (e:H a=some (.ins C dx fs)):∃ mA,Pw h a dx C mA/\(∀ f,DL (fs.lookup f) (mA f))/\PySem.Within mA (fs.map (·.1))/\fs.length<=1000/\H dx=some (.own a):=by
 obtain ⟨d,z,ne,ob,mA,n,r,q⟩:=(show BC P w H h a (.ins C dx fs) from hok a _ e)
 exact ⟨mA,⟨ob,n,ne⟩,r,q,z,d⟩
end

structure Ob (K:J0) (C:Addr):Prop where
 pg:P6 K C Str.empty=true
 hd:E5 K C=true
 po:k7 K C=true
 sa:T1 K (.ref C) "__setattr__"=some (some (.builtin "object.__setattr__"))
theorem Ob.get {K:J0} {C:Addr} (c:Ob K C) (f:Str):P6 K C f=true:=c.pg
def CS (K:J0) (C:Addr) (f:Str):Prop:=T1 K (.ref C) f=some none
theorem CS.taker {K:J0} {C:Addr} {f:Str} (n:CS K C f):A5 K C f=some none:=by
 unfold A5
 rw [show T1 K (.ref C) f=some none from n]
 rfl
structure Meth (K:J0) (C:Addr) (m:Str) (f:Addr):Prop where
 at_:T1 K (.ref C) m=some (some (.ref f))
 fn:C6 K (.ref f)=true
 kp:F3 K (.ref f)=true

section
variable {X:Cx} {pins:List (Addr×Obj)} {σ:St} {H:Hp} {s:Shared} {a C dx:Addr} {fs:List (Str×V)} {f:Str} {v:V} {A:Around} {E:Value->Shared->Prop}

theorem Pe {b:Bool} {Q:Value->Shared->Prop} (I:Ax X pins σ H s) (e:H a=some (.ins C dx fs)) (c:Ob X.K C) (n:CS X.K C f) (l:fs.lookup f=some v)
  (h:∀ u s',Ax X pins σ H s'->Bd v u->Q u s'):wpAny (model X.prog X.w) A (getAttr (.ref a) f b) Q E s:=by
 obtain ⟨mA,O,r,_,_,_⟩:=IN I.hok e
 obtain ⟨u,hu,ru⟩:=DL.some_of (v:=v) (o:=mA f) (by rw [<- l];exact r f)
 exact get_map I.kIn O (c.get f) c.hd n hu (KL ru) (h u _ (I.tok _) ru)

theorem JE {m:Str} {g:Addr} {pl:Sem Bool} {Q:Value×List Value->Shared->Prop} (I:Ax X pins σ H s) (e:H a=some (.ins C dx fs)) (c:Ob X.K C) (k:Meth X.K C m g) (l:fs.lookup m=none)
  (h:Q (.ref g,[.ref a]) s):wpAny (model X.prog X.w) A (getMethod (.ref a) m pl) Q E s:=by
 obtain ⟨mA,O,r,_,_,_⟩:=IN I.hok e
 have hn:mA m=none:=DL.none_of (by rw [<- l];exact r m)
 exact Up I.kIn O (c.get m) k.at_ k.fn hn h

theorem Os {y:V} {u:Value} {Q:Unit->Shared->Prop} (I:Ax X pins σ H s) (e:H a=some (.ins C dx fs)) (c:Ob X.K C) (n:CS X.K C f) (hl:fs.length<1000) (ry:Bd y u)
  (h:∀ s',Ax X pins σ (upd H a (.ins C dx (Cz f y fs))) s'->Q () s'):wpAny (model X.prog X.w) A (setAttr (.ref a) f u) Q E s:=by
 obtain ⟨mA,O,r,wi,_,ho⟩:=IN I.hok e
 have hz:(fs.map (·.1)).length<=sizeLine:=by rw [L0,sizeLine_eq];lia
 refine set_map I.kIn O c.sa c.po n.taker c.hd wi hz λh' O' sb=>h _ ?_
 have hd:∃ o,h'.get? dx=some o:=let ⟨o,_,_,e',_⟩:=O'.ns;⟨o,e'⟩
 refine I.write (x:=a) (e:=dx) (by rw [e];exact True.intro) (.inr ho) (λb q hb z=>(sb.2 b hb).trans z) hd ?_
 refine ⟨by rw [Ap O.ne];exact ho,?_,O.ne,O'.obj,_,O'.ns,λg=>?_,λg hg=>?_⟩
 ·have:=FH f y fs;lia
 ·show DL ((Cz f y fs).lookup g) (if g=f then some u else mA g)
  rw [DF]
  by_cases q:g=f
  ·rw [if_pos q,if_pos q];exact ry
  ·rw [if_neg q,if_neg q];exact r g
 ·by_cases q:g=f
  ·rw [q];exact (EL f y fs).1
  ·refine (EL f y fs).2 g (wi g λz=>hg ?_)
   show (if g=f then some u else mA g)=none
   rw [if_neg q];exact z

theorem Ax.made (I:Ax X pins σ H s):Ax X pins σ (upd (upd H s.heap.objs.size (.own (s.heap.objs.size+1))) (s.heap.objs.size+1) (.ins C s.heap.objs.size []))
  { s with heap:=(s.heap.push E4).push (C5 C s.heap.objs.size) }:=by
 have e1:(s.heap.push E4).get? s.heap.objs.size=some E4:=Heap.get?_push_size s.heap rfl
 have e2:((s.heap.push E4).push (C5 C s.heap.objs.size)).get? (s.heap.objs.size+1)=some (C5 C s.heap.objs.size):=by
  have:=Heap.get?_push_size (s.heap.push E4) (o:=C5 C s.heap.objs.size) rfl
  rwa [Heap.size_push] at this
 have e3:(s.heap.push E4).Ns s.heap.objs.size (λ_=>none):=⟨E4,#[],_,e1,rfl,(λe he=>absurd he (by simp)),λ_=>rfl⟩
 have I1:=I.laid (a:=s.heap.objs.size) (o:=.own (s.heap.objs.size+1)) (h':=s.heap.push E4) (t':=s.toks) (λb u q=>Heap.get?_push_of_some _ q) (V0 _) ⟨_,e1⟩
 refine I1.laid (a:=s.heap.objs.size+1) (o:=.ins C s.heap.objs.size []) (t':=s.toks) (λb u q=>Heap.get?_push_of_some _ q) (M7 (Heap.size_push _ _)) ?_
 have ne:s.heap.objs.size≠s.heap.objs.size+1:=Y1 (B8 _)
 refine ⟨by rw [Ap ne,Ad],N1 _,ne,e2,λ_=>none,(Heap.Ns1.of_empty e3).at λo q=>Heap.get?_push_of_some _ q,λ_=>True.intro,λy hy=>absurd rfl hy⟩

theorem Qv {prog:Program} {w:World} {env:Env} {e:Expr} {f:Str} {pos:Pos} {s:Shared} {Q:Value->Shared->Prop} (hb:attributeBase e f env (eval e env)=eval e env)
  (h:wpAny (model prog w) A (eval e env) (λo s₁=>wpAny (model prog w) A (getAttr o f true) Q E s₁) E s):wpAny (model prog w) A (eval (.Attribute e f pos) env) Q E s :=
 Attribute_any_ h (by rw [arm_eval_Attribute,hb])
end

def Sr (K:J0) (ta:TE) (f:Str):TE:=λσ H Q=>ta σ H λx H1=>∃ a C dx fs v,x=.ref a/\H1 a=some (.ins C dx fs)/\Ob K C/\CS K C f/\fs.lookup f=some v/\Q v H1
def sFld (K:J0) (ta tv:TE) (f:Str):TS:=λD σ H=>tv σ H λy H1=>ta σ H1 λx H2=>∃ a C dx fs,x=.ref a/\H2 a=some (.ins C dx fs)/\Ob K C/\CS K C f/\fs.length<1000 /\
 D.nx σ (upd H2 a (.ins C dx (Cz f y fs)))
section
variable {X:Cx} {o e value:Expr} {f:Str} {pos pos' tpos:Pos} {ta tv:TE}
theorem Bx (he:PE X e ta) (hb:attributeBase e f X.env (eval e X.env)=eval e X.env):PE X (.Attribute e f pos) (Sr X.K ta f):=by
 intro pins s σ H Q I h
 refine Qv hb (Bt (he pins s σ H _ I h) λu s1 ⟨x,H1,I1,rx,a,C,dx,fs,v,ex,ea,c,n,l,q⟩=>?_)
 subst ex
 obtain rfl:u=Value.ref a:=rx
 exact Pe I1 ea c n l λu' s2 I2 ru=>⟨v,H1,I2,ru,q⟩
theorem Fa (ha:PE X o ta) (hv:PE X value tv) (hs:swapsWith value (some (.Attribute o f pos')) pos.line X.env=pure false):PS X (.Assign [.Attribute o f pos'] value pos) (sFld X.K ta tv f):=by
 intro pins s σ H D I h
 refine plainObj_wpAny_Assign_Attribute (Bt (hv pins s σ H _ I h) λu s1 ⟨y,H1,I1,ry,q⟩=>Bt (ha pins s1 σ H1 _ I1 q) λov s2 ⟨x,H2,I2,rx,a,C,dx,fs,ex,ea,c,n,l,q2⟩=>?_) hs
 subst ex
 obtain rfl:ov=Value.ref a:=rx
 exact Os I2 ea c n l ry λs3 I3=>⟨σ,_,I3,q2⟩
end

section
variable {X:Cx} {pins:List (Addr×Obj)} {σ:St} {H:Hp} {s:Shared} {A:Around} {E:Value->Shared->Prop} {Q:Value->Shared->Prop} {c:Value} {b:Bool}
inductive FM (K:J0) (H:Hp):V->Value->Prop where
 |non:FM K H .non (.type "NoneType")
 |bl (x:Bool):FM K H (.bl x) (.type "bool")
 |int (i:Int):FM K H (.int i) (.type "int")
 |str (x:Str):FM K H (.str x) (.type "str")
 |flt (x:UInt64):FM K H (.flt x) (.type "float")
 |lst {a:Addr} {xs:List V} (e:H a=some (.lst xs)):FM K H (.ref a) (.type "list")
 |frz {a:Addr} {o:Obj} {xs:List V} (e:H a=some (.frz o (.lst xs))):FM K H (.ref a) (.type "list")
 |tup {a:Addr} {xs:List V} (e:H a=some (.tup xs)):FM K H (.ref a) (.type "tuple")
 |dK {a:Addr} {kvs:List (Cr×V)} (e:H a=some (.dK kvs)):FM K H (.ref a) (.type "dict")
 |dT {a:Addr} {kvs:List (List Cr×V)} (e:H a=some (.dT kvs)):FM K H (.ref a) (.type "dict")
 |ins {a C dx:Addr} {fs:List (Str×V)} (e:H a=some (.ins C dx fs)) (cl:Ob K C) (ha:T1 K (.ref C) "__class__"=some (some (.builtin "object.__class__")))
   (hn:j7 K (.builtin "object.__class__") "__get__"=some (some (.builtin "getset_descriptor.__get__"))) (htk:F8 K (.builtin "object.__class__")=some true)
   (hm:S5 K C (.type "object")=some true):FM K H (.ref a) (.ref C)
theorem Rp {x:V} {u t:Value} (I:Ax X pins σ H s) (rx:Bd x u) (ty:FM X.K H x t) (e:W1 X.K t c=some b) (h:∀ tk,Q (.bool b) { s with toks:=tk }) :
  wpAny (model X.prog X.w) A (call (.builtin "isinstance") [u,c]) Q E s:=by
 cases ty with
 |non=>cases (show u=Value.none from rx);exact Q3 PySem.W.kitx_none I.kIn True.intro e (λz=>nomatch z) h
 |bl y=>cases (show u=Value.bool y from rx);exact Q3 PySem.W.kitx_bool I.kIn True.intro e (λz=>nomatch z) h
 |int i=>obtain ⟨t,q⟩:=(show ∃ t,u=Value.int i t from rx);cases q;exact Q3 PySem.W.kitx_int I.kIn True.intro e (λz=>nomatch z) h
 |str y=>obtain ⟨t,q⟩:=(show ∃ t,u=Value.str y t from rx);cases q;exact Q3 PySem.W.kitx_str I.kIn True.intro e (λz=>nomatch z) h
 |flt y=>obtain ⟨t,q⟩:=(show ∃ t,u=Value.float y t from rx);cases q;exact Q3 PySem.W.kitx_float I.kIn True.intro e (λz=>nomatch z) h
 |@lst a xs ea =>
  cases (show u=Value.ref a from rx)
  obtain ⟨_,_,n,_,h1⟩:=(show BC X.prog X.w H s.heap a (.lst xs) from I.hok a _ ea)
  exact Q3 PySem.W.kitx_list I.kIn ⟨_,h1,rfl⟩ e (λz=>nomatch z) h
 |@frz a ob xs ea =>
  cases (show u=Value.ref a from rx)
  obtain ⟨_,_,_,n,_,h1⟩:=(show BC X.prog X.w H s.heap a (.frz ob (.lst xs)) from I.hok a _ ea)
  exact Q3 PySem.W.kitx_list I.kIn ⟨_,h1,rfl⟩ e (λz=>nomatch z) h
 |@tup a xs ea =>
  cases (show u=Value.ref a from rx)
  obtain ⟨_,_,_,p⟩:=(show BC X.prog X.w H s.heap a (.tup xs) from I.hok a _ ea)
  obtain ⟨o,h1,h2,_⟩:=p
  exact Q3 PySem.W.kitx_tuple I.kIn ⟨o,h1,h2⟩ e (λz=>nomatch z) h
 |@dK a kvs ea =>
  cases (show u=Value.ref a from rx)
  obtain ⟨_,_,vs,_,p⟩:=(show BC X.prog X.w H s.heap a (.dK kvs) from I.hok a _ ea)
  obtain ⟨o,es,ep,h1,h2,_⟩:=p
  exact Q3 PySem.W.kitx_dict I.kIn ⟨o,h1,h2.1⟩ e (λz=>nomatch z) h
 |@dT a kvs ea =>
  cases (show u=Value.ref a from rx)
  obtain ⟨_,_,xs,_,o,es,ep,h1,h2,_⟩:=(show BC X.prog X.w H s.heap a (.dT kvs) from I.hok a _ ea)
  exact Q3 PySem.W.kitx_dict I.kIn ⟨o,h1,h2.1⟩ e (λz=>nomatch z) h
 |@ins a C dx fs ea cl ha hn htk hm =>
  cases (show u=Value.ref a from rx)
  obtain ⟨mA,O,_⟩:=IN I.hok ea
  obtain ⟨od,J,_⟩:=O.look
  exact Q3 (PySem.W.kitx_own (cl.get _) cl.hd ha hn htk hm) I.kIn J e (λz=>nomatch z) h
end

structure Cm (k:Nat) (A:Around):Prop where
 hd:A.handled=none
 dp:A.depth+3*k+5<recursionLimit
 un:A.units+16*k+200<cLine
theorem Cm.mono {j k:Nat} {A:Around} (r:Cm k A) (h:j<=k):Cm j A:=⟨r.hd,by have:=r.dp;lia,by have:=r.un;lia⟩
theorem Cm.deeper {k:Nat} {A:Around} (r:Cm (k+1) A) (env:Env):Cm k (A.deeper env) :=
 ⟨r.hd,by have:=r.dp;show A.depth+1+3*k+5<_;lia,by have:=r.un;show A.units+3+16*k+200<_;lia⟩
theorem OW {A:Around} {C:Addr} {us:List Value} {kw:List (Str×Value)}:(A.under (.builtin "type.__call__" ⟨.ref C::us,kw⟩)).depth=A.depth+1:=by
 first | rfl | simp [Around.under,Code.weight,Code.isCreation,Code.isGuard,Code.isCaller,Code.frames,Code.isFrame,guardIds]
theorem OV {A:Around} {C:Addr} {us:List Value} {kw:List (Str×Value)}:(A.under (.builtin "type.__call__" ⟨.ref C::us,kw⟩)).units=A.units+1:=by
 first | rfl | simp [Around.under,Code.cUnits,Code.frames,Code.isFrame]
theorem Cm.make {k:Nat} {A:Around} (r:Cm (k+1) A) (C:Addr) (us:List Value) (kw:List (Str×Value)):Cm k (A.under (.builtin "type.__call__" ⟨.ref C::us,kw⟩)) :=
 ⟨r.hd,by have:=r.dp;rw [OW];lia,by have:=r.un;rw [OV];lia⟩
theorem Cm.depth {k:Nat} {A:Around} (r:Cm k A):A.depth<recursionLimit:=by have:=r.dp;lia
theorem Cm.units {k:Nat} {A:Around} (r:Cm k A):A.units+64<cLine:=by have:=r.un;lia
def MC:TA:=λ_ H Q=>Q [] H
def IV (ta:TE) (tr:TA):TA:=λσ H Q=>ta σ H λx H1=>tr σ H1 λxs H2=>Q (x::xs) H2
section
variable {X:Cx} {e:Expr} {es:List Expr} {te:TE} {t:TA} {pos:Pos}
theorem Ab:PA X [] MC:=λ_ _ _ _ H Q I h=>Calls.spliced_nil ⟨[],H,I,.nil,h⟩
theorem Aa (ha:PE X e te) (hr:PA X es t) (hs:starEach (e::es) X.env=(false,eval e X.env)::starEach es X.env:=by rfl):PA X (e::es) (IV te t):=by
 intro pos pins s σ H Q I h
 rw [hs]
 show wpAny _ _ (spliced ((false,eval e X.env)::backTo pos (starEach es X.env))) _ _ s
 refine Calls.spliced_cons (Bt (ha pins s σ H _ I h) λu s1 ⟨x,H1,I1,r1,q1⟩=>?_)
 exact Bt (hr pos pins s1 σ H1 _ I1 q1) λus s2 ⟨xs,H2,I2,r2,q2⟩=>⟨x::xs,H2,I2,.cons r1 r2,q2⟩

def tTup (t:TA):TE:=λσ H Q=>t σ H λxs H1=>xs.length<=sizeLine/\∀ p,H1 p=none->Q (.ref p) (upd H1 p (.tup xs))
def tLst (t:TA):TE:=λσ H Q=>t σ H λxs H1=>xs.length<=sizeLine/\∀ p,H1 p=none->Q (.ref p) (upd H1 p (.lst xs))
theorem Bh {x1} (h:PA X es t):PE X (.Tuple es x1 pos) (tTup t):=by
 intro pins s σ H Q I hq
 refine wpAny_Tuple_spliced (Bt (h pos pins s σ H _ I hq) λus s1 ⟨xs,H1,I1,r,z,q⟩=>⟨by rw [<- r.length];exact z,?_⟩)
 have hf:H1 s1.heap.objs.size=none:=I1.hok.fresh (V0 _)
 refine ⟨.ref s1.heap.objs.size,upd H1 s1.heap.objs.size (.tup xs),I1.laid (t':=s1.toks) (λb u e=>Heap.get?_push_of_some _ e) (V0 _) ?_,rfl,q _ hf⟩
 exact ⟨z,us,r,⟨_,Heap.get?_push_size _ rfl,rfl,_,rfl⟩⟩
theorem Aj (h:PA X es t):PE X (.List es pos) (tLst t):=by
 intro pins s σ H Q I hq
 refine wpAny_List_spliced (Bt (h pos pins s σ H _ I hq) λus s1 ⟨xs,H1,I1,r,z,q⟩=>⟨by rw [<- r.length];exact z,?_⟩)
 have hf:H1 s1.heap.objs.size=none:=I1.hok.fresh (V0 _)
 refine ⟨.ref s1.heap.objs.size,upd H1 s1.heap.objs.size (.lst xs),I1.laid (t':=s1.toks) (λb u e=>Heap.get?_push_of_some _ e) (V0 _) ?_,rfl,q _ hf⟩
 exact ⟨z,us,0,r,Heap.get?_push_size _ rfl⟩
end

abbrev Sp:=List V->Hp->VK->XK->Prop
abbrev Kf:=List Env->Hp->Shared->XK->Value->Shared->Prop

structure Mo (P:Program) (w:World) (K:J0) (mg:Str->Option Value) (base:Heap) (A:Around) (outer:List Env) (s:Shared) (H:Hp):Prop where
 frames:A.frames=some outer
 mod:Mod K mg base
 bs:∀ b o,base.get? b=some o->s.heap.get? b=some o/\H b=none
 bsz:base.objs.size<=s.heap.objs.size
 funs:s.heap.FunFrames base outer
 frf:∀ b∈IE outer,H b=none
 hok:Gp P w H s.heap
 bare:AllBare s.gens
def CE (outer:List Env) (P:Program) (w:World) (H:Hp) (s:Shared) (Q:VK) (u:Value) (s':Shared):Prop :=
 ∃ v H',s'.os=s.os/\AllBare s'.gens/\Un (IE outer) [] H H' s.heap s'.heap/\Gp P w H' s'.heap/\Bd v u/\Q v H'
def CR (CX:Kf) (outer:List Env) (P:Program) (w:World) (H:Hp) (s:Shared) (Q:VK) (E:XK) (r:Result) (s':Shared):Prop :=
 match r with
 |.ok (.ret u)=>CE outer P w H s Q u s'
 |.ok _=>False
 |.error e=>CX outer H s E e s'
structure BD (P:Program) (w:World) (K:J0) (mg:Str->Option Value) (base:Heap) (CX:Kf) (k:Nat) (f:Addr) (fd:FuncData) (ps:List Str) (sp:Sp):Prop where
 len:∀ vs H Q E,sp vs H Q E->vs.length=ps.length
 run:∀ (A:Around) (outer:List Env) (s:Shared) (H:Hp) (args:Args) (us:List Value) (vs:List V) (Q:VK) (E:XK),Cm k A->Mo P w K mg base A outer s H->BindsTo s fd args (ps.zip us)->AL vs us->sp vs H Q E ->
  codeAny (model P w) A (.call (.ref f) args) (CR CX outer P w H s Q E) s
theorem Mo.make {P:Program} {w:World} {K:J0} {mg:Str->Option Value} {base:Heap} {A:Around} {outer:List Env} {s:Shared} {H:Hp} (e:Mo P w K mg base A outer s H) (C:Addr) (us:List Value) (kw:List (Str×Value)) :
  Mo P w K mg base (A.under (.builtin "type.__call__" ⟨.ref C::us,kw⟩)) outer s H:=⟨by first | exact e.frames | (simpa [Around.under,Code.envs,Code.isFrame,pushEnvs] using e.frames),e.mod,e.bs,e.bsz,e.funs,e.frf,e.hok,e.bare⟩
section
variable {X:Cx} {pins:List (Addr×Obj)} {σ:St} {H:Hp} {s s':Shared}
theorem Ax.env0 (I:Ax X pins σ H s):Mo X.prog X.w X.K X.mg X.base X.A X.stack s H :=
 ⟨I.ok.frames,I.ok.mod,I.bs,T0 I.ok.bsz I.sz,I.stack,I.stkFree,I.hok,I.bare⟩
theorem Ax.after {Q:VK} {u:Value} (I:Ax X pins σ H s) (h:CE X.stack X.prog X.w H s Q u s'):EP X pins σ Q u s':=by
 obtain ⟨v,H',os,bare,un,hok,r,q⟩:=h
 obtain ⟨hh,g,d,t,os'⟩:=s'
 obtain rfl:os'=s.os:=os
 exact ⟨v,H',I.call (h':=hh) (g':=g) (d':=d) (t':=t) (ch:=[]) un hok bare (λb z=>absurd z (by simp)),r,q⟩
end

def PD (sp:Sp) (dvs:List V) (E:XK) (t:TA):TE:=λσ H Q=>t σ H λvs H1=>sp (vs++dvs) H1 Q E
def Sm (C:Addr) (m:Str) (sp:Sp) (dvs:List V) (E:XK) (ta:TE) (t:TA):TE:=λσ H Q=>ta σ H λx H1=>∃ a dx fs,x=.ref a/\H1 a=some (.ins C dx fs)/\fs.lookup m=none /\
 t σ H1 λvs H2=>sp (x::(vs++dvs)) H2 Q E
def Sn (C:Addr) (sp:Sp) (dvs:List V) (E:XK) (t:TA):TE:=λσ H Q=>t σ H λvs H1=>∀ x dx,H1 x=none->H1 dx=none->dx≠x ->
 sp (.ref x::(vs++dvs)) (upd (upd H1 dx (.own x)) x (.ins C dx [])) (λv H2=>v=.non/\Q (.ref x) H2) E

def Dt (K:J0) (fd:FuncData) (ps:List Str) (ds:List Value):Prop :=
 ∀ (s:Shared) (us:List Value),K.In s.heap->(us++ds).length=ps.length->BindsTo s fd ⟨us,[]⟩ (ps.zip (us++ds))
theorem Dt.all {K:J0} {fd:FuncData} {ps:List Str} (h:∀ us:List Value,us.length=ps.length->bindArgs fd ⟨us,[]⟩=pure (ps.zip us)):Dt K fd ps []:=λs us _ hl=>by
 rw [L1] at hl |-
 exact .of_eq (h us hl)

def ED (CX:Kf) (X:Cx) (E:XK):Prop:=∀ (pins:List (Addr×Obj)) (σ:St) (H:Hp) (s:Shared) (e:Value) (s':Shared),Ax X pins σ H s->CX X.stack H s E e s'->X.xe e s'

section
variable {X:Cx} {CX:Kf} {k:Nat} {f C:Addr} {fd:FuncData} {ps:List Str} {sp:Sp} {dvs:List V} {ds:List Value} {E:XK} {x m:Str} {p pos apos:Pos} {e o:Expr} {es:List Expr} {ta:TE} {t:TA}

theorem LA {pins:List (Addr×Obj)} {σ:St} {H:Hp} {s:Shared} {Q:VK} {us:List Value} {vs:List V} (F:BD X.prog X.w X.K X.mg X.base CX k f fd ps sp) (hr:Cm k X.A) (hb:Dt X.K fd ps ds) (hd:AL dvs ds) (hx:ED CX X E)
  (I:Ax X pins σ H s) (r:AL vs us) (h:sp (vs++dvs) H Q E):wpAny (model X.prog X.w) X.A (call (.ref f) us) (EP X pins σ Q) X.xe s:=by
 have r2:AL (vs++dvs) (us++ds):=r.append hd
 have hl:(us++ds).length=ps.length:=by rw [<- r2.length];exact F.len _ _ _ _ h
 refine wpAny_call (codeAny_mono (F.run X.A X.stack s H ⟨us,[]⟩ (us++ds) (vs++dvs) Q E hr I.env0 (hb s us I.kIn hl) r2 h) λr s' hq=>?_)
 cases r with
 |error e=>exact hx pins σ H s e s' I hq
 |ok fl =>
  cases fl with
  |ret u=>exact I.after hq
  |next=>exact False.elim hq
  |brk=>exact False.elim hq
  |cont=>exact False.elim hq

theorem pe_call (F:BD X.prog X.w X.K X.mg X.base CX k f fd ps sp) (hr:Cm k X.A) (hg:Gl X x) (hm:X.mg x=some (.ref f)) (hk:F3 X.K (.ref f)=true) (hb:Dt X.K fd ps ds) (hd:AL dvs ds) (hx:ED CX X E)
  (ha:PA X (e::es) t) (hdb:(x == ("__debug__":Str))=false:=by kd_p) (he:starEach (e::es) X.env=(false,eval e X.env)::starEach es X.env:=by rfl) (hpl:(backTo pos (starEach es X.env)).any (·.1)=false:=by rfl) :
  PE X (.Call (.Name x p) (e::es) [] pos) (PD sp dvs E t):=by
 intro pins s σ H Q I h
 refine wpAny_Call_Name_kw (Ev I hg hm ?_ hdb)
 refine j4 (h₀:=X.base) I.ok.mod.kin hk (Bt (ha pos pins s σ H _ I h) λus s1 ⟨vs,H1,I1,r,q⟩=>⟨I1.kIn,?_⟩) he hpl
 exact LA F hr hb hd hx I1 r q
theorem FU {pl:Sem Bool} (he:PE X o ta) (c:Ob X.K C) (hm:Meth X.K C m f) (F:BD X.prog X.w X.K X.mg X.base CX k f fd ps sp) (hr:Cm k X.A) (hb:Dt X.K fd ps ds) (hd:AL dvs ds) (hx:ED CX X E) (ha:PA X (e::es) t)
  (hst:starEach (e::es) X.env=(false,eval e X.env)::starEach es X.env:=by rfl) (hpl:(backTo pos (starEach es X.env)).any (·.1)=false:=by rfl)
  (ht:eval (.Call (.Attribute o m apos) (e::es) [] pos) X.env=(do
   let ov <- eval o X.env
   standAt apos.atName
   let (f,first) <- holding [ov] (getMethod ov m pl)
   callWith pos f first (backTo pos (starEach (e::es) X.env)) (backToKw pos (keywordEach [] X.env))):=by rfl) :
  PE X (.Call (.Attribute o m apos) (e::es) [] pos) (Sm C m sp dvs E ta t):=by
 intro pins s σ H Q I h
 refine E9 (pl:=pl) (Bt (he pins s σ H _ I h) λu s1 ⟨x,H1,I1,rx,a,dx,fs,ex,ea,l,q⟩=>?_) ht
 subst ex
 obtain rfl:u=Value.ref a:=rx
 refine JE I1 ea c hm l ?_
 refine j4 (first:=[.ref a]) (h₀:=X.base) I.ok.mod.kin hm.kp (Bt (ha pos pins s1 σ H1 _ I1 q) λus s2 ⟨vs,H2,I2,r,q2⟩=>⟨I2.kIn,?_⟩) hst hpl
 exact LA (us:=.ref a::us) (vs:=.ref a::vs) F hr hb hd hx I2 (.cons rfl r) q2
theorem Hc {pl:Sem Bool} (he:PE X o ta) (c:Ob X.K C) (hm:Meth X.K C m f) (F:BD X.prog X.w X.K X.mg X.base CX k f fd ps sp) (hr:Cm k X.A) (hb:Dt X.K fd ps ds) (hd:AL dvs ds) (hx:ED CX X E)
  (ht:eval (.Call (.Attribute o m apos) [] [] pos) X.env=(do
   let ov <- eval o X.env
   standAt apos.atName
   let (f,first) <- holding [ov] (getMethod ov m pl)
   callWith pos f first (backTo pos (starEach [] X.env)) (backToKw pos (keywordEach [] X.env))):=by rfl) :
  PE X (.Call (.Attribute o m apos) [] [] pos) (Sm C m sp dvs E ta MC):=by
 intro pins s σ H Q I h
 refine E9 (pl:=pl) (Bt (he pins s σ H _ I h) λu s1 ⟨x,H1,I1,rx,a,dx,fs,ex,ea,l,q⟩=>?_) ht
 subst ex
 obtain rfl:u=Value.ref a:=rx
 refine JE I1 ea c hm l ?_
 exact PySem.W.callWith_K0 (first:=[.ref a]) I1.kIn hm.kp (LA (us:=[.ref a]) (vs:=[.ref a]) F hr hb hd hx I1 (.cons rfl .nil) q)

structure Mk (K:J0) (C f:Addr):Prop where
 makes:K8 K C=true
 init:T1 K (.ref C) "__init__"=some (some (.ref f))
 fn:C6 K (.ref f)=true
 kp:F3 K (.ref C)=true

theorem MT {pins:List (Addr×Obj)} {σ:St} {H:Hp} {s:Shared} {Q:VK} {us:List Value} {vs:List V} (M:Mk X.K C f) (F:BD X.prog X.w X.K X.mg X.base CX k f fd ps sp) (hr:Cm (k+1) X.A) (hb:Dt X.K fd ps ds) (hd:AL dvs ds)
  (hx:ED CX X E) (I:Ax X pins σ H s) (r:AL vs us)
  (h:∀ x dx,H x=none->H dx=none->dx≠x->sp (.ref x::(vs++dvs)) (upd (upd H dx (.own x)) x (.ins C dx [])) (λv H2=>v=.non/\Q (.ref x) H2) E) :
  wpAny (model X.prog X.w) X.A (call (.ref C) us) (EP X pins σ Q) X.xe s:=by
 have hq:=h (s.heap.objs.size+1) s.heap.objs.size (I.hok.fresh (C3 _)) (I.hok.fresh (V0 _)) (Y1 (B8 _))
 have I2:=Ax.made (C:=C) I
 have r2:AL (V.ref (s.heap.objs.size+1)::(vs++dvs)) (Value.ref (s.heap.objs.size+1)::(us++ds)):=.cons rfl (r.append hd)
 have hl:(Value.ref (s.heap.objs.size+1)::us++ds).length=ps.length:=by
  have e:=r2.length
  rw [F.len _ _ _ _ hq] at e
  exact e.symm
 refine wpAny_call (TH (f:=f) I.kIn M.makes M.init (beq_iff_eq.mp M.fn) (codeAny_mono (F.run _ X.stack _ _ ⟨Value.ref (s.heap.objs.size+1)::us,[]⟩ (Value.ref (s.heap.objs.size+1)::(us++ds)) _ _ E (hr.make C us [])
  (I2.env0.make C us []) (hb _ (Value.ref (s.heap.objs.size+1)::us) I2.kIn hl) r2 hq) λr s' hq'=>?_))
 cases r with
 |error e=>exact hx pins σ _ _ e s' I2 hq'
 |ok fl =>
  cases fl with
  |ret u =>
   obtain ⟨v,H',I3,rv,ev,q3⟩:=I2.after hq'
   subst ev
   exact ⟨rv,⟨V.ref (s.heap.objs.size+1),H',I3,rfl,q3⟩⟩
  |next=>exact False.elim hq'
  |brk=>exact False.elim hq'
  |cont=>exact False.elim hq'
theorem pe_make (M:Mk X.K C f) (F:BD X.prog X.w X.K X.mg X.base CX k f fd ps sp) (hr:Cm (k+1) X.A) (hg:Gl X x) (hm:X.mg x=some (.ref C)) (hb:Dt X.K fd ps ds) (hd:AL dvs ds) (hx:ED CX X E)
  (ha:PA X (e::es) t) (hdb:(x == ("__debug__":Str))=false:=by kd_p) (he:starEach (e::es) X.env=(false,eval e X.env)::starEach es X.env:=by rfl) (hpl:(backTo pos (starEach es X.env)).any (·.1)=false:=by rfl) :
  PE X (.Call (.Name x p) (e::es) [] pos) (Sn C sp dvs E t):=by
 intro pins s σ H Q I h
 refine wpAny_Call_Name_kw (Ev I hg hm ?_ hdb)
 refine j4 (h₀:=X.base) I.ok.mod.kin M.kp (Bt (ha pos pins s σ H _ I h) λus s1 ⟨vs,H1,I1,r,q⟩=>⟨I1.kIn,?_⟩) he hpl
 exact MT M F hr hb hd hx I1 r q
theorem Td (M:Mk X.K C f) (F:BD X.prog X.w X.K X.mg X.base CX k f fd ps sp) (hr:Cm (k+1) X.A) (hg:Gl X x) (hm:X.mg x=some (.ref C)) (hb:Dt X.K fd ps ds) (hd:AL dvs ds) (hx:ED CX X E)
  (hdb:(x == ("__debug__":Str))=false:=by kd_p):PE X (.Call (.Name x p) [] [] pos) (Sn C sp dvs E MC):=by
 intro pins s σ H Q I h
 refine wpAny_Call_Name_kw (Ev I hg hm ?_ hdb)
 exact PySem.W.callWith_K0 I.kIn M.kp (MT (us:=[]) M F hr hb hd hx I .nil h)
end

section
variable {X:Cx} {CX:Kf} {k:Nat} {f C:Addr} {fd:FuncData} {ps ks:List Str} {sp:Sp} {E:XK} {x m:Str} {p pos apos kpos:Pos} {e o:Expr} {es:List Expr} {kws:List Keyword} {te ta:TE} {t tk:TA} {nm:Option Str}
variable {g:List Value->List Value->List Value} {gV:List V->List V->List V}
end

structure DA (N P:List Str) (sc:Scope):Prop where
 kind:sc.kind=.function
 co:sc.isCoroutine=false
 gen:sc.isGenerator=false
 nd:N.Nodup
 pre:N.take P.length=P
 par:∀ x∈P,sc.names.lookup x=some .local\/sc.names.lookup x=some .cell
 nofree:∀ y∈sc.names,y.2≠.free

theorem KZ {kindOf:Str->Option NameKind} {x:Str}:∀ {binds:List (Str×Value)} {m:Str->Option Value},(∀ v,(x,v)∉binds)->bindL kindOf binds m x=m x
 |[],_,_=>rfl
 | (n,v)::r,m,h=>by
  unfold bindL
  rw [KZ λw hw=>h w (A0 _ hw)]
  split
  ·have:x≠n:=by rintro rfl;exact h v C0
   simp [this]
  ·rfl
theorem Lc {kindOf:Str->Option NameKind} {x:Str}:∀ {binds:List (Str×Value)} {m:Str->Option Value},(∀ v,(x,v)∉binds)->bindC kindOf binds m x=m x
 |[],_,_=>rfl
 | (n,v)::r,m,h=>by
  unfold bindC
  rw [Lc λw hw=>h w (A0 _ hw)]
  split
  ·rfl
  ·have:x≠n:=by rintro rfl;exact h v C0
   simp [this]
theorem La {kindOf:Str->Option NameKind} {x:Str} {v:Value}:∀ {P:List Str} {vs:List Value} {i:Nat} {m:Str->Option Value},P.Nodup->P[i]?=some x->vs[i]?=some v->kindOf x=some .local ->
  bindL kindOf (P.zip vs) m x=some v
 |[],_,_,_,_,h,_,_=>by simp at h
 |_::_,[],_,_,_,_,h,_=>by simp at h
 |p::P,w::vs,0,m,nd,h1,h2,hk=>by
  simp at h1 h2;subst h1;subst h2
  show bindL kindOf ((p,w)::P.zip vs) m p=_
  unfold bindL
  rw [KZ λv hv=>(Y0.mp nd).1 (W6 hv).1,if_pos hk]
  simp
 |p::P,w::vs,i+1,m,nd,h1,h2,hk=>by
  show bindL kindOf ((p,w)::P.zip vs) m x=_
  unfold bindL
  exact La (i:=i) (Y0.mp nd).2 (by simpa using h1) (by simpa using h2) hk
theorem Ld {kindOf:Str->Option NameKind} {x:Str} {v:Value}:∀ {P:List Str} {vs:List Value} {i:Nat} {m:Str->Option Value},P.Nodup->P[i]?=some x->vs[i]?=some v->kindOf x≠some .local ->
  bindC kindOf (P.zip vs) m x=some v
 |[],_,_,_,_,h,_,_=>by simp at h
 |_::_,[],_,_,_,_,h,_=>by simp at h
 |p::P,w::vs,0,m,nd,h1,h2,hk=>by
  simp at h1 h2;subst h1;subst h2
  show bindC kindOf ((p,w)::P.zip vs) m p=_
  unfold bindC
  rw [Lc λv hv=>(Y0.mp nd).1 (W6 hv).1,if_neg hk]
  simp
 |p::P,w::vs,i+1,m,nd,h1,h2,hk=>by
  show bindC kindOf ((p,w)::P.zip vs) m x=_
  unfold bindC
  exact Ld (i:=i) (Y0.mp nd).2 (by simpa using h1) (by simpa using h2) hk

def start (N:List Str) (vs:List V):St:=vs.map some++E2 (N.length-vs.length) none

def EB (CX:Kf) (P:Program) (w:World) (K:J0) (mg:Str->Option Value) (base:Heap) (N:List Str) (qual:Str) (scope:Scope) (f:Addr) (cd:Value) (A:Around) (outer:List Env) (s:Shared) (H:Hp) (E:XK):Cx where
 prog:=P
 w:=w
 K:=K
 mg:=mg
 base:=base
 A:=A.deeper (envOfC qual scope s.heap.objs.size f cd)
 N:=N
 s₀:=s
 H₀:=H
 env:=envOfC qual scope s.heap.objs.size f cd
 outer:=outer
 stack:=envOfC qual scope s.heap.objs.size f cd::outer
 ex:=[]
 calm:=true
 fn:=λ_=>true
 pn:=[]
 xe:=λe s'=>wpAny (model P w) (A.deeper (envOfC qual scope s.heap.objs.size f cd)) (leaving (envOfC qual scope s.heap.objs.size f cd) e) (λ_ s''=>CX outer H s E e s'') (λe' s''=>CX outer H s E e' s'') s'

theorem NV {sc:Scope} {n:Nat} {x:Str} (h:sc.names.lookup x=some .cell):∃ c,(cellsFrom n sc.names []).lookup x=some c:=by
 have q:=D6 sc.names n [] (.inl h)
 exact Option.isSome_iff_exists.mp q

theorem HU {CX:Kf} {P:Program} {w:World} {K:J0} {mg:Str->Option Value} {base:Heap} {N ps:List Str} {qual:Str} {scope:Scope} {f:Addr} {cd:Value} {A:Around} {outer:List Env} {s s1:Shared} {H:Hp} {E:XK} {us:List Value} {vs:List V}
  (S:DA N ps scope) (hd:A.handled=none) (e0:Mo P w K mg base A outer s H) (hl:vs.length=ps.length) (r:AL vs us)
  (x:InCallC s s.heap.objs.size (bindL (envOfC qual scope s.heap.objs.size f cd).kindOf (ps.zip us) λ_=>none) (cellsFrom (s.heap.objs.size+1) scope.names []) (bindC (envOfC qual scope s.heap.objs.size f cd).kindOf (ps.zip us) λ_=>none) s1) :
  Ax (EB CX P w K mg base N qual scope f cd A outer s H E) [] (start N vs) H s1:=by
 have hpl:ps.length<=N.length:=by have:=congrArg E8 S.pre;rw [j1] at this;lia
 obtain ⟨h1,tk,rfl,hk⟩:=x.done
 have noA:∀ b:Addr,b∉(EB CX P w K mg base N qual scope f cd A outer s H E).ex:=λb z=>absurd (show b∈([]:List Addr) from z) (by simp)
 refine ⟨⟨e0.mod,S.kind,rfl,rfl,V0 _,λy z c h1 h2=>?_,λy hy=>?_,λy c _ h=>?_,λ_=>hd,Around.frames_deeper e0.frames,.inr ⟨rfl,rfl⟩,λb z=>absurd z (noA b),e0.bs,e0.bsz,λb _ _=>noA b,λb z=>absurd z (noA b),e0.funs,e0.frf⟩,
  rfl,e0.bare,Un.kept hk,⟨_,x.toInCall.ns,λi y v h1 h2 h3=>?_⟩,λy c h=>⟨_,x.cell y c h⟩,e0.hok.fresh (V0 _),λy c h=>?_,λp hp=>absurd (show p∈([]:List (Addr×Obj)) from hp) (by simp),e0.hok.kept hk,?_⟩
 ·exact name_of_addr x.apart (PySem.mem_of_lookup h1) (PySem.mem_of_lookup h2)
 ·have hy:scope.names.lookup y=some .cell\/scope.names.lookup y=some .free:=hy
  rcases hy with hy | hy
  ·exact NV hy
  ·exact absurd rfl (S.nofree _ (PySem.mem_of_lookup hy))
 ·exact z7 (x.above y c (PySem.mem_of_lookup h))
 ·have hi:i<vs.length:=by
   unfold start at h2
   by_cases hi:i<vs.length
   ·exact hi
   ·rw [C2 (by simpa using hi)] at h2
    rw [m8] at h2
    split at h2<;>cases h2
  have ha:vs[i]?=some v:=by
   unfold start at h2
   rw [Z0 (by simpa using hi),Z1] at h2
   cases e:vs[i]? with
   |none=>rw [e] at h2;cases h2
   |some a=>rw [e] at h2;cases h2;rfl
  obtain ⟨u,hu,rv⟩:=r.get ha
  have hp:ps[i]?=some y:=by
   rw [<- S.pre,List.getElem?_take_of_lt (by lia)];exact h1
  have ndP:ps.Nodup:=by rw [<- S.pre];exact S.nd.sublist (List.take_sublist _ _)
  refine ⟨u,rv,?_⟩
  rcases S.par y (E1 hp) with k | k
  ·exact .inl ⟨k,La ndP hp hu k⟩
  ·obtain ⟨c,e⟩:=NV (n:=s.heap.objs.size+1) k
   refine .inr ⟨.inl k,c,e,?_⟩
   have q:=x.cell y c e
   rw [Ld ndP hp hu (by show scope.names.lookup y≠_;rw [k];decide)] at q
   exact q
 ·exact e0.hok.fresh (z7 (x.above y c (PySem.mem_of_lookup h)))
 ·unfold start
  show _=N.length
  rw [B0,L0,M9]
  lia

theorem fn_of {CX:Kf} {P:Program} {w:World} {K:J0} {mg:Str->Option Value} {base:Heap} {k:Nat} {f:Addr} {name qual:Str} {params:Arguments} {body:List Stmt} {scope:Scope} {dV kV doc pm cdv ct oc:Value} {an od:Option Addr}
  {osl:Array (Option Value)} {N ps:List Str} {sp:Sp} (lk:K.lookup f=some ⟨oc,od,.func (E3 name qual params body scope dV kV doc pm an cdv ct),osl⟩) (hcd:g4 K cdv qual=true) (S:DA N ps scope)
  (len:∀ vs H Q E,sp vs H Q E->vs.length=ps.length)
  (hbody:∀ (A:Around) (outer:List Env) (s:Shared) (H:Hp) (vs:List V) (Q:VK) (E:XK),Cm k (A.deeper (envOfC qual scope s.heap.objs.size f cdv))->sp vs H Q E ->
   ∃ t,Ix (EB CX P w K mg base N qual scope f cdv A outer s H E) body t/\t { nx:=λ_ H'=>Q .non H',rt:=Q } (start N vs) H) :
  BD P w K mg base CX (k+1) f (E3 name qual params body scope dV kV doc pm an cdv ct) ps sp:=by
 refine ⟨len,λA outer s H args us vs Q E hr e0 hb r hsp=>?_⟩
 have hl:=len _ _ _ _ hsp
 have KX:K.In s.heap:=e0.mod.kin.keeps λb o e=>(e0.bs b o e).1
 have lim:s.heap.NoLimit:=e0.mod.nolimit.keeps λb o e=>(e0.bs b o e).1
 have hkind:∀ y∈ps.zip us,scope.names.lookup y.1=some .local\/(scope.names.lookup y.1=some .cell/\((cellsFrom (s.heap.objs.size+1) scope.names []).lookup y.1).isSome=true):=λ⟨n,v⟩ hy=>by
  rcases S.par n (W6 hy).1 with q | q
  ·exact .inl q
  ·exact .inr ⟨q,D6 _ _ _ (.inl q)⟩
 refine codeAny_call_function hr.depth (KX _ _ lk) rfl S.co S.gen rfl (d7 KX hcd) (hb _ _ _ _ ?_)
 refine wpAny_newFunctionEnv_cells S.kind hkind λenv he s1 x=>?_
 subst he
 refine ⟨lim.keeps x.toInCall.keep,codeAny_func ?_⟩
 obtain ⟨t,ht,hq⟩:=hbody A outer s H vs Q E (hr.deeper _) hsp
 have I:Ax (EB CX P w K mg base N qual scope f cdv A outer s H E) [] (start N vs) H s1:=HU S hr.hd e0 hl r x
 refine wpAny_mono (ht [] s1 (start N vs) H _ I hq) (λfl s' hs=>?_) λe s' hs=>hs
 have fin:∀ {σ':St} {H':Hp} {v:V} {u:Value},Ax (EB CX P w K mg base N qual scope f cdv A outer s H E) [] σ' H' s'->Bd v u->Q v H'->CE outer P w H s Q u s' :=
  λ{σ' H' v u} J rv q=>⟨v,H',J.os,J.bare,J.base,J.hok,rv,q⟩
 cases fl with
 |ret u =>
  obtain ⟨v,σ',H',J,rv,q⟩:=hs
  exact fin J rv q
 |next =>
  obtain ⟨σ',H',J,q⟩:=hs
  exact fin (v:=V.non) (u:=Value.none) J rfl q
 |brk =>
  obtain ⟨_,_,_,q⟩:=hs
  exact False.elim q
 |cont =>
  obtain ⟨_,_,_,q⟩:=hs
  exact False.elim q
section
variable {X:Cx} {x:Str} {p pos:Pos} {e:Expr} {es:List Expr} {t:TA} {id T:String} {r:List V->Hp->VK->Prop}

def tCB (r:List V->Hp->VK->Prop) (t:TA):TE:=λσ H Q=>t σ H λvs H1=>r vs H1 Q
theorem At (hc:Ek X (.builtin id) r) (hg:Gl X x) (hm:X.mg x=none) (hv:bootBuiltins x=some (.builtin id)) (ha:PA X (e::es) t) (hn:x≠"__name__":=by kd_p) (hdb:(x == ("__debug__":Str))=false:=by kd_p)
  (he:starEach (e::es) X.env=(false,eval e X.env)::starEach es X.env:=by rfl) (hpl:(backTo pos (starEach es X.env)).any (·.1)=false:=by rfl):PE X (.Call (.Name x p) (e::es) [] pos) (tCB r t):=by
 intro pins s σ H Q I h
 refine wpAny_Call_Name_kw (GO I hg hm hv ?_ hn hdb)
 exact PyProof.Rows.callWith_builtin1 (Bt (ha pos pins s σ H _ I h) λus s1 ⟨vs,H1,I1,r1,q1⟩=>hc pins s1 σ H1 vs us Q I1 r1 q1) he hpl
theorem AT (hc:Ek X (.type T) r) (hg:Gl X x) (hm:X.mg x=none) (hv:bootBuiltins x=some (.type T)) (ha:PA X (e::es) t) (hn:x≠"__name__":=by kd_p) (hdb:(x == ("__debug__":Str))=false:=by kd_p)
  (he:starEach (e::es) X.env=(false,eval e X.env)::starEach es X.env:=by rfl) (hpl:(backTo pos (starEach es X.env)).any (·.1)=false:=by rfl):PE X (.Call (.Name x p) (e::es) [] pos) (tCB r t):=by
 intro pins s σ H Q I h
 refine wpAny_Call_Name_kw (GO I hg hm hv ?_ hn hdb)
 exact X5 (Bt (ha pos pins s σ H _ I h) λus s1 ⟨vs,H1,I1,r1,q1⟩=>hc pins s1 σ H1 vs us Q I1 r1 q1) he hpl
end
end L2

namespace HT
open PySem PyProof.Rows

section
open PySem.SeqAt
open PySem.AutoSeq1 (wpAny_loadPart')
open PySem.MeetsSeq PySem.MeetsSeq2 PySem.MeetsSeq3

end

section
variable {prog:Program} {w:World} {A:Around} {E:Value->Shared->Prop} {s:Shared}

theorem cat_tup {t b:Addr} {vs ws:List Value} {Q:Value->Shared->Prop} (ht:IsTup s.heap t vs.toArray) (hb:IsTup s.heap b ws.toArray) (hv:vs≠[])
  (h1:ws=[]->Q (.ref t) s) (h2:ws≠[]->Q (.ref s.heap.objs.size) { s with heap:=s.heap.push { cls:=.type "tuple",data:=.seq (vs++ws).toArray } })
  (hsz:vs.length+ws.length<=sizeLine):wpAny (model prog w) A (binaryOp .Add (.ref t) (.ref b)) Q E s:=by
 obtain ⟨⟨cls,dd,data,sl⟩,ho,hc,n,hd⟩:=id ht
 obtain ⟨⟨cls2,dd2,data2,sl2⟩,ho2,hc2,n2,hd2⟩:=id hb
 simp only at hc hd hc2 hd2
 subst hc hd hc2 hd2
 have e:vs.toArray++ws.toArray=(vs++ws).toArray:=by simp
 by_cases hw:ws=[]
 ·exact concat_meets ⟨_,ho,rfl⟩ ⟨_,ho2,rfl⟩ noFill_tuple_add seq_tuple_add K7 D7 (B7 _ _)
   (tuple_addW1 t b vs.toArray ws.toArray n n2 dd dd2 sl sl2 (by simpa using hv) (by simp [hw])) ⟨ho,ho2,h1 hw⟩
 ·refine concat_meets ⟨_,ho,rfl⟩ ⟨_,ho2,rfl⟩ noFill_tuple_add seq_tuple_add K7 D7 (B7 _ _)
   (tuple_addW2 t b vs.toArray ws.toArray n n2 dd dd2 sl sl2 (by simpa using hv) (by simpa using hw) (by rw [W0,W0];exact hsz)) ⟨ho,ho2,?_⟩
  rw [e]
  exact h2 hw

def sIx (n d:Nat):Option Int->Nat
 |none=>d
 |some v=>if v<0 then (v+(n:Int)).toNat else min v.toNat n
theorem sIx_none (n d:Nat):sIx n d none=d:=rfl
theorem sIx_nat (n d k:Nat):sIx n d (some (k:Int))=min k n:=by
 show (if (k:Int)<0 then ((k:Int)+(n:Int)).toNat else min (k:Int).toNat n)=min k n
 rw [if_neg (by lia),N3]
theorem sIx_le (n d:Nat) (hd:d<=n) (o:Option Int):sIx n d o<=n:=by
 cases o with
 |none=>exact hd
 |some v =>
  show (if v<0 then (v+(n:Int)).toNat else min v.toNat n)<=n
  by_cases hv:v<0
  ·rw [if_pos hv];lia
  ·rw [if_neg hv];exact Nat.min_le_right _ _
theorem Qt (v:Int) (n d:Nat):(if v<0 then max (v+(n:Int)) 0 else min v (n:Int))=((sIx n d (some v):Nat):Int):=by
 show (if v<0 then max (v+(n:Int)) 0 else min v (n:Int))=(((if v<0 then (v+(n:Int)).toNat else min v.toNat n):Nat):Int)
 by_cases hv:v<0
 ·simp only [if_pos hv];lia
 ·simp only [if_neg hv];lia
theorem Ps (lo hi:Option Int) (n:Nat):Builtin.Slice.sliceAdjust lo hi 1 (n:Int)=(((sIx n 0 lo:Nat):Int),((sIx n n hi:Nat):Int)):=by
 have h1:¬ ((1:Int)<0):=by lia
 unfold Builtin.Slice.sliceAdjust
 simp only [h1,if_false]
 refine Prod.ext ?_ ?_
 ·cases lo with
  |none=>rfl
  |some v=>exact Qt v n 0
 ·cases hi with
  |none=>rfl
  |some v=>exact Qt v n n
theorem OC (i j:Nat):Builtin.Slice.slicePlaces (i:Int) (j:Int) 1=j-i:=by
 unfold Builtin.Slice.slicePlaces
 have h1:(1:Int) > 0:=by lia
 simp only [h1,if_true,Int.ediv_one]
 split<;>lia
theorem Jh {v:Value} {o:Option Int} {Q:Option Int->Shared->Prop} (p:IsPart v o) (h:Q o s):wpAny (model prog w) A (Builtin.Slice.slicePartIndex v) Q E s:=by
 cases p with
 |none=>exact slicePart_none h
 |int i t=>exact slicePart_int h
theorem EF {sl:Addr} {vl vu:Value} {lo hi:Option Int} {n:Nat} {Q:Int×Int×Nat->Shared->Prop} (hs:s.heap.IsSliceOf sl vl vu .none) (pl:IsPart vl lo) (pu:IsPart vu hi)
  (h:Q (((sIx n 0 lo:Nat):Int),1,sIx n n hi-sIx n 0 lo) s):wpAny (model prog w) A (Builtin.Slice.sliceApplied (.ref sl) (pure (n:Int))) Q E s:=by
 obtain ⟨os,hos,hcs,hds⟩:=id hs
 unfold Builtin.Slice.sliceApplied Builtin.Slice.sliceFields
 refine wpAny_bind (wpAny_bind (wpAny_field hos hds (x:=vl) rfl (wpAny_bind (wpAny_field hos hds (x:=vu) rfl (wpAny_bind (wpAny_field hos hds (x:=.none) rfl (wpAny_pure ?_)))))))
 refine wpAny_bind (slicePart_none ?_)
 show wpAny _ _ (if ((1:Int) == 0)=true then _ else _) _ _ s
 rw [if_neg (by kd_p)]
 refine wpAny_bind (Jh pl (wpAny_bind (Jh pu (wpAny_bind (wpAny_pure ?_)))))
 show wpAny _ _ (match Builtin.Slice.sliceAdjust lo hi 1 (n:Int) with | (lo,hi)=>pure (lo,(1:Int),Builtin.Slice.slicePlaces lo hi 1)) _ _ s
 rw [Ps lo hi n]
 show wpAny _ _ (pure (((sIx n 0 lo:Nat):Int),(1:Int),Builtin.Slice.slicePlaces ((sIx n 0 lo:Nat):Int) ((sIx n n hi:Nat):Int) 1)) _ _ s
 rw [OC]
 exact wpAny_pure h
theorem SY (xs:Array Value) (i k:Nat):((K3 k).filterMap λ(m:Nat)=>xs[((i:Int)+(m:Int)*1).toNat]?).toArray=((xs.toList.drop i).take k).toArray:=by
 have e:(λ(m:Nat)=>xs[((i:Int)+(m:Int)*1).toNat]?)=λm=>xs[i+m]?:=by
  funext m
  have:((i:Int)+(m:Int)*1).toNat=i+m:=by lia
  rw [this]
 rw [e]
 have:=pick_run xs i k
 rw [List.filterMap_map] at this
 have e2:((λx=>xs[x]?) ∘ λx=>i+x)=λm=>xs[i+m]?:=rfl
 rw [e2] at this
 rw [this]

theorem getItem_tuple_cut {t sl:Addr} {items:Array Value} {vl vu:Value} {lo hi:Option Int} {Q:Value->Shared->Prop} (ht:IsTup s.heap t items) (hs:s.heap.IsSliceOf sl vl vu .none) (pl:IsPart vl lo) (pu:IsPart vu hi)
  (hw:¬ (sIx items.size 0 lo=0/\sIx items.size items.size hi=items.size))
  (h:Q (.ref s.heap.objs.size) { s with heap:=s.heap.push { cls:=.type "tuple",data:=.seq ((items.toList.drop (sIx items.size 0 lo)).take (sIx items.size items.size hi-sIx items.size 0 lo)).toArray } })
  (hsz:items.size<=sizeLine):wpAny (model prog w) A (getItem (.ref t) (.ref sl)) Q E s:=by
 have htake:sizeOk (.seq ((items.toList.drop (sIx items.size 0 lo)).take (sIx items.size items.size hi-sIx items.size 0 lo)).toArray):=by
  show ((items.toList.drop (sIx items.size 0 lo)).take (sIx items.size items.size hi-sIx items.size 0 lo)).toArray.size<=sizeLine
  rw [W0,j1,C4,Z7]
  lia
 have hj:sIx items.size items.size hi<=items.size:=sIx_le _ _ (V0 _) hi
 obtain ⟨os,hos,hcs,hds⟩:=id hs
 have hTs:s.TypeIs (.ref sl) "slice":=⟨os,hos,hcs⟩
 unfold getItem
 try with_reducible refine wpAny_holding ?_
 first | refine wpAny_bind (wpAny_pure ?_) | skip
 refine wpAny_bind (wpAny_sequenceKey ht.typeIs (by kd_p) ?_)
 refine wpAny_bind (wpAny_callSpecial?_slot (name:=Str.ofString "__getitem__") ht.typeIs K5
  (wpAny_call_entry K5 ht.typeIs entry_tuple_getitem ?_ (args_tuple_getitem _ _)))
 show wpAny _ _ (Builtin.Tuple.tupleItemsOf (.ref t) >>= _) _ _ s
 refine wpAny_bind (tupleItemsOf_ ht ?_)
 refine wpAny_bind (wpAny_typeOf hTs ?_)
 rw [if_pos (by kd_p)]
 refine wpAny_bind (EF hs pl pu ?_)
 have hno:¬ ((((sIx items.size 0 lo:Nat):Int) == 0&&(1:Int) == 1&&(sIx items.size items.size hi-sIx items.size 0 lo) == items.size)=true):=by
  intro q
  rw [C1,C1] at q
  have q1:((sIx items.size 0 lo:Nat):Int)=0:=eq_of_beq q.1.1
  have q2:sIx items.size items.size hi-sIx items.size 0 lo=items.size:=eq_of_beq q.2
  exact hw ⟨by lia,by lia⟩
 show wpAny _ _ (if (((sIx items.size 0 lo:Nat):Int) == 0&&(1:Int) == 1&&(sIx items.size items.size hi-sIx items.size 0 lo) == items.size)=true then _ else _) _ _ s
 rw [if_neg hno,SY]
 first
  |exact wpAny_bind (m:=Builtin.Tuple.tupleExact _) (wpAny_newObj_type (wpAny_pure ⟨_,rfl,wpAny_pure h⟩) htake)
  |exact wpAny_bind (m:=Builtin.Tuple.tupleExact _) (wpAny_newObj_type (wpAny_bind (wpAny_pure (wpAny_pure ⟨_,rfl,wpAny_pure h⟩))) htake)
  |exact wpAny_bind (wpAny_bind (m:=Builtin.Tuple.tupleExact _) (wpAny_newObj_type (wpAny_pure (wpAny_pure ⟨_,rfl,wpAny_pure h⟩)) htake))
  |exact wpAny_bind (wpAny_bind (m:=Builtin.Tuple.tupleExact _) (wpAny_newObj_type (wpAny_pure ⟨_,rfl,wpAny_pure h⟩) htake))
end
end HT

namespace L2
open PySem PySem.Spec PyProof.Rows

abbrev TO:=St->Hp->(Option Int->Hp->Prop)->Prop
def PO (X:Cx) (e:Option Expr) (t:TO):Prop :=
 ∀ (pins:List (Addr×Obj)) (s:Shared) (σ:St) (H:Hp) (Q:Option Int->Hp->Prop),Ax X pins σ H s->t σ H Q ->
  wpAny (model X.prog X.w) X.A (evalPart e X.env) (λu s'=>∃ o H',Ax X pins σ H' s'/\IsPart u o/\Q o H') X.xe s
def Lj:TO:=λ_ H Q=>Q none H
def Sl (t:TE):TO:=λσ H Q=>t σ H λx H1=>∃ i,x=.int i/\Q (some i) H1

section
variable {X:Cx} {e:Expr} {te:TE} {lo hi:Option Expr} {tl th:TO} {pos p2:Pos}

theorem AS:PO X none Lj:=by
 intro pins s σ H Q I h
 rw [evalPart_none]
 exact wpAny_pure ⟨none,H,I,.none,h⟩
theorem AN (h:PE X e te):PO X (some e) (Sl te):=by
 intro pins s σ H Q I hw
 rw [evalPart_some]
 refine Bt (h pins s σ H _ I hw) λu s1 ⟨x,H1,I1,r1,q1⟩=>?_
 obtain ⟨i,rfl,q⟩:=q1
 obtain ⟨t,rfl⟩:=r1
 exact ⟨some i,H1,I1,.int i t,q⟩

def SlR (X:Cx) (r:V->Option Int->Option Int->Hp->VK->Prop):Prop :=
 ∀ (pins:List (Addr×Obj)) (s:Shared) (σ:St) (H:Hp) (x:V) (v vl vu:Value) (lo hi:Option Int) (sl:Addr) (Q:VK),Ax X pins σ H s->Bd x v->s.heap.IsSliceOf sl vl vu .none->IsPart vl lo->IsPart vu hi->r x lo hi H Q ->
  ∃ T id,typeLookup (.type T) "__getitem__"=pure (some (.builtin id))/\s.TypeIs v T/\wpAny (model X.prog X.w) X.A (getItem v (.ref sl)) (EP X pins σ Q) X.xe s
def tSl (r:V->Option Int->Option Int->Hp->VK->Prop) (te:TE) (tl th:TO):TE:=λσ H Q=>te σ H λx H1=>tl σ H1 λl H2=>th σ H2 λu H3=>r x l u H3 Q
theorem AC {r:V->Option Int->Option Int->Hp->VK->Prop} (hr:SlR X r) (he:PE X e te) (hl:PO X lo tl) (hu:PO X hi th):PE X (.Subscript e (.Slice lo hi none p2) pos) (tSl r te tl th):=by
 intro pins s σ H Q I h
 refine Subscript_ (Bt (he pins s σ H _ I h) λv s1 ⟨x,H1,I1,r1,q1⟩=>?_)
 refine wpAny_Slice (Bt (hl pins s1 σ H1 _ I1 q1) λvl s2 ⟨l,H2,I2,pl,q2⟩=>Bt (hu pins s2 σ H2 _ I2 q2) λvu s3 ⟨u,H3,I3,pu,q3⟩=>?_)
 rw [evalPart_none]
 refine wpAny_pure ?_
 have I4:Ax X pins σ H3 { s3 with heap:=s3.heap.push { cls:=.type "slice",data:=.fields #[vl,vu,.none] } }:=I3.kept (t':=s3.toks) λb ob q=>Heap.get?_push_of_some _ q
 obtain ⟨T,id,hT,ht,hg⟩:=hr pins { s3 with heap:=s3.heap.push { cls:=.type "slice",data:=.fields #[vl,vu,.none] } } σ H3 x v vl vu l u s3.heap.objs.size Q I4 r1 (Heap.IsSliceOf.new ..) pl pu q3
 show wpAny (model X.prog X.w) X.A (subscriptTail e (.Slice lo hi none p2) v (.ref s3.heap.objs.size)) (EP X pins σ Q) X.xe { s3 with heap:=s3.heap.push { cls:=.type "slice",data:=.fields #[vl,vu,.none] } }
 exact tail_any (ops:=[.ref s3.heap.objs.size,v]) ht hT hg (by with_unfolding_all rfl)

def DI (xs:List V) (lo hi:Option Int):List V:=(xs.drop (HT.sIx xs.length 0 lo)).take (HT.sIx xs.length xs.length hi-HT.sIx xs.length 0 lo)
theorem Iu (xs:List V) (lo hi:Option Int):(DI xs lo hi).length<=xs.length:=by
 unfold DI
 rw [j1,C4]
 lia
def rSlT (K:J0):V->Option Int->Option Int->Hp->VK->Prop:=λx lo hi H Q=>∃ a xs,x=.ref a/\Cn K H a xs /\
 ¬ (HT.sIx xs.length 0 lo=0/\HT.sIx xs.length xs.length hi=xs.length)/\∀ p,H p=none->Q (.ref p) (upd H p (.tup (DI xs lo hi)))
theorem sl_tup:SlR X (rSlT X.K):=by
 intro pins s σ H x v vl vu lo hi sl Q I rx hs pl pu h
 obtain ⟨a,xs,rfl,hx,hw,q⟩:=h
 cases rx
 obtain ⟨its,r,ht,hz⟩:=I.tuple hx
 have hlen:its.toArray.size=xs.length:=by rw [W0];exact r.length.symm
 refine ⟨"tuple",_,K5.lookup,ht.typeIs,?_⟩
 refine HT.getItem_tuple_cut ht hs pl pu (by rw [hlen];exact hw) ?_ (by rw [hlen];exact hz)
 rw [hlen]
 refine ⟨.ref s.heap.objs.size,_,I.laid (t':=s.toks) (o:=.tup (DI xs lo hi)) (λb ob q=>Heap.get?_push_of_some _ q) (V0 _) ?_,rfl,q _ (I.hok.fresh (V0 _))⟩
 exact ⟨T0 (Iu xs lo hi) hz,_,(r.drop (HT.sIx xs.length 0 lo)).take (HT.sIx xs.length xs.length hi-HT.sIx xs.length 0 lo),IsTup.new _ _⟩

def SU (K:J0):R2:=λx y H Q=>∃ a b xs ys,x=.ref a/\y=.ref b/\Cn K H a xs/\Cn K H b ys/\xs≠[]/\xs.length+ys.length<=sizeLine /\
 (ys=[]->Q (.ref a) H)/\(ys≠[]->∀ p,H p=none->Q (.ref p) (upd H p (.tup (xs++ys))))
theorem AL.nil_iff {xs:List V} {us:List Value} (r:AL xs us):us=[]↔xs=[]:=by
 cases r with
 |nil=>simp
 |cons _ _=>simp
theorem op_catT:ES X (binaryOp .Add) (SU X.K):=by
 intro pins s σ H x y v u Q I rx ry h
 obtain ⟨a,b,xs,ys,rfl,rfl,ha,hb,hx,hz,q1,q2⟩:=h
 cases rx
 cases ry
 obtain ⟨its,r1,p1,_⟩:=I.tuple ha
 obtain ⟨its2,r2,p2,_⟩:=I.tuple hb
 refine HT.cat_tup p1 p2 (λz=>hx (r1.nil_iff.mp z)) (λz=>⟨.ref a,H,I,rfl,q1 (r2.nil_iff.mp z)⟩) (λz=>?_) (by rw [<- r1.length,<- r2.length];exact hz)
 refine ⟨.ref s.heap.objs.size,_,I.laid (t':=s.toks) (o:=.tup (xs++ys)) (λb ob q=>Heap.get?_push_of_some _ q) (V0 _) ?_,rfl,q2 (λw=>z (r2.nil_iff.mpr w)) _ (I.hok.fresh (V0 _))⟩
 exact ⟨by rw [B0];exact hz,_,r1.append r2,IsTup.new _ _⟩
end

def Ue (n:Nat) (i:Int):Option Nat:=if 0<=i then (if i<n then some i.toNat else none) else if -(n:Int)<=i then some (i+n).toNat else none
def Qw {α:Type} (xs:List α) (i:Int):Option α:=(Ue xs.length i).bind λj=>xs[j]?
theorem Qk {n:Nat} {i:Int} {j:Nat} (h:Ue n i=some j):seqIndex? i n=some j/\j<n/\-(n:Int)<=i/\i<n:=by
 unfold Ue at h
 by_cases h0:0<=i
 ·rw [if_pos h0] at h
  by_cases h1:i<n
  ·rw [if_pos h1] at h
   have e:i.toNat=j:=Option.some.inj h
   exact ⟨by rw [seqIndex_of h0 h1,e],by lia,by lia,h1⟩
  ·rw [if_neg h1] at h;cases h
 ·rw [if_neg h0] at h
  by_cases h1:-(n:Int)<=i
  ·rw [if_pos h1] at h
   have e:(i+n).toNat=j:=Option.some.inj h
   exact ⟨by rw [seqIndex_neg (by lia) h1,e],by lia,h1,by lia⟩
  ·rw [if_neg h1] at h;cases h
theorem Mm {α:Type} {xs:List α} {i:Int} {v:α} (h:Qw xs i=some v):∃ j,seqIndex? i xs.length=some j/\xs[j]?=some v/\j<xs.length/\-(xs.length:Int)<=i/\i<xs.length:=by
 unfold Qw at h
 cases e:Ue xs.length i with
 |none=>rw [e] at h;cases h
 |some j =>
  rw [e] at h
  obtain ⟨h1,h2,h3,h4⟩:=Qk e
  exact ⟨j,h1,h,h2,h3,h4⟩
theorem Av {α:Type} {xs:List α} {j:Nat} {v:α} (h:xs[j]?=some v):Qw xs (j:Int)=some v:=by
 have hj:j<xs.length:=(d0.mp h).1
 have e:Ue xs.length (j:Int)=some j:=by
  unfold Ue
  rw [if_pos (by lia),if_pos (by lia)];simp
 unfold Qw;rw [e];exact h
theorem JN {α:Type} (xs:List α) (v:α):Qw (xs++[v]) (-1)=some v:=by
 have hl:(xs++[v]).length=xs.length+1:=by simp
 have e:Ue (xs++[v]).length (-1)=some xs.length:=by
  unfold Ue
  rw [hl,if_neg (by kd_p),if_pos (by lia)]
  congr 1
  lia
 unfold Qw
 rw [e]
 show (xs++[v])[xs.length]?=some v
 simp

def PlainIx (b:Expr):Prop:=∀ o i,subscripted b false o i=operate [o,i] (getItem o i)
def IxR (X:Cx) (r:R2):Prop :=
 ∀ (value slice:Expr) (pins:List (Addr×Obj)) (s:Shared) (σ:St) (H:Hp) (x y:V) (v u:Value) (Q:VK),Ax X pins σ H s->Bd x v->Bd y u->r x y H Q ->
  subscripted slice false v u=operate [v,u] (getItem v u)->wpAny (model X.prog X.w) X.A (subscriptTail value slice v u) (EP X pins σ Q) X.xe s
def MtR (X:Cx) (id:String) (r:V->List V->Hp->VK->Prop):Prop :=
 ∀ (pins:List (Addr×Obj)) (s:Shared) (σ:St) (H:Hp) (x:V) (xs:List V) (v:Value) (us:List Value) (Q:VK),Ax X pins σ H s->Bd x v->AL xs us->r x xs H Q ->
  wpAny (model X.prog X.w) X.A (call (.builtin id) (v::us)) (EP X pins σ Q) X.xe s
section
variable {X:Cx} {a b:Expr} {ta tb:TE} {pos:Pos}
theorem Aq {r:R2} (hr:IxR X r) (ha:PE X a ta) (hb:PE X b tb) (hs:PlainIx b):PE X (.Subscript a b pos) (tOp r ta tb):=by
 intro pins s σ H Q I h
 exact Subscript_ (binT ha hb I h λv u s2 x y H2 I2 rx ry q=>hr a b pins s2 σ H2 x y v u Q I2 rx ry q (hs _ _))

def DS (K:J0):R2:=λx y H Q=>∃ p xs i v,x=.ref p/\y=.int i/\Aw K H p xs/\Qw xs i=some v/\Q v H
def JW (K:J0):R2:=λx y H Q=>∃ p xs i v,x=.ref p/\y=.int i/\Cn K H p xs/\Qw xs i=some v/\Q v H
def rIxS:R2:=λx y H Q=>∃ z i c,x=.str z/\y=.int i/\z.length<=sizeLine/\Qw z.cps.toList i=some c/\Q (.str ⟨#[c]⟩) H
theorem Al:IxR X (DS X.K):=by
 intro value slice pins s σ H x y v u Q I rx ry h hs
 obtain ⟨p,xs,i,z,rfl,rfl,hq,he,q⟩:=h
 cases rx
 obtain ⟨t,rfl⟩:=ry
 obtain ⟨its,r,pl,hz⟩:=I.list hq
 obtain ⟨j,h1,h2,h3,h4,h5⟩:=Mm he
 obtain ⟨w,ew,rw'⟩:=r.get h2
 have hl:=r.length
 have hn:=HP
 have fin:EP X pins σ Q w s:=⟨z,H,I,rw',q⟩
 by_cases h0:0<=i
 ·have hj:i.toNat=j:=by
   rw [seqIndex_of h0 h5] at h1
   exact Option.some.inj h1
  exact item_listR pl.isList h0 (by lia) (by rw [hj];simpa using ew) fin hs
 ·have hj:(i+(its.toArray.size:Int)).toNat=j:=by
   rw [seqIndex_neg (by lia) h4] at h1
   rw [W0,<- hl]
   exact Option.some.inj h1
  exact subscriptTail_builtinR (x:=w) pl.isList.typeIs slot_list_getitem.lookup
   (wpAny_getItem_list_neg (Q:=λr s'=>r=w/\EP X pins σ Q r s') pl.isList (by lia) (by rw [W0]<;>lia) (by lia) (by rw [hj];simpa using ew) ⟨rfl,fin⟩) hs
theorem Bc:IxR X (JW X.K):=by
 intro value slice pins s σ H x y v u Q I rx ry h hs
 obtain ⟨p,xs,i,z,rfl,rfl,hq,he,q⟩:=h
 cases rx
 obtain ⟨t,rfl⟩:=ry
 obtain ⟨its,r,pl,hz⟩:=I.tuple hq
 obtain ⟨j,h1,h2,h3,h4,h5⟩:=Mm he
 obtain ⟨w,ew,rw'⟩:=r.get h2
 have hl:=r.length
 have hn:=HP
 have fin:EP X pins σ Q w s:=⟨z,H,I,rw',q⟩
 exact subscriptTail_builtinR (x:=w) pl.typeIs slot_tuple_getitem.lookup
  (getItem_tuple (j:=j) (Q:=λr s'=>r=w/\EP X pins σ Q r s') pl (by lia) (by lia) (by rw [W0,<- hl];exact h1) (by simpa using ew) ⟨rfl,fin⟩) hs
theorem Uc:IxR X rIxS:=by
 intro value slice pins s σ H x y v u Q I rx ry h hs
 obtain ⟨z,i,c,rfl,rfl,hz,he,q⟩:=h
 obtain ⟨t,rfl⟩:=rx
 obtain ⟨t',rfl⟩:=ry
 obtain ⟨j,h1,h2,h3,h4,h5⟩:=Mm he
 have hl:z.cps.toList.length=z.length:=by simp [Str.length]
 rw [hl] at h1 h4 h5
 have hn:=HP
 exact tail_any (typeIs_str s z t) slot_str_getitem.lookup (getItem_str (c:=c) (by
  have e1:decide (i < -(2 ^ 63:Int))=false:=decide_eq_false (by lia)
  have e2:decide (i ≥ 2 ^ 63)=false:=decide_eq_false (by lia)
  rw [e1,e2,Z3]) (by rw [h1];simpa using h2) ⟨.str ⟨#[c]⟩,H,I.tok _,⟨_,rfl⟩,q⟩) hs
theorem OT (its:List Value) (n j:Nat) (u:Value):Obj.mapSeq (·.setIfInBounds j u) { cls:=.type "list",data:=.seq its.toArray n }={ cls:=.type "list",data:=.seq (its.set j u).toArray n }:=by
 simp [Obj.mapSeq]
theorem Ax.lst {pins:List (Addr×Obj)} {σ:St} {H:Hp} {s:Shared} {p:Addr} {xs:List V} (I:Ax X pins σ H s) (h:H p=some (.lst xs)) :
  ∃ (its:List Value) (n:Nat),AL xs its/\s.heap.get? p=some { cls:=.type "list",data:=.seq its.toArray n }/\xs.length<=sizeLine:=by
 obtain ⟨z,its,n,r,e⟩:=I.hok p _ h
 exact ⟨its,n,r,e,z⟩
theorem Ax.lstUpd {pins:List (Addr×Obj)} {σ:St} {H:Hp} {s:Shared} {p:Addr} {xs ys:List V} {its its':List Value} {n n':Nat} {f:Obj->Obj} (I:Ax X pins σ H s) (h:H p=some (.lst xs))
  (ho:s.heap.get? p=some { cls:=.type "list",data:=.seq its.toArray n }) (hf:f { cls:=.type "list",data:=.seq its.toArray n }={ cls:=.type "list",data:=.seq its'.toArray n' }) (r:AL ys its') (hz:ys.length<=sizeLine) (t:Nat) :
  Ax X pins σ (upd H p (.lst ys)) { s with heap:=s.heap.update p f,toks:=t }:=by
 have e:(s.heap.update p f).get? p=some { cls:=.type "list",data:=.seq its'.toArray n' }:=by
  rw [Heap.get?_update_self f ho (by rw [hf]<;>rfl),hf]
 refine I.write (x:=p) (e:=p) (by rw [h];trivial) (.inl rfl) (λb u hb q=>(Heap.get?_update_other _ _ (Ne.symm hb)).trans q) ⟨_,e⟩ ?_
 exact ⟨hz,its',n',r,e⟩
def rSetL:V->V->V->Hp->(Hp->Prop)->Prop:=λo i v H Q=>∃ p xs k j,o=.ref p/\i=.int k/\H p=some (.lst xs)/\Ue xs.length k=some j/\Q (upd H p (.lst (xs.set j v)))
theorem SI:PSet X rSetL:=by
 intro pins s σ H o i v ov iv u Q I ro ri rv h
 obtain ⟨p,xs,k,j,rfl,rfl,hp,hj,q⟩:=h
 cases ro
 obtain ⟨t,rfl⟩:=ri
 obtain ⟨its,n,r,ho,hz⟩:=I.lst hp
 obtain ⟨h1,h2,h3,h4⟩:=Qk hj
 have hl:=r.length
 have hn:=HP
 have I':Ax X pins σ (upd H p (.lst (xs.set j v))) { s with heap:=s.heap.update p (Obj.mapSeq (·.setIfInBounds j u)) } :=
  I.lstUpd hp ho (OT its n j u) (r.set rv j) (by rw [List.length_set];exact hz) s.toks
 by_cases h0:0<=k
 ·have hk:k.toNat=j:=by
   rw [seqIndex_of h0 h4] at h1
   exact Option.some.inj h1
  exact PySem.W.ki_setAt ho h0 (by lia) (by rw [W0,<- hl];exact h4) (by rw [hk];exact ⟨_,I',q⟩)
 ·have hk:(k+(its.toArray.size:Int)).toNat=j:=by
   rw [seqIndex_neg (by lia) h3] at h1
   rw [W0,<- hl]
   exact Option.some.inj h1
  exact PySem.W.ki_setBack ho (by lia) (by rw [W0,<- hl];exact h3) (by lia) (by rw [hk];exact ⟨_,I',q⟩)

theorem Lv (lo hi:Option Int) (n:Nat):(sliceBounds lo hi none n).1=((HT.sIx n 0 lo:Nat):Int)/\(sliceBounds lo hi none n).2.1=((HT.sIx n n hi:Nat):Int)/\(sliceBounds lo hi none n).2.2=1:=by
 refine ⟨?_,?_,rfl⟩
 ·cases lo with
  |none=>simp [sliceBounds,HT.sIx]
  |some i =>
   simp only [sliceBounds,HT.sIx,Option.getD_none,show (1:Int) > 0 by kd_p,if_true]
   by_cases h:i<0
   ·simp only [h,if_true]<;>lia
   ·simp only [h,if_false]<;>lia
 ·cases hi with
  |none=>simp [sliceBounds,HT.sIx]
  |some i =>
   simp only [sliceBounds,HT.sIx,Option.getD_none,show (1:Int) > 0 by kd_p,if_true]
   by_cases h:i<0
   ·simp only [h,if_true]<;>lia
   ·simp only [h,if_false]<;>lia
theorem JU (its:List Value) (lo hi:Option Int):slicePick its.toArray lo hi none=((its.drop (HT.sIx its.length 0 lo)).take (HT.sIx its.length its.length hi-HT.sIx its.length 0 lo)).toArray:=by
 obtain ⟨h1,h2,h3⟩:=Lv lo hi its.toArray.size
 unfold slicePick
 rw [h1,h2,h3]
 simp only [sliceRange_one,pick_run,W0]<;>rfl
def QZ (K:J0):V->Option Int->Option Int->Hp->VK->Prop:=λx lo hi H Q=>∃ a xs,x=.ref a/\Aw K H a xs/\∀ p,H p=none->Q (.ref p) (upd H p (.lst (DI xs lo hi)))
theorem Bu:SlR X (QZ X.K):=by
 intro pins s σ H x v vl vu lo hi sl Q I rx hs pl pu h
 obtain ⟨a,xs,rfl,hx,q⟩:=h
 cases rx
 obtain ⟨its,r,ht,hz⟩:=I.list hx
 have hlen:=r.length
 refine ⟨"list",_,slot_list_getitem.lookup,ht.isList.typeIs,?_⟩
 refine wpAny_getItem_list_slice ht.isList hs pl pu .none (by simp) ?_ (by rw [W0]<;>lia)
 rw [JU,<- hlen]
 refine ⟨.ref s.heap.objs.size,_,I.laid (t':=s.toks) (o:=.lst (DI xs lo hi)) (λb ob q=>Heap.get?_push_of_some _ q) (V0 _) ?_,rfl,q _ (I.hok.fresh (V0 _))⟩
 exact ⟨T0 (Iu xs lo hi) hz,_,0,(r.drop (HT.sIx xs.length 0 lo)).take (HT.sIx xs.length xs.length hi-HT.sIx xs.length 0 lo),Heap.get?_push_size _ rfl⟩

def DH:V->Bool
 |.non=>true
 |.bl _=>true
 |.int _=>true
 |.str _=>true
 |_=>false
def Em:V->V->Bool
 |.non,.non=>true
 |.bl a,.bl b=>a == b
 |.bl a,.int b=>(if a then 1 else 0) == b
 |.int a,.bl b=>a == (if b then 1 else 0)
 |.int a,.int b=>a == b
 |.str a,.str b=>a == b
 |_,_=>false
theorem UD {A:Around} {s:Shared} {y x:V} {u v:Value} (ry:Bd y u) (rx:Bd x v) (fy:DH y=true) (fx:DH x=true):SeqAt.EqAt A s u v (Em y x):=by
 cases y with
 |non =>
  cases ry
  cases x with
  |non=>cases rx;exact SeqAt.EqAt.same _
  |bl b=>cases rx;exact SeqAt.EqAt.none_bool b
  |int b=>obtain ⟨t,rfl⟩:=rx;exact SeqAt.EqAt.none_int b t
  |str b=>obtain ⟨t,rfl⟩:=rx;exact SeqAt.EqAt.none_str b t
  |_=>exact absurd (show false=true from fx) Q0
 |bl a =>
  cases ry
  cases x with
  |non=>cases rx;exact SeqAt.EqAt.bool_none a
  |bl b=>cases rx;exact SeqAt.EqAt.bool_bool a b
  |int b=>obtain ⟨t,rfl⟩:=rx;exact SeqAt.EqAt.bool_int a b t
  |str b=>obtain ⟨t,rfl⟩:=rx;exact SeqAt.EqAt.bool_str a b t
  |_=>exact absurd (show false=true from fx) Q0
 |int a =>
  obtain ⟨t',rfl⟩:=ry
  cases x with
  |non=>cases rx;exact SeqAt.EqAt.int_none a t'
  |bl b=>cases rx;exact SeqAt.EqAt.int_bool a t' b
  |int b=>obtain ⟨t,rfl⟩:=rx;exact SeqAt.EqAt.int_int a t' b t
  |str b=>obtain ⟨t,rfl⟩:=rx;exact SeqAt.EqAt.int_str a t' b t
  |_=>exact absurd (show false=true from fx) Q0
 |str a =>
  obtain ⟨t',rfl⟩:=ry
  cases x with
  |non=>cases rx;exact SeqAt.EqAt.str_none a t'
  |bl b=>cases rx;exact SeqAt.EqAt.str_bool a t' b
  |int b=>obtain ⟨t,rfl⟩:=rx;exact SeqAt.EqAt.str_int a t' b t
  |str b=>obtain ⟨t,rfl⟩:=rx;exact SeqAt.EqAt.str_str a t' b t
  |_=>exact absurd (show false=true from fx) Q0
 |_=>exact absurd (show false=true from fy) Q0
def Pm (x:V) (u:Value):Bool:=match u with
 |.none=>Em .non x
 |.bool b=>Em (.bl b) x
 |.int i _=>Em (.int i) x
 |.str z _=>Em (.str z) x
 |_=>false
theorem UC {x y:V} {u:Value} (r:Bd y u) (f:DH y=true):Pm x u=Em y x:=by
 cases y with
 |non=>cases r;rfl
 |bl b=>cases r;rfl
 |int i=>obtain ⟨t,rfl⟩:=r;rfl
 |str z=>obtain ⟨t,rfl⟩:=r;rfl
 |_=>exact absurd (show false=true from f) Q0
theorem Hr {x:V}:∀ {xs:List V} {us:List Value},AL xs us->xs.all DH=true->us.any (Pm x)=xs.any λy=>Em y x
 |_,_,.nil,_=>rfl
 |y::xs,u::us,.cons r t,f=>by
  rw [D4,C1] at f
  rw [U5,U5,UC r f.1,Hr t f.2]
theorem FG {A:Around} {s:Shared} {x:V} {v:Value} (rx:Bd x v) (fx:DH x=true):∀ {xs:List V} {us:List Value},AL xs us->xs.all DH=true->∀ u∈us,SeqAt.EqAt A s u v (Pm x u)
 |_,_,.nil,_=>λu hu=>by cases hu
 |y::xs,u::us,.cons r t,f=>λu' hu=>by
  rw [D4,C1] at f
  rcases K0.mp hu with rfl | hu
  ·rw [UC r f.1];exact UD r rx f.1 fx
  ·exact FG rx fx t f.2 u' hu
def CA (x:V) (xs:List V):Bool:=xs.any λy=>Em y x
def rIn (K:J0) (neg:Bool):R2:=λx y H Q=>∃ p xs,y=.ref p/\(Aw K H p xs\/Cn K H p xs)/\DH x=true/\xs.all DH=true/\Q (.bl (if neg then !CA x xs else CA x xs)) H
theorem BK:ES X (compareOp .In) (rIn X.K false):=by
 intro pins s σ H x y v u Q I rx ry h
 obtain ⟨p,xs,rfl,hq,fx,fs,q⟩:=h
 cases ry
 rcases hq with hq | hq
 ·obtain ⟨its,r,pl,hz⟩:=I.list hq
  refine SeqAt.in_listAt (Pm x) pl.isList (λw hw=>FG rx fx r fs w (by simpa using hw)) ⟨.bl _,H,I,rfl,?_⟩
  rw [show its.toArray.any (Pm x)=its.any (Pm x) by simp,Hr r fs]
  exact q
 ·obtain ⟨its,r,pl,hz⟩:=I.tuple hq
  refine SeqAt.in_tupleAt (Pm x) pl (λw hw=>FG rx fx r fs w (by simpa using hw)) ⟨.bl _,H,I,rfl,?_⟩
  rw [show its.toArray.any (Pm x)=its.any (Pm x) by simp,Hr r fs]
  exact q
theorem Fd:ES X (compareOp .NotIn) (rIn X.K true):=by
 intro pins s σ H x y v u Q I rx ry h
 obtain ⟨p,xs,rfl,hq,fx,fs,q⟩:=h
 cases ry
 rcases hq with hq | hq
 ·obtain ⟨its,r,pl,hz⟩:=I.list hq
  refine SeqAt.notIn_listAt (Pm x) pl.isList (λw hw=>FG rx fx r fs w (by simpa using hw)) ⟨.bl _,H,I,rfl,?_⟩
  rw [show its.toArray.any (Pm x)=its.any (Pm x) by simp,Hr r fs]
  exact q
 ·obtain ⟨its,r,pl,hz⟩:=I.tuple hq
  refine SeqAt.notIn_tupleAt (Pm x) pl (λw hw=>FG rx fx r fs w (by simpa using hw)) ⟨.bl _,H,I,rfl,?_⟩
  rw [show its.toArray.any (Pm x)=its.any (Pm x) by simp,Hr r fs]
  exact q
theorem Bo:Ek X (.type "tuple") (λxs H Q=>∃ p ys,xs=[.ref p]/\((Aw X.K H p ys/\∀ l,H l=none->Q (.ref l) (upd H l (.tup ys)))\/(Cn X.K H p ys/\Q (.ref p) H))):=by
 intro pins s σ H xs us Q I r h
 obtain ⟨p,ys,rfl,h⟩:=h
 obtain ⟨u,rfl,rx⟩:=Eo r
 cases rx
 rcases h with ⟨hq,q⟩ | ⟨hq,q⟩
 ·obtain ⟨its,r',pl,hz⟩:=I.list hq
  have hlen:=r'.length
  refine call_tuple_list pl.isList (λh' kp=>?_) (by simp only [W0]<;>lia)
  have I1:Ax X pins σ H { s with heap:=h' }:=I.kept (t':=s.toks) kp
  have I2:Ax X pins σ (upd H h'.objs.size (.tup ys)) { s with heap:=h'.push { cls:=.type "tuple",data:=.seq its.toArray } } :=
   I1.laid (t':=s.toks) (λb o e=>Heap.get?_push_of_some _ e) (V0 _) (show BC X.prog X.w _ _ _ (.tup ys) from ⟨hz,its,r',IsTup.new _ _⟩)
  exact ⟨.ref h'.objs.size,_,I2,rfl,q _ (I1.hok.fresh (V0 _))⟩
 ·obtain ⟨its,r',pl,hz⟩:=I.tuple hq
  exact call_tuple_same pl ⟨.ref p,H,I,rfl,q⟩

def tyV (K:J0) (T:String) (x:V) (H:Hp):Prop:=match x with
 |.str _=>T="str"
 |.int _=>T="int"
 |.ref p=>(T="list"/\∃ xs,Aw K H p xs)\/(T="tuple"/\∃ o,K.lookup p=some o/\o.cls=.type "tuple"/\o.dict=none) \/
   (T="dict"/\((∃ kvs,H p=some (.dK kvs))\/∃ kvs,H p=some (.dT kvs)))\/(T="set"/\∃ S n,H p=some (.set S n))
 |_=>False
theorem Sb {pins:List (Addr×Obj)} {σ:St} {H:Hp} {s:Shared} {T:String} {x:V} {v:Value} (I:Ax X pins σ H s) (r:Bd x v) (ty:tyV X.K T x H) :
  s.TypeIs v T/\∀ a,v=.ref a->∃ ob,s.heap.get? a=some ob/\ob.dict=none:=by
 cases x with
 |str z =>
  obtain ⟨t,rfl⟩:=r
  cases (show T="str" from ty)
  exact ⟨typeIs_str s z t,λ_ e=>nomatch e⟩
 |int i =>
  obtain ⟨t,rfl⟩:=r
  cases (show T="int" from ty)
  exact ⟨typeIs_int s i t,λ_ e=>nomatch e⟩
 |ref p =>
  cases r
  rcases ty with ⟨rfl,xs,hq⟩ | ⟨rfl,o,hk,hc,hd⟩ | ⟨rfl,hk⟩ | ⟨rfl,S,n,hk⟩
  ·obtain ⟨its,_,pl,_⟩:=I.list hq
   refine ⟨pl.isList.typeIs,λa e=>?_⟩
   cases e
   obtain ⟨o,n,e,c,hd,_⟩:=pl
   exact ⟨o,e,hd⟩
  ·refine ⟨⟨o,I.kIn p o hk,hc⟩,λa e=>?_⟩
   cases e
   exact ⟨o,I.kIn _ o hk,hd⟩
  ·have z:∃ o,s.heap.get? p=some o/\o.ExactDict:=by
    rcases hk with ⟨kvs,hk⟩ | ⟨kvs,hk⟩
    ·obtain ⟨_,_,_,_,o,_,_,e,ex,_⟩:=I.hok p _ hk
     exact ⟨o,e,ex⟩
    ·obtain ⟨_,_,_,_,o,_,_,e,ex,_⟩:=I.hok p _ hk
     exact ⟨o,e,ex⟩
   obtain ⟨o,e,ex⟩:=z
   refine ⟨⟨o,e,ex.1⟩,λa e2=>?_⟩
   cases e2
   exact ⟨o,e,ex.2.1⟩
  ·obtain ⟨o,_,_,_,e,ex,_⟩:=I.hok p _ hk
   refine ⟨⟨o,e,ex.1⟩,λa e2=>?_⟩
   cases e2
   exact ⟨o,e,ex.2.1⟩
 |_=>exact False.elim ty
def tBM0 (K:J0) (T:String) (r:V->List V->Hp->VK->Prop) (to:TE):TE:=λσ H Q=>to σ H λx H1=>tyV K T x H1/\r x [] H1 Q
def tBM (K:J0) (T:String) (r:V->List V->Hp->VK->Prop) (to:TE) (t:TA):TE:=λσ H Q=>to σ H λx H1=>tyV K T x H1/\t σ H1 λxs H2=>r x xs H2 Q
variable {o e:Expr} {es:List Expr} {to:TE} {t:TA} {name:Str} {apos cpos:Pos} {T id:String} {r:V->List V->Hp->VK->Prop}
theorem Ez (pa:PlainAttrs T) (slot:Slot T name id) (hty:typeOf (.builtin id)=pure (.type "method_descriptor")) (hm:MtR X id r) (ho:PE X o to)
  (hbase:attributeBase o name X.env (eval o X.env)=eval o X.env:=by rfl) (hline:(apos.endLine == cpos.line)=true:=by rfl):PE X (.Call (.Attribute o name apos) [] [] cpos) (tBM0 X.K T r to):=by
 intro pins s σ H Q I h
 refine wpAny_Call_method0_late hbase hline (Bt (ho pins s σ H _ I h) λv s1 ⟨x,H1,I1,r1,ty,q1⟩=>?_)
 obtain ⟨h1,h2⟩:=Sb I1 r1 ty
 exact ⟨T,id,pa,slot,hty,h1,h2,Calls.callWith_builtin rfl (PySem.evalArgs_none (hm pins s1 σ H1 x [] v [] Q I1 r1 .nil q1))⟩
theorem Br (pa:PlainAttrs T) (slot:Slot T name id) (hty:typeOf (.builtin id)=pure (.type "method_descriptor")) (hm:MtR X id r) (ho:PE X o to) (ha:PA X (e::es) t)
  (hbase:attributeBase o name X.env (eval o X.env)=eval o X.env:=by rfl)
  (hfew:((backTo cpos (starEach (e::es) X.env)).all (λx=>!x.1)&&(backToKw cpos (keywordEach [] X.env)).all (λx=>x.1.isSome)
   && decide ((e::es).length+([]:List Keyword).length+(if ([]:List Keyword).isEmpty then 0 else 1)<30))=true:=by rfl)
  (hline:(apos.endLine == cpos.line)=true:=by rfl) (hs:starEach (e::es) X.env=(false,eval e X.env)::starEach es X.env:=by rfl) (hplain:(backTo cpos (starEach es X.env)).any (·.1)=false:=by rfl) :
  PE X (.Call (.Attribute o name apos) (e::es) [] cpos) (tBM X.K T r to t):=by
 intro pins s σ H Q I h
 refine wpAny_Call_method_late hbase hfew hline rfl (Bt (ho pins s σ H _ I h) λv s1 ⟨x,H1,I1,r1,ty,q1⟩=>?_)
 obtain ⟨h1,h2⟩:=Sb I1 r1 ty
 refine ⟨T,id,pa,slot,hty,h1,h2,?_⟩
 have hA:=ha cpos pins s1 σ H1 _ I1 q1
 rw [hs] at hA |-
 refine Calls.callWith_builtin (by show (false||(backTo cpos (starEach es X.env)).any (·.1))=false;rw [hplain]<;>rfl) (Calls.evalArgs_plain ?_)
 exact Bt hA λus s2 ⟨vs,H2,I2,r2,q2⟩=>hm pins s2 σ H2 x vs v us Q I2 r1 r2 q2
/- xs.append(e),list.index on a module's tuple .. are MtR facts of 06m -/
end

def MtM (X:Cx) (id:String) (r:V->List V->Hp->VK->Prop):Prop :=
 ∀ (pins:List (Addr×Obj)) (s:Shared) (σ:St) (H:Hp) (x:V) (xs:List V) (v:Value) (us:List Value) (Q:VK),Ax X pins σ H s->Bd x v->AL xs us->r x xs H Q ->
  wpAny (model X.prog X.w) X.A (call (.builtin id) (v::us)) (EP X pins σ Q) X.xe s

theorem AL.one:∀ {x:V} {us:List Value},AL [x] us->∃ u,us=[u]/\Bd x u
 |_,_,.cons r .nil=>⟨_,rfl,r⟩
theorem AL.zero:∀ {us:List Value},AL [] us->us=[]
 |_,.nil=>rfl
theorem AL.dropLast {xs:List V} {us:List Value} (h:AL xs us):AL xs.dropLast us.dropLast:=by
 induction h with
 |nil=>exact .nil
 |cons r t ih =>
  cases t with
  |nil=>exact .nil
  |cons q t'=>exact .cons r ih
theorem AL.rep {xs:List V} {us:List Value} (h:AL xs us):∀ k:Nat,AL (E2 k xs).flatten (E2 k us).flatten
 |0=>.nil
 |k+1=>by
  rw [L5,L5,E6,E6]
  exact AL.append h (AL.rep h k)
theorem Pl {α:Type} (l:List α):l.eraseIdx (l.length-1)=l.dropLast:=by
 induction l with
 |nil=>rfl
 |cons a r ih =>
  cases r with
  |nil=>rfl
  |cons b r =>
   have e:(a::b::r).length-1=((b::r).length-1)+1:=by
    have h1:(a::b::r).length=r.length+2:=rfl
    have h2:(b::r).length=r.length+1:=rfl
    lia
   rw [e,List.eraseIdx_cons_succ,ih]
   all_goals rfl
theorem KN (its:List Value):∀ (k:Nat) (acc:List Value),
  List.foldl (λx1 x2=>x1++x2) acc.toArray (E2 k its.toArray)=(acc++(E2 k its).flatten).toArray
 |0,acc=>by simp
 |k+1,acc=>by
  have e:acc.toArray++its.toArray=(acc++its).toArray:=by simp
  have e2:(acc++its)++(E2 k its).flatten=acc++(E2 (k+1) its).flatten:=by
   rw [L5,E6,P4]
  rw [<- e2,<- KN its k (acc++its),<- e,L5,N8]

section
variable {X:Cx} {pins:List (Addr×Obj)} {σ:St} {H:Hp} {s:Shared} {l b:Addr} {xs ys zs:List V}

theorem Ax.lset {its its':List Value} {n:Nat} {f:Array Value->Array Value} {t':Nat} (I:Ax X pins σ H s) (hH:H l=some (.lst xs))
  (e:s.heap.get? l=some { cls:=.type "list",data:=.seq its.toArray n }) (hf:f its.toArray=its'.toArray) (hv:AL ys its') (hz:ys.length<=sizeLine) :
  Ax X pins σ (upd H l (.lst ys)) { s with heap:=s.heap.update l (Obj.mapSeq f),toks:=t' }:=by
 have q:=PySem.IsL.update e f
 rw [hf] at q
 refine I.write (x:=l) (e:=l) (by rw [hH];exact trivial) (.inl rfl) (λb' u hb hu=>(Heap.get?_update_other s.heap (Obj.mapSeq f) (Ne.symm hb)).trans hu) ⟨_,q⟩ ?_
 exact ⟨hz,its',_,hv,q⟩
theorem Ax.lnew {its:List Value} {t':Nat} (I:Ax X pins σ H s) (hv:AL ys its) (hz:ys.length<=sizeLine) :
  Ax X pins σ (upd H s.heap.objs.size (.lst ys)) { s with heap:=s.heap.push { cls:=.type "list",data:=.seq its.toArray },toks:=t' } :=
 I.laid (λ_ _ q=>Heap.get?_push_of_some _ q) (V0 _) ⟨hz,its,0,hv,Heap.get?_push_size _ rfl⟩
theorem Ax.fresh (I:Ax X pins σ H s):H s.heap.objs.size=none:=I.hok.fresh (V0 _)
theorem Ax.lstM (I:Ax X pins σ H s) (hH:H l=some (.lst xs)):xs.length<=sizeLine/\∃ (its:List Value) (n:Nat),AL xs its/\xs.length=its.length/\s.heap.get? l=some { cls:=.type "list",data:=.seq its.toArray n }:=by
 obtain ⟨z,its,n,r,e⟩:=I.hok l _ hH
 exact ⟨z,its,n,r,r.length,e⟩

theorem Tp {n:Nat} (h:n<=sizeLine):Builtin.List.listTooLong n=false:=by
 unfold Builtin.List.listTooLong
 exact decide_eq_false (by lia)
end

section
variable {X:Cx}

def DT:V->List V->Hp->VK->Prop:=λx vs H Q=>∃ l xs y,x=.ref l/\vs=[y]/\H l=some (.lst xs)/\xs.length<sizeLine/\Q .non (upd H l (.lst (xs++[y])))
theorem AU:MtM X "list.append" DT:=by
 intro pins s σ H x vs v us Q I rx rv h
 obtain ⟨l,xs,y,rfl,rfl,hH,hz,q⟩:=h
 cases rx
 obtain ⟨u,rfl,ru⟩:=rv.one
 obtain ⟨z,its,n,r,hl,e⟩:=I.lstM hH
 refine call_meets F.slot_list_append ⟨_,e,rfl⟩ F.entry_list_append (F.args_list_append_2 _ _) (PySem.list_append l its.toArray n u (by rw [W0];lia)) ⟨e,?_⟩
 refine ⟨.non,_,I.lset (its':=its++[u]) hH e (by simp) (r.append (.cons ru .nil)) ?_,rfl,q⟩
 rw [B0,U7]
 lia

def rPop:V->List V->Hp->VK->Prop:=λx vs H Q=>∃ l xs y,x=.ref l/\vs=[]/\H l=some (.lst xs)/\xs[xs.length-1]?=some y/\Q y (upd H l (.lst xs.dropLast))
theorem HL:MtM X "list.pop" rPop:=by
 intro pins s σ H x vs v us Q I rx rv h
 obtain ⟨l,xs,y,rfl,rfl,hH,hy,q⟩:=h
 cases rx
 have hus:=rv.zero
 subst hus
 obtain ⟨z,its,n,r,hl,e⟩:=I.lstM hH
 obtain ⟨u,hu,ru⟩:=r.get hy
 have hy':its.toArray[its.toArray.size-1]?=some u:=by
  show its.toArray[its.length-1]?=some u
  rw [<- Array.getElem?_toList,<- hl]
  exact hu
 refine call_meets F.slot_list_pop ⟨_,e,rfl⟩ F.entry_list_pop (F.args_list_pop_1 _) (MeetsSeq.list_pop_last l its.toArray n u hy' (by rw [W0];lia)) ⟨e,?_⟩
 refine ⟨y,_,I.lset (its':=its.dropLast) hH e ?_ r.dropLast ?_,ru,q⟩
 ·show its.toArray.eraseIdxIfInBounds (its.toArray.size-1)=its.dropLast.toArray
  rw [W0,List.eraseIdxIfInBounds_toArray,Pl]
 ·rw [List.length_dropLast]
  lia

def Ra:R2:=λx y H Q=>∃ l b xs zs,x=.ref l/\y=.ref b/\H l=some (.lst xs)/\H b=some (.lst zs)/\xs.length+zs.length<=sizeLine/\∀ p,H p=none->Q (.ref p) (upd H p (.lst (xs++zs)))
theorem Bf:ES X (binaryOp .Add) Ra:=by
 intro pins s σ H x y v u Q I rx ry h
 obtain ⟨l,b,xs,zs,rfl,rfl,hH,hB,hz,q⟩:=h
 cases rx
 cases ry
 obtain ⟨z,its,n,r,hl,e⟩:=I.lstM hH
 obtain ⟨z2,its2,n2,r2,hl2,e2⟩:=I.lstM hB
 refine PySem.P.add_list e e2 ?_ (by rw [W0,W0];lia)
 have ea:its.toArray++its2.toArray=(its++its2).toArray:=by simp
 rw [ea]
 exact ⟨.ref _,_,I.lnew (t':=s.toks) (r.append r2) (by rw [B0];lia),rfl,q _ I.fresh⟩
def rRep:R2:=λx y H Q=>∃ l k xs,x=.ref l/\y=.int k/\H l=some (.lst xs)/\-(2 ^ 63)<=k/\k<2 ^ 63/\xs.length*k.toNat<=sizeLine /\
 ∀ p,H p=none->Q (.ref p) (upd H p (.lst (E2 k.toNat xs).flatten))
theorem Qi {α:Type} (xs:List α) (k:Nat):(E2 k xs).flatten.length=k*xs.length:=by
 induction k with
 |zero=>simp
 |succ k ih=>rw [L5,E6,B0,ih,i6,Nat.add_comm]
theorem OG:ES X (binaryOp .Mult) rRep:=by
 intro pins s σ H x y v u Q I rx ry h
 obtain ⟨l,k,xs,rfl,rfl,hH,h1,h2,hz,q⟩:=h
 cases rx
 obtain ⟨t,rfl⟩:=ry
 obtain ⟨z,its,n,r,hl,e⟩:=I.lstM hH
 have hlen:its.toArray.size*k.toNat<=sizeLine:=by rw [W0,<- hl];exact hz
 have hcap:¬ its.toArray.size*k.toNat > (2 ^ 63-1) / 8:=by
  have:(sizeLine:Nat)<=(2 ^ 63-1) / 8:=by kd_p
  lia
 have hfit:¬ (!Builtin.List.listFitsIndex k)=true:=by
  rw [fitsIndex_both h1 h2]
  exact Q0
 have hlong:¬ Builtin.List.listTooLong (its.toArray.size*k.toNat)=true:=by
  rw [Tp hlen]
  exact Q0
 have hnew:List.foldl (λx1 x2=>x1++x2) #[] (E2 (if its.toArray.isEmpty=true then 0 else k.toNat) its.toArray)=(E2 k.toNat its).flatten.toArray:=by
  have f0:∀ m:Nat,List.foldl (λx1 x2=>x1++x2) #[] (E2 m its.toArray)=(E2 m its).flatten.toArray:=λm=>by
   have:=KN its m []
   rw [D5] at this
   exact this
  rw [f0]
  cases its with
  |nil=>simp
  |cons a r'=>rw [if_neg (by simp)]
 refine wpAny_binaryOp_repeat_ref (T:="list") (U:="int") (by kd_p) ⟨_,e,rfl⟩ (λs'=>typeIs_int s' k t) noFill_list_mul F.fills_int_mul F.slot_int_rmul repeat_list F.slot_int_index.lookup
  (call_meets F.slot_int_rmul (typeIs_int s k t) F.entry_int_rmul (F.args_int_rmul_2 _ _) (int___rmul___int_list k t l its.toArray n)
   ⟨e,rfl,⟨_,e,rfl⟩,call_meets F.slot_list_mul ⟨_,e,rfl⟩ F.entry_list_mul (F.args_list_mul_2 _ _) (AutoListH.list___mul___list_int_3 l its.toArray n k t hfit hcap hlong) ⟨e,?_⟩⟩)
 rw [hnew]
 exact ⟨.ref _,_,I.lnew (t':=s.toks) (r.rep k.toNat) (by rw [Qi,z8];exact hz),rfl,q _ I.fresh⟩

end

section
variable {prog:Program} {w:World} {A:Around} {E:Value->Shared->Prop} {s:Shared}
end

section
variable {X:Cx}
end
end L2

namespace Att
open PySem PySem.W PySem.Calls PyProof.Rows

theorem ID {P:Params} {h:Heap}:∀ (ns:List Int) (vs:List Value),WellAll P h vs (ns.map WData.int)->IntsAre vs ns:=by
 intro ns
 induction ns with
 |nil =>
  intro vs w
  rw [F4] at w
  cases w
  exact .nil
 |cons n ns ih =>
  intro vs w
  rw [F1] at w
  cases w with
  |cons a b =>
   cases a
   exact .cons _ _ (ih _ b)

theorem QS {l:OpenLaw} {n:Nat} (hn:l.most=some n) {P:Params} {h:Heap} {args:List WData} {vals:List Value}
  (hpre:l.row.toRowW.claim.pre args=true) (hwl:WellAll P h vals args) :
  ∃ a vs ns,vals=[Value.ref a]/\args=[WData.list (ns.map WData.int)]/\h.get? a=some { cls:=.type "list",data:=.seq vs.toArray }/\IntsAre vs ns/\ns.length<=n:=by
 have hsh:WShape.hasAll [] args [.list .int]=true:=(pre_splitW hpre).1
 have hc:l.pre.holds [] { args:=args }=true:=(pre_splitW hpre).2
 obtain ⟨d,r,rfl,h1,h2⟩:=hasAllW_cons hsh
 obtain rfl:=hasAllW_nil h2
 obtain ⟨xs,rfl,h3⟩:=hasW_list h1
 obtain ⟨ns,rfl⟩:=items_int h3
 have hlen:ns.length<=n:=by
  unfold OpenLaw.pre at hc
  have h4:(WTm.not (.lt (.lit (.int (n:Int))) (.len (.arg 0)))).holds [] { args:=[.list (ns.map .int)] }=true:=by
   have h4:=(holds_andW hc).1
   rw [hn] at h4
   exact h4
  have h5:=condW_of h4 (w_not (w_lt w_lit (w_len_list (w_arg rfl))))
  rw [L0] at h5
  refine Nat.le_of_not_lt λq=>?_
  have q':(n:Int)<((ns.length:Nat):Int):=by lia
  first
   | (rw [decide_eq_true q'] at h5;exact absurd h5 (by kd_p))
   | (simp at h5;lia)
 cases hwl with
 |cons w1 w2 =>
  cases w2
  cases w1 with
  |list ho hall=>exact ⟨_,_,ns,rfl,rfl,ho,ID ns _ hall,hlen⟩

theorem Rb (l:OpenLaw) (args:List WData):l.row.toRowW.claim.post args (.bool true) args=true :=
 postW_of (r:=l.row.toRowW) (X:=(true == true))
  (show WShape.has [] (.bool true) .bool=true by first | rfl | decide | simp [WShape.has,WShape.arms,WShape.armsAll])
  (show (WTm.eq .res (.lit (.bool true))).value [] { args:=args,res:=some (.bool true),after:=args }=some (.bool (true == true)) from w_eq_bool (w_res rfl) w_lit) rfl

theorem attach_call {l:OpenLaw} {n:Nat} {q:Program} {loose:List Str} {XP:(Str->Option Value)->Heap->Prop} {YP:World->Heap->Prop} {d:DefRec}
  (hn:l.most=some n) (hdf:d.params.defaults=[])
  (call:∀ (w:World) (s₀ s₁:Shared) (mg mb:Str->Option Value) (fa:Addr) (o:Obj) (pm cd doc:Value) (a:Addr) (vs:List Value) (ns:List Int),
   Ground q loose [] XP w s₀ mg mb s₁.heap->YP w s₁.heap ->
   s₁.heap.get? fa=some o->o.data=.func (docDef d.name d.params d.body d.scope pm cd doc)->s₁.heap.CodeRec cd d.name->mg d.name=some (.ref fa) ->
   s₁.heap.get? a=some { cls:=.type "list",data:=.seq vs.toArray }->IntsAre vs ns->ns.length<=n->s₁.gens=#[] ->
   codeAny (model l.prog w) callerA (.call (.ref fa) ⟨[.ref a],[]⟩) (λr s'=>r=.ok (.ret (.bool true))/\OldK s₁.heap s'.heap/\s'.os=s₁.os/\AllBare s'.gens) s₁) :
  WalkO q loose XP YP l.row.toRowW d [] (λf vs=>PySem.call f vs):=by
 intro w s₀ s₁ mg mb G Y fa o pm cd doc dV kV ho hd hcd hD hmg hg args vals as hpre hlay hrd hwl hlo
 obtain rfl:dV=.none:=Dflts.none hD hdf
 obtain rfl:kV=.none:=Dflts.noKw hD
 obtain ⟨a,vs,ns,rfl,rfl,hobj,hints,hlen⟩:=QS hn hpre hwl
 refine enter_call (codeAny_mono (call w s₀ s₁ mg mb fa o pm cd doc a vs ns G Y ho (fd_plain hd) hcd hmg hobj hints hlen hg) λr s' hq=>?_)
 obtain ⟨rfl,h2,h3,h4⟩:=hq
 exact ⟨.inl ⟨.bool true,.bool true,[],rfl,λ_=>rfl,.bool true,Rb l _,λ_=>⟨List.Pairwise.nil,λ_ hm=>(nomatch hm)⟩⟩,h2,h3,h4⟩

section
variable {prog:Program} {w:World} {A:Around} {E:Value->Shared->Prop} {s:Shared} {K:Frag}

end
end Att

namespace L2
open PySem PySem.Spec PyProof.Rows

theorem Kh:∀ {vs:List Value} {ns:List Int},IntsAre vs ns->AL (ns.map V.int) vs
 |_,_,.nil=>.nil
 |_,_,.cons n t h=>.cons ⟨t,rfl⟩ (Kh h)

def Only (H:Hp):Prop:=∀ b,H b=none\/∃ o xs,H b=some (.frz o (.lst xs))

theorem TR {P:Program} {w:World} {K:J0} {mg mb:Str->Option Value} {CX:Kf} {k:Nat} {fa a:Addr} {fd:FuncData} {x:Str} {sp:Sp} {s₁:Shared} {vs:List Value} {ns:List Int}
  (KX:K.In s₁.heap) (hns:s₁.heap.Ns mainGlobals mg) (hb:s₁.heap.Ns builtinsNs mb) (hbb:∀ x:Str,x≠"__name__"->mb x=bootBuiltins x) (hlim:s₁.heap.NoLimit) (hg:s₁.gens=#[])
  (ha:s₁.heap.get? a=some { cls:=.type "list",data:=.seq vs.toArray }) (hi:IntsAre vs ns) (hl:ns.length<=sizeLine) (hr:Cm k callerA)
  (F:∀ base:Heap,K.In base->base.Ns mainGlobals mg->BD P w K mg base CX k fa fd [x] sp) (hbind:∀ (s:Shared) (u:Value),BindsTo s fd ⟨[u],[]⟩ [(x,u)])
  (hsp:∀ H:Hp,Only H->Aw K H a (ns.map V.int)->sp [.ref a] H (λv _=>v=.bl true) λ_ _ _=>False)
  (hCX:∀ H e s',CX [] H s₁ (λ_ _ _=>False) e s'->False) :
  codeAny (model P w) callerA (.call (.ref fa) ⟨[.ref a],[]⟩) (λr s'=>r=.ok (.ret (.bool true))/\OldK s₁.heap s'.heap/\s'.os=s₁.os/\AllBare s'.gens) s₁:=by
 have rv:=Kh hi
 have lenV:=hi.length
 -- from an abstract heap in which nothing but the script may be tracked
 have core:∀ H:Hp,Only H->Aw K H a (ns.map V.int)->Gp P w H s₁.heap->(∀ b,H b≠none->b=a)->(H a≠none->K.lookup a=none) ->
   codeAny (model P w) callerA (.call (.ref fa) ⟨[.ref a],[]⟩) (λr s'=>r=.ok (.ret (.bool true))/\OldK s₁.heap s'.heap/\s'.os=s₁.os/\AllBare s'.gens) s₁:=by
  intro H hO hS hok hA hK
  have base_of:∀ {b:Addr} {o:Obj},s₁.heap.get? b=some o->H b=none->(LY s₁.heap H).get? b=some o:=λe n=>Uj e n
  have noA:∀ {b:Addr} {o:Obj} {es:Array DictEntry} {ep:Nat},s₁.heap.get? b=some o->o.data=.dict es ep->H b=none:=λ{b o es ep} e d=>by
   cases q:H b with
   |none=>rfl
   |some u =>
    have e':b=a:=hA b (by rw [q];simp)
    subst e'
    rw [ha] at e;cases e
    have d':Data.seq vs.toArray _=Data.dict es ep:=d
    cases d'
  have nsK:∀ {b:Addr} {m:Str->Option Value},s₁.heap.Ns b m->(LY s₁.heap H).Ns b m:=λ{b m} ⟨o,es,ep,e,d,r⟩=>⟨o,es,ep,base_of e (noA e d),d,r⟩
  have hKb:K.In (LY s₁.heap H):=λb o e=>base_of (KX b o e) (by
   cases q:H b with
   |none=>rfl
   |some u =>
    have e':b=a:=hA b (by rw [q];simp)
    subst e'
    rw [hK (by rw [q];simp)] at e;cases e)
  have hM:Mod K mg (LY s₁.heap H):=⟨hKb,nsK hns,⟨mb,nsK hb,hbb⟩,let ⟨mc,h1,h2⟩:=hlim;⟨mc,nsK h1,h2⟩⟩
  have e0:Mo P w K mg (LY s₁.heap H) callerA [] s₁ H:=⟨rfl,hM,λb o e=>of_hidT e,M7 (Rs _ _),trivial,λb hb=>absurd (show b∈([]:List Addr) from hb) (by simp),hok,.of_eq hg⟩
  refine codeAny_mono ((F _ hKb (nsK hns)).run callerA [] s₁ H ⟨[.ref a],[]⟩ [.ref a] [.ref a] _ _ hr e0 (hbind s₁ (.ref a)) (.cons rfl .nil) (hsp H hO hS)) λr s' h=>?_
  cases r with
  |error e=>exact (hCX H e s' h).elim
  |ok fl =>
   cases fl with
   |next=>exact False.elim h
   |brk=>exact False.elim h
   |cont=>exact False.elim h
   |ret u =>
    obtain ⟨v,H',os,bare,un,hok',r',q⟩:=h
    have q':v=.bl true:=q
    subst q'
    obtain rfl:u=Value.bool true:=r'
    refine ⟨rfl,OldK.of_keep λb o e=>?_,os,bare⟩
    cases q:H b with
    |none=>exact un.keep b o e q (by intro z;exact absurd (show b∈([]:List Addr) from z) (by simp)) (by simp)
    |some u =>
     rcases hO b with z | ⟨ob,xs,z⟩
     ·rw [q] at z;cases z
     ·have z2:=un.frzs b ob _ z
      obtain ⟨e1,_⟩:=hok b _ z
      obtain ⟨e2,_⟩:=hok' b _ z2
      rw [e] at e1;cases e1
      exact e2
 cases hk:K.lookup a with
 |some o =>
  -- the script is one of the module's own objects
  have e:=KX a o hk
  rw [ha] at e
  cases e
  refine core (λ_=>none) (λ_=>.inl rfl) (.inr ⟨_,vs.toArray,_,hk,rfl,rfl,rfl,by rw [W0,lenV];exact hl,by simpa using rv⟩) (λb u z=>by have z':(none:Option HO)=some u:=z;cases z') (λb z=>absurd rfl z) λz=>absurd rfl z
 |none =>
  refine core (λb=>if b=a then some (.frz { cls:=.type "list",data:=.seq vs.toArray } (.lst (ns.map V.int))) else none) (λb=>?_) (.inl (.inr ⟨{ cls:=.type "list",data:=.seq vs.toArray },if_pos rfl⟩)) (λb u z=>?_) (λb z=>?_) λ_=>hk
  ·by_cases hb:b=a
   ·exact .inr ⟨_,_,if_pos hb⟩
   ·exact .inl (if_neg hb)
  ·by_cases hb:b=a
   ·have z':=(if_pos hb).symm.trans z
    cases z'
    subst hb
    exact ⟨ha,by rw [L0];exact hl,vs,_,rv,ha⟩
   ·have z':=(if_neg hb).symm.trans z
    cases z'
  ·by_cases hb:b=a
   ·exact hb
   ·exact absurd (if_neg hb) z

theorem walk_of {l:M8} {n k:Nat} {q:Program} {loose:List Str} {XP:(Str->Option Value)->Heap->Prop} {YP:World->Heap->Prop} {d:DefRec} {K:Params->J0} {CX:World->Kf} {sp:World->Sp} {x:Str}
  (hn:l.most=some n) (hn2:n<=sizeLine) (hdf:d.params.defaults=[]) (hr:Cm k callerA)
  (hY:∀ (w:World) (h:Heap),YP w h->(K w.params).In h)
  (F:∀ (w:World) (mg:Str->Option Value) (fa:Addr) (h:Heap),(K w.params).In h->h.Ns mainGlobals mg->mg d.name=some (.ref fa) ->
   ∃ fd:FuncData,(∀ (s:Shared) (u:Value),BindsTo s fd ⟨[u],[]⟩ [(x,u)]) /\
    ∀ base:Heap,(K w.params).In base->base.Ns mainGlobals mg->BD l.prog w (K w.params) mg base (CX w) k fa fd [x] (sp w))
  (hsp:∀ (w:World) (H:Hp) (a:Addr) (ns:List Int),ns.length<=n->Only H->Aw (K w.params) H a (ns.map V.int)->sp w [.ref a] H (λv _=>v=.bl true) λ_ _ _=>False)
  (hCX:∀ (w:World) (H:Hp) (s:Shared) (e:Value) (s':Shared),CX w [] H s (λ_ _ _=>False) e s'->False) :
  PySem.W.WalkO q loose XP YP l.row.toRowW d [] (λf vs=>PySem.call f vs):=by
 refine Att.attach_call hn hdf λw s₀ s₁ mg mb fa o pm cd doc a vs ns G Y ho hd hcd hmg hobj hints hlen hg=>?_
 have KX:=hY w _ Y
 obtain ⟨fd,hb,hF⟩:=F w mg fa _ KX G.T.g hmg
 exact TR KX G.T.g G.T.b G.T.builtins G.T.nolimit hg hobj hints (T0 hlen hn2) hr hF hb (λH hO hS=>hsp w H a ns hlen hO hS) λH e s'=>hCX w H s₁ e s'
theorem walk_ofK {l:M8} {n k:Nat} {q:Program} {loose:List Str} {XP:(Str->Option Value)->Heap->Prop} {YP:World->Heap->Prop} {d:DefRec} {K:Params->J0} {CX:Kf} {sp:J0->Sp} {x:Str}
  (hn:l.most=some n) (hn2:n<=sizeLine) (hdf:d.params.defaults=[]) (hr:Cm k callerA)
  (hY:∀ (w:World) (h:Heap),YP w h->(K w.params).In h)
  (F:∀ (w:World) (mg:Str->Option Value) (fa:Addr) (h:Heap),(K w.params).In h->h.Ns mainGlobals mg->mg d.name=some (.ref fa) ->
   ∃ fd:FuncData,(∀ (s:Shared) (u:Value),BindsTo s fd ⟨[u],[]⟩ [(x,u)]) /\
    ∀ base:Heap,(K w.params).In base->base.Ns mainGlobals mg->BD l.prog w (K w.params) mg base CX k fa fd [x] (sp (K w.params)))
  (hsp:∀ (K:J0) (H:Hp) (a:Addr) (ns:List Int),ns.length<=n->Only H->Aw K H a (ns.map V.int)->sp K [.ref a] H (λv _=>v=.bl true) λ_ _ _=>False)
  (hCX:∀ (H:Hp) (s:Shared) (e:Value) (s':Shared),CX [] H s (λ_ _ _=>False) e s'->False) :
  PySem.W.WalkO q loose XP YP l.row.toRowW d [] (λf vs=>PySem.call f vs) :=
 walk_of (K:=K) (CX:=λ_=>CX) (sp:=λw=>sp (K w.params)) hn hn2 hdf hr hY F (λw H a ns h1 h2 h3=>hsp (K w.params) H a ns h1 h2 h3) λ_ H s e s'=>hCX H s e s'

def AO (s:Stmt) (j:Nat):Stmt:=match s with
 |.ClassDef _ _ _ body _ _ _ _ _ _ _=>body.getD j (.Pass ⟨0,0,0,0⟩)
 |_=>.Pass ⟨0,0,0,0⟩
def Db (s:Stmt):Arguments:=match s with
 |.FunctionDef _ a _ _ _ _ _ _ _ _=>a
 |_=>{ posonlyargs:=[],args:=[],vararg:=none,kwonlyargs:=[],kw_defaults:=[],kwarg:=none,defaults:=[] }
def BY (s:Stmt):List Stmt:=match s with
 |.FunctionDef _ _ b _ _ _ _ _ _ _=>b
 |_=>[]
def AG (s:Stmt):Scope:=match s with
 |.FunctionDef _ _ _ _ _ _ sc _ _ _=>sc
 |_=>{ kind:=.function,names:=[],isGenerator:=false,isCoroutine:=false }

abbrev CX0:Kf:=λ_ _ _ _ _ _=>False
abbrev E0:XK:=λ_ _ _=>False
theorem DO {X:Cx}:ED CX0 X E0:=λ_ _ _ _ _ _ _ h=>h.elim

structure QC (K:J0) (x qual:Str) (st:Stmt) (f:Addr) (fd:FuncData):Prop where
 ex:∃ (oc:Value) (od:Option Addr) (kV doc pm:Value) (an:Option Addr) (cdv ct:Value) (osl:Array (Option Value)),
  fd=E3 x qual (Db st) (BY st) (AG st) .none kV doc pm an cdv ct/\K.lookup f=some ⟨oc,od,.func fd,osl⟩/\g4 K cdv qual=true
 kp:F3 K (.ref f)=true
section
variable {P:Program} {w:World} {K:J0} {mg:Str->Option Value} {base:Heap}
theorem QC.ok {x qual:Str} {st:Stmt} {f:Addr} {fd:FuncData} {N ps:List Str} {k:Nat} {sp:Sp} (F:QC K x qual st f fd) (S:DA N ps (AG st)) (len:∀ vs H Q E,sp vs H Q E->vs.length=ps.length)
  (hbody:∀ (cdv:Value) (A:Around) (outer:List Env) (s:Shared) (H:Hp) (vs:List V) (Q:VK) (E:XK),Cm k (A.deeper (envOfC qual (AG st) s.heap.objs.size f cdv))->sp vs H Q E ->
   ∃ t,Ix (EB CX0 P w K mg base N qual (AG st) f cdv A outer s H E).nox (BY st) t/\t { nx:=λ_ H'=>Q .non H',rt:=Q } (start N vs) H):BD P w K mg base CX0 (k+1) f fd ps sp:=by
 obtain ⟨oc,od,kV,doc,pm,an,cdv,ct,osl,rfl,lk,hcd⟩:=F.ex
 refine fn_of lk hcd S len λA outer s H vs Q E hr hsp=>?_
 obtain ⟨t,h,q⟩:=hbody cdv A outer s H vs Q E hr hsp
 exact ⟨t,h.nox,q⟩
theorem QC.binds {x qual:Str} {st:Stmt} {f:Addr} {fd:FuncData} {ps:List Str} (F:QC K x qual st f fd)
  (h:∀ (kV doc pm:Value) (an:Option Addr) (cdv ct:Value) (us:List Value),us.length=ps.length->bindArgs (E3 x qual (Db st) (BY st) (AG st) .none kV doc pm an cdv ct) ⟨us,[]⟩=pure (ps.zip us)):Dt K fd ps []:=by
 obtain ⟨oc,od,kV,doc,pm,an,cdv,ct,osl,rfl,lk,hcd⟩:=F.ex
 exact .all (h kV doc pm an cdv ct)
theorem Pf {x qual:Str} {st:Stmt} {f:Addr} {oc:Value} {od an:Option Addr} {osl:Array (Option Value)} {kV doc pm cdv ct:Value} (l:K.lookup f=some ⟨oc,od,.func (E3 x qual (Db st) (BY st) (AG st) .none kV doc pm an cdv ct),osl⟩)
  (c:g4 K cdv qual=true) (k:F3 K (.ref f)=true):QC K x qual st f (E3 x qual (Db st) (BY st) (AG st) .none kV doc pm an cdv ct):=⟨⟨oc,od,kV,doc,pm,an,cdv,ct,osl,rfl,l,c⟩,k⟩
end
theorem Gw {A:Around} {k:Nat} (hr:Cm k A):A.units+1<cLine:=X2 (Nat.add_le_add_left (by decide:1<=64) _) hr.units
section
variable {X:Cx}
theorem pv (i:Nat) {x:Str} {pos:Pos} (hN:X.N[i]?=some x:=by rfl) (hv:Vis X.env.scope x:=by first | exact Or.inl rfl | exact Or.inr (Or.inl rfl) | exact Or.inr (Or.inr rfl)) (hd:(x == ("__debug__":Str))=false:=by kd_p)
  (hcd:(x == ("__classdict__":Str))=false:=by kd_p):PE X (.Name x pos) (GW i):=pe_var hN hv hd hcd
end

theorem iteF {A B:Prop} (h:B):if false=true then A else B:=by
 rw [if_neg Q0]
 exact h
theorem iteT {A B:Prop} (h:A):if true=true then A else B:=by
 rw [if_pos rfl]
 exact h
def Ag (H H':Hp):Prop:=∀ b o,H b=some o->H' b=some o
theorem Ag.refl (H:Hp):Ag H H:=λ_ _ h=>h
theorem Ag.trans {H H1 H2:Hp} (a:Ag H H1) (b:Ag H1 H2):Ag H H2:=λc o h=>b c o (a c o h)
theorem Ag.free {H H':Hp} (e:Ag H H') {l:Addr} (h:H' l=Option.none):H l=Option.none:=by
 cases q:H l with
 |none=>rfl
 |some o =>
  rw [e l o q] at h
  cases h
theorem Ag.seq {K:J0} {H H':Hp} {a:Addr} {xs:List V} (e:Ag H H') (h:Aw K H a xs):Aw K H' a xs:=by
 rcases h with (h | ⟨o,h⟩) | h
 ·exact .inl (.inl (e _ _ h))
 ·exact .inl (.inr ⟨o,e _ _ h⟩)
 ·exact .inr h


section
variable {κ:Type} [DecidableEq κ]
def valV (kvs:List (κ×V)) (k:κ):Option V:=(kvs.find? λkv=>decide (kv.1=k)).map (·.2)
def IA (kvs:List (κ×V)) (k:κ) (v:V):List (κ×V) :=
 if (kvs.any λkv=>decide (kv.1=k))=true then kvs.map (λkv=>if kv.1=k then (kv.1,v) else kv) else kvs++[(k,v)]
theorem Mw {p:κ×V} {r:List (κ×V)} {k:κ} (e:p.1=k):valV (p::r) k=some p.2:=by simp [valV,S3,e]
theorem Mx {p:κ×V} {r:List (κ×V)} {k:κ} (e:¬ p.1=k):valV (p::r) k=valV r k:=by simp [valV,S3,e]
theorem Iq (kvs:List (κ×V)) (k:κ) (v:V):(IA kvs k v).length<=kvs.length+1:=by
 unfold IA
 split
 ·rw [L0];lia
 ·rw [B0,P0,K1];lia
theorem DL.isSome_eq {o:Option V} {u:Option Value} (r:DL o u):o.isSome=u.isSome:=by
 cases o with
 |none=>cases u with
  |none=>rfl
  |some _=>exact (show False from r).elim
 |some _=>cases u with
  |none=>exact (show False from r).elim
  |some _=>rfl
theorem DL.getD {o:Option V} {u:Option Value} {d:V} {d':Value} (r:DL o u) (rd:Bd d d'):Bd (o.getD d) (u.getD d'):=by
 cases o with
 |none=>cases u with
  |none=>exact rd
  |some _=>exact (show False from r).elim
 |some _=>cases u with
  |none=>exact (show False from r).elim
  |some _=>exact r

theorem KV.val {kvs:List (κ×V)} {vs:List (κ×Value)} (r:KV kvs vs) (k:κ):DL (valV kvs k) (valueAt vs k):=by
 unfold KV at r
 induction r with
 |nil=>exact True.intro
 |@cons p q ps qs h t ih =>
  obtain ⟨h1,h2⟩:=h
  by_cases e:p.1=k
  ·have e':q.1=k:=h1.symm.trans e
   have b:valueAt (q::qs) k=some q.2:=by simp [valueAt,S3,e']
   rw [Mw e,b];exact h2
  ·have e':¬ q.1=k:=λz=>e (h1.trans z)
   have b:valueAt (q::qs) k=valueAt qs k:=by simp [valueAt,S3,e']
   rw [Mx e,b];exact ih
theorem KV.any {kvs:List (κ×V)} {vs:List (κ×Value)} (r:KV kvs vs) (k:κ):(kvs.any λkv=>decide (kv.1=k))=vs.any λkv=>decide (kv.1=k):=by
 unfold KV at r
 induction r with
 |nil=>rfl
 |cons h t ih=>rw [U5,U5,ih,h.1]
theorem KV.repl {kvs:List (κ×V)} {vs:List (κ×Value)} (r:KV kvs vs) (k:κ) {y:V} {u:Value} (ry:Bd y u) :
  KV (kvs.map λkv=>if kv.1=k then (kv.1,y) else kv) (vs.map λkv=>if kv.1=k then (kv.1,u) else kv):=by
 unfold KV at r |-
 induction r with
 |nil=>exact .nil
 |@cons p q ps qs h t ih =>
  rw [F1,F1]
  refine .cons ?_ ih
  obtain ⟨h1,h2⟩:=h
  by_cases e:p.1=k
  ·rw [if_pos e,if_pos (h1.symm.trans e)];exact ⟨h1,ry⟩
  ·rw [if_neg e,if_neg (λz=>e (h1.trans z))];exact ⟨h1,h2⟩
theorem KV.put {kvs:List (κ×V)} {vs:List (κ×Value)} (r:KV kvs vs) (k:κ) {y:V} {u:Value} (ry:Bd y u):KV (IA kvs k y) (stored vs k u):=by
 unfold IA stored
 rw [r.any k]
 by_cases e:(vs.any λkv=>decide (kv.1=k))=true
 ·rw [if_pos e,if_pos e];exact r.repl k ry
 ·rw [if_neg e,if_neg e];exact Paired.snoc r ⟨rfl,ry⟩
theorem KV.length {kvs:List (κ×V)} {vs:List (κ×Value)} (r:KV kvs vs):kvs.length=vs.length:=Paired.length r
end


theorem Hj {P:Program} {w:World} {k:Cr} {u:Value} (r:Bd (kV k) u):(BE P w).is k u=true:=by
 cases k with
 |inl i=>obtain ⟨t,e⟩:=(show ∃ t,u=Value.int i t from r);subst e;exact Nu P w i t
 |inr x=>obtain ⟨t,e⟩:=(show ∃ t,u=Value.str x t from r);subst e;exact Nt P w x t
theorem KJ {P:Program} {w:World}:∀ {ks:List Cr} {us:List Value},AL (ks.map kV) us->ItemsAre (BE P w) ks us
 |[],_,r=>by rw [F4] at r;cases r;exact .nil
 |k::ks,_,r=>by
  rw [F1] at r
  cases r with
  |cons h t=>exact .cons (Hj h) (KJ t)

abbrev KT (H:Hp):List (List Cr×V)->List (List Cr×Addr×Value)->Prop:=Paired λp q=>p.1=q.1/\H q.2.1=some (.tup (p.1.map kV))/\Bd p.2 q.2.2
theorem KT.val {H:Hp} {kvs:List (List Cr×V)} {xs:List (List Cr×Addr×Value)} (r:KT H kvs xs) (k:List Cr):DL (valV kvs k) ((atKey xs k).map (·.2)):=by
 induction r with
 |nil=>exact True.intro
 |@cons p q ps qs h t ih =>
  obtain ⟨h1,_,h2⟩:=h
  by_cases e:p.1=k
  ·have e':q.1=k:=h1.symm.trans e
   have b:atKey (q::qs) k=some q.2:=by simp [atKey,S3,e']
   rw [Mw e,b];exact h2
  ·have e':¬ q.1=k:=λz=>e (h1.trans z)
   have b:atKey (q::qs) k=atKey qs k:=by simp [atKey,S3,e']
   rw [Mx e,b];exact ih
section
variable {P:Program} {w:World} {H:Hp} {h:Heap} {a:Addr}
theorem rd_of {u:HO} (ok:Gp P w H h) (e:Rd H a u):BC P w H h a u:=e.ok ok
theorem KU {kvs:List (Cr×V)} (ok:Gp P w H h) (e:Rd H a (.dK kvs)):kvs.length<=sizeLine/\(a == sysModules)=false/\∃ vs,KV kvs vs/\h.DictOf (BE P w) a vs :=
 show BC P w H h a (.dK kvs) from rd_of ok e
theorem UE {kvs:List (Cr×V)} (ok:Gp P w H h) (e:H a=some (.dK kvs)):kvs.length<=sizeLine/\(a == sysModules)=false/\∃ vs,KV kvs vs/\h.DictOf (BE P w) a vs:=KU ok (.inl e)
theorem LU {ks:List Cr} (ok:Gp P w H h) (e:H a=some (.tup (ks.map kV))):(tupleKind (BE P w)).is h ks a:=by
 obtain ⟨_,its,r,o,h1,h2,n,h3⟩:=(show BC P w H h a (.tup (ks.map kV)) from ok a _ e)
 exact ⟨o,its.toArray,n,h1,h2,h3,by simpa using KJ r⟩
theorem NQ {kvs:List (List Cr×V)} (ok:Gp P w H h) (e:Rd H a (.dT kvs)):kvs.length<=sizeLine/\(a == sysModules)=false /\
  ∃ xs,KT H kvs xs/\h.DictOfH (tupleKind (BE P w)) a xs:=by
 obtain ⟨z,y,xs,r,o,es,ep,h1,h2,h3,h4,h5⟩:=(show BC P w H h a (.dT kvs) from rd_of ok e)
 refine ⟨z,y,xs,r,o,es,ep,h1,h2,h3,h4,λx hx=>?_,h5⟩
 have all:∀ {l:List (List Cr×V)} {m:List (List Cr×Addr×Value)},KT H l m->∀ x∈m,(tupleKind (BE P w)).is h x.1 x.2.1:=by
  intro l m q
  induction q with
  |nil=>intro x hx;exact nomatch hx
  |@cons p q ps qs hq t ih =>
   intro x hx
   rcases K0.mp hx with e | hx
   ·subst e
    exact LU ok (by rw [<- hq.1];exact hq.2.1)
   ·exact ih x hx
 exact all r x hx
end

def Ij (H:Hp) (a:Addr) (y:V) (r:Option V):Prop :=
 (∃ kvs k,Rd H a (.dK kvs)/\y=kV k/\r=valV kvs k)\/∃ kvs k b,Rd H a (.dT kvs)/\y=.ref b/\H b=some (.tup (k.map kV))/\r=valV kvs k
theorem Ij.k {H:Hp} {a:Addr} {kvs:List (Cr×V)} {k:Cr} (e:H a=some (.dK kvs)):Ij H a (kV k) (valV kvs k):=.inl ⟨kvs,k,.inl e,rfl,rfl⟩
section
variable {X:Cx} {pins:List (Addr×Obj)} {σ:St} {H:Hp} {s:Shared} {a:Addr} {y v:V} {u r:Value} {o:Option V} {A:Around} {E:Value->Shared->Prop}

theorem Ax.big (I:Ax X pins σ H s):sysModules<s.heap.objs.size:=by
 have h:mainGlobals<s.heap.objs.size:=(I.mod.glob.keeps I.bk).lt
 exact Nat.lt_trans (by kd_p) h

theorem RB {Q:Value->Shared->Prop} (hu:A.units+1<cLine) (I:Ax X pins σ H s) (g:Ij H a y (some v)) (ry:Bd y u) (h:∀ w' s',Ax X pins σ H s'->Bd v w'->Q w' s') :
  wpAny (model X.prog X.w) A (getItem (.ref a) u) Q E s:=by
 rcases g with ⟨kvs,k,e,ey,l⟩ | ⟨kvs,k,b,e,ey,eb,l⟩
 ·subst ey
  obtain ⟨z,hd,vs,rel,dd⟩:=KU I.hok e
  obtain ⟨w',hw,rw'⟩:=DL.some_of (v:=v) (o:=valueAt vs k) (by rw [l];exact rel.val k)
  exact wpAny_getItem_of (Hj ry) dd.mapOf hw (h w' _ (I.tok _) rw')
 ·subst ey
  cases (show u=Value.ref b from ry)
  obtain ⟨z,hd,xs,rel,dd⟩:=NQ I.hok e
  obtain ⟨w',hw,rw'⟩:=DL.some_of (v:=v) (o:=(atKey xs k).map (·.2)) (by rw [l];exact rel.val k)
  obtain ⟨p,hp,hp2⟩:=K2.mp hw
  refine wpAny_getItem_heap (tupleKind_room_in1 hu) (LU I.hok eb) dd hp ?_
  rw [hp2]
  exact h w' _ (I.tok _) rw'
theorem d_notIn {Q:Value->Shared->Prop} (hu:A.units+1<cLine) (I:Ax X pins σ H s) (g:Ij H a y o) (ry:Bd y u) (h:∀ s',Ax X pins σ H s'->Q (.bool (!o.isSome)) s') :
  wpAny (model X.prog X.w) A (compareOp .NotIn u (.ref a)) Q E s:=by
 rcases g with ⟨kvs,k,e,ey,l⟩ | ⟨kvs,k,b,e,ey,eb,l⟩
 ·subst ey
  obtain ⟨z,hd,vs,rel,dd⟩:=KU I.hok e
  refine wpAny_notIn_of (Hj ry) hd dd.mapOf ?_
  rw [<- (rel.val k).isSome_eq,<- l]
  exact h _ (I.tok _)
 ·subst ey
  cases (show u=Value.ref b from ry)
  obtain ⟨z,hd,xs,rel,dd⟩:=NQ I.hok e
  refine wpAny_notIn_heap (tupleKind_room_in1 hu) (LU I.hok eb) hd dd ?_
  have q:=(rel.val k).isSome_eq
  rw [Option.isSome_map] at q
  rw [<- q,<- l]
  exact h _ (I.tok _)
theorem Qq {h':Heap} {t':Nat} {ob:HO} (I:Ax X pins σ H s) (mu:Mut (H a)) (hs:Heap.SameBut a s.heap h') (he:∃ q,h'.get? a=some q) (new:BC X.prog X.w (upd H a ob) h' a ob) :
  Ax X pins σ (upd H a ob) { s with heap:=h',toks:=t' } :=
 I.write (x:=a) (e:=a) mu (.inl rfl) (λb q hb z=>(hs.2 b hb).trans z) he new
theorem UF {P:Program} {w:World} {H':Hp} {h':Heap} {kvs:List (Cr×V)} {vs:List (Cr×Value)} (z:kvs.length<=sizeLine) (hd:(a == sysModules)=false) (rel:KV kvs vs) (dd:h'.DictOf (BE P w) a vs) :
  BC P w H' h' a (.dK kvs):=⟨z,hd,vs,rel,dd⟩
end

section
variable {X:Cx} {pins:List (Addr×Obj)} {σ:St} {H:Hp} {s:Shared} {a:Addr} {kvs:List (Cr×V)} {k:Cr} {u:Value} {A:Around} {E:Value->Shared->Prop}
end


def NoSl (i:Expr):Prop:=∀ ov iv,subscripted i false ov iv=operate [ov,iv] (getItem ov iv)
theorem PJ {prog:Program} {w:World} {A:Around} {E:Value->Shared->Prop} {s:Shared} {env:Env} {value slice:Expr} {pos:Pos} {T id:String} {Q:Value->Shared->Prop}
  (hl:typeLookup (.type T) "__getitem__"=pure (some (.builtin id))) (hs:NoSl slice)
  (h:wpAny (model prog w) A (eval value env) (λo s₁=>wpAny (model prog w) A (eval slice env) (λi s₂=>s₂.TypeIs o T/\wpAny (model prog w) A (getItem o i) Q E s₂) E s₁) E s) :
  wpAny (model prog w) A (eval (.Subscript value slice pos) env) Q E s:=by
 refine Subscript_ (wpAny_mono h (λo s₁ h₁=>wpAny_mono h₁ (λi s₂ h₂=>?_) λ_ _ x=>x) λ_ _ x=>x)
 obtain ⟨hT,h₂⟩:=h₂
 unfold subscriptTail
 refine wpAny_bind ?_
 rw [getitemInPython_of_ne hT.not_modules]
 refine wpAny_bind (wpAny_specialOf hT hl ?_)
 have fin:wpAny (model prog w) A (subscripted slice false o i) (λr s₃=>wpAny (model prog w) A (letTemporaryGo value o r >>= λ_=>pure r) Q E s₃) E s₂:=by
  rw [hs o i]
  exact wpAny_operating (wpAny_mono h₂ (λr s₃ h₃=>wpAny_bind (wpAny_letTemporaryGo (wpAny_pure h₃))) λ_ _ x=>x)
 first
  |exact wpAny_pure (wpAny_bind fin)
  |exact wpAny_bind (wpAny_pure (wpAny_bind fin))
  |exact wpAny_bind fin

theorem NS {X:Cx} {pins:List (Addr×Obj)} {σ:St} {H:Hp} {s:Shared} {a:Addr} {y:V} {o:Option V} (I:Ax X pins σ H s) (g:Ij H a y o):s.TypeIs (.ref a) "dict":=by
 rcases g with ⟨kvs,k,e,_,_⟩ | ⟨kvs,k,b,e,_,_,_⟩
 ·obtain ⟨_,_,vs,_,dd⟩:=KU I.hok e
  exact dd.typeIs
 ·obtain ⟨_,_,xs,_,dd⟩:=NQ I.hok e
  exact dd.typeIs
def tDGet (td ty:TE):TE:=λσ H Q=>td σ H λx H1=>ty σ H1 λy H2=>∃ a v,x=.ref a/\Ij H2 a y (some v)/\Q v H2
def tDNotIn (ty td:TE):TE:=λσ H Q=>ty σ H λy H1=>td σ H1 λx H2=>∃ a o,x=.ref a/\Ij H2 a y o/\Q (.bl (!o.isSome)) H2
section
variable {X:Cx} {o i e value:Expr} {pos pos' tpos:Pos} {td ty tv:TE}
theorem pe_dget (hu:X.A.units+1<cLine) (ho:PE X o td) (hi:PE X i ty) (hs:NoSl i):PE X (.Subscript o i pos) (tDGet td ty):=by
 intro pins s σ H Q I h
 refine PJ PySem.F.slot_dict_getitem.lookup hs (Bt (ho pins s σ H _ I h) λu s1 ⟨x,H1,I1,rx,q1⟩=>Bt (hi pins s1 σ H1 _ I1 q1) λiv s2 ⟨y,H2,I2,ry,a,v,ex,g,q2⟩=>?_)
 subst ex
 obtain rfl:u=Value.ref a:=rx
 exact ⟨NS I2 g,RB hu I2 g ry λw' s3 I3 rw'=>⟨v,H2,I3,rw',q2⟩⟩
theorem Re (hu:X.A.units+1<cLine) (hi:PE X i ty) (ho:PE X o td):PC X .NotIn i o (tDNotIn ty td):=by
 intro pins s σ H Q I h
 refine Bt (hi pins s σ H _ I h) λiv s1 ⟨y,H1,I1,ry,q1⟩=>Bt (ho pins s1 σ H1 _ I1 q1) λu s2 ⟨x,H2,I2,rx,a,ov,ex,g,q2⟩=>?_
 subst ex
 obtain rfl:u=Value.ref a:=rx
 exact d_notIn hu I2 g ry λs3 I3=>⟨.bl (!ov.isSome),H2,I3,rfl,q2⟩
end


theorem UH {P:Program} {w:World} {H:Hp} (h:Heap) (hb:sysModules<h.objs.size):BC P w H (h.push { cls:=.type "dict",data:=.dict #[] }) h.objs.size (.dK []) :=
 ⟨N1 _,beq_eq_false_iff_ne.mpr (Ne.symm (Y1 hb)),[],.nil,Heap.DictOf.new h⟩
def Ss:TE:=λ_ H Q=>∀ p,H p=none->Q (.ref p) (upd H p (.dK []))
section
variable {X:Cx} {pos:Pos}
end

def Li:List (TE×TE)->St->Hp->(List (V×V)->Hp->Prop)->Prop
 |[],_,H,Q=>Q [] H
 | (tk,tv)::r,σ,H,Q=>tk σ H λx H1=>tv σ H1 λy H2=>Li r σ H2 λps H3=>Q ((x,y)::ps) H3
abbrev VV:List (V×V)->List (Value×Value)->Prop:=Paired λp q=>Bd p.1 q.1/\Bd p.2 q.2
def PPs (X:Cx) (pos:Pos) (keys:List (Option Expr)) (values:List Expr) (trs:List (TE×TE)):Prop :=
 ∀ (pins:List (Addr×Obj)) (s:Shared) (σ:St) (H:Hp) (Q:List (V×V)->Hp->Prop),Ax X pins σ H s->Li trs σ H Q ->
  wpAny (model X.prog X.w) X.A (evalPairs (pairTrees keys values X.env pos)) (λvs s'=>∃ ps H',Ax X pins σ H' s'/\VV ps vs/\Q ps H') X.xe s
theorem Hb {X:Cx} {pos:Pos}:PPs X pos [] [] []:=λpins s σ H Q I h=>pairTrees_nil_walk ⟨[],H,I,.nil,h⟩
theorem Bm {X:Cx} {pos:Pos} {k v:Expr} {ks:List (Option Expr)} {vs:List Expr} {tk tv:TE} {trs:List (TE×TE)} (hk:PE X k tk) (hv:PE X v tv) (hr:PPs X pos ks vs trs) :
  PPs X pos (some k::ks) (v::vs) ((tk,tv)::trs):=λpins s σ H Q I h =>
 pairTrees_cons_walk (Bt (hk pins s σ H _ I h) λu s1 ⟨x,H1,I1,rx,q1⟩=>Bt (hv pins s1 σ H1 _ I1 q1) λw2 s2 ⟨y,H2,I2,ry,q2⟩ =>
  Bt (hr pins s2 σ H2 _ I2 q2) λws s3 ⟨ps,H3,I3,rel,q3⟩=>⟨(x,y)::ps,H3,I3,.cons ⟨rx,ry⟩ rel,q3⟩)

def AA (kvs more:List (Cr×V)):List (Cr×V):=more.foldl (λacc kv=>IA acc kv.1 kv.2) kvs
theorem KV.merge:∀ {more:List (Cr×V)} {rs:List (Cr×Value)} {kvs:List (Cr×V)} {vs:List (Cr×Value)},KV more rs->KV kvs vs->KV (AA kvs more) (merged vs rs):=by
 intro more rs kvs vs r
 unfold KV at r
 induction r generalizing kvs vs with
 |nil=>intro q;exact q
 |@cons p q ps qs h t ih =>
  intro r0
  have e:KV (IA kvs p.1 p.2) (stored vs q.1 q.2):=by
   have:=r0.put p.1 h.2
   rw [<- h.1];exact this
  exact ih e
theorem Gv:∀ (more kvs:List (Cr×V)),(AA kvs more).length<=kvs.length+more.length
 |[],kvs=>by show kvs.length<=kvs.length+0;lia
 |p::r,kvs=>by
  have h1:=Gv r (IA kvs p.1 p.2)
  have h2:=Iq kvs p.1 p.2
  show (AA (IA kvs p.1 p.2) r).length<=_
  rw [P0];lia
theorem JM {P:Program} {w:World}:∀ {kvs:List (Cr×V)} {ws:List (Value×Value)},VV (kvs.map λkv=>(kV kv.1,kv.2)) ws->∃ rs,Carries (BE P w) ws rs/\KV kvs rs
 |[],_,r=>by rw [F4] at r;cases r;exact ⟨[],True.intro,.nil⟩
 |p::kvs,_,r=>by
  rw [F1] at r
  cases r with
  |@cons a b as bs h t =>
   obtain ⟨rs,c,q⟩:=JM (P:=P) (w:=w) t
   obtain ⟨b1,b2⟩:=b
   exact ⟨(p.1,b2)::rs,⟨Hj h.1,rfl,c⟩,.cons ⟨rfl,h.2⟩ q⟩
def tDisp (trs:List (TE×TE)):TE:=λσ H Q=>∀ p,H p=none->Li trs σ (upd H p (.dK [])) λps H2=>H2 p=some (.dK [])/\∃ kvs:List (Cr×V),ps=kvs.map (λkv=>(kV kv.1,kv.2))/\kvs.length<=15/\Q (.ref p) (upd H2 p (.dK (AA [] kvs)))
theorem Hd {X:Cx} {pos:Pos} {keys:List (Option Expr)} {values:List Expr} {trs:List (TE×TE)} (h:PPs X pos keys values trs) (hall:keys.all (·.isSome)=true) (hl:keys.length=values.length) (h0:keys≠[])
  (h15:keys.length<=15):PE X (.Dict keys values pos) (tDisp trs):=by
 intro pins s σ H Q I q
 have hn:=I.hok.fresh (V0 s.heap.objs.size)
 have I1:=I.laid (a:=s.heap.objs.size) (o:=.dK []) (h':=s.heap.push { cls:=.type "dict",data:=.dict #[] }) (t':=s.toks) (λ_ _ q=>Heap.get?_push_of_some _ q) (V0 _) (UH s.heap I.big)
 refine wpAny_Dict_walk (knd:=BE X.prog X.w) hall hl h0 h15 (Bt (h pins _ σ _ _ I1 (q _ hn)) λws s2 ⟨ps,H2,I2,rel,e,kvs,ep,lk,q2⟩=>?_)
 subst ep
 obtain ⟨rs,c,rk⟩:=JM (P:=X.prog) (w:=X.w) rel
 obtain ⟨z,hd,vs0,r0,dd⟩:=UE I2.hok e
 cases r0
 refine ⟨rs,c,dd,λh' dd' hs=>⟨.ref s.heap.objs.size,_,?_,rfl,q2⟩⟩
 have hz:(AA [] kvs).length<=sizeLine:=by
  have h1:=Gv kvs []
  rw [K1] at h1
  rw [sizeLine_eq];lia
 have he:∃ q,h'.get? s.heap.objs.size=some q:=let ⟨q,_,_,hq,_⟩:=dd';⟨q,hq⟩
 exact Qq I2 (by rw [e];exact True.intro) hs he (UF hz hd (rk.merge .nil) dd')


structure M1 (X:Cx) (o:Expr) (m:Str) (apos:Pos) (e:Expr) (cpos:Pos):Prop where
 base:attributeBase o m X.env (eval o X.env)=eval o X.env
 few:((backTo cpos (starEach [e] X.env)).all (λx=>!x.1)&&(backToKw cpos (keywordEach [] X.env)).all (λx=>x.1.isSome)
  && decide (([e]:List Expr).length+([]:List Keyword).length+(if ([]:List Keyword).isEmpty then 0 else 1)<30))=true
 line:(apos.endLine == cpos.line)=true
 trees:backTo cpos (starEach [e] X.env)=[(false,eval e X.env)]
structure M2 (X:Cx) (o:Expr) (m:Str) (apos:Pos) (e f:Expr) (cpos:Pos):Prop where
 base:attributeBase o m X.env (eval o X.env)=eval o X.env
 few:((backTo cpos (starEach [e,f] X.env)).all (λx=>!x.1)&&(backToKw cpos (keywordEach [] X.env)).all (λx=>x.1.isSome)
  && decide (([e,f]:List Expr).length+([]:List Keyword).length+(if ([]:List Keyword).isEmpty then 0 else 1)<30))=true
 line:(apos.endLine == cpos.line)=true
 trees:backTo cpos (starEach [e,f] X.env)=[(false,eval e X.env),(false,eval f X.env)]

def IsD (H:Hp) (a:Addr):Prop:=(∃ kvs,Rd H a (.dK kvs))\/∃ kvs,Rd H a (.dT kvs)
theorem isD_at {X:Cx} {pins:List (Addr×Obj)} {σ:St} {H:Hp} {s:Shared} {a:Addr} (I:Ax X pins σ H s) (d:IsD H a) :
  s.TypeIs (.ref a) "dict"/\(∀ b,Value.ref a=.ref b->∃ ob,s.heap.get? b=some ob/\ob.dict=none)/\(a == sysModules)=false:=by
 rcases d with ⟨kvs,e⟩ | ⟨kvs,e⟩
 ·obtain ⟨_,hd,vs,_,dd⟩:=KU I.hok e
  refine ⟨dd.typeIs,λb q=>?_,hd⟩
  cases q
  obtain ⟨ob,_,_,h1,h2,_⟩:=dd
  exact ⟨ob,h1,h2.2.1⟩
 ·obtain ⟨_,hd,xs,_,dd⟩:=NQ I.hok e
  refine ⟨dd.typeIs,λb q=>?_,hd⟩
  cases q
  obtain ⟨ob,_,_,h1,h2,_⟩:=dd
  exact ⟨ob,h1,h2.2.1⟩

section
variable {X:Cx} {pins:List (Addr×Obj)} {σ:St} {H:Hp} {s:Shared} {a:Addr} {y d:V} {u r:Value} {o:Option V} {A:Around} {E:Value->Shared->Prop}
theorem d_get2 {Q:Value->Shared->Prop} (hu:A.units+1<cLine) (I:Ax X pins σ H s) (g:Ij H a y o) (ry:Bd y u) (rd:Bd d r) (h:∀ w' s',Ax X pins σ H s'->Bd (o.getD d) w'->Q w' s') :
  wpAny (model X.prog X.w) A (call (.builtin "dict.get") [.ref a,u,r]) Q E s:=by
 rcases g with ⟨kvs,k,e,ey,l⟩ | ⟨kvs,k,b,e,ey,eb,l⟩
 ·subst ey
  obtain ⟨z,hd,vs,rel,dd⟩:=KU I.hok e
  refine call_meetsIn V5 dd.typeIs L7 (k8 _ _ _) (meets_dict_get_default (BE X.prog X.w) a (Hj ry) hd r) ⟨_,dd.mapOf,h _ _ (I.tok _) ?_⟩
  rw [l]
  exact (rel.val k).getD rd
 ·subst ey
  cases (show u=Value.ref b from ry)
  obtain ⟨z,hd,xs,rel,dd⟩:=NQ I.hok e
  refine call_meetsIn V5 dd.typeIs L7 (k8 _ _ _) (meetsH_dict_get_default (tupleKind (BE X.prog X.w)) a b hd r) ⟨tupleKind_room_in1 hu,k,xs,LU I.hok eb,dd,h _ _ (I.tok _) ?_⟩
  rw [l]
  exact (rel.val k).getD rd
end

def tDGet2 (td ty tx:TE):TE:=λσ H Q=>td σ H λx H1=>∃ a,x=.ref a/\IsD H1 a/\ty σ H1 λy H2=>tx σ H2 λz H3=>∃ o,Ij H3 a y o/\Q (o.getD z) H3
section
variable {X:Cx} {o e f:Expr} {apos cpos:Pos} {td ty tx:TE}
theorem Te (hu:X.A.units+1<cLine) (ho:PE X o td) (he:PE X e ty) (hf:PE X f tx) (m:M2 X o "get" apos e f cpos):PE X (.Call (.Attribute o "get" apos) [e,f] [] cpos) (tDGet2 td ty tx):=by
 intro pins s σ H Q I h
 refine wpAny_Call_method m.base m.few m.line M5 V5 K9 (Bt (ho pins s σ H _ I h) λu s1 ⟨x,H1,I1,rx,a,ex,d,q1⟩=>?_)
 subst ex
 obtain rfl:u=Value.ref a:=rx
 obtain ⟨t1,t2,_⟩:=isD_at I1 d
 refine ⟨t1,t2,?_⟩
 rw [m.trees]
 refine Calls.callWith_builtin rfl (Calls.evalArgs_plain (Calls.spliced_cons (Bt (he pins s1 σ H1 _ I1 q1) λiv s2 ⟨y,H2,I2,ry,q2⟩ =>
  Calls.spliced_cons (Bt (hf pins s2 σ H2 _ I2 q2) λfv s3 ⟨z,H3,I3,rz,ov,g,q3⟩=>Calls.spliced_nil ?_))))
 exact d_get2 hu I3 g ry rz λw' s4 I4 rw'=>⟨_,H3,I4,rw',q3⟩
end

section
variable {X:Cx} {pins:List (Addr×Obj)} {σ:St} {H:Hp} {s:Shared} {a:Addr} {kvs:List (Cr×V)} {A:Around} {E:Value->Shared->Prop}
end


section
variable {X:Cx} {pins:List (Addr×Obj)} {σ:St} {H:Hp} {s:Shared} {a:Addr} {y:V} {u:Value} {A:Around} {E:Value->Shared->Prop}
end
section
variable {X:Cx}
end
section
variable {κ:Type} [DecidableEq κ]
end
end L2

set_option maxHeartbeats 4000000
namespace L2
open PySem PySem.Spec PyProof.Rows

theorem noE {α:Type} {M:Model} {A:Around} {t:Sem α} {Q:α->Shared->Prop} {E:Value->Shared->Prop} {s:Shared} (h:wpAny M A t Q (λ_ _=>False) s):wpAny M A t Q E s :=
 wpAny_mono h (λ_ _ q=>q) λ_ _ f=>f.elim

def Fo (cells:List (Str×Addr)):List (Str×NameKind)->List (Str×Addr)->List (Str×Addr)
 |[],acc=>acc
 | (n,k)::r,acc=>Fo cells r (if (k == NameKind.free)=true then (n,(cells.lookup n).getD 0)::acc else acc)
theorem KY {cells:List (Str×Addr)} {y:Str} {c:Addr}:∀ (names:List (Str×NameKind)) (acc:List (Str×Addr)),
  (Fo cells names acc).lookup y=some c->acc.lookup y=some c\/((y,NameKind.free)∈names/\c=(cells.lookup y).getD 0)
 |[],acc,h=>.inl h
 | (n,k)::r,acc,h=>by
  rcases KY r _ h with h1 | ⟨h1,h2⟩
  ·by_cases hk:(k == NameKind.free)=true
   ·rw [if_pos hk,Z2] at h1
    by_cases e:(y == n)=true
    ·rw [e] at h1
     have e1:y=n:=by simpa using e
     have e2:k=NameKind.free:=by simpa using hk
     subst e1 e2
     exact .inr ⟨C0,(Option.some.inj h1).symm⟩
    ·have e1:(y == n)=false:=by simpa using e
     rw [e1] at h1
     exact .inl h1
   ·rw [if_neg hk] at h1
    exact .inl h1
  ·exact .inr ⟨A0 _ h1,h2⟩
theorem Iv {cells:List (Str×Addr)} {y:Str}:∀ (names:List (Str×NameKind)) (acc:List (Str×Addr)),(∃ c,acc.lookup y=some c)->∃ c,(Fo cells names acc).lookup y=some c
 |[],_,h=>h
 | (n,k)::r,acc,h=>by
  refine Iv r _ ?_
  by_cases hk:(k == NameKind.free)=true
  ·rw [if_pos hk,Z2]
   by_cases e:(y == n)=true
   ·rw [e];exact ⟨_,rfl⟩
   ·have e1:(y == n)=false:=by simpa using e
    rw [e1];exact h
  ·rw [if_neg hk];exact h
theorem HZ {cells:List (Str×Addr)} {y:Str}:∀ (names:List (Str×NameKind)) (acc:List (Str×Addr)),(y,NameKind.free)∈names->∃ c,(Fo cells names acc).lookup y=some c
 |[],_,h=>by simp at h
 | (n,k)::r,acc,h=>by
  rcases K0.mp h with h | h
  ·cases h
   refine Iv r _ ?_
   rw [if_pos (by rfl),Z2,beq_self_eq_true]
   exact ⟨_,rfl⟩
  ·exact HZ r _ h
theorem Fn {scope:Scope} {env:Env} (h:∀ x,(x,NameKind.free)∈scope.names->∃ c,env.cells.lookup x=some c):closureFor scope env=pure (Fo env.cells scope.names []):=by
 have go:∀ (names:List (Str×NameKind)) (acc:List (Str×Addr)),(∀ x,(x,NameKind.free)∈names->∃ c,env.cells.lookup x=some c) ->
   (forIn names acc λ(x:Str×NameKind) (cs:List (Str×Addr))=>match x with
    | (name,kind)=>if (kind == NameKind.free)=true then do let a <- cellOf env name;pure (ForInStep.yield ((name,a)::cs)) else pure (ForInStep.yield cs):Sem (List (Str×Addr)))
   = pure (Fo env.cells names acc):=by
  intro names
  induction names with
  |nil=>intro acc _;rfl
  |cons x r ih =>
   intro acc hx
   obtain ⟨n,k⟩:=x
   rw [List.forIn_cons]
   by_cases hk:(k == NameKind.free)=true
   ·have e2:k=NameKind.free:=by simpa using hk
    obtain ⟨c,hc⟩:=hx n (by rw [e2];exact C0)
    have hcell:cellOf env n=pure c:=by unfold cellOf;rw [hc]
    simp only [hk,if_true,hcell]
    show (forIn r ((n,c)::acc) _:Sem (List (Str×Addr)))=_
    rw [ih _ λy hy=>hx y (A0 _ hy)]
    simp only [Fo,hk,if_true,hc,Option.getD_some]
   ·simp only [hk,if_false]
    show (forIn r acc _:Sem (List (Str×Addr)))=_
    rw [ih _ λy hy=>hx y (A0 _ hy)]
    simp only [Fo,hk,if_false]
    rfl
 have:=go scope.names [] h
 unfold closureFor
 exact (congrArg (λ(t:Sem (List (Str×Addr)))=>t >>= λcs=>(pure cs:Sem (List (Str×Addr)))) this).trans rfl

theorem DP {env:Env}:∀ {names:List (Str×NameKind)} {x:Str},names.lookup x=some .free ->
  (names.map λ(n,k)=>if (k == NameKind.free&&env.scope.kind == .function&&env.kindOf n == some .cell) then (n,NameKind.cell) else (n,k)).lookup x=some .cell \/
  (names.map λ(n,k)=>if (k == NameKind.free&&env.scope.kind == .function&&env.kindOf n == some .cell) then (n,NameKind.cell) else (n,k)).lookup x=some .free
 |[],_,h=>by simp at h
 | (n,k)::r,x,h=>by
  have ih:=@DP env r x
  show A4 x ((if (k == NameKind.free&&env.scope.kind == .function&&env.kindOf n == some .cell)=true then (n,NameKind.cell) else (n,k))::_)=_\/A4 x ((if (k == NameKind.free&&env.scope.kind == .function&&env.kindOf n == some .cell)=true then (n,NameKind.cell) else (n,k))::_)=_
  cases hx:x == n with
  |true =>
   simp only [Z2,hx] at h
   cases h
   by_cases hc:(NameKind.free == NameKind.free&&env.scope.kind == .function&&env.kindOf n == some .cell)=true
   ·rw [if_pos hc];left;simp [Z2,hx]
   ·rw [if_neg hc];right;simp [Z2,hx]
  |false =>
   simp only [Z2,hx] at h
   by_cases hc:(k == NameKind.free&&env.scope.kind == .function&&env.kindOf n == some .cell)=true
   ·rw [if_pos hc];simp only [Z2,hx];exact ih h
   ·rw [if_neg hc];simp only [Z2,hx];exact ih h
theorem CQ {env:Env} {k:NameKind}:∀ {names:List (Str×NameKind)} {x:Str},
  (names.map λ(n,k)=>if (k == NameKind.free&&env.scope.kind == .function&&env.kindOf n == some .cell) then (n,NameKind.cell) else (n,k)).lookup x=some k ->
  names.lookup x=some k\/(k=.cell/\names.lookup x=some .free)
 |[],_,h=>by simp at h
 | (n,j)::r,x,h=>by
  have ih:=@CQ env k r x
  have h':A4 x ((if (j == NameKind.free&&env.scope.kind == .function&&env.kindOf n == some .cell)=true then (n,NameKind.cell) else (n,j))::r.map λ(n,k)=>if (k == NameKind.free&&env.scope.kind == .function&&env.kindOf n == some .cell) then (n,NameKind.cell) else (n,k))=some k:=h
  cases hx:x == n with
  |true =>
   by_cases hc:(j == NameKind.free&&env.scope.kind == .function&&env.kindOf n == some .cell)=true
   ·rw [if_pos hc] at h'
    simp only [Z2,hx] at h' |-
    cases h'
    have e:j=NameKind.free:=by
     have:=hc
     simp only [C1] at this
     simpa using this.1.1
    rw [e]
    exact .inr ⟨rfl,rfl⟩
   ·rw [if_neg hc] at h'
    simp only [Z2,hx] at h' |-
    exact .inl h'
  |false =>
   by_cases hc:(j == NameKind.free&&env.scope.kind == .function&&env.kindOf n == some .cell)=true
   ·rw [if_pos hc] at h';simp only [Z2,hx] at h' |-;exact ih h'
   ·rw [if_neg hc] at h';simp only [Z2,hx] at h' |-;exact ih h'

def IP (sc osc:Scope) (N N':List Str) (sel:List (Option Nat)):Bool :=
 (sc.names.all λp=>match p.2 with
  |.free=>(osc.names.lookup p.1 == some .cell||osc.names.lookup p.1 == some .free)&&sc.names.lookup p.1 == some .free
  |.cell=>false
  |.local=>sc.names.lookup p.1 == some .local
  |_=>true)&&N'.length == sel.length&&((N'.zip sel).all λp=>match p.2 with
   |none=>true
   |some j=>N[j]? == some p.1&&sc.names.lookup p.1 == some .free)
def Ft (sel:List (Option Nat)) (σ:St):St:=sel.map λo=>o.bind λj=>(σ[j]?).join

def BW (X:Cx) (N':List Str) (scope:Scope) (C:Addr) (s:Shared) (H:Hp) (fp:List Addr) (pn:List (Addr×Obj)):Cx where
 prog:=X.prog
 w:=X.w
 K:=X.K
 mg:=X.mg
 base:=X.base
 A:=X.A
 N:=N'
 s₀:=s
 H₀:=H
 env:=compEnvC scope (Fo X.env.cells scope.names []) C X.env
 outer:=X.stack
 stack:=X.stack
 ex:=fp
 fn:=λx=>decide (scope.names.lookup x=some NameKind.local)
 calm:=X.calm
 pn:=pn
 xe:=λ_ _=>False

section
variable {X:Cx} {pins:List (Addr×Obj)} {σ:St} {H:Hp} {s:Shared}

structure QE (X:Cx) (sc:Scope) (N':List Str) (sel:List (Option Nat)):Prop where
 fr:∀ x,(x,NameKind.free)∈sc.names->(X.env.kindOf x=some .cell\/X.env.kindOf x=some .free)/\sc.names.lookup x=some .free
 nc:∀ y∈sc.names,y.2≠NameKind.cell
 lo:∀ y∈sc.names,y.2=NameKind.local->sc.names.lookup y.1=some .local
 ln:N'.length=sel.length
 sl:∀ (i:Nat) (x:Str) (j:Nat),N'[i]?=some x->sel[i]?=some (some j)->X.N[j]?=some x/\sc.names.lookup x=some .free
theorem UP {sc:Scope} {N':List Str} {sel:List (Option Nat)} (h:IP sc X.env.scope X.N N' sel=true):QE X sc N' sel:=by
 unfold IP at h
 simp only [C1] at h
 obtain ⟨⟨h1,h2⟩,h3⟩:=h
 rw [W2] at h1 h3
 refine ⟨λx hx=>?_,λy hy e=>?_,λy hy e=>?_,by simpa using h2,λi x j e1 e2=>?_⟩
 ·have:=h1 _ hx
  simp only [C1,O8,beq_iff_eq] at this
  exact this
 ·have:=h1 _ hy
  rw [e] at this
  simp at this
 ·have:=h1 _ hy
  rw [e] at this
  simpa using this
 ·have hm:(x,some j)∈N'.zip sel:=by
   refine E1 (i:=i) ?_
   rw [List.getElem?_zip_eq_some]
   exact ⟨e1,e2⟩
  have:=h3 _ hm
  simp only [C1,beq_iff_eq] at this
  exact this

theorem Ei (I:Ax X pins σ H s) {sc:Scope} {N':List Str} {sel:List (Option Nat)} (k:QE X sc N' sel) :
  (∀ x,(x,NameKind.free)∈sc.names->∃ c,X.env.cells.lookup x=some c)/\(∀ x c,(Fo X.env.cells sc.names []).lookup x=some c->X.env.cells.lookup x=some c/\(x,NameKind.free)∈sc.names):=by
 have a:∀ x,(x,NameKind.free)∈sc.names->∃ c,X.env.cells.lookup x=some c:=λx hx=>I.ok.has x (k.fr x hx).1
 refine ⟨a,λx c h=>?_⟩
 rcases KY _ _ h with h | ⟨h,e⟩
 ·simp at h
 ·obtain ⟨c',hc⟩:=a x h
  rw [hc] at e
  exact ⟨by rw [hc,e];rfl,h⟩

theorem Rq (I:Ax X pins σ H s) {scope:Scope} {N':List Str} {sel:List (Option Nat)} {C:Addr} {fp:List Addr} {h₁:Heap} {t':Nat} {m:Str->Option Value} (hk:scope.kind=.function)
  (k:QE X scope N' sel) (hC:s.heap.objs.size<=C) (hf:∀ b∈fp,EE X pins H b) (hfl:∀ b∈fp,b<s.heap.objs.size) (hns:h₁.Ns C m) (hkeep:∀ b o,s.heap.get? b=some o->h₁.get? b=some o) :
  Ax (BW X N' scope C s H fp (X.pn++pins)) [] (Ft sel σ) H { s with heap:=h₁,toks:=t' }:=by
 obtain ⟨cl1,cl2⟩:=Ei I k
 have lkf:∀ x,scope.names.lookup x=some .free->(relabel scope X.env).names.lookup x=some .cell\/(relabel scope X.env).names.lookup x=some .free:=λx hx=>DP hx
 have hfr:∀ x,(relabel scope X.env).names.lookup x=some .cell\/(relabel scope X.env).names.lookup x=some .free->(x,NameKind.free)∈scope.names:=λx hx=>by
  rcases hx with hx | hx
  ·rcases CQ hx with h | ⟨_,h⟩
   ·exact absurd rfl (k.nc _ (PySem.mem_of_lookup h))
   ·exact PySem.mem_of_lookup h
  ·rcases CQ hx with h | ⟨e,h⟩
   ·exact PySem.mem_of_lookup h
   ·exact PySem.mem_of_lookup h
 refine ⟨⟨I.ok.mod,hk,I.ok.glob,I.ok.blt,hC,λx y c h1 h2=>?_,λx hx=>?_,λx c h1 h2=>?_,I.ok.hd,I.ok.frames,.inl rfl,λb hb=>?_,I.bs,T0 I.ok.bsz I.sz,λb o e hb=>?_,λb hb hb2=>?_,I.stack,I.stkFree⟩,
  rfl,I.bare,Un.kept hkeep,⟨m,hns,λi x v e1 e2 e3=>?_⟩,λx c h=>?_,I.hok.fresh hC,λx c h=>?_,λp hp=>?_,I.hok.kept hkeep,?_⟩
 ·exact I.ok.inj x y c (cl2 x c h1).1 (cl2 y c h2).1
 ·exact HZ _ _ (hfr x hx)
 ·have h1':scope.names.lookup x=some NameKind.local:=of_decide_eq_true h1
  have:=(k.fr x (cl2 x c h2).2).2
  rw [h1'] at this
  cases this
 ·refine ⟨Y1 (V1 (hfl b hb) hC),λx c h=>?_⟩
  exact (hf b hb).2.2.2.2.1 x c (cl2 x c h).1
 ·rcases (hf b hb).2.2.2.1 with z | z
  ·exact I.ok.noex b o e z
  ·exact absurd (V1 (Heap.lt_size e) (T0 I.ok.bsz z)) (B6 _)
 ·rcases K0.mp (I.stkSub b hb2) with z | z
  ·exact (hf b hb).2.1 z
  ·exact (hf b hb).2.2.1 z
 ·-- a free name
  have e2':sel[i]?.map (λo=>o.bind λj=>(σ[j]?).join)=some (some v):=by
   have:=e2
   unfold Ft at this
   rwa [Z1] at this
  cases hs:sel[i]? with
  |none=>rw [hs] at e2';cases e2'
  |some o =>
   rw [hs] at e2'
   cases o with
   |none=>cases e2'
   |some j =>
    have e4:(σ[j]?).join=some v:=Option.some.inj e2'
    have e5:σ[j]?=some (some v):=by
     cases q:σ[j]? with
     |none=>rw [q] at e4;cases e4
     |some r=>rw [q] at e4;rw [show r=some v from e4]
    obtain ⟨hX,hl⟩:=k.sl i x j e1 hs
    obtain ⟨kk,_⟩:=k.fr x (PySem.mem_of_lookup hl)
    obtain ⟨m0,_,hloc⟩:=I.loc
    obtain ⟨u,ru,lu⟩:=hloc j x v hX e5 (kk.elim (λz=>.inr (.inl z)) λz=>.inr (.inr z))
    refine ⟨u,ru,?_⟩
    rcases lu with ⟨z,_⟩ | ⟨_,c,hc,hcell⟩
    ·rcases kk with y | y<;>(rw [z] at y;cases y)
    ·refine .inr ⟨lkf x hl,c,?_,hcell.keeps hkeep⟩
     obtain ⟨c',hc'⟩:=HZ (cells:=X.env.cells) scope.names [] (PySem.mem_of_lookup hl)
     have:=(cl2 x c' hc').1
     rw [hc] at this
     cases this
     exact hc'
 ·obtain ⟨v,z⟩:=I.cell x c (cl2 x c h).1
  exact ⟨v,z.keeps hkeep⟩
 ·exact I.freeC x c (cl2 x c h).1
 ·have hp':p∈X.pn++pins:=by
   have:p∈(X.pn++pins)++[]:=hp
   rwa [L1] at this
  obtain ⟨e,n,ne,nf,d⟩:=I.pin p hp'
  refine ⟨hkeep _ _ e,n,Y1 (V1 (Heap.lt_size e) hC),λz=>?_,d⟩
  rcases K0.mp (I.stkSub _ z) with z | z
  ·exact ne z
  ·exact nf z
 ·show (sel.map _).length=N'.length
  rw [L0]
  exact k.ln.symm

def PTs (X:Cx) (ifs:List Expr) (t:TT):Prop :=
 ∀ (pins:List (Addr×Obj)) (s:Shared) (σ:St) (H:Hp) (Q:Bool->Hp->Prop),Ax X pins σ H s->t σ H Q ->
  wpAny (model X.prog X.w) X.A (forIn ifs true λc r=>if r=true then do let ok <- isTrue c X.env (eval c X.env);pure (ForInStep.yield ok) else pure (ForInStep.yield r)) (TP X pins σ Q) X.xe s
def Pz:TT:=λ_ H Q=>Q true H
theorem EZ:PTs X [] Pz:=λ_ _ _ H _ I h=>wpAny_tests_nil ⟨H,I,h⟩
theorem IK {c:Expr} {t:TT} (h:PT X c t):PTs X [c] t:=λpins s σ H Q I q=>wpAny_tests_one (h pins s σ H Q I q)

theorem Mj {prog:Program} {w:World} {A:Around} {R:Result->Shared->Prop} {s:Shared} {elt target iter:Expr} {ifs:List Expr} {scope:Scope} {pos:Pos} {it acc:Value} {env:Env} (I:Nat->Shared->Prop)
  (turn:∀ n s,I n s->wpAny (model prog w) A (pyNext it) (λr s₁=>match r with
   |none=>R (.ok .next) s₁
   |some v=>wpAny (model prog w) A (letOwnedTupleGo target it v) (λ_ s₁'=>wpAny (model prog w) A (assign target env v) (λ_ s₂ =>
     wpAny (model prog w) A (forIn ifs true λc r=>if r=true then do let ok <- isTrue c env (eval c env);pure (ForInStep.yield ok) else pure (ForInStep.yield r)) (λok s₃ =>
      if ok=true then wpAny (model prog w) A (eval elt env) (λx s₄ =>
       wpAny (model prog w) A (call (.builtin "list.append") [acc,x]) (λ_ s₅=>∃ m,m<n/\I m s₅) (notedBy (model prog w) A env λe s'=>R (.error e) s') s₄) (notedBy (model prog w) A env λe s'=>R (.error e) s') s₃
      else ∃ m,m<n/\I m s₃) (notedBy (model prog w) A env λe s'=>R (.error e) s') s₂) (notedBy (model prog w) A env λe s'=>R (.error e) s') s₁') (notedBy (model prog w) A env λe s'=>R (.error e) s') s₁) (notedBy (model prog w) A env λe s'=>R (.error e) s') s)
  (n:Nat) (h:I n s) :
  codeAny (model prog w) A (.compLoop (.ListComp elt [⟨target,iter,ifs,0⟩] scope pos) 0 it acc env) R s:=by
 refine codeAny_loop rfl I (λn s hI=>?_) n h
 show wpAny _ A ((compTurn (.ListComp elt [⟨target,iter,ifs,0⟩] scope pos) 0 it acc env).onRaise (λx=>do noteFrame x env;theTreesLotGoes x)) _ _ s
 refine wpAny_noted ?_
 rw [compTurn_list]
 refine wpAny_bind (wpAny_standAt (wpAny_bind (wpAny_mono (turn n s hI) (λr s₁ h₁=>?_) λ_ _ h'=>h')))
 cases r with
 |none=>exact wpAny_pure h₁
 |some v =>
  refine wpAny_bind (wpAny_mono h₁ (λ_ s₁' h₁'=>?_) λ_ _ h'=>h')
  refine wpAny_bind (wpAny_mono h₁' (λ_ s₂ h₂=>wpAny_bind (wpAny_mono h₂ (λok s₃ h₃=>?_) λ_ _ h'=>h')) λ_ _ h'=>h')
  cases ok with
  |false=>exact wpAny_pure ⟨rfl,h₃⟩
  |true =>
   exact wpAny_bind (wpAny_bind (wpAny_mono h₃ (λx s₄ h₄=>wpAny_bind (wpAny_mono h₄ (λ_ s₅ h₅=>wpAny_pure (wpAny_pure ⟨rfl,h₅⟩)) λ_ _ h'=>h')) λ_ _ h'=>h'))

def FI (sel:List (Option Nat)) (g:TG) (tt:TT) (te:TE) (σ:St) (J:It) (W:Nat->Nat->List V->Hp->Prop) (Q:List V->Hp->Prop):Prop :=
 ∀ i m ys H,W i m ys H->(J.stop i H/\Q ys H) \/
  (J.go i H/\ys.length<sizeLine/\∃ N:List V->Hp->Prop,(∀ ys' H',N ys' H'->∃ m',m'<m/\W (i+1) m' ys' H') /\
   ∀ x H',J.yld i H x H'->g x (Ft sel σ) H' λσ2 H2=>tt σ2 H2 λb H3=>if b=true then te σ2 H3 λy H4=>N (ys++[y]) H4 else N ys H3)

def JQ (sel:List (Option Nat)) (g:TG):Prop:=∀ (σ:St) (x:V) (H:Hp) (Q:St->Hp->Prop),g x (Ft sel σ) H Q->g x (Ft sel σ) H λσ2 H2=>(∀ (i:Nat) v,(Ft sel σ)[i]?=some (some v)->σ2[i]?=some (some v))/\Q σ2 H2
theorem SM {sel:List (Option Nat)} {i:Nat} {σ:St} {v:V} (h:sel[i]?=some none):¬ (Ft sel σ)[i]?=some (some v):=λe=>by
 unfold Ft at e
 rw [Z1,h] at e
 cases e
theorem HA {sel:List (Option Nat)} {i:Nat} {σ σ2:St} {x:V} (h:sel[i]?=some none) (k:∀ (j:Nat) v,(Ft sel σ)[j]?=some (some v)->σ2[j]?=some (some v)) :
  ∀ (j:Nat) v,(Ft sel σ)[j]?=some (some v)->(σ2.set i (some x))[j]?=some (some v):=λj v e=>by
 by_cases hj:i=j
 ·subst hj;exact absurd e (SM h)
 ·rw [W7 hj];exact k j v e
theorem Dz {sel:List (Option Nat)} {i:Nat} (h:sel[i]?=some none):JQ sel (Ir i):=λ_ _ _ _ q=>⟨HA h λ_ _ e=>e,q⟩
theorem gk_two {K:J0} {sel:List (Option Nat)} {i j:Nat} (h:sel[i]?=some none) (h':sel[j]?=some none):JQ sel (Ur K 2 (Gy (Ir i) (Gy (Ir j) Ma))):=λσ x H Q q=>by
 obtain ⟨a,xs,e1,e2,e3,v,r,e4,v2,r2,e5,e6,q⟩:=q
 exact ⟨a,xs,e1,e2,e3,v,r,e4,v2,r2,e5,e6,HA h' (HA h λ_ _ e=>e),q⟩

theorem Ny {elt tg iter:Expr} {ifs:List Expr} {scope:Scope} {pos:Pos} {N':List Str} {sel:List (Option Nat)} {g:TG} {tt:TT} {te:TE} {it:Addr} {fp:List Addr} {tn:Nat->Heap->Prop} {J:It}
  {W:Nat->Nat->List V->Hp->Prop} {Qe:List V->Hp->Prop} {RR:Value->Addr->Result->Shared->Prop} {E:Value->Shared->Prop} {m0:Nat}
  (hc:X.calm=true) (hk:scope.kind=.function) (k:QE X scope N' sel) (I:Ax X pins σ H s) (T:Kc X.prog X.w X.K tg J fp it tn) (st:tn 0 s.heap) (f2:∀ b∈fp,EE X pins H b)
  (hb:∀ (C:Addr) (s:Shared) (H:Hp) (fp:List Addr) (pn:List (Addr×Obj)),PG (BW X N' scope C s H fp pn) tg g/\PTs (BW X N' scope C s H fp pn) ifs tt/\PE (BW X N' scope C s H fp pn) elt te)
  (hgk:JQ sel g) (w0:W 0 m0 [] H) (turn:FI sel g tt te σ J W Qe)
  (hRR:∀ (D C:Addr) (s':Shared) (H':Hp) (ys:List V) (m:Str->Option Value),H' D=none->Ax X pins σ (upd H' D (.lst ys)) s'->s'.heap.Ns C m->EE X pins (upd H' D (.lst ys)) C->Qe ys H'->RR (.ref D) C (.ok .next) s') :
  wpAny (model X.prog X.w) X.A (newList []) (λacc s₃=>wpAny (model X.prog X.w) X.A (newFunctionEnv scope X.env.globals (Fo X.env.cells scope.names []) [] X.env.qual none .none (some X.env)) (λcenv s₄ =>
   codeAny (model X.prog X.w) X.A (.compStart (.ListComp elt [⟨tg,iter,ifs,0⟩] scope pos) 0 (.ref it) acc { cenv with scope:=relabel scope X.env }) (RR acc cenv.locals) s₄) E s₃) E s:=by
 refine wpAny_newObj_type (wpAny_newFunctionEnv k.nc (by intro y hy;simp at hy) (λh₁ hns₁ hsb₁=>?_) hk)
 dsimp only at hns₁ hsb₁ |-
 generalize hH2:s.heap.push { cls:=.type "list",dict:=none,data:=.seq ([]:List Value).toArray }=H2 at hns₁ hsb₁ |-
 have hC:H2.objs.size=s.heap.objs.size+1:=by rw [<- hH2,Heap.size_push]
 have hDC:s.heap.objs.size≠H2.objs.size:=by rw [hC];exact Y1 (B8 _)
 have hCle:s.heap.objs.size<=H2.objs.size:=by rw [hC];exact C3 _
 have below:∀ b,b<s.heap.objs.size->b≠H2.objs.size/\b≠s.heap.objs.size:=λb hb=>⟨by rw [hC];exact Y1 (Nat.lt_succ_of_lt hb),Y1 hb⟩
 have old:∀ b o,s.heap.get? b=some o->h₁.get? b=some o:=λb o e=>hsb₁.extBut b o (below b (Heap.lt_size e)).1 (Heap.get?_push_of_some _ (hH2▸Heap.get?_push_of_some _ e))
 have hacc:h₁.get? s.heap.objs.size=some { cls:=.type "list",data:=.seq ([]:List Value).toArray }:=hsb₁.extBut _ _ hDC (Heap.get?_push_of_some _ (hH2▸Heap.get?_push_size _ rfl))
 have hfl:∀ b∈fp,b<s.heap.objs.size:=λb hb=>let ⟨_,e,_⟩:=T.obj 0 _ st b hb;Heap.lt_size e
 have hst₁:tn 0 h₁:=T.keep _ _ _ st λb _ o e=>old b o e
 generalize hDe:s.heap.objs.size=D at hDC hCle below hacc hfl |-
 generalize hCe:H2.objs.size=C at hns₁ hsb₁ hC hDC hCle below |-
 have fD:∀ {H':Hp},H' D=none->EE X pins H' D:=λhn=>I.fpOk (by rw [hDe];exact V0 _) hn
 have fC:∀ {H':Hp},H' C=none->EE X pins H' C:=λhn=>I.fpOk (by rw [hDe];exact hCle) hn
 have HD:H D=none:=I.hok.fresh (by rw [hDe];exact V0 _)
 -- the pin of the new list,in the block
 have pinD:∀ {o:Obj} {σ':St} {H':Hp} {s':Shared} {ps:List (Addr×Obj)},Ax (BW X N' scope C s H fp (X.pn++pins)) ps σ' H' s'->s'.heap.get? D=some o->H' D=none->(∀ v,o.data≠.cell v) ->
   Ax (BW X N' scope C s H fp (X.pn++pins)) (ps++[(D,o)]) σ' H' s':=λ{o σ' H' s' ps} J1 e n d=>by
  refine J1.pins_of λp hp=>?_
  rcases X0.mp hp with hp | hp
  ·exact J1.pin p (S0 _ hp)
  ·rw [M0.mp hp]
   refine ⟨e,n,hDC,λz=>?_,d⟩
   rcases K0.mp (I.stkSub D z) with z | z
   ·exact (fD HD).2.1 z
   ·exact (fD HD).2.2.1 z
 have loop:∀ s₃:Shared,s₃={ s with heap:=h₁,toks:=s.toks+([]:List (Str×Value)).length } ->
   codeAny (model X.prog X.w) X.A (.compLoop (.ListComp elt [⟨tg,iter,ifs,0⟩] scope pos) 0 (.ref it) (.ref D) (compEnvC scope (Fo X.env.cells scope.names []) C X.env)) (RR (.ref D) C) s₃:=by
  rintro s₃ rfl
  have I4:Ax (BW X N' scope C s H fp (X.pn++pins)) [] (Ft sel σ) H { s with heap:=h₁,toks:=s.toks+([]:List (Str×Value)).length } :=
   Rq I hk k (by rw [hDe];exact hCle) f2 (λb hb=>by rw [hDe];exact hfl b hb) hns₁ old
  refine Mj (λn s'=>∃ i H' ys its nn,Ax (BW X N' scope C s H fp (X.pn++pins)) [] (Ft sel σ) H' s'/\tn i s'.heap/\(∀ b∈fp,H' b=none)/\H' D=none /\
   s'.heap.get? D=some { cls:=.type "list",data:=.seq (N7 its) nn }/\AL ys its/\ys.length<=sizeLine/\W i n ys H') ?_ m0 ⟨0,H,[],[],0,I4,hst₁,λb hb=>(f2 b hb).1,HD,hacc,.nil,N1 _,w0⟩
  rintro n s3 ⟨i,H3,ys,its,nn,I3,st3,fr3,hD3,o3,v3,z3,w3⟩
  have I3':=pinD I3 o3 hD3 (λv z=>by cases z)
  have stat:∀ {ps:List (Addr×Obj)} {H':Hp},(∀ p∈ps,p.1=D)->(∀ b∈fp,H' b=none)->∀ b∈fp,EE (BW X N' scope C s H fp (X.pn++pins)) ps H' b:=λ{ps H'} hps hn b hb=>by
   obtain ⟨a0,a1,a2,a3,a4,a5⟩:=f2 b hb
   refine ⟨hn b hb,Y1 (V1 (hfl b hb) hCle),λz=>?_,.inl hb,λx c h=>a4 x c ((Ei I k).2 x c h).1,λp hp=>?_⟩
   ·rcases K0.mp (I.stkSub b z) with z | z
    ·exact a1 z
    ·exact a2 z
   ·rcases X0.mp hp with hp | hp
    ·exact a5 p hp
    ·rw [hps p hp]
     exact (Y1 (hfl b hb)).symm
  rcases turn i n ys H3 w3 with ⟨stop,qe⟩ | ⟨go,hz,Nn,hNn,step⟩
  ·refine noE (Bt (T.done (BW X N' scope C s H fp (X.pn++pins)) rfl rfl rfl hc i _ s3 _ H3 _ I3' (stat (λp hp=>by have:p∈[]++[(D,_)]:=hp;rw [D5] at this;rw [M0.mp this]) fr3) st3 stop) λr s4 ⟨hr,J4⟩=>?_)
   subst hr
   obtain ⟨m4,n4,_⟩:=id J4.loc
   have o4:=(J4.pin (D,_) (S0 _ (S0 _ (M0.mpr rfl)))).1
   have hC4:H3 C=none:=J4.free
   have hDC':C≠D:=Ne.symm hDC
   refine hRR D C s4 H3 ys m4 hD3 (I.call' (ch:=fp) J4.os ?_ ?_ J4.bare (λb hb=>?_)) n4 (fC (by rw [Ap hDC'];exact hC4)) qe
   ·have u:=J4.base
    have nD:∀ b o,s.heap.get? b=some o->b≠D:=λb o e=>by rw [<- hDe];exact Y1 (Heap.lt_size e)
    have nD2:∀ b o,H b=some o->b≠D:=λb o e=>AY e HD
    exact ⟨u.keep,u.slot,λb o e n hx=>by rw [Ap (nD b o e)];exact u.free b o e n hx,u.there,λb xs e=>by rw [Ap (nD2 b _ e)];exact u.tups b xs e,
     λb o w e=>by rw [Ap (nD2 b _ e)];exact u.frzs b o w e,λb ps e=>by rw [Ap (nD2 b _ e)];exact u.tbls b ps e⟩
   ·intro b o e
    by_cases hbD:b=D
    ·subst hbD
     rw [Ad] at e
     cases e
     exact ⟨z3,its,nn,v3,o4⟩
    ·rw [Ap hbD] at e
     exact (J4.hok b o e).stay (λc u _ q=>q) (λc q=>by rw [Ap (AY q hD3)];exact q) λc xs q=>by rw [Ap (AY q hD3)];exact q
   ·obtain ⟨a0,a1,a2,a3,a4,a5⟩:=f2 b hb
    exact ⟨a3,a1,a4,a5⟩
  ·refine noE (Bt (T.item (BW X N' scope C s H fp (X.pn++pins)) rfl rfl rfl hc i _ s3 _ H3 _ I3' (stat (λp hp=>by have:p∈[]++[(D,_)]:=hp;rw [D5] at this;rw [M0.mp this]) fr3) st3 go) λr s4 ⟨u,hr,h4⟩=>?_)
   subst hr
   refine noE (Bt h4 λ_ s5 ⟨x,H5,I5,r5,y5,st5,fr5⟩=>?_)
   obtain ⟨hb1,hb2,hb3⟩:=hb C s H fp (X.pn++pins)
   have I5':=I5.pinned (stat (λp hp=>by have:p∈[]++[(D,_)]:=hp;rw [D5] at this;rw [M0.mp this]) fr5) (T.obj _ _ st5)
   refine noE (Bt (hb1 _ s5 _ H5 x u _ I5' r5 (hgk _ _ _ _ (step x H5 y5))) λ_ s6 ⟨σ6,H6,I6,hw6,q6⟩=>?_)
   refine noE (Bt (hb2 _ s6 σ6 H6 _ I6 q6) λok s7 ⟨H7,I7,q7⟩=>?_)
   -- what stands behind the turn
   have back:∀ {σ8:St} {H8:Hp} {s8:Shared},Ax (BW X N' scope C s H fp (X.pn++pins)) (([]++[(D,{ cls:=.type "list",data:=.seq (N7 its) nn })])++Jl fp s5.heap) σ8 H8 s8 ->
     tn (i+1) s8.heap/\(∀ b∈fp,H8 b=none)/\H8 D=none/\s8.heap.get? D=some { cls:=.type "list",data:=.seq (N7 its) nn }:=λ{σ8 H8 s8} J8=>by
    refine ⟨T.keep _ _ _ st5 λb hb o e=>(J8.pin (b,o) (S0 _ (S0 _ (Ff hb e)))).1,λb hb=>?_,?_,?_⟩
    ·obtain ⟨o,e,d⟩:=T.obj _ _ st5 b hb
     exact (J8.pin (b,o) (S0 _ (S0 _ (Ff hb e)))).2.1
    ·exact (J8.pin (D,_) (S0 _ (p0 _ (S0 _ (M0.mpr rfl))))).2.1
    ·exact (J8.pin (D,_) (S0 _ (p0 _ (S0 _ (M0.mpr rfl))))).1
   have weak:∀ {H8:Hp} {s8:Shared} {ps:List (Addr×Obj)},Ax (BW X N' scope C s H fp (X.pn++pins)) ps σ6 H8 s8->Ax (BW X N' scope C s H fp (X.pn++pins)) [] (Ft sel σ) H8 s8:=λ{H8 s8 ps} J8 =>
    (J8.pins_of (pins':=[]) λp hp=>by simp at hp).weak (by rw [J8.len];exact I4.len) hw6
   cases ok with
   |false =>
    obtain ⟨st8,fr8,hD8,o8⟩:=back I7
    obtain ⟨m',hm,w8⟩:=hNn ys H7 q7
    exact ⟨m',hm,i+1,H7,ys,its,nn,weak I7,st8,fr8,hD8,o8,v3,z3,w8⟩
   |true =>
    refine noE (Bt (hb3 _ s7 σ6 H7 _ I7 q7) λy s8 ⟨yv,H8,I8,ry,q8⟩=>?_)
    obtain ⟨st8,fr8,hD8,o8⟩:=back I8
    obtain ⟨m',hm,w8⟩:=hNn _ _ q8
    have hl:=v3.length
    refine call_meets F.slot_list_append ⟨_,o8,rfl⟩ F.entry_list_append (F.args_list_append_2 _ _) (PySem.list_append D (N7 its) nn y (by rw [W0];lia)) ⟨o8,?_⟩
    have q:=PySem.IsL.update o8 (λz=>z.push y)
    rw [show (N7 its).push y=(its++[y]).toArray by simp] at q
    have kp:∀ b o,b≠D->s8.heap.get? b=some o->(s8.heap.update D (Obj.mapSeq λz=>z.push y)).get? b=some o:=λb o hb e=>(Heap.get?_update_other s8.heap (Obj.mapSeq λz=>z.push y) (Ne.symm hb)).trans e
    refine ⟨m',hm,i+1,H8,ys++[yv],its++[y],_,(weak I8).turned (t':=s8.toks) kp hD8 hDC (.inr (by show s.heap.objs.size<=D;rw [hDe];exact V0 _)) (λx c h=>(fD HD).2.2.2.2.1 x c ((Ei I k).2 x c h).1) (λp hp=>(fD HD).2.2.2.2.2 p (by have:p∈(X.pn++pins)++[]:=hp;rwa [L1] at this)),
     T.keep _ _ _ st8 (λb hb o e=>kp b o (Y1 (hfl b hb)) e),fr8,hD8,q,v3.append (.cons ry .nil),?_,w8⟩
    rw [B0,U7]
    lia
 exact codeAny_compStart_list (loop _ rfl) (T.self _ 0 _ _ _ hst₁ (loop _ rfl))

def tLc (sel:List (Option Nat)) (wi:TI) (g:TG) (tt:TT) (te:TE):TE:=λσ H Q=>wi σ H λJ H1=>∃ W:Nat->Nat->List V->Hp->Prop,(∃ m,W 0 m [] H1) /\
 FI sel g tt te σ J W λys H=>∀ D,H D=none->Q (.ref D) (upd H D (.lst ys))
theorem Qb {elt tg iter:Expr} {ifs:List Expr} {scope:Scope} {pos:Pos} {wi:TI} {N':List Str} {sel:List (Option Nat)} {g:TG} {tt:TT} {te:TE}
  (hc:X.calm=true) (hk:scope.kind=.function) (chk:IP scope X.env.scope X.N N' sel=true) (hi:PI X tg iter wi) (hgk:JQ sel g)
  (hb:∀ (C:Addr) (s:Shared) (H:Hp) (fp:List Addr) (pn:List (Addr×Obj)),PG (BW X N' scope C s H fp pn) tg g/\PTs (BW X N' scope C s H fp pn) ifs tt/\PE (BW X N' scope C s H fp pn) elt te)
  (hs:∀ x,foldedSetIterable iter X.env x=pure x:=by intro _;rfl):PE X (.ListComp elt [⟨tg,iter,ifs,0⟩] scope pos) (tLc sel wi g tt te):=by
 intro pins s σ H Q I h
 have k:=UP chk
 rw [eval_ListComp]
 refine wpAny_comprehension_free (use:=none) rfl hs (Fn (Ei I k).1) hk k.lo (Bt (hi pins s σ H _ I h) λv s1 h1=>Bt h1 λitv s2 h2=>?_)
 obtain ⟨it,fp,tn,J,H2,e,I2,T,st2,f2,W,⟨m0,w0⟩,turn⟩:=h2
 subst e
 refine Ny (RR:=λacc C=>compPost (model X.prog X.w) X.A X.xe none (EP X pins σ Q) acc C) hc hk k I2 T st2 f2 hb hgk w0 turn ?_
 intro D C s' H' ys m hD I' hns fC q
 refine ⟨m,hns,λh' hs'=>⟨.ref D,_,I'.turned (t':=s'.toks) (λb o hb e=>(hs'.2 b hb).trans e) fC.1 fC.2.1 fC.2.2.2.1 fC.2.2.2.2.1 fC.2.2.2.2.2,rfl,q D hD⟩⟩

theorem Hi {K:J0} {a:Addr} {xs:List V} {sel:List (Option Nat)} {g:TG} {tt:TT} {te:TE} {σ:St} {H:Hp} {Qe:List V->Hp->Prop} (Pv:Nat->List V->Hp->Prop) (h0:Pv 0 [] H)
  (hl:∀ i ys H,i<=xs.length->Pv i ys H->Aw K H a xs/\ys.length<=i) (hz:xs.length<=sizeLine)
  (hs:∀ i x ys H,xs[i]?=some x->Pv i ys H->g x (Ft sel σ) H λσ2 H2=>tt σ2 H2 λb H3=>if b=true then te σ2 H3 λy H4=>Pv (i+1) (ys++[y]) H4 else Pv (i+1) ys H3)
  (hd:∀ ys H,Pv xs.length ys H->Qe ys H):∃ W:Nat->Nat->List V->Hp->Prop,(∃ m,W 0 m [] H)/\FI sel g tt te σ (Itl K a) W Qe:=by
 refine ⟨λi m ys H=>m=xs.length-i/\i<=xs.length/\Pv i ys H,⟨_,rfl,N1 _,h0⟩,?_⟩
 rintro i m ys H ⟨rfl,hi,p⟩
 obtain ⟨hS,hy⟩:=hl i ys H hi p
 by_cases e:i=xs.length
 ·subst e
  exact .inl ⟨⟨xs,hS,V0 _⟩,hd _ _ p⟩
 ·have hlt:i<xs.length:=r6 hi e
  refine .inr ⟨⟨xs,xs[i],hS,by simp [hlt]⟩,by lia,Pv (i+1),λys' H' p'=>⟨xs.length-(i+1),by lia,rfl,hlt,p'⟩,?_⟩
  rintro x H' ⟨rfl,hx⟩
  exact hs i x ys H' (hx xs hS) p
theorem lc_tup {K:J0} {a:Addr} {xs:List V} {sel:List (Option Nat)} {g:TG} {tt:TT} {te:TE} {σ:St} {H:Hp} {Qe:List V->Hp->Prop} (Pv:Nat->List V->Hp->Prop) (h0:Pv 0 [] H)
  (hl:∀ i ys H,i<=xs.length->Pv i ys H->Cn K H a xs/\ys.length<=i) (hz:xs.length<=sizeLine)
  (hs:∀ i x ys H,xs[i]?=some x->Pv i ys H->g x (Ft sel σ) H λσ2 H2=>tt σ2 H2 λb H3=>if b=true then te σ2 H3 λy H4=>Pv (i+1) (ys++[y]) H4 else Pv (i+1) ys H3)
  (hd:∀ ys H,Pv xs.length ys H->Qe ys H):∃ W:Nat->Nat->List V->Hp->Prop,(∃ m,W 0 m [] H)/\FI sel g tt te σ (Itt K a) W Qe:=by
 refine ⟨λi m ys H=>m=xs.length-i/\i<=xs.length/\Pv i ys H,⟨_,rfl,N1 _,h0⟩,?_⟩
 rintro i m ys H ⟨rfl,hi,p⟩
 obtain ⟨hS,hy⟩:=hl i ys H hi p
 by_cases e:i=xs.length
 ·subst e
  exact .inl ⟨⟨xs,hS,V0 _⟩,hd _ _ p⟩
 ·have hlt:i<xs.length:=r6 hi e
  refine .inr ⟨⟨xs,xs[i],hS,by simp [hlt]⟩,by lia,Pv (i+1),λys' H' p'=>⟨xs.length-(i+1),by lia,rfl,hlt,p'⟩,?_⟩
  rintro x H' ⟨rfl,hx⟩
  exact hs i x ys H' (hx xs hS) p
def Lh (i:Nat) (sel:List (Option Nat)) (wi:TI) (g:TG) (tt:TT) (te:TE):TS:=λD σ H=>wi σ H λJ H1=>∃ W:Nat->Nat->List V->Hp->Prop,(∃ m,W 0 m [] H1) /\
 FI sel g tt te σ J W λys H=>∀ l,H l=none->D.nx (σ.set i (some (.ref l))) (upd H l (.lst ys))
theorem Ec {i:Nat} {x:Str} {elt tg iter:Expr} {ifs:List Expr} {scope:Scope} {pos pos' spos:Pos} {wi:TI} {N':List Str} {sel:List (Option Nat)} {g:TG} {tt:TT} {te:TE}
  (hN:X.N.Nodup) (hi':X.N[i]?=some x) (hx:Loc X.env.scope x)
  (hc:X.calm=true) (hk:scope.kind=.function) (chk:IP scope X.env.scope X.N N' sel=true) (hi:PI X tg iter wi) (hgk:JQ sel g)
  (hb:∀ (C:Addr) (s:Shared) (H:Hp) (fp:List Addr) (pn:List (Addr×Obj)),PG (BW X N' scope C s H fp pn) tg g/\PTs (BW X N' scope C s H fp pn) ifs tt/\PE (BW X N' scope C s H fp pn) elt te)
  (hsw:swapsWith (.ListComp elt [⟨tg,iter,ifs,0⟩] scope pos) (some (.Name x pos')) spos.line X.env=pure true)
  (hs:∀ x,foldedSetIterable iter X.env x=pure x:=by intro _;rfl) (hf:X.fn x=true\/X.env.scope.names.lookup x=some .local:=by first | exact .inl rfl | exact .inr rfl | assumption) :
  PS X (.Assign [.Name x pos'] (.ListComp elt [⟨tg,iter,ifs,0⟩] scope pos) spos) (Lh i sel wi g tt te):=by
 intro pins s σ H Dn I h
 have k:=UP chk
 rw [exec_Assign_Name_used _ _ _ _ hsw]
 refine wpAny_bind (wpAny_standAt (wpAny_bind ?_))
 show wpAny _ X.A (do let _ <- comprehension (.ListComp elt [⟨tg,iter,ifs,0⟩] scope pos) scope X.env _ (newList []) false (eval iter X.env) (some (assign (.Name x pos') X.env))) _ _ s
 refine wpAny_bind (wpAny_mono (wpAny_comprehension_free (use:=some (assign (.Name x pos') X.env)) (Q:=λ_ s'=>SP X pins Dn .next s') rfl hs (Fn (Ei I k).1) hk k.lo
  (Bt (hi pins s σ H _ I h) λv s1 h1=>Bt h1 λitv s2 h2=>?_)) (λ_ s' hq=>wpAny_pure (wpAny_pure hq)) λ_ _ e=>e)
 obtain ⟨it,fp,tn,J,H2,e,I2,T,st2,f2,W,⟨m0,w0⟩,turn⟩:=h2
 subst e
 refine Ny (RR:=λacc C=>compPost (model X.prog X.w) X.A X.xe (some (assign (.Name x pos') X.env)) (λ_ s'=>SP X pins Dn .next s') acc C) hc hk k I2 T st2 f2 hb hgk w0 turn ?_
 intro D C s' H' ys m hD I' hns fC q
 obtain ⟨oC,es,ep,eC,dC,rC⟩:=id hns
 have I'':Ax X (pins++[(C,oC)]) σ (upd H' D (.lst ys)) s':=I'.pins_of λp hp=>by
  rcases X0.mp hp with hp | hp
  ·exact I'.pin p (S0 _ hp)
  ·rw [M0.mp hp]
   exact ⟨eC,fC.1,fC.2.1,fC.2.2.1,λv z=>by rw [dC] at z;cases z⟩
 refine Bt (AK (pos:=pos') hN hi' hx hf (pins++[(C,oC)]) s' σ _ (.ref D) (.ref D) (λσ2 H2=>σ2=σ.set i (some (.ref D))/\H2=upd H' D (.lst ys)) I'' rfl ⟨rfl,rfl⟩) λ_ s9 h9=>?_
 obtain ⟨σ9,H9,I9,rfl,rfl⟩:=h9
 have eC9:=(I9.pin (C,oC) (S0 _ (S0 _ (M0.mpr rfl)))).1
 refine ⟨m,⟨oC,es,ep,eC9,dC,rC⟩,λh' hs'=>?_⟩
 exact ⟨_,_,(I9.unpinned).turned (t':=s9.toks) (λb o hb e=>(hs'.2 b hb).trans e) fC.1 fC.2.1 fC.2.2.2.1 fC.2.2.2.2.1 fC.2.2.2.2.2,q D hD⟩
end
section
variable {X:Cx} {tg:Expr} {a b:Expr} {ta tb:TE} {pos:Pos}

def tMid (t u:TS):TS:=λD σ H=>∃ M:St->Hp->Prop,t { D with nx:=M } σ H/\∀ σ' H',M σ' H'->u D σ' H'
theorem AB {st:Stmt} {Cf:List Stmt} {t u:TS} (h1:PS X st t) (h2:Ix X Cf u):Ix X (st::Cf) (tMid t u):=by
 intro pins s σ H D I h
 obtain ⟨M,hM,hu⟩:=h
 refine wpAny_execs_cons (Bt (h1 pins s σ H { D with nx:=M } I hM) λf s1 q=>?_)
 cases f with
 |next =>
  obtain ⟨σ',H',I',q⟩:=q
  exact h2 pins s1 σ' H' D I' (hu _ _ q)
 |ret v=>exact q
 |brk=>exact q
 |cont=>exact q

def Its (x:Str):It:=⟨λi _=>i<x.length,λi H v H'=>H'=H/\∃ c,x.cps.toList[i]?=some c/\v=.str ⟨#[c]⟩,λi _=>x.length<=i⟩
theorem QI {P:Program} {w:World} {K:J0} {tg:Expr} (x:Str) (t:Tok) (it:Addr):Kc P w K tg (Its x) [it] it (λi h=>h.IsStrIter it "str_ascii_iterator" x t i) where
 mem:=by simp
 obj:=λi h st b hb=>by
  have e:b=it:=by simpa using hb
  subst e
  obtain ⟨o,e,c,d⟩:=st
  exact ⟨o,e,λv z=>by rw [d] at z;cases z⟩
 keep:=λi h h' st k=>let ⟨o,ho,r⟩:=st;⟨o,k it (by simp) o ho,r⟩
 item:=by
  intro X hP hw hK hc i pins s σ H E I hf st hg
  subst hP hw hK
  have hlt:i<x.cps.size:=hg
  obtain ⟨f0,f1,f2,f3,f4,f5⟩:=hf it (by simp)
  refine wpAny_pyNext_ascii_item st (c:=x.cps[i]) (by simp [hlt]) λh' st' sb=>?_
  have I1:Ax X pins σ H { s with heap:=h',toks:=s.toks+1 }:=I.turned (t':=s.toks+1) (λb o hb e=>(sb.2 b hb).trans e) f0 f1 f3 f4 f5
  obtain ⟨o,e,c,d⟩:=id st'
  exact ⟨_,rfl,NH (s:={ s with heap:=h',toks:=s.toks+1 }) e c d (by kd_p) ⟨.str ⟨#[x.cps[i]]⟩,H,I1,⟨_,rfl⟩,⟨rfl,x.cps[i],by simp [hlt],rfl⟩,st',λb hb=>(hf b hb).1⟩⟩
 done:=by
  intro X hP hw hK hc i pins s σ H E I hf st hg
  subst hP hw hK
  have hle:x.cps.size<=i:=hg
  obtain ⟨f0,f1,f2,f3,f4,f5⟩:=hf it (by simp)
  exact wpAny_pyNext_ascii_end (I.ok.hd hc) st (by simp;lia) λh' eb=>⟨rfl,I.turned (t':=s.toks) (λb o hb e=>eb b o hb e) f0 f1 f3 f4 f5⟩
 self:=λ_ _ _ _ _ st h=>wpAny_pyIter_striter_ascii st h
theorem QH {P:Program} {w:World} {K:J0} {tg:Expr} (x:Str) (t:Tok) (it:Addr):Kc P w K tg (Its x) [it] it (λi h=>h.IsStrIter it "str_iterator" x t i) where
 mem:=by simp
 obj:=λi h st b hb=>by
  have e:b=it:=by simpa using hb
  subst e
  obtain ⟨o,e,c,d⟩:=st
  exact ⟨o,e,λv z=>by rw [d] at z;cases z⟩
 keep:=λi h h' st k=>let ⟨o,ho,r⟩:=st;⟨o,k it (by simp) o ho,r⟩
 item:=by
  intro X hP hw hK hc i pins s σ H E I hf st hg
  subst hP hw hK
  have hlt:i<x.cps.size:=hg
  obtain ⟨f0,f1,f2,f3,f4,f5⟩:=hf it (by simp)
  refine wpAny_pyNext_wide_item st (c:=x.cps[i]) (by simp [hlt]) λh' st' sb=>?_
  have I1:Ax X pins σ H { s with heap:=h',toks:=s.toks+1 }:=I.turned (t':=s.toks+1) (λb o hb e=>(sb.2 b hb).trans e) f0 f1 f3 f4 f5
  obtain ⟨o,e,c,d⟩:=id st'
  exact ⟨_,rfl,NH (s:={ s with heap:=h',toks:=s.toks+1 }) e c d (by kd_p) ⟨.str ⟨#[x.cps[i]]⟩,H,I1,⟨_,rfl⟩,⟨rfl,x.cps[i],by simp [hlt],rfl⟩,st',λb hb=>(hf b hb).1⟩⟩
 done:=by
  intro X hP hw hK hc i pins s σ H E I hf st hg
  subst hP hw hK
  have hle:x.cps.size<=i:=hg
  obtain ⟨f0,f1,f2,f3,f4,f5⟩:=hf it (by simp)
  exact wpAny_pyNext_wide_end (I.ok.hd hc) st (by simp;lia) λh' eb=>⟨rfl,I.turned (t':=s.toks) (λb o hb e=>eb b o hb e) f0 f1 f3 f4 f5⟩
 self:=λ_ _ _ _ _ st h=>wpAny_pyIter_striter_wide st h
def iStr (tl:TE):TI:=λσ H R=>tl σ H λx H1=>∃ z,x=.str z/\R (Its z) H1
theorem OE {l:Expr} {tl:TE} (hl:PE X l tl):PI X tg l (iStr tl):=by
 intro pins s σ H R I h
 refine Bt (hl pins s σ H _ I h) λv s1 ⟨x,H1,I1,r1,q1⟩=>?_
 obtain ⟨z,e,q⟩:=q1
 subst e
 obtain ⟨t,rfl⟩:=r1
 have fp:∀ b∈[s1.heap.objs.size],EE X pins H1 b:=λb hb=>by
  have e:b=s1.heap.objs.size:=by simpa using hb
  subst e
  exact I1.fpOk (V0 _) (I1.hok.fresh (V0 _))
 cases ha:z.cps.all (·<128)
 ·exact wpAny_pyIter_wide ha ⟨s1.heap.objs.size,[s1.heap.objs.size],_,_,H1,rfl,I1.kept (t':=s1.toks) λb o e=>Heap.get?_push_of_some _ e,QH z t _,⟨_,Heap.get?_push_size _ rfl,rfl,rfl⟩,fp,q⟩
 ·exact wpAny_pyIter_ascii ha ⟨s1.heap.objs.size,[s1.heap.objs.size],_,_,H1,rfl,I1.kept (t':=s1.toks) λb o e=>Heap.get?_push_of_some _ e,QI z t _,⟨_,Heap.get?_push_size _ rfl,rfl,rfl⟩,fp,q⟩
theorem OZ {z:Str} {sel:List (Option Nat)} {g:TG} {tt:TT} {te:TE} {σ:St} {H:Hp} {Qe:List V->Hp->Prop} (Pv:Nat->List V->Hp->Prop) (h0:Pv 0 [] H)
  (hl:∀ i ys H,i<=z.length->Pv i ys H->ys.length<=i) (hz:z.length<=sizeLine)
  (hs:∀ i c ys H,z.cps.toList[i]?=some c->Pv i ys H->g (.str ⟨#[c]⟩) (Ft sel σ) H λσ2 H2=>tt σ2 H2 λb H3=>if b=true then te σ2 H3 λy H4=>Pv (i+1) (ys++[y]) H4 else Pv (i+1) ys H3)
  (hd:∀ ys H,Pv z.length ys H->Qe ys H):∃ W:Nat->Nat->List V->Hp->Prop,(∃ m,W 0 m [] H)/\FI sel g tt te σ (Its z) W Qe:=by
 refine ⟨λi m ys H=>m=z.length-i/\i<=z.length/\Pv i ys H,⟨_,rfl,N1 _,h0⟩,?_⟩
 rintro i m ys H ⟨rfl,hi,p⟩
 have hy:=hl i ys H hi p
 by_cases e:i=z.length
 ·subst e
  exact .inl ⟨V0 _,hd _ _ p⟩
 ·have hlt:i<z.length:=r6 hi e
  refine .inr ⟨hlt,by lia,Pv (i+1),λys' H' p'=>⟨z.length-(i+1),by lia,rfl,hlt,p'⟩,?_⟩
  rintro x H' ⟨rfl,c,hc,rfl⟩
  exact hs i c ys H' hc p

theorem UV {bs:List Bool}:∀ {us:List Value},AL (bs.map V.bl) us->LSm.BoolsAre us bs:=by
 induction bs with
 |nil=>intro us r;cases r;exact .nil
 |cons b bs ih =>
  intro us r
  cases r with
  |cons h t =>
   cases h
   exact .cons b (ih t)
theorem NW (hc:X.calm=true):Ek X (.builtin "all") (λxs H Q=>∃ (p:Addr) (bs:List Bool),xs=[.ref p]/\Aw X.K H p (bs.map V.bl)/\Q (.bl (bs.all id)) H):=by
 intro pins s σ H xs us Q I r h
 obtain ⟨p,bs,rfl,hp,q⟩:=h
 obtain ⟨u,rfl,ru⟩:=Eo r
 cases ru
 obtain ⟨its,rv,pl,hz⟩:=I.list hp
 have hb:=UV rv
 have hl:=pl.isList
 have hlt:p<s.heap.objs.size:=by obtain ⟨_,e,_⟩:=hl;exact Heap.lt_size e
 refine call_all_walk (wpAny_pyIter_list hl ?_)
 refine ⟨s.heap.objs.size,[s.heap.objs.size,p],[s.heap.objs.size],its.toArray.size,_,_,λi=>(bs[i]?).getD true,rfl,Walks.list (A:=X.A.in1) (I.ok.hd hc) _ p (Y1 hlt) its.toArray,
  ⟨⟨_,Heap.get?_push_size _ rfl,rfl,rfl⟩,hl.push _⟩,λi v s' Q' E' hP hQ=>?_,λh' tk hk=>?_⟩
 ·obtain ⟨b,e,rfl⟩:=hb.get i v (by simpa using hP)
  simp only [e,Option.getD_some] at hQ
  exact wpAny_truthy_bool hQ
 ·have e:((K3 its.toArray.size).all λi=>(bs[i]?).getD true)=bs.all id:=by
   rw [W0,hb.length];exact LSm.range_all bs
  rw [e]
  exact ⟨.bl _,H,I.kept (LSm.kept_iter hk),rfl,q⟩
theorem Ci:Ek X (.builtin "isinstance") (λxs H Q=>∃ x n t b,xs=[x,.ty n]/\FM X.K H x t/\W1 X.K t (.type n)=some b/\Q (.bl b) H):=by
 intro pins s σ H xs us Q I r h
 obtain ⟨x,n,t,b,rfl,ty,e,q⟩:=h
 obtain ⟨u,w',rfl,ru,rw'⟩:=RZ r
 cases rw'
 exact Rp I ru ty e λtk=>⟨.bl b,H,I.tok _,rfl,q⟩
theorem FW:ES X (compareOp .LtE) (λx y H Q=>∃ i j,x=.str i/\y=.str j/\Q (.bl (!decide (j.cps.toList<i.cps.toList))) H):=by
 intro pins s σ H x y v u Q I rx ry h
 obtain ⟨i,j,rfl,rfl,q⟩:=h
 obtain ⟨t,rfl⟩:=rx
 obtain ⟨t',rfl⟩:=ry
 exact PySem.P.le_str (Bj I q rfl)

def CG (z:Str) (lo hi:Option Int):Str:=⟨((z.cps.toList.drop (HT.sIx z.length 0 lo)).take (HT.sIx z.length z.length hi-HT.sIx z.length 0 lo)).toArray⟩
theorem PV (n d:Nat) (hd:d<=n) (o:Option Int):HT.sIx n d o<=n:=by
 cases o with
 |none=>exact hd
 |some v=>simp only [HT.sIx];split<;>lia
theorem QX (a b:Nat):sliceRange (a:Int) (b:Int) 1=(K3 (b-a)).map (λk=>a+k):=by
 unfold sliceRange
 simp only [show (1:Int) > 0 by kd_p,if_true]
 have ec:(if (a:Int)<(b:Int) then ((b:Int)-a+1-1) / 1 else 0).toNat=b-a:=by split<;>simp<;>lia
 rw [ec]
 refine List.map_congr_left λk _=>?_
 lia
theorem idx_eq (lo hi:Option Int) (n:Nat):Builtin.Str.strSliceIndices lo hi 1 n=(K3 (HT.sIx n n hi-HT.sIx n 0 lo)).map (λk=>HT.sIx n 0 lo+k):=by
 rw [<- QX]
 unfold Builtin.Str.strSliceIndices
 simp only [show (1:Int) > 0 by kd_p,if_true]
 congr 1
 ·cases lo with
  |none=>rfl
  |some v=>simp only [HT.sIx];split<;>lia
 ·cases hi with
  |none=>rfl
  |some v=>simp only [HT.sIx];split<;>lia
theorem MO (z:Str) (lo hi:Option Int):Txt.slice z lo hi=CG z lo hi:=by
 have ha:=PV z.length 0 (N1 _) lo
 have hb:=PV z.length z.length (V0 _) hi
 unfold Txt.slice CG
 rw [idx_eq]
 generalize HT.sIx z.length 0 lo=a at *
 generalize HT.sIx z.length z.length hi=b at *
 have hl:z.cps.toList.length=z.length:=rfl
 split
 ·rename_i h
  have h':b-a=z.length:=by simpa using h
  apply Str.ext'
  show z.cps=((z.cps.toList.drop a).take (b-a)).toArray
  have h0:a=0\/z.length=0:=by lia
  rcases h0 with h0 | h0
  ·subst h0
   rw [y6,h',<- hl,T2]
  ·have:z.cps.toList=[]:=v1 (hl.trans h0)
   have hz:z.cps=#[]:=by rw [<- U9 (xs:=z.cps),this]
   rw [this,hz];simp
 ·by_cases hab:a<=b
  ·have h:=StrLaws.picks z.cps.toList (b-a) a (by lia)
   have h2:List.filterMap (λx=>z.cps[x]?) (Q9 (λk=>a+k) (K3 (b-a)))=C8 (b-a) (List.drop a z.cps.toList):=by simpa using h
   rw [h2]
  ·have:b-a=0:=by lia
   rw [this];simp
theorem cut_le (z:Str) (lo hi:Option Int):(CG z lo hi).length<=z.length:=by rw [<- MO];exact Txt.slice_le z lo hi
def rSlS:V->Option Int->Option Int->Hp->VK->Prop:=λx lo hi H Q=>∃ z,x=.str z/\z.length<=sizeLine/\Q (.str (CG z lo hi)) H
theorem EU:SlR X rSlS:=by
 intro pins s σ H x v vl vu lo hi sl Q I rx hs pl pu h
 obtain ⟨z,rfl,hz,q⟩:=h
 obtain ⟨t,rfl⟩:=rx
 rw [<- MO] at q
 refine ⟨"str",_,F.slot_str_getitem.lookup,typeIs_str _ _ _,?_⟩
 have fin:∀ (l u:Option (Int×Tok)),vl=partValue l->vu=partValue u->lo=l.map (·.1)->hi=u.map (·.1)->wpAny (model X.prog X.w) X.A (getItem (.str z t) (.ref sl)) (EP X pins σ Q) X.xe s:=by
  rintro l u rfl rfl rfl rfl
  exact wpAny_getItem_str_slice (l:=l) (u:=u) (st:=none) hs rfl (post_val_or_str ⟨T0 (Txt.slice_le z _ _) hz,λt' k=>⟨.str _,H,I.tok _,⟨_,rfl⟩,q⟩⟩)
 cases pl with
 |none =>
  cases pu with
  |none=>exact fin none none rfl rfl rfl rfl
  |int j uj=>exact fin none (some (j,uj)) rfl rfl rfl rfl
 |int i ui =>
  cases pu with
  |none=>exact fin (some (i,ui)) none rfl rfl rfl rfl
  |int j uj=>exact fin (some (i,ui)) (some (j,uj)) rfl rfl rfl rfl
def PX:V->List V->Hp->VK->Prop:=λx vs H Q=>∃ z y,x=.str z/\vs=[.str y]/\Q (.bl (Txt.startswith z y)) H
theorem Gu:MtR X "str.startswith" PX:=by
 intro pins s σ H x vs v us Q I rx rv h
 obtain ⟨z,y,rfl,rfl,q⟩:=h
 obtain ⟨t,rfl⟩:=rx
 obtain ⟨u,rfl,ru⟩:=Eo rv
 obtain ⟨t',rfl⟩:=ru
 exact SC.startswith ⟨.bl _,H,I,rfl,q⟩
theorem strs_of {zs:List Str}:∀ {us:List Value},AL (zs.map V.str) us->StrsAre us zs:=by
 induction zs with
 |nil=>intro us r;cases r;exact .nil
 |cons b bs ih =>
  intro us r
  cases r with
  |cons h t =>
   obtain ⟨tk,rfl⟩:=h
   exact .cons _ _ (ih t)
def rJoin (K:J0):V->List V->Hp->VK->Prop:=λx vs H Q=>∃ (z:Str) (p:Addr) (zs:List Str),x=.str z/\vs=[.ref p]/\Aw K H p (zs.map V.str)/\(zs.map (·.length)).sum+zs.length*z.length<=16777216/\Q (.str (Txt.join z zs)) H
theorem IL:MtR X "str.join" (rJoin X.K):=by
 intro pins s σ H x vs v us Q I rx rv h
 obtain ⟨z,p,zs,rfl,rfl,hp,hz,q⟩:=h
 obtain ⟨t,rfl⟩:=rx
 obtain ⟨u,rfl,ru⟩:=Eo rv
 cases ru
 obtain ⟨its,r',pl,_⟩:=I.list hp
 exact join_list pl.isList (strs_of r') hz λt' k=>⟨.str _,H,I.tok _,⟨_,rfl⟩,q⟩

inductive Oa (K:J0) (H:Hp):Nat->V->V->Bool->Prop
 |flat {n:Nat} {x y:V}:DH x=true->DH y=true->Oa K H n x y (Em x y)
 |same {n:Nat} {a:Addr}:Oa K H n (.ref a) (.ref a) true
 |lst {n:Nat} {a b:Addr} {xs ys:List V} {e:Nat->Bool}:Aw K H a xs->Aw K H b ys->a≠b->xs.length=ys.length->(∀ i x y,xs[i]?=some x->ys[i]?=some y->Oa K H n x y (e i))->Oa K H (n+1) (.ref a) (.ref b) ((K3 xs.length).all e)
 |lstN {n:Nat} {a b:Addr} {xs ys:List V}:Aw K H a xs->Aw K H b ys->a≠b->xs.length≠ys.length->Oa K H (n+1) (.ref a) (.ref b) false
 |tup {n:Nat} {a b:Addr} {xs ys:List V} {e:Nat->Bool}:Cn K H a xs->Cn K H b ys->a≠b->(∀ i x y,xs[i]?=some x->ys[i]?=some y->Oa K H n x y (e i))->Oa K H (n+1) (.ref a) (.ref b) ((K3 (min xs.length ys.length)).all e&&xs.length == ys.length)
 |tupF {n:Nat} {a:Addr} {xs:List V} {y:V}:Cn K H a xs->DH y=true->Oa K H n (.ref a) y false
 |fTup {n:Nat} {a:Addr} {xs:List V} {y:V}:Cn K H a xs->DH y=true->Oa K H n y (.ref a) false
theorem CZ {xs:List V} {its:List Value} {j:Nat} (r:AL xs its) (h:j<its.toArray.size):∃ x,xs[j]?=some x/\Bd x its.toArray[j]:=by
 have hl:=r.length
 have hj:j<xs.length:=by rw [W0] at h;lia
 obtain ⟨u,hu,ru⟩:=r.get (i:=j) (x:=xs[j]) (by simp [hj])
 refine ⟨xs[j],by simp [hj],?_⟩
 have e:its.toArray[j]=u:=by
  have h2:j<its.length:=by rw [W0] at h;exact h
  have:=x0 h2
  rw [hu] at this
  simpa using (Option.some.inj this).symm
 rw [e];exact ru
theorem _root_.PyProof.Rows.IsTup.isTuple' {h:Heap} {a:Addr} {its:Array Value} (p:IsTup h a its):h.IsTuple a its:=p
theorem Oa.at {K:J0} {H:Hp} {n:Nat} {x y:V} {b:Bool} (d:Oa K H n x y b):∀ {X:Cx} {pins:List (Addr×Obj)} {σ:St} {s:Shared} {A:Around} {u v:Value},X.K=K->Ax X pins σ H s->Bd x u->Bd y v->A.units+n<cLine->SeqAt.EqAt A s u v b:=by
 induction d with
 |flat fx fy=>intro X pins σ s A u v hK I rx ry hu;exact UD rx ry fx fy
 |same=>intro X pins σ s A u v hK I rx ry hu;cases rx;cases ry;exact SeqAt.EqAt.same _
 |@lst n a b xs ys e hx hy hne hl _ ih =>
  intro X pins σ s A u v hK I rx ry hu
  subst hK
  cases rx;cases ry
  obtain ⟨ia,ra,pa,_⟩:=I.list hx
  obtain ⟨ib,rb,pb,_⟩:=I.list hy
  have la:=ra.length
  have lb:=rb.length
  have hs:ia.toArray.size=ib.toArray.size:=by rw [W0,W0];lia
  have q:=SeqAt.RcAt.lists (A:=A) (e:=e) pa.isList pb.isList hs (by lia) λj h1 h2=>by
   obtain ⟨x,ex,rx⟩:=CZ ra h1
   obtain ⟨y,ey,ry⟩:=CZ rb h2
   exact ih j x y ex ey rfl I rx ry (by show A.units+1+n<cLine;lia)
  rw [W0,<- la] at q
  exact SeqAt.EqAt.of_refs hne q
 |@lstN n a b xs ys hx hy hne hl =>
  intro X pins σ s A u v hK I rx ry hu
  subst hK
  cases rx;cases ry
  obtain ⟨ia,ra,pa,_⟩:=I.list hx
  obtain ⟨ib,rb,pb,_⟩:=I.list hy
  have la:=ra.length
  have lb:=rb.length
  exact SeqAt.EqAt.of_refs hne (SeqAt.RcAt.lists_lengths pa.isList pb.isList (by rw [W0,W0];simp;lia) (by lia))
 |@tup n a b xs ys e hx hy hne _ ih =>
  intro X pins σ s A u v hK I rx ry hu
  subst hK
  cases rx;cases ry
  obtain ⟨ia,ra,pa,_⟩:=I.tuple hx
  obtain ⟨ib,rb,pb,_⟩:=I.tuple hy
  have la:=ra.length
  have lb:=rb.length
  have q:=SeqAt.RcAt.tuples (A:=A) (e:=e) pa.isTuple' pb.isTuple' (by lia) λj h1 h2=>by
   obtain ⟨x,ex,rx⟩:=CZ ra h1
   obtain ⟨y,ey,ry⟩:=CZ rb h2
   exact ih j x y ex ey rfl I rx ry (by show A.units+1+n<cLine;lia)
  rw [W0,W0,<- la,<- lb] at q
  exact SeqAt.EqAt.of_refs hne q
 |@tupF n a xs y hx fy =>
  intro X pins σ s A u v hK I rx ry hu
  subst hK
  cases rx
  obtain ⟨ia,ra,pa,_⟩:=I.tuple hx
  have hu':A.units<cLine:=by lia
  cases y with
  |non=>cases (show v=Value.none from ry);exact SeqAt.EqAt.tuple_none pa.isTuple' hu'
  |bl b=>cases (show v=Value.bool b from ry);exact SeqAt.EqAt.tuple_bool b pa.isTuple' hu'
  |int i=>obtain ⟨t,q⟩:=(show ∃ t,v=Value.int i t from ry);cases q;exact SeqAt.EqAt.tuple_int i t pa.isTuple' hu'
  |str z=>obtain ⟨t,q⟩:=(show ∃ t,v=Value.str z t from ry);cases q;exact SeqAt.EqAt.tuple_str z t pa.isTuple' hu'
  |byt b=>cases fy
  |flt b=>cases fy
  |ref a=>cases fy
  |ty n=>cases fy
 |@fTup n a xs y hx fy =>
  intro X pins σ s A u v hK I rx ry hu
  subst hK
  cases ry
  obtain ⟨ia,ra,pa,_⟩:=I.tuple hx
  have hu':A.units<cLine:=by lia
  cases y with
  |non=>cases (show u=Value.none from rx);exact SeqAt.EqAt.none_tuple pa.isTuple' hu'
  |bl b=>cases (show u=Value.bool b from rx);exact SeqAt.EqAt.bool_tuple b pa.isTuple' hu'
  |int i=>obtain ⟨t,q⟩:=(show ∃ t,u=Value.int i t from rx);cases q;exact SeqAt.EqAt.int_tuple i t pa.isTuple' hu'
  |str z=>obtain ⟨t,q⟩:=(show ∃ t,u=Value.str z t from rx);cases q;exact SeqAt.EqAt.str_tuple z t pa.isTuple' hu'
  |byt b=>cases fy
  |flt b=>cases fy
  |ref a=>cases fy
  |ty n=>cases fy
def EqIt (K:J0) (H:Hp) (n:Nat) (xs ys:List V) (e:Nat->Bool):Prop:=∀ i x y,xs[i]?=some x->ys[i]?=some y->Oa K H n x y (e i)
def Oy (K:J0) (neg:Bool):R2:=λx y H Q=>∃ a b xs ys n e,x=.ref a/\y=.ref b/\Aw K H a xs/\Aw K H b ys/\n<=90/\EqIt K H n xs ys e/\Q (.bl (neg^^(decide (xs.length=ys.length)&&(K3 xs.length).all e))) H
theorem FF (hu:X.A.units+100<cLine):ES X (compareOp .Eq) (Oy X.K false):=by
 intro pins s σ H x y v u Q I rx ry h
 obtain ⟨a,b,xs,ys,n,e,rfl,rfl,hx,hy,hn,he,q⟩:=h
 cases rx;cases ry
 obtain ⟨ia,ra,pa,_⟩:=I.list hx
 obtain ⟨ib,rb,pb,_⟩:=I.list hy
 have la:=ra.length
 have lb:=rb.length
 rw [z6] at q
 by_cases hl:xs.length=ys.length
 ·rw [decide_eq_true hl,K4] at q
  refine SeqAt.eq_listAt (e:=e) pa.isList pb.isList (by rw [W0,W0];lia) (by lia) (λj h1 h2=>?_) ⟨.bl _,H,I,rfl,?_⟩
  ·obtain ⟨x,ex,rx⟩:=CZ ra h1
   obtain ⟨y,ey,ry⟩:=CZ rb h2
   exact (he j x y ex ey).at rfl I rx ry (by show X.A.units+1+n<cLine;lia)
  ·rw [W0,<- la];exact q
 ·rw [decide_eq_false hl,Q2] at q
  exact SeqAt.eq_list_lengthsAt pa.isList pb.isList (by rw [W0,W0];simp;lia) (by lia) ⟨.bl _,H,I,rfl,q⟩
theorem Fe (hu:X.A.units+100<cLine):ES X (compareOp .NotEq) (Oy X.K true):=by
 intro pins s σ H x y v u Q I rx ry h
 obtain ⟨a,b,xs,ys,n,e,rfl,rfl,hx,hy,hn,he,q⟩:=h
 cases rx;cases ry
 obtain ⟨ia,ra,pa,_⟩:=I.list hx
 obtain ⟨ib,rb,pb,_⟩:=I.list hy
 have la:=ra.length
 have lb:=rb.length
 rw [f8] at q
 by_cases hl:xs.length=ys.length
 ·rw [decide_eq_true hl,K4] at q
  refine SeqAt.RcNeAt.lists (e:=e) pa.isList pb.isList (by rw [W0,W0];lia) (by lia) (λj h1 h2=>?_) _ _ _ _ ⟨.bl _,H,I,rfl,?_⟩
  ·obtain ⟨x,ex,rx⟩:=CZ ra h1
   obtain ⟨y,ey,ry⟩:=CZ rb h2
   exact (he j x y ex ey).at rfl I rx ry (by show X.A.units+1+n<cLine;lia)
  ·rw [W0,<- la];exact q
 ·rw [decide_eq_false hl,Q2] at q
  exact SeqAt.RcNeAt.lists_lengths pa.isList pb.isList (by rw [W0,W0];simp;lia) (by lia) _ _ _ _ ⟨.bl _,H,I,rfl,q⟩
def rEqT (K:J0) (neg:Bool):R2:=λx y H Q=>∃ a b xs ys n e,x=.ref a/\y=.ref b/\Cn K H a xs/\Cn K H b ys/\n<=90/\EqIt K H n xs ys e/\Q (.bl (neg^^((K3 (min xs.length ys.length)).all e&&xs.length == ys.length))) H
theorem Tm (hu:X.A.units+100<cLine):ES X (compareOp .Eq) (rEqT X.K false):=by
 intro pins s σ H x y v u Q I rx ry h
 obtain ⟨a,b,xs,ys,n,e,rfl,rfl,hx,hy,hn,he,q⟩:=h
 cases rx;cases ry
 obtain ⟨ia,ra,pa,_⟩:=I.tuple hx
 obtain ⟨ib,rb,pb,_⟩:=I.tuple hy
 have la:=ra.length
 have lb:=rb.length
 rw [z6] at q
 refine SeqAt.eq_tupleAt (e:=e) pa.isTuple' pb.isTuple' (by lia) (λj h1 h2=>?_) ⟨.bl _,H,I,rfl,?_⟩
 ·obtain ⟨x,ex,rx⟩:=CZ ra h1
  obtain ⟨y,ey,ry⟩:=CZ rb h2
  exact (he j x y ex ey).at rfl I rx ry (by show X.A.units+1+n<cLine;lia)
 ·rw [W0,W0,<- la,<- lb];exact q
theorem op_neT (hu:X.A.units+100<cLine):ES X (compareOp .NotEq) (rEqT X.K true):=by
 intro pins s σ H x y v u Q I rx ry h
 obtain ⟨a,b,xs,ys,n,e,rfl,rfl,hx,hy,hn,he,q⟩:=h
 cases rx;cases ry
 obtain ⟨ia,ra,pa,_⟩:=I.tuple hx
 obtain ⟨ib,rb,pb,_⟩:=I.tuple hy
 have la:=ra.length
 have lb:=rb.length
 rw [f8] at q
 refine SeqAt.RcNeAt.tuples (e:=e) pa.isTuple' pb.isTuple' (by lia) (λj h1 h2=>?_) _ _ _ _ ⟨.bl _,H,I,rfl,?_⟩
 ·obtain ⟨x,ex,rx⟩:=CZ ra h1
  obtain ⟨y,ey,ry⟩:=CZ rb h2
  exact (he j x y ex ey).at rfl I rx ry (by show X.A.units+1+n<cLine;lia)
 ·rw [W0,W0,<- la,<- lb];exact q
theorem Do {A:Around} {k:Nat} (hr:Cm k A):A.units+100<cLine:=X2 (by lia) hr.un

def Lk:List Expr->List Str->Bool
 |[],[]=>true
 |.Constant (.str x) _ _::r,z::zs=>x == z&&Lk r zs
 |_,_=>false
def tStrs (zs:List Str):TA:=λ_ H Q=>Q (zs.map V.str) H
theorem Bi:∀ {es:List Expr} {zs:List Str},Lk es zs=true->PA X es (tStrs zs):=by
 intro es
 induction es with
 |nil =>
  intro zs h
  cases zs with
  |nil=>exact Ab
  |cons z zs=>cases h
 |cons e r ih =>
  intro zs h
  unfold Lk at h
  split at h
  ·exact absurd ‹e::r=[]› (List.cons_ne_nil _ _)
  ·rename_i x j p r' z zs' h1
   cases h1
   rw [C1] at h
   have hx:x=z:=by simpa using h.1
   subst hx
   exact Aa (X:=X) (e:=.Constant (.str x) j p) Ai (ih h.2)
  ·cases h
end
set_option genInjectivity false in
structure Ex (K:J0) (mg:Str->Option Value) (x:Str) (st:Stmt) (ps:List Str) where
 f:Addr
 fd:FuncData
 F:QC K x x st f fd
 hm:mg x=some (.ref f)
 b:Dt K fd ps []
theorem cxOf_K {CX:Kf} {P:Program} {w:World} {K:J0} {mg:Str->Option Value} {base:Heap} {N:List Str} {qual:Str} {scope:Scope} {f:Addr} {cd:Value} {A:Around} {outer:List Env} {s:Shared} {H:Hp} {E:XK} :
  (EB CX P w K mg base N qual scope f cd A outer s H E).K=K:=rfl
theorem UK {X:Cx} {N:List Str} {scope:Scope} {C:Addr} {s:Shared} {H:Hp} {fp:List Addr} {pn:List (Addr×Obj)}:(BW X N scope C s H fp pn).K=X.K:=rfl
structure InK (K:J0) (x:Str) (st:Stmt):Prop where
 ex:∃ (f:Addr) (oc:Value) (od:Option Addr) (kV doc pm:Value) (an:Option Addr) (cdv ct:Value) (osl:Array (Option Value)),
  Q1 K mainGlobals x=some (some (.ref f))/\K.lookup f=some ⟨oc,od,.func (E3 x x (Db st) (BY st) (AG st) .none kV doc pm an cdv ct),osl⟩/\g4 K cdv x=true/\F3 K (.ref f)=true
theorem InK.of {K:J0} {x:Str} {st:Stmt} {f:Addr} {oc:Value} {od:Option Addr} {kV doc pm:Value} {an:Option Addr} {cdv ct:Value} {osl:Array (Option Value)}
  (a:Q1 K mainGlobals x=some (some (.ref f))) (l:K.lookup f=some ⟨oc,od,.func (E3 x x (Db st) (BY st) (AG st) .none kV doc pm an cdv ct),osl⟩) (c:g4 K cdv x=true) (k:F3 K (.ref f)=true):InK K x st :=
 ⟨⟨f,oc,od,kV,doc,pm,an,cdv,ct,osl,a,l,c,k⟩⟩
theorem InK.def {K:J0} {mg:Str->Option Value} {h:Heap} {x:Str} {st:Stmt} {ps:List Str} (i:InK K x st) (X:K.In h) (G:h.Ns mainGlobals mg)
  (hb:∀ (kV doc pm:Value) (an:Option Addr) (cdv ct:Value) (us:List Value),us.length=ps.length->bindArgs (E3 x x (Db st) (BY st) (AG st) .none kV doc pm an cdv ct) ⟨us,[]⟩=pure (ps.zip us)):Nonempty (Ex K mg x st ps):=by
 obtain ⟨f,oc,od,kV,doc,pm,an,cdv,ct,osl,a,l,c,k⟩:=i.ex
 have F:=Pf (x:=x) (qual:=x) (st:=st) l c k
 exact ⟨⟨f,_,F,A2 X G a,F.binds hb⟩⟩
def IX:List Str->List Value->Bool
 |[],[]=>true
 |z::zs,.str x _::r=>x == z&&IX zs r
 |_,_=>false
theorem Fw:∀ {zs:List Str} {us:List Value},IX zs us=true->AL (zs.map V.str) us:=by
 intro zs
 induction zs with
 |nil =>
  intro us h
  cases us with
  |nil=>exact .nil
  |cons u r=>cases h
 |cons z zs ih =>
  intro us h
  cases us with
  |nil=>cases h
  |cons u r =>
   cases u with
   |str x t =>
    have h':(x == z&&IX zs r)=true:=h
    rw [C1] at h'
    have e:x=z:=by simpa using h'.1
    subst e
    exact .cons ⟨t,rfl⟩ (ih h'.2)
   |_=>cases h
structure InT (K:J0) (x:Str) (zs:List Str):Prop where
 ex:∃ (p:Addr) (dd:Option Addr) (its:Array Value) (n:Nat) (sl:Array (Option Value)),Q1 K mainGlobals x=some (some (.ref p))/\K.lookup p=some ⟨.type "tuple",dd,.seq its n,sl⟩/\its.size<=sizeLine/\IX zs its.toList=true
theorem InT.of {K:J0} {x:Str} {zs:List Str} {p:Addr} {dd:Option Addr} {its:Array Value} {n:Nat} {sl:Array (Option Value)} (a:Q1 K mainGlobals x=some (some (.ref p))) (l:K.lookup p=some ⟨.type "tuple",dd,.seq its n,sl⟩)
  (s:its.size<=sizeLine) (v:IX zs its.toList=true):InT K x zs:=⟨⟨p,dd,its,n,sl,a,l,s,v⟩⟩
theorem AZ:bootBuiltins "len"=some (.builtin "len"):=by lk
theorem UT:bootBuiltins "all"=some (.builtin "all"):=by lk
theorem AH:bootBuiltins "isinstance"=some (.builtin "isinstance"):=by lk
theorem Ib:bootBuiltins "str"=some (.type "str"):=by lk
theorem EC:bootBuiltins "int"=some (.type "int"):=by lk
theorem Qu:bootBuiltins "bool"=some (.type "bool"):=by lk
theorem bt_list:bootBuiltins "list"=some (.type "list"):=by lk
theorem Ce:bootBuiltins "tuple"=some (.type "tuple"):=by lk
theorem Ag.upd {H:Hp} {a:Addr} {o:HO} (h:H a=none):Ag H (L2.upd H a o):=λb u e=>by rw [Ap (AY e h)];exact e
theorem TN {K:J0} {z:Str} {H:Hp} {n:Nat}:Ke K (.str z) H n↔z.length<=sizeLine/\n=z.length:=Iff.rfl
theorem AV {K:J0} {p:Addr} {H:Hp} {n:Nat}:Ke K (.ref p) H n↔(∃ xs,Aw K H p xs/\n=xs.length)\/∃ xs,Cn K H p xs/\n=xs.length:=Iff.rfl
section
variable {X:Cx} {o e f:Expr} {apos cpos pos:Pos} {td ty tx:TE}

def RT (P:Program) (w:World) (K:J0) (a:Addr) (kvs:List (Cr×V)):Prop:=(a == sysModules)=false/\∀ h:Heap,K.In h->∃ vs,KV kvs vs/\h.DictOf (BE P w) a vs
def gLst (K:J0) (n:Nat) (t:TGs):TG:=λv σ H Q=>∃ a xs,v=.ref a/\Aw K H a xs/\xs.length=n/\t xs σ H Q
theorem KS {prog:Program} {w:World} {A:Around} {E:Value->Shared->Prop} {it l:Addr} {items:Array Value} (hne:l≠it):∀ (n i:Nat) (s:Shared) (Q:List Value->Shared->Prop),s.heap.IsListIter it l i->s.heap.IsList l items->i+n<=items.size ->
  (∀ h',h'.IsListIter it l (i+n)->Heap.SameBut it s.heap h'->Q ((items.toList.drop i).take n) { s with heap:=h' })->wpAny (model prog w) A (draw (.ref it) n) Q E s
 |0,i,s,Q,hit,_,_,hQ=>by
  show wpAny _ _ (pure []) Q E s
  exact wpAny_pure (by simpa using hQ s.heap hit (Heap.SameBut.refl ..))
 |n+1,i,s,Q,hit,ht,hle,hQ=>by
  have hlt:i<items.size:=by lia
  show wpAny _ _ (pyNext (.ref it) >>= _) Q E s
  refine wpAny_bind (wpAny_pyNext_list_item hit ht (x:=items[i]) (by simp [hlt]) λh₁ hit₁ hs₁=>?_)
  refine wpAny_bind (wpAny_holding (KS hne n (i+1) _ _ hit₁ (ht.extBut hs₁.extBut hne) (by lia) λh₂ hit₂ hs₂=>wpAny_pure ?_))
  have hd:items.toList.drop i=items[i]::items.toList.drop (i+1):=by simp [x5,hlt]
  have:=hQ h₂ (by rw [show i+(n+1)=i+1+n by lia];exact hit₂) (hs₁.trans hs₂)
  rw [hd,List.take_succ_cons] at this
  exact this
theorem Ht {prog:Program} {w:World} {A:Around} {E:Value->Shared->Prop} {s:Shared} {t:Addr} {items:Array Value} {Q:List Value->Shared->Prop} (hh:A.handled=none) (ht:s.heap.IsList t items)
  (hQ:∀ h',Heap.ExtBut s.heap.objs.size s.heap h'->Q items.toList { s with heap:=h' }):wpAny (model prog w) A (unpackItems (.ref t) items.size none) Q E s:=by
 have hlt:t≠s.heap.objs.size:=by obtain ⟨o,ho,_⟩:=ht;exact Y1 (Heap.lt_size ho)
 unfold unpackItems
 refine wpAny_bind ?_
 ·unfold notIterableAtAll
  refine wpAny_bind (wpAny_specialOf ht.typeIs F.slot_list_iter.lookup ?_)
  refine wpAny_pure ?_
  simp only [Bool.false_eq_true,if_false]
  refine wpAny_bind (wpAny_holding (wpAny_pyIter_list ht ?_))
  refine wpAny_bind (wpAny_holding (KS hlt items.size 0 _ _ ⟨_,Heap.get?_push_size _ rfl,rfl,rfl⟩ (ht.push _) (by lia) λh₁ hit₁ hs₁=>?_))
  have hall:C8 items.size (List.drop 0 items.toList)=items.toList:=by
   rw [y6];exact T3 (by simp)
  rw [hall]
  rw [if_neg (by simp)]
  have ht₁:h₁.IsList t items:=(ht.push _).extBut hs₁.extBut hlt
  refine wpAny_bind (wpAny_holding (wpAny_pyNext_list_end hh hit₁ ht₁ (by simp) λh₂ he₂=>?_))
  simp only [Option.isSome_none,Bool.false_eq_true,if_false]
  refine wpAny_pure (hQ h₂ λb o hb e=>he₂ b o hb (hs₁.extBut b o hb (Heap.get?_push_of_some _ e)))
theorem Tb {es:List Expr} {k:Nat} {t:TGs} {n:Nat} (hc:X.calm=true) (h:PGs X es t)
  (hn:(assignEach es X.env).length=n:=by rfl) (hst:(assignEach es X.env).findIdx? (·.1)=none:=by rfl):PG X (.Tuple es k pos) (gLst X.K n t):=by
 intro pins s σ H v u Q I r hw
 obtain ⟨a,xs,e1,hq,hl,hw⟩:=hw
 subst e1
 cases r
 obtain ⟨its,rv,ht,hz⟩:=I.list hq
 rw [arm_assign_Tuple]
 refine wpAny_bind (wpAny_standAt ?_)
 unfold unpack
 rw [show (assignEach es X.env).length=its.toArray.size by rw [hn,<- hl,W0,rv.length],hst]
 refine wpAny_bind (wpAny_holding (Ht (I.ok.hd hc) ht.isList λh' hx=>?_))
 have I1:Ax X pins σ H { s with heap:=h' }:=I.kept (t':=s.toks) λb o e=>hx b o (Y1 (Heap.lt_size e)) e
 exact h pins _ σ H xs _ Q I1 (by simpa using rv) hw

variable {K:J0}
theorem Ud (h:X.K=K):IxR X (DS K):=by subst h;exact Al
theorem JY (h:X.K=K):ES X (compareOp .NotIn) (rIn K true):=by subst h;exact Fd
theorem RH (h:X.K=K):Ek X (.builtin "len") (λxs H Q=>∃ x n,xs=[x]/\Ke K x H n/\Q (.int n) H):=by subst h;exact Az
theorem FL (h:X.K=K):Ek X (.type "tuple") (λxs H Q=>∃ p ys,xs=[.ref p]/\((Aw K H p ys/\∀ l,H l=none->Q (.ref l) (upd H l (.tup ys)))\/(Cn K H p ys/\Q (.ref p) H))):=by subst h;exact Bo
def tIfM (c:TT) (t u:TS):TS:=λD σ H=>∃ M1 M2:Hp->Prop,(c σ H λb H1=>if b=true then M1 H1 else M2 H1)/\(∀ H1,M1 H1->t D σ H1)/\∀ H1,M2 H1->u D σ H1
theorem LC {X:Cx} {pos:Pos} {t u:TS} {c:Expr} {a b:List Stmt} {tc:TT} (hc:PT X c tc) (ha:Ix X a t) (hb:Ix X b u):PS X (.If c a b pos) (tIfM tc t u):=by
 intro pins s σ H D I h
 obtain ⟨M1,M2,h,h1,h2⟩:=h
 refine wpAny_If (Bt (hc pins s σ H _ I h) λd s1 ⟨H1,I1,q1⟩=>?_)
 cases d with
 |true=>exact ha pins s1 σ H1 D I1 (h1 _ q1)
 |false=>exact hb pins s1 σ H1 D I1 (h2 _ q1)
theorem Ax.turned2 {X:Cx} {pins:List (Addr×Obj)} {σ:List (Option V)} {H:Hp} {s:Shared} {h':Heap} {t':Nat} {e it:Addr} (I:Ax X pins σ H s) (k:∀ b o,b≠e->b≠it->s.heap.get? b=some o->h'.get? b=some o) (fe:EE X pins H e) (fi:EE X pins H it):Ax X pins σ H { s with heap:=h',toks:=t' }:=by
 obtain ⟨e0,e1,_,e3,e4,e5⟩:=fe
 obtain ⟨i0,i1,_,i3,i4,i5⟩:=fi
 have nit:∀ b u,H b=some u->b≠it:=λb u q z=>by rw [z,i0] at q;cases q
 have nie:∀ b u,H b=some u->b≠e:=λb u q z=>by rw [z,e0] at q;cases q
 have kk:∀ b o,b∉[e,it]->s.heap.get? b=some o->h'.get? b=some o:=λb o hc q=>k b o (λz=>hc (by simp [z])) (λz=>hc (by simp [z])) q
 refine I.step (g':=s.gens) (d':=s.drawn) (ch:=[e,it]) (λb hb=>?_) (λb o _ _ hc q _=>kk b o hc q) (λb o _ _ hc q _=>⟨o.slots,kk b o hc q⟩) (λ_ _ _ _ n=>n)
  (λb o hc q=>⟨o,kk b o hc q⟩) (λ_ _ q=>q) (λ_ _ _ q=>q) (λb ps q=>⟨#[],by rw [q];simp⟩) (λm hm=>?_) (λb u q=>?_) I.bare
 ·rcases K0.mp hb with rfl | hb
  ·exact ⟨e3,e1,e4,e5⟩
  ·have z:b=it:=by simpa using hb
   subst z
   exact ⟨i3,i1,i4,i5⟩
 ·obtain ⟨o,es,ep,ho,r⟩:=hm
  exact ⟨o,es,ep,k _ o (Ne.symm e1) (Ne.symm i1) ho,r⟩
 ·refine (I.hok b u q).stay (λc v hc q'=>k c v ?_ ?_ q') (λ_ q=>q) λ_ _ q=>q
  ·rcases hc with z | z
   ·rw [z];exact nie b u q
   ·exact nie c _ z
  ·rcases hc with z | z
   ·rw [z];exact nit b u q
   ·exact nit c _ z
def Ite (K:J0) (a:Addr):It :=
 ⟨λi H=>∃ xs x,Aw K H a xs/\xs[i]?=some x,λi H v H'=>∃ p x,v=.ref p/\H p=none/\H'=upd H p (.tup [.int (i:Nat),x])/\∀ xs,Aw K H a xs->xs[i]?=some x,λi H=>∃ xs,Aw K H a xs/\xs.length<=i⟩
theorem QK {P:Program} {w:World} {K:J0} {es:List Expr} {x1} {pos:Pos} (a e it:Addr) (hne:e≠it):Kc P w K (.Tuple es x1 pos) (Ite K a) [e,it] e (λi h=>(∃ old,IsEnum h e it (i:Nat) old)/\h.IsListIter it a i) where
 mem:=by simp
 obj:=λi h st b hb=>by
  obtain ⟨⟨old,he⟩,hit⟩:=st
  rcases K0.mp hb with rfl | hb
  ·exact ⟨_,he,λv z=>by
    have z':Data.fields _=Data.cell v:=z
    cases z'⟩
  ·have z:b=it:=by simpa using hb
   subst z
   obtain ⟨o,e,c,d⟩:=hit
   exact ⟨o,e,λv z=>by rw [d] at z;cases z⟩
 keep:=λi h h' st k=>⟨let ⟨old,he⟩:=st.1;⟨old,k e (by simp) _ he⟩,st.2.at λo q=>k it (by simp) o q⟩
 item:=by
  intro X hP hw hK hc i pins s σ H E I hf st hg
  subst hP hw hK
  obtain ⟨xs,x,hq,hx⟩:=hg
  obtain ⟨its,rv,p,hz⟩:=I.list hq
  obtain ⟨u,hu,ru⟩:=rv.get hx
  obtain ⟨⟨old,he⟩,hit⟩:=st
  have fe:=hf e (by simp)
  have fi:=hf it (by simp)
  have helt:e<s.heap.objs.size:=Heap.lt_size he
  have hilt:it<s.heap.objs.size:=by obtain ⟨_,q,_⟩:=hit;exact Heap.lt_size q
  refine wpAny_pyNext_enum_item he hit p.isList (x:=u) (by simpa using hu) hne λh' ho hit' hT hsz hk=>?_
  refine ⟨_,rfl,wpAny_letOwnedTupleGo_enum ho λh'' he'' hs''=>?_⟩
  have hfr:H s.heap.objs.size=none:=I.hok.fresh (V0 _)
  have I1:Ax X pins σ (upd H s.heap.objs.size (.tup [.int (i:Nat),x])) { s with heap:=s.heap.push { cls:=.type "tuple",data:=.seq #[.int (i:Nat) s.toks,u] },toks:=s.toks } :=
   I.laid (t':=s.toks) (λb v q=>Heap.get?_push_of_some _ q) (V0 _) ⟨show 2<=sizeLine by kd_p,[.int (i:Nat) s.toks,u],.cons ⟨_,rfl⟩ (.cons ru .nil),⟨_,Heap.get?_push_size _ rfl,rfl,_,rfl⟩⟩
  have up:∀ {b:Addr},EE X pins H b->b<s.heap.objs.size->EE X pins (upd H s.heap.objs.size (.tup [.int (i:Nat),x])) b:=λf hb=>⟨by rw [Ap (Y1 hb)];exact f.1,f.2⟩
  have I2:Ax X pins σ (upd H s.heap.objs.size (.tup [.int (i:Nat),x])) { s with heap:=h'',toks:=s.toks+1 } :=
   Ax.turned2 (s:={ s with heap:=s.heap.push { cls:=.type "tuple",data:=.seq #[.int (i:Nat) s.toks,u] },toks:=s.toks }) (h':=h'') (t':=s.toks+1) (e:=e) (it:=it) I1 (λb o b1 b2 q=>by
    rw [hs''.2 b b1]
    by_cases hb:b=s.heap.objs.size
    ·subst hb
     rw [Heap.get?_push_size _ rfl] at q
     cases q
     exact hT
    ·refine hk b o b1 b2 ?_
     rw [<- q]
     exact (Heap.get?_push_ne _ _ _ hb).symm) (up fe helt) (up fi hilt)
  refine ⟨.ref s.heap.objs.size,_,I2,rfl,⟨_,x,rfl,hfr,rfl,λys hy=>by rw [I.list_inj hy hq];exact hx⟩,⟨⟨_,by simpa using he''⟩,hit'.at λo q=>(hs''.2 it hne.symm).trans q⟩,λb hb=>?_⟩
  rcases K0.mp hb with rfl | hb
  ·exact (up fe helt).1
  ·have z:b=it:=by simpa using hb
   subst z
   exact (up fi hilt).1
 done:=by
  intro X hP hw hK hc i pins s σ H E I hf st hg
  subst hP hw hK
  obtain ⟨xs,hq,hx⟩:=hg
  obtain ⟨its,rv,p,hz⟩:=I.list hq
  obtain ⟨⟨old,he⟩,hit⟩:=st
  have fe:=hf e (by simp)
  have fi:=hf it (by simp)
  have hl:=rv.length
  exact wpAny_pyNext_enum_end (I.ok.hd hc) he hit p.isList (by simp;lia) λh' eb=>⟨rfl,Ax.turned2 (t':=s.toks) (e:=e) (it:=it) I (λb o _ hb q=>eb b o hb q) fe fi⟩
 self:=λ_ _ _ _ _ st h=>let ⟨_,he⟩:=st.1;wpAny_pyIter_enum he h
theorem Hq:bootBuiltins "enumerate"=some (.type "enumerate"):=by lk
def iEnum (K:J0) (ta:TA):TI:=λσ H R=>ta σ H λvs H1=>∃ a:Addr,vs=[.ref a]/\(∃ xs,Aw K H1 a xs)/\R (Ite K a) H1
theorem PZ {X:Cx} {es:List Expr} {x1} {tpos:Pos} {a:Expr} {ta:TA} {p pos:Pos} (hg:Gl X "enumerate") (hm:X.mg "enumerate"=none) (ha:PA X [a] ta) (hs:starEach [a] X.env=[(false,eval a X.env)]:=by rfl):PI X (.Tuple es x1 tpos) (.Call (.Name "enumerate" p) [a] [] pos) (iEnum X.K ta):=by
 intro pins s σ H R I h
 refine Call_ (GO I hg hm Hq (X5 (Bt (ha pos pins s σ H _ I h) λus s1 ⟨vs,H1,I1,r1,q1⟩=>?_) hs rfl))
 obtain ⟨l,q0,⟨xs,hq⟩,q⟩:=q1
 subst q0
 cases r1 with
 |cons r rr =>
  cases rr
  cases r
  obtain ⟨its,rv,pl,hz⟩:=I1.list hq
  refine call_enumerate_list pl.isList λh' he hit hsz hk=>wpAny_pyIter_enum he ?_
  refine ⟨s1.heap.objs.size+1,[s1.heap.objs.size+1,s1.heap.objs.size],_,_,H1,rfl,I1.kept (t':=s1.toks) hk,QK l _ _ (Nat.succ_ne_self _),⟨⟨_,he⟩,hit⟩,λb hb=>?_,q⟩
  rcases K0.mp hb with rfl | hb
  ·exact I1.fpOk (by lia) (I1.hok.fresh (by lia))
  ·have z:b=s1.heap.objs.size:=by simpa using hb
   subst z
   exact I1.fpOk (V0 _) (I1.hok.fresh (V0 _))
theorem NJ {K:J0} {a:Addr} {xs:List V} {g:TG} {tb:TS} {D:FO} {σ:St} {H:Hp} (Pv:Nat->St->Hp->Prop) (h0:Pv 0 σ H) (hl:∀ i σ H,i<=xs.length->Pv i σ H->Aw K H a xs)
  (hs:∀ i x p σ H,xs[i]?=some x->Pv i σ H->H p=none->g (.ref p) σ (upd H p (.tup [.int (i:Nat),x])) λσ2 H2=>tb { D with nx:=Pv (i+1),ct:=Pv (i+1),bk:=D.nx } σ2 H2) (hd:∀ σ H,Pv xs.length σ H->D.nx σ H) :
  ∃ W:Nat->Nat->St->Hp->Prop,(∃ m,W 0 m σ H)/\∀ i m σ H,W i m σ H ->
   ((Ite K a).stop i H/\D.nx σ H)\/((Ite K a).go i H/\∃ N:St->Hp->Prop,(∀ σ' H',N σ' H'->∃ m',m'<m/\W (i+1) m' σ' H')/\∀ x H',(Ite K a).yld i H x H'->g x σ H' λσ2 H2=>tb { D with nx:=N,ct:=N,bk:=D.nx } σ2 H2):=by
 refine ⟨λi m σ H=>m=xs.length-i/\i<=xs.length/\Pv i σ H,⟨xs.length,by simp,N1 _,h0⟩,?_⟩
 rintro i m σ H ⟨rfl,hi,p⟩
 have q:=hl i σ H hi p
 by_cases hlt:i<xs.length
 ·refine .inr ⟨⟨xs,xs[i],q,by simp [hlt]⟩,Pv (i+1),λσ' H' p'=>⟨xs.length-(i+1),by lia,rfl,hlt,p'⟩,λv H' y=>?_⟩
  obtain ⟨b,x,rfl,hb,rfl,hx⟩:=y
  exact hs i x b σ H (hx xs q) p hb
 ·have z:i=xs.length:=by lia
  subst z
  exact .inl ⟨⟨xs,q,V0 _⟩,hd σ H p⟩
end
structure InC (K:J0) (x:Str) (C:Addr):Prop where
 a:Q1 K mainGlobals x=some (some (.ref C))
 pg:P6 K C Str.empty=true
 hd:E5 K C=true
 po:k7 K C=true
 sa:T1 K (.ref C) "__setattr__"=some (some (.builtin "object.__setattr__"))
 mak:K8 K C=true
 kp:F3 K (.ref C)=true
theorem InC.cls {K:J0} {x:Str} {C:Addr} (i:InC K x C):Ob K C:=⟨i.pg,i.hd,i.po,i.sa⟩
structure InM (K:J0) (C:Addr) (m q:Str) (st:Stmt):Prop where
 ex:∃ (f:Addr) (oc:Value) (od:Option Addr) (kV doc pm:Value) (an:Option Addr) (cdv ct:Value) (osl:Array (Option Value)),
  T1 K (.ref C) m=some (some (.ref f))/\C6 K (.ref f)=true/\K.lookup f=some ⟨oc,od,.func (E3 m q (Db st) (BY st) (AG st) .none kV doc pm an cdv ct),osl⟩/\g4 K cdv q=true/\F3 K (.ref f)=true
theorem InM.of {K:J0} {C:Addr} {m q:Str} {st:Stmt} {f:Addr} {oc:Value} {od:Option Addr} {kV doc pm:Value} {an:Option Addr} {cdv ct:Value} {osl:Array (Option Value)}
  (a:T1 K (.ref C) m=some (some (.ref f))) (i:C6 K (.ref f)=true) (l:K.lookup f=some ⟨oc,od,.func (E3 m q (Db st) (BY st) (AG st) .none kV doc pm an cdv ct),osl⟩) (c:g4 K cdv q=true) (k:F3 K (.ref f)=true):InM K C m q st :=
 ⟨⟨f,oc,od,kV,doc,pm,an,cdv,ct,osl,a,i,l,c,k⟩⟩
set_option genInjectivity false in
structure Ig (K:J0) (C:Addr) (m q:Str) (st:Stmt) (ps:List Str) where
 f:Addr
 fd:FuncData
 F:QC K m q st f fd
 me:Meth K C m f
 b:Dt K fd ps []
theorem InM.def {K:J0} {C:Addr} {m q:Str} {st:Stmt} {ps:List Str} (i:InM K C m q st)
  (hb:∀ (kV doc pm:Value) (an:Option Addr) (cdv ct:Value) (us:List Value),us.length=ps.length->bindArgs (E3 m q (Db st) (BY st) (AG st) .none kV doc pm an cdv ct) ⟨us,[]⟩=pure (ps.zip us)):Nonempty (Ig K C m q st ps):=by
 obtain ⟨f,oc,od,kV,doc,pm,an,cdv,ct,osl,a,i,l,c,k⟩:=i.ex
 have F:=Pf (x:=m) (qual:=q) (st:=st) l c k
 exact ⟨⟨f,_,F,⟨a,i,k⟩,F.binds hb⟩⟩
section
variable {X:Cx}
end
end L2
namespace HT
open PySem PySem.Spec PyProof.Rows
section
variable {prog:Program} {w:World} {A:Around} {E:Value->Shared->Prop} {s:Shared}
theorem getItem_tuple_whole {t sl:Addr} {items:Array Value} {vl vu:Value} {lo hi:Option Int} {Q:Value->Shared->Prop} (ht:IsTup s.heap t items) (hs:s.heap.IsSliceOf sl vl vu .none) (pl:IsPart vl lo) (pu:IsPart vu hi)
  (hw:sIx items.size 0 lo=0/\sIx items.size items.size hi=items.size) (h:Q (.ref t) s):wpAny (model prog w) A (getItem (.ref t) (.ref sl)) Q E s:=by
 obtain ⟨os,hos,hcs,hds⟩:=id hs
 have hTs:s.TypeIs (.ref sl) "slice":=⟨os,hos,hcs⟩
 unfold getItem
 try with_reducible refine wpAny_holding ?_
 first | refine wpAny_bind (wpAny_pure ?_) | skip
 refine wpAny_bind (wpAny_sequenceKey ht.typeIs (by kd_p) ?_)
 refine wpAny_bind (wpAny_callSpecial?_slot (name:=Str.ofString "__getitem__") ht.typeIs K5
  (wpAny_call_entry K5 ht.typeIs entry_tuple_getitem ?_ (args_tuple_getitem _ _)))
 show wpAny _ _ (Builtin.Tuple.tupleItemsOf (.ref t) >>= _) _ _ s
 refine wpAny_bind (tupleItemsOf_ ht ?_)
 refine wpAny_bind (wpAny_typeOf hTs ?_)
 rw [if_pos (by kd_p)]
 refine wpAny_bind (EF hs pl pu ?_)
 dsimp only
 rw [if_pos (by rw [hw.1,hw.2];simp)]
 unfold Builtin.Tuple.tupleIsExact
 refine wpAny_bind (wpAny_bind (wpAny_typeOf ht.typeIs (wpAny_pure ?_)))
 rw [if_pos (by kd_p)]
 refine wpAny_bind (wpAny_rule (wpAny_pure ?_))
 exact ⟨_,rfl,wpAny_pure h⟩
end
end HT
namespace L2
open PySem PySem.Spec PyProof.Rows
section
variable {X:Cx}
def PY (K:J0):V->Option Int->Option Int->Hp->VK->Prop:=λx lo hi H Q=>∃ a xs,x=.ref a/\Cn K H a xs /\
 ((HT.sIx xs.length 0 lo=0/\HT.sIx xs.length xs.length hi=xs.length)->Q x H)/\(¬ (HT.sIx xs.length 0 lo=0/\HT.sIx xs.length xs.length hi=xs.length)->∀ p,H p=none->Q (.ref p) (upd H p (.tup (DI xs lo hi))))
theorem Lw:SlR X (PY X.K):=by
 intro pins s σ H x v vl vu lo hi sl Q I rx hs pl pu h
 obtain ⟨a,xs,e,hx,q1,q2⟩:=h
 by_cases hw:HT.sIx xs.length 0 lo=0/\HT.sIx xs.length xs.length hi=xs.length
 ·subst e
  cases rx
  obtain ⟨its,r,ht,hz⟩:=I.tuple hx
  have hlen:its.toArray.size=xs.length:=by rw [W0];exact r.length.symm
  refine ⟨"tuple",_,K5.lookup,ht.typeIs,?_⟩
  exact HT.getItem_tuple_whole ht hs pl pu (by rw [hlen];exact hw) ⟨.ref a,H,I,rfl,q1 hw⟩
 ·exact sl_tup pins s σ H x v vl vu lo hi sl Q I rx hs pl pu ⟨a,xs,e,hx,hw,q2 hw⟩
end
def RO (H:Hp) (d:Addr):Hp:=λb=>if b=d then none else H b
theorem UI {H:Hp} {d:Addr}:RO H d d=none:=by unfold RO;rw [if_pos rfl]
theorem Fh {H:Hp} {d b:Addr} (h:b≠d):RO H d b=H b:=by unfold RO;rw [if_neg h]
section
variable {X:Cx} {pins:List (Addr×Obj)} {σ:St} {H:Hp} {s:Shared}
end
section
variable {X:Cx} {CX:Kf} {k:Nat} {f C:Addr} {fd:FuncData} {ps:List Str} {sp:Sp} {dvs:List V} {ds:List Value} {E:XK} {x m:Str} {p pos apos:Pos} {e o:Expr} {es:List Expr} {ta:TE} {t:TA}
end
section
variable {X:Cx}
end
section
variable {X:Cx} {pins:List (Addr×Obj)} {σ:St} {H:Hp} {s:Shared} {a:Addr} {kvs:List (Cr×V)} {k:Cr} {u r:Value} {v:V} {A:Around} {E:Value->Shared->Prop}
end
section
variable {X:Cx} {CX:Kf} {k:Nat} {f:Addr} {fd:FuncData} {ps:List Str} {sp:Sp} {dvs:List V} {ds:List Value} {E:XK} {x:Str} {p pos:Pos} {e:Expr} {es:List Expr} {ta:TE} {t:TA}
def Sv (f:Addr) (sp:Sp) (dvs:List V) (E:XK) (ta:TE) (t:TA):TE:=λσ H Q=>ta σ H λy H0=>y=.ref f/\t σ H0 λvs H1=>sp (vs++dvs) H1 Q E
theorem Tg (hn:PE X (.Name x p) ta) (F:BD X.prog X.w X.K X.mg X.base CX k f fd ps sp) (hr:Cm k X.A) (hk:F3 X.K (.ref f)=true) (hb:Dt X.K fd ps ds) (hd:AL dvs ds) (hx:ED CX X E)
  (ha:PA X (e::es) t) (he:starEach (e::es) X.env=(false,eval e X.env)::starEach es X.env:=by rfl) (hpl:(backTo pos (starEach es X.env)).any (·.1)=false:=by rfl) :
  PE X (.Call (.Name x p) (e::es) [] pos) (Sv f sp dvs E ta t):=by
 intro pins s σ H Q I h
 refine wpAny_Call_Name_kw (Bt (hn pins s σ H _ I h) λu s0 ⟨y,H0,I0,r0,ey,q0⟩=>?_)
 subst ey
 obtain rfl:u=Value.ref f:=r0
 refine j4 (h₀:=X.base) I.ok.mod.kin hk (Bt (ha pos pins s0 σ H0 _ I0 q0) λus s1 ⟨vs,H1,I1,r,q⟩=>⟨I1.kIn,?_⟩) he hpl
 exact LA F hr hb hd hx I1 r q
end
theorem Mz (l b:Addr) (items items2:Array Value) (n n2:Nat) (dd dd2:Option Addr) (sl sl2:Array (Option Value)) (hc0:items.isEmpty=true) :
  Meets (Builtin.«tuple.__add__» ⟨[.ref l,.ref b],[]⟩) (λ_ R s=>s.heap.get? l=some { cls:=.type "tuple",dict:=dd,data:=.seq items n,slots:=sl }/\s.heap.get? b=some { cls:=.type "tuple",dict:=dd2,data:=.seq items2 n2,slots:=sl2 }/\R (.ok (.ret (Value.ref b))) { s with heap:=s.heap,toks:=s.toks }) :=
 .of_wp λprog w A R s h=>by obtain ⟨hp,g,d,tk,os⟩:=s;obtain ⟨hl,hb,h⟩:=h;have f2:=sub_tuple_tuple;wp_walk using wpAny_loadPart' hl,wpAny_loadPart' hb;exact ⟨_,rfl,h⟩
def Oz (K:J0):R2:=λx y H Q=>SU K x y H Q\/∃ a b,x=.ref a/\y=.ref b/\Cn K H a []/\(∃ ys,Cn K H b ys)/\Q (.ref b) H
theorem CV {X:Cx}:ES X (binaryOp .Add) (Oz X.K):=by
 intro pins s σ H x y v u Q I rx ry h
 rcases h with h | ⟨a,b,rfl,rfl,ha,⟨ys,hb⟩,q⟩
 ·exact op_catT pins s σ H x y v u Q I rx ry h
 ·cases rx
  cases ry
  obtain ⟨its,r1,p1,_⟩:=I.tuple ha
  obtain ⟨its2,r2,p2,_⟩:=I.tuple hb
  cases r1
  obtain ⟨⟨cls,dd,data,sl⟩,ho,hc,n,hd⟩:=id p1
  obtain ⟨⟨cls2,dd2,data2,sl2⟩,ho2,hc2,n2,hd2⟩:=id p2
  simp only at hc hd hc2 hd2
  subst hc hd hc2 hd2
  exact concat_meets ⟨_,ho,rfl⟩ ⟨_,ho2,rfl⟩ noFill_tuple_add seq_tuple_add K7 D7 (B7 _ _)
   (Mz a b _ its2.toArray n n2 dd dd2 sl sl2 (by simp)) ⟨ho,ho2,⟨.ref b,H,I,rfl,q⟩⟩
theorem Ml {X:Cx} {K:J0} (h:X.K=K):Ek X (.builtin "isinstance") (λxs H Q=>∃ x n t b,xs=[x,.ty n]/\FM K H x t/\W1 K t (.type n)=some b/\Q (.bl b) H):=by subst h;exact Ci
theorem Ga {X:Cx}:Ek X (.type "str") (λxs H Q=>(∃ i:Int,xs=[.int i]/\i.natAbs.log2<1920/\Q (.str (toString i)) H)\/∃ z,xs=[.str z]/\Q (.str z) H):=by
 intro pins s σ H xs us Q I r h
 rcases h with ⟨i,rfl,hz,q⟩ | ⟨z,rfl,q⟩
 ·obtain ⟨u,rfl,t,rfl⟩:=Eo r
  exact PySem.P.str_of_int hz ⟨.str _,H,I.tok _,⟨_,rfl⟩,q⟩
 ·obtain ⟨u,rfl,t,rfl⟩:=Eo r
  exact PySem.P.str_of_str ⟨.str _,H,I,⟨_,rfl⟩,q⟩
def EH (k:Nat) (z:Str):Str:=⟨(E2 k z.cps).foldl (·++·) #[]⟩
theorem Pg (xs:List (Array Nat)):∀ a:Array Nat,(xs.foldl (·++·) a).size=a.size+(xs.map Array.size).sum:=by
 induction xs with
 |nil=>intro a;simp
 |cons x r ih=>intro a;rw [N8,ih,Array.size_append,F1,L3,Nat.add_assoc]
theorem DE (k:Nat) (z:Str):(EH k z).length=k*z.length:=by
 show ((E2 k z.cps).foldl (·++·) #[]).size=_
 rw [Pg]
 simp [Str.length]
def rMulS:R2:=λx y H Q=>∃ (z:Str) (k:Nat),x=.str z/\y=.int k/\k<=1000/\z.length*k<=sizeLine/\Q (.str (EH k z)) H
theorem op_mulS {X:Cx}:ES X (binaryOp .Mult) rMulS:=by
 intro pins s σ H x y v u Q I rx ry h
 obtain ⟨z,k,rfl,rfl,hk0,hz,q⟩:=h
 obtain ⟨t,rfl⟩:=rx
 obtain ⟨t',rfl⟩:=ry
 by_cases hk:(k:Int)<1
 ·have k0:k=0:=by lia
  subst k0
  refine N9 hk (by kd_p) ⟨.str _,H,I.tok _,⟨_,rfl⟩,?_⟩
  exact q
 have hsl:sizeLine=16777216:=by kd_p
 by_cases h1:((k:Int) == 1||z.length == 0)=true
 ·have e:EH k z=z:=by
   rcases Bool.or_eq_true_iff.mp h1 with e | e
   ·have k1:k=1:=by have:=eq_of_beq e;lia
    subst k1
    show (⟨#[]++z.cps⟩:Str)=z
    rw [Array.empty_append]
   ·have e0:z.length=0:=eq_of_beq e
    have hr:=DE k z
    rw [e0,Nat.mul_zero] at hr
    have c1:z.cps=#[]:=L6.mp e0
    have c2:(EH k z).cps=#[]:=L6.mp hr
    have:∀ {a b:Str},a.cps=b.cps->a=b:=λ{a b} h=>by cases a;cases b;simp_all
    exact this (c2.trans c1.symm)
  rw [e] at q
  ·refine Q7 ?_ (λ_ h=>by rw [h1] at h;cases h) (λ_ h=>by rw [h1] at h;cases h) ?_
   ·rw [decide_eq_false (by lia),decide_eq_false (by lia)];rfl
   ·rw [if_neg hk,if_pos h1]
    exact ⟨.str _,H,I,⟨_,rfl⟩,q⟩
 ·have h1':((k:Int) == 1||z.length == 0)=false:=by
   cases e:((k:Int) == 1||z.length == 0) with
   |true=>exact absurd e h1
   |false=>rfl
  have hz0:z.length≠0:=λe=>by rw [e] at h1';simp at h1'
  have hkk:k<=sizeLine:=T0 (A9 k (Nat.pos_of_ne_zero hz0)) hz
  refine Q7 ?_ (λ_ _=>?_) (λ_ _=>?_) ?_
  ·rw [decide_eq_false (by lia),decide_eq_false (by lia)];rfl
  ·have:z.length*k<=16777216:=by lia
   rw [Int.not_gt_eq]
   refine (D9 (by lia)).mpr ?_
   have e:((z.length:Int)*(k:Int))=((z.length*k:Nat):Int):=by simp
   rw [e]
   lia
  ·show decide (z.length*((k:Int)).toNat > sizeLine)=false
   rw [N3]
   exact decide_eq_false (by lia)
  ·rw [if_neg hk,if_neg h1]
   exact ⟨by rw [N3];show (EH k z).length<=sizeLine;rw [DE,z8];exact hz,.str _,H,I.tok _,⟨_,rfl⟩,by rw [N3];exact q⟩
end L2
namespace L2
open PySem PySem.Spec PyProof.Rows PySem.Builtin PySem.Builtin.Str
theorem QQ {prog:Program} {w:World} {A:Around} {E:Value->Shared->Prop} {s:Shared} {x:Str} {t u:Tok} {c:Nat} {Q:Value->Shared->Prop} (hx:x.length<=sizeLine) (hn:(Txt.split x ⟨#[c]⟩).length<=sizeLine)
  (q:∀ (l:List (Str×Tok)) (k:Nat),l.map (·.1)=Txt.split x ⟨#[c]⟩->Q (.ref s.heap.objs.size) { s with heap:=s.heap.push { cls:=.type "list",data:=.seq (strValues l).toArray },toks:=k }) :
  wpAny (model prog w) A (call (.builtin "str.split") [.str x t,.str ⟨#[c]⟩ u]) Q E s:=by
 have ne:((⟨#[c]⟩:Str).length == 0)=false:=rfl
 have def_:Txt.split x ⟨#[c]⟩=if (decide (x.length<(⟨#[c]⟩:Str).length)||decide (strKind x<strKind ⟨#[c]⟩))=true then [x] else if (occurrences x ⟨#[c]⟩ 0 x.length (x.length+1)).isEmpty=true then [x] else partsBetween x (occurrences x ⟨#[c]⟩ 0 x.length (x.length+1)) (⟨#[c]⟩:Str).length:=rfl
 by_cases no:(decide (x.length<(⟨#[c]⟩:Str).length)||decide (strKind x<strKind ⟨#[c]⟩))=true
 ·rw [if_pos no] at def_
  exact call_meets F.slot_str_split (typeIs_str _ _ _) F.entry_str_split (F.args_str_split_2 _ _) (meets_str_split_cannot_occur x _ t u no) (q [(x,t)] s.toks def_.symm)
 ·have no':(decide (x.length<(⟨#[c]⟩:Str).length)||decide (strKind x<strKind ⟨#[c]⟩))=false:=by simpa using no
  rw [if_neg no] at def_
  by_cases em:(occurrences x ⟨#[c]⟩ 0 x.length (x.length+1)).isEmpty=true
  ·rw [if_pos em] at def_
   exact call_meets F.slot_str_split (typeIs_str _ _ _) F.entry_str_split (F.args_str_split_2 _ _) (meets_str_split_not_found x _ t u no' ne em) (q [(x,t)] s.toks def_.symm)
  ·rw [if_neg em] at def_
   rw [def_] at hn
   refine call_meets F.slot_str_split (typeIs_str _ _ _) F.entry_str_split (F.args_str_split_2 _ _) (meets_str_split_sep x _ t u no' ne (by simpa using em) hx hn) ?_
   have h:=q (numbered s.toks (partsBetween x (occurrences x ⟨#[c]⟩ 0 x.length (x.length+1)) (⟨#[c]⟩:Str).length))
   have h2:=λk=>h k ((numbered_texts _ _).trans def_.symm)
   rw [<- strsFrom_eq] at h2
   exact h2 _
def rSplit:V->List V->Hp->VK->Prop:=λx vs H Q=>∃ (z:Str) (c:Nat),x=.str z/\vs=[.str ⟨#[c]⟩]/\z.length<=10000000/\∀ l,H l=none->Q (.ref l) (upd H l (.lst ((Txt.split z ⟨#[c]⟩).map V.str)))
theorem Ki:∀ (l:List (Str×Tok)),AL ((l.map (·.1)).map V.str) (strValues l)
 |[]=>.nil
 | (x,t)::r=>.cons ⟨t,rfl⟩ (Ki r)
section
variable {X:Cx}
theorem EJ:MtR X "str.split" rSplit:=by
 intro pins s σ H x vs v us Q I rx rv h
 obtain ⟨z,c,rfl,rfl,hz,q⟩:=h
 obtain ⟨t,rfl⟩:=rx
 obtain ⟨u,rfl,ru⟩:=Eo rv
 obtain ⟨t',rfl⟩:=ru
 have sl:=split_le z ⟨#[c]⟩
 have hs:z.length<=sizeLine:=T0 hz (by kd_p)
 have hn:(Txt.split z ⟨#[c]⟩).length<=sizeLine:=T0 sl (T0 (Nat.add_le_add_right hz 2) (by kd_p))
 refine QQ hs hn λl k e=>?_
 refine ⟨.ref s.heap.objs.size,_,I.laid (t':=k) (λb o g=>Heap.get?_push_of_some _ g) (V0 _) (show BC X.prog X.w _ _ _ (.lst ((Txt.split z ⟨#[c]⟩).map V.str)) from ⟨by rw [L0];exact hn,strValues l,0,?_,Heap.get?_push_size _ rfl⟩),rfl,q _ (I.hok.fresh (V0 _))⟩
 rw [<- e]
 exact Ki l
theorem Ia:Ek X (.type "int") (λxs H Q=>∃ (z:Str) (n:Int),xs=[.str z]/\intText? z=some n/\z.length<=640/\Q (.int n) H):=by
 intro pins s σ H xs us Q I r h
 obtain ⟨z,n,rfl,h0,h1,q⟩:=h
 obtain ⟨u,rfl,rx⟩:=Eo r
 obtain ⟨t,rfl⟩:=rx
 exact PySem.W.KIN.call_text h0 h1 ⟨.int n,H,I.tok _,⟨_,rfl⟩,q⟩
end
theorem join_cps (c:Nat):∀ (a:Str) (r:List Str),(Str.join ⟨#[c]⟩ (a::r)).cps.toList=a.cps.toList++(r.map λb=>c::b.cps.toList).flatten
 |a,[]=>by simp [Str.join]
 |a,b::r=>by
  have ih:=join_cps c b r
  show (a++⟨#[c]⟩++Str.join ⟨#[c]⟩ (b::r)).cps.toList=_
  show ((a.cps++#[c])++(Str.join ⟨#[c]⟩ (b::r)).cps).toList=_
  rw [g6,g6,ih]
  simp
theorem Qs {c:Nat}:∀ {a b x y:List Nat},c∉a->c∉b->a++c::x=b++c::y->a=b/\x=y
 |[],[],_,_,_,_,h=>⟨rfl,(T5.inj h).2⟩
 |[],d::b,_,_,_,hb,h=>absurd (K0.mpr (.inl (T5.inj h).1)) hb
 |d::a,[],_,_,ha,_,h=>absurd (K0.mpr (.inl (T5.inj h).1.symm)) ha
 |d::a,e::b,x,y,ha,hb,h=>by
  have h1:=T5.inj h
  obtain ⟨e1,e2⟩:=Qs (λz=>ha (A0 _ z)) (λz=>hb (A0 _ z)) h1.2
  exact ⟨by rw [h1.1,e1],e2⟩
theorem NT {c:Nat} {a b x:List Nat} (ha:c∉a) (h:a=b++c::x):False:=ha (by rw [h];simp)
theorem Nz (c:Nat):∀ {l m:List Str},l≠[]->m≠[]->(∀ a∈l,c∉a.cps.toList)->(∀ a∈m,c∉a.cps.toList)->Str.join ⟨#[c]⟩ l=Str.join ⟨#[c]⟩ m->l=m
 |[],_,h,_,_,_,_=>absurd rfl h
 |_,[],_,h,_,_,_=>absurd rfl h
 |a::l,b::m,_,_,hl,hm,h=>by
  have e:=congrArg (λz:Str=>z.cps.toList) h
  simp only [join_cps] at e
  have ha:=hl a C0
  have hb:=hm b C0
  cases l with
  |nil =>
   cases m with
   |nil =>
    simp at e
    have:a=b:=by cases a;cases b;simpa using e
    rw [this]
   |cons b2 m=>exact (NT ha (by simpa using e)).elim
  |cons a2 l =>
   cases m with
   |nil=>exact (NT hb (by simpa using e.symm)).elim
   |cons b2 m =>
    simp only [F1,E6,T6] at e
    obtain ⟨e1,e2⟩:=Qs ha hb e
    have e3:a=b:=by cases a;cases b;simpa using e1
    have e4:Str.join ⟨#[c]⟩ (a2::l)=Str.join ⟨#[c]⟩ (b2::m):=by
     apply Str.ext'
     apply Array.toList_inj.mp
     rw [join_cps,join_cps]
     exact e2
    rw [e3,Nz c (by simp) (by simp) (λx hx=>hl x (A0 _ hx)) (λx hx=>hm x (A0 _ hx)) e4]
end L2
namespace L2
open PySem PySem.Spec PyProof.Rows
theorem Ax.turnedN {X:Cx} {pins:List (Addr×Obj)} {σ:List (Option V)} {H:Hp} {s:Shared} {h':Heap} {t':Nat} {ch:List Addr} (I:Ax X pins σ H s) (k:∀ b o,b∉ch->s.heap.get? b=some o->h'.get? b=some o) (f:∀ c∈ch,EE X pins H c):Ax X pins σ H { s with heap:=h',toks:=t' }:=by
 have ni:∀ b u,H b=some u->b∉ch:=λb u q m=>by
  rw [(f b m).1] at q;cases q
 refine I.step (g':=s.gens) (d':=s.drawn) (ch:=ch) (λb hb=>?_) (λb o _ _ hc q _=>k b o hc q) (λb o _ _ hc q _=>⟨o.slots,k b o hc q⟩) (λ_ _ _ _ n=>n)
  (λb o hc q=>⟨o,k b o hc q⟩) (λ_ _ q=>q) (λ_ _ _ q=>q) (λb ps q=>⟨#[],by rw [q];simp⟩) (λm hm=>?_) (λb u q=>?_) I.bare
 ·obtain ⟨_,f1,_,f3,f4,f5⟩:=f b hb
  exact ⟨f3,f1,f4,f5⟩
 ·obtain ⟨o,es,ep,ho,r⟩:=hm
  exact ⟨o,es,ep,k _ o (λhc=>(f _ hc).2.1 rfl) ho,r⟩
 ·refine (I.hok b u q).stay (λc v hc q'=>k c v ?_ q') (λ_ q=>q) λ_ _ q=>q
  rcases hc with z | z
  ·rw [z];exact ni b u q
  ·exact ni c _ z
def Itz (K:J0) (a b:Addr):It :=
 ⟨λi H=>∃ xs ys x y,Aw K H a xs/\Aw K H b ys/\xs[i]?=some x/\ys[i]?=some y,λi H v H'=>∃ p x y,v=.ref p/\H p=none/\H'=upd H p (.tup [x,y])/\(∀ xs,Aw K H a xs->xs[i]?=some x)/\∀ ys,Aw K H b ys->ys[i]?=some y,λi H=>∃ xs ys,Aw K H a xs/\Aw K H b ys/\(xs.length<=i\/ys.length<=i)⟩
structure ZAp (z TI TO i1 i2:Addr):Prop where
 a1:TI≠z
 a2:TO≠z
 a3:i1≠z
 a4:i2≠z
 a5:TI≠TO
 a6:TI≠i1
 a7:TI≠i2
 a8:TO≠i1
 a9:TO≠i2
 a10:i1≠i2
theorem Eh {h:Heap} {a b:Addr} {o p:Obj} (ha:h.get? a=some o) (hb:h.get? b=some p) (n:o.cls≠p.cls):a≠b:=λe=>by
 subst e
 rw [ha] at hb
 cases hb
 exact n rfl
theorem ZAp.apart {z TI TO i1 i2 l1 l2:Addr} {h:Heap} {xs ys:Array Value} {f0 a b:Value} {k1 k2:Nat} {m1 m2:Addr} (Z:ZAp z TI TO i1 i2) (hz:IsZip h z TI TO f0) (hO:IsPair h TO a b) (h1:h.IsListIter i1 m1 k1) (h2:h.IsListIter i2 m2 k2) (g1:h.IsList l1 xs) (g2:h.IsList l2 ys):ZipApart z TI TO i1 i2 l1 l2:=by
 obtain ⟨o1,e1,c1,_⟩:=h1
 obtain ⟨o2,e2,c2,_⟩:=h2
 obtain ⟨p1,d1,b1,_⟩:=g1
 obtain ⟨p2,d2,b2,_⟩:=g2
 refine ⟨Z.a1,Z.a2,Z.a3,Z.a4,Z.a5,Z.a6,Z.a7,Z.a8,Z.a9,Z.a10,Eh d1 hz ?_,Eh d1 hO ?_,Eh d1 e1 ?_,Eh d1 e2 ?_,Eh d2 hz ?_,Eh d2 hO ?_,Eh d2 e1 ?_,Eh d2 e2 ?_⟩
 ·rw [b1];show Value.type "list"≠Value.type "zip";decide
 ·rw [b1];show Value.type "list"≠Value.type "tuple";decide
 ·rw [b1,c1];decide
 ·rw [b1,c2];decide
 ·rw [b2];show Value.type "list"≠Value.type "zip";decide
 ·rw [b2];show Value.type "list"≠Value.type "tuple";decide
 ·rw [b2,c1];decide
 ·rw [b2,c2];decide
def znow (z TI TO i1 i2 l1 l2:Addr) (i:Nat) (h:Heap):Prop:=IsZip h z TI TO .none/\IsPair h TI (.ref i1) (.ref i2)/\(∃ a b,IsPair h TO a b)/\h.IsListIter i1 l1 i/\h.IsListIter i2 l2 i
theorem Sf {P:Program} {w:World} {K:J0} {es:List Expr} {x1} {pos:Pos} (z TI TO i1 i2 l1 l2:Addr) (Z:ZAp z TI TO i1 i2):Kc P w K (.Tuple es x1 pos) (Itz K l1 l2) [z,TI,TO,i1,i2] z (znow z TI TO i1 i2 l1 l2) where
 mem:=by simp
 obj:=λi h st b hb=>by
  obtain ⟨hz,hI,⟨a,c,hO⟩,h1,h2⟩:=st
  simp only [K0,A1,or_false] at hb
  rcases hb with rfl | rfl | rfl | rfl | rfl
  ·exact ⟨_,hz,λv q=>nomatch q⟩
  ·exact ⟨_,hI,λv q=>nomatch q⟩
  ·exact ⟨_,hO,λv q=>nomatch q⟩
  ·obtain ⟨o,e,_,d⟩:=h1
   exact ⟨o,e,λv q=>by rw [d] at q;cases q⟩
  ·obtain ⟨o,e,_,d⟩:=h2
   exact ⟨o,e,λv q=>by rw [d] at q;cases q⟩
 keep:=λi h h' st k=>by
  obtain ⟨hz,hI,⟨a,c,hO⟩,h1,h2⟩:=st
  exact ⟨k z (by simp) _ hz,k TI (by simp) _ hI,⟨a,c,k TO (by simp) _ hO⟩,h1.at λo q=>k i1 (by simp) o q,h2.at λo q=>k i2 (by simp) o q⟩
 item:=by
  intro X hP hw hK hc i pins s σ H E I hf st hg
  subst hP hw hK
  obtain ⟨xs,ys,x,y,q1,q2,hx,hy⟩:=hg
  obtain ⟨t1,rv1,p1,z1⟩:=I.list q1
  obtain ⟨t2,rv2,p2,z2⟩:=I.list q2
  obtain ⟨u1,hu1,ru1⟩:=rv1.get hx
  obtain ⟨u2,hu2,ru2⟩:=rv2.get hy
  obtain ⟨hz,hI,⟨a,c,hO⟩,h1,h2⟩:=st
  have D:=Z.apart hz hO h1 h2 p1.isList p2.isList
  have lz:=Heap.lt_size hz
  have lI:=Heap.lt_size hI
  have lO:=Heap.lt_size hO
  have l1':i1<s.heap.objs.size:=by obtain ⟨_,q,_⟩:=h1;exact Heap.lt_size q
  have l2':i2<s.heap.objs.size:=by obtain ⟨_,q,_⟩:=h2;exact Heap.lt_size q
  refine wpAny_pyNext_zip_item D hz hI hO h1 h2 p1.isList p2.isList (x:=u1) (y:=u2) (by simpa using hu1) (by simpa using hu2) λh' b1 b2 b3 b4 b5 b6 hk=>?_
  refine ⟨_,rfl,wpAny_letOwnedTupleGo_zip b1 λh'' bz bs=>?_⟩
  have hfr:H s.heap.objs.size=none:=I.hok.fresh (V0 _)
  have I1:Ax X pins σ (upd H s.heap.objs.size (.tup [x,y])) { s with heap:=s.heap.push { cls:=.type "tuple",data:=.seq #[u1,u2] },toks:=s.toks } :=
   I.laid (t':=s.toks) (λb v q=>Heap.get?_push_of_some _ q) (V0 _) ⟨show 2<=sizeLine by kd_p,[u1,u2],.cons ru1 (.cons ru2 .nil),⟨_,Heap.get?_push_size _ rfl,rfl,_,rfl⟩⟩
  have small:∀ b∈[z,TI,TO,i1,i2],b<s.heap.objs.size:=λb hb=>by
   simp only [K0,A1,or_false] at hb
   rcases hb with rfl | rfl | rfl | rfl | rfl<;>assumption
  have up:∀ b∈[z,TI,TO,i1,i2],EE X pins (upd H s.heap.objs.size (.tup [x,y])) b:=λb hb=>⟨by rw [Ap (Y1 (small b hb))];exact (hf b hb).1,(hf b hb).2⟩
  have I2:Ax X pins σ (upd H s.heap.objs.size (.tup [x,y])) { s with heap:=h'',toks:=s.toks } :=
   Ax.turnedN (s:={ s with heap:=s.heap.push { cls:=.type "tuple",data:=.seq #[u1,u2] },toks:=s.toks }) (h':=h'') (t':=s.toks) (ch:=[z,TI,TO,i1,i2]) I1 (λb o hb q=>by
    simp only [K0,A1,or_false,not_or] at hb
    obtain ⟨n1,n2,n3,n4,n5⟩:=hb
    refine bs.extBut b o n1 ?_
    by_cases e:b=s.heap.objs.size
    ·subst e
     rw [Heap.get?_push_size _ rfl] at q
     cases q
     exact b5
    ·refine hk b o n1 n3 n4 n5 ?_
     rw [<- q]
     exact (Heap.get?_push_ne _ _ _ e).symm) up
  refine ⟨.ref s.heap.objs.size,_,I2,rfl,⟨_,x,y,rfl,hfr,rfl,λzs hs=>by rw [I.list_inj hs q1];exact hx,λzs hs=>by rw [I.list_inj hs q2];exact hy⟩,⟨bz,bs.extBut _ _ Z.a1 (hk _ _ Z.a1 Z.a5 Z.a6 Z.a7 hI),⟨_,_,bs.extBut _ _ Z.a2 b2⟩,b3.extBut bs.extBut Z.a3,b4.extBut bs.extBut Z.a4⟩,λb hb=>(up b hb).1⟩
 done:=by
  intro X hP hw hK hc i pins s σ H E I hf st hg
  subst hP hw hK
  obtain ⟨xs,ys,q1,q2,hx⟩:=hg
  obtain ⟨t1,rv1,p1,z1⟩:=I.list q1
  obtain ⟨t2,rv2,p2,z2⟩:=I.list q2
  obtain ⟨hz,hI,⟨a,c,hO⟩,h1,h2⟩:=st
  have D:=Z.apart hz hO h1 h2 p1.isList p2.isList
  have e1:=rv1.length
  have e2:=rv2.length
  refine wpAny_pyNext_zip_end (I.ok.hd hc) D hz hI hO h1 h2 p1.isList p2.isList (hx.imp (λq=>by simp;lia) (λq=>by simp;lia)) λh' hk=>⟨rfl,Ax.turnedN (t':=s.toks) (ch:=[z,TI,TO,i1,i2]) I (λb o hb q=>?_) hf⟩
  simp only [K0,A1,or_false,not_or] at hb
  obtain ⟨n1,n2,n3,n4,n5⟩:=hb
  exact hk b o n1 n3 n4 n5 q
 self:=λ_ _ _ _ _ st h=>wpAny_pyIter_zip st.1 h
theorem zap (n:Nat):ZAp (n+4) (n+2) (n+3) n (n+1) :=
 have q:∀ {i j:Nat},i≠j->∀ {a b:Addr},a=i->b=j->a≠b:=λh _ _ e1 e2 e=>h (e1.symm.trans (e.trans e2))
 ⟨q (i:=n+2) (j:=n+4) (by lia) rfl rfl,q (i:=n+3) (j:=n+4) (by lia) rfl rfl,q (i:=n) (j:=n+4) (by lia) rfl rfl,q (i:=n+1) (j:=n+4) (by lia) rfl rfl,q (i:=n+2) (j:=n+3) (by lia) rfl rfl,q (i:=n+2) (j:=n) (by lia) rfl rfl,q (i:=n+2) (j:=n+1) (by lia) rfl rfl,q (i:=n+3) (j:=n) (by lia) rfl rfl,q (i:=n+3) (j:=n+1) (by lia) rfl rfl,q (i:=n) (j:=n+1) (by lia) rfl rfl⟩
theorem bt_zip:bootBuiltins "zip"=some (.type "zip"):=by lk
def iZip (K:J0) (ta:TA):TI:=λσ H R=>ta σ H λvs H1=>∃ a b:Addr,vs=[.ref a,.ref b]/\(∃ xs,Aw K H1 a xs)/\(∃ ys,Aw K H1 b ys)/\R (Itz K a b) H1
theorem SZ {X:Cx} {es:List Expr} {x1} {tpos:Pos} {a b:Expr} {ta:TA} {p pos:Pos} (hg:Gl X "zip") (hm:X.mg "zip"=none) (ha:PA X [a,b] ta) (hs:starEach [a,b] X.env=(false,eval a X.env)::starEach [b] X.env:=by rfl) (hs2:(backTo pos (starEach [b] X.env)).any (·.1)=false:=by rfl):PI X (.Tuple es x1 tpos) (.Call (.Name "zip" p) [a,b] [] pos) (iZip X.K ta):=by
 intro pins s σ H R I h
 refine Call_ (GO I hg hm bt_zip (X5 (Bt (ha pos pins s σ H _ I h) λus s1 ⟨vs,H1,I1,r1,q1⟩=>?_) hs hs2))
 obtain ⟨l1,l2,q0,⟨xs,hq1⟩,⟨ys,hq2⟩,q⟩:=q1
 subst q0
 obtain ⟨u1,u2,rfl,r1,r2⟩:=RZ r1
 cases r1
 cases r2
 obtain ⟨t1,rv1,p1,z1⟩:=I1.list hq1
 obtain ⟨t2,rv2,p2,z2⟩:=I1.list hq2
 refine call_zip_2 p1.isList p2.isList λh' hz hI hO h1 h2 hsz hk=>wpAny_pyIter_zip hz ?_
 have ne:∀ {i j:Nat},i≠j->s1.heap.objs.size+i≠s1.heap.objs.size+j:=λh=>by lia
 refine ⟨s1.heap.objs.size+4,[s1.heap.objs.size+4,s1.heap.objs.size+2,s1.heap.objs.size+3,s1.heap.objs.size,s1.heap.objs.size+1],_,_,H1,rfl,I1.kept (t':=s1.toks) hk,Sf (s1.heap.objs.size+4) (s1.heap.objs.size+2) (s1.heap.objs.size+3) s1.heap.objs.size (s1.heap.objs.size+1) l1 l2 (zap _),⟨hz,hI,⟨_,_,hO⟩,h1,h2⟩,λb hb=>?_,q⟩
 have hb':s1.heap.objs.size<=b:=by
  simp only [K0,A1,or_false] at hb
  rcases hb with rfl | rfl | rfl | rfl | rfl
  ·exact Q6 _ _
  ·exact Q6 _ _
  ·exact Q6 _ _
  ·exact V0 _
  ·exact Q6 _ _
 exact I1.fpOk hb' (I1.hok.fresh hb')
theorem lc_zip {K:J0} {a b:Addr} {xs ys:List V} {sel:List (Option Nat)} {g:TG} {tt:TT} {te:TE} {σ:St} {H:Hp} {Qe:List V->Hp->Prop} (hlen:xs.length=ys.length) (Pv:Nat->List V->Hp->Prop) (h0:Pv 0 [] H)
  (hl:∀ i zs H,i<=xs.length->Pv i zs H->Aw K H a xs/\Aw K H b ys/\zs.length<=i) (hz:xs.length<=sizeLine)
  (hs:∀ i x y p zs H,xs[i]?=some x->ys[i]?=some y->Pv i zs H->H p=none->g (.ref p) (Ft sel σ) (upd H p (.tup [x,y])) λσ2 H2=>tt σ2 H2 λb H3=>if b=true then te σ2 H3 λy H4=>Pv (i+1) (zs++[y]) H4 else Pv (i+1) zs H3)
  (hd:∀ zs H,Pv xs.length zs H->Qe zs H):∃ W:Nat->Nat->List V->Hp->Prop,(∃ m,W 0 m [] H)/\FI sel g tt te σ (Itz K a b) W Qe:=by
 refine ⟨λi m zs H=>m=xs.length-i/\i<=xs.length/\Pv i zs H,⟨_,rfl,N1 _,h0⟩,?_⟩
 rintro i m zs H ⟨rfl,hi,p⟩
 obtain ⟨hA,hB,hy⟩:=hl i zs H hi p
 by_cases e:i=xs.length
 ·subst e
  exact .inl ⟨⟨xs,ys,hA,hB,.inl (V0 _)⟩,hd _ _ p⟩
 ·have lt1:i<xs.length:=r6 hi e
  have lt2:i<ys.length:=by lia
  refine .inr ⟨⟨xs,ys,xs[i],ys[i],hA,hB,by simp [lt1],by simp [lt2]⟩,by lia,Pv (i+1),λzs' H' p'=>⟨xs.length-(i+1),by lia,rfl,lt1,p'⟩,?_⟩
  rintro v H' ⟨q,x,y,rfl,hq,rfl,hx,hy⟩
  exact hs i x y q zs H (hx xs hA) (hy ys hB) p hq
section
variable {X:Cx} {o e i:Expr} {apos cpos pos:Pos} {td ty:TE}
def Su (P:Program) (w:World) (K:J0) (neg:Bool) (ty td:TE):TE:=λσ H Q=>ty σ H λy H1=>td σ H1 λx H2=>∃ a kvs k,x=.ref a/\RT P w K a kvs/\y=kV k/\Q (.bl (neg^^(valV kvs k).isSome)) H2
theorem LD (hi:PE X i ty) (ho:PE X o td):PC X .In i o (Su X.prog X.w X.K false ty td):=by
 intro pins s σ H Q I h
 refine Bt (hi pins s σ H _ I h) λiv s1 ⟨y,H1,I1,ry,q1⟩=>Bt (ho pins s1 σ H1 _ I1 q1) λu s2 ⟨x,H2,I2,rx,a,kvs,k,ex,d,ey,q2⟩=>?_
 subst ex ey
 obtain rfl:u=Value.ref a:=rx
 obtain ⟨vs,rel,dd⟩:=d.2 s2.heap I2.kIn
 refine wpAny_in_of (Hj ry) d.1 dd.mapOf ?_
 rw [<- (rel.val k).isSome_eq]
 exact ⟨.bl (valV kvs k).isSome,H2,I2.tok _,rfl,by rw [z6] at q2;exact q2⟩
theorem OF (hi:PE X i ty) (ho:PE X o td):PC X .NotIn i o (Su X.prog X.w X.K true ty td):=by
 intro pins s σ H Q I h
 refine Bt (hi pins s σ H _ I h) λiv s1 ⟨y,H1,I1,ry,q1⟩=>Bt (ho pins s1 σ H1 _ I1 q1) λu s2 ⟨x,H2,I2,rx,a,kvs,k,ex,d,ey,q2⟩=>?_
 subst ex ey
 obtain rfl:u=Value.ref a:=rx
 obtain ⟨vs,rel,dd⟩:=d.2 s2.heap I2.kIn
 refine wpAny_notIn_of (Hj ry) d.1 dd.mapOf ?_
 rw [<- (rel.val k).isSome_eq]
 exact ⟨.bl (!(valV kvs k).isSome),H2,I2.tok _,rfl,by rw [f8] at q2;exact q2⟩
def tDIxK (P:Program) (w:World) (K:J0) (td ty:TE):TE:=λσ H Q=>td σ H λx H1=>ty σ H1 λy H2=>∃ a kvs k v,x=.ref a/\RT P w K a kvs/\y=kV k/\valV kvs k=some v/\Q v H2
theorem pe_dixK (ho:PE X o td) (hi:PE X i ty) (hs:NoSl i):PE X (.Subscript o i pos) (tDIxK X.prog X.w X.K td ty):=by
 intro pins s σ H Q I h
 refine PJ PySem.F.slot_dict_getitem.lookup hs (Bt (ho pins s σ H _ I h) λu s1 ⟨x,H1,I1,rx,q1⟩=>Bt (hi pins s1 σ H1 _ I1 q1) λiv s2 ⟨y,H2,I2,ry,a,kvs,k,v,ex,d,ey,l,q2⟩=>?_)
 subst ex ey
 obtain rfl:u=Value.ref a:=rx
 obtain ⟨vs,rel,dd⟩:=d.2 s2.heap I2.kIn
 obtain ⟨w',hw,rw'⟩:=DL.some_of (v:=v) (o:=valueAt vs k) (by rw [<- l];exact rel.val k)
 exact ⟨dd.typeIs,wpAny_getItem_of (Hj ry) dd.mapOf hw ⟨v,H2,I2.tok _,rw',q2⟩⟩
def tDGetK1 (P:Program) (w:World) (K:J0) (td ty:TE):TE:=λσ H Q=>td σ H λx H1=>∃ a kvs,x=.ref a/\RT P w K a kvs/\ty σ H1 λy H2=>∃ k,y=kV k/\Q ((valV kvs k).getD .non) H2
theorem Rc (ho:PE X o td) (he:PE X e ty) (m:M1 X o "get" apos e cpos):PE X (.Call (.Attribute o "get" apos) [e] [] cpos) (tDGetK1 X.prog X.w X.K td ty):=by
 intro pins s σ H Q I h
 refine wpAny_Call_method m.base m.few m.line M5 V5 K9 (Bt (ho pins s σ H _ I h) λu s1 ⟨x,H1,I1,rx,a,kvs,ex,d,q1⟩=>?_)
 subst ex
 obtain rfl:u=Value.ref a:=rx
 obtain ⟨vs1,_,dd1⟩:=d.2 s1.heap I1.kIn
 refine ⟨dd1.typeIs,λb hb=>?_,?_⟩
 ·cases hb
  obtain ⟨o,es,ep,h1,h2,_⟩:=dd1
  exact ⟨o,h1,h2.2.1⟩
 rw [m.trees]
 refine Calls.callWith_builtin rfl (Calls.evalArgs_plain (Calls.spliced_cons (Bt (he pins s1 σ H1 _ I1 q1) λiv s2 ⟨y,H2,I2,ry,k,ey,q2⟩=>Calls.spliced_nil ?_)))
 subst ey
 obtain ⟨vs,rel,dd⟩:=d.2 s2.heap I2.kIn
 exact call_meetsIn V5 dd.typeIs L7 (PySem.F.args_dict_get_2 _ _) (meets_dict_get (BE X.prog X.w) a (Hj ry) d.1) ⟨_,dd.mapOf,_,H2,I2.tok _,(show Bd ((valV kvs k).getD .non) _ from (rel.val k).getD rfl),q2⟩
end
open AutoSeq1 (wpAny_loadPart')
theorem OX (l:Addr) (items:Array Value) (n:Nat) (dct:Option Addr) (sl:Array (Option Value)) (t:Tok) :
  Meets (Builtin.«enumerate.__new__» ⟨[.type "enumerate",.ref l],[("start",.int 1 t)]⟩) (λ_ R s=>s.heap.get? l=some { cls:=.type "list",dict:=dct,data:=.seq items n,slots:=sl } /\
   R (.ok (.ret (.ref (s.heap.push { cls:=.type "list_iterator",data:=.fields #[.ref l,.int 0 0] }).objs.size)))
    { s with heap:=(s.heap.push { cls:=.type "list_iterator",data:=.fields #[.ref l,.int 0 0] }).push { cls:=.type "enumerate",data:=.fields #[.none,.bool false,.ref s.heap.objs.size,rawInt 1,.none,.none] } }) :=
 .of_wp λprog w A R s h=>by
  obtain ⟨hp,g,d,tk,os⟩:=s;obtain ⟨hl,h⟩:=h
  have hsub:=sub_enumerate
  have hL:Heap.IsList (Shared.heap ⟨hp,g,d,tk,os⟩) l items:=⟨_,hl,rfl,n,rfl⟩
  wp_walk using wpAny_loadPart' hl
  refine wpAny_stack_any λst=>wpAny_pure ?_
  split
  ·rename_i cc _ _ _ _ _
   cases (cc == Value.type "enumerate")<;>(wp_walk using wpAny_pyIter_list hL,wpAny_loadPart' hl;exact ⟨_,rfl,h⟩)
  ·wp_walk using wpAny_pyIter_list hL,wpAny_loadPart' hl
   exact ⟨_,rfl,h⟩
theorem initE (a l:Value) (t:Tok):argsOk "object.__init__" ⟨[a,l],[("start",.int 1 t)]⟩:=by
 unfold argsOk;rw [signature?_of (id:="object.__init__") (n:=['_','_','t','i','n','i','_','_']) (o:=['t','c','e','j','b','o']) (by kernel_rfl) F.owner_object];kernel_rfl
theorem NF {self l:Value} {t:Tok}:Meets (Builtin.«object.__init__» ⟨[self,l],[("start",.int 1 t)]⟩) (λ_ R s=>s.TypeIs self "enumerate"/\R (.ok (.ret .none)) s):=by
 refine Meets.of_wp λprog w A R s hs=>?_
 obtain ⟨hT,hq⟩:=hs
 have g1:=F.called_enumerate.init.lookup
 have g2:=F.called_enumerate.made
 repeat (any_goals (first | assumption | wp_step))
 exact ⟨_,rfl,hq⟩
theorem Pp {prog:Program} {w:World} {A:Around} {E:Value->Shared->Prop} {s:Shared} {l:Addr} {items:Array Value} {t:Tok} {Q:Value->Shared->Prop} (hL:s.heap.IsList l items)
  (h:∀ h',IsEnum h' (s.heap.objs.size+1) s.heap.objs.size 1 .none->h'.IsListIter s.heap.objs.size l 0->(∀ b o,s.heap.get? b=some o->h'.get? b=some o)->Q (.ref (s.heap.objs.size+1)) { s with heap:=h' }) :
  wpAny (model prog w) A (call (.type "enumerate") [.ref l] [("start",.int 1 t)]) Q E s:=by
 obtain ⟨⟨c,dct,dt,sl⟩,hl,hc,n,hd⟩:=hL
 cases (show c=.type "list" from hc)
 cases (show dt=.seq items n from hd)
 have ft:=F.called_enumerate
 have k1:checkTypeCall "enumerate" ⟨[.ref l],[("start",.int 1 t)]⟩=pure ():=by kernel_rfl
 have k2:checkBuiltinCall "enumerate.__new__" ⟨[.type "enumerate",.ref l],[("start",.int 1 t)]⟩=pure ():=by kernel_rfl
 obtain ⟨c0,tl0,m0⟩:=ft.mro
 have m1:=ft.made
 have m2:=ft.sub
 have m3:=ft.notType
 have m4:=ft.canCreate
 have z:(s.heap.push { cls:=.type "list_iterator",data:=.fields #[.ref l,.int 0 0] }).objs.size=s.heap.objs.size+1:=Heap.size_push ..
 refine wpAny_call (codeAny_of_tree ?_)
 show wpAny _ _ (callAny (.type "enumerate") _) _ _ _
 refine wpAny_pure ⟨Code.quiet_builtin _ (by lk),codeAny_builtin F.entry_type_call ?_⟩
 rw [Around.under_plain (weight_type_call_type "enumerate" [.ref l] _) (units_type_call_type "enumerate" [.ref l] _)]
 repeat (any_goals (first | assumption | wp_step))
 obtain ⟨RR,hR⟩:∃ RR:Result->Shared->Prop,RR=λr s1=>r=.ok (.ret (.ref (s.heap.push { cls:=.type "list_iterator",data:=.fields #[.ref l,.int 0 0] }).objs.size))/\s1={ s with heap:=(s.heap.push { cls:=.type "list_iterator",data:=.fields #[.ref l,.int 0 0] }).push { cls:=.type "enumerate",data:=.fields #[.none,.bool false,.ref s.heap.objs.size,rawInt 1,.none,.none] } }:=⟨_,rfl⟩
 refine codeAny_mono (R:=RR) (codeAny_call_builtin ft.plain F.entry_enumerate_new (wpAny_of_eq k2 (OX l items n dct sl t prog w A.in1 RR s (And.intro hl (by rw [hR];exact ⟨rfl,rfl⟩))))) ?_
 intro r s1 hr
 rw [hR] at hr
 obtain ⟨rfl,e1⟩:=hr
 have he:IsEnum s1.heap (s.heap.objs.size+1) s.heap.objs.size 1 .none:=by
  rw [e1,<- z]
  exact Heap.get?_push_size _ rfl
 have hi:s1.heap.IsListIter s.heap.objs.size l 0:=by
  rw [e1]
  exact ⟨_,Heap.get?_push_of_some _ (Heap.get?_push_size _ rfl),rfl,rfl⟩
 have hk:∀ b o,s.heap.get? b=some o->s1.heap.get? b=some o:=λb o q=>by
  rw [e1]
  exact Heap.get?_push_of_some _ (Heap.get?_push_of_some _ q)
 have hQ:Q (.ref (s.heap.objs.size+1)) s1:=by
  have e2:s1={ s with heap:=s1.heap }:=by rw [e1]
  rw [e2]
  exact h _ he hi hk
 have hT:s1.TypeIs (.ref (s.heap.objs.size+1)) "enumerate":=⟨_,he,rfl⟩
 rw [z]
 have b1:=ft.init.lookup
 have b2:=ft.init.bind (.ref (s.heap.objs.size+1))
 clear e1 hl hk he hi h
 repeat (any_goals (first | assumption | wp_step))
 obtain ⟨RI,hI⟩:∃ RI:Result->Shared->Prop,RI=λr s2=>r=.ok (.ret .none)/\s2=s1:=⟨_,rfl⟩
 refine codeAny_mono (R:=RI) (codeAny_call_builtin ft.init.plain F.entry_object_init (ft.init.check _ _ _ _ _ _ _ _ hT (initE _ _ _) (NF prog w A.in1 RI s1 (And.intro hT (by rw [hI];exact ⟨rfl,rfl⟩))))) ?_
 intro r s2 hr
 rw [hI] at hr
 obtain ⟨rfl,rfl⟩:=hr
 repeat (any_goals (first | assumption | wp_step))
end L2
namespace L2
open PySem PySem.Spec PyProof.Rows
theorem NR {prog:Program} {w:World} {A:Around} {it:Addr} {fp:List Addr} {n:Nat} {P:Nat->Value->Prop} {S:Nat->Heap->Prop} (D:Draws prog w A it fp n P S):Draws prog w A it fp (n+1) (λj x=>∃ i,j=i+1/\P i x) (λj h=>∃ i,j=i+1/\S i h) where
 live:=λj h ⟨i,_,hs⟩=>D.live i h hs
 frame:=λj h h' ⟨i,e,hs⟩ k=>⟨i,e,D.frame i h h' hs k⟩
 item:=λj s Q E hj st hQ=>by
  obtain ⟨i,rfl,hs⟩:=st
  exact D.item i s Q E (by lia) hs λx h' tk px hs' sb=>hQ x h' tk ⟨i,rfl,px⟩ ⟨i+1,rfl,hs'⟩ sb
 done:=λs Q E st hE=>by
  obtain ⟨i,e,hs⟩:=st
  obtain rfl:n=i:=by lia
  exact D.done s Q E hs hE
def Vd (K:J0) (a:Addr):It :=
 ⟨λi H=>∃ xs x,Aw K H a xs/\xs[i]?=some x,λi H v H'=>∃ p x,v=.ref p/\H p=none/\H'=upd H p (.tup [.int ((i+1:Nat):Int),x])/\∀ xs,Aw K H a xs->xs[i]?=some x,λi H=>∃ xs,Aw K H a xs/\xs.length=i⟩
theorem Of {P:Program} {w:World} {K:J0} {es:List Expr} {x1} {pos:Pos} (a e it:Addr) (hne:e≠it):Kc P w K (.Tuple es x1 pos) (Vd K a) [e,it] e (λi h=>(∃ old,IsEnum h e it ((i+1:Nat):Int) old)/\h.IsListIter it a i) where
 mem:=by simp
 obj:=λi h st b hb=>by
  obtain ⟨⟨old,he⟩,hit⟩:=st
  rcases K0.mp hb with rfl | hb
  ·exact ⟨_,he,λv z=>nomatch z⟩
  ·cases M0.mp hb
   obtain ⟨o,q,_,d⟩:=hit
   exact ⟨o,q,λv z=>by rw [d] at z;cases z⟩
 keep:=λi h h' st k=>by
  obtain ⟨⟨old,he⟩,hit⟩:=st
  exact ⟨⟨old,k e (by simp) _ he⟩,hit.at λo q=>k it (by simp) o q⟩
 item:=by
  intro X hP hw hK hc i pins s σ H E I hf st hg
  subst hP hw hK
  obtain ⟨xs,x,hq,hx⟩:=hg
  obtain ⟨its,rv,p,hz⟩:=I.list hq
  obtain ⟨u,hu,ru⟩:=rv.get hx
  obtain ⟨⟨old,he⟩,hit⟩:=st
  have le:=Heap.lt_size he
  have li:it<s.heap.objs.size:=by obtain ⟨_,q,_⟩:=hit;exact Heap.lt_size q
  have nl:a≠it:=by
   obtain ⟨_,q1,c1,_⟩:=hit
   obtain ⟨_,q2,c2,_⟩:=p.isList
   exact Eh q2 q1 (by rw [c1,c2];decide)
  have nle:a≠e:=by
   obtain ⟨_,q2,c2,_⟩:=p.isList
   exact Eh q2 he (by rw [c2];show Value.type "list"≠Value.type "enumerate";decide)
  have D:=NR (Draws.list (prog:=X.prog) (w:=X.w) (A:=X.A.in1) (I.ok.hd hc) it a nl its.toArray)
  have lt:i<its.toArray.size:=by
   have:=(d0.mp hu).1
   simpa using this
  refine wpAny_pyNext_enum_itemD D (i:=i+1) he ⟨i,rfl,hit,p.isList⟩ (by lia) hne (by simp only [K0,A1,or_false,not_or];exact ⟨hne,Ne.symm nle⟩) λv h' tk pv ho hs hT hsz hk=>?_
  obtain ⟨i',ei,hv⟩:=pv
  obtain rfl:i=i':=by lia
  obtain rfl:u=v:=by
   have:its.toArray[i]?=some u:=by simpa using hu
   rw [this] at hv
   exact Option.some.inj hv
  obtain ⟨i2,ei2,hit',_⟩:=hs
  obtain rfl:i2=i+1:=by lia
  refine ⟨_,rfl,wpAny_letOwnedTupleGo_enum ho λh'' he'' hs''=>?_⟩
  have hfr:H s.heap.objs.size=none:=I.hok.fresh (V0 _)
  have I1:Ax X pins σ (upd H s.heap.objs.size (.tup [.int ((i+1:Nat):Int),x])) { s with heap:=s.heap.push { cls:=.type "tuple",data:=.seq #[.int ((i+1:Nat):Int) tk,u] },toks:=s.toks } :=
   I.laid (t':=s.toks) (λb v q=>Heap.get?_push_of_some _ q) (V0 _) ⟨show 2<=sizeLine by kd_p,[.int ((i+1:Nat):Int) tk,u],.cons ⟨_,rfl⟩ (.cons ru .nil),⟨_,Heap.get?_push_size _ rfl,rfl,_,rfl⟩⟩
  have up:∀ b∈[e,it],EE X pins (upd H s.heap.objs.size (.tup [.int ((i+1:Nat):Int),x])) b:=λb hb=>by
   have hlt:b<s.heap.objs.size:=by
    rcases K0.mp hb with rfl | hb
    ·exact le
    ·cases M0.mp hb;exact li
   exact ⟨by rw [Ap (Y1 hlt)];exact (hf b hb).1,(hf b hb).2⟩
  have I2:Ax X pins σ (upd H s.heap.objs.size (.tup [.int ((i+1:Nat):Int),x])) { s with heap:=h'',toks:=tk+1 } :=
   Ax.turnedN (s:={ s with heap:=s.heap.push { cls:=.type "tuple",data:=.seq #[.int ((i+1:Nat):Int) tk,u] },toks:=s.toks }) (h':=h'') (t':=tk+1) (ch:=[e,it]) I1 (λb o hb q=>by
    simp only [K0,A1,or_false,not_or] at hb
    rw [hs''.2 b hb.1]
    by_cases z:b=s.heap.objs.size
    ·subst z
     rw [Heap.get?_push_size _ rfl] at q
     cases q
     exact hT
    ·refine hk b o hb.1 hb.2 ?_
     rw [<- q]
     exact (Heap.get?_push_ne _ _ _ z).symm) up
  exact ⟨.ref s.heap.objs.size,_,I2,rfl,⟨_,x,rfl,hfr,rfl,λys hy=>by rw [I.list_inj hy hq];exact hx⟩,⟨⟨_,by simpa using he''⟩,hit'.at λo q=>(hs''.2 it hne.symm).trans q⟩,λb hb=>(up b hb).1⟩
 done:=by
  intro X hP hw hK hc i pins s σ H E I hf st hg
  subst hP hw hK
  obtain ⟨xs,hq,hx⟩:=hg
  obtain ⟨its,rv,p,hz⟩:=I.list hq
  obtain ⟨⟨old,he⟩,hit⟩:=st
  have hl:=rv.length
  have nl:a≠it:=by
   obtain ⟨_,q1,c1,_⟩:=hit
   obtain ⟨_,q2,c2,_⟩:=p.isList
   exact Eh q2 q1 (by rw [c1,c2];decide)
  have D:=NR (Draws.list (prog:=X.prog) (w:=X.w) (A:=X.A.in1) (I.ok.hd hc) it a nl its.toArray)
  have e1:its.toArray.size=i:=by simp;lia
  exact wpAny_pyNext_enum_endD D he ⟨i,by rw [e1],hit,p.isList⟩ λh' eb=>⟨rfl,Ax.turnedN (t':=s.toks) (ch:=[e,it]) I (λb o hb q=>eb b o (λz=>hb (by simp [z])) q) hf⟩
 self:=λ_ _ _ _ _ st h=>let ⟨_,he⟩:=st.1;wpAny_pyIter_enum he h
theorem Sd {M:Model} {A:Around} {E:Value->Shared->Prop} {s:Shared} {pos:Pos} {T:String} {args:List (Bool×Sem Value)} {keywords:List (Option Str×Sem Value)} {Q:Value->Shared->Prop} (hp:args.any (·.1)=false) (hk:keywords.any (·.1.isNone)=false)
  (h:wpAny M A (evalArgs (.type T) true args keywords) (λa s1=>wpAny M A (call (.type T) a.pos a.kw) Q E s1) E s):wpAny M A (callWith pos (.type T) [] args keywords) Q E s:=by
 unfold callWith
 refine wpAny_bind (wpAny_holding (wpAny_mono h (λa s1 g=>wpAny_bind (wpAny_standAt ?_)) λ_ _ q=>q))
 simp only [hp,hk,Z3]
 exact wpAny_bind (wpAny_pure (wpAny_bind (wpAny_mono g (λr s2 hr=>wpAny_bind (wpAny_holding (wpAny_point (wpAny_pure hr)))) λ_ _ q=>q)))
def Ui (K:J0) (te:TE):TI:=λσ H R=>te σ H λx H1=>∃ a:Addr,x=.ref a/\(∃ xs,Aw K H1 a xs)/\R (Vd K a) H1
theorem Ta {X:Cx} {es:List Expr} {x1 j} {tpos:Pos} {a:Expr} {te:TE} {p pos kp cp:Pos} (hg:Gl X "enumerate") (hm:X.mg "enumerate"=none) (ha:PE X a te) (hst:starEach [a] X.env=[(false,eval a X.env)]:=by rfl):PI X (.Tuple es x1 tpos) (.Call (.Name "enumerate" p) [a] [⟨some "start",.Constant (.int 1) j cp,kp⟩] pos) (Ui X.K te):=by
 intro pins s σ H R I h
 refine wpAny_Call_Name_kw (GO I hg hm Hq ?_)
 refine Sd (by rw [hst];rfl) rfl ?_
 rw [hst]
 refine evalArgs_kwB rfl ?_
 show wpAny _ _ (spliced ((false,eval a X.env)::backTo pos [])) _ _ s
 refine Calls.spliced_cons (Bt (ha pins s σ H _ I h) λu s1 ⟨x,H1,I1,rx,l,ex,⟨xs,hq⟩,q⟩=>Calls.spliced_nil ?_)
 subst ex
 cases rx
 refine kws_cons (Bt (Ac (X:=X) pins s1 σ H1 (λv G=>v=.int 1/\G=H1) I1 ⟨rfl,rfl⟩) λv s2 ⟨y,H2,I2,ry,ey,eH⟩=>kws_nil ?_)
 subst ey eH
 obtain ⟨t,rfl⟩:=ry
 obtain ⟨its,rv,pl,hz⟩:=I2.list hq
 refine Pp pl.isList λh' he hit hk=>wpAny_pyIter_enum he ?_
 refine ⟨s2.heap.objs.size+1,[s2.heap.objs.size+1,s2.heap.objs.size],_,_,H2,rfl,I2.kept (t':=s2.toks) hk,Of l _ _ (Nat.succ_ne_self _),⟨⟨_,he⟩,hit⟩,λb hb=>?_,q⟩
 rcases K0.mp hb with rfl | hb
 ·exact I2.fpOk (by lia) (I2.hok.fresh (by lia))
 ·cases M0.mp hb
  exact I2.fpOk (V0 _) (I2.hok.fresh (V0 _))
theorem Rt {K:J0} {a:Addr} {xs:List V} {g:TG} {tb:TS} {D:FO} {σ:St} {H:Hp} (Pv:Nat->St->Hp->Prop) (h0:Pv 0 σ H) (hl:∀ i σ H,i<=xs.length->Pv i σ H->Aw K H a xs)
  (hs:∀ i x p σ H,xs[i]?=some x->Pv i σ H->H p=none->g (.ref p) σ (upd H p (.tup [.int ((i+1:Nat):Int),x])) λσ2 H2=>tb { D with nx:=Pv (i+1),ct:=Pv (i+1),bk:=D.nx } σ2 H2) (hd:∀ σ H,Pv xs.length σ H->D.nx σ H) :
  ∃ W:Nat->Nat->St->Hp->Prop,(∃ m,W 0 m σ H)/\∀ i m σ H,W i m σ H ->
   ((Vd K a).stop i H/\D.nx σ H)\/((Vd K a).go i H/\∃ N:St->Hp->Prop,(∀ σ' H',N σ' H'->∃ m',m'<m/\W (i+1) m' σ' H')/\∀ x H',(Vd K a).yld i H x H'->g x σ H' λσ2 H2=>tb { D with nx:=N,ct:=N,bk:=D.nx } σ2 H2):=by
 refine ⟨λi m σ H=>m=xs.length-i/\i<=xs.length/\Pv i σ H,⟨xs.length,by simp,N1 _,h0⟩,?_⟩
 rintro i m σ H ⟨rfl,hi,p⟩
 have q:=hl i σ H hi p
 by_cases lt:i<xs.length
 ·refine .inr ⟨⟨xs,xs[i],q,by simp [lt]⟩,Pv (i+1),λσ' H' p'=>⟨xs.length-(i+1),by lia,rfl,lt,p'⟩,λv H' y=>?_⟩
  obtain ⟨b,x,rfl,hb,rfl,hx⟩:=y
  exact hs i x b σ H (hx xs q) p hb
 ·have z:xs.length=i:=by lia
  subst z
  exact .inl ⟨⟨xs,q,rfl⟩,hd σ H p⟩
section
variable {X:Cx} {tg:Expr}
end
section
variable {X:Cx}
def eqS (z:Str):Value->Bool:=λu=>match u with | .str a _=>a == z | _=>false
end
section
variable {X:Cx}
end
section
variable {X:Cx} {tg:Expr}
end
section
variable {pg:Program} {wd:World} {Ar:Around}
end
section
variable {pr:Program} {wd:World} {Ar:Around} {E:Value->Shared->Prop} {s:Shared} {z TI TO p q:Addr} {f g:List Addr} {n m:Nat} {P1 P2:Nat->Value->Prop} {S1 S2:Nat->Heap->Prop}
end
def Iw (l:List Addr) (h h':Heap):Prop:=∀ b o,h.get? b=some o->b∈l->∃ sl,h'.get? b=some { o with slots:=sl }
structure UnB (fs:List Addr) (H H':Hp) (h h':Heap):Prop where
 keep:∀ b o,h.get? b=some o->H b=none->b∉fs->h'.get? b=some o
 free:∀ b o,h.get? b=some o->H b=none->H' b=none
 there:∀ b o,h.get? b=some o->b∉fs->∃ o',h'.get? b=some o'
 tups:∀ b xs,H b=some (.tup xs)->H' b=some (.tup xs)
 frzs:∀ b o u,H b=some (.frz o u)->H' b=some (.frz o u)
 tbls:∀ b ps,H b=some (.tbl ps)->∃ more,H' b=some (.tbl (ps++more))
theorem UnB.un {fs:List Addr} {H H':Hp} {h h':Heap} (u:UnB fs H H' h h') (sl:Iw fs h h'):Un fs [] H H' h h' :=
 ⟨λb o e n hb _=>u.keep b o e n hb,λb o e _ hb _=>sl b o e hb,λb o e n _=>u.free b o e n,λb o e _=>by
  by_cases hb:b∈fs
  ·obtain ⟨z,q⟩:=sl b o e hb
   exact ⟨_,q⟩
  ·exact u.there b o e hb,u.tups,u.frzs,u.tbls⟩
theorem Iw.up {l:List Env} {base h h1 h2:Heap} (f:h.FunFrames base l) (a:Iw (IE l) h h1) (u:h1.UpToSlots h2):Iw (IE l) h h2:=λb o e hb=>by
 obtain ⟨_,o',e',hnf⟩:=f.mem hb
 rw [e] at e'
 cases e'
 obtain ⟨sl,q⟩:=a b o e hb
 obtain ⟨sl',q'⟩:=u b _ q hnf
 exact ⟨sl',q'⟩
theorem Ax.oldB {X:Cx} {pins:List (Addr×Obj)} {σ:St} {H:Hp} {s:Shared} (I:Ax X pins σ H s) {b:Addr} {o:Obj} (e:X.s₀.heap.get? b=some o) (hb:b∉IE X.outer):b∉IE X.stack:=λhs=>by
 rcases K0.mp (I.stkSub b hs) with z | z
 ·have:=Heap.lt_size e
  rw [z] at this
  exact absurd this (Nat.not_lt.mpr I.ok.above)
 ·exact hb z
theorem KQ {K:J0} {h:Heap} {C:Addr} {bmB:List Value} {newId:String} (X:K.In h) (q:z5 K C bmB newId=true) :
  ∃ bm N nm qn bs hdct sn sub ab col dd k0 k1 k2 k3 k5 mN,h.get? C=some (excClassObj nm qn C N bs bm hdct sn sub ab col dd k0 k1 k2 k3 k5 newId)/\h.Ns N mN/\mN "__init__"=none/\OwnTail h bmB bm:=by
 unfold z5 at q
 split at q
 ·rename_i dd cd sl ho
  split at q
  ·rename_i C' bm k0 k1 k2 k3 n k5 hm hs
   simp only [C1,beq_iff_eq,K6] at q
   obtain ⟨⟨⟨⟨⟨rfl,rfl⟩,hdel⟩,ht⟩,hok⟩,hni⟩:=q
   obtain ⟨nm,bs,mro,ns,qn,hd,sn,sub,ab,col,RO⟩:=cd
   dsimp only at hm hdel hok hni
   subst hm hdel
   obtain ⟨l⟩:=sl
   dsimp only at hs
   subst hs
   exact ⟨bm,ns,nm,qn,bs,hd,sn,sub,ab,col,dd,k0,k1,k2,k3,k5,_,X _ _ ho,.of_isNs (PySem.W.isNs_of_in X hok),PySem.W.nsMap_none_of_in X hok hni,PySem.W.tail_of_in X ht⟩
  ·cases q
 ·cases q
structure XCls (K:J0) (mg:Str->Option Value) (x:Str) (C:Addr):Prop where
 at_:mg x=some (.ref C)
 ex:z5 K C [.type "ValueError",.type "Exception",.type "BaseException",.type "object"] "ValueError.__new__"=true
section
variable {X:Cx}
end
section
variable {P:Program} {w:World} {K:J0} {mg:Str->Option Value} {base:Heap}
end
theorem fn_ofW {CX:Kf} {P:Program} {w:World} {K:J0} {mg:Str->Option Value} {base:Heap} {k:Nat} {f:Addr} {name qual:Str} {params:Arguments} {body:List Stmt} {scope:Scope} {dV kV doc pm cdv ct oc:Value} {an od:Option Addr}
  {osl:Array (Option Value)} {N ps:List Str} {sp:Sp} (lk:K.lookup f=some ⟨oc,od,.func (E3 name qual params body scope dV kV doc pm an cdv ct),osl⟩) (hcd:g4 K cdv qual=true) (S:DA N ps scope)
  (len:∀ vs H Q E,sp vs H Q E->vs.length=ps.length)
  (hbody:∀ (A:Around) (outer:List Env) (s:Shared) (H:Hp) (vs:List V) (Q:VK) (E:XK),Cm k (A.deeper (envOfC qual scope s.heap.objs.size f cdv))->sp vs H Q E ->
   ∀ s1,Ax (EB CX P w K mg base N qual scope f cdv A outer s H E) [] (start N vs) H s1->wpAny (model P w) (A.deeper (envOfC qual scope s.heap.objs.size f cdv)) (execs body (envOfC qual scope s.heap.objs.size f cdv)) (SP (EB CX P w K mg base N qual scope f cdv A outer s H E) [] { nx:=λ_ H'=>Q .non H',rt:=Q }) (EB CX P w K mg base N qual scope f cdv A outer s H E).xe s1) :
  BD P w K mg base CX (k+1) f (E3 name qual params body scope dV kV doc pm an cdv ct) ps sp:=by
 refine ⟨len,λA outer s H args us vs Q E hr e0 hb r hsp=>?_⟩
 have hl:=len _ _ _ _ hsp
 have KX:K.In s.heap:=e0.mod.kin.keeps λb o e=>(e0.bs b o e).1
 have lim:s.heap.NoLimit:=e0.mod.nolimit.keeps λb o e=>(e0.bs b o e).1
 have hkind:∀ y∈ps.zip us,scope.names.lookup y.1=some .local\/(scope.names.lookup y.1=some .cell/\((cellsFrom (s.heap.objs.size+1) scope.names []).lookup y.1).isSome=true):=λ⟨n,v⟩ hy=>by
  rcases S.par n (W6 hy).1 with q | q
  ·exact .inl q
  ·exact .inr ⟨q,D6 _ _ _ (.inl q)⟩
 refine codeAny_call_function hr.depth (KX _ _ lk) rfl S.co S.gen rfl (d7 KX hcd) (hb _ _ _ _ ?_)
 refine wpAny_newFunctionEnv_cells S.kind hkind λenv he s1 x=>?_
 subst he
 refine ⟨lim.keeps x.toInCall.keep,codeAny_func ?_⟩
 have hq:=hbody A outer s H vs Q E (hr.deeper _) hsp
 have I:Ax (EB CX P w K mg base N qual scope f cdv A outer s H E) [] (start N vs) H s1:=HU S hr.hd e0 hl r x
 refine wpAny_mono (hq s1 I) (λfl s' hs=>?_) λe s' hs=>hs
 have fin:∀ {σ':St} {H':Hp} {v:V} {u:Value},Ax (EB CX P w K mg base N qual scope f cdv A outer s H E) [] σ' H' s'->Bd v u->Q v H'->CE outer P w H s Q u s' :=
  λ{σ' H' v u} J rv q=>⟨v,H',J.os,J.bare,J.base,J.hok,rv,q⟩
 cases fl with
 |ret u =>
  obtain ⟨v,σ',H',J,rv,q⟩:=hs
  exact fin J rv q
 |next =>
  obtain ⟨σ',H',J,q⟩:=hs
  exact fin (v:=V.non) (u:=Value.none) J rfl q
 |brk =>
  obtain ⟨_,_,_,q⟩:=hs
  exact False.elim q
 |cont =>
  obtain ⟨_,_,_,q⟩:=hs
  exact False.elim q
section
variable {P:Program} {w:World} {K:J0} {mg:Str->Option Value} {base:Heap}
end
def TrD (h B:Heap) (e:Addr) (c:Value) (d:Option Addr) (fl:Value):Prop :=
 ∃ oe vs T oT ts,h.get? e=some oe/\((oe.cls=c/\oe.dict=d)/\vs[2]?=some .none)/\oe.data=.fields vs/\vs[1]?=some (.ref T)/\B.get? T=none/\T≠e/\h.get? T=some oT/\oT.data=.fields ts/\ts[3]?=some fl
theorem TF (f:Array Value->Array Value) (o:Obj):(Obj.mapFields f o).dict=o.dict:=by
 obtain ⟨c,d,x,sl⟩:=o
 cases x<;>rfl
def StpD (B:Heap) (l:List Env) (e:Addr) (c:Value) (d:Option Addr) (fl:Value) (h h':Heap):Prop:=B.StaysIn h'/\h'.FunFrames B l/\TrD h' B e c d fl/\h.UpToSlots h'
section
variable {M:Model} {A:Around} {E:Value->Shared->Prop} {s:Shared} {B:Heap} {env:Env} {outer l:List Env} {L e:Addr} {c:Value} {d:Option Addr}
theorem KO {oe:Obj} {vs:Array Value} {head:Value} {nx:Bool} {Q:Unit->Shared->Prop} (fr:A.frames=some (env::outer)) (ff:s.heap.FunFrames B (env::outer)) (hf:env.frame=some L) (at_:s.heap.get? e=some oe) (kb:B.StaysIn s.heap) (nb:B.get? e=none) (dat:oe.data=.fields vs) (sz:1<vs.size) (c2:vs[2]?=some .none)
  (k:∀ h',StpD B (env::outer) e oe.cls oe.dict (rawInt L) s.heap h'->Q () { s with heap:=h' }) :
  wpAny M A (do let a <- frameOf env;let pl <- entryPlaceOf L nx;let b <- EntryCells.newEntry head a .none (rawInt L) .none pl;setField (.ref e) 1 b) Q E s:=by
 have nfr:e∉(env::outer).filterMap (·.frame):=λz=>by
  obtain ⟨_,o,ho,hn⟩:=ff.mem z
  rw [at_] at ho;cases ho
  exact hn vs dat
 refine wpAny_bind (wpAny_frameOf_fun fr ff hf λh1 s1=>wpAny_bind (wpAny_entryPlaceOf λpl hpl=>?_))
 unfold EntryCells.newEntry newFields
 have at1:h1.get? e=some oe:=(s1.2.1 e nfr).trans at_
 have kb1:B.StaysIn h1:=λb o q=>(s1.2.1 b λz=>by rw [(ff.mem z).1] at q;cases q).trans (kb b o q)
 refine wpAny_bind (wpAny_newObj_type ?_ (hpl.sizeOk5 _ _ _ _ _))
 generalize hz:([head,Value.ref L,.none,rawInt L,.none]++(if pl.isEmpty then E2 6 Value.none else pl)).toArray=zs
 have z3:zs[3]?=some (rawInt L):=by
  rw [<- hz]
  first | (simp;done) | (rcases hpl with rfl | ⟨_,_,_,_,_,_,_,rfl⟩<;>simp)
 have at2:=Heap.get?_push_of_some (h:=h1) { cls:=.type "traceback",dict:=none,data:=.fields zs } at1
 have neT:h1.objs.size≠e:=y8 (Heap.lt_size at1)
 have dat3:=Obj.data_mapFields dat (·.setIfInBounds 1 (Value.ref h1.objs.size))
 have at3:=Heap.get?_update_self (Obj.mapFields (·.setIfInBounds 1 (Value.ref h1.objs.size))) at2 (Obj.isFreed_of_fields dat3)
 have kp:∀ b o,b≠e->h1.get? b=some o->((h1.push { cls:=.type "traceback",dict:=none,data:=.fields zs }).update e (Obj.mapFields (·.setIfInBounds 1 (Value.ref h1.objs.size)))).get? b=some o:=λb o n q=>by
  rw [Heap.get?_update_other _ _ (Ne.symm n)];exact Heap.get?_push_of_some _ q
 have nr:∀ b o,s.heap.get? b=some o->(∀ ws,o.data≠.fields ws)->b≠e:=λb o q n z=>by
  rw [z,at_] at q;cases q
  exact n vs dat
 refine wpAny_setField at2 dat sz (k _ ⟨λb o q=>kp b o (λz=>by rw [z,nb] at q;cases q) (kb1 b o q),ff.of_keeps λb o q n=>?_,⟨_,_,h1.objs.size,{ cls:=.type "traceback",dict:=none,data:=.fields zs },zs,at3,⟨⟨Obj.cls_mapFields _ _,TF _ _⟩,by simp [c2]⟩,dat3,by simp [sz],kb1.fresh,neT,?_,rfl,z3⟩,λb o q n=>?_⟩)
 ·obtain ⟨sl,q2⟩:=s1.2.2 b o q
  exact ⟨_,kp b _ (nr b o q n) q2,rfl⟩
 ·rw [Heap.get?_update_other _ _ (Ne.symm neT)];exact Heap.get?_push_size h1 rfl
 ·obtain ⟨sl,q2⟩:=s1.2.2 b o q
  exact ⟨sl,kp b _ (nr b o q n) q2⟩
theorem Ru {oe:Obj} {vs:Array Value} {Q:Unit->Shared->Prop} (fr:A.frames=some (env::outer)) (ff:s.heap.FunFrames B (env::outer)) (hf:env.frame=some L) (at_:s.heap.get? e=some oe) (kb:B.StaysIn s.heap) (nb:B.get? e=none) (dat:oe.data=.fields vs) (no:vs[1]?=some .none) (c2:vs[2]?=some .none)
  (k:∀ h',StpD B (env::outer) e oe.cls oe.dict (rawInt L) s.heap h'->Q () { s with heap:=h' }):wpAny M A (noteFrame (.ref e) env) Q E s:=by
 unfold noteFrame
 simp only [hf]
 refine wpAny_bind (wpAny_field at_ dat no ?_)
 rw [if_neg (by kd_p)]
 exact KO fr ff hf at_ kb nb dat (Y5.mp no).1 c2 k
theorem Uu {Q:Unit->Shared->Prop} (fr:A.frames=some (env::outer)) (ff:s.heap.FunFrames B (env::outer)) (hf:env.frame=some L) (t:TrD s.heap B e c d .none) (kb:B.StaysIn s.heap) (nb:B.get? e=none)
  (k:∀ h',StpD B (env::outer) e c d (rawInt L) s.heap h'->Q () { s with heap:=h' }):wpAny M A (noteFrame (.ref e) env) Q E s:=by
 obtain ⟨oe,vs,T,oT,ts,at_,⟨⟨rfl,rfl⟩,c2⟩,dat,h1,nT,neT,atT,datT,h3⟩:=t
 unfold noteFrame
 simp only [hf]
 have oth:∀ b,b≠T->(s.heap.update T (Obj.mapFields (·.setIfInBounds 3 Value.none))).get? b=s.heap.get? b:=λb n=>Heap.get?_update_other _ _ (Ne.symm n)
 have nr:∀ b o,s.heap.get? b=some o->(∀ ws,o.data≠.fields ws)->b≠T:=λb o q n z=>by
  rw [z,atT] at q;cases q
  exact n ts datT
 refine wpAny_bind (wpAny_field at_ dat h1 ?_);rw [if_pos (show (Value.ref T != Value.none)=true by simp)]
 refine wpAny_bind (wpAny_field atT datT h3 ?_);rw [if_neg (show ¬ ((Value.none == rawInt L)=true) by simp [rawInt])]
 refine wpAny_bind (wpAny_setField atT datT (Y5.mp h3).1 (KO fr (ff.of_keeps λb o q n=>⟨o,(oth b (nr b o q n)).trans q,rfl⟩) hf ((oth e (Ne.symm neT)).trans at_) (λb o q=>(oth b λz=>by rw [z,nT] at q;cases q).trans (kb b o q)) nb dat (Y5.mp h1).1 c2 λh' ⟨x1,x2,x3,x4⟩=>?_))
 exact k h' ⟨x1,x2,x3,λb o q n=>x4 b o ((oth b (nr b o q n)).trans q) n⟩
theorem JF {fl:Value} {Q:Unit->Shared->Prop} (kb:B.StaysIn s.heap) (ff:s.heap.FunFrames B l) (t:TrD s.heap B e c d fl) (k:∀ h',StpD B l e c d .none s.heap h'->Q () { s with heap:=h' }):wpAny M A (setFlight (.ref e) none) Q E s:=by
 obtain ⟨oe,vs,T,oT,ts,at_,cd,dat,h1,nT,neT,atT,datT,h3⟩:=t
 have z3:3<ts.size:=(Y5.mp h3).1
 have oth:∀ b,b≠T->(s.heap.update T (Obj.mapFields (·.setIfInBounds 3 ((none:Option Addr).elim Value.none λf=>rawInt f)))).get? b=s.heap.get? b:=λb n=>Heap.get?_update_other _ _ (Ne.symm n)
 have nr:∀ b o,s.heap.get? b=some o->(∀ ws,o.data≠.fields ws)->b≠T:=λb o q n z=>by
  rw [z,atT] at q;cases q
  exact n ts datT
 unfold setFlight
 refine wpAny_bind (wpAny_field at_ dat h1 ?_);rw [if_pos (show (Value.ref T != Value.none)=true by simp)]
 exact wpAny_setField atT datT z3 (k _ ⟨λb o q=>(oth b λz=>by rw [z,nT] at q;cases q).trans (kb b o q),ff.of_keeps λb o q n=>⟨o,(oth b (nr b o q n)).trans q,rfl⟩,⟨oe,vs,T,_,_,(oth e (Ne.symm neT)).trans at_,cd,dat,h1,nT,neT,Heap.get?_update_self _ atT (Obj.isFreed_of_fields (Obj.data_mapFields datT _)),Obj.data_mapFields datT _,by simp [z3]⟩,λb o q n=>⟨o.slots,(oth b (nr b o q n)).trans q⟩⟩)
end
def JR (B:Heap) (l:List Env) (e:Addr) (c:Value) (d:Option Addr) (h:Heap):Prop:=B.StaysIn h/\B.get? e=none/\h.FunFrames B l/\TrD h B e c d .none
section
variable {M:Model} {A:Around} {E:Value->Shared->Prop} {s:Shared} {B:Heap} {env:Env} {outer l:List Env} {L e:Addr} {c:Value} {d:Option Addr}
theorem JR.there {h:Heap} (x:JR B l e c d h):∃ ob vs,h.get? e=some ob/\ob.cls=c/\ob.dict=d/\ob.data=.fields vs:=by
 obtain ⟨_,_,_,oe,vs,_,_,_,at_,cd,dat,_⟩:=x
 exact ⟨oe,vs,at_,cd.1.1,cd.1.2,dat⟩
theorem JR.there2 {h:Heap} (x:JR B l e c d h):∃ ob vs,h.get? e=some ob/\ob.cls=c/\ob.dict=d/\ob.data=.fields vs/\vs[2]?=some .none:=by
 obtain ⟨_,_,_,oe,vs,_,_,_,at_,cd,dat,_⟩:=x
 exact ⟨oe,vs,at_,cd.1.1,cd.1.2,dat,cd.2⟩
theorem JR.comes {Q:Unit->Shared->Prop} (x:JR B (env::outer) e c d s.heap) (fr:A.frames=some (env::outer)) (hf:env.frame=some L) (k:∀ h',JR B (env::outer) e c d h'->s.heap.UpToSlots h'->Q () { s with heap:=h' }) :
  wpAny M A (noteFrame (.ref e) env) (λ_ s2=>wpAny M A (setFlight (.ref e) none) Q E s2) E s:=by
 obtain ⟨f1,f2,f3,f4⟩:=x
 refine Uu fr f3 hf f4 f1 f2 λh1 ⟨a1,a2,a3,a4⟩=>JF (s:={ s with heap:=h1 }) a1 a2 a3 λh2 ⟨b1,b2,b3,b4⟩=>k h2 ⟨b1,f2,b2,b3⟩ (a4.trans b4)
theorem JR.again {Q:Unit->Shared->Prop} (x:JR B l e c d s.heap) (k:∀ h',JR B l e c d h'->s.heap.UpToSlots h'->Q () { s with heap:=h' }):wpAny M A (setFlight (.ref e) none) Q E s:=by
 obtain ⟨f1,f2,f3,f4⟩:=x
 exact JF f1 f3 f4 λh2 ⟨b1,b2,b3,b4⟩=>k h2 ⟨b1,f2,b2,b3⟩ b4
end
end L2

namespace L2
open PySem
def ExcUp (h:Heap) (C:Addr) (ups:List Value):Prop:=∃ nm qn N bs hdct sn sub ab col dd k0 k1 k2 k3 k5 newId,h.get? C=some (excClassObj nm qn C N bs ups hdct sn sub ab col dd k0 k1 k2 k3 k5 newId)
theorem NM {M:Model} {A:Around} {E:Value->Shared->Prop} {s:Shared} {C D e:Addr} {ups downs:List Value} {oe:Obj} {Q:Bool->Shared->Prop} (uC:ExcUp s.heap C ups) (uD:ExcUp s.heap D downs)
  (he:s.heap.get? e=some oe) (hcls:oe.cls=.ref C) (hbase:downs.contains (.type "BaseException")=true) (hq:Q ((Value.ref C::ups).contains (.ref D)) s):wpAny M A (excMatches (.ref e) (.ref D)) Q E s:=by
 obtain ⟨hp,gs,dr,tk,os⟩:=s
 obtain ⟨_,_,_,_,_,_,_,_,_,_,_,_,_,_,_,_,atC⟩:=uC
 obtain ⟨_,_,_,_,_,_,_,_,_,_,_,_,_,_,_,_,atD⟩:=uD
 have inD:(Value.ref D::downs).contains (.type "BaseException")=true:=by rw [List.contains_cons,hbase,P7]
 have notTup:=tc_notTuple
 cases yes:(Value.ref C::ups).contains (.ref D)<;>(
  rw [yes] at hq
  unfold excMatches
  repeat (first | (with_reducible refine wpAny_loadPart_at he ?_;rw [hcls]) | with_reducible refine wpAny_loadPart_at atD ?_ | (with_reducible refine wpAny_isSubtype_exc atC ?_;rw [yes]) | (with_reducible refine wpAny_isSubtype_exc atD ?_;rw [inD]) | wp_step)
  exact hq)
end L2


set_option maxRecDepth 100000
namespace L2
open PySem PySem.W PySem.Spec PySem.Calls PyProof.Rows
abbrev gaE:String:="BaseException.__getattribute__"
structure Ej (K:Frag) (D:Addr):Prop where
 cls:(clsIn K D).isSome=true
 exc:mroIn K D (.type "BaseException")=some true
 obj:mroIn K D (.type "object")=some true
 ga:findIn K (.ref D) "__getattribute__"=some (some (.builtin gaE))
 hook:findIn K (.ref D) "__getattr__"=some none
theorem LZ:builtinKind gaE=some .slot/\splitId gaE=some ("BaseException", "__getattribute__")/\(Value.builtin gaE == Value.builtin "object.__getattribute__")=false:=by lk
section
variable {prog:Program} {w:World} {A:Around} {E:Value->Shared->Prop} {s:Shared} {K:Frag} {x D:Addr} {ox:Obj} {od:Option Obj} {name:Str}
theorem Rx {M:Model} {nv:Value} {Q:Unit->Shared->Prop} (X:K.In s.heap) (I:InstAt s.heap x ox D od) (c:Ej K D) (h:Q () s):wpAny M A (checkBuiltinCall gaE ⟨[.ref x,nv],[]⟩) Q E s:=by
 obtain ⟨hp,gs,dr,tk,os⟩:=s
 have ty:=I.type (M:=M)
 have up:=looks_mroIn (M:=M) X c.exc
 have argsOk:=F.args_bexc_ga (.ref x) nv
 simp only [checkBuiltinCall,LZ.1,LZ.2.1]
 refine wpAny_bind ?_
 unfold isInstance
 refine wpAny_bind (ty.at (up.at ?_))
 repeat (first | wp_step)
 exact h
theorem Rv {g a:Value} {t:Tok} {P:Value->Shared->Prop} (X:K.In s.heap) (I:InstAt s.heap x ox D od) (hf:findObj K D od name=some (.bind g a)) (h:wpAny (model prog w) A (call g [a,.ref x,.ref D]) P E s) :
  wpAny (model prog w) A (Builtin.«object.__getattribute__» ⟨[.ref x,.str name t],[]⟩) (λr s'=>match r with | .done (.ret v)=>P v s' | _=>False) E s:=by
 obtain ⟨hp,gs,dr,tk,os⟩:=s
 have fd:=looks_find (M:=model prog w) X I hf
 refine wpAny_bind (wpAny_pure (wpAny_bind (wpAny_pure (wpAny_bind (I.type.at (wpAny_bind (fd.at ?_)))))))
 exact wpAny_bind (wpAny_holding (wpAny_mono h (λ_ _ q=>wpAny_pure q) λ_ _ q=>q))
theorem Pk {v:Value} {t:Tok} {Q:Fin->Shared->Prop} (X:K.In s.heap) (I:InstAt s.heap x ox D od) (hf:findObj K D od name=some (.value v)) (h:Q (.done (.ret v)) s) :
  wpAny (model prog w) A (Builtin.«object.__getattribute__» ⟨[.ref x,.str name t],[]⟩) Q E s:=by
 obtain ⟨hp,gs,dr,tk,os⟩:=s
 have fd:=looks_find (M:=model prog w) X I hf
 exact wpAny_bind (wpAny_pure (wpAny_bind (wpAny_pure (wpAny_bind (I.type.at (wpAny_bind (fd.at (wpAny_pure h))))))))
theorem Uy {t:Tok} {fill expr:Bool} {Q:Value->Shared->Prop} (X:K.In s.heap) (I:InstAt s.heap x ox D od) (c:Ej K D)
  (h:wpAny (model prog w) A.in1 (Builtin.«object.__getattribute__» ⟨[.ref x,.str name t],[]⟩)
   (λr s'=>match r with | .done (.ret v)=>wpAny (model prog w) A (handedOut v) Q (λ_ _=>False) s' | _=>False) (λ_ _=>False) s) :
  wpAny (model prog w) A (getAttrBy (.ref x) (.str name t) fill expr) Q E s:=by
 obtain ⟨hp,gs,dr,tk,os⟩:=s
 have way:=looks_findIn (M:=model prog w) X c.ga
 have hook:=looks_findIn (M:=model prog w) X c.hook
 have plain:(expr&&onTheHeap (Value.builtin gaE))=false:=by cases expr<;>rfl
 have other:(onTheHeap (Value.ref D)&&Value.builtin gaE == Value.builtin "object.__getattribute__")=false:=by rw [LZ.2.2];rfl
 unfold getAttrBy
 refine wpAny_holding (wpAny_bind (I.type.at (wpAny_bind (way.at ?_))))
 dsimp only
 rw [if_neg (by rw [other];decide)]
 unfold getAttrByItsOwn
 refine wpAny_bind ?_
 show wpAny _ _ (typeLookup (.ref D) "__getattr__") _ _ _
 refine hook.at (wpAny_bind (wpAny_attempt (wpAny_holding ?_)))
 unfold callGetattribute
 rw [if_neg (by rw [plain];decide)]
 unfold boundAndCalled
 rw [PySem.F.attrBase_ValueError.ga.bind (.ref x)]
 refine wpAny_bind (wpAny_pure (wpAny_call (codeAny_call_builtin PySem.F.attrBase_ValueError.ga.plain F.entry_bexc_ga (Rx X I c ?_))))
 refine wpAny_mono h (λr s' z=>?_) (λ_ _ z=>z.elim)
 rcases r with (_ | _ | _ | _) | _
 all_goals first | exact wpAny_mono z (λ_ _ q=>q) (λ_ _ q=>q.elim) | exact z.elim
theorem exc_fld {v:Value} {expr:Bool} {Q:Value->Shared->Prop} (X:K.In s.heap) (I:InstAt s.heap x ox D od) (c:Ej K D) (hf:findObj K D od name=some (.value v)) (hv:handedOut v=pure v)
  (h:Q v { s with toks:=s.toks+1 }):wpAny (model prog w) A (getAttr (.ref x) name expr) Q E s:=by
 refine wpAny_bind (wpAny_mkText (Uy (s:={ s with toks:=s.toks+1 }) X I c (Pk (s:={ s with toks:=s.toks+1 }) X I hf ?_)))
 dsimp only
 rw [hv]
 exact wpAny_pure h
theorem Rw {Q:Option Value->Shared->Prop} (X:K.In s.heap) (I:InstAt s.heap x ox D od) (c:Ej K D) (hf:findObj K D od "__class__"=some (.bind (.builtin "getset_descriptor.__get__") (.builtin "object.__class__")))
  (h:Q (some (.ref D)) { s with toks:=s.toks+1 }):wpAny (model prog w) A (getAttr? (.ref x) "__class__") Q E s:=by
 refine wpAny_bind (wpAny_mkText (wpAny_bind (wpAny_attempt (Uy (s:={ s with toks:=s.toks+1 }) X I c ?_))))
 refine Rv (s:={ s with toks:=s.toks+1 }) X I hf (wpAny_call (class_get (s:={ s with toks:=s.toks+1 }) (ox:=ox) (od:=od) X I c.obj ?_))
 all_goals exact wpAny_pure (wpAny_pure h)
theorem Ej.at_ (c:Ej K D):∃ c0 dd cd sl,K.lookup D=some ⟨c0,dd,.cls cd,sl⟩:=by
 have z:=c.cls
 unfold clsIn at z
 split at z
 ·exact ⟨_,_,_,_,‹_›⟩
 ·cases z
theorem TW (c:Ej K D) (hf:findObj K D od "__class__"=some (.bind (.builtin "getset_descriptor.__get__") (.builtin "object.__class__"))):KitX K (.ref x) (.ref D) (λh=>InstAt h x ox D od):=by
 obtain ⟨c0,dd,cd,sl,at_⟩:=c.at_
 refine ⟨λ_ _ _ I=>I.type,λM h X _ A' Q' E' s' k q=>?_,λh tp _ _ _ _ X ht=>?_,λX I k=>Rw X I c hf k⟩
 ·unfold isType loadHead
  exact wpAny_bind (wpAny_loadPart (k _ _ (X _ _ at_)) (wpAny_pure q))
 ·cases same:(Value.ref D == Value.ref tp) with
  |false=>rfl
  |true =>
   cases beq_iff_eq.mp same
   cases (X _ _ at_).symm.trans ht
end
end L2
namespace L2
open PySem PySem.Spec PyProof.Rows
def CXD (P:Program) (w:World):Kf:=λouter H s E e s'=>∃ (a:Addr) (C:Value) (d:Option Addr) (B:Heap) (H':Hp),e=.ref a/\s'.os=s.os/\AllBare s'.gens/\JR B outer a C d s'.heap/\Iw (IE outer) s.heap s'.heap /\
 (∀ h':Heap,B.StaysIn h'->UnB (IE outer) H H' s.heap h'/\Gp P w H' h')/\E C d H'
section
variable {X:Cx}
def QA (X:Cx) (E:XK):Prop:=X.stack=X.env::X.outer/\X.env.frame=some X.env.locals/\X.ex=[] /\
 X.xe=λe s'=>wpAny (model X.prog X.w) X.A (leaving X.env e) (λ_ s''=>CXD X.prog X.w X.outer X.H₀ X.s₀ E e s'') (λe' s''=>CXD X.prog X.w X.outer X.H₀ X.s₀ E e' s'') s'
end
section
variable {P:Program} {w:World} {K:J0} {mg:Str->Option Value} {base:Heap}
theorem QC.okD {x qual:Str} {st:Stmt} {f:Addr} {fd:FuncData} {N ps:List Str} {k:Nat} {sp:Sp} (F:QC K x qual st f fd) (S:DA N ps (AG st)) (len:∀ vs H Q E,sp vs H Q E->vs.length=ps.length)
  (hbody:∀ (cdv:Value) (A:Around) (outer:List Env) (s:Shared) (H:Hp) (vs:List V) (Q:VK) (E:XK),Cm k (A.deeper (envOfC qual (AG st) s.heap.objs.size f cdv))->sp vs H Q E ->
   ∃ t,Ix (EB (CXD P w) P w K mg base N qual (AG st) f cdv A outer s H E) (BY st) t/\t { nx:=λ_ H'=>Q .non H',rt:=Q } (start N vs) H):BD P w K mg base (CXD P w) (k+1) f fd ps sp:=by
 obtain ⟨oc,od,kV,doc,pm,an,cdv,ct,osl,rfl,lk,hcd⟩:=F.ex
 exact fn_of lk hcd S len λA outer s H vs Q E hr hsp=>hbody cdv A outer s H vs Q E hr hsp
theorem Qj {N:List Str} {qual:Str} {scope:Scope} {f:Addr} {cd:Value} {A:Around} {outer:List Env} {s:Shared} {H:Hp} {E:XK}:QA (EB (CXD P w) P w K mg base N qual scope f cd A outer s H E) E:=⟨rfl,rfl,rfl,rfl⟩
end
abbrev Cx.with (X:Cx) (A:Around) (c:Bool) (xe:Value->Shared->Prop):Cx:={ X with A:=A,calm:=c,xe:=xe }
theorem Ax.with {X:Cx} {pins:List (Addr×Obj)} {σ:St} {H:Hp} {s:Shared} {A:Around} {c:Bool} {xe:Value->Shared->Prop} (I:Ax X pins σ H s) (hd:c=true->A.handled=none) (fr:A.frames=X.A.frames):Ax (X.with A c xe) pins σ H s :=
 ⟨⟨I.ok.mod,I.ok.kind,I.ok.glob,I.ok.blt,I.ok.above,I.ok.inj,I.ok.has,I.ok.cab,hd,fr.trans I.ok.frames,I.ok.stk,I.ok.exf,I.ok.bs,I.ok.bsz,I.ok.noex,I.ok.exfs,I.ok.funs,I.ok.frf⟩,I.os,I.bare,I.base,I.loc,I.cell,I.free,I.freeC,I.pin,I.hok,I.len⟩
theorem Ax.back {X:Cx} {pins:List (Addr×Obj)} {σ σ0:St} {H H0:Hp} {s s0:Shared} {A:Around} {c:Bool} {xe:Value->Shared->Prop} (I:Ax (X.with A c xe) pins σ H s) (J:Ax X pins σ0 H0 s0):Ax X pins σ H s :=
 ⟨J.ok,I.os,I.bare,I.base,I.loc,I.cell,I.free,I.freeC,I.pin,I.hok,I.len⟩
theorem Ax.forgotten {X:Cx} {pins:List (Addr×Obj)} {σ:St} {H:Hp} {s:Shared} {h':Heap} {m:Str->Option Value} {t':Nat} (I:Ax X pins σ H s) (hn:h'.Ns X.env.locals m) (hs:Heap.SameBut X.env.locals s.heap h'):Ax X pins (E2 X.N.length none) H { s with heap:=h',toks:=t' }:=by
 have neL:∀ b o,X.s₀.heap.get? b=some o->b≠X.env.locals:=λb o e=>Y1 (V1 (Heap.lt_size e) I.ok.above)
 refine ⟨I.ok,I.os,I.bare,⟨λb o e n hb hx=>(hs.2 b (neL b o e)).trans (I.base.keep b o e n hb hx),λb o e n hb hx=>?_,I.base.free,λb o e hx=>?_,I.base.tups,I.base.frzs,I.base.tbls⟩,⟨m,hn,λi x v _ e2 _=>?_⟩,λx c e=>?_,I.free,I.freeC,λp hp=>?_,λb ob e=>?_,M9⟩
 ·obtain ⟨sl,q⟩:=I.base.slot b o e n hb hx
  exact ⟨sl,(hs.2 b (neL b o e)).trans q⟩
 ·obtain ⟨o',q⟩:=I.base.there b o e hx
  exact ⟨o',(hs.2 b (neL b o e)).trans q⟩
 ·rw [m8] at e2
  split at e2<;>cases e2
 ·obtain ⟨v,z⟩:=I.cell x c e
  exact ⟨v,z.sameBut hs (I.cne x c e)⟩
 ·obtain ⟨e,n,ne,nf,d⟩:=I.pin p hp
  exact ⟨(hs.2 p.1 ne).trans e,n,ne,nf,d⟩
 ·refine (I.hok b ob e).stay (λc v hc q=>(hs.2 c λz=>?_).trans q) (λ_ q=>q) λ_ _ q=>q
  rcases hc with w | w
  ·rw [z] at w
   rw [<- w,I.free] at e;cases e
  ·rw [z,I.free] at w;cases w
def Pt (X:Cx) (E:St->XK) (e:Value) (s':Shared):Prop:=∃ σ H s,Ax X [] σ H s/\CXD X.prog X.w X.stack H s (E σ) e s'
def Mn (CX:Kf) (X:Cx) (E:St->XK):Prop:=∀ (pins:List (Addr×Obj)) (σ:St) (H:Hp) (s:Shared) (e:Value) (s':Shared),Ax X pins σ H s->CX X.stack H s (E σ) e s'->X.xe e s'
theorem passS {X:Cx} {E:St->XK}:Mn (CXD X.prog X.w) (X.wish (Pt X E)) E:=λ_ σ H s _ _ I h=>⟨σ,H,s,I.unwish.pins_of (λp hp=>by cases hp),h⟩
section
variable {X:Cx} {CX:Kf} {k:Nat} {f C:Addr} {fd:FuncData} {ps:List Str} {sp:Sp} {dvs:List V} {ds:List Value} {x m:Str} {p pos apos:Pos} {e o:Expr} {es:List Expr} {ta:TE} {t:TA}
theorem run_fnS {E:St->XK} {pins:List (Addr×Obj)} {σ:St} {H:Hp} {s:Shared} {Q:VK} {us:List Value} {vs:List V} (F:BD X.prog X.w X.K X.mg X.base CX k f fd ps sp) (hr:Cm k X.A) (hb:Dt X.K fd ps ds) (hd:AL dvs ds) (hx:Mn CX X E)
  (I:Ax X pins σ H s) (r:AL vs us) (h:sp (vs++dvs) H Q (E σ)):wpAny (model X.prog X.w) X.A (call (.ref f) us) (EP X pins σ Q) X.xe s:=by
 have r2:AL (vs++dvs) (us++ds):=r.append hd
 have hl:(us++ds).length=ps.length:=by rw [<- r2.length];exact F.len _ _ _ _ h
 refine wpAny_call (codeAny_mono (F.run X.A X.stack s H ⟨us,[]⟩ (us++ds) (vs++dvs) Q (E σ) hr I.env0 (hb s us I.kIn hl) r2 h) λr s' hq=>?_)
 cases r with
 |error e=>exact hx pins σ H s e s' I hq
 |ok fl =>
  cases fl with
  |ret u=>exact I.after hq
  |next=>exact False.elim hq
  |brk=>exact False.elim hq
  |cont=>exact False.elim hq
def tCallS (sp:Sp) (dvs:List V) (E:St->XK) (t:TA):TE:=λσ H Q=>t σ H λvs H1=>sp (vs++dvs) H1 Q (E σ)
theorem Ti {E:St->XK} (F:BD X.prog X.w X.K X.mg X.base CX k f fd ps sp) (hr:Cm k X.A) (hg:Gl X x) (hm:X.mg x=some (.ref f)) (hk:F3 X.K (.ref f)=true) (hb:Dt X.K fd ps ds) (hd:AL dvs ds) (hx:Mn CX X E)
  (ha:PA X (e::es) t) (hdb:(x == ("__debug__":Str))=false:=by kd_p) (he:starEach (e::es) X.env=(false,eval e X.env)::starEach es X.env:=by rfl) (hpl:(backTo pos (starEach es X.env)).any (·.1)=false:=by rfl) :
  PE X (.Call (.Name x p) (e::es) [] pos) (tCallS sp dvs E t):=by
 intro pins s σ H Q I h
 refine wpAny_Call_Name_kw (Ev I hg hm ?_ hdb)
 exact j4 (h₀:=X.base) I.ok.mod.kin hk (Bt (ha pos pins s σ H _ I h) λus s1 ⟨vs,H1,I1,r,q⟩=>⟨I1.kIn,run_fnS F hr hb hd hx I1 r q⟩) he hpl
end
structure DR (k:Nat) (A:Around):Prop where
 dp:A.depth+3*k+5<recursionLimit
 un:A.units+16*k+200<cLine
theorem Cm.any {k:Nat} {A:Around} (r:Cm k A):DR k A:=⟨r.dp,r.un⟩
theorem DR.mono {j k:Nat} {A:Around} (r:DR k A) (h:j<=k):DR j A:=⟨by have:=r.dp;lia,by have:=r.un;lia⟩
theorem DR.deeper {k:Nat} {A:Around} (r:DR (k+1) A) (env:Env):DR k (A.deeper env) :=
 ⟨by have:=r.dp;show A.depth+1+3*k+5<_;lia,by have:=r.un;show A.units+3+16*k+200<_;lia⟩
theorem DR.depth {k:Nat} {A:Around} (r:DR k A):A.depth<recursionLimit:=by have:=r.dp;lia
theorem DR.mark {k:Nat} {A:Around} (r:DR k A) (u:Option Value):DR k (A.mark u):=⟨r.dp,r.un⟩
structure NY (P:Program) (w:World) (K:J0) (mg:Str->Option Value) (base:Heap) (CX:Kf) (k:Nat) (f:Addr) (fd:FuncData) (ps:List Str) (sp:Sp):Prop where
 len:∀ vs H Q E,sp vs H Q E->vs.length=ps.length
 run:∀ (A:Around) (outer:List Env) (s:Shared) (H:Hp) (args:Args) (us:List Value) (vs:List V) (Q:VK) (E:XK),DR k A->Mo P w K mg base A outer s H->BindsTo s fd args (ps.zip us)->AL vs us->sp vs H Q E ->
  codeAny (model P w) A (.call (.ref f) args) (CR CX outer P w H s Q E) s
abbrev Qr (P:Program) (w:World) (K:J0) (mg:Str->Option Value) (base:Heap) (N:List Str) (qual:Str) (scope:Scope) (f:Addr) (cd:Value) (A:Around) (outer:List Env) (s:Shared) (H:Hp):Cx :=
 (EB CX0 P w K mg base N qual scope f cd { A with handled:=none } outer s H E0).with (A.deeper (envOfC qual scope s.heap.objs.size f cd)) false (λ_ _=>False)
theorem fn_any {P:Program} {w:World} {K:J0} {mg:Str->Option Value} {base:Heap} {k:Nat} {f:Addr} {name qual:Str} {params:Arguments} {body:List Stmt} {scope:Scope} {dV kV doc pm cdv ct oc:Value} {an od:Option Addr}
  {osl:Array (Option Value)} {N ps:List Str} {sp:Sp} (lk:K.lookup f=some ⟨oc,od,.func (E3 name qual params body scope dV kV doc pm an cdv ct),osl⟩) (hcd:g4 K cdv qual=true) (S:DA N ps scope)
  (len:∀ vs H Q E,sp vs H Q E->vs.length=ps.length)
  (hbody:∀ (A:Around) (outer:List Env) (s:Shared) (H:Hp) (vs:List V) (Q:VK) (E:XK),DR k (A.deeper (envOfC qual scope s.heap.objs.size f cdv))->sp vs H Q E ->
   ∃ t,Ix (Qr P w K mg base N qual scope f cdv A outer s H) body t/\t { nx:=λ_ H'=>Q .non H',rt:=Q } (start N vs) H) :
  NY P w K mg base CX0 (k+1) f (E3 name qual params body scope dV kV doc pm an cdv ct) ps sp:=by
 refine ⟨len,λA outer s H args us vs Q E hr e0 hb r hsp=>?_⟩
 have hl:=len _ _ _ _ hsp
 have KX:K.In s.heap:=e0.mod.kin.keeps λb o e=>(e0.bs b o e).1
 have lim:s.heap.NoLimit:=e0.mod.nolimit.keeps λb o e=>(e0.bs b o e).1
 have hkind:∀ y∈ps.zip us,scope.names.lookup y.1=some .local\/(scope.names.lookup y.1=some .cell/\((cellsFrom (s.heap.objs.size+1) scope.names []).lookup y.1).isSome=true):=λ⟨n,v⟩ hy=>by
  rcases S.par n (W6 hy).1 with q | q
  ·exact .inl q
  ·exact .inr ⟨q,D6 _ _ _ (.inl q)⟩
 refine codeAny_call_function hr.depth (KX _ _ lk) rfl S.co S.gen rfl (d7 KX hcd) (hb _ _ _ _ ?_)
 refine wpAny_newFunctionEnv_cells S.kind hkind λenv he s1 x=>?_
 subst he
 refine ⟨lim.keeps x.toInCall.keep,codeAny_func ?_⟩
 obtain ⟨t,ht,hq⟩:=hbody A outer s H vs Q E (hr.deeper _) hsp
 have e1:Mo P w K mg base { A with handled:=none } outer s H:=⟨e0.frames,e0.mod,e0.bs,e0.bsz,e0.funs,e0.frf,e0.hok,e0.bare⟩
 have J:Ax (EB CX0 P w K mg base N qual scope f cdv { A with handled:=none } outer s H E0) [] (start N vs) H s1:=HU S rfl e1 hl r x
 have I:Ax (Qr P w K mg base N qual scope f cdv A outer s H) [] (start N vs) H s1:=J.with (λz=>nomatch z) rfl
 refine wpAny_mono (ht [] s1 (start N vs) H _ I hq) (λfl s' hs=>?_) λe s' hs=>hs.elim
 have fin:∀ {σ':St} {H':Hp} {v:V} {u:Value},Ax (Qr P w K mg base N qual scope f cdv A outer s H) [] σ' H' s'->Bd v u->Q v H'->CE outer P w H s Q u s' :=
  λ{σ' H' v u} J rv q=>⟨v,H',J.os,J.bare,J.base,J.hok,rv,q⟩
 cases fl with
 |ret u =>
  obtain ⟨v,σ',H',J,rv,q⟩:=hs
  exact fin J rv q
 |next =>
  obtain ⟨σ',H',J,q⟩:=hs
  exact fin (v:=V.non) (u:=Value.none) J rfl q
 |brk =>
  obtain ⟨_,_,_,q⟩:=hs
  exact False.elim q
 |cont =>
  obtain ⟨_,_,_,q⟩:=hs
  exact False.elim q
section
variable {P:Program} {w:World} {K:J0} {mg:Str->Option Value} {base:Heap}
theorem QC.okA {x qual:Str} {st:Stmt} {f:Addr} {fd:FuncData} {N ps:List Str} {k:Nat} {sp:Sp} (F:QC K x qual st f fd) (S:DA N ps (AG st)) (len:∀ vs H Q E,sp vs H Q E->vs.length=ps.length)
  (hbody:∀ (cdv:Value) (A:Around) (outer:List Env) (s:Shared) (H:Hp) (vs:List V) (Q:VK) (E:XK),DR k (A.deeper (envOfC qual (AG st) s.heap.objs.size f cdv))->sp vs H Q E ->
   ∃ t,Ix (Qr P w K mg base N qual (AG st) f cdv A outer s H) (BY st) t/\t { nx:=λ_ H'=>Q .non H',rt:=Q } (start N vs) H):NY P w K mg base CX0 (k+1) f fd ps sp:=by
 obtain ⟨oc,od,kV,doc,pm,an,cdv,ct,osl,rfl,lk,hcd⟩:=F.ex
 exact fn_any lk hcd S len λA outer s H vs Q E hr hsp=>hbody cdv A outer s H vs Q E hr hsp
end
section
variable {X:Cx} {CX:Kf} {k:Nat} {f C:Addr} {fd:FuncData} {ps:List Str} {sp:Sp} {dvs:List V} {ds:List Value} {E:XK} {x m:Str} {p pos apos:Pos} {e o:Expr} {es:List Expr} {ta:TE} {t:TA}
theorem Tj (F:NY X.prog X.w X.K X.mg X.base CX k f fd ps sp) (hr:DR k X.A) (hg:Gl X x) (hm:X.mg x=some (.ref f)) (hk:F3 X.K (.ref f)=true) (hb:Dt X.K fd ps ds) (hd:AL dvs ds) (hx:ED CX X E)
  (ha:PA X (e::es) t) (hdb:(x == ("__debug__":Str))=false:=by kd_p) (he:starEach (e::es) X.env=(false,eval e X.env)::starEach es X.env:=by rfl) (hpl:(backTo pos (starEach es X.env)).any (·.1)=false:=by rfl) :
  PE X (.Call (.Name x p) (e::es) [] pos) (PD sp dvs E t):=by
 intro pins s σ H Q I h
 refine wpAny_Call_Name_kw (Ev I hg hm ?_ hdb)
 refine j4 (h₀:=X.base) I.ok.mod.kin hk (Bt (ha pos pins s σ H _ I h) λus s1 ⟨vs,H1,I1,r,q⟩=>⟨I1.kIn,?_⟩) he hpl
 have r2:AL (vs++dvs) (us++ds):=r.append hd
 have hl:(us++ds).length=ps.length:=by rw [<- r2.length];exact F.len _ _ _ _ q
 refine wpAny_call (codeAny_mono (F.run X.A X.stack s1 H1 ⟨us,[]⟩ (us++ds) (vs++dvs) Q E hr I1.env0 (hb s1 us I1.kIn hl) r2 q) λr s' hq=>?_)
 cases r with
 |error e=>exact hx pins σ H1 s1 e s' I1 hq
 |ok fl =>
  cases fl with
  |ret u=>exact I1.after hq
  |next=>exact False.elim hq
  |brk=>exact False.elim hq
  |cont=>exact False.elim hq
theorem Im {v:Addr} (hg:Gl X x) (hm:X.mg x=some (.ref v)) (hdb:(x == ("__debug__":Str))=false:=by kd_p):PE X (.Name x p) (tC (.ref v)):=λ_ s _ H _ I h=>Ev I hg hm ⟨.ref v,H,I,rfl,h⟩ hdb
end
theorem BC.some {P:Program} {w:World} {H:Hp} {h:Heap} {a:Addr} {o:HO} (x:BC P w H h a o):∃ ob,h.get? a=some ob:=by
 cases o with
 |lst xs=>obtain ⟨_,_,_,_,e⟩:=x;exact ⟨_,e⟩
 |tup xs=>obtain ⟨_,_,_,o,e,_⟩:=x;exact ⟨o,e⟩
 |dK kvs=>obtain ⟨_,_,_,_,o,_,_,e,_⟩:=x;exact ⟨o,e⟩
 |dT kvs=>obtain ⟨_,_,_,_,o,_,_,e,_⟩:=x;exact ⟨o,e⟩
 |set S n=>obtain ⟨o,_,_,_,e,_⟩:=x;exact ⟨o,e⟩
 |ins C dx fs=>obtain ⟨_,_,_,e,_⟩:=x;exact ⟨_,e⟩
 |own y=>exact x
 |xd fs=>obtain ⟨_,⟨o,_,_,e,_⟩,_⟩:=x;exact ⟨o,e⟩
 |rng lo hi=>obtain ⟨_,_,_,e⟩:=x;exact ⟨_,e⟩
 |frz ob u=>obtain ⟨e,_⟩:=x;exact ⟨_,e⟩
 |tbl ps=>exact ⟨_,x⟩
 |met f y=>exact ⟨_,x⟩
 |ext φ=>obtain ⟨_,e,_⟩:=x;exact e
theorem Ax.track {X:Cx} {pins:List (Addr×Obj)} {σ:St} {H:Hp} {s:Shared} {a:Addr} {o:HO} (I:Ax X pins σ H s) (hn:H a=none) (n0:X.s₀.heap.get? a=none) (nl:a≠X.env.locals) (nc:∀ x c,X.env.cells.lookup x=some c->c≠a) (np:∀ p∈X.pn++pins,p.1≠a)
  (new:BC X.prog X.w (upd H a o) s.heap a o):Ax X pins σ (upd H a o) s:=by
 refine ⟨I.ok,I.os,I.bare,⟨I.base.keep,I.base.slot,λb u e n hx=>?_,I.base.there,λb xs e=>?_,λb u v e=>?_,λb ps e=>?_⟩,I.loc,I.cell,?_,λx c e=>?_,λp hp=>?_,λb u e=>?_,I.len⟩
 ·rw [Ap (λz=>by rw [z,n0] at e;cases e)];exact I.base.free b u e n hx
 ·have q:=I.base.tups b xs e
  rw [Ap (AY q hn)];exact q
 ·have q:=I.base.frzs b u v e
  rw [Ap (AY q hn)];exact q
 ·obtain ⟨more,q⟩:=I.base.tbls b ps e
  exact ⟨more,by rw [Ap (AY q hn)];exact q⟩
 ·rw [Ap (Ne.symm nl)];exact I.free
 ·rw [Ap (nc x c e)];exact I.freeC x c e
 ·obtain ⟨e,n,ne,nf,d⟩:=I.pin p hp
  exact ⟨e,by rw [Ap (np p hp)];exact n,ne,nf,d⟩
 ·by_cases z:b=a
  ·subst z
   rw [Ad] at e;cases e
   exact new
  ·rw [Ap z] at e
   exact (I.hok b u e).stay (λ_ _ _ q=>q) (λc q=>by rw [Ap (AY q hn)];exact q) λc xs q=>by rw [Ap (AY q hn)];exact q
theorem mro_is {K:J0} {h:Heap} {C N:Addr} {bm bs:List Value} {nm qn:Str} {hdct:Bool} {sn:List Str} {sub:List Value} {ab:Bool} {col:Option Bool} {dd:Option Addr} {k0 k1 k2 k3 k5:Option Value} {newId:String} {v:Value} {b:Bool} (X:K.In h)
  (e:h.get? C=some (excClassObj nm qn C N bs bm hdct sn sub ab col dd k0 k1 k2 k3 k5 newId)) (q:S5 K C v=some b):(Value.ref C::bm).contains v=b:=by
 unfold S5 Y8 at q
 split at q
 ·rename_i ho
  have e2:=X _ _ ho
  rw [e] at e2
  cases e2
  exact Option.some.inj q
 ·cases q
def IsExc (K:J0) (C:Addr):Prop:=z5 K C [.type "ValueError",.type "Exception",.type "BaseException",.type "object"] "ValueError.__new__"=true
section
variable {P:Program} {w:World} {K:J0} {mg:Str->Option Value} {base:Heap}
end
end L2
namespace L2
open PySem PySem.Spec PyProof.Rows PySem.W
abbrev BMV:List Value:=[.type "ValueError",.type "Exception",.type "BaseException",.type "object"]
noncomputable def excInI (K:Frag) (C f:Addr):Bool:=@decide (∃ dd cd sl bm k0 k1 k2 k3 k5,K.lookup C=some ⟨.type "type",dd,.cls cd,sl⟩/\cd.mro=.ref C::bm/\sl.toList=[k0,k1,k2,k3,some (.builtin "ValueError.__new__"),k5]/\cd.hasDel=false/\tailIn K BMV bm=true/\nsOkIn K cd.ns=true/\nsIn K cd.ns "__init__"=some (some (.ref f))) (Classical.propDecidable _)
theorem ns_some {K:Frag} {h:Heap} {N:Addr} {m:Str->Option Value} {x:Str} {v:Value} (X:K.In h) (G:h.Ns N m) (e:nsIn K N x=some (some v)):m x=some v:=by
 obtain ⟨o,es,ep,ho,hd,_,hf⟩:=G
 unfold nsIn at e
 split at e
 ·rename_i q
  have z:=X _ _ q
  rw [ho] at z
  cases z
  cases hd
  split at e
  ·rename_i en he
   rw [<- hf]
   unfold nsFind findBy
   rw [<- Array.find?_toList,he]
   cases e
   rfl
  ·split at e<;>cases e
 ·cases e
theorem HJ {K:Frag} {h:Heap} {N:Addr} {x:Str} {v:Value} (X:K.In h) (e:nsOkIn K N=true) (q:nsIn K N x=some (some v)):h.nsMap N x=some v:=ns_some X (.of_isNs (isNs_of_in X e)) q
theorem Hn {K:Frag} {h:Heap} {C f:Addr} (X:K.In h) (q:excInI K C f=true) :
  ∃ bm N nm qn bs hdct sn sub ab col dd k0 k1 k2 k3 k5 mN,h.get? C=some (excClassObj nm qn C N bs bm hdct sn sub ab col dd k0 k1 k2 k3 k5 "ValueError.__new__")/\h.Ns N mN/\mN "__init__"=some (.ref f)/\OwnTail h BMV bm:=by
 obtain ⟨dd,cd,sl,bm,k0,k1,k2,k3,k5,ho,hm,hs,hdel,ht,hok,hni⟩:=@of_decide_eq_true _ (Classical.propDecidable _) q
 obtain ⟨nm,bs,mro,ns,qn,hd,sn,sub,ab,col,RO⟩:=cd
 dsimp only at hm hdel hok hni
 subst hm hdel
 obtain ⟨l⟩:=sl
 dsimp only at hs
 subst hs
 exact ⟨bm,ns,nm,qn,bs,hd,sn,sub,ab,col,dd,k0,k1,k2,k3,k5,_,X _ _ ho,.of_isNs (isNs_of_in X hok),HJ X hok hni,tail_of_in X ht⟩
section
variable {prog:Program} {w:World} {A:Around} {E:Value->Shared->Prop} {s:Shared}
variable {nm q:Str} {C N f:Addr} {bs bm:List Value} {hdct:Bool} {sn:List Str} {sub:List Value} {ab:Bool} {col:Option Bool} {dd:Option Addr} {k0 k1 k2 k3 k5:Option Value} {mN:Str->Option Value}
theorem US {Cf:List Value} {oI:Obj} {Q:Fin->Shared->Prop} (cC:s.heap.get? C=some (excClassObj nm q C N bs bm hdct sn sub ab col dd k0 k1 k2 k3 k5 "ValueError.__new__")) (cn:s.heap.Ns N mN) (ci:mN "__init__"=some (.ref f)) (T:OwnTail s.heap BMV bm) (fI:s.heap.get? f=some oI) (fc:oI.cls=.type "function") (lr:Cf.length<=sizeLine)
  (k:∀ h' e,Heap.MadeExcOf s.heap h' e (.ref C) Cf->wpAny (model prog w) A (call (.ref f) (.ref e::Cf)) (λr s'=>r=.none/\Q (.done (.ret (.ref e))) s') E { s with heap:=h' }):wpAny (model prog w) A (Builtin.«type.__call__» ⟨.ref C::Cf,[]⟩) Q E s:=by
 obtain ⟨h,g,d,t,os⟩:=s
 have VE:=PySem.F.excBase_ValueError
 repeat (first | with_reducible refine wpAny_loadPart_at cC ?_ | with_reducible refine wpAny_madeBy_exc cC ?_ | wp_step)
 refine codeAny_call_builtin_code (Code.quiet_builtin _ VE.quiet) (wpAny_check_new_subT VE T cC (codeAny_exc_new_subT VE T cC ?_ lr));show wpAny _ _ _ _ _ _
 have pC:=Heap.get?_push_of_some { cls:=.ref C,data:=.fields #[.ref h.objs.size,.none,.none,.none,.bool false,.none] } (Heap.get?_push_of_some { cls:=.type "tuple",data:=.seq Cf.toArray } cC)
 have pf:=Heap.get?_push_of_some { cls:=.ref C,data:=.fields #[.ref h.objs.size,.none,.none,.none,.bool false,.none] } (Heap.get?_push_of_some { cls:=.type "tuple",data:=.seq Cf.toArray } fI)
 have pn:((h.push { cls:=.type "tuple",data:=.seq Cf.toArray }).push { cls:=.ref C,data:=.fields #[.ref h.objs.size,.none,.none,.none,.bool false,.none] }).Ns N mN:=cn.keeps λb o e=>Heap.get?_push_of_some _ (Heap.get?_push_of_some _ e)
 have pe:((h.push { cls:=.type "tuple",data:=.seq Cf.toArray }).push { cls:=.ref C,data:=.fields #[.ref h.objs.size,.none,.none,.none,.bool false,.none] }).get? (h.objs.size+1)=some { cls:=.ref C,data:=.fields #[.ref h.objs.size,.none,.none,.none,.bool false,.none] }:=by heap_get
 have pT:=T.keeps (h':=(h.push { cls:=.type "tuple",data:=.seq Cf.toArray }).push { cls:=.ref C,data:=.fields #[.ref h.objs.size,.none,.none,.none,.bool false,.none] }) λb o e=>Heap.get?_push_of_some _ (Heap.get?_push_of_some _ e)
 have self:(Value.ref C::bm).contains (.ref C)=true:=by simp
 unfold isInstance
 repeat (first | with_reducible refine wpAny_loadPart_at pe ?_ | (with_reducible refine wpAny_isSubtype_exc pC ?_;rw [self]) | wp_step)
 show wpAny _ _ (typeLookup (.ref C) _) _ _ _;refine wpAny_typeLookup_tail pC pn pT VE.mroIs VE.init.lookup ?_;rw [ci]
 refine wpAny_holding (wpAny_bind ?_);unfold bindSpecial;refine wpAny_bind (wpAny_typeOf (T:="function") ⟨_,pf,fc⟩ ?_);rw [if_pos (by kd_p)]
 refine wpAny_pure (wpAny_bind (wpAny_mono (k _ (h.objs.size+1) ⟨λb o hb=>Heap.get?_push_of_some _ (Heap.get?_push_of_some _ hb),Heap.get?_none_of_le (C3 _),h.objs.size,pe,Heap.get?_none_of_le (V0 _),Heap.get?_push_of_some _ (Heap.get?_push_at rfl rfl)⟩) (λr s' hr=>?_) λ_ _ x=>x))
 obtain ⟨rfl,hQ⟩:=hr
 wp_walk
 exact hQ
theorem callI {Cf:List Value} {oI:Obj} {Q:Value->Shared->Prop} (cC:s.heap.get? C=some (excClassObj nm q C N bs bm hdct sn sub ab col dd k0 k1 k2 k3 k5 "ValueError.__new__")) (cn:s.heap.Ns N mN) (ci:mN "__init__"=some (.ref f)) (T:OwnTail s.heap BMV bm) (fI:s.heap.get? f=some oI) (fc:oI.cls=.type "function") (lr:Cf.length<=sizeLine)
  (k:∀ h' e,Heap.MadeExcOf s.heap h' e (.ref C) Cf->wpAny (model prog w) (A.under (.builtin "type.__call__" ⟨.ref C::Cf,[]⟩)) (call (.ref f) (.ref e::Cf)) (λr s'=>r=.none/\Q (.ref e) s') E { s with heap:=h' }):wpAny (model prog w) A (call (.ref C) Cf) Q E s:=by
 obtain ⟨h,g,d,t,os⟩:=s
 have f1:=tc_lookup
 have f2:=tc_bind (.ref C)
 have ty:(⟨h,g,d,t,os⟩:Shared).TypeIs (.ref C) "type":=⟨_,cC,rfl⟩
 refine wpAny_call (codeAny_of_tree ?_);show wpAny _ _ (callAny (.ref C) _) _ _ _
 repeat (any_goals (first | assumption | with_reducible refine wpAny_loadPart_at cC ?_ | wp_step))
 exact ⟨rfl,codeAny_call_builtin_at (Code.quiet_builtin _ (by lk)) entry_typeCall (wpAny_check_type_call_sub cC (US (s:=⟨h,g,d,t,os⟩) cC cn ci T fI fc lr λh' e hm=>k h' e hm))⟩
end
theorem MX {h:Heap} {tl:List Value} (T:OwnTail h BMV tl) (x:Value):refuseLoop x "__setattr__" tl=pure ():=by
 induction T with
 |base=>exact PySem.F.store_ValueError.passes x
 |own _ _ _ _ ih=>rw [refuseLoop_ref];exact ih
section
variable {prog:Program} {w:World} {A:Around} {E:Value->Shared->Prop} {s:Shared} {K:Frag} {x C:Addr} {ox:Obj} {od:Option Obj}
variable {nm q:Str} {N:Addr} {bs bm:List Value} {hdct:Bool} {sn:List Str} {sub:List Value} {ab:Bool} {col:Option Bool} {dd:Option Addr} {k0 k1 k2 k3 k5:Option Value}
theorem osaE {R:Result->Shared->Prop} {name:Str} {tk:Tok} {v:Value} (X:K.In s.heap) (I:InstAt s.heap x ox C od) (cC:s.heap.get? C=some (excClassObj nm q C N bs bm hdct sn sub ab col dd k0 k1 k2 k3 k5 "ValueError.__new__")) (T:OwnTail s.heap BMV bm) (ho:mroIn K C (.type "object")=some true) (ht:takerIn K C name=some none)
  (h:∀ b,wpAny (model prog w) A.in1 (Builtin.ObjectAttr.storeInOwnDict (.ref x) (.ref C) (.str name tk) name v b) (λfin s'=>match fin with | .done f=>R (.ok f) s' | .again c'=>c'.quiet=true/\codeAny (model prog w) A c' R s') (λe s'=>R (.error e) s') s) :
  codeAny (model prog w) A (.call (.builtin "object.__setattr__") ⟨[.ref x,.str name tk,v],[]⟩) R s:=by
 have SF:=PySem.F.store_object
 have up:Looks (model prog w) s.heap (isInstance (.ref x) (.type "object")) true:=I.type.andThen (looks_mroIn X ho)
 refine codeAny_call_builtin SF.slot.plain SF.entry (@check_slot (model prog w) _ _ s "object.__setattr__" "object" "__setattr__" (.ref x) [.str name tk,v] [] _ SF.kind SF.split up (SF.args (.ref x) (.str name tk) v) ?_)
 obtain ⟨attr,ha,hr⟩:=Option.bind_eq_some_iff.mp ht
 have take:Looks (model prog w) s.heap (Builtin.ObjectAttr.storeTaker? attr) none:=by
  cases attr with
  |none=>cases hr;exact .now
  |some a =>
   obtain ⟨b,hb,eb⟩:=K2.mp hr
   refine (looks_takesIn X hb).andThen ?_
   cases b with
   |false=>exact .now
   |true=>cases eb
 rw [osa_eq,refuse_eq]
 obtain ⟨hp,g,d,t,os⟩:=s
 refine wpAny_bind (wpAny_bind (I.type.here (wpAny_bind (wpAny_mroOf_exc cC ?_))));rw [refuseLoop_ref,MX T]
 refine wpAny_pure (wpAny_bind (I.type.here (wpAny_bind ((looks_findIn X ha).here (wpAny_bind (take.here ?_))))));exact h _
abbrev Dq (C:Addr) (d:Option Addr) (t:Addr):Obj:={ cls:=.ref C,dict:=d,data:=.fields #[.ref t,.none,.none,.none,.bool false,.none] }
theorem KR {h:Heap} {t:Addr} (hx:h.get? x=some (Dq C none t)):InstAt h x (Dq C none t) C none:=⟨hx,rfl,rfl,trivial⟩
theorem Ux {h:Heap} {dx t:Addr} {mA:Str->Option Value} (hx:h.get? x=some (Dq C (some dx) t)) (n:h.Ns1 dx mA):∃ od,InstAt h x (Dq C (some dx) t) C (some od)/\∀ name,lookIn name od=some (mA name):=by
 obtain ⟨od,e,l⟩:=HN n
 exact ⟨od,⟨hx,rfl,rfl,e⟩,l⟩
structure SetE (K:Frag) (C:Addr):Prop where
 obj:mroIn K C (.type "object")=some true
 sa:findIn K (.ref C) "__setattr__"=some (some (.builtin "object.__setattr__"))
 hd:hasDictIn K C=true
variable {name:Str} {v:Value} {t:Addr} {Q:Unit->Shared->Prop}
theorem SK (X:K.In s.heap) (cC:s.heap.get? C=some (excClassObj nm q C N bs bm hdct sn sub ab col dd k0 k1 k2 k3 k5 "ValueError.__new__")) (T:OwnTail s.heap BMV bm) (c:SetE K C) (ht:takerIn K C name=some none) (hx:s.heap.get? x=some (Dq C none t))
  (k:∀ h',h'.get? x=some (Dq C (some s.heap.objs.size) t)->h'.Ns1 s.heap.objs.size (λy=>if y=name then some v else none)->(∀ b o,b≠x->s.heap.get? b=some o->h'.get? b=some o)->Q () { s with heap:=h',toks:=s.toks+2 }):wpAny (model prog w) A (setAttr (.ref x) name v) Q E s:=by
 refine set_plain X (KR hx) c.sa (osaE (s:={ s with toks:=s.toks+1 }) X (KR hx) cC T c.obj ht λb=>?_)
 obtain ⟨cd,hc,hd'⟩:=any_some c.hd
 have hx1:(s.heap.push { cls:=.type "dict",data:=.dict #[] }).get? x=some (Dq C none t):=Heap.get?_push_of_some _ hx
 have xs:x≠s.heap.objs.size:=Y1 (Heap.lt_size hx)
 refine wpAny_bind (wpAny_pure (wpAny_bind (wpAny_bind (wpAny_loadPart hx (wpAny_bind (Looks.here (s:={ s with toks:=s.toks+1 }) (looks_clsIn X hc) ?_))))))
 rw [hd']
 show wpAny _ _ (alloc _ >>= _) _ _ _
 refine wpAny_bind (wpAny_alloc' (wpAny_bind (wpAny_update' hx1 (wpAny_pure (wpAny_bind (wpAny_pure (wpAny_bind ?_)))))))
 have hgd:((s.heap.push { cls:=.type "dict",data:=.dict #[] }).update x λo=>{ o with dict:=some s.heap.objs.size }).get? s.heap.objs.size=some { cls:=.type "dict",data:=.dict #[] }:=(Heap.get?_update_ne _ _ _ _ xs.symm).trans (Heap.get?_push_at rfl rfl)
 have hnd:((s.heap.push { cls:=.type "dict",data:=.dict #[] }).update x λo=>{ o with dict:=some s.heap.objs.size }).Ns s.heap.objs.size (λ_=>none):=⟨_,#[],_,hgd,rfl,λe he=>absurd he (by simp),λ_=>rfl⟩
 refine wpAny_nsSet1 (Heap.Ns1.of_empty hnd) λh' hn hs=>?_
 obtain ⟨oD,esD,epD,hoD,hdD,hcD⟩:=hn.count (Within.cons name v Within.nil)
 refine wpAny_bind (wpAny_lookBehind hoD (by rw [hdD];exact pastItsLine_dict (T0 hcD (by rw [P0,K1,sizeLine_eq];lia))) ?_)
 refine wpAny_pure (k h' ((hs.2 x xs).trans (Heap.get?_update_self _ hx1 rfl)) hn λb o bx hb=>(hs.2 b (Y1 (Heap.lt_size hb))).trans ((Heap.get?_update_ne _ _ _ _ bx).trans (Heap.get?_push_of_some _ hb)))
theorem SJ {dx:Addr} {mA:Str->Option Value} {ns:List Str} (X:K.In s.heap) (cC:s.heap.get? C=some (excClassObj nm q C N bs bm hdct sn sub ab col dd k0 k1 k2 k3 k5 "ValueError.__new__")) (T:OwnTail s.heap BMV bm) (c:SetE K C) (ht:takerIn K C name=some none) (hx:s.heap.get? x=some (Dq C (some dx) t)) (hn:s.heap.Ns1 dx mA) (hw:Within mA ns) (hz:ns.length<=sizeLine)
  (k:∀ h',h'.Ns1 dx (λy=>if y=name then some v else mA y)->Heap.SameBut dx s.heap h'->Q () { s with heap:=h',toks:=s.toks+2 }):wpAny (model prog w) A (setAttr (.ref x) name v) Q E s:=by
 obtain ⟨od,J,_⟩:=Ux hx hn
 refine set_plain X J c.sa (osaE (s:={ s with toks:=s.toks+1 }) X J cC T c.obj ht λb=>?_)
 obtain ⟨cd,hc,hd'⟩:=any_some c.hd
 refine wpAny_bind (wpAny_pure (wpAny_bind (wpAny_bind (wpAny_loadPart hx (wpAny_bind (Looks.here (s:={ s with toks:=s.toks+1 }) (looks_clsIn X hc) ?_))))))
 rw [hd']
 refine wpAny_pure (a:=some dx) (wpAny_bind (wpAny_pure (wpAny_bind ?_)))
 refine wpAny_nsSet1 (s:={ s with toks:=s.toks+1 }) hn λh' n2 s2=>?_
 obtain ⟨oD,esD,epD,hoD,hdD,hcD⟩:=n2.count (PySem.Within.cons name v hw)
 refine wpAny_bind (wpAny_lookBehind hoD (by rw [hdD];exact pastItsLine_dict (T0 hcD (by rw [P0];lia))) ?_)
 exact wpAny_pure (k _ n2 s2)
end
end L2
namespace L2
open PySem PySem.Spec PyProof.Rows
def Cy (a C:Addr) (d:Option Addr) (t:Addr):HO:=.ext λh=>h.get? a=some (Dq C d t)
def QF (a:Addr) (fs:List (Str×V)):HO:=.ext λh=>∃ mA,h.Ns1 a mA/\(∀ f,DL (fs.lookup f) (mA f))/\PySem.Within mA (fs.map (·.1))
theorem NN {P:Program} {w:World} {H:Hp} {h:Heap} {a C t:Addr} {d:Option Addr} (e:h.get? a=some (Dq C d t)):BC P w H h a (Cy a C d t):=⟨e,⟨_,e⟩,λ_ _ x k=>k _ x⟩
theorem RV {P:Program} {w:World} {H:Hp} {h:Heap} {a:Addr} {fs:List (Str×V)} {mA:Str->Option Value} (n:h.Ns1 a mA) (r:∀ f,DL (fs.lookup f) (mA f)) (wi:PySem.Within mA (fs.map (·.1))):BC P w H h a (QF a fs) :=
 ⟨⟨mA,n,r,wi⟩,let ⟨o,_,_,e,_⟩:=n;⟨o,e⟩,λ_ _ ⟨mA,n,r,wi⟩ k=>⟨mA,n.at k,r,wi⟩⟩
structure ExcI (K:J0) (C f:Addr):Prop where
 ex:excInI K C f=true
 st:SetE K C
section
variable {X:Cx} {pins:List (Addr×Obj)} {σ:St} {H:Hp} {s:Shared} {a C fI t dx:Addr} {fs:List (Str×V)} {f:Str} {A:Around} {E:Value->Shared->Prop}
theorem setE0 {y:V} {u:Value} {Q:Unit->Shared->Prop} (I:Ax X pins σ H s) (e:H a=some (Cy a C none t)) (c:ExcI X.K C fI) (n:A5 X.K C f=some none) (ry:Bd y u)
  (h:∀ dx s',H dx=none->dx≠a->Ax X pins σ (upd (upd H a (Cy a C (some dx) t)) dx (QF dx [(f,y)])) s'->Q () s'):wpAny (model X.prog X.w) A (setAttr (.ref a) f u) Q E s:=by
 obtain ⟨bm,N,nm,q,bs,hdct,sn,sub,ab,col,dd,k0,k1,k2,k3,k5,mN,cC,cn,ci,T⟩:=Hn I.kIn c.ex
 have ob:s.heap.get? a=some (Dq C none t):=(I.hok a _ e).1
 refine SK I.kIn cC T c.st n ob λh' ha hn kp=>?_
 have fr:H s.heap.objs.size=none:=I.hok.fresh (V0 _)
 have ne:s.heap.objs.size≠a:=y8 (Heap.lt_size ob)
 have I1:Ax X pins σ (upd H a (Cy a C (some s.heap.objs.size) t)) { s with heap:=h',toks:=s.toks+2 }:=I.write (x:=a) (e:=a) (by rw [e];exact True.intro) (.inl rfl) kp ⟨_,ha⟩ (NN ha)
 have fp:EE X pins H s.heap.objs.size:=I.fpOk (V0 _) fr
 have n0:X.s₀.heap.get? s.heap.objs.size=none:=Heap.get?_none_of_le I.sz
 refine h s.heap.objs.size _ fr ne (I1.track (a:=s.heap.objs.size) (by rw [Ap ne];exact fr) n0 fp.2.1 fp.2.2.2.2.1 fp.2.2.2.2.2 (RV hn (λg=>?_) λg hg=>?_))
 ·show DL (A4 g [(f,y)]) (if g=f then some u else none)
  by_cases z:g=f
  ·subst z
   rw [if_pos rfl,show A4 g [(g,y)]=some y by simp [A4]]
   exact ry
  ·rw [if_neg z,show A4 g [(f,y)]=none by rw [A4,show (g == f)=false by simpa using z];rfl]
   exact True.intro
 ·by_cases z:g=f
  ·simp [z]
  ·exact absurd (show (if g=f then some u else none)=none from if_neg z) hg
theorem setE1 {y:V} {u:Value} {Q:Unit->Shared->Prop} (I:Ax X pins σ H s) (e:H a=some (Cy a C (some dx) t)) (ed:H dx=some (QF dx fs)) (c:ExcI X.K C fI) (n:A5 X.K C f=some none) (hl:fs.length<1000) (ry:Bd y u)
  (h:∀ s',Ax X pins σ (upd H dx (QF dx (Cz f y fs))) s'->Q () s'):wpAny (model X.prog X.w) A (setAttr (.ref a) f u) Q E s:=by
 obtain ⟨bm,N,nm,q,bs,hdct,sn,sub,ab,col,dd,k0,k1,k2,k3,k5,mN,cC,cn,ci,T⟩:=Hn I.kIn c.ex
 have ob:s.heap.get? a=some (Dq C (some dx) t):=(I.hok a _ e).1
 obtain ⟨mA,hn,r,wi⟩:=(I.hok dx _ ed).1
 refine SJ I.kIn cC T c.st n ob hn wi (by rw [L0,sizeLine_eq];lia) λh' n2 sb=>h _ ?_
 have hd:∃ o,h'.get? dx=some o:=let ⟨o,_,_,e',_⟩:=n2;⟨o,e'⟩
 refine I.write (x:=dx) (e:=dx) (by rw [ed];exact True.intro) (.inl rfl) (λb q hb z=>(sb.2 b hb).trans z) hd (RV n2 (λg=>?_) λg hg=>?_)
 ·show DL ((Cz f y fs).lookup g) (if g=f then some u else mA g)
  rw [DF]
  by_cases z:g=f
  ·rw [if_pos z,if_pos z];exact ry
  ·rw [if_neg z,if_neg z];exact r g
 ·by_cases z:g=f
  ·rw [z];exact (EL f y fs).1
  ·refine (EL f y fs).2 g (wi g λq=>hg ?_)
   show (if g=f then some u else mA g)=none
   rw [if_neg z];exact q
end
def sFldE (K:J0) (ta tv:TE) (f:Str):TS:=λD σ H=>tv σ H λy H1=>ta σ H1 λx H2=>∃ a C fI t,x=.ref a/\ExcI K C fI/\A5 K C f=some none /\
  ((H2 a=some (Cy a C none t)/\∀ dx,H2 dx=none->dx≠a->D.nx σ (upd (upd H2 a (Cy a C (some dx) t)) dx (QF dx [(f,y)]))) \/
   ∃ dx fs,H2 a=some (Cy a C (some dx) t)/\H2 dx=some (QF dx fs)/\fs.length<1000/\D.nx σ (upd H2 dx (QF dx (Cz f y fs))))
theorem ps_fldE {X:Cx} {o value:Expr} {f:Str} {pos pos':Pos} {ta tv:TE} (ha:PE X o ta) (hv:PE X value tv) (hs:swapsWith value (some (.Attribute o f pos')) pos.line X.env=pure false):PS X (.Assign [.Attribute o f pos'] value pos) (sFldE X.K ta tv f):=by
 intro pins s σ H D I h
 refine plainObj_wpAny_Assign_Attribute (Bt (hv pins s σ H _ I h) λu s1 ⟨y,H1,I1,ry,q⟩=>Bt (ha pins s1 σ H1 _ I1 q) λov s2 ⟨x,H2,I2,rx,a,C,fI,t,ex,c,n,q2⟩=>?_) hs
 subst ex
 obtain rfl:ov=Value.ref a:=rx
 rcases q2 with ⟨e,q2⟩ | ⟨dx,fs,e,ed,l,q2⟩
 ·exact setE0 I2 e c n ry λdx s3 fr ne I3=>⟨σ,_,I3,q2 dx fr ne⟩
 ·exact setE1 I2 e ed c n l ry λs3 I3=>⟨σ,_,I3,q2⟩
theorem fn_at {K:J0} {h:Heap} {f:Addr} (X:K.In h) (e:C6 K (.ref f)=true):∃ o,h.get? f=some o/\o.cls=.type "function":=by
 have q:(K.lookup f).map (·.cls)=some (.type "function"):=beq_iff_eq.mp e
 obtain ⟨o,ho,hc⟩:=K2.mp q
 exact ⟨o,X _ _ ho,hc⟩
structure MkE (K:J0) (C f:Addr):Prop where
 ex:ExcI K C f
 fn:C6 K (.ref f)=true
 kp:F3 K (.ref C)=true
theorem Ax.newE {X:Cx} {pins:List (Addr×Obj)} {σ:St} {H:Hp} {s:Shared} {h':Heap} {e:Addr} {c:Value} {us:List Value} (I:Ax X pins σ H s) (hex:X.ex=[]) (mk:Heap.MadeExcOf s.heap h' e c us) {o:HO} (new:BC X.prog X.w (upd H e o) h' e o):H e=none/\X.s₀.heap.get? e=none/\Ax X pins σ (upd H e o) { s with heap:=h' }:=by
 have nH:H e=none:=by
  cases q:H e with
  |none=>rfl
  |some u =>
   obtain ⟨o',q'⟩:=(I.hok e u q).some
   rw [mk.new] at q';cases q'
 have nX:X.s₀.heap.get? e=none:=by
  cases q:X.s₀.heap.get? e with
  |none=>rfl
  |some o =>
   obtain ⟨o',q'⟩:=I.base.there e o q (by rw [hex];simp)
   rw [mk.new] at q';cases q'
 have nL:e≠X.env.locals:=λz=>by
  obtain ⟨m,⟨o,_,_,e',_⟩,_⟩:=I.loc
  rw [<- z,mk.new] at e';cases e'
 have nC:∀ y c,X.env.cells.lookup y=some c->c≠e:=λy c q z=>by
  obtain ⟨v,o,ho,_⟩:=I.cell y c q
  rw [z,mk.new] at ho;cases ho
 have nP:∀ p∈X.pn++pins,p.1≠e:=λp hp z=>by
  have q:=(I.pin p hp).1
  rw [z,mk.new] at q;cases q
 exact ⟨nH,nX,(I.kept (t':=s.toks) mk.keeps).track nH nX nL nC nP new⟩
section
variable {X:Cx} {k:Nat} {f C:Addr} {fd:FuncData} {ps:List Str} {sp:Sp} {x:Str} {p pos:Pos} {e:Expr} {es:List Expr} {t:TA}
theorem QV {pins:List (Addr×Obj)} {σ:St} {H:Hp} {s:Shared} {Q:VK} {us:List Value} {vs:List V} (M:MkE X.K C f) (F:BD X.prog X.w X.K X.mg X.base CX0 k f fd ps sp) (hr:Cm (k+1) X.A) (hb:Dt X.K fd ps []) (hex:X.ex=[]) (I:Ax X pins σ H s) (r:AL vs us) (lr:us.length<=sizeLine)
  (h:∀ e t,H e=none->sp (.ref e::vs) (upd H e (Cy e C none t)) (λv H2=>v=.non/\Q (.ref e) H2) E0):wpAny (model X.prog X.w) X.A (call (.ref C) us) (λu s'=>(∃ a,u=.ref a/\X.s₀.heap.get? a=none)/\EP X pins σ Q u s') X.xe s:=by
 obtain ⟨bm,N,nm,q,bs,hdct,sn,sub,ab,col,dd,k0,k1,k2,k3,k5,mN,cC,cn,ci,T⟩:=Hn I.kIn M.ex.ex
 obtain ⟨oI,fo,fc⟩:=fn_at I.kIn M.fn
 refine callI cC cn ci T fo fc lr λh' a mk=>?_
 obtain ⟨t,at_,_,_⟩:=mk.there
 obtain ⟨nH,nX,I2⟩:=I.newE hex mk (NN (C:=C) (d:=none) (t:=t) at_)
 have hq:=h a t nH
 have r2:AL (V.ref a::(vs++[])) (Value.ref a::(us++[])):=.cons rfl (r.append .nil)
 rw [L1,L1] at r2
 have hl:(Value.ref a::us).length=ps.length:=by
  have e:=r2.length
  rw [F.len _ _ _ _ hq] at e
  exact e.symm
 have bd:=hb { s with heap:=h' } (Value.ref a::us) I2.kIn (by rw [L1];exact hl)
 rw [L1] at bd
 refine wpAny_call (codeAny_mono (F.run _ X.stack _ _ ⟨Value.ref a::us,[]⟩ (Value.ref a::us) _ _ E0 (hr.make C us []) (I2.env0.make C us []) bd r2 hq) λr s' hq'=>?_)
 cases r with
 |error e=>exact (DO (X:=X) pins σ _ _ e s' I2 hq')
 |ok fl =>
  cases fl with
  |ret u =>
   obtain ⟨v,H',I3,rv,ev,q3⟩:=I2.after hq'
   subst ev
   exact ⟨rv,⟨a,rfl,nX⟩,⟨V.ref a,H',I3,rfl,q3⟩⟩
  |next=>exact False.elim hq'
  |brk=>exact False.elim hq'
  |cont=>exact False.elim hq'
end
theorem QY {M:Model} {A:Around} {E:Value->Shared->Prop} {s:Shared} {env:Env} {x:Sem Value} {Q:Flow->Shared->Prop} (hh:A.handled=none)
  (h:wpAny M A x (λv s1=>∃ e C d t nm q N bs bm hdct sn sub ab col dd k0 k1 k2 k3 k5,v=.ref e/\s1.heap.get? C=some (excClassObj nm q C N bs bm hdct sn sub ab col dd k0 k1 k2 k3 k5 "ValueError.__new__")/\bm.contains (.type "BaseException")=true/\s1.heap.get? e=some (Dq C d t)/\E (.ref e) s1) E s):wpAny M A (raiseStmt env (some x) none) Q E s:=by
 unfold raiseStmt
 refine wpAny_bind (wpAny_mono h (λv s1 z=>?_) λ_ _ x=>x)
 obtain ⟨e,C,d,t,nm,q,N,bs,bm,hdct,sn,sub,ab,col,dd,k0,k1,k2,k3,k5,rfl,cC,hb,he,hE⟩:=z
 have up:(Value.ref C::bm).contains (.type "BaseException")=true:=by rw [List.contains_cons,hb,P7]
 obtain ⟨hp,g,dr,tk,os⟩:=s1
 repeat (first | with_reducible refine wpAny_loadPart_at he ?_ | with_reducible refine wpAny_loadPart_at cC ?_ | (with_reducible refine wpAny_isSubtype_exc cC ?_;rw [up]) | wp_step)
 exact wpAny_raiseNew_none hh hE
theorem Ax.raisedE {X:Cx} {pins:List (Addr×Obj)} {σ:St} {H:Hp} {s:Shared} {a C t:Addr} {d:Option Addr} (I:Ax X pins σ H s) (hex:X.ex=[]) (ea:H a=some (Cy a C d t)) (na:X.s₀.heap.get? a=none) :
  ∀ h':Heap,(L8 s.heap (a::IE X.stack)).StaysIn h'->UnB (IE X.outer) X.H₀ (RO H a) X.s₀.heap h'/\Gp X.prog X.w (RO H a) h':=by
 intro h' st
 have kp:∀ b u,s.heap.get? b=some u->b≠a->b∉IE X.stack->h'.get? b=some u:=λb u e n hb=>st b u (PySem.W.hideAll_get _ e λz=>by
  rcases K0.mp z with z | z
  ·exact n z
  ·exact hb z)
 have nx:∀ b,b∉X.ex:=λb z=>by rw [hex] at z;cases z
 have old:∀ b o,X.s₀.heap.get? b=some o->b≠a:=λb o e z=>by rw [z,na] at e;cases e
 have tr:∀ b u,H b=some u->u≠Cy a C d t->b≠a:=λb u e n z=>by
  rw [z,ea] at e
  cases e
  exact n rfl
 refine ⟨⟨λb o e n hb=>kp b o (I.base.keep b o e n hb (nx b)) (old b o e) (I.oldB e hb),λb o e n=>?_,λb o e hb=>?_,λb xs e=>?_,λb o v e=>?_,λb ps e=>?_⟩,λb u e=>?_⟩
 ·rw [Fh (old b o e)];exact I.base.free b o e n (nx b)
 ·obtain ⟨o',q⟩:=I.base.there b o e (nx b)
  exact ⟨o',kp b o' q (old b o e) (I.oldB e hb)⟩
 ·have q:=I.base.tups b xs e
  rw [Fh (tr b _ q λz=>by unfold Cy at z;cases z)];exact q
 ·have q:=I.base.frzs b o v e
  rw [Fh (tr b _ q λz=>by unfold Cy at z;cases z)];exact q
 ·obtain ⟨m,q⟩:=I.base.tbls b ps e
  exact ⟨m,by rw [Fh (tr b _ q λz=>by unfold Cy at z;cases z)];exact q⟩
 ·have n:b≠a:=λz=>by rw [z,UI] at e;cases e
  rw [Fh n] at e
  refine (I.hok b u e).stay (λc v hc q=>kp c v q (λz=>?_) λhs=>?_) (λc q=>?_) λc xs q=>?_
  ·rcases hc with w | w
   ·exact n (w.symm.trans z)
   ·rw [z,ea] at w;unfold Cy at w;cases w
  ·have hn:=I.stkFree c hs
   rcases hc with z | z
   ·rw [z,e] at hn;cases hn
   ·rw [z] at hn;cases hn
  ·rw [Fh (tr c _ q λz=>by unfold Cy at z;cases z)];exact q
  ·rw [Fh (tr c _ q λz=>by unfold Cy at z;cases z)];exact q
def IG (C:Addr) (sp:Sp) (t:TA) (E:XK):TS:=λ_ σ H=>t σ H λvs H1=>vs.length<=sizeLine/\∀ e t,H1 e=none->sp (.ref e::vs) (upd H1 e (Cy e C none t)) (λv H2=>v=.non/\∃ a d t,(V.ref e)=.ref a/\H2 a=some (Cy a C d t)/\E (.ref C) d (RO H2 a)) E0
theorem Kw {X:Cx} {E:XK} {k:Nat} {f C:Addr} {fd:FuncData} {ps:List Str} {sp:Sp} {x:Str} {p cpos pos:Pos} {e:Expr} {es:List Expr} {t:TA} (L:QA X E) (hc:X.calm=true) (M:MkE X.K C f) (F:BD X.prog X.w X.K X.mg X.base CX0 k f fd ps sp) (hr:Cm (k+1) X.A) (hg:Gl X x) (hm:X.mg x=some (.ref C)) (hb:Dt X.K fd ps [])
  (ha:PA X (e::es) t) (hdb:(x == ("__debug__":Str))=false:=by kd_p) (he:starEach (e::es) X.env=(false,eval e X.env)::starEach es X.env:=by rfl) (hpl:(backTo cpos (starEach es X.env)).any (·.1)=false:=by rfl):PS X (.Raise (some (.Call (.Name x p) (e::es) [] cpos)) none pos) (IG C sp t E):=by
 intro pins s σ H D I h
 obtain ⟨hst,hfr,hex,hxe⟩:=L
 rw [arm_exec_Raise]
 refine wpAny_bind (wpAny_standAt (QY (I.ok.hd hc) (wpAny_bind (wpAny_mono (wpAny_Call_Name_kw (Ev I hg hm (j4 (h₀:=X.base) I.ok.mod.kin M.kp (Bt (ha cpos pins s σ H _ I h) λus s1 ⟨vs,H1,I1,r,lr,q⟩=>⟨I1.kIn,QV (Q:=λv H2=>∃ a d t,v=.ref a/\H2 a=some (Cy a C d t)/\E (.ref C) d (RO H2 a)) M F hr hb hex I1 r (by show us.length<=_;rw [<- r.length];exact lr) q⟩) he hpl) hdb)) (λv s1 z=>wpAny_bind (wpAny_standAt (wpAny_pure ?_))) λ_ _ q=>q))))
 obtain ⟨⟨a0,ev0,na⟩,x,H1,I1,rx,a,d,t,ev,ea,q⟩:=z
 subst ev
 obtain rfl:v=Value.ref a:=rx
 rw [show a0=a from (Value.ref.inj ev0).symm] at na
 obtain ⟨bm,N,nm,qn,bs,hdct,sn,sub,ab,col,dd,k0,k1,k2,k3,k5,mN,cC,cn,ci,T⟩:=Hn I1.kIn M.ex.ex
 have ob:s1.heap.get? a=some (Dq C d t):=(I1.hok a _ ea).1
 refine ⟨a,C,d,t,nm,qn,N,bs,bm,hdct,sn,sub,ab,col,dd,k0,k1,k2,k3,k5,rfl,cC,T.hasType PySem.F.excBase_ValueError.hasBase,ob,?_⟩
 rw [hxe]
 have fr:X.A.frames=some (X.env::X.outer):=by rw [I1.ok.frames,hst]
 have ff:s1.heap.FunFrames X.base (X.env::X.outer):=by rw [<- hst];exact I1.stack
 unfold leaving
 refine wpAny_bind (Ru (B:=L8 s1.heap (a::IE X.stack)) fr (PySem.W.funFrames_hide ff λenv he b hb=>A0 _ (by rw [hst];exact f7.mpr ⟨env,he,hb⟩)) hfr ob (λb o z=>PySem.W.of_hideAll _ z) (V7 _ C0) rfl rfl rfl λh1 ⟨a1,a2,a3,a4⟩=>JF (s:={ s1 with heap:=h1 }) a1 a2 a3 λh2 ⟨b1,⟨_,_,b2⟩,b3,b4⟩=>?_)
 have s0:Iw (IE X.outer) X.s₀.heap s1.heap:=λb o e hb=>I1.base.slot b o e (I1.ok.frf b hb) hb (by rw [hex];simp)
 exact ⟨a,.ref C,d,_,RO H1 a,rfl,I1.os,I1.bare,⟨b1,V7 _ C0,b2,b3⟩,s0.up I1.ok.funs (a4.trans b4),I1.raisedE hex ea na,q⟩
def JS (K:J0) (C:Addr):Prop:=IsExc K C\/∃ f,excInI K C f=true
theorem JS.rec {K:J0} {h:Heap} {C:Addr} (x:JS K C) (X:K.In h):∃ nid bm N nm qn bs hdct sn sub ab col dd k0 k1 k2 k3 k5,h.get? C=some (excClassObj nm qn C N bs bm hdct sn sub ab col dd k0 k1 k2 k3 k5 nid):=by
 rcases x with x | ⟨f,x⟩
 ·obtain ⟨bm,N,nm,qn,bs,hd,sn,sub,ab,col,dd,k0,k1,k2,k3,k5,_,e,_⟩:=KQ X x
  exact ⟨_,bm,N,nm,qn,bs,hd,sn,sub,ab,col,dd,k0,k1,k2,k3,k5,e⟩
 ·obtain ⟨bm,N,nm,qn,bs,hd,sn,sub,ab,col,dd,k0,k1,k2,k3,k5,_,e,_⟩:=Hn X x
  exact ⟨_,bm,N,nm,qn,bs,hd,sn,sub,ab,col,dd,k0,k1,k2,k3,k5,e⟩
def ER (a C:Addr) (d:Option Addr):HO:=.ext λh=>∃ ob,h.get? a=some ob/\ob.cls=.ref C/\(S8 ob=true/\∃ vs,ob.data=.fields vs/\vs[2]?=some .none)/\ob.dict=d
theorem UA {P:Program} {w:World} {H:Hp} {h:Heap} {a C:Addr} {d:Option Addr} {ob:Obj} (e:h.get? a=some ob) (c:ob.cls=.ref C) (n:S8 ob=true/\∃ vs,ob.data=.fields vs/\vs[2]?=some .none) (x:ob.dict=d):BC P w H h a (ER a C d) :=
 ⟨⟨ob,e,c,n,x⟩,⟨ob,e⟩,λ_ _ ⟨ob,e,c,n,x⟩ k=>⟨ob,k _ e,c,n,x⟩⟩
def Ve (H:Hp) (d:Option Addr):Prop:=∀ dx,d=some dx->∃ fs,H dx=some (QF dx fs)
theorem ex_inst {P:Program} {w:World} {H:Hp} {h:Heap} {a C:Addr} {d:Option Addr} (I:Gp P w H h) (e:H a=some (ER a C d)) (hd:Ve H d):∃ ob od,T8 h a ob C od:=by
 obtain ⟨ob,at_,c,n,x⟩:=(I a _ e).1
 cases d with
 |none=>exact ⟨ob,none,at_,c,n.1,by rw [x];trivial⟩
 |some dx =>
  obtain ⟨fs,e2⟩:=hd dx rfl
  obtain ⟨o,q⟩:=(I dx _ e2).2.1
  exact ⟨ob,some o,at_,c,n.1,by rw [x];exact q⟩
theorem Uz {P:Program} {w:World} {H:Hp} {h:Heap} {a C dx:Addr} {fs:List (Str×V)} (I:Gp P w H h) (e:H a=some (ER a C (some dx))) (e2:H dx=some (QF dx fs)):∃ (ob od:Obj) (mA:Str->Option Value),T8 h a ob C (some od)/\(∀ f,DL (fs.lookup f) (mA f))/\∀ name,j6 name od=some (mA name):=by
 obtain ⟨ob,at_,c,n,x⟩:=(I a _ e).1
 obtain ⟨mA,hn,r,_⟩:=(I dx _ e2).1
 obtain ⟨od,q,l⟩:=HN hn
 exact ⟨ob,od,mA,⟨at_,c,n.1,by rw [x];exact q⟩,r,l⟩
section
variable {X:Cx}
theorem UR:Ek X (.builtin "isinstance") (λxs H Q=>∃ (a C:Addr) (d:Option Addr) (c:V) (cv:Value) (b:Bool),xs=[.ref a,c]/\H a=some (ER a C d)/\Ve H d/\((∃ D,c=.ref D/\cv=.ref D)\/∃ n,c=.ty n/\cv=.type n)/\Ej X.K C/\(∀ od,V6 X.K C od "__class__"=some (.bind (.builtin "getset_descriptor.__get__") (.builtin "object.__class__")))/\W1 X.K (.ref C) cv=some b/\Q (.bl b) H):=by
 intro pins s σ H xs us Q I r h
 obtain ⟨a,C,d,c,cv,b,rfl,ha,hd,hc,ec,hf,e,q⟩:=h
 obtain ⟨u,u',rfl,ru,ru'⟩:=RZ r
 cases ru
 obtain ⟨ob,od,J⟩:=ex_inst I.hok ha hd
 have eu:u'=cv:=by
  rcases hc with ⟨D,rfl,rfl⟩ | ⟨n,rfl,rfl⟩<;>exact ru'
 subst eu
 exact Q3 (TW ec (hf od)) I.kIn J e (λz=>nomatch z) λtk=>⟨.bl b,H,I.tok _,rfl,q⟩
def Sq (K:J0) (ta:TE) (f:Str):TE:=λσ H Q=>ta σ H λx H1=>∃ a C dx fs v,x=.ref a/\H1 a=some (ER a C (some dx))/\H1 dx=some (QF dx fs)/\Ej K C/\E5 K C=true/\T1 K (.ref C) f=some none/\fs.lookup f=some v/\Q v H1
theorem pe_fldX {e:Expr} {f:Str} {pos:Pos} {ta:TE} (he:PE X e ta) (hb:attributeBase e f X.env (eval e X.env)=eval e X.env):PE X (.Attribute e f pos) (Sq X.K ta f):=by
 intro pins s σ H Q I h
 refine Qv hb (Bt (he pins s σ H _ I h) λu s1 ⟨x,H1,I1,rx,a,C,dx,fs,v,ex,ea,ed,c,hh,hf,l,q⟩=>?_)
 subst ex
 obtain rfl:u=Value.ref a:=rx
 obtain ⟨ob,od,mA,J,r,lk⟩:=Uz I1.hok ea ed
 obtain ⟨u,hu,ru⟩:=DL.some_of (v:=v) (o:=mA f) (by rw [<- l];exact r f)
 refine exc_fld I1.kIn J c (PySem.W.findObj_own hh hf rfl (by rw [lk,hu])) ?_ ⟨v,H1,I1.tok _,ru,q⟩
 exact PySem.W.handedOut_of (KL ru)
end
def tAsE (K:J0) (D:Addr) (i:Nat) (ts:TS) (D1:FO):St->XK:=λσ C d H=>∃ Ca,C=.ref Ca/\JS K Ca/\S5 K Ca (.ref D)=some true/\∀ a,H a=none->ts D1 (σ.set i (some (.ref a))) (upd H a (ER a Ca d))
theorem try_asE {X:Cx} {tb suite:List Stmt} {b0:Stmt} {x n:Str} {D:Addr} {i:Nat} {np hp pos:Pos} {t:TS} {ts:TS} {D0:FO} {σ:St} {H:Hp} {s:Shared} (hst:X.stack=X.env::X.outer) (hfr:X.env.frame=some X.env.locals) (hex:X.ex=[]) (hpn:X.pn=[]) (hg:Gl X x) (O:XCls X.K X.mg x D)
  (hN:X.N.Nodup) (hi:X.N[i]?=some n) (hl:X.env.scope.names.lookup n=some .local) (b1:∀ σ H,¬ D0.bk σ H) (c1:∀ σ H,¬ D0.ct σ H)
  (hb:Ix (X.wish (Pt X (tAsE X.K D i ts { nx:=λ_ H=>D0.nx (E2 X.N.length none) H,rt:=D0.rt }))) tb t) (hs:∀ u,Ix (X.with (X.A.mark (some u)) false (λ_ _=>False)) (b0::suite) ts) (ht:t D0 σ H) (I:Ax X [] σ H s) (hd:(x == ("__debug__":Str))=false:=by kd_p) :
  wpAny (model X.prog X.w) X.A (exec (.Try tb [.ExceptHandler (some (.Name x np)) (some n) (b0::suite) hp] [] [] pos) X.env) (SP X [] D0) X.xe s:=by
 refine wpAny_Try_except (wpAny_mono (hb [] s σ H _ (I.wish _) ht) (λf s1 q=>?_) λe s1 q=>?_)
 ·have q':=SP.unwish q
  cases f with
  |next=>exact wpAny_execs_nil q'
  |brk=>exact q'
  |cont=>exact q'
  |ret u=>exact q'
 ·obtain ⟨σ1,H1,s0,I0,a,c,d,B,H2,rfl,os,bare,fly,sl,kp,Ca,rfl,xC,up,hts⟩:=q
  have fr:X.A.frames=some (X.env::X.outer):=by rw [I0.ok.frames,hst]
  have ff:s0.heap.FunFrames X.base X.stack:=I0.stack
  rw [hst] at fly
  refine fly.comes fr hfr λh5 fly5 u5=>?_
  have inv:∀ h6:Heap,B.StaysIn h6->Iw (IE X.stack) s0.heap h6->Ax X [] σ1 H2 { s1 with heap:=h6 }:=λh6 b6 s6=>by
   obtain ⟨un,hok⟩:=kp h6 b6
   exact I0.call' (s':={ s1 with heap:=h6 }) (ch:=[]) os (un.un s6) hok bare (λb hb=>by cases hb)
  have sl5:Iw (IE X.stack) s0.heap h5:=sl.up ff u5
  have I5:=inv h5 fly5.1 sl5
  obtain ⟨ob,vs5,hob,hobc,_,hobd⟩:=fly5.there
  have nm:∀ {A:Around} {E:Value->Shared->Prop} {R:Value->Shared->Prop},R (.ref D) { s1 with heap:=h5 }->wpAny (model X.prog X.w) A (eval (.Name x np) X.env) R E { s1 with heap:=h5 }:=λr =>
   Calls.Name_function_global I5.ok.kind hg (Calls.loadGlobal_global (by rw [I5.ok.glob];exact I5.mod.glob.keeps I5.bk) O.at_ r) hd
  -- it is new
  have nB:B.get? a=none:=fly5.2.1
  have n0:s0.heap.get? a=none:=by
   cases q:s0.heap.get? a with
   |none=>rfl
   |some o =>
    by_cases hb:a∈IE X.stack
    ·obtain ⟨_,o',ho',hnf⟩:=ff.mem hb
     rw [q] at ho';cases ho'
     obtain ⟨sl',q'⟩:=sl5 a _ q hb
     rw [hob] at q';cases q'
     exact absurd hobd (hnf _)
    ·obtain ⟨o',q'⟩:=(kp B (λ_ _ e=>e)).1.there a o q hb
     rw [nB] at q';cases q'
  have nH:H2 a=none:=by
   cases q:H2 a with
   |none=>rfl
   |some u =>
    obtain ⟨o',q'⟩:=((kp B (λ_ _ e=>e)).2 a u q).some
    rw [nB] at q';cases q'
  have nX:X.s₀.heap.get? a=none:=by
   cases q:X.s₀.heap.get? a with
   |none=>rfl
   |some o =>
    obtain ⟨o',q'⟩:=I0.base.there a o q (by rw [hex];simp)
    rw [n0] at q';cases q'
  have nL:a≠X.env.locals:=λz=>by
   obtain ⟨m,⟨o,_,_,e,_⟩,_⟩:=I0.loc
   rw [<- z,n0] at e;cases e
  have nC:∀ y c,X.env.cells.lookup y=some c->c≠a:=λy c e z=>by
   obtain ⟨v,o,ho,_⟩:=I0.cell y c e
   rw [z,n0] at ho;cases ho
  refine wpAny_handleBy_cons (codeAny_handlers_test (nm ?_)) (by intro q;cases q)
  obtain ⟨bmD,ND,nmD,qnD,bsD,hdD,snD,subD,abD,colD,ddD,a0,a1,a2,a3,a5,mD,atD,_,_,TD⟩:=KQ I5.kIn O.ex
  obtain ⟨nidC,bmC,NC,nmC,qnC,bsC,hdC,snC,subC,abC,colC,ddC,e0,e1,e2,e3,e5,atC⟩:=xC.rec I5.kIn
  refine NM (C:=Ca) (D:=D) (ups:=bmC) (downs:=bmD) ⟨nmC,qnC,NC,bsC,hdC,snC,subC,abC,colC,ddC,e0,e1,e2,e3,e5,_,atC⟩ ⟨nmD,qnD,ND,bsD,hdD,snD,subD,abD,colD,ddD,a0,a1,a2,a3,a5,_,atD⟩ hob hobc (TD.hasType PySem.F.excBase_ValueError.hasBase) ?_
  rw [mro_is I5.kIn atC up]
  refine codeAny_handlers_suite_as (fly5.again λh6 fly6 u6=>?_)
  have I6:=inv h6 fly6.1 (sl5.up ff u6)
  obtain ⟨ob6,vs6,hob6,hobc6,hobx6,hobd6,hobn6⟩:=fly6.there2
  have J6:Ax X [] σ1 (upd H2 a (ER a Ca d)) { s1 with heap:=h6 }:=I6.track nH nX nL nC (λp hp=>by rw [hpn] at hp;cases hp) (UA hob6 hobc6 ⟨by unfold S8;rw [hobd6],_,hobd6,hobn6⟩ hobx6)
  refine IY J6 hN hi (.inl hl) (v:=.ref a) rfl (λs7 I7=>?_) (.inr hl)
  refine wpAny_mono (hs (.ref a) [] s7 _ _ _ (I7.with (λz=>nomatch z) rfl) (hts a nH)) (λf s8 q=>?_) (λ_ _ z=>z.elim)
  have kd:(X.env.scope.kind == .class||(X.env.scope.kind == .module&&X.env.locals != X.env.globals))=false:=by rw [I5.ok.kind];rfl
  cases f with
  |next =>
   obtain ⟨σ',H',I8,q⟩:=q
   have I8:=I8.back I7
   obtain ⟨m,hm,_⟩:=I8.loc
   exact wpAny_nameGoes hl hm kd λh9 m9 hn9 hs9=>⟨_,H',I8.forgotten hn9 hs9,q⟩
  |brk =>
   obtain ⟨σ',H',_,q⟩:=q
   exact False.elim q
  |cont =>
   obtain ⟨σ',H',_,q⟩:=q
   exact False.elim q
  |ret u =>
   obtain ⟨v,σ',H',I8,r,q⟩:=q
   have I8:=I8.back I7
   obtain ⟨m,hm,_⟩:=I8.loc
   exact wpAny_nameGoes hl hm kd λh9 m9 hn9 hs9=>⟨v,_,H',I8.forgotten hn9 hs9,r,q⟩
section
variable {P:Program} {w:World} {K:J0} {mg:Str->Option Value} {base:Heap}
theorem QC.okAsE {x qual:Str} {st:Stmt} {f:Addr} {fd:FuncData} {N ps:List Str} {k:Nat} {sp:Sp} {tb suite Cf:List Stmt} {b0:Stmt} {hx n:Str} {D:Addr} {i:Nat} {np hp pos:Pos} (F:QC K x qual st f fd) (S:DA N ps (AG st)) (O:XCls K mg hx D)
  (hb:BY st=.Try tb [.ExceptHandler (some (.Name hx np)) (some n) (b0::suite) hp] [] [] pos::Cf) (hi:N[i]?=some n) (hl:(AG st).names.lookup n=some .local) (len:∀ vs H Q E,sp vs H Q E->vs.length=ps.length)
  (hgl:∀ (cdv:Value) (n:Nat),(envOfC qual (AG st) n f cdv).kindOf hx=some .globalImplicit) (hd:(hx == ("__debug__":Str))=false)
  (hbody:∀ (cdv:Value) (A:Around) (outer:List Env) (s:Shared) (H:Hp) (vs:List V) (Q:VK) (E:XK),Cm k (A.deeper (envOfC qual (AG st) s.heap.objs.size f cdv))->sp vs H Q E ->
   ∃ (t:(St->XK)->TS) (ts tr:TS),(∀ E',Ix ((EB CX0 P w K mg base N qual (AG st) f cdv A outer s H E).wish (Pt (EB CX0 P w K mg base N qual (AG st) f cdv A outer s H E) E')) tb (t E')) /\
    (∀ u,Ix ((EB CX0 P w K mg base N qual (AG st) f cdv A outer s H E).with ((A.deeper (envOfC qual (AG st) s.heap.objs.size f cdv)).mark (some u)) false (λ_ _=>False)) (b0::suite) ts) /\
    Ix (EB CX0 P w K mg base N qual (AG st) f cdv A outer s H E).nox Cf tr /\
    t (tAsE K D i ts { nx:=λ_ H'=>tr { nx:=λ_ H'=>Q .non H',rt:=Q } (E2 N.length none) H',rt:=Q }) { nx:=λσ' H'=>tr { nx:=λ_ H'=>Q .non H',rt:=Q } σ' H',rt:=Q } (start N vs) H):BD P w K mg base CX0 (k+1) f fd ps sp:=by
 obtain ⟨oc,od,kV,doc,pm,an,cdv,ct,osl,rfl,lk,hcd⟩:=F.ex
 refine fn_ofW lk hcd S len λA outer s H vs Q E hr hsp s1 I=>?_
 obtain ⟨t,ts,tr,h1,h2,h3,q⟩:=hbody cdv A outer s H vs Q E hr hsp
 rw [hb]
 refine wpAny_execs_cons (Bt (try_asE (X:=EB CX0 P w K mg base N qual (AG st) f cdv A outer s H E) (D0:={ nx:=λσ' H'=>tr { nx:=λ_ H'=>Q .non H',rt:=Q } σ' H',rt:=Q }) rfl rfl rfl rfl (hgl cdv _) O S.nd hi hl (λ_ _ z=>z) (λ_ _ z=>z) (h1 _) h2 q I hd) λfl s2 z=>?_)
 cases fl with
 |next =>
  obtain ⟨σ',H',I',z⟩:=z
  exact h3.nox [] s2 σ' H' _ I' z
 |ret v=>exact z
 |brk=>obtain ⟨_,_,_,z⟩:=z;exact z.elim
 |cont=>obtain ⟨_,_,_,z⟩:=z;exact z.elim
end
section
variable {X:Cx}
end
theorem Kb:bootBuiltins "ValueError"=some (.type "ValueError"):=by lk
def rIsD (K:J0):List V->Hp->VK->Prop:=λxs H Q=>∃ (a C:Addr) (d:Option Addr) (c:V) (cv:Value) (b:Bool),xs=[.ref a,c]/\H a=some (ER a C d)/\Ve H d/\((∃ D,c=.ref D/\cv=.ref D)\/∃ n,c=.ty n/\cv=.type n)/\Ej K C/\(∀ od,V6 K C od "__class__"=some (.bind (.builtin "getset_descriptor.__get__") (.builtin "object.__class__")))/\W1 K (.ref C) cv=some b/\Q (.bl b) H
theorem CM {X:Cx} {K:J0} (hK:X.K=K):Ek X (.builtin "isinstance") (rIsD K):=by subst hK;exact UR
theorem Nb {X:Cx} {K:J0} {e:Expr} {f:Str} {pos:Pos} {ta:TE} (hK:X.K=K) (he:PE X e ta) (hb:attributeBase e f X.env (eval e X.env)=eval e X.env):PE X (.Attribute e f pos) (Sq K ta f):=by subst hK;exact pe_fldX he hb
theorem nsOk_of {K:J0} {N:Addr} {c:Value} {dd:Option Addr} {es:Array DictEntry} {n:Nat} {sl:Array (Option Value)} (h:K.lookup N=some ⟨c,dd,.dict es n,sl⟩) (ha:es.toList.all (λe=>match e.key with | .str _ _=>true | _=>false)=true):PySem.W.nsOkIn K N=true:=by
 unfold PySem.W.nsOkIn
 rw [h]
 show es.all _=true
 rw [<- Array.all_toList]
 exact ha
theorem excInI_of {K:J0} {C W f N:Addr} {dd dW:Option Addr} {cd cW:ClassData} {sl sW:Array (Option Value)} {oW cN:Value} {bm:List Value} {k0 k1 k2 k3 k5:Option Value} {dN:Option Addr} {es:Array DictEntry} {n:Nat} {sN:Array (Option Value)} {nid:String}
  (hl:K.lookup C=some ⟨.type "type",dd,.cls cd,sl⟩) (hm:cd.mro=.ref C::.ref W::bm) (hs:sl.toList=[k0,k1,k2,k3,some (.builtin "ValueError.__new__"),k5]) (hd:cd.hasDel=false)
  (hW:K.lookup W=some ⟨oW,dW,.cls cW,sW⟩) (hWm:cW.mro=.ref W::bm) (hx:z5 K W BMV nid=true) (hN:cd.ns=N) (hNl:K.lookup N=some ⟨cN,dN,.dict es n,sN⟩) (ha:es.toList.all (λe=>match e.key with | .str _ _=>true | _=>false)=true)
  (hi:Q1 K N "__init__"=some (some (.ref f))):excInI K C f=true:=by
 subst hN
 have ho:=nsOk_of hNl ha
 have ht:PySem.W.tailIn K BMV (.ref W::bm)=true:=by
  unfold z5 at hx
  rw [hW] at hx
  split at hx
  ·rename_i q
   cases q
   rw [hWm] at hx
   split at hx
   ·rename_i q _
    cases q
    simp only [C1] at hx
    unfold PySem.W.tailIn
    simp only [hW,hx.1.2,hx.2,hx.1.1.2,Bool.and_self,P7]
   ·cases hx
  ·cases hx
 exact @decide_eq_true _ (Classical.propDecidable _) ⟨dd,cd,sl,_,k0,k1,k2,k3,k5,hl,hm,hs,hd,ht,ho,hi⟩
section
variable {prog:Program} {w:World} {A:Around} {E:Value->Shared->Prop} {s:Shared}
end
section
variable {X:Cx} {pins:List (Addr×Obj)} {σ:St} {H:Hp} {s:Shared}
end
structure XAny (K:J0) (mg:Str->Option Value) (x:Str) (C:Addr):Prop where
 at_:mg x=some (.ref C)
 ex:JS K C
section
variable {X:Cx}
end
section
variable {P:Program} {w:World} {K:J0} {mg:Str->Option Value} {base:Heap}
end
open AutoSeq1 (wpAny_loadPart')
end L2
namespace L2
open PySem PySem.Spec PyProof.Rows
end L2
namespace HT
open PySem PySem.Spec PyProof.Rows
section
variable {prog:Program} {w:World} {A:Around} {E:Value->Shared->Prop} {s:Shared}
end
end HT
namespace L2
open PySem PySem.Spec PyProof.Rows
section
variable {X:Cx}
end
abbrev BO (P:Program) (w:World) (base:Heap) {K:J0} {mg:Str->Option Value} {x:Str} {st:Stmt} {ps:List Str} (D:Ex K mg x st ps) (k:Nat) (sp:Sp):Prop:=BD P w K mg base CX0 k D.f D.fd ps sp
theorem AI {X:Cx} {k n:Nat} {x:Str} {st:Stmt} {ps:List Str} {sp:Sp} {p pos:Pos} {e:Expr} {es:List Expr} {t:TA} (D:Ex X.K X.mg x st ps) (F:BD X.prog X.w X.K X.mg X.base CX0 k D.f D.fd ps sp) (hr:Cm n X.A) (ha:PA X (e::es) t)
  (hn:k<=n:=by first | decide | lia) (hg:Gl X x:=by rfl) (hdb:(x == ("__debug__":Str))=false:=by kd_p) (he:starEach (e::es) X.env=(false,eval e X.env)::starEach es X.env:=by rfl) (hpl:(backTo pos (starEach es X.env)).any (·.1)=false:=by rfl):PE X (.Call (.Name x p) (e::es) [] pos) (PD sp [] E0 t) :=
 pe_call F (hr.mono hn) hg D.hm D.F.kp D.b .nil DO ha hdb he hpl
abbrev Sc (N P:List Str) (st:Stmt):Prop:=DA N P (AG st)
theorem DD {N P:List Str} {sc:Scope} (h:N.Nodup/\(∀ x∈P,sc.names.lookup x=some .local\/sc.names.lookup x=some .cell)/\∀ y∈sc.names,y.2≠.free) (a:sc.kind=.function:=by rfl) (b:sc.isCoroutine=false:=by rfl) (c:sc.isGenerator=false:=by rfl) (d:N.take P.length=P:=by rfl):DA N P sc:=⟨a,b,c,h.1,d,h.2.1,h.2.2⟩
def allL {α:Type}:Nat->(List α->Prop)->Prop
 |0,P=>P []
 |n+1,P=>∀ a,allL n λr=>P (a::r)
theorem allL.all {α:Type}:∀ {n:Nat} {P:List α->Prop},allL n P->∀ us:List α,us.length=n->P us
 |0,_,h,[],_=>h
 |_+1,_,h,a::r,e=>(h a).all r (U8.inj e)
noncomputable def InK.dn {K:J0} {mg:Str->Option Value} {h:Heap} {x:Str} {st:Stmt} {ps:List Str} (i:InK K x st) (X:K.In h) (G:h.Ns mainGlobals mg) (hb:allL ps.length λus=>∀ (kV doc pm:Value) (an:Option Addr) (cdv ct:Value),bindArgs (E3 x x (Db st) (BY st) (AG st) .none kV doc pm an cdv ct) ⟨us,[]⟩=pure (ps.zip us):=by (repeat intro _);rfl):Ex K mg x st ps :=
 Classical.choice (i.def X G λkV doc pm an cdv ct us hl=>hb.all us hl kV doc pm an cdv ct)
section
variable {X:Cx}
def BB (kvs more:List (Cr×V)):List (Cr×V):=more.foldl (λacc kv=>IA acc kv.1 kv.2) kvs
theorem Hg:∀ (more kvs:List (Cr×V)),(BB kvs more).length<=kvs.length+more.length
 |[],kvs=>V0 _
 |kv::r,kvs=>by
  have h1:=Hg r (IA kvs kv.1 kv.2)
  have h2:=Iq kvs kv.1 kv.2
  show (BB (IA kvs kv.1 kv.2) r).length<=_
  rw [P0]
  lia
theorem KV.puts {more:List (Cr×V)} {ms:List (Cr×Value)} (q:KV more ms):∀ {kvs:List (Cr×V)} {vs:List (Cr×Value)},KV kvs vs->KV (BB kvs more) (merged vs ms):=by
 induction q with
 |nil=>exact λr=>r
 |@cons a b _ _ h _ ih =>
  intro kvs vs r
  have:=ih (r.put a.1 h.2)
  show KV (BB (IA kvs a.1 a.2) _) (merged (stored vs b.1 b.2) _)
  rw [<- h.1]
  exact this
theorem HK:MtR X "dict.update" (λx xs H Q=>∃ (a b:Addr) (kvs more:List (Cr×V)),x=.ref a/\xs=[.ref b]/\a≠b/\H a=some (.dK kvs)/\H b=some (.dK more)/\kvs.length+more.length<=sizeLine/\Q .non (upd H a (.dK (BB kvs more)))):=by
 intro pins s σ H x vs v us Q I rx rv h
 obtain ⟨a,b,kvs,more,rfl,rfl,hab,ha,hb,hz,q⟩:=h
 cases rx
 obtain ⟨u,rfl,ru⟩:=Eo rv
 cases ru
 obtain ⟨z1,d1,vs,rel,dd⟩:=UE I.hok ha
 obtain ⟨z2,d2,ms,rel2,dd2⟩:=UE I.hok hb
 refine call_meetsIn A6 dd.typeIs PySem.F.entry_dict_update (PySem.F.args_dict_update_2 _ _) (meets_dict_update (BE X.prog X.w) a b hab d2)
  ⟨vs,ms,dd,dd2,by rw [<- rel.length,<- rel2.length];exact hz,λh' dd' _ hs=>?_⟩
 have he:∃ q,h'.get? a=some q:=let ⟨q,_,_,hq,_⟩:=dd';⟨q,hq⟩
 exact ⟨.non,_,Qq I (by rw [ha];exact True.intro) hs he (UF (T0 (Hg _ _) hz) d1 (rel2.puts rel) dd'),rfl,q⟩
theorem Jt:MtR X "str.isalpha" (λx xs H Q=>∃ z:Str,x=.str z/\xs=[]/\Q (.bl (Txt.isalpha z)) H):=by
 intro pins s σ H x vs v us Q I rx rv h
 obtain ⟨z,rfl,rfl,q⟩:=h
 obtain ⟨t,rfl⟩:=rx
 cases rv
 exact SC.isalpha ⟨.bl _,H,I,rfl,q⟩
theorem Nr:MtR X "str.lower" (λx xs H Q=>∃ z:Str,x=.str z/\xs=[]/\(Txt.lower z).length<=sizeLine/\Q (.str (Txt.lower z)) H):=by
 intro pins s σ H x vs v us Q I rx rv h
 obtain ⟨z,rfl,rfl,hz,q⟩:=h
 obtain ⟨t,rfl⟩:=rx
 cases rv
 exact SC.lower (by unfold PySem.Builtin.Str.tooLong;exact decide_eq_false (Nat.not_lt.mpr hz)) ⟨.str _,H,I.tok _,⟨_,rfl⟩,q⟩
theorem Rn:MtR X "list.count" (λx xs H Q=>∃ (l:Addr) (bs:List Bool),x=.ref l/\xs=[.bl true]/\H l=some (.lst (bs.map V.bl))/\Q (.int (bs.countP (· == true):Nat)) H):=by
 intro pins s σ H x xs v us Q I rx rv h
 obtain ⟨l,bs,rfl,rfl,hl,q⟩:=h
 cases rx
 obtain ⟨u,rfl,ru⟩:=Eo rv
 obtain rfl:u=Value.bool true:=ru
 obtain ⟨z,its,n,r,lv,e⟩:=I.lstM hl
 have ei:∀ {bs:List Bool} {us:List Value},AL (bs.map V.bl) us->us=bs.map Value.bool:=by
  intro bs
  induction bs with
  |nil=>intro us h;cases h;rfl
  |cons b r ih =>
   intro us h
   cases h with
   |cons h1 h2 =>
    obtain rfl:=(show _=Value.bool b from h1)
    rw [F1,ih h2]
 obtain rfl:=ei r
 refine call_meets j8 ⟨_,e,rfl⟩ PySem.F.entry_list_count (PySem.F.args_list_count_2 _ _) (SeqAt.list_countAt l _ n none #[] (.bool true) (λv=>match v with | .bool b=>b == true | _=>false)) ⟨e,λy hy=>?_,?_⟩
 ·rw [List.mem_toArray] at hy
  obtain ⟨b,_,rfl⟩:=D2.mp hy
  exact SeqAt.EqAt.bool_bool b true
 ·refine ⟨.int (bs.countP (· == true):Nat),H,I.tok _,⟨s.toks,?_⟩,q⟩
  rw [show ((bs.map Value.bool).toArray.toList).countP (λv=>match v with | .bool b=>b == true | _=>false)=bs.countP (· == true) by rw [List.countP_map];rfl]
theorem IT:∀ (l:List Nat) (us:List Value),us.length=l.length->(∀ (j:Nat) (v:Value),us[j]?=some v->∃ (c:Nat) (u:Tok),l[j]?=some c/\v=Value.str ⟨#[c]⟩ u)->AL (l.map λc=>V.str ⟨#[c]⟩) us
 |[],[],_,_=>.nil
 |c::l,u::us,h,k=>by
  obtain ⟨c',t,e1,e2⟩:=k 0 u rfl
  cases e1
  exact .cons ⟨t,e2⟩ (IT l us (U8.inj h) λj v hj=>k (j+1) v hj)
theorem Po (hc:X.calm=true):Ek X (.type "list") (λxs H Q=>∃ z:Str,xs=[.str z]/\z.length<=sizeLine/\∀ l,H l=none->Q (.ref l) (upd H l (.lst (z.cps.toList.map λc=>V.str ⟨#[c]⟩)))):=by
 intro pins s σ H xs us Q I r h
 obtain ⟨z,rfl,hz,q⟩:=h
 obtain ⟨u,rfl,rx⟩:=Eo r
 obtain ⟨t,rfl⟩:=rx
 refine call_list_str (I.ok.hd hc) z t (hn:=hz) λh' tk acc c kp hS hacc=>?_
 refine ⟨.ref s.heap.objs.size,_,I.laid (t':=tk) kp (V0 _) (show BC X.prog X.w _ h' _ (.lst (z.cps.toList.map λc=>V.str ⟨#[c]⟩)) from ⟨by rw [L0];exact hz,acc.toList,c,IT _ _ ?_ ?_,by rw [U9];exact hS⟩),rfl,q _ (I.hok.fresh (V0 _))⟩
 ·have:=hacc.1
  simpa using this
 ·intro j v hj
  obtain ⟨d,u,hd,rfl⟩:=hacc.2 j v (by simpa using hj)
  exact ⟨d,u,by simpa using hd,rfl⟩
end
def rMulSN:R2:=λx y H Q=>∃ (z:Str) (k:Nat),x=.str z/\y=.int k/\k<=100000/\z.length*k<=sizeLine/\Q (.str (EH k z)) H
theorem Tl {X:Cx}:ES X (binaryOp .Mult) rMulSN:=by
 intro pins s σ H x y v u Q I rx ry h
 obtain ⟨z,k,rfl,rfl,hk0,hz,q⟩:=h
 obtain ⟨t,rfl⟩:=rx
 obtain ⟨t',rfl⟩:=ry
 by_cases hk:(k:Int)<1
 ·have k0:k=0:=by lia
  subst k0
  refine N9 hk (by kd_p) ⟨.str _,H,I.tok _,⟨_,rfl⟩,?_⟩
  exact q
 have hsl:sizeLine=16777216:=by kd_p
 by_cases h1:((k:Int) == 1||z.length == 0)=true
 ·have e:EH k z=z:=by
   rcases Bool.or_eq_true_iff.mp h1 with e | e
   ·have k1:k=1:=by have:=eq_of_beq e;lia
    subst k1
    show (⟨#[]++z.cps⟩:Str)=z
    rw [Array.empty_append]
   ·have e0:z.length=0:=eq_of_beq e
    have hr:=DE k z
    rw [e0,Nat.mul_zero] at hr
    have c1:z.cps=#[]:=L6.mp e0
    have c2:(EH k z).cps=#[]:=L6.mp hr
    have:∀ {a b:Str},a.cps=b.cps->a=b:=λ{a b} h=>by cases a;cases b;simp_all
    exact this (c2.trans c1.symm)
  rw [e] at q
  ·refine Q7 ?_ (λ_ h=>by rw [h1] at h;cases h) (λ_ h=>by rw [h1] at h;cases h) ?_
   ·rw [decide_eq_false (by lia),decide_eq_false (by lia)];rfl
   ·rw [if_neg hk,if_pos h1]
    exact ⟨.str _,H,I,⟨_,rfl⟩,q⟩
 ·have h1':((k:Int) == 1||z.length == 0)=false:=by
   cases e:((k:Int) == 1||z.length == 0) with
   |true=>exact absurd e h1
   |false=>rfl
  have hz0:z.length≠0:=λe=>by rw [e] at h1';simp at h1'
  have hkk:k<=sizeLine:=T0 (A9 k (Nat.pos_of_ne_zero hz0)) hz
  refine Q7 ?_ (λ_ _=>?_) (λ_ _=>?_) ?_
  ·rw [decide_eq_false (by lia),decide_eq_false (by lia)];rfl
  ·have:z.length*k<=16777216:=by lia
   rw [Int.not_gt_eq]
   refine (D9 (by lia)).mpr ?_
   have e:((z.length:Int)*(k:Int))=((z.length*k:Nat):Int):=by simp
   rw [e]
   lia
  ·show decide (z.length*((k:Int)).toNat > sizeLine)=false
   rw [N3]
   exact decide_eq_false (by lia)
  ·rw [if_neg hk,if_neg h1]
   exact ⟨by rw [N3];show (EH k z).length<=sizeLine;rw [DE,z8];exact hz,.str _,H,I.tok _,⟨_,rfl⟩,by rw [N3];exact q⟩
def rOr (r1 r2:R2):R2:=λx y H Q=>r1 x y H Q\/r2 x y H Q
theorem Ky {X:Cx} {f:Value->Value->Sem Value} {r1 r2:R2} (h1:ES X f r1) (h2:ES X f r2):ES X f (rOr r1 r2):=by
 intro pins s σ H x y v u Q I rx ry h
 rcases h with h | h
 ·exact h1 pins s σ H x y v u Q I rx ry h
 ·exact h2 pins s σ H x y v u Q I rx ry h
end L2
namespace K14
local macro_rules | `(tactic| z_go) => `(tactic| walk_at "sy")
local macro_rules | `(tactic| x_go) => `(tactic| walk_at "sx")
set_option hygiene false in
local macro_rules | `(tactic| exists $a) => `(tactic| refine $a (fun vs H Q E h => ?_) (fun cdv A outer s H vs Q E hr h => ?_))
open PySem L2
@[elab_as_elim] theorem lx1 {α:Type} {P:List α->Prop} {us:List α} (h:us.length=1) (k:∀ a,P [a]):P us:=by
 match us,h with
 |[a],_=>exact k a
theorem lxC {α:Type} {P:List α->Prop} {us:List α} {n:Nat} (h:us.length=n+1) (k:∀ a r,r.length=n->P (a::r)):P us:=by
 cases us with
 |nil=>cases h
 |cons a r=>exact k a r (U8.inj h)
@[elab_as_elim] theorem lx2 {α:Type} {P:List α->Prop} {us:List α} (h:us.length=2) (k:∀ a b,P [a,b]):P us:=lxC h λa _ h=>lx1 (P:=λr=>P (a::r)) h (k a)
@[elab_as_elim] theorem lx3 {α:Type} {P:List α->Prop} {us:List α} (h:us.length=3) (k:∀ a b c,P [a,b,c]):P us:=lxC h λa _ h=>lx2 (P:=λr=>P (a::r)) h (k a)
@[elab_as_elim] theorem lx4 {α:Type} {P:List α->Prop} {us:List α} (h:us.length=4) (k:∀ a b c d,P [a,b,c,d]):P us:=lxC h λa _ h=>lx3 (P:=λr=>P (a::r)) h (k a)
@[elab_as_elim] theorem lx5 {α:Type} {P:List α->Prop} {us:List α} (h:us.length=5) (k:∀ a b c d e,P [a,b,c,d,e]):P us:=lxC h λa _ h=>lx4 (P:=λr=>P (a::r)) h (k a)
theorem BH {c A B:Prop} [Decidable c] (hc:c) (h:A):if decide c=true then A else B:=by
 rw [if_pos (decide_eq_true hc)];exact h
theorem BI {c A B:Prop} [Decidable c] (hc:¬ c) (h:B):if decide c=true then A else B:=by
 rw [if_neg (by rw [decide_eq_false hc];exact Q0)];exact h
theorem Ef {c A B:Prop} [Decidable c] (hc:¬ c) (h:A):if (!decide c)=true then A else B:=by
 rw [if_pos (by rw [decide_eq_false hc];rfl)];exact h
theorem Eg {c A B:Prop} [Decidable c] (hc:c) (h:B):if (!decide c)=true then A else B:=by
 rw [if_neg (by rw [decide_eq_true hc];exact Q0)];exact h
theorem Hv {α β:Type} {f:α->β} {xs:List α} {i:Nat} {x:α} (h:xs[i]?=some x):(xs.take i).map f++[f x]=(xs.take (i+1)).map f:=by
 rw [x6,h,o0]
 rfl
def Bk (z:Str):List Nat :=
 if z="group" then [3] else if z="limit" then [3,4] else if z="keep" then [2] else if z="try" then [2,4] else if z="do" then [2,3] else if z="when" then [4] else if z="repeat" then [3] else if z="errand" then [3] else []
def Dh (z:Str):Nat :=
 if z="group" then 4 else if z="limit" then 5 else if z="keep" then 3 else if z="try" then 5 else if z="do" then 4 else if z="when" then 5 else if z="repeat" then 4 else if z="errand" then 4 else 0
theorem Fb (z:Str):(z="group"/\Bk z=[3]/\Dh z=4)\/(z="limit"/\Bk z=[3,4]/\Dh z=5)\/(z="keep"/\Bk z=[2]/\Dh z=3)\/(z="try"/\Bk z=[2,4]/\Dh z=5)\/(z="do"/\Bk z=[2,3]/\Dh z=4)\/(z="when"/\Bk z=[4]/\Dh z=5)\/(z="repeat"/\Bk z=[3]/\Dh z=4)\/(z="errand"/\Bk z=[3]/\Dh z=4) \/
  (Bk z=[]/\z≠"group"/\z≠"limit"/\z≠"keep"/\z≠"try"/\z≠"do"/\z≠"when"/\z≠"repeat"/\z≠"errand"):=by
 by_cases h1:z="group"
 ·subst h1;exact .inl ⟨rfl,by lk,by lk⟩
 by_cases h2:z="limit"
 ·subst h2;exact .inr (.inl ⟨rfl,by lk,by lk⟩)
 by_cases h3:z="keep"
 ·subst h3;exact .inr (.inr (.inl ⟨rfl,by lk,by lk⟩))
 by_cases h4:z="try"
 ·subst h4;exact .inr (.inr (.inr (.inl ⟨rfl,by lk,by lk⟩)))
 by_cases h5:z="do"
 ·subst h5;exact .inr (.inr (.inr (.inr (.inl ⟨rfl,by lk,by lk⟩))))
 by_cases h6:z="when"
 ·subst h6;exact .inr (.inr (.inr (.inr (.inr (.inl ⟨rfl,by lk,by lk⟩)))))
 by_cases h7:z="repeat"
 ·subst h7;exact .inr (.inr (.inr (.inr (.inr (.inr (.inl ⟨rfl,by lk,by lk⟩))))))
 by_cases h8:z="errand"
 ·subst h8;exact .inr (.inr (.inr (.inr (.inr (.inr (.inr (.inl ⟨rfl,by lk,by lk⟩)))))))
 ·refine .inr (.inr (.inr (.inr (.inr (.inr (.inr (.inr (⟨?_,h1,h2,h3,h4,h5,h6,h7,h8⟩))))))))
  unfold Bk
  rw [if_neg h1,if_neg h2,if_neg h3,if_neg h4,if_neg h5,if_neg h6,if_neg h7,if_neg h8]
def TV (v:V):Prop:=(∃ n:Int,v=.int n/\0<=n/\n<10000000)\/∃ z:Str,v=.str z/\z.length<=60
def RS (v:V):Prop:=∃ z:Str,v=.str z/\z.length<=60
theorem TV.int {n:Int} (h0:0<=n) (h1:n<10000000):TV (.int n):=.inl ⟨n,rfl,h0,h1⟩
theorem RS.tv {v:V} (h:RS v):TV v:=.inr h
def Dr (z:Str):Nat:=if z="when" then 2 else if z="keep" then 0 else if z="try" then 0 else if z="do" then 0 else 1
abbrev BL (z:Str):Prop:=z="try"\/z="do"\/z="limit"
abbrev Mr (z:Str):Prop:=z="errand"\/z="group"\/z="limit"\/z="keep"\/z="try"\/z="do"\/z="when"\/z="repeat"
def QL:List Addr->V->List V
 |[b0,b1],fa=>[.ref b0,fa,.ref b1]
 |_,_=>[]
def FN:List Str:=["any", "ask", "begin", "but", "do", "end", "errand", "give", "group", "hear", "in", "keep", "last", "late", "let", "limit", "off", "raise", "repeat", "ring", "send", "take", "try", "wait", "when", "within"]
def LowS (z:Str):Prop:=∀ c∈z.cps.toList,97<=c/\c<=122
structure Fk (z:Str):Prop where
 lo:1<=z.length
 hi:z.length<=8
 low:LowS z
 nk:z∉FN
def lowB (z:Str):Bool:=z.cps.toList.all λc=>decide (97<=c/\c<=122)
theorem lowB_of {z:Str} (h:lowB z=true):LowS z:=λc hc=>of_decide_eq_true (W2.mp h c hc)
def nmB (z:Str):Bool:=decide (1<=z.length)&&decide (z.length<=8)&&lowB z&&!FN.contains z
theorem Ts {z:Str} (h:nmB z=true):Fk z:=by
 unfold nmB at h
 simp only [C1,decide_eq_true_eq,K6] at h
 exact ⟨h.1.1.1,h.1.1.2,lowB_of h.1.2,λm=>by rw [S9,decide_eq_true m] at h;exact absurd h.2 (by kd_p)⟩
def TdOk (z:Str):Prop:=∃ y:Str,z=(":":Str)++y/\1<=y.length/\y.length<=8/\LowS y
def Qy (v:V):Prop:=∃ z:Str,v=.str z/\Fk z
def VlV (v:V):Prop:=(∃ n:Int,v=.int n/\0<=n/\n<=999999)\/∃ z:Str,v=.str z/\(Fk z\/TdOk z)
def NuV (lo hi:Int) (v:V):Prop:=∃ n:Int,v=.int n/\lo<=n/\n<=hi
inductive NZ:Str->List V->Prop
 |wait {v:V}:NuV 1 99 v->NZ "wait" [v]
 |one {z:Str} {a:V}:z="hear"\/z="ring"\/z="raise"\/z="off"->Qy a->NZ z [a]
 |val {z:Str} {a v:V}:z="send"\/z="let"->Qy a->VlV v->NZ z [a,v]
 |two {z:Str} {a b:V}:z="take"\/z="ask"->Qy a->Qy b->NZ z [a,b]
 |begin {a b c v:V}:Qy a->Qy b->Qy c->NuV 0 99 v->NZ "begin" [a,b,c,v]
 |give {v:V}:VlV v->NZ "give" [v]
inductive Ii:Str->List V->V->Prop
 |name {z:Str} {a fa:V}:z="errand"\/z="group"->Qy a->Ii z [a] fa
 |limit {v fa:V}:NuV 1 99 v->Ii "limit" [v] fa
 |bare {z:Str} {fa:V}:z="keep"\/z="do"->Ii z [] fa
 |try_ {z:Str}:Fk z\/z="any"->Ii "try" [] (.str z)
 |when {a v fa:V}:Qy a->VlV v->Ii "when" [a,v] fa
 |rep {v fa:V}:NuV 1 9 v->Ii "repeat" [v] fa
structure Hs (z:Str) (r:List V) (th:List V) (fa:V) (bs:List Addr):Prop where
 w:Mr z
 e:r=th++(if z="try" then QL bs fa else bs.map V.ref)
 tv:∀ t∈th,TV t
 sv:z="when"->∀ t,th[0]?=some t->RS t
 tl:th.length=Dr z
 fv:(z="try"->RS fa)/\Ii z th fa
 two:BL z->bs.length=2
 one:¬ BL z->bs.length=1
structure NX (z:Str) (r:List V):Prop where
 p:Bk z=[]
 l:z.length<=10
 tv:∀ t∈r,TV t
 rl:r.length<=4
 b:(z="begin"->∃ (a b c:Str) (l:Int),r=[.str a,.str b,.str c,.int l]/\0<=l)/\NZ z r
def Lg (z:Str) (r:List V):Prop:=∃ (ln:Int) (r':List V),r=.int ln::r'/\(NX z r'\/∃ th fa bs,Hs z r' th fa bs)
def Dk:List V->List V
 |.str z::r=>(Bk z).filterMap λi=>(V.str z::r)[i]?
 |_=>[]
def Dp (z:Str) (n:Nat):Prop:=2<=n/\(z="errand"↔n=22)
def AX:Nat->Hp->V->Prop
 |0,_,_=>False
 |n+1,H,v=>∃ (a:Addr) (z:Str) (r:List V),v=.ref a/\H a=some (.tup (.str z::r))/\Lg z r/\(Bk z≠[]->r.length+1=Dh z/\Dp z n) /\
   ∀ p∈Dk (.str z::r),∃ (b:Addr) (ys:List V),p=.ref b/\H b=some (.tup ys)/\∀ y∈ys,AX n H y
def BX (n:Nat) (H:Hp) (v:V):Prop:=∃ (b:Addr) (ys:List V),v=.ref b/\H b=some (.tup ys)/\∀ y∈ys,AX n H y
theorem AX.same {H H':Hp} (s:Ag H H'):∀ {n:Nat} {v:V},AX n H v->AX n H' v
 |0,_,h=>h
 |n+1,v,h=>by
  obtain ⟨a,z,r,e1,e2,e3,e4,e5⟩:=h
  refine ⟨a,z,r,e1,s a _ e2,e3,e4,λp hp=>?_⟩
  obtain ⟨b,ys,f1,f2,f3⟩:=e5 p hp
  exact ⟨b,ys,f1,s b _ f2,λy hy=>(f3 y hy).same s⟩
theorem BX.same {H H':Hp} (s:Ag H H') {n:Nat} {v:V} (h:BX n H v):BX n H' v:=by
 obtain ⟨b,ys,e1,e2,e3⟩:=h
 exact ⟨b,ys,e1,s b _ e2,λy hy=>(e3 y hy).same s⟩
def Cw (H:Hp):V->List V
 |.ref a=>match H a with
  |some (.tup xs)=>Dk xs
  |_=>[]
 |_=>[]
theorem Ct {H:Hp} {a:Addr} {xs:List V} (h:H a=some (.tup xs)):Cw H (.ref a)=Dk xs:=by
 show (match H a with | some (.tup xs)=>Dk xs | _=>[])=_
 rw [h]
theorem Cj (z:Str) (r:List V):Dk (.str z::r)=(Bk z).filterMap λi=>(V.str z::r)[i]?:=rfl
theorem Kx {z:Str} {r:List V} (h:Bk z≠[]->r.length+1=Dh z):∀ p∈Bk z,p<(V.str z::r).length:=by
 intro p hp
 rw [P0]
 rcases Fb z with ⟨_,ep,el⟩ | ⟨_,ep,el⟩ | ⟨_,ep,el⟩ | ⟨_,ep,el⟩ | ⟨_,ep,el⟩ | ⟨_,ep,el⟩ | ⟨_,ep,el⟩ | ⟨_,ep,el⟩ | ⟨ep,_⟩
 all_goals
  rw [ep] at hp h
  simp only [K0,A1,or_false] at hp
 all_goals
  have h':=h (by simp)
  rw [el] at h'
  lia
def Fv:Nat->Hp->V->List V
 |0,_,_=>[]
 |n+1,H,.ref b=>match H b with
  |some (.tup ys)=>ys.flatMap λy=>y::(Cw H y).flatMap (Fv n H)
  |_=>[]
 |_+1,_,_=>[]
theorem DB {n:Nat} {H:Hp} {b:Addr} {ys:List V} (h:H b=some (.tup ys)):Fv (n+1) H (.ref b)=ys.flatMap λy=>y::(Cw H y).flatMap (Fv n H):=by
 show (match H b with | some (.tup ys)=>ys.flatMap λy=>y::(Cw H y).flatMap (Fv n H) | _=>[])=_
 rw [h]
theorem AX.parts_same {n:Nat} {H H':Hp} {v:V} (h:AX n H v) (s:Ag H H'):Cw H' v=Cw H v:=by
 cases n with
 |zero=>exact h.elim
 |succ n =>
  obtain ⟨a,z,r,rfl,e2,_⟩:=h
  rw [Ct e2,Ct (s a _ e2)]
theorem AX.parts_ok {n:Nat} {H:Hp} {v:V} (h:AX (n+1) H v):∀ p∈Cw H v,BX n H p:=by
 obtain ⟨a,z,r,rfl,e2,_,_,e5⟩:=h
 rw [Ct e2]
 exact e5
theorem AJ {α β:Type} {f g:α->List β}:∀ {xs:List α},(∀ x∈xs,f x=g x)->xs.flatMap f=xs.flatMap g
 |[],_=>rfl
 |x::r,h=>by
  rw [V2,V2,h x C0,AJ λy hy=>h y (A0 _ hy)]
theorem Me {α β:Type} {f:α->List β} {xs:List α} {i:Nat} {x:α} (h:xs[i]?=some x):(xs.take (i+1)).flatMap f=(xs.take i).flatMap f++f x:=by
 rw [x6,h,V4]
 simp
theorem Ph {α β:Type} {f:α->List β} (xs:List α) (i:Nat):((xs.take i).flatMap f).length<=(xs.flatMap f).length:=by
 have e:xs.flatMap f=(xs.take i).flatMap f++(xs.drop i).flatMap f:=by rw [<- V4,W5]
 rw [e,B0]
 lia
theorem CU {H H2:Hp} {l:Addr} {o:HO} (s:Ag H H2) (h:H l=none):Ag H (upd H2 l o):=λb u e=>by rw [Ap (AY e h)];exact s b u e
theorem BN (a b:Str):(a++b).length=a.length+b.length:=Array.size_append
theorem EO:∀ zs:List Str,(zs.map V.str).all DH=true
 |[]=>rfl
 |_::r=>by rw [F1,D4,EO r];rfl
theorem Ug {ns:List Int} {i:Nat} {y:V} (h:(ns.map V.int)[i]?=some y):∃ n,y=V.int n/\ns[i]?=some n:=by
 rw [Z1] at h
 cases e:ns[i]? with
 |none=>rw [e] at h;cases h
 |some n=>rw [e] at h;exact ⟨n,(Option.some.inj h).symm,rfl⟩
theorem pick {xs:List V} {m:Int} (h0:0<=m) (h1:m<xs.length):∃ v,Qw xs m=some v/\v∈xs:=by
 have hlt:m.toNat<xs.length:=by lia
 refine ⟨xs[m.toNat],?_,Z4 hlt⟩
 have hat:=Av (xs:=xs) (j:=m.toNat) (v:=xs[m.toNat]) (by simp [hlt])
 rw [show ((m.toNat:Nat):Int)=m by lia] at hat
 exact hat
def SH:V->Bool
 |.str z=>decide (z.length<=20)
 |_=>false
theorem Oq {xs:List V} (h:xs.all SH=true):∀ v∈xs,∃ z:Str,v=.str z/\z.length<=20:=by
 intro v hv
 have:=W2.mp h v hv
 cases v with
 |str z=>exact ⟨z,rfl,of_decide_eq_true this⟩
 |_=>cases this
theorem NG {c A B:Prop} [Decidable c] (ha:A) (hb:B):if c then A else B:=by
 by_cases e:c
 ·rw [if_pos e];exact ha
 ·rw [if_neg e];exact hb
theorem Na {xs:List V} (h:0<xs.length):∃ v,Qw xs (-1)=some v/\v∈xs/\xs[xs.length-1]?=some v:=by
 have hlt:xs.length-1<xs.length:=by lia
 refine ⟨xs[xs.length-1],?_,Z4 hlt,x0 hlt⟩
 unfold Qw Ue
 rw [if_neg (by kd_p),if_pos (by lia)]
 simp only [Z5]
 rw [show ((-1:Int)+(xs.length:Nat)).toNat=xs.length-1 by lia]
 exact x0 hlt
theorem Ee {K:J0} {H:Hp} {p:Addr} {xs:List V} {m:Int} {Q:VK} (hp:Aw K H p xs) (h0:0<=m) (h1:m<xs.length) (k:∀ v∈xs,Q v H):DS K (.ref p) (.int m) H Q:=by
 obtain ⟨v,e,hv⟩:=pick h0 h1
 exact ⟨p,_,_,_,rfl,rfl,hp,e,k v hv⟩
theorem LP {x:Int} {n:Nat} (h:1<=n):0<=x%(n:Int)/\x%(n:Int)<n:=⟨Q5 _ (by lia),u4 _ (by lia)⟩
def Bq (H H':Hp):Prop:=∀ (a:Addr) (xs:List V),H a=some (.tup xs)->H' a=some (.tup xs)
theorem Fk.st {z:Str} (h:Fk z):z.length<=60:=T0 h.hi (by kd_p)
theorem Fk.tv {z:Str} (h:Fk z):TV (.str z):=.inr ⟨z,rfl,h.st⟩
def tdB (z:Str):Bool:=match z.cps.toList with
 |c::r=>decide (c=58)&&decide (1<=r.length)&&decide (r.length<=8)&&r.all λc=>decide (97<=c/\c<=122)
 |[]=>false
theorem Fx {a b:Str} (h:a.cps.toList=b.cps.toList):a=b:=by
 cases a;cases b
 simp only [Str.mk.injEq]
 exact Array.toList_inj.mp h
theorem CL (a b:Str):(a++b).cps.toList=a.cps.toList++b.cps.toList:=by
 show (a.cps++b.cps).toList=_
 exact g6
theorem Bp (a:Str):a.length=a.cps.toList.length:=rfl
theorem tdB_of {z:Str} (h:tdB z=true):TdOk z:=by
 unfold tdB at h
 split at h
 ·rename_i c r e
  simp only [C1,decide_eq_true_eq] at h
  refine ⟨⟨r.toArray⟩,Fx ?_,h.1.1.2,h.1.2,λx hx=>of_decide_eq_true (W2.mp h.2 x hx)⟩
  rw [CL,e,h.1.1.1,show (Str.ofString ":").cps.toList=[58] by lk]
  rfl
 ·cases h
theorem iteT' {b:Bool} {A B:Prop} (h:b=true) (a:A):if b=true then A else B:=by rw [if_pos h];exact a
theorem AX.sameT {H H':Hp} (s:Bq H H'):∀ {n:Nat} {v:V},AX n H v->AX n H' v
 |0,_,h=>h
 |n+1,v,h=>by
  obtain ⟨a,z,r,e1,e2,e3,e4,e5⟩:=h
  refine ⟨a,z,r,e1,s a _ e2,e3,e4,λp hp=>?_⟩
  obtain ⟨b,ys,f1,f2,f3⟩:=e5 p hp
  exact ⟨b,ys,f1,s b _ f2,λy hy=>(f3 y hy).sameT s⟩
theorem AX.parts_sameT {n:Nat} {H H':Hp} {v:V} (h:AX n H v) (s:Bq H H'):Cw H' v=Cw H v:=by
 cases n with
 |zero=>exact h.elim
 |succ n =>
  obtain ⟨a,z,r,rfl,e2,_⟩:=h
  rw [Ct e2,Ct (s a _ e2)]
theorem Ms {H H':Hp} (s:Bq H H'):∀ {n:Nat} {v:V},BX n H v->Fv (n+1) H' v=Fv (n+1) H v:=by
 intro n
 induction n with
 |zero =>
  intro v h
  obtain ⟨b,ys,rfl,e2,e3⟩:=h
  rw [DB e2,DB (s b _ e2)]
  exact AJ λy hy=>(e3 y hy).elim
 |succ n ih =>
  intro v h
  obtain ⟨b,ys,rfl,e2,e3⟩:=h
  rw [DB e2,DB (s b _ e2)]
  refine AJ λy hy=>?_
  rw [(e3 y hy).parts_sameT s]
  congr 1
  exact AJ λp hp=>ih ((e3 y hy).parts_ok p hp)
def Dc (n:Nat) (H:Hp) (y:V):List V:=y::(Cw H y).flatMap (Fv n H)
theorem Ea {H H':Hp} (s:Bq H H') {n:Nat} {y:V} (h:AX n H y):Dc n H' y=Dc n H y:=by
 unfold Dc
 rw [h.parts_sameT s]
 congr 1
 cases n with
 |zero=>exact h.elim
 |succ n=>exact AJ λp hp=>Ms s (h.parts_ok p hp)
set_option genInjectivity false in
structure Fr where
 f:Addr
 t:Addr
 L:Addr
 ps:List Addr
 z:Str
 fa:V
 th:List V
 rss:List (List V)
 c:Nat
def Fr.own (F:Fr):List Addr:=F.f::F.L::F.ps
structure En (H:Hp) (n:Nat) (F:Fr):Prop where
 hf:H F.f=some (.lst [.str F.z,.ref F.t,.ref F.L,F.fa])
 ht:H F.t=some (.tup F.th)
 hL:H F.L=some (.lst (F.ps.map V.ref))
 hp:∀ (i:Nat) (p:Addr) (rs:List V),F.ps[i]?=some p->F.rss[i]?=some rs->H p=some (.lst rs)
 len:F.ps.length=F.rss.length
 one:F.ps.length=1\/(F.ps.length=2/\BL F.z)
 word:Mr F.z
 things:F.th.length=Dr F.z
 tv:∀ t∈F.th,TV t
 sv:F.z="when"->∀ t,F.th[0]?=some t->RS t
 fv:(F.z="try"->RS F.fa)/\Ii F.z F.th F.fa
 rows:∀ rs∈F.rss,∀ r∈rs,AX n H r
 wt:(F.rss.flatMap λrs=>rs.flatMap (Dc n H)).length<=F.c
theorem En.move {H H':Hp} {n:Nat} {F:Fr} (h:En H n F) (s:Bq H H') (o:∀ a∈F.own,H' a=H a):En H' n F where
 hf:=by rw [o F.f C0];exact h.hf
 ht:=s _ _ h.ht
 hL:=by rw [o F.L (A0 _ C0)];exact h.hL
 hp:=λi p rs h1 h2=>by rw [o p (A0 _ (A0 _ (E1 h1)))];exact h.hp i p rs h1 h2
 len:=h.len
 one:=h.one
 word:=h.word
 things:=h.things
 tv:=h.tv
 sv:=h.sv
 fv:=h.fv
 rows:=λrs hrs r hr=>(h.rows rs hrs r hr).sameT s
 wt:=by
  have e:(F.rss.flatMap λrs=>rs.flatMap (Dc n H'))=F.rss.flatMap λrs=>rs.flatMap (Dc n H) :=
   AJ λrs hrs=>AJ λr hr=>Ea s (h.rows rs hrs r hr)
  rw [e];exact h.wt
theorem AE {H H':Hp} (s:Ag H H'):Bq H H':=λa _ h=>s a _ h
theorem En.here {H:Hp} {n:Nat} {F:Fr} (h:En H n F):∀ a∈F.own,∃ xs,H a=some (.lst xs):=by
 intro a ha
 rcases K0.mp ha with rfl | ha
 ·exact ⟨_,h.hf⟩
 rcases K0.mp ha with rfl | ha
 ·exact ⟨_,h.hL⟩
 obtain ⟨i,hi⟩:=L4 ha
 have hlt:i<F.rss.length:=by
  have:=(d0.mp hi).1
  have:=h.len
  lia
 exact ⟨_,h.hp i a _ hi (x0 hlt)⟩
theorem En.same {H H':Hp} {n:Nat} {F:Fr} (h:En H n F) (s:Ag H H'):En H' n F :=
 h.move (AE s) λa ha=>by
  obtain ⟨xs,e⟩:=h.here a ha
  rw [e];exact s a _ e
def mkE (w:World) (x:Str×Tok×Value):DictEntry:=⟨PyData.keyHash w.params x.1,.str x.1 x.2.1,x.2.2⟩
theorem Pn {P:Program} {w:World} {K:J0} {p:Addr} {ep:Nat} (L:List (Str×Tok×Value)) {kvs:List (Cr×V)} (l:K.lookup p=some ⟨.type "dict",none,.dict (L.map (mkE w)).toArray ep,#[]⟩) (s:(p == sysModules)=false) (nd:(L.map (·.1)).Nodup) (kv:KV kvs (L.map λx=>((.inr x.1:Cr),x.2.2))):RT P w K p kvs:=by
 refine ⟨s,λh X=>⟨L.map λx=>((.inr x.1:Cr),x.2.2),kv,_,_,_,X _ _ l,⟨rfl,rfl,rfl⟩,rfl,?_,?_,?_⟩⟩
 ·intro e he
  have he':e∈L.map (mkE w):=by rw [<- List.mem_toArray];exact he
  obtain ⟨x,_,rfl⟩:=D2.mp he'
  exact ⟨.inr x.1,HS _ x.2.1,rfl⟩
 ·show Pairs _ (L.map (mkE w)).toArray.toList _
  rw [Y6]
  clear l nd kv
  induction L with
  |nil=>exact .nil
  |cons x r ih=>exact .cons (HS _ x.2.1) rfl ih
 ·rw [j5]
  have e:(λx=>x.1) ∘ (λx:Str×Tok×Value=>((.inr x.1:Cr),x.2.2))=(Sum.inr:Str->Cr) ∘ (λx:Str×Tok×Value=>x.1):=rfl
  rw [e,<- j5]
  exact List.Pairwise.map _ (λa b h q=>h (Sum.inr.inj q)) nd
def FORMS:List Str:=["errand NAME", "wait N", "hear NAME", "ring NAME", "send NAME VALUE", "take NAME NAME", "let NAME VALUE", "raise NAME", "begin NAME NAME in NAME", "begin NAME NAME in NAME within N", "ask NAME NAME", "off NAME", "give VALUE", "group NAME", "limit N", "late", "keep", "try", "but NAME", "but any", "do", "last", "when NAME VALUE", "repeat ROUNDS", "end"]
def TWS:List Str:=["late", "but", "last"]
def GRkv:List (Cr×V):=[(.inr "N",.int 99),(.inr "ROUNDS",.int 9)]
def Pu:List (Cr×V):=[(.inr "limit",.str "late"),(.inr "try",.str "but"),(.inr "do",.str "last")]
structure InGR (w:World) (K:J0):Prop where
 ex:∃ (p:Addr) (t1 t2 u1 u2:Tok) (ep:Nat),Q1 K mainGlobals "GREATEST"=some (some (.ref p))/\(p == sysModules)=false /\
  K.lookup p=some ⟨.type "dict",none,.dict #[⟨PyData.keyHash w.params "N",.str "N" t1,.int 99 u1⟩,⟨PyData.keyHash w.params "ROUNDS",.str "ROUNDS" t2,.int 9 u2⟩] ep,#[]⟩
theorem InGR.of {w:World} {K:J0} {p:Addr} {t1 t2 u1 u2:Tok} {ep:Nat} (a:Q1 K mainGlobals "GREATEST"=some (some (.ref p)))
  (l:K.lookup p=some ⟨.type "dict",none,.dict #[⟨PyData.keyHash w.params "N",.str "N" t1,.int 99 u1⟩,⟨PyData.keyHash w.params "ROUNDS",.str "ROUNDS" t2,.int 9 u2⟩] ep,#[]⟩) (s:(p == sysModules)=false):InGR w K:=⟨⟨p,t1,t2,u1,u2,ep,a,s,l⟩⟩
theorem InGR.get {P:Program} {w:World} {K:J0} {mg:Str->Option Value} {h:Heap} (i:InGR w K) (X:K.In h) (G:h.Ns mainGlobals mg):∃ a:Addr,mg "GREATEST"=some (.ref a)/\RT P w K a GRkv:=by
 obtain ⟨p,t1,t2,u1,u2,ep,a,s,l⟩:=i.ex
 refine ⟨p,A2 X G a,Pn [("N",t1,.int 99 u1),("ROUNDS",t2,.int 9 u2)] l s ?_ ?_⟩
 ·show (["N", "ROUNDS"]:List Str).Nodup
  lk
 ·exact .cons ⟨rfl,_,rfl⟩ (.cons ⟨rfl,_,rfl⟩ .nil)
structure InTU (w:World) (K:J0):Prop where
 ex:∃ (p:Addr) (t1 t2 t3 u1 u2 u3:Tok) (ep:Nat),Q1 K mainGlobals "TURNS"=some (some (.ref p))/\(p == sysModules)=false /\
  K.lookup p=some ⟨.type "dict",none,.dict #[⟨PyData.keyHash w.params "limit",.str "limit" t1,.str "late" u1⟩,⟨PyData.keyHash w.params "try",.str "try" t2,.str "but" u2⟩,⟨PyData.keyHash w.params "do",.str "do" t3,.str "last" u3⟩] ep,#[]⟩
theorem InTU.of {w:World} {K:J0} {p:Addr} {t1 t2 t3 u1 u2 u3:Tok} {ep:Nat} (a:Q1 K mainGlobals "TURNS"=some (some (.ref p)))
  (l:K.lookup p=some ⟨.type "dict",none,.dict #[⟨PyData.keyHash w.params "limit",.str "limit" t1,.str "late" u1⟩,⟨PyData.keyHash w.params "try",.str "try" t2,.str "but" u2⟩,⟨PyData.keyHash w.params "do",.str "do" t3,.str "last" u3⟩] ep,#[]⟩) (s:(p == sysModules)=false):InTU w K:=⟨⟨p,t1,t2,t3,u1,u2,u3,ep,a,s,l⟩⟩
theorem InTU.get {P:Program} {w:World} {K:J0} {mg:Str->Option Value} {h:Heap} (i:InTU w K) (X:K.In h) (G:h.Ns mainGlobals mg):∃ a:Addr,mg "TURNS"=some (.ref a)/\RT P w K a Pu:=by
 obtain ⟨p,t1,t2,t3,u1,u2,u3,ep,a,s,l⟩:=i.ex
 refine ⟨p,A2 X G a,Pn [("limit",t1,.str "late" u1),("try",t2,.str "but" u2),("do",t3,.str "last" u3)] l s ?_ ?_⟩
 ·show (["limit", "try", "do"]:List Str).Nodup
  lk
 ·exact .cons ⟨rfl,_,rfl⟩ (.cons ⟨rfl,_,rfl⟩ (.cons ⟨rfl,_,rfl⟩ .nil))
structure InPP (w:World) (K:J0):Prop where
 ex:∃ (p b1 b2 b3 b4 b5 b6 b7:Addr) (t1 t2 t3 t4 t5 t6 t7:Tok) (ep:Nat),Q1 K mainGlobals "PART_PLACES"=some (some (.ref p))/\(p == sysModules)=false /\
  K.lookup p=some ⟨.type "dict",none,.dict #[⟨PyData.keyHash w.params "group",.str "group" t1,.ref b1⟩,⟨PyData.keyHash w.params "limit",.str "limit" t2,.ref b2⟩,⟨PyData.keyHash w.params "keep",.str "keep" t3,.ref b3⟩,⟨PyData.keyHash w.params "try",.str "try" t4,.ref b4⟩,⟨PyData.keyHash w.params "do",.str "do" t5,.ref b5⟩,⟨PyData.keyHash w.params "when",.str "when" t6,.ref b6⟩,⟨PyData.keyHash w.params "repeat",.str "repeat" t7,.ref b7⟩] ep,#[]⟩
theorem InPP.of {w:World} {K:J0} {p b1 b2 b3 b4 b5 b6 b7:Addr} {t1 t2 t3 t4 t5 t6 t7:Tok} {ep:Nat} (a:Q1 K mainGlobals "PART_PLACES"=some (some (.ref p)))
  (l:K.lookup p=some ⟨.type "dict",none,.dict #[⟨PyData.keyHash w.params "group",.str "group" t1,.ref b1⟩,⟨PyData.keyHash w.params "limit",.str "limit" t2,.ref b2⟩,⟨PyData.keyHash w.params "keep",.str "keep" t3,.ref b3⟩,⟨PyData.keyHash w.params "try",.str "try" t4,.ref b4⟩,⟨PyData.keyHash w.params "do",.str "do" t5,.ref b5⟩,⟨PyData.keyHash w.params "when",.str "when" t6,.ref b6⟩,⟨PyData.keyHash w.params "repeat",.str "repeat" t7,.ref b7⟩] ep,#[]⟩)
  (s:(p == sysModules)=false):InPP w K:=⟨⟨p,b1,b2,b3,b4,b5,b6,b7,t1,t2,t3,t4,t5,t6,t7,ep,a,s,l⟩⟩
def PPW:List Str:=["group", "limit", "keep", "try", "do", "when", "repeat"]
theorem QG {L:List (Str×V)} (z:Str):(valV (L.map λx=>((.inr x.1:Cr),x.2)) (.inr z)).isSome=decide (z∈L.map (·.1)):=by
 unfold valV
 rw [Option.isSome_map]
 induction L with
 |nil=>rfl
 |cons x r ih =>
  rw [F1,F1,S3]
  by_cases e:x.1=z
  ·subst e
   simp
  ·have n1:decide ((Sum.inr x.1:Cr)=Sum.inr z)=false:=decide_eq_false λq=>e (Sum.inr.inj q)
   have n2:¬ z=x.1:=λq=>e q.symm
   simp only [n1,ih,K0,n2,false_or]
theorem InPP.get {P:Program} {w:World} {K:J0} {mg:Str->Option Value} {h:Heap} (i:InPP w K) (X:K.In h) (G:h.Ns mainGlobals mg):∃ a:Addr,mg "PART_PLACES"=some (.ref a)/\∃ kvs,RT P w K a kvs/\∀ z:Str,(valV kvs (.inr z)).isSome=decide (z∈PPW):=by
 obtain ⟨p,b1,b2,b3,b4,b5,b6,b7,t1,t2,t3,t4,t5,t6,t7,ep,a,s,l⟩:=i.ex
 refine ⟨p,A2 X G a,([("group",.ref b1),("limit",.ref b2),("keep",.ref b3),("try",.ref b4),("do",.ref b5),("when",.ref b6),("repeat",.ref b7)]:List (Str×V)).map λx=>((.inr x.1:Cr),x.2),Pn [("group",t1,.ref b1),("limit",t2,.ref b2),("keep",t3,.ref b3),("try",t4,.ref b4),("do",t5,.ref b5),("when",t6,.ref b6),("repeat",t7,.ref b7)] l s ?_ ?_,λz=>QG z⟩
 ·show (["group", "limit", "keep", "try", "do", "when", "repeat"]:List Str).Nodup
  lk
 ·exact .cons ⟨rfl,rfl⟩ (.cons ⟨rfl,rfl⟩ (.cons ⟨rfl,rfl⟩ (.cons ⟨rfl,rfl⟩ (.cons ⟨rfl,rfl⟩ (.cons ⟨rfl,rfl⟩ (.cons ⟨rfl,rfl⟩ .nil))))))
structure BrF (K:J0) (C W c1 c2 c3 c4 c5 c6:Addr):Prop where
 fc:∀ od,V6 K C od "__class__"=some (.bind (.builtin "getset_descriptor.__get__") (.builtin "object.__class__"))
 uw:S5 K C (.ref W)=some true
 ks:W1 K (.ref C) (.ref C)=some true
 kv:W1 K (.ref C) (.type "ValueError")=some true
 k1:W1 K (.ref C) (.ref c1)=some false
 k2:W1 K (.ref C) (.ref c2)=some false
 k3:W1 K (.ref C) (.ref c3)=some false
 k4:W1 K (.ref C) (.ref c4)=some false
 k5:W1 K (.ref C) (.ref c5)=some false
 k6:W1 K (.ref C) (.ref c6)=some false
theorem findOa {K:J0} {C:Addr} {cd:ClassData} (hc:Y8 K C=some cd) (ha:T1 K (.ref C) "__class__"=some (some (.builtin "object.__class__"))) (hg:j7 K (.builtin "object.__class__") "__get__"=some (some (.builtin "getset_descriptor.__get__"))) (ht:F8 K (.builtin "object.__class__")=some true) (od:Option Obj):V6 K C od "__class__"=some (.bind (.builtin "getset_descriptor.__get__") (.builtin "object.__class__")):=by
 unfold V6
 rw [hc,Z5,ha,Z5]
 simp only [hg,ht,Z5]

def top (i:Nat):Stmt:=PySem.Challenge.pw_nightwatch_k14_texts_refused.main.body.getD i (.Pass ⟨0,0,0,0⟩)

set_option genInjectivity false in
structure Tx (P:Program) (w:World) (K:J0) (mg:Str->Option Value) where
 d_l_parts:Ex K mg "_law_parts" (top 47) ["_law_row_here"]
 d_l_cell_at:Ex K mg "_law_cell_at" (top 37) ["_law_script", "_law_k"]
 d_l_mixed:Ex K mg "_law_mixed" (top 38) ["_law_x"]
 d_l_stream:Ex K mg "_law_stream" (top 39) ["_law_cell", "_law_many"]
 d_l_value_by:Ex K mg "_law_value_by" (top 40) ["_law_x", "_law_names"]
 d_l_plain:Ex K mg "_law_plain" (top 41) ["_law_x", "_law_names"]
 d_l_opened:Ex K mg "_law_opened" (top 42) ["_law_x", "_law_names"]
 d_l_closed:Ex K mg "_law_closed" (top 43) ["_law_frame"]
 d_l_put:Ex K mg "_law_put" (top 44) ["_law_errands", "_law_stack", "_law_x", "_law_names", "_law_deep"]
 d_l_program:Ex K mg "_law_program" (top 45) ["_law_cells", "_law_names", "_law_deep"]
 d_l_words:Ex K mg "_law_words" (top 46) ["_law_row_here"]
 d_l_turning:Ex K mg "_law_turning" (top 48) ["_law_row_here"]
 d_l_lines:Ex K mg "_law_lines" (top 49) ["_law_rows", "_law_deep"]
 d_is_letters:Ex K mg "is_letters" (top 14) ["text"]
 d_is_name:Ex K mg "is_name" (top 15) ["thing"]
 d_is_told_word:Ex K mg "is_told_word" (top 16) ["text"]
 d_is_value:Ex K mg "is_value" (top 17) ["thing"]
 d_is_block_word:Ex K mg "is_block_word" (top 18) ["word"]
 d_number_of:Ex K mg "number_of" (top 26) ["word"]
 d_bounded:Ex K mg "bounded" (top 27) ["word", "least", "greatest"]
 d_value_of:Ex K mg "value_of" (top 28) ["word"]
 d_field_of:Ex K mg "field_of" (top 29) ["slot", "word"]
 d_fitted:Ex K mg "fitted" (top 30) ["slots", "words", "field_at"]
 d_first_fit:Ex K mg "first_fit" (top 31) ["forms", "words", "field_at"]
 d_row_of:Ex K mg "row_of" (top 32) ["fields", "number"]
 d_read:Ex K mg "read" (top 35) ["text"]
 d_l_alone:Ex K mg "_law_alone" (top 50) ["_law_e"]
 d_l_number:Ex K mg "_law_number" (top 51) ["_law_word", "_law_least", "_law_most"]
 d_l_name:Ex K mg "_law_name" (top 52) ["_law_word"]
 d_l_value:Ex K mg "_law_value" (top 53) ["_law_word"]
 d_l_things:Ex K mg "_law_things" (top 54) ["_law_kinds", "_law_words_here"]
 d_l_row:Ex K mg "_law_row" (top 55) ["_law_words_here"]
 d_l_turned:Ex K mg "_law_turned" (top 56) ["_law_frame", "_law_words_here"]
 d_l_ended:Ex K mg "_law_ended" (top 57) ["_law_frame"]
 d_l_step:Ex K mg "_law_step" (top 58) ["_law_stack", "_law_found", "_law_words_here", "_law_line"]
 d_l_read:Ex K mg "_law_read" (top 59) ["_law_text"]
 d_l_sign:Ex K mg "_law_sign" (top 60) ["_law_line", "_law_xs"]
 d_l_spoilt:Ex K mg "_law_spoilt" (top 61) ["_law_given", "_law_xs"]
 d_l_told:Ex K mg "_law_told" (top 62) ["_law_text"]
 d_l_right:Ex K mg "_law_right" (top 63) ["_law_text"]
 C_Unended:Addr
 k_Unended:Ob K C_Unended
 h_Unended:mg "Unended"=some (.ref C_Unended)
 n_Unended_head:CS K C_Unended "head"
 n_Unended_rows:CS K C_Unended "rows"
 n_Unended_turned:CS K C_Unended "turned"
 n_Unended_turn_fields:CS K C_Unended "turn_fields"
 n_Unended_others:CS K C_Unended "others"
 m_Unended___init__:Ig K C_Unended "__init__" "Unended.__init__" (AO (top 33) 0) ["self", "head"]
 m_Unended_put:Ig K C_Unended "put" "Unended.put" (AO (top 33) 1) ["self", "row"]
 m_Unended_may_turn:Ig K C_Unended "may_turn" "Unended.may_turn" (AO (top 33) 2) ["self", "word"]
 m_Unended_turn:Ig K C_Unended "turn" "Unended.turn" (AO (top 33) 3) ["self", "turn_fields"]
 m_Unended_may_end:Ig K C_Unended "may_end" "Unended.may_end" (AO (top 33) 4) ["self"]
 m_Unended_whole:Ig K C_Unended "whole" "Unended.whole" (AO (top 33) 5) ["self"]
 M_Unended:Mk K C_Unended m_Unended___init__.f
 C_Reading:Addr
 k_Reading:Ob K C_Reading
 h_Reading:mg "Reading"=some (.ref C_Reading)
 n_Reading_program:CS K C_Reading "program"
 n_Reading_unended:CS K C_Reading "unended"
 m_Reading___init__:Ig K C_Reading "__init__" "Reading.__init__" (AO (top 34) 0) ["self"]
 m_Reading_allows:Ig K C_Reading "allows" "Reading.allows" (AO (top 34) 1) ["self", "word"]
 m_Reading_put_line:Ig K C_Reading "put_line" "Reading.put_line" (AO (top 34) 2) ["self", "fields", "number"]
 m_Reading_end_innermost:Ig K C_Reading "end_innermost" "Reading.end_innermost" (AO (top 34) 3) ["self"]
 m_Reading_is_whole:Ig K C_Reading "is_whole" "Reading.is_whole" (AO (top 34) 4) ["self"]
 M_Reading:Mk K C_Reading m_Reading___init__.f
 kwa:Addr
 kwm:mg "KEY_WORDS"=some (.ref kwa)
 kwt:∀ H:Hp,Cn K H kwa (FN.map V.str)
 fma:Addr
 fmm:mg "FORMS"=some (.ref fma)
 fmt:∀ H:Hp,Cn K H fma (FORMS.map V.str)
 twa:Addr
 twm:mg "TURN_WORDS"=some (.ref twa)
 twt:∀ H:Hp,Cn K H twa (TWS.map V.str)
 mlt:Tok
 mlm:mg "MOST_LETTERS"=some (.int 8 mlt)
 mvt:Tok
 mvm:mg "MOST_VALUE"=some (.int 999999 mvt)
 mft:Tok
 mfm:mg "MOST_FIGURES"=some (.int 6 mft)
 mdt:Tok
 mdm:mg "MOST_DEEP"=some (.int 20 mdt)
 gra:Addr
 grm:mg "GREATEST"=some (.ref gra)
 grd:RT P w K gra GRkv
 tua:Addr
 tum:mg "TURNS"=some (.ref tua)
 tud:RT P w K tua Pu
 pp:Addr
 ppm:mg "PART_PLACES"=some (.ref pp)
 ppk:∃ kvs,RT P w K pp kvs/\∀ z:Str,(valV kvs (.inr z)).isSome=decide (z∈PPW)
 C_BadClock:Addr
 h_BadClock:mg "BadClock"=some (.ref C_BadClock)
 C_NotWaiting:Addr
 h_NotWaiting:mg "NotWaiting"=some (.ref C_NotWaiting)
 C_Over:Addr
 h_Over:mg "Over"=some (.ref C_Over)
 C_BadDesk:Addr
 h_BadDesk:mg "BadDesk"=some (.ref C_BadDesk)
 C_BadProgram:Addr
 h_BadProgram:mg "BadProgram"=some (.ref C_BadProgram)
 C_BadBook:Addr
 h_BadBook:mg "BadBook"=some (.ref C_BadBook)
 C_WatchError:Addr
 x_WatchError:XCls K mg "WatchError" C_WatchError
 h_WatchError:mg "WatchError"=some (.ref C_WatchError)
 C_BadRow:Addr
 h_BadRow:mg "BadRow"=some (.ref C_BadRow)
 m_BadRow___init__:Ig K C_BadRow "__init__" "BadRow.__init__" (AO (top 6) 0) ["self", "line"]
 mk_BadRow:MkE K C_BadRow m_BadRow___init__.f
 tk_BadRow_line:A5 K C_BadRow "line"=some none
 fp_BadRow_line:T1 K (.ref C_BadRow) "line"=some none
 hd_BadRow:E5 K C_BadRow=true
 xa_BadRow:XAny K mg "BadRow" C_BadRow
 ax:JS K C_BadRow
 xa_WatchError:XAny K mg "WatchError" C_WatchError
 ec:Ej K C_BadRow
 al:BrF K C_BadRow C_WatchError C_BadClock C_NotWaiting C_Over C_BadDesk C_BadProgram C_BadBook
 n_len:mg "len"=none
 n_isinstance:mg "isinstance"=none
 n_list:mg "list"=none
 n_tuple:mg "tuple"=none
 n_int:mg "int"=none
 n_range:mg "range"=none
 n_enumerate:mg "enumerate"=none
 n_str:mg "str"=none
 n_bool:mg "bool"=none
 n_all:mg "all"=none
 n_zip:mg "zip"=none
 n_ValueError:mg "ValueError"=none
section
variable {P:Program} {w:World} {K:J0} {mg:Str->Option Value} {base:Heap}
local macro_rules
  | `(tactic| walk_at $s:str) => do
  let e <- match s.getString with
   |"sx"=>pure ""
   |"sy"=>pure "tLst tTup Ss "
   |"sw"=>pure "tLst tTup Ss tLc Ql iStr iTup "
   |_=>Lean.Macro.throwUnsupported
  let a:=((e++"L2.start cxOf_K UK tSeq tAsg Ir tRet tRetN tDrop tIfS Sk tB tNot tAnd tOr tAndV tOrV tNotV tOp tUn GW tC IV MC tStrs tCB PD Oj tBM tBM0 Sl Lj tSl tIf tNext Pz Ft Option.bind_none Z5 Option.join_some if_true rI rI0 rU rEq rNe PX rSlS TN tyV F1 F4 P0 K1 E2 T6 D5 L1 Nat.reduceAdd Nat.reduceSub Nat.zero_add Nat.add_zero v7 r8 List.getElem?_cons_succ List.set_cons_zero List.set_cons_succ Sr sFld Sm Sn").splitOn " ").toArray.map λx=>Lean.mkIdent x.toName
  let b:=a++(("Option.some.injEq V.int.injEq V.str.injEq V.ref.injEq V.bl.injEq V.ty.injEq T5.injEq exists_eq_left exists_eq_left' exists_eq_right exists_and_left exists_eq and_true true_and and_self and_assoc").splitOn " ").toArray.map λx=>Lean.mkIdent x.toName
  `(tactic| (try dsimp only [$[$a:term],*]; try simp only [$[$b:term],*]))




seal PE PT PW PA PS Ix PG PGs PI PC PTs PO
def SE (K:J0):Sp:=λvs H Q _=>∃ (a:Addr) (ns:List Int) (k:Int),vs=[.ref a,.int k]/\Aw K H a (ns.map V.int)/\ns.length<=63/\0<=k/\∀ n:Int,Q (.int n) H
def Lu:Sp:=λvs H Q _=>∃ x:Int,vs=[.int x]/\∀ r:Int,0<=r->r<2147483647->Q (.int r) H
def Jc:Sp:=λvs H Q _=>∃ c m:Int,vs=[.int c,.int m]/\0<=m/\m<=100/\∀ (l:Addr) (ns:List Int) (H':Hp),H l=none->(ns.length:Int)=m->(∀ n∈ns,0<=n/\n<2147483647)->H' l=some (.lst (ns.map V.int))->Ag H H'->Q (.ref l) H'
def Jf:Sp:=λvs H Q _=>∃ (v:V) (n:Nat),vs=[v]/\AX n H v/\∀ (p:Addr) (H':Hp),H p=none->H' p=some (.lst (Cw H v))->Ag H H'->Q (.ref p) H'
def spNo:Sp:=λ_ _ _ _=>False
theorem fn_no {f:Addr} {fd:FuncData} {ps:List Str} {k:Nat}:BD P w K mg base CX0 k f fd ps spNo:=⟨λ_ _ _ _ h=>h.elim,λ_ _ _ _ _ _ _ _ _ _ _ _ _ h=>h.elim⟩
def Ew (H:Hp) (l:Addr):Prop:=∃ zs:List Str,H l=some (.lst (zs.map V.str))/\1<=zs.length/\zs.length<=9/\∀ z∈zs,Fk z
theorem Jq {zs:List Str} (h:∀ z∈zs,Fk z) {v:V} (hv:v∈zs.map V.str):TV v:=by
 obtain ⟨z,hz,rfl⟩:=D2.mp hv
 exact .inr ⟨z,rfl,T0 (h z hz).hi (by kd_p)⟩
theorem Tu {zs:List Str} (h:∀ z∈zs,Fk z) {v:V} (hv:v∈zs.map V.str):RS v:=by
 obtain ⟨z,hz,rfl⟩:=D2.mp hv
 exact ⟨z,rfl,T0 (h z hz).hi (by kd_p)⟩
def Hy:Sp:=λvs H Q _=>∃ (x:Int) (l:Addr),vs=[.int x,.ref l]/\0<=x/\Ew H l/\∀ (v:V) (H':Hp),TV v->VlV v->Ag H H'->Q v H'
def Lq:Sp:=λvs H Q _=>∃ (x:Int) (l:Addr),vs=[.int x,.ref l]/\0<=x/\Ew H l/\∀ (p:Addr) (z:Str) (r:List V) (H':Hp),H p=none->H' p=some (.tup (.str z::r))->Lg z r->Bk z=[]->Ag H H'->Q (.ref p) H'
def Qz (H H':Hp) (F:Fr):Prop:=(∀ n,En H' n F)/\F.own.Nodup/\(∀ a∈F.own,H a=none)/\F.c=0/\Ag H H'
def MK:Sp:=λvs H Q _=>∃ (x:Int) (l:Addr),vs=[.int x,.ref l]/\0<=x/\Ew H l/\∀ (F:Fr) (H':Hp),Qz H H' F->F.z≠"errand"->Q (.ref F.f) H'
def ThOk (z:Str) (th:List V) (fa:V):Prop:=th.length=Dr z/\(∀ t∈th,TV t)/\(z="when"->∀ t,th[0]?=some t->RS t)/\((z="try"->RS fa)/\Ii z th fa)
theorem MB {z:Str} {v fa:V} (h:(1:Nat)=Dr z) (hw:z≠"when") (ht:z≠"try") (hv:TV v) (fb:Ii z [v] fa):ThOk z [v] fa:=⟨h,λt ht=>by rw [M0.mp ht];exact hv,λe=>absurd e hw,λe=>absurd e ht,fb⟩
theorem Sh {z:Str} {fa:V} (h:(0:Nat)=Dr z) (hf:z="try"->RS fa) (fb:Ii z [] fa):ThOk z [] fa:=⟨h,(λ_ h=>nomatch h),(λ_ _ h=>nomatch h),hf,fb⟩
theorem LO {H G G3:Hp} {t p L f:Addr} {z:Str} {fa:V} {th:List V} (s:Ag H G) (ht:G t=some (.tup th)) (hp:G p=none) (hL:upd G p (.lst []) L=none) (s2':Ag (upd (upd G p (.lst [])) L (.lst [.ref p])) G3) (hf:G3 f=none) (hw:Mr z) (hth:ThOk z th fa) :
  Qz H (upd G3 f (.lst [.str z,.ref t,.ref L,fa])) ⟨f,t,L,[p],z,fa,th,[[]],0⟩:=by
 have s1:=Ag.upd (o:=.lst []) hp
 have s2:=(Ag.upd (o:=.lst [.ref p]) hL).trans s2'
 have s3:=Ag.upd (o:=.lst [.str z,.ref t,.ref L,fa]) hf
 have sA:=s.trans ((s1.trans s2).trans s3)
 have nLp:L≠p:=λe=>by rw [e,Ad] at hL;cases hL
 have nfL:f≠L:=λe=>by rw [e,s2' L _ Ad] at hf;cases hf
 have nfp:f≠p:=λe=>by rw [e,s2 p _ Ad] at hf;cases hf
 refine ⟨λn=>⟨Ad,((s1.trans s2).trans s3) t _ ht,s3 L _ (s2' L _ Ad),?_,rfl,.inl rfl,hw,hth.1,hth.2.1,hth.2.2.1,hth.2.2.2,?_,by simp⟩,?_,?_,rfl,sA⟩
 ·intro i p' rs h1 h2
  cases i with
  |zero =>
   cases h1
   cases h2
   exact s3 p _ (s2 p _ Ad)
  |succ i=>cases h1
 ·intro rs hrs r hr
  rw [M0.mp hrs] at hr
  cases hr
 ·show [f,L,p].Nodup
  simp [nfL,nfp,nLp]
 ·intro a ha
  rcases K0.mp ha with rfl | ha
  ·exact (s.trans (s1.trans s2)).free hf
  rcases K0.mp ha with rfl | ha
  ·exact (s.trans s1).free hL
  ·rw [M0.mp ha];exact s.free hp
def Gz (n c:Nat) (H:Hp) (v:V):Prop:=AX (n+1) H v/\(Dc (n+1) H v).length<=c+1/\∃ (a:Addr) (r:List V),v=.ref a/\H a=some (.tup (.str "errand"::r))
def Vb (n c:Nat) (H:Hp) (z:Str) (v:V):Prop:=(z="errand"/\Gz n c H v)\/(z≠"errand"/\AX (n+1) H v/\(Dc (n+1) H v).length<=c+1)
def GY:Sp:=λvs H Q _=>∃ (F:Fr) (n:Nat),vs=[.ref F.f]/\En H n F/\Dp F.z n/\F.c<=1000/\∀ (v:V) (H':Hp),Vb n F.c H' F.z v->Ag H H'->Q v H'
theorem pln {z:Str} {ln:Int} {r:List V} (hp:Bk z=[]) (hl:z.length<=10) (nb:z≠"begin") (tv:∀ t∈r,TV t) (rl:r.length<=4) (ft:NZ z r):Lg z (.int ln::r):=⟨ln,r,rfl,.inl ⟨hp,hl,tv,rl,λe=>absurd e nb,ft⟩⟩
theorem tv1 {a:V} (h:TV a):∀ t∈[a],TV t:=λt ht=>by rw [M0.mp ht];exact h
theorem tv2 {a b:V} (h:TV a) (h':TV b):∀ t∈[a,b],TV t:=λt ht=>by
 rcases K0.mp ht with rfl | ht
 ·exact h
 ·exact tv1 h' t ht
abbrev plW (z:Str):Prop:=Bk z=[]/\z.length<=10/\z≠"begin"
theorem Tt {zs:List Str} (h:∀ z∈zs,Fk z) {v:V} (hv:v∈zs.map V.str):VlV v:=by
 obtain ⟨z,hz,rfl⟩:=D2.mp hv
 exact .inr ⟨z,rfl,.inl (h z hz)⟩
theorem Jr {zs:List Str} (h:∀ z∈zs,Fk z) {v:V} (hv:v∈zs.map V.str):Qy v:=by
 obtain ⟨z,hz,rfl⟩:=D2.mp hv
 exact ⟨z,rfl,h z hz⟩
theorem Px {n:Nat} {H:Hp}:∀ (bs:List Addr) (rss:List (List V)),bs.length=rss.length->(∀ (j:Nat) (b:Addr) (rs:List V),bs[j]?=some b->rss[j]?=some rs->H b=some (.tup rs)) ->
  (bs.map V.ref).flatMap (Fv (n+1) H)=rss.flatMap λrs=>rs.flatMap (Dc n H)
 |[],[],_,_=>rfl
 |[],_::_,h,_=>nomatch h
 |_::_,[],h,_=>nomatch h
 |b::bs,rs::rss,h,hb=>by
  rw [F1,V2,V2,DB (hb 0 b rs rfl rfl),Px bs rss (U8.inj h) λj b' rs' h1 h2=>hb (j+1) b' rs' h1 h2]
  rfl
theorem Jz {α:Type}:∀ {xs:List α},xs.length=1->∃ x,xs=[x]
 |[x],_=>⟨x,rfl⟩
theorem Jy {α:Type}:∀ {xs:List α},xs.length=2->∃ x y,xs=[x,y]
 |[x,y],_=>⟨x,y,rfl⟩
theorem GK {z:Str} {i:Int} {r th:List V} {fa:V} {bs:List Addr} (B:Hs z r th fa bs):Dk (.str z::.int i::r)=bs.map V.ref/\(V.int i::r).length+1=Dh z:=by
 obtain ⟨hw,rfl,_,_,hth,_,h2,h1⟩:=B
 rw [Cj]
 rcases hw with rfl | rfl | rfl | rfl | rfl | rfl | rfl | rfl
 ·obtain ⟨x,rfl⟩:=Jz (hth.trans (show Dr "errand"=1 by lk))
  obtain ⟨b,rfl⟩:=Jz (h1 (by lk))
  rw [if_neg (by lk),show Bk "errand"=[3] by lk,show Dh "errand"=4 by lk]
  exact ⟨rfl,rfl⟩
 ·obtain ⟨x,rfl⟩:=Jz (hth.trans (show Dr "group"=1 by lk))
  obtain ⟨b,rfl⟩:=Jz (h1 (by lk))
  rw [if_neg (by lk),show Bk "group"=[3] by lk,show Dh "group"=4 by lk]
  exact ⟨rfl,rfl⟩
 ·obtain ⟨x,rfl⟩:=Jz (hth.trans (show Dr "limit"=1 by lk))
  obtain ⟨b,b1,rfl⟩:=Jy (h2 (by lk))
  rw [if_neg (by lk),show Bk "limit"=[3,4] by lk,show Dh "limit"=5 by lk]
  exact ⟨rfl,rfl⟩
 ·obtain rfl:=P3.mp (hth.trans (show Dr "keep"=0 by lk))
  obtain ⟨b,rfl⟩:=Jz (h1 (by lk))
  rw [if_neg (by lk),show Bk "keep"=[2] by lk,show Dh "keep"=3 by lk]
  exact ⟨rfl,rfl⟩
 ·obtain rfl:=P3.mp (hth.trans (show Dr "try"=0 by lk))
  obtain ⟨b,b1,rfl⟩:=Jy (h2 (by lk))
  rw [if_pos rfl,show Bk "try"=[2,4] by lk,show Dh "try"=5 by lk]
  exact ⟨rfl,rfl⟩
 ·obtain rfl:=P3.mp (hth.trans (show Dr "do"=0 by lk))
  obtain ⟨b,b1,rfl⟩:=Jy (h2 (by lk))
  rw [if_neg (by lk),show Bk "do"=[2,3] by lk,show Dh "do"=4 by lk]
  exact ⟨rfl,rfl⟩
 ·obtain ⟨x,y,rfl⟩:=Jy (hth.trans (show Dr "when"=2 by lk))
  obtain ⟨b,rfl⟩:=Jz (h1 (by lk))
  rw [if_neg (by lk),show Bk "when"=[4] by lk,show Dh "when"=5 by lk]
  exact ⟨rfl,rfl⟩
 ·obtain ⟨x,rfl⟩:=Jz (hth.trans (show Dr "repeat"=1 by lk))
  obtain ⟨b,rfl⟩:=Jz (h1 (by lk))
  rw [if_neg (by lk),show Bk "repeat"=[3] by lk,show Dh "repeat"=4 by lk]
  exact ⟨rfl,rfl⟩
theorem made_of {n c:Nat} {z:Str} (h2n:Dp z n) {H:Hp} {th:List V} {i:Int} {bs:List Addr} {fa:V} {rss:List (List V)} {a:Addr} (B:Hs z (th++(if z="try" then QL bs fa else bs.map V.ref)) th fa bs)
  (hlen:bs.length=rss.length) (hb:∀ (j:Nat) (b:Addr) (rs:List V),bs[j]?=some b->rss[j]?=some rs->H b=some (.tup rs)) (hrows:∀ rs∈rss,∀ r∈rs,AX n H r) (hwt:(rss.flatMap λrs=>rs.flatMap (Dc n H)).length<=c)
  (ha:H a=some (.tup (.str z::(.int i::th++(if z="try" then QL bs fa else bs.map V.ref))))):Vb n c H z (.ref a):=by
 have hW:=Px (n:=n) bs rss hlen hb
 have each:∀ p∈bs.map V.ref,BX n H p:=by
  intro p hp
  obtain ⟨b,hbm,rfl⟩:=D2.mp hp
  obtain ⟨j,hj⟩:=L4 hbm
  have hlt:j<rss.length:=by
   have:=(d0.mp hj).1
   lia
  exact ⟨b,rss[j],rfl,hb j b _ hj (x0 hlt),λy hy=>hrows _ (Z4 hlt) y hy⟩
 obtain ⟨e1,e2⟩:=GK (i:=i) B
 have key:AX (n+1) H (.ref a)/\(Dc (n+1) H (.ref a)).length<=c+1:=by
  refine ⟨⟨a,z,_,rfl,ha,⟨i,_,rfl,.inr ⟨th,fa,bs,B⟩⟩,λ_=>⟨e2,h2n⟩,λp hp=>?_⟩,?_⟩
  ·exact each p (by rw [<- e1];exact hp)
  ·unfold Dc
   rw [Ct ha,show Dk (.str z::(.int i::th++(if z="try" then QL bs fa else bs.map V.ref)))=bs.map V.ref from e1,hW,P0]
   lia
 by_cases hz:z="errand"
 ·exact .inl ⟨hz,key.1,key.2,a,_,rfl,by rw [<- hz];exact ha⟩
 ·exact .inr ⟨hz,key⟩
theorem JL {K:J0} {H:Hp} {a b:Addr} {xs ys:List V} {Q:VK} (ha:H a=some (.tup xs)) (hb:H b=some (.tup ys)) (hne:xs≠[]) (hl:xs.length+ys.length<=sizeLine) (k:∀ (p:Addr) (H':Hp),H' p=some (.tup (xs++ys))->Ag H H'->Q (.ref p) H'):SU K (.ref a) (.ref b) H Q :=
 ⟨a,b,xs,ys,rfl,rfl,Cn.of ha,Cn.of hb,hne,hl,λe=>k a H (by rw [e,L1];exact ha) (Ag.refl H),λ_ p hp=>k p _ Ad (Ag.upd hp)⟩
theorem Da (y z:Str):Em (.str y) (.str z)=decide (z=y):=by
 show (y == z)=_
 by_cases e:z=y
 ·subst e;simp
 ·rw [decide_eq_false e];simp [Ne.symm e]
theorem inTwo (z:Str):CA (V.str z) [V.str "try",V.str "do",V.str "limit"]=decide (BL z):=by
 show (Em _ _||(Em _ _||(Em _ _||false)))=_
 rw [Da,Da,Da,Z3]
 by_cases h1:z="try"
 ·subst h1;lk
 by_cases h2:z="do"
 ·subst h2;lk
 by_cases h3:z="limit"
 ·subst h3;lk
 have hn:¬ BL z:=λh=>h.elim h1 λh=>h.elim h2 h3
 rw [decide_eq_false h1,decide_eq_false h2,decide_eq_false h3,decide_eq_false hn]
 rfl
theorem Gz.sameT {n c:Nat} {H H':Hp} {v:V} (s:Bq H H') (h:Gz n c H v):Gz n c H' v:=⟨h.1.sameT s,by rw [Ea s h.1];exact h.2.1,by
 obtain ⟨a,r,e1,e2⟩:=h.2.2
 exact ⟨a,r,e1,s _ _ e2⟩⟩
theorem Bw {H:Hp} {a:Addr} {xs:List V} {o:HO} (h:H a=some (.lst xs)):Bq H (upd H a o):=λb ys hb=>by
 rw [Ap (λe=>by rw [e,h] at hb;cases hb)];exact hb
theorem Bq.trans {H H1 H2:Hp} (a:Bq H H1) (b:Bq H1 H2):Bq H H2:=λx ys h=>b x ys (a x ys h)
structure SA (H0 H:Hp) (sa ea:Addr) (Fs:List Fr) (c t:Nat):Prop where
 out:Ag H0 H
 new:∀ a∈sa::ea::Fs.flatMap Fr.own,H0 a=none
 hs:H sa=some (.lst (Fs.map λF=>V.ref F.f))
 he:∃ es:List V,H ea=some (.lst es)/\es.length<=t/\∀ e∈es,Gz 22 100 H e
 le:Fs.length<=21
 fr:∀ (i:Nat) (F:Fr),Fs[i]?=some F->En H (22-i) F/\(F.z="errand"↔i=0)
 nd:(sa::ea::Fs.flatMap Fr.own).Nodup
 sum:(Fs.map Fr.c).sum<=c
theorem He {Fs:List Fr} {i:Nat} {F:Fr} (h:Fs[i]?=some F) {a:Addr} (ha:a∈F.own):a∈Fs.flatMap Fr.own:=M3.mpr ⟨F,E1 h,ha⟩
theorem SA.mono {H0 H:Hp} {sa ea:Addr} {Fs:List Fr} {c t c' t':Nat} (h:SA H0 H sa ea Fs c t) (hc:c<=c') (ht:t<=t'):SA H0 H sa ea Fs c' t':=by
 obtain ⟨es,e1,e2,e3⟩:=h.he
 exact ⟨h.out,h.new,h.hs,⟨es,e1,T0 e2 ht,e3⟩,h.le,h.fr,h.nd,T0 h.sum hc⟩
theorem SA.move {H0 H H':Hp} {sa ea:Addr} {Fs:List Fr} {c t:Nat} (h:SA H0 H sa ea Fs c t) (s:Bq H H') (out:Ag H0 H') (o:∀ a∈sa::ea::Fs.flatMap Fr.own,H' a=H a):SA H0 H' sa ea Fs c t:=by
 obtain ⟨es,e1,e2,e3⟩:=h.he
 refine ⟨out,h.new,?_,⟨es,?_,e2,λe he=>(e3 e he).sameT s⟩,h.le,λi F hi=>⟨(h.fr i F hi).1.move s λa ha=>o a (A0 _ (A0 _ (He hi ha))),(h.fr i F hi).2⟩,h.nd,h.sum⟩
 ·rw [o sa C0];exact h.hs
 ·rw [o ea (A0 _ C0)];exact e1
theorem SA.there {H0 H:Hp} {sa ea:Addr} {Fs:List Fr} {c t:Nat} (h:SA H0 H sa ea Fs c t):∀ a∈sa::ea::Fs.flatMap Fr.own,∃ xs,H a=some (.lst xs):=by
 intro a ha
 rcases K0.mp ha with rfl | ha
 ·exact ⟨_,h.hs⟩
 rcases K0.mp ha with rfl | ha
 ·obtain ⟨es,e1,_⟩:=h.he
  exact ⟨_,e1⟩
 obtain ⟨F,hF,ha⟩:=M3.mp ha
 obtain ⟨i,hi⟩:=L4 hF
 exact (h.fr i F hi).1.here a ha
theorem SA.same {H0 H H':Hp} {sa ea:Addr} {Fs:List Fr} {c t:Nat} (h:SA H0 H sa ea Fs c t) (s:Ag H H'):SA H0 H' sa ea Fs c t :=
 h.move (AE s) (h.out.trans s) λa ha=>by
  obtain ⟨xs,e⟩:=h.there a ha
  rw [e];exact s _ _ e
theorem CK (Gs:List Fr) (F:Fr):(Gs++[F]).flatMap Fr.own=Gs.flatMap Fr.own++F.own:=by simp
theorem Cp {α:Type} {Gs:List α} {F X:α} {i:Nat} (h:(Gs++[F])[i]?=some X):(i<Gs.length/\Gs[i]?=some X)\/(i=Gs.length/\X=F):=by
 by_cases hi:i<Gs.length
 ·rw [Z0 hi] at h
  exact .inl ⟨hi,h⟩
 ·rw [C2 (by lia)] at h
  have e1:=(d0.mp h).1
  have e2:i-Gs.length=0:=by simp only [P0,K1] at e1;lia
  rw [e2] at h
  cases h
  exact .inr ⟨by lia,rfl⟩
theorem Ba {α:Type} {Gs:List α} {F:α}:(Gs++[F])[Gs.length]?=some F:=by
 rw [C2 (V0 _),v7];rfl
theorem SA.pop {H0 H:Hp} {sa ea:Addr} {Gs:List Fr} {F:Fr} {c t:Nat} (h:SA H0 H sa ea (Gs++[F]) c t) :
  ∃ c',c'+F.c<=c/\SA H0 (upd H sa (.lst (Gs.map λF=>V.ref F.f))) sa ea Gs c' t/\En (upd H sa (.lst (Gs.map λF=>V.ref F.f))) (22-Gs.length) F/\(F.z="errand"↔Gs.length=0):=by
 have nd:=h.nd
 have hnew:=h.new
 rw [CK] at nd hnew
 obtain ⟨n1,n2⟩:=Y0.mp nd
 obtain ⟨n3,n4⟩:=Y0.mp n2
 obtain ⟨n5,n6,n7⟩:=F2.mp n4
 have sT:Bq H (upd H sa (.lst (Gs.map λF=>V.ref F.f))):=Bw h.hs
 have mv:∀ a∈ea::(Gs.flatMap Fr.own++F.own),upd H sa (.lst (Gs.map λF=>V.ref F.f)) a=H a:=λa ha=>Ap (λe=>n1 (e▸ha))
 obtain ⟨es,e1,e2,e3⟩:=h.he
 have hl:=h.le
 rw [B0] at hl
 refine ⟨(Gs.map Fr.c).sum,?_,⟨CU h.out (h.new sa C0),?_,Ad,⟨es,?_,e2,λe he=>(e3 e he).sameT sT⟩,by lia,?_,?_,V0 _⟩,?_,?_⟩
 ·have:=h.sum
  rw [o0,j3] at this
  simp only [F1,F4,L3,O7] at this
  lia
 ·intro a ha
  refine hnew a ?_
  rcases K0.mp ha with rfl | ha
  ·exact C0
  rcases K0.mp ha with rfl | ha
  ·exact A0 _ C0
  ·exact A0 _ (A0 _ (p0 _ ha))
 ·rw [mv ea C0];exact e1
 ·intro i X hi
  have hi':(Gs++[F])[i]?=some X:=by rw [Z0 (d0.mp hi).1];exact hi
  exact ⟨(h.fr i X hi').1.move sT λa ha=>mv a (A0 _ (p0 _ (He hi ha))),(h.fr i X hi').2⟩
 ·refine Y0.mpr ⟨λhm=>n1 ?_,Y0.mpr ⟨λhm=>n3 (p0 _ hm),n5⟩⟩
  rcases K0.mp hm with e | hm
  ·rw [e];exact C0
  ·exact A0 _ (p0 _ hm)
 ·exact (h.fr _ _ Ba).1.move sT λa ha=>mv a (A0 _ (S0 _ ha))
 ·exact (h.fr _ _ Ba).2
theorem SA.push {H0 H H1:Hp} {sa ea:Addr} {Fs:List Fr} {F:Fr} {c t:Nat} (h:SA H0 H sa ea Fs c t) (hn:Qz H H1 F) (hl:Fs.length<21) (hz:F.z="errand"↔Fs.length=0) :
  SA H0 (upd H1 sa (.lst ((Fs.map λF=>V.ref F.f)++[.ref F.f]))) sa ea (Fs++[F]) c t:=by
 obtain ⟨hF,hnd,hno,hc,s⟩:=hn
 have h1:=h.same s
 have dis:∀ a∈sa::ea::Fs.flatMap Fr.own,a∉F.own:=λa ha hm=>by
  obtain ⟨xs,e⟩:=h.there a ha
  rw [hno a hm] at e
  cases e
 have nd:=h.nd
 obtain ⟨n1,n2⟩:=Y0.mp nd
 obtain ⟨n3,n4⟩:=Y0.mp n2
 have sT:Bq H1 (upd H1 sa (.lst ((Fs.map λF=>V.ref F.f)++[.ref F.f]))):=Bw h1.hs
 have mv:∀ a,a≠sa->upd H1 sa (.lst ((Fs.map λF=>V.ref F.f)++[.ref F.f])) a=H1 a:=λa ha=>Ap ha
 obtain ⟨es,e1,e2,e3⟩:=h1.he
 refine ⟨CU h1.out (h.new sa C0),?_,?_,⟨es,?_,e2,λe he=>(e3 e he).sameT sT⟩,?_,?_,?_,?_⟩
 ·intro a ha
  rw [CK] at ha
  rcases K0.mp ha with rfl | ha
  ·exact h.new _ C0
  rcases K0.mp ha with rfl | ha
  ·exact h.new _ (A0 _ C0)
  rcases X0.mp ha with ha | ha
  ·exact h.new _ (A0 _ (A0 _ ha))
  ·exact h.out.free (hno a ha)
 ·rw [Ad,o0];rfl
 ·rw [mv ea (λe=>n1 (by rw [<- e];exact C0))];exact e1
 ·rw [B0];simp only [P0,K1];lia
 ·intro i X hi
  rcases Cp hi with ⟨_,hi'⟩ | ⟨rfl,rfl⟩
  ·exact ⟨(h1.fr i X hi').1.move sT λa ha=>mv a λe=>n1 (e▸A0 _ (He hi' ha)),(h1.fr i X hi').2⟩
  ·exact ⟨(hF _).move sT λa ha=>mv a λe=>dis sa C0 (e▸ha),hz⟩
 ·rw [CK]
  refine Y0.mpr ⟨λhm=>?_,Y0.mpr ⟨λhm=>?_,F2.mpr ⟨n4,hnd,λa ha b hb e=>dis a (A0 _ (A0 _ ha)) (e▸hb)⟩⟩⟩
  ·rcases K0.mp hm with e | hm
   ·exact n1 (e▸C0)
   rcases X0.mp hm with hm | hm
   ·exact n1 (A0 _ hm)
   ·exact dis _ C0 hm
  ·rcases X0.mp hm with hm | hm
   ·exact n3 hm
   ·exact dis _ (A0 _ C0) hm
 ·rw [o0,j3]
  simp only [F1,F4,L3,O7,hc]
  exact h.sum
theorem SA.addErr {H0 H:Hp} {sa ea:Addr} {Fs:List Fr} {c t:Nat} {es:List V} {e:V} (h:SA H0 H sa ea Fs c t) (hes:H ea=some (.lst es)) (he:Gz 22 100 H e):SA H0 (upd H ea (.lst (es++[e]))) sa ea Fs c (t+1):=by
 have nd:=h.nd
 obtain ⟨n1,n2⟩:=Y0.mp nd
 obtain ⟨n3,n4⟩:=Y0.mp n2
 have sT:Bq H (upd H ea (.lst (es++[e]))):=Bw hes
 obtain ⟨es',e1,e2,e3⟩:=h.he
 rw [hes] at e1
 cases e1
 refine ⟨CU h.out (h.new ea (A0 _ C0)),h.new,?_,⟨es++[e],Ad,?_,λx hx=>?_⟩,h.le,λi X hi=>⟨(h.fr i X hi).1.move sT λa ha=>Ap λe=>n3 (e▸He hi ha),(h.fr i X hi).2⟩,h.nd,h.sum⟩
 ·rw [Ap (λe=>n1 (by rw [e];exact C0))];exact h.hs
 ·rw [B0];simp only [P0,K1];lia
 ·rcases X0.mp hx with hx | hx
  ·exact (e3 x hx).sameT sT
  ·rw [M0.mp hx];exact he.sameT sT
theorem SA.last {H0 H H':Hp} {sa ea:Addr} {Gs:List Fr} {F F':Fr} {c t w:Nat} (h:SA H0 H sa ea (Gs++[F]) c t) (sT:Bq H H') (out:Ag H0 H') (o:∀ a∈sa::ea::Gs.flatMap Fr.own,H' a=H a) (hF:En H' (22-Gs.length) F') (ez:F'.z=F.z) (ef:F'.f=F.f) (ec:F'.c<=F.c+w)
  (sub:∀ a∈F'.own,a∈F.own\/(H a=none)) (nd':F'.own.Nodup):SA H0 H' sa ea (Gs++[F']) (c+w) t:=by
 have there:=h.there
 have nd:=h.nd
 have hnew:=h.new
 rw [CK] at nd hnew there
 obtain ⟨n1,n2⟩:=Y0.mp nd
 obtain ⟨n3,n4⟩:=Y0.mp n2
 obtain ⟨n5,n6,n7⟩:=F2.mp n4
 obtain ⟨es,e1,e2,e3⟩:=h.he
 have up:∀ a∈sa::ea::Gs.flatMap Fr.own,a∈sa::ea::(Gs.flatMap Fr.own++F.own):=by
  intro a ha
  rcases K0.mp ha with rfl | ha
  ·exact C0
  rcases K0.mp ha with rfl | ha
  ·exact A0 _ C0
  ·exact A0 _ (A0 _ (p0 _ ha))
 have dis:∀ a∈sa::ea::Gs.flatMap Fr.own,a∉F'.own:=by
  intro a ha hm
  rcases sub a hm with hm | hm
  ·rcases K0.mp ha with rfl | ha
   ·exact n1 (A0 _ (S0 _ hm))
   rcases K0.mp ha with rfl | ha
   ·exact n3 (S0 _ hm)
   ·exact n7 a ha a hm rfl
  ·obtain ⟨xs,e⟩:=there a (up a ha)
   rw [hm] at e
   cases e
 refine ⟨out,?_,?_,⟨es,?_,e2,λe he=>(e3 e he).sameT sT⟩,?_,?_,?_,?_⟩
 ·intro a ha
  rw [CK] at ha
  rcases K0.mp ha with rfl | ha
  ·exact hnew _ C0
  rcases K0.mp ha with rfl | ha
  ·exact hnew _ (A0 _ C0)
  rcases X0.mp ha with ha | ha
  ·exact hnew _ (A0 _ (A0 _ (p0 _ ha)))
  ·rcases sub a ha with ha | ha
   ·exact hnew _ (A0 _ (A0 _ (S0 _ ha)))
   ·exact h.out.free ha
 ·rw [o sa C0,h.hs,o0,o0]
  simp only [F1,F4,ef]
 ·rw [o ea (A0 _ C0)];exact e1
 ·have:=h.le
  rw [B0] at this |-
  exact this
 ·intro i X hi
  rcases Cp hi with ⟨hlt,hi'⟩ | ⟨rfl,rfl⟩
  ·have hi2:(Gs++[F])[i]?=some X:=by rw [Z0 hlt];exact hi'
   exact ⟨(h.fr i X hi2).1.move sT λa ha=>o a (A0 _ (A0 _ (He hi' ha))),(h.fr i X hi2).2⟩
  ·exact ⟨hF,by rw [ez];exact (h.fr _ _ Ba).2⟩
 ·rw [CK]
  refine Y0.mpr ⟨λhm=>?_,Y0.mpr ⟨λhm=>?_,F2.mpr ⟨n5,nd',λa ha b hb e=>dis a (A0 _ (A0 _ ha)) (e▸hb)⟩⟩⟩
  ·rcases K0.mp hm with e | hm
   ·exact n1 (by rw [e];exact C0)
   rcases X0.mp hm with hm | hm
   ·exact n1 (A0 _ (p0 _ hm))
   ·exact dis _ C0 hm
  ·rcases X0.mp hm with hm | hm
   ·exact n3 (p0 _ hm)
   ·exact dis _ (A0 _ C0) hm
 ·have:=h.sum
  rw [o0,j3] at this |-
  simp only [F1,F4,L3,O7] at this |-
  lia
def spPut:Sp:=λvs H Q _=>∃ (ea sa na:Addr) (x:Int) (d:Bool) (H0:Hp) (Fs:List Fr) (c t:Nat),vs=[.ref ea,.ref sa,.int x,.ref na,.bl d]/\0<=x/\Ew H0 na/\0<Fs.length/\SA H0 H sa ea Fs c t/\c<=90/\t<=70 /\
 ∀ (H':Hp) (Fs':List Fr),0<Fs'.length->SA H0 H' sa ea Fs' (c+1) (t+1)->Q .non H'
theorem Le {xs:List V} {x:V}:Qw (xs++[x]) (-1)=some x:=by
 obtain ⟨v,e,_,h⟩:=Na (xs:=xs++[x]) (by rw [B0];simp only [P0,K1];lia)
 rw [e,<- h,show (xs++[x]).length-1=xs.length by rw [B0];rfl]
 exact Ba
theorem CY {α:Type} {xs:List α} (h:0<xs.length):∃ ys x,xs=ys++[x]:=by
 rcases Y2 xs with rfl | ⟨L,b,e⟩
 ·exact absurd h (B6 0)
 ·exact ⟨L,b,by rw [e];simp⟩
theorem En.lastP {H:Hp} {n:Nat} {F:Fr} (h:En H n F):∃ qs p rss0 rs,F.ps=qs++[p]/\F.rss=rss0++[rs]/\qs.length=rss0.length:=by
 have l1:0<F.ps.length:=by rcases h.one with e | ⟨e,_⟩<;>lia
 obtain ⟨qs,p,e1⟩:=CY l1
 obtain ⟨rss0,rs,e2⟩:=CY (show 0<F.rss.length by have:=h.len;lia)
 refine ⟨qs,p,rss0,rs,e1,e2,?_⟩
 have:=h.len
 rw [e1,e2,B0,B0] at this
 exact Nat.add_right_cancel this
theorem SA.readTop {K:J0} {H0 H:Hp} {sa ea:Addr} {Gs:List Fr} {F:Fr} {c t:Nat} {R:VK} (h:SA H0 H sa ea (Gs++[F]) c t) (k:R (.ref F.f) H):DS K (.ref sa) (.int (-1)) H R :=
 ⟨sa,_,_,.ref F.f,rfl,rfl,Aw.of h.hs,by rw [o0];exact Le,k⟩
theorem En.readL {K:J0} {H:Hp} {n:Nat} {F:Fr} {R:VK} (h:En H n F) (k:R (.ref F.L) H):DS K (.ref F.f) (.int 2) H R :=
 ⟨F.f,_,_,.ref F.L,rfl,rfl,Aw.of h.hf,Av (j:=2) rfl,k⟩
theorem En.readZ {K:J0} {H:Hp} {n:Nat} {F:Fr} {R:VK} (h:En H n F) (k:R (.str F.z) H):DS K (.ref F.f) (.int 0) H R :=
 ⟨F.f,_,_,.str F.z,rfl,rfl,Aw.of h.hf,Av (j:=0) rfl,k⟩
theorem En.readP {K:J0} {H:Hp} {n:Nat} {F:Fr} {R:VK} {qs:List Addr} {p:Addr} (h:En H n F) (e:F.ps=qs++[p]) (k:R (.ref p) H):DS K (.ref F.L) (.int (-1)) H R :=
 ⟨F.L,_,_,.ref p,rfl,rfl,Aw.of h.hL,by rw [e,o0];exact Le,k⟩
theorem SA.top {H0 H:Hp} {sa ea:Addr} {Gs:List Fr} {F:Fr} {c t:Nat} (h:SA H0 H sa ea (Gs++[F]) c t):En H (22-Gs.length) F:=(h.fr _ _ Ba).1
theorem SA.topNd {H0 H:Hp} {sa ea:Addr} {Gs:List Fr} {F:Fr} {c t:Nat} (h:SA H0 H sa ea (Gs++[F]) c t):F.own.Nodup/\∀ a∈sa::ea::Gs.flatMap Fr.own,a∉F.own:=by
 have nd:=h.nd
 rw [CK] at nd
 obtain ⟨n1,n2⟩:=Y0.mp nd
 obtain ⟨n3,n4⟩:=Y0.mp n2
 obtain ⟨n5,n6,n7⟩:=F2.mp n4
 refine ⟨n6,λa ha hm=>?_⟩
 rcases K0.mp ha with rfl | ha
 ·exact n1 (A0 _ (S0 _ hm))
 rcases K0.mp ha with rfl | ha
 ·exact n3 (S0 _ hm)
 ·exact n7 a ha a hm rfl
theorem SA.topC {H0 H:Hp} {sa ea:Addr} {Gs:List Fr} {F:Fr} {c t:Nat} (h:SA H0 H sa ea (Gs++[F]) c t):F.c<=c:=by
 have:=h.sum
 rw [o0,j3] at this
 simp only [F1,F4,L3,O7] at this
 lia
theorem SA.newOwn {H0 H:Hp} {sa ea:Addr} {Gs:List Fr} {F:Fr} {c t:Nat} (h:SA H0 H sa ea (Gs++[F]) c t) {a:Addr} (ha:a∈F.own):H0 a=none :=
 h.new a (A0 _ (A0 _ (by rw [CK];exact S0 _ ha)))
theorem SA.addRow {H0 H:Hp} {sa ea:Addr} {Gs:List Fr} {F:Fr} {c t:Nat} {qs:List Addr} {p:Addr} {rss0:List (List V)} {rs:List V} {y:V} (h:SA H0 H sa ea (Gs++[F]) c t) (e1:F.ps=qs++[p]) (e2:F.rss=rss0++[rs]) (e3:qs.length=rss0.length) (hy:AX (22-Gs.length) H y) :
  H p=some (.lst rs)/\rs.length<=c/\∃ F',SA H0 (upd H p (.lst (rs++[y]))) sa ea (Gs++[F']) (c+(Dc (22-Gs.length) H y).length) t:=by
 have hF:=h.top
 obtain ⟨nd,dis⟩:=h.topNd
 have hpm:p∈F.own:=A0 _ (A0 _ (by rw [e1];exact S0 _ C0))
 have hp:H p=some (.lst rs):=hF.hp qs.length p rs (by rw [e1];exact Ba) (by rw [e2,e3];exact Ba)
 have lw:rs.length<=F.c:=by
  have hw:=hF.wt
  rw [e2,V4,B0] at hw
  simp only [V2,F7,L1] at hw
  have:∀ xs:List V,xs.length<=(xs.flatMap (Dc (22-Gs.length) H)).length:=by
   intro xs
   induction xs with
   |nil=>exact V0 _
   |cons x r ih =>
    rw [V2,B0,P0]
    have:1<=(Dc (22-Gs.length) H x).length:=by unfold Dc;rw [P0];lia
    lia
  have:=this rs
  lia
 have sT:Bq H (upd H p (.lst (rs++[y]))):=Bw hp
 have nd':=nd
 unfold Fr.own at nd'
 rw [e1] at nd'
 obtain ⟨m1,m2⟩:=Y0.mp nd'
 obtain ⟨m3,m4⟩:=Y0.mp m2
 obtain ⟨m5,m6,m7⟩:=F2.mp m4
 have nf:F.f≠p:=λe=>m1 (by rw [e];exact A0 _ (S0 _ C0))
 have nL:F.L≠p:=λe=>m3 (by rw [e];exact S0 _ C0)
 refine ⟨hp,T0 lw h.topC,{ F with rss:=rss0++[rs++[y]],c:=F.c+(Dc (22-Gs.length) H y).length },?_⟩
 refine h.last sT (CU h.out (h.newOwn hpm)) (λa ha=>Ap λe=>dis a ha (by rw [e];exact hpm)) ⟨?_,?_,?_,?_,?_,hF.one,hF.word,hF.things,hF.tv,hF.sv,hF.fv,?_,?_⟩ rfl rfl (V0 _) (λa ha=>.inl ha) nd
 ·show upd H p _ F.f=_
  rw [Ap nf];exact hF.hf
 ·exact sT _ _ hF.ht
 ·show upd H p _ F.L=_
  rw [Ap nL];exact hF.hL
 ·intro i q rs' hq hr
  have hq':(qs++[p])[i]?=some q:=by rw [<- e1];exact hq
  rcases Cp hq' with ⟨hlt,hq2⟩ | ⟨rfl,rfl⟩
  ·have hr':rss0[i]?=some rs':=by
    have hr0:(rss0++[rs++[y]])[i]?=some rs':=hr
    rw [Z0 (by lia)] at hr0
    exact hr0
   rw [Ap (λe=>m7 q (E1 hq2) p C0 e)]
   exact hF.hp i q rs' hq (by rw [e2,Z0 (by lia)];exact hr')
  ·have hr0:(rss0++[rs++[y]])[qs.length]?=some rs':=hr
   rw [e3,Ba] at hr0
   cases hr0
   exact Ad
 ·show F.ps.length=(rss0++[rs++[y]]).length
  rw [hF.len,e2,B0,B0];rfl
 ·intro rs' hrs r hr
  rcases X0.mp hrs with hrs | hrs
  ·exact (hF.rows rs' (by rw [e2];exact p0 _ hrs) r hr).sameT sT
  ·rw [M0.mp hrs] at hr
   rcases X0.mp hr with hr | hr
   ·exact (hF.rows rs (by rw [e2];exact S0 _ C0) r hr).sameT sT
   ·rw [M0.mp hr];exact hy.sameT sT
 ·show ((rss0++[rs++[y]]).flatMap λr=>r.flatMap (Dc (22-Gs.length) (upd H p (.lst (rs++[y]))))).length<=F.c+(Dc (22-Gs.length) H y).length
  have hw:=hF.wt
  rw [e2] at hw
  have e:((rss0++[rs++[y]]).flatMap λr=>r.flatMap (Dc (22-Gs.length) (upd H p (.lst (rs++[y])))))=(rss0++[rs++[y]]).flatMap λr=>r.flatMap (Dc (22-Gs.length) H):=by
   refine AJ λrs' hrs=>AJ λr hr=>Ea sT ?_
   rcases X0.mp hrs with hrs | hrs
   ·exact hF.rows rs' (by rw [e2];exact p0 _ hrs) r hr
   ·rw [M0.mp hrs] at hr
    rcases X0.mp hr with hr | hr
    ·exact hF.rows rs (by rw [e2];exact S0 _ C0) r hr
    ·rw [M0.mp hr];exact hy
  rw [e]
  rw [V4,B0] at hw |-
  simp only [V2,F7,L1,V4,B0] at hw |-
  lia
theorem SA.addPart {H0 H:Hp} {sa ea:Addr} {Gs:List Fr} {F:Fr} {c t:Nat} {q:Addr} (h:SA H0 H sa ea (Gs++[F]) c t) (hq:H q=none) (h1:F.ps.length=1) (h2:BL F.z) :
  ∃ F',SA H0 (upd (upd H q (.lst [])) F.L (.lst (F.ps.map V.ref++[.ref q]))) sa ea (Gs++[F']) c t:=by
 have hF:=h.top
 obtain ⟨nd,dis⟩:=h.topNd
 have hLm:F.L∈F.own:=A0 _ C0
 have s1:=Ag.upd (o:=.lst []) hq
 have hF1:=hF.same s1
 have sT:Bq H (upd (upd H q (.lst [])) F.L (.lst (F.ps.map V.ref++[.ref q]))):=(AE s1).trans (Bw hF1.hL)
 have here:∀ a∈F.own,a≠q:=λa ha e=>by
  obtain ⟨xs,e'⟩:=hF.here a ha
  rw [e,hq] at e'
  cases e'
 have nd':=nd
 unfold Fr.own at nd'
 obtain ⟨m1,m2⟩:=Y0.mp nd'
 obtain ⟨m3,m4⟩:=Y0.mp m2
 refine ⟨{ F with ps:=F.ps++[q],rss:=F.rss++[[]] },?_⟩
 refine h.last (w:=0) sT (CU (h.out.trans s1) (h.newOwn hLm)) (λa ha=>?_) ⟨?_,sT _ _ hF.ht,?_,?_,?_,.inr ⟨?_,h2⟩,hF.word,hF.things,hF.tv,hF.sv,hF.fv,?_,?_⟩ rfl rfl (V0 _) (λa ha=>?_) ?_
 ·rw [Ap (λe=>dis a ha (by rw [e];exact hLm))]
  refine Ap λe=>?_
  have ha':a∈sa::ea::(Gs++[F]).flatMap Fr.own:=by
   rw [CK]
   rcases K0.mp ha with rfl | ha
   ·exact C0
   rcases K0.mp ha with rfl | ha
   ·exact A0 _ C0
   ·exact A0 _ (A0 _ (p0 _ ha))
  obtain ⟨xs,e'⟩:=h.there a ha'
  rw [e,hq] at e'
  cases e'
 ·show upd _ F.L _ F.f=_
  rw [Ap (λe=>m1 (by rw [e];exact C0))]
  exact hF1.hf
 ·show upd _ F.L _ F.L=some (.lst ((F.ps++[q]).map V.ref))
  rw [Ad,o0];rfl
 ·intro i p rs hp hr
  have hp0:(F.ps++[q])[i]?=some p:=hp
  have hr0:(F.rss++[[]])[i]?=some rs:=hr
  rcases Cp hp0 with ⟨hlt,hp2⟩ | ⟨rfl,rfl⟩
  ·rw [Z0 (by have:=hF.len;lia)] at hr0
   rw [Ap (λe=>m3 (by rw [<- e];exact E1 hp2))]
   exact hF1.hp i p rs hp2 hr0
  ·rw [hF.len,Ba] at hr0
   cases hr0
   rw [Ap (λe=>here F.L hLm e.symm)]
   exact Ad
 ·show (F.ps++[q]).length=(F.rss++[[]]).length
  rw [B0,B0,hF.len];rfl
 ·show (F.ps++[q]).length=2
  rw [B0,h1];rfl
 ·intro rs hrs r hr
  rcases X0.mp hrs with hrs | hrs
  ·exact (hF.rows rs hrs r hr).sameT sT
  ·rw [M0.mp hrs] at hr;cases hr
 ·have hw:=hF.wt
  have e:∀ G:Hp,Bq H G->(((F.rss++[[]]).flatMap λ(r:List V)=>r.flatMap (Dc (22-Gs.length) G)))=F.rss.flatMap λr=>r.flatMap (Dc (22-Gs.length) H):=by
   intro G s
   rw [V4]
   simp only [V2,F7,L1]
   exact AJ λrs' hrs=>AJ λr hr=>Ea s (hF.rows rs' hrs r hr)
  show ((F.rss++[[]]).flatMap λ(r:List V)=>r.flatMap (Dc (22-Gs.length) _)).length<=F.c
  rw [e _ sT];exact hw
 ·have ha':a∈F.f::F.L::(F.ps++[q]):=ha
  rcases K0.mp ha' with rfl | ha'
  ·exact .inl C0
  rcases K0.mp ha' with rfl | ha'
  ·exact .inl hLm
  rcases X0.mp ha' with ha' | ha'
  ·exact .inl (A0 _ (A0 _ ha'))
  ·rw [M0.mp ha'];exact .inr hq
 ·show (F.f::F.L::(F.ps++[q])).Nodup
  refine Y0.mpr ⟨λhm=>?_,Y0.mpr ⟨λhm=>?_,F2.mpr ⟨m4,by simp,λa ha b hb e=>?_⟩⟩⟩
  ·rcases K0.mp hm with e | hm
   ·exact m1 (by rw [e];exact C0)
   rcases X0.mp hm with hm | hm
   ·exact m1 (A0 _ hm)
   ·exact here F.f C0 (M0.mp hm)
  ·rcases X0.mp hm with hm | hm
   ·exact m3 hm
   ·exact here F.L hLm (M0.mp hm)
  ·exact here a (A0 _ (A0 _ ha)) (e.trans (M0.mp hb))
theorem SA.doPop {H0 H:Hp} {sa ea:Addr} {Gs:List Fr} {F:Fr} {c t:Nat} {R:VK} (h:SA H0 H sa ea (Gs++[F]) c t) (k:R (.ref F.f) (upd H sa (.lst (Gs.map λF=>V.ref F.f)))):rPop (.ref sa) [] H R:=by
 have e:(Gs++[F]).map (λF=>V.ref F.f)=Gs.map (λF=>V.ref F.f)++[.ref F.f]:=by rw [o0];rfl
 refine ⟨sa,_,.ref F.f,rfl,rfl,h.hs,?_,?_⟩
 ·rw [e,show (Gs.map (λF=>V.ref F.f)++[V.ref F.f]).length-1=(Gs.map (λF=>V.ref F.f)).length by rw [B0];rfl]
  exact Ba
 ·rw [e,M4];exact k
theorem SA.putRow {K:J0} {H0 H:Hp} {sa ea:Addr} {Gs:List Fr} {G:Fr} {c t:Nat} {mt:V->Hp->Prop} {R:V->V->Hp->Prop} {N:VK} (h:SA H0 H sa ea (Gs++[G]) c t) (hm:∀ p xs H1,Aw K H1 p xs->mt (.ref p) H1)
  (k:∀ p:Addr,(∀ (y:V) (H1:Hp),Ag H H1->AX (22-Gs.length) H1 y->c<=500->(∀ H' G',SA H0 H' sa ea (Gs++[G']) (c+(Dc (22-Gs.length) H1 y).length) t->N .non H')->DT (.ref p) [y] H1 N)->R (.ref p) (.ref p) H) :
  DS K (.ref sa) (.int (-1)) H λx H1=>DS K x (.int 2) H1 λx H1=>DS K x (.int (-1)) H1 λx H1=>mt x H1/\R x x H1:=by
 have hF:=h.top
 obtain ⟨qs,p,rss0,rs,e1,e2,e3⟩:=hF.lastP
 refine h.readTop (hF.readL (hF.readP e1 ⟨?_,k p λy H1 s hy hc k2=>?_⟩))
 ·exact hm p _ _ (Aw.of (hF.hp qs.length p rs (by rw [e1];exact Ba) (by rw [e2,e3];exact Ba)))
 ·obtain ⟨a1,a2,F',a3⟩:=(h.same s).addRow e1 e2 e3 hy
  exact ⟨p,rs,y,rfl,rfl,a1,X2 (T0 a2 hc) (show 500<sizeLine by kd_p),k2 _ F' a3⟩
theorem SA.closeIn {K:J0} {H0 H:Hp} {sa ea:Addr} {Gs:List Fr} {F:Fr} {c t:Nat} {mt:V->Hp->Prop} {N:VK} {E:XK} (h:SA H0 H sa ea (Gs++[F]) c t) (hg:0<Gs.length) (hc:c<=400) (hm:∀ p xs H1,Aw K H1 p xs->mt (.ref p) H1)
  (k:∀ (H':Hp) (Gs':List Fr),Gs'.length=Gs.length->SA H0 H' sa ea Gs' (c+1) t->N .non H') :
  rPop (.ref sa) [] H λx H1=>GY [x] H1 (λy H1=>DS K (.ref sa) (.int (-1)) H1 λx H1=>DS K x (.int 2) H1 λx H1=>DS K x (.int (-1)) H1 λx H1=>mt x H1/\DT x [y] H1 N) E:=by
 obtain ⟨c',hc',hS',hF',hz⟩:=h.pop
 have hl:=h.le
 rw [B0] at hl
 simp only [P0,K1] at hl
 refine h.doPop ⟨F,_,rfl,hF',⟨by lia,by rw [hz];lia⟩,by lia,λv H2 hmade s2=>?_⟩
 rcases hmade with ⟨e,_⟩ | ⟨_,hrow,hw⟩
 ·exact absurd (hz.mp e) (by lia)
 have hS2:=hS'.same s2
 clear hS' hF' s2 h
 obtain ⟨Gs',G,rfl⟩:=CY hg
 have hlen:(Gs'++[G]).length=Gs'.length+1:=by rw [B0];rfl
 rw [hlen] at hrow hw hl
 rw [show 22-(Gs'.length+1)+1=22-Gs'.length by lia] at hrow hw
 refine hS2.putRow (R:=λx _ H1=>DT x [v] H1 N) hm λp add=>add v H2 (Ag.refl _) hrow (by lia) λH' G' hS3=>?_
 refine k H' (Gs'++[G']) ?_ (hS3.mono (by lia) (V0 _))
 rw [hlen,B0];rfl
def Ko:Sp:=λvs H Q _=>∃ (ca na:Addr) (d:Bool) (ns:List Int),vs=[.ref ca,.ref na,.bl d]/\H ca=some (.lst (ns.map V.int))/\ns.length<=63/\Ew H na /\
 ∀ (p:Addr) (es:List V) (H':Hp),H p=none->H' p=some (.tup es)->(∀ e∈es,Gz 22 100 H' e)->es.length<=64->es≠[]->Ag H H'->Q (.ref p) H'
def spLaw (K:J0):Sp:=λvs H Q _=>∃ (a:Addr) (ns:List Int),vs=[.ref a]/\Aw K H a (ns.map V.int)/\ns.length<=63/\∀ H',Q (.bl true) H'
theorem UN (ns:List Int) (lo hi:Option Int):∃ ms:List Int,DI (ns.map V.int) lo hi=ms.map V.int/\ms.length<=ns.length:=by
 unfold DI
 refine ⟨(ns.drop (HT.sIx (ns.map V.int).length 0 lo)).take (HT.sIx (ns.map V.int).length (ns.map V.int).length hi-HT.sIx (ns.map V.int).length 0 lo),by rw [List.map_take,e8],?_⟩
 rw [j1,C4]
 lia
theorem SA.first {H G4:Hp} {ea sa:Addr} {F:Fr} (hea:H ea=none) (hn:Qz (upd H ea (.lst [])) G4 F) (hz:F.z="errand") (hsa:G4 sa=none):SA H (upd G4 sa (.lst [.ref F.f])) sa ea [F] 0 0:=by
 obtain ⟨hF,hnd,hno,hc,s⟩:=hn
 have s1:=Ag.upd (o:=.lst []) hea
 have s3:=Ag.upd (o:=.lst [.ref F.f]) hsa
 have out:=(s1.trans s).trans s3
 have hea4:=s ea _ Ad
 have e:[F].flatMap Fr.own=F.own:=by simp
 have n1:sa∉F.own:=λhm=>by
  obtain ⟨xs,q⟩:=(hF 0).here sa hm
  rw [hsa] at q
  cases q
 have n2:sa≠ea:=λq=>by rw [q,hea4] at hsa;cases hsa
 have n3:ea∉F.own:=λhm=>by
  have q:=hno ea hm
  rw [Ad] at q
  cases q
 refine ⟨out,?_,Ad,⟨[],s3 _ _ hea4,V0 _,λ_ h=>nomatch h⟩,(show 1<=21 by kd_p),?_,?_,?_⟩
 ·intro a ha
  rw [e] at ha
  rcases K0.mp ha with rfl | ha
  ·exact (s1.trans s).free hsa
  rcases K0.mp ha with rfl | ha
  ·exact hea
  ·exact s1.free (hno a ha)
 ·intro i X hi
  cases i with
  |zero =>
   cases hi
   exact ⟨(hF _).same s3,λ_=>rfl,λ_=>hz⟩
  |succ i=>cases hi
 ·rw [e]
  refine Y0.mpr ⟨λhm=>?_,Y0.mpr ⟨n3,hnd⟩⟩
  rcases K0.mp hm with q | hm
  ·exact n2 q
  ·exact n1 hm
 ·rw [F1,F4,L3,O7,hc]
  exact V0 _
def TQ (H:Hp) (a:Addr):Nat:=match H a with
 |some (.lst xs)=>xs.length
 |_=>0
theorem Nx {H:Hp} {a:Addr} {xs:List V} (h:H a=some (.lst xs)):TQ H a=xs.length:=by unfold TQ;rw [h]
theorem AX.partsRef {m:Nat} {H:Hp} {y:V} (h:AX m H y):∀ p∈Cw H y,∃ a,p=V.ref a:=by
 intro p hp
 cases m with
 |zero=>exact h.elim
 |succ m =>
  obtain ⟨b,_,e,_⟩:=h.parts_ok p hp
  exact ⟨b,e⟩
def FP:V->Str
 |.int n=>(toString n:String)
 |.str z=>z
 |_=>""
def Gn:V->Bool
 |.ref _=>true
 |_=>false
theorem TV.notR {v:V} (h:TV v):Gn v=false:=by
 rcases h with ⟨n,rfl,_⟩ | ⟨z,rfl,_⟩<;>rfl
def BZ (z:Str) (r:List V):List Str :=
 if z="begin" then
  match r with
  |[.str a,.str b,.str c,.int l]=>[("begin":Str),a,b, "in",c]++(if l=0 then [] else [("within":Str),FP (.int l)])
  |_=>[]
 else if z="try" then ["try"] else z::((r.filter λv=>!Gn v).map FP)
def El (H:Hp):V->Str×List V
 |.ref a=>match H a with
  |some (.tup (.str z::_::r))=>(z,r)
  |_=>("",[])
 |_=>("",[])
theorem EX {H:Hp} {a:Addr} {z:Str} {x:V} {r:List V} (h:H a=some (.tup (.str z::x::r))):El H (.ref a)=(z,r):=by
 show (match H a with | some (.tup (.str z::_::r))=>(z,r) | _=>("",[]))=_
 rw [h]
def BG (H:Hp) (v:V):List Str:=BZ (El H v).1 (El H v).2
def CW (H:Hp):V->List V
 |.ref a=>match H a with
  |some (.tup ys)=>ys
  |_=>[]
 |_=>[]
theorem Cd {H:Hp} {a:Addr} {ys:List V} (h:H a=some (.tup ys)):CW H (.ref a)=ys:=by
 show (match H a with | some (.tup ys)=>ys | _=>[])=_
 rw [h]
def CN (H:Hp) (v:V):List (List Str) :=
 if (El H v).1="try" then [[("but":Str),FP ((El H v).2.getD 1 .non)]] else if (El H v).1="do" then [["last"]] else if CW H ((El H v).2.getD 2 .non)=[] then [] else [["late"]]
abbrev Ln:=Nat×List Str
def DV (f:V->List Ln) (tn en:List Ln):Bool->List V->List Ln
 |w,[]=>if w then en else []
 |w,x::r=>if Gn x then (if w then tn else [])++(f x++DV f tn en true r) else DV f tn en w r
theorem FX {f:V->List Ln} {tn en:List Ln} {w:Bool} {x:V} {r:List V} (h:Gn x=false):DV f tn en w (x::r)=DV f tn en w r:=by
 show (if Gn x then _ else _)=_
 rw [if_neg (by rw [h];exact Q0)]
theorem Ed {f:V->List Ln} {tn en:List Ln} {w:Bool} {a:Addr} {r:List V}:DV f tn en w (.ref a::r)=(if w then tn else [])++(f (.ref a)++DV f tn en true r):=rfl
theorem GM {f g:V->List Ln} {tn en:List Ln}:∀ {r:List V} {w:Bool},(∀ x∈r,Gn x=true->f x=g x)->DV f tn en w r=DV g tn en w r
 |[],_,_=>rfl
 |x::r,w,h=>by
  cases e:Gn x with
  |false=>rw [FX e,FX e];exact GM λy hy=>h y (A0 _ hy)
  |true =>
   cases x with
   |ref a=>rw [Ed,Ed,h _ C0 rfl,GM λy hy=>h y (A0 _ hy)]
   |_=>cases e
theorem Eu {f:V->List Ln} {tn en:List Ln}:∀ (r:List V) (w:Bool),DV f tn en w (r.filter Gn)=DV f tn en w r
 |[],_=>rfl
 |x::r,w=>by
  cases e:Gn x with
  |false=>rw [j2,if_neg (by rw [e];exact Q0),FX e];exact Eu r w
  |true =>
   rw [j2,if_pos e]
   cases x with
   |ref a=>rw [Ed,Ed,Eu r true]
   |_=>cases e
def DN (f:V->Nat->List Ln) (H:Hp) (y:V) (d:Nat):List Ln:=(d,BG H y)::DV (λp=>f p (d+1)) ((CN H y).map λws=>(d,ws)) [(d,["end"])] false (El H y).2
def BF:Nat->Hp->V->Nat->List Ln
 |0,_,_,_=>[]
 |n+1,H,v,d=>(CW H v).flatMap λy=>DN (BF n H) H y d
inductive Tr where
 |i (n:Int)
 |s (z:Str)
 |t (ts:List Tr)
def RN:V->Tr
 |.int n=>.i n
 |.str z=>.s z
 |_=>.t []
def RepT:Nat->Hp->V->Tr->Prop
 |0,_,v,t=>match t with
  |.i n=>v=.int n
  |.s z=>v=.str z
  |.t _=>False
 |m+1,H,v,t=>match t with
  |.i n=>v=.int n
  |.s z=>v=.str z
  |.t ts=>∃ (a:Addr) (xs:List V),v=.ref a/\H a=some (.tup xs)/\xs.length=ts.length/\ts.length<=100000/\∀ (i:Nat) (x:V) (t:Tr),xs[i]?=some x->ts[i]?=some t->RepT m H x t
theorem Lg.z {z:Str} {r:List V} (h:Lg z r):∃ ln r',r=.int ln::r':=by
 obtain ⟨ln,r',e,_⟩:=h
 exact ⟨ln,r',e⟩
theorem AX.zOf {n:Nat} {H:Hp} {v:V} (h:AX n H v):∃ (a:Addr) (ln:Int),v=.ref a/\H a=some (.tup (.str (El H v).1::.int ln::(El H v).2)):=by
 cases n with
 |zero=>exact h.elim
 |succ n =>
  obtain ⟨a,z,r,rfl,e2,e3,_⟩:=h
  obtain ⟨ln,r',rfl⟩:=e3.z
  rw [EX e2]
  exact ⟨a,ln,rfl,e2⟩
theorem AX.z_same {n:Nat} {H H':Hp} {v:V} (h:AX n H v) (s:Bq H H'):El H' v=El H v:=by
 obtain ⟨a,ln,rfl,e⟩:=h.zOf
 exact EX (s _ _ e)
theorem FV {z:Str} {r th:List V} {fa:V} {bs:List Addr} (B:Hs z r th fa bs):r.filter Gn=bs.map V.ref:=by
 have f0:∀ {xs:List V},(∀ t∈xs,TV t)->xs.filter Gn=[]:=λh=>V3.mpr λx hx=>by rw [(h x hx).notR];exact Q0
 have f1:∀ ys:List Addr,(ys.map V.ref).filter Gn=ys.map V.ref:=λys=>d6.mpr λx hx=>by
  obtain ⟨b,_,rfl⟩:=D2.mp hx
  rfl
 rw [B.e,g7,f0 B.tv,D5]
 by_cases ez:z="try"
 ·rw [if_pos ez]
  obtain ⟨b0,b1,rfl⟩:=Jy (B.two (.inl ez))
  obtain ⟨y,hy,_⟩:=B.fv.1 ez
  rw [hy]
  rfl
 ·rw [if_neg ez];exact f1 bs
theorem AX.parts_eq {n:Nat} {H:Hp} {v:V} (h:AX n H v):Cw H v=(El H v).2.filter Gn:=by
 cases n with
 |zero=>exact h.elim
 |succ n =>
  obtain ⟨a,z,r,rfl,e2,e3,_,_⟩:=h
  obtain ⟨ln,r',rfl,P | ⟨th,fa,bs,B⟩⟩:=e3
  ·rw [Ct e2,EX e2,Cj,P.p]
   show []=r'.filter Gn
   refine (V3.mpr λx hx=>?_).symm
   rw [(P.tv x hx).notR];exact Q0
  ·rw [Ct e2,EX e2,(GK B).1]
   exact (FV B).symm
theorem AX.part_ok {n:Nat} {H:Hp} {v:V} (h:AX (n+1) H v):∀ p∈(El H v).2,Gn p=true->BX n H p:=λp hp e=>h.parts_ok p (by rw [h.parts_eq];exact Q4.mpr ⟨hp,e⟩)
theorem BX.elems_same {n:Nat} {H H':Hp} {v:V} (h:BX n H v) (s:Bq H H'):CW H' v=CW H v:=by
 obtain ⟨b,ys,rfl,e,_⟩:=h
 rw [Cd e,Cd (s _ _ e)]
theorem NP {H:Hp} {x:V} (h:Gn x=false):CW H x=[]:=by
 cases x<;>first | rfl | cases h
theorem AX.turn_same {n:Nat} {H H':Hp} {v:V} (h:AX (n+1) H v) (s:Bq H H'):CN H' v=CN H v:=by
 unfold CN
 rw [h.z_same s]
 have e:CW H' ((El H v).2.getD 2 .non)=CW H ((El H v).2.getD 2 .non):=by
  cases e:Gn ((El H v).2.getD 2 .non) with
  |false=>rw [NP e,NP e]
  |true =>
   refine (h.part_ok _ ?_ e).elems_same s
   rw [W8] at e |-
   cases q:(El H v).2[2]? with
   |none=>rw [q] at e;cases e
   |some x=>exact E1 q
 rw [e]
theorem Ow {f g:V->Nat->List Ln} {n:Nat} {H H':Hp} {y:V} (h:AX (n+1) H y) (s:Bq H H') (d:Nat) (e:∀ p,BX n H p->∀ d,f p d=g p d):DN f H' y d=DN g H y d:=by
 unfold DN BG
 rw [h.z_same s,h.turn_same s]
 congr 1
 exact GM λx hx hr=>e x (h.part_ok x hx hr) _
theorem Nv {H H':Hp} (s:Bq H H'):∀ {n:Nat} {v:V},BX n H v->∀ d,BF (n+1) H' v d=BF (n+1) H v d:=by
 intro n
 induction n with
 |zero =>
  intro v h d
  obtain ⟨b,ys,rfl,e2,e3⟩:=id h
  show (CW H' _).flatMap _=(CW H _).flatMap _
  rw [h.elems_same s]
  exact AJ λy hy=>by rw [Cd e2] at hy;exact (e3 y hy).elim
 |succ n ih =>
  intro v h d
  obtain ⟨b,ys,rfl,e2,e3⟩:=id h
  show (CW H' _).flatMap _=(CW H _).flatMap _
  rw [h.elems_same s]
  refine AJ λy hy=>?_
  rw [Cd e2] at hy
  exact Ow (e3 y hy) s d λp hp d=>ih hp d
def Lm:Sp:=λvs H Q _=>∃ (v:V) (n:Nat),vs=[v]/\AX (n+1) H v/\∀ (l:Addr) (H':Hp),H l=none->H' l=some (.lst ((BG H v).map V.str))->Ag H H'->Q (.ref l) H'
def FR:Sp:=λvs H Q _=>∃ (v:V) (n:Nat) (t:List Str),vs=[v]/\AX (n+1) H v/\BL (El H v).1/\CN H v=[t]/\∀ (l:Addr) (H':Hp),H l=none->H' l=some (.lst (t.map V.str))->Ag H H'->Q (.ref l) H'
theorem iteT {c A B:Prop} [Decidable c] (hc:c) (h:A):if c then A else B:=by rw [if_pos hc];exact h
theorem iteF {c A B:Prop} [Decidable c] (hc:¬ c) (h:B):if c then A else B:=by rw [if_neg hc];exact h
structure RI (n:Nat) (H:Hp) (v:V) (a:Addr) (z:Str) (ln:Int) (r:List V):Prop where
 e:v=.ref a
 h:H a=some (.tup (.str z::.int ln::r))
 zr:El H v=(z,r)
 zl:z.length<=10
 len:r.length<=4
 each:∀ x∈r,(Gn x=true/\BX n H x)\/TV x
 sh:NX z r\/∃ th fa bs,Hs z r th fa bs
theorem word_le {z:Str} (h:Mr z):z.length<=10:=by
 rcases h with rfl | rfl | rfl | rfl | rfl | rfl | rfl | rfl<;>lk
theorem AX.ri {n:Nat} {H:Hp} {v:V} (h:AX (n+1) H v):∃ a z ln r,RI n H v a z ln r:=by
 obtain ⟨a,z,r,rfl,e2,e3,e4,_⟩:=id h
 obtain ⟨ln,r',rfl,hS⟩:=e3
 have eZ:=EX e2
 have ep:∀ x∈r',Gn x=true->BX n H x:=λx hx hr=>h.part_ok x (by rw [eZ];exact hx) hr
 refine ⟨a,z,ln,r',rfl,e2,eZ,?_,?_,λx hx=>?_,hS⟩
 ·rcases hS with P | ⟨th,fa,bs,B⟩
  ·exact P.l
  ·exact word_le B.w
 ·rcases hS with P | ⟨th,fa,bs,B⟩
  ·exact P.rl
  ·have:=(GK (i:=ln) B).2
   have hz:Dh z<=5:=by
    rcases B.w with rfl | rfl | rfl | rfl | rfl | rfl | rfl | rfl<;>lk
   rw [P0] at this
   lia
 ·cases e:Gn x with
  |true=>exact .inl ⟨rfl,ep x hx e⟩
  |false =>
   refine .inr ?_
   rcases hS with P | ⟨th,fa,bs,B⟩
   ·exact P.tv x hx
   ·rw [B.e] at hx
    rcases X0.mp hx with hx | hx
    ·exact B.tv x hx
    ·by_cases ez:z="try"
     ·rw [if_pos ez] at hx
      obtain ⟨b0,b1,rfl⟩:=Jy (B.two (.inl ez))
      simp only [QL,K0,A1,or_false] at hx
      rcases hx with rfl | rfl | rfl
      ·cases e
      ·exact (B.fv.1 ez).tv
      ·cases e
     ·rw [if_neg ez] at hx
      obtain ⟨b,_,rfl⟩:=D2.mp hx
      cases e
theorem RI.ix {K:J0} {n:Nat} {H G:Hp} {v:V} {a:Addr} {z:Str} {ln:Int} {r:List V} {R:VK} (I:RI n H v a z ln r) (j:Nat) (x:V) (hx:(V.str z::.int ln::r)[j]?=some x) (s:Ag H G) (q:R x G):JW K v (.int (j:Nat)) G R:=by
 obtain rfl:=I.e
 exact ⟨a,_,_,x,rfl,rfl,Cn.of (s _ _ I.h),Av hx,q⟩
theorem RI.words {n:Nat} {H:Hp} {v:V} {a:Addr} {z:Str} {ln:Int} {r:List V} (I:RI n H v a z ln r):BG H v=BZ z r:=by
 unfold BG
 rw [I.zr]
theorem slFrom2 {K:J0} {G:Hp} {a:Addr} {x y:V} {r:List V} {R:VK} (h:G a=some (.tup (x::y::r))) (k:∀ q G',G q=none->Ag G G'->G' q=some (.tup r)->R (.ref q) G'):PY K (.ref a) (some 2) none G R:=by
 have e1:HT.sIx (x::y::r).length 0 (some 2)=2:=(HT.sIx_nat _ _ 2).trans (by rw [P0,P0];lia)
 refine ⟨a,_,rfl,Cn.of h,λhw=>?_,λhw q hq=>k q _ hq (Ag.upd hq) ?_⟩
 ·exfalso
  have:=hw.1
  rw [e1] at this
  lia
 ·rw [Ad]
  unfold DI
  have e2:HT.sIx (x::y::r).length (x::y::r).length none=(x::y::r).length:=rfl
  rw [e1,e2]
  congr 2
  show C8 ((r.length+1+1)-2) r=r
  rw [show r.length+1+1-2=r.length by lia,T2]
theorem neNilT {K:J0} {G:Hp} {b:Addr} {ys:List V} {R:VK} (h:G b=some (.tup ys)) (k:∀ G',Ag G G'->R (.bl (!decide (ys=[]))) G'):0<=sizeLine/\∀ p,G p=none->rEqT K true (.ref b) (.ref p) (upd G p (.tup [])) R:=by
 refine ⟨by kd_p,λp hp=>⟨b,p,ys,[],0,λ_=>true,rfl,rfl,Cn.of ((Ag.upd hp) _ _ h),Cn.of Ad,by kd_p,(λi x y _ hy=>by cases hy),?_⟩⟩
 have e:(true^^((K3 (min ys.length ([]:List V).length)).all λ_=>true)&&ys.length == ([]:List V).length)=!decide (ys=[]):=by
  cases ys with
  |nil=>rfl
  |cons z r=>simp
 rw [e]
 exact k _ (Ag.upd hp)
theorem OS {K:J0} {G:Hp} {a:Addr} {xs:List V} {R:VK} (h:G a=some (.lst xs)) (k:∀ G',Ag G G'->R (.bl (!decide (xs=[]))) G'):0<=sizeLine/\∀ p,G p=none->Oy K true (.ref a) (.ref p) (upd G p (.lst [])) R:=by
 refine ⟨by kd_p,λp hp=>⟨a,p,_,[],0,λ_=>true,rfl,rfl,Aw.of ((Ag.upd hp) _ _ h),Aw.of Ad,by kd_p,(λi x y _ hy=>by cases hy),?_⟩⟩
 have e:(true^^(decide (xs.length=([]:List V).length)&&(K3 xs.length).all λ_=>true))=!decide (xs=[]):=by
  cases xs with
  |nil=>rfl
  |cons z r=>simp
 rw [e]
 exact k _ (Ag.upd hp)
theorem LR {n:Int} (h0:0<=n) (h1:n<10000000):n.natAbs.log2<1920:=by
 by_cases e:n.natAbs=0
 ·rw [e];decide
 ·refine (Nat.log2_lt e).mpr (V1 (show n.natAbs<10000000 by lia) ?_)
  exact T0 (show 10000000<=2 ^ 24 by kd_p) (Nat.pow_le_pow_right (show 0<2 by kd_p) (show 24<=1920 by kd_p))
theorem JB (z:Str) (zs:List Str):CA (.str z) (zs.map V.str)=decide (z∈zs):=by
 unfold CA
 rw [X6,J7,decide_eq_true_eq]
 constructor
 ·rintro ⟨y,hy,q⟩
  obtain ⟨n,hn,rfl⟩:=D2.mp hy
  have:n=z:=by simpa [Em] using q
  subst this
  exact hn
 ·intro h
  exact ⟨.str z,D2.mpr ⟨z,h,rfl⟩,by simp [Em]⟩
theorem inL {K:J0} {G:Hp} {p:Addr} {z:Str} {R:VK} (zs:List Str) (k:R (.bl (decide (z∈zs))) (upd G p (.lst (zs.map V.str)))):rIn K false (.str z) (.ref p) (upd G p (.lst (zs.map V.str))) R:=by
 refine ⟨p,_,rfl,.inl (Aw.of Ad),rfl,EO zs,?_⟩
 rw [if_neg Q0,JB]
 exact k
theorem noR {z:Str} {r th:List V} {fa:V} {bs:List Addr} (B:Hs z r th fa bs) (hz:z≠"try"):r.filter (λv=>!Gn v)=th:=by
 rw [B.e,if_neg hz,g7]
 have f1:(bs.map V.ref).filter (λv=>!Gn v)=[]:=V3.mpr λx hx=>by
  obtain ⟨b,_,rfl⟩:=D2.mp hx
  exact Q0
 rw [f1,L1]
 exact d6.mpr λx hx=>by rw [(B.tv x hx).notR];rfl
theorem DW {z:Str} {r th:List V} {fa:V} {bs:List Addr} (B:Hs z r th fa bs) (hz:z≠"try"):BZ z r=z::th.map FP:=by
 unfold BZ
 rw [if_neg (λe=>absurd B.w (by rw [e];lk)),if_neg hz,noR B hz]
theorem Kg {z:Str} {r:List V} (P:NX z r) (hz:z≠"begin"):BZ z r=z::r.map FP:=by
 unfold BZ
 rw [if_neg hz,if_neg (λe=>absurd P.p (by rw [e];lk)),d6.mpr λx hx=>by rw [(P.tv x hx).notR];rfl]
def Mp (d:Addr) (H H':Hp):Prop:=∀ c o,c≠d->H c=some o->H' c=some o
theorem Mp.trans {d:Addr} {H H1 H2:Hp} (a:Mp d H H1) (b:Mp d H1 H2):Mp d H H2:=λc o n h=>b c o n (a c o n h)
theorem Mp.of {d:Addr} {H H':Hp} (s:Ag H H'):Mp d H H':=λc o _ h=>s c o h
theorem Mp.upd {d:Addr} {H:Hp} {u:HO}:Mp d H (L2.upd H d u):=λc o n h=>by rw [Ap n];exact h
def DG (x:Ln):Str:=EH x.1 "  "++Txt.join " " x.2
theorem txt_le {v:V} (h:TV v):(FP v).length<=60:=by
 rcases h with ⟨n,rfl,h0,h1⟩ | ⟨z,rfl,h⟩
 ·exact T0 (A8 h0 (k:=7) (by kd_p) h1) (by kd_p)
 ·exact h
theorem join_le (sep:Str):∀ zs:List Str,(Txt.join sep zs).length<=(zs.map (·.length)).sum+zs.length*sep.length:=by
 intro zs
 show (Builtin.Str.glued _ _).length<=_
 rw [StrLaws.glued_eq_join]
 induction zs with
 |nil=>exact N1 _
 |cons c r ih =>
  cases r with
  |nil=>show c.length<=_;simp
  |cons d r =>
   show (c++sep++Str.join sep (d::r)).length<=_
   rw [BN,BN]
   rw [F1,L3,P0,i6]
   lia
theorem sum_le {zs:List Str} {b:Nat} (h:∀ z∈zs,z.length<=b):(zs.map (·.length)).sum<=zs.length*b:=by
 induction zs with
 |nil=>exact N1 _
 |cons z r ih =>
  rw [F1,L3,P0,i6]
  have:=h z C0
  have:=ih λy hy=>h y (A0 _ hy)
  lia
theorem RW {ws:List V} (h:∀ x∈ws,TV x) (hl:ws.length<=7):((ws.map FP).map (·.length)).sum+(ws.map FP).length*(" ":Str).length<=427:=by
 have h1:=sum_le (zs:=ws.map FP) (b:=60) λz hz=>by
  obtain ⟨v,hv,rfl⟩:=D2.mp hz
  exact txt_le (h v hv)
 rw [show (" ":Str).length=1 by lk,L0] at *
 lia
theorem Oi {α:Type} {xs:List α} {i:Nat} {x:α} (h:xs[i]?=some x):xs.take (i+1)=xs.take i++[x]:=by
 rw [x6,h];rfl
theorem AX.words {n:Nat} {H:Hp} {v:V} (h:AX (n+1) H v):∃ ws:List V,(∀ x∈ws,TV x)/\ws.length<=7/\ws.map FP=BG H v:=by
 obtain ⟨a,z,ln,r,I⟩:=h.ri
 rw [I.words]
 have st:∀ {z:Str},z.length<=60->TV (.str z):=λh=>.inr ⟨_,rfl,h⟩
 have hzl:=I.zl
 by_cases hb:z="begin"
 ·rcases I.sh with P | ⟨th,fa,bs,B⟩
  ·obtain ⟨x,y,w,l,rfl,hl0⟩:=P.b.1 hb
   have e:BZ z [.str x,.str y,.str w,.int l]=[("begin":Str),x,y, "in",w]++(if l=0 then [] else [("within":Str),FP (.int l)]):=by
    unfold BZ
    rw [if_pos hb]
   rw [e]
   have t1:=P.tv (.str x) (by simp)
   have t2:=P.tv (.str y) (by simp)
   have t3:=P.tv (.str w) (by simp)
   have t4:=P.tv (.int l) (by simp)
   have t5:∀ v∈[V.str "begin",.str x,.str y,.str "in",.str w],TV v:=λv hv=>by
    simp only [K0,A1,or_false] at hv
    rcases hv with rfl | rfl | rfl | rfl | rfl
    ·exact st (by lk)
    ·exact t1
    ·exact t2
    ·exact st (by lk)
    ·exact t3
   by_cases e0:l=0
   ·rw [if_pos e0]
    exact ⟨_,t5,(show 5<=7 by kd_p),rfl⟩
   ·rw [if_neg e0]
    refine ⟨[V.str "begin",.str x,.str y,.str "in",.str w]++[.str "within",.int l],λv hv=>?_,by simp,rfl⟩
    rcases X0.mp hv with hv | hv
    ·exact t5 v hv
    ·exact tv2 (st (by lk)) t4 v hv
  ·exact absurd B.w (by rw [hb];lk)
 ·by_cases ht:z="try"
  ·refine ⟨[.str "try"],tv1 (st (by lk)),(show 1<=7 by kd_p),?_⟩
   unfold BZ
   rw [if_neg hb,if_pos ht]
   rfl
  ·have:=Y3 (λv=>!Gn v) r
   have:=I.len
   refine ⟨.str z::r.filter (λv=>!Gn v),λv hv=>?_,by rw [P0];lia,?_⟩
   ·rcases K0.mp hv with rfl | hv
    ·exact st (by lia)
    ·obtain ⟨h1,h2⟩:=Q4.mp hv
     rcases I.each v h1 with ⟨h,_⟩ | h
     ·rw [h] at h2;cases h2
     ·exact h
   ·unfold BZ
    rw [if_neg hb,if_neg ht]
    rfl
theorem IM {ws:List V} {d:Nat} (h:∀ x∈ws,TV x) (hl:ws.length<=7) (hd:d<=30):(DG (d,ws.map FP)).length<=487:=by
 have h1:=RW h hl
 have h2:=join_le " " (ws.map FP)
 show (EH d "  "++Txt.join " " (ws.map FP)).length<=487
 rw [BN,DE,show ("  ":Str).length=2 by lk]
 lia
theorem AX.turns {n:Nat} {H:Hp} {v:V} (h:AX (n+1) H v):∀ t∈CN H v,∃ ws:List V,(∀ x∈ws,TV x)/\ws.length<=7/\ws.map FP=t\/t=[("but":Str), ""]:=by
 intro t ht
 have st:∀ {z:Str},z.length<=60->TV (.str z):=λh=>.inr ⟨_,rfl,h⟩
 obtain ⟨a,z,ln,r,I⟩:=h.ri
 unfold CN at ht
 rw [I.zr] at ht
 split at ht
 ·rw [M0.mp ht]
  rw [W8]
  cases q:r[1]? with
  |none=>exact ⟨[],.inr rfl⟩
  |some x =>
   rcases I.each x (E1 q) with ⟨hr,b,_,rfl,_⟩ | hx
   ·exact ⟨[],.inr rfl⟩
   ·exact ⟨[.str "but",x],.inl ⟨tv2 (st (by lk)) hx,(show 2<=7 by kd_p),rfl⟩⟩
 ·split at ht
  ·rw [M0.mp ht]
   exact ⟨[.str "last"],.inl ⟨tv1 (st (by lk)),(show 1<=7 by kd_p),rfl⟩⟩
  ·split at ht
   ·cases ht
   ·rw [M0.mp ht]
    exact ⟨[.str "late"],.inl ⟨tv1 (st (by lk)),(show 1<=7 by kd_p),rfl⟩⟩
theorem Jv {p:Ln->Prop} {f:V->List Ln} {tn en:List Ln} (ht:∀ x∈tn,p x) (he:∀ x∈en,p x):∀ {r:List V} {w:Bool},(∀ x∈r,Gn x=true->∀ y∈f x,p y)->∀ y∈DV f tn en w r,p y
 |[],w,_,y,hy=>by
  cases w with
  |false=>cases hy
  |true=>exact he y hy
 |x::r,w,h,y,hy=>by
  cases e:Gn x with
  |false =>
   rw [FX e] at hy
   exact Jv ht he (λz hz=>h z (A0 _ hz)) y hy
  |true =>
   cases x with
   |ref a =>
    rw [Ed] at hy
    rcases X0.mp hy with hy | hy
    ·cases w with
     |false=>cases hy
     |true=>exact ht y hy
    rcases X0.mp hy with hy | hy
    ·exact h _ C0 rfl y hy
    ·exact Jv ht he (λz hz=>h z (A0 _ hz)) y hy
   |_=>cases e
theorem line_le:∀ {n:Nat} {H:Hp} {v:V} {d:Nat},BX n H v->d+n<=30->∀ x∈BF (n+1) H v d,(DG x).length<=487:=by
 intro n
 induction n with
 |zero =>
  intro H v d h _ x hx
  obtain ⟨b,ys,rfl,e2,e3⟩:=id h
  obtain ⟨y,hy,_⟩:=M3.mp (show x∈(CW H (.ref b)).flatMap _ from hx)
  rw [Cd e2] at hy
  exact (e3 y hy).elim
 |succ n ih =>
  intro H v d h hd x hx
  obtain ⟨b,ys,rfl,e2,e3⟩:=id h
  obtain ⟨y,hy,hx⟩:=M3.mp (show x∈(CW H (.ref b)).flatMap _ from hx)
  rw [Cd e2] at hy
  have hr:=e3 y hy
  rcases K0.mp hx with rfl | hx
  ·obtain ⟨ws,h1,h2,h3⟩:=hr.words
   rw [<- h3]
   exact IM h1 h2 (by lia)
  ·refine Jv (p:=λx=>(DG x).length<=487) (λx hx=>?_) (λx hx=>?_) (λp hp e z hz=>ih (hr.part_ok p hp e) (by lia) z hz) x hx
   ·obtain ⟨t,ht,rfl⟩:=D2.mp hx
    obtain ⟨ws,h | h⟩:=hr.turns t ht
    ·rw [<- h.2.2]
     exact IM h.1 h.2.1 (by lia)
    ·rw [h]
     exact IM (ws:=[.str "but",.str ""]) (tv2 (.inr ⟨_,rfl,by lk⟩) (.inr ⟨_,rfl,by lk⟩)) (show 2<=7 by kd_p) (by lia)
   ·rw [M0.mp hx]
    exact IM (ws:=[.str "end"]) (tv1 (.inr ⟨_,rfl,by lk⟩)) (show 1<=7 by kd_p) (by lia)
def Cq (H:Hp) (ps:List Addr) (ls:List Ln):Prop:=ps.length=ls.length/\∀ (i:Nat) (q:Addr) (x:Ln),ps[i]?=some q->ls[i]?=some x->x.2≠[]/\∃ w,H q=some (.tup [.int (x.1:Nat),.ref w])/\H w=some (.lst (x.2.map V.str))
theorem Cq.same {H H':Hp} {ps:List Addr} {ls:List Ln} (h:Cq H ps ls) (s:Ag H H'):Cq H' ps ls:=⟨h.1,λi q x a b=>by
 obtain ⟨e,w,h1,h2⟩:=h.2 i q x a b
 exact ⟨e,w,s _ _ h1,s _ _ h2⟩⟩
theorem Cq.updL {H:Hp} {ps qs:List Addr} {ls:List Ln} {lp:Addr} {o:HO} (h:Cq H ps ls) (hl:H lp=some (.lst (qs.map V.ref))):Cq (upd H lp o) ps ls:=⟨h.1,λi q x a b=>by
 obtain ⟨e,w,h1,h2⟩:=h.2 i q x a b
 refine ⟨e,w,by rw [Ap (ne_of h1 hl (λz=>nomatch z))];exact h1,?_⟩
 rw [Ap (λz=>?_)]
 ·exact h2
 ·rw [z,hl] at h2
  cases hx:x.2 with
  |nil=>exact e hx
  |cons y r =>
   rw [hx] at h2
   cases qs with
   |nil=>cases h2
   |cons q' qs=>cases h2⟩
theorem Cq.snoc {H:Hp} {ps:List Addr} {ls:List Ln} {q w:Addr} {x:Ln} (h:Cq H ps ls) (e:x.2≠[]) (h1:H q=some (.tup [.int (x.1:Nat),.ref w])) (h2:H w=some (.lst (x.2.map V.str))):Cq H (ps++[q]) (ls++[x]):=by
 refine ⟨by rw [B0,B0,h.1];rfl,λi q' x' a b=>?_⟩
 by_cases hi:i<ps.length
 ·rw [Z0 hi] at a
  rw [Z0 (by rw [<- h.1];exact hi)] at b
  exact h.2 i q' x' a b
 ·rw [C2 (by lia)] at a
  rw [C2 (by rw [<- h.1];lia),<- h.1] at b
  have hi':=(d0.mp a).1
  rw [U7] at hi'
  rw [show i-ps.length=0 by lia] at a b
  cases a
  cases b
  exact ⟨e,w,h1,h2⟩
theorem Cq.app {H:Hp} {ps qs:List Addr} {ls ms:List Ln} (h:Cq H ps ls) (g:Cq H qs ms):Cq H (ps++qs) (ls++ms):=by
 refine ⟨by rw [B0,B0,h.1,g.1],λi q x a b=>?_⟩
 by_cases hi:i<ps.length
 ·rw [Z0 hi] at a
  rw [Z0 (by rw [<- h.1];exact hi)] at b
  exact h.2 i q x a b
 ·rw [C2 (by lia)] at a
  rw [C2 (by rw [<- h.1];lia),<- h.1] at b
  exact g.2 _ q x a b
theorem AX.words_ne {n:Nat} {H:Hp} {v:V} (h:AX (n+1) H v):BG H v≠[]:=by
 obtain ⟨a,z,ln,r,I⟩:=h.ri
 rw [I.words]
 by_cases hb:z="begin"
 ·rcases I.sh with P | ⟨th,fa,bs,B⟩
  ·obtain ⟨x,y,w,l,rfl,_⟩:=P.b.1 hb
   unfold BZ
   rw [if_pos hb]
   simp
  ·exact absurd B.w (by rw [hb];lk)
 ·unfold BZ
  rw [if_neg hb]
  split<;>simp
def IH (n:Nat):Sp:=λvs H Q _=>∃ (v:V) (d:Nat),vs=[v,.int d]/\BX n H v/\(BF (n+1) H v d).length<=20000/\∀ (l:Addr) (ps:List Addr) (H':Hp),H l=none->H' l=some (.lst (ps.map V.ref))->Cq H' ps (BF (n+1) H v d)->Ag H H'->Q (.ref l) H'
def SB:Nat->Sp
 |0=>spNo
 |n+1=>IH n
theorem Va {H G1:Hp} {lp w p:Addr} {ps:List Addr} {Ls:List Ln} {d:Nat} {t:List Str} {R:VK} (hlp:H lp=none) (hG:G1 lp=some (.lst (ps.map V.ref))) (hA:Cq G1 ps Ls) (s:Ag H G1) (ht:t≠[]) (hw:G1 w=some (.lst (t.map V.str))) (hp:G1 p=none) (hl:Ls.length<=20000)
  (k:∀ H3,H3 lp=some (.lst ((ps++[p]).map V.ref))->Cq H3 (ps++[p]) (Ls++[(d,t)])->Ag H H3->Mp lp G1 H3->R .non H3):DT (.ref lp) [.ref p] (upd G1 p (.tup [.int d,.ref w])) R:=by
 have s1:=Ag.upd (o:=.tup [.int (d:Nat),.ref w]) hp
 have h1:=s1 _ _ hG
 have hz:sizeLine=16777216:=by kd_p
 have hpl:=hA.1
 have e:ps.map V.ref++[.ref p]=(ps++[p]).map V.ref:=by rw [o0];rfl
 refine ⟨lp,_,_,rfl,rfl,h1,by rw [L0];lia,?_⟩
 rw [e]
 refine k _ Ad (((hA.same s1).snoc (x:=(d,t)) ht Ad (s1 _ _ hw)).updL h1) (λc o h=>by rw [Ap (AY h hlp)];exact s1 _ _ (s _ _ h)) λc o n h=>by rw [Ap n];exact s1 _ _ h
theorem Qx {H G:Hp} {y:V} {m:Nat} {lp:Addr} {ps:List Addr} {Ls:List Ln} {d:Nat} {t:List Str} {R:VK} {E:XK} (hlp:H lp=none) (hG:G lp=some (.lst (ps.map V.ref))) (hA:Cq G ps Ls) (s:Ag H G) (hy:AX (m+1) H y) (h2:BL (El H y).1) (hT:CN H y=[t]) (ht:t≠[]) (hl:Ls.length<=20000)
  (k:∀ H3 p,H3 lp=some (.lst ((ps++[p]).map V.ref))->Cq H3 (ps++[p]) (Ls++[(d,t)])->Ag H H3->Mp lp G H3->R .non H3):FR [y] G (λx H1=>2<=sizeLine/\∀ p:Addr,H1 p=none->DT (.ref lp) [.ref p] (upd H1 p (.tup [.int d,x])) R) E:=by
 refine ⟨y,m,t,rfl,hy.same s,by rw [hy.z_same (AE s)];exact h2,by rw [hy.turn_same (AE s)];exact hT,λwl G1 hwl h1 s1=>⟨by kd_p,λp hp=>?_⟩⟩
 exact Va (d:=d) hlp (s1 _ _ hG) (hA.same s1) (s.trans s1) ht h1 hp hl λH3 e1 e2 e3 e4=>k H3 p e1 e2 e3 ((Mp.of s1).trans e4)
def RepL (F:Nat) (H:Hp) (us:List V) (ts:List Tr):Prop:=us.length=ts.length/\∀ (j:Nat) (u:V) (t:Tr),us[j]?=some u->ts[j]?=some t->RepT F H u t
theorem Mh {K:J0} {G:Hp} {a:Addr} {xs:List V} {R:VK} (h:G a=some (.lst xs)) (k:∀ G',Ag G G'->R (.bl (decide (xs=[]))) G'):0<=sizeLine/\∀ p,G p=none->Oy K false (.ref a) (.ref p) (upd G p (.lst [])) R:=by
 refine ⟨by kd_p,λp hp=>⟨a,p,_,[],0,λ_=>true,rfl,rfl,Aw.of ((Ag.upd hp) _ _ h),Aw.of Ad,by kd_p,(λi x y _ hy=>by cases hy),?_⟩⟩
 have e:(false^^(decide (xs.length=([]:List V).length)&&(K3 xs.length).all λ_=>true))=decide (xs=[]):=by
  cases xs with
  |nil=>rfl
  |cons z r=>simp
 rw [e]
 exact k _ (Ag.upd hp)
theorem DY {K:J0} {H:Hp} {a b:Addr} {xs ys:List V} {Q:VK} (ha:H a=some (.tup xs)) (hb:H b=some (.tup ys)) (hne:xs≠[]) (hl:xs.length+ys.length<=sizeLine) (k:∀ (p:Addr) (H':Hp),H' p=some (.tup (xs++ys))->Ag H H'->Q (.ref p) H'):Oz K (.ref a) (.ref b) H Q :=
 .inl ⟨a,b,xs,ys,rfl,rfl,Cn.of ha,Cn.of hb,hne,hl,λe=>k a H (by rw [e,L1];exact ha) (Ag.refl H),λ_ p hp=>k p _ Ad (Ag.upd hp)⟩
theorem NA:∀ zs:List Str,zs≠[]->(Txt.join " " zs).length+1=(zs.map (·.length)).sum+zs.length:=by
 intro zs
 show _->(Builtin.Str.glued _ _).length+1=_
 rw [StrLaws.glued_eq_join]
 induction zs with
 |nil=>intro h;exact absurd rfl h
 |cons c r ih =>
  intro _
  cases r with
  |nil=>show c.length+1=_;simp
  |cons d r =>
   have:=ih (by simp)
   show (c++" "++Str.join " " (d::r)).length+1=_
   rw [BN,BN,F1,L3,P0,show (" ":Str).length=1 by lk]
   lia
theorem turn_le (H:Hp) (v:V):(CN H v).length<=1:=by
 unfold CN
 split
 ·exact V0 _
 ·split
  ·exact V0 _
  ·split
   ·exact N1 _
   ·exact V0 _
theorem AX.parts_le {n:Nat} {H:Hp} {v:V} (h:AX (n+1) H v):(Cw H v).length<=2:=by
 obtain ⟨a,z,ln,r,I⟩:=h.ri
 rw [h.parts_eq,I.zr]
 rcases I.sh with P | ⟨th,fa,bs,B⟩
 ·rw [V3.mpr λx hx=>by rw [(P.tv x hx).notR];exact Q0]
  exact N1 _
 ·show (r.filter Gn).length<=2
  rw [FV B,L0]
  by_cases h2:BL z
  ·exact M7 (B.two h2)
  ·have:=B.one h2
   lia
theorem lns_le {f:V->List Ln} {g:V->List V} {tn en:List Ln} (ht:tn.length<=1) (he:en.length<=1):∀ {ps:List V},ps.length<=2->(∀ p∈ps,∃ a,p=V.ref a)->(∀ p∈ps,(f p).length<=3*(g p).length)->(DV f tn en false ps).length<=2+3*(ps.flatMap g).length
 |[],_,_,_=>N1 _
 |[p],_,hr,h=>by
  obtain ⟨a,rfl⟩:=hr p C0
  have h1:=h _ C0
  show ((if false=true then tn else [])++(f (.ref a)++en)).length<=2+3*(g (.ref a)++[]).length
  rw [if_neg (by kd_p),D5,B0,L1]
  lia
 |[p,q],_,hr,h=>by
  obtain ⟨a,rfl⟩:=hr p C0
  obtain ⟨b,rfl⟩:=hr q (A0 _ C0)
  have h1:=h _ C0
  have h2:=h _ (A0 _ C0)
  show ((if false=true then tn else [])++(f (.ref a)++(tn++(f (.ref b)++en)))).length<=2+3*(g (.ref a)++(g (.ref b)++[])).length
  rw [if_neg (by kd_p),D5,L1]
  simp only [B0]
  lia
 |_::_::_::_,h,_,_=>by simp at h
theorem Md {α β γ:Type} {f:α->List β} {g:α->List γ} {c:Nat}:∀ {xs:List α},(∀ x∈xs,(f x).length<=c*(g x).length)->(xs.flatMap f).length<=c*(xs.flatMap g).length
 |[],_=>N1 _
 |x::r,h=>by
  rw [V2,V2,B0,B0,Nat.mul_add]
  have:=h x C0
  have:=Md (xs:=r) λy hy=>h y (A0 _ hy)
  lia
theorem OY:∀ {n:Nat} {H:Hp} {v:V} {d:Nat},BX n H v->(BF (n+1) H v d).length<=3*(Fv (n+1) H v).length:=by
 intro n
 induction n with
 |zero =>
  intro H v d h
  obtain ⟨b,ys,rfl,e2,e3⟩:=id h
  rw [DB e2]
  show ((CW H _).flatMap _).length<=_
  rw [Cd e2]
  exact Md λy hy=>(e3 y hy).elim
 |succ n ih =>
  intro H v d h
  obtain ⟨b,ys,rfl,e2,e3⟩:=id h
  rw [DB e2]
  show ((CW H _).flatMap _).length<=_
  rw [Cd e2]
  refine Md λy hy=>?_
  have hr:=e3 y hy
  have eRow:DN (BF (n+1) H) H y d=(d,BG H y)::DV (λp=>BF (n+1) H p (d+1)) ((CN H y).map λws=>(d,ws)) [(d,["end"])] false (Cw H y):=by
   rw [hr.parts_eq,Eu]
   rfl
  have:=lns_le (f:=λp=>BF (n+1) H p (d+1)) (g:=Fv (n+1) H) (tn:=(CN H y).map λws=>(d,ws)) (en:=[(d,["end"])]) (by rw [L0];exact turn_le H y) (V0 _) hr.parts_le hr.partsRef λp hp=>ih (hr.parts_ok p hp)
  rw [eRow,P0,P0]
  lia
theorem NK {α β:Type} {g:α->List β} {c:Nat}:∀ {xs:List α},(∀ x∈xs,(g x).length<=c)->(xs.flatMap g).length<=xs.length*c
 |[],_=>N1 _
 |x::r,h=>by
  rw [V2,B0,P0,i6]
  have:=h x C0
  have:=NK (xs:=r) λy hy=>h y (A0 _ hy)
  lia
theorem prog_ok {H:Hp} {p:Addr} {es:List V} (h:H p=some (.tup es)) (he:∀ e∈es,Gz 22 100 H e) (hl:es.length<=64):BX 23 H (.ref p)/\(BF 24 H (.ref p) 0).length<=20000:=by
 have hv:BX 23 H (.ref p):=⟨p,es,rfl,h,λy hy=>(he y hy).1⟩
 refine ⟨hv,?_⟩
 have h1:=OY (d:=0) hv
 rw [DB h] at h1
 have h2:=NK (g:=λy=>y::(Cw H y).flatMap (Fv 23 H)) (c:=101) (xs:=es) λy hy=>(he y hy).2.1
 have h3:es.length*101<=64*101:=U6 _ hl
 exact T0 h1 (by lia)

def Pc (c:Nat):Bool:=decide (97<=c)&&decide (c<=122)
def DQ (z:Str):Bool:=decide (1<=z.length)&&decide (z.length<=8)&&z.cps.toList.all Pc
def Ay (z:Str):Bool:=DQ z&&!(FN.any λy=>y == z)
def Cb (z:Str):Bool:=Txt.startswith z ":"&&DQ (CG z (some 1) none)
def Kz:V->Bool
 |.str z=>Ay z
 |_=>false
def HM:V->Bool
 |.str z=>Ay z||Cb z
 |.int i=>decide (0<=i)&&decide (i<=999999)
 |_=>false
def LW (c:Nat):Bool:=decide (48<=c)&&decide (c<=57)
def Go (z:Str):Bool:=decide (1<=z.length)&&decide (z.length<=6)&&z.cps.toList.all LW
def GJ (z:Str):Option Int:=if Go z=true then (if Txt.startswith z "0"=true/\z≠"0" then none else some ((i8 z.cps.toList:Nat):Int)) else none
def Fi (z:Str) (lo hi:Int):V:=match GJ z with
 |some n=>if lo<=n/\n<=hi then .int n else .non
 |none=>.non
def CP (z:Str):V:=match GJ z with
 |some n=>if HM (.int n)=true then .int n else .non
 |none=>if HM (.str z)=true then .str z else .non
def Bb (slot z:Str):V:=if slot="N" then Fi z 1 99 else if slot="ROUNDS" then Fi z 1 9 else if slot="VALUE" then CP z else if slot="NAME" then (if Ay z=true then .str z else .non) else if z=slot then .str z else .non
def CF (slots ws:List Str):Option (List V):=if slots.length=ws.length then (if CA .non (N2 Bb slots ws)=true then none else some (N2 Bb slots ws)) else none
def Bg:List (List Str)->List Str->Option (List V)
 |[],_=>none
 |f::r,ws=>match CF f ws with
  |some x=>some x
  |none=>Bg r ws
def SL:List (List Str):=[["errand", "NAME"],["wait", "N"],["hear", "NAME"],["ring", "NAME"],["send", "NAME", "VALUE"],["take", "NAME", "NAME"],["let", "NAME", "VALUE"],["raise", "NAME"],["begin", "NAME", "NAME", "in", "NAME"],["begin", "NAME", "NAME", "in", "NAME", "within", "N"],["ask", "NAME", "NAME"],["off", "NAME"],["give", "VALUE"],["group", "NAME"],["limit", "N"],["late"],["keep"],["try"],["but", "NAME"],["but", "any"],["do"],["last"],["when", "NAME", "VALUE"],["repeat", "ROUNDS"],["end"]]
theorem NI:FORMS.map (λf=>Txt.split f ⟨#[32]⟩)=SL:=by lk
def Ep (s:Str):Bool:=s == "N"||s == "ROUNDS"||s == "VALUE"||s == "NAME"
def skipB (z:Str) (n:Nat) (slots:List Str):Bool:=slots.length != n||(match slots with
 |[]=>false
 |s::_=>!Ep s&&s != z)
theorem Uv {z:Str} {slots r:List Str} (h:skipB z (r.length+1) slots=true):CF slots (z::r)=none:=by
 unfold CF
 unfold skipB at h
 by_cases e:slots.length=(z::r).length
 ·rw [if_pos e]
  cases slots with
  |nil=>cases e
  |cons s t =>
   rw [P0] at e
   have e':(s::t).length=r.length+1:=e
   rw [e'] at h
   simp only [bne_self_eq_false,C7,C1,K6,Ep,T9,beq_eq_false_iff_ne,bne_iff_ne,ne_eq] at h
   obtain ⟨⟨⟨⟨h1,h2⟩,h3⟩,h4⟩,h5⟩:=h
   rw [Y4]
   have f:Bb s z=.non:=by
    unfold Bb
    rw [if_neg h1,if_neg h2,if_neg h3,if_neg h4,if_neg (λq=>h5 q.symm)]
   rw [f]
   exact if_pos rfl
 ·rw [if_neg e]
theorem JH {z:Str} (h:1<=z.length):∃ c r,z.cps.toList=c::r:=by
 rw [Bp] at h
 cases e:z.cps.toList with
 |nil=>rw [e] at h;exact absurd h (by kd_p)
 |cons c r=>exact ⟨c,r,rfl⟩
theorem Qf {z:Str} {c:Nat} (h:c∈z.cps.toList) (hc:¬ (48<=c/\c<=57)):GJ z=none:=by
 unfold GJ
 rw [if_neg]
 intro e
 unfold Go at e
 rw [C1,W2] at e
 have:=e.2 c h
 unfold LW at this
 rw [C1,decide_eq_true_eq,decide_eq_true_eq] at this
 exact hc this
theorem starts1 (a c:Nat) (r:List Nat):Txt.startswith ⟨⟨a::r⟩⟩ ⟨#[c]⟩=decide (a=c):=by
 unfold Txt.startswith Builtin.Str.subAt
 have e1:(⟨⟨a::r⟩⟩:Str).length=r.length+1:=rfl
 have e3:(⟨#[c]⟩:Str).length=1:=rfl
 rw [e1,e3]
 have e5:(⟨a::r⟩:Array Nat).extract 0 (0+1)=#[a]:=by simp
 rw [e5]
 by_cases h:a=c
 ·subst h;simp
 ·simp [h]
theorem Hw {z:Str} {a c:Nat} {r:List Nat} (h:z.cps.toList=a::r):Txt.startswith z ⟨#[c]⟩=decide (a=c):=by
 obtain ⟨⟨l⟩⟩:=z
 cases h
 exact starts1 a c r
theorem Hm {s:Str} (h:Ep s=false):Bb s s=.str s:=by
 simp only [Ep,T9,beq_eq_false_iff_ne,ne_eq] at h
 unfold Bb
 rw [if_neg h.1.1.1,if_neg h.1.1.2,if_neg h.1.2,if_neg h.2,if_pos rfl]
def CD (fs:List V):List V:=(fs.tail.filter λv=>!CA v [.str "in",.str "within"])++(if fs.head?=some (.str "begin")/\CA (.str "within") fs=false then [.int 0] else [])
def MU (fs:List V) (n:Int):List V:=fs.headD .non::.int n::CD fs
def RL (v:V):Prop:=CA v [.str "in",.str "within"]=false
theorem Nq {z:Str} (h1:z≠"in") (h2:z≠"within"):RL (.str z):=by
 show (Em _ _||(Em _ _||false))=false
 rw [Da,Da,decide_eq_false h1,decide_eq_false h2]
 rfl
theorem TX {z:Str} {r:List V} (hz:z≠"begin") (h:∀ v∈r,RL v):CD (.str z::r)=r:=by
 unfold CD
 rw [if_neg (λe=>hz (by cases e.1;rfl)),L1]
 exact d6.mpr λv hv=>by rw [show CA v [.str "in",.str "within"]=false from h v hv];rfl
set_option genInjectivity false in
structure Fq where
 hd:List V
 rs:List Tr
 tn:Bool
 tf:List V
 os:List Tr
set_option genInjectivity false in
structure St where
 pg:List Tr
 un:List Fq
abbrev BJ (w:Str):Prop:=w="late"\/w="but"\/w="last"
abbrev Fj (z:Str):Prop:=z="group"\/z="limit"\/z="keep"\/z="try"\/z="do"\/z="when"\/z="repeat"
def BQ (z:Str):Str:=if z="limit" then "late" else if z="try" then "but" else if z="do" then "last" else ""
def Fq.wd (F:Fq):Str:=match F.hd with
 |.str z::_=>z
 |_=>""
def Fq.put (F:Fq) (t:Tr):Fq:=if F.tn=true then { F with os:=F.os++[t] } else { F with rs:=F.rs++[t] }
def Fq.mayTurn (F:Fq) (w:Str):Bool:=!F.tn&&decide (BL F.wd/\BQ F.wd=w)
def Fq.mayEnd (F:Fq):Bool:=if F.wd="limit" then !F.tn||!F.os.isEmpty else F.tn||!decide (BL F.wd)
def Fq.whole (F:Fq):Tr:=.t (F.hd.map RN++[.t F.rs]++(if BL F.wd then F.tf.map RN++[.t F.os] else []))
def Be (s:St) (w:Str):Bool:=match s.un.getLast? with
 |none=>decide (w="errand")
 |some F=>if w="end" then F.mayEnd else if BJ w then F.mayTurn w else if Fj w then decide (s.un.length<=20) else decide (w≠"errand")
def TC (f:Fq->Fq) (s:St):St:=match s.un.getLast? with
 |none=>s
 |some F=>⟨s.pg,s.un.dropLast++[f F]⟩
def NO (s:St):St:=match s.un.getLast? with
 |none=>s
 |some F=>match s.un.dropLast.getLast? with
  |none=>⟨s.pg++[F.whole],s.un.dropLast⟩
  |some G=>⟨s.pg,s.un.dropLast.dropLast++[G.put F.whole]⟩
def EY (s:St) (w:Str) (fs:List V) (n:Int):St :=
 if w="end" then NO s else if BJ w then TC (λF=>{ F with tn:=true,tf:=fs.tail }) s else if w="errand"\/Fj w then ⟨s.pg,s.un++[⟨MU fs n,[],false,[],[]⟩]⟩ else TC (λF=>F.put (.t ((MU fs n).map RN))) s
def step (s:St) (n:Int) (ws:List Str):Option St:=match Bg SL ws with
 |none=>none
 |some fs=>match fs.head? with
  |some (.str w)=>if Be s w=true then some (EY s w fs n) else none
  |_=>none
def run (pf:Nat->Int):Nat->List Ln->St->Option St
 |_,[],s=>some s
 |k,l::r,s=>match step s (pf k) l.2 with
  |none=>none
  |some s'=>run pf (k+1) r s'
theorem HQ (S:List Fq) (F:Fq):(S++[F]).getLast?=some F:=List.getLast?_concat
theorem Dg {f:Fq->Fq} {pg:List Tr} {S:List Fq} {F:Fq}:TC f ⟨pg,S++[F]⟩=⟨pg,S++[f F]⟩:=by
 unfold TC
 simp only [HQ,M4]
theorem Ho {pg:List Tr} {S:List Fq} {F G:Fq}:NO ⟨pg,S++[G]++[F]⟩=⟨pg,S++[G.put F.whole]⟩:=by
 unfold NO
 simp only [HQ,M4]
theorem JJ {pg:List Tr} {F:Fq}:NO ⟨pg,[F]⟩=⟨pg++[F.whole],[]⟩:=rfl
theorem BV {pg:List Tr} {S:List Fq} {F:Fq} {w:Str}:Be ⟨pg,S++[F]⟩ w=(if w="end" then F.mayEnd else if BJ w then F.mayTurn w else if Fj w then decide (S.length+1<=20) else decide (w≠"errand")):=by
 unfold Be
 simp only [HQ,B0,P0,K1,Nat.zero_add]
theorem KG {f:V->List Ln} {tn en:List Ln} {w:Bool}:∀ {th r:List V},(∀ t∈th,Gn t=false)->DV f tn en w (th++r)=DV f tn en w r
 |[],_,_=>rfl
 |x::th,r,h=>by
  rw [T6,FX (h x C0)]
  exact KG λt ht=>h t (A0 _ ht)
theorem GN {n:Nat} {H:Hp} {v:V} {d:Nat}:BF (n+1) H v d=(CW H v).flatMap λy=>DN (BF n H) H y d:=rfl
def Co (l:Str):List Str:=(Txt.split l ⟨#[32]⟩).filter λw=>w != ""
def readL:Nat->List Str->St->Option St
 |_,[],s=>some s
 |i,l::r,s=>if Co l=[] then readL (i+1) r s else match step s i (Co l) with
  |none=>none
  |some s'=>readL (i+1) r s'
theorem IZ (z:Str) (c:Nat):Txt.split z ⟨#[c]⟩≠[]:=λe=>by
 have:=PyProof.Rows.split_pos z ⟨#[c]⟩
 rw [e] at this
 exact absurd this (by kd_p)
structure Di (w:Str):Prop where
 ne:w≠""
 nb:(32:Nat)∉w.cps.toList
 nl:(10:Nat)∉w.cps.toList
 le:w.length<=10
 asc:∀ c∈w.cps.toList,c<128
inductive Kd where
 |une | rdg
inductive Fl where
 |head | rows | turned | tfl | others | prog | unended
deriving DecidableEq
def Fl.kd:Fl->Kd
 |.prog=>.rdg | .unended=>.rdg | _=>.une
def Fl.name:Fl->Str
 |.head=>"head" | .rows=>"rows" | .turned=>"turned" | .tfl=>"turn_fields" | .others=>"others" | .prog=>"program" | .unended=>"unended"
def Fl.ix:Fl->Fin 7
 |.head=>0 | .rows=>1 | .turned=>2 | .tfl=>3 | .others=>4 | .prog=>5 | .unended=>6
def FLS:List Fl:=[.head,.rows,.turned,.tfl,.others,.prog,.unended]
theorem fls_nd:(FLS.map Fl.name).Nodup:=by lk
theorem Mc (l:Fl):FLS[l.ix.val]?=some l:=by cases l<;>rfl
theorem Tw (a b:Fl) (h:a.name=b.name):a=b:=by
 have ha:=Mc a
 have hb:=Mc b
 have e1:(FLS.map Fl.name)[a.ix.val]?=some a.name:=by rw [Z1,ha];rfl
 have e2:(FLS.map Fl.name)[b.ix.val]?=some a.name:=by rw [Z1,hb,h];rfl
 have l1:=(d0.mp e1).1
 have e:=(List.getElem?_inj l1 fls_nd).mp (e1.trans e2.symm)
 rw [e] at ha
 exact Option.some.inj (ha.symm.trans hb)
def Tx.C (T:Tx P w K mg):Kd->Addr
 |.une=>T.C_Unended
 |.rdg=>T.C_Reading
theorem Tx.cl (T:Tx P w K mg) (c:Kd):Ob K (T.C c):=by
 cases c
 ·exact T.k_Unended
 ·exact T.k_Reading
theorem Tx.na (T:Tx P w K mg) (l:Fl):CS K (T.C l.kd) l.name:=match l with
 |.head=>T.n_Unended_head | .rows=>T.n_Unended_rows | .turned=>T.n_Unended_turned | .tfl=>T.n_Unended_turn_fields | .others=>T.n_Unended_others | .prog=>T.n_Reading_program | .unended=>T.n_Reading_unended
def QR (g:Fl->Option V) (l:Fl) (v:V):Fl->Option V:=λx=>if x=l then some v else g x
structure CH (T:Tx P w K mg) (n:Nat) (c:Kd) (H:Hp) (p:Addr) (g:Fl->Option V):Prop where
 ex:∃ dx fs,H p=some (.ins (T.C c) dx fs)/\fs.length<=n/\(∀ l:Fl,fs.lookup l.name=g l)/\∀ m:Str,(∀ l:Fl,l.name≠m)->fs.lookup m=none
theorem CH.same {T:Tx P w K mg} {n:Nat} {c:Kd} {H H':Hp} {p:Addr} {g:Fl->Option V} (F:CH T n c H p g) (s:Ag H H'):CH T n c H' p g:=by
 obtain ⟨dx,fs,h1,h2⟩:=F.ex
 exact ⟨dx,fs,s _ _ h1,h2⟩
theorem CH.at' {T:Tx P w K mg} {n:Nat} {c:Kd} {H H':Hp} {p:Addr} {g:Fl->Option V} (F:CH T n c H p g) (s:∀ o,H p=some o->H' p=some o):CH T n c H' p g:=by
 obtain ⟨dx,fs,h1,h2⟩:=F.ex
 exact ⟨dx,fs,s _ h1,h2⟩
theorem CH.new {T:Tx P w K mg} {c:Kd} {H:Hp} {p dx:Addr} (h:H p=some (.ins (T.C c) dx [])):CH T 0 c H p (λ_=>none):=⟨dx,[],h,V0 _,λ_=>rfl,λ_ _=>rfl⟩
theorem CH.fld {T:Tx P w K mg} {n:Nat} {c:Kd} {H:Hp} {p:Addr} {g:Fl->Option V} (F:CH T n c H p g) (l:Fl) {z:Str} {v:V} {R:V->Prop} (e:g l=some v) (k:R v) (hz:l.name=z:=by rfl) (hc:l.kd=c:=by rfl):∃ C dx fs,H p=some (.ins C dx fs)/\Ob K C/\CS K C z/\∃ v,fs.lookup z=some v/\R v:=by
 subst hz
 obtain ⟨dx,fs,h1,_,h3,_⟩:=F.ex
 exact ⟨_,dx,fs,h1,T.cl c,by rw [<- hc];exact T.na l,v,(h3 l).trans e,k⟩
theorem Hh {f:Str} {v:V}:∀ {fs:List (Str×V)},fs.lookup f≠none->(Cz f v fs).length=fs.length
 |[],h=>absurd rfl h
 | (g,x)::r,h=>by
  show (if g=f then (g,v)::r else (g,x)::Cz f v r).length=_
  by_cases e:g=f
  ·rw [if_pos e];rfl
  ·rw [if_neg e]
   show (Cz f v r).length+1=r.length+1
   rw [Hh]
   intro z
   apply h
   rw [Z2]
   have:(f == g)=false:=by simp [Ne.symm e]
   rw [this];exact z
theorem CH.put {T:Tx P w K mg} {n:Nat} {c:Kd} {H:Hp} {p:Addr} {g:Fl->Option V} (F:CH T n c H p g) (l:Fl) (v:V):∃ dx fs,H p=some (.ins (T.C c) dx fs)/\fs.length<=n /\
  CH T (n+1) c (upd H p (.ins (T.C c) dx (Cz l.name v fs))) p (QR g l v)/\(g l≠none->CH T n c (upd H p (.ins (T.C c) dx (Cz l.name v fs))) p (QR g l v)):=by
 obtain ⟨dx,fs,h1,h2,h3,h4⟩:=F.ex
 have q1:∀ x:Fl,(Cz l.name v fs).lookup x.name=QR g l v x:=λx=>by
  rw [DF]
  unfold QR
  by_cases e:x=l
  ·rw [if_pos (by rw [e]),if_pos e]
  ·rw [if_neg (λz=>e (Tw _ _ z)),if_neg e,h3]
 have q2:∀ m:Str,(∀ l:Fl,l.name≠m)->(Cz l.name v fs).lookup m=none:=λm hm=>by
  rw [DF,if_neg (Ne.symm (hm l)),h4 m hm]
 refine ⟨dx,fs,h1,h2,⟨dx,_,Ad,?_,q1,q2⟩,λhg=>⟨dx,_,Ad,?_,q1,q2⟩⟩
 ·have:=FH l.name v fs;lia
 ·rw [Hh (by rw [h3];exact hg)];exact h2
theorem nofl {z:Str} (h:(FLS.map Fl.name).contains z=false) (l:Fl):l.name≠z:=λe=>by
 have m:l.name∈FLS.map Fl.name:=D2.mpr ⟨l,E1 (Mc l),rfl⟩
 rw [e] at m
 rw [S9,decide_eq_true m] at h
 cases h
theorem CH.call {T:Tx P w K mg} {n:Nat} {c:Kd} {H:Hp} {p:Addr} {g:Fl->Option V} (F:CH T n c H p g) {z:Str} {A:Prop} (k:A) (h:(FLS.map Fl.name).contains z=false:=by lk):∃ x y,H p=some (.ins (T.C c) x y)/\y.lookup z=none/\A:=by
 obtain ⟨dx,fs,h1,_,_,h4⟩:=F.ex
 exact ⟨dx,fs,h1,h4 z (nofl h),k⟩
inductive ET (H:Hp):V->Tr->Prop
 |i (n:Int):ET H (.int n) (.i n)
 |s (z:Str):ET H (.str z) (.s z)
 |t {a:Addr} {xs:List V} {ts:List Tr}:H a=some (.tup xs)->xs.length=ts.length->(∀ (i:Nat) (x:V) (t:Tr),xs[i]?=some x->ts[i]?=some t->ET H x t)->ET H (.ref a) (.t ts)
theorem ET.sameT {H H':Hp} {v:V} {t:Tr} (r:ET H v t) (s:Bq H H'):ET H' v t:=by
 induction r with
 |i n=>exact .i n
 |s z=>exact .s z
 |t h l _ ih=>exact .t (s _ _ h) l ih
def By (H:Hp) (xs:List V) (ts:List Tr):Prop:=xs.length=ts.length/\∀ (i:Nat) (x:V) (t:Tr),xs[i]?=some x->ts[i]?=some t->ET H x t
theorem By.sameT {H H':Hp} {xs:List V} {ts:List Tr} (r:By H xs ts) (s:Bq H H'):By H' xs ts:=⟨r.1,λi x t hx ht=>(r.2 i x t hx ht).sameT s⟩
theorem By.nil (H:Hp):By H [] []:=⟨rfl,λ_ _ _ h=>nomatch h⟩
theorem By.snoc {H:Hp} {xs:List V} {ts:List Tr} {x:V} {t:Tr} (r:By H xs ts) (h:ET H x t):By H (xs++[x]) (ts++[t]):=by
 refine ⟨by rw [B0,B0,r.1];rfl,λi y u hy hu=>?_⟩
 rcases Cp hy with ⟨lt,hy⟩ | ⟨ei,ey⟩
 ·have lt2:i<ts.length:=by rw [<- r.1];exact lt
  rw [Z0 lt2] at hu
  exact r.2 i y u hy hu
 ·rw [ei,r.1,Ba] at hu
  cases hu
  rw [ey]
  exact h
def Ch:V->Bool
 |.int _=>true
 |.str _=>true
 |_=>false
theorem SR {H:Hp} {v:V} (h:Ch v=true):ET H v (RN v):=by
 cases v with
 |int n=>exact .i n
 |str z=>exact .s z
 |_=>cases h
theorem By.flat {H:Hp} {xs:List V} (h:∀ v∈xs,Ch v=true):By H xs (xs.map RN):=by
 refine ⟨by rw [L0],λi x t hx ht=>?_⟩
 rw [Z1,hx] at ht
 cases ht
 exact SR (h x (E1 hx))
theorem By.app {H:Hp} {xs ys:List V} {ts us:List Tr} (r:By H xs ts) (q:By H ys us):By H (xs++ys) (ts++us):=by
 refine ⟨by rw [B0,B0,r.1,q.1],λi x t hx ht=>?_⟩
 by_cases lt:i<xs.length
 ·rw [Z0 lt] at hx
  rw [Z0 (by rw [<- r.1];exact lt)] at ht
  exact r.2 i x t hx ht
 ·rw [C2 (by lia)] at hx
  rw [C2 (by rw [<- r.1];lia),<- r.1] at ht
  exact q.2 _ x t hx ht
theorem By.one {H:Hp} {x:V} {t:Tr} (h:ET H x t):By H [x] [t]:=(By.nil H).snoc h
theorem ET.tup {H:Hp} {a:Addr} {xs:List V} {ts:List Tr} (h:H a=some (.tup xs)) (r:By H xs ts):ET H (.ref a) (.t ts):=.t h r.1 r.2
theorem LQ (a b:Nat):([a] < [b])↔a<b:=by
 constructor
 ·intro h
  cases h with
  |rel h=>exact h
  |cons h=>cases h
 ·intro h;exact List.Lex.rel h
theorem RE (c:Nat):(if (!decide ((⟨#[c]⟩:Str).cps.toList<("a":Str).cps.toList))=true then (!decide (("z":Str).cps.toList<(⟨#[c]⟩:Str).cps.toList)) else false)=Pc c:=by
 have ea:("a":Str).cps.toList=[97]:=by lk
 have ez:("z":Str).cps.toList=[122]:=by lk
 have ec:(⟨#[c]⟩:Str).cps.toList=[c]:=rfl
 rw [ea,ez,ec]
 have h1:=LQ c 97
 have h2:=LQ 122 c
 unfold Pc
 by_cases a:c<97<;>by_cases b:122<c<;>simp [h1,h2,a,b]<;>lia
theorem RF (c:Nat):(if (!decide ((⟨#[c]⟩:Str).cps.toList<("0":Str).cps.toList))=true then (!decide (("9":Str).cps.toList<(⟨#[c]⟩:Str).cps.toList)) else false)=LW c:=by
 have ea:("0":Str).cps.toList=[48]:=by lk
 have ez:("9":Str).cps.toList=[57]:=by lk
 have ec:(⟨#[c]⟩:Str).cps.toList=[c]:=rfl
 rw [ea,ez,ec]
 have h1:=LQ c 48
 have h2:=LQ 57 c
 unfold LW
 by_cases a:c<48<;>by_cases b:57<c<;>simp [h1,h2,a,b]<;>lia
inductive Th (H:Hp):V->Prop
 |str (z:Str):z.length<=6000->Th H (.str z)
 |int (i:Int):Th H (.int i)
 |bl (b:Bool):Th H (.bl b)
 |non:Th H .non
 |lst {a:Addr} {xs:List V}:H a=some (.lst xs)->Th H (.ref a)
 |tup {a:Addr} {xs:List V}:H a=some (.tup xs)->Th H (.ref a)
 |dic {a:Addr} {kvs:List (Cr×V)}:H a=some (.dK kvs)->Th H (.ref a)
theorem Th.same {H H':Hp} {v:V} (t:Th H v) (s:Ag H H'):Th H' v:=by
 cases t with
 |str z h=>exact .str z h
 |int i=>exact .int i
 |bl b=>exact .bl b
 |non=>exact .non
 |lst h=>exact .lst (s _ _ h)
 |tup h=>exact .tup (s _ _ h)
 |dic h=>exact .dic (s _ _ h)
def isS:V->Bool
 |.str _=>true
 |_=>false
def isB:V->Bool
 |.bl _=>true
 |_=>false
def isI:V->Bool
 |.int _=>true
 |.bl _=>true
 |_=>false
theorem Th.ty {K:J0} {H:Hp} {v:V} (t:Th H v):∃ u,FM K H v u/\W1 K u (.type "str")=some (isS v)/\W1 K u (.type "bool")=some (isB v)/\W1 K u (.type "int")=some (isI v):=by
 cases t with
 |str z h=>exact ⟨_,.str z,rfl,rfl,rfl⟩
 |int i=>exact ⟨_,.int i,rfl,rfl,rfl⟩
 |bl b=>exact ⟨_,.bl b,rfl,rfl,rfl⟩
 |non=>exact ⟨_,.non,rfl,rfl,rfl⟩
 |lst h=>exact ⟨_,.lst h,rfl,rfl,rfl⟩
 |tup h=>exact ⟨_,.tup h,rfl,rfl,rfl⟩
 |dic h=>exact ⟨_,.dK h,rfl,rfl,rfl⟩
theorem Tz (z:Str):CA (V.str z) (FN.map V.str)=FN.any λy=>y == z:=by
 unfold CA
 rw [List.any_map]
 rfl
def Hz:Sp:=λvs H Q _=>∃ z:Str,vs=[.str z]/\z.length<=6000/\∀ H',Ag H H'->Q (.bl (DQ z)) H'
def Lr:Sp:=λvs H Q _=>∃ v:V,vs=[v]/\Th H v/\∀ H',Ag H H'->Q (.bl (Kz v)) H'
def On:Sp:=λvs H Q _=>∃ z:Str,vs=[.str z]/\z.length<=6000/\∀ H',Ag H H'->Q (.bl (Cb z)) H'
def spVal:Sp:=λvs H Q _=>∃ v:V,vs=[v]/\Th H v/\∀ H',Ag H H'->Q (.bl (HM v)) H'
def Jg:Sp:=λvs H Q _=>∃ z:Str,vs=[.str z]/\Q (.bl (decide (z∈PPW))) H
def oN:Option Int->V
 |some n=>.int n
 |none=>.non
def Je:Sp:=λvs H Q _=>∃ z:Str,vs=[.str z]/\z.length<=6000/\∀ H',Ag H H'->Q (oN (GJ z)) H'
def Kr:Sp:=λvs H Q _=>∃ (z:Str) (lo hi:Int),vs=[.str z,.int lo,.int hi]/\z.length<=6000/\∀ H',Ag H H'->Q (Fi z lo hi) H'
def Kl:Sp:=λvs H Q _=>∃ z:Str,vs=[.str z]/\z.length<=6000/\∀ H',Ag H H'->Q (CP z) H'
def Kp:Sp:=λvs H Q _=>∃ y z:Str,vs=[.str y,.str z]/\y.length<=6000/\z.length<=6000/\∀ H',Ag H H'->Q (Bb y z) H'
def WsOk (ws:List Str):Prop:=ws.length<=6000/\∀ w∈ws,w.length<=6000
def MN (f:Addr):Sp:=λvs H Q _=>∃ (a b:Addr) (slots ws:List Str),vs=[.ref a,.ref b,.ref f]/\H a=some (.lst (slots.map V.str))/\H b=some (.lst (ws.map V.str))/\WsOk slots/\WsOk ws /\
 (CF slots ws=none->∀ H',Ag H H'->Q .non H')/\∀ x,CF slots ws=some x->∀ (l:Addr) (H':Hp),H l=none->H' l=some (.lst x)->Ag H H'->Q (.ref l) H'
def PP (T:Tx P w K mg):Sp:=λvs H Q _=>∃ (b:Addr) (ws:List Str),vs=[.ref T.fma,.ref b,.ref T.d_field_of.f]/\H b=some (.lst (ws.map V.str))/\WsOk ws /\
 (Bg SL ws=none->∀ H',Ag H H'->Q .non H')/\∀ x,Bg SL ws=some x->∀ (l:Addr) (H':Hp),H l=none->H' l=some (.lst x)->Ag H H'->Q (.ref l) H'
def QD (fs:List V):Prop:=(∃ w r,fs=.str w::r)/\fs.length<=10/\∀ v∈fs,Ch v=true
def Lp:Sp:=λvs H Q _=>∃ (l:Addr) (fs:List V) (n:Int),vs=[.ref l,.int n]/\H l=some (.lst fs)/\QD fs/\∀ (a:Addr) (H':Hp),H' a=some (.tup (MU fs n))->Ag H H'->Q (.ref a) H'
set_option genInjectivity false in
structure Ub where
 p:Addr
 h:Addr
 r:Addr
 t:Addr
 o:Addr
def Ub.own (b:Ub):List Addr:=[b.p,b.r,b.o]
def gU (b:Ub) (tn:Bool):Fl->Option V
 |.head=>some (.ref b.h) | .rows=>some (.ref b.r) | .turned=>some (.bl tn) | .tfl=>some (.ref b.t) | .others=>some (.ref b.o) | _=>none
def gR (pa ua:Addr):Fl->Option V
 |.prog=>some (.ref pa) | .unended=>some (.ref ua) | _=>none
structure JP (T:Tx P w K mg) (H:Hp) (b:Ub) (F:Fq):Prop where
 ob:CH T 5 .une H b.p (gU b F.tn)
 hd:H b.h=some (.tup F.hd)
 hz:∃ z n r,F.hd=.str z::.int n::r/\r.length<=10/\∀ v∈r,Ch v=true
 rs:∃ xs,H b.r=some (.lst xs)/\By H xs F.rs
 tf:H b.t=some (.tup F.tf)/\F.tf.length<=10/\∀ v∈F.tf,Ch v=true
 os:∃ ys,H b.o=some (.lst ys)/\By H ys F.os
 ne:b.r≠b.o
theorem JP.sameT {T:Tx P w K mg} {H H':Hp} {b:Ub} {F:Fq} (U:JP T H b F) (s:Bq H H') (o:∀ a∈b.own,H' a=H a):JP T H' b F:=by
 obtain ⟨xs,x1,x2⟩:=U.rs
 obtain ⟨ys,y1,y2⟩:=U.os
 exact ⟨U.ob.at' λu h=>by rw [o _ (by simp [Ub.own])];exact h,s _ _ U.hd,U.hz,⟨xs,by rw [o _ (by simp [Ub.own])];exact x1,x2.sameT s⟩,⟨s _ _ U.tf.1,U.tf.2⟩,⟨ys,by rw [o _ (by simp [Ub.own])];exact y1,y2.sameT s⟩,U.ne⟩
theorem JP.there {T:Tx P w K mg} {H:Hp} {b:Ub} {F:Fq} (U:JP T H b F):∀ a∈b.own,∃ u,H a=some u:=by
 intro a ha
 obtain ⟨xs,x1,_⟩:=U.rs
 obtain ⟨ys,y1,_⟩:=U.os
 obtain ⟨dx,fs,h1,_⟩:=U.ob.ex
 simp only [Ub.own,K0,A1,or_false] at ha
 rcases ha with rfl | rfl | rfl
 ·exact ⟨_,h1⟩
 ·exact ⟨_,x1⟩
 ·exact ⟨_,y1⟩
theorem JP.same {T:Tx P w K mg} {H H':Hp} {b:Ub} {F:Fq} (U:JP T H b F) (s:Ag H H'):JP T H' b F :=
 U.sameT (AE s) λa ha=>by
  obtain ⟨u,e⟩:=U.there a ha
  rw [e];exact s _ _ e
def Lo (T:Tx P w K mg):Sp:=λvs H Q _=>∃ (x dx hA:Addr) (hd:List V),vs=[.ref x,.ref hA]/\H x=some (.ins T.C_Unended dx [])/\H hA=some (.tup hd)/\(∃ z n r,hd=.str z::.int n::r/\r.length<=10/\∀ v∈r,Ch v=true) /\
 ∀ (b:Ub) (H':Hp),b.p=x->JP T H' b ⟨hd,[],false,[],[]⟩->H b.r=none->H b.o=none->Mp x H H'->Q .non H'
def Om (T:Tx P w K mg):Sp:=λvs H Q _=>∃ (b:Ub) (F:Fq) (v:V) (t:Tr),vs=[.ref b.p,v]/\JP T H b F/\ET H v t/\F.rs.length<=100000/\F.os.length<=100000 /\
 ∀ H':Hp,JP T H' b (F.put t)->(∀ a u,a≠b.r->a≠b.o->H a=some u->H' a=some u)->Q .non H'
def Jb (T:Tx P w K mg):Sp:=λvs H Q _=>∃ (b:Ub) (F:Fq) (z:Str),vs=[.ref b.p,.str z]/\JP T H b F/\Q (.bl (F.mayTurn z)) H
def PK (T:Tx P w K mg):Sp:=λvs H Q _=>∃ (b:Ub) (F:Fq) (ta:Addr) (tf:List V),vs=[.ref b.p,.ref ta]/\JP T H b F/\H ta=some (.tup tf)/\tf.length<=10/\(∀ v∈tf,Ch v=true) /\
 ∀ H':Hp,JP T H' { b with t:=ta } { F with tn:=true,tf:=tf }->Mp b.p H H'->Q .non H'
def Km (T:Tx P w K mg):Sp:=λvs H Q _=>∃ (b:Ub) (F:Fq),vs=[.ref b.p]/\JP T H b F/\∀ H',Ag H H'->Q (.bl F.mayEnd) H'
def MF (T:Tx P w K mg):Sp:=λvs H Q _=>∃ (b:Ub) (F:Fq),vs=[.ref b.p]/\JP T H b F/\F.rs.length<=100000/\F.os.length<=100000/\∀ (v:V) (H':Hp),ET H' v F.whole->Ag H H'->Q v H'
structure RA (T:Tx P w K mg) (H0 H:Hp) (p pa ua:Addr) (s:St) (Bs:List Ub) (c:Nat):Prop where
 out:Ag H0 H
 new:∀ a∈p::pa::ua::Bs.flatMap Ub.own,H0 a=none
 ob:CH T 2 .rdg H p (gR pa ua)
 pr:∃ xs,H pa=some (.lst xs)/\By H xs s.pg
 ul:H ua=some (.lst (Bs.map λb=>V.ref b.p))
 len:Bs.length=s.un.length
 le:s.un.length<=21
 each:∀ (i:Nat) (b:Ub) (F:Fq),Bs[i]?=some b->s.un[i]?=some F->JP T H b F
 nd:(p::pa::ua::Bs.flatMap Ub.own).Nodup
 ct:s.pg.length<=c/\∀ F∈s.un,F.rs.length<=c/\F.os.length<=c
theorem RA.there {T:Tx P w K mg} {H0 H:Hp} {p pa ua:Addr} {s:St} {Bs:List Ub} {c:Nat} (R:RA T H0 H p pa ua s Bs c):∀ a∈p::pa::ua::Bs.flatMap Ub.own,∃ u,H a=some u/\∀ ys,u≠.tup ys:=by
 intro a ha
 rcases K0.mp ha with rfl | ha
 ·obtain ⟨dx,fs,h1,_⟩:=R.ob.ex
  exact ⟨_,h1,λ_ e=>nomatch e⟩
 rcases K0.mp ha with rfl | ha
 ·obtain ⟨xs,x1,_⟩:=R.pr
  exact ⟨_,x1,λ_ e=>nomatch e⟩
 rcases K0.mp ha with rfl | ha
 ·exact ⟨_,R.ul,λ_ e=>nomatch e⟩
 obtain ⟨b,hb,ha⟩:=M3.mp ha
 obtain ⟨i,hi⟩:=L4 hb
 have lt:i<s.un.length:=by rw [<- R.len];exact (d0.mp hi).1
 have U:=R.each i b _ hi (x0 lt)
 obtain ⟨xs,x1,_⟩:=U.rs
 obtain ⟨ys,y1,_⟩:=U.os
 obtain ⟨dx,fs,h1,_⟩:=U.ob.ex
 simp only [Ub.own,K0,A1,or_false] at ha
 rcases ha with rfl | rfl | rfl
 ·exact ⟨_,h1,λ_ e=>nomatch e⟩
 ·exact ⟨_,x1,λ_ e=>nomatch e⟩
 ·exact ⟨_,y1,λ_ e=>nomatch e⟩
theorem RA.same {T:Tx P w K mg} {H0 H H':Hp} {p pa ua:Addr} {s:St} {Bs:List Ub} {c:Nat} (R:RA T H0 H p pa ua s Bs c) (sm:Ag H H'):RA T H0 H' p pa ua s Bs c:=by
 obtain ⟨xs,x1,x2⟩:=R.pr
 exact ⟨R.out.trans sm,R.new,R.ob.same sm,⟨xs,sm _ _ x1,x2.sameT (AE sm)⟩,sm _ _ R.ul,R.len,R.le,λi b F h1 h2=>(R.each i b F h1 h2).same sm,R.nd,R.ct⟩
theorem RA.mono {T:Tx P w K mg} {H0 H:Hp} {p pa ua:Addr} {s:St} {Bs:List Ub} {c c':Nat} (R:RA T H0 H p pa ua s Bs c) (h:c<=c'):RA T H0 H p pa ua s Bs c' :=
 ⟨R.out,R.new,R.ob,R.pr,R.ul,R.len,R.le,R.each,R.nd,T0 R.ct.1 h,λF hF=>⟨T0 (R.ct.2 F hF).1 h,T0 (R.ct.2 F hF).2 h⟩⟩
def PM (T:Tx P w K mg):Sp:=λvs H Q _=>∃ (x dx:Addr),vs=[.ref x]/\H x=some (.ins T.C_Reading dx [])/\∀ (pa ua:Addr) (H':Hp),CH T 2 .rdg H' x (gR pa ua)->H' pa=some (.lst [])->H' ua=some (.lst [])->H pa=none->H ua=none->pa≠ua->Mp x H H'->Q .non H'
def Kn (T:Tx P w K mg):Sp:=λvs H Q _=>∃ (H0:Hp) (p pa ua:Addr) (s:St) (Bs:List Ub) (c:Nat) (z:Str),vs=[.ref p,.str z]/\RA T H0 H p pa ua s Bs c/\∀ H',Ag H H'->Q (.bl (Be s z)) H'
def Sz (T:Tx P w K mg):Sp:=λvs H Q _=>∃ (H0:Hp) (p pa ua:Addr) (s:St) (Bs:List Ub) (c:Nat),vs=[.ref p]/\RA T H0 H p pa ua s Bs c/\s.un≠[]/\c<=99999/\∀ (H':Hp) (Bs':List Ub),RA T H0 H' p pa ua (NO s) Bs' (c+1)->Q .non H'
def Sy (T:Tx P w K mg):Sp:=λvs H Q _=>∃ (H0:Hp) (p pa ua:Addr) (s:St) (Bs:List Ub) (c:Nat) (l:Addr) (z:Str) (fs:List V) (n:Int),vs=[.ref p,.ref l,.int n]/\RA T H0 H p pa ua s Bs c/\c<=99999/\H l=some (.lst fs)/\QD fs/\fs.head?=some (.str z)/\Be s z=true /\
 ∀ (H':Hp) (Bs':List Ub),RA T H0 H' p pa ua (EY s z fs n) Bs' (c+1)->Q .non H'
def MJ (T:Tx P w K mg):Sp:=λvs H Q _=>∃ (H0:Hp) (p pa ua:Addr) (s:St) (Bs:List Ub) (c:Nat),vs=[.ref p]/\RA T H0 H p pa ua s Bs c/\∀ H',Ag H H'->Q (.bl (s.un.isEmpty&&!s.pg.isEmpty)) H'
theorem dinK {P:Program} {w:World} {K:J0} {neg:Bool} {σ:L2.St} {i:Nat} {a:Addr} {kvs:List (Cr×V)} {z:Str} {H:Hp} {R:VK} (hσ:σ[i]?=some (some (.str z))) (hd:RT P w K a kvs) (k:R (.bl (neg^^(L2.valV kvs (.inr z)).isSome)) H):Su P w K neg (GW i) (tC (.ref a)) σ H R:=⟨_,hσ,a,kvs,.inr z,rfl,hd,rfl,k⟩
theorem dixK {P:Program} {w:World} {K:J0} {σ:L2.St} {i:Nat} {a:Addr} {kvs:List (Cr×V)} {z:Str} {v:V} {H:Hp} {R:VK} (hσ:σ[i]?=some (some (.str z))) (hd:RT P w K a kvs) (e:L2.valV kvs (.inr z)=some v) (k:R v H):tDIxK P w K (tC (.ref a)) (GW i) σ H R:=⟨_,hσ,a,kvs,.inr z,v,rfl,hd,rfl,e,k⟩
theorem ppw_iff (z:Str):z∈PPW↔Fj z:=by
 unfold PPW Fj
 simp only [K0,A1,or_false]
theorem gr_get (y:Str):L2.valV GRkv (.inr y)=if y="N" then some (.int 99) else if y="ROUNDS" then some (.int 9) else none:=by
 unfold L2.valV GRkv
 rw [S3]
 by_cases h1:y="N"
 ·subst h1
  rw [if_pos rfl]
  simp
 ·have e1:decide ((Sum.inr "N":Cr)=Sum.inr y)=false:=decide_eq_false λq=>h1 (Sum.inr.inj q).symm
  rw [if_neg h1,e1,S3]
  by_cases h2:y="ROUNDS"
  ·subst h2
   rw [if_pos rfl]
   simp
  ·have e2:decide ((Sum.inr "ROUNDS":Cr)=Sum.inr y)=false:=decide_eq_false λq=>h2 (Sum.inr.inj q).symm
   rw [if_neg h2,e2]
   rfl
theorem Og (z:Str):L2.valV Pu (.inr z)=if BL z then some (.str (BQ z)) else none:=by
 unfold L2.valV Pu
 rw [S3]
 by_cases h1:z="limit"
 ·subst h1
  rw [if_pos (.inr (.inr rfl)),show BQ "limit"="late" by lk]
  simp
 ·have e1:decide ((Sum.inr "limit":Cr)=Sum.inr z)=false:=decide_eq_false λq=>h1 (Sum.inr.inj q).symm
  rw [e1,S3]
  by_cases h2:z="try"
  ·subst h2
   rw [if_pos (.inl rfl),show BQ "try"="but" by lk]
   simp
  ·have e2:decide ((Sum.inr "try":Cr)=Sum.inr z)=false:=decide_eq_false λq=>h2 (Sum.inr.inj q).symm
   rw [e2,S3]
   by_cases h3:z="do"
   ·subst h3
    rw [if_pos (.inr (.inl rfl)),show BQ "do"="last" by lk]
    simp
   ·have e3:decide ((Sum.inr "do":Cr)=Sum.inr z)=false:=decide_eq_false λq=>h3 (Sum.inr.inj q).symm
    rw [e3,if_neg (λq=>q.elim h2 λq=>q.elim h3 h1)]
    rfl
theorem NL {z:Str} (h:Go z=true):intText? z=some ((i8 z.cps.toList:Nat):Int):=by
 unfold Go at h
 rw [C1,C1,decide_eq_true_eq,decide_eq_true_eq,W2] at h
 refine PySem.intText_digits (λc hc=>?_) (λe=>?_) (T0 h.1.2 (by kd_p))
 ·have:=h.2 c hc
  unfold LW at this
  rw [C1,decide_eq_true_eq,decide_eq_true_eq] at this
  exact this
 ·have:=h.1.1
  rw [Bp,e] at this
  exact absurd this (by kd_p)
theorem UO (x:V) (r:List V):DI (x::r) (some 1) none=r:=by
 unfold DI
 have e1:HT.sIx (x::r).length 0 (some 1)=1:=(HT.sIx_nat _ _ 1).trans (by rw [P0];lia)
 have e2:HT.sIx (x::r).length (x::r).length none=(x::r).length:=rfl
 rw [e1,e2]
 show C8 (r.length+1-1) r=r
 rw [e7,T2]
theorem FK {α:Type} {f:α->Bool} {xs:List α} {i:Nat} {x:α} (h:xs[i]?=some x):(xs.take (i+1)).filter f=if f x=true then (xs.take i).filter f++[x] else (xs.take i).filter f:=by
 rw [List.take_add_one,h,g7]
 show _++[x].filter f=_
 rw [j2]
 split<;>simp
theorem JI (y z:Str):Bb y z=.non\/Ch (Bb y z)=true:=by
 have hb:∀ lo hi,Fi z lo hi=.non\/Ch (Fi z lo hi)=true:=λlo hi=>by
  unfold Fi
  split
  ·split
   ·exact .inr rfl
   ·exact .inl rfl
  ·exact .inl rfl
 unfold Bb
 split
 ·exact hb _ _
 split
 ·exact hb _ _
 split
 ·unfold CP
  split
  ·split
   ·exact .inr rfl
   ·exact .inl rfl
  ·split
   ·exact .inr rfl
   ·exact .inl rfl
 split
 ·split
  ·exact .inr rfl
  ·exact .inl rfl
 split
 ·exact .inr rfl
 ·exact .inl rfl
theorem Mf {v:V} (h:Ch v=true):DH v=true:=by
 cases v with
 |int _=>rfl
 |str _=>rfl
 |_=>cases h
theorem field_V (y z:Str):DH (Bb y z)=true:=by
 rcases JI y z with h | h
 ·rw [h];rfl
 ·exact Mf h
theorem zip_V (slots ws:List Str):(N2 Bb slots ws).all DH=true:=by
 rw [W2]
 intro v hv
 obtain ⟨i,hi⟩:=L4 hv
 rw [O6] at hi
 cases e1:slots[i]? with
 |none=>rw [e1] at hi;cases hi
 |some y =>
  cases e2:ws[i]? with
  |none=>rw [e1,e2] at hi;cases hi
  |some z=>rw [e1,e2] at hi;cases hi;exact field_V y z
theorem sp1:(" ":Str)=⟨#[32]⟩:=by lk
theorem nl1:("\n":Str)=⟨#[10]⟩:=by lk
theorem Us:∀ f∈FORMS,f.length<=6000:=by lk
theorem sl_ok:∀ s∈SL,s.length<=6000/\∀ w∈s,w.length<=6000:=by lk
theorem Pj {F:List (List Str)} {i:Nat} {f:List Str} {ws:List Str} (h:F[i]?=some f):Bg (F.drop i) ws=match CF f ws with
  |some x=>some x
  |none=>Bg (F.drop (i+1)) ws:=by
 obtain ⟨lt,e⟩:=d0.mp h
 rw [x5 lt,e]
 rfl
theorem CH.stN {T:Tx P w K mg} {n:Nat} {c:Kd} {H:Hp} {p:Addr} {g:Fl->Option V} (F:CH T n c H p g) (l:Fl) (y:V) (hn:n<900:=by kd_p) (hc:l.kd=c:=by rfl):∃ dx fs,H p=some (.ins (T.C c) dx fs)/\Ob K (T.C c)/\CS K (T.C c) l.name/\fs.length<1000/\∃ H2,H2=upd H p (.ins (T.C c) dx (Cz l.name y fs))/\Mp p H H2/\CH T (n+1) c H2 p (QR g l y)/\(g l≠none->CH T n c H2 p (QR g l y)):=by
 obtain ⟨dx,fs,h1,h2,h3,h4⟩:=F.put l y
 exact ⟨dx,fs,h1,T.cl c,by rw [<- hc];exact T.na l,by lia,_,rfl,Mp.upd,h3,h4⟩
theorem CH.congr {T:Tx P w K mg} {n:Nat} {c:Kd} {H:Hp} {p:Addr} {g g':Fl->Option V} (F:CH T n c H p g) (e:∀ l,g l=g' l):CH T n c H p g':=by
 have:g=g':=funext e
 rw [<- this];exact F
theorem CH.live {T:Tx P w K mg} {n:Nat} {c:Kd} {H:Hp} {p:Addr} {g:Fl->Option V} (F:CH T n c H p g) {a:Addr} (h:H a=none):a≠p:=λe=>by
 obtain ⟨dx,fs,h1,_⟩:=F.ex
 rw [e,h1] at h
 cases h
theorem CH.neL {T:Tx P w K mg} {n:Nat} {c:Kd} {H:Hp} {p:Addr} {g:Fl->Option V} (F:CH T n c H p g) {a:Addr} {o:HO} (h:H a=some o) (hn:∀ C dx fs,o≠.ins C dx fs):a≠p:=λe=>by
 obtain ⟨dx,fs,h1,_⟩:=F.ex
 rw [e,h1] at h
 cases h
 exact hn _ _ _ rfl
theorem tw_iff (z:Str):z∈TWS↔BJ z:=by
 unfold TWS BJ
 simp only [K0,A1,or_false]
theorem inTW {K:J0} {G:Hp} {a:Addr} {z:Str} {R:VK} (h:Cn K G a (TWS.map V.str)) (k:R (.bl (decide (BJ z))) G):rIn K false (.str z) (.ref a) G R:=by
 refine ⟨a,_,rfl,.inr h,rfl,EO TWS,?_⟩
 rw [if_neg Q0,JB]
 have e:decide (z∈TWS)=decide (BJ z):=decide_eq_decide.mpr (tw_iff z)
 rw [e]
 exact k
theorem decP {z:Str}:decide (z∈PPW)=decide (Fj z):=decide_eq_decide.mpr (ppw_iff z)
section
variable {T:Tx P w K mg} {H0 H H':Hp} {p pa ua:Addr} {pg:List Tr} {S:List Fq} {F F':Fq} {Bs Cs:List Ub} {b b':Ub} {c c':Nat} {st:St}
theorem RA.split (R:RA T H0 H p pa ua ⟨pg,S++[F]⟩ Bs c):∃ Cs b,Bs=Cs++[b]/\Cs.length=S.length:=by
 have hl:=R.len
 have hl':Bs.length=S.length+1:=by rw [hl];exact B0
 obtain ⟨Cs,b,rfl⟩:=CY (xs:=Bs) (by lia)
 rw [B0] at hl'
 exact ⟨Cs,b,rfl,by simpa using hl'⟩
theorem RA.top (R:RA T H0 H p pa ua ⟨pg,S++[F]⟩ (Cs++[b]) c) (h:Cs.length=S.length):JP T H b F:=R.each S.length b F (by rw [<- h];exact Ba) Ba
theorem RA.ixTop {Q:VK} (R:RA T H0 H p pa ua st (Cs++[b]) c) (k:Q (.ref b.p) H):DS K (.ref ua) (.int (-1)) H Q:=by
 refine ⟨ua,_,-1,.ref b.p,rfl,rfl,Aw.of R.ul,?_,k⟩
 rw [o0]
 exact JN _ _
theorem Hl (Cs:List Ub) (b:Ub):(Cs++[b]).flatMap Ub.own=Cs.flatMap Ub.own++b.own:=by simp
theorem Qd {i:Nat} (h:Bs[i]?=some b) {a:Addr} (ha:a∈b.own):a∈Bs.flatMap Ub.own:=M3.mpr ⟨b,E1 h,ha⟩
theorem JP.notT (U:JP T H b F) {a:Addr} {ys:List V} (h:H a=some (.tup ys)):a∉b.own:=λha=>by
 obtain ⟨xs,x1,_⟩:=U.rs
 obtain ⟨zs,y1,_⟩:=U.os
 obtain ⟨dx,fs,h1,_⟩:=U.ob.ex
 simp only [Ub.own,K0,A1,or_false] at ha
 rcases ha with rfl | rfl | rfl
 ·rw [h] at h1;cases h1
 ·rw [h] at x1;cases x1
 ·rw [h] at y1;cases y1
theorem RA.mod (R:RA T H0 H p pa ua ⟨pg,S++[F]⟩ (Cs++[b]) c) (hl:Cs.length=S.length) (U:JP T H' b' F') (e1:b'.p=b.p) (e2:b'.r=b.r) (e3:b'.o=b.o) (k:∀ a u,a∉b.own->H a=some u->H' a=some u) (hc:c<=c') (h1:F'.rs.length<=c') (h2:F'.os.length<=c'):RA T H0 H' p pa ua ⟨pg,S++[F']⟩ (Cs++[b']) c':=by
 have eo:b'.own=b.own:=by unfold Ub.own;rw [e1,e2,e3]
 have U0:=R.top hl
 have nd:=R.nd
 rw [Hl] at nd
 have nin:∀ a∈p::pa::ua::Cs.flatMap Ub.own,a∉b.own:=λa ha hb=>by
  have:(p::pa::ua::Cs.flatMap Ub.own++b.own).Nodup:=nd
  exact (F2.mp this).2.2 a ha a hb rfl
 have sT:Bq H H':=λa ys h=>k a _ (U0.notT h) h
 obtain ⟨xs,x1,x2⟩:=R.pr
 have ob2:∀ {a u},a∈p::pa::ua::Cs.flatMap Ub.own->H a=some u->H' a=some u:=λha h=>k _ _ (nin _ ha) h
 refine ⟨λa u h=>?_,λa ha=>?_,R.ob.at' λo h=>ob2 C0 h,⟨xs,ob2 (A0 _ C0) x1,x2.sameT sT⟩,?_,?_,?_,?_,?_,?_⟩
 ·refine k a u (λhb=>?_) (R.out a u h)
  have:=R.new a (by rw [Hl];exact A0 _ (A0 _ (A0 _ (S0 _ hb))))
  rw [this] at h;cases h
 ·rw [Hl,eo,<- Hl] at ha
  exact R.new a ha
 ·have:=ob2 (A0 _ (A0 _ C0)) R.ul
  rw [o0] at this |-
  show H' ua=some (.lst (Cs.map (λb=>V.ref b.p)++[.ref b'.p]))
  rw [e1]
  exact this
 ·rw [B0,hl]
  show S.length+1=(S++[F']).length
  rw [B0]
  rfl
 ·have:=R.le
  have e:(S++[F]).length=(S++[F']).length:=by rw [B0,B0];rfl
  show (S++[F']).length<=21
  rw [<- e];exact this
 ·intro i d G h1 h2
  rcases Cp h1 with ⟨lt,h1⟩ | ⟨ei,ed⟩
  ·have lt2:i<S.length:=by lia
   have h2':S[i]?=some G:=by rw [<- h2];exact (Z0 lt2).symm
   have UU:=R.each i d G (by rw [Z0 lt];exact h1) (by rw [Z0 lt2];exact h2')
   refine UU.sameT sT λa ha=>?_
   obtain ⟨u,hu⟩:=UU.there a ha
   rw [hu]
   exact ob2 (A0 _ (A0 _ (A0 _ (Qd h1 ha)))) hu
  ·rw [ei,hl] at h2
   have:(S++[F'])[S.length]?=some F':=Ba
   rw [show (⟨pg,S++[F']⟩:St).un=S++[F'] from rfl,this] at h2
   cases h2
   rw [ed]
   exact U
 ·rw [Hl,eo];exact nd
 ·refine ⟨T0 R.ct.1 hc,λG hG=>?_⟩
  rcases X0.mp (show G∈S++[F'] from hG) with q | q
  ·have:=R.ct.2 G (p0 _ q)
   exact ⟨T0 this.1 hc,T0 this.2 hc⟩
  ·rw [M0.mp q];exact ⟨h1,h2⟩
theorem RA.pop (R:RA T H0 H p pa ua ⟨pg,S++[F]⟩ (Cs++[b]) c) (hl:Cs.length=S.length):RA T H0 (upd H ua (.lst (Cs.map λb=>V.ref b.p))) p pa ua ⟨pg,S⟩ Cs c/\JP T (upd H ua (.lst (Cs.map λb=>V.ref b.p))) b F:=by
 have nd:=R.nd
 rw [Hl] at nd
 have sT:Bq H (upd H ua (.lst (Cs.map λb=>V.ref b.p))):=Bw R.ul
 have nua:∀ a∈Cs.flatMap Ub.own++b.own,a≠ua:=λa ha e=>by
  have n1:=(Y0.mp (Y0.mp (Y0.mp nd).2).2).1
  exact n1 (e▸ha)
 have np:p≠ua:=λe=>(Y0.mp nd).1 (by rw [e];exact A0 _ C0)
 have npa:pa≠ua:=λe=>(Y0.mp (Y0.mp nd).2).1 (by rw [e];exact C0)
 obtain ⟨xs,x1,x2⟩:=R.pr
 have hle:=R.le
 have hle':S.length+1<=21:=by
  have e:(S++[F]).length=S.length+1:=B0
  rw [<- e];exact hle
 refine ⟨⟨λa u h=>?_,λa ha=>R.new a ?_,R.ob.at' λo h=>by rw [Ap np];exact h,⟨xs,by rw [Ap npa];exact x1,x2.sameT sT⟩,Ad,hl,(show S.length<=21 by lia),λi d G h1 h2=>?_,?_,R.ct.1,λG hG=>R.ct.2 G (p0 _ hG)⟩,?_⟩
 ·rw [Ap (λe=>by rw [e,R.new ua (A0 _ (A0 _ C0))] at h;cases h)]
  exact R.out a u h
 ·rw [Hl]
  rcases K0.mp ha with rfl | ha
  ·exact C0
  rcases K0.mp ha with rfl | ha
  ·exact A0 _ C0
  rcases K0.mp ha with rfl | ha
  ·exact A0 _ (A0 _ C0)
  ·exact A0 _ (A0 _ (A0 _ (p0 _ ha)))
 ·have lt:i<Cs.length:=(d0.mp h1).1
  have lt2:i<S.length:=by lia
  have UU:=R.each i d G (by rw [Z0 lt];exact h1) (by rw [Z0 lt2];exact h2)
  exact UU.sameT sT λa ha=>Ap (nua a (p0 _ (Qd h1 ha)))
 ·have:(p::pa::ua::Cs.flatMap Ub.own++b.own).Nodup:=nd
  exact (F2.mp this).1
 ·exact (R.top hl).sameT sT λa ha=>Ap (nua a (S0 _ ha))
theorem RA.addP (R:RA T H0 H p pa ua ⟨pg,S⟩ Bs c) {xs:List V} {v:V} {t:Tr} (hx:H pa=some (.lst xs)) (hr:By H xs pg) (hv:ET H v t):RA T H0 (upd H pa (.lst (xs++[v]))) p pa ua ⟨pg++[t],S⟩ Bs (c+1):=by
 have nd:=R.nd
 have sT:Bq H (upd H pa (.lst (xs++[v]))):=Bw hx
 have np:p≠pa:=λe=>(Y0.mp nd).1 (by rw [e];exact C0)
 have n1:=(Y0.mp (Y0.mp nd).2).1
 have nu:ua≠pa:=λe=>n1 (by rw [<- e];exact C0)
 refine ⟨λa u h=>?_,R.new,R.ob.at' λo h=>by rw [Ap np];exact h,⟨_,Ad,(hr.sameT sT).snoc (hv.sameT sT)⟩,by rw [Ap nu];exact R.ul,R.len,R.le,λi d G h1 h2=>(R.each i d G h1 h2).sameT sT λa ha=>Ap (λe=>n1 (by rw [<- e];exact A0 _ (Qd h1 ha))),nd,?_,λG hG=>?_⟩
 ·rw [Ap (λe=>by rw [e,R.new pa (A0 _ C0)] at h;cases h)]
  exact R.out a u h
 ·rw [B0]
  exact g5 R.ct.1
 ·have:=R.ct.2 G hG
  exact ⟨X3 this.1,X3 this.2⟩
theorem RA.push (R:RA T H0 H p pa ua ⟨pg,S⟩ Bs c) (hl:S.length<=20) (s:Ag H H') (U:JP T H' b F) (hn:∀ a∈b.own,H a=none) (hd:b.own.Nodup) (h1:F.rs.length<=c) (h2:F.os.length<=c):RA T H0 (upd H' ua (.lst (Bs.map (λb=>V.ref b.p)++[.ref b.p]))) p pa ua ⟨pg,S++[F]⟩ (Bs++[b]) c:=by
 have R2:=R.same s
 have nd:=R.nd
 have sT:Bq H' (upd H' ua (.lst (Bs.map (λb=>V.ref b.p)++[.ref b.p]))):=Bw R2.ul
 have np:p≠ua:=λe=>(Y0.mp nd).1 (by rw [e];exact A0 _ C0)
 have npa:pa≠ua:=λe=>(Y0.mp (Y0.mp nd).2).1 (by rw [e];exact C0)
 have n1:=(Y0.mp (Y0.mp (Y0.mp nd).2).2).1
 have nb:∀ a∈b.own,∀ x∈p::pa::ua::Bs.flatMap Ub.own,x≠a:=λa ha x hx e=>by
  obtain ⟨u,hu,_⟩:=R.there x hx
  rw [e,hn a ha] at hu
  cases hu
 obtain ⟨xs,x1,x2⟩:=R2.pr
 refine ⟨λa u h=>?_,λa ha=>?_,R2.ob.at' λo h=>by rw [Ap np];exact h,⟨xs,by rw [Ap npa];exact x1,x2.sameT sT⟩,?_,?_,?_,λi d G h1 h2=>?_,?_,R.ct.1,λG hG=>?_⟩
 ·rw [Ap (λe=>by rw [e,R.new ua (A0 _ (A0 _ C0))] at h;cases h)]
  exact R2.out a u h
 ·rw [Hl] at ha
  rcases X0.mp (show a∈(p::pa::ua::Bs.flatMap Ub.own)++b.own from ha) with q | q
  ·exact R.new a q
  ·exact R.out.free (hn a q)
 ·rw [Ad,o0]
  rfl
 ·rw [B0,R.len]
  show S.length+1=(S++[F]).length
  rw [B0]
  rfl
 ·show (S++[F]).length<=21
  rw [B0]
  show S.length+1<=21
  lia
 ·rcases Cp h1 with ⟨lt,h1⟩ | ⟨ei,ed⟩
  ·have lt2:i<S.length:=by have:=R.len;rw [this] at lt;exact lt
   have UU:=R2.each i d G h1 (by rw [<- h2];exact (Z0 lt2).symm)
   exact UU.sameT sT λa ha=>Ap (λe=>n1 (by rw [<- e];exact Qd h1 ha))
  ·have hl2:Bs.length=S.length:=R.len
   rw [ei,hl2] at h2
   have:(S++[F])[S.length]?=some F:=Ba
   rw [show (⟨pg,S++[F]⟩:St).un=S++[F] from rfl,this] at h2
   cases h2
   rw [ed]
   exact U.sameT sT λa ha=>Ap (λe=>nb a ha ua (A0 _ (A0 _ C0)) e.symm)
 ·rw [Hl]
  show ((p::pa::ua::Bs.flatMap Ub.own)++b.own).Nodup
  exact F2.mpr ⟨nd,hd,λx hx a ha=>nb a ha x hx⟩
 ·rcases X0.mp (show G∈S++[F] from hG) with q | q
  ·exact R.ct.2 G q
  ·rw [M0.mp q];exact ⟨h1,h2⟩
end
theorem FJ:∀ {F:List (List Str)} {ws:List Str} {fs:List V},(∀ f∈F,f.length<=10)->Bg F ws=some fs->fs.length<=10/\∀ v∈fs,Ch v=true
 |[],_,_,_,h=>nomatch h
 |f::F,ws,fs,hF,h=>by
  have h':(match CF f ws with | some x=>some x | none=>Bg F ws)=some fs:=h
  cases e:CF f ws with
  |none =>
   rw [e] at h'
   exact FJ (λg hg=>hF g (A0 _ hg)) h'
  |some x =>
   rw [e] at h'
   cases h'
   unfold CF at e
   split at e
   ·split at e
    ·cases e
    ·rename_i hl hin
     cases e
     refine ⟨?_,λv hv=>?_⟩
     ·rw [Z6]
      exact T0 (Nat.min_le_left _ _) (hF f C0)
     ·obtain ⟨i,hi⟩:=L4 hv
      rw [O6] at hi
      cases e1:f[i]? with
      |none=>rw [e1] at hi;cases hi
      |some y =>
       cases e2:ws[i]? with
       |none=>rw [e1,e2] at hi;cases hi
       |some z =>
        rw [e1,e2] at hi
        cases hi
        rcases JI y z with q | q
        ·exfalso
         apply hin
         unfold CA
         rw [J7]
         exact ⟨_,hv,by rw [q];rfl⟩
        ·exact q
   ·cases e
theorem sl_len:∀ f∈SL,f.length<=10:=by lk
theorem Kj {s s':St} {n:Int} {ws:List Str} (h:step s n ws=some s'):∃ fs z,Bg SL ws=some fs/\fs.head?=some (.str z)/\Be s z=true/\s'=EY s z fs n/\QD fs:=by
 unfold step at h
 cases e:Bg SL ws with
 |none=>rw [e] at h;cases h
 |some fs =>
  rw [e] at h
  have h2:(match fs.head? with | some (.str z)=>if Be s z=true then some (EY s z fs n) else none | _=>none)=some s':=h
  cases fs with
  |nil=>cases h2
  |cons v r =>
   cases v with
   |str z =>
    have h3:(if Be s z=true then some (EY s z (.str z::r) n) else none)=some s':=h2
    by_cases ha:Be s z=true
    ·rw [if_pos ha] at h3
     exact ⟨_,z,rfl,rfl,ha,(Option.some.inj h3).symm,⟨z,r,rfl⟩,FJ sl_len e⟩
    ·rw [if_neg ha] at h3;cases h3
   |_=>cases h2
theorem Ip (sep:Str):∀ {l:List Str} {a:Str},a∈l->a.length<=(Str.join sep l).length
 |[b],a,h=>by rw [M0.mp h];exact V0 _
 |b::c::l,a,h=>by
  show a.length<=(b++sep++Str.join sep (c::l)).length
  rw [BN,BN]
  rcases K0.mp h with rfl | h
  ·lia
  ·have:=Ip sep (l:=c::l) h
   lia
theorem GX {z a:Str} {c:Nat} (h:a∈Txt.split z ⟨#[c]⟩):a.length<=z.length:=by
 have:=Ip ⟨#[c]⟩ h
 rw [StrLaws.join_split] at this
 exact this
def EM (H:Hp) (xs:List Addr):Hp:=λa=>if a∈xs then none else H a
theorem HV (H:Hp) (xs:List Addr):Ag (EM H xs) H:=λa o h=>by
 unfold EM at h
 by_cases e:a∈xs
 ·rw [if_pos e] at h;cases h
 ·rw [if_neg e] at h;exact h
theorem FY {H:Hp} {xs:List Addr} {a:Addr} {o:HO} (h:H a=some o) (n:a∉xs):EM H xs a=some o:=by
 unfold EM
 rw [if_neg n];exact h
theorem HE {H G:Hp} {xs:List Addr} (s:Ag H G) (h:∀ a∈xs,H a=none):Ag H (EM G xs):=λa o e=>FY (s a o e) λq=>by rw [h a q] at e;cases e
theorem HW (H:Hp) {xs:List Addr} {a:Addr} (h:a∈xs):EM H xs a=none:=if_pos h
theorem RA.first {T:Tx P w K mg} {H:Hp} {p pa ua:Addr} (ob:CH T 2 .rdg H p (gR pa ua)) (h1:H pa=some (.lst [])) (h2:H ua=some (.lst [])) (n:pa≠ua):RA T (EM H [p,pa,ua]) H p pa ua ⟨[],[]⟩ [] 0:=by
 refine ⟨HV _ _,λa ha=>HW _ ha,ob,⟨[],h1,By.nil _⟩,h2,rfl,N1 _,(λ_ _ _ h=>nomatch h),?_,V0 _,(λ_ h=>nomatch h)⟩
 have n1:p≠pa:=λe=>ob.neL h1 (λ_ _ _ z=>nomatch z) e.symm
 have n2:p≠ua:=λe=>ob.neL h2 (λ_ _ _ z=>nomatch z) e.symm
 show [p,pa,ua].Nodup
 simp [n1,n2,n]
theorem Hk {w:Str} (h1:1<=w.length) (h2:w.length<=10) (h:∀ c∈w.cps.toList,33<=c/\c<128):Di w:=by
 refine ⟨λe=>?_,λm=>?_,λm=>?_,h2,λc hc=>(h c hc).2⟩
 ·rw [e] at h1
  exact absurd h1 (by lk)
 ·have:=h _ m;lia
 ·have:=h _ m;lia
theorem DX {z:Str} (h:Fk z):Di z:=Hk h.lo (by have:=h.hi;lia) λc hc=>by have:=h.low c hc;lia
theorem JD {n:Int} (h0:0<=n) (h1:n<=999999):Di (FP (.int n)):=by
 obtain ⟨m,rfl⟩:=t8 h0
 have hs:=PySem.W.KIN.signs_num m
 show Di (Str.ofString (toString ((m:Nat):Int)))
 refine Hk ?_ (T0 (A8 h0 (k:=6) (by kd_p) (by lia)) (by kd_p)) λc hc=>?_
 ·rw [Bp,hs,L0]
  exact PySem.toDigits_len_ge 10 m
 ·rw [hs] at hc
  obtain ⟨ch,hch,e⟩:=D2.mp hc
  have r:=PyProof.Rows.digit_range (Nat.isDigit_of_mem_toDigits (by kd_p) (by kd_p) hch)
  lia
theorem Qy.good {v:V} (h:Qy v):Di (FP v):=by
 obtain ⟨z,rfl,h⟩:=h
 exact DX h
theorem NuV.good {lo hi:Int} {v:V} (h:NuV lo hi v) (h0:0<=lo:=by kd_p) (h1:hi<=999999:=by kd_p):Di (FP v):=by
 obtain ⟨n,rfl,a,b⟩:=h
 exact JD (by lia) (by lia)
theorem VlV.good {v:V} (h:VlV v):Di (FP v):=by
 rcases h with ⟨n,rfl,h0,h1⟩ | ⟨z,rfl,h | ⟨y,rfl,h1,h2,h3⟩⟩
 ·exact JD h0 h1
 ·exact DX h
 ·have ec:((":":Str)++y).cps.toList=58::y.cps.toList:=by
   rw [CL,show (Str.ofString ":").cps.toList=[58] by lk];rfl
  have el:((":":Str)++y).length=y.length+1:=by rw [Bp,ec];rfl
  show Di ((":":Str)++y)
  refine Hk (by lia) (by lia) λc hc=>?_
  rw [ec] at hc
  rcases K0.mp hc with rfl | hc
  ·decide
  ·have:=h3 c hc;lia
def gdB (z:Str):Bool:=decide (1<=z.length)&&decide (z.length<=10)&&z.cps.toList.all λc=>decide (33<=c/\c<128)
theorem Cc {z:Str} (h:gdB z=true):Di z:=by
 unfold gdB at h
 simp only [C1,decide_eq_true_eq,W2] at h
 exact Hk h.1.1 h.1.2 h.2
def Ih (x:List Str):Prop:=(∀ w∈x,Di w)/\x.length<=7
theorem KM {a:Str} (h:Di a):Ih [a]:=⟨λw hw=>by rw [M0.mp hw];exact h,(show 1<=7 by kd_p)⟩
theorem Cu {a:Str} {r:List Str} (h:Di a) (hr:∀ w∈r,Di w) (hl:r.length<=6):Ih (a::r):=⟨λw hw=>by
 rcases K0.mp hw with rfl | hw
 ·exact h
 ·exact hr w hw,by rw [P0];lia⟩
theorem OU {a:V} (h:Di (FP a)):∀ w∈[a].map FP,Di w:=λw hw=>by rw [M0.mp hw];exact h
theorem map2 {a b:V} (h:Di (FP a)) (h':Di (FP b)):∀ w∈[a,b].map FP,Di w:=λw hw=>by
 rcases K0.mp hw with rfl | hw
 ·exact h
 ·exact OU h' w hw
theorem Um {z:Str} {r:List V} (P:NX z r):Ih (BZ z r):=by
 have fp:=P.b.2
 by_cases hb:z="begin"
 ·cases fp with
  |wait _=>exact absurd hb (by lk)
  |one hz _=>rcases hz with rfl | rfl | rfl | rfl<;>exact absurd hb (by lk)
  |val hz _ _=>rcases hz with rfl | rfl<;>exact absurd hb (by lk)
  |two hz _ _=>rcases hz with rfl | rfl<;>exact absurd hb (by lk)
  |give _=>exact absurd hb (by lk)
  |begin ha hc hd hv =>
   obtain ⟨a,rfl,ha'⟩:=id ha
   obtain ⟨b,rfl,hb'⟩:=id hc
   obtain ⟨c,rfl,hc'⟩:=id hd
   obtain ⟨n,rfl,h0,h1⟩:=id hv
   unfold BZ
   rw [if_pos rfl]
   show Ih ([("begin":Str),a,b, "in",c]++(if n=0 then [] else [("within":Str),FP (.int n)]))
   have g1:∀ w∈([("begin":Str),a,b, "in",c]:List Str),Di w:=λw hw=>by
    simp only [K0,A1,or_false] at hw
    rcases hw with rfl | rfl | rfl | rfl | rfl
    ·exact Cc (by lk)
    ·exact DX ha'
    ·exact DX hb'
    ·exact Cc (by lk)
    ·exact DX hc'
   by_cases hn:n=0
   ·rw [if_pos hn]
    exact ⟨λw hw=>g1 w (by simpa using hw),(show 5<=7 by kd_p)⟩
   ·rw [if_neg hn]
    refine ⟨λw hw=>?_,(show 7<=7 by kd_p)⟩
    rcases X0.mp hw with q | q
    ·exact g1 w q
    ·simp only [K0,A1,or_false] at q
     rcases q with rfl | rfl
     ·exact Cc (by lk)
     ·exact JD h0 (by lia)
 ·rw [Kg P hb]
  cases fp with
  |wait h=>exact Cu (Cc (by lk)) (OU h.good) (by show 1<=6;decide)
  |one hz h =>
   refine Cu ?_ (OU h.good) (by show 1<=6;decide)
   rcases hz with rfl | rfl | rfl | rfl<;>exact Cc (by lk)
  |val hz h h2 =>
   refine Cu ?_ (map2 h.good h2.good) (by show 2<=6;decide)
   rcases hz with rfl | rfl<;>exact Cc (by lk)
  |two hz h h2 =>
   refine Cu ?_ (map2 h.good h2.good) (by show 2<=6;decide)
   rcases hz with rfl | rfl<;>exact Cc (by lk)
  |begin _ _ _ _=>exact absurd rfl hb
  |give h=>exact Cu (Cc (by lk)) (OU h.good) (by show 1<=6;decide)
theorem Uo {z:Str} {th:List V} {fa:V} (B:Ii z th fa):Ih (z::th.map FP):=by
 cases B with
 |name hz h =>
  refine Cu ?_ (OU h.good) (by show 1<=6;decide)
  rcases hz with rfl | rfl<;>exact Cc (by lk)
 |limit h=>exact Cu (Cc (by lk)) (OU h.good) (by show 1<=6;decide)
 |bare hz =>
  refine KM ?_
  rcases hz with rfl | rfl<;>exact Cc (by lk)
 |try_ _=>exact KM (Cc (by lk))
 |when h h2=>exact Cu (Cc (by lk)) (map2 h.good h2.good) (by show 2<=6;decide)
 |rep h=>exact Cu (Cc (by lk)) (OU h.good) (by show 1<=6;decide)
theorem Ju {f:V->List Ln} {tn en:List Ln}:∀ {r:List V} {w:Bool} {x:Ln},x∈DV f tn en w r->x∈tn\/x∈en\/∃ p∈r,Gn p=true/\x∈f p
 |[],w,x,h=>by
  cases w with
  |false=>cases h
  |true=>exact .inr (.inl h)
 |y::r,w,x,h=>by
  cases e:Gn y with
  |false =>
   rw [FX e] at h
   rcases Ju h with q | q | ⟨p,hp,q⟩
   ·exact .inl q
   ·exact .inr (.inl q)
   ·exact .inr (.inr ⟨p,A0 _ hp,q⟩)
  |true =>
   cases y with
   |ref a =>
    rw [Ed] at h
    rcases X0.mp h with q | q
    ·cases w with
     |false=>cases q
     |true=>exact .inl q
    ·rcases X0.mp q with q | q
     ·exact .inr (.inr ⟨_,C0,rfl,q⟩)
     ·rcases Ju q with q | q | ⟨p,hp,q⟩
      ·exact .inl q
      ·exact .inr (.inl q)
      ·exact .inr (.inr ⟨p,A0 _ hp,q⟩)
   |_=>cases e
theorem Ul {m:Nat} {H:Hp} {y:V} (hy:AX (m+1) H y) {f:V->Nat->List Ln} (d:Nat) (hf:∀ p,BX m H p->∀ x∈f p (d+1),Ih x.2):∀ x∈DN f H y d,Ih x.2:=by
 obtain ⟨a,z,r,rfl,e2,e3,e4,e5⟩:=id hy
 obtain ⟨ln,r',rfl,P | ⟨th,fa,bs,B⟩⟩:=e3
 ·have eZ:=EX e2
  have nr:∀ t∈r',Gn t=false:=λt ht=>(P.tv t ht).notR
  intro x hx
  unfold DN BG at hx
  rw [eZ] at hx
  rcases K0.mp hx with rfl | hx
  ·exact Um P
  ·have:=KG (f:=λp=>f p (d+1)) (tn:=(CN H (.ref a)).map λws=>(d,ws)) (en:=([(d,["end"])]:List Ln)) (w:=false) (r:=[]) nr
   rw [L1] at this
   have hx':x∈DV (λp=>f p (d+1)) ((CN H (.ref a)).map λws=>(d,ws)) ([(d,["end"])]:List Ln) false r':=hx
   rw [this] at hx'
   cases hx'
 ·have eZ:=EX e2
  intro x hx
  have hx0:=hx
  unfold DN BG at hx
  rw [eZ] at hx
  rcases K0.mp hx with rfl | hx
  ·show Ih (BZ z r')
   by_cases hz:z="try"
   ·subst hz
    unfold BZ
    rw [if_neg (by lk),if_pos rfl]
    exact KM (Cc (by lk))
   ·rw [DW B hz];exact Uo B.fv.2
  ·rcases Ju hx with q | q | ⟨p,hp,hr,q⟩
   ·obtain ⟨ws,hws,rfl⟩:=D2.mp q
    show Ih ws
    unfold CN at hws
    rw [eZ] at hws
    by_cases h1:z="try"
    ·subst h1
     rw [if_pos rfl] at hws
     obtain rfl:=P3.mp (B.tl.trans (show Dr "try"=0 by lk))
     obtain ⟨b0,b1,rfl⟩:=Jy (B.two (.inl rfl))
     have er:r'=[.ref b0,fa,.ref b1]:=by rw [B.e,if_pos rfl];rfl
     have fb:=B.fv.2
     obtain ⟨fz,hfa,hfz⟩:∃ fz,fa=.str fz/\(Fk fz\/fz="any"):=by
      generalize hq:Str.ofString "try"=q at fb
      generalize ([]:List V)=th at fb
      cases fb with
      |name hz _=>rw [<- hq] at hz;exact absurd hz (by lk)
      |limit _=>exact absurd hq (by lk)
      |bare hz=>rw [<- hq] at hz;exact absurd hz (by lk)
      |try_ h=>exact ⟨_,rfl,h⟩
      |when _ _=>exact absurd hq (by lk)
      |rep _=>exact absurd hq (by lk)
     rw [er,hfa] at hws
     rw [M0.mp hws]
     refine Cu (Cc (by lk)) (λw hw=>?_) (by show 1<=6;decide)
     rw [M0.mp hw]
     show Di fz
     rcases hfz with h | rfl
     ·exact DX h
     ·exact Cc (by lk)
    ·rw [if_neg h1] at hws
     by_cases h2:z="do"
     ·rw [if_pos h2] at hws
      rw [M0.mp hws]
      exact KM (Cc (by lk))
     ·rw [if_neg h2] at hws
      split at hws
      ·cases hws
      ·rw [M0.mp hws]
       exact KM (Cc (by lk))
   ·rw [M0.mp q]
    exact KM (Cc (by lk))
   ·exact hf p (hy.part_ok p (by rw [eZ];exact hp) hr) x q
theorem JC (H:Hp):∀ (m:Nat) (v:V) (d:Nat),BX m H v->∀ x∈BF (m+1) H v d,Ih x.2
 |0,v,d,hv,x,hx=>by
  obtain ⟨b,ys,rfl,e,hy⟩:=hv
  rw [GN,Cd e] at hx
  obtain ⟨y,hym,_⟩:=M3.mp hx
  exact (hy y hym).elim
 |m+1,v,d,hv,x,hx=>by
  obtain ⟨b,ys,rfl,e,hy⟩:=hv
  rw [GN,Cd e] at hx
  obtain ⟨y,hym,hx⟩:=M3.mp hx
  exact Ul (hy y hym) d (λp hp x hx=>JC H m p (d+1) hp x hx) x hx
theorem EN (z:Str) (L:List Str):Txt.join z L=Str.join z L:=by
 show Builtin.Str.glued _ _=_
 rw [StrLaws.glued_eq_join]
theorem allc {α:Type} {f g:α->Bool}:∀ {l:List α},(∀ c∈l,f c=g c)->l.all f=l.all g
 |[],_=>rfl
 |a::r,h=>by rw [D4,D4,h a C0,allc λc hc=>h c (A0 _ hc)]
theorem anyk {z:Str}:∀ l:List Str,(l.any λy=>y == z)=decide (z∈l)
 |[]=>rfl
 |a::r=>by
  rw [U5,anyk r]
  by_cases e:a=z
  ·subst e;simp
  ·have e2:z≠a:=λq=>e q.symm
   simp [e,e2]
def Fp (z:Str):Prop:=∀ c∈z.cps.toList,c<128
theorem UZ:∀ c:Fin 128,J9 c.val=((decide (97<=c.val)&&decide (c.val<=122))||(decide (65<=c.val)&&decide (c.val<=90))):=by lk
theorem TJ:∀ c:Fin 128,F9 c.val=[if 65<=c.val/\c.val<=90 then c.val+32 else c.val]:=by lk
def TK (c:Nat):Nat:=if 65<=c/\c<=90 then c+32 else c
theorem EK {z:Str} (h:Fp z):(Txt.lower z).cps.toList=z.cps.toList.map TK:=by
 show ((z.cps.mapIdx λi c=>(T7 z.cps i).toArray).flatten).toList=_
 have e:(z.cps.mapIdx λi c=>(T7 z.cps i).toArray)=z.cps.map λc=>#[TK c]:=by
  refine Array.ext (by simp) λi h1 h2=>?_
  rw [Array.getElem_mapIdx,Array.getElem_map]
  have hi:i<z.cps.size:=by simpa using h1
  have hc:z.cps[i]<128:=h _ (by rw [V9];exact Array.getElem_mem hi)
  unfold T7
  rw [Array.getElem?_eq_getElem hi]
  show (if (z.cps[i] == 0x3A3&&PySem.Unicode.endsWord z.cps i)=true then [0x3C2] else F9 z.cps[i]).toArray=_
  have hb:(z.cps[i] == 0x3A3)=false:=by
   rw [beq_eq_false_iff_ne]
   lia
  rw [hb,Q2,if_neg Q0,TJ ⟨_,hc⟩]
  rfl
 rw [e]
 obtain ⟨⟨l⟩⟩:=z
 clear h e
 simp only [Array.toList_flatten,Array.toList_map,j5]
 induction l with
 |nil=>rfl
 |cons a r ih=>simpa using ih
theorem Lf {z:Str} (h:Fp z):Txt.isalpha z=(decide (1<=z.length)&&z.cps.toList.all λc=>Pc c||(decide (65<=c)&&decide (c<=90))):=by
 show (decide (z.length > 0)&&z.cps.all J9)=_
 congr 1
 rw [<- Array.all_toList]
 refine allc λc hc=>?_
 exact UZ ⟨c,h c hc⟩
theorem Qh (c:Nat):TK c=c↔¬ (65<=c/\c<=90):=by
 unfold TK
 split<;>lia
theorem Qg {z:Str} (h:Fp z):(Txt.isalpha z&&decide (Txt.lower z=z))=(decide (1<=z.length)&&z.cps.toList.all Pc):=by
 rw [Lf h]
 have e:(Txt.lower z=z)↔∀ c∈z.cps.toList,¬ (65<=c/\c<=90):=by
  constructor
  ·intro e c hc
   have e2:=EK h
   rw [e] at e2
   have:z.cps.toList.map TK=z.cps.toList.map id:=by rw [List.map_id];exact e2.symm
   have:=List.map_inj_left.mp this c hc
   exact (Qh c).mp this
  ·intro e
   refine Fx ?_
   rw [EK h]
   conv=>rhs;rw [<- List.map_id z.cps.toList]
   exact List.map_congr_left λc hc=>(Qh c).mpr (e c hc)
 by_cases hl:∀ c∈z.cps.toList,¬ (65<=c/\c<=90)
 ·rw [decide_eq_true (e.mpr hl),Bool.and_true]
  congr 1
  refine allc λc hc=>?_
  have:(decide (65<=c)&&decide (c<=90))=false:=by
   have:=hl c hc
   simp only [Bool.and_eq_false_iff,decide_eq_false_iff_not]
   lia
  rw [this,Z3]
 ·rw [decide_eq_false (λq=>hl (e.mp q)),N5]
  symm
  have hl:∃ c∈z.cps.toList,65<=c/\c<=90:=by
   simpa using hl
  obtain ⟨c,hc,h1⟩:=hl
  have:z.cps.toList.all Pc=false:=by
   rw [List.all_eq_false]
   refine ⟨c,hc,?_⟩
   unfold Pc
   simp
   lia
  rw [this,N5]
theorem Ty {z:Str} (h:Fp z):Ay z=(decide (z.length<=8)&&!decide (z∈FN)&&(Txt.isalpha z&&decide (Txt.lower z=z))):=by
 rw [Qg h]
 unfold Ay DQ
 rw [anyk]
 cases decide (z.length<=8)<;>cases decide (1<=z.length)<;>cases z.cps.toList.all Pc<;>cases decide (z∈FN)<;>rfl
theorem Cl {z:Str} {r:List Str}:∀ {F:List (List Str)},(∀ f∈F,∃ s t,f=s::t/\Ep s=false)->Bg F (z::r)=Bg (F.filter λf=>decide (f.head?=some z)) (z::r)
 |[],_=>rfl
 |f::F,h=>by
  obtain ⟨s,t,rfl,hs⟩:=h f C0
  have ih:=Cl (z:=z) (r:=r) λg hg=>h g (A0 _ hg)
  show (match CF (s::t) (z::r) with | some x=>some x | none=>Bg F (z::r))=_
  by_cases e:s=z
  ·rw [j2,if_pos (by rw [e];exact decide_eq_true rfl)]
   show _=(match CF (s::t) (z::r) with | some x=>some x | none=>Bg _ (z::r))
   rw [ih]
  ·rw [j2,if_neg (by show ¬ decide (some s=some z)=true;rw [decide_eq_false (λq=>e (Option.some.inj q))];exact Q0)]
   have:CF (s::t) (z::r)=none:=by
    by_cases el:(s::t).length=(z::r).length
    ·refine Uv ?_
     show ((s::t).length != r.length+1||(!Ep s&&s != z))=true
     rw [hs,X8,K4,bne_iff_ne.mpr e,P7]
    ·unfold CF
     rw [if_neg el]
   rw [this,ih]
theorem Fy:∀ f∈SL,∃ s t,f=s::t/\Ep s=false:=by
 intro f hf
 have:∀ f∈SL,(match f with | []=>false | s::_=>!Ep s)=true:=by lk
 have:=this f hf
 cases f with
 |nil=>cases this
 |cons s t=>exact ⟨s,t,rfl,by simpa using this⟩
def KK:List (Str×Str):=[("errand", "n"),("hear", "n"),("ring", "n"),("raise", "n"),("off", "n"),("group", "n"),("take", "nn"),("ask", "nn"),("send", "nv"),("let", "nv"),("when", "nv"),("wait", "c"),("limit", "c"),("repeat", "t"),("give", "v"),("keep", ""),("try", ""),("do", "")]
def RD (k:Str):List Str:=k.cps.toList.map λc=>(⟨#[c]⟩:Str)
def GZ (k:Str):Str:=if k="v" then "VALUE" else if k="n" then "NAME" else if k="c" then "N" else if k="t" then "ROUNDS" else k
def Dy (z:Str):List (List Str):=SL.filter λf=>decide (f.head?=some z)
theorem TU:∀ p∈KK,Dy p.1=[p.1::(RD p.2).map GZ]:=by lk
theorem UW:Dy "begin"=[Str.ofString "begin"::[Str.ofString "n", "n", "in", "n"].map GZ,Str.ofString "begin"::[Str.ofString "n", "n", "in", "n", "within", "c"].map GZ]:=by lk
theorem Tq {z:Str} (h:z∉KK.map Prod.fst) (h1:z≠"begin") (h2:¬ BJ z) (h3:z≠"end"):Dy z=[]:=by
 have key:∀ f∈SL,∀ s,f.head?=some s->s∈KK.map Prod.fst\/s="begin"\/BJ s\/s="end":=by
  have:∀ f∈SL,(match f.head? with | some s=>decide (s∈KK.map Prod.fst)||decide (s=Str.ofString "begin")||decide (BJ s)||decide (s=Str.ofString "end") | none=>false)=true:=by lk
  intro f hf s hs
  have:=this f hf
  rw [hs] at this
  simp only [O8,decide_eq_true_eq] at this
  rcases this with ((q | q) | q) | q
  ·exact .inl q
  ·exact .inr (.inl q)
  ·exact .inr (.inr (.inl q))
  ·exact .inr (.inr (.inr q))
 unfold Dy
 rw [V3]
 intro f hf e
 have e:=of_decide_eq_true e
 rcases key f hf z e with q | q | q | q
 ·exact h q
 ·exact h1 q
 ·exact h2 q
 ·exact h3 q
def AD (k z:Str):V:=if k="v" then CP z else if k="n" then (if Ay z=true then .str z else .non) else if k="c" then Fi z 1 99 else if k="t" then Fi z 1 9 else if k=z then .str z else .non
theorem Op (k z:Str) (h:k≠"VALUE"/\k≠"NAME"/\k≠"N"/\k≠"ROUNDS"):Bb (GZ k) z=AD k z:=by
 unfold GZ AD Bb
 by_cases h1:k="v"
 ·rw [if_pos h1,if_pos h1,if_neg (by lk),if_neg (by lk),if_pos rfl]
 rw [if_neg h1,if_neg h1]
 by_cases h2:k="n"
 ·rw [if_pos h2,if_pos h2,if_neg (by lk),if_neg (by lk),if_neg (by lk),if_pos rfl]
 rw [if_neg h2,if_neg h2]
 by_cases h3:k="c"
 ·rw [if_pos h3,if_pos h3,if_pos rfl]
 rw [if_neg h3,if_neg h3]
 by_cases h4:k="t"
 ·rw [if_pos h4,if_pos h4,if_neg (by lk),if_pos rfl]
 rw [if_neg h4,if_neg h4,if_neg h.2.2.1,if_neg h.2.2.2,if_neg h.1,if_neg h.2.1]
 by_cases e:k=z
 ·rw [if_pos e,if_pos e.symm]
 ·rw [if_neg e,if_neg (λq=>e q.symm)]
def CI (ks ws:List Str):Option (List V):=if ks.length=ws.length then (if CA .non (N2 AD ks ws)=true then none else some (N2 AD ks ws)) else none
def KOk (ks:List Str):Prop:=∀ k∈ks,k≠"VALUE"/\k≠"NAME"/\k≠"N"/\k≠"ROUNDS"
theorem IS:∀ {ks ws:List Str},KOk ks->N2 Bb (ks.map GZ) ws=N2 AD ks ws
 |[],_,_=>rfl
 |_::_,[],_=>rfl
 |k::ks,w::ws,h=>by
  rw [F1,Y4,Y4,Op k w (h k C0),IS λx hx=>h x (A0 _ hx)]
theorem GP {z:Str} {ks ws:List Str} (hz:Ep z=false) (h:KOk ks):CF (z::ks.map GZ) (z::ws)=(CI ks ws).map λfs=>.str z::fs:=by
 unfold CF CI
 by_cases e:ks.length=ws.length
 ·rw [if_pos (by rw [P0,P0,L0,e]),if_pos e,Y4,IS h,Hm hz]
  have:CA .non (V.str z::N2 AD ks ws)=CA .non (N2 AD ks ws):=by
   unfold CA
   rw [U5]
   rfl
  rw [this]
  by_cases q:CA .non (N2 AD ks ws)=true
  ·rw [if_pos q,if_pos q];rfl
  ·rw [if_neg q,if_neg q];rfl
 ·rw [if_neg (by rw [P0,P0,L0];lia),if_neg e];rfl
def Fu (ws:List Str):Option (List V):=(Bg SL ws).map λfs=>fs.headD .non::CD fs
theorem Uw {p:Str×Str} (hp:p∈KK) (ws:List Str):Bg SL (p.1::ws)=(CI (RD p.2) ws).map λfs=>.str p.1::fs:=by
 rw [Cl Fy]
 show Bg (Dy p.1) _=_
 rw [TU p hp]
 have q:∀ p∈KK,Ep p.1=false/\∀ k∈RD p.2,k≠Str.ofString "VALUE"/\k≠Str.ofString "NAME"/\k≠Str.ofString "N"/\k≠Str.ofString "ROUNDS":=by lk
 show (match CF _ _ with | some x=>some x | none=>none)=_
 rw [GP (q p hp).1 (q p hp).2]
 cases CI (RD p.2) ws<;>rfl
theorem Js {z:Str} (h:Ay z=true):z∉FN:=by
 unfold Ay at h
 rw [anyk,C1,K6,decide_eq_false_iff_not] at h
 exact h.2
theorem Df {z:Str} (h:Ay z=true):RL (.str z):=Nq (λe=>Js h (by rw [e];lk)) (λe=>Js h (by rw [e];lk))
theorem Ic (z:Str) (lo hi:Int):Fi z lo hi=.non\/∃ n,Fi z lo hi=.int n:=by
 unfold Fi
 split
 ·split
  ·exact .inr ⟨_,rfl⟩
  ·exact .inl rfl
 ·exact .inl rfl
theorem QM {z:Str} (h:Cb z=true):RL (.str z):=by
 unfold Cb at h
 rw [C1] at h
 refine Nq (λe=>?_) (λe=>?_)<;>rw [e] at h<;>exact absurd h.1 (by lk)
theorem Mv (z:Str):CP z=.non\/(∃ n,CP z=.int n)\/(CP z=.str z/\(Ay z=true\/Cb z=true)):=by
 unfold CP
 split
 ·split
  ·exact .inr (.inl ⟨_,rfl⟩)
  ·exact .inl rfl
 ·split
  ·rename_i h
   have h:(Ay z||Cb z)=true:=h
   exact .inr (.inr ⟨rfl,by simpa using h⟩)
  ·exact .inl rfl
abbrev KH (k:Str):Prop:=k="v"\/k="n"\/k="c"\/k="t"
theorem Ik {k z:Str} (hk:KH k):AD k z=.non\/(RL (AD k z)/\Ch (AD k z)=true):=by
 unfold AD
 rcases hk with rfl | rfl | rfl | rfl
 ·rw [if_pos rfl]
  rcases Mv z with e | ⟨n,e⟩ | ⟨e,h | h⟩
  ·exact .inl e
  ·rw [e];exact .inr ⟨rfl,rfl⟩
  ·rw [e];exact .inr ⟨Df h,rfl⟩
  ·rw [e];exact .inr ⟨QM h,rfl⟩
 ·rw [if_neg (by lk),if_pos rfl]
  by_cases h:Ay z=true
  ·rw [if_pos h];exact .inr ⟨Df h,rfl⟩
  ·rw [if_neg h];exact .inl rfl
 ·rw [if_neg (by lk),if_neg (by lk),if_pos rfl]
  rcases Ic z 1 99 with e | ⟨n,e⟩
  ·exact .inl e
  ·rw [e];exact .inr ⟨rfl,rfl⟩
 ·rw [if_neg (by lk),if_neg (by lk),if_neg (by lk),if_pos rfl]
  rcases Ic z 1 9 with e | ⟨n,e⟩
  ·exact .inl e
  ·rw [e];exact .inr ⟨rfl,rfl⟩
theorem CC {x:V} {r:List V} (h:¬ CA .non (x::r)=true):x≠.non/\¬ CA .non r=true:=by
 unfold CA at h |-
 rw [U5,O8,not_or] at h
 exact ⟨λe=>h.1 (by rw [e];rfl),h.2⟩
theorem MA:∀ {ks ws:List Str},(∀ k∈ks,KH k)->¬ CA .non (N2 AD ks ws)=true->∀ v∈N2 AD ks ws,RL v/\Ch v=true
 |[],_,_,_,v,hv=>by cases hv
 |_::_,[],_,_,v,hv=>by cases hv
 |k::ks,w::ws,hk,h,v,hv=>by
  rw [Y4] at h hv
  obtain ⟨h1,h2⟩:=CC h
  rcases K0.mp hv with rfl | hv
  ·exact (Ik (hk k C0)).resolve_left h1
  ·exact MA (λx hx=>hk x (A0 _ hx)) h2 v hv
theorem GV {ks ws:List Str} {fs:List V} (h:CI ks ws=some fs):ks.length=ws.length/\fs=N2 AD ks ws/\¬ CA .non fs=true:=by
 unfold CI at h
 split at h
 ·rename_i e
  split at h
  ·cases h
  ·rename_i q
   cases h
   exact ⟨e,rfl,q⟩
 ·cases h
theorem SO {p:Str×Str} (hp:p∈KK) (ws:List Str):Fu (p.1::ws)=(CI (RD p.2) ws).map λfs=>.str p.1::fs:=by
 unfold Fu
 rw [Uw hp]
 have q:∀ p∈KK,p.1≠Str.ofString "begin"/\∀ k∈RD p.2,KH k:=by lk
 cases e:CI (RD p.2) ws with
 |none=>rfl
 |some fs =>
  obtain ⟨e1,e2,e3⟩:=GV e
  have:CD (.str p.1::fs)=fs:=TX (q p hp).1 λv hv=>by
   rw [e2] at hv e3
   exact (MA (q p hp).2 e3 v hv).1
  show some (_::CD (.str p.1::fs))=_
  rw [this]
  rfl
theorem Hu {k z:Str} (h:¬ KH k):AD k z=if k=z then .str z else .non:=by
 unfold AD
 rw [if_neg (λe=>h (.inl e)),if_neg (λe=>h (.inr (.inl e))),if_neg (λe=>h (.inr (.inr (.inl e)))),if_neg (λe=>h (.inr (.inr (.inr e))))]
theorem GR {z:Str} (h:Ay z=true):Em (.str z) (.str "within")=false:=by
 rw [Da];exact decide_eq_false λe=>Js h (by rw [<- e];lk)
def RU:List Str:=["n", "n", "in", "n"]
def RM:List Str:=["n", "n", "in", "n", "within", "c"]
theorem FQ {z:Str} (h:AD "n" z≠.non):AD "n" z=.str z/\Ay z=true:=by
 have e:AD "n" z=if Ay z=true then .str z else .non:=by
  unfold AD
  rw [if_neg (by lk),if_pos rfl]
 rw [e] at h |-
 by_cases q:Ay z=true
 ·exact ⟨if_pos q,q⟩
 ·rw [if_neg q] at h;exact absurd rfl h
theorem IU {k z:Str} (h:AD k z≠.non) (hk:¬ KH k):AD k z=.str k:=by
 rw [Hu hk] at h |-
 by_cases q:k=z
 ·rw [if_pos q,q]
 ·rw [if_neg q] at h;exact absurd rfl h
theorem FZ {α:Type} {l:List α} {n:Nat} (h:l.length=n+1):∃ a r,l=a::r/\r.length=n:=by
 cases l with
 |nil=>cases h
 |cons a r=>exact ⟨a,r,rfl,U8.inj h⟩
theorem OH {α:Type} {l:List α} (h:l.length=1):∃ a,l=[a]:=by
 obtain ⟨a,r,e,h2⟩:=FZ h
 exact ⟨a,by rw [e,P3.mp h2]⟩
theorem Se {α:Type} {l:List α} (h:l.length=2):∃ a b,l=[a,b]:=by
 obtain ⟨a,r,e,h2⟩:=FZ h
 obtain ⟨b,e2⟩:=OH h2
 exact ⟨a,b,by rw [e,e2]⟩
theorem Mb {α:Type} {l:List α} (h:l.length=4):∃ a b c d,l=[a,b,c,d]:=by
 obtain ⟨a,r,e,h2⟩:=FZ h
 obtain ⟨b,r2,e2,h3⟩:=FZ h2
 obtain ⟨c,d,e3⟩:=Se h3
 exact ⟨a,b,c,d,by rw [e,e2,e3]⟩
theorem UY {ws:List Str} {fs:List V} (h:CI RU ws=some fs):∃ a b c:Str,fs=[.str a,.str b,.str "in",.str c]/\Ay a=true/\Ay b=true/\Ay c=true:=by
 obtain ⟨e1,e2,e3⟩:=GV h
 obtain ⟨a,b,i,c,rfl⟩:=Mb e1.symm
 have e2:fs=[AD "n" a,AD "n" b,AD "in" i,AD "n" c]:=e2
 rw [e2] at e3
 obtain ⟨n1,e3⟩:=CC e3
 obtain ⟨n2,e3⟩:=CC e3
 obtain ⟨n3,e3⟩:=CC e3
 obtain ⟨n4,e3⟩:=CC e3
 obtain ⟨q1,r1⟩:=FQ n1
 obtain ⟨q2,r2⟩:=FQ n2
 obtain ⟨q4,r4⟩:=FQ n4
 refine ⟨a,b,c,?_,r1,r2,r4⟩
 rw [e2,q1,q2,q4,IU n3 (by lk)]
theorem UX {ws:List Str} {fs:List V} (h:CI RM ws=some fs):∃ (a b c:Str) (n:Int),fs=[.str a,.str b,.str "in",.str c,.str "within",.int n]/\Ay a=true/\Ay b=true/\Ay c=true:=by
 obtain ⟨e1,e2,e3⟩:=GV h
 obtain ⟨a,r,e4,h5⟩:=FZ e1.symm
 obtain ⟨b,r2,e5,h6⟩:=FZ h5
 obtain ⟨i,c,j,d,e6⟩:=Mb h6
 obtain rfl:ws=[a,b,i,c,j,d]:=by rw [e4,e5,e6]
 have e2:fs=[AD "n" a,AD "n" b,AD "in" i,AD "n" c,AD "within" j,AD "c" d]:=e2
 rw [e2] at e3
 obtain ⟨n1,e3⟩:=CC e3
 obtain ⟨n2,e3⟩:=CC e3
 obtain ⟨n3,e3⟩:=CC e3
 obtain ⟨n4,e3⟩:=CC e3
 obtain ⟨n5,e3⟩:=CC e3
 obtain ⟨n6,e3⟩:=CC e3
 obtain ⟨q1,r1⟩:=FQ n1
 obtain ⟨q2,r2⟩:=FQ n2
 obtain ⟨q4,r4⟩:=FQ n4
 have ec:AD "c" d=Fi d 1 99:=by
  unfold AD
  rw [if_neg (by lk),if_neg (by lk),if_pos rfl]
 rw [ec] at n6
 obtain ⟨n,en⟩:=(Ic d 1 99).resolve_left n6
 refine ⟨a,b,c,n,?_,r1,r2,r4⟩
 rw [e2,q1,q2,q4,IU n3 (by lk),IU n5 (by lk),ec,en]
theorem keep4 {a b c:Str} (ha:Ay a=true) (hb:Ay b=true) (hc:Ay c=true):CD [.str "begin",.str a,.str b,.str "in",.str c]=[.str a,.str b,.str c,.int 0]:=by
 have na:(!CA (.str a) [.str "in",.str "within"])=true:=by rw [show CA _ _=false from Df ha];rfl
 have nb:(!CA (.str b) [.str "in",.str "within"])=true:=by rw [show CA _ _=false from Df hb];rfl
 have nc:(!CA (.str c) [.str "in",.str "within"])=true:=by rw [show CA _ _=false from Df hc];rfl
 unfold CD
 have e:CA (.str "within") [.str "begin",.str a,.str b,.str "in",.str c]=false:=by
  unfold CA
  simp only [U5,List.any_nil,GR ha,GR hb,GR hc,C7,Z3]
  lk
 rw [if_pos ⟨rfl,e⟩]
 show (([V.str a,.str b,.str "in",.str c].filter λv=>!CA v [.str "in",.str "within"])++[.int 0])=_
 rw [j2,if_pos na,j2,if_pos nb,j2,if_neg (by lk),j2,if_pos nc]
 rfl
theorem keep6 {a b c:Str} {n:Int} (ha:Ay a=true) (hb:Ay b=true) (hc:Ay c=true):CD [.str "begin",.str a,.str b,.str "in",.str c,.str "within",.int n]=[.str a,.str b,.str c,.int n]:=by
 have na:(!CA (.str a) [.str "in",.str "within"])=true:=by rw [show CA _ _=false from Df ha];rfl
 have nb:(!CA (.str b) [.str "in",.str "within"])=true:=by rw [show CA _ _=false from Df hb];rfl
 have nc:(!CA (.str c) [.str "in",.str "within"])=true:=by rw [show CA _ _=false from Df hc];rfl
 unfold CD
 have e:CA (.str "within") [.str "begin",.str a,.str b,.str "in",.str c,.str "within",.int n]=true:=by
  unfold CA
  rw [J7]
  exact ⟨.str "within",by simp,by lk⟩
 rw [if_neg (λq=>by rw [e] at q;exact nomatch q.2)]
 show (([V.str a,.str b,.str "in",.str c,.str "within",.int n].filter λv=>!CA v [.str "in",.str "within"])++[])=_
 rw [j2,if_pos na,j2,if_pos nb,j2,if_neg (by lk),j2,if_pos nc,j2,if_neg (by lk)]
 rfl
theorem Kv (ws:List Str):Fu ("begin"::ws)=if 4<ws.length then (CI RM ws).map (λfs=>[.str "begin",fs.getD 0 .non,fs.getD 1 .non,fs.getD 3 .non,fs.getD 5 .non]) else (CI RU ws).map (λfs=>[.str "begin",fs.getD 0 .non,fs.getD 1 .non,fs.getD 3 .non,.int 0]):=by
 have ok:Ep "begin"=false/\KOk RU/\KOk RM:=by unfold KOk;lk
 have e:Bg SL ("begin"::ws)=match (CI RU ws).map (λfs=>V.str "begin"::fs) with | some x=>some x | none=>(CI RM ws).map (λfs=>V.str "begin"::fs):=by
  rw [Cl Fy]
  show Bg (Dy "begin") _=_
  rw [UW]
  show (match CF (Str.ofString "begin"::RU.map GZ) (Str.ofString "begin"::ws) with | some x=>some x | none=>(match CF (Str.ofString "begin"::RM.map GZ) (Str.ofString "begin"::ws) with | some x=>some x | none=>none))=_
  rw [GP (ks:=RU) ok.1 ok.2.1,GP (ks:=RM) ok.1 ok.2.2]
  cases CI RU ws<;>cases CI RM ws<;>rfl
 unfold Fu
 rw [e]
 have n4:ws.length≠4->CI RU ws=none:=λh=>by unfold CI;rw [if_neg (λq=>h q.symm)]
 have n6:ws.length≠6->CI RM ws=none:=λh=>by unfold CI;rw [if_neg (λq=>h q.symm)]
 by_cases h:4<ws.length
 ·rw [if_pos h,n4 (by lia)]
  cases q:CI RM ws with
  |none=>rfl
  |some fs =>
   obtain ⟨a,b,c,n,rfl,ha,hb,hc⟩:=UX q
   show some (_::CD [.str "begin",.str a,.str b,.str "in",.str c,.str "within",.int n])=_
   rw [keep6 ha hb hc]
   rfl
 ·rw [if_neg h]
  have q6:CI RM ws=none:=n6 (by lia)
  cases q:CI RU ws with
  |none=>rw [q6];rfl
  |some fs =>
   obtain ⟨a,b,c,rfl,ha,hb,hc⟩:=UY q
   show some (_::CD [.str "begin",.str a,.str b,.str "in",.str c])=_
   rw [keep4 ha hb hc]
   rfl
theorem SN {z:Str} {ws:List Str} (h:z∉KK.map Prod.fst) (h1:z≠"begin") (h2:¬ BJ z) (h3:z≠"end"):Fu (z::ws)=none:=by
 unfold Fu
 rw [Cl Fy]
 show Option.map _ (Bg (Dy z) _)=_
 rw [Tq h h1 h2 h3]
 rfl
set_option genInjectivity false in
structure Lb where
 p:Addr
 t:Addr
 L:Addr
 r:Addr
 o:Option Addr
def Lb.own (b:Lb):List Addr:=b.p::b.L::b.r::b.o.toList
structure IF (H:Hp) (b:Lb) (F:Fq):Prop where
 fr:∃ (z:Str) (n:Int) (th:List V) (fa:V),F.hd=.str z::.int n::th/\H b.p=some (.lst [.str z,.int n,.ref b.t,.ref b.L,fa])/\H b.t=some (.tup th)/\th.length<=10/\(∀ v∈th,Ch v=true)/\(z="try"->th=[]/\(F.tn=true->F.tf=[fa]/\Ch fa=true))/\(z≠"try"->F.tf=[])
 ls:H b.L=some (.lst (.ref b.r::b.o.toList.map V.ref))
 rs:∃ xs,H b.r=some (.lst xs)/\By H xs F.rs
 os:(b.o=none/\F.tn=false/\F.os=[])\/∃ q ys,b.o=some q/\F.tn=true/\H q=some (.lst ys)/\By H ys F.os
theorem IF.there {H:Hp} {b:Lb} {F:Fq} (U:IF H b F):∀ a∈b.own,∃ xs,H a=some (.lst xs):=by
 intro a ha
 obtain ⟨z,n,th,fa,_,h1,_⟩:=U.fr
 obtain ⟨xs,x1,_⟩:=U.rs
 simp only [Lb.own,K0] at ha
 rcases ha with rfl | rfl | rfl | ha
 ·exact ⟨_,h1⟩
 ·exact ⟨_,U.ls⟩
 ·exact ⟨_,x1⟩
 ·rcases U.os with ⟨e,_⟩ | ⟨q,ys,e,_,h2,_⟩
  ·rw [e] at ha;cases ha
  ·rw [e] at ha
   cases M0.mp ha
   exact ⟨_,h2⟩
theorem IF.sameT {H H':Hp} {b:Lb} {F:Fq} (U:IF H b F) (s:Bq H H') (o:∀ a∈b.own,H' a=H a):IF H' b F:=by
 obtain ⟨z,n,th,fa,e1,h1,h2,h3⟩:=U.fr
 obtain ⟨xs,x1,x2⟩:=U.rs
 refine ⟨⟨z,n,th,fa,e1,by rw [o _ (by simp [Lb.own])];exact h1,s _ _ h2,h3⟩,by rw [o _ (by simp [Lb.own])];exact U.ls,⟨xs,by rw [o _ (by simp [Lb.own])];exact x1,x2.sameT s⟩,?_⟩
 rcases U.os with h | ⟨q,ys,e,e2,h2,h3⟩
 ·exact .inl h
 ·exact .inr ⟨q,ys,e,e2,by rw [o _ (by simp [Lb.own,e])];exact h2,h3.sameT s⟩
theorem IF.same {H H':Hp} {b:Lb} {F:Fq} (U:IF H b F) (s:Ag H H'):IF H' b F :=
 U.sameT (AE s) λa ha=>by
  obtain ⟨u,e⟩:=U.there a ha
  rw [e];exact s _ _ e
theorem IF.notT {H:Hp} {b:Lb} {F:Fq} (U:IF H b F) {a:Addr} {ys:List V} (h:H a=some (.tup ys)):a∉b.own:=λha=>by
 obtain ⟨u,e⟩:=U.there a ha
 rw [h] at e;cases e
structure GA (H0 H:Hp) (pa ua:Addr) (s:St) (Bs:List Lb) (c:Nat):Prop where
 out:Ag H0 H
 new:∀ a∈pa::ua::Bs.flatMap Lb.own,H0 a=none
 pr:∃ xs,H pa=some (.lst xs)/\By H xs s.pg
 ul:H ua=some (.lst (Bs.map λb=>V.ref b.p))
 len:Bs.length=s.un.length
 le:s.un.length<=21
 each:∀ (i:Nat) (b:Lb) (F:Fq),Bs[i]?=some b->s.un[i]?=some F->IF H b F
 nd:(pa::ua::Bs.flatMap Lb.own).Nodup
 ct:s.pg.length<=c/\∀ F∈s.un,F.rs.length<=c/\F.os.length<=c
section
variable {H0 H H':Hp} {pa ua:Addr} {pg:List Tr} {S:List Fq} {F F':Fq} {Bs Cs:List Lb} {b b':Lb} {c c':Nat} {st:St}
theorem EQ (Cs:List Lb) (b:Lb):(Cs++[b]).flatMap Lb.own=Cs.flatMap Lb.own++b.own:=by simp
theorem ownL {i:Nat} (h:Bs[i]?=some b) {a:Addr} (ha:a∈b.own):a∈Bs.flatMap Lb.own:=M3.mpr ⟨b,E1 h,ha⟩
theorem GA.there (R:GA H0 H pa ua st Bs c):∀ a∈pa::ua::Bs.flatMap Lb.own,∃ xs,H a=some (.lst xs):=by
 intro a ha
 rcases K0.mp ha with rfl | ha
 ·obtain ⟨xs,x1,_⟩:=R.pr
  exact ⟨_,x1⟩
 rcases K0.mp ha with rfl | ha
 ·exact ⟨_,R.ul⟩
 obtain ⟨b,hb,ha⟩:=M3.mp ha
 obtain ⟨i,hi⟩:=L4 hb
 have lt:i<st.un.length:=by rw [<- R.len];exact (d0.mp hi).1
 exact (R.each i b _ hi (x0 lt)).there a ha
theorem GA.same (R:GA H0 H pa ua st Bs c) (sm:Ag H H'):GA H0 H' pa ua st Bs c:=by
 obtain ⟨xs,x1,x2⟩:=R.pr
 exact ⟨R.out.trans sm,R.new,⟨xs,sm _ _ x1,x2.sameT (AE sm)⟩,sm _ _ R.ul,R.len,R.le,λi b F h1 h2=>(R.each i b F h1 h2).same sm,R.nd,R.ct⟩
theorem GA.mono (R:GA H0 H pa ua st Bs c) (h:c<=c'):GA H0 H pa ua st Bs c' :=
 ⟨R.out,R.new,R.pr,R.ul,R.len,R.le,R.each,R.nd,T0 R.ct.1 h,λF hF=>⟨T0 (R.ct.2 F hF).1 h,T0 (R.ct.2 F hF).2 h⟩⟩
theorem GA.split (R:GA H0 H pa ua ⟨pg,S++[F]⟩ Bs c):∃ Cs b,Bs=Cs++[b]/\Cs.length=S.length:=by
 have hl:=R.len
 have hl':Bs.length=S.length+1:=by rw [hl];exact B0
 obtain ⟨Cs,b,rfl⟩:=CY (xs:=Bs) (by lia)
 rw [B0] at hl'
 exact ⟨Cs,b,rfl,by simpa using hl'⟩
theorem GA.top (R:GA H0 H pa ua ⟨pg,S++[F]⟩ (Cs++[b]) c) (h:Cs.length=S.length):IF H b F:=R.each S.length b F (by rw [<- h];exact Ba) Ba
theorem GA.ixTop {K:J0} {Q:VK} (R:GA H0 H pa ua st (Cs++[b]) c) (k:Q (.ref b.p) H):DS K (.ref ua) (.int (-1)) H Q:=by
 refine ⟨ua,_,-1,.ref b.p,rfl,rfl,Aw.of R.ul,?_,k⟩
 rw [o0]
 exact JN _ _
theorem GA.mod (R:GA H0 H pa ua ⟨pg,S++[F]⟩ (Cs++[b]) c) (hl:Cs.length=S.length) (U:IF H' b' F') (e1:b'.p=b.p) (hn:∀ a∈b'.own,a∈b.own\/H a=none) (hd:b'.own.Nodup) (k:∀ a u,a∉b.own->H a=some u->H' a=some u) (hc:c<=c') (h1:F'.rs.length<=c') (h2:F'.os.length<=c'):GA H0 H' pa ua ⟨pg,S++[F']⟩ (Cs++[b']) c':=by
 have U0:=R.top hl
 have nd:=R.nd
 rw [EQ] at nd
 have nd2:((pa::ua::Cs.flatMap Lb.own)++b.own).Nodup:=nd
 have nin:∀ a∈pa::ua::Cs.flatMap Lb.own,a∉b.own:=λa ha hb=>(F2.mp nd2).2.2 a ha a hb rfl
 have sT:Bq H H':=λa ys h=>k a _ (U0.notT h) h
 obtain ⟨xs,x1,x2⟩:=R.pr
 have ob2:∀ {a u},a∈pa::ua::Cs.flatMap Lb.own->H a=some u->H' a=some u:=λha h=>k _ _ (nin _ ha) h
 have inB:∀ {a},a∈pa::ua::Cs.flatMap Lb.own->a∈pa::ua::(Cs++[b]).flatMap Lb.own:=λ{a} ha=>by
  rw [EQ]
  exact (show a∈(pa::ua::Cs.flatMap Lb.own)++b.own from p0 _ ha)
 refine ⟨λa u h=>?_,λa ha=>?_,⟨xs,ob2 C0 x1,x2.sameT sT⟩,?_,?_,?_,?_,?_,?_⟩
 ·refine k a u (λhb=>?_) (R.out a u h)
  have:=R.new a (by rw [EQ];exact (show a∈(pa::ua::Cs.flatMap Lb.own)++b.own from S0 _ hb))
  rw [this] at h;cases h
 ·rw [EQ] at ha
  rcases X0.mp (show a∈(pa::ua::Cs.flatMap Lb.own)++b'.own from ha) with q | q
  ·exact R.new a (inB q)
  ·rcases hn a q with q | q
   ·exact R.new a (by rw [EQ];exact (show a∈(pa::ua::Cs.flatMap Lb.own)++b.own from S0 _ q))
   ·exact R.out.free q
 ·have:=ob2 (A0 _ C0) R.ul
  rw [o0] at this |-
  show H' ua=some (.lst (Cs.map (λb=>V.ref b.p)++[.ref b'.p]))
  rw [e1]
  exact this
 ·rw [B0,hl]
  show S.length+1=(S++[F']).length
  rw [B0]
  rfl
 ·have:=R.le
  have e:(S++[F]).length=(S++[F']).length:=by rw [B0,B0];rfl
  show (S++[F']).length<=21
  rw [<- e];exact this
 ·intro i d G h1 h2
  rcases Cp h1 with ⟨lt,h1⟩ | ⟨ei,ed⟩
  ·have lt2:i<S.length:=by lia
   have h2':S[i]?=some G:=by rw [<- h2];exact (Z0 lt2).symm
   have UU:=R.each i d G (by rw [Z0 lt];exact h1) (by rw [Z0 lt2];exact h2')
   refine UU.sameT sT λa ha=>?_
   obtain ⟨u,hu⟩:=UU.there a ha
   rw [hu]
   exact ob2 (A0 _ (A0 _ (ownL h1 ha))) hu
  ·rw [ei,hl] at h2
   have:(S++[F'])[S.length]?=some F':=Ba
   rw [show (⟨pg,S++[F']⟩:St).un=S++[F'] from rfl,this] at h2
   cases h2
   rw [ed]
   exact U
 ·rw [EQ]
  show ((pa::ua::Cs.flatMap Lb.own)++b'.own).Nodup
  refine F2.mpr ⟨(F2.mp nd2).1,hd,λx hx a ha e=>?_⟩
  subst e
  rcases hn x ha with q | q
  ·exact nin x hx q
  ·obtain ⟨u,hu⟩:=R.there x (inB hx)
   rw [q] at hu;cases hu
 ·refine ⟨T0 R.ct.1 hc,λG hG=>?_⟩
  rcases X0.mp (show G∈S++[F'] from hG) with q | q
  ·have:=R.ct.2 G (p0 _ q)
   exact ⟨T0 this.1 hc,T0 this.2 hc⟩
  ·rw [M0.mp q];exact ⟨h1,h2⟩
theorem GA.pop (R:GA H0 H pa ua ⟨pg,S++[F]⟩ (Cs++[b]) c) (hl:Cs.length=S.length):GA H0 (upd H ua (.lst (Cs.map λb=>V.ref b.p))) pa ua ⟨pg,S⟩ Cs c:=by
 have nd:=R.nd
 rw [EQ] at nd
 have nd2:((pa::ua::Cs.flatMap Lb.own)++b.own).Nodup:=nd
 have sT:Bq H (upd H ua (.lst (Cs.map λb=>V.ref b.p))):=Bw R.ul
 have nua:∀ a∈Cs.flatMap Lb.own++b.own,a≠ua:=λa ha e=>(Y0.mp (Y0.mp nd).2).1 (e▸ha)
 have npa:pa≠ua:=λe=>(Y0.mp nd).1 (by rw [e];exact C0)
 obtain ⟨xs,x1,x2⟩:=R.pr
 have hle:=R.le
 have hle':S.length+1<=21:=by
  have e:(S++[F]).length=S.length+1:=B0
  rw [<- e];exact hle
 refine ⟨λa u h=>?_,λa ha=>R.new a ?_,⟨xs,by rw [Ap npa];exact x1,x2.sameT sT⟩,Ad,hl,(show S.length<=21 by lia),λi d G h1 h2=>?_,(F2.mp nd2).1,R.ct.1,λG hG=>R.ct.2 G (p0 _ hG)⟩
 ·rw [Ap (λe=>by rw [e,R.new ua (A0 _ C0)] at h;cases h)]
  exact R.out a u h
 ·rw [EQ]
  exact (show a∈(pa::ua::Cs.flatMap Lb.own)++b.own from p0 _ ha)
 ·have lt:i<Cs.length:=(d0.mp h1).1
  have lt2:i<S.length:=by lia
  have UU:=R.each i d G (by rw [Z0 lt];exact h1) (by rw [Z0 lt2];exact h2)
  exact UU.sameT sT λa ha=>Ap (nua a (p0 _ (ownL h1 ha)))
theorem GA.addP (R:GA H0 H pa ua ⟨pg,S⟩ Bs c) {xs:List V} {v:V} {t:Tr} (hx:H pa=some (.lst xs)) (hr:By H xs pg) (hv:ET H v t):GA H0 (upd H pa (.lst (xs++[v]))) pa ua ⟨pg++[t],S⟩ Bs (c+1):=by
 have nd:=R.nd
 have sT:Bq H (upd H pa (.lst (xs++[v]))):=Bw hx
 have n1:=(Y0.mp nd).1
 have nu:ua≠pa:=λe=>n1 (by rw [<- e];exact C0)
 refine ⟨λa u h=>?_,R.new,⟨_,Ad,(hr.sameT sT).snoc (hv.sameT sT)⟩,by rw [Ap nu];exact R.ul,R.len,R.le,λi d G h1 h2=>(R.each i d G h1 h2).sameT sT λa ha=>Ap (λe=>n1 (by rw [<- e];exact A0 _ (ownL h1 ha))),nd,?_,λG hG=>?_⟩
 ·rw [Ap (λe=>by rw [e,R.new pa C0] at h;cases h)]
  exact R.out a u h
 ·rw [B0]
  exact g5 R.ct.1
 ·have:=R.ct.2 G hG
  exact ⟨X3 this.1,X3 this.2⟩
theorem GA.push (R:GA H0 H pa ua ⟨pg,S⟩ Bs c) (hl:S.length<=20) (s:Ag H H') (U:IF H' b F) (hn:∀ a∈b.own,H a=none) (hd:b.own.Nodup) (h1:F.rs.length<=c) (h2:F.os.length<=c):GA H0 (upd H' ua (.lst (Bs.map (λb=>V.ref b.p)++[.ref b.p]))) pa ua ⟨pg,S++[F]⟩ (Bs++[b]) c:=by
 have R2:=R.same s
 have nd:=R.nd
 have sT:Bq H' (upd H' ua (.lst (Bs.map (λb=>V.ref b.p)++[.ref b.p]))):=Bw R2.ul
 have npa:pa≠ua:=λe=>(Y0.mp nd).1 (by rw [e];exact C0)
 have n1:=(Y0.mp (Y0.mp nd).2).1
 have nb:∀ a∈b.own,∀ x∈pa::ua::Bs.flatMap Lb.own,x≠a:=λa ha x hx e=>by
  obtain ⟨u,hu⟩:=R.there x hx
  rw [e,hn a ha] at hu
  cases hu
 obtain ⟨xs,x1,x2⟩:=R2.pr
 refine ⟨λa u h=>?_,λa ha=>?_,⟨xs,by rw [Ap npa];exact x1,x2.sameT sT⟩,?_,?_,?_,λi d G h1 h2=>?_,?_,R.ct.1,λG hG=>?_⟩
 ·rw [Ap (λe=>by rw [e,R.new ua (A0 _ C0)] at h;cases h)]
  exact R2.out a u h
 ·rw [EQ] at ha
  rcases X0.mp (show a∈(pa::ua::Bs.flatMap Lb.own)++b.own from ha) with q | q
  ·exact R.new a q
  ·exact R.out.free (hn a q)
 ·rw [Ad,o0]
  rfl
 ·rw [B0,R.len]
  show S.length+1=(S++[F]).length
  rw [B0]
  rfl
 ·show (S++[F]).length<=21
  rw [B0]
  show S.length+1<=21
  lia
 ·rcases Cp h1 with ⟨lt,h1⟩ | ⟨ei,ed⟩
  ·have lt2:i<S.length:=by have:=R.len;rw [this] at lt;exact lt
   have UU:=R2.each i d G h1 (by rw [<- h2];exact (Z0 lt2).symm)
   exact UU.sameT sT λa ha=>Ap (λe=>n1 (by rw [<- e];exact ownL h1 ha))
  ·have hl2:Bs.length=S.length:=R.len
   rw [ei,hl2] at h2
   have:(S++[F])[S.length]?=some F:=Ba
   rw [show (⟨pg,S++[F]⟩:St).un=S++[F] from rfl,this] at h2
   cases h2
   rw [ed]
   exact U.sameT sT λa ha=>Ap (λe=>nb a ha ua (A0 _ C0) e.symm)
 ·rw [EQ]
  show ((pa::ua::Bs.flatMap Lb.own)++b.own).Nodup
  exact F2.mpr ⟨nd,hd,λx hx a ha=>nb a ha x hx⟩
 ·rcases X0.mp (show G∈S++[F] from hG) with q | q
  ·exact R.ct.2 G q
  ·rw [M0.mp q];exact ⟨h1,h2⟩
theorem GA.first {H:Hp} {pa ua:Addr} (h1:H pa=some (.lst [])) (h2:H ua=some (.lst [])) (n:pa≠ua):GA (EM H [pa,ua]) H pa ua ⟨[],[]⟩ [] 0:=by
 refine ⟨HV _ _,λa ha=>HW _ ha,⟨[],h1,By.nil _⟩,h2,rfl,N1 _,(λ_ _ _ h=>nomatch h),?_,V0 _,(λ_ h=>nomatch h)⟩
 show [pa,ua].Nodup
 simp [n]
end
theorem Ry:Dy "end"=[[Str.ofString "end"]]:=by lk
theorem Pa:Dy "late"=[[Str.ofString "late"]]:=by lk
theorem Pb:Dy "last"=[[Str.ofString "last"]]:=by lk
theorem RJ:Dy "but"=[[Str.ofString "but", "NAME"],[Str.ofString "but", "any"]]:=by lk
theorem Mg {z:Str} (hz:Ep z=false) (r:List Str):CF [z] (z::r)=if r=[] then some [.str z] else none:=by
 unfold CF
 cases r with
 |nil =>
  rw [if_pos rfl,if_pos rfl]
  show (if CA .non [Bb z z]=true then none else some [Bb z z])=_
  rw [Hm hz]
  rfl
 |cons a r=>rw [if_neg (by simp),if_neg (λe=>nomatch e)]
theorem KP (r:List Str):Bg SL ("end"::r)=if r=[] then some [.str "end"] else none:=by
 rw [Cl Fy]
 show Bg (Dy "end") _=_
 rw [Ry]
 show (match CF [Str.ofString "end"] _ with | some x=>some x | none=>none)=_
 rw [Mg (by lk)]
 by_cases h:r=[]
 ·rw [if_pos h]
 ·rw [if_neg h]
def DZ (z:Str) (r:List Str):Option (List V):=if z="but" then (match r with | [y]=>if y="any"\/Ay y=true then some [.str y] else none | _=>none) else if r=[] then some [] else none
theorem but_no {r:List Str} (h:r.length≠1\/∃ y',r=[y']/\¬ (y'="any"\/Ay y'=true)):DZ "but" r=none:=by
 unfold DZ
 rw [if_pos rfl]
 cases r with
 |nil=>rfl
 |cons y r =>
  cases r with
  |nil =>
   rcases h with h | ⟨y2,e,h⟩
   ·exact absurd rfl h
   ·cases e
    exact if_neg h
  |cons _ _=>rfl
theorem JG {z:Str} (hz:BJ z) (r:List Str):Bg SL (z::r)=(DZ z r).map λtf=>.str z::tf:=by
 rw [Cl Fy]
 show Bg (Dy z) _=_
 unfold DZ
 rcases hz with rfl | rfl | rfl
 ·rw [Pa,if_neg (by lk)]
  show (match CF [Str.ofString "late"] _ with | some x=>some x | none=>none)=_
  rw [Mg (by lk)]
  by_cases h:r=[]
  ·rw [if_pos h,if_pos h];rfl
  ·rw [if_neg h,if_neg h];rfl
 ·rw [RJ,if_pos rfl]
  show (match CF [Str.ofString "but", "NAME"] _ with | some x=>some x | none=>(match CF [Str.ofString "but", "any"] _ with | some x=>some x | none=>none))=_
  match r with
  |[]=>rfl
  |[y] =>
   have lb:Bb "but" "but"=.str "but":=Hm (by lk)
   have e1:CF [Str.ofString "but", "NAME"] [Str.ofString "but",y]=if Ay y=true then some [.str "but",.str y] else none:=by
    show (if CA .non [Bb "but" "but",Bb "NAME" y]=true then none else some [Bb "but" "but",Bb "NAME" y])=_
    have en:Bb "NAME" y=if Ay y=true then .str y else .non:=by
     unfold Bb
     rw [if_neg (by lk),if_neg (by lk),if_neg (by lk),if_pos rfl]
    rw [lb,en]
    by_cases h:Ay y=true
    ·rw [if_pos h,if_pos h];rfl
    ·rw [if_neg h,if_neg h];rfl
   have e2:CF [Str.ofString "but", "any"] [Str.ofString "but",y]=if y="any" then some [.str "but",.str y] else none:=by
    show (if CA .non [Bb "but" "but",Bb "any" y]=true then none else some [Bb "but" "but",Bb "any" y])=_
    have en:Bb "any" y=if y="any" then .str y else .non:=by
     unfold Bb
     rw [if_neg (by lk),if_neg (by lk),if_neg (by lk),if_neg (by lk)]
    rw [lb,en]
    by_cases h:y="any"
    ·rw [if_pos h,if_pos h];rfl
    ·rw [if_neg h,if_neg h];rfl
   rw [e1,e2]
   show _=Option.map _ (if y="any"\/Ay y=true then some [V.str y] else none)
   by_cases h:Ay y=true
   ·rw [if_pos h,if_pos (show y=Str.ofString "any"\/Ay y=true from .inr h)];rfl
   ·rw [if_neg h]
    by_cases h2:y="any"
    ·rw [if_pos h2,if_pos (show y=Str.ofString "any"\/Ay y=true from .inl h2)];rfl
    ·rw [if_neg h2,if_neg (λq=>q.elim h2 h)];rfl
  |y::x::r =>
   have n1:∀ s:Str,CF [Str.ofString "but",s] (Str.ofString "but"::y::x::r)=none:=λs=>by
    unfold CF
    rw [if_neg (by simp)]
   rw [n1,n1]
   rfl
 ·rw [Pb,if_neg (by lk)]
  show (match CF [Str.ofString "last"] _ with | some x=>some x | none=>none)=_
  rw [Mg (by lk)]
  by_cases h:r=[]
  ·rw [if_pos h,if_pos h];rfl
  ·rw [if_neg h,if_neg h];rfl
theorem Kk (pg:List Tr) (S:List Fq) (F:Fq) (n:Int) (r:List Str):step ⟨pg,S++[F]⟩ n ("end"::r)=if r=[]/\F.mayEnd=true then some (NO ⟨pg,S++[F]⟩) else none:=by
 unfold step
 rw [KP]
 by_cases h:r=[]
 ·rw [if_pos h]
  show (if Be ⟨pg,S++[F]⟩ "end"=true then some (EY ⟨pg,S++[F]⟩ "end" [.str "end"] n) else none)=_
  rw [BV,if_pos rfl]
  by_cases q:F.mayEnd=true
  ·rw [if_pos q,if_pos ⟨h,q⟩];exact congrArg some (if_pos rfl)
  ·rw [if_neg q,if_neg (λe=>q e.2)]
 ·rw [if_neg h,if_neg (λe=>h e.1)]
theorem GS {pg:List Tr} {z:Str}:Be ⟨pg,[]⟩ z=decide (z="errand"):=rfl
theorem ME {pg:List Tr} {n:Int} {z:Str} {r:List Str} (h:z≠"errand") (hh:∀ fs,Bg SL (z::r)=some fs->fs.head?=some (.str z)):step ⟨pg,[]⟩ n (z::r)=none:=by
 unfold step
 cases e:Bg SL (z::r) with
 |none=>rfl
 |some fs =>
  show (match fs.head? with | some (.str w)=>if Be ⟨pg,[]⟩ w=true then some (EY ⟨pg,[]⟩ w fs n) else none | _=>none)=_
  rw [hh fs e]
  show (if Be ⟨pg,[]⟩ z=true then _ else none)=none
  rw [GS,decide_eq_false h,if_neg Q0]
theorem Ll {pg:List Tr} {n:Int} {r:List Str}:step ⟨pg,[]⟩ n ("end"::r)=none:=ME (by lk) λfs e=>by
 rw [KP] at e
 split at e
 ·cases e;rfl
 ·cases e
theorem JT {pg:List Tr} {n:Int} {z:Str} {r:List Str} (hz:BJ z):step ⟨pg,[]⟩ n (z::r)=none:=ME (by rcases hz with rfl | rfl | rfl<;>lk) λfs e=>by
 rw [JG hz] at e
 cases q:DZ z r with
 |none=>rw [q] at e;cases e
 |some tf=>rw [q] at e;cases e;rfl
theorem Ol (pg:List Tr) (S:List Fq) (F:Fq) (n:Int) {z:Str} (hz:BJ z) (r:List Str):step ⟨pg,S++[F]⟩ n (z::r)=match DZ z r with
  |some tf=>if F.mayTurn z=true then some ⟨pg,S++[{ F with tn:=true,tf:=tf }]⟩ else none
  |none=>none:=by
 have w1:z≠"end":=by rcases hz with rfl | rfl | rfl<;>lk
 unfold step
 rw [JG hz]
 cases q:DZ z r with
 |none=>rfl
 |some tf =>
  show (if Be ⟨pg,S++[F]⟩ z=true then some (EY ⟨pg,S++[F]⟩ z (.str z::tf) n) else none)=(if F.mayTurn z=true then _ else none)
  rw [BV,if_neg w1,if_pos hz]
  by_cases h:F.mayTurn z=true
  ·rw [if_pos h,if_pos h]
   unfold EY
   rw [if_neg w1,if_pos hz,Dg]
   rfl
  ·rw [if_neg h,if_neg h]
theorem GQ {z:Str} {r:List Str} {fs:List V} (h:Bg SL (z::r)=some fs):fs.head?=some (.str z):=by
 rw [Cl Fy] at h
 have key:∀ {F:List (List Str)},(∀ f∈F,∃ t,f=z::t)->Ep z=false\/F=[]->Bg F (z::r)=some fs->fs.head?=some (.str z):=by
  intro F
  induction F with
  |nil=>intro _ _ e;cases e
  |cons f F ih =>
   intro hF hz e
   obtain ⟨t,rfl⟩:=hF f C0
   have hz:Ep z=false:=hz.resolve_right λq=>nomatch q
   have e:(match CF (z::t) (z::r) with | some x=>some x | none=>Bg F (z::r))=some fs:=e
   cases q:CF (z::t) (z::r) with
   |none=>rw [q] at e;exact ih (λg hg=>hF g (A0 _ hg)) (.inl hz) e
   |some x =>
    rw [q] at e
    cases e
    unfold CF at q
    split at q
    ·split at q
     ·cases q
     ·cases q
      rw [Y4,Hm hz]
      rfl
    ·cases q
 refine key (λf hf=>?_) ?_ h
 ·obtain ⟨h1,h2⟩:=Q4.mp hf
  obtain ⟨s,t,rfl,_⟩:=Fy f h1
  have h2:some s=some z:=of_decide_eq_true h2
  cases h2
  exact ⟨t,rfl⟩
 ·cases e:SL.filter λf=>decide (f.head?=some z) with
  |nil=>exact .inr rfl
  |cons f F =>
   have hf:f∈SL.filter λf=>decide (f.head?=some z):=by rw [e];exact C0
   obtain ⟨h1,h2⟩:=Q4.mp hf
   obtain ⟨s,t,rfl,hs⟩:=Fy f h1
   have h2:some s=some z:=of_decide_eq_true h2
   cases h2
   exact .inl hs
def lnR (x:List V) (n:Int):List V:=x.headD .non::.int n::x.tail
def QW (s:St) (z:Str) (x:List V) (n:Int):St:=if z="errand"\/Fj z then ⟨s.pg,s.un++[⟨lnR x n,[],false,[],[]⟩]⟩ else TC (λF=>F.put (.t ((lnR x n).map RN))) s
theorem QO (s:St) (n:Int) {z:Str} (h1:z≠"end") (h2:¬ BJ z) (r:List Str):step s n (z::r)=match Fu (z::r) with
  |some x=>if Be s z=true then some (QW s z x n) else none
  |none=>none:=by
 unfold step Fu
 cases e:Bg SL (z::r) with
 |none=>rfl
 |some fs =>
  have hh:=GQ e
  show (match fs.head? with | some (.str w)=>if Be s w=true then some (EY s w fs n) else none | _=>none)=(if Be s z=true then some (QW s z (fs.headD .non::CD fs) n) else none)
  rw [hh]
  show (if Be s z=true then some (EY s z fs n) else none)=_
  by_cases q:Be s z=true
  ·rw [if_pos q,if_pos q]
   unfold EY QW
   rw [if_neg h1,if_neg h2]
   rfl
  ·rw [if_neg q,if_neg q]
theorem SQ {z:Str} {r:List Str} {x:List V} (h:Fu (z::r)=some x):∃ t,x=.str z::t:=by
 unfold Fu at h
 cases e:Bg SL (z::r) with
 |none=>rw [e] at h;cases h
 |some fs =>
  rw [e] at h
  cases h
  have hh:=GQ e
  cases fs with
  |nil=>cases hh
  |cons v t=>cases hh;exact ⟨_,rfl⟩
def Dl:Nat->List Str->St->Int ⊕ St
 |_,[],s=>.inr s
 |i,l::r,s=>if Co l=[] then Dl (i+1) r s else match step s i (Co l) with
  |none=>.inl i
  |some s'=>Dl (i+1) r s'
def LF (L:List Str):Int ⊕ List Tr:=match Dl 1 L ⟨[],[]⟩ with
 |.inl i=>.inl i
 |.inr s=>if s.un=[]/\s.pg≠[] then .inr s.pg else .inl L.length
def OutV (H:Hp) (v:V):Int ⊕ List Tr->Prop
 |.inl i=>v=.int i
 |.inr ts=>ET H v (.t ts)
def LX:Nat->Tr->Prop
 |_,.i _=>True
 |_,.s _=>True
 |0,.t _=>False
 |n+1,.t ts=>∀ t∈ts,LX n t
theorem LX.up:∀ {n m:Nat} {t:Tr},LX n t->n<=m->LX m t
 |n,m,.i _,_,_=>by cases m<;>exact True.intro
 |n,m,.s _,_,_=>by cases m<;>exact True.intro
 |0,_,.t _,h,_=>h.elim
 |n+1,0,.t _,_,l=>by lia
 |n+1,m+1,.t ts,h,l=>λt ht=>(h t ht).up (by lia)
theorem Sg (v:V) (n:Nat):LX (n+1) (RN v):=by
 cases v<;>first | exact True.intro | exact λt ht=>nomatch ht
structure QB (s:St):Prop where
 le:s.un.length<=21
 pg:∀ t∈s.pg,LX 44 t
 un:∀ (j:Nat) (F:Fq),s.un[j]?=some F->∀ t∈F.rs++F.os,LX (42-2*j) t
theorem RX {F:Fq} {k:Nat} (h:∀ t∈F.rs++F.os,LX k t):LX (k+2) F.whole:=by
 intro t ht
 have m:∀ (vs:List V),t∈vs.map RN->LX (k+1) t:=λvs hm=>by
  obtain ⟨v,_,rfl⟩:=D2.mp hm
  exact Sg v k
 rcases X0.mp ht with ht | ht
 ·rcases X0.mp ht with ht | ht
  ·exact m _ ht
  ·cases M0.mp ht
   exact λt ht=>h t (p0 _ ht)
 ·split at ht
  ·rcases X0.mp ht with ht | ht
   ·exact m _ ht
   ·cases M0.mp ht
    exact λt ht=>h t (S0 _ ht)
  ·cases ht
theorem SW {F:Fq} {k:Nat} {t:Tr} (h:∀ t∈F.rs++F.os,LX k t) (ht:LX k t):∀ u∈(F.put t).rs++(F.put t).os,LX k u:=by
 intro u hu
 unfold Fq.put at hu
 split at hu
 ·rcases X0.mp hu with hu | hu
  ·exact h u (p0 _ hu)
  ·rcases X0.mp hu with hu | hu
   ·exact h u (S0 _ hu)
   ·cases M0.mp hu;exact ht
 ·rcases X0.mp hu with hu | hu
  ·rcases X0.mp hu with hu | hu
   ·exact h u (p0 _ hu)
   ·cases M0.mp hu;exact ht
  ·exact h u (S0 _ hu)
theorem QB.last {pg:List Tr} {S:List Fq} {F F':Fq} (h:QB ⟨pg,S++[F]⟩) (hF:(∀ t∈F.rs++F.os,LX (42-2*S.length) t)->∀ t∈F'.rs++F'.os,LX (42-2*S.length) t):QB ⟨pg,S++[F']⟩:=by
 refine ⟨?_,h.pg,λj G hj=>?_⟩
 ·have:=h.le
  rw [show (⟨pg,S++[F]⟩:St).un.length=S.length+1 from B0] at this
  rw [show (⟨pg,S++[F']⟩:St).un.length=S.length+1 from B0]
  exact this
 ·have hj:(S++[F'])[j]?=some G:=hj
  rcases Cp hj with ⟨lt,e⟩ | ⟨ej,eG⟩
  ·exact h.un j G (by show (S++[F])[j]?=some G;rw [Z0 lt];exact e)
  ·subst ej eG
   exact hF (h.un S.length F Ba)
theorem QB.put {s:St} (h:QB s) {z:Str} {fs:List V} {n:Int} (ha:Be s z=true):QB (EY s z fs n):=by
 obtain ⟨pg,un⟩:=s
 unfold EY
 rcases Y2 un with rfl | ⟨S,F,hS⟩
 ·have hz:z="errand":=of_decide_eq_true ha
  subst hz
  rw [if_neg (by lk),if_neg (by lk),if_pos (.inl rfl)]
  exact ⟨by show 1<=21;decide,h.pg,λj G hj=>by
   cases j with
   |zero=>cases hj;exact λt ht=>nomatch ht
   |succ j=>cases hj⟩
 ·rw [D3] at hS
  subst hS
  have hl:S.length<=20:=by
   have:=h.le
   rw [show (⟨pg,S++[F]⟩:St).un.length=S.length+1 from B0] at this
   lia
  have hF:=h.un S.length F Ba
  by_cases h1:z="end"
  ·rw [if_pos h1]
   have hw:=RX hF
   rcases Y2 S with rfl | ⟨S',G,hS⟩
   ·rw [show ([]:List Fq)++[F]=[F] from rfl,JJ]
    refine ⟨N1 _,λt ht=>?_,λj G hj=>nomatch hj⟩
    rcases X0.mp ht with ht | ht
    ·exact h.pg t ht
    ·cases M0.mp ht;exact hw
   ·rw [D3] at hS
    subst hS
    rw [Ho]
    have e:(S'++[G]).length=S'.length+1:=B0
    rw [e] at hw hl
    have h':QB ⟨pg,S'++[G]⟩:=⟨by show (S'++[G]).length<=21;rw [e];lia,h.pg,λj D hj=>h.un j D (by
     have hj:(S'++[G])[j]?=some D:=hj
     show (S'++[G]++[F])[j]?=some D
     rw [Z0 (d0.mp hj).1];exact hj)⟩
    exact h'.last λq=>SW q (hw.up (by lia))
  rw [if_neg h1]
  by_cases h2:BJ z
  ·rw [if_pos h2,Dg]
   exact h.last λq=>q
  rw [if_neg h2]
  by_cases h3:z="errand"\/Fj z
  ·rw [if_pos h3]
   rw [BV,if_neg h1,if_neg h2] at ha
   have hb:Fj z:=h3.resolve_left λe=>by
    rw [e,if_neg (by lk)] at ha
    exact absurd ha (by lk)
   rw [if_pos hb] at ha
   have ha:=of_decide_eq_true ha
   refine ⟨?_,h.pg,λj G hj=>?_⟩
   ·show (S++[F]++[_]).length<=21
    rw [B0,B0]
    show S.length+1+1<=21
    lia
   ·have hj:(S++[F]++[_])[j]?=some G:=hj
    rcases Cp hj with ⟨lt,e⟩ | ⟨ej,eG⟩
    ·exact h.un j G e
    ·subst eG
     exact λt ht=>nomatch ht
  ·rw [if_neg h3,Dg]
   refine h.last λq=>SW q (LX.up (n:=2) (λt ht=>?_) (by lia))
   obtain ⟨v,hv,rfl⟩:=D2.mp ht
   exact Sg v 0
theorem QB.stp {s s':St} (h:QB s) {n:Int} {ws:List Str} (e:step s n ws=some s'):QB s':=by
 obtain ⟨fs,z,_,_,ha,rfl,_⟩:=Kj e
 exact h.put ha
theorem QB.rd:∀ {L:List Str} {i:Nat} {s s':St},QB s->Dl i L s=.inr s'->QB s'
 |[],_,_,_,h,e=>by cases e;exact h
 |l::r,i,s,s',h,e=>by
  have e:(if Co l=[] then Dl (i+1) r s else match step s i (Co l) with | none=>.inl (i:Int) | some s'=>Dl (i+1) r s')=.inr s':=e
  by_cases q:Co l=[]
  ·rw [if_pos q] at e;exact h.rd e
  ·rw [if_neg q] at e
   cases d:step s i (Co l) with
   |none=>rw [d] at e;cases e
   |some s1=>rw [d] at e;exact (h.stp d).rd e
theorem out_ht {L:List Str} {ts:List Tr} (h:LF L=.inr ts):LX 45 (.t ts):=by
 unfold LF at h
 cases e:Dl 1 L ⟨[],[]⟩ with
 |inl i=>rw [e] at h;cases h
 |inr s =>
  rw [e] at h
  have h:(if s.un=[]/\s.pg≠[] then Sum.inr s.pg else .inl (L.length:Int))=.inr ts:=h
  split at h
  ·cases h
   exact (QB.rd (s:=⟨[],[]⟩) ⟨N1 _,(λt ht=>nomatch ht),(λj F hj=>nomatch hj)⟩ e).pg
  ·cases h
theorem SS {K:J0} {H:Hp}:∀ {n:Nat} {t:Tr} {v u:V},LX n t->ET H v t->ET H u t->Oa K H n v u true
 |n,.i k,_,_,_,.i _,.i _=>by
  have:Oa K H n (.int k) (.int k) (Em (.int k) (.int k)):=.flat rfl rfl
  rw [show Em (.int k) (.int k)=true by simp [Em]] at this
  exact this
 |n,.s z,_,_,_,.s _,.s _=>by
  have:Oa K H n (.str z) (.str z) (Em (.str z) (.str z)):=.flat rfl rfl
  rw [show Em (.str z) (.str z)=true by simp [Em]] at this
  exact this
 |0,.t _,_,_,h,_,_=>h.elim
 |n+1,.t ts,_,_,h,.t (a:=a) (xs:=xs) h1 l1 r1,.t (a:=b) (xs:=ys) h2 l2 r2=>by
  by_cases e:a=b
  ·subst e
   exact .same
  ·have:Oa K H (n+1) (.ref a) (.ref b) ((K3 (min xs.length ys.length)).all (λ_=>true)&&xs.length == ys.length):=.tup (Cn.of h1) (Cn.of h2) e λi x y hx hy=>by
    have hi:i<ts.length:=by rw [<- l1];exact (d0.mp hx).1
    have ht:=x0 hi
    exact SS (h _ (Z4 hi)) (r1 i x _ hx ht) (r2 i y _ hy ht)
   rw [show ((K3 (min xs.length ys.length)).all (λ_=>true)&&xs.length == ys.length)=true by rw [l1,l2];simp] at this
   exact this
theorem eqRep {K:J0} {H:Hp} {v u:V} {ts:List Tr} {R:VK} (h:LX 45 (.t ts)) (h1:ET H v (.t ts)) (h2:ET H u (.t ts)) (k:R (.bl true) H):rEqT K false v u H R:=by
 cases h1 with
 |@t a xs _ a1 l1 r1 =>
  cases h2 with
  |@t b ys _ a2 l2 r2 =>
   refine ⟨a,b,xs,ys,44,λ_=>true,rfl,rfl,Cn.of a1,Cn.of a2,by kd_p,λi x y hx hy=>?_,?_⟩
   ·have hi:i<ts.length:=by rw [<- l1];exact (d0.mp hx).1
    have ht:=x0 hi
    exact SS (h _ (Z4 hi)) (r1 i x _ hx ht) (r2 i y _ hy ht)
   ·rw [show (false^^((K3 (min xs.length ys.length)).all (λ_=>true)&&xs.length == ys.length))=true by rw [l1,l2];simp]
    exact k
def RQ (s:St):Prop:=∀ F∈s.un,F.tn=true->BL F.wd
theorem RQ.last {pg:List Tr} {S:List Fq} {F F':Fq} (h:RQ ⟨pg,S++[F]⟩) (g:F'.tn=true->BL F'.wd) (pg':List Tr):RQ ⟨pg',S++[F']⟩:=λG hG=>by
 rcases X0.mp hG with q | q
 ·exact h G (p0 _ q)
 ·rw [M0.mp q];exact g
theorem SV {F:Fq} (h:F.tn=true->BL F.wd) (t:Tr):(F.put t).tn=true->BL (F.put t).wd:=by
 unfold Fq.put
 split<;>exact h
theorem RQ.put {s:St} (h:RQ s) {z:Str} {fs:List V} {n:Int} (ha:Be s z=true):RQ (EY s z fs n):=by
 obtain ⟨pg,un⟩:=s
 unfold EY
 rcases Y2 un with rfl | ⟨S,F,hS⟩
 ·have hz:z="errand":=of_decide_eq_true ha
  subst hz
  rw [if_neg (by lk),if_neg (by lk),if_pos (.inl rfl)]
  exact λG hG e=>by
   cases M0.mp hG
   cases e
 ·rw [D3] at hS
  subst hS
  have hF:=h F (S0 _ (N4 _))
  by_cases h1:z="end"
  ·rw [if_pos h1]
   rcases Y2 S with rfl | ⟨S',G,hS⟩
   ·rw [show ([]:List Fq)++[F]=[F] from rfl,JJ]
    exact λG hG=>nomatch hG
   ·rw [D3] at hS
    subst hS
    rw [Ho]
    have h':RQ ⟨pg,S'++[G]⟩:=λD hD=>h D (p0 _ hD)
    exact h'.last (SV (h' G (S0 _ (N4 _))) _) _
  rw [if_neg h1]
  by_cases h2:BJ z
  ·rw [if_pos h2,Dg]
   rw [BV,if_neg h1,if_pos h2] at ha
   refine h.last (λ_=>?_) _
   unfold Fq.mayTurn at ha
   rw [C1] at ha
   exact (of_decide_eq_true ha.2).1
  rw [if_neg h2]
  by_cases h3:z="errand"\/Fj z
  ·rw [if_pos h3]
   intro G hG
   rcases X0.mp hG with q | q
   ·exact h G q
   ·cases M0.mp q
    exact λe=>nomatch e
  ·rw [if_neg h3,Dg]
   exact h.last (SV hF _) _
theorem RQ.stp {s s':St} (h:RQ s) {n:Int} {ws:List Str} (e:step s n ws=some s'):RQ s':=by
 obtain ⟨fs,z,_,_,ha,rfl,_⟩:=Kj e
 exact h.put ha
def WsA (ws:List Str):Prop:=ws.length<=6000/\∀ w∈ws,w.length<=6000/\Fp w
theorem WsA.ok {ws:List Str} (h:WsA ws):WsOk ws:=⟨h.1,λw hw=>(h.2 w hw).1⟩
def Io (z:Str):V:=if Ay z=true then .str z else .non
def Oo:Sp:=λvs H Q _=>∃ (z:Str) (lo hi:Int),vs=[.str z,.int lo,.int hi]/\Fp z/\z.length<=6000/\∀ H',Ag H H'->Q (Fi z lo hi) H'
def IJ:Sp:=λvs H Q _=>∃ z:Str,vs=[.str z]/\Fp z/\z.length<=6000/\∀ H',Ag H H'->Q (Io z) H'
def ML:Sp:=λvs H Q _=>∃ z:Str,vs=[.str z]/\Fp z/\z.length<=6000/\∀ H',Ag H H'->Q (CP z) H'
def oL (H:Hp) (v:V):Option (List V)->Prop
 |none=>v=.non
 |some fs=>∃ l,v=.ref l/\H l=some (.lst fs)
def oT (H:Hp) (v:V):Option (List V)->Prop
 |none=>v=.non
 |some fs=>∃ a,v=.ref a/\H a=some (.tup fs)
def MH:Sp:=λvs H Q _=>∃ (ka wa:Addr) (ks:List Str) (w0:Str) (ws:List Str),vs=[.ref ka,.ref wa]/\H ka=some (.lst (ks.map V.str))/\H wa=some (.lst ((w0::ws).map V.str))/\ks.length<=10/\WsA (w0::ws)/\∀ v H',oL H' v (CI ks ws)->Ag H H'->Q v H'
def SD:Sp:=λvs H Q _=>∃ (wa:Addr) (z:Str) (ws:List Str),vs=[.ref wa]/\H wa=some (.lst ((z::ws).map V.str))/\WsA (z::ws)/\z≠"end"/\¬ BJ z/\∀ v H',oT H' v (Fu (z::ws))->Ag H H'->Q v H'
def GU (F:Fq) (z:Str) (r:List Str):Option Fq:=match DZ z r with
 |some tf=>if F.mayTurn z=true then some { F with tn:=true,tf:=tf } else none
 |none=>none
def MG:Sp:=λvs H Q _=>∃ (b:Lb) (F:Fq) (wa:Addr) (z:Str) (r:List Str),vs=[.ref b.p,.ref wa]/\IF H b F/\b.own.Nodup/\wa∉b.own/\H wa=some (.lst ((z::r).map V.str))/\WsA (z::r)/\BJ z /\
 (∀ F',GU F z r=some F'->∀ b' H',IF H' b' F'->b'.p=b.p->(∀ a∈b'.own,a∈b.own\/H a=none)->b'.own.Nodup->(∀ a u,a∉b.own->H a=some u->H' a=some u)->Q (.bl true) H') /\
 (GU F z r=none->∀ H',(∀ a u,a∉b.own->H a=some u->H' a=some u)->Q (.bl false) H')
def PQ:Sp:=λvs H Q _=>∃ (b:Lb) (F:Fq),vs=[.ref b.p]/\IF H b F/\(F.tn=true->BL F.wd)/\F.rs.length<=100000/\F.os.length<=100000/\∀ v H',(if F.mayEnd=true then ET H' v F.whole else v=.non)->Ag H H'->Q v H'
def PN:Sp:=λvs H Q _=>∃ (H0:Hp) (pa ua:Addr) (s:St) (Bs:List Lb) (c:Nat) (wa:Addr) (z:Str) (r:List Str) (n:Int),vs=[.ref ua,.ref pa,.ref wa,.int n]/\GA H0 H pa ua s Bs c/\RQ s/\c<=99999/\H wa=some (.lst ((z::r).map V.str))/\wa∉pa::ua::Bs.flatMap Lb.own/\WsA (z::r) /\
 (∀ s',step s n (z::r)=some s'->∀ H' Bs',GA H0 H' pa ua s' Bs' (c+1)->Q (.bl true) H')/\(step s n (z::r)=none->∀ H',Ag H0 H'->Q (.bl false) H')
structure GT (z:Str):Prop where
 asc:Fp z
 len:z.length<=10000000
 cnt:(Txt.split z ⟨#[10]⟩).length<=90000
 each:∀ l∈Txt.split z ⟨#[10]⟩,l.length<=5000
def JX (z:Str):Int ⊕ List Tr:=LF (Txt.split z ⟨#[10]⟩)
def II:Sp:=λvs H Q _=>∃ z:Str,vs=[.str z]/\GT z/\∀ v H',OutV H' v (JX z)->Ag H H'->Q v H'
def MM:Sp:=λvs H Q _=>∃ z:Str,vs=[.str z]/\GT z/\∀ H',Ag H H'->Q (.bl true) H'
def Jd (C:Addr):Sp:=λvs H Q _=>∃ (a:Addr) (v:V) (t:Addr),vs=[.ref a,v]/\H a=some (Cy a C none t)/\∀ dx H',H dx=none->dx≠a->H' a=some (Cy a C (some dx) t)->H' dx=some (QF dx [("line",v)])->(∀ b o,b≠a->H b=some o->H' b=some o)->Q .non H'
def PL (C:Addr):Sp:=λvs H Q E=>∃ z:Str,vs=[.str z]/\GT z/\(∀ ts,JX z=.inr ts->∀ v H',ET H' v (.t ts)->Ag H H'->Q v H')/\(∀ i,JX z=.inl i->∀ dx H',H' dx=some (QF dx [("line",.int i)])->Ag H H'->E (.ref C) (some dx) H')
theorem join_cps (sep:Str):∀ {l:List Str} {a:Str},a∈l->∀ c∈a.cps.toList,c∈(Str.join sep l).cps.toList
 |[b],a,h,c,hc=>by rw [M0.mp h] at hc;exact hc
 |b::d::l,a,h,c,hc=>by
  show c∈(b++sep++Str.join sep (d::l)).cps.toList
  rw [CL,CL]
  rcases K0.mp h with rfl | h
  ·exact p0 _ (p0 _ hc)
  ·exact S0 _ (join_cps sep h c hc)
theorem Hx {z:Str} (h:Fp z) {k:Nat}:∀ l∈Txt.split z ⟨#[k]⟩,Fp l:=λl hl c hc=>by
 refine h c ?_
 have:=join_cps ⟨#[k]⟩ hl c hc
 rw [StrLaws.join_split] at this
 exact this
theorem Nw {l:Str} (ha:Fp l) (hl:l.length<=5000):WsA (Co l):=by
 unfold Co
 refine ⟨?_,λw hw=>?_⟩
 ·have:=L9 l ⟨#[32]⟩
  exact T0 (Y3 _ _) (by lia)
 ·have hw:=(Q4.mp hw).1
  exact ⟨T0 (GX hw) (by lia),Hx ha w hw⟩
theorem dig128:∀ c:Fin 128,(Builtin.Str.occurrences (Str.ofString "0123456789") ⟨#[c.val]⟩ 0 (Str.ofString "0123456789").length 1).isEmpty=!LW c.val:=by lk
theorem z0 {z:Str} (h:z.length=0):z="":=by
 refine Fx ?_
 rw [show (Str.ofString "").cps.toList=[] by lk]
 exact P3.mp h
theorem emL {K:J0} {G:Hp} {a:Addr} {xs:List V} {R:VK} (h:G a=some (.lst xs)) (k:∀ G',Ag G G'->R (.bl (!decide (xs=[]))) G'):0<=sizeLine/\∀ p,G p=none->Oy K true (.ref a) (.ref p) (upd G p (.lst [])) R:=by
 refine ⟨by kd_p,λp hp=>?_⟩
 have s1:=Ag.upd (o:=.lst []) hp
 refine ⟨a,p,_,_,1,λ_=>true,rfl,rfl,Aw.of (s1 _ _ h),Aw.of Ad,by kd_p,λi x y hx hy=>(by cases hy),?_⟩
 have e:(true^^(decide (xs.length=([]:List V).length)&&(K3 xs.length).all λ_=>true))=!decide (xs=[]):=by
  cases xs<;>simp
 rw [e]
 exact k _ s1
theorem Vc:FN=[Str.ofString "any", "ask", "begin", "but", "do", "end", "errand", "give", "group", "hear", "in", "keep", "last"]++[Str.ofString "late", "let", "limit", "off", "raise", "repeat", "ring", "send", "take", "try"]++[Str.ofString "wait", "when", "within"]:=by lk
theorem Tv {z:Str} (h:Ay z=false) {Q:V->Hp->Prop} {G:Hp} (k:Q (Io z) G):Q .non G:=by
 unfold Io at k
 rw [h,if_neg Q0] at k
 exact k
theorem name_is {z:Str} (h:Ay z=true) {Q:V->Hp->Prop} {G:Hp} (k:Q (Io z) G):Q (.str z) G:=by
 unfold Io at k
 rw [if_pos h] at k
 exact k
theorem KF {z:Str} (h:Fp z):(Txt.lower z).length=z.length:=by
 rw [Bp,EK h,L0,Bp]
theorem RK {H G:Hp} {p:Addr} {o:HO} (h:H p=none) (e:upd H p o=G):Ag H G/\G p=some o:=by
 subst e
 exact ⟨Ag.upd h,Ad⟩
local macro_rules | `(tactic| walk_at $s:str) => do
 let t:=s.getString
 unless t.startsWith "a"||t.startsWith "b" do Lean.Macro.throwUnsupported
 let i (z:String):Lean.Ident:=Lean.mkIdent (Lean.Name.mkSimple (z++String.ofList (t.toList.drop 1)))
 let (p,h,g,G,x,l):=(i "p",i "hp",i "hG",i "G",i "s",i "l")
  let u ← `(tactic| (generalize $g:ident : upd _ $p _ = $G; obtain ⟨$x, $l⟩ := RK $h $g; clear $g))
 if t.startsWith "b" then return u
  `(tactic| (refine ⟨by kd_p, fun $p $h => ?_⟩; $u:tactic))
set_option hygiene false in
local macro_rules | `(tactic| walk_at $z:str) => do
 let [_,p,h,G,s,l]:=z.getString.splitOn " " | Lean.Macro.throwUnsupported
 let i:=λx=>Lean.mkIdent (Lean.Name.mkSimple x)
 `(tactic| (generalize hG : upd _ $(i p):ident _ = $(i G):ident; obtain ⟨$(i s):ident, $(i l):ident⟩ := RK $(i h):ident hG; clear hG))
set_option hygiene false in
local macro_rules | `(tactic| walk_at $z:str) => do
 let [a,n]:=z.getString.splitOn " " | Lean.Macro.throwUnsupported
 unless a == "g" do Lean.Macro.throwUnsupported
 `(tactic| (
 walk_at "m"
 refine ⟨by kd_p,λp1 hp1=>catG (g1.same (Ag.upd hp1)) (newG (by lk)) (by kd_p) λp G f1 g1 s=>?_⟩
 have fp:H p=none:=(sG.trans (Ag.upd hp1)).free f1
 have sG:Ag H G:=sG.trans ((Ag.upd hp1).trans s)
 have g1:GL Gs G p $(Lean.Syntax.mkNumLit n):num:=g1
 clear s f1 hp1
 walk_at "n"))
set_option hygiene false in
local macro_rules | `(tactic| walk_at $z:str) => do
 let [a,n]:=z.getString.splitOn " " | Lean.Macro.throwUnsupported
 unless a == "k" do Lean.Macro.throwUnsupported
 `(tactic| (
 refine ⟨by kd_p,λp1 hp1=>catG (k1.same (Ag.upd hp1)) (newK (by lk)) (by kd_p) λq G _ k1 s=>?_⟩
 have sG1:=(Ag.upd hp1).trans s
 have sG:Ag H G:=sG.trans sG1
 have g1:=g1.same sG1
 have k1:GL Kq G q $(Lean.Syntax.mkNumLit n):num:=k1
 clear s hp1 sG1))
set_option hygiene false in
local macro_rules | `(tactic| walk_at "w") => `(tactic| (
   rw [Z1] at hy
   obtain ⟨l,hl,rfl⟩:=K2.mp hy
   have hlm:=hL l (E1 hl)
   obtain ⟨lt,el⟩:=d0.mp hl
   rw [x5 lt,el] at e
   simp only [Ur,Gy,Ma]
   z_go
   refine ⟨_,Cn.of Ad,rfl,_,_,rfl,_,_,rfl,rfl,?_⟩
   walk_at "c p hp G2 sp_ zq"
   have R1:=R.same sp_
   refine mA λN hN=>?_
   simp only [Lh,Ql]
   z_go
   have hls:=L9 l ⟨#[32]⟩
   refine ⟨l,32,rfl,by rw [sp1],T0 hlm.2 (by kd_p),λq2 hq2=>⟨q2,rfl,⟨_,Aw.of Ad⟩,?_⟩⟩
   have s2:=Ag.upd (o:=.lst ((Txt.split l ⟨#[32]⟩).map V.str)) hq2
   refine Hi (K:=K) (a:=q2) (xs:=(Txt.split l ⟨#[32]⟩).map V.str) (λj zs G3=>G3=upd G2 q2 (.lst ((Txt.split l ⟨#[32]⟩).map V.str))/\zs=(((Txt.split l ⟨#[32]⟩).take j).filter λw:Str=>w != "").map V.str) ⟨rfl,rfl⟩ ?_ ?_ ?_ ?_
   ·rintro j zs G3 hj ⟨rfl,rfl⟩
    refine ⟨Aw.of Ad,?_⟩
    rw [L0]
    refine T0 (Y3 _ _) ?_
    rw [j1];lia
   ·rw [L0]
    exact T0 hls (T0 (show l.length+2<=5002 by have:=hlm.2;lia) (by kd_p))
   ·rintro j y zs G3 hy ⟨rfl,rfl⟩
    rw [Z1] at hy
    obtain ⟨wd,hwd,rfl⟩:=K2.mp hy
    have ef:=FK (f:=λw:Str=>w != "") hwd
    z_go
    refine ⟨rfl,?_⟩
    by_cases hw:wd=""
    ·rw [if_neg (by simp [hw])] at ef
     rw [ef]
     exact Eg hw rfl
    ·rw [if_pos (by simp [hw])] at ef
     rw [ef]
     exact Ef hw (by rw [o0];rfl)
   rintro zs G3 ⟨rfl,rfl⟩ D hD
   rw [L0,T2]
   have gD:G2 D=none:=s2.free hD
   have s3:=s2.trans (Ag.upd (o:=.lst (((Txt.split l ⟨#[32]⟩).filter λw:Str=>w != "").map V.str)) hD)
   have R3:=R1.same s3
   have hD3:upd (upd G2 q2 (.lst ((Txt.split l ⟨#[32]⟩).map V.str))) D (.lst (((Txt.split l ⟨#[32]⟩).filter λw:Str=>w != "").map V.str)) D=some (.lst ((Co l).map V.str)):=Ad
   generalize upd (upd G2 q2 (.lst ((Txt.split l ⟨#[32]⟩).map V.str))) D (.lst (((Txt.split l ⟨#[32]⟩).filter λw:Str=>w != "").map V.str))=G4 at R3 hD3 |-
   walk_at "n"))
set_option hygiene false in
local macro_rules | `(tactic| walk_at "m") => `(tactic| (refine mA fun N hN => ?_; z_go))
set_option hygiene false in
local macro_rules | `(tactic| walk_at "n") => `(tactic| (refine hN _ _ ?_; clear hN N; z_go))
theorem mA {a b:TS} {D:FO} {σ:L2.St} {H:Hp} (h:∀ N:L2.St->Hp->Prop,(∀ σ' H',b D σ' H'->N σ' H')->a { D with nx:=N } σ H):tMid a b D σ H:=⟨b D,h (b D) (λ_ _ x=>x),λ_ _ x=>x⟩
set_option hygiene false in
theorem KW {z:Str} {c:Nat} {r:List Nat} (h:z.cps.toList=c::r):CG z none (some 1)=⟨#[c]⟩:=by
 refine Fx ?_
 unfold CG
 have l1:z.length=r.length+1:=by rw [Bp,h];rfl
 have i1:HT.sIx z.length z.length (some 1)=1:=(HT.sIx_nat _ _ 1).trans (by rw [l1];lia)
 rw [i1,show HT.sIx z.length 0 none=0 from rfl,h]
 rfl
theorem UL {z:Str} {c:Nat} {r:List Nat} (h:z.cps.toList=c::r):(CG z (some 1) none).cps.toList=r:=by
 unfold CG
 have l1:z.length=r.length+1:=by rw [Bp,h];rfl
 have i1:HT.sIx z.length 0 (some 1)=1:=(HT.sIx_nat _ _ 1).trans (by rw [l1];lia)
 rw [i1,HT.sIx_none,l1,h]
 show C8 (r.length+1-1) r=r
 rw [e7,T2]
theorem RC {z:Str} (h:z.length=0):CG z none (some 1)≠":":=by
 rw [z0 h]
 lk
theorem IQ:(":":Str)=⟨#[58]⟩:=by lk
theorem Mu {z:Str} (ha:Fp z) (h:CG z none (some 1)=":"):CP z=if 1<z.length/\z.length<10/\Txt.isalpha (CG z (some 1) none)=true/\Txt.lower z=z then .str z else .non:=by
 cases ez:z.cps.toList with
 |nil=>exact absurd h (RC (by rw [Bp,ez];rfl))
 |cons c r =>
  rw [KW ez,IQ] at h
  cases h
  have er:=UL ez
  have ay:Fp (CG z (some 1) none):=λd hd=>ha d (by rw [ez];rw [er] at hd;exact A0 _ hd)
  have ly:(CG z (some 1) none).length+1=z.length:=by rw [Bp,er,Bp,ez];rfl
  have low:(Txt.lower z=z)↔(Txt.lower (CG z (some 1) none)=CG z (some 1) none):=by
   have e1:=EK ha
   have e2:=EK ay
   rw [ez,F1] at e1
   rw [er] at e2
   constructor
   ·intro q
    rw [q,ez] at e1
    refine Fx ?_
    rw [e2,er]
    exact (T5.inj e1).2.symm
   ·intro q
    rw [q,er] at e2
    refine Fx ?_
    rw [e1,ez,<- e2]
    rfl
  have hn:GJ z=none:=Qf (c:=58) (by rw [ez];exact C0) (by lia)
  have hnm:Ay z=false:=by
   unfold Ay DQ
   have:z.cps.toList.all Pc=false:=by
    rw [ez,D4,show Pc 58=false by kd_p,Q2]
   rw [this,N5,Q2]
  have hst:Txt.startswith z ":"=true:=by rw [IQ,Hw ez];rfl
  have hl:=Qg ay
  have htd:Cb z=(decide ((CG z (some 1) none).length<=8)&&(Txt.isalpha (CG z (some 1) none)&&decide (Txt.lower (CG z (some 1) none)=CG z (some 1) none))):=by
   unfold Cb
   rw [hst,K4,hl]
   unfold DQ
   cases decide (1<=(CG z (some 1) none).length)<;>cases decide ((CG z (some 1) none).length<=8)<;>rfl
  unfold CP
  rw [hn]
  show (if (Ay z||Cb z)=true then V.str z else .non)=_
  rw [hnm,C7,htd]
  by_cases q:1<z.length/\z.length<10/\Txt.isalpha (CG z (some 1) none)=true/\Txt.lower z=z
  ·rw [if_pos q,if_pos (by rw [decide_eq_true (show (CG z (some 1) none).length<=8 by lia),q.2.2.1,decide_eq_true (low.mp q.2.2.2)];rfl)]
  ·rw [if_neg q,if_neg]
   intro e
   simp only [C1,decide_eq_true_eq] at e
   refine q ⟨?_,by lia,e.2.1,low.mpr e.2.2⟩
   have hA:=e.2.1
   rw [Lf ay,C1,decide_eq_true_eq] at hA
   lia
theorem Mt {z:Str} (h:CG z none (some 1)≠":"):CP z=if Ay z=true then .str z else Fi z 0 999999:=by
 have htd:Cb z=false:=by
  unfold Cb
  cases ez:z.cps.toList with
  |nil =>
   have:z="":=z0 (by rw [Bp,ez];rfl)
   rw [this]
   lk
  |cons c r =>
   rw [IQ,Hw ez]
   have:c≠58:=λe=>h (by rw [KW ez,e,IQ])
   rw [decide_eq_false this,Q2]
 by_cases hn:Ay z=true
 ·rw [if_pos hn]
  have e:GJ z=none:=by
   have hl:DQ z=true:=by unfold Ay at hn;rw [C1] at hn;exact hn.1
   unfold DQ at hl
   rw [C1,C1,decide_eq_true_eq] at hl
   obtain ⟨c,r,ez⟩:=JH hl.1.1
   have hc:=W2.mp hl.2 c (by rw [ez];exact C0)
   unfold Pc at hc
   rw [C1,decide_eq_true_eq,decide_eq_true_eq] at hc
   exact Qf (c:=c) (by rw [ez];exact C0) (by lia)
  unfold CP
  rw [e]
  show (if (Ay z||Cb z)=true then V.str z else .non)=_
  rw [hn,Bool.true_or,if_pos rfl]
 ·rw [if_neg hn]
  unfold CP Fi
  cases e:GJ z with
  |none =>
   show (if (Ay z||Cb z)=true then V.str z else .non)=.non
   rw [Bool.eq_false_iff.mpr hn,htd]
   rfl
  |some n =>
   show (if (decide (0<=n)&&decide (n<=999999))=true then V.int n else .non)=(if 0<=n/\n<=999999 then V.int n else .non)
   by_cases q:0<=n/\n<=999999
   ·rw [if_pos q,if_pos (by rw [decide_eq_true q.1,decide_eq_true q.2];rfl)]
   ·rw [if_neg q,if_neg (by simpa using q)]
theorem for_zip {K:J0} {a b:Addr} {xs ys:List V} {g:TG} {tb:TS} {D:FO} {σ:L2.St} {H:Hp} (hlen:xs.length=ys.length) (Pv:Nat->L2.St->Hp->Prop) (h0:Pv 0 σ H) (hl:∀ i σ H,i<=xs.length->Pv i σ H->Aw K H a xs/\Aw K H b ys)
  (hs:∀ i x y p σ H,xs[i]?=some x->ys[i]?=some y->Pv i σ H->H p=none->g (.ref p) σ (upd H p (.tup [x,y])) λσ2 H2=>tb { D with nx:=Pv (i+1),ct:=Pv (i+1),bk:=D.nx } σ2 H2) (hd:∀ σ H,Pv xs.length σ H->D.nx σ H) :
  ∃ W:Nat->Nat->L2.St->Hp->Prop,(∃ m,W 0 m σ H)/\∀ i m σ H,W i m σ H ->
   ((Itz K a b).stop i H/\D.nx σ H)\/((Itz K a b).go i H/\∃ N:L2.St->Hp->Prop,(∀ σ' H',N σ' H'->∃ m',m'<m/\W (i+1) m' σ' H')/\∀ x H',(Itz K a b).yld i H x H'->g x σ H' λσ2 H2=>tb { D with nx:=N,ct:=N,bk:=D.nx } σ2 H2):=by
 refine ⟨λi m σ H=>m=xs.length-i/\i<=xs.length/\Pv i σ H,⟨xs.length,by simp,N1 _,h0⟩,?_⟩
 rintro i m σ H ⟨rfl,hi,p⟩
 obtain ⟨q1,q2⟩:=hl i σ H hi p
 by_cases hlt:i<xs.length
 ·refine .inr ⟨⟨xs,ys,xs[i],ys[i]'(by lia),q1,q2,x0 hlt,x0 (by lia)⟩,Pv (i+1),λσ' H' p'=>⟨xs.length-(i+1),by lia,rfl,hlt,p'⟩,λv H' y=>?_⟩
  obtain ⟨r,x,y,rfl,hr,rfl,e1,e2⟩:=y
  exact hs i x y r σ _ (e1 xs q1) (e2 ys q2) p hr
 ·have e:i=xs.length:=by lia
  subst e
  exact .inl ⟨⟨xs,ys,q1,q2,.inl (V0 _)⟩,hd σ H p⟩
theorem So {K:J0} {g:TG} {tb:TS} {D:FO} {σ:L2.St} {H:Hp} {ka wa:Addr} {xs ys:List V} {y:V} (h0:σ[0]?=some (some (.ref ka))) (h1:σ[1]?=some (some (.ref wa))) (hk:H ka=some (.lst xs)) (hw:H wa=some (.lst (y::ys)))
  (k:∀ q G,H q=none->Ag H G->G q=some (.lst ys)->∃ W:Nat->Nat->L2.St->Hp->Prop,(∃ m,W 0 m σ G)/\∀ i m σ H,W i m σ H ->
   ((Itz K ka q).stop i H/\D.nx σ H)\/((Itz K ka q).go i H/\∃ N:L2.St->Hp->Prop,(∀ σ' H',N σ' H'->∃ m',m'<m/\W (i+1) m' σ' H')/\∀ x H',(Itz K ka q).yld i H x H'->g x σ H' λσ2 H2=>tb { D with nx:=N,ct:=N,bk:=D.nx } σ2 H2)) :
  MD (iZip K (IV (GW 0) (IV (tSl (QZ K) (GW 1) (Sl (tC (V.int 1))) Lj) MC))) g tb D σ H:=by
 unfold MD iZip
 refine ⟨_,h0,⟨_,h1,?_⟩⟩
 refine ⟨1,rfl,wa,_,rfl,Aw.of hw,λq hq=>?_⟩
 have e:DI (y::ys) (some 1) none=ys:=by
  unfold DI
  have e1:HT.sIx (y::ys).length 0 (some 1)=1:=(HT.sIx_nat _ _ 1).trans (by rw [P0];lia)
  rw [e1,show HT.sIx (y::ys).length (y::ys).length none=(y::ys).length from rfl]
  show (ys.take ((y::ys).length-1))=ys
  rw [P0,e7,T2]
 have s:=Ag.upd (o:=.lst (DI (y::ys) (some 1) none)) hq
 refine ⟨ka,q,rfl,⟨_,Aw.of (s _ _ hk)⟩,⟨_,Aw.of Ad⟩,k q _ hq s ?_⟩
 rw [Ad,e]
theorem Mq {ks ws:List Str} {i:Nat} {k w:Str} (h1:ks[i]?=some k) (h2:ws[i]?=some w):N2 AD (ks.take (i+1)) (ws.take (i+1))=N2 AD (ks.take i) (ws.take i)++[AD k w]:=by
 have l1:=(d0.mp h1).1
 have l2:=(d0.mp h2).1
 rw [x6,x6,h1,h2,List.zipWith_append (by rw [j1,j1];lia)]
 rfl
theorem Uh {xs:List V} {v:V}:CA .non (xs++[v])=(CA .non xs||Em v .non):=by
 unfold CA
 rw [List.any_append]
 show (xs.any _||(_||false))=_
 rw [Z3]
theorem Oh (k z:Str):AD k z=.non\/Ch (AD k z)=true:=by
 by_cases h:KH k
 ·exact (Ik h).imp id λq=>q.2
 ·rw [Hu h]
  split
  ·exact .inr rfl
  ·exact .inl rfl
theorem UB {v:V} (h:v≠.non) (hf:v=.non\/Ch v=true):Em v .non=false:=by
 cases v with
 |int n=>rfl
 |str z=>rfl
 |non=>exact absurd rfl h
 |_=>rcases hf with e | e<;>cases e
theorem ths_bad {ks ws:List Str} {i:Nat} {k w:Str} (hl:ks.length=ws.length) (h1:ks[i]?=some k) (h2:ws[i]?=some w) (h:AD k w=.non):CI ks ws=none:=by
 unfold CI
 rw [if_pos hl,if_pos]
 unfold CA
 rw [J7]
 refine ⟨.non,E1 (i:=i) ?_,rfl⟩
 rw [O6,h1,h2,<- h]
theorem Qc:∀ {kvs:List (Str×Str)} {σ:L2.St} {H:Hp} {R:List (V×V)->Hp->Prop},R (kvs.map λq=>(V.str q.1,V.str q.2)) H->Li (kvs.map λq=>(tC (.str q.1),tC (.str q.2))) σ H R
 |[],_,_,_,h=>h
 |q::r,σ,H,R,h=>Qc (kvs:=r) (R:=λps H2=>R ((V.str q.1,V.str q.2)::ps) H2) h
theorem JK {kvs:List (Str×Str)} {σ:L2.St} {H:Hp} {Q:VK} (hl:kvs.length<=15) (k:∀ p G,H p=none->Ag H G->G p=some (.dK (AA [] (kvs.map λq=>(Sum.inr q.1,V.str q.2))))->Q (.ref p) G):tDisp (kvs.map λq=>(tC (.str q.1),tC (.str q.2))) σ H Q:=by
 intro p hp
 refine Qc ⟨Ad,kvs.map λq=>(Sum.inr q.1,V.str q.2),?_,by rw [L0];exact hl,k p _ hp (CU (Ag.upd hp) hp) Ad⟩
 rw [j5]
 rfl
def Dj (l:List (Str×Str)):List (Cr×V):=l.map λq=>(Sum.inr q.1,V.str q.2)
def KA:List (Str×Str):=[("errand", "n"),("hear", "n"),("ring", "n"),("raise", "n"),("off", "n"),("group", "n")]
def KB:List (Str×Str):=[("take", "nn"),("ask", "nn"),("send", "nv"),("let", "nv"),("when", "nv")]
def KC:List (Str×Str):=[("wait", "c"),("limit", "c"),("repeat", "t"),("give", "v")]
def KD:List (Str×Str):=[("keep", ""),("try", ""),("do", "")]
theorem kk_all:BB (BB (BB (AA [] (Dj KA)) (AA [] (Dj KB))) (AA [] (Dj KC))) (AA [] (Dj KD))=Dj KK:=by lk
theorem LS:(AA [] (Dj KA)).length+(AA [] (Dj KB)).length<=sizeLine/\(BB (AA [] (Dj KA)) (AA [] (Dj KB))).length+(AA [] (Dj KC)).length<=sizeLine/\(BB (BB (AA [] (Dj KA)) (AA [] (Dj KB))) (AA [] (Dj KC))).length+(AA [] (Dj KD)).length<=sizeLine:=by lk
theorem Oc (z:Str):∀ l:List (Str×Str),(∃ k,(z,k)∈l/\valV (Dj l) (.inr z)=some (.str k))\/(z∉l.map Prod.fst/\valV (Dj l) (.inr z)=none)
 |[]=>.inr ⟨(λh=>nomatch h),rfl⟩
 | (y,k)::l=>by
  by_cases e:y=z
  ·subst e
   refine .inl ⟨k,C0,?_⟩
   show valV ((Sum.inr y,V.str k)::Dj l) (.inr y)=_
   unfold valV
   simp
  ·have e2:valV (Dj ((y,k)::l)) (.inr z)=valV (Dj l) (.inr z):=by
    show valV ((Sum.inr y,V.str k)::Dj l) (.inr z)=_
    unfold valV
    simp [e]
   rw [e2]
   rcases Oc z l with ⟨k',h1,h2⟩ | ⟨h1,h2⟩
   ·exact .inl ⟨k',A0 _ h1,h2⟩
   ·refine .inr ⟨λq=>?_,h2⟩
    rcases K0.mp q with q | q
    ·exact e q.symm
    ·exact h1 q
theorem catV {K:J0} {G:Hp} {a b:Addr} {xs ys:List V} {R:VK} (h1:G a=some (.tup xs)) (h2:G b=some (.tup ys)) (hx:xs≠[]) (hl:xs.length+ys.length<=1000) (k:∀ q G',Ag G G'->G' q=some (.tup (xs++ys))->R (.ref q) G'):Oz K (.ref a) (.ref b) G R:=by
 refine .inl ⟨a,b,_,_,rfl,rfl,Cn.of h1,Cn.of h2,hx,T0 hl (by kd_p),λhz=>?_,λhz p hp=>k _ _ (Ag.upd hp) Ad⟩
 subst hz
 rw [L1] at k
 exact k _ _ (Ag.refl _) h1
def KT:List (Str×Str):=[("limit", "late"),("try", "but"),("do", "last")]
theorem kt_all:AA [] (Dj KT)=Dj KT:=by lk
theorem kt_val (z:Str):(valV (Dj KT) (.inr z)).getD (.str "")=.str (BQ z):=by
 rcases Oc z KT with ⟨k,h1,h2⟩ | ⟨h1,h2⟩
 ·rw [h2]
  have:∀ p∈KT,p.2=BQ p.1:=by lk
  exact congrArg V.str (this _ h1)
 ·rw [h2]
  have e:BQ z="":=by
   unfold BQ
   rw [if_neg (λe=>h1 (by rw [e];lk)),if_neg (λe=>h1 (by rw [e];lk)),if_neg (λe=>h1 (by rw [e];lk))]
  rw [e]
  rfl
theorem My {y z:Str} (hz:BJ z) (h:BQ y=z):BL y:=by
 unfold BQ at h
 by_cases h1:y="limit"
 ·exact .inr (.inr h1)
 by_cases h2:y="try"
 ·exact .inl h2
 by_cases h3:y="do"
 ·exact .inr (.inl h3)
 rw [if_neg h1,if_neg h2,if_neg h3] at h
 rw [<- h] at hz
 exact absurd hz (by lk)
theorem may_eq {F:Fq} {fz z:Str} {n:Int} {th:List V} (e:F.hd=.str fz::.int n::th) (hz:BJ z):F.mayTurn z=(!F.tn&&decide (BQ fz=z)):=by
 have ew:F.wd=fz:=by unfold Fq.wd;rw [e]
 unfold Fq.mayTurn
 rw [ew]
 congr 1
 refine decide_eq_decide.mpr ⟨λq=>q.2,λq=>⟨My hz q,q⟩⟩
theorem IF.tnL {H:Hp} {b:Lb} {F:Fq} (U:IF H b F):(.ref b.r::b.o.toList.map V.ref:List V).length=if F.tn=true then 2 else 1:=by
 rcases U.os with ⟨e1,e2,_⟩ | ⟨q,ys,e1,e2,_⟩
 ·rw [e1,e2];rfl
 ·rw [e1,e2];rfl
theorem tupsLc {K:J0} {G:Hp} {q:Addr} {as:List Addr} {xss:List (List V)} {σ:L2.St} {Qe:List V->Hp->Prop} (h:G q=some (.lst (as.map V.ref))) (hl:as.length<=5) (he:as.length=xss.length) (hc:∀ (i:Nat) (a:Addr) (xs:List V),as[i]?=some a->xss[i]?=some xs->G a=some (.lst xs))
  (k:∀ (ts:List Addr) J,Ag G J->ts.length=xss.length->(∀ (i:Nat) (a:Addr) (xs:List V),ts[i]?=some a->xss[i]?=some xs->J a=some (.tup xs))->Qe (ts.map V.ref) J) :
  ∃ W:Nat->Nat->List V->Hp->Prop,(∃ m,W 0 m [] G)/\FI [none] (Ir 0) Pz (tCB (λxs H Q=>∃ p,xs=[V.ref p]/\∃ x,(Aw K H p x/\∀ (l:Addr),H l=none->Q (V.ref l) (upd H l (HO.tup x)))\/Cn K H p x/\Q (V.ref p) H) (IV (GW 0) MC)) σ (Itl K q) W Qe:=by
 refine Hi (K:=K) (a:=q) (xs:=as.map V.ref) (λi ys J=>∃ ts:List Addr,ys=ts.map V.ref/\ts.length=i/\Ag G J/\∀ (j:Nat) (a:Addr) (xs:List V),ts[j]?=some a->xss[j]?=some xs->J a=some (.tup xs)) ⟨[],rfl,rfl,Ag.refl _,λ_ _ _ e=>nomatch e⟩ ?_ ?_ ?_ ?_
 ·rintro i ys J hi ⟨ts,rfl,e,s,_⟩
  exact ⟨Aw.of (s _ _ h),by rw [L0,e];exact V0 _⟩
 ·rw [L0];exact T0 hl (by kd_p)
 ·rintro i y ys J hy ⟨ts,rfl,e,s,ht⟩
  rw [Z1] at hy
  obtain ⟨a,ha,rfl⟩:=K2.mp hy
  have hi:i<xss.length:=by rw [<- he];exact (d0.mp ha).1
  have hx:=x0 hi
  have hla:=s _ _ (hc i a _ ha hx)
  simp only [Pz,tCB,IV,GW,MC,Ir]
  rw [if_pos trivial]
  refine ⟨V.ref a,rfl,a,rfl,?_⟩
  refine ⟨_,.inl ⟨Aw.of hla,λl hl0=>⟨ts++[l],by rw [o0];rfl,by rw [B0,e];rfl,s.trans (Ag.upd hl0),λj b xs hb hxs=>?_⟩⟩⟩
  rcases Cp hb with ⟨lt,hb⟩ | ⟨ej,eb⟩
  ·exact (Ag.upd hl0) _ _ (ht j b xs hb hxs)
  ·rw [ej,e,hx] at hxs
   cases hxs
   rw [eb]
   exact Ad
 ·rintro ys J ⟨ts,rfl,e,s,ht⟩
  rw [L0] at e
  exact k ts J s (by rw [e,he]) ht
theorem wd_of {F:Fq} {fz:Str} {n:Int} {th:List V} (e:F.hd=.str fz::.int n::th):F.wd=fz:=by unfold Fq.wd;rw [e]
theorem MV {H:Hp} {ys:List V} {ts:List Tr} (h:By H ys ts):(ys=[]↔ts=[]):=by
 have:=h.1
 constructor<;>intro e<;>subst e
 ·exact v1 this.symm
 ·exact v1 this
theorem IF.lists {H:Hp} {b:Lb} {F:Fq} (U:IF H b F):∃ (as:List Addr) (xss:List (List V)),H b.L=some (.lst (as.map V.ref))/\as.length=xss.length/\(∀ (i:Nat) (a:Addr) (xs:List V),as[i]?=some a->xss[i]?=some xs->H a=some (.lst xs))/\((F.tn=false/\F.os=[]/\∃ xs,xss=[xs]/\By H xs F.rs)\/(F.tn=true/\∃ xs ys,xss=[xs,ys]/\By H xs F.rs/\By H ys F.os)):=by
 obtain ⟨xs,x1,x2⟩:=U.rs
 rcases U.os with ⟨e1,e2,e3⟩ | ⟨q,ys,e1,e2,e3,e4⟩
 ·refine ⟨[b.r],[xs],by rw [U.ls,e1];rfl,rfl,λi a z ha hz=>?_,.inl ⟨e2,e3,xs,rfl,x2⟩⟩
  match i,ha,hz with
  |0,ha,hz=>cases ha;cases hz;exact x1
 ·refine ⟨[b.r,q],[xs,ys],by rw [U.ls,e1];rfl,rfl,λi a z ha hz=>?_,.inr ⟨e2,xs,ys,rfl,x2,e4⟩⟩
  match i,ha,hz with
  |0,ha,hz=>cases ha;cases hz;exact x1
  |1,ha,hz=>cases ha;cases hz;exact e3
theorem inTryDo (z:Str):CA (V.str z) [V.str "try",V.str "do"]=decide (z="try"\/z="do"):=by
 show (Em _ _||(Em _ _||false))=_
 rw [Da,Da,Z3,X7]
theorem ET.of {H:Hp} {a:Addr} {xs:List V} {ts:List Tr} (h:H a=some (.tup xs)) (r:By H xs ts):ET H (.ref a) (.t ts):=.t h r.1 r.2
theorem LB {H:Hp} {z:Str} {n:Int} {th:List V} (h:∀ v∈th,Ch v=true):By H (.str z::.int n::th) ((V.str z::V.int n::th).map RN):=By.flat λv hv=>by
 rcases K0.mp hv with rfl | hv
 ·rfl
 rcases K0.mp hv with rfl | hv
 ·rfl
 exact h v hv
theorem Rr {A B:Prop} (h:B):if false=true then A else B:=h
theorem limT {K:J0} {G:Hp} {D:Addr} {ts:List Addr} {R:VK} {q:Bool} (lD:G D=some (.lst (ts.map V.ref))) (h:(∃ t0,ts=[t0]/\q=false)\/∃ t0 t1 ys,ts=[t0,t1]/\G t1=some (.tup ys)/\q=decide (ys=[])) (k:∀ G',Ag G G'->R (.bl q) G') :
  QZ K (.ref D) (some 1) none G λx H1=>0<=sizeLine/\∀ p,H1 p=none->1<=sizeLine/\∀ p1,upd H1 p (.tup []) p1=none->Oy K false x (.ref p1) (upd (upd H1 p (.tup [])) p1 (.lst [.ref p])) R:=by
 refine ⟨D,_,rfl,Aw.of lD,λd hd=>⟨by kd_p,λp hp=>⟨by kd_p,λp1 hp1=>?_⟩⟩⟩
 revert hp hp1
 walk_at "c d hd G1 s1 l1"
 intro hp hp1
 revert hp1
 walk_at "c p hp G2 s2 l2"
 intro hp1
 walk_at "c p1 hp1 G3 s3 l3"
 have sA:=s1.trans (s2.trans s3)
 have kk:=k _ sA
 have l1:=s3 _ _ (s2 _ _ l1)
 rcases h with ⟨t0,rfl,rfl⟩ | ⟨t0,t1,ys,rfl,ht,rfl⟩
 ·rw [F1,UO,F4] at l1
  exact ⟨d,p1,_,_,1,λ_=>true,rfl,rfl,Aw.of l1,Aw.of l3,by kd_p,λi x y hx=>(by cases hx),kk⟩
 ·rw [F1,UO,F1,F4] at l1
  have hn:t1≠p:=λe=>by
   rw [e] at ht
   rw [s1 _ _ ht] at hp
   cases hp
  refine ⟨d,p1,_,_,1,λ_=>decide (ys=[]),rfl,rfl,Aw.of l1,Aw.of l3,by kd_p,λi x y hx hy=>?_,?_⟩
  ·match i,hx,hy with
   |0,hx,hy =>
    cases hx;cases hy
    have:Oa K G3 1 (.ref t1) (.ref p) ((K3 (min ys.length ([]:List V).length)).all (λ_=>true)&&ys.length == ([]:List V).length):=.tup (Cn.of (sA _ _ ht)) (Cn.of (s3 _ _ l2)) hn λi x y hx hy=>(by cases hy)
    rw [show ((K3 (min ys.length ([]:List V).length)).all (λ_=>true)&&ys.length == ([]:List V).length)=decide (ys=[]) by cases ys<;>simp] at this
    exact this
  ·rw [show (false^^(decide ([V.ref t1].length=[V.ref p].length)&&(K3 [V.ref t1].length).all λ_=>decide (ys=[])))=decide (ys=[]) by simp]
   exact kk
theorem may_end {F:Fq} {fz:Str} (e:F.wd=fz):F.mayEnd=if fz="limit" then !F.tn||!F.os.isEmpty else F.tn||!decide (BL fz):=by unfold Fq.mayEnd;rw [e]
theorem IF.put {H:Hp} {b:Lb} {F:Fq} {v:V} {t:Tr} (U:IF H b F) (nd:b.own.Nodup) (hv:ET H v t):∃ (l:Addr) (xs ps:List V),H b.L=some (.lst (ps++[.ref l]))/\H l=some (.lst xs)/\l∈b.own/\(xs.length=F.rs.length\/xs.length=F.os.length)/\IF (upd H l (.lst (xs++[v]))) b (F.put t):=by
 obtain ⟨z,n,th,fa,e1,h1,h2,h3,h4,h5,h6⟩:=U.fr
 obtain ⟨xs,x1,x2⟩:=U.rs
 rcases U.os with ⟨e,e2,e3⟩ | ⟨q,ys,e,e2,e3,e4⟩
 ·refine ⟨b.r,xs,[],by rw [U.ls,e];rfl,x1,by simp [Lb.own],.inl x2.1,?_⟩
  have sT:Bq H (upd H b.r (.lst (xs++[v]))):=Bw x1
  unfold Lb.own at nd
  rw [e] at nd
  simp only [d8,Y0,K0,A1,or_false,not_or] at nd
  have ep:F.put t={ F with rs:=F.rs++[t] }:=by unfold Fq.put;rw [if_neg (by rw [e2];exact Q0)]
  rw [ep]
  exact ⟨⟨z,n,th,fa,e1,by rw [Ap nd.1.2];exact h1,sT _ _ h2,h3,h4,h5,h6⟩,by rw [Ap nd.2.1];exact U.ls,⟨_,Ad,(x2.sameT sT).snoc (hv.sameT sT)⟩,.inl ⟨e,e2,e3⟩⟩
 ·refine ⟨q,ys,[.ref b.r],by rw [U.ls,e];rfl,e3,by simp [Lb.own,e],.inr e4.1,?_⟩
  have sT:Bq H (upd H q (.lst (ys++[v]))):=Bw e3
  unfold Lb.own at nd
  rw [e] at nd
  simp only [d8,Y0,K0,A1,or_false,not_or] at nd
  have ep:F.put t={ F with os:=F.os++[t] }:=by unfold Fq.put;rw [if_pos e2]
  rw [ep]
  exact ⟨⟨z,n,th,fa,e1,by rw [Ap nd.1.2.2];exact h1,sT _ _ h2,h3,h4,h5,h6⟩,by rw [Ap nd.2.1.2];exact U.ls,⟨_,by rw [Ap nd.2.2.1];exact x1,x2.sameT sT⟩,.inr ⟨q,_,e,e2,Ad,(e4.sameT sT).snoc (hv.sameT sT)⟩⟩
theorem put_len (F:Fq) (t:Tr):(F.put t).rs.length<=F.rs.length+1/\(F.put t).os.length<=F.os.length+1:=by
 unfold Fq.put
 split
 ·exact ⟨C3 _,by show (F.os++[t]).length<=_;rw [B0];exact V0 _⟩
 ·exact ⟨by show (F.rs++[t]).length<=_;rw [B0];exact V0 _,C3 _⟩
section
variable {H0 H H':Hp} {pa ua:Addr} {pg:List Tr} {S:List Fq} {F F':Fq} {Bs Cs:List Lb} {b b':Lb} {c c':Nat} {st:St}
theorem GA.nodTop (R:GA H0 H pa ua st (Cs++[b]) c):b.own.Nodup:=by
 have:=R.nd
 rw [EQ] at this
 exact (F2.mp (Y0.mp (Y0.mp this).2).2).2.1
theorem GA.put (R:GA H0 H pa ua ⟨pg,S++[F]⟩ (Cs++[b]) c) (hl:Cs.length=S.length) {v:V} {t:Tr} (hv:ET H v t):∃ (l:Addr) (xs ps:List V),H b.L=some (.lst (ps++[.ref l]))/\H l=some (.lst xs)/\xs.length<=c/\GA H0 (upd H l (.lst (xs++[v]))) pa ua ⟨pg,S++[F.put t]⟩ (Cs++[b]) (c+1):=by
 have nd:=R.nodTop
 obtain ⟨l,xs,ps,h1,h2,h3,h4,U⟩:=(R.top hl).put nd hv
 have hc:=R.ct.2 F (S0 _ (N4 _))
 have hp:=put_len F t
 refine ⟨l,xs,ps,h1,h2,by rcases h4 with e | e<;>lia,R.mod hl U rfl (λa ha=>.inl ha) nd (λa u ha e=>?_) (C3 _) (by lia) (by lia)⟩
 rw [Ap (λq=>ha (by rw [q];exact h3))]
 exact e
theorem GA.ixRow {K:J0} {Q:VK} (R:GA H0 H pa ua ⟨pg,S++[F]⟩ (Cs++[b]) c) (hl:Cs.length=S.length) {l:Addr} {ps:List V} (h:H b.L=some (.lst (ps++[.ref l]))) (k:Q (.ref l) H):DS K (.ref ua) (.int (-1)) H λx H1=>DS K x (.int 3) H1 λx H1=>DS K x (.int (-1)) H1 Q:=by
 obtain ⟨z,n,th,fa,_,h1,_⟩:=(R.top hl).fr
 exact R.ixTop ⟨b.p,_,3,.ref b.L,rfl,rfl,Aw.of h1,Av (j:=3) rfl,b.L,_,-1,.ref l,rfl,rfl,Aw.of h,JN _ _,k⟩
theorem GA.outU (R:GA H0 H pa ua st Bs c) (s:Ag H H') (o:HO):Ag H0 (upd H' ua o):=λa u h=>by
 rw [Ap (λe=>by rw [e,R.new ua (A0 _ C0)] at h;cases h)]
 exact s _ _ (R.out a u h)
theorem GA.nilU (R:GA H0 H pa ua st Bs c):((Bs.map λb=>V.ref b.p)=[])↔st.un=[]:=by
 rw [S4]
 have:=R.len
 constructor<;>intro e
 ·rw [e] at this;exact v1 this.symm
 ·rw [e] at this;exact v1 this
end
theorem kk_try:(Str.ofString "try",Str.ofString "")∈KK:=by lk
theorem Ku {z:Str} {r:List Str} {x:List V} (h:Fu (z::r)=some x):∃ t,x=.str z::t/\t.length<=10/\(∀ v∈t,Ch v=true)/\(z="try"->t=[]):=by
 obtain ⟨t,rfl⟩:=SQ h
 refine ⟨t,rfl,?_,?_,λe=>?_⟩
 ·unfold Fu at h
  cases e:Bg SL (z::r) with
  |none=>rw [e] at h;cases h
  |some fs =>
   rw [e] at h
   have h:some (fs.headD .non::CD fs)=some (.str z::t):=h
   have h2:CD fs=t:=(T5.inj (Option.some.inj h)).2
   have ok:=FJ (F:=SL) (by lk) e
   rw [<- h2]
   unfold CD
   rw [B0]
   have l1:fs.tail.length<=9:=by rw [List.length_tail];have:=ok.1;lia
   have l2:(fs.tail.filter λv=>!CA v [.str "in",.str "within"]).length<=fs.tail.length:=Y3 _ _
   split
   ·show _+1<=10;lia
   ·show _+0<=10;lia
 ·unfold Fu at h
  cases e:Bg SL (z::r) with
  |none=>rw [e] at h;cases h
  |some fs =>
   rw [e] at h
   have h:some (fs.headD .non::CD fs)=some (.str z::t):=h
   have h2:CD fs=t:=(T5.inj (Option.some.inj h)).2
   have ok:=FJ (F:=SL) (by lk) e
   rw [<- h2]
   unfold CD
   intro v hv
   rcases X0.mp hv with hv | hv
   ·exact ok.2 v (List.mem_of_mem_tail (Q4.mp hv).1)
   ·split at hv
    ·rw [M0.mp hv];rfl
    ·cases hv
 ·subst e
  rw [SO kk_try] at h
  show t=[]
  have e:RD (Str.ofString "")=[]:=by lk
  rw [show (Str.ofString "try",Str.ofString "").2=Str.ofString "" from rfl,e] at h
  unfold CI at h
  split at h
  ·cases h;rfl
  ·cases h
theorem PU {K:J0} {G:Hp} {a:Addr} {x:V} {r:List V} {R:VK} (h:G a=some (.tup (x::r))) (k:∀ q G',Ag G G'->G' q=some (.tup r)->R (.ref q) G'):PY K (.ref a) (some 1) none G R:=by
 refine ⟨a,_,rfl,Cn.of h,λe=>?_,λ_ p hp=>k p _ (Ag.upd hp) (by rw [Ad,UO])⟩
 exfalso
 have:=e.1
 unfold HT.sIx at this
 simp at this
theorem inTurn (z:Str):CA (V.str z) [V.str "late",V.str "but",V.str "last"]=decide (BJ z):=by
 show (Em _ _||(Em _ _||(Em _ _||false)))=_
 rw [Da,Da,Da,Z3,X7,X7]
theorem GA.last {H0 H:Hp} {pa ua:Addr} {pg:List Tr} {S:List Fq} {F:Fq} {Cs:List Lb} {b:Lb} {c:Nat} (R:GA H0 H pa ua ⟨pg,S++[F]⟩ (Cs++[b]) c) (hl:Cs.length=S.length):∃ (l:Addr) (xs ps:List V),H b.L=some (.lst (ps++[.ref l]))/\H l=some (.lst xs)/\xs.length<=c/\∀ H' v t,Ag H H'->ET H' v t->GA H0 (upd H' l (.lst (xs++[v]))) pa ua ⟨pg,S++[F.put t]⟩ (Cs++[b]) (c+1):=by
 obtain ⟨l,xs,ps,h1,h2,h3,_⟩:=R.put hl (v:=.int 0) (t:=.i 0) (.i 0)
 refine ⟨l,xs,ps,h1,h2,h3,λH' v t s hv=>?_⟩
 obtain ⟨l',xs',ps',q1,q2,q3,q4⟩:=(R.same s).put hl hv
 rw [s _ _ h1] at q1
 have e:=(List.append_inj' (HO.lst.inj (Option.some.inj q1)) rfl).2
 cases e
 rw [s _ _ h2] at q2
 cases q2
 exact q4
theorem emE {K:J0} {G:Hp} {a:Addr} {xs:List V} {R:VK} (h:G a=some (.lst xs)) (k:∀ G',Ag G G'->R (.bl (decide (xs=[]))) G'):0<=sizeLine/\∀ p,G p=none->Oy K false (.ref a) (.ref p) (upd G p (.lst [])) R:=by
 refine ⟨by kd_p,λp hp=>?_⟩
 have s1:=Ag.upd (o:=.lst []) hp
 refine ⟨a,p,_,_,1,λ_=>true,rfl,rfl,Aw.of (s1 _ _ h),Aw.of Ad,by kd_p,λi x y hx hy=>(by cases hy),?_⟩
 have e:(false^^(decide (xs.length=([]:List V).length)&&(K3 xs.length).all λ_=>true))=decide (xs=[]):=by
  cases xs<;>simp
 rw [e]
 exact k _ s1
theorem inBlk (z:Str):CA (V.str z) [V.str "errand",V.str "group",V.str "limit",V.str "keep",V.str "try",V.str "do",V.str "when"]=decide (z="errand"\/z="group"\/z="limit"\/z="keep"\/z="try"\/z="do"\/z="when"):=by
 show (Em _ _||(Em _ _||(Em _ _||(Em _ _||(Em _ _||(Em _ _||(Em _ _||false)))))))=_
 simp only [Da,Z3,X7]
theorem Pr {pg:List Tr} {un:List Fq} {z:Str} (h1:z≠"end") (h2:¬ BJ z) (h:¬ (z="errand"↔un=[])):Be ⟨pg,un⟩ z=false:=by
 rcases Y2 un with rfl | ⟨S,F,e⟩
 ·rw [GS]
  exact decide_eq_false λe=>h ⟨λ_=>rfl,λ_=>e⟩
 ·rw [D3] at e
  subst e
  have hz:z="errand":=Classical.byContradiction λq=>h ⟨λe=>absurd e q,λe=>(by simp at e)⟩
  rw [BV,if_neg h1,if_neg h2,if_neg (by rw [hz];lk)]
  exact decide_eq_false λq=>q hz
theorem JO {pg:List Tr} {un:List Fq} {z:Str} (h1:z≠"end") (h2:¬ BJ z) (h:z="errand"↔un=[]) (hb:z="errand"\/Fj z):Be ⟨pg,un⟩ z=decide (un.length<=20):=by
 rcases Y2 un with rfl | ⟨S,F,e⟩
 ·rw [GS,decide_eq_true (h.mpr rfl)];rfl
 ·rw [D3] at e
  subst e
  have hz:z≠"errand":=λq=>by have:=h.mp q;simp at this
  rw [BV,if_neg h1,if_neg h2,if_pos (hb.resolve_left hz),B0]
  rfl
theorem Pq {pg:List Tr} {S:List Fq} {F:Fq} {z:Str} (h1:z≠"end") (h2:¬ BJ z) (hb:¬ (z="errand"\/Fj z)):Be ⟨pg,S++[F]⟩ z=true:=by
 rw [BV,if_neg h1,if_neg h2,if_neg (λq=>hb (.inr q))]
 exact decide_eq_true λq=>hb (.inl q)
theorem lat_new {H:Hp} {p t L r:Addr} {z:Str} {n:Int} {th:List V} (h1:H p=some (.lst [.str z,.int n,.ref t,.ref L,.non])) (h2:H t=some (.tup th)) (h3:H L=some (.lst [.ref r])) (h4:H r=some (.lst [])) (l:th.length<=10) (f:∀ v∈th,Ch v=true) (e:z="try"->th=[]):IF H ⟨p,t,L,r,none⟩ ⟨lnR (.str z::th) n,[],false,[],[]⟩ :=
 ⟨⟨z,n,th,.non,rfl,h1,h2,l,f,λq=>⟨e q,λw=>nomatch w⟩,λ_=>rfl⟩,h3,⟨[],h4,By.nil _⟩,.inl ⟨rfl,rfl,rfl⟩⟩
theorem pushL {K:J0} {H0 G:Hp} {pa ua a:Addr} {pg:List Tr} {un:List Fq} {Bs:List Lb} {c:Nat} {z:Str} {n:Int} {t:List V} {Q:VK} (R:GA H0 G pa ua ⟨pg,un⟩ Bs c) (ha:G a=some (.tup (.str z::t))) (tl:t.length<=10) (tf:∀ v∈t,Ch v=true) (te:z="try"->t=[])
  (k1:un.length<=20->∀ H' Bs',GA H0 H' pa ua ⟨pg,un++[⟨lnR (.str z::t) n,[],false,[],[]⟩]⟩ Bs' (c+1)->Q (.bl true) H') (k2:¬ un.length<=20->∀ H',Ag H0 H'->Q (.bl false) H') :
  JW K (.ref a) (.int 0) G λx H1=>PY K (.ref a) (some 1) none H1 λx_1 H1=>0<=sizeLine/\∀ p,H1 p=none->1<=sizeLine/\∀ p_1,upd H1 p (.lst []) p_1=none->5<=sizeLine/\∀ p_2,upd (upd H1 p (.lst [])) p_1 (.lst [.ref p]) p_2=none ->
   DT (.ref ua) [.ref p_2] (upd (upd (upd H1 p (.lst [])) p_1 (.lst [.ref p])) p_2 (.lst [x,.int n,x_1,.ref p_1,.non])) λ_ H1=>∃ x,Ke K (.ref ua) H1 x/\Q (.bl (decide ((x:Int)<22))) H1:=by
 refine ⟨a,_,0,.str z,rfl,rfl,Cn.of ha,Av (j:=0) rfl,PU ha λq G1 s1 hq=>⟨by kd_p,λp hp=>⟨by kd_p,λp1 hp1=>⟨by kd_p,λp2 hp2=>?_⟩⟩⟩⟩
 have n1:p1≠p:=λe=>by rw [e,Ad] at hp1;cases hp1
 have n2:p2≠p1:=λe=>by rw [e,Ad] at hp2;cases hp2
 have n3:p2≠p:=λe=>by rw [e,Ap n1.symm,Ad] at hp2;cases hp2
 have g1:G1 p1=none:=by rw [Ap n1] at hp1;exact hp1
 have g2:G1 p2=none:=by rw [Ap n2,Ap n3] at hp2;exact hp2
 revert hp1 hp2
 walk_at "c p hp G2 s2 l2"
 intro hp1 hp2
 revert hp2
 walk_at "c p1 hp1 G3 s3 l3"
 intro hp2
 walk_at "c p2 hp2 G4 s4 l4"
 have sA:=s1.trans (s2.trans (s3.trans s4))
 have R4:=R.same sA
 have hle:(Bs.map λb=>V.ref b.p).length=un.length:=by rw [L0];exact R.len
 have h21:un.length<=21:=R.le
 refine ⟨ua,_,_,rfl,rfl,R4.ul,by rw [hle];exact X2 h21 (by kd_p),_,AV.mpr (.inl ⟨_,Aw.of Ad,rfl⟩),?_⟩
 rw [B0,hle]
 by_cases h:un.length<=20
 ·rw [decide_eq_true (show ((un.length+[V.ref p2].length:Nat):Int)<22 by show ((un.length+1:Nat):Int)<22;lia)]
  have free:∀ {x:Addr},G1 x=none->G x=none:=λh=>s1.free h
  refine k1 h _ _ ((R.push h sA (lat_new l4 ((s2.trans (s3.trans s4)) _ _ hq) (s4 _ _ l3) (s4 _ _ (s3 _ _ l2)) tl tf te) (λx hx=>?_) ?_ (N1 _) (N1 _)).mono (C3 c))
  ·simp only [Lb.own,d8,K0,A1,or_false] at hx
   rcases hx with rfl | rfl | rfl
   ·exact free g2
   ·exact free g1
   ·exact free hp
  ·simp [Lb.own,n1,n2,n3]
 ·rw [decide_eq_false (show ¬ ((un.length+[V.ref p2].length:Nat):Int)<22 by show ¬ ((un.length+1:Nat):Int)<22;lia)]
  exact k2 h _ (R.outU sA _)
theorem Ox {C:Addr} {H G:Hp} {v:V} {E:XK} (s:Ag H G) (k:∀ dx H',H' dx=some (QF dx [("line",v)])->Ag H H'->E (.ref C) (some dx) H'):∀ e t,G e=none->Jd C [.ref e,v] (upd G e (Cy e C none t)) (λv H2=>v=.non/\∃ d t,H2 e=some (Cy e C d t)/\E (.ref C) d (RO H2 e)) E0:=λe t he=>by
 refine ⟨e,v,t,rfl,Ad,λdx H' hd ne h1 h2 h3=>⟨rfl,some dx,t,h1,k dx _ (by rw [Fh ne];exact h2) λb o hb=>?_⟩⟩
 have hbe:b≠e:=λq=>by rw [q] at hb;rw [s _ _ hb] at he;cases he
 rw [Fh hbe]
 exact h3 b o hbe (by rw [Ap hbe];exact s _ _ hb)
def nl (z:Str):Nat:=z.cps.toList.count 10
structure Gd (N S M B:Nat) (g:List Str):Prop where
 len:g.length<=N
 each:∀ x∈g,Fp x/\x.length<=M
 sum:(g.map (·.length)).sum<=S
 nls:(g.map nl).sum<=B
def Sx:Sp:=λvs H Q _=>∃ (z:Str) (xa:Addr) (ns:List Int),vs=[.str z,.ref xa]/\Fp z/\z.length<=5000/\H xa=some (.lst (ns.map V.int))/\4<=ns.length/\∀ y H',Fp y->y.length<=z.length+1->nl y<=nl z+1->Ag H H'->Q (.str y) H'
def MI:Sp:=λvs H Q _=>∃ (ga xa:Addr) (g:List Str) (ns:List Int) (N S M B:Nat),vs=[.ref ga,.ref xa]/\H ga=some (.lst (g.map V.str))/\g≠[]/\Gd N S M B g/\4000<=M/\M<=4500/\N<=30000/\H xa=some (.lst (ns.map V.int))/\ns.length=8/\∀ l g' H',H' l=some (.lst (g'.map V.str))->Gd (N+1) (S+M+10) (M+10) (2*B+10) g'->Ag H H'->Q (.ref l) H'
theorem IW (f:Str->Nat) (g:List Str) {i k:Nat} (h:i<=k):((g.take i).map f).sum+((g.drop k).map f).sum<=(g.map f).sum:=by
 have e:g.map f=(g.take i).map f++(((g.drop i).take (k-i)).map f++(g.drop k).map f):=by
  rw [<- o0,<- o0]
  congr 1
  conv=>lhs;rw [<- W5 i g]
  congr 1
  conv=>lhs;rw [<- W5 (k-i) (g.drop i)]
  rw [List.drop_drop]
  congr 2
  lia
 rw [e,j3,j3]
 lia
theorem PH (f:Str->Nat):∀ {g:List Str} {x:Str},x∈g->f x<=(g.map f).sum
 |a::g,x,h=>by
  rw [F1,L3]
  rcases K0.mp h with rfl | h
  ·lia
  ·have:=PH f h
   lia
theorem PF (f:Str->Nat) {xs:List Str} {m:Nat} (h:xs.length<=1) (hx:∀ x∈xs,f x<=m):(xs.map f).sum<=m:=by
 match xs,h with
 |[],_=>exact N1 _
 |[x],_=>show f x+0<=m;exact hx x C0
theorem Gd.edit {N S M B:Nat} {g:List Str} (h:Gd N S M B g) {i k:Nat} (hik:i<=k) {xs:List Str} (hl:xs.length<=1) (hx:∀ x∈xs,Fp x/\x.length<=M+10/\nl x<=B+10):Gd (N+1) (S+M+10) (M+10) (2*B+10) (g.take i++xs++g.drop k):=by
 have s1:=IW (·.length) g hik
 have s2:=IW nl g hik
 have s3:=IW (λ_=>1) g hik
 have x1:=PF (·.length) hl λx m=>(hx x m).2.1
 have x2:=PF nl hl λx m=>(hx x m).2.2
 have e1:∀ l:List Str,(l.map λ_=>1).sum=l.length:=λl=>by
  induction l with
  |nil=>rfl
  |cons a l ih=>rw [F1,L3,ih,P0];lia
 rw [e1,e1,e1] at s3
 have h1:=h.len
 have h2:=h.sum
 have h3:=h.nls
 refine ⟨?_,λx m=>?_,?_,?_⟩
 ·rw [B0,B0];lia
 ·rcases X0.mp m with m | m
  ·rcases X0.mp m with m | m
   ·have:=h.each x (O9 m);exact ⟨this.1,by lia⟩
   ·have:=hx x m;exact ⟨this.1,this.2.1⟩
  ·have:=h.each x (P9 m);exact ⟨this.1,by lia⟩
 ·rw [o0,o0,j3,j3]
  lia
 ·rw [o0,o0,j3,j3]
  lia
theorem cut_to (xs:List V) (n:Nat):DI xs none (some (n:Int))=xs.take n:=by
 unfold DI
 rw [HT.sIx_none,HT.sIx_nat,y6,x8]
 rcases y7 n xs.length with h | h
 ·rw [S7 h]
 ·rw [E7 h,T3 (V0 _),T3 h]
theorem NU (xs:List V) (n:Nat):DI xs (some (n:Int)) none=xs.drop n:=by
 unfold DI
 rw [HT.sIx_none,HT.sIx_nat]
 rcases y7 n xs.length with h | h
 ·rw [S7 h]
  exact T3 (by rw [C4];exact V0 _)
 ·rw [E7 h,v7,V8,C9 h]
def jn (l:List Str):List Nat:=(l.map λb=>10::b.cps.toList).flatten
theorem Ua (a b:List Str):jn (a++b)=jn a++jn b:=by unfold jn;rw [o0,List.flatten_append]
theorem Fg:∀ {l:List Str},l≠[]->10::(Str.join ⟨#[10]⟩ l).cps.toList=jn l
 |a::r,_=>by
  rw [L2.join_cps]
  rfl
theorem NB (z:Str):jn (Txt.split z ⟨#[10]⟩)=10::z.cps.toList:=by
 rw [<- Fg (IZ z 10),StrLaws.join_split]
theorem NE:∀ {l:List Str},(∀ a∈l,(10:Nat)∉a.cps.toList)->(jn l).count 10=l.length
 |[],_=>rfl
 |a::l,h=>by
  show (10::a.cps.toList++jn l).count 10=_
  rw [F5,NE λb hb=>h b (A0 _ hb),R9,i7.mpr (h a C0),P0]
  lia
theorem Sw (z:Str):(Txt.split z ⟨#[10]⟩).length=nl z+1:=by
 rw [<- NE λa ha=>StrLaws.split_free _ 10 a ha,NB,R9]
 rfl
theorem LV:∀ L:List Str,jn (L.flatMap λl=>Txt.split l ⟨#[10]⟩)=jn L
 |[]=>rfl
 |a::L=>by
  rw [V2,Ua,LV L,NB]
  rfl
theorem Ja {L:List Str} (h:L≠[]):Txt.split (Str.join ⟨#[10]⟩ L) ⟨#[10]⟩=L.flatMap λl=>Txt.split l ⟨#[10]⟩:=by
 have hne:(L.flatMap λl=>Txt.split l ⟨#[10]⟩)≠[]:=λe=>by
  have:=LV L
  rw [e,<- Fg h] at this
  cases this
 refine Nz 10 (IZ _ 10) hne (λa ha=>StrLaws.split_free _ 10 a ha) (λa ha=>?_) ?_
 ·obtain ⟨l,_,hl⟩:=M3.mp ha
  exact StrLaws.split_free _ 10 a hl
 ·rw [StrLaws.join_split]
  refine Fx ?_
  have:=(Fg hne).trans ((LV L).trans (Fg h).symm)
  exact (T5.inj this).2.symm
theorem Gd.text {N S M B:Nat} {g:List Str} (h:Gd N S M B g) (hM:M<=5000) (hN:N+B+1<=90000) (hS:S+N<=10000000):GT (Str.join ⟨#[10]⟩ g):=by
 by_cases hg:g=[]
 ·subst hg
  have e:Txt.split (Str.join ⟨#[10]⟩ []) ⟨#[10]⟩=[("":Str)]:=by lk
  refine ⟨(show Fp "" from λc hc=>(by cases hc)),N1 _,(by rw [e];decide),λl hl=>?_⟩
  rw [e] at hl
  rw [M0.mp hl]
  lk
 have ej:=Fg hg
 have hjn:∀ (l:List Str) c,c∈jn l->c=10\/∃ x∈l,c∈x.cps.toList:=λl c hc=>by
  unfold jn at hc
  obtain ⟨q,hq,hc⟩:=D8.mp hc
  obtain ⟨x,hx,rfl⟩:=D2.mp hq
  rcases K0.mp hc with rfl | hc
  ·exact .inl rfl
  ·exact .inr ⟨x,hx,hc⟩
 have hjl:∀ l:List Str,(jn l).length=(l.map (·.length)).sum+l.length:=λl=>by
  induction l with
  |nil=>rfl
  |cons a l ih =>
   show (10::a.cps.toList++jn l).length=_
   rw [B0,ih,F1,L3,P0,P0,Bp]
   lia
 refine ⟨λc hc=>?_,?_,?_,λl hl=>?_⟩
 ·rcases hjn g c (by rw [<- ej];exact A0 _ hc) with rfl | ⟨x,hx,q⟩
  ·decide
  ·exact (h.each x hx).1 c q
 ·have:=hjl g
  rw [<- ej,P0] at this
  rw [Bp]
  have h1:=h.len
  have h2:=h.sum
  lia
 ·rw [Ja hg]
  have:∀ l:List Str,(l.flatMap λl=>Txt.split l ⟨#[10]⟩).length=(l.map nl).sum+l.length:=λl=>by
   induction l with
   |nil=>rfl
   |cons a l ih =>
    rw [V2,B0,ih,Sw,F1,L3,P0]
    lia
  rw [this]
  have h1:=h.len
  have h2:=h.nls
  lia
 ·rw [Ja hg] at hl
  obtain ⟨x,hx,hl⟩:=M3.mp hl
  have:=GX hl
  have:=(h.each x hx).2
  lia
theorem Mi (z:Str) (n:Nat):(CG z none (some (n:Int))).cps.toList=z.cps.toList.take n:=by
 unfold CG
 rw [HT.sIx_none,HT.sIx_nat,y6,x8,Y6,Bp]
 rcases y7 n z.cps.toList.length with h | h
 ·rw [S7 h]
 ·rw [E7 h,T3 (V0 _),T3 h]
theorem HY (z:Str) (n:Nat):(CG z (some (n:Int)) none).cps.toList=z.cps.toList.drop n:=by
 unfold CG
 rw [HT.sIx_none,HT.sIx_nat,Y6,Bp]
 rcases y7 n z.cps.toList.length with h | h
 ·rw [S7 h]
  exact T3 (by rw [C4];exact V0 _)
 ·rw [E7 h,v7,V8,C9 h]
theorem Tk (l:List Nat) {n k:Nat} (h:n<=k):(l.take n).length+(l.drop k).length<=l.length/\(l.take n).count 10+(l.drop k).count 10<=l.count 10:=by
 have e:l=l.take n++(((l.drop n).take (k-n))++l.drop k):=by
  conv=>lhs;rw [<- W5 n l]
  congr 1
  conv=>lhs;rw [<- W5 (k-n) (l.drop n)]
  rw [List.drop_drop]
  congr 2
  lia
 constructor
 ·have:=congrArg E8 e
  rw [B0,B0] at this
  lia
 ·have:=congrArg (List.count 10) e
  rw [F5,F5] at this
  lia
theorem edS {z y:Str} {n k:Nat} {ts:List Nat} (e:y.cps.toList=z.cps.toList.take n++ts++z.cps.toList.drop k) (h:n<=k) (hl:ts.length<=1) (ha:∀ c∈ts,c<128) (hz:Fp z):Fp y/\y.length<=z.length+1/\nl y<=nl z+1:=by
 obtain ⟨p1,p2⟩:=Tk z.cps.toList h
 refine ⟨λc hc=>?_,?_,?_⟩
 ·rw [e] at hc
  rcases X0.mp hc with hc | hc
  ·rcases X0.mp hc with hc | hc
   ·exact hz c (O9 hc)
   ·exact ha c hc
  ·exact hz c (P9 hc)
 ·rw [Bp,Bp,e,B0,B0]
  lia
 ·unfold nl
  rw [e,F5,F5]
  have:ts.count 10<=ts.length:=List.count_le_length
  lia
theorem Ie {K:J0} {G:Hp} {xa:Addr} {ns:List Int} {R:VK} (hx:G xa=some (.lst (ns.map V.int))) (j:Nat) (hj:j<ns.length) (k:∀ n:Int,R (.int n) G):DS K (.ref xa) (.int (j:Int)) G R:=by
 refine ⟨xa,_,j,.int ns[j],rfl,rfl,Aw.of hx,Av (by rw [Z1,x0 hj];rfl),k _⟩
theorem TB (i:Int) {m:Int} (h:0<m):∃ n:Nat,i%m=(n:Int)/\(n:Int)<m:=by
 have h0:=Q5 i (show m≠0 by lia)
 have h1:=u4 i h
 obtain ⟨n,hn⟩:=t8 h0
 exact ⟨n,hn,by lia⟩
def SG:Str:=Str.ofString " :abe019\t\n"++Str.ofString "!\"#$&'()*+,-./;<=>?@ABZ[\\]^_`cdfghijklmnopqrstuvwxyz{|}~2345678"
theorem sg_asc:∀ c∈SG.cps.toList,c<128:=by lk
theorem sg_len:10<=SG.length/\SG.length<=200:=by lk
def Gs (x:Str):Prop:=Fp x/\x.length<=4000/\nl x<=9
def gsB (x:Str):Bool:=(x.cps.toList.all λc=>decide (c<128))&&decide (x.length<=4000)&&decide (x.cps.toList.count 10<=9)
theorem gsB_of {x:Str} (h:gsB x=true):Gs x:=by
 unfold gsB at h
 simp only [C1,decide_eq_true_eq,W2] at h
 exact ⟨λc hc=>h.1.1 c hc,h.1.2,h.2⟩
theorem Uk {xs:List Str} (h:xs.all gsB=true):∀ x∈xs,Gs x:=λx hx=>gsB_of (W2.mp h x hx)
def Kq (x:Str):Prop:=Fp x/\x.length<=10/\nl x=0
def kqB (x:Str):Bool:=(x.cps.toList.all λc=>decide (c<128))&&decide (x.length<=10)&&decide (x.cps.toList.count 10=0)
theorem HR {xs:List Str} (h:xs.all kqB=true):∀ x∈xs,Kq x:=λx hx=>by
 have h:=W2.mp h x hx
 unfold kqB at h
 simp only [C1,decide_eq_true_eq,W2] at h
 exact ⟨λc hc=>h.1.1 c hc,h.1.2,h.2⟩
def GL (P:Str->Prop) (H:Hp) (a:Addr) (n:Nat):Prop:=∃ xs:List Str,H a=some (.lst (xs.map V.str))/\xs.length=n/\∀ x∈xs,P x
theorem GL.same {P:Str->Prop} {H H':Hp} {a:Addr} {n:Nat} (h:GL P H a n) (s:Ag H H'):GL P H' a n:=by
 obtain ⟨xs,h1,h2⟩:=h
 exact ⟨xs,s _ _ h1,h2⟩
theorem catG {P:Str->Prop} {H:Hp} {a b:Addr} {n m:Nat} {Q:VK} (ha:GL P H a n) (hb:GL P H b m) (h:n+m<=1000) (k:∀ p H',H p=none->GL P H' p (n+m)->Ag H H'->Q (.ref p) H'):Ra (.ref a) (.ref b) H Q:=by
 obtain ⟨xs,x1,x2,x3⟩:=ha
 obtain ⟨ys,y1,y2,y3⟩:=hb
 refine ⟨a,b,_,_,rfl,rfl,x1,y1,by rw [L0,L0,x2,y2];exact T0 h (by kd_p),λp hp=>k p _ hp ⟨xs++ys,by rw [Ad,o0],by rw [B0,x2,y2],λx hx=>?_⟩ (Ag.upd hp)⟩
 rcases X0.mp hx with q | q
 ·exact x3 x q
 ·exact y3 x q
def vB (f:Str->Bool):V->Bool
 |.str x=>f x
 |_=>false
theorem Sa {f:Str->Bool}:∀ {vs:List V},vs.all (vB f)=true->∃ xs:List Str,vs=xs.map V.str/\xs.all f=true
 |[],_=>⟨[],rfl,rfl⟩
 |v::vs,h=>by
  rw [D4,C1] at h
  obtain ⟨xs,rfl,h2⟩:=Sa h.2
  cases v with
  |str x=>exact ⟨x::xs,rfl,by rw [D4,h2,Bool.and_true];exact h.1⟩
  |_=>cases h.1
theorem newG {H:Hp} {p:Addr} {vs:List V} (h:vs.all (vB gsB)=true):GL Gs (upd H p (.lst vs)) p vs.length:=by
 obtain ⟨xs,rfl,h2⟩:=Sa h
 exact ⟨xs,Ad,by rw [L0],Uk h2⟩
theorem newK {H:Hp} {p:Addr} {vs:List V} (h:vs.all (vB kqB)=true):GL Kq (upd H p (.lst vs)) p vs.length:=by
 obtain ⟨xs,rfl,h2⟩:=Sa h
 exact ⟨xs,Ad,by rw [L0],HR h2⟩
set_option hygiene false in
theorem IR {a b:Str} (ha:Fp a) (hb:Fp b):Fp (a++b):=λc hc=>by
 rw [CL] at hc
 rcases X0.mp hc with q | q
 ·exact ha c q
 ·exact hb c q
theorem Jp (a b:Str):nl (a++b)=nl a+nl b:=by unfold nl;rw [CL,F5]
theorem Kq.gs {a y:Str} (h:Kq y) (ha:kqB a=true):Gs (a++y):=by
 have h2:=HR (xs:=[a]) (by rw [D4,ha];rfl) a C0
 refine ⟨IR h2.1 h.1,?_,?_⟩
 ·rw [BN];have:=h.2.1;have:=h2.2.1;lia
 ·rw [Jp,h.2.2,h2.2.2];exact N1 _
theorem Kq.gs2 {a y b:Str} (h:Kq y) (ha:kqB a=true) (hb:kqB b=true):Gs (a++y++b):=by
 have h1:=h.gs ha
 have h2:=HR (xs:=[a]) (by rw [D4,ha];rfl) a C0
 have h3:=HR (xs:=[b]) (by rw [D4,hb];rfl) b C0
 refine ⟨IR h1.1 h3.1,?_,?_⟩
 ·rw [BN,BN];have:=h.2.1;have:=h2.2.1;have:=h3.2.1;lia
 ·rw [Jp,Jp,h.2.2,h2.2.2,h3.2.2];exact N1 _
theorem MW {k:Nat} {z:Str}:∀ c∈(EH k z).cps.toList,c∈z.cps.toList:=by
 unfold EH
 have:∀ (k:Nat) (a:Array Nat),(∀ c∈a.toList,c∈z.cps.toList)->∀ c∈((E2 k z.cps).foldl (·++·) a).toList,c∈z.cps.toList:=by
  intro k
  induction k with
  |zero=>intro a h;exact h
  |succ k ih =>
   intro a h
   rw [L5,N8]
   refine ih _ λc hc=>?_
   rw [g6] at hc
   rcases X0.mp hc with q | q
   ·exact h c q
   ·exact q
 exact this k #[] λc hc=>nomatch hc
theorem Py:Gs (("wait ":Str)++EH 3990 "1"):=by
 have h1:=HR (xs:=["wait "]) (by lk) "wait " C0
 have e1:(Str.ofString "1").cps.toList=[49]:=by lk
 have hm:∀ c∈(EH 3990 "1").cps.toList,c=49:=λc hc=>by
  have:=MW c hc
  rw [e1] at this
  exact M0.mp this
 refine ⟨IR h1.1 λc hc=>by rw [hm c hc];decide,?_,?_⟩
 ·rw [BN,DE,show (Str.ofString "1").length=1 by lk]
  have:=h1.2.1
  lia
 ·rw [Jp,h1.2.2]
  have:nl (EH 3990 "1")=0:=i7.mpr λq=>absurd (hm 10 q) (by kd_p)
  rw [this]
  exact N1 _
theorem repG {P:Str->Prop} {H:Hp} {a:Addr} {n:Nat} {k:Nat} {Q:VK} (ha:GL P H a n) (h:n*k<=1000) (h2:k<=1000) (f:∀ p H',GL P H' p (k*n)->Ag H H'->Q (.ref p) H'):rRep (.ref a) (.int (k:Int)) H Q:=by
 obtain ⟨xs,x1,x2,x3⟩:=ha
 have b1:(1000:Int)<2 ^ 63:=by kd_p
 have b2:(1000:Nat)<=sizeLine:=by kd_p
 refine ⟨a,k,_,rfl,rfl,x1,by lia,by lia,by rw [L0,x2,N3];lia,λp hp=>f p _ ⟨(E2 k xs).flatten,?_,by rw [Qi,x2],λx hx=>?_⟩ (Ag.upd hp)⟩
 ·rw [Ad,N3,List.map_flatten,List.map_replicate]
 ·obtain ⟨l,hl,hx⟩:=D8.mp hx
  rw [(List.mem_replicate.mp hl).2] at hx
  exact x3 x hx
section
variable {K:J0} {G:Hp} {ga la:Addr} {g:List Str} {i k:Nat} {Q R:VK}
theorem MP (hga:G ga=some (.lst (g.map V.str))) (f:∀ p G',G' p=some (.lst ((g.take i).map V.str))->Ag G G'->R (.ref p) G'):QZ K (.ref ga) none (some (i:Int)) G R :=
 ⟨ga,_,rfl,Aw.of hga,λp hp=>f p _ (by rw [Ad,cut_to,List.map_take]) (Ag.upd hp)⟩
theorem slFr {j:Int} (ej:j=(k:Int)) (hga:G ga=some (.lst (g.map V.str))) (f:∀ p G',G' p=some (.lst ((g.drop k).map V.str))->Ag G G'->R (.ref p) G'):QZ K (.ref ga) (some j) none G R :=
 ⟨ga,_,rfl,Aw.of hga,λp hp=>f p _ (by rw [Ad,ej,NU,e8]) (Ag.upd hp)⟩
theorem UQ {a b:Addr} {x y:List Str} (ha:G a=some (.lst (x.map V.str))) (hb:G b=some (.lst (y.map V.str))) (h:x.length+y.length<=200000) (f:∀ p G',G' p=some (.lst ((x++y).map V.str))->Ag G G'->Q (.ref p) G'):Ra (.ref a) (.ref b) G Q :=
 ⟨a,b,_,_,rfl,rfl,ha,hb,by rw [L0,L0];exact T0 h (by kd_p),λp hp=>f p _ (by rw [Ad,o0]) (Ag.upd hp)⟩
theorem Uf {j:Int} (ej:j=(k:Int)) {x:Str} (hla:G la=some (.lst ((g.take i).map V.str))) (hga:G ga=some (.lst (g.map V.str))) (hl:g.length<=30000) (f:∀ l H',H' l=some (.lst ((g.take i++[x]++g.drop k).map V.str))->Ag G H'->Q (.ref l) H') :
  1<=sizeLine/\∀ p,G p=none->Ra (.ref la) (.ref p) (upd G p (.lst [.str x])) λx H1=>QZ K (.ref ga) (some j) none H1 λy H2=>Ra x y H2 Q:=by
 refine ⟨by kd_p,λp hp=>?_⟩
 have s1:=Ag.upd (o:=.lst [.str x]) hp
 refine UQ (y:=[x]) (s1 _ _ hla) Ad (by rw [j1];show _+1<=_;lia) λq G1 h1 s2=>slFr ej (s2 _ _ (s1 _ _ hga)) λr G2 h2 s3=>UQ (s3 _ _ h1) h2 ?_ λl G3 h3 s4=>f l G3 h3 (s1.trans (s2.trans (s3.trans s4)))
 rw [B0,j1,C4]
 show _+1+_<=_
 lia
theorem atG (hga:G ga=some (.lst (g.map V.str))) (hi:i<g.length) (f:∀ x∈g,R (.str x) G):DS K (.ref ga) (.int (i:Int)) G R :=
 ⟨ga,_,i,.str g[i],rfl,rfl,Aw.of hga,Av (by rw [Z1,x0 hi];rfl),f _ (Z4 hi)⟩
end
theorem TY (c:Nat) (ws:List Str) (l:Str):∃ r,(Str.join ⟨#[c]⟩ (ws++[l])).cps.toList=(Str.join ⟨#[c]⟩ ws).cps.toList++r:=by
 cases ws with
 |nil=>exact ⟨_,rfl⟩
 |cons a r=>exact ⟨_,by rw [T6,L2.join_cps,L2.join_cps,o0,List.flatten_append,<- P4]⟩
theorem Rz {x:Str} (hx:Fp x):Fp (Str.join ⟨#[32]⟩ (Txt.split x ⟨#[32]⟩).dropLast)/\(Str.join ⟨#[32]⟩ (Txt.split x ⟨#[32]⟩).dropLast).length<=x.length/\nl (Str.join ⟨#[32]⟩ (Txt.split x ⟨#[32]⟩).dropLast)<=nl x:=by
 have ej:=StrLaws.join_split x ⟨#[32]⟩
 generalize Txt.split x ⟨#[32]⟩=ws at ej |-
 rcases Y2 ws with rfl | ⟨S,l,e⟩
 ·exact ⟨(show Fp (Str.join ⟨#[32]⟩ []) from λc hc=>(by cases hc)),N1 _,N1 _⟩
 ·rw [D3] at e
  subst e
  rw [M4]
  obtain ⟨r,hr⟩:=TY 32 S l
  rw [ej] at hr
  refine ⟨λc hc=>hx c (by rw [hr];exact p0 _ hc),?_,?_⟩
  ·rw [Bp,Bp,hr,B0];lia
  ·unfold nl;rw [hr,F5];lia
theorem QP (x:Str):((Txt.split x ⟨#[32]⟩).map (·.length)).sum+(Txt.split x ⟨#[32]⟩).length=x.length+1:=by
 rw [<- NA _ (IZ x 32),EN,sp1,StrLaws.join_split]
theorem UM (xs:List V):DI xs none (some (-1))=xs.dropLast:=by
 unfold DI
 rw [HT.sIx_none,y6,x8,List.dropLast_eq_take]
 congr 1
 unfold HT.sIx
 simp
 lia
theorem sum_dl (l:List Str):(l.dropLast.map (·.length)).sum+l.dropLast.length<=(l.map (·.length)).sum+l.length:=by
 rcases Y2 l with rfl | ⟨S,a,e⟩
 ·exact V0 _
 ·rw [D3] at e
  subst e
  rw [M4,o0,j3,B0]
  lia
def PR (K:J0) (C:Addr):Sp:=λvs H Q _=>∃ (a:Addr) (d:Option Addr),vs=[.ref a]/\H a=some (ER a C d)/\Ve H d/\∀ H',Ag H H'->Q (.bl true) H'
theorem TZ (c:Nat):∀ {l:List Str} {d:Nat},d∈(Str.join ⟨#[c]⟩ l).cps.toList->d=c\/∃ w∈l,d∈w.cps.toList
 |[],d,h=>by cases h
 |a::r,d,h=>by
  rw [L2.join_cps] at h
  rcases X0.mp h with q | q
  ·exact .inr ⟨a,C0,q⟩
  ·obtain ⟨l,hl,q⟩:=D8.mp q
   obtain ⟨w,hw,rfl⟩:=D2.mp hl
   rcases K0.mp q with q | q
   ·exact .inl q
   ·exact .inr ⟨w,A0 _ hw,q⟩
theorem Jx {x:Ln} (h:Ih x.2):Fp (DG x)/\nl (DG x)=0:=by
 have e2:(Str.ofString "  ").cps.toList=[32,32]:=by lk
 have key:∀ c∈(DG x).cps.toList,c=32\/∃ w∈x.2,c∈w.cps.toList:=λc hc=>by
  unfold DG at hc
  rw [CL] at hc
  rcases X0.mp hc with q | q
  ·have:=MW c q
   rw [e2] at this
   left
   simpa using this
  ·rw [EN,sp1] at q
   exact TZ 32 q
 refine ⟨λc hc=>?_,i7.mpr λq=>?_⟩
 ·rcases key c hc with rfl | ⟨w,hw,q⟩
  ·decide
  ·exact (h.1 w hw).asc c q
 ·rcases key 10 q with e | ⟨w,hw,q⟩
  ·cases e
  ·exact (h.1 w hw).nl q
theorem TM {X:List Ln} (h1:∀ x∈X,Ih x.2) (h2:∀ x∈X,(DG x).length<=487) (h3:X.length<=20000):Gd 20000 9740000 4000 0 (X.map DG):=by
 have s:∀ {X:List Ln},(∀ x∈X,Ih x.2)->(∀ x∈X,(DG x).length<=487)->((X.map DG).map (·.length)).sum<=X.length*487/\((X.map DG).map nl).sum=0:=λ{X}=>by
  induction X with
  |nil=>exact λ_ _=>⟨N1 _,rfl⟩
  |cons a X ih =>
   intro a1 a2
   obtain ⟨i1,i2⟩:=ih (λx hx=>a1 x (A0 _ hx)) λx hx=>a2 x (A0 _ hx)
   have b1:=a2 a C0
   have b2:=(Jx (a1 a C0)).2
   rw [F1,F1,F1,L3,L3,P0,i2,b2]
   refine ⟨?_,rfl⟩
   rw [i6]
   lia
 obtain ⟨s1,s2⟩:=s h1 h2
 refine ⟨by rw [L0];exact h3,λy hy=>?_,?_,M7 s2⟩
 ·obtain ⟨x,hx,rfl⟩:=D2.mp hy
  exact ⟨(Jx (h1 x hx)).1,T0 (h2 x hx) (by kd_p)⟩
 ·exact T0 s1 (T0 (U6 _ h3) (by kd_p))
theorem QU {H G:Hp} {a:Addr} {o:HO} (s:Ag H G) (h:H a=none):Ag H (upd G a o):=λb u e=>by
 rw [Ap (λq=>by rw [q,h] at e;cases e)]
 exact s b u e
theorem TL {G:Hp} {p:Addr} {es:List V} (h:G p=some (.tup es)) (hne:es≠[]):BF 24 G (.ref p) 0≠[]:=λe=>by
 rw [GN,Cd h] at e
 cases es with
 |nil=>exact hne rfl
 |cons y es =>
  rw [V2] at e
  have:=(F6.mp e).1
  unfold DN at this
  cases this
theorem gd_end {N S M B:Nat} {g:List Str} (h:Gd N S M B g):Gd (N+1) (S+M+10) (M+10) (2*B+10) (g++[("":Str)]):=by
 have:=h.edit (i:=g.length) (k:=g.length) (V0 _) (xs:=[("":Str)]) (V0 _) λx hx=>by
  rw [M0.mp hx]
  exact ⟨(show Fp "" from λc hc=>(by cases hc)),N1 _,N1 _⟩
 rw [T2,S6,L1] at this
 exact this
theorem Uq {g:List Str} (h:g.all gsB=true) (hl:g.length<=5):Gd 5 20000 4000 45 g:=by
 have hg:=Uk h
 have s:∀ {f:Str->Nat} {m:Nat} {l:List Str},(∀ x∈l,f x<=m)->(l.map f).sum<=l.length*m:=λ{f m l}=>by
  induction l with
  |nil=>exact λ_=>N1 _
  |cons a l ih =>
   intro h
   have:=ih λx hx=>h x (A0 _ hx)
   have:=h a C0
   rw [F1,L3,P0,i6]
   lia
 exact ⟨hl,λx hx=>⟨(hg x hx).1,(hg x hx).2.1⟩,T0 (s λx hx=>(hg x hx).2.1) (U6 _ hl),T0 (s λx hx=>(hg x hx).2.2) (U6 _ hl)⟩
theorem PB {wi:TI} {g:TG} {tb:TS} {D:FO} {σ:L2.St} {H:Hp} (h:wi σ H λJ H1=>∃ W:Nat->Nat->L2.St->Hp->Prop,(∃ m,W 0 m σ H1)/\∀ i m σ H,W i m σ H->(J.stop i H/\D.nx σ H)\/(J.go i H/\∃ N:L2.St->Hp->Prop,(∀ σ' H',N σ' H'->∃ m',m'<m/\W (i+1) m' σ' H')/\∀ x H',J.yld i H x H'->g x σ H' λσ2 H2=>tb { D with nx:=N,ct:=N,bk:=D.nx } σ2 H2)):MD wi g tb D σ H:=h
theorem Gd.mono {N S M B N' S' M' B':Nat} {g:List Str} (h:Gd N S M B g) (h1:N<=N') (h2:S<=S') (h3:M<=M') (h4:B<=B'):Gd N' S' M' B' g :=
 ⟨T0 h.len h1,λx hx=>⟨(h.each x hx).1,T0 (h.each x hx).2 h3⟩,T0 h.sum h2,T0 h.nls h4⟩
theorem Si {L:List Str} (h:L≠[]):Str.join ⟨#[10]⟩ L++"\n"=Str.join ⟨#[10]⟩ (L++[("":Str)]):=by
 refine Fx ?_
 have e1:=Fg h
 have e2:=Fg (l:=L++[("":Str)]) (by simp)
 rw [Ua,<- e1,show jn [("":Str)]=[10] by lk,T6] at e2
 rw [(T5.inj e2).2,CL,show (Str.ofString "\n").cps.toList=[10] by lk]
theorem text_e0:GT "":=(Uq (g:=[("":Str)]) (by lk) (by kd_p)).text (by kd_p) (by kd_p) (by kd_p)
theorem text_e2:GT "\n\n":=by
 have:=(Uq (g:=[("":Str), "", ""]) (by lk) (by kd_p)).text (by kd_p) (by kd_p) (by kd_p)
 rw [show Str.join ⟨#[10]⟩ [("":Str), "", ""]="\n\n" by lk] at this
 exact this
theorem Ou:Sc ["_law_row_here"] ["_law_row_here"] (top 47):=DD (by lk)
theorem OM (T:Tx P w K mg):BO P w base T.d_l_parts 1 Jf:=by
 exists T.d_l_parts.F.ok Ou
 ·obtain ⟨v,n,rfl,_⟩:=h
  rfl
 ·obtain ⟨v,n,rfl,hv,k⟩:=h
  refine ⟨_,(Ae (Au (Ah BK (Aq Bc (pv 0) Ac (λ_ _=>rfl)) (Aj (Aa Ai Ab)) (by with_unfolding_all rfl))
  (Af (Am (Aj (Aa (Aq Bc (pv 0) Ac (λ_ _=>rfl)) (Aa (Aq Bc (pv 0) Ac (λ_ _=>rfl)) Ab)))))
  Ao)
  (Ae (Au (Ah AF (Aq Bc (pv 0) Ac (λ_ _=>rfl)) Ai (Ak _))
  (Af (Am (Aj (Aa (Aq Bc (pv 0) Ac (λ_ _=>rfl)) (Aa (Aq Bc (pv 0) Ac (λ_ _=>rfl)) Ab)))))
  Ao)
  (Ae (Au (Ah AF (Aq Bc (pv 0) Ac (λ_ _=>rfl)) Ai (Ak _))
  (Af (Am (Aj (Aa (Aq Bc (pv 0) Ac (λ_ _=>rfl)) (Aa (Aq Bc (pv 0) Ac (λ_ _=>rfl)) Ab)))))
  Ao)
  (Ae (Au (Ah BK (Aq Bc (pv 0) Ac (λ_ _=>rfl)) (Aj (Bi (zs:=["errand", "group", "keep", "when", "repeat"]) (by lk))) (by with_unfolding_all rfl))
  (Af (Am (Aj (Aa (Aq Bc (pv 0) (CO BP Ac) (λ_ _=>rfl)) Ab))))
  Ao)
  (Af (Am (Aj Ab))))))),?_⟩
  walk_at "sw"
  cases n with
  |zero=>exact hv.elim
  |succ n =>
  obtain ⟨a,z,r,rfl,ha,hne,hlen,hps⟩:=hv
  have eP:=Ct ha
  rw [eP] at k
  have at0:∀ {G:Hp} {R:VK},Ag H G->R (.str z) G->JW K (.ref a) (.int 0) G R:=λ{G R} s' q=>⟨a,_,0,.str z,rfl,rfl,Cn.of (s' a _ ha),Av (j:=0) rfl,q⟩
  have atj:∀ {G:Hp} {R:VK} (j:Nat) (i:Int) (x:V),i=(j:Nat)->(V.str z::r)[j]?=some x->Ag H G->R x G->JW K (.ref a) (.int i) G R:=λ{G R} j i x hi hx s' q=>by
   subst hi
   exact ⟨a,_,_,x,rfl,rfl,Cn.of (s' a _ ha),Av hx,q⟩
  have get:∀ j,j<r.length+1->∃ x,(V.str z::r)[j]?=some x:=λj hj=>⟨_,x0 (by simpa using hj)⟩
  refine at0 (Ag.refl H) ⟨by kd_p,λp hp=>?_⟩
  have s1:Ag H (upd H p (HO.lst [V.str "try"])):=Ag.upd hp
  refine ⟨p,_,rfl,.inl (Aw.of Ad),rfl,rfl,_,rfl,?_⟩
  have inT:∀ y:Str,CA (V.str z) [V.str y]=decide (z=y):=λy=>by
   show (Em (.str y) (.str z)||false)=_
   rw [Z3]
   show (y == z)=_
   by_cases e:z=y
   ·subst e;simp
   ·rw [decide_eq_false e];simp [Ne.symm e]
  show if (CA (V.str z) [V.str "try"])=true then _ else _
  rw [inT]
  have two:∀ {G:Hp} (x y:V),Ag H G->Dk (.str z::r)=[x,y]->2<=sizeLine/\∀ p:Addr,G p=none->Q (.ref p) (upd G p (.lst [x,y])):=λ{G} x y s' e =>
   ⟨by kd_p,λq hq=>k q _ (s'.free hq) (by rw [Ad,e]) (s'.trans (Ag.upd hq))⟩
  have two':∀ {G:Hp} (i j:Nat) (i' j':Int),i'=(i:Nat)->j'=(j:Nat)->Bk z=[i,j]->Ag H G->JW K (.ref a) (.int i') G λx G1=>JW K (.ref a) (.int j') G1 λy G2=>2<=sizeLine/\∀ p:Addr,G2 p=none->Q (.ref p) (upd G2 p (.lst [x,y])):=λ{G} i j i' j' hi hj ep s'=>by
   have b1:=Kx (λe=>(hlen e).1) i (by rw [ep];simp)
   have b2:=Kx (λe=>(hlen e).1) j (by rw [ep];simp)
   have g1:(V.str z::r)[i]?=some (V.str z::r)[i]:=x0 b1
   have g2:(V.str z::r)[j]?=some (V.str z::r)[j]:=x0 b2
   refine atj i _ _ hi g1 s' (atj j _ _ hj g2 s' (two _ _ s' ?_))
   rw [Cj,ep]
   simp only [W3,g1,g2,P5]
  have nD:∀ {y:Str},z=y->∀ {y':Str},(decide (y=y'))=false->¬ z=y':=λe y' h=>by rw [e];exact of_decide_eq_false h
  by_cases hT:z="try"
  ·refine BH hT (two' 2 4 2 4 rfl rfl ?_ s1)
   rw [hT];lk
  refine BI hT (at0 s1 ⟨rfl,?_⟩)
  have eqS:∀ y:Str,decide (V.str z=V.str y)=decide (z=y):=λy=>by
   by_cases e:z=y
   ·subst e;simp
   ·rw [decide_eq_false e,decide_eq_false (λq=>e (V.str.inj q))]
  rw [eqS]
  by_cases hL:z="limit"
  ·refine BH hL (two' 3 4 3 4 rfl rfl ?_ s1)
   rw [hL];lk
  refine BI hL (at0 s1 ⟨rfl,?_⟩)
  rw [eqS]
  by_cases hD:z="do"
  ·refine BH hD (two' 2 3 2 3 rfl rfl ?_ s1)
   rw [hD];lk
  refine BI hD (at0 s1 ⟨by kd_p,λq hq=>?_⟩)
  have s2:=s1.trans (Ag.upd hq (o:=.lst [V.str "errand",V.str "group",V.str "keep",V.str "when",V.str "repeat"]))
  refine ⟨q,_,rfl,.inl (Aw.of Ad),rfl,rfl,_,rfl,?_⟩
  have inF:CA (V.str z) [V.str "errand",V.str "group",V.str "keep",V.str "when",V.str "repeat"]=decide (Bk z≠[]):=by
   have e1:CA (V.str z) [V.str "errand",V.str "group",V.str "keep",V.str "when",V.str "repeat"]=(decide (z="errand")||(decide (z="group")||(decide (z="keep")||(decide (z="when")||decide (z="repeat"))))):=by
    have b:∀ y:Str,Em (.str y) (.str z)=decide (z=y):=λy=>by
     show (y == z)=_
     by_cases e:z=y
     ·subst e;simp
     ·rw [decide_eq_false e];simp [Ne.symm e]
    show (Em _ _||(Em _ _||(Em _ _||(Em _ _||(Em _ _||false)))))=_
    rw [b,b,b,b,b,Z3]
   rw [e1]
   rcases Fb z with ⟨ez,ep,el⟩ | ⟨ez,ep,el⟩ | ⟨ez,ep,el⟩ | ⟨ez,ep,el⟩ | ⟨ez,ep,el⟩ | ⟨ez,ep,el⟩ | ⟨ez,ep,el⟩ | ⟨ez,ep,el⟩ | ⟨ep,n1,n2,n3,n4,n5,n6,n7,n8⟩
   ·rw [ep,ez];lk
   ·exact absurd ez hL
   ·rw [ep,ez];lk
   ·exact absurd ez hT
   ·exact absurd ez hD
   ·rw [ep,ez];lk
   ·rw [ep,ez];lk
   ·rw [ep,ez];lk
   ·rw [ep,decide_eq_false n8,decide_eq_false n1,decide_eq_false n3,decide_eq_false n6,decide_eq_false n7];rfl
  show if (CA (V.str z) [V.str "errand",V.str "group",V.str "keep",V.str "when",V.str "repeat"])=true then _ else _
  rw [inF]
  by_cases hp0:Bk z≠[]
  ·refine BH hp0 ?_
   have hl:=hlen hp0
   obtain ⟨x,hx,ex⟩:∃ x,(V.str z::r)[r.length]?=some x/\Dk (.str z::r)=[x]:=by
    have g:(V.str z::r)[r.length]?=some ((V.str z::r)[r.length]'(by simp)):=x0 (by simp)
    refine ⟨_,g,?_⟩
    rw [Cj]
    rcases Fb z with ⟨ez,ep,el⟩ | ⟨ez,ep,el⟩ | ⟨ez,ep,el⟩ | ⟨ez,ep,el⟩ | ⟨ez,ep,el⟩ | ⟨ez,ep,el⟩ | ⟨ez,ep,el⟩ | ⟨ez,ep,el⟩ | ⟨ep,n1,n2,n3,n4,n5,n6,n7,n8⟩
    ·rw [ep];rw [el] at hl;have e:r.length=3:=by lia
     simp only [e] at g |-
     simp only [W3,g,P5]
    ·exact absurd ez hL
    ·rw [ep];rw [el] at hl;have e:r.length=2:=by lia
     simp only [e] at g |-
     simp only [W3,g,P5]
    ·exact absurd ez hT
    ·exact absurd ez hD
    ·rw [ep];rw [el] at hl;have e:r.length=4:=by lia
     simp only [e] at g |-
     simp only [W3,g,P5]
    ·rw [ep];rw [el] at hl;have e:r.length=3:=by lia
     simp only [e] at g |-
     simp only [W3,g,P5]
    ·rw [ep];rw [el] at hl;have e:r.length=3:=by lia
     simp only [e] at g |-
     simp only [W3,g,P5]
    ·exact absurd ep hp0
   refine ⟨a,_,_,x,rfl,rfl,Cn.of (s2 a _ ha),?_,(show 1<=sizeLine by kd_p),λl hl2=>k l _ (s2.free hl2) (by rw [Ad,ex]) (s2.trans (Ag.upd hl2))⟩
   unfold Qw Ue
   rw [if_neg (by kd_p),if_pos (by simp;lia)]
   simp only [Z5]
   rw [show ((-1:Int)+((V.str z::r).length:Nat)).toNat=r.length by simp;lia]
   exact hx
  ·refine BI hp0 ⟨by kd_p,λl hl2=>k l _ (s2.free hl2) ?_ (s2.trans (Ag.upd hl2))⟩
   have ep:Bk z=[]:=by
    by_cases e:Bk z=[]
    ·exact e
    ·exact absurd e hp0
   rw [Ad,Cj,ep]
   rfl
theorem Lz:Sc ["_law_script", "_law_k"] ["_law_script", "_law_k"] (top 37):=DD (by lk)
theorem LM (T:Tx P w K mg):BO P w base T.d_l_cell_at 1 (SE K):=by
 exists T.d_l_cell_at.F.ok Lz
 ·obtain ⟨a,ns,k,rfl,_⟩:=h
  rfl
 ·obtain ⟨a,ns,i,rfl,hS,hl,h0,k⟩:=h
  refine ⟨_,(Ae (Au (Ah Et (pv 1) (At Az (by rfl) T.n_len AZ (Aa (pv 0) Ab)) (Ak _))
  (Af (Am (Aq Al (pv 0) (pv 1) (λ_ _=>rfl))))
  Ao)
  (Af (Am Ac))),?_⟩
  x_go
  refine ⟨_,.inl ⟨_,hS,rfl⟩,?_⟩
  rw [L0]
  by_cases hi:i<(ns.length:Int)
  ·refine BH hi ?_
   have hi2:i.toNat<ns.length:=by lia
   refine ⟨a,_,i,.int ns[i.toNat],rfl,rfl,hS,?_,k _⟩
   have:=Av (xs:=ns.map V.int) (j:=i.toNat) (v:=.int ns[i.toNat]) (by rw [Z1];simp [hi2])
   rwa [show ((i.toNat:Nat):Int)=i by lia] at this
  ·exact BI hi (k _)
theorem GC:Sc ["_law_x", "_law_number_here"] ["_law_x"] (top 38):=DD (by lk)
theorem ON (T:Tx P w K mg):BO P w base T.d_l_mixed 1 Lu:=by
 exists T.d_l_mixed.F.ok GC
 ·obtain ⟨x,rfl,_⟩:=h
  rfl
 ·obtain ⟨x,rfl,k⟩:=h
  refine ⟨_,(Ae (As (i:=1) GC.nd rfl (Or.inl rfl) (An AW (An GG (An Bz (pv 0) Ac) Ac) Ac))
  (Ae (As (i:=1) GC.nd rfl (Or.inl rfl) (An AW (An Bz (An GG (pv 1) (An Bz (An AW (pv 1) Ac) Ac)) Ac) Ac))
  (Af (Am (An AW (An GG (pv 1) (An Bz (An AW (pv 1) Ac) Ac)) Ac))))),?_⟩
  x_go
  have md:∀ y:Int,0<=y%2147483647/\y%2147483647<2147483647:=λy=>⟨Q5 _ (by kd_p),u4 _ (by kd_p)⟩
  have big:∀ y:Int,0<=y/\y<2147483647->-(2 ^ 64)<y/\y<2 ^ 64:=λy h=>by
   have:(2:Int) ^ 64=18446744073709551616:=by kd_p
   lia
  refine ⟨.inr (by kd_p),by kd_p,by kd_p,.inl (big _ (md _)),by kd_p,by kd_p,.inl (big _ (md _)),by kd_p,k _ (md _).1 (md _).2⟩
theorem DC:Sc ["_law_cell", "_law_many", "_law_found", "_law_number_here", "_law_k"] ["_law_cell", "_law_many"] (top 39):=DD (by lk)
theorem Ng (T:Tx P w K mg)
  (G_l_mixed:BO P w base T.d_l_mixed 1 Lu):BO P w base T.d_l_stream 2 Jc:=by
 exists T.d_l_stream.F.ok DC
 ·obtain ⟨c,m,rfl,_⟩:=h
  rfl
 ·obtain ⟨c,m,rfl,h0,h1,k⟩:=h
  refine ⟨_,(Ae (As (i:=2) DC.nd rfl (Or.inl rfl) (Aj Ab))
  (Ae (As (i:=3) DC.nd rfl (Or.inl rfl) (An AW (pv 0) Ac))
  (Ae (Ey PassesOwn.never rfl (HF rfl T.n_range (Aa (pv 1) Ab)) (AK (i:=4) DC.nd rfl (Or.inl rfl))
  (Ae (As (i:=3) DC.nd rfl (Or.inl rfl) (AI T.d_l_mixed G_l_mixed hr (Aa (An Bz (pv 3) (An GG Ac (pv 4))) Ab)))
  (Af (AR (Br j0 v0 u0 AU (pv 2) (Aa (pv 3) Ab))))))
  (Af (Am (pv 2)))))),?_⟩
  x_go
  refine ⟨by kd_p,λl hl=>⟨by kd_p,?_⟩⟩
  have b62:(2:Int) ^ 62=4611686018427387904:=by kd_p
  have b64:(2:Int) ^ 64=18446744073709551616:=by kd_p
  refine ⟨_,rfl,m,rfl,by lia,by lia,?_⟩
  refine HX (λi σ H2=>∃ (ns:List Int) (num:Int) (kk:Option V),σ=[some (.int c),some (.int m),some (.ref l),some (.int num),kk]/\ns.length=i/\(∀ n∈ns,0<=n/\n<2147483647)/\H2 l=some (.lst (ns.map V.int))/\Ag H H2)
   ⟨[],_,none,rfl,rfl,(λ_ h=>nomatch h),Ad,Ag.upd hl⟩ ?_ ?_
  ·rintro i σ H2 hi ⟨ns,num,kk,rfl,hlen,hns,hl2,hs2⟩
   x_go
   refine ⟨.inl ⟨by lia,by lia⟩,_,rfl,λr r0 r1=>?_⟩
   refine ⟨.inl ⟨_,Aw.of hl2⟩,?_⟩
   refine ⟨l,_,_,rfl,rfl,hl2,?_,?_⟩
   ·rw [L0,hlen]
    exact V1 (show i<1000 by lia) (by kd_p)
   ·refine ⟨ns++[r],r,rfl,?_,?_,?_,?_⟩
    ·rw [B0,hlen];rfl
    ·intro n hn
     rcases X0.mp hn with hn | hn
     ·exact hns n hn
     ·rw [M0.mp hn];exact ⟨r0,r1⟩
    ·rw [Ad,o0];rfl
    ·intro b o e
     rw [Ap (AY e hl)]
     exact hs2 b o e
  ·rintro σ H2 ⟨ns,num,kk,rfl,hlen,hns,hl2,hs2⟩
   exact ⟨_,rfl,k l ns H2 hl (by lia) hns hl2 hs2⟩
theorem Gq:Sc ["_law_x", "_law_names", "_law_way"] ["_law_x", "_law_names"] (top 40):=DD (by lk)
theorem JZ (T:Tx P w K mg):BO P w base T.d_l_value_by 1 Hy:=by
 exists T.d_l_value_by.F.ok Gq
 ·obtain ⟨x,l,rfl,_⟩:=h
  rfl
 ·obtain ⟨x,l,rfl,hx,⟨zs,hl,hz1,hz2,hz3⟩,k⟩:=h
  refine ⟨_,(Ae (As (i:=2) Gq.nd rfl (Or.inl rfl) (An AW (pv 0) Ac))
  (Ae (Au (Ah Et (pv 2) Ac (Ak _))
  (Af (Am (An AW (An BT (pv 0) Ac) Ac)))
  Ao)
  (Ae (Au (Ah AF (pv 2) Ac (Ak _))
  (Af (Am (Aq Al (Aj (Aa Ac (Aa Ac (Aa Ac (Aa Ac (Aa Ac (Aa (An AW (An BT (pv 0) Ac) Ac) Ab))))))) (An AW (An BT (pv 0) Ac) Ac) (λ_ _=>rfl))))
  Ao)
  (Ae (Au (Ah Et (pv 2) Ac (Ak _))
  (Af (Am (Aq Al (pv 1) (An AW (An BT (pv 0) Ac) (At Az (by rfl) T.n_len AZ (Aa (pv 1) Ab))) (λ_ _=>rfl))))
  Ao)
  (Af (Am (Aq Al (Aj (Bi (zs:=[":late", ":off", ":nobody", ":a", ":abcdefgh", ":end"]) (by lk))) (An AW (An BT (pv 0) Ac) Ac) (λ_ _=>rfl)))))))),?_⟩
  z_go
  have len:Ke K (.ref l) H zs.length:=AV.mpr (.inl ⟨_,Aw.of hl,by rw [L0]⟩)
  refine ⟨by kd_p,?_⟩
  refine NG ⟨⟨by kd_p,by kd_p⟩,by kd_p,k _ _ (TV.int (by lia) (by lia)) (.inl ⟨_,rfl,by lia,by lia⟩) (Ag.refl H)⟩ ⟨rfl,?_⟩
  refine NG ?_ (NG ?_ ?_)
  ·refine ⟨⟨by kd_p,by kd_p⟩,by kd_p,by kd_p,λp hp=>⟨⟨by kd_p,by kd_p⟩,by kd_p,?_⟩⟩
   refine Ee (Aw.of Ad) (by lia) (by simp only [P0,K1];lia) λv hv=>(λ(h:TV v/\VlV v)=>k v _ h.1 h.2 (Ag.upd hp)) ?_
   simp only [K0,A1,or_false] at hv
   rcases hv with rfl | rfl | rfl | rfl | rfl | rfl<;>exact ⟨TV.int (by lia) (by lia),.inl ⟨_,rfl,by lia,by lia⟩⟩
  ·have hm:=LP (x:=x / 6) hz1
   exact ⟨⟨by kd_p,by kd_p⟩,zs.length,len,by lia,Ee (Aw.of hl) hm.1 (by rw [L0];exact hm.2) λv hv=>k v _ (Jq hz3 hv) (Tt hz3 hv) (Ag.refl H)⟩
  ·refine ⟨by kd_p,λp hp=>⟨⟨by kd_p,by kd_p⟩,by kd_p,?_⟩⟩
   refine Ee (Aw.of Ad) (by lia) (by simp only [P0,K1];lia) λv hv=>(λ(h:TV v/\VlV v)=>k v _ h.1 h.2 (Ag.upd hp)) ?_
   obtain ⟨z,hzv,hz⟩:=Oq (show [V.str ":late",V.str ":off",V.str ":nobody",V.str ":a",V.str ":abcdefgh",V.str ":end"].all SH=true by lk) v hv
   subst hzv
   refine ⟨.inr ⟨z,rfl,by lia⟩,.inr ⟨z,rfl,.inr (tdB_of ?_)⟩⟩
   simp only [K0,A1,or_false,V.str.injEq] at hv
   rcases hv with rfl | rfl | rfl | rfl | rfl | rfl<;>lk
theorem Dv:Sc ["_law_x", "_law_names", "_law_some", "_law_value_here", "_law_way", "_law_line", "_law_limit"] ["_law_x", "_law_names"] (top 41):=DD (by lk)
theorem OL (T:Tx P w K mg)
  (G_l_stream:BO P w base T.d_l_stream 2 Jc)
  (G_l_value_by:BO P w base T.d_l_value_by 1 Hy):BO P w base T.d_l_plain 3 Lq:=by
 exists T.d_l_plain.F.ok Dv
 ·obtain ⟨x,l,rfl,_⟩:=h
  rfl
 ·obtain ⟨x,l,rfl,hx,hN,k⟩:=h
  obtain ⟨zs,hl,hz1,hz2,hz3⟩:=id hN
  refine ⟨_,(AB (Ec (i:=2) Dv.nd rfl (Or.inl rfl) (N':=["_law_y", "_law_names"]) (sel:=[none,some 1]) rfl rfl rfl (Fc (AI T.d_l_stream G_l_stream hr (Aa (pv 0) (Aa Ac Ab)))) (Dz rfl) (λ_ _ _ _ _=>⟨(AK (i:=0) (show (["_law_y", "_law_names"]:List Str).Nodup by lk) rfl (Or.inl rfl)),EZ,(Aq (Ud (K:=K) rfl) (pv 1) (An AW (pv 0) (At (RH (K:=K) rfl) (by rfl) T.n_len AZ (Aa (pv 1) Ab))) (λ_ _=>rfl))⟩) rfl)
  (Ae (As (i:=3) Dv.nd rfl (Or.inl rfl) (AI T.d_l_value_by G_l_value_by hr (Aa (An BT (pv 0) Ac) (Aa (pv 1) Ab))))
  (Ae (As (i:=4) Dv.nd rfl (Or.inl rfl) (An AW (pv 0) Ac))
  (Ae (As (i:=5) Dv.nd rfl (Or.inl rfl) (An Bz Ac (An AW (An BT (pv 0) Ac) Ac)))
  (Ae (Au (Ah AF (pv 4) Ac (Ak _))
  (Af (Am (Bh (Aa Ai (Aa (pv 5) (Aa (An Bz Ac (An AW (An BT (pv 0) Ac) Ac)) Ab))))))
  Ao)
  (Ae (Au (Ah Et (pv 4) Ac (Ak _))
  (Af (Am (Bh (Aa (Aq Al (Aj (Aa Ai (Aa Ai Ab))) (An LG (pv 4) Ac) (λ_ _=>rfl)) (Aa (pv 5) (Aa (Aq Al (pv 2) Ac (λ_ _=>rfl)) Ab))))))
  Ao)
  (Ae (Au (Ah Et (pv 4) Ac (Ak _))
  (Af (Am (Bh (Aa (Aq Al (Aj (Aa Ai (Aa Ai Ab))) (An LG (pv 4) Ac) (λ_ _=>rfl)) (Aa (pv 5) (Aa (Aq Al (pv 2) Ac (λ_ _=>rfl)) (Aa (pv 3) Ab)))))))
  Ao)
  (Ae (Au (Ah Et (pv 4) Ac (Ak _))
  (Af (Am (Bh (Aa (Aq Al (Aj (Aa Ai (Aa Ai Ab))) (An LG (pv 4) Ac) (λ_ _=>rfl)) (Aa (pv 5) (Aa (Aq Al (pv 2) Ac (λ_ _=>rfl)) (Aa (Aq Al (pv 2) Ac (λ_ _=>rfl)) Ab)))))))
  Ao)
  (Ae (Au (Ah AF (pv 4) Ac (Ak _))
  (Af (Am (Bh (Aa (Aq Al (Aj (Aa Ai (Aa Ai Ab))) (An AW (An BT (pv 0) Ac) Ac) (λ_ _=>rfl)) (Aa (pv 5) (Aa (Aq Al (pv 2) Ac (λ_ _=>rfl)) Ab))))))
  Ao)
  (Ae (Au (Ah AF (pv 4) Ac (Ak _))
  (Ae (As (i:=6) Dv.nd rfl (Or.inl rfl) (Aq Al (Aj (Aa Ac (Aa (An Bz Ac (An AW (An BT (pv 0) Ac) Ac)) Ab))) (An AW (An BT (pv 0) Ac) Ac) (λ_ _=>rfl)))
  (Af (Am (Bh (Aa Ai (Aa (pv 5) (Aa (Aq Al (pv 2) Ac (λ_ _=>rfl)) (Aa (Aq Al (pv 2) Ac (λ_ _=>rfl)) (Aa (Aq Al (pv 2) Ac (λ_ _=>rfl)) (Aa (pv 6) Ab))))))))))
  Ao)
  (Ae (Au (Ah AF (pv 4) Ac (Ak _))
  (Af (Am (Bh (Aa Ai (Aa (pv 5) (Aa (pv 3) Ab))))))
  Ao)
  (Af (Am (Bh (Aa Ai (Aa (pv 5) (Aa (Aq Al (pv 2) Ac (λ_ _=>rfl)) Ab))))))))))))))))),?_⟩
  refine mA λN hN=>?_
  walk_at "sw"
  refine ⟨_,rfl,_,_,rfl,by kd_p,by kd_p,λl0 ns H0 hl0 hnl hns hH0 s0=>⟨l0,rfl,⟨_,Aw.of hH0⟩,?_⟩⟩
  have hnl4:ns.length=4:=by lia
  refine Hi (K:=K) (a:=l0) (xs:=ns.map V.int) (λi ys H2=>H2=H0/\∃ cs:List Str,cs.length=i/\(∀ c∈cs,Fk c)/\ys=cs.map V.str) ⟨rfl,[],rfl,(λ_ h=>nomatch h),rfl⟩ ?_ ?_ ?_ ?_
  ·rintro i ys H2 hi ⟨rfl,cs,hc,_,rfl⟩
   exact ⟨Aw.of hH0,by rw [L0,hc];exact V0 _⟩
  ·rw [L0,hnl4];decide
  ·rintro i x ys H2 hx ⟨rfl,cs,hc,hcl,rfl⟩
   obtain ⟨n,rfl,hn'⟩:=Ug hx
   x_go
   have hm:=LP (x:=n) hz1
   refine ⟨zs.length,AV.mpr (.inl ⟨_,Aw.of (s0 l _ hl),by rw [L0]⟩),by lia,Ee (Aw.of (s0 l _ hl)) hm.1 (by rw [L0];exact hm.2) λv hv=>?_⟩
   obtain ⟨z,hzm,rfl⟩:=D2.mp hv
   refine ⟨rfl,cs++[z],by rw [B0,hc];rfl,λc hcm=>?_,by rw [o0];rfl⟩
   rcases X0.mp hcm with q | q
   ·exact hcl c q
   ·rw [M0.mp q];exact hz3 z hzm
  ·rintro ys H2 ⟨rfl,cs,hc,hcl,rfl⟩ D hD
   rw [L0,hnl4] at hc
   obtain ⟨c0,c1,c2,c3,rfl⟩:=Mb hc
   have sG:Ag H (upd H2 D (.lst ([c0,c1,c2,c3].map V.str))):=s0.trans (Ag.upd hD)
   generalize hG:upd H2 D (.lst ([c0,c1,c2,c3].map V.str))=G at sG
   have hDG:G D=some (.lst [V.str c0,V.str c1,V.str c2,V.str c3]):=by rw [<- hG];exact Ad
   clear hG
   walk_at "n"
   have fin:∀ {G':Hp} {m:Nat} (z:Str) (r:List V),Ag H G'->m<=sizeLine->Lg z r->Bk z=[]->m<=sizeLine/\∀ p:Addr,G' p=none->Q (.ref p) (upd G' p (.tup (.str z::r))):=λ{G' m} z r s' hm e1 e2 =>
    ⟨hm,λp hp=>k p z r _ (s'.free hp) Ad e1 e2 (s'.trans (Ag.upd hp))⟩
   have at_:∀ {G':Hp} {R:VK} (j:Int),Ag G G'->0<=j->j<4->(∀ z:Str,Fk z->R (.str z) G')->DS K (.ref D) (.int j) G' R:=λ{G' R} j s' h0 h1 f =>
    Ee (Aw.of (s' D _ hDG)) h0 h1 λv hv=>by
     obtain ⟨z,hz,rfl⟩:=D2.mp (show v∈[c0,c1,c2,c3].map V.str from hv)
     exact f z (hcl z hz)
   have two:∀ {G':Hp} {R:VK} (a b:Str) (j:Int),Ag G G'->0<=j->j<2->(∀ z G2,(z=a\/z=b)->Ag G G2->R (.str z) G2)->2<=sizeLine/\∀ p:Addr,G' p=none->DS K (.ref p) (.int j) (upd G' p (.lst [V.str a,V.str b])) R:=λ{G' R} a b j s' h0 h1 f =>
    ⟨by kd_p,λp hp=>Ee (Aw.of Ad) h0 h1 λv hv=>by
     rcases K0.mp hv with rfl | hv
     ·exact f a _ (.inl rfl) (s'.trans (Ag.upd hp))
     ·rw [M0.mp hv];exact f b _ (.inr rfl) (s'.trans (Ag.upd hp))⟩
   refine ⟨⟨by kd_p,by kd_p⟩,_,_,rfl,by lia,⟨zs,sG l _ hl,hz1,hz2,hz3⟩,λvv G1 hvv hvl s1=>?_⟩
   have sH:∀ {G2:Hp},Ag G G2->Ag H G2:=λs=>sG.trans s
   refine ⟨by kd_p,⟨by kd_p,by kd_p⟩,by kd_p,rfl,?_⟩
   have st:∀ {z:Str},Fk z->TV (.str z):=λh=>h.tv
   have nv:∀ {z:Str},Fk z->Qy (.str z):=λh=>⟨_,rfl,h⟩
   have pw:∀ {z a b:Str},(z=a\/z=b)->plW a->plW b->plW z:=λh ha hb=>by
    rcases h with rfl | rfl
    ·exact ha
    ·exact hb
   by_cases w0:x%11=0
   ·exact BH w0 ⟨⟨by kd_p,by kd_p⟩,by kd_p,fin _ _ (sH s1) (by kd_p) (pln (by lk) (by lk) (by lk) (tv1 (TV.int (by lia) (by lia))) (show 1<=4 by kd_p) (.wait ⟨_,rfl,by lia,by lia⟩)) (by lk)⟩
   refine BI w0 ?_
   by_cases w3:x%11<3
   ·refine BH w3 (two _ _ _ s1 (by lia) (by lia) λz G2 hz s2=>at_ 0 s2 (by kd_p) (by kd_p) λv hv=>?_)
    have p:=pw hz (by lk) (by lk)
    exact fin z _ (sH s2) (by kd_p) (pln p.1 p.2.1 p.2.2 (tv1 (st hv)) (show 1<=4 by kd_p) (.one (by rcases hz with e | e;exact .inl e;exact .inr (.inl e)) (nv hv))) p.1
   refine BI w3 ?_
   by_cases w5:x%11<5
   ·refine BH w5 (two _ _ _ s1 (by lia) (by lia) λz G2 hz s2=>at_ 0 s2 (by kd_p) (by kd_p) λv hv=>?_)
    have p:=pw hz (by lk) (by lk)
    exact fin z _ (sH s2) (by kd_p) (pln p.1 p.2.1 p.2.2 (tv2 (st hv) hvv) (show 2<=4 by kd_p) (.val hz (nv hv) hvl)) p.1
   refine BI w5 ?_
   by_cases w7:x%11<7
   ·refine BH w7 (two _ _ _ s1 (by lia) (by lia) λz G2 hz s2=>at_ 0 s2 (by kd_p) (by kd_p) λv hv=>at_ 1 s2 (by kd_p) (by kd_p) λv2 hv2=>?_)
    have p:=pw hz (by lk) (by lk)
    exact fin z _ (sH s2) (by kd_p) (pln p.1 p.2.1 p.2.2 (tv2 (st hv) (st hv2)) (show 2<=4 by kd_p) (.two hz (nv hv) (nv hv2))) p.1
   refine BI w7 ⟨rfl,?_⟩
   by_cases w8:x%11=7
   ·refine BH w8 ⟨by kd_p,λp hp=>⟨⟨by kd_p,by kd_p⟩,by kd_p,?_⟩⟩
    refine (two _ _ _ s1 (by lia) (by lia) λz G2 hz s2=>at_ 0 s2 (by kd_p) (by kd_p) λv hv=>?_).2 p hp
    have p:=pw hz (by lk) (by lk)
    exact fin z _ (sH s2) (by kd_p) (pln p.1 p.2.1 p.2.2 (tv1 (st hv)) (show 1<=4 by kd_p) (.one (by rcases hz with e | e;exact .inr (.inr (.inl e));exact .inr (.inr (.inr e))) (nv hv))) p.1
   refine BI w8 ⟨rfl,?_⟩
   refine NG ?_ ⟨rfl,NG ?_ ?_⟩
   ·refine ⟨⟨by kd_p,by kd_p⟩,by kd_p,by kd_p,λp hp=>⟨⟨by kd_p,by kd_p⟩,by kd_p,?_⟩⟩
    have s2:=s1.trans (Ag.upd (o:=.lst [V.int 0,V.int (1+x / 22%99)]) hp)
    refine Ee (Aw.of Ad) (by lia) (by simp only [P0,K1];lia) λv hv=>at_ 0 s2 (by kd_p) (by kd_p) λv2 h2=>at_ 1 s2 (by kd_p) (by kd_p) λv3 h3=>at_ 2 s2 (by kd_p) (by kd_p) λv4 h4=>?_
    obtain ⟨l,rfl,hl0,hl1⟩:∃ l:Int,v=.int l/\0<=l/\l<=99:=by
     rcases K0.mp hv with rfl | hv
     ·exact ⟨_,rfl,by kd_p,by kd_p⟩
     ·rw [M0.mp hv];exact ⟨_,rfl,by lia,by lia⟩
    refine fin _ _ (sH s2) (by kd_p) ⟨_,_,rfl,.inl ⟨by lk,by lk,λt ht=>?_,(show 4<=4 by kd_p),⟨λ_=>⟨v2,v3,v4,l,rfl,hl0⟩,.begin (nv h2) (nv h3) (nv h4) ⟨l,rfl,hl0,hl1⟩⟩⟩⟩ (by lk)
    simp only [K0,A1,or_false] at ht
    rcases ht with rfl | rfl | rfl | rfl
    ·exact st h2
    ·exact st h3
    ·exact st h4
    ·exact TV.int hl0 (by lia)
   ·exact fin _ _ (sH s1) (by kd_p) (pln (by lk) (by lk) (by lk) (tv1 hvv) (show 1<=4 by kd_p) (.give hvl)) (by lk)
   ·exact at_ 3 s1 (by kd_p) (by kd_p) λv hv=>fin _ _ (sH s1) (by kd_p) (pln (by lk) (by lk) (by lk) (tv1 (st hv)) (show 1<=4 by kd_p) (.one (.inl rfl) (nv hv))) (by lk)
theorem FA:Sc ["_law_x", "_law_names", "_law_name_here", "_law_way"] ["_law_x", "_law_names"] (top 42):=DD (by lk)
theorem Ni (T:Tx P w K mg)
  (G_l_value_by:BO P w base T.d_l_value_by 1 Hy):BO P w base T.d_l_opened 2 MK:=by
 exists T.d_l_opened.F.ok FA
 ·obtain ⟨x,l,rfl,_⟩:=h
  rfl
 ·obtain ⟨x,l,rfl,hx,hN,k⟩:=h
  obtain ⟨zs,hl,hz1,hz2,hz3⟩:=id hN
  refine ⟨_,(Ae (As (i:=2) FA.nd rfl (Or.inl rfl) (Aq Al (pv 1) (An AW (An BT (pv 0) Ac) (At Az (by rfl) T.n_len AZ (Aa (pv 1) Ab))) (λ_ _=>rfl)))
  (Ae (As (i:=3) FA.nd rfl (Or.inl rfl) (An AW (pv 0) Ac))
  (Ae (Au (Ah AF (pv 3) Ac (Ak _))
  (Af (Am (Aj (Aa Ai (Aa (Bh (Aa (pv 2) Ab)) (Aa (Aj (Aa (Aj Ab) Ab)) (Aa AQ Ab)))))))
  Ao)
  (Ae (Au (Ah AF (pv 3) Ac (Ak _))
  (Af (Am (Aj (Aa Ai (Aa (Bh (Aa (An Bz Ac (An AW (An BT (pv 0) Ac) Ac)) Ab)) (Aa (Aj (Aa (Aj Ab) Ab)) (Aa AQ Ab)))))))
  Ao)
  (Ae (Au (Ah AF (pv 3) Ac (Ak _))
  (Af (Am (Aj (Aa Ai (Aa (Bh Ab) (Aa (Aj (Aa (Aj Ab) Ab)) (Aa AQ Ab)))))))
  Ao)
  (Ae (Au (Ah AF (pv 3) Ac (Ak _))
  (Af (Am (Aj (Aa Ai (Aa (Bh Ab) (Aa (Aj (Aa (Aj Ab) Ab)) (Aa (Aq Al (Aj (Aa (pv 2) (Aa Ai Ab))) (An AW (An BT (pv 0) Ac) Ac) (λ_ _=>rfl)) Ab)))))))
  Ao)
  (Ae (Au (Ah AF (pv 3) Ac (Ak _))
  (Af (Am (Aj (Aa Ai (Aa (Bh Ab) (Aa (Aj (Aa (Aj Ab) Ab)) (Aa AQ Ab)))))))
  Ao)
  (Ae (Au (Ah AF (pv 3) Ac (Ak _))
  (Af (Am (Aj (Aa Ai (Aa (Bh (Aa (pv 2) (Aa (AI T.d_l_value_by G_l_value_by hr (Aa (An BT (pv 0) Ac) (Aa (pv 1) Ab))) Ab))) (Aa (Aj (Aa (Aj Ab) Ab)) (Aa AQ Ab)))))))
  Ao)
  (Af (Am (Aj (Aa Ai (Aa (Bh (Aa (An Bz Ac (An AW (An BT (pv 0) Ac) Ac)) Ab)) (Aa (Aj (Aa (Aj Ab) Ab)) (Aa AQ Ab))))))))))))))),?_⟩
  z_go
  have len:Ke K (.ref l) H zs.length:=AV.mpr (.inl ⟨_,Aw.of hl,by rw [L0]⟩)
  have hm:=LP (x:=x / 7) hz1
  refine ⟨⟨by kd_p,by kd_p⟩,zs.length,len,by lia,Ee (Aw.of hl) hm.1 (by rw [L0];exact hm.2) λv hv=>?_⟩
  have hv1:=Tu hz3 hv
  have hn1:=Jr hz3 hv
  have two2:∀ {a v2:V},RS a->v2∈[a,V.str "any"]->RS v2:=λha h=>by
   rcases K0.mp h with rfl | h
   ·exact ha
   ·rw [M0.mp h];exact ⟨_,rfl,by lk⟩
  have two3:∀ {a v2:V},Qy a->v2∈[a,V.str "any"]->Ii "try" [] v2:=λha h=>by
   rcases K0.mp h with rfl | h
   ·obtain ⟨z,rfl,hz⟩:=ha
    exact .try_ (.inl hz)
   ·rw [M0.mp h];exact .try_ (.inr rfl)
  have mk:∀ {G:Hp} {m:Nat} (z:Str) (th:List V) (hw:Mr z) (hz:z≠"errand") (hth:ThOk z th .non),Ag H G->m<=sizeLine->m<=sizeLine/\∀ p:Addr,G p=none->0<=sizeLine/\∀ p1:Addr,upd G p (.tup th) p1=none->1<=sizeLine/\∀ p2:Addr,upd (upd G p (.tup th)) p1 (.lst []) p2=none->4<=sizeLine/\∀ p3:Addr,upd (upd (upd G p (.tup th)) p1 (.lst [])) p2 (.lst [.ref p1]) p3=none->Q (.ref p3) (upd (upd (upd (upd G p (.tup th)) p1 (.lst [])) p2 (.lst [.ref p1])) p3 (.lst [.str z,.ref p,.ref p2,.non])) :=
   λ{G m} z th hw hz hth s hm=>⟨hm,λp hp=>⟨by kd_p,λp1 hp1=>⟨by kd_p,λp2 hp2=>⟨by kd_p,λp3 hp3=>k _ _ (LO (s.trans (Ag.upd hp)) Ad hp1 hp2 (Ag.refl _) hp3 hw hth) hz⟩⟩⟩⟩
  have sR:=Ag.refl H
  refine ⟨by kd_p,rfl,NG (mk _ _ (by lk) (by lk) (MB (by lk) (by lk) (by lk) hv1.tv (.name (.inr rfl) hn1)) sR (by kd_p)) ⟨rfl,?_⟩⟩
  refine NG ⟨⟨by kd_p,by kd_p⟩,by kd_p,mk _ _ (by lk) (by lk) (MB (by lk) (by lk) (by lk) (TV.int (by lia) (by lia)) (.limit ⟨_,rfl,by lia,by lia⟩)) sR (by kd_p)⟩ ⟨rfl,?_⟩
  refine NG (mk _ _ (by lk) (by lk) (Sh (by lk) (λe=>absurd e (by lk)) (.bare (.inl rfl))) sR (by kd_p)) ⟨rfl,?_⟩
  refine NG ⟨by kd_p,λp hp=>⟨by kd_p,λp1 hp1=>⟨by kd_p,λp2 hp2=>⟨by kd_p,λp3 hp3=>⟨⟨by kd_p,by kd_p⟩,by kd_p,?_⟩⟩⟩⟩⟩ ⟨rfl,?_⟩
  ·exact Ee (Aw.of Ad) (by lia) (by simp only [P0,K1];lia) λv2 hv2=>⟨by kd_p,λp4 hp4=>k _ _ (LO (Ag.upd hp) Ad hp1 hp2 (Ag.upd hp3) hp4 (by lk) (Sh (by lk) (λ_=>two2 hv1 hv2) (two3 hn1 hv2))) (show ("try":Str)≠"errand" by lk)⟩
  refine NG (mk _ _ (by lk) (by lk) (Sh (by lk) (λe=>absurd e (by lk)) (.bare (.inr rfl))) sR (by kd_p)) ⟨rfl,?_⟩
  refine NG ⟨⟨by kd_p,by kd_p⟩,_,_,rfl,by lia,hN,λv2 H2 hv2 hvl2 s2=>mk _ _ (by lk) (by lk) ⟨(show (2:Nat)=Dr "when" by lk),tv2 hv1.tv hv2,(λ_ t ht=>by cases ht;exact hv1),(λe=>absurd e (by lk)),.when hn1 hvl2⟩ s2 (by kd_p)⟩ ?_
  exact ⟨⟨by kd_p,by kd_p⟩,by kd_p,mk _ _ (by lk) (by lk) (MB (by lk) (by lk) (by lk) (TV.int (by lia) (by lia)) (.rep ⟨_,rfl,by lia,by lia⟩)) sR (by kd_p)⟩
theorem Cg:Sc ["_law_frame", "_law_word", "_law_things_here", "_law_lists", "_law_fault", "_law_head", "_law_rows"] ["_law_frame"] (top 43):=DD (by lk)
theorem Nk (T:Tx P w K mg):BO P w base T.d_l_closed 1 GY:=by
 exists T.d_l_closed.F.ok Cg
 ·obtain ⟨F,n,rfl,_⟩:=h
  rfl
 ·obtain ⟨F,n,rfl,hF,h2n,hc,k⟩:=h
  refine ⟨_,(Ae (OB (pv 0) (Tb (n:=4) rfl (Bn (AK (i:=1) Cg.nd rfl (Or.inl rfl)) (Bn (AK (i:=2) Cg.nd rfl (Or.inl rfl)) (Bn (AK (i:=3) Cg.nd rfl (Or.inl rfl)) (Bn (AK (i:=4) Cg.nd rfl (Or.inl rfl)) Es))))))
  (Ae (As (i:=5) Cg.nd rfl (Or.inl rfl) (An CV (Bh (Aa (pv 1) (Aa (An Bz Ac (At Az (by rfl) T.n_len AZ (Aa (Aq Al (pv 3) Ac (λ_ _=>rfl)) Ab))) Ab))) (pv 2)))
  (AB (Au (PW.pt (BR (Ah BK (pv 1) (Aj (Bi (zs:=["try", "do", "limit"]) (by lk))) (by with_unfolding_all rfl)) (BM (Ah AF (At Az (by rfl) T.n_len AZ (Aa (pv 3) Ab)) Ac (Ak _)))))
  (Af (As (i:=3) Cg.nd rfl (Or.inl rfl) (An Bf (pv 3) (Aj (Aa (Aj Ab) Ab)))))
  Ao)
  (Ae (Ec (i:=6) Cg.nd rfl (Or.inl rfl) (N':=["_law_part"]) (sel:=[none]) rfl rfl rfl (Fc (pv 3)) (Dz rfl) (λ_ _ _ _ _=>⟨(AK (i:=0) (show (["_law_part"]:List Str).Nodup by lk) rfl (Or.inl rfl)),EZ,(AT (FL (K:=K) rfl) (by rfl) T.n_tuple Ce (Aa (pv 0) Ab))⟩) rfl)
  (AB (Au (Ah AF (pv 1) Ai (Ak _))
  (Af (Am (An CV (pv 5) (Bh (Aa (Aq Al (pv 6) Ac (λ_ _=>rfl)) (Aa (pv 4) (Aa (Aq Al (pv 6) Ac (λ_ _=>rfl)) Ab)))))))
  Ao)
  (Af (Am (An CV (pv 5) (AT Bo (by rfl) T.n_tuple Ce (Aa (pv 6) Ab)))))))))),?_⟩
  z_go
  refine ⟨F.f,_,rfl,Aw.of hF.hf,rfl,?_⟩
  simp only [Gy,Ma]
  z_go
  have ps1:0<F.ps.length:=by rcases hF.one with e | ⟨e,_⟩<;>lia
  have hr0:F.rss[0]?=some (F.rss[0]'(by have:=hF.len;lia)):=x0 _
  have hp0:F.ps[0]?=some F.ps[0]:=x0 ps1
  have hth2:F.th.length<=2:=by
   rw [hF.things]
   rcases hF.word with e | e | e | e | e | e | e | e<;>rw [e]<;>lk
  have b10:(2010:Nat)<=sizeLine:=by kd_p
  refine ⟨F.L,_,_,.ref F.ps[0],rfl,rfl,Aw.of hF.hL,Av (j:=0) (by rw [Z1,hp0];rfl),_,AV.mpr (.inl ⟨_,Aw.of (hF.hp 0 _ _ hp0 hr0),rfl⟩),by kd_p,λp hp=>?_⟩
  refine DY Ad ((Ag.upd hp) _ _ hF.ht) (by simp) (by simp only [P0,K1];lia) λhd G hG sG0=>?_
  have sG:Ag H G:=(Ag.upd hp).trans sG0
  have hFG:=hF.same sG
  generalize (1+((F.rss[0]'(by have:=hF.len;lia)).length:Int))=li at hG
  clear hp sG0
  refine ⟨λσ' G'=>∃ (L':Addr) (ps':List Addr) (rss':List (List V)),σ'=[some (.ref F.f),some (.str F.z),some (.ref F.t),some (.ref L'),some F.fa,some (.ref hd),none]/\G' L'=some (.lst (ps'.map V.ref))/\ps'.length=rss'.length/\(∀ (i:Nat) (p:Addr) (rs:List V),ps'[i]?=some p->rss'[i]?=some rs->G' p=some (.lst rs))/\(BL F.z->ps'.length=2)/\(¬ BL F.z->ps'.length=1)/\(∀ rs∈rss',∀ r∈rs,AX n H r)/\(rss'.flatMap λrs=>rs.flatMap (Dc n H)).length<=F.c/\Ag G G',?_,?_⟩
  ·z_go
   refine ⟨by kd_p,λq hq=>⟨q,_,rfl,.inl (Aw.of Ad),rfl,rfl,decide (BL F.z),congrArg V.bl (inTwo F.z),?_⟩⟩
   have s1:Ag G (upd G q (.lst [V.str "try",V.str "do",V.str "limit"])):=Ag.upd hq
   generalize upd G q (.lst [V.str "try",V.str "do",V.str "limit"])=G1 at s1 |-
   have hF1:=hFG.same s1
   have keep:(BL F.z->F.ps.length=2)->(¬ BL F.z->F.ps.length=1)->∃ x,G1 F.L=some (HO.lst (Q9 V.ref x))/\∃ x_1,x.length=x_1.length/\(∀ (i:Nat) (p:Addr) (rs:List V),x[i]?=some p->x_1[i]?=some rs->G1 p=some (HO.lst rs))/\(BL F.z->x.length=2)/\(¬BL F.z->x.length=1)/\(∀ (rs:List V),rs∈x_1->∀ (r:V),r∈rs->AX n H r)/\(List.flatMap (λrs=>List.flatMap (Dc n H) rs) x_1).length<=F.c/\Ag G G1 :=
    λa b=>⟨F.ps,hF1.hL,F.rss,hF1.len,hF1.hp,a,b,hF.rows,hF.wt,s1⟩
   by_cases hT:BL F.z
   ·refine BH hT ⟨_,AV.mpr (.inl ⟨_,Aw.of hF1.hL,rfl⟩),rfl,?_⟩
    rw [L0]
    by_cases h1:F.ps.length=1
    ·refine BH (by lia) ⟨by kd_p,λq1 hq1=>⟨by kd_p,λq2 hq2=>?_⟩⟩
     have s2:=Ag.upd (o:=.lst []) hq1
     have s3:=Ag.upd (o:=.lst [.ref q1]) hq2
     refine ⟨F.L,q2,_,_,rfl,rfl,(s2.trans s3) _ _ hF1.hL,Ad,by rw [L0,h1];show 2<=sizeLine;decide,λq3 hq3=>⟨q3,rfl,F.ps++[q1],by rw [Ad,o0];rfl,F.rss++[[]],?_,?_,λ_=>?_,λh=>absurd hT h,?_,?_,((s1.trans s2).trans s3).trans (Ag.upd hq3)⟩⟩
     ·rw [B0,B0,hF.len];rfl
     ·have s4:=Ag.upd (o:=.lst (F.ps.map V.ref++[.ref q1])) hq3
      intro i p rs hpi hri
      by_cases hi:i<F.ps.length
      ·rw [Z0 hi] at hpi
       rw [Z0 (by have:=hF.len;lia)] at hri
       exact ((s2.trans s3).trans s4) _ _ (hF1.hp i p rs hpi hri)
      ·rw [C2 (by lia)] at hpi
       rw [C2 (by have:=hF.len;lia)] at hri
       have e1:=(d0.mp hpi).1
       have e2:i-F.ps.length=0:=by simp only [P0,K1] at e1;lia
       rw [e2] at hpi
       rw [<- hF.len,e2] at hri
       cases hpi
       cases hri
       exact (s3.trans s4) _ _ Ad
     ·rw [B0,h1];rfl
     ·intro rs hrs r hr
      rcases X0.mp hrs with hrs | hrs
      ·exact hF.rows rs hrs r hr
      ·rw [M0.mp hrs] at hr;cases hr
     ·rw [V4,B0]
      have:=hF.wt
      simp only [V2,F7,K1,L1]
      lia
    ·refine BI (by lia) (keep (λ_=>?_) λh=>absurd hT h)
     rcases hF.one with e | ⟨e,_⟩
     ·exact absurd e h1
     ·exact e
   ·refine BI hT (keep (λh=>absurd h hT) λ_=>?_)
    rcases hF.one with e | ⟨_,e⟩
    ·exact e
    ·exact absurd e hT
  ·rintro σ' G' ⟨L',ps',rss',rfl,hL',hlen',hp',h2,h1,hrows,hwt,sG'⟩
   have l2:ps'.length<=2:=by
    by_cases e:BL F.z
    ·rw [h2 e];exact V0 _
    ·rw [h1 e];decide
   refine ⟨_,rfl,L',rfl,⟨_,Aw.of hL'⟩,?_⟩
   refine Hi (K:=K) (a:=L') (xs:=ps'.map V.ref) (λi ys H2=>∃ bs:List Addr,ys=bs.map V.ref/\bs.length=i/\(∀ (j:Nat) (b:Addr) (rs:List V),bs[j]?=some b->rss'[j]?=some rs->H2 b=some (.tup rs))/\Ag G' H2) ⟨[],rfl,rfl,(λj b rs h=>nomatch h),Ag.refl _⟩ ?_ ?_ ?_ ?_
   ·rintro i ys H2 hi ⟨bs,rfl,hbl,hbs,s2⟩
    exact ⟨Aw.of (s2 _ _ hL'),by rw [L0,hbl];exact V0 _⟩
   ·rw [L0];lia
   ·rintro i x ys H2 hx ⟨bs,rfl,hbl,hbs,s2⟩
    rw [Z1] at hx
    cases e:ps'[i]? with
    |none=>rw [e] at hx;cases hx
    |some p =>
     rw [e] at hx
     cases hx
     have hlt:=(d0.mp e).1
     have hri:rss'[i]?=some (rss'[i]'(by lia)):=x0 _
     have hpr:=hp' i p _ e hri
     x_go
     refine ⟨_,.inl ⟨Aw.of (s2 _ _ hpr),λb hb=>⟨bs++[b],by rw [o0];rfl,by rw [B0,hbl];rfl,?_,s2.trans (Ag.upd hb)⟩⟩⟩
     intro j b' rs hj hrj
     by_cases hjl:j<bs.length
     ·rw [Z0 hjl] at hj
      exact (Ag.upd hb) _ _ (hbs j b' rs hj hrj)
     ·rw [C2 (by lia)] at hj
      have e1:=(d0.mp hj).1
      have e2:j-bs.length=0:=by simp only [P0,K1] at e1;lia
      rw [e2] at hj
      cases hj
      rw [show j=i by lia,hri] at hrj
      cases hrj
      exact Ad
   ·rintro ys H2 ⟨bs,rfl,hbl,hbs,s2⟩ D hD
    rw [L0] at hbl
    have sD:=Ag.upd (o:=.lst (bs.map V.ref)) hD
    have sA:Ag H (upd H2 D (.lst (bs.map V.ref))):=((sG.trans sG').trans s2).trans sD
    have hDD:upd H2 D (.lst (bs.map V.ref)) D=some (.lst (bs.map V.ref)):=Ad
    have hbD:∀ (j:Nat) (b:Addr) (rs:List V),bs[j]?=some b->rss'[j]?=some rs->upd H2 D (.lst (bs.map V.ref)) b=some (.tup rs):=λj b rs a c=>sD _ _ (hbs j b rs a c)
    have hhd:upd H2 D (.lst (bs.map V.ref)) hd=some (.tup ([V.str F.z,V.int li]++F.th)):=((sG'.trans s2).trans sD) _ _ hG
    generalize upd H2 D (.lst (bs.map V.ref))=G3 at sA hDD hbD hhd |-
    have done:∀ (a:Addr) (G4:Hp),G4 a=some (.tup ([V.str F.z,V.int li]++F.th++(if F.z="try" then QL bs F.fa else bs.map V.ref)))->Ag G3 G4->Q (.ref a) G4:=λa G4 ha s4 =>
     k (.ref a) G4 (made_of h2n (rss:=rss') (th:=F.th) (i:=li) (fa:=F.fa) ⟨hF.word,rfl,hF.tv,hF.sv,hF.things,hF.fv,λe=>by rw [hbl];exact h2 e,λe=>by rw [hbl];exact h1 e⟩ (by lia) (λj b rs a c=>s4 _ _ (hbD j b rs a c)) (λrs hrs r hr=>(hrows rs hrs r hr).same (sA.trans s4))
      (by
       have e:(rss'.flatMap λrs=>rs.flatMap (Dc n G4))=rss'.flatMap λrs=>rs.flatMap (Dc n H):=AJ λrs hrs=>AJ λr hr=>Ea (AE (sA.trans s4)) (hrows rs hrs r hr)
       rw [e];exact hwt) ha) (sA.trans s4)
    refine ⟨λσ' H'=>F.z≠"try"/\σ'=[some (.ref F.f),some (.str F.z),some (.ref F.t),some (.ref L'),some F.fa,some (.ref hd),some (.ref D)]/\H'=G3,?_,?_⟩
    ·z_go
     refine ⟨rfl,?_⟩
     by_cases hz:F.z="try"
     ·have b2:bs.length=2:=by rw [hbl];exact h2 (.inl hz)
      obtain ⟨b0,b1,rfl⟩:=Jy b2
      refine BH hz ⟨D,_,_,.ref b0,rfl,rfl,Aw.of hDD,Av (j:=0) rfl,D,_,_,.ref b1,rfl,rfl,Aw.of hDD,Av (j:=1) rfl,by kd_p,λp hp=>?_⟩
      refine DY ((Ag.upd hp) _ _ hhd) Ad (by simp) (by simp only [B0,P0,K1];lia) λa G4 ha s4=>done a G4 ?_ ((Ag.upd hp).trans s4)
      rw [ha,if_pos hz]
      rfl
     ·exact BI hz hz
    ·rintro σ' H' ⟨hz,rfl,rfl⟩
     z_go
     refine ⟨_,.inl ⟨Aw.of hDD,λp hp=>?_⟩⟩
     refine DY ((Ag.upd hp) _ _ hhd) Ad (by simp) (by simp only [B0,P0,K1,L0];lia) λa G4 ha s4=>done a G4 ?_ ((Ag.upd hp).trans s4)
     rw [ha,if_neg hz]
theorem Ha:Sc ["_law_errands", "_law_stack", "_law_x", "_law_names", "_law_deep", "_law_way", "_law_more", "_law_made"] ["_law_errands", "_law_stack", "_law_x", "_law_names", "_law_deep"] (top 44):=DD (by lk)
theorem To (T:Tx P w K mg)
  (G_l_opened:BO P w base T.d_l_opened 2 MK)
  (G_l_closed:BO P w base T.d_l_closed 1 GY)
  (G_l_plain:BO P w base T.d_l_plain 3 Lq):BO P w base T.d_l_put 4 spPut:=by
 exists T.d_l_put.F.ok Ha
 ·obtain ⟨ea,sa,na,x,d,H0,Fs,c,t,rfl,_⟩:=h
  rfl
 ·obtain ⟨ea,sa,na,x,d,H0,Fs,c,t,rfl,hx,hN,hne,hS,hc,ht,k⟩:=h
  refine ⟨_,(Ae (As (i:=5) Ha.nd rfl (Or.inl rfl) (An AW (pv 2) Ac))
  (Ae (As (i:=6) Ha.nd rfl (Or.inl rfl) (An BT (pv 2) Ac))
  (Af (LC (PW.pt (BR (Ah Et (pv 5) (An Bz Ac (An GG Ac (AT Gb (by rfl) T.n_int EC (Aa (pv 4) Ab)))) (Ak _)) (BM (Ah Et (At Az (by rfl) T.n_len AZ (Aa (pv 1) Ab)) Ac (Ak _)))))
  (Af (AR (Br j0 v0 u0 AU (pv 1) (Aa (AI T.d_l_opened G_l_opened hr (Aa (pv 6) (Aa (pv 3) Ab))) Ab))))
  (Af (LC (PW.pt (BR (Ah AF (pv 5) Ac (Ak _)) (BR (Ah BK (Aq Al (Aq Al (pv 1) (CO BP Ac) (λ_ _=>rfl)) Ac (λ_ _=>rfl)) (Aj (Bi (zs:=["try", "do", "limit"]) (by lk))) (by with_unfolding_all rfl)) (BM (Ah AF (At Az (by rfl) T.n_len AZ (Aa (Aq Al (Aq Al (pv 1) (CO BP Ac) (λ_ _=>rfl)) Ac (λ_ _=>rfl)) Ab)) Ac (Ak _))))))
  (Af (AR (Br j0 v0 u0 AU (Aq Al (Aq Al (pv 1) (CO BP Ac) (λ_ _=>rfl)) Ac (λ_ _=>rfl)) (Aa (Aj Ab) Ab))))
  (Af (LC (PW.pt (BR (Ah Gr (pv 5) Ac (Ak _)) (BR (Ah Gr (At Az (by rfl) T.n_len AZ (Aa (pv 1) Ab)) Ac (Ak _)) (BM (DK (PW.pt (BR (Cv (pv 4)) (BM (Ah Et (At Az (by rfl) T.n_len AZ (Aa (pv 1) Ab)) Ac (Ak _))))))))))
  (Ae (As (i:=7) Ha.nd rfl (Or.inl rfl) (AI T.d_l_closed G_l_closed hr (Aa (Ez j0 y4 w4 HL (pv 1)) Ab)))
  (Af (AR (Br j0 v0 u0 AU (Aq Al (Aq Al (Aq Al (pv 1) (CO BP Ac) (λ_ _=>rfl)) Ac (λ_ _=>rfl)) (CO BP Ac) (λ_ _=>rfl)) (Aa (pv 7) Ab)))))
  (Af (LC (PW.pt (BR (Ah AF (pv 5) Ac (Ak _)) (BM (Ah AF (At Az (by rfl) T.n_len AZ (Aa (pv 1) Ab)) Ac (Ak _)))))
  (Ae (AR (Br j0 v0 u0 AU (pv 0) (Aa (AI T.d_l_closed G_l_closed hr (Aa (Ez j0 y4 w4 HL (pv 1)) Ab)) Ab)))
  (Af (AR (Br j0 v0 u0 AU (pv 1) (Aa (Aj (Aa Ai (Aa (Bh (Aa (Aq Al (pv 3) (An AW (pv 6) (At Az (by rfl) T.n_len AZ (Aa (pv 3) Ab))) (λ_ _=>rfl)) Ab)) (Aa (Aj (Aa (Aj Ab) Ab)) (Aa AQ Ab))))) Ab)))))
  (Af (AR (Br j0 v0 u0 AU (Aq Al (Aq Al (Aq Al (pv 1) (CO BP Ac) (λ_ _=>rfl)) Ac (λ_ _=>rfl)) (CO BP Ac) (λ_ _=>rfl)) (Aa (AI T.d_l_plain G_l_plain hr (Aa (pv 6) (Aa (pv 3) Ab))) Ab)))))))))))))),?_⟩
  z_go
  obtain ⟨Gs,F,rfl⟩:=CY hne
  have hlen:(Gs++[F]).length=Gs.length+1:=by rw [B0];rfl
  have hle:=hS.le
  rw [hlen] at hle
  have lenS:∀ {G:Hp},SA H0 G sa ea (Gs++[F]) c t->Ke K (.ref sa) G (Gs.length+1):=λh=>AV.mpr (.inl ⟨_,Aw.of h.hs,by rw [L0,hlen]⟩)
  have names:∀ {G:Hp},SA H0 G sa ea (Gs++[F]) c t->Ew G na:=λh=>by
   obtain ⟨zs,a,b⟩:=hN
   exact ⟨zs,h.out _ _ a,b⟩
  refine ⟨by kd_p,⟨by kd_p,by kd_p⟩,?_⟩
  refine ⟨λH1=>H1=H/\Gs.length+1<21,λH1=>H1=H,?_,?_,?_⟩
  ·z_go
   refine .inr ⟨.inl ⟨by kd_p,by kd_p⟩,?_⟩
   refine NG ⟨_,lenS hS,?_⟩ trivial
   by_cases hlt:Gs.length+1<21
   ·exact BH (by lia) hlt
   ·exact BI (by lia) trivial
  ·rintro H1 ⟨rfl,hlt⟩
   z_go
   refine ⟨.inl ⟨_,Aw.of hS.hs⟩,_,_,rfl,by lia,names hS,λF' G hn hz=>?_⟩
   refine ⟨sa,_,_,rfl,rfl,hn.2.2.2.2 _ _ hS.hs,?_,k _ _ ?_ ((hS.push hn (by rw [hlen];exact hlt) ⟨λe=>absurd e hz,λe=>by rw [hlen] at e;cases e⟩).mono (by lia) (by lia))⟩
   ·rw [L0,hlen];exact X2 hle (by kd_p)
   ·rw [B0];simp only [P0,K1];lia
  rintro H1 rfl
  refine ⟨λG=>Ag H1 G/\BL F.z/\F.ps.length=1,λG=>Ag H1 G,?_,?_,?_⟩
  ·z_go
   refine ⟨rfl,NG ?_ (Ag.refl _)⟩
   refine hS.readTop (hS.top.readZ ⟨by kd_p,λp hp=>⟨p,_,rfl,.inl (Aw.of Ad),rfl,rfl,decide (BL F.z),congrArg V.bl (inTwo F.z),?_⟩⟩)
   have s1:=Ag.upd (o:=.lst [V.str "try",V.str "do",V.str "limit"]) hp
   have hS1:=hS.same s1
   by_cases h2:BL F.z
   ·refine BH h2 (hS1.readTop (hS1.top.readL ⟨_,AV.mpr (.inl ⟨_,Aw.of hS1.top.hL,rfl⟩),rfl,?_⟩))
    rw [L0]
    by_cases h1:F.ps.length=1
    ·exact BH (by lia) ⟨s1,h2,h1⟩
    ·exact BI (by lia) s1
   ·exact BI h2 s1
  ·rintro G ⟨sG,h2,h1⟩
   have hG:=hS.same sG
   z_go
   refine hG.readTop (hG.top.readL ⟨.inl ⟨_,Aw.of hG.top.hL⟩,by kd_p,λq hq=>?_⟩)
   obtain ⟨F',hS'⟩:=hG.addPart hq h1 h2
   refine ⟨F.L,_,_,rfl,rfl,(Ag.upd hq) _ _ hG.top.hL,?_,k _ _ ?_ (hS'.mono (by lia) (by lia))⟩
   ·rw [L0,h1];decide
   ·rw [B0];simp only [P0,K1];lia
  intro G sG
  have hG:=hS.same sG
  refine ⟨λG1=>G1=G/\0<Gs.length,λG1=>G1=G,?_,?_,?_⟩
  ·z_go
   refine NG ⟨_,lenS hG,?_⟩ trivial
   by_cases hlt:0<Gs.length
   ·refine BH (by lia) (NG ⟨_,lenS hG,NG hlt trivial⟩ hlt)
   ·exact BI (by lia) trivial
  ·rintro G1 ⟨rfl,hlt⟩
   z_go
   refine ⟨.inl ⟨_,Aw.of hG.hs⟩,hG.closeIn hlt (by lia) (λp xs H1 h=>.inl ⟨_,h⟩) λH' Gs' hl' hS'=>k _ _ (by lia) (hS'.mono (V0 _) (by lia))⟩
  rintro G1 rfl
  refine ⟨λG2=>G2=G1/\Gs.length=0,λG2=>G2=G1,?_,?_,?_⟩
  ·z_go
   refine ⟨rfl,NG ⟨_,lenS hG,rfl,?_⟩ trivial⟩
   by_cases hl0:Gs.length=0
   ·exact BH (by lia) hl0
   ·exact BI (by lia) trivial
  ·rintro G2 ⟨rfl,hl0⟩
   z_go
   obtain ⟨es,he1,he2,he3⟩:=hG.he
   refine ⟨.inl ⟨_,Aw.of he1⟩,.inl ⟨_,Aw.of hG.hs⟩,?_⟩
   obtain ⟨c',hc',hS',hF',hz⟩:=hG.pop
   refine hG.doPop ⟨F,_,rfl,hF',by have:=hG.le;rw [B0] at this;simp only [P0,K1] at this;exact ⟨by lia,by rw [hz];lia⟩,by lia,λv H2 hmade s2=>?_⟩
   rcases hmade with ⟨_,hE⟩ | ⟨e,_⟩
   ·have hS2:=hS'.same s2
    obtain ⟨es2,he1,he2,he3⟩:=hS2.he
    rw [hl0] at hE
    have hE2:Gz 22 100 H2 v:=by
     exact ⟨hE.1,T0 hE.2.1 (by lia),hE.2.2⟩
    have hS3:=hS2.addErr he1 hE2
    refine ⟨ea,es2,v,rfl,rfl,he1,X2 (T0 he2 ht) (by kd_p),.inl ⟨_,Aw.of hS3.hs⟩,?_⟩
    obtain ⟨zs,hl,hz1,hz2,hz3⟩:=hN
    have hl3:=hS3.out _ _ hl
    have hm:=LP (x:=x / 16) hz1
    refine ⟨zs.length,AV.mpr (.inl ⟨_,Aw.of hl3,by rw [L0]⟩),by lia,Ee (Aw.of hl3) hm.1 (by rw [L0];exact hm.2) λnm hnm=>?_⟩
    refine ⟨by kd_p,λp hp=>⟨by kd_p,λp1 hp1=>⟨by kd_p,λp2 hp2=>⟨by kd_p,λp3 hp3=>?_⟩⟩⟩⟩
    have hn:=LO (z:="errand") (fa:=V.non) (th:=[nm]) (Ag.upd hp) Ad hp1 hp2 (Ag.refl _) hp3 (by lk) (MB (by lk) (by lk) (by lk) (Jq hz3 hnm) (.name (.inl rfl) (Jr hz3 hnm)))
    refine ⟨sa,_,_,rfl,rfl,hn.2.2.2.2 _ _ hS3.hs,?_,k _ _ ?_ ((hS3.push hn (by lia) ⟨λ_=>hl0,λ_=>rfl⟩).mono (by lia) (V0 _))⟩
    ·rw [L0,hl0];decide
    ·rw [B0];simp only [P0,K1];lia
   ·exact absurd (hz.mpr hl0) e
  ·rintro G2 rfl
   z_go
   refine hG.putRow (N:=λ_ H1=>Q V.non H1) (R:=λx _ H1=>Lq [V.int (_ / 16),V.ref na] H1 (λy H1=>DT x [y] H1 λ_ H1=>Q V.non H1) E0) (λp xs H1 h=>.inl ⟨_,h⟩) λp add=>?_
   refine ⟨_,_,rfl,by lia,names hG,λa z r H' hfree ha hz hpl s'=>?_⟩
   have hrow:AX (22-Gs.length) H' (.ref a):=by
    rw [show 22-Gs.length=(21-Gs.length)+1 by lia]
    exact ⟨a,z,r,rfl,ha,hz,λe=>absurd hpl e,λq hq=>by rw [Cj,hpl] at hq;cases hq⟩
   have hone:(Dc (22-Gs.length) H' (.ref a)).length=1:=by
    unfold Dc
    rw [Ct ha,Cj,hpl];rfl
   refine add _ H' s' hrow (by lia) λH'' G' hS''=>k _ (Gs++[G']) ?_ (hS''.mono (by lia) (by lia))
   rw [B0];simp only [P0,K1];lia
theorem CJ:Sc ["_law_cells", "_law_names", "_law_deep", "_law_errands", "_law_stack", "_law_turn", "_law_cell", "_law_made"] ["_law_cells", "_law_names", "_law_deep"] (top 45):=DD (by lk)
theorem LL (T:Tx P w K mg)
  (G_l_mixed:BO P w base T.d_l_mixed 1 Lu)
  (G_l_put:BO P w base T.d_l_put 4 spPut)
  (G_l_closed:BO P w base T.d_l_closed 1 GY):BO P w base T.d_l_program 5 Ko:=by
 exists T.d_l_program.F.ok CJ
 ·obtain ⟨ca,na,d,ns,rfl,_⟩:=h
  rfl
 ·obtain ⟨ca,na,d,ns,rfl,hca,hns,hN,k⟩:=h
  refine ⟨_,(Ae (As (i:=3) CJ.nd rfl (Or.inl rfl) (Aj Ab))
  (Ae (As (i:=4) CJ.nd rfl (Or.inl rfl) (Aj (Aa (Aj (Aa Ai (Aa (Bh (Aa (Aq Al (pv 1) Ac (λ_ _=>rfl)) Ab)) (Aa (Aj (Aa (Aj Ab) Ab)) (Aa AQ Ab))))) Ab)))
  (Ae (Ey PassesOwn.never rfl (PZ rfl T.n_enumerate (Aa (pv 0) Ab)) (HG (n:=2) rfl (Bn (AK (i:=5) CJ.nd rfl (Or.inl rfl)) (Bn (AK (i:=6) CJ.nd rfl (Or.inl rfl)) Es)))
  (Af (AR (AI T.d_l_put G_l_put hr (Aa (pv 3) (Aa (pv 4) (Aa (AI T.d_l_mixed G_l_mixed hr (Aa (An Bz (AI T.d_l_mixed G_l_mixed hr (Aa (pv 6) Ab)) (An GG Ac (pv 5))) Ab)) (Aa (pv 1) (Aa (pv 2) Ab)))))))))
  (Ae (SX PassesOwn.never (Ah Gr (At Az (by rfl) T.n_len AZ (Aa (pv 4) Ab)) Ac (Ak _))
  (Ae (As (i:=7) CJ.nd rfl (Or.inl rfl) (AI T.d_l_closed G_l_closed hr (Aa (Ez j0 y4 w4 HL (pv 4)) Ab)))
  (Af (AR (Br j0 v0 u0 AU (Aq Al (Aq Al (Aq Al (pv 4) (CO BP Ac) (λ_ _=>rfl)) Ac (λ_ _=>rfl)) (CO BP Ac) (λ_ _=>rfl)) (Aa (pv 7) Ab))))))
  (Af (Am (AT Bo (by rfl) T.n_tuple Ce (Aa (An Bf (pv 3) (Aj (Aa (AI T.d_l_closed G_l_closed hr (Aa (Ez j0 y4 w4 HL (pv 4)) Ab)) Ab))) Ab)))))))),?_⟩
  z_go
  obtain ⟨zs,hna,hz1,hz2,hz3⟩:=id hN
  refine ⟨by kd_p,λea hea=>Ee (Aw.of ((Ag.upd hea) _ _ hna)) (by kd_p) (by rw [L0];lia) λnm hnm=>?_⟩
  refine ⟨by kd_p,λp hp=>⟨by kd_p,λp1 hp1=>⟨by kd_p,λp2 hp2=>⟨by kd_p,λp3 hp3=>⟨by kd_p,λsa hsa=>?_⟩⟩⟩⟩⟩
  have hn:=LO (z:="errand") (fa:=V.non) (th:=[nm]) (Ag.upd hp) Ad hp1 hp2 (Ag.refl _) hp3 (by lk) (MB (by lk) (by lk) (by lk) (Jq hz3 hnm) (.name (.inl rfl) (Jr hz3 hnm)))
  have hS0:=SA.first hea hn rfl hsa
  generalize upd (upd (upd (upd (upd (upd H ea (.lst [])) p (.tup [nm])) p1 (.lst [])) p2 (.lst [.ref p1])) p3 (.lst [.str "errand",.ref p,.ref p2,.non])) sa (.lst [.ref p3])=G at hS0 |-
  refine ⟨_,rfl,ca,rfl,⟨_,Aw.of (hS0.out _ _ hca)⟩,?_⟩
  refine NJ (K:=K) (a:=ca) (xs:=ns.map V.int) (λi σ H2=>∃ (o1 o2 o3:Option V) (Fs:List Fr),σ=[some (.ref ca),some (.ref na),some (.bl d),some (.ref ea),some (.ref sa),o1,o2,o3]/\0<Fs.length/\SA H H2 sa ea Fs i i)
   ⟨none,none,none,[⟨p3,p,p2,[p1], "errand",V.non,[nm],[[]],0⟩],rfl,Nat.zero_lt_one,hS0⟩ (λi σ H2 _ ⟨_,_,_,_,_,_,h⟩=>Aw.of (h.out _ _ hca)) ?_ ?_
  ·rintro i x q σ H2 hi ⟨o1,o2,o3,Fs,rfl,hne,hS⟩ hq
   obtain ⟨n,rfl,hn'⟩:=Ug hi
   have hi50:i<63:=by
    have:=(d0.mp hn').1
    lia
   refine ⟨q,_,rfl,Cn.of Ad,rfl,?_⟩
   simp only [Gy,Ma]
   x_go
   refine ⟨_,rfl,λr hr0 hr1=>⟨.inl ⟨by kd_p,by kd_p⟩,_,rfl,_,rfl,λr2 hr2 hr3=>?_⟩⟩
   refine ⟨ea,sa,na,r2,d,H,Fs,i,i,rfl,hr2,hN,hne,hS.same (Ag.upd hq),by lia,by lia,λH' Fs' hne' hS'=>?_⟩
   exact ⟨Fs',hne',hS'⟩
  ·rintro σ H2 ⟨o1,o2,o3,Fs,rfl,hne,hS⟩
   rw [L0] at hS
   have hS2:=hS.mono hns hns
   have hle:=hS2.le
   refine RY (λσ H2=>∃ (o3:Option V) (Fs:List Fr) (c:Nat),σ=[some (.ref ca),some (.ref na),some (.bl d),some (.ref ea),some (.ref sa),o1,o2,o3]/\0<Fs.length/\c+Fs.length<=84/\SA H H2 sa ea Fs c 63) (λ_ H2=>TQ H2 sa) ⟨o3,Fs,63,rfl,hne,by lia,hS2⟩ ?_ ?_
   ·rintro σ H3 ⟨o3,Fs,c,rfl,hne,hcl,hS⟩
    obtain ⟨Gs,F,rfl⟩:=CY hne
    have hlen:(Gs++[F]).length=Gs.length+1:=by rw [B0];rfl
    have hat:=Nx hS.hs
    rw [L0,hlen] at hat
    x_go
    refine ⟨_,AV.mpr (.inl ⟨_,Aw.of hS.hs,rfl⟩),?_⟩
    rw [L0,hlen]
    by_cases hg:0<Gs.length
    ·refine BH (by lia) ⟨.inl ⟨_,Aw.of hS.hs⟩,?_⟩
     refine hS.closeIn hg (by lia) (λp xs H1 h=>.inl ⟨_,h⟩) λH' Gs' hl' hS'=>⟨⟨Gs',by lia,c+1,by lia,hS'⟩,?_⟩
     rw [hat,Nx hS'.hs,L0];lia
    ·refine BI (by lia) ?_
     z_go
     refine ⟨.inl ⟨_,Aw.of hS.hs⟩,?_⟩
     obtain ⟨c',hc',hS',hF',hz⟩:=hS.pop
     have hl0:Gs.length=0:=by lia
     refine hS.doPop ⟨F,_,rfl,hF',by have:=hS.le;rw [B0] at this;simp only [P0,K1] at this;exact ⟨by lia,by rw [hz];lia⟩,by lia,λv H4 hmade s4=>?_⟩
     rcases hmade with ⟨_,hE⟩ | ⟨e,_⟩
     ·rw [hl0] at hE
      have hS4:=hS'.same s4
      obtain ⟨es,he1,he2,he3⟩:=hS4.he
      have hE2:Gz 22 100 H4 v:=by
       exact ⟨hE.1,T0 hE.2.1 (by lia),hE.2.2⟩
      refine ⟨by kd_p,λl1 hl1=>?_⟩
      have s5:=Ag.upd (o:=.lst [v]) hl1
      refine ⟨ea,l1,_,_,rfl,rfl,s5 _ _ he1,Ad,?_,λl2 hl2=>⟨l2,rfl,_,.inl ⟨Aw.of Ad,λl3 hl3=>?_⟩⟩⟩
      ·exact T0 (show es.length+1<=100 by lia) (by kd_p)
      ·have s6:=s5.trans ((Ag.upd (o:=.lst (es++[v])) hl2).trans (Ag.upd (o:=.tup (es++[v])) hl3))
       refine k l3 (es++[v]) _ ((hS4.out.trans s5).trans (Ag.upd hl2) |>.free hl3) Ad (λx hx=>?_) ?_ (by simp) (hS4.out.trans s6)
       ·rcases X0.mp hx with hx | hx
        ·exact (he3 x hx).sameT (AE s6)
        ·rw [M0.mp hx];exact hE2.sameT (AE s6)
       ·rw [B0];simp only [P0,K1];lia
     ·exact absurd (hz.mpr hl0) e
   ·intro σ H Q Q' hQ
    x_go
    rintro ⟨v,e,n,hl,hq⟩
    exact ⟨v,e,n,hl,hQ _ _ hq⟩
theorem Ji:Sc ["_law_row_here", "_law_word"] ["_law_row_here"] (top 46):=DD (by lk)
theorem OI (T:Tx P w K mg):BO P w base T.d_l_words 1 Lm:=by
 exists T.d_l_words.F.ok Ji
 ·obtain ⟨v,n,rfl,_⟩:=h
  rfl
 ·obtain ⟨v,n,rfl,hv,k⟩:=h
  refine ⟨_,(Ae (As (i:=1) Ji.nd rfl (Or.inl rfl) (Aq Bc (pv 0) Ac (λ_ _=>rfl)))
  (Ae (Au (PW.pt (BR (Ah AF (pv 1) Ai (Ak _)) (BM (Ah Gr (Aq Bc (pv 0) Ac (λ_ _=>rfl)) Ac (Ak _)))))
  (Af (Am (Aj (Aa (pv 1) (Aa (Aq Bc (pv 0) Ac (λ_ _=>rfl)) (Aa (Aq Bc (pv 0) Ac (λ_ _=>rfl)) (Aa Ai (Aa (Aq Bc (pv 0) Ac (λ_ _=>rfl)) (Aa Ai (Aa (AT Ga (by rfl) T.n_str Ib (Aa (Aq Bc (pv 0) Ac (λ_ _=>rfl)) Ab)) Ab))))))))))
  Ao)
  (Ae (Au (Ah AF (pv 1) Ai (Ak _))
  (Af (Am (Aj (Aa (pv 1) (Aa (Aq Bc (pv 0) Ac (λ_ _=>rfl)) (Aa (Aq Bc (pv 0) Ac (λ_ _=>rfl)) (Aa Ai (Aa (Aq Bc (pv 0) Ac (λ_ _=>rfl)) Ab))))))))
  Ao)
  (Ae (Au (Ah BK (pv 1) (Aj (Bi (zs:=["keep", "try", "do"]) (by lk))) (by with_unfolding_all rfl))
  (Af (Am (Aj (Aa (pv 1) Ab))))
  Ao)
  (Ae (Au (Ah BK (pv 1) (Aj (Bi (zs:=["errand", "group", "limit", "repeat"]) (by lk))) (by with_unfolding_all rfl))
  (Af (Am (Aj (Aa (pv 1) (Aa (AT Ga (by rfl) T.n_str Ib (Aa (Aq Bc (pv 0) Ac (λ_ _=>rfl)) Ab)) Ab)))))
  Ao)
  (Ae (Au (Ah AF (pv 1) Ai (Ak _))
  (Af (Am (Aj (Aa (pv 1) (Aa (Aq Bc (pv 0) Ac (λ_ _=>rfl)) (Aa (AT Ga (by rfl) T.n_str Ib (Aa (Aq Bc (pv 0) Ac (λ_ _=>rfl)) Ab)) Ab))))))
  Ao)
  (Af (Am (An Bf (Aj (Aa (pv 1) Ab)) (Qb (N':=["_law_thing"]) (sel:=[none]) rfl rfl rfl (OD (AC Lw (pv 0) (AN Ac) AS)) (Dz rfl) (λ_ _ _ _ _=>⟨(AK (i:=0) (show (["_law_thing"]:List Str).Nodup by lk) rfl (Or.inl rfl)),EZ,(AT Ga (by rfl) T.n_str Ib (Aa (pv 0) Ab))⟩))))))))))),?_⟩
  walk_at "sw"
  obtain ⟨a,z,ln,r,I⟩:=hv.ri
  rw [I.words] at k
  have sR:=Ag.refl H
  have fin:∀ {G:Hp} {m:Nat} {xs:List V},Ag H G->m<=sizeLine->xs=(BZ z r).map V.str->m<=sizeLine/\∀ p:Addr,G p=none->Q (.ref p) (upd G p (.lst xs)):=λs hm e=>⟨hm,λp hp=>k p _ (s.free hp) (by rw [Ad,e]) (s.trans (Ag.upd hp))⟩
  refine I.ix 0 (.str z) rfl sR ⟨rfl,?_⟩
  by_cases hb:z="begin"
  ·refine BH (by rw [hb]) ?_
   rcases I.sh with P | ⟨th,fa,bs,B⟩
   ·obtain ⟨x,y,w,l,rfl,hl0⟩:=P.b.1 hb
    have il:TV (.int l):=P.tv (.int l) (by simp)
    have ew:BZ z [.str x,.str y,.str w,.int l]=[("begin":Str),x,y, "in",w]++(if l=0 then [] else [("within":Str),FP (.int l)]):=by
     unfold BZ
     rw [if_pos hb]
    refine I.ix 5 (.int l) rfl sR ⟨l,rfl,?_⟩
    by_cases e:0<l
    ·refine BH e (I.ix 2 (.str x) rfl sR (I.ix 3 (.str y) rfl sR (I.ix 4 (.str w) rfl sR (I.ix 5 (.int l) rfl sR (.inl ⟨l,rfl,?_,fin sR (by kd_p) ?_⟩)))))
     ·rcases il with ⟨_,e,h0,h1⟩ | ⟨_,e,_⟩
      ·cases e;exact LR h0 h1
      ·cases e
     ·rw [ew,if_neg (by lia),hb];rfl
    ·refine BI e ⟨rfl,BH (by rw [hb]) (I.ix 2 (.str x) rfl sR (I.ix 3 (.str y) rfl sR (I.ix 4 (.str w) rfl sR (fin sR (by kd_p) ?_))))⟩
     rw [ew,if_pos (by lia),hb];rfl
   ·exact absurd B.w (by rw [hb];lk)
  refine BI (λe=>hb (V.str.inj e)) ⟨rfl,BI (λe=>hb (V.str.inj e)) ⟨by kd_p,λp hp=>inL ["keep", "try", "do"] ⟨_,rfl,?_⟩⟩⟩
  have s1:=Ag.upd (o:=.lst ([V.str "keep",V.str "try",V.str "do"])) hp
  by_cases h1:z∈(["keep", "try", "do"]:List Str)
  ·refine BH h1 (fin s1 (by kd_p) ?_)
   rcases I.sh with P | ⟨th,fa,bs,B⟩
   ·exfalso
    have:=P.p
    simp only [K0,A1,or_false] at h1
    rcases h1 with rfl | rfl | rfl<;>exact absurd this (by lk)
   ·by_cases ht:z="try"
    ·unfold BZ
     rw [if_neg hb,if_pos ht,ht]
     rfl
    ·rw [DW B ht,P3.mp (B.tl.trans _)]
     ·rfl
     ·simp only [K0,A1,or_false] at h1
      rcases h1 with rfl | rfl | rfl<;>lk
  refine BI h1 ⟨by kd_p,λp2 hp2=>inL ["errand", "group", "limit", "repeat"] ⟨_,rfl,?_⟩⟩
  have s2:=s1.trans (Ag.upd (o:=.lst ([V.str "errand",V.str "group",V.str "limit",V.str "repeat"])) hp2)
  by_cases h2:z∈(["errand", "group", "limit", "repeat"]:List Str)
  ·refine BH h2 ?_
   have h2':=h2
   simp only [K0,A1,or_false] at h2'
   rcases I.sh with P | ⟨th,fa,bs,B⟩
   ·exfalso
    have:=P.p
    rcases h2' with rfl | rfl | rfl | rfl<;>exact absurd this (by lk)
   ·have ht:z≠"try":=by rcases h2' with rfl | rfl | rfl | rfl<;>lk
    obtain ⟨x,rfl⟩:=Jz (B.tl.trans (show Dr z=1 by rcases h2' with rfl | rfl | rfl | rfl<;>lk))
    refine I.ix 2 x (by rw [B.e];rfl) s2 ?_
    rcases B.tv x (by simp) with ⟨i,rfl,h0,h1⟩ | ⟨y,rfl,_⟩
    ·exact .inl ⟨i,rfl,LR h0 h1,fin s2 (by kd_p) (by rw [DW B ht];rfl)⟩
    ·exact .inr ⟨y,rfl,fin s2 (by kd_p) (by rw [DW B ht];rfl)⟩
  refine BI h2 ⟨rfl,?_⟩
  by_cases hw:z="when"
  ·refine BH (by rw [hw]) ?_
   rcases I.sh with P | ⟨th,fa,bs,B⟩
   ·exact absurd P.p (by rw [hw];lk)
   ·have ht:z≠"try":=by rw [hw];lk
    obtain ⟨x,y,rfl⟩:=Jy (B.tl.trans (show Dr z=2 by rw [hw];lk))
    obtain ⟨x',rfl,_⟩:=B.sv hw x rfl
    refine I.ix 2 (.str x') (by rw [B.e];rfl) s2 (I.ix 3 y (by rw [B.e];rfl) s2 ?_)
    rcases B.tv y (by simp) with ⟨i,rfl,h0,h1⟩ | ⟨y,rfl,_⟩
    ·exact .inl ⟨i,rfl,LR h0 h1,fin s2 (by kd_p) (by rw [DW B ht];rfl)⟩
    ·exact .inr ⟨y,rfl,fin s2 (by kd_p) (by rw [DW B ht];rfl)⟩
  refine BI (λe=>hw (V.str.inj e)) ⟨by kd_p,λp3 hp3=>?_⟩
  have s3:=s2.trans (Ag.upd (o:=.lst [V.str z]) hp3)
  have hP:NX z r:=by
   rcases I.sh with P | ⟨th,fa,bs,B⟩
   ·exact P
   ·exfalso
    rcases B.w with rfl | rfl | rfl | rfl | rfl | rfl | rfl | rfl
    ·exact h2 (by lk)
    ·exact h2 (by lk)
    ·exact h2 (by lk)
    ·exact h1 (by lk)
    ·exact h1 (by lk)
    ·exact h1 (by lk)
    ·exact hw rfl
    ·exact h2 (by lk)
  obtain rfl:=I.e
  refine slFrom2 (s3 _ _ I.h) λq G1 hq s4 h1=>⟨q,rfl,⟨_,Cn.of h1⟩,lc_tup (K:=K) (a:=q) (xs:=r) (λi ys G=>G=G1/\ys=(r.take i).map λv=>V.str (FP v)) ⟨rfl,rfl⟩ ?_ ?_ ?_ ?_⟩
  ·rintro i ys G hi ⟨rfl,rfl⟩
   exact ⟨Cn.of h1,by rw [L0,j1];lia⟩
  ·exact T0 I.len (by kd_p)
  ·rintro i x ys G hi ⟨rfl,rfl⟩
   walk_at "sw"
   have e:((r.take i).map λv=>V.str (FP v))++[V.str (FP x)]=(r.take (i+1)).map λv=>V.str (FP v):=Hv hi
   rcases hP.tv x (E1 hi) with ⟨m,rfl,h0,h1⟩ | ⟨y,rfl,_⟩
   ·exact .inl ⟨m,rfl,LR h0 h1,e⟩
   ·exact .inr ⟨y,rfl,e⟩
  ·rintro ys G ⟨rfl,rfl⟩ D hD
   rw [T2]
   have s5:=Ag.upd (o:=.lst (r.map λv=>V.str (FP v))) hD
   refine ⟨p3,D,_,_,rfl,rfl,(s4.trans s5) _ _ Ad,Ad,?_,λl hl=>k l _ (((s3.trans s4).trans s5).free hl) ?_ (((s3.trans s4).trans s5).trans (Ag.upd hl))⟩
   ·have:=I.len
    rw [L0]
    exact T0 (show 1+_<=7 by lia) (by kd_p)
   ·rw [Ad,Kg hP hb,F1,j5]
    rfl
theorem Ly:Sc ["_law_row_here"] ["_law_row_here"] (top 48):=DD (by lk)
theorem LK (T:Tx P w K mg):BO P w base T.d_l_turning 1 FR:=by
 exists T.d_l_turning.F.ok Ly
 ·obtain ⟨v,n,t,rfl,_⟩:=h
  rfl
 ·obtain ⟨v,n,t,rfl,hv,h2,ht,k⟩:=h
  refine ⟨_,(Ae (Au (Ah AF (Aq Bc (pv 0) Ac (λ_ _=>rfl)) Ai (Ak _))
  (Af (Am (Aj (Aa Ai (Aa (Aq Bc (pv 0) Ac (λ_ _=>rfl)) Ab)))))
  Ao)
  (Af (Am (Aq Al (Aj (Aa (Aj (Aa Ai Ab)) (Aa (Aj (Aa Ai Ab)) Ab))) (AT Gb (by rfl) T.n_int EC (Aa (Bv AF (Aq Bc (pv 0) Ac (λ_ _=>rfl)) Ai (Ak _)) Ab)) (λ_ _=>rfl))))),?_⟩
  z_go
  obtain ⟨a,z,ln,r,I⟩:=hv.ri
  have sR:=Ag.refl H
  rw [I.zr] at h2
  have eT:CN H v=(if z="try" then [[("but":Str),FP (r.getD 1 .non)]] else if z="do" then [["last"]] else if CW H (r.getD 2 .non)=[] then [] else [["late"]]):=by
   unfold CN
   rw [I.zr]
  rw [eT] at ht
  obtain ⟨th,fa,bs,B⟩:∃ th fa bs,Hs z r th fa bs:=by
   rcases I.sh with P | B
   ·exfalso
    have:=P.p
    rcases h2 with rfl | rfl | rfl<;>exact absurd this (by lk)
   ·exact B
  refine I.ix 0 (.str z) rfl sR ⟨rfl,?_⟩
  by_cases hy:z="try"
  ·refine BH (by rw [hy]) ?_
   obtain ⟨b0,b1,rfl⟩:=Jy (B.two h2)
   obtain rfl:=P3.mp (B.tl.trans (by rw [hy];lk))
   obtain ⟨y,hy',hyl⟩:=B.fv.1 hy
   have hr:=B.e
   rw [if_pos hy,hy'] at hr
   rw [if_pos hy,hr] at ht
   refine I.ix 3 (.str y) (by rw [hr];rfl) sR ⟨by kd_p,λp hp=>k p _ hp ?_ (Ag.upd hp)⟩
   rw [Ad,<- (T5.inj ht).1]
   rfl
  rw [if_neg hy] at ht
  refine BI (λe=>hy (V.str.inj e)) ⟨by kd_p,λp hp=>⟨by kd_p,λp1 hp1=>⟨by kd_p,λp2 hp2=>?_⟩⟩⟩
  have s1:=Ag.upd (o:=.lst [V.str "last"]) hp
  have s2:=Ag.upd (o:=.lst [V.str "late"]) hp1
  have s3:=Ag.upd (o:=.lst [V.ref p,V.ref p1]) hp2
  refine I.ix 0 (.str z) rfl ((s1.trans s2).trans s3) ⟨rfl,.inr ?_⟩
  by_cases hl:z="limit"
  ·rw [if_pos (decide_eq_true (by rw [hl]))]
   have hd:z≠"do":=by rw [hl];lk
   rw [if_neg hd] at ht
   refine ⟨p2,_,_,.ref p1,rfl,rfl,Aw.of Ad,Av (j:=1) rfl,k p1 _ (s1.free hp1) ?_ ((s1.trans s2).trans s3)⟩
   rw [s3 _ _ Ad]
   by_cases e:CW H (r.getD 2 .non)=[]
   ·rw [if_pos e] at ht;cases ht
   ·rw [if_neg e] at ht
    rw [<- (T5.inj ht).1]
    rfl
  ·rw [if_neg (by rw [decide_eq_false (λe=>hl (V.str.inj e))];exact Q0)]
   have hd:z="do":=by
    rcases h2 with h | h | h
    ·exact absurd h hy
    ·exact h
    ·exact absurd h hl
   rw [if_pos hd] at ht
   refine ⟨p2,_,_,.ref p,rfl,rfl,Aw.of Ad,Av (j:=0) rfl,k p _ hp ?_ ((s1.trans s2).trans s3)⟩
   rw [(s2.trans s3) _ _ Ad,<- (T5.inj ht).1]
   rfl
theorem Dw:Sc ["_law_rows", "_law_deep", "_law_lines_here", "_law_row_here", "_law_pieces", "_law_k"] ["_law_rows", "_law_deep"] (top 49):=DD (by lk)
theorem Jw (T:Tx P w K mg) (n:Nat) (G_l_words:BO P w base T.d_l_words 1 Lm) (G_l_parts:BO P w base T.d_l_parts 1 Jf) (G_l_turning:BO P w base T.d_l_turning 1 FR) (G_l_lines:BO P w base T.d_l_lines (n+2) (SB n)):BO P w base T.d_l_lines (n+3) (IH n):=by
 refine T.d_l_lines.F.ok (k:=n+2) Dw (λvs H Q E h=>?_) (λcdv A outer s H vs Q E hr h=>?_)
 ·obtain ⟨v,d,rfl,_⟩:=h
  rfl
 ·obtain ⟨v,d,rfl,hv,hll,k⟩:=h
  have hu:=Do hr
  refine ⟨_,(Ae (As (i:=2) Dw.nd rfl (Or.inl rfl) (Aj Ab))
  (Ae (Ey PassesOwn.never rfl (OD (pv 0)) (AK (i:=3) Dw.nd rfl (Or.inl rfl))
  (Ae (AR (Br j0 v0 u0 AU (pv 2) (Aa (Bh (Aa (pv 1) (Aa (AI T.d_l_words G_l_words hr (Aa (pv 3) Ab)) Ab))) Ab)))
  (Ae (As (i:=4) Dw.nd rfl (Or.inl rfl) (AI T.d_l_parts G_l_parts hr (Aa (pv 3) Ab)))
  (Ae (Ey PassesOwn.never rfl (HF rfl T.n_range (Aa (At Az (by rfl) T.n_len AZ (Aa (pv 4) Ab)) Ab)) (AK (i:=5) Dw.nd rfl (Or.inl rfl))
  (AB (Au (PW.pt (BR (Ah Gr (pv 5) Ac (Ak _)) (BM (PW.pt (Eb (Ah Fm (Aq Bc (pv 3) Ac (λ_ _=>rfl)) Ai (Ak _)) (Dd (Ah (op_neT hu) (Aq Al (pv 4) Ac (λ_ _=>rfl)) (Bh Ab) (Ak _))))))))
  (Af (AR (Br j0 v0 u0 AU (pv 2) (Aa (Bh (Aa (pv 1) (Aa (AI T.d_l_turning G_l_turning hr (Aa (pv 3) Ab)) Ab))) Ab))))
  Ao)
  (Af (As (i:=2) Dw.nd rfl (Or.inl rfl) (An Bf (pv 2) (AI T.d_l_lines G_l_lines hr (Aa (Aq Al (pv 4) (pv 5) (λ_ _=>rfl)) (Aa (An Bz (pv 1) Ac) Ab))))))))
  (Af (Au (Ah (Fe hu) (pv 4) (Aj Ab) (Ak _))
  (Af (AR (Br j0 v0 u0 AU (pv 2) (Aa (Bh (Aa (pv 1) (Aa (Aj (Aa Ai Ab)) Ab))) Ab))))
  Ao))))))
  (Af (Am (pv 2))))),?_⟩
  z_go
  refine ⟨by kd_p,λl0 hl0=>?_⟩
  obtain ⟨b,E,rfl,hb,hE⟩:=id hv
  have eL:BF (n+1) H (.ref b) d=E.flatMap λy=>DN (BF n H) H y d:=by
   show (CW H _).flatMap _=_
   rw [Cd hb]
  rw [eL] at hll k
  have hz:sizeLine=16777216:=by kd_p
  have s0:=Ag.upd (o:=.lst []) hl0
  refine ⟨_,rfl,b,rfl,⟨_,Cn.of (s0 _ _ hb)⟩,Qm (K:=K) (a:=b) (xs:=E) (λi σ G=>∃ (lp:Addr) (o3 o4 o5:Option V) (ps:List Addr),σ=[some (.ref b),some (.int d),some (.ref lp),o3,o4,o5]/\H lp=none/\G lp=some (.lst (ps.map V.ref))/\Cq G ps ((E.take i).flatMap λy=>DN (BF n H) H y d)/\Ag H G)
   ⟨l0,none,none,none,[],rfl,hl0,Ad,⟨rfl,λi q x h=>nomatch h⟩,s0⟩ (λi σ G _ ⟨_,_,_,_,_,_,_,_,_,sg⟩=>Cn.of (sg _ _ hb)) ?_ ?_⟩
  ·rintro i y σ G hi ⟨lp,o3,o4,o5,ps,rfl,hlp,hG,hA,sG⟩
   z_go
   have hy:=hE y (E1 hi)
   cases n with
   |zero=>exact hy.elim
   |succ m =>
    have eS:=Me (f:=λy=>DN (BF (m+1) H) H y d) hi
    have hle:=Ph (f:=λy=>DN (BF (m+1) H) H y d) E (i+1)
    rw [eS,B0] at hle
    rw [eS]
    have hyG:=hy.same sG
    obtain ⟨a,z,ln,r,I⟩:=hy.ri
    obtain ⟨f,hf⟩:∃ f:V->List Ln,f=λp=>BF (m+1) H p (d+1):=⟨_,rfl⟩
    obtain ⟨tn,htn⟩:∃ tn:List Ln,tn=(CN H y).map λws=>(d,ws):=⟨_,rfl⟩
    obtain ⟨base0,hbase⟩:∃ base0,base0=(E.take i).flatMap λy=>DN (BF (m+1) H) H y d:=⟨_,rfl⟩
    have eRow:DN (BF (m+1) H) H y d=(d,BG H y)::DV f tn [(d,["end"])] false (Cw H y):=by
     rw [hy.parts_eq,Eu,htn,hf]
     rfl
    rw [<- hbase] at hA hle |-
    rw [eRow] at hle |-
    rw [P0] at hle
    obtain ⟨parts,hparts⟩:∃ parts,parts=Cw H y:=⟨_,rfl⟩
    rw [<- hparts] at hle |-
    have hpr:∀ p∈parts,∃ b,p=.ref b/\BX m H (.ref b):=λp hp=>by
     rw [hparts] at hp
     obtain ⟨b,_,e,_⟩:=id (hy.parts_ok p hp)
     rw [e]
     exact ⟨b,rfl,by rw [<- e];exact hy.parts_ok p hp⟩
    have hpl2:parts.length<=2/\(parts.length=2->BL z):=by
     rw [hparts,hy.parts_eq,I.zr]
     rcases I.sh with P | ⟨th,fa,bs,B⟩
     ·rw [V3.mpr λx hx=>by rw [(P.tv x hx).notR];exact Q0]
      exact ⟨by kd_p,λh=>by cases h⟩
     ·show (r.filter Gn).length<=2/\((r.filter Gn).length=2->BL z)
      rw [FV B,L0]
      by_cases h2:BL z
      ·exact ⟨M7 (B.two h2),λ_=>h2⟩
      ·have:=B.one h2
       exact ⟨by lia,λh=>by lia⟩
    refine ⟨.inl ⟨_,Aw.of hG⟩,y,m,rfl,hyG,λwl G1 hwl h1 s1=>⟨by kd_p,λp hp=>?_⟩⟩
    have ew:BG G y=BG H y:=by
     unfold BG
     rw [hy.z_same (AE sG)]
    rw [ew] at h1
    refine Va (d:=d) hlp (s1 _ _ hG) (hA.same s1) (sG.trans s1) hy.words_ne h1 hp (by lia) λG2 hG2 hA2 s2 _=>?_
    refine ⟨y,m+1,rfl,hy.same s2,λpa G3 hpa h3 s3=>?_⟩
    rw [hy.parts_same s2,<- hparts] at h3
    have nlp:lp≠pa:=AY hG2 hpa
    refine ⟨_,rfl,_,rfl,parts.length,AV.mpr (.inl ⟨_,Aw.of h3,rfl⟩),_,rfl,by lia,by lia,HX (lo:=0) (n:=((parts.length:Nat):Int).toNat) (λj σ G=>∃ (lp:Addr) (o5:Option V) (ps:List Addr) (Ls:List Ln),σ=[some (.ref b),some (.int d),some (.ref lp),some y,some (.ref pa),o5]/\H lp=none/\lp≠pa/\G lp=some (.lst (ps.map V.ref))/\Cq G ps (base0++Ls)/\Ls++DV f tn [(d,["end"])] (decide (0<j)) (parts.drop j)=(d,BG H y)::DV f tn [(d,["end"])] false parts/\G pa=some (.lst parts)/\Ag H G)
     ⟨lp,o5,ps++[p],[(d,BG H y)],rfl,hlp,nlp,s3 _ _ hG2,hA2.same s3,rfl,h3,s2.trans s3⟩ ?_ ?_⟩
    ·rintro j σ G4 hj ⟨lp4,o54,ps4,Ls,rfl,hlp4,n4,hG4,hA4,eLs,h4,s4⟩
     rw [N3] at hj
     obtain ⟨x,hx⟩:∃ x,parts[j]?=some x:=⟨_,x0 hj⟩
     obtain ⟨xb,rfl,hrows⟩:=hpr x (E1 hx)
     have hdr:parts.drop j=.ref xb::parts.drop (j+1):=by
      have:=d0.mp hx
      rw [<- this.2]
      exact x5 hj
     rw [hdr,Ed] at eLs
     have hsum:Ls.length+((if decide (0<j) then tn else []).length+((f (.ref xb)).length+(DV f tn [(d,["end"])] true (parts.drop (j+1))).length))=(DV f tn [(d,["end"])] false parts).length+1:=by
      have:=congrArg E8 eLs
      rw [B0,B0,B0,P0] at this
      exact this
     z_go
     refine ⟨λσ' G'=>∃ (lp:Addr) (ps:List Addr),σ'=[some (.ref b),some (.int d),some (.ref lp),some y,some (.ref pa),some (.int (0+j))]/\H lp=none/\lp≠pa/\G' lp=some (.lst (ps.map V.ref))/\Cq G' ps (base0++(Ls++(if decide (0<j) then tn else [])))/\G' pa=some (.lst parts)/\Ag H G',?_,?_⟩
     ·z_go
      by_cases hj0:j=0
      ·subst hj0
       refine BI (by lia) ⟨hlp4,n4,ps4,hG4,?_,h4,s4⟩
       rw [if_neg (by kd_p),L1]
       exact hA4
      have hj1:j=1:=by lia
      subst hj1
      have h2:=hpl2.2 (by lia)
      rw [show (if decide (0<1)=true then tn else [])=tn from rfl] at hsum |-
      have h2':BL (El H y).1:=by rw [I.zr];exact h2
      have lsl:(base0++Ls).length<=20000:=by rw [B0];lia
      obtain ⟨th,fa,bs,B⟩:∃ th fa bs,Hs z r th fa bs:=by
       rcases I.sh with P | B
       ·exfalso
        have:=P.p
        rcases h2 with rfl | rfl | rfl<;>exact absurd this (by lk)
       ·exact B
      have eT:CN H y=(if z="try" then [[("but":Str),FP (r.getD 1 .non)]] else if z="do" then [["last"]] else if CW H (r.getD 2 .non)=[] then [] else [["late"]]):=by
       unfold CN
       rw [I.zr]
      have fin:∀ {G':Hp} {t:List Str},Ag G4 G'->CN H y=[t]->t≠[]->∀ (H3:Hp) (p:Addr),H3 lp4=some (.lst ((ps4++[p]).map V.ref))->Cq H3 (ps4++[p]) (base0++Ls++[(d,t)])->Ag H H3->Mp lp4 G' H3->H lp4=none/\lp4≠pa/\∃ x,H3 lp4=some (.lst (Q9 V.ref x))/\Cq H3 x (base0++(Ls++tn))/\H3 pa=some (.lst parts)/\Ag H H3:=λ{G' t} s' hT _ H3 p e1 e2 e3 e4=>by
       refine ⟨hlp4,n4,ps4++[p],e1,?_,e4 _ _ (Ne.symm n4) (s' _ _ h4),e3⟩
       rw [htn,hT,<- P4]
       exact e2
      refine BH (by lia) (I.ix 0 (.str z) rfl s4 ⟨rfl,?_⟩)
      by_cases hl:z="limit"
      ·refine Eg (by rw [hl]) ⟨pa,_,_,.ref xb,rfl,rfl,Aw.of h4,Av (j:=1) hx,?_⟩
       obtain ⟨_,ys,e,hb1,_⟩:=id hrows
       cases e
       have hd1:z≠"try":=by rw [hl];lk
       have hd2:z≠"do":=by rw [hl];lk
       have hxr:r.getD 2 .non=.ref xb:=by
        obtain ⟨c0,c1,rfl⟩:=Jy (B.two h2)
        obtain ⟨y0,rfl⟩:=Jz (B.tl.trans (show Dr z=1 by rw [hl];lk))
        have ep:parts=[.ref c0,.ref c1]:=by rw [hparts,hy.parts_eq,I.zr];exact FV B
        rw [ep] at hx
        cases hx
        rw [B.e,if_neg hd1]
        rfl
       rw [if_neg hd1,if_neg hd2,hxr,Cd hb1] at eT
       refine neNilT (s4 _ _ hb1) λG5 s5=>⟨_,rfl,?_⟩
       by_cases e:ys=[]
       ·rw [if_pos e] at eT
        refine Eg e ⟨hlp4,n4,ps4,s5 _ _ hG4,?_,s5 _ _ h4,s4.trans s5⟩
        rw [htn,eT,F4,L1]
        exact hA4.same s5
       ·rw [if_neg e] at eT
        exact Ef e ⟨.inl ⟨_,Aw.of (s5 _ _ hG4)⟩,Qx hlp4 (s5 _ _ hG4) (hA4.same s5) (s4.trans s5) hy h2' eT (by simp) lsl (fin s5 eT (by simp))⟩
      ·obtain ⟨t,hT,ht⟩:∃ t,CN H y=[t]/\t≠[]:=by
        rw [eT]
        by_cases h1:z="try"
        ·rw [if_pos h1];exact ⟨_,rfl,by simp⟩
        ·rw [if_neg h1]
         have h3:z="do":=by
          rcases h2 with h | h | h
          ·exact absurd h h1
          ·exact h
          ·exact absurd h hl
         rw [if_pos h3];exact ⟨_,rfl,by simp⟩
       exact Ef (λe=>hl (V.str.inj e)) ⟨.inl ⟨_,Aw.of hG4⟩,Qx hlp4 hG4 hA4 s4 hy h2' hT ht lsl (fin (Ag.refl _) hT ht)⟩
     ·rintro σ' G5 ⟨lp5,ps5,rfl,hlp5,n5,hG5,hA5,h5,s5⟩
      z_go
      have ef:BF (m+1) G5 (.ref xb) (d+1)=f (.ref xb):=by rw [Nv (AE s5) hrows,hf]
      refine ⟨pa,_,_,.ref xb,rfl,rfl,Aw.of h5,by rw [show (0:Int)+(j:Int)=((j:Nat):Int) by lia];exact Av hx,.ref xb,d+1,rfl,hrows.same s5,by rw [ef];lia,λl6 ps6 G6 hl6 h6 hA6 s6=>?_⟩
      rw [ef] at hA6
      have l5:=hA5.1
      have l6':=hA6.1
      rw [B0,B0] at l5
      refine ⟨lp5,l6,_,_,rfl,rfl,s6 _ _ hG5,h6,by rw [L0,L0];lia,λl hl=>?_⟩
      have s7:=Ag.upd (o:=.lst (ps5.map V.ref++ps6.map V.ref)) hl
      refine ⟨l,rfl,(s5.trans s6).free hl,(AY (s6 _ _ h5) hl).symm,ps5++ps6,by rw [Ad,o0],(Ls++(if decide (0<j) then tn else []))++f (.ref xb),?_,?_,(s6.trans s7) _ _ h5,(s5.trans s6).trans s7⟩
      ·rw [<- P4 base0]
       exact ((hA5.same s6).app hA6).same s7
      ·rw [<- eLs,show decide (0<j+1)=true from decide_eq_true (by lia)]
       simp only [P4]
    ·rintro σ G4 ⟨lp4,o54,ps4,Ls,rfl,hlp4,n4,hG4,hA4,eLs,h4,s4⟩
     rw [N3,S6] at eLs
     z_go
     refine OS h4 λG5 s5=>⟨_,rfl,?_⟩
     by_cases e:parts=[]
     ·refine Eg e ⟨hlp4,ps4,s5 _ _ hG4,?_,s4.trans s5⟩
      rw [<- eLs,show decide (0<parts.length)=false by rw [e];rfl]
      show Cq G5 ps4 (base0++(Ls++[]))
      rw [L1]
      exact hA4.same s5
     ·have hpos:decide (0<parts.length)=true:=decide_eq_true (T4.mpr e)
      rw [hpos] at eLs
      have hsum:Ls.length+1=(DV f tn [(d,["end"])] false parts).length+1:=by
       have:=congrArg E8 eLs
       rw [B0,P0] at this
       exact this
      refine Ef e ⟨.inl ⟨_,Aw.of (s5 _ _ hG4)⟩,by kd_p,λp1 hp1=>⟨by kd_p,λp2 hp2=>?_⟩⟩
      have s6:=Ag.upd (o:=.lst [V.str "end"]) hp1
      refine Va (d:=d) (t:=["end"]) hlp4 ((s5.trans s6) _ _ hG4) (hA4.same (s5.trans s6)) ((s4.trans s5).trans s6) (by simp) Ad hp2 (by rw [B0];lia) λH3 e1 e2 e3 _=>⟨hlp4,_,e1,?_,e3⟩
      rw [<- eLs,<- P4]
      exact e2
  ·rintro σ G ⟨lp,o3,o4,o5,ps,rfl,hlp,hG,hA,sG⟩
   rw [T2] at hA
   z_go
   exact k lp ps G hlp hG hA sG
theorem Jn (T:Tx P w K mg) (G_l_words:BO P w base T.d_l_words 1 Lm) (G_l_parts:BO P w base T.d_l_parts 1 Jf) (G_l_turning:BO P w base T.d_l_turning 1 FR):∀ n:Nat,BO P w base T.d_l_lines (n+3) (IH n)
 |0=>Jw T 0 G_l_words G_l_parts G_l_turning fn_no
 |n+1=>Jw T (n+1) G_l_words G_l_parts G_l_turning (Jn T G_l_words G_l_parts G_l_turning n)
theorem JV:Sc ["text"] ["text"] (top 14):=DD (by lk)
theorem Ka (T:Tx P w K mg):BO P w base T.d_is_letters 1 Hz:=by
 exists T.d_is_letters.F.ok JV
 ·obtain ⟨z,rfl,_⟩:=h
  rfl
 ·obtain ⟨z,rfl,hz,k⟩:=h
  have hz2:z.length<=sizeLine:=T0 hz (by kd_p)
  refine ⟨_,(Ae (Au (DK (FB FD FD Ac (At Az (by rfl) T.n_len AZ (Aa (pv 0) Ab)) (Ck (v:=.int 8) rfl T.mlm ⟨_,rfl⟩)))
  (Af (Am FC))
  Ao)
  (Af (Am (At (NW rfl) (by rfl) T.n_all UT (Aa (Qb (N':=["sign"]) (sel:=[none]) rfl rfl rfl (OE (pv 0)) (Dz rfl) (λ_ _ _ _ _=>⟨(AK (i:=0) (show (["sign"]:List Str).Nodup by lk) rfl (Or.inl rfl)),EZ,(Jm FW FW Ai (pv 0) Ai)⟩)) Ab))))),?_⟩
  x_go
  refine ⟨hz2,?_⟩
  have hF:DQ z=false->Q (V.bl false) H:=λe=>by rw [<- e];exact k H (Ag.refl H)
  by_cases h1:1<=z.length
  ·by_cases h2:z.length<=8
   ·refine BH (by lia) (Eg (by lia) ?_)
    refine ⟨_,rfl,z,rfl,?_⟩
    refine OZ (λi ys H'=>H'=H/\ys=(z.cps.toList.take i).map λc=>V.bl (Pc c)) ⟨rfl,rfl⟩ ?_ hz2 ?_ ?_
    ·rintro i ys H' hi ⟨rfl,rfl⟩
     rw [L0,j1]
     lia
    ·rintro i c ys H' hc ⟨rfl,rfl⟩
     x_go
     have e:=RE c
     have e2:=Hv (f:=λc=>V.bl (Pc c)) hc
     split<;>rename_i hb
     ·rw [if_pos hb] at e
      rw [e]
      exact e2
     ·rw [if_neg hb] at e
      rw [e]
      exact e2
    ·rintro ys H' ⟨rfl,rfl⟩ D hD
     refine ⟨D,rfl,z.cps.toList.map Pc,?_,?_⟩
     ·refine Aw.of ?_
      rw [Ad,j5]
      have:z.cps.toList.take z.length=z.cps.toList:=T2
      rw [this]
      rfl
     ·have e:(z.cps.toList.map Pc).all id=DQ z:=by
       unfold DQ
       rw [decide_eq_true h1,decide_eq_true h2,List.all_map]
       rfl
      rw [e]
      exact k _ (Ag.upd hD)
   ·refine BH (by lia) (Ef (by lia) (hF ?_))
    unfold DQ
    rw [decide_eq_false h2,N5,Q2]
  ·refine BI (by lia) (L2.iteT (hF ?_))
   unfold DQ
   rw [decide_eq_false h1,Q2,Q2]
theorem Ov:Sc ["thing"] ["thing"] (top 15):=DD (by lk)
theorem OQ (T:Tx P w K mg)
  (G_is_letters:BO P w base T.d_is_letters 1 Hz):BO P w base T.d_is_name 2 Lr:=by
 exists T.d_is_name.F.ok Ov
 ·obtain ⟨v,rfl,_⟩:=h
  rfl
 ·obtain ⟨v,rfl,th,k⟩:=h
  obtain ⟨u,hu1,hS,hB,hI⟩:=th.ty (K:=K)
  refine ⟨_,(Af (Am (Dm (At Ci (by rfl) T.n_isinstance AH (Aa (pv 0) (Aa (DU (v:=.ty "str") rfl T.n_str Ib rfl) Ab))) (Dm (AI T.d_is_letters G_is_letters hr (Aa (pv 0) Ab)) (De (Bv Fd (pv 0) (Ck (v:=.ref T.kwa) rfl T.kwm rfl) (by with_unfolding_all rfl))))))),?_⟩
  x_go
  refine ⟨u,hu1,_,hS,?_⟩
  cases th with
  |str z hz =>
   refine L2.iteT ⟨z,rfl,hz,λH' s'=>⟨_,rfl,?_⟩⟩
   by_cases hl:DQ z=true
   ·rw [if_pos hl]
    refine ⟨_,_,rfl,.inr (T.kwt H'),rfl,EO FN,?_⟩
    have e:(if true=true then !CA (V.str z) (FN.map V.str) else CA (V.str z) (FN.map V.str))=Kz (.str z):=by
     rw [if_pos rfl,Tz]
     show _=Ay z
     unfold Ay
     rw [hl,K4]
    rw [e]
    exact k H' s'
   ·rw [if_neg hl]
    have e:false=Kz (.str z):=by
     show _=Ay z
     unfold Ay
     rw [show DQ z=false by simpa using hl,Q2]
    rw [e]
    exact k H' s'
  |_=>exact L2.iteF (k H (Ag.refl H))
theorem Iy:Sc ["text"] ["text"] (top 16):=DD (by lk)
theorem IB (T:Tx P w K mg)
  (G_is_letters:BO P w base T.d_is_letters 1 Hz):BO P w base T.d_is_told_word 2 On:=by
 exists T.d_is_told_word.F.ok Iy
 ·obtain ⟨z,rfl,_⟩:=h
  rfl
 ·obtain ⟨z,rfl,hz,k⟩:=h
  have hz2:z.length<=sizeLine:=T0 hz (by kd_p)
  refine ⟨_,(Af (Am (Dm (Br X1 Q8 P8 Gu (pv 0) (Aa Ai Ab)) (De (AI T.d_is_letters G_is_letters hr (Aa (AC EU (pv 0) (AN Ac) AS) Ab)))))),?_⟩
  x_go
  by_cases hl:Txt.startswith z ":"=true
  ·rw [if_pos hl]
   refine ⟨hz2,_,rfl,T0 (cut_le z _ _) hz,λH' s'=>?_⟩
   have e:DQ (CG z (some 1) none)=Cb z:=by unfold Cb;rw [hl,K4]
   rw [e]
   exact k H' s'
  ·rw [if_neg hl]
   have e:false=Cb z:=by unfold Cb;rw [show Txt.startswith z ":"=false by simpa using hl,Q2]
   rw [e]
   exact k H (Ag.refl H)
theorem MR:Sc ["thing"] ["thing"] (top 17):=DD (by lk)
theorem Nl (T:Tx P w K mg)
  (G_is_name:BO P w base T.d_is_name 2 Lr)
  (G_is_told_word:BO P w base T.d_is_told_word 2 On):BO P w base T.d_is_value 4 spVal:=by
 exists T.d_is_value.F.ok MR
 ·obtain ⟨v,rfl,_⟩:=h
  rfl
 ·obtain ⟨v,rfl,th,k⟩:=h
  obtain ⟨u,hu1,hS,hB,hI⟩:=th.ty (K:=K)
  refine ⟨_,(Ae (Au (Cv (At Ci (by rfl) T.n_isinstance AH (Aa (pv 0) (Aa (DU (v:=.ty "bool") rfl T.n_bool Qu rfl) Ab))))
  (Af (Am FC))
  Ao)
  (Ae (Au (Cv (At Ci (by rfl) T.n_isinstance AH (Aa (pv 0) (Aa (DU (v:=.ty "int") rfl T.n_int EC rfl) Ab))))
  (Af (Am (Jm FD FD Ac (pv 0) (Ck (v:=.int 999999) rfl T.mvm ⟨_,rfl⟩))))
  Ao)
  (Af (Am (Qa (AI T.d_is_name G_is_name hr (Aa (pv 0) Ab)) (De (Dm (At Ci (by rfl) T.n_isinstance AH (Aa (pv 0) (Aa (DU (v:=.ty "str") rfl T.n_str Ib rfl) Ab))) (De (AI T.d_is_told_word G_is_told_word hr (Aa (pv 0) Ab)))))))))),?_⟩
  x_go
  refine ⟨u,hu1,_,hB,?_⟩
  have Cf:isB v=false->isI v=false->(isS v=false->HM v=false)->(Kz v=false->isS v=false->HM v=false)->Lr [v] H (λx H1=>∃ c,x=V.bl c/\if c=true then Q (V.bl true) H1 else ∃ x_5,FM K H1 v x_5/\∃ x_6,W1 K x_5 (Value.type "str")=some x_6/\if x_6=true then On [v] H1 Q E0 else Q (V.bl false) H1) E0:=by
   intro _ _ h3 h4
   refine ⟨v,rfl,th,λH' s'=>⟨_,rfl,?_⟩⟩
   obtain ⟨u',hu1',hS',_,_⟩:=(th.same s').ty (K:=K)
   cases th with
   |str z hz =>
    by_cases hn:Kz (.str z)=true
    ·rw [if_pos hn]
     have e:true=HM (.str z):=by
      show _=(Ay z||Cb z)
      rw [show Ay z=true from hn,Bool.true_or]
     rw [e]
     exact k H' s'
    ·rw [if_neg hn]
     refine ⟨u',hu1',_,hS',L2.iteT ⟨z,rfl,hz,λH2 s2=>?_⟩⟩
     have e:Cb z=HM (.str z):=by
      show _=(Ay z||Cb z)
      rw [show Ay z=false by simpa [Kz] using hn,C7]
     rw [e]
     exact k H2 (s'.trans s2)
   |int i=>exact L2.iteF ⟨u',hu1',_,hS',L2.iteF (by have e:=h3 rfl;rw [<- e];exact k H' s')⟩
   |bl b=>exact L2.iteF ⟨u',hu1',_,hS',L2.iteF (k H' s')⟩
   |non=>exact L2.iteF ⟨u',hu1',_,hS',L2.iteF (k H' s')⟩
   |lst _=>exact L2.iteF ⟨u',hu1',_,hS',L2.iteF (k H' s')⟩
   |tup _=>exact L2.iteF ⟨u',hu1',_,hS',L2.iteF (k H' s')⟩
   |dic _=>exact L2.iteF ⟨u',hu1',_,hS',L2.iteF (k H' s')⟩
  cases th with
  |bl b=>exact L2.iteT (k H (Ag.refl H))
  |int i =>
   refine L2.iteF ⟨u,hu1,_,hI,L2.iteT ⟨i,rfl,?_⟩⟩
   by_cases h0:0<=i
   ·refine BH h0 ⟨i,rfl,?_⟩
    have e:decide (i<=999999)=HM (.int i):=by
     show _=(decide (0<=i)&&decide (i<=999999))
     rw [decide_eq_true h0,K4]
    rw [e]
    exact k H (Ag.refl H)
   ·refine BI h0 ?_
    have e:false=HM (.int i):=by
     show _=(decide (0<=i)&&decide (i<=999999))
     rw [decide_eq_false h0,Q2]
    rw [e]
    exact k H (Ag.refl H)
  |str z hz=>exact L2.iteF ⟨u,hu1,_,hI,L2.iteF (Cf rfl rfl (λz=>nomatch z) (λ_ z=>nomatch z))⟩
  |non=>exact L2.iteF ⟨u,hu1,_,hI,L2.iteF (Cf rfl rfl (λ_=>rfl) (λ_ _=>rfl))⟩
  |lst _=>exact L2.iteF ⟨u,hu1,_,hI,L2.iteF (Cf rfl rfl (λ_=>rfl) (λ_ _=>rfl))⟩
  |tup _=>exact L2.iteF ⟨u,hu1,_,hI,L2.iteF (Cf rfl rfl (λ_=>rfl) (λ_ _=>rfl))⟩
  |dic _=>exact L2.iteF ⟨u,hu1,_,hI,L2.iteF (Cf rfl rfl (λ_=>rfl) (λ_ _=>rfl))⟩
theorem HC:Sc ["word"] ["word"] (top 18):=DD (by lk)
theorem HH (T:Tx P w K mg):BO P w base T.d_is_block_word 1 Jg:=by
 exists T.d_is_block_word.F.ok HC
 ·obtain ⟨z,rfl,_⟩:=h
  rfl
 ·obtain ⟨z,rfl,k⟩:=h
  obtain ⟨kvs,hd,hv⟩:=T.ppk
  refine ⟨_,(Af (Am (Tf (LD (pv 0) (Ck (v:=.ref T.pp) rfl T.ppm rfl))))),?_⟩
  x_go
  refine dinK (P:=P) (w:=w) rfl hd ?_
  rw [hv,z6]
  exact k
theorem Lx:Sc ["word"] ["word"] (top 26):=DD (by lk)
theorem LJ (T:Tx P w K mg):BO P w base T.d_number_of 1 Je:=by
 exists T.d_number_of.F.ok Lx
 ·obtain ⟨z,rfl,_⟩:=h
  rfl
 ·obtain ⟨z,rfl,hz,k⟩:=h
  have hz2:z.length<=sizeLine:=T0 hz (by kd_p)
  refine ⟨_,(Ae (Au (PW.pt (Eb (DK (FB FD FD Ac (At Az (by rfl) T.n_len AZ (Aa (pv 0) Ab)) (Ck (v:=.int 6) rfl T.mfm ⟨_,rfl⟩))) (Dd (DK (Cv (At (NW rfl) (by rfl) T.n_all UT (Aa (Qb (N':=["sign"]) (sel:=[none]) rfl rfl rfl (OE (pv 0)) (Dz rfl) (λ_ _ _ _ _=>⟨(AK (i:=0) (show (["sign"]:List Str).Nodup by lk) rfl (Or.inl rfl)),EZ,(Jm FW FW Ai (pv 0) Ai)⟩)) Ab)))))))
  (Af (Am AQ))
  Ao)
  (Ae (Au (PW.pt (BR (Cv (Br X1 Q8 P8 Gu (pv 0) (Aa Ai Ab))) (BM (Ah Fm (pv 0) Ai (Ak _)))))
  (Af (Am AQ))
  Ao)
  (Af (Am (AT Ia (by rfl) T.n_int EC (Aa (pv 0) Ab)))))),?_⟩
  x_go
  refine ⟨hz2,?_⟩
  have hF:Go z=false->∀ H',Ag H H'->Q V.non H':=λe H' s=>by
   have e2:GJ z=none:=by unfold GJ;rw [e];rfl
   have:=k H' s
   rw [e2] at this
   exact this
  by_cases h1:1<=z.length
  ·by_cases h2:z.length<=6
   ·refine BH (by lia) (Eg (by lia) ?_)
    refine ⟨_,rfl,z,rfl,?_⟩
    refine OZ (λi ys H'=>H'=H/\ys=(z.cps.toList.take i).map λc=>V.bl (LW c)) ⟨rfl,rfl⟩ ?_ hz2 ?_ ?_
    ·rintro i ys H' hi ⟨rfl,rfl⟩
     rw [L0,j1]
     lia
    ·rintro i c ys H' hc ⟨rfl,rfl⟩
     x_go
     have e:=RF c
     have e2:=Hv (f:=λc=>V.bl (LW c)) hc
     split<;>rename_i hb
     ·rw [if_pos hb] at e
      rw [e]
      exact e2
     ·rw [if_neg hb] at e
      rw [e]
      exact e2
    ·rintro ys H' ⟨rfl,rfl⟩ D hD
     have s1:=Ag.upd (o:=.lst ((z.cps.toList.take z.length).map λc=>V.bl (LW c))) hD
     refine ⟨D,rfl,z.cps.toList.map LW,?_,?_⟩
     ·refine Aw.of ?_
      rw [Ad,j5]
      have:z.cps.toList.take z.length=z.cps.toList:=T2
      rw [this]
      rfl
     ·have e:(z.cps.toList.map LW).all id=Go z:=by
       unfold Go
       rw [decide_eq_true h1,decide_eq_true h2,List.all_map]
       rfl
      rw [e]
      cases hg:Go z with
      |false=>exact hF hg _ s1
      |true =>
       have hI:=NL hg
       have k1:=k _ s1
       unfold GJ at k1
       rw [if_pos hg] at k1
       rw [if_neg (by kd_p)]
       by_cases h0:Txt.startswith z "0"=true
       ·rw [if_pos h0]
        refine ⟨rfl,?_⟩
        by_cases hzz:z="0"
        ·rw [if_neg (λq=>q.2 hzz)] at k1
         exact Eg hzz ⟨_,hI,T0 h2 (by kd_p),k1⟩
        ·rw [if_pos ⟨h0,hzz⟩] at k1
         exact Ef hzz k1
       ·rw [if_neg (λq=>h0 q.1)] at k1
        rw [if_neg h0,if_neg Q0]
        exact ⟨_,hI,T0 h2 (by kd_p),k1⟩
   ·refine BH (by lia) (Ef (by lia) (hF ?_ H (Ag.refl H)))
    unfold Go
    rw [decide_eq_false h2,N5,Q2]
  ·refine BI (by lia) (L2.iteT (hF ?_ H (Ag.refl H)))
   unfold Go
   rw [decide_eq_false h1,Q2,Q2]
theorem Jj:Sc ["word", "least", "greatest", "number"] ["word", "least", "greatest"] (top 27):=DD (by lk)
theorem OR (T:Tx P w K mg)
  (G_number_of:BO P w base T.d_number_of 1 Je):BO P w base T.d_bounded 2 Kr:=by
 exists T.d_bounded.F.ok Jj
 ·obtain ⟨z,lo,hi,rfl,_⟩:=h
  rfl
 ·obtain ⟨z,lo,hi,rfl,hz,k⟩:=h
  refine ⟨_,(Ae (As (i:=3) Jj.nd rfl (Or.inl rfl) (AI T.d_number_of G_number_of hr (Aa (pv 0) Ab)))
  (Ae (Au (PW.pt (Eb (Ah FE (pv 3) AQ (Ak _)) (Dd (DK (FB FD FD (pv 1) (pv 3) (pv 2))))))
  (Af (Am AQ))
  Ao)
  (Af (Am (pv 3))))),?_⟩
  x_go
  refine ⟨z,rfl,hz,λH1 s1=>?_⟩
  have k1:=k H1 s1
  unfold Fi at k1
  cases e:GJ z with
  |none =>
   rw [e] at k1
   exact BH rfl k1
  |some n =>
   rw [e] at k1
   refine BI (λq=>nomatch q) ⟨n,rfl,?_⟩
   have k2:Q (if lo<=n/\n<=hi then V.int n else V.non) H1:=k1
   by_cases h1:lo<=n
   ·refine BH h1 ⟨n,rfl,?_⟩
    by_cases h2:n<=hi
    ·rw [if_pos ⟨h1,h2⟩] at k2
     exact Eg h2 k2
    ·rw [if_neg (λq=>h2 q.2)] at k2
     exact Ef h2 k2
   ·rw [if_neg (λq=>h1 q.1)] at k2
    exact BI h1 (L2.iteT k2)
theorem Fz:Sc ["word", "number", "value"] ["word"] (top 28):=DD (by lk)
theorem Nc (T:Tx P w K mg)
  (G_number_of:BO P w base T.d_number_of 1 Je)
  (G_is_value:BO P w base T.d_is_value 4 spVal):BO P w base T.d_value_of 6 Kl:=by
 exists T.d_value_of.F.ok Fz
 ·obtain ⟨z,rfl,_⟩:=h
  rfl
 ·obtain ⟨z,rfl,hz,k⟩:=h
  refine ⟨_,(Ae (As (i:=1) Fz.nd rfl (Or.inl rfl) (AI T.d_number_of G_number_of hr (Aa (pv 0) Ab)))
  (Ae (As (i:=2) Fz.nd rfl (Or.inl rfl) (EI (Ah FE (pv 1) AQ (Ak _)) (pv 0) (pv 1)))
  (Af (Am (EI (Cv (AI T.d_is_value G_is_value hr (Aa (pv 2) Ab))) (pv 2) AQ))))),?_⟩
  x_go
  refine ⟨z,rfl,hz,λH1 s1=>?_⟩
  cases e:GJ z with
  |none =>
   refine BH rfl ⟨.str z,rfl,.str z hz,λH2 s2=>⟨_,rfl,?_⟩⟩
   have k1:=k H2 (s1.trans s2)
   unfold CP at k1
   rw [e] at k1
   have k2:Q (if HM (.str z)=true then V.str z else V.non) H2:=k1
   cases hm:HM (.str z) with
   |true=>rw [hm] at k2;exact k2
   |false=>rw [hm] at k2;exact k2
  |some n =>
   refine BI (λq=>nomatch q) ⟨.int n,rfl,.int n,λH2 s2=>⟨_,rfl,?_⟩⟩
   have k1:=k H2 (s1.trans s2)
   unfold CP at k1
   rw [e] at k1
   have k2:Q (if HM (.int n)=true then V.int n else V.non) H2:=k1
   cases hm:HM (.int n) with
   |true=>rw [hm] at k2;exact k2
   |false=>rw [hm] at k2;exact k2
theorem MS:Sc ["slot", "word"] ["slot", "word"] (top 29):=DD (by lk)
theorem Nm (T:Tx P w K mg)
  (G_bounded:BO P w base T.d_bounded 2 Kr)
  (G_value_of:BO P w base T.d_value_of 6 Kl)
  (G_is_name:BO P w base T.d_is_name 2 Lr):BO P w base T.d_field_of 8 Kp:=by
 exists T.d_field_of.F.ok MS
 ·obtain ⟨y,z,rfl,_⟩:=h
  rfl
 ·obtain ⟨y,z,rfl,hy,hz,k⟩:=h
  refine ⟨_,(Ae (Au (OA (LD (pv 0) (Ck (v:=.ref T.gra) rfl T.grm rfl)))
  (Af (Am (AI T.d_bounded G_bounded hr (Aa (pv 1) (Aa Ac (Aa (pe_dixK (Ck (v:=.ref T.gra) rfl T.grm rfl) (pv 0) (λ_ _=>rfl)) Ab))))))
  Ao)
  (Ae (Au (Ah AF (pv 0) Ai (Ak _))
  (Af (Am (AI T.d_value_of G_value_of hr (Aa (pv 1) Ab))))
  Ao)
  (Ae (Au (Ah AF (pv 0) Ai (Ak _))
  (Af (Am (EI (Cv (AI T.d_is_name G_is_name hr (Aa (pv 1) Ab))) (pv 1) AQ)))
  Ao)
  (Af (Am (EI (Ah AF (pv 1) (pv 0) (Ak _)) (pv 1) AQ)))))),?_⟩
  x_go
  refine dinK (P:=P) (w:=w) rfl T.grd ⟨_,rfl,?_⟩
  have hg:=gr_get y
  unfold Bb at k
  rw [z6]
  by_cases h1:y="N"
  ·rw [if_pos h1] at hg
   rw [hg]
   refine L2.iteT (dixK (P:=P) (w:=w) rfl T.grd hg ⟨z,1,99,rfl,hz,λH1 s1=>?_⟩)
   have:=k H1 s1
   rw [if_pos h1] at this
   exact this
  ·rw [if_neg h1] at hg
   by_cases h2:y="ROUNDS"
   ·rw [if_pos h2] at hg
    rw [hg]
    refine L2.iteT (dixK (P:=P) (w:=w) rfl T.grd hg ⟨z,1,9,rfl,hz,λH1 s1=>?_⟩)
    have:=k H1 s1
    rw [if_neg h1,if_pos h2] at this
    exact this
   ·rw [if_neg h2] at hg
    rw [hg]
    refine L2.iteF ⟨rfl,?_⟩
    by_cases h3:y="VALUE"
    ·refine BH h3 ⟨z,rfl,hz,λH1 s1=>?_⟩
     have:=k H1 s1
     rw [if_neg h1,if_neg h2,if_pos h3] at this
     exact this
    ·refine BI h3 ⟨rfl,?_⟩
     by_cases h4:y="NAME"
     ·refine BH h4 ⟨.str z,rfl,.str z hz,λH1 s1=>⟨_,rfl,?_⟩⟩
      have k1:=k H1 s1
      rw [if_neg h1,if_neg h2,if_neg h3,if_pos h4] at k1
      show if Ay z=true then _ else _
      cases hm:Ay z with
      |true=>rw [hm] at k1;exact k1
      |false=>rw [hm] at k1;exact k1
     ·refine BI h4 ⟨rfl,?_⟩
      have k1:=k H (Ag.refl H)
      rw [if_neg h1,if_neg h2,if_neg h3,if_neg h4] at k1
      by_cases h5:z=y
      ·rw [if_pos h5] at k1
       exact BH h5 k1
      ·rw [if_neg h5] at k1
       exact BI h5 k1
theorem Kt:Sc ["slots", "words", "field_at", "fields"] ["slots", "words", "field_at"] (top 30):=DD (by lk)
theorem Rl (T:Tx P w K mg)
  (G_field_of:BO P w base T.d_field_of 8 Kp):BO P w base T.d_fitted 10 (MN T.d_field_of.f):=by
 exists T.d_fitted.F.ok Kt
 ·obtain ⟨a,b,slots,ws,rfl,_⟩:=h
  rfl
 ·obtain ⟨a,b,slots,ws,rfl,ha,hb,ws1,ws2,k0,k1⟩:=h
  have G_own:=G_field_of
  have kp_own:=T.d_field_of.F.kp
  have b_own:=T.d_field_of.b
  refine ⟨_,(Ae (Au (Ah Fm (At Az (by rfl) T.n_len AZ (Aa (pv 0) Ab)) (At Az (by rfl) T.n_len AZ (Aa (pv 1) Ab)) (Ak _))
  (Af (Am AQ))
  Ao)
  (Ae (Ec (i:=3) Kt.nd rfl (Or.inl rfl) (N':=["slot", "word", "field_at"]) (sel:=[none,none,some 2]) rfl rfl rfl (SZ rfl T.n_zip (Aa (pv 0) (Aa (pv 1) Ab))) (gk_two rfl rfl) (λ_ _ _ _ _=>⟨(HG rfl (Bn (AK (i:=0) (show (["slot", "word", "field_at"]:List Str).Nodup by lk) rfl (Or.inl rfl)) (Bn (AK (i:=1) (show (["slot", "word", "field_at"]:List Str).Nodup by lk) rfl (Or.inl rfl)) Es))),EZ,(Tg (pv 2) G_own (hr.mono (by lia)) kp_own b_own .nil DO (Aa (pv 0) (Aa (pv 1) Ab)))⟩) rfl)
  (Af (Am (EI (Ah BK AQ (pv 3) (by with_unfolding_all rfl)) AQ (pv 3)))))),?_⟩
  x_go
  refine ⟨slots.length,AV.mpr (.inl ⟨_,Aw.of ha,by rw [L0]⟩),ws.length,AV.mpr (.inl ⟨_,Aw.of hb,by rw [L0]⟩),rfl,?_⟩
  by_cases hl:slots.length=ws.length
  ·refine Eg (by rw [hl]) ?_
   simp only [Lh,iZip]
   x_go
   refine ⟨⟨_,Aw.of ha⟩,⟨_,Aw.of hb⟩,?_⟩
   refine lc_zip (K:=K) (xs:=slots.map V.str) (ys:=ws.map V.str) (by rw [L0,L0,hl]) (λi zs G=>Ag H G/\zs=(N2 Bb slots ws).take i) ⟨Ag.refl H,rfl⟩ ?_ ?_ ?_ ?_
   ·rintro i zs G hi ⟨s1,rfl⟩
    exact ⟨Aw.of (s1 _ _ ha),Aw.of (s1 _ _ hb),by rw [j1];lia⟩
   ·rw [L0];exact T0 ws1.1 (by kd_p)
   ·rintro i x y p zs G hx hy ⟨s1,rfl⟩ hp
    rw [Z1] at hx hy
    obtain ⟨sl,hsl,rfl⟩:=K2.mp hx
    obtain ⟨wd,hwd,rfl⟩:=K2.mp hy
    simp only [Ur,Gy,Ma,Sv]
    x_go
    have e1:(N2 Bb slots ws)[i]?=some (Bb sl wd):=by rw [O6,hsl,hwd]
    refine ⟨_,Cn.of Ad,rfl,_,_,rfl,_,_,rfl,rfl,sl,wd,rfl,ws1.2 _ (E1 hsl),ws2.2 _ (E1 hwd),λH4 s4=>⟨(s1.trans (Ag.upd hp)).trans s4,?_⟩⟩
    rw [List.take_add_one,e1]
    rfl
   ·rintro zs G ⟨s1,rfl⟩ D hD
    rw [L0]
    have eL:(N2 Bb slots ws).take slots.length=N2 Bb slots ws:=T3 (by rw [Z6];lia)
    rw [eL]
    have s2:Ag H (upd G D (.lst (N2 Bb slots ws))):=s1.trans (Ag.upd hD)
    refine ⟨D,_,rfl,.inl (Aw.of Ad),rfl,zip_V slots ws,_,rfl,?_⟩
    rw [if_neg Q0]
    cases hi:CA V.non (N2 Bb slots ws) with
    |true =>
     refine k0 ?_ _ s2
     unfold CF
     rw [if_pos hl,if_pos hi]
    |false =>
     refine k1 _ ?_ D _ (s1.free hD) Ad s2
     unfold CF
     rw [if_pos hl,if_neg (by rw [hi];exact Q0)]
  ·refine Ef (λq=>hl (Int.ofNat.inj q)) (k0 ?_ H (Ag.refl H))
   unfold CF
   rw [if_neg hl]
theorem EW:Sc ["forms", "words", "field_at", "form", "fields"] ["forms", "words", "field_at"] (top 31):=DD (by lk)
theorem LN (T:Tx P w K mg)
  (G_fitted:BO P w base T.d_fitted 10 (MN T.d_field_of.f)):BO P w base T.d_first_fit 12 (PP T):=by
 exists T.d_first_fit.F.ok EW
 ·obtain ⟨b,ws,rfl,_⟩:=h
  rfl
 ·obtain ⟨b,ws,rfl,hb,hw,k0,k1⟩:=h
  refine ⟨_,(Ae (Ey PassesOwn.never rfl (OD (pv 0)) (AK (i:=3) EW.nd rfl (Or.inl rfl))
  (Ae (As (i:=4) EW.nd rfl (Or.inl rfl) (AI T.d_fitted G_fitted hr (Aa (Br X1 X4 W4 EJ (pv 3) (Aa Ai Ab)) (Aa (pv 1) (Aa (pv 2) Ab)))))
  (Af (Au (Ah LI (pv 4) AQ (Ak _))
  (Af (Am (pv 4)))
  Ao))))
  (Af (Am AQ))),?_⟩
  x_go
  simp only [MD,iTup,GW,r8,Option.some.injEq,exists_eq_left',V.ref.injEq]
  refine ⟨⟨_,T.fmt H⟩,?_⟩
  refine Qm (K:=K) (a:=T.fma) (xs:=FORMS.map V.str) (D:={ nx:=tRet (tC V.non) { nx:=λx H'=>Q V.non H',rt:=Q },rt:=Q }) (λi σ G=>Ag H G/\(∃ x y,σ=[some (V.ref T.fma),some (V.ref b),some (V.ref T.d_field_of.f),x,y])/\Bg (SL.drop i) ws=Bg SL ws) ⟨Ag.refl H,⟨_,_,rfl⟩,rfl⟩ ?_ ?_ ?_
  ·rintro i σ G hi ⟨s1,_,_⟩
   exact T.fmt G
  ·rintro i x σ G hx ⟨s1,⟨x1,y1,rfl⟩,e⟩
   rw [Z1] at hx
   obtain ⟨fm,hfm,rfl⟩:=K2.mp hx
   have hS:SL[i]?=some (Txt.split fm ⟨#[32]⟩):=by rw [<- NI,Z1,hfm];rfl
   have hd:=Pj (ws:=ws) hS
   rw [e] at hd
   x_go
   refine ⟨fm,32,rfl,by rw [sp1],T0 (Us fm (E1 hfm)) (by kd_p),λq hq=>?_⟩
   have sq:=s1.trans (Ag.upd (o:=.lst ((Txt.split fm ⟨#[32]⟩).map V.str)) hq)
   refine ⟨q,b,_,ws,rfl,Ad,sq _ _ hb,sl_ok _ (E1 hS),hw,λe2 H1 sm=>?_,λx e2 l H1 hl0 hl1 sm=>?_⟩
   ·rw [e2] at hd
    exact Eg rfl ⟨sq.trans sm,⟨_,rfl⟩,hd.symm⟩
   ·rw [e2] at hd
    exact Ef (λz=>nomatch z) (k1 x hd l H1 (sq.free hl0) hl1 (sq.trans sm))
  ·rintro σ G ⟨s1,_,e⟩
   rw [L0] at e
   have e2:SL.drop FORMS.length=[]:=rfl
   rw [e2] at e
   x_go
   exact k0 e.symm G s1
theorem Ks:Sc ["fields", "number", "kept"] ["fields", "number"] (top 32):=DD (by lk)
theorem Rf (T:Tx P w K mg):BO P w base T.d_row_of 1 Lp:=by
 exists T.d_row_of.F.ok Ks
 ·obtain ⟨l,fs,n,rfl,_⟩:=h
  rfl
 ·obtain ⟨l,fs,n,rfl,hl,hf,k⟩:=h
  obtain ⟨⟨wd,r,rfl⟩,hlen,hfl⟩:=hf
  refine ⟨_,(Ae (Ec (i:=2) Ks.nd rfl (Or.inl rfl) (N':=["field"]) (sel:=[none]) rfl rfl rfl (Fc (AC Bu (pv 0) (AN Ac) AS)) (Dz rfl) (λ_ _ _ _ _=>⟨(AK (i:=0) (show (["field"]:List Str).Nodup by lk) rfl (Or.inl rfl)),(IK (Ah (JY (K:=K) rfl) (pv 0) (Bh (Aa Ai (Aa Ai Ab))) (by with_unfolding_all rfl))),(pv 0)⟩) rfl)
  (Ae (Au (PW.pt (BR (Ah AF (Aq Al (pv 0) Ac (λ_ _=>rfl)) Ai (Ak _)) (BM (Ah Fd Ai (pv 0) (by with_unfolding_all rfl)))))
  (Af (AR (Br j0 v0 u0 AU (pv 2) (Aa Ac Ab))))
  Ao)
  (Af (Am (AT Bo (by rfl) T.n_tuple Ce (Aa (An Bf (Aj (Aa (Aq Al (pv 0) Ac (λ_ _=>rfl)) (Aa (pv 1) Ab))) (pv 2)) Ab)))))),?_⟩
  z_go
  simp only [Lh,Ql]
  z_go
  have hwd:(.str wd:V)=.str wd:=rfl
  have hr:∀ v∈r,Ch v=true:=λv hv=>hfl v (A0 _ hv)
  rw [P0] at hlen
  refine ⟨l,_,rfl,Aw.of hl,λp hp=>⟨p,rfl,⟨_,Aw.of Ad⟩,?_⟩⟩
  rw [UO]
  have s0:=Ag.upd (o:=.lst r) hp
  have at0:∀ {G:Hp} {R:VK},Ag H G->R (.str wd) G->DS K (.ref l) (.int 0) G R:=λ{G R} s q=>⟨l,_,0,.str wd,rfl,rfl,Aw.of (s _ _ hl),Av (j:=0) rfl,q⟩
  refine Hi (K:=K) (a:=p) (xs:=r) (λi zs G=>Ag (upd H p (.lst r)) G/\zs=(r.take i).filter λv=>!CA v [.str "in",.str "within"]) ⟨Ag.refl _,rfl⟩ ?_ (T0 (show r.length<=10 by lia) (by kd_p)) ?_ ?_
  ·rintro i zs G hi ⟨s1,rfl⟩
   refine ⟨Aw.of (s1 _ _ Ad),T0 (Y3 _ _) ?_⟩
   rw [j1];lia
  ·rintro i x zs G hx ⟨s1,rfl⟩
   z_go
   have e:=FK (f:=λv=>!CA v [.str "in",.str "within"]) hx
   refine ⟨by kd_p,λq hq=>⟨q,_,rfl,.inr (Cn.of Ad),Mf (hr x (E1 hx)),rfl,_,rfl,?_⟩⟩
   rw [if_pos rfl]
   have s2:=s1.trans (Ag.upd (o:=.tup [.str "in",.str "within"]) hq)
   cases hin:CA x [.str "in",.str "within"] with
   |true =>
    rw [if_neg (by rw [hin];exact Q0)] at e
    exact ⟨s2,e.symm⟩
   |false =>
    rw [if_pos (by rw [hin];rfl)] at e
    exact ⟨s2,e.symm⟩
  ·rintro zs G ⟨s1,rfl⟩ D hD
   rw [T2]
   have sG:Ag H G:=s0.trans s1
   have fin:∀ {G':Hp} (ks:List V),Ag H G'->G' D=some (.lst ks)->ks.length<=1000->.str wd::.int n::ks=MU (.str wd::r) n->DS K (.ref l) (.int 0) G' λx H1=>2<=sizeLine/\∀ (p:Addr),H1 p=none->Ra (V.ref p) (V.ref D) (upd H1 p (HO.lst [x,V.int n])) λx H1=>∃ p,x=V.ref p/\∃ x,(Aw K H1 p x/\∀ (l:Addr),H1 l=none->Q (V.ref l) (upd H1 l (HO.tup x)))\/Cn K H1 p x/\Q (V.ref p) H1:=λ{G'} ks sm hk hkl ek=>by
    refine at0 sm ⟨by kd_p,λq hq=>?_⟩
    have sq:=Ag.upd (o:=.lst [.str wd,.int n]) hq
    refine ⟨q,D,_,_,rfl,rfl,Ad,sq _ _ hk,T0 (Nat.add_le_add_left hkl _) (show 2+1000<=sizeLine by kd_p),λq2 hq2=>⟨q2,rfl,_,.inl ⟨Aw.of Ad,λq3 hq3=>?_⟩⟩⟩
    refine k q3 _ ?_ (sm.trans (sq.trans ((Ag.upd hq2).trans (Ag.upd hq3))))
    rw [Ad,<- ek]
    rfl
   have lenF:(r.filter λv=>!CA v [.str "in",.str "within"]).length<=10:=T0 (Y3 _ _) (by lia)
   generalize hZ:(r.filter λv=>!CA v [.str "in",.str "within"])=zs at lenF
   have sD:Ag H (upd G D (.lst zs)):=sG.trans (Ag.upd hD)
   have eK:∀ b:Bool,(b=true↔(wd="begin"/\CA (.str "within") (.str wd::r)=false))->MU (.str wd::r) n=.str wd::.int n::(zs++if b=true then [.int 0] else []):=λb hb=>by
    unfold MU CD
    show V.str wd::V.int n::((r.filter λv=>!CA v [.str "in",.str "within"])++_)=_
    rw [hZ]
    have:(some (V.str wd)=some (V.str "begin")/\CA (.str "within") (.str wd::r)=false)↔b=true:=by
     rw [hb]
     constructor
     ·rintro ⟨h1,h2⟩
      cases h1
      exact ⟨rfl,h2⟩
     ·rintro ⟨h1,h2⟩
      rw [h1] at h2 |-
      exact ⟨rfl,h2⟩
    show V.str wd::V.int n::(zs++(if some (V.str wd)=some (V.str "begin")/\CA (.str "within") (.str wd::r)=false then [.int 0] else []))=_
    by_cases hbt:b=true
    ·rw [if_pos hbt,if_pos (this.mpr hbt)]
    ·rw [if_neg hbt,if_neg (λq=>hbt (this.mp q))]
   refine at0 sD ⟨rfl,?_⟩
   have hfv:(V.str wd::r).all DH=true:=by
    rw [W2]
    exact λv hv=>Mf (hfl v hv)
   by_cases hbg:wd="begin"
   ·refine BH (by rw [hbg]) ⟨l,_,rfl,.inl (Aw.of (sD _ _ hl)),rfl,hfv,_,rfl,?_⟩
    rw [if_pos rfl]
    cases hin:CA (.str "within") (V.str wd::r) with
    |true =>
     refine fin zs sD Ad (by lia) ?_
     rw [eK false ⟨(λq=>nomatch q),λq=>by rw [hin] at q;exact nomatch q.2⟩]
     show _=V.str wd::V.int n::(zs++[])
     rw [L1]
    |false =>
     show _/\_
     refine ⟨.inl ⟨_,Aw.of Ad⟩,D,zs,.int 0,rfl,rfl,Ad,X2 lenF (by kd_p),?_⟩
     have hD0:H D=none:=sG.free hD
     refine fin (zs++[.int 0]) (λa o e=>?_) Ad (by rw [B0];show zs.length+1<=1000;lia) ?_
     ·rw [Ap (λq=>by rw [q,hD0] at e;cases e)]
      exact sD _ _ e
     ·rw [eK true ⟨λ_=>⟨hbg,hin⟩,λ_=>rfl⟩]
      rfl
   ·refine BI (λq=>hbg (V.str.inj q)) ?_
    rw [if_neg Q0]
    refine fin zs sD Ad (by lia) ?_
    rw [eK false ⟨(λq=>nomatch q),λq=>absurd q.1 hbg⟩]
    show _=V.str wd::V.int n::(zs++[])
    rw [L1]
theorem Ge:Sc ["self", "head"] ["self", "head"] (AO (top 33) 0):=DD (by lk)
theorem Gi (T:Tx P w K mg):BD P w K mg base CX0 1 T.m_Unended___init__.f T.m_Unended___init__.fd ["self", "head"] (Lo T):=by
 exists T.m_Unended___init__.F.ok Ge
 ·obtain ⟨x,dx,hA,hd,rfl,_⟩:=h
  rfl
 ·obtain ⟨x,dx,hA,hd,rfl,hx,hh,hz,k⟩:=h
  refine ⟨_,(Ae (Fa (pv 0) (pv 1) rfl)
  (Ae (Fa (pv 0) (Aj Ab) rfl)
  (Ae (Fa (pv 0) FC rfl)
  (Ae (Fa (pv 0) (Bh Ab) rfl)
  (Af (Fa (pv 0) (Aj Ab) rfl)))))),?_⟩
  z_go
  have O0:=CH.new (T:=T) (c:=.une) hx
  obtain ⟨d1,f1,q1,q2,q3,q4,H1,e1,B1,O1,_⟩:=O0.stN .head (.ref hA)
  refine ⟨_,d1,f1,q1,q2,q3,q4,by kd_p,?_⟩
  rw [show upd H x (HO.ins (T.C .une) d1 (Cz ("head":Str) (V.ref hA) f1))=H1 from e1.symm]
  intro rA hr0
  have sr:=Ag.upd (o:=.lst []) hr0
  have O1':=O1.same sr
  obtain ⟨d2,f2,q1,q2,q3,q4,H2,e2,B2,O2,_⟩:=O1'.stN .rows (.ref rA)
  refine ⟨_,d2,f2,q1,q2,q3,q4,?_⟩
  rw [show upd (upd H1 rA (.lst [])) x (HO.ins (T.C .une) d2 (Cz ("rows":Str) (V.ref rA) f2))=H2 from e2.symm]
  obtain ⟨d3,f3,q1,q2,q3,q4,H3,e3,B3,O3,_⟩:=O2.stN .turned (.bl false)
  refine ⟨_,d3,f3,q1,q2,q3,q4,by kd_p,?_⟩
  rw [show upd H2 x (HO.ins (T.C .une) d3 (Cz ("turned":Str) (V.bl false) f3))=H3 from e3.symm]
  intro tA ht0
  have st:=Ag.upd (o:=.tup []) ht0
  have O3':=O3.same st
  obtain ⟨d4,f4,q1,q2,q3,q4,H4,e4,B4,O4,_⟩:=O3'.stN .tfl (.ref tA)
  refine ⟨_,d4,f4,q1,q2,q3,q4,by kd_p,?_⟩
  rw [show upd (upd H3 tA (.tup [])) x (HO.ins (T.C .une) d4 (Cz ("turn_fields":Str) (V.ref tA) f4))=H4 from e4.symm]
  intro oA ho0
  have so:=Ag.upd (o:=.lst []) ho0
  have O4':=O4.same so
  obtain ⟨d5,f5,q1,q2,q3,q4,H5,e5,B5,O5,_⟩:=O4'.stN .others (.ref oA)
  refine ⟨_,d5,f5,q1,q2,q3,q4,?_⟩
  rw [show upd (upd H4 oA (.lst [])) x (HO.ins (T.C .une) d5 (Cz ("others":Str) (V.ref oA) f5))=H5 from e5.symm]
  have nr:rA≠x:=O1.live hr0
  have nt:tA≠x:=O3.live ht0
  have no:oA≠x:=O4.live ho0
  have b1r:∀ a o,a≠x->upd H1 rA (.lst []) a=some o->H4 a=some o:=λa o n h=>B4 _ _ n (st _ _ (B3 _ _ n (B2 _ _ n h)))
  have r4:H4 rA=some (.lst []):=b1r _ _ nr Ad
  have nro:rA≠oA:=λe=>by rw [<- e,r4] at ho0;cases ho0
  have t5:H5 tA=some (.tup []):=B5 _ _ nt (so _ _ (B4 _ _ nt Ad))
  have nh:hA≠x:=O0.neL hh (λ_ _ _ z=>nomatch z)
  have BA:Mp x H H5:=λa o n h=>B5 _ _ n (so _ _ (b1r _ _ n (sr _ _ (B1 _ _ n h))))
  have n0:∀ {a:Addr},a≠x->H5 a≠none->True:=λ_ _=>trivial
  refine k ⟨x,hA,rA,tA,oA⟩ H5 rfl ⟨O5.congr λl=>by cases l<;>rfl,BA _ _ nh hh,hz,⟨[],B5 _ _ nr (so _ _ r4),By.nil _⟩,⟨t5,by show 0<=10;decide,λ_ h=>nomatch h⟩,⟨[],B5 _ _ no Ad,By.nil _⟩,nro⟩ ?_ ?_ BA
  ·show H rA=none
   cases e:H rA with
   |none=>rfl
   |some o=>rw [B1 _ _ nr e] at hr0;cases hr0
  ·show H oA=none
   cases e:H oA with
   |none=>rfl
   |some o=>rw [b1r _ _ no (sr _ _ (B1 _ _ no e))] at ho0;cases ho0
theorem Jk:Sc ["self", "row"] ["self", "row"] (AO (top 33) 1):=DD (by lk)
theorem Jo (T:Tx P w K mg):BD P w K mg base CX0 1 T.m_Unended_put.f T.m_Unended_put.fd ["self", "row"] (Om T):=by
 exists T.m_Unended_put.F.ok Jk
 ·obtain ⟨b,F,v,t,rfl,_⟩:=h
  rfl
 ·obtain ⟨b,F,v,t,rfl,U,hv,l1,l2,k⟩:=h
  obtain ⟨xs,x1,x2⟩:=U.rs
  obtain ⟨ys,y1,y2⟩:=U.os
  have big:100000<sizeLine:=by kd_p
  refine ⟨_,(Af (Au (Cv (Bx (pv 0) rfl))
  (Af (AR (Br j0 v0 u0 AU (Bx (pv 0) rfl) (Aa (pv 1) Ab))))
  (Af (AR (Br j0 v0 u0 AU (Bx (pv 0) rfl) (Aa (pv 1) Ab)))))),?_⟩
  z_go
  refine U.ob.fld .turned rfl ?_
  refine ⟨_,rfl,?_⟩
  unfold Fq.put at k
  cases ht:F.tn with
  |true =>
   rw [if_pos ht] at k
   rw [if_pos rfl]
   refine U.ob.fld .others rfl ?_
   refine ⟨.inl ⟨_,Aw.of y1⟩,b.o,ys,v,rfl,rfl,y1,by rw [y2.1];lia,?_⟩
   have sT:=Bw (o:=.lst (ys++[v])) y1
   have neb:b.p≠b.o:=λe=>(U.ob.neL y1 (λ_ _ _ z=>nomatch z)) e.symm
   have O2:CH T 5 .une (upd H b.o (.lst (ys++[v]))) b.p (gU b true):=by
    have:=U.ob.at' (H':=upd H b.o (.lst (ys++[v]))) λo h=>by rw [Ap neb];exact h
    rw [ht] at this
    exact this
   refine k _ ⟨by rw [ht];exact O2,sT _ _ U.hd,U.hz,⟨xs,by rw [Ap U.ne];exact x1,x2.sameT sT⟩,⟨sT _ _ U.tf.1,U.tf.2⟩,⟨_,Ad,(y2.sameT sT).snoc (hv.sameT sT)⟩,U.ne⟩ (λa u _ n h=>by rw [Ap n];exact h)
  |false =>
   rw [if_neg (by rw [ht];exact Q0)] at k
   rw [if_neg Q0]
   refine U.ob.fld .rows rfl ?_
   refine ⟨.inl ⟨_,Aw.of x1⟩,b.r,xs,v,rfl,rfl,x1,by rw [x2.1];lia,?_⟩
   have sT:=Bw (o:=.lst (xs++[v])) x1
   have neb:b.p≠b.r:=λe=>(U.ob.neL x1 (λ_ _ _ z=>nomatch z)) e.symm
   have O2:CH T 5 .une (upd H b.r (.lst (xs++[v]))) b.p (gU b F.tn):=U.ob.at' λo h=>by rw [Ap neb];exact h
   refine k _ ⟨O2,sT _ _ U.hd,U.hz,⟨_,Ad,(x2.sameT sT).snoc (hv.sameT sT)⟩,⟨sT _ _ U.tf.1,U.tf.2⟩,⟨ys,by rw [Ap (Ne.symm U.ne)];exact y1,y2.sameT sT⟩,U.ne⟩ (λa u n _ h=>by rw [Ap n];exact h)
theorem Gc:Sc ["self", "word"] ["self", "word"] (AO (top 33) 2):=DD (by lk)
theorem Gh (T:Tx P w K mg):BD P w K mg base CX0 1 T.m_Unended_may_turn.f T.m_Unended_may_turn.fd ["self", "word"] (Jb T):=by
 exists T.m_Unended_may_turn.F.ok Gc
 ·obtain ⟨b,F,z,rfl,_⟩:=h
  rfl
 ·obtain ⟨b,F,z,rfl,U,k⟩:=h
  obtain ⟨hz,n,r,ehd,_⟩:=U.hz
  have ewd:F.wd=hz:=by unfold Fq.wd;rw [ehd]
  refine ⟨_,(Af (Am (Dm (Tc (Bx (pv 0) rfl)) (De (Bv AF (Rc (Ck (v:=.ref T.tua) rfl T.tum rfl) (Aq Bc (Bx (pv 0) rfl) Ac (λ_ _=>rfl)) ⟨rfl,rfl,rfl,rfl⟩) (pv 1) (Ak _)))))),?_⟩
  z_go
  refine U.ob.fld .turned rfl ?_
  refine ⟨_,rfl,?_⟩
  unfold Fq.mayTurn at k
  rw [ewd] at k
  cases ht:F.tn with
  |true =>
   rw [ht] at k
   exact k
  |false =>
   rw [ht] at k
   refine iteT' (b:=!false) rfl ?_
   refine ⟨T.tua,Pu,rfl,T.tud,?_⟩
   show tOp (JW K) (Sr K (GW 0) "head") (tC (.int 0)) _ _ _
   z_go
   refine U.ob.fld .head rfl ?_
   refine ⟨b.h,_,0,.str hz,rfl,rfl,Cn.of U.hd,by rw [ehd];exact Av (j:=0) rfl,.inr hz,rfl,?_⟩
   rw [Og]
   by_cases h2:BL hz
   ·rw [if_pos h2]
    refine ⟨rfl,?_⟩
    have e:decide (V.str (BQ hz)=V.str z)=decide (BL hz/\BQ hz=z):=by
     by_cases q:BQ hz=z
     ·exact (decide_eq_true (by rw [q])).trans (decide_eq_true ⟨h2,q⟩).symm
     ·exact (decide_eq_false λw=>q (V.str.inj w)).trans (decide_eq_false (λw=>q w.2)).symm
    show Q (V.bl (decide (V.str (BQ hz)=V.str z))) H
    rw [e]
    exact k
   ·rw [if_neg h2]
    refine ⟨rfl,?_⟩
    rw [decide_eq_false (λw=>h2 w.1)] at k
    exact k
theorem Iz:Sc ["self", "turn_fields"] ["self", "turn_fields"] (AO (top 33) 3):=DD (by lk)
theorem IC (T:Tx P w K mg):BD P w K mg base CX0 1 T.m_Unended_turn.f T.m_Unended_turn.fd ["self", "turn_fields"] (PK T):=by
 exists T.m_Unended_turn.F.ok Iz
 ·obtain ⟨b,F,ta,tf,rfl,_⟩:=h
  rfl
 ·obtain ⟨b,F,ta,tf,rfl,U,ht,hl,hf,k⟩:=h
  refine ⟨_,(Ae (Fa (pv 0) FC rfl)
  (Af (Fa (pv 0) (pv 1) rfl))),?_⟩
  z_go
  obtain ⟨d1,f1,q1,q2,q3,q4,H1,e1,B1,_,O1⟩:=U.ob.stN .turned (.bl true)
  refine ⟨_,d1,f1,q1,q2,q3,q4,?_⟩
  rw [show upd H b.p (HO.ins (T.C .une) d1 (Cz ("turned":Str) (V.bl true) f1))=H1 from e1.symm]
  obtain ⟨d2,f2,q1,q2,q3,q4,H2,e2,B2,_,O2⟩:=(O1 (λz=>nomatch z)).stN .tfl (.ref ta)
  refine ⟨_,d2,f2,q1,q2,q3,q4,?_⟩
  rw [show upd H1 b.p (HO.ins (T.C .une) d2 (Cz ("turn_fields":Str) (V.ref ta) f2))=H2 from e2.symm]
  have B:=B1.trans B2
  obtain ⟨xs,x1,x2⟩:=U.rs
  obtain ⟨ys,y1,y2⟩:=U.os
  have sT:Bq H H2:=λa zs h=>B _ _ (U.ob.neL h (λ_ _ _ z=>nomatch z)) h
  have nl:∀ {a zs},H a=some (.lst zs)->H2 a=some (.lst zs):=λh=>B _ _ (U.ob.neL h (λ_ _ _ z=>nomatch z)) h
  exact k _ ⟨(O2 (λz=>nomatch z)).congr λl=>by cases l<;>rfl,sT _ _ U.hd,U.hz,⟨xs,nl x1,x2.sameT sT⟩,⟨sT _ _ ht,hl,hf⟩,⟨ys,nl y1,y2.sameT sT⟩,U.ne⟩ B
theorem GE:Sc ["self"] ["self"] (AO (top 33) 4):=DD (by lk)
theorem GH (T:Tx P w K mg):BD P w K mg base CX0 1 T.m_Unended_may_end.f T.m_Unended_may_end.fd ["self"] (Km T):=by
 exists T.m_Unended_may_end.F.ok GE
 ·obtain ⟨b,F,rfl,_⟩:=h
  rfl
 ·obtain ⟨b,F,rfl,U,k⟩:=h
  have hu:=Do hr
  obtain ⟨hz,n,r,ehd,_⟩:=U.hz
  have ewd:F.wd=hz:=by unfold Fq.wd;rw [ehd]
  obtain ⟨ys,y1,y2⟩:=U.os
  refine ⟨_,(Ae (Au (Ah AF (Aq Bc (Bx (pv 0) rfl) Ac (λ_ _=>rfl)) Ai (Ak _))
  (Af (Am (Qa (Tc (Bx (pv 0) rfl)) (De (Bv (Fe hu) (Bx (pv 0) rfl) (Aj Ab) (Ak _))))))
  Ao)
  (Af (Am (Qa (Bx (pv 0) rfl) (De (Tf (OF (Aq Bc (Bx (pv 0) rfl) Ac (λ_ _=>rfl)) (Ck (v:=.ref T.tua) rfl T.tum rfl)))))))),?_⟩
  z_go
  refine U.ob.fld .head rfl ?_
  refine ⟨b.h,_,0,.str hz,rfl,rfl,Cn.of U.hd,by rw [ehd];exact Av (j:=0) rfl,rfl,?_⟩
  unfold Fq.mayEnd at k
  rw [ewd] at k
  by_cases hl:hz="limit"
  ·rw [if_pos hl] at k
   refine BH (by rw [hl]) (U.ob.fld .turned rfl ?_)
   refine ⟨_,rfl,?_⟩
   cases ht:F.tn with
   |false =>
    rw [ht] at k
    exact k H (Ag.refl H)
   |true =>
    rw [ht] at k
    rw [if_neg (by kd_p)]
    refine U.ob.fld .others rfl ?_
    refine OS y1 λG s=>?_
    have e:(!decide (ys=[]))=(!true||!F.os.isEmpty):=by
     have:=y2.1
     cases ys with
     |nil =>
      rw [K1] at this
      rw [v1 this.symm]
      rfl
     |cons y r =>
      cases ho:F.os with
      |nil=>rw [ho] at this;cases this
      |cons _ _=>rfl
    rw [e]
    exact k G s
  ·rw [if_neg hl] at k
   refine BI (λq=>hl (V.str.inj q)) (U.ob.fld .turned rfl ?_)
   refine ⟨_,rfl,?_⟩
   cases ht:F.tn with
   |true =>
    rw [ht] at k
    exact k H (Ag.refl H)
   |false =>
    rw [ht] at k
    rw [if_neg Q0]
    show tOp (JW K) (Sr K (GW 0) "head") (tC (.int 0)) _ _ _
    z_go
    refine U.ob.fld .head rfl ?_
    refine ⟨b.h,_,0,.str hz,rfl,rfl,Cn.of U.hd,by rw [ehd];exact Av (j:=0) rfl,Pu,T.tud,.inr hz,rfl,?_⟩
    rw [Og]
    have:=k H (Ag.refl H)
    by_cases h2:BL hz
    ·rw [if_pos h2]
     rw [decide_eq_true h2] at this
     exact this
    ·rw [if_neg h2]
     rw [decide_eq_false h2] at this
     exact this
theorem Dx:Sc ["self", "row"] ["self"] (AO (top 33) 5):=DD (by lk)
theorem HI (T:Tx P w K mg):BD P w K mg base CX0 1 T.m_Unended_whole.f T.m_Unended_whole.fd ["self"] (MF T):=by
 exists T.m_Unended_whole.F.ok Dx
 ·obtain ⟨b,F,rfl,_⟩:=h
  rfl
 ·obtain ⟨b,F,rfl,U,l1,l2,k⟩:=h
  obtain ⟨hz,n,r,ehd,hrl,hrf⟩:=U.hz
  have ewd:F.wd=hz:=by unfold Fq.wd;rw [ehd]
  obtain ⟨xs,x1,x2⟩:=U.rs
  obtain ⟨ys,y1,y2⟩:=U.os
  refine ⟨_,(Ae (As (i:=1) Dx.nd rfl (Or.inl rfl) (An CV (Bx (pv 0) rfl) (Bh (Aa (AT Bo (by rfl) T.n_tuple Ce (Aa (Bx (pv 0) rfl) Ab)) Ab))))
  (Ae (Au (OA (LD (Aq Bc (Bx (pv 0) rfl) Ac (λ_ _=>rfl)) (Ck (v:=.ref T.tua) rfl T.tum rfl)))
  (Af (As (i:=1) Dx.nd rfl (Or.inl rfl) (An CV (An CV (pv 1) (Bx (pv 0) rfl)) (Bh (Aa (AT Bo (by rfl) T.n_tuple Ce (Aa (Bx (pv 0) rfl) Ab)) Ab)))))
  Ao)
  (Af (Am (pv 1))))),?_⟩
  z_go
  refine U.ob.fld .head rfl ?_
  refine U.ob.fld .rows rfl ?_
  refine ⟨b.r,rfl,_,.inl ⟨Aw.of x1,λp1 hp1=>⟨by kd_p,λp2 hp2=>?_⟩⟩⟩
  have s1:=Ag.upd (o:=.tup xs) hp1
  have s2:=Ag.upd (o:=.tup [.ref p1]) hp2
  have sA:=s1.trans s2
  refine .inl (JL (sA _ _ U.hd) Ad (by rw [ehd];exact λz=>nomatch z) (by rw [ehd];show r.length+1+1+1<=sizeLine;exact T0 (show r.length+3<=13 by lia) (by kd_p)) λp3 H3 h3 s3=>?_)
  have sB:=sA.trans s3
  have U3:=U.same sB
  show tOp (JW K) (Sr K (GW 0) "head") (tC (.int 0)) _ _ _
  z_go
  refine U3.ob.fld .head rfl ?_
  refine ⟨b.h,_,0,.str hz,rfl,rfl,Cn.of U3.hd,by rw [ehd];exact Av (j:=0) rfl,Pu,T.tud,.inr hz,rfl,?_⟩
  rw [Og]
  have hflat:∀ v∈F.hd,Ch v=true:=λv hv=>by
   rw [ehd] at hv
   rcases K0.mp hv with rfl | hv
   ·rfl
   rcases K0.mp hv with rfl | hv
   ·rfl
   ·exact hrf v hv
  have e1:H3 p1=some (.tup xs):=s3 _ _ (s2 _ _ Ad)
  have R1:By H3 (F.hd++[.ref p1]) (F.hd.map RN++[.t F.rs]):=(By.flat hflat).app (By.one (ET.tup e1 (x2.sameT (AE sB))))
  unfold Fq.whole at k
  rw [ewd] at k
  by_cases h2:BL hz
  ·rw [if_pos h2] at k |-
   refine iteT' (b:=false^^true) rfl ?_
   refine U3.ob.fld .tfl rfl ?_
   refine .inl (JL h3 U3.tf.1 (λz=>absurd (F6.mp z).2 (by simp)) (by rw [B0,ehd];have:=U.tf.2.1;exact T0 (show r.length+1+1+1+F.tf.length<=23 by lia) (by kd_p)) λp4 H4 h4 s4=>?_)
   have U4:=U3.same s4
   refine U4.ob.fld .others rfl ?_
   obtain ⟨ys,y1,y2⟩:=U4.os
   refine ⟨b.o,rfl,_,.inl ⟨Aw.of y1,λp5 hp5=>⟨by kd_p,λp6 hp6=>?_⟩⟩⟩
   have s5:=Ag.upd (o:=.tup ys) hp5
   have s6:=Ag.upd (o:=.tup [.ref p5]) hp6
   have s56:=s5.trans s6
   refine .inl (JL (s56 _ _ h4) Ad (λz=>absurd (F6.mp (F6.mp z).1).2 (by simp)) (by rw [B0,B0,ehd];have:=U.tf.2.1;exact T0 (show r.length+1+1+1+F.tf.length+1<=24 by lia) (by kd_p)) λp7 H7 h7 s7=>?_)
   have sC:=(s4.trans s56).trans s7
   have e5:H7 p5=some (.tup ys):=s7 _ _ (s6 _ _ Ad)
   have R7:=((R1.sameT (AE sC)).app (By.flat U.tf.2.2)).app (By.one (ET.tup e5 (y2.sameT (AE (s56.trans s7)))))
   refine k _ H7 (ET.tup h7 ?_) (sB.trans sC)
   rw [<- P4]
   exact R7
  ·rw [if_neg h2] at k |-
   refine L2.iteF ?_
   rw [L1] at k
   exact k _ H3 (ET.tup h3 R1) sB
theorem Gg:Sc ["self"] ["self"] (AO (top 34) 0):=DD (by lk)
theorem Gm (T:Tx P w K mg):BD P w K mg base CX0 1 T.m_Reading___init__.f T.m_Reading___init__.fd ["self"] (PM T):=by
 exists T.m_Reading___init__.F.ok Gg
 ·obtain ⟨x,dx,rfl,_⟩:=h
  rfl
 ·obtain ⟨x,dx,rfl,hx,k⟩:=h
  refine ⟨_,(Ae (Fa (pv 0) (Aj Ab) rfl)
  (Af (Fa (pv 0) (Aj Ab) rfl))),?_⟩
  z_go
  have O0:=CH.new (T:=T) (c:=.rdg) hx
  refine ⟨by kd_p,λpA hp0=>?_⟩
  have sp:=Ag.upd (o:=.lst []) hp0
  obtain ⟨d1,f1,q1,q2,q3,q4,H1,e1,B1,O1,_⟩:=(O0.same sp).stN .prog (.ref pA)
  refine ⟨_,d1,f1,q1,q2,q3,q4,by kd_p,?_⟩
  rw [show upd (upd H pA (.lst [])) x (HO.ins (T.C .rdg) d1 (Cz ("program":Str) (V.ref pA) f1))=H1 from e1.symm]
  intro uA hu0
  have su:=Ag.upd (o:=.lst []) hu0
  obtain ⟨d2,f2,q1,q2,q3,q4,H2,e2,B2,O2,_⟩:=(O1.same su).stN .unended (.ref uA)
  refine ⟨_,d2,f2,q1,q2,q3,q4,?_⟩
  rw [show upd (upd H1 uA (.lst [])) x (HO.ins (T.C .rdg) d2 (Cz ("unended":Str) (V.ref uA) f2))=H2 from e2.symm]
  have np:pA≠x:=O0.live hp0
  have nu:uA≠x:=O1.live hu0
  have p1:H1 pA=some (.lst []):=B1 _ _ np Ad
  have npu:pA≠uA:=λe=>by rw [<- e,p1] at hu0;cases hu0
  have BA:Mp x H H2:=λa o n h=>B2 _ _ n (su _ _ (B1 _ _ n (sp _ _ h)))
  refine k pA uA H2 (O2.congr λl=>by cases l<;>rfl) (B2 _ _ np (su _ _ p1)) (B2 _ _ nu Ad) hp0 ?_ npu BA
  cases e:H uA with
  |none=>rfl
  |some o=>rw [B1 _ _ nu (sp _ _ e)] at hu0;cases hu0
theorem Er:Sc ["self", "word", "innermost"] ["self", "word"] (AO (top 34) 1):=DD (by lk)
theorem Hf (T:Tx P w K mg)
  (G_Unended_may_end:BD P w K mg base CX0 1 T.m_Unended_may_end.f T.m_Unended_may_end.fd ["self"] (Km T))
  (G_Unended_may_turn:BD P w K mg base CX0 1 T.m_Unended_may_turn.f T.m_Unended_may_turn.fd ["self", "word"] (Jb T))
  (G_is_block_word:BO P w base T.d_is_block_word 1 Jg):BD P w K mg base CX0 3 T.m_Reading_allows.f T.m_Reading_allows.fd ["self", "word"] (Kn T):=by
 exists T.m_Reading_allows.F.ok Er
 ·obtain ⟨H0,p,pa,ua,st,Bs,c,z,rfl,_⟩:=h
  rfl
 ·obtain ⟨H0,p,pa,ua,st,Bs,c,z,rfl,R,k⟩:=h
  have hu:=Do hr
  refine ⟨_,(Ae (Au (Ah (FF hu) (Bx (pv 0) rfl) (Aj Ab) (Ak _))
  (Af (Am (Bv AF (pv 1) Ai (Ak _))))
  Ao)
  (Ae (As (i:=2) Er.nd rfl (Or.inl rfl) (Aq Al (Bx (pv 0) rfl) (CO BP Ac) (λ_ _=>rfl)))
  (Ae (Au (Ah AF (pv 1) Ai (Ak _))
  (Af (Am (Hc (pv 2) T.k_Unended T.m_Unended_may_end.me G_Unended_may_end (hr.mono (by lia)) T.m_Unended_may_end.b .nil DO)))
  Ao)
  (Ae (Au (Ah BK (pv 1) (Ck (v:=.ref T.twa) rfl T.twm rfl) (by with_unfolding_all rfl))
  (Af (Am (FU (pv 2) T.k_Unended T.m_Unended_may_turn.me G_Unended_may_turn (hr.mono (by lia)) T.m_Unended_may_turn.b .nil DO (Aa (pv 1) Ab))))
  Ao)
  (Ae (Au (Cv (AI T.d_is_block_word G_is_block_word hr (Aa (pv 1) Ab)))
  (Af (Am (Bv FD (At Az (by rfl) T.n_len AZ (Aa (Bx (pv 0) rfl) Ab)) (Ck (v:=.int 20) rfl T.mdm ⟨_,rfl⟩) (Ak _))))
  Ao)
  (Af (Am (Bv Fm (pv 1) Ai (Ak _))))))))),?_⟩
  z_go
  obtain ⟨pg,un⟩:=st
  refine R.ob.fld .unended rfl ?_
  refine Mh R.ul λH1 s1=>⟨_,rfl,?_⟩
  have R1:=R.same s1
  have hlen:Bs.length=un.length:=R.len
  by_cases hn:un=[]
  ·subst hn
   obtain rfl:Bs=[]:=v1 hlen
   exact BH rfl ⟨rfl,k H1 s1⟩
  ·obtain ⟨S,F,rfl⟩:=CY (T4.mpr hn)
   obtain ⟨Cs,b,rfl,hl⟩:=R.split
   rw [BV] at k
   refine BI (by rw [o0];simp) ?_
   refine R1.ob.fld .unended rfl ?_
   refine R1.ixTop ⟨rfl,?_⟩
   have U:=R1.top hl
   by_cases h1:z="end"
   ·rw [if_pos h1] at k
    exact BH h1 ⟨b.p,rfl,U.ob.call ⟨b,F,rfl,U,λH2 s2=>k H2 (s1.trans s2)⟩⟩
   ·rw [if_neg h1] at k
    refine BI h1 (inTW (T.twt H1) ⟨_,rfl,?_⟩)
    by_cases h2:BJ z
    ·rw [if_pos h2] at k
     exact BH h2 ⟨b.p,rfl,U.ob.call ⟨b,F,z,rfl,U,k H1 s1⟩⟩
    ·rw [if_neg h2] at k
     refine BI h2 ⟨z,rfl,?_⟩
     rw [decP]
     refine ⟨_,rfl,?_⟩
     by_cases h3:Fj z
     ·rw [if_pos h3] at k
      refine BH h3 ?_
      refine R1.ob.fld .unended rfl ?_
      refine ⟨(Cs++[b]).length,AV.mpr (.inl ⟨_,Aw.of R1.ul,by rw [L0]⟩),?_⟩
      have e:decide ((((Cs++[b]).length:Nat):Int)<=20)=decide (S.length+1<=20):=by
       rw [B0,hl]
       refine decide_eq_decide.mpr ?_
       show ((S.length+1:Nat):Int)<=20↔_
       lia
      rw [e]
      exact k H1 s1
     ·rw [if_neg h3] at k
      refine BI h3 ⟨rfl,?_⟩
      have e:(!decide (z="errand"))=decide (z≠"errand"):=by
       by_cases q:z="errand"<;>simp [q]
      rw [e]
      exact k H1 s1
theorem CT:Sc ["self", "row"] ["self"] (AO (top 34) 3):=DD (by lk)
theorem EA (T:Tx P w K mg)
  (G_Unended_whole:BD P w K mg base CX0 1 T.m_Unended_whole.f T.m_Unended_whole.fd ["self"] (MF T))
  (G_Unended_put:BD P w K mg base CX0 1 T.m_Unended_put.f T.m_Unended_put.fd ["self", "row"] (Om T)):BD P w K mg base CX0 3 T.m_Reading_end_innermost.f T.m_Reading_end_innermost.fd ["self"] (Sz T):=by
 exists T.m_Reading_end_innermost.F.ok CT
 ·obtain ⟨H0,p,pa,ua,st,Bs,c,rfl,_⟩:=h
  rfl
 ·obtain ⟨H0,p,pa,ua,st,Bs,c,rfl,R,hne,hc,k⟩:=h
  have hu:=Do hr
  refine ⟨_,(Ae (As (i:=1) CT.nd rfl (Or.inl rfl) (Hc (Ez j0 y4 w4 HL (Bx (pv 0) rfl)) T.k_Unended T.m_Unended_whole.me G_Unended_whole (hr.mono (by lia)) T.m_Unended_whole.b .nil DO))
  (Af (Au (Ah (FF hu) (Bx (pv 0) rfl) (Aj Ab) (Ak _))
  (Af (AR (Br j0 v0 u0 AU (Bx (pv 0) rfl) (Aa (pv 1) Ab))))
  (Af (AR (FU (Aq Al (Bx (pv 0) rfl) (CO BP Ac) (λ_ _=>rfl)) T.k_Unended T.m_Unended_put.me G_Unended_put (hr.mono (by lia)) T.m_Unended_put.b .nil DO (Aa (pv 1) Ab))))))),?_⟩
  z_go
  obtain ⟨pg,un⟩:=st
  obtain ⟨S,F,rfl⟩:=CY (T4.mpr hne)
  obtain ⟨Cs,b,rfl,hl⟩:=R.split
  obtain ⟨R1,U1⟩:=R.pop hl
  have hF:=R.ct.2 F (S0 _ C0)
  refine R.ob.fld .unended rfl ?_
  refine ⟨.inl ⟨_,Aw.of R.ul⟩,?_⟩
  have eM:(Cs++[b]).map (λb=>V.ref b.p)=Cs.map (λb=>V.ref b.p)++[.ref b.p]:=by rw [o0];rfl
  refine ⟨ua,_,.ref b.p,rfl,rfl,R.ul,?_,?_⟩
  ·rw [eM,show (Cs.map (λb=>V.ref b.p)++[V.ref b.p]).length-1=(Cs.map (λb=>V.ref b.p)).length by rw [B0];rfl]
   exact Ba
  ·rw [eM,M4]
   refine ⟨b.p,rfl,U1.ob.call ⟨b,F,rfl,U1,by lia,by lia,λv H2 hv s2=>?_⟩⟩
   have R2:=R1.same s2
   refine R2.ob.fld .unended rfl ?_
   refine Mh R2.ul λH3 s3=>⟨_,rfl,?_⟩
   have R3:=R2.same s3
   have hv3:=hv.sameT (AE s3)
   by_cases hS:S=[]
   ·subst hS
    obtain rfl:Cs=[]:=v1 hl
    refine BH rfl ?_
    refine R3.ob.fld .prog rfl ?_
    obtain ⟨xs,x1,x2⟩:=R3.pr
    have hx:xs.length<=99999:=by rw [x2.1];exact T0 R3.ct.1 hc
    refine ⟨.inl ⟨_,Aw.of x1⟩,pa,xs,v,rfl,rfl,x1,X2 hx (by kd_p),?_⟩
    exact k _ [] (R3.addP x1 x2 hv3)
   ·obtain ⟨S2,G,rfl⟩:=CY (T4.mpr hS)
    obtain ⟨Ds,d,rfl,hl2⟩:=R3.split
    refine BI (by rw [o0];simp) ?_
    refine R3.ob.fld .unended rfl ?_
    have UG:=R3.top hl2
    have hG:=R3.ct.2 G (S0 _ C0)
    refine R3.ixTop ⟨d.p,rfl,UG.ob.call ⟨d,G,v,F.whole,rfl,UG,hv3,by lia,by lia,λH4 U4 k4=>?_⟩⟩
    rw [Ho] at k
    have hput:(G.put F.whole).rs.length<=c+1/\(G.put F.whole).os.length<=c+1:=by
     unfold Fq.put
     split
     ·exact ⟨X3 hG.1,by rw [B0];exact g5 hG.2⟩
     ·exact ⟨by rw [B0];exact g5 hG.1,X3 hG.2⟩
    refine k H4 (Ds++[d]) (R3.mod hl2 U4 rfl rfl rfl (λa u ha h=>?_) (C3 _) hput.1 hput.2)
    refine k4 a u (λe=>ha (by simp [Ub.own,e])) (λe=>ha (by simp [Ub.own,e])) h
theorem DM:Sc ["self", "fields", "number", "word"] ["self", "fields", "number"] (AO (top 34) 2):=DD (by lk)
theorem Gj (T:Tx P w K mg)
  (G_Reading_end_innermost:BD P w K mg base CX0 3 T.m_Reading_end_innermost.f T.m_Reading_end_innermost.fd ["self"] (Sz T))
  (G_Unended_turn:BD P w K mg base CX0 1 T.m_Unended_turn.f T.m_Unended_turn.fd ["self", "turn_fields"] (PK T))
  (G_is_block_word:BO P w base T.d_is_block_word 1 Jg)
  (G_Unended___init__:BD P w K mg base CX0 1 T.m_Unended___init__.f T.m_Unended___init__.fd ["self", "head"] (Lo T))
  (G_row_of:BO P w base T.d_row_of 1 Lp)
  (G_Unended_put:BD P w K mg base CX0 1 T.m_Unended_put.f T.m_Unended_put.fd ["self", "row"] (Om T)):BD P w K mg base CX0 5 T.m_Reading_put_line.f T.m_Reading_put_line.fd ["self", "fields", "number"] (Sy T):=by
 exists T.m_Reading_put_line.F.ok DM
 ·obtain ⟨H0,p,pa,ua,st,Bs,c,l,z,fs,n,rfl,_⟩:=h
  rfl
 ·obtain ⟨H0,p,pa,ua,st,Bs,c,l,z,fs,n,rfl,R,hc,hl,hf,hz,ha,k⟩:=h
  refine ⟨_,(Ae (As (i:=3) DM.nd rfl (Or.inl rfl) (Aq Al (pv 1) Ac (λ_ _=>rfl)))
  (Af (Au (Ah AF (pv 3) Ai (Ak _))
  (Af (AR (Hc (pv 0) T.k_Reading T.m_Reading_end_innermost.me G_Reading_end_innermost (hr.mono (by lia)) T.m_Reading_end_innermost.b .nil DO)))
  (Af (Au (Ah BK (pv 3) (Ck (v:=.ref T.twa) rfl T.twm rfl) (by with_unfolding_all rfl))
  (Af (AR (FU (Aq Al (Bx (pv 0) rfl) (CO BP Ac) (λ_ _=>rfl)) T.k_Unended T.m_Unended_turn.me G_Unended_turn (hr.mono (by lia)) T.m_Unended_turn.b .nil DO (Aa (AT Bo (by rfl) T.n_tuple Ce (Aa (AC Bu (pv 1) (AN Ac) AS) Ab)) Ab))))
  (Af (Au (PW.pt (Eb (Ah AF (pv 3) Ai (Ak _)) (Dd (Cv (AI T.d_is_block_word G_is_block_word hr (Aa (pv 3) Ab))))))
  (Af (AR (Br j0 v0 u0 AU (Bx (pv 0) rfl) (Aa (pe_make T.M_Unended G_Unended___init__ (hr.mono (by lia)) rfl T.h_Unended T.m_Unended___init__.b .nil DO (Aa (AI T.d_row_of G_row_of hr (Aa (pv 1) (Aa (pv 2) Ab))) Ab)) Ab))))
  (Af (AR (FU (Aq Al (Bx (pv 0) rfl) (CO BP Ac) (λ_ _=>rfl)) T.k_Unended T.m_Unended_put.me G_Unended_put (hr.mono (by lia)) T.m_Unended_put.b .nil DO (Aa (AI T.d_row_of G_row_of hr (Aa (pv 1) (Aa (pv 2) Ab))) Ab))))))))))),?_⟩
  z_go
  obtain ⟨⟨wd,r,rfl⟩,hlen,hfl⟩:=id hf
  obtain rfl:wd=z:=by cases hz;rfl
  obtain ⟨pg,un⟩:=st
  refine ⟨l,_,0,.str wd,rfl,rfl,Aw.of hl,Av (j:=0) rfl,rfl,?_⟩
  unfold EY at k
  have hrow:∃ z' n' r',MU (.str wd::r) n=.str z'::.int n'::r'/\r'.length<=10/\∀ v∈r',Ch v=true:=by
   refine ⟨wd,n,CD (.str wd::r),rfl,?_,?_⟩
   ·unfold CD
    rw [B0]
    have e1:((V.str wd::r).tail.filter λv=>!CA v [.str "in",.str "within"]).length<=r.length:=Y3 _ _
    rw [P0] at hlen
    split
    ·show _+1<=10
     lia
    ·show _+0<=10
     lia
   ·intro v hv
    unfold CD at hv
    rcases X0.mp hv with q | q
    ·exact hfl v (A0 _ (Q4.mp q).1)
    ·split at q
     ·rw [M0.mp q];rfl
     ·cases q
  have opn:(wd="errand"\/Fj wd)->un.length<=20:=λh=>by
   by_cases hn:un=[]
   ·rw [hn];exact N1 _
   ·obtain ⟨S,F,rfl⟩:=CY (T4.mpr hn)
    rw [BV] at ha
    have w:wd≠"end"/\¬ BJ wd:=by
     rcases h with rfl | rfl | rfl | rfl | rfl | rfl | rfl | rfl<;>lk
    rw [if_neg w.1,if_neg w.2] at ha
    rcases h with h | h
    ·rw [if_neg (by rw [h];lk)] at ha
     exact absurd h (of_decide_eq_true ha)
    ·rw [if_pos h] at ha
     rw [B0]
     exact of_decide_eq_true ha
  have nonempty:wd≠"errand"->∃ S F Cs b,un=S++[F]/\Bs=Cs++[b]/\Cs.length=S.length:=λh=>by
   by_cases hn:un=[]
   ·subst hn
    exact absurd (of_decide_eq_true ha) h
   ·obtain ⟨S,F,rfl⟩:=CY (T4.mpr hn)
    obtain ⟨Cs,b,e,hl⟩:=R.split
    exact ⟨S,F,Cs,b,rfl,e,hl⟩
  have open_:(wd="errand"\/Fj wd)->∀ {x:V},x=.ref ua->Lp [V.ref l,V.int n] H (λx_4 H1=>∀ (x_5 dx:Addr),H1 x_5=none->H1 dx=none->dx≠x_5->Lo T [V.ref x_5,x_4] (upd (upd H1 dx (HO.own x_5)) x_5 (HO.ins T.C_Unended dx [])) (λv H2=>v=V.non/\DT x [V.ref x_5] H2 λx H1=>Q V.non H1) E0) E0:=λh x ex=>by
   subst ex
   have w:wd≠"end"/\¬ BJ wd:=by
    rcases h with rfl | rfl | rfl | rfl | rfl | rfl | rfl | rfl<;>lk
   rw [if_neg w.1,if_neg w.2,if_pos h] at k
   refine ⟨l,_,n,rfl,hl,hf,λa H1 ha1 s1 x dx hx hdx hne=>?_⟩
   have hx2:upd H1 dx (.own x) x=none:=by rw [Ap (Ne.symm hne)];exact hx
   have sm:Ag H1 (upd (upd H1 dx (.own x)) x (.ins T.C_Unended dx [])):=(Ag.upd hdx).trans (Ag.upd hx2)
   refine ⟨x,dx,a,_,rfl,Ad,sm _ _ ha1,hrow,λb H2 eb U nr no B2=>⟨rfl,?_⟩⟩
   have s2:Ag H1 H2:=λy u hy=>B2 _ _ (λe=>by rw [e,hx] at hy;cases hy) (sm _ _ hy)
   have R1:=R.same s1
   have R2:=R1.same s2
   have own:∀ y∈b.own,H1 y=none:=λy hy=>by
    simp only [Ub.own,K0,A1,or_false] at hy
    rcases hy with rfl | rfl | rfl
    ·rw [eb];exact hx
    ·exact sm.free nr
    ·exact sm.free no
   have ndo:b.own.Nodup:=by
    have n1:b.r≠x:=λe=>by rw [e,Ad] at nr;cases nr
    have n2:b.o≠x:=λe=>by rw [e,Ad] at no;cases no
    unfold Ub.own
    simp [eb,Ne.symm n1,Ne.symm n2,U.ne]
   have hle:Bs.length<=21:=by rw [R.len];exact R.le
   refine ⟨ua,_,.ref x,rfl,rfl,R2.ul,by rw [L0];exact X2 hle (by kd_p),?_⟩
   have RP:=R1.push (opn h) s2 U own ndo (N1 _) (N1 _)
   rw [eb] at RP
   exact k _ _ (RP.mono (C3 _))
  by_cases h1:wd="end"
  ·obtain ⟨S,F,Cs,b,rfl,rfl,hl2⟩:=nonempty (by rw [h1];lk)
   rw [if_pos h1] at k
   exact BH (by rw [h1]) (R.ob.call ⟨H0,p,pa,ua,_,_,c,rfl,R,by simp,hc,k⟩)
  ·refine BI (λq=>h1 (V.str.inj q)) (inTW (T.twt H) ⟨_,rfl,?_⟩)
   by_cases h2:BJ wd
   ·obtain ⟨S,F,Cs,b,rfl,rfl,hl2⟩:=nonempty (by rcases h2 with rfl | rfl | rfl<;>lk)
    rw [if_neg h1,if_pos h2,Dg] at k
    have U:=R.top hl2
    refine BH h2 ?_
    refine R.ob.fld .unended rfl ?_
    refine R.ixTop ⟨b.p,rfl,U.ob.call ⟨l,_,rfl,Aw.of hl,λq hq=>⟨q,rfl,_,.inl ⟨Aw.of Ad,λq2 hq2=>?_⟩⟩⟩⟩
    rw [UO] at hq2 |-
    have s1:=Ag.upd (o:=.lst r) hq
    have s2:=s1.trans (Ag.upd (o:=.tup r) hq2)
    have hF:=R.ct.2 F (S0 _ C0)
    refine ⟨b,F,q2,r,rfl,U.same s2,Ad,by rw [P0] at hlen;lia,λv hv=>hfl v (A0 _ hv),λH3 U3 B3=>?_⟩
    refine k H3 (Cs++[{ b with t:=q2 }]) ((R.same s2).mod hl2 U3 rfl rfl rfl (λa u ha h=>B3 a u (λe=>ha (by simp [Ub.own,e])) h) (C3 _) (X3 hF.1) (X3 hF.2))
   ·refine BI h2 ⟨rfl,?_⟩
    by_cases h3:wd="errand"
    ·refine BH (by rw [h3]) ?_
     refine R.ob.fld .unended rfl ?_
     exact ⟨.inl ⟨_,Aw.of R.ul⟩,open_ (.inl h3) rfl⟩
    ·refine BI (λq=>h3 (V.str.inj q)) ⟨wd,rfl,?_⟩
     rw [decP]
     refine ⟨_,rfl,?_⟩
     by_cases h4:Fj wd
     ·refine BH h4 ?_
      refine R.ob.fld .unended rfl ?_
      exact ⟨.inl ⟨_,Aw.of R.ul⟩,open_ (.inr h4) rfl⟩
     ·obtain ⟨S,F,Cs,b,rfl,rfl,hl2⟩:=nonempty h3
      rw [if_neg h1,if_neg h2,if_neg (λq=>q.elim h3 h4),Dg] at k
      have U:=R.top hl2
      have hF:=R.ct.2 F (S0 _ C0)
      refine BI h4 ?_
      refine R.ob.fld .unended rfl ?_
      refine R.ixTop ⟨b.p,rfl,U.ob.call ⟨l,_,n,rfl,hl,hf,λa H1 ha1 s1=>?_⟩⟩
      have fl:∀ v∈MU (.str wd::r) n,Ch v=true:=λv hv=>by
       obtain ⟨z',n',r',e,_,hr'⟩:=hrow
       rw [e] at hv
       rcases K0.mp hv with rfl | hv
       ·rfl
       rcases K0.mp hv with rfl | hv
       ·rfl
       ·exact hr' v hv
      refine ⟨b,F,.ref a,_,rfl,U.same s1,ET.tup ha1 (By.flat fl),by lia,by lia,λH2 U2 k2=>?_⟩
      have hput:∀ t,(F.put t).rs.length<=c+1/\(F.put t).os.length<=c+1:=λt=>by
       unfold Fq.put
       split
       ·exact ⟨X3 hF.1,by rw [B0];exact g5 hF.2⟩
       ·exact ⟨by rw [B0];exact g5 hF.1,X3 hF.2⟩
      exact k H2 (Cs++[b]) ((R.same s1).mod hl2 U2 rfl rfl rfl (λa u ha h=>k2 a u (λe=>ha (by simp [Ub.own,e])) (λe=>ha (by simp [Ub.own,e])) h) (C3 _) (hput _).1 (hput _).2)
theorem Gf:Sc ["self"] ["self"] (AO (top 34) 4):=DD (by lk)
theorem Gk (T:Tx P w K mg):BD P w K mg base CX0 1 T.m_Reading_is_whole.f T.m_Reading_is_whole.fd ["self"] (MJ T):=by
 exists T.m_Reading_is_whole.F.ok Gf
 ·obtain ⟨H0,p,pa,ua,st,Bs,c,rfl,_⟩:=h
  rfl
 ·obtain ⟨H0,p,pa,ua,st,Bs,c,rfl,R,k⟩:=h
  have hu:=Do hr
  refine ⟨_,(Af (Am (Dm (Bv (FF hu) (Bx (pv 0) rfl) (Aj Ab) (Ak _)) (De (Bv (Fe hu) (Bx (pv 0) rfl) (Aj Ab) (Ak _)))))),?_⟩
  z_go
  obtain ⟨pg,un⟩:=st
  refine R.ob.fld .unended rfl ?_
  refine Mh R.ul λH1 s1=>⟨_,rfl,?_⟩
  have R1:=R.same s1
  have hlen:Bs.length=un.length:=R.len
  cases un with
  |nil =>
   obtain rfl:Bs=[]:=v1 hlen
   refine BH rfl ?_
   refine R1.ob.fld .prog rfl ?_
   obtain ⟨xs,x1,x2⟩:=R1.pr
   refine OS x1 λH2 s2=>?_
   have e:(!decide (xs=[]))=(([]:List Fq).isEmpty&&!pg.isEmpty):=by
    have:=x2.1
    cases xs with
    |nil =>
     rw [K1] at this
     have e2:pg=[]:=v1 this.symm
     rw [e2]
     rfl
    |cons y r =>
     cases ho:pg with
     |nil=>rw [show (⟨pg,[]⟩:St).pg=pg from rfl,ho] at this;cases this
     |cons _ _=>rfl
   rw [e]
   exact k H2 (s1.trans s2)
  |cons x r =>
   cases Bs with
   |nil=>cases hlen
   |cons y t=>exact BI (λq=>nomatch q) (k H1 s1)
theorem GF:Sc ["self", "line"] ["self", "line"] (AO (top 6) 0):=DD (by lk)
theorem GI (T:Tx P w K mg):BD P w K mg base CX0 1 T.m_BadRow___init__.f T.m_BadRow___init__.fd ["self", "line"] (Jd T.C_BadRow):=by
 exists T.m_BadRow___init__.F.ok GF
 ·obtain ⟨a,v,t,rfl,_⟩:=h
  rfl
 ·obtain ⟨a,v,t,rfl,ha,k⟩:=h
  refine ⟨_,(Af (ps_fldE (pv 0) (pv 1) rfl)),?_⟩
  z_go
  refine ⟨_,rfl,_,rfl,a,_,_,t,rfl,T.mk_BadRow.ex,T.tk_BadRow_line,.inl ⟨ha,λdx hx ne=>?_⟩⟩
  refine k dx _ hx ne ?_ Ad λb o hb e=>?_
  ·rw [Ap ne.symm];exact Ad
  ·have hbd:b≠dx:=λq=>by rw [q,hx] at e;cases e
   rw [Ap hbd,Ap hb];exact e
theorem EV:Sc ["text", "reading", "lines", "number", "line", "words", "fields"] ["text"] (top 35):=DD (by lk)
theorem ok_read (T:Tx P w K mg)
  (G_Reading___init__:BD P w K mg base CX0 1 T.m_Reading___init__.f T.m_Reading___init__.fd ["self"] (PM T))
  (G_first_fit:BO P w base T.d_first_fit 12 (PP T))
  (G_Reading_allows:BD P w K mg base CX0 3 T.m_Reading_allows.f T.m_Reading_allows.fd ["self", "word"] (Kn T))
  (G_Reading_put_line:BD P w K mg base CX0 5 T.m_Reading_put_line.f T.m_Reading_put_line.fd ["self", "fields", "number"] (Sy T))
  (G_Reading_is_whole:BD P w K mg base CX0 1 T.m_Reading_is_whole.f T.m_Reading_is_whole.fd ["self"] (MJ T))
  (G_BadRow___init__:BD P w K mg base CX0 1 T.m_BadRow___init__.f T.m_BadRow___init__.fd ["self", "line"] (Jd T.C_BadRow)):BD P w K mg base (CXD P w) 15 T.d_read.f T.d_read.fd ["text"] (PL T.C_BadRow):=by
 exists T.d_read.F.okD EV
 ·obtain ⟨z,rfl,_⟩:=h
  rfl
 ·obtain ⟨z,rfl,hz,k1,k2⟩:=h
  have hu:=Do hr
  have hu1:=Gw hr
  refine ⟨_,(Ae (As (i:=1) EV.nd rfl (Or.inl rfl) (Td T.M_Reading G_Reading___init__ (hr.mono (by lia)) rfl T.h_Reading T.m_Reading___init__.b .nil DO))
  (Ae (As (i:=2) EV.nd rfl (Or.inl rfl) (Br X1 X4 W4 EJ (pv 0) (Aa Ai Ab)))
  (Ae (Ey PassesOwn.leaving rfl (Ta rfl T.n_enumerate (pv 2)) (HG (n:=2) rfl (Bn (AK (i:=3) EV.nd rfl (Or.inl rfl)) (Bn (AK (i:=4) EV.nd rfl (Or.inl rfl)) Es)))
  (AB (Ec (i:=5) EV.nd rfl (Or.inl rfl) (N':=["word"]) (sel:=[none]) rfl rfl rfl (Fc (Br X1 X4 W4 EJ (pv 4) (Aa Ai Ab))) (Dz rfl) (λ_ _ _ _ _=>⟨(AK (i:=0) (show (["word"]:List Str).Nodup by lk) rfl (Or.inl rfl)),(IK (Ah Fm (pv 0) Ai (Ak _))),(pv 0)⟩) rfl)
  (Ae (Au (Ah (FF hu) (pv 5) (Aj Ab) (Ak _))
  (Af MZ)
  Ao)
  (Ae (As (i:=6) EV.nd rfl (Or.inl rfl) (AI T.d_first_fit G_first_fit hr (Aa (Ck (v:=.ref T.fma) rfl T.fmm rfl) (Aa (pv 5) (Aa (Ck (v:=.ref T.d_field_of.f) rfl T.d_field_of.hm rfl) Ab)))))
  (Ae (Au (PW.pt (Eb (Ah FE (pv 6) AQ (Ak _)) (Dd (DK (Cv (FU (pv 1) T.k_Reading T.m_Reading_allows.me G_Reading_allows (hr.mono (by lia)) T.m_Reading_allows.b .nil DO (Aa (Aq Al (pv 6) Ac (λ_ _=>rfl)) Ab)))))))
  (Af (Kw Qj rfl T.mk_BadRow G_BadRow___init__ (hr.mono (by lia)) rfl T.h_BadRow T.m_BadRow___init__.b (Aa (pv 3) Ab)))
  Ao)
  (Af (AR (FU (pv 1) T.k_Reading T.m_Reading_put_line.me G_Reading_put_line (hr.mono (by lia)) T.m_Reading_put_line.b .nil DO (Aa (pv 6) (Aa (pv 3) Ab))))))))))
  (Ae (Au (DK (Cv (Hc (pv 1) T.k_Reading T.m_Reading_is_whole.me G_Reading_is_whole (hr.mono (by lia)) T.m_Reading_is_whole.b .nil DO)))
  (Af (Kw Qj rfl T.mk_BadRow G_BadRow___init__ (hr.mono (by lia)) rfl T.h_BadRow T.m_BadRow___init__.b (Aa (At Az (by rfl) T.n_len AZ (Aa (pv 2) Ab)) Ab)))
  Ao)
  (Af (Am (AT Bo (by rfl) T.n_tuple Ce (Aa (Bx (pv 1) rfl) Ab)))))))),?_⟩
  z_go
  intro x dx hx hdx hxd
  have hx2:upd H dx (.own x) x=none:=by rw [Ap (Ne.symm hxd)];exact hx
  have sm:Ag H (upd (upd H dx (.own x)) x (.ins T.C_Reading dx [])):=(Ag.upd hdx).trans (Ag.upd hx2)
  refine ⟨x,dx,rfl,Ad,λpa ua H2 ob h1 h2 n1 n2 n3 B=>⟨rfl,?_⟩⟩
  have s2:Ag H H2:=λy u hy=>B _ _ (λe=>by rw [e,hx] at hy;cases hy) (sm _ _ hy)
  have hid:∀ a∈[x,pa,ua],H a=none:=λa ha=>by
   simp only [K0,A1,or_false] at ha
   rcases ha with rfl | rfl | rfl
   ·exact hx
   ·exact sm.free n1
   ·exact sm.free n2
  have oz:JX z=LF (Txt.split z ⟨#[10]⟩):=rfl
  have hc:=hz.cnt
  have hL:∀ l∈Txt.split z ⟨#[10]⟩,Fp l/\l.length<=5000:=λl hl=>⟨Hx hz.asc l hl,hz.each l hl⟩
  refine ⟨_,10,rfl,by rw [nl1],T0 hz.len (by kd_p),λq hq=>?_⟩
  generalize Txt.split z ⟨#[10]⟩=L at oz hc hL |-
  have s3:=Ag.upd (o:=.lst (L.map V.str)) hq
  have nq:q∉[x,pa,ua]:=λm=>by
   simp only [K0,A1,or_false] at m
   rcases m with rfl | rfl | rfl
   ·obtain ⟨d,f,e,_⟩:=ob.ex
    rw [hq] at e;cases e
   ·rw [hq] at h1;cases h1
   ·rw [hq] at h2;cases h2
  have R0:=RA.first (ob.same s3) (s3 _ _ h1) (s3 _ _ h2) n3
  have hq0:EM (upd H2 q (.lst (L.map V.str))) [x,pa,ua] q=some (.lst (L.map V.str)):=FY Ad nq
  have sH:Ag H (EM (upd H2 q (.lst (L.map V.str))) [x,pa,ua]):=HE (s2.trans s3) hid
  generalize EM (upd H2 q (.lst (L.map V.str))) [x,pa,ua]=H0 at R0 hq0 sH
  have hqq:upd H2 q (.lst (L.map V.str)) q=some (.lst (L.map V.str)):=Ad
  generalize upd H2 q (.lst (L.map V.str))=G at R0 hqq |-
  clear hq h1 h2 n1 n2 s2 s3 B ob sm hx2 hid nq
  unfold MD Ui
  refine ⟨_,rfl,q,rfl,⟨_,Aw.of hqq⟩,?_⟩
  refine Rt (K:=K) (a:=q) (xs:=L.map V.str) (λi σ G=>(∃ s Bs,RA T H0 G x pa ua s Bs i/\Dl (i+1) (L.drop i) s=Dl 1 L ⟨[],[]⟩)/\∃ v3 v4 v5 v6,σ=[some (V.str z),some (V.ref x),some (V.ref q),v3,v4,v5,v6]) ⟨⟨_,_,R0,rfl⟩,_,_,_,_,rfl⟩ ?_ ?_ ?_
  ·rintro i σ G1 hi ⟨⟨s,Bs,R,_⟩,_⟩
   exact Aw.of (R.out _ _ hq0)
  ·rintro i y p σ G1 hy ⟨⟨s,Bs,R,e⟩,v3,v4,v5,v6,rfl⟩ hp
   walk_at "w"
   refine Mh hD3 λG5 s5=>⟨_,rfl,?_⟩
   have R5:=R3.same s5
   have e':(if Co l=[] then Dl (i+1+1) (L.drop (i+1)) s else match step s ((i+1:Nat):Int) (Co l) with | none=>.inl ((i+1:Nat):Int) | some s'=>Dl (i+1+1) (L.drop (i+1)) s')=Dl 1 L ⟨[],[]⟩:=e
   have bad:Co l≠[]->step s ((i+1:Nat):Int) (Co l)=none->JX z=.inl ((i+1:Nat):Int):=λhw hs=>by
    rw [if_neg hw,hs] at e'
    rw [oz]
    unfold LF
    rw [<- e']
   have wok:=(Nw hlm.1 hlm.2).ok
   by_cases hw:Co l=[]
   ·rw [if_pos hw] at e'
    refine BH (by rw [hw];rfl) ?_
    exact ⟨⟨s,Bs,R5.mono (C3 _),e'⟩,_,_,_,_,rfl⟩
   ·rw [if_neg hw] at e'
    refine BI (λz=>hw (S4.mp z)) ?_
    refine ⟨D,Co l,rfl,s5 _ _ hD3,wok,λf1 G6 s6=>?_,λfs f1 lf G6 _ hlf s6=>?_⟩
    ·have hs:step s ((i+1:Nat):Int) (Co l)=none:=by unfold step;rw [f1]
     show if decide (V.non=V.non)=true then _ else _
     refine BH rfl ?_
     simp only [IG]
     z_go
     exact ⟨by kd_p,Ox (sH.trans (R5.out.trans s6)) (k2 _ (bad hw hs))⟩
    have R6:=R5.same s6
    obtain ⟨z0,r0,ez⟩:∃ z0 r0,Co l=z0::r0:=by
     cases h:Co l with
     |nil=>exact absurd h hw
     |cons a b=>exact ⟨a,b,rfl⟩
    have hh:fs.head?=some (.str z0):=GQ (by rw [<- ez];exact f1)
    have fok:QD fs:=by
     refine ⟨?_,FJ (F:=SL) (by lk) f1⟩
     cases fs with
     |nil=>cases hh
     |cons v t=>cases hh;exact ⟨_,_,rfl⟩
    have hstep:step s ((i+1:Nat):Int) (Co l)=if Be s z0=true then some (EY s z0 fs ((i+1:Nat):Int)) else none:=by
     unfold step
     rw [f1]
     show (match fs.head? with | some (.str w)=>if Be s w=true then some (EY s w fs ((i+1:Nat):Int)) else none | _=>none)=_
     rw [hh]
    obtain ⟨t0,rfl⟩:∃ t0,fs=.str z0::t0:=by
     cases fs with
     |nil=>cases hh
     |cons v t=>cases hh;exact ⟨_,rfl⟩
    refine BI (λz=>nomatch z) ?_
    refine R6.ob.call ⟨lf,_,0,.str z0,rfl,rfl,Aw.of hlf,Av (j:=0) rfl,H0,x,pa,ua,s,Bs,i,z0,rfl,R6,λG7 s7=>⟨_,rfl,?_⟩⟩
    have R7:=R6.same s7
    by_cases ha:Be s z0=true
    ·rw [ha]
     rw [hstep,if_pos ha] at e'
     refine L2.iteF ?_
     exact R7.ob.call ⟨H0,x,pa,ua,s,Bs,i,lf,z0,_,_,rfl,R7,by lia,s7 _ _ hlf,fok,rfl,ha,λG8 Bs' R8=>⟨⟨_,Bs',R8,e'⟩,by simp⟩⟩
    ·rw [Bool.not_eq_true] at ha
     rw [ha]
     have hs:step s ((i+1:Nat):Int) (Co l)=none:=by rw [hstep,ha];rfl
     refine L2.iteT ?_
     simp only [IG]
     z_go
     exact ⟨by kd_p,Ox (sH.trans R7.out) (k2 _ (bad hw hs))⟩
  ·rintro σ G1 ⟨⟨s,Bs,R,e⟩,v3,v4,v5,v6,rfl⟩
   rw [L0,S6] at e
   have e:.inr s=Dl 1 L ⟨[],[]⟩:=e
   have eo:JX z=if s.un=[]/\s.pg≠[] then .inr s.pg else .inl (L.length:Int):=by
    rw [oz]
    unfold LF
    rw [<- e]
   z_go
   refine R.ob.call ⟨H0,x,pa,ua,_,Bs,_,rfl,R,λH1 s1=>⟨_,rfl,?_⟩⟩
   have R1:=R.same s1
   by_cases hok:s.un=[]/\s.pg≠[]
   ·rw [if_pos hok] at eo
    have e1:(s.un.isEmpty&&!s.pg.isEmpty)=true:=by
     rw [hok.1]
     cases h:s.pg with
     |nil=>exact absurd h hok.2
     |cons _ _=>rfl
    rw [e1]
    refine L2.iteF ?_
    refine R1.ob.fld .prog rfl ?_
    obtain ⟨xs,x1,x2⟩:=R1.pr
    refine ⟨pa,rfl,_,.inl ⟨Aw.of x1,λl hl=>?_⟩⟩
    have s2:=Ag.upd (o:=.tup xs) hl
    exact k1 _ eo _ _ (ET.tup Ad (x2.sameT (AE s2))) ((sH.trans R1.out).trans s2)
   ·rw [if_neg hok] at eo
    have e1:(s.un.isEmpty&&!s.pg.isEmpty)=false:=by
     cases h:s.un with
     |nil =>
      cases h2:s.pg with
      |nil=>rfl
      |cons a b=>exact absurd ⟨h,by rw [h2];exact λq=>nomatch q⟩ hok
     |cons _ _=>rfl
    rw [e1]
    refine L2.iteT ?_
    simp only [IG]
    z_go
    refine ⟨_,AV.mpr (.inl ⟨_,Aw.of (R1.out _ _ hq0),rfl⟩),by kd_p,?_⟩
    rw [L0]
    exact Ox (sH.trans R1.out) (k2 _ eo)
theorem GD:Sc ["_law_e", "_law_told_here"] ["_law_e"] (top 50):=DD (by lk)
theorem OP (T:Tx P w K mg):NY P w K mg base CX0 1 T.d_l_alone.f T.d_l_alone.fd ["_law_e"] (PR K T.C_BadRow):=by
 exists T.d_l_alone.F.okA GD
 ·obtain ⟨a,d,rfl,_⟩:=h
  rfl
 ·obtain ⟨a,d,rfl,ha,hd,k⟩:=h
  refine ⟨_,(Ae (As (i:=1) GD.nd rfl (Or.inl rfl) (Aj (Aa (At (CM (K:=K) rfl) (by rfl) T.n_isinstance AH (Aa (pv 0) (Aa (Im rfl T.h_BadClock) Ab))) (Aa (At (CM (K:=K) rfl) (by rfl) T.n_isinstance AH (Aa (pv 0) (Aa (Im rfl T.h_NotWaiting) Ab))) Ab))))
  (Ae (As (i:=1) GD.nd rfl (Or.inl rfl) (An Bf (pv 1) (Aj (Aa (At (CM (K:=K) rfl) (by rfl) T.n_isinstance AH (Aa (pv 0) (Aa (Im rfl T.h_Over) Ab))) (Aa (At (CM (K:=K) rfl) (by rfl) T.n_isinstance AH (Aa (pv 0) (Aa (Im rfl T.h_BadDesk) Ab))) (Aa (At (CM (K:=K) rfl) (by rfl) T.n_isinstance AH (Aa (pv 0) (Aa (Im rfl T.h_BadRow) Ab))) (Aa (At (CM (K:=K) rfl) (by rfl) T.n_isinstance AH (Aa (pv 0) (Aa (Im rfl T.h_BadProgram) Ab))) Ab)))))))
  (Af (Am (Dm (At (CM (K:=K) rfl) (by rfl) T.n_isinstance AH (Aa (pv 0) (Aa (DU (v:=.ty "ValueError") rfl T.n_ValueError Kb rfl) Ab))) (De (Bv AF (Br j0 j8 PySem.F.type_list_count Rn (An Bf (pv 1) (Aj (Aa (At (CM (K:=K) rfl) (by rfl) T.n_isinstance AH (Aa (pv 0) (Aa (Im rfl T.h_BadBook) Ab))) Ab))) (Aa FC Ab)) Ac (Ak _)))))))),?_⟩
  z_go
  have is:∀ {G:Hp} {c:V} {cv:Value} {b:Bool} {R:VK},Ag H G->((∃ D,c=.ref D/\cv=.ref D)\/∃ n,c=.ty n/\cv=.type n)->W1 K (.ref T.C_BadRow) cv=some b->R (.bl b) G->rIsD K [.ref a,c] G R:=λ{G c cv b R} s h1 h2 h3=>⟨a,_,d,_,_,b,rfl,s _ _ ha,(λdx e=>let ⟨fs,h⟩:=hd dx e;⟨fs,s _ _ h⟩),h1,T.ec,T.al.fc,h2,h3⟩
  refine is (Ag.refl _) (.inl ⟨_,rfl,rfl⟩) T.al.k1 (is (Ag.refl _) (.inl ⟨_,rfl,rfl⟩) T.al.k2 ⟨by kd_p,λp hp=>?_⟩)
  walk_at "c p hp G1 s1 l1"
  refine is s1 (.inl ⟨_,rfl,rfl⟩) T.al.k3 (is s1 (.inl ⟨_,rfl,rfl⟩) T.al.k4 (is s1 (.inl ⟨_,rfl,rfl⟩) T.al.ks (is s1 (.inl ⟨_,rfl,rfl⟩) T.al.k5 ⟨by kd_p,λp1 hp1=>?_⟩)))
  have s2:=Ag.upd (o:=.lst [V.bl false,V.bl false,V.bl true,V.bl false]) hp1
  refine ⟨p,p1,_,_,rfl,rfl,s2 _ _ l1,Ad,by kd_p,λq hq=>?_⟩
  have s3:=Ag.upd (o:=.lst ([V.bl false,V.bl false]++[V.bl false,V.bl false,V.bl true,V.bl false])) hq
  have sA:=s1.trans (s2.trans s3)
  have lq:=Ad (H:=upd G1 p1 (.lst [V.bl false,V.bl false,V.bl true,V.bl false])) (a:=q) (o:=.lst ([V.bl false,V.bl false]++[V.bl false,V.bl false,V.bl true,V.bl false]))
  generalize upd (upd G1 p1 (.lst [V.bl false,V.bl false,V.bl true,V.bl false])) q (.lst ([V.bl false,V.bl false]++[V.bl false,V.bl false,V.bl true,V.bl false]))=G2 at sA lq |-
  refine is sA (.inr ⟨_,rfl,rfl⟩) T.al.kv ⟨true,rfl,?_⟩
  rw [if_pos rfl]
  refine is sA (.inl ⟨_,rfl,rfl⟩) T.al.k6 ⟨by kd_p,λr hr0=>?_⟩
  have s4:=Ag.upd (o:=.lst [V.bl false]) hr0
  refine ⟨q,r,_,_,rfl,rfl,s4 _ _ lq,Ad,by kd_p,λu hu0=>⟨.inl ⟨_,Aw.of Ad⟩,u,rfl,[false,false,false,false,true,false,false],Ad,rfl,?_⟩⟩
  exact k _ (sA.trans (s4.trans (Ag.upd hu0)))
theorem MQ:Sc ["_law_word", "_law_least", "_law_most"] ["_law_word", "_law_least", "_law_most"] (top 51):=DD (by lk)
theorem Nj (T:Tx P w K mg):BO P w base T.d_l_number 1 Oo:=by
 exists T.d_l_number.F.ok MQ
 ·obtain ⟨z,lo,hi,rfl,_⟩:=h
  rfl
 ·obtain ⟨z,lo,hi,rfl,ha,hz,k⟩:=h
  have hu:=Do hr
  have hz2:z.length<=sizeLine:=T0 hz (by kd_p)
  refine ⟨_,(Ae (Au (PW.pt (Eb (Ah AF (pv 0) Ai (Ak _)) (Dd (Ah Gr (At Az (by rfl) T.n_len AZ (Aa (pv 0) Ab)) Ac (Ak _)))))
  (Af (Am AQ))
  Ao)
  (Ae (Au (Ah (Fe hu) (Qb (N':=["_law_sign_here"]) (sel:=[none]) rfl rfl rfl (OE (pv 0)) (Dz rfl) (λ_ _ _ _ _=>⟨(AK (i:=0) (show (["_law_sign_here"]:List Str).Nodup by lk) rfl (Or.inl rfl)),(IK (Ah LH (pv 0) Ai (by with_unfolding_all rfl))),(pv 0)⟩)) (Aj Ab) (Ak _))
  (Af (Am AQ))
  Ao)
  (Ae (Au (PW.pt (Eb (PW.pt (BR (Ah AF (Aq Uc (pv 0) Ac (λ_ _=>rfl)) Ai (Ak _)) (BM (Ah Fm (pv 0) Ai (Ak _))))) (Dd (DK (FB FD FD (pv 1) (AT Ia (by rfl) T.n_int EC (Aa (pv 0) Ab)) (pv 2))))))
  (Af (Am AQ))
  Ao)
  (Af (Am (AT Ia (by rfl) T.n_int EC (Aa (pv 0) Ab))))))),?_⟩
  z_go
  have hF:Go z=false->∀ H',Ag H H'->Q V.non H':=λe H' s=>by
   have e2:Fi z lo hi=.non:=by unfold Fi GJ;rw [e];rfl
   have:=k H' s
   rw [e2] at this
   exact this
  refine ⟨rfl,?_⟩
  by_cases h0:z=""
  ·exact BH h0 (hF (by rw [h0];lk) H (Ag.refl H))
  refine BI h0 ⟨hz2,?_⟩
  have h1:1<=z.length:=by
   rcases Nat.eq_zero_or_pos z.length with e | e
   ·exact absurd (z0 e) h0
   ·exact e
  by_cases h2:6<z.length
  ·refine BH (by lia) (hF ?_ H (Ag.refl H))
   unfold Go
   rw [decide_eq_false (show ¬ z.length<=6 by lia),N5,Q2]
  refine BI (by lia) ?_
  have h2:z.length<=6:=by lia
  simp only [tLc,iStr]
  z_go
  refine OZ (λi ys H'=>H'=H/\ys=((z.cps.toList.take i).filter λc=>!LW c).map λc=>V.str ⟨#[c]⟩) ⟨rfl,rfl⟩ ?_ hz2 ?_ ?_
  ·rintro i ys H' hi ⟨rfl,rfl⟩
   rw [L0]
   refine T0 (Y3 _ _) ?_
   rw [j1]
   lia
  ·rintro i c ys H' hc ⟨rfl,rfl⟩
   have hm:=E1 hc
   have ef:=FK (f:=λc=>!LW c) hc
   x_go
   rw [dig128 ⟨c,ha c hm⟩,Bool.not_not]
   cases hd:LW c with
   |true =>
    rw [hd,if_neg (by kd_p)] at ef
    rw [if_neg (by kd_p),ef]
   |false =>
    rw [hd,if_pos (show (!false)=true from rfl)] at ef
    rw [if_pos (show (!false)=true from rfl),ef,o0]
    rfl
  ·rintro ys H' ⟨rfl,rfl⟩ D hD
   have s1:=Ag.upd (o:=.lst (((z.cps.toList.take z.length).filter λc=>!LW c).map λc=>V.str ⟨#[c]⟩)) hD
   refine emL Ad λG s2=>⟨_,rfl,?_⟩
   have s12:=s1.trans s2
   have et:z.cps.toList.take z.length=z.cps.toList:=T2
   rw [et]
   by_cases hall:z.cps.toList.all LW=true
   ·have en:((z.cps.toList.filter λc=>!LW c).map λc=>V.str ⟨#[c]⟩)=[]:=by
     rw [S4,V3]
     intro c hc
     rw [W2.mp hall c hc]
     decide
    rw [en]
    have hg:Go z=true:=by unfold Go;rw [decide_eq_true h1,decide_eq_true h2,hall];rfl
    have hI:=NL hg
    rw [if_neg (by kd_p)]
    have k1:=k _ s12
    obtain ⟨c,r,ez⟩:=JH h1
    refine ⟨z,0,c,rfl,rfl,hz2,Av (j:=0) (by rw [ez];rfl),rfl,?_⟩
    have ez0:Str.ofString "0"=⟨#[48]⟩:=by lk
    have hst:Txt.startswith z "0"=decide (c=48):=by rw [show ("0":Str)=⟨#[48]⟩ from ez0];exact Hw ez
    unfold Fi GJ at k1
    rw [if_pos hg,hst] at k1
    have fin:∀ n:Int,intText? z=some n->(if lo<=n/\n<=hi then V.int n else V.non)=(if lo<=n/\n<=hi then V.int n else V.non)->Q (if lo<=n/\n<=hi then V.int n else V.non) G->∃ x,intText? z=some x/\z.length<=640/\(if decide (lo<=x)=true then if (!decide (x<=hi))=true then Q V.non G else ∃ x,intText? z=some x/\z.length<=640/\Q (V.int x) G else if (!false)=true then Q V.non G else ∃ x,intText? z=some x/\z.length<=640/\Q (V.int x) G):=λn hn _ q=>by
     refine ⟨n,hn,by lia,?_⟩
     by_cases l1:lo<=n
     ·refine BH l1 ?_
      by_cases l2:n<=hi
      ·rw [if_pos ⟨l1,l2⟩] at q
       exact Eg l2 ⟨n,hn,by lia,q⟩
      ·rw [if_neg (λe=>l2 e.2)] at q
       exact Ef l2 q
     ·rw [if_neg (λe=>l1 e.1)] at q
      exact BI l1 (by rw [if_pos (show (!false)=true from rfl)];exact q)
    by_cases c0:c=48
    ·have e1:V.str ⟨#[c]⟩=V.str (Str.ofString "0"):=by rw [ez0,c0]
     refine BH e1 ⟨rfl,?_⟩
     by_cases hzz:z="0"
     ·refine Eg hzz ?_
      rw [if_neg (λq=>q.2 hzz)] at k1
      exact fin _ hI rfl k1
     ·rw [if_pos ⟨decide_eq_true c0,hzz⟩] at k1
      exact Ef hzz k1
    ·have e1:V.str ⟨#[c]⟩≠V.str (Str.ofString "0"):=λe=>by
      rw [ez0] at e
      cases e
      exact c0 rfl
     rw [if_neg (λq=>c0 (of_decide_eq_true q.1))] at k1
     refine BI e1 ?_
     rw [if_neg Q0]
     exact fin _ hI rfl k1
   ·have hg:Go z=false:=by unfold Go;rw [decide_eq_true h1,decide_eq_true h2,Bool.eq_false_iff.mpr hall];rfl
    have en:((z.cps.toList.filter λc=>!LW c).map λc=>V.str ⟨#[c]⟩)≠[]:=λe=>hall (by
     rw [S4,V3] at e
     rw [W2]
     intro c hc
     have:=e c hc
     cases hd:LW c
     ·rw [hd] at this;exact absurd rfl this
     ·rfl)
    rw [decide_eq_false en]
    exact hF hg _ s12
theorem HB:Sc ["_law_word", "_law_keys"] ["_law_word"] (top 52):=DD (by lk)
theorem Rk (T:Tx P w K mg):BO P w base T.d_l_name 1 IJ:=by
 exists T.d_l_name.F.ok HB
 ·obtain ⟨z,rfl,_⟩:=h
  rfl
 ·obtain ⟨z,rfl,ha,hz,k⟩:=h
  have hu:=Do hr
  refine ⟨_,(Ae (As (i:=1) HB.nd rfl (Or.inl rfl) (Aj (Bi (zs:=["any", "ask", "begin", "but", "do", "end", "errand", "give", "group", "hear", "in", "keep", "last"]) (by lk))))
  (Ae (As (i:=1) HB.nd rfl (Or.inl rfl) (An Bf (pv 1) (Aj (Bi (zs:=["late", "let", "limit", "off", "raise", "repeat", "ring", "send", "take", "try"]) (by lk)))))
  (Ae (Au (PW.pt (Eb (Ah Gr (At Az (by rfl) T.n_len AZ (Aa (pv 0) Ab)) Ac (Ak _)) (Dd (Ah BK (pv 0) (An Bf (pv 1) (Aj (Bi (zs:=["wait", "when", "within", ""]) (by lk)))) (by with_unfolding_all rfl)))))
  (Af (Am AQ))
  Ao)
  (Ae (Au (PW.pt (Eb (DK (MY (Ez X1 c8 Z8 Jt (pv 0)) (λ_=>rfl))) (Dd (Ah Fm (Ez X1 v8 u8 Nr (pv 0)) (pv 0) (Ak _)))))
  (Af (Am AQ))
  Ao)
  (Af (Am (pv 0))))))),?_⟩
  z_go
  have hF:∀ {G},Ag H G->Ay z=false->Q .non G:=λs e=>Tv e (k _ s)
  have en:=Ty ha
  walk_at "a1"
  walk_at "a2"
  refine ⟨p1,p2,_,_,rfl,rfl,s2 _ _ l1,l2,by kd_p,λp3 hp3=>?_⟩
  walk_at "b3"
  have s13:=(s1.trans s2).trans s3
  refine ⟨T0 hz (by kd_p),?_⟩
  by_cases h8:8<z.length
  ·exact BH (by lia) (hF s13 (by rw [en,decide_eq_false (show ¬ z.length<=8 by lia)];rfl))
  refine BI (by lia) ⟨by kd_p,λp4 hp4=>?_⟩
  walk_at "b4"
  refine ⟨p3,p4,_,_,rfl,rfl,s4 _ _ l3,l4,by kd_p,λp5 hp5=>?_⟩
  walk_at "b5"
  have s15:=s13.trans (s4.trans s5)
  have l5':G5 p5=some (.lst ((FN++[Str.ofString ""]).map V.str)):=by rw [l5,Vc];rfl
  refine ⟨p5,_,rfl,.inl (Aw.of l5'),rfl,EO _,?_⟩
  rw [if_neg Q0,JB]
  refine ⟨_,rfl,?_⟩
  by_cases hk:z∈FN++[Str.ofString ""]
  ·rw [if_pos (decide_eq_true hk)]
   refine hF s15 ?_
   rcases X0.mp hk with q | q
   ·rw [en,decide_eq_true q,g8,N5,Q2]
   ·rw [M0.mp q];lk
  rw [if_neg (by rw [decide_eq_false hk];exact Q0)]
  have hk1:z∉FN:=λq=>hk (p0 _ q)
  rw [decide_eq_true (show z.length<=8 by lia),decide_eq_false hk1,X8,K4,K4] at en
  refine ⟨_,rfl,?_⟩
  cases hA:Txt.isalpha z with
  |false =>
   rw [hA,Q2] at en
   exact hF s15 en
  |true =>
   rw [hA,K4] at en
   rw [if_neg (by kd_p)]
   refine ⟨by rw [KF ha];exact T0 hz (by kd_p),rfl,?_⟩
   by_cases hl:Txt.lower z=z
   ·rw [decide_eq_true hl] at en
    exact Eg hl (name_is en (k _ s15))
   ·rw [decide_eq_false hl] at en
    exact Ef hl (hF s15 en)
theorem Ot:Sc ["_law_word"] ["_law_word"] (top 53):=DD (by lk)
theorem OJ (T:Tx P w K mg)
  (G_l_name:BO P w base T.d_l_name 1 IJ)
  (G_l_number:BO P w base T.d_l_number 1 Oo):BO P w base T.d_l_value 2 ML:=by
 exists T.d_l_value.F.ok Ot
 ·obtain ⟨z,rfl,_⟩:=h
  rfl
 ·obtain ⟨z,rfl,ha,hz,k⟩:=h
  have hu:=Do hr
  have hz2:z.length<=sizeLine:=T0 hz (by kd_p)
  refine ⟨_,(Ae (Au (Ah AF (AC EU (pv 0) AS (AN Ac)) Ai (Ak _))
  (Ae (Au (PW.pt (BR (FB Et Et Ac (At Az (by rfl) T.n_len AZ (Aa (pv 0) Ab)) Ac) (BR (MY (Ez X1 c8 Z8 Jt (AC EU (pv 0) (AN Ac) AS)) (λ_=>rfl)) (BM (Ah AF (Ez X1 v8 u8 Nr (pv 0)) (pv 0) (Ak _))))))
  (Af (Am (pv 0)))
  Ao)
  (Af (Am AQ)))
  Ao)
  (Ae (Au (Ah LI (AI T.d_l_name G_l_name hr (Aa (pv 0) Ab)) AQ (Ak _))
  (Af (Am (pv 0)))
  Ao)
  (Af (Am (AI T.d_l_number G_l_number hr (Aa (pv 0) (Aa Ac (Aa Ac Ab)))))))),?_⟩
  z_go
  refine ⟨hz2,rfl,?_⟩
  by_cases hc:CG z none (some 1)=":"
  ·have ev:=Mu ha hc
   have no:¬ (1<z.length/\z.length<10/\Txt.isalpha (CG z (some 1) none)=true/\Txt.lower z=z)->Q .non H:=λq=>by
    have:=k H (Ag.refl H)
    rw [ev,if_neg q] at this
    exact this
   refine BH hc ⟨hz2,?_⟩
   by_cases h1:1<z.length
   ·refine BH (by lia) ?_
    by_cases h2:z.length<10
    ·refine BH (by lia) ⟨hz2,_,rfl,?_⟩
     cases hA:Txt.isalpha (CG z (some 1) none) with
     |false =>
      rw [if_neg Q0,if_neg Q0]
      exact no λq=>by rw [hA] at q;exact nomatch q.2.2.1
     |true =>
      rw [if_pos rfl]
      refine ⟨by rw [KF ha];exact hz2,rfl,?_⟩
      by_cases hl:Txt.lower z=z
      ·refine BH hl ?_
       have:=k H (Ag.refl H)
       rw [ev,if_pos ⟨h1,h2,hA,hl⟩] at this
       exact this
      ·exact BI hl (no λq=>hl q.2.2.2)
    ·refine BI (by lia) ?_
     rw [if_neg Q0]
     exact no λq=>h2 q.2.1
   ·refine BI (by lia) ?_
    rw [if_neg Q0,if_neg Q0]
    exact no λq=>h1 q.1
  ·have ev:=Mt hc
   refine BI hc ⟨z,rfl,ha,hz,λG s=>?_⟩
   have kG:=k G s
   rw [ev] at kG
   unfold Io
   by_cases hn:Ay z=true
   ·rw [if_pos hn] at kG |-
    exact Ef (λe=>nomatch e) kG
   ·rw [if_neg hn] at |-
    refine Eg rfl ⟨z,0,999999,rfl,ha,hz,λG2 s2=>?_⟩
    have kG:=k G2 (s.trans s2)
    rw [ev,if_neg hn] at kG
    exact kG
theorem BS:Sc ["_law_kinds", "_law_words_here", "_law_found", "_law_kind", "_law_word", "_law_thing"] ["_law_kinds", "_law_words_here"] (top 54):=DD (by lk)
theorem Nf (T:Tx P w K mg)
  (G_l_value:BO P w base T.d_l_value 2 ML)
  (G_l_name:BO P w base T.d_l_name 1 IJ)
  (G_l_number:BO P w base T.d_l_number 1 Oo):BO P w base T.d_l_things 3 MH:=by
 exists T.d_l_things.F.ok BS
 ·obtain ⟨ka,wa,ks,w0,ws,rfl,_⟩:=h
  rfl
 ·obtain ⟨ka,wa,ks,w0,ws,rfl,hk,hw,hkl,hA,kk⟩:=h
  have hu:=Do hr
  refine ⟨_,(AB (Au (Ah Fm (At Az (by rfl) T.n_len AZ (Aa (pv 0) Ab)) (An LG (At Az (by rfl) T.n_len AZ (Aa (pv 1) Ab)) Ac) (Ak _))
  (Af (Am AQ))
  Ao)
  (Ae (As (i:=2) BS.nd rfl (Or.inl rfl) (Aj Ab))
  (Ae (Ey PassesOwn.never rfl (SZ rfl T.n_zip (Aa (pv 0) (Aa (AC Bu (pv 1) (AN Ac) AS) Ab))) (HG (n:=2) rfl (Bn (AK (i:=3) BS.nd rfl (Or.inl rfl)) (Bn (AK (i:=4) BS.nd rfl (Or.inl rfl)) Es)))
  (Ae (As (i:=5) BS.nd rfl (Or.inl rfl) (pv 4))
  (AB (Au (Ah AF (pv 3) Ai (Ak _))
  (Af (As (i:=5) BS.nd rfl (Or.inl rfl) (AI T.d_l_value G_l_value hr (Aa (pv 4) Ab))))
  (Af (Au (Ah AF (pv 3) Ai (Ak _))
  (Af (As (i:=5) BS.nd rfl (Or.inl rfl) (AI T.d_l_name G_l_name hr (Aa (pv 4) Ab))))
  (Af (Au (PW.pt (Eb (Ah AF (pv 3) Ai (Ak _)) (Dd (Ah AF (pv 3) Ai (Ak _)))))
  (Af (As (i:=5) BS.nd rfl (Or.inl rfl) (AI T.d_l_number G_l_number hr (Aa (pv 4) (Aa Ac (Aa (Aq Al (Aj (Aa Ac (Aa Ac Ab))) (AT Gb (by rfl) T.n_int EC (Aa (Bv AF (pv 3) Ai (Ak _)) Ab)) (λ_ _=>rfl)) Ab))))))
  (Af (Au (Ah Fm (pv 3) (pv 4) (Ak _))
  (Af (As (i:=5) BS.nd rfl (Or.inl rfl) AQ))
  Ao)))))))
  (AB (Au (Ah FE (pv 5) AQ (Ak _))
  (Af (Am AQ))
  Ao)
  (Af (AR (Br j0 v0 u0 AU (pv 2) (Aa (pv 5) Ab))))))))
  (Af (Am (pv 2)))))),?_⟩
  z_go
  refine ⟨λσ' G=>σ'=[some (.ref ka),some (.ref wa),none,none,none,none]/\G=H/\ks.length=ws.length,?_,?_⟩
  ·z_go
   refine ⟨_,AV.mpr (.inl ⟨_,Aw.of hk,rfl⟩),_,AV.mpr (.inl ⟨_,Aw.of hw,rfl⟩),rfl,?_⟩
   rw [L0,L0,P0]
   by_cases hlen:ks.length=ws.length
   ·exact Eg (by lia) hlen
   ·refine Ef (by lia) (kk .non H ?_ (Ag.refl H))
    unfold CI
    rw [if_neg hlen]
    rfl
  rintro σ' G ⟨rfl,rfl,hlen⟩
  z_go
  refine ⟨by kd_p,λp hp=>?_⟩
  walk_at "c p hp G1 s1 hp1"
  refine So rfl rfl (s1 _ _ hk) (s1 _ _ hw) λq G2 hq0 s2 hq=>?_
  have pq:q≠p:=λe=>by
   rw [e,hp1] at hq0
   cases hq0
  refine for_zip (K:=K) (a:=ka) (b:=q) (xs:=ks.map V.str) (ys:=ws.map V.str) (by rw [L0,L0,hlen]) (λi σ J=>∃ (o3 o4 o5:Option V),σ=[some (.ref ka),some (.ref wa),some (.ref p),o3,o4,o5]/\J p=some (.lst (N2 AD (ks.take i) (ws.take i)))/\CA .non (N2 AD (ks.take i) (ws.take i))=false/\J q=some (.lst (ws.map V.str))/\Ag G J)
   ⟨none,none,none,rfl,s2 _ _ hp1,rfl,hq,s1.trans s2⟩ ?_ ?_ ?_
  ·rintro i σ J hi ⟨_,_,_,_,_,_,hj,sj⟩
   exact ⟨Aw.of (sj _ _ hk),Aw.of hj⟩
  ·rintro i x y r σ J hx hy ⟨o3,o4,o5,rfl,hjp,hin,hjq,sj⟩ hr0
   rw [Z1] at hx hy
   obtain ⟨kd,hkd,rfl⟩:=K2.mp hx
   obtain ⟨wd,hwd,rfl⟩:=K2.mp hy
   have hwA:=hA.2 wd (A0 _ (E1 hwd))
   have hi10:i<10:=by have:=(d0.mp hkd).1;lia
   simp only [Ur,Gy,Ma]
   z_go
   refine ⟨_,Cn.of Ad,rfl,_,_,rfl,_,_,rfl,rfl,?_⟩
   walk_at "c r hr0 J3 s3 zq"
   refine ⟨λσ' J'=>σ'=[some (.ref ka),some (.ref wa),some (.ref p),some (.str kd),some (.str wd),some (AD kd wd)]/\Ag J3 J',?_,?_⟩
   ·z_go
    have d4:∀ {a b:Str},a≠b->kd=b->kd≠a:=λh e q=>h (q.symm.trans e)
    refine ⟨rfl,?_⟩
    by_cases h1:kd="v"
    ·exact BH h1 ⟨wd,rfl,hwA.2,hwA.1,λJ4 s4=>⟨by unfold AD;rw [if_pos h1],s4⟩⟩
    refine BI h1 ⟨rfl,?_⟩
    by_cases h2:kd="n"
    ·exact BH h2 ⟨wd,rfl,hwA.2,hwA.1,λJ4 s4=>⟨by unfold AD Io;rw [if_neg h1,if_pos h2],s4⟩⟩
    refine BI h2 ⟨rfl,?_⟩
    by_cases h3:kd="c"
    ·refine BH h3 ⟨by kd_p,λp5 hp5=>⟨rfl,.inr ?_⟩⟩
     rw [if_neg (by rw [h3];lk)]
     have s5:=Ag.upd (o:=.lst [.int 99,.int 9]) hp5
     refine ⟨p5,_,_,_,rfl,rfl,Aw.of Ad,Av (j:=0) rfl,wd,1,99,rfl,hwA.2,hwA.1,λJ4 s4=>⟨by unfold AD;rw [if_neg h1,if_neg h2,if_pos h3],s5.trans s4⟩⟩
    refine BI h3 ⟨rfl,?_⟩
    by_cases h4:kd="t"
    ·refine BH h4 ⟨by kd_p,λp5 hp5=>⟨rfl,.inr ?_⟩⟩
     rw [if_pos (decide_eq_true h4)]
     have s5:=Ag.upd (o:=.lst [.int 99,.int 9]) hp5
     refine ⟨p5,_,_,_,rfl,rfl,Aw.of Ad,Av (j:=1) rfl,wd,1,9,rfl,hwA.2,hwA.1,λJ4 s4=>⟨by unfold AD;rw [if_neg h1,if_neg h2,if_neg h3,if_pos h4],s5.trans s4⟩⟩
    refine BI h4 ⟨rfl,?_⟩
    have el:AD kd wd=if kd=wd then .str wd else .non:=Hu (λq=>q.elim h1 λq=>q.elim h2 λq=>q.elim h3 h4)
    by_cases h5:kd=wd
    ·exact Eg h5 ⟨by rw [el,if_pos h5],Ag.refl _⟩
    ·exact Ef h5 ⟨by rw [el,if_neg h5],Ag.refl _⟩
   ·rintro σ' J4 ⟨rfl,s4⟩
    have s34:=s3.trans s4
    refine ⟨λσ' J'=>σ'=[some (.ref ka),some (.ref wa),some (.ref p),some (.str kd),some (.str wd),some (AD kd wd)]/\J'=J4/\AD kd wd≠.non,?_,?_⟩
    ·z_go
     by_cases h6:AD kd wd=.non
     ·refine BH h6 (kk .non J4 ?_ (sj.trans s34))
      rw [ths_bad hlen hkd hwd h6]
      rfl
     ·exact BI h6 h6
    ·rintro σ' J' ⟨rfl,rfl,hnn⟩
     z_go
     have hp4:=s34 _ _ hjp
     refine ⟨.inl ⟨_,Aw.of hp4⟩,p,_,_,rfl,rfl,hp4,?_,?_,?_,?_,?_⟩
     ·exact X2 (show _<=10 by rw [Z6,j1];lia) (by kd_p)
     ·rw [Ad,Mq hkd hwd]
     ·rw [Mq hkd hwd,Uh,hin,UB hnn (Oh _ _)];rfl
     ·rw [Ap pq];exact s34 _ _ hjq
     ·exact CU (sj.trans s34) hp
  ·rintro σ J ⟨o3,o4,o5,rfl,hjp,hin,hjq,sj⟩
   rw [L0,T2,hlen,T2] at hjp hin
   z_go
   refine kk _ _ ?_ sj
   unfold CI
   rw [if_pos hlen,if_neg (by rw [hin];exact Q0)]
   exact ⟨p,rfl,hjp⟩
theorem EG:Sc ["_law_words_here", "_law_kinds", "_law_told_here", "_law_found", "_law_limit"] ["_law_words_here"] (top 55):=DD (by lk)
theorem Tn (T:Tx P w K mg)
  (G_l_things:BO P w base T.d_l_things 3 MH):BO P w base T.d_l_row 4 SD:=by
 exists T.d_l_row.F.ok EG
 ·obtain ⟨wa,z,ws,rfl,_⟩:=h
  rfl
 ·obtain ⟨wa,z,ws,rfl,hw,hA,h1,h2,kk⟩:=h
  have hu:=Do hr
  have hu1:=Gw hr
  refine ⟨_,(Ae (As (i:=1) EG.nd rfl (Or.inl rfl) (Hd (Bm Ai Ai (Bm Ai Ai (Bm Ai Ai (Bm Ai Ai (Bm Ai Ai (Bm Ai Ai Hb)))))) rfl rfl (by simp) (by kd_p)))
  (Ae (AR (Br M5 A6 A7 HK (pv 1) (Aa (Hd (Bm Ai Ai (Bm Ai Ai (Bm Ai Ai (Bm Ai Ai (Bm Ai Ai Hb))))) rfl rfl (by simp) (by kd_p)) Ab)))
  (Ae (AR (Br M5 A6 A7 HK (pv 1) (Aa (Hd (Bm Ai Ai (Bm Ai Ai (Bm Ai Ai (Bm Ai Ai Hb)))) rfl rfl (by simp) (by kd_p)) Ab)))
  (Ae (AR (Br M5 A6 A7 HK (pv 1) (Aa (Hd (Bm Ai Ai (Bm Ai Ai (Bm Ai Ai Hb))) rfl rfl (by simp) (by kd_p)) Ab)))
  (AB (Au (Ah AF (Aq Al (pv 0) Ac (λ_ _=>rfl)) Ai (Ak _))
  (Ae (As (i:=2) EG.nd rfl (Or.inl rfl) (Aq Al (Aj (Aa (Aj (Bi (zs:=["n", "n", "in", "n"]) (by lk))) (Aa (Aj (Bi (zs:=["n", "n", "in", "n", "within", "c"]) (by lk))) Ab))) (AT Gb (by rfl) T.n_int EC (Aa (Bv Gr (At Az (by rfl) T.n_len AZ (Aa (pv 0) Ab)) Ac (Ak _)) Ab)) (λ_ _=>rfl)))
  (Ae (As (i:=3) EG.nd rfl (Or.inl rfl) (AI T.d_l_things G_l_things hr (Aa (pv 2) (Aa (pv 0) Ab))))
  (AB (Au (Ah FE (pv 3) AQ (Ak _))
  (Af (Am AQ))
  Ao)
  (Ae (As (i:=4) EG.nd rfl (Or.inl rfl) (EI (Ah Gr (At Az (by rfl) T.n_len AZ (Aa (pv 3) Ab)) Ac (Ak _)) (Aq Al (pv 3) Ac (λ_ _=>rfl)) Ac))
  (Af (Am (Bh (Aa Ai (Aa (Aq Al (pv 3) Ac (λ_ _=>rfl)) (Aa (Aq Al (pv 3) Ac (λ_ _=>rfl)) (Aa (Aq Al (pv 3) Ac (λ_ _=>rfl)) (Aa (pv 4) Ab))))))))))))
  Ao)
  (AB (Au (OA (Re hu1 (Aq Al (pv 0) Ac (λ_ _=>rfl)) (pv 1)))
  (Af (Am AQ))
  Ao)
  (Ae (As (i:=3) EG.nd rfl (Or.inl rfl) (AI T.d_l_things G_l_things hr (Aa (AT (Po rfl) (by rfl) T.n_list bt_list (Aa (pe_dget hu1 (pv 1) (Aq Al (pv 0) Ac (λ_ _=>rfl)) (λ_ _=>rfl)) Ab)) (Aa (pv 0) Ab))))
  (AB (Au (Ah FE (pv 3) AQ (Ak _))
  (Af (Am AQ))
  Ao)
  (Af (Am (An CV (Bh (Aa (Aq Al (pv 0) Ac (λ_ _=>rfl)) Ab)) (AT Bo (by rfl) T.n_tuple Ce (Aa (pv 3) Ab))))))))))))),?_⟩
  z_go
  refine JK (kvs:=KA) (by kd_p) λp1 G1 hp1 s1 l1=>⟨.inr (.inr (.inl (.inl ⟨_,l1⟩))),?_⟩
  refine JK (kvs:=KB) (by kd_p) λp2 G2 hp2 s2 l2=>⟨p1,rfl,p2,rfl,(λe=>by rw [e,hp2] at l1;cases l1),_,s2 _ _ l1,_,l2,LS.1,.inr (.inr (.inl (.inl ⟨_,Ad⟩))),?_⟩
  have s02:=CU (s1.trans s2) hp1 (o:=.dK (BB (AA [] (Dj KA)) (AA [] (Dj KB))))
  have l12:upd G2 p1 (.dK (BB (AA [] (Dj KA)) (AA [] (Dj KB)))) p1=some (.dK (BB (AA [] (Dj KA)) (AA [] (Dj KB)))):=Ad
  refine JK (kvs:=KC) (by kd_p) λp3 G3 hp3 s3 l3=>⟨p1,rfl,p3,rfl,(λe=>?_),_,s3 _ _ l12,_,l3,LS.2.1,.inr (.inr (.inl (.inl ⟨_,Ad⟩))),?_⟩
  ·rw [<- e,Ad] at hp3;cases hp3
  have s03:=CU (s02.trans s3) hp1 (o:=.dK (BB (BB (AA [] (Dj KA)) (AA [] (Dj KB))) (AA [] (Dj KC))))
  have l13:upd G3 p1 (.dK (BB (BB (AA [] (Dj KA)) (AA [] (Dj KB))) (AA [] (Dj KC)))) p1=some (.dK (BB (BB (AA [] (Dj KA)) (AA [] (Dj KB))) (AA [] (Dj KC)))):=Ad
  refine JK (kvs:=KD) (by kd_p) λp4 G4 hp4 s4 l4=>⟨p1,rfl,p4,rfl,(λe=>?_),_,s4 _ _ l13,_,l4,LS.2.2,?_⟩
  ·rw [<- e,Ad] at hp4;cases hp4
  have s05:=CU (s03.trans s4) hp1 (o:=.dK (BB (BB (BB (AA [] (Dj KA)) (AA [] (Dj KB))) (AA [] (Dj KC))) (AA [] (Dj KD))))
  have hw5:=s05 _ _ hw
  have l5:upd G4 p1 (.dK (BB (BB (BB (AA [] (Dj KA)) (AA [] (Dj KB))) (AA [] (Dj KC))) (AA [] (Dj KD)))) p1=some (.dK (BB (BB (BB (AA [] (Dj KA)) (AA [] (Dj KB))) (AA [] (Dj KC))) (AA [] (Dj KD)))):=Ad
  show tMid _ _ _ _ (upd G4 p1 (.dK (BB (BB (BB (AA [] (Dj KA)) (AA [] (Dj KB))) (AA [] (Dj KC))) (AA [] (Dj KD)))))
  generalize upd G4 p1 (.dK (BB (BB (BB (AA [] (Dj KA)) (AA [] (Dj KB))) (AA [] (Dj KC))) (AA [] (Dj KD))))=G at s05 l5 hw5
  rw [kk_all] at l5
  clear s03 l13 s02 l12 s4 hp4 s3 hp3 l4 l3 l2 s2 hp2 l1 s1
  refine ⟨λσ' G'=>σ'=[some (.ref wa),some (.ref p1),none,none,none]/\G'=G/\z≠"begin",?_,?_⟩
  ·z_go
   refine ⟨wa,_,_,.str z,rfl,rfl,Aw.of hw5,Av (j:=0) rfl,rfl,?_⟩
   by_cases hz:z="begin"
   ·refine BH (by rw [hz]) ?_
    walk_at "a6"
    walk_at "a7"
    walk_at "a8"
    have s08:=s05.trans (s6.trans (s7.trans s8))
    have hw8:=(s6.trans (s7.trans s8)) _ _ hw5
    refine ⟨_,AV.mpr (.inl ⟨_,Aw.of hw8,rfl⟩),.inr ?_⟩
    rw [L0,P0]
    by_cases h5:4<ws.length
    ·rw [if_pos (decide_eq_true (show (5:Int)<((ws.length+1:Nat):Int) by lia))]
     refine ⟨p8,_,_,.ref p7,rfl,rfl,Aw.of l8,Av (j:=1) rfl,p7,wa,RM,z,ws,rfl,s8 _ _ l7,hw8,by kd_p,hA,λv J hv sJ=>?_⟩
     have hrow:Fu (z::ws)=(CI RM ws).map (λfs=>[.str "begin",fs.getD 0 .non,fs.getD 1 .non,fs.getD 3 .non,fs.getD 5 .non]):=by rw [hz,Kv,if_pos h5]
     cases ht:CI RM ws with
     |none =>
      rw [ht] at hv hrow
      cases (show v=.non from hv)
      refine ⟨λ_ _=>False,?_,λ_ _ h=>h.elim⟩
      z_go
      exact BH trivial (kk .non J (by rw [hrow];rfl) (s08.trans sJ))
     |some fs =>
      rw [ht] at hv hrow
      obtain ⟨l,rfl,hl⟩:=hv
      obtain ⟨a,b,c,n,rfl,_⟩:=UX ht
      refine ⟨λσ' J'=>σ'=[some (.ref wa),some (.ref p1),some (.ref p7),some (.ref l),none]/\J'=J,?_,?_⟩
      ·z_go
       exact BI (λe=>nomatch e) trivial
      rintro σ' J' ⟨rfl,rfl⟩
      z_go
      refine ⟨_,AV.mpr (.inl ⟨_,Aw.of hl,rfl⟩),BH (by show (4:Int)<6;decide) ⟨l,_,_,_,rfl,rfl,Aw.of hl,Av (j:=5) rfl,?_⟩⟩
      refine ⟨l,_,_,_,rfl,rfl,Aw.of hl,Av (j:=0) rfl,l,_,_,_,rfl,rfl,Aw.of hl,Av (j:=1) rfl,l,_,_,_,rfl,rfl,Aw.of hl,Av (j:=3) rfl,by kd_p,λp9 hp9=>kk _ _ ?_ ((s08.trans sJ).trans (Ag.upd hp9))⟩
      rw [hrow]
      exact ⟨p9,rfl,Ad⟩
    ·rw [if_neg (by rw [decide_eq_false (show ¬ (5:Int)<((ws.length+1:Nat):Int) by lia)];exact Q0)]
     refine ⟨p8,_,_,.ref p6,rfl,rfl,Aw.of l8,Av (j:=0) rfl,p6,wa,RU,z,ws,rfl,(s7.trans s8) _ _ l6,hw8,by kd_p,hA,λv J hv sJ=>?_⟩
     have hrow:Fu (z::ws)=(CI RU ws).map (λfs=>[.str "begin",fs.getD 0 .non,fs.getD 1 .non,fs.getD 3 .non,.int 0]):=by rw [hz,Kv,if_neg h5]
     cases ht:CI RU ws with
     |none =>
      rw [ht] at hv hrow
      cases (show v=.non from hv)
      refine ⟨λ_ _=>False,?_,λ_ _ h=>h.elim⟩
      z_go
      exact BH trivial (kk .non J (by rw [hrow];rfl) (s08.trans sJ))
     |some fs =>
      rw [ht] at hv hrow
      obtain ⟨l,rfl,hl⟩:=hv
      obtain ⟨a,b,c,rfl,_⟩:=UY ht
      refine ⟨λσ' J'=>σ'=[some (.ref wa),some (.ref p1),some (.ref p6),some (.ref l),none]/\J'=J,?_,?_⟩
      ·z_go
       exact BI (λe=>nomatch e) trivial
      rintro σ' J' ⟨rfl,rfl⟩
      z_go
      refine ⟨_,AV.mpr (.inl ⟨_,Aw.of hl,rfl⟩),BI (by show ¬ (4:Int)<4;decide) ?_⟩
      refine ⟨l,_,_,_,rfl,rfl,Aw.of hl,Av (j:=0) rfl,l,_,_,_,rfl,rfl,Aw.of hl,Av (j:=1) rfl,l,_,_,_,rfl,rfl,Aw.of hl,Av (j:=3) rfl,by kd_p,λp9 hp9=>kk _ _ ?_ ((s08.trans sJ).trans (Ag.upd hp9))⟩
      rw [hrow]
      exact ⟨p9,rfl,Ad⟩
   ·exact BI (λe=>hz (by cases e;rfl)) ⟨rfl,hz⟩
  rintro σ' G' ⟨rfl,rfl,hz⟩
  refine ⟨λσ' J=>σ'=[some (.ref wa),some (.ref p1),none,none,none]/\J=G'/\∃ k,(z,k)∈KK/\valV (Dj KK) (.inr z)=some (.str k),?_,?_⟩
  ·z_go
   refine ⟨_,rfl,wa,_,0,.str z,rfl,rfl,Aw.of hw5,Av (j:=0) rfl,_,rfl,p1,_,rfl,Ij.k (k:=.inr z) l5,_,rfl,?_⟩
   rcases Oc z KK with ⟨k,q1,q2⟩ | ⟨q1,q2⟩
   ·rw [q2,if_neg (show ¬ (!(some (V.str k)).isSome)=true from Q0)]
    exact ⟨rfl,k,q1,rfl⟩
   ·rw [q2,if_pos (show (!(none:Option V).isSome)=true from rfl)]
    exact kk .non _ (by rw [SN q1 hz h2 h1];rfl) s05
  rintro σ' J ⟨rfl,rfl,k,hkk,hval⟩
  z_go
  have dg:Ij J p1 (.str z) (some (.str k)):=by rw [<- hval];exact Ij.k (k:=.inr z) l5
  have hk2:k.length<=2:=by
   have:∀ p∈KK,p.2.length<=2:=by lk
   exact this _ hkk
  have hrow:=SO hkk ws
  refine ⟨_,rfl,_,rfl,wa,_,0,.str z,rfl,rfl,Aw.of hw5,Av (j:=0) rfl,p1,_,rfl,dg,k,rfl,T0 hk2 (by kd_p),λl hl=>?_⟩
  generalize hG6:upd J l _=G6
  obtain ⟨s6,l6⟩:=RK hl hG6
  clear hG6
  refine ⟨l,wa,RD k,z,ws,rfl,by rw [l6];unfold RD;rw [j5];rfl,s6 _ _ hw5,?_,hA,λv J2 hv sJ=>?_⟩
  ·unfold RD
   rw [L0,<- Bp]
   lia
  have s07:=(s05.trans s6).trans sJ
  cases ht:CI (RD k) ws with
  |none =>
   rw [ht] at hv hrow
   cases (show v=.non from hv)
   refine ⟨λ_ _=>False,?_,λ_ _ h=>h.elim⟩
   z_go
   exact BH trivial (kk .non J2 (by rw [hrow];rfl) s07)
  |some fs =>
   rw [ht] at hv hrow
   obtain ⟨l7,rfl,hl7⟩:=hv
   refine ⟨λσ' J'=>σ'=[some (.ref wa),some (.ref p1),none,some (.ref l7),none]/\J'=J2,?_,?_⟩
   ·z_go
    exact BI (λe=>nomatch e) trivial
   rintro σ' J' ⟨rfl,rfl⟩
   z_go
   refine ⟨wa,_,0,.str z,rfl,rfl,Aw.of ((s6.trans sJ) _ _ hw5),Av (j:=0) rfl,by kd_p,λp8 hp8=>?_⟩
   walk_at "b8"
   refine ⟨_,.inl ⟨Aw.of (s8 _ _ hl7),λp9 hp9=>?_⟩⟩
   walk_at "b9"
   have hfl:fs.length<=2:=by
    obtain ⟨_,e2,_⟩:=GV ht
    rw [e2,Z6]
    unfold RD
    rw [L0,<- Bp]
    lia
   refine catV (s9 _ _ l8) l9 (List.cons_ne_nil _ _) (by show 1+fs.length<=1000;lia) λq G10 s10 h10=>kk _ _ ?_ (s07.trans ((s8.trans s9).trans s10))
   rw [hrow]
   exact ⟨q,rfl,h10⟩
theorem Il:Sc ["_law_frame", "_law_words_here", "_law_turning_here"] ["_law_frame", "_law_words_here"] (top 56):=DD (by lk)
theorem Nd (T:Tx P w K mg)
  (G_l_name:BO P w base T.d_l_name 1 IJ):BO P w base T.d_l_turned 2 MG:=by
 exists T.d_l_turned.F.ok Il
 ·obtain ⟨b,F,wa,z,r,rfl,_⟩:=h
  rfl
 ·obtain ⟨b,F,wa,z,r,rfl,U,nd,nw,hw,hA,hz,k1,k2⟩:=h
  have hu:=Do hr
  have hu1:=Gw hr
  obtain ⟨fz,n,th,fa,e1,f1,f2,f3,f4,f5,f6⟩:=id U.fr
  have hm:=may_eq e1 hz
  refine ⟨_,(Ae (As (i:=2) Il.nd rfl (Or.inl rfl) (Te hu1 (Hd (Bm Ai Ai (Bm Ai Ai (Bm Ai Ai Hb))) rfl rfl (by simp) (by kd_p)) (Aq Al (pv 0) Ac (λ_ _=>rfl)) Ai ⟨rfl,rfl,rfl,rfl⟩))
  (AB (Au (PW.pt (Eb (Ah Gr (At Az (by rfl) T.n_len AZ (Aa (Aq Al (pv 0) Ac (λ_ _=>rfl)) Ab)) Ac (Ak _)) (Dd (Ah Fm (Aq Al (pv 1) Ac (λ_ _=>rfl)) (pv 2) (Ak _)))))
  (Af (Am FC))
  Ao)
  (Ae (AR (Br j0 v0 u0 AU (Aq Al (pv 0) Ac (λ_ _=>rfl)) (Aa (Aj Ab) Ab)))
  (AB (Au (Ah AF (Aq Al (pv 0) Ac (λ_ _=>rfl)) Ai (Ak _))
  (Ae (OB (Aq Al (pv 1) (CO BP Ac) (λ_ _=>rfl)) (pg_sub (pv 0) Ac SI))
  (Af (Am (Dm (Bv AF (At Az (by rfl) T.n_len AZ (Aa (pv 1) Ab)) Ac (Ak _)) (De (Qa (Bv AF (Aq Al (pv 1) Ac (λ_ _=>rfl)) Ai (Ak _)) (De (Bv LI (AI T.d_l_name G_l_name hr (Aa (Aq Al (pv 1) Ac (λ_ _=>rfl)) Ab)) AQ (Ak _)))))))))
  Ao)
  (Af (Am (Bv AF (At Az (by rfl) T.n_len AZ (Aa (pv 1) Ab)) Ac (Ak _)))))))),?_⟩
  z_go
  refine JK (kvs:=KT) (by kd_p) λp1 G1 hp1 s1 l1=>?_
  have l1:G1 p1=some (.dK (Dj KT)):=by rw [<- kt_all];exact l1
  refine ⟨p1,rfl,.inl ⟨_,.inl l1⟩,_,rfl,b.p,_,0,.str fz,rfl,rfl,Aw.of (s1 _ _ f1),Av (j:=0) rfl,_,Ij.k (k:=.inr fz) l1,?_⟩
  rw [kt_val]
  have U1:=U.same s1
  have hw1:=s1 _ _ hw
  refine ⟨λσ' G'=>σ'=[some (.ref b.p),some (.ref wa),some (.str (BQ fz))]/\G'=G1/\F.tn=false/\BQ fz=z,?_,?_⟩
  ·have no:F.mayTurn z=false->Q (.bl false) G1:=λq=>k2 (by unfold GU;rw [q];cases DZ z r<;>rfl) G1 λa u _ ha=>s1 _ _ ha
   z_go
   refine ⟨b.p,_,3,.ref b.L,rfl,rfl,Aw.of (s1 _ _ f1),Av (j:=3) rfl,_,AV.mpr (.inl ⟨_,Aw.of U1.ls,rfl⟩),?_⟩
   rw [U1.tnL]
   cases ht:F.tn with
   |true =>
    rw [if_pos rfl]
    exact BH (by kd_p) (no (by rw [hm,ht];rfl))
   |false =>
    rw [if_neg Q0]
    refine BI (by kd_p) ⟨wa,_,0,.str z,rfl,rfl,Aw.of hw1,Av (j:=0) rfl,rfl,?_⟩
    by_cases hq:BQ fz=z
    ·exact Eg (by rw [hq]) ⟨rfl,rfl,hq⟩
    ·exact Ef (λe=>hq (by cases e;rfl)) (no (by rw [hm,decide_eq_false hq,N5]))
  rintro σ' G' ⟨rfl,rfl,ht,hq⟩
  have hmay:F.mayTurn z=true:=by rw [hm,ht,decide_eq_true hq];rfl
  have htw:=My hz hq
  obtain ⟨o1,_,o3⟩:b.o=none/\F.tn=false/\F.os=[]:=by
   rcases U.os with h | ⟨_,_,_,h,_⟩
   ·exact h
   ·rw [ht] at h;cases h
  have ls1:G' b.L=some (.lst [.ref b.r]):=by have:=U1.ls;rw [o1] at this;exact this
  have nL:b.L≠b.p/\b.L≠b.r/\b.p≠b.r:=by
   unfold Lb.own at nd
   simp only [Y0,K0,not_or] at nd
   exact ⟨λe=>nd.1.1 e.symm,nd.2.1.1,nd.1.2.1⟩
  have wL:wa≠b.L/\wa≠b.p:=by
   unfold Lb.own at nw
   simp only [K0,not_or] at nw
   exact ⟨nw.2.1,nw.1⟩
  z_go
  refine ⟨b.p,_,3,.ref b.L,rfl,rfl,Aw.of (s1 _ _ f1),Av (j:=3) rfl,.inl ⟨_,Aw.of ls1⟩,by kd_p,λq hq0=>?_⟩
  walk_at "c q hq0 G2 s2 lq"
  have q0:G' q=none:=hq0
  have nq:q≠b.L/\q≠b.p/\q≠b.r:=by
   obtain ⟨xs,x1,_⟩:=U1.rs
   refine ⟨λe=>?_,λe=>?_,λe=>?_⟩
   ·rw [e,ls1] at q0;cases q0
   ·rw [e,s1 _ _ f1] at q0;cases q0
   ·rw [e,x1] at q0;cases q0
  refine ⟨b.L,_,_,rfl,rfl,s2 _ _ ls1,(show 1<sizeLine by kd_p),?_⟩
  have l3:upd G2 b.L (.lst [.ref b.r,.ref q]) b.L=some (.lst [.ref b.r,.ref q]):=Ad
  have k3:∀ a u,a≠b.L->G' a=some u->upd G2 b.L (.lst [.ref b.r,.ref q]) a=some u:=λa u ha h=>by rw [Ap ha];exact s2 _ _ h
  have q3:upd G2 b.L (.lst [.ref b.r,.ref q]) q=some (.lst []):=by rw [Ap nq.1];exact lq
  show tMid _ _ _ _ (upd G2 b.L (.lst [.ref b.r,.ref q]))
  generalize upd G2 b.L (.lst [.ref b.r,.ref q])=G3 at l3 k3 q3
  have mk:∀ (J:Hp) (fa':V) (tf:List V),J b.p=some (.lst [.str fz,.int n,.ref b.t,.ref b.L,fa'])->J b.L=some (.lst [.ref b.r,.ref q])->J q=some (.lst [])->(∀ a u,a≠b.L->a≠b.p->G' a=some u->J a=some u)->(fz="try"->tf=[fa']/\Ch fa'=true)->(fz≠"try"->tf=[])->GU F z r=some { F with tn:=true,tf:=tf }->Q (.bl true) J:=λJ fa' tf hp hL hq kp ht1 ht2 hg=>by
   have sT:Bq G' J:=λa ys h=>kp a _ (λe=>by rw [e,ls1] at h;cases h) (λe=>by rw [e,s1 _ _ f1] at h;cases h) h
   obtain ⟨xs,x1,x2⟩:=U1.rs
   refine k1 _ hg { b with o:=some q } J ⟨⟨fz,n,th,fa',e1,hp,sT _ _ (s1 _ _ f2),f3,f4,λe=>⟨(f5 e).1,λ_=>ht1 e⟩,ht2⟩,hL,⟨xs,kp _ _ (Ne.symm nL.2.1) (Ne.symm nL.2.2) x1,x2.sameT sT⟩,.inr ⟨q,[],rfl,rfl,hq,by show By J [] F.os;rw [o3];exact By.nil _⟩⟩ rfl (λa ha=>?_) ?_ λa u ha h=>?_
   ·have ha:a∈b.p::b.L::b.r::[q]:=ha
    simp only [K0,A1,or_false] at ha
    rcases ha with rfl | rfl | rfl | rfl
    ·exact .inl (by simp [Lb.own])
    ·exact .inl (by simp [Lb.own])
    ·exact .inl (by simp [Lb.own])
    ·exact .inr (s1.free q0)
   ·show (b.p::b.L::b.r::[q]).Nodup
    simp [Ne.symm nL.1,nL.2.1,nL.2.2,Ne.symm nq.1,Ne.symm nq.2.1,Ne.symm nq.2.2]
   ·have ha:a∉b.p::b.L::b.r::b.o.toList:=ha
    simp only [K0,not_or] at ha
    exact kp _ _ ha.2.1 ha.1 (s1 _ _ h)
  have no:∀ J:Hp,(∀ a u,a≠b.L->a≠b.p->G' a=some u->J a=some u)->DZ z r=none->Q (.bl false) J:=λJ kp ht0=>k2 (by unfold GU;rw [ht0]) J λa u ha h=>by
   have ha:a∉b.p::b.L::b.r::b.o.toList:=ha
   simp only [K0,not_or] at ha
   exact kp _ _ ha.2.1 ha.1 (s1 _ _ h)
  have hp3:=k3 _ _ (Ne.symm nL.1) (s1 _ _ f1)
  have hw3:=k3 _ _ wL.1 hw1
  refine ⟨λσ' J=>σ'=[some (.ref b.p),some (.ref wa),some (.str (BQ fz))]/\J=G3/\fz≠"try",?_,?_⟩
  ·z_go
   refine ⟨b.p,_,0,.str fz,rfl,rfl,Aw.of hp3,Av (j:=0) rfl,rfl,?_⟩
   by_cases hy:fz="try"
   ·refine BH (by rw [hy]) ?_
    have hzb:z="but":=by rw [<- hq,hy];lk
    obtain ⟨v,hv1,hv2,hv3⟩:=Na (xs:=(z::r).map V.str) (by simp)
    obtain ⟨y,hy2,rfl⟩:=D2.mp hv2
    refine ⟨wa,_,-1,.str y,rfl,rfl,Aw.of hw3,hv1,?_⟩
    refine ⟨_,rfl,b.p,_,4,4,rfl,rfl,hp3,rfl,?_⟩
    have hp4:upd G3 b.p (.lst [.str fz,.int n,.ref b.t,.ref b.L,.str y]) b.p=some (.lst [.str fz,.int n,.ref b.t,.ref b.L,.str y]):=Ad
    have k4:∀ a u,a≠b.p->G3 a=some u->upd G3 b.p (.lst [.str fz,.int n,.ref b.t,.ref b.L,.str y]) a=some u:=λa u ha h=>by rw [Ap ha];exact h
    show tRet _ _ _ (upd G3 b.p (.lst [.str fz,.int n,.ref b.t,.ref b.L,.str y]))
    generalize upd G3 b.p (.lst [.str fz,.int n,.ref b.t,.ref b.L,.str y])=G4 at hp4 k4
    have hw4:=k4 _ _ wL.2 hw3
    have kp4:∀ a u,a≠b.L->a≠b.p->G' a=some u->G4 a=some u:=λa u h1 h2 h=>k4 _ _ h2 (k3 _ _ h1 h)
    have yes:∀ J,Ag G4 J->r=[y]->(y="any"\/Ay y=true)->Q (.bl true) J:=λJ sj hr1 hy3=>by
     refine mk J (.str y) [.str y] (sj _ _ hp4) (sj _ _ (k4 _ _ nL.1 l3)) (sj _ _ (k4 _ _ nq.2.1 q3)) (λa u h1 h2 h=>sj _ _ (kp4 a u h1 h2 h)) (λ_=>⟨rfl,rfl⟩) (λe=>absurd hy e) ?_
     unfold GU DZ
     rw [hzb,hr1,if_pos rfl]
     show (match (if y="any"\/Ay y=true then some [V.str y] else none) with | some tf=>_ | none=>none)=_
     rw [if_pos hy3]
     show (if F.mayTurn "but"=true then _ else none)=_
     rw [<- hzb,if_pos hmay]
    have noo:∀ J,Ag G4 J->(r.length≠1\/∃ y',r=[y']/\¬ (y'="any"\/Ay y'=true))->Q (.bl false) J:=λJ sj h=>no J (λa u h1 h2 h=>sj _ _ (kp4 a u h1 h2 h)) (by
     rw [hzb];exact but_no h)
    z_go
    refine ⟨_,AV.mpr (.inl ⟨_,Aw.of hw4,rfl⟩),rfl,?_⟩
    rw [L0,P0]
    by_cases h1:r.length=1
    ·refine BH (by lia) ?_
     obtain ⟨y',rfl⟩:=OH h1
     have ey:y=y':=by
      have h:([Str.ofString "",y'].map V.str)[1]?=some (V.str y):=hv3
      cases h
      rfl
     subst ey
     have hyA:=hA.2 y (A0 _ C0)
     refine ⟨wa,_,1,.str y,rfl,rfl,Aw.of hw4,Av (j:=1) rfl,rfl,?_⟩
     by_cases h2:y="any"
     ·exact BH (by rw [h2]) (yes _ (Ag.refl _) rfl (.inl h2))
     ·refine BI (λe=>h2 (by cases e;rfl)) ⟨wa,_,1,.str y,rfl,rfl,Aw.of hw4,Av (j:=1) rfl,y,rfl,hyA.2,hyA.1,λJ sj=>?_⟩
      unfold Io
      by_cases h3:Ay y=true
      ·rw [if_pos h3]
       exact yes J sj rfl (.inr h3)
      ·rw [if_neg h3]
       exact noo J sj (.inr ⟨y,rfl,λq=>q.elim h2 h3⟩)
    ·exact BI (by lia) (noo _ (Ag.refl _) (.inl h1))
   ·exact BI (λe=>hy (by cases e;rfl)) ⟨rfl,hy⟩
  rintro σ' J ⟨rfl,rfl,hy⟩
  z_go
  refine ⟨_,AV.mpr (.inl ⟨_,Aw.of hw3,rfl⟩),rfl,?_⟩
  rw [L0,P0]
  have hzb:z≠"but":=λe=>by
   rcases htw with h | h | h
   ·exact hy h
   ·rw [h,show BQ "do"="last" by lk] at hq
    rw [<- hq] at e
    exact absurd e (by lk)
   ·rw [h,show BQ "limit"="late" by lk] at hq
    rw [<- hq] at e
    exact absurd e (by lk)
  have kpJ:∀ a u,a≠b.L->a≠b.p->G' a=some u->J a=some u:=λa u h1 _ h=>k3 _ _ h1 h
  by_cases hr0:r=[]
  ·rw [decide_eq_true (show ((r.length+1:Nat):Int)=1 by rw [hr0];rfl)]
   refine mk J fa [] hp3 l3 q3 kpJ (λe=>absurd e hy) (λ_=>rfl) ?_
   unfold GU DZ
   rw [if_neg hzb,if_pos hr0]
   show (if F.mayTurn z=true then _ else none)=_
   rw [if_pos hmay]
  ·have:r.length≠0:=λe=>hr0 (v1 e)
   rw [decide_eq_false (show ¬ ((r.length+1:Nat):Int)=1 by lia)]
   refine no J kpJ ?_
   unfold DZ
   rw [if_neg hzb,if_neg hr0]
theorem CB:Sc ["_law_frame", "_law_word", "_law_line", "_law_things_here", "_law_lists", "_law_fault", "_law_rows"] ["_law_frame"] (top 57):=DD (by lk)
theorem OO (T:Tx P w K mg):BO P w base T.d_l_ended 1 PQ:=by
 exists T.d_l_ended.F.ok CB
 ·obtain ⟨b,F,rfl,_⟩:=h
  rfl
 ·obtain ⟨b,F,rfl,U,htw,l1,l2,k⟩:=h
  have hu:=Do hr
  have hu1:=Gw hr
  obtain ⟨fz,n,th,fa,e1,f1,f2,f3,f4,f5,f6⟩:=id U.fr
  have ew:=wd_of e1
  refine ⟨_,(Ae (OB (pv 0) (Tb (n:=5) rfl (Bn (AK (i:=1) CB.nd rfl (Or.inl rfl)) (Bn (AK (i:=2) CB.nd rfl (Or.inl rfl)) (Bn (AK (i:=3) CB.nd rfl (Or.inl rfl)) (Bn (AK (i:=4) CB.nd rfl (Or.inl rfl)) (Bn (AK (i:=5) CB.nd rfl (Or.inl rfl)) Es)))))))
  (Ae (Ec (i:=6) CB.nd rfl (Or.inl rfl) (N':=["_law_part"]) (sel:=[none]) rfl rfl rfl (Fc (pv 4)) (Dz rfl) (λ_ _ _ _ _=>⟨(AK (i:=0) (show (["_law_part"]:List Str).Nodup by lk) rfl (Or.inl rfl)),EZ,(AT (FL (K:=K) rfl) (by rfl) T.n_tuple Ce (Aa (pv 0) Ab))⟩) rfl)
  (AB (Au (PW.pt (Eb (PW.pt (BR (Ah BK (pv 1) (Aj (Aa Ai (Aa Ai Ab))) (by with_unfolding_all rfl)) (BM (Ah AF (At Az (by rfl) T.n_len AZ (Aa (pv 6) Ab)) Ac (Ak _))))) (Dd (PW.pt (BR (Ah AF (pv 1) Ai (Ak _)) (BM (Ah (FF hu) (AC Bu (pv 6) (AN Ac) AS) (Aj (Aa (Bh Ab) Ab)) (Ak _))))))))
  (Af (Am AQ))
  Ao)
  (AB (Au (Ah AF (pv 1) Ai (Ak _))
  (Af (Am (Bh (Aa (pv 1) (Aa (pv 2) (Aa (Aq Al (pv 6) Ac (λ_ _=>rfl)) (Aa (pv 5) (Aa (Aq Al (pv 6) Ac (λ_ _=>rfl)) Ab))))))))
  Ao)
  (AB (Au (Ah AF (pv 1) Ai (Ak _))
  (Af (As (i:=6) CB.nd rfl (Or.inl rfl) (AC Bu (An Bf (pv 6) (Aj (Aa (Bh Ab) Ab))) AS (AN Ac))))
  Ao)
  (Af (Am (An CV (An CV (Bh (Aa (pv 1) (Aa (pv 2) Ab))) (pv 3)) (AT Bo (by rfl) T.n_tuple Ce (Aa (pv 6) Ab)))))))))),?_⟩
  z_go
  refine ⟨b.p,_,rfl,Aw.of f1,rfl,?_⟩
  simp only [Gy,Ma]
  z_go
  obtain ⟨as,xss,hL,hle,hcs,hcase⟩:=U.lists
  have hl2:as.length<=5:=by
   rw [hle]
   rcases hcase with ⟨_,_,xs,e,_⟩ | ⟨_,xs,ys,e,_⟩<;>rw [e]<;>simp
  refine ⟨_,rfl,b.L,rfl,⟨_,Aw.of hL⟩,?_⟩
  refine tupsLc hL hl2 hle hcs λts J sJ htl hts D hD=>?_
  have sD:=Ag.upd (o:=.lst (ts.map V.ref)) hD
  have lD:upd J D (.lst (ts.map V.ref)) D=some (.lst (ts.map V.ref)):=Ad
  have sA:Ag H (upd J D (.lst (ts.map V.ref))):=sJ.trans sD
  have hts:∀ (i:Nat) (a:Addr) (xs:List V),ts[i]?=some a->xss[i]?=some xs->upd J D (.lst (ts.map V.ref)) a=some (.tup xs):=λi a xs p q=>sD _ _ (hts i a xs p q)
  generalize upd J D (.lst (ts.map V.ref))=G at sA lD hts |-
  have f1:=sA _ _ f1
  have f2:=sA _ _ f2
  have hcase:(F.tn=false/\F.os=[]/\∃ t0 xs,ts=[t0]/\G t0=some (.tup xs)/\By G xs F.rs)\/(F.tn=true/\∃ t0 t1 xs ys,ts=[t0,t1]/\G t0=some (.tup xs)/\By G xs F.rs/\G t1=some (.tup ys)/\By G ys F.os):=by
   rcases hcase with ⟨q1,q2,xs,e,q3⟩ | ⟨q1,xs,ys,e,q3,q4⟩
   ·subst e
    obtain ⟨t0,rfl⟩:=OH htl
    exact .inl ⟨q1,q2,t0,xs,rfl,hts 0 _ _ rfl rfl,q3.sameT (AE sA)⟩
   ·subst e
    obtain ⟨t0,t1,rfl⟩:=Se htl
    exact .inr ⟨q1,t0,t1,xs,ys,rfl,hts 0 _ _ rfl rfl,q3.sameT (AE sA),hts 1 _ _ rfl rfl,q4.sameT (AE sA)⟩
  clear hts htl hcs hle hl2 hL
  refine ⟨λσ' G'=>σ'=[some (.ref b.p),some (.str fz),some (.int n),some (.ref b.t),some (.ref b.L),some fa,some (.ref D)]/\Ag G G'/\F.mayEnd=true,?_,?_⟩
  ·have no:F.mayEnd=false->∀ G',Ag G G'->Q .non G':=λq G' s=>k _ _ (by rw [q,if_neg Q0]) (sA.trans s)
   have hme:=may_end ew
   z_go
   refine ⟨by kd_p,λq hq=>⟨q,_,rfl,.inl (Aw.of Ad),rfl,rfl,decide (fz="try"\/fz="do"),congrArg V.bl (inTryDo fz),?_⟩⟩
   walk_at "c q hq G1 s1 zq"
   have lD1:=s1 _ _ lD
   by_cases hT:fz="try"\/fz="do"
   ·have n1:fz≠"limit":=by rintro rfl;revert hT;lk
    rw [if_neg n1,decide_eq_true (show BL fz by rcases hT with e | e;exact .inl e;exact .inr (.inl e)),g8,Z3] at hme
    refine BH hT ⟨_,AV.mpr (.inl ⟨_,Aw.of lD1,rfl⟩),rfl,?_⟩
    rw [L0]
    rcases hcase with ⟨q1,q2,t0,xs,rfl,_⟩ | ⟨q1,t0,t1,xs,ys,rfl,_⟩
    ·exact BH rfl (no (by rw [hme,q1]) _ s1)
    ·exact BI (λe=>nomatch e) ⟨rfl,BI n1 (Rr ⟨s1,by rw [hme,q1]⟩)⟩
   ·refine BI hT (Rr ⟨rfl,?_⟩)
    by_cases hL:fz="limit"
    ·rw [if_pos hL] at hme
     refine BH hL (limT (q:=F.tn&&F.os.isEmpty) lD1 ?_ λG2 s2=>⟨_,rfl,?_⟩)
     ·rcases hcase with ⟨q1,q2,t0,xs,rfl,_⟩ | ⟨q1,t0,t1,xs,ys,rfl,_,_,h1,h2⟩
      ·exact .inl ⟨t0,rfl,by rw [q1];rfl⟩
      ·refine .inr ⟨t0,t1,ys,rfl,s1 _ _ h1,?_⟩
       rw [q1,K4]
       have:=MV h2
       cases hos:F.os with
       |nil=>rw [decide_eq_true (this.mpr hos)];rfl
       |cons a l=>rw [decide_eq_false (λe=>by rw [this.mp e] at hos;cases hos)];rfl
     ·cases hq:(F.tn&&F.os.isEmpty) with
      |true=>exact no (by rw [hme];revert hq;cases F.tn<;>cases F.os.isEmpty<;>decide) _ (s1.trans s2)
      |false=>exact ⟨s1.trans s2,by rw [hme];revert hq;cases F.tn<;>cases F.os.isEmpty<;>decide⟩
    ·rw [if_neg hL,decide_eq_false (show ¬ BL fz by rintro (e | e | e);exact hT (.inl e);exact hT (.inr e);exact hL e),X8,P7] at hme
     exact BI hL (Rr ⟨s1,hme⟩)
  rintro σ' G' ⟨rfl,s1,hmay⟩
  refine ⟨λσ' G2=>fz≠"try"/\σ'=[some (.ref b.p),some (.str fz),some (.int n),some (.ref b.t),some (.ref b.L),some fa,some (.ref D)]/\G2=G',?_,?_⟩
  ·z_go
   refine ⟨rfl,?_⟩
   by_cases hT:fz="try"
   ·refine BH hT ?_
    obtain ⟨q1,q2⟩:=f5 hT
    have htn:F.tn=true:=by
     rw [may_end ew,if_neg (by rw [hT];lk),decide_eq_true (show BL fz from .inl hT),g8,Z3] at hmay
     exact hmay
    rcases hcase with ⟨q,_⟩ | ⟨_,t0,t1,xs,ys,rfl,h1,h2,h3,h4⟩
    ·rw [htn] at q;cases q
    refine ⟨D,_,0,.ref t0,rfl,rfl,Aw.of (s1 _ _ lD),Av (j:=0) rfl,D,_,1,.ref t1,rfl,rfl,Aw.of (s1 _ _ lD),Av (j:=1) rfl,by kd_p,λp hp=>?_⟩
    have s2:=Ag.upd (o:=.tup [V.str fz,V.int n,.ref t0,fa,.ref t1]) hp
    have sB:=AE (s1.trans s2)
    refine k _ _ ?_ (sA.trans (s1.trans s2))
    rw [hmay,if_pos rfl]
    unfold Fq.whole
    rw [e1,ew,if_pos (show BL fz from .inl hT),(q2 htn).1,q1]
    exact .of Ad (((LB (th:=[]) (λ_ h=>nomatch h)).app (.one (.of (s2 _ _ (s1 _ _ h1)) (h2.sameT sB)))).app ((By.flat (xs:=[fa]) λv hv=>by rw [M0.mp hv];exact (q2 htn).2).app (.one (.of (s2 _ _ (s1 _ _ h3)) (h4.sameT sB)))))
   ·exact BI hT hT
  rintro σ' G2 ⟨nt,rfl,rfl⟩
  have lD:=s1 _ _ lD
  refine ⟨λσ' G3=>∃ (D':Addr) (ts':List Addr),σ'=[some (.ref b.p),some (.str fz),some (.int n),some (.ref b.t),some (.ref b.L),some fa,some (.ref D')]/\Ag G2 G3/\G3 D'=some (.lst (ts'.map V.ref))/\ts'.length<=2/\By G3 (ts'.map V.ref) (.t F.rs::if BL fz then [.t F.os] else []),?_,?_⟩
  ·z_go
   refine ⟨rfl,?_⟩
   by_cases hL:fz="limit"
   ·refine BH hL ?_
    refine ⟨by kd_p,λp hp=>⟨by kd_p,λp1 hp1=>?_⟩⟩
    revert hp1
    walk_at "c p hp J2 s2 l2"
    intro hp1
    walk_at "c p1 hp1 J3 s3 l3"
    have l2:=s3 _ _ l2
    have s23:=s2.trans s3
    refine ⟨D,p1,_,_,rfl,rfl,s23 _ _ lD,l3,?_,λq hq=>⟨q,_,rfl,Aw.of Ad,λD' hD'=>⟨D',rfl,?_⟩⟩⟩
    ·rcases hcase with ⟨_,_,t0,xs,rfl,_⟩ | ⟨_,t0,t1,xs,ys,rfl,_⟩
     ·show 2<=sizeLine;decide
     ·show 3<=sizeLine;decide
    have sF:=(s23.trans (Ag.upd (o:=.lst (ts.map V.ref++[.ref p])) hq)).trans (Ag.upd (o:=.lst (DI (ts.map V.ref++[.ref p]) none (some 2))) hD')
    have lp:=(Ag.upd (o:=.lst (DI (ts.map V.ref++[.ref p]) none (some 2))) hD') _ _ ((Ag.upd (o:=.lst (ts.map V.ref++[.ref p])) hq) _ _ l2)
    have lD':=Ad (H:=upd J3 q (.lst (ts.map V.ref++[.ref p]))) (a:=D') (o:=.lst (DI (ts.map V.ref++[.ref p]) none (some 2)))
    generalize upd (upd J3 q (.lst (ts.map V.ref++[.ref p]))) D' (.lst (DI (ts.map V.ref++[.ref p]) none (some 2)))=J5 at sF lp lD' |-
    refine ⟨sF,?_⟩
    rw [if_pos (show BL fz from .inr (.inr hL))]
    have sG:=s1.trans sF
    rcases hcase with ⟨_,q2,t0,xs,rfl,h1,h2⟩ | ⟨_,t0,t1,xs,ys,rfl,h1,h2,h3,h4⟩
    ·rw [q2]
     exact ⟨[t0,p],lD',by simp,(By.one (.of (sG _ _ h1) (h2.sameT (AE sG)))).app (.one (.of lp (By.nil _)))⟩
    ·exact ⟨[t0,t1],lD',by simp,(By.one (.of (sG _ _ h1) (h2.sameT (AE sG)))).app (.one (.of (sG _ _ h3) (h4.sameT (AE sG))))⟩
   ·refine BI hL ⟨Ag.refl _,ts,lD,?_⟩
    rw [may_end ew,if_neg hL] at hmay
    rcases hcase with ⟨q1,q2,t0,xs,rfl,h1,h2⟩ | ⟨q1,t0,t1,xs,ys,rfl,h1,h2,h3,h4⟩
    ·rw [q1,C7,K6,decide_eq_false_iff_not] at hmay
     rw [if_neg hmay]
     exact ⟨by simp,By.one (.of (s1 _ _ h1) (h2.sameT (AE s1)))⟩
    ·rw [if_pos (by rw [<- ew];exact htw q1)]
     exact ⟨by simp,(By.one (.of (s1 _ _ h1) (h2.sameT (AE s1)))).app (.one (.of (s1 _ _ h3) (h4.sameT (AE s1))))⟩
  rintro σ' G3 ⟨D',ts',rfl,s3,lD',lt2,rp⟩
  z_go
  refine ⟨by kd_p,λp hp=>?_⟩
  have sz:(20:Nat)<=sizeLine:=by kd_p
  have s4:=Ag.upd (o:=.tup [V.str fz,V.int n]) hp
  refine DY Ad (s4 _ _ (s3 _ _ (s1 _ _ f2))) (by simp) (by simp only [P0,K1];lia) λa G4 ha s5=>⟨_,.inl ⟨Aw.of (s5 _ _ (s4 _ _ lD')),λl hl=>?_⟩⟩
  have s6:=Ag.upd (o:=.tup (ts'.map V.ref)) hl
  refine DY (s6 _ _ ha) Ad (by simp) (by simp only [B0,L0,P0,K1];lia) λr G6 hr6 s7=>?_
  have sT:=((s4.trans s5).trans s6).trans s7
  refine k _ _ ?_ (sA.trans (s1.trans (s3.trans sT)))
  rw [hmay,if_pos rfl]
  have e:F.whole=.t ((V.str fz::V.int n::th).map RN++(.t F.rs::if BL fz then [.t F.os] else [])):=by
   unfold Fq.whole
   rw [e1,ew,f6 nt,P4]
   rfl
  rw [e]
  exact .of hr6 ((LB f4).app (rp.sameT (AE sT)))
theorem FS:Sc ["_law_stack", "_law_found", "_law_words_here", "_law_line", "_law_made", "_law_row_here"] ["_law_stack", "_law_found", "_law_words_here", "_law_line"] (top 58):=DD (by lk)
theorem Rh (T:Tx P w K mg)
  (G_l_ended:BO P w base T.d_l_ended 1 PQ)
  (G_l_turned:BO P w base T.d_l_turned 2 MG)
  (G_l_row:BO P w base T.d_l_row 4 SD):BO P w base T.d_l_step 5 PN:=by
 exists T.d_l_step.F.ok FS
 ·obtain ⟨H0,pa,ua,s,Bs,c,wa,z,r,n,rfl,_⟩:=h
  rfl
 ·obtain ⟨H0,pa,ua,⟨pg,un⟩,Bs,c,wa,z,r,n,rfl,R,tw,hc,hw,nw,hA,k1,k2⟩:=h
  have hu:=Do hr
  have hu1:=Gw hr
  have sz:(200000:Nat)<=sizeLine:=by kd_p
  have hun:un=[]\/∃ S F,un=S++[F]:=by
   rcases Y2 un with e | ⟨S,F,e⟩
   ·exact .inl e
   ·exact .inr ⟨S,F,by rw [e,D3]⟩
  refine ⟨_,(AB (Au (Ah AF (Aq Al (pv 2) Ac (λ_ _=>rfl)) Ai (Ak _))
  (Ae (As (i:=4) FS.nd rfl (Or.inl rfl) AQ)
  (AB (Au (PW.pt (BR (Ah (Fe hu) (pv 0) (Aj Ab) (Ak _)) (BM (Ah AF (At Az (by rfl) T.n_len AZ (Aa (pv 2) Ab)) Ac (Ak _)))))
  (Af (As (i:=4) FS.nd rfl (Or.inl rfl) (AI T.d_l_ended G_l_ended hr (Aa (Aq Al (pv 0) (CO BP Ac) (λ_ _=>rfl)) Ab))))
  Ao)
  (AB (Au (Ah FE (pv 4) AQ (Ak _))
  (Af (Am FC))
  Ao)
  (Ae (AR (Ez j0 y4 w4 HL (pv 0)))
  (AB (Au (Ah (FF hu) (pv 0) (Aj Ab) (Ak _))
  (Af (AR (Br j0 v0 u0 AU (pv 1) (Aa (pv 4) Ab))))
  (Af (AR (Br j0 v0 u0 AU (Aq Al (Aq Al (Aq Al (pv 0) (CO BP Ac) (λ_ _=>rfl)) Ac (λ_ _=>rfl)) (CO BP Ac) (λ_ _=>rfl)) (Aa (pv 4) Ab)))))
  (Af (Am FC)))))))
  Ao)
  (AB (Au (Ah BK (Aq Al (pv 2) Ac (λ_ _=>rfl)) (Aj (Bi (zs:=["late", "but", "last"]) (by lk))) (by with_unfolding_all rfl))
  (Af (Am (Dm (Bv (Fe hu) (pv 0) (Aj Ab) (Ak _)) (De (AI T.d_l_turned G_l_turned hr (Aa (Aq Al (pv 0) (CO BP Ac) (λ_ _=>rfl)) (Aa (pv 2) Ab)))))))
  Ao)
  (Ae (As (i:=5) FS.nd rfl (Or.inl rfl) (AI T.d_l_row G_l_row hr (Aa (pv 2) Ab)))
  (AB (Au (PW.pt (Eb (Ah FE (pv 5) AQ (Ak _)) (Dd (Ah Fm (Bv AF (Aq Bc (pv 5) Ac (λ_ _=>rfl)) Ai (Ak _)) (Bv (FF hu) (pv 0) (Aj Ab) (Ak _)) (Ak _)))))
  (Af (Am FC))
  Ao)
  (AB (Au (PW.pt (Eb (Ah BK (Aq Bc (pv 5) Ac (λ_ _=>rfl)) (Aj (Bi (zs:=["errand", "group", "limit", "keep", "try", "do", "when"]) (by lk))) (by with_unfolding_all rfl)) (Dd (Ah AF (Aq Bc (pv 5) Ac (λ_ _=>rfl)) Ai (Ak _)))))
  (Ae (AR (Br j0 v0 u0 AU (pv 0) (Aa (Aj (Aa (Aq Bc (pv 5) Ac (λ_ _=>rfl)) (Aa (pv 3) (Aa (AC Lw (pv 5) (AN Ac) AS) (Aa (Aj (Aa (Aj Ab) Ab)) (Aa AQ Ab)))))) Ab)))
  (Af (Am (Bv Et (At Az (by rfl) T.n_len AZ (Aa (pv 0) Ab)) Ac (Ak _)))))
  Ao)
  (Ae (AR (Br j0 v0 u0 AU (Aq Al (Aq Al (Aq Al (pv 0) (CO BP Ac) (λ_ _=>rfl)) Ac (λ_ _=>rfl)) (CO BP Ac) (λ_ _=>rfl)) (Aa (An CV (Bh (Aa (Aq Bc (pv 5) Ac (λ_ _=>rfl)) (Aa (pv 3) Ab))) (AC Lw (pv 5) (AN Ac) AS)) Ab)))
  (Af (Am FC)))))))),?_⟩
  z_go
  refine ⟨λσ' G=>z≠"end"/\σ'=[some (.ref ua),some (.ref pa),some (.ref wa),some (.int n),none,none]/\G=H,?_,?_⟩
  ·z_go
   refine ⟨wa,_,0,.str z,rfl,rfl,Aw.of hw,Av (j:=0) rfl,rfl,?_⟩
   by_cases hz:z="end"
   ·subst hz
    refine BH rfl ?_
    refine ⟨λσ' G=>(∃ S F v,un=S++[F]/\F.mayEnd=true/\r=[]/\ET G v F.whole/\σ'=[some (.ref ua),some (.ref pa),some (.ref wa),some (.int n),some v,none]/\Ag H G)\/(step ⟨pg,un⟩ n ("end"::r)=none/\σ'=[some (.ref ua),some (.ref pa),some (.ref wa),some (.int n),some .non,none]/\Ag H G),?_,?_⟩
    ·z_go
     refine emL R.ul λG1 s1=>⟨_,rfl,?_⟩
     rcases hun with rfl | ⟨S,F,rfl⟩
     ·exact Eg (R.nilU.mpr rfl) (Rr (.inr ⟨Ll,s1⟩))
     refine Ef (λe=>(by have:=R.nilU.mp e;simp at this)) ⟨_,AV.mpr (.inl ⟨_,Aw.of (s1 _ _ hw),rfl⟩),rfl,?_⟩
     have se:=Kk pg S F n r
     by_cases hr0:r=[]
     ·subst hr0
      refine BH rfl ?_
      obtain ⟨Cs,b,rfl,hl⟩:=R.split
      have R1:=R.same s1
      have hcF:=R.ct.2 F (S0 _ (N4 _))
      refine R1.ixTop ⟨b,F,rfl,R1.top hl,tw F (S0 _ (N4 _)),by lia,by lia,λv G2 hv s2=>?_⟩
      by_cases hm:F.mayEnd=true
      ·rw [if_pos hm] at hv
       exact .inl ⟨S,F,rfl,hm,rfl,v,hv,rfl,s1.trans s2⟩
      ·rw [if_neg hm] at hv
       refine .inr ⟨by rw [se,if_neg (λe=>hm e.2)],hv,s1.trans s2⟩
     ·refine BI (λe=>hr0 ?_) (.inr ⟨by rw [se,if_neg (λe=>hr0 e.1)],s1⟩)
      cases r with
      |nil=>rfl
      |cons a l=>simp at e;lia
    ·rintro σ' G (⟨S,F,v,rfl,hm,rfl,hv,rfl,sG⟩ | ⟨hn,rfl,sG⟩)
     ·have vn:v≠.non:=by rintro rfl;cases hv
      refine ⟨λσ' G'=>σ'=[some (.ref ua),some (.ref pa),some (.ref wa),some (.int n),some v,none]/\G'=G,?_,?_⟩
      ·z_go
       exact BI vn trivial
      rintro σ' G' ⟨rfl,rfl⟩
      obtain ⟨Cs,b,rfl,hl⟩:=R.split
      have RG:=R.same sG
      z_go
      refine ⟨.inl ⟨_,Aw.of RG.ul⟩,ua,_,.ref b.p,rfl,rfl,RG.ul,?_,?_⟩
      ·rw [o0,B0]
       exact Ba
      rw [o0,show Q9 (λb:Lb=>V.ref b.p) [b]=[V.ref b.p] from rfl,M4]
      have R1:=RG.pop hl
      have hv:=hv.sameT (Bw (o:=.lst (Cs.map λb=>V.ref b.p)) RG.ul)
      generalize upd G' ua (.lst (Cs.map λb=>V.ref b.p))=G1 at R1 hv |-
      have se:step ⟨pg,S++[F]⟩ n ["end"]=some (NO ⟨pg,S++[F]⟩):=by rw [Kk,if_pos ⟨rfl,hm⟩]
      refine ⟨λσ' G''=>∃ Bs',GA H0 G'' pa ua (NO ⟨pg,S++[F]⟩) Bs' (c+1),?_,?_⟩
      ·z_go
       refine emE R1.ul λG2 s2=>⟨_,rfl,?_⟩
       have R2:=R1.same s2
       have hv:=hv.sameT (AE s2)
       rcases Y2 S with rfl | ⟨S',F0,e⟩
       ·obtain ⟨xs,x1,x2⟩:=R2.pr
        have:=R2.ct.1
        rw [show ([]:List Fq)++[F]=[F] from rfl,JJ]
        exact BH (R1.nilU.mpr rfl) ⟨.inl ⟨_,Aw.of x1⟩,pa,_,_,rfl,rfl,x1,by rw [x2.1];exact X2 this (by lia),_,R2.addP x1 x2 hv⟩
       ·rw [D3] at e
        subst e
        rw [Ho]
        obtain ⟨Cs',b0,rfl,hl'⟩:=R2.split
        obtain ⟨l,xs,ps,q1,q2,q3,q4⟩:=R2.last hl'
        refine BI (λe=>(by have:=R1.nilU.mp e;simp at this)) (R2.ixRow hl' q1 ⟨.inl ⟨_,Aw.of q2⟩,l,_,_,rfl,rfl,q2,X2 q3 (by lia),_,q4 _ _ _ (Ag.refl _) hv⟩)
      ·rintro σ' G'' ⟨Bs',R3⟩
       z_go
       exact k1 _ se _ Bs' R3
     ·refine ⟨λσ' G'=>False,?_,λ_ _ e=>e.elim⟩
      z_go
      exact BH trivial (k2 hn _ (λa u e=>sG _ _ (R.out a u e)))
   ·exact BI (λe=>hz (V.str.inj e)) ⟨hz,rfl⟩
  rintro σ' G ⟨hz,rfl,rfl⟩
  refine ⟨λσ' G'=>¬ BJ z/\σ'=[some (.ref ua),some (.ref pa),some (.ref wa),some (.int n),none,none]/\Ag G G',?_,?_⟩
  ·z_go
   refine ⟨wa,_,0,.str z,rfl,rfl,Aw.of hw,Av (j:=0) rfl,by kd_p,λq hq=>⟨q,_,rfl,.inl (Aw.of Ad),rfl,rfl,decide (BJ z),congrArg V.bl (inTurn z),?_⟩⟩
   walk_at "c q hq G1 s1 zq"
   by_cases hT:BJ z
   ·refine BH hT (emL (s1 _ _ R.ul) λG2 s2=>⟨_,rfl,?_⟩)
    have s12:=s1.trans s2
    rcases hun with rfl | ⟨S,F,rfl⟩
    ·exact Eg (R.nilU.mpr rfl) (k2 (JT hT) _ λa u e=>s12 _ _ (R.out a u e))
    have R2:=R.same s12
    obtain ⟨Cs,b,rfl,hl⟩:=R.split
    have hcF:=R.ct.2 F (S0 _ (N4 _))
    have st:=Ol pg S F n hT r
    refine Ef (λe=>(by have:=R.nilU.mp e;simp at this)) (R2.ixTop ⟨b,F,wa,z,r,rfl,R2.top hl,R2.nodTop,λe=>nw ?_,s12 _ _ hw,hA,hT,λF' hF' b' H' U e1 e2 e3 e4=>?_,λhF' H' e4=>?_⟩)
    ·refine A0 _ (A0 _ ?_)
     rw [EQ]
     exact S0 _ e
    ·unfold GU at hF'
     cases ht:DZ z r with
     |none=>rw [ht] at hF';cases hF'
     |some tf =>
      rw [ht] at hF' st
      have hF':(if F.mayTurn z=true then some { F with tn:=true,tf:=tf } else none)=some F':=hF'
      have st:step ⟨pg,S++[F]⟩ n (z::r)=if F.mayTurn z=true then some ⟨pg,S++[{ F with tn:=true,tf:=tf }]⟩ else none:=st
      by_cases hm:F.mayTurn z=true
      ·rw [if_pos hm] at hF' st
       cases hF'
       exact k1 _ st H' (Cs++[b']) (R2.mod hl U e1 e2 e3 e4 (C3 _) (by show F.rs.length<=_;lia) (by show F.os.length<=_;lia))
      ·rw [if_neg hm] at hF';cases hF'
    ·refine k2 ?_ H' λa u e=>e4 a u (λha=>?_) (R2.out a u e)
     ·rw [st]
      unfold GU at hF'
      cases ht:DZ z r with
      |none=>rfl
      |some tf =>
       rw [ht] at hF'
       have hF':(if F.mayTurn z=true then some { F with tn:=true,tf:=tf } else none)=none:=hF'
       by_cases hm:F.mayTurn z=true
       ·rw [if_pos hm] at hF';cases hF'
       ·exact if_neg hm
     ·have:=R2.new a (A0 _ (A0 _ (by rw [EQ];exact S0 _ ha)))
      rw [e] at this
      cases this
   ·exact BI hT ⟨hT,s1⟩
  rintro σ' G' ⟨hnt,rfl,s1⟩
  z_go
  refine ⟨wa,z,r,rfl,s1 _ _ hw,hA,hz,hnt,λv G1 hv s2=>?_⟩
  have R1:=R.same (s1.trans s2)
  have sr:=QO ⟨pg,un⟩ n hz hnt r
  refine ⟨λσ' G'=>∃ (a:Addr) (t:List V),Fu (z::r)=some (.str z::t)/\v=.ref a/\G' a=some (.tup (.str z::t))/\((z="errand")↔un=[])/\σ'=[some (.ref ua),some (.ref pa),some (.ref wa),some (.int n),none,some v]/\Ag G1 G',?_,?_⟩
  ·cases hx:Fu (z::r) with
   |none =>
    rw [hx] at hv sr
    have hv:v=.non:=hv
    subst hv
    z_go
    exact BH trivial (k2 sr _ R1.out)
   |some x =>
    rw [hx] at hv
    obtain ⟨a,rfl,ha⟩:∃ a,v=.ref a/\G1 a=some (.tup x):=hv
    obtain ⟨t,rfl,_⟩:=Ku hx
    z_go
    refine BI (λe=>nomatch e) ⟨a,_,0,.str z,rfl,rfl,Cn.of ha,Av (j:=0) rfl,rfl,emE R1.ul λG2 s3=>⟨rfl,?_⟩⟩
    by_cases hei:z="errand"↔un=[]
    ·refine Eg ?_ ⟨s3 _ _ ha,hei,s3⟩
     congr 1
     exact decide_eq_decide.mpr ⟨λe=>R1.nilU.mpr (hei.mp (V.str.inj e)),λe=>congrArg V.str (hei.mpr (R1.nilU.mp e))⟩
    ·refine Ef (λe=>hei ?_) (k2 ?_ _ ((R1.same s3).out))
     ·have:=decide_eq_decide.mp (V.bl.inj e)
      exact ⟨λq=>R1.nilU.mp (this.mp (congrArg V.str q)),λq=>V.str.inj (this.mpr (R1.nilU.mpr q))⟩
     ·rw [sr,hx]
      exact if_neg (by rw [Pr hz hnt hei];exact Q0)
  rintro σ' G2 ⟨a,t,hx,rfl,ha,hei,rfl,s3⟩
  obtain ⟨t',et,tl,tf,te⟩:=Ku hx
  cases et
  rw [hx] at sr
  have sr:step ⟨pg,un⟩ n (z::r)=if Be ⟨pg,un⟩ z=true then some (QW ⟨pg,un⟩ z (.str z::t) n) else none:=sr
  have R2:=R1.same s3
  refine ⟨λσ' G'=>¬ (z="errand"\/Fj z)/\σ'=[some (.ref ua),some (.ref pa),some (.ref wa),some (.int n),none,some (.ref a)]/\Ag G2 G',?_,?_⟩
  ·have push:(z="errand"\/Fj z)->∀ Gx,Ag G2 Gx->_:=λhb Gx sx=>pushL (K:=K) (Q:=Q) (n:=n) (R2.same sx) (sx _ _ ha) tl tf te (λhle H' Bs' R'=>k1 _ (by
     rw [sr,JO hz hnt hei hb,decide_eq_true hle,if_pos rfl]
     unfold QW
     rw [if_pos hb]) H' Bs' R') (λhle H' s'=>k2 (by rw [sr,JO hz hnt hei hb,decide_eq_false hle,if_neg Q0]) H' s')
   z_go
   refine ⟨a,_,0,.str z,rfl,rfl,Cn.of ha,Av (j:=0) rfl,by kd_p,λq hq=>⟨q,_,rfl,.inl (Aw.of Ad),rfl,rfl,_,congrArg V.bl (inBlk z),?_⟩⟩
   walk_at "c q hq G3 s4 zq"
   by_cases h7:z="errand"\/z="group"\/z="limit"\/z="keep"\/z="try"\/z="do"\/z="when"
   ·have hb:z="errand"\/Fj z:=by
     rcases h7 with e | e | e | e | e | e | e
     ·exact .inl e
     ·exact .inr (.inl e)
     ·exact .inr (.inr (.inl e))
     ·exact .inr (.inr (.inr (.inl e)))
     ·exact .inr (.inr (.inr (.inr (.inl e))))
     ·exact .inr (.inr (.inr (.inr (.inr (.inl e)))))
     ·exact .inr (.inr (.inr (.inr (.inr (.inr (.inl e))))))
    exact BH h7 ⟨.inl ⟨_,Aw.of (s4 _ _ R2.ul)⟩,push hb _ s4⟩
   ·refine BI h7 ⟨a,_,0,.str z,rfl,rfl,Cn.of (s4 _ _ ha),Av (j:=0) rfl,rfl,?_⟩
    by_cases h8:z="repeat"
    ·exact BH (congrArg V.str h8) ⟨.inl ⟨_,Aw.of (s4 _ _ R2.ul)⟩,push (.inr (.inr (.inr (.inr (.inr (.inr (.inr h8))))))) _ s4⟩
    ·refine BI (λe=>h8 (V.str.inj e)) ⟨λhb=>?_,s4⟩
     rcases hb with e | e | e | e | e | e | e | e
     ·exact h7 (.inl e)
     ·exact h7 (.inr (.inl e))
     ·exact h7 (.inr (.inr (.inl e)))
     ·exact h7 (.inr (.inr (.inr (.inl e))))
     ·exact h7 (.inr (.inr (.inr (.inr (.inl e)))))
     ·exact h7 (.inr (.inr (.inr (.inr (.inr (.inl e))))))
     ·exact h7 (.inr (.inr (.inr (.inr (.inr (.inr e))))))
     ·exact h8 e
  rintro σ' G3 ⟨hb,rfl,s4⟩
  have R3:=R2.same s4
  rcases hun with rfl | ⟨S,F,rfl⟩
  ·exact absurd (.inl (hei.mpr rfl)) hb
  obtain ⟨Cs,b,rfl,hl⟩:=R3.split
  obtain ⟨l,xs,ps,q1,q2,q3,q4⟩:=R3.last hl
  z_go
  refine R3.ixRow hl q1 ⟨.inl ⟨_,Aw.of q2⟩,a,_,0,.str z,rfl,rfl,Cn.of (s4 _ _ ha),Av (j:=0) rfl,by kd_p,λp hp=>?_⟩
  walk_at "c p hp G5 s5 l5"
  refine PU (s5 _ _ (s4 _ _ ha)) λq G6 s6 hq=>DY (s6 _ _ l5) hq (by simp) (by simp only [P0,K1];lia) λy G7 hy s7=>?_
  have sA:=s5.trans (s6.trans s7)
  refine ⟨l,_,_,rfl,rfl,sA _ _ q2,X2 q3 (by lia),?_⟩
  refine k1 _ ?_ _ _ (q4 _ _ (.t ((lnR (.str z::t) n).map RN)) sA (.of hy (LB tf)))
  rw [sr,Pq hz hnt hb,if_pos rfl]
  unfold QW
  rw [if_neg hb,Dg]
theorem Du:Sc ["_law_text", "_law_stack", "_law_found", "_law_lines_here", "_law_k", "_law_line", "_law_words_here"] ["_law_text"] (top 59):=DD (by lk)
theorem Rj (T:Tx P w K mg)
  (G_l_step:BO P w base T.d_l_step 5 PN):BO P w base T.d_l_read 6 II:=by
 exists T.d_l_read.F.ok Du
 ·obtain ⟨z,rfl,_⟩:=h
  rfl
 ·obtain ⟨z,rfl,hz,k⟩:=h
  have hu:=Do hr
  have hu1:=Gw hr
  refine ⟨_,(Ae (As (i:=1) Du.nd rfl (Or.inl rfl) (Aj Ab))
  (Ae (As (i:=2) Du.nd rfl (Or.inl rfl) (Aj Ab))
  (Ae (As (i:=3) Du.nd rfl (Or.inl rfl) (Br X1 X4 W4 EJ (pv 0) (Aa Ai Ab)))
  (Ae (Ey PassesOwn.never rfl (PZ rfl T.n_enumerate (Aa (pv 3) Ab)) (HG (n:=2) rfl (Bn (AK (i:=4) Du.nd rfl (Or.inl rfl)) (Bn (AK (i:=5) Du.nd rfl (Or.inl rfl)) Es)))
  (AB (Ec (i:=6) Du.nd rfl (Or.inl rfl) (N':=["_law_word"]) (sel:=[none]) rfl rfl rfl (Fc (Br X1 X4 W4 EJ (pv 5) (Aa Ai Ab))) (Dz rfl) (λ_ _ _ _ _=>⟨(AK (i:=0) (show (["_law_word"]:List Str).Nodup by lk) rfl (Or.inl rfl)),(IK (Ah Fm (pv 0) Ai (Ak _))),(pv 0)⟩) rfl)
  (Af (Au (PW.pt (BR (Ah (Fe hu) (pv 6) (Aj Ab) (Ak _)) (BM (DK (Cv (AI T.d_l_step G_l_step hr (Aa (pv 1) (Aa (pv 2) (Aa (pv 6) (Aa (An Bz (pv 4) Ac) Ab))))))))))
  (Af (Am (An Bz (pv 4) Ac)))
  Ao))))
  (Ae (Au (PW.pt (Eb (Ah (Fe hu) (pv 1) (Aj Ab) (Ak _)) (Dd (Ah (FF hu) (pv 2) (Aj Ab) (Ak _)))))
  (Af (Am (At Az (by rfl) T.n_len AZ (Aa (pv 3) Ab))))
  Ao)
  (Af (Am (AT Bo (by rfl) T.n_tuple Ce (Aa (pv 2) Ab))))))))),?_⟩
  z_go
  refine ⟨by kd_p,λua hua=>⟨by kd_p,λpa hpa=>⟨_,10,rfl,by rw [nl1],T0 hz.len (by kd_p),λq hq=>?_⟩⟩⟩
  have n0:pa≠ua:=λe=>by rw [e,Ad] at hpa;cases hpa
  have gpa:H pa=none:=by rw [Ap n0] at hpa;exact hpa
  revert hpa hq
  walk_at "c ua hua H1 s1 l1"
  intro hpa hq
  revert hq
  walk_at "c pa hpa H2 s2 l2"
  intro hq
  have oz:JX z=LF (Txt.split z ⟨#[10]⟩):=rfl
  have hc:=hz.cnt
  have hL:∀ l∈Txt.split z ⟨#[10]⟩,Fp l/\l.length<=5000:=λl hl=>⟨Hx hz.asc l hl,hz.each l hl⟩
  generalize Txt.split z ⟨#[10]⟩=L at oz hc hL hq |-
  have s3:=Ag.upd (o:=.lst (L.map V.str)) hq
  have nq:q∉[pa,ua]:=λm=>by
   simp only [K0,A1,or_false] at m
   rcases m with rfl | rfl
   ·rw [hq] at l2;cases l2
   ·rw [s2 _ _ l1] at hq;cases hq
  have R0:=GA.first (s3 _ _ l2) (s3 _ _ (s2 _ _ l1)) n0
  have hq0:EM (upd H2 q (.lst (L.map V.str))) [pa,ua] q=some (.lst (L.map V.str)):=FY Ad nq
  have sH:Ag H (EM (upd H2 q (.lst (L.map V.str))) [pa,ua]):=HE (s1.trans (s2.trans s3)) λa ha=>by
   simp only [K0,A1,or_false] at ha
   rcases ha with rfl | rfl
   ·exact gpa
   ·exact hua
  have hqq:upd H2 q (.lst (L.map V.str)) q=some (.lst (L.map V.str)):=Ad
  generalize EM (upd H2 q (.lst (L.map V.str))) [pa,ua]=H0 at R0 hq0 sH
  generalize upd H2 q (.lst (L.map V.str))=G at R0 hqq |-
  clear hq hua hpa s1 s2 s3 l1 l2 nq gpa n0
  unfold MD iEnum
  refine ⟨_,rfl,q,rfl,⟨_,Aw.of hqq⟩,?_⟩
  refine NJ (K:=K) (a:=q) (xs:=L.map V.str) (λi σ G=>(∃ s Bs,GA H0 G pa ua s Bs i/\RQ s/\Dl (i+1) (L.drop i) s=Dl 1 L ⟨[],[]⟩)/\∃ v4 v5 v6,σ=[some (V.str z),some (V.ref ua),some (V.ref pa),some (V.ref q),v4,v5,v6]) ⟨⟨_,_,R0,(λF h=>nomatch h),rfl⟩,_,_,_,rfl⟩ ?_ ?_ ?_
  ·rintro i σ G1 hi ⟨⟨s,Bs,R,_⟩,_⟩
   exact Aw.of (R.out _ _ hq0)
  ·rintro i y p σ G1 hy ⟨⟨s,Bs,R,tw,e⟩,v4,v5,v6,rfl⟩ hp
   walk_at "w"
   refine emL hD3 λG5 s5=>⟨_,rfl,?_⟩
   have R5:=R3.same s5
   have e':(if Co l=[] then Dl (i+1+1) (L.drop (i+1)) s else match step s ((i+1:Nat):Int) (Co l) with | none=>.inl ((i+1:Nat):Int) | some s'=>Dl (i+1+1) (L.drop (i+1)) s')=Dl 1 L ⟨[],[]⟩:=e
   have wok:=Nw hlm.1 hlm.2
   cases hw:Co l with
   |nil =>
    rw [if_pos hw] at e'
    exact Eg rfl (Rr ⟨⟨s,Bs,R5.mono (C3 _),tw,e'⟩,_,rfl⟩)
   |cons z0 r =>
    rw [if_neg (by rw [hw];exact λq=>nomatch q)] at e'
    rw [hw] at e' wok hD3
    refine Ef (λq=>nomatch q) ⟨H0,pa,ua,s,Bs,i,D,z0,r,((i+1:Nat):Int),rfl,R5,tw,by lia,s5 _ _ hD3,λm=>?_,wok,λs' hs H' Bs' R'=>?_,λhs H' s'=>?_⟩
    ·obtain ⟨xs,hx⟩:=R1.there D m
     rw [gD] at hx
     cases hx
    ·rw [hs] at e'
     exact ⟨true,rfl,L2.iteF ⟨⟨s',Bs',R',tw.stp hs,e'⟩,_,rfl⟩⟩
    ·rw [hs] at e'
     have eo:JX z=.inl ((i+1:Nat):Int):=by
      rw [oz]
      unfold LF
      rw [<- e']
     exact ⟨false,rfl,L2.iteT (k _ _ (by rw [eo];rfl) (sH.trans s'))⟩
  ·rintro σ G1 ⟨⟨s,Bs,R,tw,e⟩,v4,v5,v6,rfl⟩
   rw [L0,S6] at e
   have e:.inr s=Dl 1 L ⟨[],[]⟩:=e
   have eo:JX z=if s.un=[]/\s.pg≠[] then .inr s.pg else .inl (L.length:Int):=by
    rw [oz]
    unfold LF
    rw [<- e]
   z_go
   refine emL R.ul λG2 s2=>⟨_,rfl,?_⟩
   have R2:=R.same s2
   have lq:∀ {G3:Hp},Ag H0 G3->Ke K (V.ref q) G3 L.length:=λs=>AV.mpr (.inl ⟨_,Aw.of (s _ _ hq0),by rw [L0]⟩)
   by_cases hu0:s.un=[]
   ·refine Eg (R.nilU.mpr hu0) ?_
    obtain ⟨xs,x1,x2⟩:=R2.pr
    refine emE x1 λG3 s3=>⟨_,rfl,?_⟩
    have R3:=R2.same s3
    have hxn:=MV x2
    by_cases hp0:s.pg=[]
    ·exact BH (hxn.mpr hp0) ⟨_,lq R3.out,k _ _ (by rw [eo,if_neg (λe=>e.2 hp0)];rfl) (sH.trans R3.out)⟩
    ·refine BI (λe=>hp0 (hxn.mp e)) ⟨_,.inl ⟨Aw.of (s3 _ _ x1),λl hl=>?_⟩⟩
     have s4:=Ag.upd (o:=.tup xs) hl
     refine k _ _ ?_ (sH.trans (R3.out.trans s4))
     rw [eo,if_pos ⟨hu0,hp0⟩]
     exact ET.of Ad (x2.sameT (AE (s3.trans s4)))
   ·exact Ef (λe=>hu0 (R.nilU.mp e)) ⟨_,lq R2.out,k _ _ (by rw [eo,if_neg (λe=>hu0 e.1)];rfl) (sH.trans R2.out)⟩
theorem FT:Sc ["_law_line", "_law_xs", "_law_some", "_law_at", "_law_sign_here"] ["_law_line", "_law_xs"] (top 60):=DD (by lk)
theorem Ri (T:Tx P w K mg):BO P w base T.d_l_sign 1 Sx:=by
 exists T.d_l_sign.F.ok FT
 ·obtain ⟨z,xa,ns,rfl,_⟩:=h
  rfl
 ·obtain ⟨z,xa,ns,rfl,hz,hl,hx,hn,k⟩:=h
  have hu:=Do hr
  have hu1:=Gw hr
  have sz:(200000:Nat)<=sizeLine:=by kd_p
  refine ⟨_,(Ae (As (i:=2) FT.nd rfl (Or.inl rfl) (An Bl Ai Ai))
  (Ae (As (i:=3) FT.nd rfl (Or.inl rfl) (An AW (Aq Al (pv 1) Ac (λ_ _=>rfl)) (An Bz (At Az (by rfl) T.n_len AZ (Aa (pv 0) Ab)) Ac)))
  (Ae (As (i:=4) FT.nd rfl (Or.inl rfl) (Aq Uc (pv 2) (An AW (Aq Al (pv 1) Ac (λ_ _=>rfl)) (Aq Al (Aj (Aa Ac (Aa (At Az (by rfl) T.n_len AZ (Aa (pv 2) Ab)) Ab))) (An AW (Aq Al (pv 1) Ac (λ_ _=>rfl)) Ac) (λ_ _=>rfl))) (λ_ _=>rfl)))
  (Ae (Au (Ah AF (An AW (Aq Al (pv 1) Ac (λ_ _=>rfl)) Ac) Ac (Ak _))
  (Af (Am (An Bl (An Bl (AC EU (pv 0) AS (AN (pv 3))) (pv 4)) (AC EU (pv 0) (AN (pv 3)) AS))))
  Ao)
  (Ae (Au (Ah AF (An AW (Aq Al (pv 1) Ac (λ_ _=>rfl)) Ac) Ac (Ak _))
  (Af (Am (An Bl (An Bl (AC EU (pv 0) AS (AN (pv 3))) (pv 4)) (AC EU (pv 0) (AN (An Bz (pv 3) Ac)) AS))))
  Ao)
  (Af (Am (An Bl (AC EU (pv 0) AS (AN (pv 3))) (AC EU (pv 0) (AN (An Bz (pv 3) Ac)) AS))))))))),?_⟩
  z_go
  rw [show Str.ofString " :abe019\t\n"++Str.ofString "!\"#$&'()*+,-./;<=>?@ABZ[\\]^_`cdfghijklmnopqrstuvwxyz{|}~2345678"=SG from rfl]
  have sgl:=sg_len
  refine ⟨by rw [<- BN];exact T0 sgl.2 (by kd_p),Ie hx 0 (by lia) λi=>⟨by lia,i,rfl,by lia,?_⟩⟩
  obtain ⟨n,en,hn1⟩:=TB i (show (0:Int)<(z.length:Int)+1 by lia)
  rw [en]
  refine Ie hx 1 (by lia) λi2=>⟨by lia,by kd_p,λp hp=>?_⟩
  walk_at "c p hp G s1 l1"
  refine Ie (s1 _ _ hx) 2 (by lia) λi3=>⟨i3,rfl,by kd_p,?_⟩
  refine Ee (Aw.of l1) (Q5 _ (by kd_p)) (u4 _ (by kd_p)) λv hv=>?_
  obtain ⟨m,rfl,hm0,hm1⟩:∃ m:Int,v=.int m/\0<m/\m<=SG.length:=by
   simp only [K0,A1,or_false] at hv
   rcases hv with rfl | rfl
   ·exact ⟨_,rfl,by kd_p,by lia⟩
   ·exact ⟨_,rfl,by lia,Int.le_refl _⟩
  obtain ⟨q,eq,hq⟩:=TB i2 hm0
  have hql:q<SG.cps.toList.length:=by rw [<- Bp];lia
  refine ⟨i2,rfl,m,rfl,hm0,SG,_,SG.cps.toList[q],rfl,rfl,by lia,by rw [eq];exact Av (x0 hql),?_⟩
  have hc:SG.cps.toList[q]<128:=sg_asc _ (Z4 hql)
  generalize SG.cps.toList[q]=c at hc |-
  have fin:∀ (y:Str) (ts:List Nat) (k':Nat),y.cps.toList=z.cps.toList.take n++ts++z.cps.toList.drop k'->n<=k'->ts.length<=1->(∀ c∈ts,c<128)->Q (.str y) G:=λy ts k' e h h1 h2=>by
   obtain ⟨a,b,d⟩:=edS e h h1 h2 hz
   exact k y G a b d s1
  have lc:(⟨#[c]⟩:Str).length=1:=rfl
  have cl:∀ lo hi,(CG z lo hi).length<=z.length:=λlo hi=>by
   unfold CG
   rw [Bp,Bp,Y6,j1,C4]
   lia
  have c1:=cl none (some (n:Int))
  have c2:=cl (some (n:Int)) none
  have c3:=cl (some ((n:Int)+1)) none
  refine Ie (s1 _ _ hx) 3 (by lia) λi4=>⟨i4,rfl,by kd_p,rfl,?_⟩
  by_cases w0:i4%3=0
  ·refine BH w0 ⟨by lia,_,rfl,by lia,by lia,by rw [BN];lia,fin _ [c] n ?_ (V0 _) (V0 _) λd hd=>by rw [M0.mp hd];exact hc⟩
   rw [CL,CL,Mi,HY]
  refine BI w0 (Ie (s1 _ _ hx) 3 (by lia) λi5=>⟨i5,rfl,by kd_p,rfl,?_⟩)
  by_cases w1:i5%3=1
  ·refine BH w1 ⟨by lia,_,rfl,by lia,by lia,by rw [BN];lia,fin _ [c] (n+1) ?_ (C3 _) (V0 _) λd hd=>by rw [M0.mp hd];exact hc⟩
   rw [CL,CL,Mi]
   exact congrArg _ (HY z (n+1))
  ·refine BI w1 ⟨by lia,by lia,by lia,fin _ [] (n+1) ?_ (C3 _) (N1 _) λd hd=>nomatch hd⟩
   rw [CL,Mi,L1]
   exact congrArg _ (HY z (n+1))
theorem AM:Sc ["_law_given", "_law_xs", "_law_at", "_law_other", "_law_some", "_law_keys", "_law_key", "_law_way", "_law_words_here", "_law_more"] ["_law_given", "_law_xs"] (top 61):=DD (by lk)
theorem Nh (T:Tx P w K mg)
  (G_l_sign:BO P w base T.d_l_sign 1 Sx):BO P w base T.d_l_spoilt 2 MI:=by
 exists T.d_l_spoilt.F.ok AM
 ·obtain ⟨ga,xa,g,ns,N,S,M,B,rfl,_⟩:=h
  rfl
 ·obtain ⟨ga,xa,g,ns,N,S,M,B,rfl,hg,gne,gd,hM1,hM2,hN,hx,hn,k⟩:=h
  have hu:=Do hr
  have hu1:=Gw hr
  have sz:(200000:Nat)<=sizeLine:=by kd_p
  have g0:0<g.length:=T4.mpr gne
  have lenG:∀ {G:Hp},Ag H G->Ke K (V.ref ga) G g.length:=λs=>AV.mpr (.inl ⟨_,Aw.of (s _ _ hg),by rw [L0]⟩)
  refine ⟨_,(Ae (As (i:=2) AM.nd rfl (Or.inl rfl) (An AW (Aq Al (pv 1) Ac (λ_ _=>rfl)) (At Az (by rfl) T.n_len AZ (Aa (pv 0) Ab))))
  (Ae (As (i:=3) AM.nd rfl (Or.inl rfl) (An AW (Aq Al (pv 1) Ac (λ_ _=>rfl)) (At Az (by rfl) T.n_len AZ (Aa (pv 0) Ab))))
  (AB (As (i:=4) AM.nd rfl (Or.inl rfl) (Aj (Bi (zs:=["end", "late", "but any", "but a", "last", "errand a", "keep", "try", "do", "limit 0"]) (by lk))))
  (AB (As (i:=4) AM.nd rfl (Or.inl rfl) (An Bf (pv 4) (Aj (Bi (zs:=["limit 100", "wait 01", "repeat 10", "repeat 9", "give :Late", "give :", "let a 1000000"]) (by lk)))))
  (AB (As (i:=4) AM.nd rfl (Or.inl rfl) (An Bf (pv 4) (Aj (Bi (zs:=["let a 999999", "let in 1", "hear end", "begin a b in c within 0", "begin a b on c"]) (by lk)))))
  (AB (As (i:=4) AM.nd rfl (Or.inl rfl) (An Bf (pv 4) (Aj (Bi (zs:=["begin a b in c within 99", "begin a b in c within", "off", "send a", "take a 1", "ask a b c"]) (by lk)))))
  (AB (As (i:=4) AM.nd rfl (Or.inl rfl) (An Bf (pv 4) (Aj (Bi (zs:=["but", "but any any", "late 1", "end end", "raise any", "group g h", "when a", "when a :off"]) (by lk)))))
  (AB (As (i:=4) AM.nd rfl (Or.inl rfl) (An Bf (pv 4) (Aj (Bi (zs:=["wait 1 2", "Wait 1", "limit 5", "nobody", "hear a\t", "abcdefghi", "errand abcdefghi"]) (by lk)))))
  (AB (As (i:=4) AM.nd rfl (Or.inl rfl) (An Bf (pv 4) (Aj (Bi (zs:=["limit 5\nlate\nend", "try\nend", "do\nend", "try\nbut any\nend", "limit 5\nend"]) (by lk)))))
  (AB (As (i:=4) AM.nd rfl (Or.inl rfl) (An Bf (pv 4) (Aj (Bi (zs:=["limit 5\nlate\nwait 1\nend", "do\nlast\nend", "try\nbut a\nbut b\nend"]) (by lk)))))
  (Ae (AR (Br j0 v0 u0 AU (pv 4) (Aa (An Bl Ai (An Tl Ai Ac)) Ab)))
  (AB (As (i:=5) AM.nd rfl (Or.inl rfl) (Aj (Bi (zs:=["any", "ask", "begin", "but", "do", "end", "errand", "give", "group", "hear", "in", "keep", "last"]) (by lk))))
  (AB (As (i:=5) AM.nd rfl (Or.inl rfl) (An Bf (pv 5) (Aj (Bi (zs:=["late", "let", "limit", "off", "raise", "repeat", "ring", "send", "take", "try", "wait"]) (by lk)))))
  (AB (As (i:=6) AM.nd rfl (Or.inl rfl) (Aq Al (An Bf (pv 5) (Aj (Aa Ai (Aa Ai Ab)))) (An AW (Aq Al (pv 1) Ac (λ_ _=>rfl)) Ac) (λ_ _=>rfl)))
  (AB (As (i:=4) AM.nd rfl (Or.inl rfl) (An Bf (pv 4) (An OG (Aj (Aa (An Bl Ai (pv 6)) (Aa (An Bl Ai (pv 6)) (Aa (An Bl Ai (pv 6)) (Aa (An Bl Ai (pv 6)) (Aa (An Bl (An Bl Ai (pv 6)) Ai) Ab)))))) Ac)))
  (AB (As (i:=4) AM.nd rfl (Or.inl rfl) (An Bf (pv 4) (An OG (Aj (Aa Ai (Aa Ai Ab))) Ac)))
  (AB (As (i:=4) AM.nd rfl (Or.inl rfl) (An Bf (pv 4) (An OG (Aj (Bi (zs:=["wait 01", "let a 007", "limit 5\nlate\nend", "limit 5\nlate\nend"]) (by lk))) Ac)))
  (AB (As (i:=7) AM.nd rfl (Or.inl rfl) (An AW (Aq Al (pv 1) Ac (λ_ _=>rfl)) Ac))
  (Ae (Au (Ah AF (pv 7) Ac (Ak _))
  (Af (Am (An Bf (AC Bu (pv 0) AS (AN (pv 2))) (AC Bu (pv 0) (AN (An Bz (pv 2) Ac)) AS))))
  Ao)
  (Ae (Au (Ah AF (pv 7) Ac (Ak _))
  (Af (Am (An Bf (An Bf (AC Bu (pv 0) AS (AN (pv 2))) (Aj (Aa (Aq Al (pv 0) (pv 2) (λ_ _=>rfl)) Ab))) (AC Bu (pv 0) (AN (pv 2)) AS))))
  Ao)
  (Ae (Au (Ah AF (pv 7) Ac (Ak _))
  (Af (Am (An Bf (An Bf (AC Bu (pv 0) AS (AN (pv 2))) (Aj (Aa (Aq Al (pv 0) (pv 3) (λ_ _=>rfl)) Ab))) (AC Bu (pv 0) (AN (pv 2)) AS))))
  Ao)
  (Ae (Au (Ah Et (pv 7) Ac (Ak _))
  (Af (Am (An Bf (An Bf (AC Bu (pv 0) AS (AN (pv 2))) (Aj (Aa (AI T.d_l_sign G_l_sign hr (Aa (Aq Al (pv 0) (pv 2) (λ_ _=>rfl)) (Aa (AC Bu (pv 1) (AN Ac) AS) Ab))) Ab))) (AC Bu (pv 0) (AN (An Bz (pv 2) Ac)) AS))))
  Ao)
  (Ae (Au (Ah AF (pv 7) Ac (Ak _))
  (Ae (As (i:=8) AM.nd rfl (Or.inl rfl) (Br X1 X4 W4 EJ (Aq Al (pv 0) (pv 2) (λ_ _=>rfl)) (Aa Ai Ab)))
  (Af (Am (An Bf (An Bf (AC Bu (pv 0) AS (AN (pv 2))) (Aj (Aa (Br X1 N6 M6 IL Ai (Aa (AC Bu (pv 8) AS (AN (CO BP Ac))) Ab)) Ab))) (AC Bu (pv 0) (AN (An Bz (pv 2) Ac)) AS)))))
  Ao)
  (Ae (Au (Ah AF (pv 7) Ac (Ak _))
  (Ae (As (i:=9) AM.nd rfl (Or.inl rfl) (Aq Al (Aj (Bi (zs:=[" a", " 1", " end", " any"]) (by lk))) (An AW (Aq Al (pv 1) Ac (λ_ _=>rfl)) Ac) (λ_ _=>rfl)))
  (Af (Am (An Bf (An Bf (AC Bu (pv 0) AS (AN (pv 2))) (Aj (Aa (An Bl (Aq Al (pv 0) (pv 2) (λ_ _=>rfl)) (pv 9)) Ab))) (AC Bu (pv 0) (AN (An Bz (pv 2) Ac)) AS)))))
  Ao)
  (Ae (Au (Ah AF (pv 7) Ac (Ak _))
  (Af (Am (AC Bu (pv 0) AS (AN (pv 2)))))
  Ao)
  (Af (Am (An Bf (An Bf (AC Bu (pv 0) AS (AN (pv 2))) (Aj (Aa (Aq Al (pv 4) (An AW (Aq Al (pv 1) Ac (λ_ _=>rfl)) (At Az (by rfl) T.n_len AZ (Aa (pv 4) Ab))) (λ_ _=>rfl)) Ab))) (AC Bu (pv 0) (AN (An Bz (pv 2) (An AW (Aq Al (pv 1) Ac (λ_ _=>rfl)) Ac))) AS))))))))))))))))))))))))))))),?_⟩
  z_go
  refine Ie hx 0 (by lia) λi0=>⟨_,lenG (Ag.refl _),i0,rfl,by lia,?_⟩
  obtain ⟨at_,ea,ha⟩:=TB i0 (show (0:Int)<(g.length:Int) by lia)
  rw [ea]
  refine Ie hx 1 (by lia) λi1=>⟨_,lenG (Ag.refl _),i1,rfl,by lia,?_⟩
  obtain ⟨ot,eo,ho⟩:=TB i1 (show (0:Int)<(g.length:Int) by lia)
  rw [eo]
  walk_at "m"
  refine ⟨by kd_p,λp fp=>?_⟩
  generalize hG:upd H p _=G
  have g1:GL Gs G p 10:=by rw [<- hG];exact newG (by lk)
  have sG:=(RK fp hG).1
  clear hG
  walk_at "n"
  walk_at "g 17"
  walk_at "g 22"
  walk_at "g 28"
  walk_at "g 36"
  walk_at "g 43"
  walk_at "g 48"
  walk_at "g 51"
  obtain ⟨xs,x1,x2,x3⟩:=g1
  refine ⟨.inl ⟨_,Aw.of x1⟩, "1",3990,rfl,rfl,by kd_p,by lk,_,rfl,by have:=Py.2.1;rw [BN] at this;lia,p,_,_,rfl,rfl,x1,by rw [L0,x2];decide,?_⟩
  have g1:GL Gs (upd G p (.lst (xs.map V.str++[V.str (("wait ":Str)++EH 3990 "1")]))) p 52:=⟨xs++[("wait ":Str)++EH 3990 "1"],by rw [Ad,o0];rfl,by rw [B0,x2];rfl,λx hx=>by
   rcases X0.mp hx with q | q
   ·exact x3 x q
   ·rw [M0.mp q];exact Py⟩
  have sG:Ag H (upd G p (.lst (xs.map V.str++[V.str (("wait ":Str)++EH 3990 "1")]))):=λa o h=>by
   rw [Ap (λe=>by rw [e,fp] at h;cases h)]
   exact sG a o h
  generalize upd G p (.lst (xs.map V.str++[V.str (("wait ":Str)++EH 3990 "1")]))=G at sG g1 |-
  clear x1 x2 x3 fp
  walk_at "m"
  refine ⟨by kd_p,λq hq=>?_⟩
  generalize hJ:upd G q _=J
  have k1:GL Kq J q 13:=by rw [<- hJ];exact newK (by lk)
  have sG:=sG.trans (RK hq hJ).1
  have g1:=g1.same (RK hq hJ).1
  clear hJ hq
  walk_at "n"
  walk_at "m"
  walk_at "k 24"
  walk_at "n"
  walk_at "m"
  walk_at "k 26"
  refine Ie (sG _ _ hx) 5 (by lia) λi5=>⟨i5,rfl,by kd_p,?_⟩
  obtain ⟨ks,y1,y2,y3⟩:=k1
  refine Ee (Aw.of y1) (Q5 _ (by kd_p)) (by rw [L0,y2];exact u4 _ (by kd_p)) λv hv=>?_
  obtain ⟨ky,hky,rfl⟩:=D2.mp hv
  have hk:=y3 ky hky
  have hkl:=hk.2.1
  clear hv hky y1 y2 y3
  walk_at "n"
  walk_at "m"
  have l1:("hear ":Str).length=5:=by lk
  have l2:("take a ":Str).length=7:=by lk
  have l3:("send a ":Str).length=7:=by lk
  have l4:("but ":Str).length=4:=by lk
  have l5:("begin a ":Str).length=8:=by lk
  have l6:(" in b":Str).length=5:=by lk
  refine ⟨by lia,by lia,by lia,by lia,by lia,by rw [BN];lia,by kd_p,λp1 hp1=>?_⟩
  have gk:GL Gs (upd G p1 (.lst [V.str (("hear ":Str)++ky),V.str (("take a ":Str)++ky),V.str (("send a ":Str)++ky),V.str (("but ":Str)++ky),V.str (("begin a ":Str)++ky++" in b")])) p1 5:=⟨[("hear ":Str)++ky,("take a ":Str)++ky,("send a ":Str)++ky,("but ":Str)++ky,("begin a ":Str)++ky++" in b"],Ad,rfl,λx hx=>by
   simp only [K0,A1,or_false] at hx
   rcases hx with rfl | rfl | rfl | rfl | rfl
   ·exact hk.gs (by lk)
   ·exact hk.gs (by lk)
   ·exact hk.gs (by lk)
   ·exact hk.gs (by lk)
   ·exact hk.gs2 (by lk) (by lk)⟩
  refine repG (k:=3) gk (by kd_p) (by kd_p) λr G3 g3 s3=>catG ((g1.same (Ag.upd hp1)).same s3) g3 (by kd_p) λp G4 _ g1 s4=>?_
  have sG:Ag H G4:=sG.trans ((Ag.upd hp1).trans (s3.trans s4))
  have g1:GL Gs G4 p 67:=g1
  clear gk g3 s3 s4 hp1
  walk_at "n"
  walk_at "m"
  refine ⟨by kd_p,λp1 hp1=>repG (k:=3) (newG (by lk)) (by kd_p) (by kd_p) λr G3 g3 s3=>catG ((g1.same (Ag.upd hp1)).same s3) g3 (by kd_p) λp G5 _ g1 s4=>?_⟩
  have sG:Ag H G5:=sG.trans ((Ag.upd hp1).trans (s3.trans s4))
  have g1:GL Gs G5 p 73:=g1
  clear g3 s3 s4 hp1
  walk_at "n"
  walk_at "m"
  refine ⟨by kd_p,λp1 hp1=>repG (k:=5) (newG (by lk)) (by kd_p) (by kd_p) λr G3 g3 s3=>catG ((g1.same (Ag.upd hp1)).same s3) g3 (by kd_p) λp G6 _ g1 s4=>?_⟩
  have sG:Ag H G6:=sG.trans ((Ag.upd hp1).trans (s3.trans s4))
  have g1:GL Gs G6 p 93:=g1
  clear g3 s3 s4 hp1
  walk_at "n"
  have hg:=sG _ _ hg
  have hx:=sG _ _ hx
  have gl:=gd.len
  have al:at_<g.length:=by lia
  have ol:ot<g.length:=by lia
  have fin:∀ {i' k':Nat} {xs:List Str},i'<=k'->xs.length<=1->(∀ x∈xs,Fp x/\x.length<=M+10/\nl x<=B+10)->∀ l H',H' l=some (.lst ((g.take i'++xs++g.drop k').map V.str))->Ag G6 H'->Q (.ref l) H':=λh1 h2 h3 l H' e s=>k l _ H' e (gd.edit h1 h2 h3) (sG.trans s)
  have one:∀ {x:Str},Fp x->x.length<=M+10->nl x<=B+10->∀ y∈[x],Fp y/\y.length<=M+10/\nl y<=B+10:=λa b c y hy=>by rw [M0.mp hy];exact ⟨a,b,c⟩
  have old:∀ {x:Str},x∈g->Fp x/\x.length<=M/\nl x<=B:=λm=>⟨(gd.each _ m).1,(gd.each _ m).2,T0 (PH nl m) gd.nls⟩
  walk_at "m"
  refine Ie hx 2 (by lia) λi2=>⟨i2,rfl,by kd_p,?_⟩
  walk_at "n"
  refine ⟨rfl,?_⟩
  by_cases w0:i2%15=0
  ·refine BH w0 (MP hg λq G7 h7 s7=>slFr (k:=at_+1) (by lia) (s7 _ _ hg) λr G8 h8 s8=>UQ (s8 _ _ h7) h8 (by rw [j1,C4];lia) λl H' e s=>?_)
   exact fin (xs:=[]) (C3 at_) (N1 _) (λ_ h=>nomatch h) l H' (by rw [e,L1]) (s7.trans (s8.trans s))
  refine BI w0 ⟨rfl,?_⟩
  by_cases w1:i2%15=1
  ·refine BH w1 (MP hg λq G7 h7 s7=>atG (s7 _ _ hg) al λx hx=>Uf rfl h7 (s7 _ _ hg) (by lia) λl H' e s=>?_)
   obtain ⟨a,b,c⟩:=old hx
   exact fin (V0 _) (V0 _) (one a (by lia) (by lia)) l H' e (s7.trans s)
  refine BI w1 ⟨rfl,?_⟩
  by_cases w2:i2%15=2
  ·refine BH w2 (MP hg λq G7 h7 s7=>atG (s7 _ _ hg) ol λx hx=>Uf rfl h7 (s7 _ _ hg) (by lia) λl H' e s=>?_)
   obtain ⟨a,b,c⟩:=old hx
   exact fin (V0 _) (V0 _) (one a (by lia) (by lia)) l H' e (s7.trans s)
  refine BI w2 ?_
  by_cases w3:i2%15<5
  ·refine BH w3 (MP hg λq G7 h7 s7=>atG (s7 _ _ hg) al λx hxm=>?_)
   obtain ⟨a,b,c⟩:=old hxm
   refine ⟨xa,_,rfl,Aw.of (s7 _ _ hx),λr hr=>⟨x,r,ns.drop 3,rfl,a,by lia,by rw [Ad,show (some 3:Option Int)=some ((3:Nat):Int) from rfl,NU,e8],by rw [C4];lia,λy G8 y1 y2 y3 s8=>?_⟩⟩
   have s78:=(s7.trans (Ag.upd hr)).trans s8
   exact Uf (k:=at_+1) (by lia) (s8 _ _ ((Ag.upd hr) _ _ h7)) (s78 _ _ hg) (by lia) λl H' e s=>fin (C3 _) (V0 _) (one y1 (by lia) (by lia)) l H' e (s78.trans s)
  refine BI w3 ⟨rfl,?_⟩
  by_cases w5:i2%15=5
  ·refine BH w5 (atG hg al λx hxm=>?_)
   obtain ⟨a,b,c⟩:=old hxm
   refine ⟨trivial,x,32,rfl,by rw [sp1],by lia,λq hq=>?_⟩
   walk_at "c q hq G7 s7 h7"
   refine MP (s7 _ _ hg) λr G8 h8 s8=>⟨q,_,rfl,Aw.of (s8 _ _ h7),λu hu=>?_⟩
   obtain ⟨d1,d2,d3⟩:=Rz a
   have ss:=QP x
   have sd:=sum_dl (Txt.split x ⟨#[32]⟩)
   have s9:=Ag.upd (o:=.lst (DI ((Txt.split x ⟨#[32]⟩).map V.str) none (some (-1)))) hu
   refine ⟨" ",u,(Txt.split x ⟨#[32]⟩).dropLast,rfl,rfl,Aw.of (by rw [Ad,UM,List.map_dropLast]),by rw [show (" ":Str).length=1 by lk];lia,?_⟩
   rw [EN,sp1]
   have s79:=(s7.trans s8).trans s9
   exact Uf (k:=at_+1) (by lia) (s9 _ _ h8) (s79 _ _ hg) (by lia) λl H' e s=>fin (C3 _) (V0 _) (one d1 (by lia) (by lia)) l H' e (s79.trans s)
  refine BI w5 ⟨rfl,?_⟩
  by_cases w6:i2%15=6
  ·refine BH w6 ⟨by kd_p,λq hq=>?_⟩
   walk_at "c q hq G7 s7 h7"
   refine Ie (s7 _ _ hx) 3 (by lia) λi3=>⟨i3,rfl,by kd_p,Ee (Aw.of h7) (Q5 _ (by kd_p)) (u4 _ (by kd_p)) λv hv=>?_⟩
   obtain ⟨m,rfl,hm⟩:∃ m,v=.str m/\(kqB m&&decide (m.length<=4))=true:=by
    simp only [K0,A1,or_false] at hv
    rcases hv with rfl | rfl | rfl | rfl<;>exact ⟨_,rfl,by lk⟩
   rw [C1,decide_eq_true_eq] at hm
   have hk2:=HR (xs:=[m]) (by rw [D4,hm.1];rfl) m C0
   have hml:=hm.2
   refine MP (s7 _ _ hg) λr G8 h8 s8=>atG (s8 _ _ (s7 _ _ hg)) al λx hxm=>?_
   obtain ⟨a,b,c⟩:=old hxm
   have s78:=s7.trans s8
   refine ⟨x,rfl,m,rfl,by lia,Uf (k:=at_+1) (by lia) h8 (s78 _ _ hg) (by lia) λl H' e s=>fin (C3 _) (V0 _) (one (IR a hk2.1) (by rw [BN];lia) (by rw [Jp,hk2.2.2];lia)) l H' e (s78.trans s)⟩
  refine BI w6 ⟨rfl,?_⟩
  by_cases w7:i2%15=7
  ·refine BH w7 (MP hg λl H' e s=>?_)
   exact fin (xs:=[]) (k':=g.length) (z7 al) (N1 _) (λ_ h=>nomatch h) l H' (by rw [e,L1,S6,L1]) s
  refine BI w7 (MP hg λr G7 h7 s7=>Ie (s7 _ _ hx) 3 (by lia) λi3=>?_)
  obtain ⟨xs,x1,x2,x3⟩:=g1.same s7
  refine ⟨_,AV.mpr (.inl ⟨_,Aw.of x1,rfl⟩),i3,rfl,by rw [L0,x2];decide,Ee (Aw.of x1) (Q5 _ (by rw [L0,x2];decide)) (u4 _ (by rw [L0,x2];decide)) λv hv=>⟨by kd_p,λq hq=>?_⟩⟩
  obtain ⟨x,hxm,rfl⟩:=D2.mp hv
  obtain ⟨a,b,c⟩:=x3 x hxm
  have s8:=Ag.upd (o:=.lst [V.str x]) hq
  refine UQ (y:=[x]) (s8 _ _ h7) Ad (by rw [j1];show _+1<=_;lia) λu G9 h9 s9=>?_
  have s79:=(s7.trans s8).trans s9
  refine Ie (s79 _ _ hx) 4 (by lia) λi4=>⟨i4,rfl,by kd_p,?_⟩
  obtain ⟨e2,ee,he⟩:=TB i4 (show (0:Int)<2 by kd_p)
  refine slFr (k:=at_+e2) (by lia) (s79 _ _ hg) λw G10 h10 s10=>UQ (s10 _ _ h9) h10 ?_ λl H' e s=>fin (Q6 _ _) (V0 _) (one a (by lia) (by lia)) l H' e (s79.trans (s10.trans s))
  rw [B0,j1,C4]
  show _+1+_<=_
  lia
theorem QT:Sc ["_law_text", "_law_e"] ["_law_text"] (top 62):=DD (by lk)
theorem Rg (T:Tx P w K mg)
  (G_l_alone:NY P w K mg base CX0 1 T.d_l_alone.f T.d_l_alone.fd ["_law_e"] (PR K T.C_BadRow))
  (G_read:BD P w K mg base (CXD P w) 15 T.d_read.f T.d_read.fd ["text"] (PL T.C_BadRow)):BO P w base T.d_l_told 18 II:=by
 refine T.d_l_told.F.okAsE (i:=1) QT T.x_WatchError rfl rfl rfl (λvs H Q E h=>?_) (λ_ _=>rfl) (by kd_p) (λcdv A outer s H vs Q E hr h=>?_)
 ·obtain ⟨z,rfl,_⟩:=h
  rfl
 ·obtain ⟨z,rfl,hz,k⟩:=h
  have hrA:=hr.any
  refine ⟨_,_,_,(λE'=>(Af (Am (Ti G_read (hr.mono (by lia)) rfl T.d_read.hm T.d_read.F.kp T.d_read.b .nil passS (Aa (pv 0) Ab))))),(λu=>(Af (Au (PW.pt (BR (Cv (At (CM (K:=K) rfl) (by rfl) T.n_isinstance AH (Aa (pv 1) (Aa (Im rfl T.h_BadRow) Ab)))) (BR (Cv (Tj G_l_alone ((hrA.mark _).mono (by lia)) rfl T.d_l_alone.hm T.d_l_alone.F.kp T.d_l_alone.b .nil DO (Aa (pv 1) Ab))) (BM (DK (Cv (At (Ml (K:=K) rfl) (by rfl) T.n_isinstance AH (Aa (Nb (K:=K) rfl (pv 1) rfl) (Aa (DU (v:=.ty "bool") rfl T.n_bool Qu rfl) Ab)))))))))
  (Af (Am (Nb (K:=K) rfl (pv 1) rfl)))
  Ao))),(Af (Am AQ)),?_⟩
  walk_at "sw"
  refine ⟨_,rfl,z,rfl,hz,λts e v H' hv s=>k v H' (by rw [e];exact hv) s,λi e dx H' hd s1=>?_⟩
  refine ⟨T.C_BadRow,rfl,T.ax,T.al.uw,λa ha=>?_⟩
  have s2:=Ag.upd (o:=ER a T.C_BadRow (some dx)) ha
  have hd2:=s2 _ _ hd
  have l2:upd H' a (ER a T.C_BadRow (some dx)) a=some (ER a T.C_BadRow (some dx)):=Ad
  generalize upd H' a (ER a T.C_BadRow (some dx))=G at s2 hd2 l2 |-
  have hD:∀ {G':Hp},Ag G G'->Ve G' (some dx):=λs dx' e=>by cases e;exact ⟨_,s _ _ hd2⟩
  z_go
  refine ⟨a,_,some dx,_,_,true,rfl,l2,hD (Ag.refl _),.inl ⟨_,rfl,rfl⟩,T.ec,T.al.fc,T.al.ks,true,rfl,?_⟩
  rw [if_pos rfl]
  refine ⟨a,some dx,rfl,l2,hD (Ag.refl _),λG1 s3=>⟨true,rfl,?_⟩⟩
  rw [if_pos rfl]
  have l3:=s3 _ _ l2
  have hd3:=s3 _ _ hd2
  have fld:∀ {R:VK},R (.int i) G1->Sq K (GW 1) (Str.ofString "line") [some (V.str z),some (V.ref a)] G1 R:=λh=>⟨_,rfl,a,_,dx,_,_,rfl,l3,hd3,T.ec,T.hd_BadRow,T.fp_BadRow_line,rfl,h⟩
  refine fld ⟨_,.int i,false,rfl,?_⟩
  rw [if_pos (by kd_p)]
  exact fld (k _ _ (by rw [e];rfl) (s1.trans (s2.trans s3)))
theorem GB:Sc ["_law_text", "_law_due", "_law_told_here"] ["_law_text"] (top 63):=DD (by lk)
theorem OK (T:Tx P w K mg)
  (G_l_read:BO P w base T.d_l_read 6 II)
  (G_l_told:BO P w base T.d_l_told 18 II):BO P w base T.d_l_right 20 MM:=by
 exists T.d_l_right.F.ok GB
 ·obtain ⟨z,rfl,_⟩:=h
  rfl
 ·obtain ⟨z,rfl,hz,k⟩:=h
  have hu:=Do hr
  have hu1:=Gw hr
  refine ⟨_,(Ae (As (i:=1) GB.nd rfl (Or.inl rfl) (AI T.d_l_read G_l_read hr (Aa (pv 0) Ab)))
  (Ae (As (i:=2) GB.nd rfl (Or.inl rfl) (AI T.d_l_told G_l_told hr (Aa (pv 0) Ab)))
  (Ae (Au (Cv (At Ci (by rfl) T.n_isinstance AH (Aa (pv 1) (Aa (DU (v:=.ty "int") rfl T.n_int EC rfl) Ab))))
  (Af (Am (Dm (At Ci (by rfl) T.n_isinstance AH (Aa (pv 2) (Aa (DU (v:=.ty "int") rfl T.n_int EC rfl) Ab))) (De (Bv (Ky AF (Tm hu)) (pv 2) (pv 1) (Ak _))))))
  Ao)
  (Af (Am (Dm (At Ci (by rfl) T.n_isinstance AH (Aa (pv 2) (Aa (DU (v:=.ty "tuple") rfl T.n_tuple Ce rfl) Ab))) (De (Bv (Ky AF (Tm hu)) (pv 2) (pv 1) (Ak _))))))))),?_⟩
  z_go
  refine ⟨z,rfl,hz,λv G1 hv s1=>⟨z,rfl,hz,λu G2 hu2 s2=>?_⟩⟩
  have s12:=s1.trans s2
  cases ho:JX z with
  |inl i =>
   rw [ho] at hv hu2
   obtain rfl:v=.int i:=hv
   obtain rfl:u=.int i:=hu2
   refine ⟨_,.int i,true,rfl,?_⟩
   rw [if_pos rfl]
   refine ⟨_,.int i,true,rfl,?_⟩
   rw [if_pos rfl]
   refine .inl ⟨rfl,?_⟩
   rw [decide_eq_true rfl]
   exact k _ s12
  |inr ts =>
   rw [ho] at hv hu2
   have hv:ET G1 v (.t ts):=hv
   have hu2:ET G2 u (.t ts):=hu2
   have hv2:=hv.sameT (AE s2)
   have ht:=out_ht ho
   have tyT:∀ {x:V},ET G2 x (.t ts)->FM K G2 x (.type "tuple"):=λh=>by
    cases h with
    |t h1 _ _=>exact .tup h1
   refine ⟨_,tyT hv2,false,rfl,?_⟩
   rw [if_neg Q0]
   refine ⟨_,tyT hu2,true,rfl,?_⟩
   rw [if_pos rfl]
   exact .inr (eqRep ht hu2 hv2 (k _ s12))
theorem DJ:Sc ["_law_script", "_law_names", "_law_program_here", "_law_lines_here", "_law_deep", "_law_words_here", "_law_k", "_law_xs", "_law_spoilt_here", "_law_text"] ["_law_script"] (top 64):=DD (by lk)
theorem ok_law (T:Tx P w K mg) {f:Addr} {fd:FuncData} (F:QC K "law" "law" (top 64) f fd)
  (G_l_cell_at:BO P w base T.d_l_cell_at 1 (SE K))
  (G_l_program:BO P w base T.d_l_program 5 Ko)
  (G_l_lines:BO P w base T.d_l_lines 26 (IH 23))
  (G_l_stream:BO P w base T.d_l_stream 2 Jc)
  (G_l_spoilt:BO P w base T.d_l_spoilt 2 MI)
  (G_l_right:BO P w base T.d_l_right 20 MM):BD P w K mg base CX0 61 f fd ["_law_script"] (spLaw K):=by
 exists F.ok DJ
 ·obtain ⟨a,ns,rfl,_⟩:=h
  rfl
 ·obtain ⟨a,ns,rfl,hS,hn,k⟩:=h
  have hu:=Do hr
  have hu1:=Gw hr
  have sz:(16777216:Nat)<=sizeLine:=by kd_p
  refine ⟨_,(Ae (As (i:=1) DJ.nd rfl (Or.inl rfl) (Aj (Bi (zs:=["a", "b", "ab", "ends", "inn", "abcdefgh", "c"]) (by lk))))
  (AB (Au (Ah AF (An AW (AI T.d_l_cell_at G_l_cell_at hr (Aa (pv 0) (Aa Ac Ab))) Ac) Ac (Ak _))
  (Af (As (i:=1) DJ.nd rfl (Or.inl rfl) (Aj (Bi (zs:=["q", "a", "z"]) (by lk)))))
  Ao)
  (AB (As (i:=2) DJ.nd rfl (Or.inl rfl) (AI T.d_l_program G_l_program hr (Aa (AC Bu (pv 0) (AN Ac) (AN Ac)) (Aa (pv 1) (Aa (Bv AF (An AW (AI T.d_l_cell_at G_l_cell_at hr (Aa (pv 0) (Aa Ac Ab))) Ac) Ac (Ak _)) Ab)))))
  (Ae (As (i:=3) DJ.nd rfl (Or.inl rfl) (Aj Ab))
  (Ae (Ey PassesOwn.never rfl (Fc (AI T.d_l_lines G_l_lines hr (Aa (pv 2) (Aa Ac Ab)))) (HG (n:=2) rfl (Bn (AK (i:=4) DJ.nd rfl (Or.inl rfl)) (Bn (AK (i:=5) DJ.nd rfl (Or.inl rfl)) Es)))
  (Af (AR (Br j0 v0 u0 AU (pv 3) (Aa (An Bl (An op_mulS Ai (pv 4)) (Br X1 N6 M6 IL Ai (Aa (pv 5) Ab))) Ab)))))
  (Ae (Ey PassesOwn.never rfl (HF rfl T.n_range (Aa Ac Ab)) (AK (i:=6) DJ.nd rfl (Or.inl rfl))
  (Ae (As (i:=7) DJ.nd rfl (Or.inl rfl) (AI T.d_l_stream G_l_stream hr (Aa (An Bz (An Bz (AI T.d_l_cell_at G_l_cell_at hr (Aa (pv 0) (Aa Ac Ab))) (An GG Ac (AI T.d_l_cell_at G_l_cell_at hr (Aa (pv 0) (Aa (An Bz Ac (pv 6)) Ab))))) (pv 6)) (Aa Ac Ab))))
  (Ae (As (i:=8) DJ.nd rfl (Or.inl rfl) (AI T.d_l_spoilt G_l_spoilt hr (Aa (pv 3) (Aa (pv 7) Ab))))
  (AB (Au (PW.pt (BR (Ah Et (pv 6) Ac (Ak _)) (BM (Ah (Fe hu) (pv 8) (Aj Ab) (Ak _)))))
  (Af (As (i:=8) DJ.nd rfl (Or.inl rfl) (AI T.d_l_spoilt G_l_spoilt hr (Aa (pv 8) (Aa (AI T.d_l_stream G_l_stream hr (Aa (Aq Al (pv 7) Ac (λ_ _=>rfl)) (Aa Ac Ab))) Ab)))))
  Ao)
  (Af (Au (DK (Cv (AI T.d_l_right G_l_right hr (Aa (Br X1 N6 M6 IL Ai (Aa (pv 8) Ab)) Ab))))
  (Af (Am FC))
  Ao))))))
  (Ae (As (i:=9) DJ.nd rfl (Or.inl rfl) (Br X1 N6 M6 IL Ai (Aa (pv 3) Ab)))
  (Af (Am (Dm (AI T.d_l_right G_l_right hr (Aa Ai Ab)) (Dm (AI T.d_l_right G_l_right hr (Aa Ai Ab)) (Dm (AI T.d_l_right G_l_right hr (Aa (pv 9) Ab)) (De (AI T.d_l_right G_l_right hr (Aa (An Bl (pv 9) Ai) Ab))))))))))))))),?_⟩
  z_go
  refine ⟨by kd_p,λn0 hn0=>?_⟩
  have N0:Ew (upd H n0 (.lst [V.str "a",V.str "b",V.str "ab",V.str "ends",V.str "inn",V.str "abcdefgh",V.str "c"])) n0:=⟨["a", "b", "ab", "ends", "inn", "abcdefgh", "c"],Ad,by kd_p,by kd_p,λz hz=>by
   simp only [K0,A1,or_false] at hz
   rcases hz with rfl | rfl | rfl | rfl | rfl | rfl | rfl<;>exact Ts (by lk)⟩
  revert N0
  walk_at "c n0 hn0 G0 s0 zq"
  intro N0
  refine ⟨λσ' G=>∃ na,σ'=[some (.ref a),some (.ref na),none,none,none,none,none,none,none,none]/\Ag H G/\Ew G na,?_,?_⟩
  ·z_go
   refine ⟨a,ns,0,rfl,s0.seq hS,hn,by kd_p,λc0=>⟨c0,rfl,by kd_p,rfl,?_⟩⟩
   by_cases hc:c0%2=1
   ·refine BH hc ⟨by kd_p,λn1 hn1=>⟨s0.trans (Ag.upd hn1),["q", "a", "z"],Ad,by kd_p,by kd_p,λz hz=>?_⟩⟩
    simp only [K0,A1,or_false] at hz
    rcases hz with rfl | rfl | rfl<;>exact Ts (by lk)
   ·exact BI hc ⟨s0,N0⟩
  rintro σ' G ⟨na,rfl,sG,hNm⟩
  walk_at "m"
  refine ⟨a,_,rfl,sG.seq hS,λca hca=>?_⟩
  obtain ⟨ms,hms,hml⟩:=UN ns (some 9) (some 39)
  rw [hms]
  walk_at "c ca hca G2 s2 l2"
  refine ⟨a,ns,1,rfl,(sG.trans s2).seq hS,hn,by kd_p,λc1=>⟨c1,rfl,by kd_p,rfl,?_⟩⟩
  obtain ⟨zs,z1,z2,z3,z4⟩:=hNm
  refine ⟨ca,na,_,ms,rfl,l2,by lia,⟨zs,s2 _ _ z1,z2,z3,z4⟩,λp es G3 hp0 h3 hes hel hene s3=>?_⟩
  walk_at "n"
  refine ⟨by kd_p,λla hla=>?_⟩
  have sA:Ag H G3:=sG.trans (s2.trans s3)
  have gla:H la=none:=sA.free hla
  walk_at "c la hla G4 s4 l4"
  obtain ⟨rok,rlen⟩:=prog_ok (s4 _ _ h3) (λe he=>(hes e he).sameT (AE s4)) hel
  have gl:=JC G4 23 (.ref p) 0 rok
  have ll:=line_le rok (show 0+23<=30 by kd_p)
  have lne:=TL (s4 _ _ h3) hene
  clear hn0 N0 s0 hca hms l2 z1 z2 z3 z4 hp0
  refine PB ?_
  refine ⟨_,rfl,.ref p,0,rfl,rok,rlen,λl qs G5 hl0 hl1 hLn s5=>?_⟩
  generalize BF 24 G4 (.ref p) 0=X at hLn rlen gl ll lne
  have f2:=s5 _ _ l4
  have hid:Cq (EM G5 [la]) qs X:=by
   refine ⟨hLn.1,λi q y h1 h2=>?_⟩
   obtain ⟨hy,w,a1,a2⟩:=hLn.2 i q y h1 h2
   refine ⟨hy,w,FY a1 (λm=>?_),FY a2 (λm=>?_)⟩
   ·rw [M0.mp m,f2] at a1;cases a1
   ·rw [M0.mp m,f2] at a2
    have a3:([]:List V)=y.2.map V.str:=HO.lst.inj (Option.some.inj a2)
    exact hy (S4.mp a3.symm)
  have hl1':EM G5 [la] l=some (.lst (qs.map V.ref)):=FY hl1 (λm=>by rw [M0.mp m,l4] at hl0;cases hl0)
  have sH:Ag H (EM G5 [la]):=HE (sA.trans (s4.trans s5)) (λb hb=>by rw [M0.mp hb];exact gla)
  have sI:Ag (EM G5 [la]) G5:=HV _ _
  have hn2:EM G5 [la] la=none:=HW _ C0
  generalize EM G5 [la]=H0 at hid hl1' sH sI hn2
  refine ⟨l,rfl,⟨_,Aw.of hl1⟩,?_⟩
  have hqX:qs.length=X.length:=hid.1
  refine Ut (K:=K) (a:=l) (xs:=qs.map V.ref) (λi σ G=>Ag H0 G/\∃ o4 o5:Option V,σ=[some (.ref a),some (.ref na),some (.ref p),some (.ref la),o4,o5,none,none,none,none]/\G la=some (.lst (((X.take i).map DG).map V.str))) ⟨sI,none,none,rfl,by rw [V8];exact f2⟩ (λi σ G _ ⟨sg,_⟩=>Aw.of (sg _ _ hl1')) ?_ ?_
  ·rintro i x σ G hi ⟨sG,o4,o5,rfl,hla2⟩
   rw [Z1] at hi
   obtain ⟨q,e,rfl⟩:=K2.mp hi
   have hil:i<X.length:=by
    have:=(d0.mp e).1
    lia
   have ex:X[i]?=some X[i]:=x0 hil
   obtain ⟨hne,w,hq,hw⟩:=hid.2 i q _ e ex
   refine ⟨q,_,rfl,Cn.of (sG _ _ hq),rfl,?_⟩
   simp only [Gy,Ma]
   z_go
   have e2:("  ":Str).length=2:=by lk
   have e3:(" ":Str).length=1:=by lk
   have hL:=ll X[i] (Z4 hil)
   have eL:(DG X[i]).length=X[i].1*2+(Txt.join " " X[i].2).length:=by
    unfold DG
    rw [BN,DE,e2]
   have hj:=NA X[i].2 hne
   have hr2:=DE X[i].1 "  "
   rw [e2] at hr2
   refine ⟨.inl ⟨_,Aw.of hla2⟩, "  ",X[i].1,rfl,rfl,by lia,by rw [e2];lia, " ",w,X[i].2,rfl,rfl,Aw.of (sG _ _ hw),by rw [e3];lia,_,rfl,_,rfl,by lia,la,_,_,rfl,rfl,hla2,?_,QU sG hn2,?_⟩
   ·rw [L0,L0,j1];lia
   ·rw [Ad,Oi ex,o0,o0]
    rfl
  ·rintro σ G ⟨sG,o4,o5,rfl,hla2⟩
   rw [L0,hqX,T2] at hla2
   have gd:=TM gl ll rlen
   have gne:X.map DG≠[]:=λe=>lne (S4.mp e)
   generalize X.map DG=L at hla2 gd gne
   have sE:Ag H G:=sH.trans sG
   have la0:=hla2
   have b62:(2:Int) ^ 62=4611686018427387904:=by kd_p
   show MD (iRng1 (IV (tC (V.int 6)) MC)) _ _ _ _ _
   refine PB ?_
   show ∃ j:Int,[V.int 6]=[.int j]/\_
   refine ⟨6,rfl,by lia,by lia,?_⟩
   refine HX (λi σ G'=>Ag G G'/\∃ o6 o7 o8:Option V,σ=[some (.ref a),some (.ref na),some (.ref p),some (.ref la),o4,o5,o6,o7,o8,none]) ⟨Ag.refl _,none,none,none,rfl⟩ ?_ ?_
   ·rintro i σ G1 hi ⟨s1,o6,o7,o8,rfl⟩
    z_go
    have hi6:i<6:=hi
    have sq:=(sE.trans s1).seq hS
    refine ⟨a,ns,2,rfl,sq,hn,by kd_p,λc2=>⟨a,ns,_,rfl,sq,hn,by lia,λc3=>⟨c3,rfl,.inl (by kd_p),c2,rfl,?_⟩⟩⟩
    refine ⟨_,8,rfl,by kd_p,by kd_p,λxa xs G2 hxa hxl hxb hx2 s2=>?_⟩
    have hx8:xs.length=8:=by lia
    refine ⟨la,xa,L,xs,_,_,_,_,rfl,s2 _ _ (s1 _ _ hla2),gne,gd,by kd_p,by kd_p,by kd_p,hx2,hx8,λsp g1 G3 hsp gd1 s3=>?_⟩
    have s123:=s1.trans (s2.trans s3)
    refine ⟨λσ' G'=>Ag G3 G'/\∃ sp' g',σ'=[some (.ref a),some (.ref na),some (.ref p),some (.ref la),o4,o5,some (.int (0+(i:Int))),some (.ref xa),some (.ref sp'),none]/\G' sp'=some (.lst (g'.map V.str))/\Gd 20002 9760000 4020 30 g',?_,?_⟩
    ·have stay:∀ {G':Hp},Ag G3 G'->G' sp=some (.lst (g1.map V.str))/\Gd 20002 9760000 4020 30 g1:=λs=>⟨s _ _ hsp,gd1.mono (by kd_p) (by kd_p) (by kd_p) (by kd_p)⟩
     z_go
     by_cases h3:(0+(i:Int))<3
     ·refine BH h3 (emL hsp λG4 s4=>⟨_,rfl,?_⟩)
      by_cases he:g1=[]
      ·exact Eg (by rw [he];rfl) ⟨s4,g1,stay s4⟩
      ·refine Ef (λe=>he (S4.mp e)) (Ie (s4 _ _ (s3 _ _ hx2)) 7 (by lia) λc7=>⟨_,8,rfl,by kd_p,by kd_p,λxb ys G5 hxb0 hyl hyb hy2 s5=>?_⟩)
       have hy8:ys.length=8:=by lia
       exact ⟨sp,xb,g1,ys,_,_,_,_,rfl,s5 _ _ (s4 _ _ hsp),he,gd1,by kd_p,by kd_p,by kd_p,hy2,hy8,λsp2 g2 G6 hsp2 gd2 s6=>⟨s4.trans (s5.trans s6),sp2,rfl,g2,hsp2,gd2.mono (by kd_p) (by kd_p) (by kd_p) (by kd_p)⟩⟩
     ·exact BI h3 (Rr ⟨Ag.refl _,g1,stay (Ag.refl _)⟩)
    ·rintro σ' G4 ⟨s4,sp',g',rfl,hsp',gd'⟩
     z_go
     have q1:=gd'.len
     have q2:=gd'.sum
     refine ⟨"\n",sp',g',rfl,rfl,Aw.of hsp',by rw [show ("\n":Str).length=1 by lk];lia,?_⟩
     rw [EN,nl1]
     refine ⟨_,rfl,gd'.text (by kd_p) (by kd_p) (by kd_p),λG5 s5=>⟨true,rfl,?_⟩⟩
     exact L2.iteF ⟨s123.trans (s4.trans s5),_,rfl⟩
   ·rintro σ G1 ⟨s1,o6,o7,o8,rfl⟩
    z_go
    have q1:=gd.len
    have q2:=gd.sum
    have l1:("\n":Str).length=1:=by lk
    refine ⟨"\n",la,L,rfl,rfl,Aw.of (s1 _ _ hla2),by rw [l1];lia,?_⟩
    rw [EN,nl1]
    have tok:GT (Str.join ⟨#[10]⟩ L):=gd.text (by kd_p) (by kd_p) (by kd_p)
    have tl:=tok.len
    refine ⟨_,rfl,text_e0,λG2 s2=>⟨true,rfl,?_⟩⟩
    rw [if_pos rfl]
    refine ⟨_,rfl,text_e2,λG3 s3=>⟨true,rfl,?_⟩⟩
    rw [if_pos rfl]
    refine ⟨_,rfl,tok,λG4 s4=>⟨true,rfl,?_⟩⟩
    rw [if_pos rfl]
    refine ⟨_,rfl,(by show _+1<=_;lia),_,rfl,?_,λG5 _=>k G5⟩
    have te:=Si gne
    rw [nl1] at te
    rw [te]
    exact (gd_end gd).text (by kd_p) (by kd_p) (by kd_p)
theorem law_fn {l:M8} {h:Heap} {fa:Addr} (X:K.In h) (G:h.Ns mainGlobals mg) (hfa:mg "law"=some (.ref fa))
  (i47:InK K "_law_parts" (top 47))
  (i37:InK K "_law_cell_at" (top 37))
  (i38:InK K "_law_mixed" (top 38))
  (i39:InK K "_law_stream" (top 39))
  (i40:InK K "_law_value_by" (top 40))
  (i41:InK K "_law_plain" (top 41))
  (i42:InK K "_law_opened" (top 42))
  (i43:InK K "_law_closed" (top 43))
  (i44:InK K "_law_put" (top 44))
  (i45:InK K "_law_program" (top 45))
  (i46:InK K "_law_words" (top 46))
  (i48:InK K "_law_turning" (top 48))
  (i49:InK K "_law_lines" (top 49))
  (i14:InK K "is_letters" (top 14))
  (i15:InK K "is_name" (top 15))
  (i16:InK K "is_told_word" (top 16))
  (i17:InK K "is_value" (top 17))
  (i18:InK K "is_block_word" (top 18))
  (i26:InK K "number_of" (top 26))
  (i27:InK K "bounded" (top 27))
  (i28:InK K "value_of" (top 28))
  (i29:InK K "field_of" (top 29))
  (i30:InK K "fitted" (top 30))
  (i31:InK K "first_fit" (top 31))
  (i32:InK K "row_of" (top 32))
  (i35:InK K "read" (top 35))
  (i50:InK K "_law_alone" (top 50))
  (i51:InK K "_law_number" (top 51))
  (i52:InK K "_law_name" (top 52))
  (i53:InK K "_law_value" (top 53))
  (i54:InK K "_law_things" (top 54))
  (i55:InK K "_law_row" (top 55))
  (i56:InK K "_law_turned" (top 56))
  (i57:InK K "_law_ended" (top 57))
  (i58:InK K "_law_step" (top 58))
  (i59:InK K "_law_read" (top 59))
  (i60:InK K "_law_sign" (top 60))
  (i61:InK K "_law_spoilt" (top 61))
  (i62:InK K "_law_told" (top 62))
  (i63:InK K "_law_right" (top 63))
  (i64:InK K "law" (top 64))
  {C_Unended:Addr} (c_Unended:InC K "Unended" C_Unended)
  (na_Unended_head:T1 K (.ref C_Unended) "head"=some none)
  (na_Unended_rows:T1 K (.ref C_Unended) "rows"=some none)
  (na_Unended_turned:T1 K (.ref C_Unended) "turned"=some none)
  (na_Unended_turn_fields:T1 K (.ref C_Unended) "turn_fields"=some none)
  (na_Unended_others:T1 K (.ref C_Unended) "others"=some none)
  (im_Unended___init__:InM K C_Unended "__init__" "Unended.__init__" (AO (top 33) 0))
  (im_Unended_put:InM K C_Unended "put" "Unended.put" (AO (top 33) 1))
  (im_Unended_may_turn:InM K C_Unended "may_turn" "Unended.may_turn" (AO (top 33) 2))
  (im_Unended_turn:InM K C_Unended "turn" "Unended.turn" (AO (top 33) 3))
  (im_Unended_may_end:InM K C_Unended "may_end" "Unended.may_end" (AO (top 33) 4))
  (im_Unended_whole:InM K C_Unended "whole" "Unended.whole" (AO (top 33) 5))
  {C_Reading:Addr} (c_Reading:InC K "Reading" C_Reading)
  (na_Reading_program:T1 K (.ref C_Reading) "program"=some none)
  (na_Reading_unended:T1 K (.ref C_Reading) "unended"=some none)
  (im_Reading___init__:InM K C_Reading "__init__" "Reading.__init__" (AO (top 34) 0))
  (im_Reading_allows:InM K C_Reading "allows" "Reading.allows" (AO (top 34) 1))
  (im_Reading_put_line:InM K C_Reading "put_line" "Reading.put_line" (AO (top 34) 2))
  (im_Reading_end_innermost:InM K C_Reading "end_innermost" "Reading.end_innermost" (AO (top 34) 3))
  (im_Reading_is_whole:InM K C_Reading "is_whole" "Reading.is_whole" (AO (top 34) 4))
  (ikwa:InT K "KEY_WORDS" FN)
  
  
  (ifma:InT K "FORMS" FORMS)
  
  
  (itwa:InT K "TURN_WORDS" TWS)
  
  
  {mlt:Tok} (imlt:Q1 K mainGlobals "MOST_LETTERS"=some (some (.int 8 mlt)))
  
  {mvt:Tok} (imvt:Q1 K mainGlobals "MOST_VALUE"=some (some (.int 999999 mvt)))
  
  {mft:Tok} (imft:Q1 K mainGlobals "MOST_FIGURES"=some (some (.int 6 mft)))
  
  {mdt:Tok} (imdt:Q1 K mainGlobals "MOST_DEEP"=some (some (.int 20 mdt)))
  
  (igra:InGR w K)
  
  
  (itua:InTU w K)
  
  
  (ipp:InPP w K)
  
  
  {C_BadClock:Addr} (cx_BadClock:Q1 K mainGlobals "BadClock"=some (some (.ref C_BadClock)))
  {C_NotWaiting:Addr} (cx_NotWaiting:Q1 K mainGlobals "NotWaiting"=some (some (.ref C_NotWaiting)))
  {C_Over:Addr} (cx_Over:Q1 K mainGlobals "Over"=some (some (.ref C_Over)))
  {C_BadDesk:Addr} (cx_BadDesk:Q1 K mainGlobals "BadDesk"=some (some (.ref C_BadDesk)))
  {C_BadProgram:Addr} (cx_BadProgram:Q1 K mainGlobals "BadProgram"=some (some (.ref C_BadProgram)))
  {C_BadBook:Addr} (cx_BadBook:Q1 K mainGlobals "BadBook"=some (some (.ref C_BadBook)))
  {C_WatchError:Addr} (cx_WatchError:Q1 K mainGlobals "WatchError"=some (some (.ref C_WatchError))) (qx_WatchError:z5 K C_WatchError [.type "ValueError",.type "Exception",.type "BaseException",.type "object"] "ValueError.__new__"=true)
  {C_BadRow:Addr} (cx_BadRow:Q1 K mainGlobals "BadRow"=some (some (.ref C_BadRow)))
  {f_BadRow:Addr} (im_BadRow:InM K C_BadRow "__init__" "BadRow.__init__" (AO (top 6) 0)) (fi_BadRow:T1 K (.ref C_BadRow) "__init__"=some (some (.ref f_BadRow))) (ei_BadRow:excInI K C_BadRow f_BadRow=true) (so_BadRow:S5 K C_BadRow (.type "object")=some true) (sa_BadRow:T1 K (.ref C_BadRow) "__setattr__"=some (some (.builtin "object.__setattr__"))) (hd_BadRow:E5 K C_BadRow=true) (kp_BadRow:F3 K (.ref C_BadRow)=true) (tk_BadRow_line:A5 K C_BadRow "line"=some none) (fp_BadRow_line:T1 K (.ref C_BadRow) "line"=some none)
  
  
  
  {cdO:ClassData} (o_1:Y8 K C_BadRow=some cdO) (o_2:S5 K C_BadRow (.type "BaseException")=some true) (o_4:T1 K (.ref C_BadRow) "__getattribute__"=some (some (.builtin L2.gaE))) (o_5:T1 K (.ref C_BadRow) "__getattr__"=some none) (al_6:T1 K (.ref C_BadRow) "__class__"=some (some (.builtin "object.__class__"))) (al_7:j7 K (.builtin "object.__class__") "__get__"=some (some (.builtin "getset_descriptor.__get__"))) (al_8:F8 K (.builtin "object.__class__")=some true) (al_9:S5 K C_BadRow (.ref C_WatchError)=some true) (kr_1:W1 K (.ref C_BadRow) (.ref C_BadClock)=some false) (kr_2:W1 K (.ref C_BadRow) (.ref C_NotWaiting)=some false) (kr_3:W1 K (.ref C_BadRow) (.ref C_Over)=some false) (kr_4:W1 K (.ref C_BadRow) (.ref C_BadDesk)=some false) (kr_5:W1 K (.ref C_BadRow) (.ref C_BadProgram)=some false) (kr_6:W1 K (.ref C_BadRow) (.ref C_BadBook)=some false) (kr_s:W1 K (.ref C_BadRow) (.ref C_BadRow)=some true) (kr_v:W1 K (.ref C_BadRow) (.type "ValueError")=some true)
  (z_len:Q1 K mainGlobals "len"=some none)
  (z_isinstance:Q1 K mainGlobals "isinstance"=some none)
  (z_list:Q1 K mainGlobals "list"=some none)
  (z_tuple:Q1 K mainGlobals "tuple"=some none)
  (z_int:Q1 K mainGlobals "int"=some none)
  (z_range:Q1 K mainGlobals "range"=some none)
  (z_enumerate:Q1 K mainGlobals "enumerate"=some none)
  (z_str:Q1 K mainGlobals "str"=some none)
  (z_bool:Q1 K mainGlobals "bool"=some none)
  (z_all:Q1 K mainGlobals "all"=some none)
  (z_zip:Q1 K mainGlobals "zip"=some none)
  (z_ValueError:Q1 K mainGlobals "ValueError"=some none)
  : ∃ fd:FuncData,(∀ (s:Shared) (v:Value),BindsTo s fd ⟨[v],[]⟩ [("_law_script",v)])/\∀ base:Heap,K.In base->base.Ns mainGlobals mg->BD l.prog w K mg base CX0 61 fa fd ["_law_script"] (spLaw K):=by
 obtain ⟨e_Unended___init__⟩:=im_Unended___init__.def (ps:=["self", "head"]) λ_ _ _ _ _ _ us hl=>lx2 hl (λ_ _=>rfl)
 obtain ⟨e_Unended_put⟩:=im_Unended_put.def (ps:=["self", "row"]) λ_ _ _ _ _ _ us hl=>lx2 hl (λ_ _=>rfl)
 obtain ⟨e_Unended_may_turn⟩:=im_Unended_may_turn.def (ps:=["self", "word"]) λ_ _ _ _ _ _ us hl=>lx2 hl (λ_ _=>rfl)
 obtain ⟨e_Unended_turn⟩:=im_Unended_turn.def (ps:=["self", "turn_fields"]) λ_ _ _ _ _ _ us hl=>lx2 hl (λ_ _=>rfl)
 obtain ⟨e_Unended_may_end⟩:=im_Unended_may_end.def (ps:=["self"]) λ_ _ _ _ _ _ us hl=>lx1 hl (λ_=>rfl)
 obtain ⟨e_Unended_whole⟩:=im_Unended_whole.def (ps:=["self"]) λ_ _ _ _ _ _ us hl=>lx1 hl (λ_=>rfl)
 obtain ⟨e_Reading___init__⟩:=im_Reading___init__.def (ps:=["self"]) λ_ _ _ _ _ _ us hl=>lx1 hl (λ_=>rfl)
 obtain ⟨e_Reading_allows⟩:=im_Reading_allows.def (ps:=["self", "word"]) λ_ _ _ _ _ _ us hl=>lx2 hl (λ_ _=>rfl)
 obtain ⟨e_Reading_put_line⟩:=im_Reading_put_line.def (ps:=["self", "fields", "number"]) λ_ _ _ _ _ _ us hl=>lx3 hl (λ_ _ _=>rfl)
 obtain ⟨e_Reading_end_innermost⟩:=im_Reading_end_innermost.def (ps:=["self"]) λ_ _ _ _ _ _ us hl=>lx1 hl (λ_=>rfl)
 obtain ⟨e_Reading_is_whole⟩:=im_Reading_is_whole.def (ps:=["self"]) λ_ _ _ _ _ _ us hl=>lx1 hl (λ_=>rfl)
 obtain ⟨p1,dd1,its1,n1,sl1,aK1,lK1,hsz1,hst1⟩:=ikwa.ex
 obtain ⟨p2,dd2,its2,n2,sl2,aK2,lK2,hsz2,hst2⟩:=ifma.ex
 obtain ⟨p3,dd3,its3,n3,sl3,aK3,lK3,hsz3,hst3⟩:=itwa.ex
 obtain ⟨ga,gm,gd⟩:=igra.get (P:=l.prog) X G
 obtain ⟨tu,tm,td⟩:=itua.get (P:=l.prog) X G
 obtain ⟨pa,pm0,pk⟩:=ipp.get (P:=l.prog) X G
 obtain ⟨e_BadRow⟩:=im_BadRow.def (ps:=["self", "line"]) λ_ _ _ _ _ _ us hl=>lx2 hl (λ_ _=>rfl)
 have ef_BadRow:e_BadRow.f=f_BadRow:=by
  have q:=e_BadRow.me.at_.symm.trans fi_BadRow
  cases q
  rfl
 obtain ⟨f,oc,od,kV,doc,pm,an,cdv,ct,osl,a,lk,c,kp⟩:=i64.ex
 have F:=Pf (x:="law") (qual:="law") (st:=top 64) lk c kp
 have e:=hfa.symm.trans (A2 X G a)
 cases e
 have T:Tx l.prog w K mg:=⟨i47.dn X G,i37.dn X G,i38.dn X G,i39.dn X G,i40.dn X G,i41.dn X G,i42.dn X G,i43.dn X G,i44.dn X G,i45.dn X G,i46.dn X G,i48.dn X G,i49.dn X G,i14.dn X G,i15.dn X G,i16.dn X G,i17.dn X G,i18.dn X G,i26.dn X G,i27.dn X G,i28.dn X G,i29.dn X G,i30.dn X G,i31.dn X G,i32.dn X G,i35.dn X G,i50.dn X G,i51.dn X G,i52.dn X G,i53.dn X G,i54.dn X G,i55.dn X G,i56.dn X G,i57.dn X G,i58.dn X G,i59.dn X G,i60.dn X G,i61.dn X G,i62.dn X G,i63.dn X G,C_Unended,c_Unended.cls,A2 X G c_Unended.a,na_Unended_head,na_Unended_rows,na_Unended_turned,na_Unended_turn_fields,na_Unended_others,e_Unended___init__,e_Unended_put,e_Unended_may_turn,e_Unended_turn,e_Unended_may_end,e_Unended_whole,⟨c_Unended.mak,e_Unended___init__.me.at_,e_Unended___init__.me.fn,c_Unended.kp⟩,C_Reading,c_Reading.cls,A2 X G c_Reading.a,na_Reading_program,na_Reading_unended,e_Reading___init__,e_Reading_allows,e_Reading_put_line,e_Reading_end_innermost,e_Reading_is_whole,⟨c_Reading.mak,e_Reading___init__.me.at_,e_Reading___init__.me.fn,c_Reading.kp⟩,p1,A2 X G aK1,λH=>.inr ⟨_,its1,n1,lK1,rfl,rfl,hsz1,Fw hst1⟩,p2,A2 X G aK2,λH=>.inr ⟨_,its2,n2,lK2,rfl,rfl,hsz2,Fw hst2⟩,p3,A2 X G aK3,λH=>.inr ⟨_,its3,n3,lK3,rfl,rfl,hsz3,Fw hst3⟩,mlt,(A2 X G imlt),mvt,(A2 X G imvt),mft,(A2 X G imft),mdt,(A2 X G imdt),ga,gm,gd,tu,tm,td,pa,pm0,pk,C_BadClock,A2 X G cx_BadClock,C_NotWaiting,A2 X G cx_NotWaiting,C_Over,A2 X G cx_Over,C_BadDesk,A2 X G cx_BadDesk,C_BadProgram,A2 X G cx_BadProgram,C_BadBook,A2 X G cx_BadBook,C_WatchError,⟨A2 X G cx_WatchError,qx_WatchError⟩,A2 X G cx_WatchError,C_BadRow,A2 X G cx_BadRow,e_BadRow,⟨⟨by rw [ef_BadRow];exact ei_BadRow,⟨so_BadRow,sa_BadRow,hd_BadRow⟩⟩,e_BadRow.me.fn,kp_BadRow⟩,tk_BadRow_line,fp_BadRow_line,hd_BadRow,⟨A2 X G cx_BadRow,.inr ⟨f_BadRow,ei_BadRow⟩⟩,.inr ⟨f_BadRow,ei_BadRow⟩,⟨A2 X G cx_WatchError,.inl qx_WatchError⟩,⟨by rw [o_1];rfl,o_2,so_BadRow,o_4,o_5⟩,⟨findOa o_1 al_6 al_7 al_8,al_9,kr_s,kr_v,kr_1,kr_2,kr_3,kr_4,kr_5,kr_6⟩,A3 X G z_len,A3 X G z_isinstance,A3 X G z_list,A3 X G z_tuple,A3 X G z_int,A3 X G z_range,A3 X G z_enumerate,A3 X G z_str,A3 X G z_bool,A3 X G z_all,A3 X G z_zip,A3 X G z_ValueError⟩
 refine ⟨E3 "law" "law" (Db (top 64)) (BY (top 64)) (AG (top 64)) .none kV doc pm an cdv ct,λs v=>.of_eq rfl,λbase _ _=>?_⟩
 have g_l_parts:=OM (base:=base) T  
 have g_l_cell_at:=LM (base:=base) T  
 have g_l_mixed:=ON (base:=base) T  
 have g_l_stream:=Ng (base:=base) T  g_l_mixed
 have g_l_value_by:=JZ (base:=base) T  
 have g_l_plain:=OL (base:=base) T  g_l_stream g_l_value_by
 have g_l_opened:=Ni (base:=base) T  g_l_value_by
 have g_l_closed:=Nk (base:=base) T  
 have g_l_put:=To (base:=base) T  g_l_opened g_l_closed g_l_plain
 have g_l_program:=LL (base:=base) T  g_l_mixed g_l_put g_l_closed
 have g_l_words:=OI (base:=base) T  
 have g_l_turning:=LK (base:=base) T  
 have g_l_lines:=Jn (base:=base) T  g_l_words g_l_parts g_l_turning 23
 have g_is_letters:=Ka (base:=base) T  
 have g_is_name:=OQ (base:=base) T  g_is_letters
 have g_is_told_word:=IB (base:=base) T  g_is_letters
 have g_is_value:=Nl (base:=base) T  g_is_name g_is_told_word
 have g_is_block_word:=HH (base:=base) T  
 have g_number_of:=LJ (base:=base) T  
 have g_bounded:=OR (base:=base) T  g_number_of
 have g_value_of:=Nc (base:=base) T  g_number_of g_is_value
 have g_field_of:=Nm (base:=base) T  g_bounded g_value_of g_is_name
 have g_fitted:=Rl (base:=base) T  g_field_of
 have g_first_fit:=LN (base:=base) T  g_fitted
 have g_row_of:=Rf (base:=base) T  
 have g_Unended___init__:=Gi (base:=base) T  
 have g_Unended_put:=Jo (base:=base) T  
 have g_Unended_may_turn:=Gh (base:=base) T  
 have g_Unended_turn:=IC (base:=base) T  
 have g_Unended_may_end:=GH (base:=base) T  
 have g_Unended_whole:=HI (base:=base) T  
 have g_Reading___init__:=Gm (base:=base) T  
 have g_Reading_allows:=Hf (base:=base) T  g_Unended_may_end g_Unended_may_turn g_is_block_word
 have g_Reading_end_innermost:=EA (base:=base) T  g_Unended_whole g_Unended_put
 have g_Reading_put_line:=Gj (base:=base) T  g_Reading_end_innermost g_Unended_turn g_is_block_word g_Unended___init__ g_row_of g_Unended_put
 have g_Reading_is_whole:=Gk (base:=base) T  
 have g_BadRow___init__:=GI (base:=base) T  
 have g_read:=ok_read (base:=base) T  g_Reading___init__ g_first_fit g_Reading_allows g_Reading_put_line g_Reading_is_whole g_BadRow___init__
 have g_l_alone:=OP (base:=base) T  
 have g_l_number:=Nj (base:=base) T  
 have g_l_name:=Rk (base:=base) T  
 have g_l_value:=OJ (base:=base) T  g_l_name g_l_number
 have g_l_things:=Nf (base:=base) T  g_l_value g_l_name g_l_number
 have g_l_row:=Tn (base:=base) T  g_l_things
 have g_l_turned:=Nd (base:=base) T  g_l_name
 have g_l_ended:=OO (base:=base) T  
 have g_l_step:=Rh (base:=base) T  g_l_ended g_l_turned g_l_row
 have g_l_read:=Rj (base:=base) T  g_l_step
 have g_l_sign:=Ri (base:=base) T  
 have g_l_spoilt:=Nh (base:=base) T  g_l_sign
 have g_l_told:=Rg (base:=base) T  g_l_alone g_read
 have g_l_right:=OK (base:=base) T  g_l_read g_l_told
 exact ok_law T F  g_l_cell_at g_l_program g_l_lines g_l_stream g_l_spoilt g_l_right

end
end K14
end
open PySem PySem.W PyProof.Rows
namespace PySem.W.Fast
local macro_rules | `(command|universe $us*)=>do return Lean.mkNullNode (<-us.mapM λu=>`(command|def $u := 0))
universe tw6217899423739814553 tw15283003095653415276 tw1400990737081033236 tw1353434102423101465 tw16635458901728217935 tw16545039631680415575 tw2915375530638252400 tw13261730713761471852 tw17623276468128770944 tw2308034440514124653 tw14606460654740937035 tw17113853472945154409 tw4750147005206384128 tw2461801291403925134 tw5687960781547659901 tw11706988527114921117 tw7951523441501960226 tw11974175788857240029 tw2913745077891018364 tw15433011812165277441 tw7633329536198691019 tw15616142208707100548 tw10764096175280325723 tw9560209612672127092 tw15998654706802905540 tw3055221158051315067 tw15639890873037725224 tw9061717502016372257 tw16291335841301065606 tw12164099231665007085 tw1390001256289206410 tw4012060287067124144 tw851489990035835947 tw12916474035715517060 tw5534472826952434380 tw16379754949700714767 tw6362887745544033126 tw5642863338959838077 tw1744660615241384127 tw4789547708196897625 tw7820463771297035029 tw13761625733186900807 tw7259212181372340312 tw13338935392231420057 tw10872671741324122105 tw1947581547548839587 tw10193709069852886647 tw17874308257308954993 tw11500994291285513927 tw10098964542668911218 tw7470785780037472559 tw2047024474365983980 tw869239555045882127 tw12322239238671599450 tw2614625666592178911 tw15246514791041103161 tw7991422381575662373 tw10246172199175725901 tw10477498716444218821 tw6088106568239716730 tw5831606190889636085 tw6487539416186853220 tw8810690015735901304 tw6003256939939499901 tw5321134874496391420 tw13748134928197603035 tw12126890112459541073 tw7517443050754762279 tw15340249654392187125 tw15824515905136725449 tw3925379089545517930 tw623499372314818036 tw293343653342017847 tw2408207321259262472 tw9390054559696446649 tw8175480269503594525 tw16185251551222494254 tw10382219936632351001 tw10405841908488582503 tw15230902902908797449 tw12553546267603152269 tw17157161102622655669 tw3555742840553537313 tw2046938747367678851 tw10395329933618263845 tw6637928633418917137 tw4309521626354388976 tw5289530909812018224 tw12070720502332082337 tw11222915990580497701 tw3685672247527738019 tw17021822010647594918 tw3469186765280606832 tw10034665700054314793 tw2635451745602799964 tw9113921273363219266 tw1897437552448417548 tw4454695629610004072 tw8378995572592809895 tw4266066531156554886 tw5695735858875197463 tw8173480144788249743 tw17640185123377124078 tw8509989349009561220 tw5133094371488505712 tw4331594793308174309 tw13539955207448240554 tw14622975500088200324 tw12987276003044485232 tw5072899656311296556 tw14439617404314181657 tw15387436610346384206 tw508447901698903837 tw2138594076667418104 tw7038785753323656522 tw10396071528763830025 tw5522096730971053924 tw1223716214714388426 tw1966369672468271522 tw7027703873410821145 tw7928912667157469615 tw5937603489135398404 tw15178888983293548009 tw14787045186357482428 tw15361896687912828300 tw5601015220032358261 tw4520608291475525834 tw8663826079753574984 tw10473489499732660271 tw6163216473932146568 tw8686694814609166116 tw18192951141363555125 tw5213472347871164691 tw238021772676107901 tw3318798500738986109 tw10308387356964856900 tw7738399726258788420 tw13622392613694121732 tw17017793401165494732 tw8679588412883686490 tw17199305817888301114 tw18129155152949738870 tw575605607245764826 tw3715396097533392341 tw14698689929305969282 tw17926449439215616637 tw3076889250485148782 tw9522948206750787573 tw17162207944714055810 tw11399767299056472412 tw10934499230178823865 tw12908831733648057904 tw6800464008370737484 tw14446294604193742356 tw6821672961496696114 tw8546673310814693295 tw7102253301496253473 tw798657714521496320 tw6544316803943692741 tw7115269809731733771 tw3422509089884868852 tw6250370171917978142 tw10594809359784433474 tw9644786387455864292 tw958065517444775107 tw1083380854464815852 tw8341962421012439681 tw4281513576661315269 tw14765153810252000391 tw13317074837916721749 tw16639483290512298243 tw14734216107869122625 tw12828023601579921816 tw9969264084452922473 tw9921056288471156845 tw4891399628291034413 tw16699283015485742858 tw10584416765499856458 tw1257815911530134663 tw3342441262848654876 tw15606697161444022395 tw4390813574604105117 tw7818715275960661161 tw754561229065356106 tw17827242984489594331 tw12093305186740113487 tw16936749092436825339 tw4587425816997322968 tw2456207782044590536 tw13722523372956698413 tw12385522230067928019 tw2581728148157484980 tw17578060286767210080 tw9216986816774347876 tw2042776910166824346 tw15051237126603098238 tw8584733920163595888 tw1927329673835732425 tw2210542084030890639 tw10533681984472869243 tw77512538382750517 tw9237582423813297357 tw12169018716635011235 tw2735245229064284592 tw3094907692867285992 tw9627940720465746408 tw14821493406543844953 tw8031823295442210861 tw5516720041133500890 tw9991579919279696523 tw2675930381954043527 tw12565906783280534024 tw5538390579512093389 tw4457099125316741312 tw2479949427440071798 tw2903892975152441086 tw12204680003841448775 tw13474808480966378700 tw16186254256639255882 tw10066468441916082540 tw2595412683281633653 tw3951111134031788824 tw4807048500747002964 tw9419755574470853094 tw14527832521987383344 tw11405844905709001183 tw2890502219593744790 tw11079401210024740863 tw6178602836167408220 tw6817075446701949627 tw12434157916637604859 tw10306952934126496290 tw912366877534085536 tw1009973170312632376 tw3157941539437220408 tw7610116626939148759 tw16886047738561385521 tw16440179968268676875 tw15997861559427674085 tw14540075525120787740 tw5248103244430597547 tw5065398430247658848 tw14296404539818242524 tw10382230356923987605 tw3362781534836241234 tw14198907446937768797 tw5746219489219680258 tw13568260208916931747 tw12042373547867990906 tw2885042038246061049 tw15016823514236480019 tw11172886017539653835 tw7047111887864851143 tw4045844689039277902 tw10113642440891963212 tw5060780377993008737 tw46554173711286486 tw1547647987993935187 tw15414702397867749394 tw6327503599524535690 tw13920566622446883627 tw9609451578914570282 tw16190259966865949227 tw5944959018660574399 tw6779687039621431910 tw5228989579958103701 tw5081759350867961916 tw2753782273775951225 tw17910776389481249975 tw9256989916534059126 tw17070333623659834982 tw4004977700496559863 tw17507183769910563401 tw17283298219426112292 tw5776754170455837984 tw4179193918797614029 tw4415837387495603153 tw6114887402809743526 tw4345109776131957940 tw817802092833377895
end PySem.W.Fast
set_option maxRecDepth 100000 in
set_option maxHeartbeats 0 in
theorem PySem.Challenge.cw_nightwatch_k14_texts_refused_holds : PySem.Challenge.rw_nightwatch_k14_texts_refused.Holds := by
  w_on; o_law; k_head; (case hw => w_witness2)
  k_fill
  refine L2.walk_ofK (l := PySem.Challenge.rw_nightwatch_k14_texts_refused) (n := 63) (k := 61) (x := "_law_script") (CX := L2.CX0) (sp := K14.spLaw) rfl (by decide) rfl ⟨rfl, by decide, by decide⟩ (fun w h Y => PySem.W.kIn_of Y) ?F (fun K H a ns hl _ hS => ⟨a, ns, rfl, hS, hl, fun _ => rfl⟩) (fun _ _ _ _ z => z)
  case F =>
    intro w mg fa h KX G hmg
    refine' K14.law_fn KX G hmg ?i47 ?i37 ?i38 ?i39 ?i40 ?i41 ?i42 ?i43 ?i44 ?i45 ?i46 ?i48 ?i49 ?i14 ?i15 ?i16 ?i17 ?i18 ?i26 ?i27 ?i28 ?i29 ?i30 ?i31 ?i32 ?i35 ?i50 ?i51 ?i52 ?i53 ?i54 ?i55 ?i56 ?i57 ?i58 ?i59 ?i60 ?i61 ?i62 ?i63 ?i64 ?c_Unended ?na_Unended_head ?na_Unended_rows ?na_Unended_turned ?na_Unended_turn_fields ?na_Unended_others ?im_Unended___init__ ?im_Unended_put ?im_Unended_may_turn ?im_Unended_turn ?im_Unended_may_end ?im_Unended_whole ?c_Reading ?na_Reading_program ?na_Reading_unended ?im_Reading___init__ ?im_Reading_allows ?im_Reading_put_line ?im_Reading_end_innermost ?im_Reading_is_whole ?ikwa ?ifma ?itwa ?imlt ?imvt ?imft ?imdt ?igra ?itua ?ipp ?cx_BadClock ?cx_NotWaiting ?cx_Over ?cx_BadDesk ?cx_BadProgram ?cx_BadBook ?cx_WatchError ?qx_WatchError ?cx_BadRow ?im_BadRow ?fi_BadRow ?ei_BadRow ?so_BadRow ?sa_BadRow ?hd_BadRow ?kp_BadRow ?tk_BadRow_line ?fp_BadRow_line ?o_1 ?o_2 ?o_4 ?o_5 ?al_6 ?al_7 ?al_8 ?al_9 ?kr_1 ?kr_2 ?kr_3 ?kr_4 ?kr_5 ?kr_6 ?kr_s ?kr_v ?z_len ?z_isinstance ?z_list ?z_tuple ?z_int ?z_range ?z_enumerate ?z_str ?z_bool ?z_all ?z_zip ?z_ValueError
    case i47 | i37 | i38 | i39 | i40 | i41 | i42 | i43 | i44 | i45 | i46 | i48 | i49 | i14 | i15 | i16 | i17 | i18 | i26 | i27 | i28 | i29 | i30 | i31 | i32 | i35 | i50 | i51 | i52 | i53 | i54 | i55 | i56 | i57 | i58 | i59 | i60 | i61 | i62 | i63 | i64 =>
      refine' L2.InK.of ?a ?l ?c ?k
      (case a => k_is); (case l => k_is); (case c => k_is); (case k => k_is)
    case c_Unended | c_Reading =>
      refine' L2.InC.mk ?a ?b ?c ?d ?e ?f ?g
      (case a => k_is); (case b => k_is); (case c => k_is); (case d => k_is); (case e => k_is); (case f => k_is); (case g => k_is)
    case na_Unended_head | na_Unended_rows | na_Unended_turned | na_Unended_turn_fields | na_Unended_others | na_Reading_program | na_Reading_unended | imlt | imvt | imft | imdt | cx_BadClock | cx_NotWaiting | cx_Over | cx_BadDesk | cx_BadProgram | cx_BadBook | cx_WatchError | cx_BadRow | fi_BadRow | so_BadRow | sa_BadRow | hd_BadRow | kp_BadRow | tk_BadRow_line | fp_BadRow_line | o_1 | o_2 | o_4 | o_5 | al_6 | al_7 | al_8 | al_9 => k_is
    case im_Unended___init__ | im_Unended_put | im_Unended_may_turn | im_Unended_turn | im_Unended_may_end | im_Unended_whole | im_Reading___init__ | im_Reading_allows | im_Reading_put_line | im_Reading_end_innermost | im_Reading_is_whole | im_BadRow =>
      refine' L2.InM.of ?a ?i ?l ?c ?k
      (case a => k_is); (case i => k_is); (case l => k_is); (case c => k_is); (case k => k_is)
    case ikwa | ifma | itwa =>
      refine' L2.InT.of ?a ?l ?s ?v
      (case a => k_is); (case l => k_is); (case s => decide); (case v => decide +kernel)
    case igra =>
      refine' K14.InGR.of ?a ?l ?s
      (case a => k_is); (case l => k_is); (case s => decide)
    case itua =>
      refine' K14.InTU.of ?a ?l ?s
      (case a => k_is); (case l => k_is); (case s => decide)
    case ipp =>
      refine' K14.InPP.of ?a ?l ?s
      (case a => k_is); (case l => k_is); (case s => decide)
    (case qx_WatchError => k_exc)
    case ei_BadRow =>
      refine' L2.excInI_of (nid := "ValueError.__new__") ?BadRowz1 ?BadRowz2 ?BadRowz3 ?BadRowz4 ?BadRowz5 ?BadRowz6 ?BadRowz7 ?BadRowz8 ?BadRowz9 ?BadRowz10 ?BadRowz11
      (case BadRowz1 => k_is); (case BadRowz2 => rfl); (case BadRowz3 => rfl); (case BadRowz4 => rfl); (case BadRowz5 => k_is); (case BadRowz6 => rfl); (case BadRowz7 => k_exc); (case BadRowz8 => rfl); (case BadRowz9 => k_is); (case BadRowz10 => rfl); (case BadRowz11 => k_is)
    (case z_len | z_isinstance | z_list | z_tuple | z_int | z_range | z_enumerate | z_str | z_bool | z_all | z_zip | z_ValueError => k_is)
    case kr_1 | kr_2 | kr_3 | kr_4 | kr_5 | kr_6 | kr_s | kr_v => kit_is
#print axioms PySem.Challenge.cw_nightwatch_k14_texts_refused_holds

