import PyProof.Rows.All
import Wide.All
import OpenK.AllK
import Wide.FinOn
import Lean
import KE.KPairComp
import KE.KIntText
import KE.RegKIsAll
import PySem.Challenge.RW_nightwatch_k90_desk_rows
open Array renaming getElem?_eq_some_iff→L6,mem_toList_iff→O9,toList_append→E8
open Bool renaming and_eq_true→W1,and_false→Y6,eq_iff_iff→j6,false_and→C3,false_ne_true→Q0,false_or→P7,false_xor→j4,not_eq_true'→J7,or_eq_false_iff→N9,or_false→u8,or_true→d7,true_and→S3,true_xor→V5
open Int renaming toNat_natCast→V8
open List renaming all_cons→O7,all_eq_true→C2,any_cons→N7,any_eq_false→U8,any_eq_true→V7,append_assoc→E7,append_eq_nil_iff→c7,append_nil→P3,cons_append→f6,cons→Z8,count_cons_self→M9,dropLast_concat→z7,drop_eq_getElem_cons→Z5,drop_length→Y8,drop_zero→l8,eq_nil_of_length_eq_zero→L4,filterMap_cons→D8,filter_append→S6,filter_cons→X8,filter_eq_nil_iff→Z7,find?_cons→T0,flatMap_append→C8,flatMap_cons→K5,getD_eq_getElem?_getD→k8,getElem?_append_left→Q2,getElem?_append_right→T3,getElem?_cons_zero→T6,getElem?_eq_getElem→Y1,getElem?_eq_none→E6,getElem?_eq_some_iff→Q1,getElem?_map→J2,getElem?_of_mem→g6,getElem?_replicate→z8,getElem?_set_ne→y7,getElem?_set_self→D9,getElem?_zipWith→C6,getLast?_concat→v7,getLast?_eq_getElem?→n8,getLastD_eq_getLast?→B7,length_append→K0,length_cons→v0,length_eq_zero_iff→y8,length_filterMap_le→r8,length_filter_le→C4,length_map→J0,length_nil→j3,length_pos_iff→Q5,length_replicate→L9,length_singleton→l7,length_take→Y2,length_zipWith→B8,length→c8,lookup_cons→Y3,lookup→W3,map_append→A3,map_cons→j2,map_eq_nil_iff→L5,map_map→y6,map_nil→x6,map→T8,mem_append_left→A4,mem_append_right→Z0,mem_append→Q3,mem_cons_of_mem→N0,mem_cons_self→W0,mem_cons→S0,mem_filterMap→Q6,mem_filter→O6,mem_flatMap→x5,mem_map→E5,mem_of_getElem?→j0,mem_range→u7,mem_singleton→C1,nil_append→i6,nodup_append→S8,nodup_cons→E3,not_mem_nil→A2,of_mem_zip→g7,range→C5,replicate→A7,size_toArray→V0,sum_cons→K8,take_add_one→W6,take_length→K3,take_of_length_le→A6,take_succ→Y5,take_zero→V6,toArray→Y7,zipWith_cons_cons→C9,zipWith→D4
open Nat renaming add_le_add→J5,le_add_right→c6,le_of_eq→B9,le_of_lt→Q8,le_refl→P0,le_succ_of_le→M4,le_succ→U5,le_trans→C0,lt_irrefl→B6,lt_of_le_of_lt→P4,lt_of_le_of_ne→P6,lt_of_lt_of_le→E2,lt_succ_of_lt→D7,lt_succ_self→U7,ne_of_gt→P8,ne_of_lt→j1,sub_self→O8,succ_le_succ→N3,succ_ne_self→W8,succ→j8,zero_add→A9,zero_le→N1
open Option renaming isSome_iff_exists→L7,map_eq_some_iff→W2,map_some→f7,some→V3
open Option.some renaming injEq→C7
open PyProof.Rows renaming callWith_type1→T5,split_le→K9
open PySem.F renaming args_dict_get_3→T7,args_tuple_add_2→K7,entry_dict_get→U6,entry_tuple_add→S7,plainAttrs_dict→Q7,plainAttrs_list→Y0,plainAttrs_str→L3,plain_extend_loop→m8,plain_list_iadd→x8,plain_set_new→J9,slot_dict_get→A5,slot_list_append→V1,slot_list_extend→m5,slot_str_join→k7,slot_str_split→Z4,slot_str_startswith→m6,slot_tuple_add→X7,type_dict_get→j7,type_list_append→T1,type_list_extend→j5,type_str_join→i7,type_str_split→Y4,type_str_startswith→l6
open PySem.NumText renaming digitsVal→v8
open PySem.W renaming Frag→A0,OpenLaw→g8,callWith_K→z5,cellsFrom_some→W7,clsIn→p8,codeIn→E4,emptyDict→V4,excIn→N6,findIn→G0,fnOf→V2,hasDictIn→T4,hideAll_none→m7,hideAll→f8,instObj→g5,isFn→S5,keepIn→T2,kia_one→S4,kitOne→K6,lookIn→z6,makesIn→d8,methodCall_KW→E9,methodObj→N8,mg_none_of→J3,mg_of→g0,mroIn→K4,notCls→i8,nsIn→A1,plainGet_of→A8,plainGet→Z6,plainOver→M8,specialIn→L8,takerIn→Q4
set_option Elab.async false
set_option linter.all false
set_option genSizeOf false
set_option maxRecDepth 100000
section
open Lean in
local macro_rules(kind:=Lean.Parser.Command.declaration)|s=>do
 if s.getPos?.isNone||s[0][4].getNumArgs>0 then Macro.throwUnsupported
 let n<-`(command|noncomputable def x:=0)
 return (if s[1].isOfKind ``Parser.Command.definition||s[1].isOfKind ``Parser.Command.abbrev||s[1].isOfKind ``Parser.Command.instance then s.setArg 0 (s[0].setArg 4 n.raw[0][4]) else s).rewriteBottomUp (·.setInfo .none)
namespace PySem.W.Fast
local macro_rules|`(command|universe $u*)=>do
 let r:=#[`PySem.Challenge.pw_nightwatch_k90_desk_rows]++u.map (λx=>`HK.A++x.getId)++(Array.range 2661).map λi=>`HK.A++.mkSimple s!"o_{i+39}"
 return Lean.mkNullNode (<-r.mapM λn=>do return (<-`(command|theorem $(Lean.mkIdent (.mkSimple s!"tw{n.hash}")):ident:True:=⟨⟩)).raw)
universe heap_39 view_39 sts_1902 sts_1495 sts_2609 sts_2517 sts_933 sts_183 sts_2466 sts_349 sts_241 sts_469 sts_573 sts_405 sts_811 sts_737 sts_529 sts_291 sts_629 sts_652 sts_1168 sts_1428 sts_160 sts_1149 sts_1335 sts_1879 sts_1299 sts_1392 sts_1241 sts_1479 sts_708
end PySem.W.Fast
namespace HK
open PySem PySem.W
def fr:Obj→Bool|⟨_,_,.freed,_⟩=>true|_=>false
noncomputable def pk(l:List Obj):Nat→List Nat→List Obj:=@List.rec Obj (λ_=>Nat→List Nat→List Obj) (λ_ _=>[]) (λo _ i n s=>@List.rec Nat (λ_=>List Obj) [] (λa r _=>@Bool.rec (λ_=>List Obj) (i n.succ s) (@Bool.rec (λ_=>List Obj) (o::i n.succ r) [] (fr o)) (Nat.beq a n)) s) l
theorem of:∀(l:List Obj)(n:Nat)(K:Frag),pk l n (K.map (·.1))=K.map (·.2)→∀a o,K.lookup a=some o→∃k,a=n+k∧l[k]?=some o∧fr o=false
|_,_,[],_,_,_,e=>nomatch e
|[],_,_::_,h,_,_,_=>nomatch (h:[]=_::_)
|p::l,n,(b,v)::r,h,a,o,e=>by
  replace h:@Bool.rec (λ_=>List Obj) (pk l n.succ (b::r.map (·.1))) (@Bool.rec (λ_=>List Obj) (p::pk l n.succ (r.map (·.1))) [] (fr p)) (Nat.beq b n)=v::r.map (·.2):=h
  cases hb:Nat.beq b n<;>rw [hb] at h
  · obtain ⟨k,i,j⟩:=of l _ ((b,v)::r) h a o e
    exact ⟨k+1,i.trans (Nat.succ_add ..),j⟩
  cases hf:fr p<;>rw [hf] at h
  · cases Nat.eq_of_beq_eq_true hb
    obtain ⟨rfl,g⟩:=List.cons.inj h
    rw [List.lookup_cons] at e
    cases hc:a==n<;>rw [hc] at e
    · obtain ⟨k,i,j⟩:=of l _ r g a o e
      exact ⟨k+1,i.trans (Nat.succ_add ..),j⟩
    · cases e
      exact ⟨0,beq_iff_eq.1 hc,rfl,hf⟩
  · cases h
theorem ins{K:Params→Frag}{s:List Addr}(e:∀P,s=(K P).map (·.1))(w:World)(t:Shared)(x:pk t.heap.objs.toList 0 s=(K w.params).map (·.2)):InK K w t.heap:=λa o h=>by
  obtain ⟨_,rfl,i,j⟩:=of _ 0 _ (e w.params▸x) a o h
  unfold Heap.get?
  rw [Array.getElem?_toList] at i
  rw [Nat.zero_add,i]
  obtain ⟨_,_,x,_⟩:=o
  cases x<;>first|rfl|cases j
noncomputable def hk(K:Params→Frag)(s:List Addr)(e:∀P,s=(K P).map (·.1)):Hook:=⟨List Obj,λt=>pk t.heap.objs.toList 0 s,λw=>(K w.params).map (·.2),InK K,ins e,InK.keeps⟩
local macro_rules|`(tactic|o_head ($f $K $A $e))=>if f.raw.getId.eraseMacroScopes.getString! =="hk" then Lean.Macro.throwUnsupported else `(tactic|o_head (HK.hk $K $A $e))
set_option maxHeartbeats 0 in
open_top A for PySem.Challenge.rw_nightwatch_k90_desk_rows
end HK
set_option compiler.extract_closed false
namespace HK
variable {a b c d e f i j l m o G:Prop}
theorem n2(h:a/\b)(k:a->b->G):G:=k h.1 h.2
theorem n3(h:a/\b/\c)(k:a->b->c->G):G:=n2 h.2 (k h.1)
theorem n4(h:a/\b/\c/\d)(k:a->b->c->d->G):G:=n3 h.2 (k h.1)
theorem n5(h:a/\b/\c/\d/\e)(k:a->b->c->d->e->G):G:=n4 h.2 (k h.1)
theorem n6(h:a/\b/\c/\d/\e/\f)(k:a->b->c->d->e->f->G):G:=n5 h.2 (k h.1)
theorem n7(h:a/\b/\c/\d/\e/\f/\i)(k:a->b->c->d->e->f->i->G):G:=n6 h.2 (k h.1)
theorem n8(h:a/\b/\c/\d/\e/\f/\i/\j)(k:a->b->c->d->e->f->i->j->G):G:=n7 h.2 (k h.1)
theorem n9(h:a/\b/\c/\d/\e/\f/\i/\j/\l)(k:a->b->c->d->e->f->i->j->l->G):G:=n8 h.2 (k h.1)
theorem n10(h:a/\b/\c/\d/\e/\f/\i/\j/\l/\m)(k:a->b->c->d->e->f->i->j->l->m->G):G:=n9 h.2 (k h.1)
theorem n11(h:a/\b/\c/\d/\e/\f/\i/\j/\l/\m/\o)(k:a->b->c->d->e->f->i->j->l->m->o->G):G:=n10 h.2 (k h.1)
end HK
namespace HK
variable {a b c d e f i j l m o:Type} {G:Prop}
theorem e2{R:a->b->Prop}(h:∃p q,R p q)(k:∀p q,R p q->G):G:=h.elim λ_ h=>h.elim (k _)
theorem e3{R:a->b->c->Prop}(h:∃p q r,R p q r)(k:∀p q r,R p q r->G):G:=h.elim λ_ h=>e2 h (k _)
theorem e4{R:a->b->c->d->Prop}(h:∃p q r s,R p q r s)(k:∀p q r s,R p q r s->G):G:=h.elim λ_ h=>e3 h (k _)
theorem e5{R:a->b->c->d->e->Prop}(h:∃p q r s t,R p q r s t)(k:∀p q r s t,R p q r s t->G):G:=h.elim λ_ h=>e4 h (k _)
theorem e6{R:a->b->c->d->e->f->Prop}(h:∃p q r s t u,R p q r s t u)(k:∀p q r s t u,R p q r s t u->G):G:=h.elim λ_ h=>e5 h (k _)
theorem e7{R:a->b->c->d->e->f->i->Prop}(h:∃p q r s t u v,R p q r s t u v)(k:∀p q r s t u v,R p q r s t u v->G):G:=h.elim λ_ h=>e6 h (k _)
theorem e8{R:a->b->c->d->e->f->i->j->Prop}(h:∃p q r s t u v w,R p q r s t u v w)(k:∀p q r s t u v w,R p q r s t u v w->G):G:=h.elim λ_ h=>e7 h (k _)
theorem e9{R:a->b->c->d->e->f->i->j->l->Prop}(h:∃p q r s t u v w x,R p q r s t u v w x)(k:∀p q r s t u v w x,R p q r s t u v w x->G):G:=h.elim λ_ h=>e8 h (k _)
theorem e10{R:a->b->c->d->e->f->i->j->l->m->Prop}(h:∃p q r s t u v w x y,R p q r s t u v w x y)(k:∀p q r s t u v w x y,R p q r s t u v w x y->G):G:=h.elim λ_ h=>e9 h (k _)
theorem e11{R:a->b->c->d->e->f->i->j->l->m->o->Prop}(h:∃p q r s t u v w x y z,R p q r s t u v w x y z)(k:∀p q r s t u v w x y z,R p q r s t u v w x y z->G):G:=h.elim λ_ h=>e10 h (k _)
end HK
section
local macro_rules | `(tactic| lk) => `(tactic| decide +kernel)
local macro_rules | `(tactic| kd_p) => `(tactic| decide)
open Lean Parser.Tactic in
local macro_rules|`(tactic|obtain ⟨$p,*⟩:=$h)=>do
 let p:=p.getElems
 let n:=p.size
 if n<3||n>20||p.any λx=>(x.raw.find? (·.isToken "|")).isSome then Macro.throwUnsupported
 let k:=λx:Array (TSyntax ``rcasesPatLo)=>x.mapM λx=>do
  let y:=x.raw[0][0][0]
  if y.isOfKind ``rcasesPat.one&&y[0].getId !=`rfl then `(tactic|intro $(⟨y[0]⟩):ident) else if y.isOfKind ``rcasesPat.ignore then `(tactic|intro _) else `(tactic|(intro z;obtain $(⟨x.raw[0]⟩):rcasesPatMed:=z))
 let i:=λs n=>mkIdent (.str `HK s!"{s}{n}")
 let c<-if h.raw.isIdent then `(tactic|try clear $(⟨h.raw⟩):ident) else `(tactic|skip)
 let mut r:=#[]
 for m in [0:min n 12] do
  let m:=min n 12-1-m
  let a:=p.extract m n
  if m==1||a.size>11||a.size==2 then continue
  let v<-if a.size==1 then k a else pure (#[<-`(tactic|intro z),<-`(tactic|refine $(i "n" a.size) z ?_),<-`(tactic|clear z)]++(<-k a))
  r:=r.push (<-if m==0 then `(tacticSeq|(refine $(i "n" n) $h ?_;$c;$[$(<-k p)];*)) else `(tacticSeq|(refine $(i "e" m) $h ?_;$c;$[$((<-k (p.extract 0 m))++v)];*)))
 r:=r.push (<-`(tacticSeq|rcases $h:term with ⟨$p,*⟩))
 `(tactic|first $[|$r]*)
open Lean Parser.Tactic in
local macro_rules|`(tactic|rintro $p*)=>do
 let u:=λx:Syntax=>x[0].isOfKind ``rcasesPat.tuple&&x[0][1].getNumArgs>4
 if !p.any (u ·.raw)||p.any λx=>(x.raw.find? (·.isToken "|")).isSome then Macro.throwUnsupported
 let r<-p.mapM λx=>if u x.raw then `(tactic|(intro z;obtain $(⟨mkNode ``rcasesPatMed #[mkNullNode #[x.raw[0]]]⟩):rcasesPatMed:=z)) else `(tactic|rintro $x)
 `(tactic|($[$r];*))
namespace L2
open PySem PySem.Spec PyProof.Rows

abbrev Bw:=Sum Int Str
def LG:Bw->Value->Bool
 |.inl k,v=>Value.isInt k v
 |.inr x,v=>Value.isStrOf x v
def keyH (w:World):Bw->Int
 |.inl k=>hashInt k
 |.inr x=>hashStr w x
theorem BK:∀ {k:Bw} {v:Value},LG k v=true->(∃ i t,k=Sum.inl i/\v=Value.int i t)\/(∃ x t,k=Sum.inr x/\v=Value.str x t)
 |.inl i,v,h=>by
  obtain ⟨t,e⟩:=Value.isInt_shape (k:=i) (v:=v) h
  exact .inl ⟨i,t,rfl,e⟩
 |.inr x,v,h=>by
  obtain ⟨t,e⟩:=Value.isStrOf_shape (x:=x) (v:=v) h
  exact .inr ⟨x,t,rfl,e⟩
theorem RU (i:Int) (t:Tok):LG (.inl i) (.int i t)=true:=by simp [LG,Value.isInt]
theorem Bg (x:Str) (t:Tok):LG (.inr x) (.str x t)=true:=by simp [LG,Value.isStrOf]
theorem key_ll (a b:Int):decide ((Sum.inl a:Bw)=Sum.inl b)=(a == b):=by
 by_cases e:a=b
 ·subst e;simp
 ·have h:¬ (Sum.inl a:Bw)=Sum.inl b:=λq=>e (Sum.inl.inj q)
  rw [decide_eq_false h]
  exact (beq_eq_false_iff_ne.mpr e).symm
theorem key_rr (a b:Str):decide ((Sum.inr a:Bw)=Sum.inr b)=decide (a=b):=by
 by_cases e:a=b
 ·subst e;simp
 ·have h:¬ (Sum.inr a:Bw)=Sum.inr b:=λq=>e (Sum.inr.inj q)
  rw [decide_eq_false h,decide_eq_false e]
theorem key_lr (a:Int) (b:Str):decide ((Sum.inl a:Bw)=Sum.inr b)=false:=decide_eq_false (λq=>nomatch q)
theorem key_rl (a:Str) (b:Int):decide ((Sum.inr a:Bw)=Sum.inl b)=false:=decide_eq_false (λq=>nomatch q)

def Bn (prog:Program) (w:World):PySem.KeyKind prog w Bw where
 is:=LG
 hash:=keyH w
 inj:=λv a b ha hb=>by
  rcases BK ha with ⟨i,t,rfl,rfl⟩ | ⟨x,t,rfl,rfl⟩
  ·rcases BK hb with ⟨j,u,rfl,e⟩ | ⟨y,u,rfl,e⟩
   ·injection e with e1 _;rw [e1]
   ·exact nomatch e
  ·rcases BK hb with ⟨j,u,rfl,e⟩ | ⟨y,u,rfl,e⟩
   ·exact nomatch e
   ·injection e with e1 _;rw [e1]
 byValue:=λk v h=>by
  rcases BK h with ⟨i,t,rfl,rfl⟩ | ⟨x,t,rfl,rfl⟩<;>rfl
 pyHash:=λhv h=>by
  rcases BK hv with ⟨i,t,rfl,rfl⟩ | ⟨x,t,rfl,rfl⟩
  ·exact wpAny_pyHash_int h
  ·exact wpAny_pyHash_str h
 eqBool:=λhu hv h=>by
  rcases BK hu with ⟨i,t,rfl,rfl⟩ | ⟨x,t,rfl,rfl⟩
  ·rcases BK hv with ⟨j,u,rfl,rfl⟩ | ⟨y,u,rfl,rfl⟩
   ·rw [key_ll] at h;exact wpAny_eqBool_int h
   ·rw [key_lr] at h;exact SeqAt.EqAt.int_str i t y u _ _ _ _ h
  ·rcases BK hv with ⟨j,u,rfl,rfl⟩ | ⟨y,u,rfl,rfl⟩
   ·rw [key_rl] at h;exact SeqAt.EqAt.str_int x t j u _ _ _ _ h
   ·rw [key_rr] at h;exact wpAny_eqBool_str h
 «strs»:=λk x t v h=>by
  rcases BK h with ⟨i,u,rfl,e⟩ | ⟨y,u,rfl,e⟩
  ·exact nomatch e
  ·injection e with e1 _
   subst e1
   cases v<;>rfl

theorem NV (prog:Program) (w:World) (i:Int) (t:Tok):(Bn prog w).is (.inl i) (.int i t)=true:=RU i t
theorem NT (prog:Program) (w:World) (x:Str) (t:Tok):(Bn prog w).is (.inr x) (.str x t)=true:=Bg x t

inductive V where
 |non | bl (b:Bool) | int (i:Int) | str (x:Str) | byt (b:Array UInt8) | flt (b:UInt64) | ref (a:Addr) | ty (n:String)
 deriving DecidableEq

def Ba:V->Value->Prop
 |.non,u=>u=Value.none
 |.bl b,u=>u=Value.bool b
 |.int i,u=>∃ t,u=Value.int i t
 |.str x,u=>∃ t,u=Value.str x t
 |.byt b,u=>∃ t,u=Value.bytes b t
 |.flt b,u=>∃ t,u=Value.float b t
 |.ref a,u=>u=Value.ref a
 |.ty n,u=>u=Value.type n

abbrev AR:List V->List Value->Prop:=Paired Ba
theorem AR.length {xs:List V} {us:List Value} (r:AR xs us):xs.length=us.length:=Paired.length r
theorem AR.get:∀ {xs:List V} {us:List Value} {i:Nat} {x:V},AR xs us->xs[i]?=some x->∃ u,us[i]?=some u/\Ba x u
 |_,_,_,_,.nil,e=>by simp at e
 |_,_,0,_,.cons r _,e=>by simp at e;subst e;exact ⟨_,rfl,r⟩
 |_,_,i+1,x,.cons _ t,e=>by
  obtain ⟨u,h1,h2⟩:=AR.get (i:=i) (x:=x) t (by simpa using e)
  exact ⟨u,by simpa using h1,h2⟩
theorem AR.append:∀ {xs ys:List V} {us ws:List Value},AR xs us->AR ys ws->AR (xs++ys) (us++ws)
 |_,_,_,_,.nil,s=>s
 |_,_,_,_,.cons r t,s=>.cons r (AR.append t s)
theorem AR.take:∀ {xs:List V} {us:List Value} (n:Nat),AR xs us->AR (xs.take n) (us.take n)
 |_,_,0,_=>.nil
 |_,_,_+1,.nil=>.nil
 |_,_,n+1,.cons r t=>.cons r (AR.take n t)
theorem AR.drop:∀ {xs:List V} {us:List Value} (n:Nat),AR xs us->AR (xs.drop n) (us.drop n)
 |_,_,0,r=>r
 |_,_,_+1,.nil=>.nil
 |_,_,n+1,.cons _ t=>AR.drop n t
def DK:Option V->Option Value->Prop
 |some v,some u=>Ba v u
 |none,none=>True
 |_,_=>False
def KV {κ:Type}:List (κ×V)->List (κ×Value)->Prop:=Paired λ(p:κ×V) (q:κ×Value)=>p.1=q.1/\Ba p.2 q.2

def kV:Bw->V
 |.inl i=>.int i
 |.inr x=>.str x

inductive HO where
 |lst (xs:List V)
 |tup (xs:List V)
 |dK (kvs:List (Bw×V)) | dT (kvs:List (List Bw×V))
 |set (S:Int->Bool) (n:Nat)
 |ins (C dx:Addr) (fs:List (Str×V))
 |own (x:Addr)
 |xd (fs:List (Str×V))
 |met (f x:Addr)
 |rng (lo hi:Int)
 |frz (o:Obj) (u:HO)
 |tbl (ps:Array Value)
 |ext (φ:Heap->Prop)

abbrev Hp:=Addr->Option HO
def upd (H:Hp) (a:Addr) (o:HO):Hp:=λb=>if b=a then some o else H b
theorem Ab {H:Hp} {a:Addr} {o:HO}:upd H a o a=some o:=by unfold upd;rw [if_pos rfl]
theorem Ah {H:Hp} {a b:Addr} {o:HO} (h:b≠a):upd H a o b=H b:=by unfold upd;rw [if_neg h]
theorem LY {H:Hp} {a:Addr} {o u:HO}:upd (upd H a o) a u=upd H a u:=by
 funext b;unfold upd;split<;>rfl
theorem AU {H:Hp} {a b:Addr} {o u:HO} (h:H a=some o) (h':H b=some u) (d:o≠u):a≠b:=by
 intro e;subst e;rw [h] at h';exact d (V3.inj h')
theorem AE {H:Hp} {a b:Addr} {o:HO} (h:H a=some o) (h':H b=none):a≠b:=by
 intro e;subst e;rw [h] at h';cases h'

section
variable (P:Program) (w:World)
def Bj (H:Hp) (h:Heap) (a:Addr):HO->Prop
 |.lst xs=>xs.length<=sizeLine/\∃ (its:List Value) (n:Nat),AR xs its/\h.get? a=some { cls:=.type "list",data:=.seq its.toArray n }
 |.tup xs=>xs.length<=sizeLine/\∃ its:List Value,AR xs its/\IsTup h a its.toArray
 |.dK kvs=>kvs.length<=sizeLine/\(a == sysModules)=false/\∃ vs,KV kvs vs/\h.DictOf (Bn P w) a vs
 |.dT kvs=>kvs.length<=sizeLine/\(a == sysModules)=false/\∃ xs:List (List Bw×Addr×Value),
   Paired (λ(p:List Bw×V) (q:List Bw×Addr×Value)=>p.1=q.1/\H q.2.1=some (.tup (p.1.map kV))/\Ba p.2 q.2.2) kvs xs /\
   ∃ o es ep,h.get? a=some o/\o.ExactDict/\o.data=.dict es ep/\es.toList=xs.map (entryOfKey (tupleKind (Bn P w)))/\(xs.map (·.1)).Nodup
 |.set S n=>h.SetOf (intKind P w) a S n
 |.ins C dx fs=>H dx=some (.own a)/\fs.length<=1000/\dx≠a/\h.get? a=some (g5 C dx) /\
   ∃ mA,h.Ns1 dx mA/\(∀ f,DK (fs.lookup f) (mA f))/\PySem.Within mA (fs.map (·.1))
 |.own _=>∃ o,h.get? a=some o
 |.xd fs=>∃ mA,h.Ns1 a mA/\∀ f,DK (fs.lookup f) (mA f)
 |.rng lo hi=>∃ t u v,h.get? a=some { cls:=.type "range",data:=.fields #[.int lo t,.int hi u,.int 1 v] }
 |.frz o u=>h.get? a=some o/\Bj H h a u
 |.tbl ps=>h.get? a=some { cls:=.none,data:=.fields ps }
 |.met f x=>h.get? a=some (N8 (.ref f) (.ref x))
 |.ext φ=>φ h/\(∃ o,h.get? a=some o)/\∀ h1 h2:Heap,φ h1->(∀ o,h1.get? a=some o->h2.get? a=some o)->φ h2
def GX (H:Hp) (h:Heap):Prop:=∀ a o,H a=some o->Bj P w H h a o
end

section
variable {P:Program} {w:World} {H H':Hp} {h h':Heap} {a:Addr} {o:HO}
theorem Bj.lt (x:Bj P w H h a o):a<h.objs.size:=by
 cases o with
 |lst xs=>obtain ⟨_,_,_,_,e⟩:=x;exact Heap.lt_size e
 |tup xs=>obtain ⟨_,_,_,p⟩:=x;exact p.lt
 |dK kvs=>obtain ⟨_,_,_,_,o,_,_,e,_⟩:=x;exact Heap.lt_size e
 |dT kvs=>obtain ⟨_,_,_,_,o,_,_,e,_⟩:=x;exact Heap.lt_size e
 |set S n=>obtain ⟨o,_,_,_,e,_⟩:=x;exact Heap.lt_size e
 |ins C dx fs=>obtain ⟨_,_,_,e,_⟩:=x;exact Heap.lt_size e
 |own y=>obtain ⟨_,e⟩:=x;exact Heap.lt_size e
 |xd fs=>obtain ⟨_,⟨_,_,_,e,_⟩,_⟩:=x;exact Heap.lt_size e
 |rng lo hi=>obtain ⟨_,_,_,e⟩:=x;exact Heap.lt_size e
 |frz ob u=>obtain ⟨e,_⟩:=x;exact Heap.lt_size e
 |tbl ps=>exact Heap.lt_size (show h.get? a=some _ from x)
 |met f y=>exact Heap.lt_size (show h.get? a=some _ from x)
 |ext φ=>obtain ⟨_,⟨_,e⟩,_⟩:=x;exact Heap.lt_size e
theorem Paired.mapP {α β:Type} {F G:α->β->Prop}:∀ {l₁:List α} {l₂:List β},Paired F l₁ l₂->(∀ a b,F a b->G a b)->Paired G l₁ l₂
 |_,_,.nil,_=>.nil
 |_,_,.cons r t,f=>.cons (f _ _ r) (Paired.mapP t f)
theorem Bj.stay (x:Bj P w H h a o) (k:∀ b u,(b=a\/H b=some (.own a))->h.get? b=some u->h'.get? b=some u)
  (ho:∀ b,H b=some (.own a)->H' b=some (.own a)) (ht:∀ b xs,H b=some (.tup xs)->H' b=some (.tup xs)):Bj P w H' h' a o:=by
 induction o with
 |lst xs=>obtain ⟨z,its,n,r,e⟩:=x;exact ⟨z,its,n,r,k _ _ (.inl rfl) e⟩
 |tup xs=>obtain ⟨z,its,r,ob,e,c⟩:=x;exact ⟨z,its,r,ob,k _ _ (.inl rfl) e,c⟩
 |dK kvs=>obtain ⟨z,y,vs,r,ob,es,ep,e,c⟩:=x;exact ⟨z,y,vs,r,ob,es,ep,k _ _ (.inl rfl) e,c⟩
 |dT kvs =>
  obtain ⟨z,y,xs,r,ob,es,ep,e,c⟩:=x
  exact ⟨z,y,xs,Paired.mapP r λp q z=>⟨z.1,ht _ _ z.2.1,z.2.2⟩,ob,es,ep,k _ _ (.inl rfl) e,c⟩
 |set S n=>obtain ⟨ob,es,ep,t,e,c⟩:=x;exact ⟨ob,es,ep,t,k _ _ (.inl rfl) e,c⟩
 |ins C dx fs =>
  obtain ⟨d,z,ne,e,mA,⟨od,es,ep,e2,c⟩,r⟩:=x
  exact ⟨ho _ d,z,ne,k _ _ (.inl rfl) e,mA,⟨od,es,ep,k _ _ (.inr d) e2,c⟩,r⟩
 |own y=>obtain ⟨ob,e⟩:=x;exact ⟨ob,k _ _ (.inl rfl) e⟩
 |xd fs=>obtain ⟨mA,⟨od,es,ep,e,c⟩,r⟩:=x;exact ⟨mA,⟨od,es,ep,k _ _ (.inl rfl) e,c⟩,r⟩
 |rng lo hi=>obtain ⟨t,u,v,e⟩:=x;exact ⟨t,u,v,k _ _ (.inl rfl) e⟩
 |frz ob u ih=>obtain ⟨e,q⟩:=x;exact ⟨k _ _ (.inl rfl) e,ih q⟩
 |tbl ps =>
  have e:h.get? a=some { cls:=.none,data:=.fields ps }:=x
  show h'.get? a=some { cls:=.none,data:=.fields ps }
  exact k a _ (.inl rfl) e
 |met f y =>
  have e:h.get? a=some (N8 (.ref f) (.ref y)):=x
  show h'.get? a=some (N8 (.ref f) (.ref y))
  exact k a _ (.inl rfl) e
 |ext φ=>obtain ⟨p,⟨o,e⟩,st⟩:=x;exact ⟨st _ _ p λo q=>k _ _ (.inl rfl) q,⟨o,k _ _ (.inl rfl) e⟩,st⟩
theorem GX.lt (x:GX P w H h) (e:H a=some o):a<h.objs.size:=(x a o e).lt
theorem GX.fresh (x:GX P w H h) (e:h.objs.size<=a):H a=none:=by
 cases q:H a with
 |none=>rfl
 |some u=>exact absurd (E2 (x.lt q) e) (B6 _)
theorem GX.kept (x:GX P w H h) (k:∀ b u,h.get? b=some u->h'.get? b=some u):GX P w H h':=λa o e =>
 (x a o e).stay (λb u _ q=>k b u q) (λ_ q=>q) λ_ _ q=>q
theorem GX.laid (x:GX P w H h) (k:∀ b u,h.get? b=some u->h'.get? b=some u) (hp:h.objs.size<=a) (new:Bj P w (upd H a o) h' a o):GX P w (upd H a o) h':=λb u e=>by
 have hn:=x.fresh hp
 by_cases hb:b=a
 ·subst hb;rw [Ab] at e;cases e;exact new
 ·rw [Ah hb] at e
  exact (x b u e).stay (λc v _ q=>k c v q) (λc q=>by rw [Ah (AE q hn)];exact q) λc xs q=>by rw [Ah (AE q hn)];exact q
end

def Rd (H:Hp) (a:Addr) (u:HO):Prop:=H a=some u\/∃ o,H a=some (.frz o u)
theorem Rd.ok {P:Program} {w:World} {H:Hp} {h:Heap} {a:Addr} {u:HO} (r:Rd H a u) (x:GX P w H h):Bj P w H h a u:=by
 rcases r with r | ⟨o,r⟩
 ·exact x a u r
 ·obtain ⟨_,q⟩:=x a _ r
  exact q
def Mut:Option HO->Prop
 |some (.lst _)=>True
 |some (.dK _)=>True
 |some (.dT _)=>True
 |some (.set _ _)=>True
 |some (.ins _ _ _)=>True
 |some (.ext _)=>True
 |_=>False
section
variable {P:Program} {w:World} {H:Hp} {h h':Heap} {x e:Addr} {o':HO}
theorem GX.write (ok:GX P w H h) (mu:Mut (H x)) (he:e=x\/H e=some (.own x)) (k:∀ b u,b≠e->h.get? b=some u->h'.get? b=some u) (heo:∃ u,h'.get? e=some u)
  (new:Bj P w (upd H x o') h' x o'):GX P w (upd H x o') h':=λb u q=>by
 have nown:∀ c y,H c=some (.own y)->c≠x:=λc y r z=>by subst z;rw [r] at mu;exact mu
 have ntup:∀ c xs,H c=some (.tup xs)->c≠x:=λc xs r z=>by subst z;rw [r] at mu;exact mu
 by_cases hb:b=x
 ·subst hb;rw [Ab] at q;cases q;exact new
 ·rw [Ah hb] at q
  by_cases hbe:b=e
  ·have q':H b=some (.own x):=by
    rcases he with z | z
    ·exact absurd (hbe.trans z) hb
    ·rw [hbe];exact z
   rw [q] at q';cases q'
   obtain ⟨v,hv⟩:=heo
   exact ⟨v,by rw [hbe];exact hv⟩
  ·refine (ok b u q).stay (λc v hc r=>k c v ?_ r) (λc r=>by rw [Ah (nown c b r)];exact r) λc xs r=>by rw [Ah (ntup c xs r)];exact r
   rcases hc with rfl | hc
   ·exact hbe
   ·rintro rfl
    rcases he with z | z
    ·exact nown c b hc z
    ·rw [hc] at z;cases z;exact hb rfl
end

structure Un (fs ex:List Addr) (H H':Hp) (h h':Heap):Prop where
 keep:∀ b o,h.get? b=some o->H b=none->b∉fs->b∉ex->h'.get? b=some o
 slot:∀ b o,h.get? b=some o->H b=none->b∈fs->b∉ex->∃ sl,h'.get? b=some { o with slots:=sl }
 free:∀ b o,h.get? b=some o->H b=none->b∉ex->H' b=none
 there:∀ b o,h.get? b=some o->b∉ex->∃ o',h'.get? b=some o'
 tups:∀ b xs,H b=some (.tup xs)->H' b=some (.tup xs)
 frzs:∀ b o u,H b=some (.frz o u)->H' b=some (.frz o u)
 tbls:∀ b ps,H b=some (.tbl ps)->∃ more,H' b=some (.tbl (ps++more))
section
variable {fs fs' ex ex':List Addr} {H H1 H2:Hp} {h h1 h2 h':Heap} {a x e:Addr} {o:HO}
theorem Un.any (u:Un fs ex H H1 h h1) {b:Addr} {ob:Obj} (q:h.get? b=some ob) (n:H b=none) (hx:b∉ex):∃ sl,h1.get? b=some { ob with slots:=sl }:=by
 by_cases hb:b∈fs
 ·exact u.slot b ob q n hb hx
 ·exact ⟨ob.slots,u.keep b ob q n hb hx⟩
theorem Un.kept (k:∀ b u,h.get? b=some u->h'.get? b=some u):Un fs ex H H h h' :=
 ⟨λb ob q _ _ _=>k b ob q,λb ob q _ _ _=>⟨ob.slots,k b ob q⟩,λ_ _ _ n _=>n,λb ob q _=>⟨ob,k b ob q⟩,λ_ _ q=>q,λ_ _ _ q=>q,λ_ ps q=>⟨#[],by rw [q];simp⟩⟩
theorem Un.refl:Un fs ex H H h h:=Un.kept λ_ _ q=>q
theorem Un.laid (k:∀ b u,h.get? b=some u->h'.get? b=some u) (hp:h.objs.size<=a) (hn:H a=none):Un fs ex H (upd H a o) h h' where
 keep:=λb u q _ _ _=>k b u q
 slot:=λb u q _ _ _=>⟨u.slots,k b u q⟩
 free:=λb u q n _=>by rw [Ah (j1 (E2 (Heap.lt_size q) hp))];exact n
 there:=λb u q _=>⟨u,k b u q⟩
 tups:=λb xs q=>by rw [Ah (AE q hn)];exact q
 frzs:=λb u xs q=>by rw [Ah (AE q hn)];exact q
 tbls:=λb ps q=>⟨#[],by rw [Ah (AE q hn),q];simp⟩
theorem Un.write (mu:Mut (H x)) (he:e=x\/H e=some (.own x)) (k:∀ b u,b≠e->h.get? b=some u->h'.get? b=some u) (heo:∃ u,h'.get? e=some u):Un fs ex H (upd H x o) h h':=by
 have hx:∀ b,H b=none->b≠x:=λb n z=>by subst z;rw [n] at mu;exact mu
 have hb:∀ b,H b=none->b≠e:=λb n z=>by
  subst z
  rcases he with r | r
  ·exact hx b n r
  ·rw [n] at r;cases r
 have hm:∀ b u,H b=some u->¬ Mut (some u)->b≠x:=λb u q nm z=>by subst z;rw [q] at mu;exact nm mu
 refine ⟨λb u q n _ _=>k b u (hb b n) q,λb u q n _ _=>⟨u.slots,k b u (hb b n) q⟩,λb u q n _=>by rw [Ah (hx b n)];exact n,λb u q _=>?_,
  λb xs q=>by rw [Ah (hm b _ q λz=>z)];exact q,λb u xs q=>by rw [Ah (hm b _ q λz=>z)];exact q,λb ps q=>⟨#[],by rw [Ah (hm b _ q λz=>z),q];simp⟩⟩
 by_cases hbe:b=e
 ·subst hbe;exact heo
 ·exact ⟨u,k b u hbe q⟩
end

def trk (h:Heap) (H:Hp):List Addr:=(C5 h.objs.size).filter λa=>(H a).isSome
def MH (h:Heap) (H:Hp):Heap:=f8 h (trk h H)
theorem RZ (h:Heap) (H:Hp):(MH h H).objs.size=h.objs.size:=PySem.W.hideAll_size _ _
theorem UI {h:Heap} {H:Hp} {b:Addr} {o:Obj} (e:h.get? b=some o) (n:H b=none):(MH h H).get? b=some o :=
 PySem.W.hideAll_get _ e λhm=>by
  have q:(H b).isSome=true:=(O6.mp hm).2
  rw [n] at q;simp at q
theorem of_hidT {h:Heap} {H:Hp} {b:Addr} {o:Obj} (e:(MH h H).get? b=some o):h.get? b=some o/\H b=none:=by
 have e':h.get? b=some o:=PySem.W.of_hideAll (trk h H) e
 refine ⟨e',?_⟩
 cases q:H b with
 |none=>rfl
 |some x =>
  have hm:b∈trk h H:=O6.mpr ⟨u7.mpr (Heap.lt_size e'),by simp [q]⟩
  have z:(MH h H).get? b=none:=m7 (trk h H) hm
  rw [z] at e;cases e

def allNews (g h:Heap) (L:Addr):List (Addr×Obj):=(C5 h.objs.size).filterMap λa=>if a=L\/(g.get? a).isSome=true then none else (h.get? a).map λo=>(a,o)
def Bh (g h:Heap) (L d:Addr):List (Addr×Obj):=(allNews g h L).filter λp=>decide (p.1≠d)

structure Mod (K:A0) (mg:Str->Option Value) (base:Heap):Prop where
 kin:K.In base
 glob:base.Ns mainGlobals mg
 blt:∃ mb,base.Ns builtinsNs mb/\∀ x:Str,x≠"__name__"->mb x=bootBuiltins x
 nolimit:base.NoLimit

set_option genInjectivity false in
structure Cx where
 prog:Program
 w:World
 K:A0
 mg:Str->Option Value
 base:Heap
 A:Around
 N:List Str
 s₀:Shared
 H₀:Hp
 env:Env
 outer:List Env
 stack:List Env
 ex:List Addr
 fn:Str->Bool
 calm:Bool
 pn:List (Addr×Obj)
 xe:Value->Shared->Prop
def HC (l:List Env):List Addr:=l.filterMap (·.frame)
abbrev Cx.fs (X:Cx):List Addr:=HC X.outer

def Vis (sc:Scope) (x:Str):Prop:=sc.names.lookup x=some .local\/sc.names.lookup x=some .cell\/sc.names.lookup x=some .free
def Loc (sc:Scope) (x:Str):Prop:=sc.names.lookup x=some .local\/sc.names.lookup x=some .cell
def Look (env:Env) (h:Heap) (m:Str->Option Value) (x:Str) (u:Value):Prop :=
 (env.kindOf x=some .local/\m x=some u)\/((env.kindOf x=some .cell\/env.kindOf x=some .free)/\∃ c,env.cells.lookup x=some c/\h.IsCell c (some u))

structure Cx.Ok (X:Cx):Prop where
 mod:Mod X.K X.mg X.base
 kind:X.env.scope.kind=.function
 glob:X.env.globals=mainGlobals
 blt:X.env.builtins=builtinsNs
 above:X.s₀.heap.objs.size<=X.env.locals
 inj:∀ x y c,X.env.cells.lookup x=some c->X.env.cells.lookup y=some c->x=y
 has:∀ x,(X.env.kindOf x=some .cell\/X.env.kindOf x=some .free)->∃ c,X.env.cells.lookup x=some c
 cab:∀ x c,X.fn x=true->X.env.cells.lookup x=some c->X.s₀.heap.objs.size<=c
 hd:X.calm=true->X.A.handled=none
 frames:X.A.frames=some X.stack
 stk:X.stack=X.outer\/(X.stack=X.env::X.outer/\X.env.frame=some X.env.locals)
 exf:∀ b∈X.ex,b≠X.env.locals/\∀ x c,X.env.cells.lookup x=some c->c≠b
 bs:∀ b o,X.base.get? b=some o->X.s₀.heap.get? b=some o/\X.H₀ b=none
 bsz:X.base.objs.size<=X.s₀.heap.objs.size
 noex:∀ b o,X.base.get? b=some o->b∉X.ex
 exfs:∀ b∈X.ex,b∉X.fs
 funs:X.s₀.heap.FunFrames X.base X.outer
 frf:∀ b∈X.fs,X.H₀ b=none

structure Ax (X:Cx) (pins:List (Addr×Obj)) (σ:List (Option V)) (H:Hp) (s:Shared):Prop where
 ok:X.Ok
 os:s.os=X.s₀.os
 bare:AllBare s.gens
 base:Un X.fs X.ex X.H₀ H X.s₀.heap s.heap
 loc:∃ m,s.heap.Ns X.env.locals m/\∀ (i:Nat) (x:Str) (v:V),X.N[i]?=some x->σ[i]?=some (some v)->Vis X.env.scope x->∃ u,Ba v u/\Look X.env s.heap m x u
 cell:∀ x c,X.env.cells.lookup x=some c->∃ v,s.heap.IsCell c v
 free:H X.env.locals=none
 freeC:∀ x c,X.env.cells.lookup x=some c->H c=none
 pin:∀ p∈X.pn++pins,s.heap.get? p.1=some p.2/\H p.1=none/\p.1≠X.env.locals/\p.1∉X.fs/\∀ v,p.2.data≠.cell v
 hok:GX X.prog X.w H s.heap
 len:σ.length=X.N.length

section
variable {X:Cx} {pins:List (Addr×Obj)} {σ:List (Option V)} {H H':Hp} {s:Shared} {h':Heap}

theorem Cx.Ok.nofr (ok:X.Ok) {b:Addr} {o:Obj} (e:X.base.get? b=some o):b∉X.fs:=λhb=>by
 have:=(ok.funs.mem hb).1
 rw [e] at this;cases this
theorem Ax.bs (I:Ax X pins σ H s):∀ b o,X.base.get? b=some o->s.heap.get? b=some o/\H b=none:=λb o e =>
 ⟨I.base.keep b o (I.ok.bs b o e).1 (I.ok.bs b o e).2 (I.ok.nofr e) (I.ok.noex b o e),I.base.free b o (I.ok.bs b o e).1 (I.ok.bs b o e).2 (I.ok.noex b o e)⟩
theorem Ax.bk (I:Ax X pins σ H s):∀ b o,X.base.get? b=some o->s.heap.get? b=some o:=λb o e=>(I.bs b o e).1
theorem Ax.mod (I:Ax X pins σ H s):Mod X.K X.mg X.base:=I.ok.mod
theorem Ax.kIn (I:Ax X pins σ H s):X.K.In s.heap:=I.ok.mod.kin.keeps I.bk
theorem Ax.lt (I:Ax X pins σ H s):X.env.locals<s.heap.objs.size:=let ⟨_,hn,_⟩:=I.loc;hn.lt
theorem Ax.sz (I:Ax X pins σ H s):X.s₀.heap.objs.size<=s.heap.objs.size:=C0 I.ok.above (Q8 I.lt)
theorem Ax.nofs (I:Ax X pins σ H s) {a:Addr} (h:s.heap.objs.size<=a):a∉X.fs:=λhb=>by
 obtain ⟨_,o,ho,_⟩:=I.ok.funs.mem hb
 exact absurd (E2 (Heap.lt_size ho) (C0 I.sz h)) (B6 _)
theorem Ax.cne (I:Ax X pins σ H s):∀ x c,X.env.cells.lookup x=some c->c≠X.env.locals:=λx c e z=>by
 obtain ⟨v,o,ho,hd⟩:=I.cell x c e
 obtain ⟨m,⟨o',es,ep,ho',hd',_⟩,_⟩:=I.loc
 rw [z,ho'] at ho;cases ho;rw [hd'] at hd;cases hd
theorem Ax.funs (I:Ax X pins σ H s):s.heap.FunFrames X.base X.outer:=by
 have all:∀ (l:List Env),(∀ b∈HC l,b∈X.fs)->X.s₀.heap.FunFrames X.base l->s.heap.FunFrames X.base l:=by
  intro l
  induction l with
  |nil=>intro _ _;trivial
  |cons env r ih =>
   intro hs hl
   obtain ⟨hk,⟨L,o,hf,hn,ho,hd⟩,hr⟩:=hl
   have hL:L∈X.fs:=hs L (by unfold HC;rw [D8,hf];exact W0)
   obtain ⟨sl,e⟩:=I.base.slot L o ho (I.ok.frf L hL) hL λz=>I.ok.exfs L z hL
   exact ⟨hk,⟨L,_,hf,hn,e,hd⟩,ih (λb hb=>hs b (by unfold HC;rw [D8,hf];exact N0 _ hb)) hr⟩
 exact all X.outer (λ_ hb=>hb) I.ok.funs

theorem Ax.stack (I:Ax X pins σ H s):s.heap.FunFrames X.base X.stack:=by
 rcases I.ok.stk with e | ⟨e,hf⟩
 ·rw [e];exact I.funs
 ·rw [e]
  obtain ⟨m,hn,_⟩:=I.loc
  refine .cons (by rw [I.ok.kind];decide) hf hn ?_ I.funs
  exact Heap.get?_none_of_le (C0 I.ok.bsz I.ok.above)
theorem Ax.stkSub (I:Ax X pins σ H s):∀ b∈HC X.stack,b∈X.env.locals::X.fs:=λb hb=>by
 rcases I.ok.stk with e | ⟨e,hf⟩
 ·rw [e] at hb;exact N0 _ hb
 ·rw [e] at hb
  unfold HC at hb
  rw [D8,hf] at hb
  exact hb
theorem Ax.stkFree (I:Ax X pins σ H s):∀ b∈HC X.stack,H b=none:=λb hb=>by
 rcases S0.mp (I.stkSub b hb) with e | hb
 ·rw [e];exact I.free
 ·obtain ⟨_,o,ho,_⟩:=I.ok.funs.mem hb
  exact I.base.free b o ho (I.ok.frf b hb) λz=>I.ok.exfs b z hb

theorem Ax.step {g':Array GenState} {t':Nat} {d':Drawn} {ch:List Addr} (I:Ax X pins σ H s)
  (hch:∀ b∈ch,(b∈X.ex\/X.s₀.heap.objs.size<=b)/\b≠X.env.locals/\(∀ x c,X.env.cells.lookup x=some c->c≠b)/\∀ p∈X.pn++pins,p.1≠b)
  (keep:∀ b o,b≠X.env.locals->b∉X.fs->b∉ch->s.heap.get? b=some o->H b=none->h'.get? b=some o)
  (slot:∀ b o,b≠X.env.locals->b∈X.fs->b∉ch->s.heap.get? b=some o->H b=none->∃ sl,h'.get? b=some { o with slots:=sl }) (free:∀ b o,b∉ch->s.heap.get? b=some o->H b=none->H' b=none)
  (there:∀ b o,b∉ch->s.heap.get? b=some o->∃ o',h'.get? b=some o')
  (tups:∀ b xs,H b=some (.tup xs)->H' b=some (.tup xs)) (frzs:∀ b o u,H b=some (.frz o u)->H' b=some (.frz o u)) (tbls:∀ b ps,H b=some (.tbl ps)->∃ more,H' b=some (.tbl (ps++more)))
  (ns:∀ m,s.heap.Ns X.env.locals m->h'.Ns X.env.locals m) (hok:GX X.prog X.w H' h') (hg:AllBare g') :
  Ax X pins σ H' { s with heap:=h',gens:=g',drawn:=d',toks:=t' }:=by
 have neL:∀ b o,X.s₀.heap.get? b=some o->b≠X.env.locals:=λb o e=>j1 (E2 (Heap.lt_size e) I.ok.above)
 have neC:∀ b o,X.s₀.heap.get? b=some o->b∉X.ex->b∉ch:=λb o e hx hb=>by
  rcases (hch b hb).1 with z | z
  ·exact hx z
  ·exact absurd (E2 (Heap.lt_size e) z) (B6 _)
 have cellK:∀ x c,X.env.cells.lookup x=some c->∀ v,s.heap.IsCell c v->h'.IsCell c v:=λx c e v ⟨o,ho,hd⟩=>by
  have nch:c∉ch:=λz=>(hch c z).2.2.1 x c e rfl
  by_cases hc:c∈X.fs
  ·obtain ⟨sl,q⟩:=slot c o (I.cne x c e) hc nch ho (I.freeC x c e)
   exact ⟨_,q,hd⟩
  ·exact ⟨o,keep c o (I.cne x c e) hc nch ho (I.freeC x c e),hd⟩
 refine ⟨I.ok,I.os,hg,⟨λb o e n hb hx=>?_,λb o e n hb hx=>?_,λb o e n hx=>?_,λb o e hx=>?_,λb xs e=>tups b xs (I.base.tups b xs e),λb o xs e=>frzs b o xs (I.base.frzs b o xs e),λb ps e=>?_⟩,?_,λx c e=>?_,?_,λx c e=>?_,λp hp=>?_,hok,I.len⟩
 ·exact keep b o (neL b o e) hb (neC b o e hx) (I.base.keep b o e n hb hx) (I.base.free b o e n hx)
 ·obtain ⟨sl,e1⟩:=I.base.slot b o e n hb hx
  obtain ⟨sl',e2⟩:=slot b _ (neL b o e) hb (neC b o e hx) e1 (I.base.free b o e n hx)
  exact ⟨sl',e2⟩
 ·obtain ⟨o',e1⟩:=I.base.there b o e hx
  exact free b o' (neC b o e hx) e1 (I.base.free b o e n hx)
 ·obtain ⟨o',e1⟩:=I.base.there b o e hx
  exact there b o' (neC b o e hx) e1
 ·obtain ⟨m1,e1⟩:=I.base.tbls b ps e
  obtain ⟨m2,e2⟩:=tbls b _ e1
  exact ⟨m1++m2,by rw [e2,Array.append_assoc]⟩
 ·obtain ⟨m,hn,hl⟩:=I.loc
  refine ⟨m,ns m hn,λi x v e1 e2 e3=>?_⟩
  obtain ⟨u,r,l⟩:=hl i x v e1 e2 e3
  refine ⟨u,r,?_⟩
  rcases l with l | ⟨k,c,e,z⟩
  ·exact .inl l
  ·exact .inr ⟨k,c,e,cellK x c e _ z⟩
 ·obtain ⟨v,z⟩:=I.cell x c e
  exact ⟨v,cellK x c e v z⟩
 ·obtain ⟨m,⟨o,_,_,ho,_⟩,_⟩:=I.loc
  exact free _ o (λz=>(hch _ z).2.1 rfl) ho I.free
 ·obtain ⟨v,o,ho,hd⟩:=I.cell x c e
  exact free c o (λz=>(hch c z).2.2.1 x c e rfl) ho (I.freeC x c e)
 ·obtain ⟨e,n,ne,nf,d⟩:=I.pin p hp
  have nch:p.1∉ch:=λz=>(hch p.1 z).2.2.2 p hp rfl
  exact ⟨keep p.1 p.2 ne nf nch e n,free p.1 p.2 nch e n,ne,nf,d⟩
theorem Ax.un {t':Nat} (I:Ax X pins σ H s) (u:Un X.fs [] H H' s.heap h') (hok:GX X.prog X.w H' h'):Ax X pins σ H' { s with heap:=h',toks:=t' }:=by
 obtain ⟨m,⟨o,es,ep,ho,r⟩,_⟩:=id I.loc
 obtain ⟨sl,hL⟩:=u.any ho I.free (by simp)
 exact I.step (g':=s.gens) (d':=s.drawn) (ch:=[]) (λ_ z=>nomatch z) (λb o _ hb _ e n=>u.keep b o e n hb (by simp)) (λb o _ hb _ e n=>u.slot b o e n hb (by simp)) (λb o _ e n=>u.free b o e n (by simp)) (λb o _ e=>u.there b o e (by simp)) u.tups u.frzs u.tbls (λm' hm=>by
  obtain ⟨o',es',ep',ho',r'⟩:=hm
  rw [ho] at ho';cases ho'
  exact ⟨_,es',ep',hL,r'⟩) hok I.bare
theorem Ax.call {g':Array GenState} {t':Nat} {d':Drawn} {ch:List Addr} (I:Ax X pins σ H s) (u:Un (HC X.stack) ch H H' s.heap h') (hok:GX X.prog X.w H' h') (hg:AllBare g')
  (hch:∀ b∈ch,(b∈X.ex\/X.s₀.heap.objs.size<=b)/\b≠X.env.locals/\(∀ x c,X.env.cells.lookup x=some c->c≠b)/\∀ p∈X.pn++pins,p.1≠b) :
  Ax X pins σ H' { s with heap:=h',gens:=g',drawn:=d',toks:=t' }:=by
 obtain ⟨m,⟨o,es,ep,ho,r⟩,_⟩:=id I.loc
 obtain ⟨sl,hL⟩:=u.any ho I.free λz=>(hch _ z).2.1 rfl
 exact I.step (ch:=ch) hch (λb o hL hb hc e n=>u.keep b o e n (λz=>(S0.mp (I.stkSub b z)).elim hL hb) hc) (λb o _ _ hc e n=>u.any e n hc) (λb o hc e n=>u.free b o e n hc) (λb o hc e=>u.there b o e hc) u.tups u.frzs u.tbls (λm' hm=>by
  obtain ⟨o',es',ep',ho',r'⟩:=hm
  rw [ho] at ho';cases ho'
  exact ⟨_,es',ep',hL,r'⟩) hok hg
theorem Ax.turned {t':Nat} {it:Addr} (I:Ax X pins σ H s) (k:∀ b o,b≠it->s.heap.get? b=some o->h'.get? b=some o) (hn:H it=none) (hL:it≠X.env.locals)
  (h1:it∈X.ex\/X.s₀.heap.objs.size<=it) (h2:∀ x c,X.env.cells.lookup x=some c->c≠it) (h3:∀ p∈X.pn++pins,p.1≠it):Ax X pins σ H { s with heap:=h',toks:=t' }:=by
 have nit:∀ b u,H b=some u->b≠it:=λb u e z=>by rw [z,hn] at e;cases e
 refine I.step (g':=s.gens) (d':=s.drawn) (ch:=[it]) (λb hb=>?_) (λb o _ _ hc e _=>k b o (λz=>hc (by simp [z])) e) (λb o _ _ hc e _=>⟨o.slots,k b o (λz=>hc (by simp [z])) e⟩) (λ_ _ _ _ n=>n)
  (λb o hc e=>⟨o,k b o (λz=>hc (by simp [z])) e⟩) (λ_ _ e=>e) (λ_ _ _ e=>e) (λb ps e=>⟨#[],by rw [e];simp⟩) (λm hm=>?_) (λb u e=>?_) I.bare
 ·have e:b=it:=by simpa using hb
  subst e
  exact ⟨h1,hL,h2,h3⟩
 ·obtain ⟨o,es,ep,ho,r⟩:=hm
  exact ⟨o,es,ep,k _ o (Ne.symm hL) ho,r⟩
 ·refine (I.hok b u e).stay (λc v hc q=>k c v ?_ q) (λ_ q=>q) λ_ _ q=>q
  rcases hc with z | z
  ·rw [z];exact nit b u e
  ·exact nit c _ z
theorem Ax.tok (I:Ax X pins σ H s) (t:Nat):Ax X pins σ H { s with toks:=t }:=I.un (h':=s.heap) (t':=t) Un.refl I.hok
theorem Ax.kept {t':Nat} (I:Ax X pins σ H s) (k:∀ b u,s.heap.get? b=some u->h'.get? b=some u):Ax X pins σ H { s with heap:=h',toks:=t' }:=I.un (Un.kept k) (I.hok.kept k)
theorem Ax.laid {a:Addr} {o:HO} {t':Nat} (I:Ax X pins σ H s) (k:∀ b u,s.heap.get? b=some u->h'.get? b=some u) (hp:s.heap.objs.size<=a) (new:Bj X.prog X.w (upd H a o) h' a o) :
  Ax X pins σ (upd H a o) { s with heap:=h',toks:=t' }:=I.un (Un.laid k hp (I.hok.fresh hp)) (I.hok.laid k hp new)
theorem Ax.write {x e:Addr} {o:HO} {t':Nat} (I:Ax X pins σ H s) (mu:Mut (H x)) (he:e=x\/H e=some (.own x)) (k:∀ b u,b≠e->s.heap.get? b=some u->h'.get? b=some u) (heo:∃ u,h'.get? e=some u)
  (new:Bj X.prog X.w (upd H x o) h' x o):Ax X pins σ (upd H x o) { s with heap:=h',toks:=t' }:=I.un (Un.write mu he k heo) (I.hok.write mu he k heo new)
theorem Ax.weak {σ':List (Option V)} (I:Ax X pins σ H s) (hl:σ'.length=σ.length) (w:∀ (i:Nat) v,σ'[i]?=some (some v)->σ[i]?=some (some v)):Ax X pins σ' H s :=
 ⟨I.ok,I.os,I.bare,I.base,let ⟨m,hn,hl'⟩:=I.loc;⟨m,hn,λi x v e1 e2 e3=>hl' i x v e1 (w i v e2) e3⟩,I.cell,I.free,I.freeC,I.pin,I.hok,hl.trans I.len⟩
theorem Ax.pins_of {pins':List (Addr×Obj)} (I:Ax X pins σ H s) (h:∀ p∈pins',s.heap.get? p.1=some p.2/\H p.1=none/\p.1≠X.env.locals/\p.1∉X.fs/\∀ v,p.2.data≠.cell v):Ax X pins' σ H s :=
 ⟨I.ok,I.os,I.bare,I.base,I.loc,I.cell,I.free,I.freeC,λp hp=>(Q3.mp hp).elim (λz=>I.pin p (A4 _ z)) (h p),I.hok,I.len⟩

theorem NR {N:List Str} (hN:N.Nodup) {i j:Nat} {x:Str} (a:N[i]?=some x) (b:N[j]?=some x):i=j:=by
 obtain ⟨h1,e1⟩:=Q1.mp a
 obtain ⟨h2,e2⟩:=Q1.mp b
 exact (List.getElem_inj hN).mp (e1.trans e2.symm)

theorem Rr {M:Model} {A:Around} {E:Value->Shared->Prop} {i:Nat} {x:Str} {v:V} {u:Value} {Q:Unit->Shared->Prop} (I:Ax X pins σ H s) (hN:X.N.Nodup) (hi:X.N[i]?=some x) (hx:Loc X.env.scope x) (r:Ba v u)
  (h:∀ s',Ax X pins (σ.set i (some v)) H s'->(∃ a,Heap.SameBut a s.heap s'.heap/\(a=X.env.locals\/X.env.cells.lookup x=some a))->Q () s') (hf:X.fn x=true\/X.env.scope.names.lookup x=some .local:=by first | exact .inl rfl | exact .inr rfl | assumption):wpAny M A (storeName X.env x u) Q E s:=by
 obtain ⟨m,hn,hl⟩:=id I.loc
 have hcls:(X.env.scope.kind == .class||(X.env.scope.kind == .module&&X.env.locals != X.env.globals))=false:=by rw [I.ok.kind];rfl
 have hiσ:i<σ.length:=by rw [I.len];exact (Q1.mp hi).1
 have cne:=I.cne
 have tracked:∀ {a:Addr} {h':Heap},(∃ o,s.heap.get? a=some o/\H a=none)->Heap.SameBut a s.heap h'->GX X.prog X.w H h':=λ{a h'} ha hs b ob e=>by
  obtain ⟨_,_,hfree⟩:=ha
  refine (I.hok b ob e).stay (λc w' hc q=>(hs.2 c ?_).trans q) (λ_ q=>q) λ_ _ q=>q
  rintro rfl
  rcases hc with rfl | hc
  ·rw [hfree] at e;cases e
  ·rw [hfree] at hc;cases hc
 rcases hx with hk | hk
 ·refine wpAny_storeName_local hk hn (λh' hn' hs=>?_) hcls
  obtain ⟨oL,_,_,hoL,_⟩:=id hn
  refine h _ ⟨I.ok,I.os,I.bare,⟨λb o e n hb hx=>?_,λb o e n hb hx=>?_,I.base.free,λb o e hx=>?_,I.base.tups,I.base.frzs,I.base.tbls⟩,⟨_,hn',λj y v' e1 e2 e3=>?_⟩,λy c e=>?_,I.free,I.freeC,λp hp=>?_,tracked ⟨oL,hoL,I.free⟩ hs,by simpa using I.len⟩ ⟨_,hs,.inl rfl⟩
  ·exact (hs.2 b (j1 (E2 (Heap.lt_size e) I.ok.above))).trans (I.base.keep b o e n hb hx)
  ·obtain ⟨sl,e1⟩:=I.base.slot b o e n hb hx
   exact ⟨sl,(hs.2 b (j1 (E2 (Heap.lt_size e) I.ok.above))).trans e1⟩
  ·obtain ⟨o',e1⟩:=I.base.there b o e hx
   exact ⟨o',(hs.2 b (j1 (E2 (Heap.lt_size e) I.ok.above))).trans e1⟩
  ·by_cases hj:j=i
   ·subst hj
    rw [hi] at e1;cases e1
    rw [D9 hiσ] at e2
    cases e2
    exact ⟨u,r,.inl ⟨hk,by simp⟩⟩
   ·rw [y7 (Ne.symm hj)] at e2
    obtain ⟨u',r',q⟩:=hl j y v' e1 e2 e3
    refine ⟨u',r',?_⟩
    rcases q with ⟨k,e⟩ | ⟨k,c,e,z⟩
    ·refine .inl ⟨k,?_⟩
     have:y≠x:=λe=>hj (NR hN e1 (e▸hi))
     simp [this,e]
    ·exact .inr ⟨k,c,e,z.sameBut hs (cne y c e)⟩
  ·obtain ⟨w',z⟩:=I.cell y c e
   exact ⟨w',z.sameBut hs (cne y c e)⟩
  ·obtain ⟨e,n,ne,nf,d⟩:=I.pin p hp
   exact ⟨(hs.2 p.1 ne).trans e,n,ne,nf,d⟩
 ·have hfn:X.fn x=true:=by
   rcases hf with z | z
   ·exact z
   ·rw [z] at hk;cases hk
  obtain ⟨c,hc⟩:=I.ok.has x (.inl hk)
  obtain ⟨w',z⟩:=I.cell x c hc
  refine wpAny_storeName_cell I.ok.kind hk hc z (λh' hc' hs=>?_)
  obtain ⟨oc,hoc,hocd⟩:=id z
  refine h { s with heap:=h' } ⟨I.ok,I.os,I.bare,⟨λb o e n hb hx=>?_,λb o e n hb hx=>?_,I.base.free,λb o e hx=>?_,I.base.tups,I.base.frzs,I.base.tbls⟩,⟨m,hn.sameBut hs (Ne.symm (cne x c hc)),λj y v' e1 e2 e3=>?_⟩,λy c' e=>?_,I.free,I.freeC,λp hp=>?_,tracked ⟨oc,hoc,I.freeC x c hc⟩ hs,by simpa using I.len⟩ ⟨c,hs,.inr hc⟩
  ·exact (hs.2 b (j1 (E2 (Heap.lt_size e) (I.ok.cab x c hfn hc)))).trans (I.base.keep b o e n hb hx)
  ·obtain ⟨sl,e1⟩:=I.base.slot b o e n hb hx
   exact ⟨sl,(hs.2 b (j1 (E2 (Heap.lt_size e) (I.ok.cab x c hfn hc)))).trans e1⟩
  ·obtain ⟨o',e1⟩:=I.base.there b o e hx
   exact ⟨o',(hs.2 b (j1 (E2 (Heap.lt_size e) (I.ok.cab x c hfn hc)))).trans e1⟩
  ·by_cases hj:j=i
   ·subst hj
    rw [hi] at e1;cases e1
    rw [D9 hiσ] at e2
    cases e2
    exact ⟨u,r,.inr ⟨.inl hk,c,hc,hc'⟩⟩
   ·rw [y7 (Ne.symm hj)] at e2
    obtain ⟨u',r',q⟩:=hl j y v' e1 e2 e3
    refine ⟨u',r',?_⟩
    rcases q with q | ⟨k,c',e,z'⟩
    ·exact .inl q
    ·refine .inr ⟨k,c',e,z'.sameBut hs ?_⟩
     rintro rfl
     exact hj (NR hN e1 (I.ok.inj _ _ _ e hc▸hi))
  ·by_cases hcc:c'=c
   ·subst hcc;exact ⟨_,hc'⟩
   ·obtain ⟨w2,z2⟩:=I.cell y c' e
    exact ⟨w2,z2.sameBut hs hcc⟩
  ·obtain ⟨e,n,ne,nf,d⟩:=I.pin p hp
   refine ⟨(hs.2 p.1 ?_).trans e,n,ne,nf,d⟩
   intro q
   rw [q,hoc] at e
   have q':oc=p.2:=V3.inj e
   exact d w' (by rw [<- q'];exact hocd)
theorem JU {M:Model} {A:Around} {E:Value->Shared->Prop} {i:Nat} {x:Str} {v:V} {u:Value} {Q:Unit->Shared->Prop} (I:Ax X pins σ H s) (hN:X.N.Nodup) (hi:X.N[i]?=some x) (hx:Loc X.env.scope x) (r:Ba v u)
  (h:∀ s',Ax X pins (σ.set i (some v)) H s'->Q () s') (hf:X.fn x=true\/X.env.scope.names.lookup x=some .local:=by first | exact .inl rfl | exact .inr rfl | assumption):wpAny M A (storeName X.env x u) Q E s :=
 Rr I hN hi hx r (λs' I' _=>h s' I') hf
theorem Ax.call' {s':Shared} {ch:List Addr} (I:Ax X pins σ H s) (ho:s'.os=s.os) (u:Un (HC X.stack) ch H H' s.heap s'.heap) (hok:GX X.prog X.w H' s'.heap) (hg:AllBare s'.gens)
  (hch:∀ b∈ch,(b∈X.ex\/X.s₀.heap.objs.size<=b)/\b≠X.env.locals/\(∀ x c,X.env.cells.lookup x=some c->c≠b)/\∀ p∈X.pn++pins,p.1≠b):Ax X pins σ H' s':=by
 obtain ⟨h',g',d',t',o'⟩:=s'
 have e:o'=s.os:=ho
 subst e
 exact I.call (g':=g') (t':=t') (d':=d') u hok hg hch
end

abbrev XK:=Value->Option Addr->Hp->Prop
abbrev St:=List (Option V)
abbrev VK:=V->Hp->Prop
abbrev TE:=St->Hp->VK->Prop
abbrev TT:=St->Hp->(Bool->Hp->Prop)->Prop
abbrev TA:=St->Hp->(List V->Hp->Prop)->Prop
set_option genInjectivity false in
structure FE where
 nx:St->Hp->Prop
 rt:VK
 bk:St->Hp->Prop:=λ_ _=>False
 ct:St->Hp->Prop:=λ_ _=>False
abbrev TS:=FE->St->Hp->Prop

def EP (X:Cx) (pins:List (Addr×Obj)) (σ:St) (Q:VK) (u:Value) (s':Shared):Prop:=∃ v H',Ax X pins σ H' s'/\Ba v u/\Q v H'
def TP (X:Cx) (pins:List (Addr×Obj)) (σ:St) (Q:Bool->Hp->Prop) (b:Bool) (s':Shared):Prop:=∃ H',Ax X pins σ H' s'/\Q b H'
def AP (X:Cx) (pins:List (Addr×Obj)) (σ:St) (Q:List V->Hp->Prop) (us:List Value) (s':Shared):Prop:=∃ vs H',Ax X pins σ H' s'/\AR vs us/\Q vs H'
def SP (X:Cx) (pins:List (Addr×Obj)) (D:FE) (f:Flow) (s':Shared):Prop :=
 match f with
 |.next=>∃ σ' H',Ax X pins σ' H' s'/\D.nx σ' H'
 |.brk=>∃ σ' H',Ax X pins σ' H' s'/\D.bk σ' H'
 |.cont=>∃ σ' H',Ax X pins σ' H' s'/\D.ct σ' H'
 |.ret u=>∃ v σ' H',Ax X pins σ' H' s'/\Ba v u/\D.rt v H'

def PE (X:Cx) (e:Expr) (t:TE):Prop :=
 ∀ (pins:List (Addr×Obj)) (s:Shared) (σ:St) (H:Hp) (Q:VK),Ax X pins σ H s->t σ H Q->wpAny (model X.prog X.w) X.A (eval e X.env) (EP X pins σ Q) X.xe s
def PT (X:Cx) (e:Expr) (t:TT):Prop :=
 ∀ (pins:List (Addr×Obj)) (s:Shared) (σ:St) (H:Hp) (Q:Bool->Hp->Prop),Ax X pins σ H s->t σ H Q->wpAny (model X.prog X.w) X.A (isTrue e X.env (eval e X.env)) (TP X pins σ Q) X.xe s
def PW (X:Cx) (e:Expr) (t:TT):Prop :=
 ∀ (whole:Sem Value) (pins:List (Addr×Obj)) (s:Shared) (σ:St) (H:Hp) (Q:Bool->Hp->Prop),Ax X pins σ H s->t σ H Q->wpAny (model X.prog X.w) X.A (isTrue e X.env whole) (TP X pins σ Q) X.xe s
theorem PW.pt {X:Cx} {e:Expr} {t:TT} (h:PW X e t):PT X e t:=h _
def PA (X:Cx) (es:List Expr) (t:TA):Prop :=
 ∀ (pos:Pos) (pins:List (Addr×Obj)) (s:Shared) (σ:St) (H:Hp) (Q:List V->Hp->Prop),Ax X pins σ H s->t σ H Q->wpAny (model X.prog X.w) X.A (spliced (backTo pos (starEach es X.env))) (AP X pins σ Q) X.xe s
def PS (X:Cx) (st:Stmt) (t:TS):Prop :=
 ∀ (pins:List (Addr×Obj)) (s:Shared) (σ:St) (H:Hp) (D:FE),Ax X pins σ H s->t D σ H->wpAny (model X.prog X.w) X.A (exec st X.env) (SP X pins D) X.xe s
def KI (X:Cx) (st:List Stmt) (t:TS):Prop :=
 ∀ (pins:List (Addr×Obj)) (s:Shared) (σ:St) (H:Hp) (D:FE),Ax X pins σ H s->t D σ H->wpAny (model X.prog X.w) X.A (execs st X.env) (SP X pins D) X.xe s
theorem Bl {α:Type} {t:Sem α} {Q Q':α->Shared->Prop} {M:Model} {A:Around} {E:Value->Shared->Prop} {s:Shared} (h:wpAny M A t Q E s) (hQ:∀ a s,Q a s->Q' a s):wpAny M A t Q' E s:=wpAny_mono h hQ λ_ _ x=>x
theorem pB {X:Cx} {t:Sem Value} {Q:VK} {Q':Value->Shared->Prop} {M:Model} {A:Around} {E:Value->Shared->Prop} {s:Shared} {pins σ} (h:wpAny M A t (EP X pins σ Q) E s) (k:∀ u s v H,Ax X pins σ H s->Ba v u->Q v H->Q' u s):wpAny M A t Q' E s:=Bl h λu s ⟨v,H,a,b,c⟩=>k u s v H a b c
theorem pL {X:Cx} {t:Sem (List Value)} {Q:List V->Hp->Prop} {Q':List Value->Shared->Prop} {M:Model} {A:Around} {E:Value->Shared->Prop} {s:Shared} {pins σ} (h:wpAny M A t (AP X pins σ Q) E s) (k:∀ u s v H,Ax X pins σ H s->AR v u->Q v H->Q' u s):wpAny M A t Q' E s:=Bl h λu s ⟨v,H,a,b,c⟩=>k u s v H a b c
section
variable {X:Cx}

def Hh (i:Nat):TE:=λσ H Q=>match σ[i]? with|some (some v)=>Q v H|_=>False
theorem tVx {i:Nat} {σ:St} {H:Hp} {Q:VK} (h:Hh i σ H Q):∃ v,σ[i]?=some (some v)/\Q v H:=by
 unfold Hh at h
 split at h
 ·exact ⟨_,by assumption,h⟩
 ·cases h
theorem tVo {i:Nat} {σ:St} {H:Hp} {Q:VK} {v:V} (e:σ[i]?=some (some v)) (h:Q v H):Hh i σ H Q:=by
 unfold Hh
 rw [e]
 exact h
def tC (v:V):TE:=λ_ H Q=>Q v H
theorem pe_var {i:Nat} {x:Str} {pos:Pos} (hN:X.N[i]?=some x) (hv:Vis X.env.scope x) (hd:(x == ("__debug__":Str))=false:=by kd_p) (hcd:(x == ("__classdict__":Str))=false:=by kd_p):PE X (.Name x pos) (Hh i):=by
 intro pins s σ H Q I h
 obtain ⟨v,e,h⟩:=tVx h
 obtain ⟨m,hn,hl⟩:=I.loc
 obtain ⟨u,r,l⟩:=hl i x v hN e hv
 have fin:EP X pins σ Q u s:=⟨v,H,I,r,h⟩
 rcases l with ⟨hk,hm⟩ | ⟨hk,c,hc,hcell⟩
 ·exact wpAny_Name (wpAny_loadName_local I.ok.kind hk hn hm fin) hd
 ·rcases hk with hk | hk
  ·exact wpAny_Name (wpAny_loadName_cell I.ok.kind hk hc hcell fin) hd
  ·exact wpAny_Name (wpAny_loadName_free I.ok.kind hk hc hcell fin hcd) hd
theorem Ai {i j pos}:PE X (.Constant (.int i) j pos) (tC (.int i)):=λ_ _ _ H _ I h=>wpAny_Constant_int ⟨.int i,H,I.tok _,⟨_,rfl⟩,h⟩
theorem Ec {b j pos}:PE X (.Constant (.bool b) j pos) (tC (.bl b)):=λ_ _ _ H _ I h=>Constant_bool ⟨.bl b,H,I,rfl,h⟩
theorem AF {j pos}:PE X (.Constant .none j pos) (tC .non):=λ_ _ _ H _ I h=>Constant_none ⟨.non,H,I,rfl,h⟩
theorem Ak {x j pos}:PE X (.Constant (.str x) j pos) (tC (.str x)):=λ_ _ _ H _ I h=>Calls.Constant_str ⟨.str x,H,I.tok _,⟨_,rfl⟩,h⟩

def Gl (X:Cx) (x:Str):Prop:=X.env.kindOf x=some .globalImplicit
theorem Gy {E:Value->Shared->Prop} {pins:List (Addr×Obj)} {s:Shared} {σ:St} {H:Hp} {x:Str} {u:Value} {pos:Pos} {Q:Value->Shared->Prop} (I:Ax X pins σ H s) (hg:Gl X x) (hm:X.mg x=some u) (h:Q u s)
  (hd:(x == ("__debug__":Str))=false:=by kd_p):wpAny (model X.prog X.w) X.A (eval (.Name x pos) X.env) Q E s :=
 Calls.Name_function_global I.ok.kind hg (Calls.loadGlobal_global (by rw [I.ok.glob];exact I.mod.glob.keeps I.bk) hm h) hd
theorem Gc {E:Value->Shared->Prop} {pins:List (Addr×Obj)} {s:Shared} {σ:St} {H:Hp} {x:Str} {u:Value} {pos:Pos} {Q:Value->Shared->Prop} (I:Ax X pins σ H s) (hg:Gl X x) (hm:X.mg x=none) (hv:bootBuiltins x=some u) (h:Q u s)
  (hn:x≠"__name__":=by kd_p) (hd:(x == ("__debug__":Str))=false:=by kd_p):wpAny (model X.prog X.w) X.A (eval (.Name x pos) X.env) Q E s:=by
 obtain ⟨mb,h1,h2⟩:=I.mod.blt
 exact Calls.Name_function_global I.ok.kind hg (Calls.loadGlobal_builtin (by rw [I.ok.glob];exact I.mod.glob.keeps I.bk) hm (by rw [I.ok.blt];exact h1.keeps I.bk) ((h2 x hn).trans hv) h) hd
theorem AO {x:Str} {v:V} {u:Value} {pos:Pos} (hg:Gl X x) (hm:X.mg x=some u) (r:Ba v u) (hd:(x == ("__debug__":Str))=false:=by kd_p):PE X (.Name x pos) (tC v) :=
 λ_ _ _ H _ I h=>Gy I hg hm ⟨v,H,I,r,h⟩ hd
theorem Gu {x:Str} {v:V} {u:Value} {pos:Pos} (hg:Gl X x) (hm:X.mg x=none) (hv:bootBuiltins x=some u) (r:Ba v u) (hn:x≠"__name__":=by kd_p) (hd:(x == ("__debug__":Str))=false:=by kd_p):PE X (.Name x pos) (tC v) :=
 λ_ _ _ H _ I h=>Gc I hg hm hv ⟨v,H,I,r,h⟩ hn hd

variable {a b:Expr} {ta tb:TE} {pos:Pos}
def PC (X:Cx) (op:CmpOp) (a b:Expr) (t:TE):Prop :=
 ∀ (pins:List (Addr×Obj)) (s:Shared) (σ:St) (H:Hp) (Q:VK),Ax X pins σ H s->t σ H Q ->
  wpAny (model X.prog X.w) X.A (eval a X.env) (λv s₁=>wpAny (model X.prog X.w) X.A (eval b X.env) (λu s₂=>wpAny (model X.prog X.w) X.A (compareOp op v u) (EP X pins σ Q) X.xe s₂) X.xe s₁) X.xe s
theorem Am (b:Expr) {op:CmpOp} (h:op≠.In:=by kd_p) (h2:op≠.NotIn:=by kd_p):behindInMarks op b=false:=by
 have e1:(op == CmpOp.In)=false:=by cases op<;>first | rfl | exact absurd rfl h
 have e2:(op == CmpOp.NotIn)=false:=by cases op<;>first | rfl | exact absurd rfl h2
 cases b<;>first|rfl|simp [behindInMarks,e1,e2]
def tB (t:TE):TT:=λσ H Q=>t σ H λx H1=>∃ c,x=.bl c/\Q c H1
theorem TZ {op:CmpOp} {t:TE} (h:PC X op a b t) (h1:behindInMarks op b=false:=by first | exact Am _ | rfl):PE X (.Compare a [op] [b] pos) t:=λpins s σ H Q I hw=>wpAny_Compare1 (h pins s σ H Q I hw) h1
theorem OX {op:CmpOp} {t:TE} (h:PC X op a b t) (h1:behindInMarks op b=false:=by first | exact Am _ | rfl):PT X (.Compare a [op] [b] pos) (tB t):=by
 intro pins s σ H Q I hw
 refine wpAny_isTrue_Compare1 (Bl (h pins s σ H _ I hw) λv s1 h1=>Bl h1 λu s2 h2=>Bl h2 λc s3 ⟨x,H1,I1,r1,q1⟩=>?_) h1
 obtain ⟨d,rfl,q⟩:=q1
 cases r1
 exact wpAny_truthy_bool ⟨H1,I1,q⟩
theorem Br {e:Expr} {t:TE} (h:PE X e t) (he:∀ whole,isTrue e X.env whole=(do let v <- whole;standAt e.pos;holding [v] (truthy v)):=by intro _;rfl):PT X e (tB t):=by
 intro pins s σ H Q I hw
 refine isTrue_plain (pB (h pins s σ H _ I hw) λv s1 x H1 I1 r1 q1=>?_) (he _)
 obtain ⟨d,rfl,q⟩:=q1
 cases r1
 exact wpAny_truthy_bool ⟨H1,I1,q⟩

variable {tA tB':TT} {Bh:List Expr}
def tAnd (t u:TT):TT:=λσ H Q=>t σ H λc H1=>if c=true then u σ H1 Q else Q false H1
def tOr (t u:TT):TT:=λσ H Q=>t σ H λc H1=>if c=true then Q true H1 else u σ H1 Q
def tNot (t:TT):TT:=λσ H Q=>t σ H λc H1=>Q (!c) H1
theorem CH (ha:PT X a tA):PW X (.BoolOp .And [a] pos) tA:=by
 intro wh pins s σ H Q I h
 refine isTrue_and (Bl (ha pins s σ H Q I h) λc s1 e=>?_)
 cases c with
 |true=>exact isTrue_and_nil e
 |false=>exact e
theorem FU (ha:PT X a tA):PW X (.BoolOp .Or [a] pos) tA:=by
 intro wh pins s σ H Q I h
 refine isTrue_or (Bl (ha pins s σ H Q I h) λc s1 e=>?_)
 cases c with
 |false=>exact isTrue_or_nil e
 |true=>exact e
theorem CT (ha:PT X a tA) (hb:PW X (.BoolOp .And (b::Bh) pos) tB'):PW X (.BoolOp .And (a::b::Bh) pos) (tAnd tA tB'):=by
 intro wh pins s σ H Q I h
 refine isTrue_and (Bl (ha pins s σ H _ I h) λc s1 ⟨H1,I1,q1⟩=>?_)
 cases c with
 |true=>exact hb wh pins s1 σ H1 Q I1 q1
 |false=>exact ⟨H1,I1,q1⟩
theorem HN (ha:PT X a tA) (hb:PW X (.BoolOp .Or (b::Bh) pos) tB'):PW X (.BoolOp .Or (a::b::Bh) pos) (tOr tA tB'):=by
 intro wh pins s σ H Q I h
 refine isTrue_or (Bl (ha pins s σ H _ I h) λc s1 ⟨H1,I1,q1⟩=>?_)
 cases c with
 |true=>exact ⟨H1,I1,q1⟩
 |false=>exact hb wh pins s1 σ H1 Q I1 q1
theorem DF (ha:PT X a tA):PT X (.UnaryOp .Not a pos) (tNot tA):=by
 intro pins s σ H Q I h
 exact isTrue_not (ha pins s σ H (λc H1=>Q (!c) H1) I h)
def tAndV (ta tb:TE):TE:=λσ H Q=>ta σ H λx H1=>∃ c,x=.bl c/\if c=true then tb σ H1 Q else Q (.bl false) H1
def tOrV (ta tb:TE):TE:=λσ H Q=>ta σ H λx H1=>∃ c,x=.bl c/\if c=true then Q (.bl true) H1 else tb σ H1 Q
def tNotV (ta:TE):TE:=λσ H Q=>ta σ H λx H1=>∃ c,x=.bl c/\Q (.bl (!c)) H1
theorem Cd {op} {t:TE} (h:PE X a t):PE X (.BoolOp op [a] pos) t:=λpins s σ H Q I hw=>BoolOp_one (h pins s σ H Q I hw)
theorem Co (ha:PE X a ta) (hb:PE X (.BoolOp .And (b::Bh) pos) tb):PE X (.BoolOp .And (a::b::Bh) pos) (tAndV ta tb):=by
 intro pins s σ H Q I h
 refine BoolOp_and (pB (ha pins s σ H _ I h) λv s1 x H1 I1 r1 q1=>?_)
 obtain ⟨c,rfl,q1⟩:=q1
 cases r1
 refine wpAny_truthy_bool ?_
 cases c with
 |true=>exact hb pins s1 σ H1 Q I1 q1
 |false=>exact ⟨.bl false,H1,I1,rfl,q1⟩
theorem NG (ha:PE X a ta) (hb:PE X (.BoolOp .Or (b::Bh) pos) tb):PE X (.BoolOp .Or (a::b::Bh) pos) (tOrV ta tb):=by
 intro pins s σ H Q I h
 refine BoolOp_or (pB (ha pins s σ H _ I h) λv s1 x H1 I1 r1 q1=>?_)
 obtain ⟨c,rfl,q1⟩:=q1
 cases r1
 refine wpAny_truthy_bool ?_
 cases c with
 |false=>exact hb pins s1 σ H1 Q I1 q1
 |true=>exact ⟨.bl true,H1,I1,rfl,q1⟩
theorem TW (ha:PE X a ta):PE X (.UnaryOp .Not a pos) (tNotV ta):=by
 intro pins s σ H Q I h
 refine UnaryOp_ (pB (ha pins s σ H _ I h) λv s1 x H1 I1 r1 q1=>?_)
 obtain ⟨c,rfl,q1⟩:=q1
 cases r1
 exact not_of (wpAny_truthy_bool ⟨.bl (!c),H1,I1,rfl,q1⟩)
def tIf (t:TT) (ta tb:TE):TE:=λσ H Q=>t σ H λc H1=>if c=true then ta σ H1 Q else tb σ H1 Q
theorem Bq {c:Expr} (hc:PT X c tA) (ha:PE X a ta) (hb:PE X b tb):PE X (.IfExp c a b pos) (tIf tA ta tb):=by
 intro pins s σ H Q I h
 refine wpAny_IfExp (Bl (hc pins s σ H _ I h) λd s1 ⟨H1,I1,q1⟩=>?_)
 cases d with
 |true=>exact ha pins s1 σ H1 Q I1 q1
 |false=>exact hb pins s1 σ H1 Q I1 q1
end

def AD (K:A0) (H:Hp) (a:Addr) (xs:List V):Prop :=
 Rd H a (.lst xs) \/
  ∃ (o:Obj) (its:Array Value) (n:Nat),K.lookup a=some o/\o.cls=.type "list"/\o.dict=none/\o.data=.seq its n/\its.size<=sizeLine/\AR xs its.toList
def Bc (K:A0) (H:Hp) (a:Addr) (xs:List V):Prop :=
 Rd H a (.tup xs) \/
  ∃ (o:Obj) (its:Array Value) (n:Nat),K.lookup a=some o/\o.cls=.type "tuple"/\o.data=.seq its n/\its.size<=sizeLine/\AR xs its.toList
def absV:Value->Option V
 |.none=>some .non
 |.bool b=>some (.bl b)
 |.int i _=>some (.int i)
 |.str x _=>some (.str x)
 |.bytes b _=>some (.byt b)
 |.float b _=>some (.flt b)
 |.ref a=>some (.ref a)
 |.type n=>some (.ty n)
 |_=>none
theorem Ba.abs {x:V} {u:Value} (r:Ba x u):absV u=some x:=by
 cases x with
 |non=>cases r;rfl
 |bl _=>cases r;rfl
 |int _=>obtain ⟨t,rfl⟩:=r;rfl
 |str _=>obtain ⟨t,rfl⟩:=r;rfl
 |byt _=>obtain ⟨t,rfl⟩:=r;rfl
 |flt _=>obtain ⟨t,rfl⟩:=r;rfl
 |ref _=>cases r;rfl
 |ty _=>cases r;rfl
theorem Ba.inj {x y:V} {u:Value} (r:Ba x u) (q:Ba y u):x=y:=V3.inj (r.abs.symm.trans q.abs)
theorem AR.inj:∀ {xs ys:List V} {us:List Value},AR xs us->AR ys us->xs=ys
 |_,_,_,.nil,.nil=>rfl
 |_,_,_,.cons r t,.cons r' t'=>by rw [r.inj r',AR.inj t t']
section
variable {X:Cx} {pins:List (Addr×Obj)} {σ:St} {H:Hp} {s:Shared} {a:Addr} {xs ys:List V}
theorem AD.of {K:A0} (h:H a=some (.lst xs)):AD K H a xs:=.inl (.inl h)
theorem Bc.of {K:A0} (h:H a=some (.tup xs)):Bc K H a xs:=.inl (.inl h)
theorem Ax.list (I:Ax X pins σ H s) (h:AD X.K H a xs):∃ its:List Value,AR xs its/\PlainL s.heap a its.toArray/\xs.length<=sizeLine:=by
 rcases h with h | ⟨o,its,n,hk,hc,hd,hs,hz,r⟩
 ·obtain ⟨z,its,n,r,e⟩:=h.ok I.hok
  exact ⟨its,r,⟨_,n,e,rfl,rfl,rfl⟩,z⟩
 ·refine ⟨its.toList,r,⟨o,n,I.kIn a o hk,hc,hd,by simpa using hs⟩,?_⟩
  have e:=r.length
  simp only [Array.length_toList] at e
  lia
theorem Ax.tuple (I:Ax X pins σ H s) (h:Bc X.K H a xs):∃ its:List Value,AR xs its/\IsTup s.heap a its.toArray/\xs.length<=sizeLine:=by
 rcases h with h | ⟨o,its,n,hk,hc,hs,hz,r⟩
 ·obtain ⟨z,its,r,p⟩:=h.ok I.hok
  exact ⟨its,r,p,z⟩
 ·refine ⟨its.toList,r,⟨o,I.kIn a o hk,hc,n,by simpa using hs⟩,?_⟩
  have e:=r.length
  simp only [Array.length_toList] at e
  lia
theorem Ax.list_inj (I:Ax X pins σ H s) (h:AD X.K H a xs) (h':AD X.K H a ys):xs=ys:=by
 obtain ⟨its,r,⟨o,n,e,_,_,d⟩,_⟩:=I.list h
 obtain ⟨its',r',⟨o',n',e',_,_,d'⟩,_⟩:=I.list h'
 rw [e] at e';cases e'
 rw [d] at d'
 injection d' with d1 _
 have:its=its':=by simpa using congrArg Array.toList d1
 subst this
 exact r.inj r'
theorem Ax.tuple_inj (I:Ax X pins σ H s) (h:Bc X.K H a xs) (h':Bc X.K H a ys):xs=ys:=by
 obtain ⟨its,r,⟨o,e,_,n,d⟩,_⟩:=I.tuple h
 obtain ⟨its',r',⟨o',e',_,n',d'⟩,_⟩:=I.tuple h'
 rw [e] at e';cases e'
 rw [d] at d'
 injection d' with d1 _
 have:its=its':=by simpa using congrArg Array.toList d1
 subst this
 exact r.inj r'
end

abbrev Cx.wish (X:Cx) (E:Value->Shared->Prop):Cx:={ X with xe:=E }
abbrev Cx.nox (X:Cx):Cx:=X.wish λ_ _=>False
theorem Cx.Ok.wish {X:Cx} (ok:X.Ok) (E:Value->Shared->Prop):(X.wish E).Ok :=
 ⟨ok.mod,ok.kind,ok.glob,ok.blt,ok.above,ok.inj,ok.has,ok.cab,ok.hd,ok.frames,ok.stk,ok.exf,ok.bs,ok.bsz,ok.noex,ok.exfs,ok.funs,ok.frf⟩
theorem Cx.Ok.unwish {X:Cx} {E:Value->Shared->Prop} (ok:(X.wish E).Ok):X.Ok :=
 ⟨ok.mod,ok.kind,ok.glob,ok.blt,ok.above,ok.inj,ok.has,ok.cab,ok.hd,ok.frames,ok.stk,ok.exf,ok.bs,ok.bsz,ok.noex,ok.exfs,ok.funs,ok.frf⟩
section
variable {X:Cx} {pins:List (Addr×Obj)} {σ:St} {H:Hp} {s:Shared} {E:Value->Shared->Prop}
theorem Ax.wish (I:Ax X pins σ H s) (E:Value->Shared->Prop):Ax (X.wish E) pins σ H s:=⟨I.ok.wish E,I.os,I.bare,I.base,I.loc,I.cell,I.free,I.freeC,I.pin,I.hok,I.len⟩
theorem Ax.unwish (I:Ax (X.wish E) pins σ H s):Ax X pins σ H s:=⟨I.ok.unwish,I.os,I.bare,I.base,I.loc,I.cell,I.free,I.freeC,I.pin,I.hok,I.len⟩
theorem SP.unwish {D:FE} {f:Flow} {s':Shared} (h:SP (X.wish E) pins D f s'):SP X pins D f s':=by
 cases f with
 |next=>obtain ⟨σ',H',I,q⟩:=h;exact ⟨σ',H',I.unwish,q⟩
 |brk=>obtain ⟨σ',H',I,q⟩:=h;exact ⟨σ',H',I.unwish,q⟩
 |cont=>obtain ⟨σ',H',I,q⟩:=h;exact ⟨σ',H',I.unwish,q⟩
 |ret u=>obtain ⟨v,σ',H',I,r,q⟩:=h;exact ⟨v,σ',H',I.unwish,r,q⟩
theorem KI.nox {st:List Stmt} {t:TS} (h:KI X.nox st t):KI X st t:=λpins s σ H D I hw =>
 wpAny_mono (h pins s σ H D (I.wish _) hw) (λ_ _ q=>q.unwish) λ_ _ z=>False.elim z
end

section
variable {X:Cx} {st:Stmt} {Bh:List Stmt} {t u:TS} {e:Expr} {te:TE} {pos:Pos}
def tNext:TS:=λD σ H=>D.nx σ H
def Rp (t u:TS):TS:=λD σ H=>t { D with nx:=u D } σ H
theorem An:KI X [] tNext:=λ_ _ σ H _ I h=>wpAny_execs_nil ⟨σ,H,I,h⟩
theorem Ad (h1:PS X st t) (h2:KI X Bh u):KI X (st::Bh) (Rp t u):=by
 intro pins s σ H D I h
 refine wpAny_execs_cons (Bl (h1 pins s σ H { D with nx:=u D } I h) λf s1 q=>?_)
 cases f with
 |next =>
  obtain ⟨σ',H',I',q⟩:=q
  exact h2 pins s1 σ' H' D I' q
 |ret v=>exact q
 |brk=>exact q
 |cont=>exact q
theorem Ae (h1:PS X st t):KI X [st] t:=by
 intro pins s σ H D I h
 refine wpAny_execs_cons (Bl (h1 pins s σ H D I h) λf s1 q=>?_)
 cases f with
 |next=>exact wpAny_execs_nil q
 |ret v=>exact q
 |brk=>exact q
 |cont=>exact q
def tCont:TS:=λD σ H=>D.ct σ H
theorem Jl:PS X (.Continue pos) tCont:=λ_ _ σ H _ I h=>wpAny_Continue ⟨σ,H,I,h⟩
theorem Ax.quiet {pins:List (Addr×Obj)} {σ:St} {H:Hp} {s:Shared} (I:Ax X pins σ H s):interactive X.env=false:=by simp [interactive,I.ok.kind]
def tDrop (te:TE):TS:=λD σ H=>te σ H λ_ H1=>D.nx σ H1
theorem AJ (he:PE X e te) (hs:swapsWith e none pos.line X.env=pure false:=by rfl):PS X (.Expr e pos) (tDrop te):=by
 intro pins s σ H D I h
 exact wpAny_Expr_any (pB (he pins s σ H _ I h) λv s1 x H1 I1 r1 q1=>⟨σ,H1,I1,q1⟩) I.quiet hs
def SK (te:TE):TS:=λD σ H=>te σ H D.rt
theorem Aj (he:PE X e te):PS X (.Return (some e) pos) (SK te):=by
 intro pins s σ H D I h
 exact wpAny_Return_some (pB (he pins s σ H _ I h) λv s1 x H1 I1 r1 q1=>⟨x,σ,H1,I1,r1,q1⟩)
def tRetN:TS:=λD _ H=>D.rt .non H
def tIfS (c:TT) (t u:TS):TS:=λD σ H=>c σ H λb H1=>if b=true then t D σ H1 else u D σ H1
theorem AA {c:Expr} {a b:List Stmt} {tc:TT} (hc:PT X c tc) (ha:KI X a t) (hb:KI X b u):PS X (.If c a b pos) (tIfS tc t u):=by
 intro pins s σ H D I h
 refine wpAny_If (Bl (hc pins s σ H _ I h) λd s1 ⟨H1,I1,q1⟩=>?_)
 cases d with
 |true=>exact ha pins s1 σ H1 D I1 q1
 |false=>exact hb pins s1 σ H1 D I1 q1
def SM:TS:=λ_ _ _=>False
theorem NE:PS X st SM:=λ_ _ _ _ _ _ h=>h.elim
end

abbrev TG:=V->St->Hp->(St->Hp->Prop)->Prop
abbrev TGs:=List V->St->Hp->(St->Hp->Prop)->Prop
def PG (X:Cx) (target:Expr) (t:TG):Prop :=
 ∀ (pins:List (Addr×Obj)) (s:Shared) (σ:St) (H:Hp) (v:V) (u:Value) (Q:St->Hp->Prop),Ax X pins σ H s->Ba v u->t v σ H Q ->
  wpAny (model X.prog X.w) X.A (assign target X.env u) (λ_ s'=>∃ σ' H',Ax X pins σ' H' s'/\Q σ' H') X.xe s
def PGs (X:Cx) (ts:List Expr) (t:TGs):Prop :=
 ∀ (pins:List (Addr×Obj)) (s:Shared) (σ:St) (H:Hp) (vs:List V) (us:List Value) (Q:St->Hp->Prop),Ax X pins σ H s->AR vs us->t vs σ H Q ->
  wpAny (model X.prog X.w) X.A (assignInOrder ((assignEach ts X.env).map (·.2)) us) (λ_ s'=>∃ σ' H',Ax X pins σ' H' s'/\Q σ' H') X.xe s
section
variable {X:Cx} {pos:Pos}
def Hd (i:Nat):TG:=λv σ H Q=>Q (σ.set i (some v)) H
theorem Bm {i:Nat} {x:Str} (hN:X.N.Nodup) (hi:X.N[i]?=some x) (hx:Loc X.env.scope x) (hf:X.fn x=true\/X.env.scope.names.lookup x=some .local:=by first | exact .inl rfl | exact .inr rfl | assumption):PG X (.Name x pos) (Hd i):=by
 intro pins s σ H v u Q I r h
 exact wpAny_assign_Name (JU I hN hi hx r (λs' I'=>⟨_,H,I',h⟩) hf)
def MJ:TGs:=λvs σ H Q=>vs=[]/\Q σ H
def He (t:TG) (u:TGs):TGs:=λvs σ H Q=>∃ v r,vs=v::r/\t v σ H λσ' H'=>u r σ' H' Q
theorem Ez:PGs X [] MJ:=by
 intro pins s σ H vs us Q I r h
 obtain ⟨e,h⟩:=h
 subst e
 cases r
 exact assignInOrder_nil ⟨σ,H,I,h⟩
theorem Bt {e:Expr} {es:List Expr} {t:TG} {u:TGs} (h1:PG X e t) (h2:PGs X es u)
  (hs:(assignEach (e::es) X.env).map (·.2)=assign e X.env::(assignEach es X.env).map (·.2):=by rfl):PGs X (e::es) (He t u):=by
 intro pins s σ H vs us Q I r h
 obtain ⟨v,vr,e1,h⟩:=h
 subst e1
 cases r with
 |cons r rr =>
  rw [hs]
  refine assignInOrder_cons (Bl (h1 pins s σ H _ _ _ I r h) λ_ s1 ⟨σ1,H1,I1,q1⟩=>?_)
  exact h2 pins s1 σ1 H1 _ _ Q I1 rr q1
def Sb (K:A0) (n:Nat) (t:TGs):TG:=λv σ H Q=>∃ a xs,v=.ref a/\Bc K H a xs/\xs.length=n/\t xs σ H Q
theorem FW {es:List Expr} {k:Nat} {t:TGs} {n:Nat} (hc:X.calm=true) (h:PGs X es t)
  (hn:(assignEach es X.env).length=n:=by rfl) (hst:(assignEach es X.env).findIdx? (·.1)=none:=by rfl):PG X (.Tuple es k pos) (Sb X.K n t):=by
 intro pins s σ H v u Q I r hw
 obtain ⟨a,xs,e1,hq,hl,hw⟩:=hw
 subst e1
 cases r
 obtain ⟨its,rv,ht,hz⟩:=I.tuple hq
 refine assign_Tuple_tuple (I.ok.hd hc) ht (by simp [hn,<- hl,rv.length]) hst λh' hx=>?_
 have I1:Ax X pins σ H { s with heap:=h' }:=I.kept (t':=s.toks) λb o e=>hx b o (j1 (Heap.lt_size e)) e
 exact h pins _ σ H xs _ Q I1 (by simpa using rv) hw
def tAsg (te:TE) (g:TG):TS:=λD σ H=>te σ H λx H1=>g x σ H1 D.nx
theorem ps_set {i:Nat} {x:Str} {e:Expr} {te:TE} {pos':Pos} (hN:X.N.Nodup) (hi:X.N[i]?=some x) (hx:Loc X.env.scope x) (he:PE X e te) (hs:swapsWith e (some (.Name x pos')) pos.line X.env=pure false:=by rfl) (hf:X.fn x=true\/X.env.scope.names.lookup x=some .local:=by first | exact .inl rfl | exact .inr rfl | assumption) :
  PS X (.Assign [.Name x pos'] e pos) (tAsg te (Hd i)):=by
 intro pins s σ H D I h
 refine wpAny_Assign_Name (pB (he pins s σ H _ I h) λv s1 y H1 I1 r1 q1=>?_) hs
 exact JU I1 hN hi hx r1 (λs2 I2=>⟨_,H1,I2,q1⟩) hf
end

section
variable {X:Cx} {pos:Pos}
end

set_option genInjectivity false in
structure It where
 go:Nat->Hp->Prop
 yld:Nat->Hp->V->Hp->Prop
 stop:Nat->Hp->Prop
def Eo (X:Cx) (pins:List (Addr×Obj)) (H:Hp) (b:Addr):Prop :=
 H b=none/\b≠X.env.locals/\b∉X.fs/\(b∈X.ex\/X.s₀.heap.objs.size<=b)/\(∀ x c,X.env.cells.lookup x=some c->c≠b)/\∀ p∈X.pn++pins,p.1≠b
theorem Ax.fpOk {X:Cx} {pins:List (Addr×Obj)} {σ:St} {H H':Hp} {s:Shared} {b:Addr} (I:Ax X pins σ H s) (hb:s.heap.objs.size<=b) (hn:H' b=none):Eo X pins H' b:=by
 refine ⟨hn,P8 (E2 I.lt hb),I.nofs hb,.inr (C0 I.sz hb),λx c e z=>?_,λp hp z=>?_⟩
 ·obtain ⟨v,q⟩:=I.cell x c e
  exact absurd (E2 q.lt (by rw [z];exact hb)) (B6 _)
 ·exact absurd (E2 (Heap.lt_size (I.pin p hp).1) (by rw [z];exact hb)) (B6 _)
structure KH (P:Program) (w:World) (K:A0) (tg:Expr) (J:It) (fp:List Addr) (it:Addr) (tn:Nat->Heap->Prop):Prop where
 mem:it∈fp
 obj:∀ i h,tn i h->∀ b∈fp,∃ o,h.get? b=some o/\∀ v,o.data≠.cell v
 keep:∀ i h h',tn i h->(∀ b∈fp,∀ o,h.get? b=some o->h'.get? b=some o)->tn i h'
 item:∀ (X:Cx),X.prog=P->X.w=w->X.K=K->X.calm=true->∀ (i:Nat) (pins:List (Addr×Obj)) (s:Shared) (σ:St) (H:Hp) (E:Value->Shared->Prop),Ax X pins σ H s->(∀ b∈fp,Eo X pins H b)->tn i s.heap->J.go i H ->
  wpAny (model P w) X.A (pyNext (.ref it)) (λr s1=>∃ u,r=some u /\
   wpAny (model P w) X.A (letOwnedTupleGo tg (.ref it) u) (λ_ s2=>∃ x H',Ax X pins σ H' s2/\Ba x u/\J.yld i H x H'/\tn (i+1) s2.heap/\∀ b∈fp,H' b=none) E s1) E s
 done:∀ (X:Cx),X.prog=P->X.w=w->X.K=K->X.calm=true->∀ (i:Nat) (pins:List (Addr×Obj)) (s:Shared) (σ:St) (H:Hp) (E:Value->Shared->Prop),Ax X pins σ H s->(∀ b∈fp,Eo X pins H b)->tn i s.heap->J.stop i H ->
  wpAny (model P w) X.A (pyNext (.ref it)) (λr s1=>r=none/\Ax X pins σ H s1) E s
 self:∀ (A:Around) (i:Nat) (s:Shared) (Q:Value->Shared->Prop) (E:Value->Shared->Prop),tn i s.heap->Q (.ref it) s->wpAny (model P w) A (pyIter (.ref it)) Q E s
abbrev TI:=St->Hp->(It->Hp->Prop)->Prop
def PIE (X:Cx) (pins:List (Addr×Obj)) (σ:St) (tg:Expr) (R:It->Hp->Prop) (itv:Value) (s2:Shared):Prop :=
 ∃ (it:Addr) (fp:List Addr) (tn:Nat->Heap->Prop) (J:It) (H':Hp),itv=.ref it/\Ax X pins σ H' s2/\KH X.prog X.w X.K tg J fp it tn/\tn 0 s2.heap/\(∀ b∈fp,Eo X pins H' b)/\R J H'
def PI (X:Cx) (tg iter:Expr) (wi:TI):Prop :=
 ∀ (pins:List (Addr×Obj)) (s:Shared) (σ:St) (H:Hp) (R:It->Hp->Prop),Ax X pins σ H s->wi σ H R ->
  wpAny (model X.prog X.w) X.A (eval iter X.env) (λv s1=>wpAny (model X.prog X.w) X.A (pyIter v) (PIE X pins σ tg R) X.xe s1) X.xe s

theorem Oe {M:Model} {A:Around} {E:Value->Shared->Prop} {s:Shared} {tg:Expr} {it:Addr} {u:Value} {o:Obj} {n:String} {vs:Array Value} {Q:Unit->Shared->Prop} (ho:s.heap.get? it=some o) (hc:o.cls=.type n) (hd:o.data=.fields vs)
    (hn:["enumerate", "zip", "dict_itemiterator", "dict_reverseitemiterator", "odict_iterator", "itertools.zip_longest", "itertools.pairwise"].contains n=false) (hQ:Q () s):wpAny M A (letOwnedTupleGo tg (.ref it) u) Q E s:=by
  unfold letOwnedTupleGo
  cases tg<;>first
    |exact wpAny_pure hQ
    | (cases u<;>first
        |exact wpAny_pure hQ
        | (refine wpAny_bind (wpAny_load ho ?_)
           rw [hc,hd]
           show wpAny M A (if (["enumerate", "zip", "dict_itemiterator", "dict_reverseitemiterator", "odict_iterator", "itertools.zip_longest", "itertools.pairwise"].contains n&&vs[0]? == some (rawInt _))=true then _ else _) Q E s
           rw [if_neg (by intro h;rw [hn,C3] at h;cases h)]
           exact wpAny_pure hQ))

def Itl (K:A0) (a:Addr):It :=
 ⟨λi H=>∃ xs x,AD K H a xs/\xs[i]?=some x,λi H x H'=>H'=H/\∀ xs,AD K H a xs->xs[i]?=some x,λi H=>∃ xs,AD K H a xs/\xs.length<=i⟩
def Itt (K:A0) (a:Addr):It :=
 ⟨λi H=>∃ xs x,Bc K H a xs/\xs[i]?=some x,λi H x H'=>H'=H/\∀ xs,Bc K H a xs->xs[i]?=some x,λi H=>∃ xs,Bc K H a xs/\xs.length<=i⟩
def Itr (lo:Int) (n:Nat):It:=⟨λi _=>i<n,λi H x H'=>H'=H/\x=.int (lo+i),λi _=>n<=i⟩
theorem Rn {P:Program} {w:World} {K:A0} {tg:Expr} (a it:Addr):KH P w K tg (Itl K a) [it] it (λi h=>h.IsListIter it a i) where
 mem:=by simp
 obj:=λi h st b hb=>by
  have e:b=it:=by simpa using hb
  subst e
  obtain ⟨o,e,c,d⟩:=st
  exact ⟨o,e,λv z=>by rw [d] at z;cases z⟩
 keep:=λi h h' st k=>st.at λo e=>k it (by simp) o e
 item:=by
  intro X hP hw hK hc i pins s σ H E I hf st hg
  subst hP hw hK
  obtain ⟨xs,x,hq,hx⟩:=hg
  obtain ⟨its,rv,p,hz⟩:=I.list hq
  obtain ⟨u,hu,ru⟩:=rv.get hx
  obtain ⟨f0,f1,f2,f3,f4,f5⟩:=hf it (by simp)
  refine wpAny_pyNext_list_item st p.isList (x:=u) (by simpa using hu) λh' st' sb=>?_
  have I1:Ax X pins σ H { s with heap:=h' }:=I.turned (t':=s.toks) (λb o hb e=>(sb.2 b hb).trans e) f0 f1 f3 f4 f5
  obtain ⟨o,e,c,d⟩:=id st'
  exact ⟨u,rfl,Oe (s:={ s with heap:=h' }) e c d (by kd_p) ⟨x,H,I1,ru,⟨rfl,λys hy=>by rw [I.list_inj hy hq];exact hx⟩,st',λb hb=>(hf b hb).1⟩⟩
 done:=by
  intro X hP hw hK hc i pins s σ H E I hf st hg
  subst hP hw hK
  obtain ⟨xs,hq,hx⟩:=hg
  obtain ⟨its,rv,p,hz⟩:=I.list hq
  obtain ⟨f0,f1,f2,f3,f4,f5⟩:=hf it (by simp)
  have hl:=rv.length
  exact wpAny_pyNext_list_end (I.ok.hd hc) st p.isList (by simp;lia) λh' eb=>⟨rfl,I.turned (t':=s.toks) (λb o hb e=>eb b o hb e) f0 f1 f3 f4 f5⟩
 self:=λ_ _ _ _ _ st h=>wpAny_pyIter_listiter st h
theorem OG {P:Program} {w:World} {K:A0} {tg:Expr} (a it:Addr):KH P w K tg (Itt K a) [it] it (λi h=>h.IsTupleIter it a i) where
 mem:=by simp
 obj:=λi h st b hb=>by
  have e:b=it:=by simpa using hb
  subst e
  obtain ⟨o,e,c,d⟩:=st
  exact ⟨o,e,λv z=>by rw [d] at z;cases z⟩
 keep:=λi h h' st k=>st.at λo e=>k it (by simp) o e
 item:=by
  intro X hP hw hK hc i pins s σ H E I hf st hg
  subst hP hw hK
  obtain ⟨xs,x,hq,hx⟩:=hg
  obtain ⟨its,rv,p,hz⟩:=I.tuple hq
  obtain ⟨u,hu,ru⟩:=rv.get hx
  obtain ⟨f0,f1,f2,f3,f4,f5⟩:=hf it (by simp)
  refine wpAny_pyNext_tuple_item st (show s.heap.IsTuple a its.toArray from p) (x:=u) (by simpa using hu) λh' st' sb=>?_
  have I1:Ax X pins σ H { s with heap:=h' }:=I.turned (t':=s.toks) (λb o hb e=>(sb.2 b hb).trans e) f0 f1 f3 f4 f5
  obtain ⟨o,e,c,d⟩:=id st'
  exact ⟨u,rfl,Oe (s:={ s with heap:=h' }) e c d (by kd_p) ⟨x,H,I1,ru,⟨rfl,λys hy=>by rw [I.tuple_inj hy hq];exact hx⟩,st',λb hb=>(hf b hb).1⟩⟩
 done:=by
  intro X hP hw hK hc i pins s σ H E I hf st hg
  subst hP hw hK
  obtain ⟨xs,hq,hx⟩:=hg
  obtain ⟨its,rv,p,hz⟩:=I.tuple hq
  obtain ⟨f0,f1,f2,f3,f4,f5⟩:=hf it (by simp)
  have hl:=rv.length
  exact wpAny_pyNext_tuple_end (I.ok.hd hc) st (show s.heap.IsTuple a its.toArray from p) (by simp;lia) λh' eb=>⟨rfl,I.turned (t':=s.toks) (λb o hb e=>eb b o hb e) f0 f1 f3 f4 f5⟩
 self:=λ_ _ _ _ _ st h=>wpAny_pyIter_tupleiter st h
theorem OH {P:Program} {w:World} {K:A0} {tg:Expr} (it:Addr) (lo:Int) (n:Nat):KH P w K tg (Itr lo n) [it] it (λi h=>IsRangeIter h it (lo+(i:Nat)*1) ((n:Int)-(i:Nat)) 1) where
 mem:=by simp
 obj:=λi h st b hb=>by
  have e:b=it:=by simpa using hb
  subst e
  exact ⟨_,st,λv z=>by
   have z':Data.fields _=Data.cell v:=z
   cases z'⟩
 keep:=λi h h' st k=>k it (by simp) _ st
 item:=by
  intro X hP hw hK hc i pins s σ H E I hf st hg
  subst hP hw hK
  obtain ⟨f0,f1,f2,f3,f4,f5⟩:=hf it (by simp)
  have W:=Walks.range (prog:=X.prog) (w:=X.w) (I.ok.hd hc) it lo 1 n
  refine W.item i s _ _ hg st λv h' tk hv st' kk=>?_
  obtain ⟨t,rfl⟩:=hv
  have I1:Ax X pins σ H { s with heap:=h',toks:=tk }:=I.turned (λb o hb e=>kk b o (by simpa using hb) e) f0 f1 f3 f4 f5
  refine ⟨_,rfl,Oe (s:={ s with heap:=h',toks:=tk }) (n:="range_iterator") st' rfl rfl (by kd_p) ⟨.int (lo+i),H,I1,⟨t,?_⟩,⟨rfl,rfl⟩,st',λb hb=>(hf b hb).1⟩⟩
  rw [Int.mul_one]
 done:=by
  intro X hP hw hK hc i pins s σ H E I hf st hg
  subst hP hw hK
  obtain ⟨f0,f1,f2,f3,f4,f5⟩:=hf it (by simp)
  exact wpAny_pyNext_range_end (I.ok.hd hc) st (by have:n<=i:=hg;lia) λh' eb=>⟨rfl,I.turned (t':=s.toks) (λb o hb e=>eb b o hb e) f0 f1 f3 f4 f5⟩
 self:=λ_ _ _ _ _ st h=>wpAny_pyIter_rangeiter st h
section
variable {X:Cx} {tg:Expr}
def Od (K:A0) (tl:TE):TI:=λσ H R=>tl σ H λx H1=>∃ a,x=.ref a/\(∃ xs,AD K H1 a xs)/\R (Itl K a) H1
def UD (K:A0) (tl:TE):TI:=λσ H R=>tl σ H λx H1=>∃ a,x=.ref a/\(∃ xs,Bc K H1 a xs)/\R (Itt K a) H1
theorem Cg {l:Expr} {tl:TE} (hl:PE X l tl):PI X tg l (Od X.K tl):=by
 intro pins s σ H R I h
 refine pB (hl pins s σ H _ I h) λv s1 x H1 I1 r1 q1=>?_
 obtain ⟨a,e,⟨xs,hq⟩,q⟩:=q1
 subst e
 cases r1
 obtain ⟨its,rv,p,hz⟩:=I1.list hq
 refine wpAny_pyIter_list p.isList ?_
 refine ⟨s1.heap.objs.size,[s1.heap.objs.size],_,_,H1,rfl,I1.kept (t':=s1.toks) λb o e=>Heap.get?_push_of_some _ e,Rn a _,⟨_,Heap.get?_push_size _ rfl,rfl,rfl⟩,λb hb=>?_,q⟩
 have e:b=s1.heap.objs.size:=by simpa using hb
 subst e
 exact I1.fpOk (P0 _) (I1.hok.fresh (P0 _))
theorem Dt {l:Expr} {tl:TE} (hl:PE X l tl):PI X tg l (UD X.K tl):=by
 intro pins s σ H R I h
 refine pB (hl pins s σ H _ I h) λv s1 x H1 I1 r1 q1=>?_
 obtain ⟨a,e,⟨xs,hq⟩,q⟩:=q1
 subst e
 cases r1
 obtain ⟨its,rv,p,hz⟩:=I1.tuple hq
 refine wpAny_pyIter_tuple (show s1.heap.IsTuple a its.toArray from p) ?_
 refine ⟨s1.heap.objs.size,[s1.heap.objs.size],_,_,H1,rfl,I1.kept (t':=s1.toks) λb o e=>Heap.get?_push_of_some _ e,OG a _,⟨_,Heap.get?_push_size _ rfl,rfl,rfl⟩,λb hb=>?_,q⟩
 have e:b=s1.heap.objs.size:=by simpa using hb
 subst e
 exact I1.fpOk (P0 _) (I1.hok.fresh (P0 _))
theorem TK {pins:List (Addr×Obj)} {σ:St} {H:Hp} {s:Shared} {R:It->Hp->Prop} {E:Value->Shared->Prop} {lo hi:Int} {t u v:Tok} {tk:Nat} (I:Ax X pins σ H s) (h1:-(2 ^ 62)<=lo) (h2:lo<2 ^ 62) (h3:-(2 ^ 62)<=hi) (h4:hi<2 ^ 62)
  (q:R (Itr lo (hi-lo).toNat) H):wpAny (model X.prog X.w) X.A (pyIter (.ref s.heap.objs.size)) (PIE X pins σ tg R) E { s with heap:=s.heap.push { cls:=.type "range",data:=.fields #[.int lo t,.int hi u,.int 1 v] },toks:=tk }:=by
 refine wpAny_pyIter_range (IsRange.new ..) (small_one h1 h2 h3 h4) ?_
 have I1:Ax X pins σ H { s with heap:=s.heap.push { cls:=.type "range",data:=.fields #[.int lo t,.int hi u,.int 1 v] },toks:=tk }:=I.kept λb o e=>Heap.get?_push_of_some _ e
 refine ⟨(s.heap.push { cls:=.type "range",data:=.fields #[.int lo t,.int hi u,.int 1 v] }).objs.size,[(s.heap.push { cls:=.type "range",data:=.fields #[.int lo t,.int hi u,.int 1 v] }).objs.size],_,_,H,rfl,
  I1.kept (t':=tk) λb o e=>Heap.get?_push_of_some _ e,OH _ lo (hi-lo).toNat,?_,λb hb=>?_,q⟩
 ·have e1:lo+((0:Nat):Int)*1=lo:=by simp
  have e2:(((hi-lo).toNat:Nat):Int)-((0:Nat):Int)=Builtin.Range.rangeSize lo hi 1:=by rw [rangeSize_one];split<;>lia
  show IsRangeIter _ _ (lo+((0:Nat):Int)*1) ((((hi-lo).toNat:Nat):Int)-((0:Nat):Int)) 1
  rw [e1,e2]
  exact Heap.get?_push_size _ rfl
 ·have e:b=(s.heap.push { cls:=.type "range",data:=.fields #[.int lo t,.int hi u,.int 1 v] }).objs.size:=by simpa using hb
  subst e
  exact I1.fpOk (P0 _) (I1.hok.fresh (P0 _))
def iRng1 (ta:TA):TI:=λσ H R=>ta σ H λvs H1=>∃ j:Int,vs=[.int j]/\-(2 ^ 62)<=j/\j<2 ^ 62/\R (Itr 0 j.toNat) H1
theorem IN {a:Expr} {ta:TA} {p pos:Pos} (hg:Gl X "range") (hm:X.mg "range"=none) (ha:PA X [a] ta) (hs:starEach [a] X.env=[(false,eval a X.env)]:=by rfl):PI X tg (.Call (.Name "range" p) [a] [] pos) (iRng1 ta):=by
 intro pins s σ H R I h
 refine Call_ (Gc I hg hm boot_range (T5 (pL (ha pos pins s σ H _ I h) λus s1 vs H1 I1 r1 q1=>?_) hs rfl))
 obtain ⟨j,e,q1,q2,q⟩:=q1
 subst e
 cases r1 with
 |cons r rr =>
  cases rr
  obtain ⟨t,rfl⟩:=r
  exact call_range_1 (TK I1 (by lia) (by lia) q1 q2 (by simpa using q))
def SN (wi:TI) (g:TG) (tb:TS):TS:=λD σ H=>wi σ H λJ H1=>∃ W:Nat->Nat->St->Hp->Prop,(∃ m,W 0 m σ H1)/\∀ i m σ H,W i m σ H ->
 (J.stop i H/\D.nx σ H)\/(J.go i H/\∃ N:St->Hp->Prop,(∀ σ' H',N σ' H'->∃ m',m'<m/\W (i+1) m' σ' H')/\∀ x H',J.yld i H x H'->g x σ H' λσ2 H2=>tb { D with nx:=N,ct:=N,bk:=D.nx } σ2 H2)
def Kc (fp:List Addr) (h:Heap):List (Addr×Obj):=fp.filterMap λb=>(h.get? b).map λo=>(b,o)
theorem Fw {fp:List Addr} {h:Heap} {b:Addr} {o:Obj} (hb:b∈fp) (e:h.get? b=some o):(b,o)∈Kc fp h:=Q6.mpr ⟨b,hb,by rw [e];rfl⟩
theorem RS {fp:List Addr} {h:Heap} {p:Addr×Obj} (hp:p∈Kc fp h):p.1∈fp/\h.get? p.1=some p.2:=by
 obtain ⟨b,hb,e⟩:=Q6.mp hp
 cases q:h.get? b with
 |none=>rw [q] at e;cases e
 |some o =>
  rw [q] at e
  have e':(b,o)=p:=V3.inj e
  subst e'
  exact ⟨hb,q⟩
theorem Ax.pinned {pins:List (Addr×Obj)} {σ:St} {H:Hp} {s:Shared} {fp:List Addr} (I:Ax X pins σ H s) (hf:∀ b∈fp,Eo X pins H b) (ho:∀ b∈fp,∃ o,s.heap.get? b=some o/\∀ v,o.data≠.cell v):Ax X (pins++Kc fp s.heap) σ H s :=
 I.pins_of λp hp=>(Q3.mp hp).elim (λz=>I.pin p (Z0 _ z)) λz=>by
  obtain ⟨hb,e⟩:=RS z
  obtain ⟨f0,f1,f2,_⟩:=hf p.1 hb
  obtain ⟨o,e',d⟩:=ho p.1 hb
  rw [e] at e';cases e'
  exact ⟨e,f0,f1,f2,d⟩
theorem Ax.unpinned {pins pl:List (Addr×Obj)} {σ:St} {H:Hp} {s:Shared} (I:Ax X (pins++pl) σ H s):Ax X pins σ H s:=I.pins_of λp hp=>I.pin p (Z0 _ (A4 _ hp))
theorem BF {iter:Expr} {body:List Stmt} {wi:TI} {g:TG} {tb:TS} {pos:Pos} (hp:PassesOwn (model X.prog X.w) X.A X.env X.xe) (hc:X.calm=true) (hi:PI X tg iter wi) (hg:PG X tg g) (hb:KI X body tb)
  (hs:∀ x,foldedSetIterable iter X.env x=pure x:=by intro _;rfl):PS X (.For tg iter body [] pos) (SN wi g tb):=by
 intro pins s σ H D I h
 refine wpAny_For (Bl (hi pins s σ H _ I h) λv s1 h1=>Bl h1 λitv s2 h2=>?_) hs
 obtain ⟨it,fp,tn,J,H2,e,I2,T,st2,f2,W,⟨m0,w0⟩,turn⟩:=h2
 subst e
 -- what stays true of the iterator's objects through the loop
 have stat:∀ {H':Hp},(∀ b∈fp,H' b=none)->∀ b∈fp,Eo X pins H' b:=λhn b hb=>⟨hn b hb,(f2 b hb).2⟩
 refine codeAny_forLoop_any (λn s'=>∃ i σ' H',Ax X pins σ' H' s'/\tn i s'.heap/\(∀ b∈fp,H' b=none)/\W i n σ' H') ?_ m0 ⟨0,σ,H2,I2,st2,λb hb=>(f2 b hb).1,w0⟩
 rintro n s3 ⟨i,σ3,H3,I3,st3,fr3,w3⟩
 rcases turn i n σ3 H3 w3 with ⟨stop,qn⟩ | ⟨go,N,hN,step⟩
 ·refine wpAny_passesOwn hp (Bl (T.done X rfl rfl rfl hc i pins s3 σ3 H3 X.xe I3 (stat fr3) st3 stop) λr s4 ⟨hr,I4⟩=>?_)
  subst hr
  exact wpAny_execs_nil ⟨σ3,H3,I4,qn⟩
 ·refine wpAny_passesOwn hp (Bl (T.item X rfl rfl rfl hc i pins s3 σ3 H3 X.xe I3 (stat fr3) st3 go) λr s4 ⟨u,hr,h4⟩=>?_)
  subst hr
  refine wpAny_passesOwn hp (Bl h4 λ_ s5 ⟨x,H5,I5,r5,y5,st5,fr5⟩=>?_)
  have I5':=I5.pinned (stat fr5) (T.obj _ _ st5)
  refine wpAny_passesOwn hp (Bl (hg _ s5 σ3 H5 x u _ I5' r5 (step x H5 y5)) λ_ s6 ⟨σ6,H6,I6,q6⟩=>?_)
  refine wpAny_passesOwn hp (Bl (hb _ s6 σ6 H6 _ I6 q6) λf s7 q7=>?_)
  have again:∀ {σ7:St} {H7:Hp},Ax X (pins++Kc fp s5.heap) σ7 H7 s7->N σ7 H7->∃ m,m<n/\∃ i σ' H',Ax X pins σ' H' s7/\tn i s7.heap/\(∀ b∈fp,H' b=none)/\W i m σ' H':=λ{σ7 H7} I7 n7=>by
   obtain ⟨m',hm,w7⟩:=hN σ7 H7 n7
   refine ⟨m',hm,i+1,σ7,H7,I7.unpinned,T.keep _ _ _ st5 λb hb o e=>(I7.pin (b,o) (Z0 _ (Z0 _ (Fw hb e)))).1,λb hb=>?_,w7⟩
   obtain ⟨o,e,d⟩:=T.obj _ _ st5 b hb
   exact (I7.pin (b,o) (Z0 _ (Z0 _ (Fw hb e)))).2.1
  cases f with
  |next=>obtain ⟨σ7,H7,I7,n7⟩:=q7;exact again I7 n7
  |cont=>obtain ⟨σ7,H7,I7,n7⟩:=q7;exact again I7 n7
  |brk=>obtain ⟨σ7,H7,I7,q7⟩:=q7;exact ⟨σ7,H7,I7.unpinned,q7⟩
  |ret v=>obtain ⟨x7,σ7,H7,I7,r7,q7⟩:=q7;exact ⟨x7,σ7,H7,I7.unpinned,r7,q7⟩
end

theorem Fc {K:A0} {a:Addr} {xs:List V} {g:TG} {tb:TS} {D:FE} {σ:St} {H:Hp} (Pv:Nat->St->Hp->Prop) (h0:Pv 0 σ H) (hl:∀ i σ H,i<=xs.length->Pv i σ H->AD K H a xs)
  (hs:∀ i x σ H,xs[i]?=some x->Pv i σ H->g x σ H λσ2 H2=>tb { D with nx:=Pv (i+1),ct:=Pv (i+1),bk:=D.nx } σ2 H2) (hd:∀ σ H,Pv xs.length σ H->D.nx σ H) :
  ∃ W:Nat->Nat->St->Hp->Prop,(∃ m,W 0 m σ H)/\∀ i m σ H,W i m σ H ->
   ((Itl K a).stop i H/\D.nx σ H)\/((Itl K a).go i H/\∃ N:St->Hp->Prop,(∀ σ' H',N σ' H'->∃ m',m'<m/\W (i+1) m' σ' H')/\∀ x H',(Itl K a).yld i H x H'->g x σ H' λσ2 H2=>tb { D with nx:=N,ct:=N,bk:=D.nx } σ2 H2):=by
 refine ⟨λi m σ H=>m=xs.length-i/\i<=xs.length/\Pv i σ H,⟨xs.length,by simp,N1 _,h0⟩,?_⟩
 rintro i m σ H ⟨rfl,hi,p⟩
 have q:=hl i σ H hi p
 by_cases hlt:i<xs.length
 ·refine .inr ⟨⟨xs,xs[i],q,by simp [hlt]⟩,Pv (i+1),λσ' H' p'=>⟨xs.length-(i+1),by lia,rfl,hlt,p'⟩,λx H' y=>?_⟩
  obtain ⟨e,y⟩:=y
  subst e
  exact hs i x σ _ (y xs q) p
 ·have e:i=xs.length:=by lia
  subst e
  exact .inl ⟨⟨xs,q,P0 _⟩,hd σ H p⟩
theorem DV {K:A0} {a:Addr} {xs:List V} {g:TG} {tb:TS} {D:FE} {σ:St} {H:Hp} (Pv:Nat->St->Hp->Prop) (h0:Pv 0 σ H) (hl:∀ i σ H,i<=xs.length->Pv i σ H->Bc K H a xs)
  (hs:∀ i x σ H,xs[i]?=some x->Pv i σ H->g x σ H λσ2 H2=>tb { D with nx:=Pv (i+1),ct:=Pv (i+1),bk:=D.nx } σ2 H2) (hd:∀ σ H,Pv xs.length σ H->D.nx σ H) :
  ∃ W:Nat->Nat->St->Hp->Prop,(∃ m,W 0 m σ H)/\∀ i m σ H,W i m σ H ->
   ((Itt K a).stop i H/\D.nx σ H)\/((Itt K a).go i H/\∃ N:St->Hp->Prop,(∀ σ' H',N σ' H'->∃ m',m'<m/\W (i+1) m' σ' H')/\∀ x H',(Itt K a).yld i H x H'->g x σ H' λσ2 H2=>tb { D with nx:=N,ct:=N,bk:=D.nx } σ2 H2):=by
 refine ⟨λi m σ H=>m=xs.length-i/\i<=xs.length/\Pv i σ H,⟨xs.length,by simp,N1 _,h0⟩,?_⟩
 rintro i m σ H ⟨rfl,hi,p⟩
 have q:=hl i σ H hi p
 by_cases hlt:i<xs.length
 ·refine .inr ⟨⟨xs,xs[i],q,by simp [hlt]⟩,Pv (i+1),λσ' H' p'=>⟨xs.length-(i+1),by lia,rfl,hlt,p'⟩,λx H' y=>?_⟩
  obtain ⟨e,y⟩:=y
  subst e
  exact hs i x σ _ (y xs q) p
 ·have e:i=xs.length:=by lia
  subst e
  exact .inl ⟨⟨xs,q,P0 _⟩,hd σ H p⟩
theorem LK {lo:Int} {n:Nat} {g:TG} {tb:TS} {D:FE} {σ:St} {H:Hp} (Pv:Nat->St->Hp->Prop) (h0:Pv 0 σ H)
  (hs:∀ i σ H,i<n->Pv i σ H->g (.int (lo+i)) σ H λσ2 H2=>tb { D with nx:=Pv (i+1),ct:=Pv (i+1),bk:=D.nx } σ2 H2) (hd:∀ σ H,Pv n σ H->D.nx σ H) :
  ∃ W:Nat->Nat->St->Hp->Prop,(∃ m,W 0 m σ H)/\∀ i m σ H,W i m σ H ->
   ((Itr lo n).stop i H/\D.nx σ H)\/((Itr lo n).go i H/\∃ N:St->Hp->Prop,(∀ σ' H',N σ' H'->∃ m',m'<m/\W (i+1) m' σ' H')/\∀ x H',(Itr lo n).yld i H x H'->g x σ H' λσ2 H2=>tb { D with nx:=N,ct:=N,bk:=D.nx } σ2 H2):=by
 refine ⟨λi m σ H=>m=n-i/\i<=n/\Pv i σ H,⟨n,by simp,N1 _,h0⟩,?_⟩
 rintro i m σ H ⟨rfl,hi,p⟩
 by_cases hlt:i<n
 ·refine .inr ⟨hlt,Pv (i+1),λσ' H' p'=>⟨n-(i+1),by lia,rfl,hlt,p'⟩,λx H' y=>?_⟩
  obtain ⟨e,y⟩:=y
  subst e y
  exact hs i σ _ hlt p
 ·have e:i=n:=by lia
  subst e
  exact .inl ⟨P0 _,hd σ H p⟩

abbrev R2:=V->V->Hp->VK->Prop
def GC (X:Cx) (f:Value->Value->Sem Value) (r:R2):Prop :=
 ∀ (pins:List (Addr×Obj)) (s:Shared) (σ:St) (H:Hp) (x y:V) (v u:Value) (Q:VK),Ax X pins σ H s->Ba x v->Ba y u->r x y H Q ->
  wpAny (model X.prog X.w) X.A (f v u) (EP X pins σ Q) X.xe s
def UnR (X:Cx) (f:Value->Sem Value) (r:V->Hp->VK->Prop):Prop :=
 ∀ (pins:List (Addr×Obj)) (s:Shared) (σ:St) (H:Hp) (x:V) (v:Value) (Q:VK),Ax X pins σ H s->Ba x v->r x H Q ->
  wpAny (model X.prog X.w) X.A (f v) (EP X pins σ Q) X.xe s
def En (X:Cx) (f:Value) (r:List V->Hp->VK->Prop):Prop :=
 ∀ (pins:List (Addr×Obj)) (s:Shared) (σ:St) (H:Hp) (xs:List V) (us:List Value) (Q:VK),Ax X pins σ H s->AR xs us->r xs H Q ->
  wpAny (model X.prog X.w) X.A (call f us) (EP X pins σ Q) X.xe s
def tOp (r:R2) (ta tb:TE):TE:=λσ H Q=>ta σ H λx H1=>tb σ H1 λy H2=>r x y H2 Q
def tUn (r:V->Hp->VK->Prop) (ta:TE):TE:=λσ H Q=>ta σ H λx H1=>r x H1 Q
def rI (C:Int->Int->Prop) (g:Int->Int->V):R2:=λx y H Q=>∃ i j,x=.int i/\y=.int j/\C i j/\Q (g i j) H
def rI0 (g:Int->Int->V):R2:=λx y H Q=>∃ i j,x=.int i/\y=.int j/\Q (g i j) H
def rU (g:Int->V):V->Hp->VK->Prop:=λx H Q=>∃ i,x=.int i/\Q (g i) H

section
variable {X:Cx} {a b c:Expr} {ta tb tc:TE} {pos:Pos}

theorem binT (ha:PE X a ta) (hb:PE X b tb) {pins:List (Addr×Obj)} {s:Shared} {σ:St} {H:Hp} {R:V->V->Hp->Prop} (I:Ax X pins σ H s)
  (h:ta σ H λx H1=>tb σ H1 λy H2=>R x y H2) {Q:Value->Shared->Prop} {f:Value->Value->Sem Value}
  (hf:∀ v u s2 x y H2,Ax X pins σ H2 s2->Ba x v->Ba y u->R x y H2->wpAny (model X.prog X.w) X.A (f v u) Q X.xe s2) :
  wpAny (model X.prog X.w) X.A (eval a X.env) (λv s₁=>wpAny (model X.prog X.w) X.A (eval b X.env) (λu s₂=>wpAny (model X.prog X.w) X.A (f v u) Q X.xe s₂) X.xe s₁) X.xe s:=by
 refine pB (ha pins s σ H _ I h) λv s1 x H1 I1 r1 q1=>?_
 refine pB (hb pins s1 σ H1 _ I1 q1) λu s2 y H2 I2 r2 q2=>?_
 exact hf v u s2 x y H2 I2 r1 r2 q2

theorem AL {op:Operator} {r:R2} (ho:GC X (binaryOp op) r) (ha:PE X a ta) (hb:PE X b tb):PE X (.BinOp a op b pos) (tOp r ta tb):=by
 intro pins s σ H Q I h
 exact wpAny_BinOp (binT ha hb I h λv u s2 x y H2 I2 rx ry q=>ho pins s2 σ H2 x y v u Q I2 rx ry q)
theorem Jm {op:UnaryOp} {r:V->Hp->VK->Prop} (ho:UnR X (unaryOp op) r) (ha:PE X a ta):PE X (.UnaryOp op a pos) (tUn r ta):=by
 intro pins s σ H Q I h
 exact UnaryOp_ (pB (ha pins s σ H _ I h) λv s1 x H1 I1 r1 q1=>ho pins s1 σ H1 x v Q I1 r1 q1)
theorem opI {f:Value->Value->Sem Value} {C:Int->Int->Prop} {g:Int->Int->Int}
  (rule:∀ (i j:Int) (t u:Tok) (s:Shared) (Q:Value->Shared->Prop) (E:Value->Shared->Prop),C i j->Q (.int (g i j) s.toks) { s with toks:=s.toks+1 }->wpAny (model X.prog X.w) X.A (f (.int i t) (.int j u)) Q E s) :
  GC X f (rI C λi j=>.int (g i j)):=by
 intro pins s σ H x y v u Q I rx ry h
 obtain ⟨i,j,rfl,rfl,hc,q⟩:=h
 obtain ⟨t,rfl⟩:=rx
 obtain ⟨t',rfl⟩:=ry
 exact rule i j t t' s _ _ hc ⟨.int (g i j),H,I.tok _,⟨_,rfl⟩,q⟩
theorem opI0 {f:Value->Value->Sem Value} {g:Int->Int->Int}
  (rule:∀ (i j:Int) (t u:Tok) (s:Shared) (Q:Value->Shared->Prop) (E:Value->Shared->Prop),Q (.int (g i j) s.toks) { s with toks:=s.toks+1 }->wpAny (model X.prog X.w) X.A (f (.int i t) (.int j u)) Q E s) :
  GC X f (rI0 λi j=>.int (g i j)):=by
 intro pins s σ H x y v u Q I rx ry h
 obtain ⟨i,j,rfl,rfl,q⟩:=h
 obtain ⟨t,rfl⟩:=rx
 obtain ⟨t',rfl⟩:=ry
 exact rule i j t t' s _ _ ⟨.int (g i j),H,I.tok _,⟨_,rfl⟩,q⟩
theorem opB0 {f:Value->Value->Sem Value} {g:Int->Int->Bool}
  (rule:∀ (i j:Int) (t u:Tok) (s:Shared) (Q:Value->Shared->Prop) (E:Value->Shared->Prop),Q (.bool (g i j)) s->wpAny (model X.prog X.w) X.A (f (.int i t) (.int j u)) Q E s) :
  GC X f (rI0 λi j=>.bl (g i j)):=by
 intro pins s σ H x y v u Q I rx ry h
 obtain ⟨i,j,rfl,rfl,q⟩:=h
 obtain ⟨t,rfl⟩:=rx
 obtain ⟨t',rfl⟩:=ry
 exact rule i j t t' s _ _ ⟨.bl (g i j),H,I,rfl,q⟩

def CDiv (i j:Int):Prop:=0<j/\j<1073741824
def CMul (i j:Int):Prop:=(-(2 ^ 64)<i/\i<2 ^ 64)\/(-(2 ^ 64)<j/\j<2 ^ 64)
theorem CMul.ok {i j:Int} (h:CMul i j):IntMulOk i j:=by
 rcases h with ⟨h1,h2⟩ | ⟨h1,h2⟩
 ·exact .of_left (intBits_le_64 h1 h2)
 ·exact .of_right (intBits_le_64 h1 h2)
theorem Ft:GC X (binaryOp .Add) (rI0 λi j=>.int (i+j)):=opI0 λ_ _ _ _ _ _ _ q=>add_int q
theorem Uc:GC X (binaryOp .Sub) (rI0 λi j=>.int (i-j)):=opI0 λ_ _ _ _ _ _ _ q=>sub_int q
theorem IQ:GC X (binaryOp .Mult) (rI CMul λi j=>.int (i*j)):=opI λ_ _ _ _ _ _ _ hc q=>mul_int q hc.ok
theorem QI:GC X (binaryOp .FloorDiv) (rI CDiv λi j=>.int (i / j)):=opI λi j _ _ _ _ _ hc q=>by
 have h1:(0:Int)<j:=hc.1
 have h2:j<1073741824:=hc.2
 exact floordiv_int (by lia) (by rw [Int.fdiv_eq_ediv_of_nonneg i (by lia)];exact q) (.inl (PyProof.noPylong_small (by lia)))
theorem Kh:GC X (binaryOp .Mod) (rI (λ_ j=>0<j) λi j=>.int (i%j)):=opI λi j _ _ _ _ _ hc q=>by
 have h1:(0:Int)<j:=hc
 exact mod_int' (by lia) (by rw [Int.fmod_eq_emod_of_nonneg i (by lia)];exact q)
theorem unI {f:Value->Sem Value} {g:Int->Int}
  (rule:∀ (i:Int) (t:Tok) (s:Shared) (Q:Value->Shared->Prop) (E:Value->Shared->Prop),Q (.int (g i) s.toks) { s with toks:=s.toks+1 }->wpAny (model X.prog X.w) X.A (f (.int i t)) Q E s) :
  UnR X f (rU λi=>.int (g i)):=by
 intro pins s σ H x v Q I rx h
 obtain ⟨i,rfl,q⟩:=h
 obtain ⟨t,rfl⟩:=rx
 exact rule i t s _ _ ⟨.int (g i),H,I.tok _,⟨_,rfl⟩,q⟩
theorem FP:UnR X (unaryOp .USub) (rU λi=>.int (-i)):=unI λ_ _ _ _ _ q=>neg_int q
end

def scal:V->V->Bool
 |.non,.non=>true | .non,.int _=>true | .int _,.non=>true | .non,.bl _=>true | .bl _,.non=>true | .non,.str _=>true | .str _,.non=>true
 |.int _,.int _=>true | .bl _,.bl _=>true | .str _,.str _=>true | .byt _,.byt _=>true
 |.int _,.str _=>true | .str _,.int _=>true | .bl _,.str _=>true | .str _,.bl _=>true
 |_,_=>false
def rEq:R2:=λx y H Q=>scal x y=true/\Q (.bl (decide (x=y))) H
def rNe:R2:=λx y H Q=>scal x y=true/\Q (.bl (!decide (x=y))) H

theorem QV {i j:Int}:decide (V.int i=V.int j)=(i == j):=by
 rw [j6]
 simp
theorem Vd {i j:Bool}:decide (V.bl i=V.bl j)=(i == j):=by
 rw [j6]
 simp
theorem QU {i j:Str}:decide (V.str i=V.str j)=(i == j):=by
 rw [j6]
 simp
theorem QW {i j:Array UInt8}:decide (V.byt i=V.byt j)=(i.toList == j.toList):=by
 rw [j6]
 cases i
 cases j
 simp

section
variable {X:Cx} {a b c:Expr} {ta tb tc:TE} {pos:Pos}
theorem AY {pins:List (Addr×Obj)} {σ:St} {H:Hp} {s:Shared} {Q:VK} {k k':Bool} (I:Ax X pins σ H s) (q:Q (.bl k) H) (e:k=k'):EP X pins σ Q (.bool k') s:=by
 subst e
 exact ⟨.bl k,H,I,rfl,q⟩
theorem AQ:GC X (compareOp .Eq) rEq:=by
 intro pins s σ H x y v u Q I rx ry h
 obtain ⟨hs,q⟩:=h
 cases x with
 |non =>
  cases rx
  cases y with
  |non=>cases ry;exact PySem.EqNone.eq_none_none (AY I q (by simp))
  |bl j=>cases ry;exact PySem.EqNone.eq_none_bool (AY I q (by simp))
  |int j=>obtain ⟨t',rfl⟩:=ry;exact PySem.EqNone.eq_none_int (AY I q (by simp))
  |str j=>obtain ⟨t',rfl⟩:=ry;exact PySem.EqNone.eq_none_str (AY I q (by simp))
  |_=>exact absurd (show false=true from hs) Q0
 |bl i =>
  cases rx
  cases y with
  |non=>cases ry;exact PySem.EqNone.eq_bool_none (AY I q (by simp))
  |bl j=>cases ry;exact eq_bool (AY I q Vd)
  |str j=>obtain ⟨t',rfl⟩:=ry;exact PySem.EqMixed.eq_bool_str (AY I q (by simp))
  |_=>exact absurd (show false=true from hs) Q0
 |int i =>
  obtain ⟨t,rfl⟩:=rx
  cases y with
  |non=>cases ry;exact PySem.EqNone.eq_int_none (AY I q (by simp))
  |int j=>obtain ⟨t',rfl⟩:=ry;exact eq_int (AY I q QV)
  |str j=>obtain ⟨t',rfl⟩:=ry;exact PySem.EqMixed.eq_int_str (AY I q (by simp))
  |_=>exact absurd (show false=true from hs) Q0
 |str i =>
  obtain ⟨t,rfl⟩:=rx
  cases y with
  |non=>cases ry;exact PySem.EqNone.eq_str_none (AY I q (by simp))
  |bl j=>cases ry;exact PySem.EqMixed.eq_str_bool (AY I q (by simp))
  |int j=>obtain ⟨t',rfl⟩:=ry;exact PySem.EqMixed.eq_str_int (AY I q (by simp))
  |str j=>obtain ⟨t',rfl⟩:=ry;exact eq_str (AY I q QU)
  |_=>exact absurd (show false=true from hs) Q0
 |byt i =>
  obtain ⟨t,rfl⟩:=rx
  cases y with
  |byt j=>obtain ⟨t',rfl⟩:=ry;exact PySem.W.eq_bytes (AY I q QW)
  |_=>exact absurd (show false=true from hs) Q0
 |_=>cases y<;>exact absurd (show false=true from hs) Q0
theorem Kg:GC X (compareOp .NotEq) rNe:=by
 intro pins s σ H x y v u Q I rx ry h
 obtain ⟨hs,q⟩:=h
 cases x with
 |non =>
  cases rx
  cases y with
  |non=>cases ry;exact PySem.EqNone.ne_none_none (AY I q (by simp))
  |bl j=>cases ry;exact PySem.EqNone.ne_none_bool (AY I q (by simp))
  |int j=>obtain ⟨t',rfl⟩:=ry;exact PySem.EqNone.ne_none_int (AY I q (by simp))
  |str j=>obtain ⟨t',rfl⟩:=ry;exact PySem.EqNone.ne_none_str (AY I q (by simp))
  |_=>exact absurd (show false=true from hs) Q0
 |bl i =>
  cases rx
  cases y with
  |non=>cases ry;exact PySem.EqNone.ne_bool_none (AY I q (by simp))
  |bl j=>cases ry;exact ne_bool (AY I q (congrArg not Vd))
  |str j=>obtain ⟨t',rfl⟩:=ry;exact PySem.EqMixed.ne_bool_str (AY I q (by simp))
  |_=>exact absurd (show false=true from hs) Q0
 |int i =>
  obtain ⟨t,rfl⟩:=rx
  cases y with
  |non=>cases ry;exact PySem.EqNone.ne_int_none (AY I q (by simp))
  |int j=>obtain ⟨t',rfl⟩:=ry;exact ne_int (AY I q (congrArg not QV))
  |str j=>obtain ⟨t',rfl⟩:=ry;exact PySem.EqMixed.ne_int_str (AY I q (by simp))
  |_=>exact absurd (show false=true from hs) Q0
 |str i =>
  obtain ⟨t,rfl⟩:=rx
  cases y with
  |non=>cases ry;exact PySem.EqNone.ne_str_none (AY I q (by simp))
  |bl j=>cases ry;exact PySem.EqMixed.ne_str_bool (AY I q (by simp))
  |int j=>obtain ⟨t',rfl⟩:=ry;exact PySem.EqMixed.ne_str_int (AY I q (by simp))
  |str j=>obtain ⟨t',rfl⟩:=ry;exact ne_str (AY I q (congrArg not QU))
  |_=>exact absurd (show false=true from hs) Q0
 |byt i =>
  obtain ⟨t,rfl⟩:=rx
  cases y with
  |byt j=>obtain ⟨t',rfl⟩:=ry;exact PySem.W.ne_bytes (AY I q (congrArg not QW))
  |_=>exact absurd (show false=true from hs) Q0
 |_=>cases y<;>exact absurd (show false=true from hs) Q0

theorem Ud:GC X (compareOp .Lt) (rI0 λi j=>.bl (decide (i<j))):=opB0 λ_ _ _ _ _ _ _ q=>lt_int q
theorem FH:GC X (compareOp .LtE) (rI0 λi j=>.bl (decide (i<=j))):=opB0 λ_ _ _ _ _ _ _ q=>le_int q
theorem LC:GC X (compareOp .Gt) (rI0 λi j=>.bl (decide (j<i))):=opB0 λ_ _ _ _ _ _ _ q=>gt_int q
theorem op_ge:GC X (compareOp .GtE) (rI0 λi j=>.bl (decide (j<=i))):=opB0 λ_ _ _ _ _ _ _ q=>ge_int q
theorem DJ:GC X (compareOp .Is) (λx y H Q=>y=.non/\Q (.bl (decide (x=.non))) H):=by
 intro pins s σ H x y v u Q I rx ry h
 obtain ⟨rfl,q⟩:=h
 cases ry
 refine is_none_gen (AY I q ?_)
 cases x<;>first
  | (cases rx;rfl)
  | (obtain ⟨t,rfl⟩:=rx;rfl)
theorem HR:GC X (compareOp .IsNot) (λx y H Q=>y=.non/\Q (.bl (!decide (x=.non))) H):=by
 intro pins s σ H x y v u Q I rx ry h
 obtain ⟨rfl,q⟩:=h
 cases ry
 refine isnot_none_gen (AY I q ?_)
 cases x<;>first
  | (cases rx;rfl)
  | (obtain ⟨t,rfl⟩:=rx;rfl)

theorem Mu:GC X (compareOp .NotIn) (λx y H Q=>∃ i j,x=.str i/\y=.str j/\Q (.bl (!(!(Builtin.Str.occurrences j i 0 j.length 1).isEmpty))) H):=by
 intro pins s σ H x y v u Q I rx ry h
 obtain ⟨i,j,rfl,rfl,q⟩:=h
 obtain ⟨t,rfl⟩:=rx
 obtain ⟨t',rfl⟩:=ry
 exact notIn_str (AY I q rfl)
theorem AV {op:CmpOp} {r:R2} (ho:GC X (compareOp op) r) (ha:PE X a ta) (hb:PE X b tb) (hm:behindInMarks op b=false):PE X (.Compare a [op] [b] pos) (tOp r ta tb):=by
 intro pins s σ H Q I h
 exact wpAny_Compare1 (binT ha hb I h λv u s2 x y H2 I2 rx ry q=>ho pins s2 σ H2 x y v u Q I2 rx ry q) hm
def Qj (t:TE):TT:=λσ H Q=>t σ H λx H'=>∃ k,x=.bl k/\Q k H'
theorem Al {op:CmpOp} {r:R2} (ho:GC X (compareOp op) r) (ha:PE X a ta) (hb:PE X b tb) (hm:behindInMarks op b=false):PT X (.Compare a [op] [b] pos) (Qj (tOp r ta tb)):=by
 intro pins s σ H Q I h
 refine wpAny_isTrue_Compare1 (pB (ha pins s σ H _ I h) λv s1 x H1 I1 r1 q1=>pB (hb pins s1 σ H1 _ I1 q1) λu s2 y H2 I2 r2 q2 =>
  pB (ho pins s2 σ H2 x y v u _ I2 r1 r2 q2) λc s3 z H3 I3 r3 z=>?_) hm
 obtain ⟨k,rfl,q3⟩:=z
 cases r3
 exact wpAny_truthy_bool ⟨H3,I3,q3⟩
def OL (r r':R2) (ta tb tc:TE):TE:=λσ H Q=>ta σ H λx H1=>tb σ H1 λy H2=>r x y H2 λz H3=>∃ k,z=.bl k /\
 (if k=true then tc σ H3 λw' H4=>r' y w' H4 Q else Q (.bl false) H3)
theorem Ke {op op':CmpOp} {r r':R2} (ho:GC X (compareOp op) r) (ho':GC X (compareOp op') r') (ha:PE X a ta) (hb:PE X b tb) (hc:PE X c tc)
  (hm:lastMarks [op,op'] [b,c]=false:=by with_unfolding_all rfl):PE X (.Compare a [op,op'] [b,c] pos) (OL r r' ta tb tc):=by
 intro pins s σ H Q I h
 refine Compare_chain (pB (ha pins s σ H _ I h) λv s1 x H1 I1 r1 q1=>chain_link (pB (hb pins s1 σ H1 _ I1 q1) λu s2 y H2 I2 r2 q2 =>
  pB (ho pins s2 σ H2 x y v u _ I2 r1 r2 q2) λd s3 z H3 I3 r3 z=>?_)) hm
 obtain ⟨k,rfl,q3⟩:=z
 cases r3
 refine wpAny_truthy_bool ?_
 cases k with
 |false=>exact ite_ff ⟨.bl false,H3,I3,rfl,q3⟩
 |true=>exact ite_tt (chain_last (pB (hc pins s3 σ H3 _ I3 q3) λw' s4 z' H4 I4 r4 q4=>ho' pins s4 σ H4 y z' u w' Q I4 r2 r4 q4))
theorem HP {op op':CmpOp} {r r':R2} (ho:GC X (compareOp op) r) (ho':GC X (compareOp op') r') (ha:PE X a ta) (hb:PE X b tb) (hc:PE X c tc)
  (hm:lastMarks [op,op'] [b,c]=false:=by with_unfolding_all rfl):PT X (.Compare a [op,op'] [b,c] pos) (Qj (OL r r' ta tb tc)):=by
 intro pins s σ H Q I h
 refine isTrue_chain (pB (ha pins s σ H _ I h) λv s1 x H1 I1 r1 q1=>test_link (pB (hb pins s1 σ H1 _ I1 q1) λu s2 y H2 I2 r2 q2 =>
  pB (ho pins s2 σ H2 x y v u _ I2 r1 r2 q2) λd s3 z H3 I3 r3 z=>?_)) hm
 obtain ⟨k,rfl,q3⟩:=z
 cases r3
 refine wpAny_truthy_bool ?_
 cases k with
 |false =>
  obtain ⟨k',e',q'⟩:=q3
  cases e'
  exact ite_ff ⟨H3,I3,q'⟩
 |true =>
  refine ite_tt (test_last (pB (hc pins s3 σ H3 _ I3 q3) λw' s4 z' H4 I4 r4 q4=>pB (ho' pins s4 σ H4 y z' u w' _ I4 r2 r4 q4) λd' s5 z2 H5 I5 r5 z=>?_))
  obtain ⟨k2,rfl,q5⟩:=z
  cases r5
  exact wpAny_truthy_bool ⟨H5,I5,q5⟩

theorem ME:(sizeLine:Nat)<2 ^ 63:=by rw [sizeLine_eq];decide
theorem Bb:GC X (binaryOp .Add) (λx y H Q=>∃ i j,x=.str i/\y=.str j/\i.length+j.length<=sizeLine/\Q (.str (i++j)) H):=by
 intro pins s σ H x y v u Q I rx ry h
 obtain ⟨i,j,rfl,rfl,hz,q⟩:=h
 obtain ⟨t,rfl⟩:=rx
 obtain ⟨t',rfl⟩:=ry
 exact add_str (λt' tk=>⟨.str (i++j),H,I.tok _,⟨_,rfl⟩,q⟩) hz
theorem Ep {x:V} {us:List Value} (r:AR [x] us):∃ u,us=[u]/\Ba x u:=by
 cases r with
 |cons r1 r2=>cases r2;exact ⟨_,rfl,r1⟩
theorem Qh {x y:V} {us:List Value} (r:AR [x,y] us):∃ u w',us=[u,w']/\Ba x u/\Ba y w':=by
 cases r with
 |cons r1 r2 =>
  cases r2 with
  |cons r3 r4=>cases r4;exact ⟨_,_,rfl,r1,r3⟩
theorem Sq (hc:X.calm=true):En X (.builtin "min") (λxs H Q=>∃ i j,xs=[.int i,.int j]/\Q (.int (if j<i then j else i)) H):=by
 intro pins s σ H xs us Q I r h
 obtain ⟨i,j,rfl,q⟩:=h
 obtain ⟨u,w',rfl,⟨t,rfl⟩,⟨t',rfl⟩⟩:=Qh r
 refine min_two_ints (I.ok.hd hc) λh' tk k=>⟨_,H,I.kept k,?_,q⟩
 by_cases hj:j<i
 ·rw [if_pos hj,if_pos hj];exact ⟨_,rfl⟩
 ·rw [if_neg hj,if_neg hj];exact ⟨_,rfl⟩
def LenV (K:A0) (x:V) (H:Hp) (n:Nat):Prop :=
 match x with
 |.str y=>y.length<=sizeLine/\n=y.length
 |.byt y=>y.size<=sizeLine/\n=y.size
 |.ref p=>(∃ xs,AD K H p xs/\n=xs.length)\/∃ xs,Bc K H p xs/\n=xs.length
 |_=>False
theorem AI:En X (.builtin "len") (λxs H Q=>∃ x n,xs=[x]/\LenV X.K x H n/\Q (.int n) H):=by
 intro pins s σ H xs us Q I r h
 obtain ⟨x,n,rfl,e,q⟩:=h
 obtain ⟨u,rfl,rx⟩:=Ep r
 have hl:=ME
 have hs:sizeLine=16777216:=sizeLine_eq
 cases x with
 |str y =>
  obtain ⟨t,rfl⟩:=rx
  obtain ⟨hy,e'⟩:y.length<=sizeLine/\n=y.length:=e
  subst e'
  exact len_str (by lia) ⟨.int _,H,I.tok _,⟨_,rfl⟩,q⟩
 |byt y =>
  obtain ⟨t,rfl⟩:=rx
  obtain ⟨hy,e'⟩:y.size<=sizeLine/\n=y.size:=e
  subst e'
  exact PySem.W.len_bytes (by lia) ⟨.int _,H,I.tok _,⟨_,rfl⟩,q⟩
 |ref p =>
  cases rx
  have e':(∃ xs,AD X.K H p xs/\n=xs.length)\/∃ xs,Bc X.K H p xs/\n=xs.length:=e
  rcases e' with ⟨xs,hx,e'⟩ | ⟨xs,hx,e'⟩
  ·subst e'
   obtain ⟨its,r',pl,hz⟩:=I.list hx
   have hlen:=r'.length
   exact Calls.call_len_list pl.isList (by simp only [V0];lia) ⟨.int xs.length,H,I.tok _,⟨_,by simp only [V0];rw [hlen]⟩,q⟩
  ·subst e'
   obtain ⟨its,r',pl,hz⟩:=I.tuple hx
   have hlen:=r'.length
   exact len_tuple pl (by simp only [V0];lia) ⟨.int xs.length,H,I.tok _,⟨_,by simp only [V0];rw [hlen]⟩,q⟩
 |_=>exact (show False from e).elim
end

structure Qa (h:Heap) (x dx C:Addr) (mA:Str->Option Value):Prop where
 obj:h.get? x=some (g5 C dx)
 ns:h.Ns1 dx mA
 ne:dx≠x

theorem IZ {h:Heap} {dx:Addr} {mA:Str->Option Value} (n:h.Ns1 dx mA):∃ od,h.get? dx=some od/\∀ name,z6 name od=some (mA name):=by
 obtain ⟨o,es,ep,ho,hd,hk,_,hm⟩:=n
 refine ⟨o,ho,λname=>?_⟩
 have e:=hm name
 unfold nsFind findBy at e
 rw [<- Array.find?_toList] at e
 unfold z6
 rw [hd]
 dsimp only
 split
 ·rename_i y q
  rw [q] at e
  exact congrArg some e
 ·rename_i q
  rw [q] at e
  have a:es.toList.any (·.refKey)=false:=by
   rw [U8]
   intro y hy
   obtain ⟨z,t,hkey⟩:=hk y (O9.mp hy)
   simp [DictEntry.refKey,hkey]
  have a':¬ es.toList.any (·.refKey)=true:=by rw [a];exact Q0
  rw [if_neg a']
  exact congrArg some e

theorem Qa.look {h:Heap} {x dx C:Addr} {mA:Str->Option Value} (I:Qa h x dx C mA):∃ od,PySem.W.InstAt h x (g5 C dx) C (some od)/\∀ name,z6 name od=some (mA name) :=
 let ⟨od,ho,hl⟩:=IZ I.ns
 ⟨od,⟨I.obj,rfl,rfl,ho⟩,hl⟩

section
variable {prog:Program} {w:World} {A:Around} {E:Value->Shared->Prop} {s:Shared} {K:A0} {x dx C f:Addr} {mA:Str->Option Value} {name:Str} {v:Value}

theorem get_map {expr:Bool} {Q:Value->Shared->Prop} (X:K.In s.heap) (I:Qa s.heap x dx C mA) (hg:Z6 K C name=true) (hh:T4 K C=true)
  (ha:G0 K (.ref C) name=some none) (hv:mA name=some v) (hv':PySem.W.handedIn v=true) (h:Q v { s with toks:=s.toks+1 }) :
  wpAny (model prog w) A (getAttr (.ref x) name expr) Q E s:=by
 obtain ⟨od,J,hl⟩:=I.look
 exact PySem.W.get_value X J (A8 hg).1 (PySem.W.findObj_own hh ha rfl (by rw [hl,hv])) hv' h

theorem UL {pl:Sem Bool} {Q:Value×List Value->Shared->Prop} (X:K.In s.heap) (I:Qa s.heap x dx C mA) (hg:Z6 K C name=true)
  (hf:G0 K (.ref C) name=some (some (.ref f))) (ht:S5 K (.ref f)=true) (hv:mA name=none) (h:Q (.ref f,[.ref x]) s) :
  wpAny (model prog w) A (getMethod (.ref x) name pl) Q E s:=by
 obtain ⟨od,J,hl⟩:=I.look
 exact PySem.W.method_fn X J (A8 hg).1 (A8 hg).2 hf (beq_iff_eq.mp ht) (by show (z6 name od).map (·.isSome)=some false;rw [hl,hv];rfl) h

theorem set_map {ns:List Str} {Q:Unit->Shared->Prop} (X:K.In s.heap) (I:Qa s.heap x dx C mA)
  (hs:G0 K (.ref C) "__setattr__"=some (some (.builtin "object.__setattr__"))) (hp:M8 K C=true) (ht:Q4 K C name=some none) (hh:T4 K C=true)
  (hw:PySem.Within mA ns) (hsz:ns.length<=sizeLine)
  (h:∀ h',Qa h' x dx C (λy=>if y=name then some v else mA y)->Heap.SameBut dx s.heap h'->Q () { s with heap:=h',toks:=s.toks+2 }) :
  wpAny (model prog w) A (setAttr (.ref x) name v) Q E s:=by
 obtain ⟨od,J,hl⟩:=I.look
 refine PySem.W.set_plain X J hs (PySem.W.osa_open (s:={ s with toks:=s.toks+1 }) (r:=none) X J hp ht λb=>?_)
 obtain ⟨cd,hc,hd'⟩:=PySem.W.any_some hh
 have hx:s.heap.get? x=some ⟨.ref C,some dx,.plain,#[]⟩:=I.obj
 refine wpAny_bind (wpAny_pure (wpAny_bind (wpAny_bind (wpAny_loadPart hx (wpAny_bind (PySem.W.Looks.here (s:={ s with toks:=s.toks+1 }) (PySem.W.looks_clsIn X hc) ?_))))))
 rw [hd']
 refine wpAny_pure (a:=some dx) (wpAny_bind (wpAny_pure (wpAny_bind ?_)))
 refine wpAny_nsSet1 (s:={ s with toks:=s.toks+1 }) I.ns λh' hn2 hs2=>?_
 obtain ⟨oD,esD,epD,hoD,hdD,hcD⟩:=hn2.count (PySem.Within.cons name v hw)
 refine wpAny_bind (wpAny_lookBehind hoD (by rw [hdD];exact pastItsLine_dict (C0 hcD (by rw [v0];lia))) ?_)
 exact wpAny_pure (h _ ⟨(hs2.2 _ (Ne.symm I.ne)).trans I.obj,hn2,I.ne⟩ hs2)

theorem Up {R:Result->Shared->Prop} {vs:List Value} {kw:List (Str×Value)} (X:K.In s.heap) (hm:d8 K C=true)
  (hi:G0 K (.ref C) "__init__"=some (some (.ref f))) (hf:PySem.W.typeIn K (.ref f)=some (.type "function"))
  (h:codeAny (model prog w) (A.under (.builtin "type.__call__" ⟨.ref C::vs,kw⟩)) (.call (.ref f) ⟨.ref (s.heap.objs.size+1)::vs,kw⟩) (PySem.W.InitBack (s.heap.objs.size+1) R)
   { s with heap:=(s.heap.push V4).push (g5 C s.heap.objs.size) }) :
  codeAny (model prog w) A (.call (.ref C) ⟨vs,kw⟩) R s:=by
 obtain ⟨hh,g,d,t,os⟩:=s
 exact PySem.W.make_core (PySem.W.makes_of X hm) (PySem.W.looks_findIn X hi) (λself=>PySem.W.bind_fn X self hf) (.inl rfl) h
end

def AM (f:Str) (v:V):List (Str×V)->List (Str×V)
 |[]=>[(f,v)]
 | (g,x)::r=>if g=f then (g,v)::r else (g,x)::AM f v r
theorem Cq (f g:Str) (v:V):∀ fs:List (Str×V),(AM f v fs).lookup g=if g=f then some v else fs.lookup g
 |[]=>by
  show W3 g [(f,v)]=_
  by_cases h:g=f
  ·have hb:(g == f)=true:=beq_iff_eq.mpr h
   simp only [W3,hb,if_pos h]
  ·have hb:(g == f)=false:=beq_eq_false_iff_ne.mpr h
   simp only [W3,hb,if_neg h]
 | (k,x)::r=>by
  have ih:=Cq f g v r
  rw [show AM f v ((k,x)::r)=(if k=f then (k,v)::r else (k,x)::AM f v r) from rfl]
  by_cases hk:k=f
  ·rw [if_pos hk]
   by_cases h:g=k
   ·have hb:(g == k)=true:=beq_iff_eq.mpr h
    simp only [W3,hb,if_pos (h.trans hk)]
   ·have hb:(g == k)=false:=beq_eq_false_iff_ne.mpr h
    simp only [W3,hb,if_neg (λe:g=f=>h (e.trans hk.symm))]
  ·rw [if_neg hk]
   by_cases h:g=k
   ·have hb:(g == k)=true:=beq_iff_eq.mpr h
    simp only [W3,hb,if_neg (λe:g=f=>hk (h.symm.trans e))]
   ·have hb:(g == k)=false:=beq_eq_false_iff_ne.mpr h
    simp only [W3,hb]
    exact ih
theorem EZ (f:Str) (v:V):∀ fs:List (Str×V),f∈(AM f v fs).map (·.1)/\∀ g,g∈fs.map (·.1)->g∈(AM f v fs).map (·.1)
 |[]=>⟨by simp [AM],λg h=>by simp at h⟩
 | (k,x)::r=>by
  obtain ⟨i1,i2⟩:=EZ f v r
  rw [show AM f v ((k,x)::r)=(if k=f then (k,v)::r else (k,x)::AM f v r) from rfl]
  by_cases hk:k=f
  ·rw [if_pos hk]
   subst hk
   exact ⟨by simp,λg h=>by simpa using h⟩
  ·rw [if_neg hk]
   refine ⟨?_,λg h=>?_⟩
   ·rw [j2]
    exact N0 _ i1
   ·rw [j2] at h |-
    rcases S0.mp h with e | e
    ·exact S0.mpr (.inl e)
    ·exact N0 _ (i2 g e)
theorem Gb (f:Str) (v:V):∀ fs:List (Str×V),(AM f v fs).length<=fs.length+1
 |[]=>by simp [AM]
 | (k,x)::r=>by
  have ih:=Gb f v r
  rw [show AM f v ((k,x)::r)=(if k=f then (k,v)::r else (k,x)::AM f v r) from rfl]
  by_cases hk:k=f
  ·rw [if_pos hk,v0,v0];lia
  ·rw [if_neg hk,v0,v0];lia

theorem DK.some_of {v:V} {o:Option Value} (r:DK (some v) o):∃ u,o=some u/\Ba v u:=by
 cases o with
 |none=>exact (show False from r).elim
 |some u=>exact ⟨u,rfl,r⟩
theorem DK.none_of {o:Option Value} (r:DK none o):o=none:=by
 cases o with
 |none=>rfl
 |some u=>exact (show False from r).elim
theorem LJ {v:V} {u:Value} (r:Ba v u):PySem.W.handedIn u=true:=by
 cases v with
 |non=>cases (show u=Value.none from r);rfl
 |bl b=>cases (show u=Value.bool b from r);rfl
 |int i=>obtain ⟨t,e⟩:=(show ∃ t,u=Value.int i t from r);cases e;rfl
 |str x=>obtain ⟨t,e⟩:=(show ∃ t,u=Value.str x t from r);cases e;rfl
 |byt b=>obtain ⟨t,e⟩:=(show ∃ t,u=Value.bytes b t from r);cases e;rfl
 |flt b=>obtain ⟨t,e⟩:=(show ∃ t,u=Value.float b t from r);cases e;rfl
 |ref a=>cases (show u=Value.ref a from r);rfl
 |ty n=>cases (show u=Value.type n from r);rfl

section
variable {P:Program} {w:World} {H H':Hp} {h h':Heap} {a C dx:Addr} {fs fs':List (Str×V)}
theorem JN (hok:GX P w H h) (e:H a=some (.ins C dx fs)):∃ mA,Qa h a dx C mA/\(∀ f,DK (fs.lookup f) (mA f))/\PySem.Within mA (fs.map (·.1))/\fs.length<=1000/\H dx=some (.own a):=by
 obtain ⟨d,z,ne,ob,mA,n,r,q⟩:=(show Bj P w H h a (.ins C dx fs) from hok a _ e)
 exact ⟨mA,⟨ob,n,ne⟩,r,q,z,d⟩
end

structure FN (K:A0) (C:Addr):Prop where
 pg:Z6 K C Str.empty=true
 hd:T4 K C=true
 po:M8 K C=true
 sa:G0 K (.ref C) "__setattr__"=some (some (.builtin "object.__setattr__"))
theorem FN.get {K:A0} {C:Addr} (c:FN K C) (f:Str):Z6 K C f=true:=c.pg
def Aq (K:A0) (C:Addr) (f:Str):Prop:=G0 K (.ref C) f=some none
theorem Aq.taker {K:A0} {C:Addr} {f:Str} (n:Aq K C f):Q4 K C f=some none:=by
 unfold Q4
 rw [show G0 K (.ref C) f=some none from n]
 rfl
structure Ss (K:A0) (C:Addr) (m:Str) (f:Addr):Prop where
 at_:G0 K (.ref C) m=some (some (.ref f))
 fn:S5 K (.ref f)=true
 kp:T2 K (.ref f)=true

section
variable {X:Cx} {pins:List (Addr×Obj)} {σ:St} {H:Hp} {s:Shared} {a C dx:Addr} {fs:List (Str×V)} {f:Str} {v:V} {A:Around} {E:Value->Shared->Prop}

theorem Pt {b:Bool} {Q:Value->Shared->Prop} (I:Ax X pins σ H s) (e:H a=some (.ins C dx fs)) (c:FN X.K C) (n:Aq X.K C f) (l:fs.lookup f=some v)
  (h:∀ u s',Ax X pins σ H s'->Ba v u->Q u s'):wpAny (model X.prog X.w) A (getAttr (.ref a) f b) Q E s:=by
 obtain ⟨mA,O,r,_,_,_⟩:=JN I.hok e
 obtain ⟨u,hu,ru⟩:=DK.some_of (v:=v) (o:=mA f) (by rw [<- l];exact r f)
 exact get_map I.kIn O (c.get f) c.hd n hu (LJ ru) (h u _ (I.tok _) ru)

theorem Kw {m:Str} {g:Addr} {pl:Sem Bool} {Q:Value×List Value->Shared->Prop} (I:Ax X pins σ H s) (e:H a=some (.ins C dx fs)) (c:FN X.K C) (k:Ss X.K C m g) (l:fs.lookup m=none)
  (h:Q (.ref g,[.ref a]) s):wpAny (model X.prog X.w) A (getMethod (.ref a) m pl) Q E s:=by
 obtain ⟨mA,O,r,_,_,_⟩:=JN I.hok e
 have hn:mA m=none:=DK.none_of (by rw [<- l];exact r m)
 exact UL I.kIn O (c.get m) k.at_ k.fn hn h

theorem OR {y:V} {u:Value} {Q:Unit->Shared->Prop} (I:Ax X pins σ H s) (e:H a=some (.ins C dx fs)) (c:FN X.K C) (n:Aq X.K C f) (hl:fs.length<1000) (ry:Ba y u)
  (h:∀ s',Ax X pins σ (upd H a (.ins C dx (AM f y fs))) s'->Q () s'):wpAny (model X.prog X.w) A (setAttr (.ref a) f u) Q E s:=by
 obtain ⟨mA,O,r,wi,_,ho⟩:=JN I.hok e
 have hz:(fs.map (·.1)).length<=sizeLine:=by rw [J0,sizeLine_eq];lia
 refine set_map I.kIn O c.sa c.po n.taker c.hd wi hz λh' O' sb=>h _ ?_
 have hd:∃ o,h'.get? dx=some o:=let ⟨o,_,_,e',_⟩:=O'.ns;⟨o,e'⟩
 refine I.write (x:=a) (e:=dx) (by rw [e];exact True.intro) (.inr ho) (λb q hb z=>(sb.2 b hb).trans z) hd ?_
 refine ⟨by rw [Ah O.ne];exact ho,?_,O.ne,O'.obj,_,O'.ns,λg=>?_,λg hg=>?_⟩
 ·have:=Gb f y fs;lia
 ·show DK ((AM f y fs).lookup g) (if g=f then some u else mA g)
  rw [Cq]
  by_cases q:g=f
  ·rw [if_pos q,if_pos q];exact ry
  ·rw [if_neg q,if_neg q];exact r g
 ·by_cases q:g=f
  ·rw [q];exact (EZ f y fs).1
  ·refine (EZ f y fs).2 g (wi g λz=>hg ?_)
   show (if g=f then some u else mA g)=none
   rw [if_neg q];exact z

theorem Ax.made (I:Ax X pins σ H s):Ax X pins σ (upd (upd H s.heap.objs.size (.own (s.heap.objs.size+1))) (s.heap.objs.size+1) (.ins C s.heap.objs.size []))
  { s with heap:=(s.heap.push V4).push (g5 C s.heap.objs.size) }:=by
 have e1:(s.heap.push V4).get? s.heap.objs.size=some V4:=Heap.get?_push_size s.heap rfl
 have e2:((s.heap.push V4).push (g5 C s.heap.objs.size)).get? (s.heap.objs.size+1)=some (g5 C s.heap.objs.size):=by
  have:=Heap.get?_push_size (s.heap.push V4) (o:=g5 C s.heap.objs.size) rfl
  rwa [Heap.size_push] at this
 have e3:(s.heap.push V4).Ns s.heap.objs.size (λ_=>none):=⟨V4,#[],_,e1,rfl,(λe he=>absurd he (by simp)),λ_=>rfl⟩
 have I1:=I.laid (a:=s.heap.objs.size) (o:=.own (s.heap.objs.size+1)) (h':=s.heap.push V4) (t':=s.toks) (λb u q=>Heap.get?_push_of_some _ q) (P0 _) ⟨_,e1⟩
 refine I1.laid (a:=s.heap.objs.size+1) (o:=.ins C s.heap.objs.size []) (t':=s.toks) (λb u q=>Heap.get?_push_of_some _ q) (B9 (Heap.size_push _ _)) ?_
 have ne:s.heap.objs.size≠s.heap.objs.size+1:=j1 (U7 _)
 refine ⟨by rw [Ah ne,Ab],N1 _,ne,e2,λ_=>none,(Heap.Ns1.of_empty e3).at λo q=>Heap.get?_push_of_some _ q,λ_=>True.intro,λy hy=>absurd rfl hy⟩

theorem Ra {prog:Program} {w:World} {env:Env} {e:Expr} {f:Str} {pos:Pos} {s:Shared} {Q:Value->Shared->Prop} (hb:attributeBase e f env (eval e env)=eval e env)
  (h:wpAny (model prog w) A (eval e env) (λo s₁=>wpAny (model prog w) A (getAttr o f true) Q E s₁) E s):wpAny (model prog w) A (eval (.Attribute e f pos) env) Q E s :=
 Attribute_any_ h (by rw [arm_eval_Attribute,hb])
end

def Rq (K:A0) (ta:TE) (f:Str):TE:=λσ H Q=>ta σ H λx H1=>∃ a C dx fs v,x=.ref a/\H1 a=some (.ins C dx fs)/\FN K C/\Aq K C f/\fs.lookup f=some v/\Q v H1
def sFld (K:A0) (ta tv:TE) (f:Str):TS:=λD σ H=>tv σ H λy H1=>ta σ H1 λx H2=>∃ a C dx fs,x=.ref a/\H2 a=some (.ins C dx fs)/\FN K C/\Aq K C f/\fs.length<1000 /\
 D.nx σ (upd H2 a (.ins C dx (AM f y fs)))
section
variable {X:Cx} {o e value:Expr} {f:Str} {pos pos' tpos:Pos} {ta tv:TE}
theorem Ap (he:PE X e ta) (hb:attributeBase e f X.env (eval e X.env)=eval e X.env):PE X (.Attribute e f pos) (Rq X.K ta f):=by
 intro pins s σ H Q I h
 refine Ra hb (pB (he pins s σ H _ I h) λu s1 x H1 I1 rx z=>?_)
 obtain ⟨a,C,dx,fs,v,rfl,ea,c,n,l,q⟩:=z
 obtain rfl:u=Value.ref a:=rx
 exact Pt I1 ea c n l λu' s2 I2 ru=>⟨v,H1,I2,ru,q⟩
theorem Aw (ha:PE X o ta) (hv:PE X value tv) (hs:swapsWith value (some (.Attribute o f pos')) pos.line X.env=pure false):PS X (.Assign [.Attribute o f pos'] value pos) (sFld X.K ta tv f):=by
 intro pins s σ H D I h
 refine plainObj_wpAny_Assign_Attribute (pB (hv pins s σ H _ I h) λu s1 y H1 I1 ry q=>pB (ha pins s1 σ H1 _ I1 q) λov s2 x H2 I2 rx z=>?_) hs
 obtain ⟨a,C,dx,fs,rfl,ea,c,n,l,q2⟩:=z
 obtain rfl:ov=Value.ref a:=rx
 exact OR I2 ea c n l ry λs3 I3=>⟨σ,_,I3,q2⟩
end

section
variable {X:Cx} {pins:List (Addr×Obj)} {σ:St} {H:Hp} {s:Shared} {A:Around} {E:Value->Shared->Prop} {Q:Value->Shared->Prop} {c:Value} {b:Bool}
inductive GW (K:A0) (H:Hp):V->Value->Prop where
 |non:GW K H .non (.type "NoneType")
 |bl (x:Bool):GW K H (.bl x) (.type "bool")
 |int (i:Int):GW K H (.int i) (.type "int")
 |str (x:Str):GW K H (.str x) (.type "str")
 |flt (x:UInt64):GW K H (.flt x) (.type "float")
 |lst {a:Addr} {xs:List V} (e:H a=some (.lst xs)):GW K H (.ref a) (.type "list")
 |frz {a:Addr} {o:Obj} {xs:List V} (e:H a=some (.frz o (.lst xs))):GW K H (.ref a) (.type "list")
 |tup {a:Addr} {xs:List V} (e:H a=some (.tup xs)):GW K H (.ref a) (.type "tuple")
 |dK {a:Addr} {kvs:List (Bw×V)} (e:H a=some (.dK kvs)):GW K H (.ref a) (.type "dict")
 |dT {a:Addr} {kvs:List (List Bw×V)} (e:H a=some (.dT kvs)):GW K H (.ref a) (.type "dict")
 |ins {a C dx:Addr} {fs:List (Str×V)} (e:H a=some (.ins C dx fs)) (cl:FN K C) (ha:G0 K (.ref C) "__class__"=some (some (.builtin "object.__class__")))
   (hn:L8 K (.builtin "object.__class__") "__get__"=some (some (.builtin "getset_descriptor.__get__"))) (htk:PySem.W.takesIn K (.builtin "object.__class__")=some true)
   (hm:K4 K C (.type "object")=some true):GW K H (.ref a) (.ref C)
theorem RV {x:V} {u t:Value} (I:Ax X pins σ H s) (rx:Ba x u) (ty:GW X.K H x t) (e:K6 X.K t c=some b) (h:∀ tk,Q (.bool b) { s with toks:=tk }) :
  wpAny (model X.prog X.w) A (call (.builtin "isinstance") [u,c]) Q E s:=by
 cases ty with
 |non=>cases (show u=Value.none from rx);exact S4 PySem.W.kitx_none I.kIn True.intro e (λz=>nomatch z) h
 |bl y=>cases (show u=Value.bool y from rx);exact S4 PySem.W.kitx_bool I.kIn True.intro e (λz=>nomatch z) h
 |int i=>obtain ⟨t,q⟩:=(show ∃ t,u=Value.int i t from rx);cases q;exact S4 PySem.W.kitx_int I.kIn True.intro e (λz=>nomatch z) h
 |str y=>obtain ⟨t,q⟩:=(show ∃ t,u=Value.str y t from rx);cases q;exact S4 PySem.W.kitx_str I.kIn True.intro e (λz=>nomatch z) h
 |flt y=>obtain ⟨t,q⟩:=(show ∃ t,u=Value.float y t from rx);cases q;exact S4 PySem.W.kitx_float I.kIn True.intro e (λz=>nomatch z) h
 |@lst a xs ea =>
  cases (show u=Value.ref a from rx)
  obtain ⟨_,_,n,_,h1⟩:=(show Bj X.prog X.w H s.heap a (.lst xs) from I.hok a _ ea)
  exact S4 PySem.W.kitx_list I.kIn ⟨_,h1,rfl⟩ e (λz=>nomatch z) h
 |@frz a ob xs ea =>
  cases (show u=Value.ref a from rx)
  obtain ⟨_,_,_,n,_,h1⟩:=(show Bj X.prog X.w H s.heap a (.frz ob (.lst xs)) from I.hok a _ ea)
  exact S4 PySem.W.kitx_list I.kIn ⟨_,h1,rfl⟩ e (λz=>nomatch z) h
 |@tup a xs ea =>
  cases (show u=Value.ref a from rx)
  obtain ⟨_,_,_,p⟩:=(show Bj X.prog X.w H s.heap a (.tup xs) from I.hok a _ ea)
  obtain ⟨o,h1,h2,_⟩:=p
  exact S4 PySem.W.kitx_tuple I.kIn ⟨o,h1,h2⟩ e (λz=>nomatch z) h
 |@dK a kvs ea =>
  cases (show u=Value.ref a from rx)
  obtain ⟨_,_,vs,_,p⟩:=(show Bj X.prog X.w H s.heap a (.dK kvs) from I.hok a _ ea)
  obtain ⟨o,es,ep,h1,h2,_⟩:=p
  exact S4 PySem.W.kitx_dict I.kIn ⟨o,h1,h2.1⟩ e (λz=>nomatch z) h
 |@dT a kvs ea =>
  cases (show u=Value.ref a from rx)
  obtain ⟨_,_,xs,_,o,es,ep,h1,h2,_⟩:=(show Bj X.prog X.w H s.heap a (.dT kvs) from I.hok a _ ea)
  exact S4 PySem.W.kitx_dict I.kIn ⟨o,h1,h2.1⟩ e (λz=>nomatch z) h
 |@ins a C dx fs ea cl ha hn htk hm =>
  cases (show u=Value.ref a from rx)
  obtain ⟨mA,O,_⟩:=JN I.hok ea
  obtain ⟨od,J,_⟩:=O.look
  exact S4 (PySem.W.kitx_own (cl.get _) cl.hd ha hn htk hm) I.kIn J e (λz=>nomatch z) h
end

structure BZ (k:Nat) (A:Around):Prop where
 hd:A.handled=none
 dp:A.depth+3*k+5<recursionLimit
 un:A.units+16*k+200<cLine
theorem BZ.mono {j k:Nat} {A:Around} (r:BZ k A) (h:j<=k):BZ j A:=⟨r.hd,by have:=r.dp;lia,by have:=r.un;lia⟩
theorem BZ.deeper {k:Nat} {A:Around} (r:BZ (k+1) A) (env:Env):BZ k (A.deeper env) :=
 ⟨r.hd,by have:=r.dp;show A.depth+1+3*k+5<_;lia,by have:=r.un;show A.units+3+16*k+200<_;lia⟩
theorem Pm {A:Around} {C:Addr} {us:List Value} {kw:List (Str×Value)}:(A.under (.builtin "type.__call__" ⟨.ref C::us,kw⟩)).depth=A.depth+1:=by
 first | rfl | simp [Around.under,Code.weight,Code.isCreation,Code.isGuard,Code.isCaller,Code.frames,Code.isFrame,guardIds]
theorem Pl {A:Around} {C:Addr} {us:List Value} {kw:List (Str×Value)}:(A.under (.builtin "type.__call__" ⟨.ref C::us,kw⟩)).units=A.units+1:=by
 first | rfl | simp [Around.under,Code.cUnits,Code.frames,Code.isFrame]
theorem BZ.make {k:Nat} {A:Around} (r:BZ (k+1) A) (C:Addr) (us:List Value) (kw:List (Str×Value)):BZ k (A.under (.builtin "type.__call__" ⟨.ref C::us,kw⟩)) :=
 ⟨r.hd,by have:=r.dp;rw [Pm];lia,by have:=r.un;rw [Pl];lia⟩
theorem BZ.depth {k:Nat} {A:Around} (r:BZ k A):A.depth<recursionLimit:=by have:=r.dp;lia
theorem BZ.units {k:Nat} {A:Around} (r:BZ k A):A.units+64<cLine:=by have:=r.un;lia
def tNil:TA:=λ_ H Q=>Q [] H
def tCons (ta:TE) (tr:TA):TA:=λσ H Q=>ta σ H λx H1=>tr σ H1 λxs H2=>Q (x::xs) H2
section
variable {X:Cx} {e:Expr} {es:List Expr} {te:TE} {t:TA} {pos:Pos}
theorem Ac:PA X [] tNil:=λ_ _ _ _ H Q I h=>Calls.spliced_nil ⟨[],H,I,.nil,h⟩
theorem Aa (ha:PE X e te) (hr:PA X es t) (hs:starEach (e::es) X.env=(false,eval e X.env)::starEach es X.env:=by rfl):PA X (e::es) (tCons te t):=by
 intro pos pins s σ H Q I h
 rw [hs]
 show wpAny _ _ (spliced ((false,eval e X.env)::backTo pos (starEach es X.env))) _ _ s
 refine Calls.spliced_cons (pB (ha pins s σ H _ I h) λu s1 x H1 I1 r1 q1=>?_)
 exact pL (hr pos pins s1 σ H1 _ I1 q1) λus s2 xs H2 I2 r2 q2=>⟨x::xs,H2,I2,.cons r1 r2,q2⟩

def tTup (t:TA):TE:=λσ H Q=>t σ H λxs H1=>xs.length<=sizeLine/\∀ p,H1 p=none->Q (.ref p) (upd H1 p (.tup xs))
def tLst (t:TA):TE:=λσ H Q=>t σ H λxs H1=>xs.length<=sizeLine/\∀ p,H1 p=none->Q (.ref p) (upd H1 p (.lst xs))
theorem Cm {x1} (h:PA X es t):PE X (.Tuple es x1 pos) (tTup t):=by
 intro pins s σ H Q I hq
 refine wpAny_Tuple_spliced (pL (h pos pins s σ H _ I hq) λus s1 xs H1 I1 r ⟨z,q⟩=>⟨by rw [<- r.length];exact z,?_⟩)
 have hf:H1 s1.heap.objs.size=none:=I1.hok.fresh (P0 _)
 refine ⟨.ref s1.heap.objs.size,upd H1 s1.heap.objs.size (.tup xs),I1.laid (t':=s1.toks) (λb u e=>Heap.get?_push_of_some _ e) (P0 _) ?_,rfl,q _ hf⟩
 exact ⟨z,us,r,⟨_,Heap.get?_push_size _ rfl,rfl,_,rfl⟩⟩
theorem Ao (h:PA X es t):PE X (.List es pos) (tLst t):=by
 intro pins s σ H Q I hq
 refine wpAny_List_spliced (pL (h pos pins s σ H _ I hq) λus s1 xs H1 I1 r ⟨z,q⟩=>⟨by rw [<- r.length];exact z,?_⟩)
 have hf:H1 s1.heap.objs.size=none:=I1.hok.fresh (P0 _)
 refine ⟨.ref s1.heap.objs.size,upd H1 s1.heap.objs.size (.lst xs),I1.laid (t':=s1.toks) (λb u e=>Heap.get?_push_of_some _ e) (P0 _) ?_,rfl,q _ hf⟩
 exact ⟨z,us,0,r,Heap.get?_push_size _ rfl⟩
end

abbrev Sp:=List V->Hp->VK->XK->Prop
abbrev LX:=List Env->Hp->Shared->XK->Value->Shared->Prop

structure Qd (P:Program) (w:World) (K:A0) (mg:Str->Option Value) (base:Heap) (A:Around) (outer:List Env) (s:Shared) (H:Hp):Prop where
 frames:A.frames=some outer
 mod:Mod K mg base
 bs:∀ b o,base.get? b=some o->s.heap.get? b=some o/\H b=none
 bsz:base.objs.size<=s.heap.objs.size
 funs:s.heap.FunFrames base outer
 frf:∀ b∈HC outer,H b=none
 hok:GX P w H s.heap
 bare:AllBare s.gens
def CE (outer:List Env) (P:Program) (w:World) (H:Hp) (s:Shared) (Q:VK) (u:Value) (s':Shared):Prop :=
 ∃ v H',s'.os=s.os/\AllBare s'.gens/\Un (HC outer) [] H H' s.heap s'.heap/\GX P w H' s'.heap/\Ba v u/\Q v H'
def CR (CX:LX) (outer:List Env) (P:Program) (w:World) (H:Hp) (s:Shared) (Q:VK) (E:XK) (r:Result) (s':Shared):Prop :=
 match r with
 |.ok (.ret u)=>CE outer P w H s Q u s'
 |.ok _=>False
 |.error e=>CX outer H s E e s'
structure AS (P:Program) (w:World) (K:A0) (mg:Str->Option Value) (base:Heap) (CX:LX) (k:Nat) (f:Addr) (fd:FuncData) (ps:List Str) (sp:Sp):Prop where
 len:∀ vs H Q E,sp vs H Q E->vs.length=ps.length
 run:∀ (A:Around) (outer:List Env) (s:Shared) (H:Hp) (args:Args) (us:List Value) (vs:List V) (Q:VK) (E:XK),BZ k A->Qd P w K mg base A outer s H->BindsTo s fd args (ps.zip us)->AR vs us->sp vs H Q E ->
  codeAny (model P w) A (.call (.ref f) args) (CR CX outer P w H s Q E) s
theorem Qd.make {P:Program} {w:World} {K:A0} {mg:Str->Option Value} {base:Heap} {A:Around} {outer:List Env} {s:Shared} {H:Hp} (e:Qd P w K mg base A outer s H) (C:Addr) (us:List Value) (kw:List (Str×Value)) :
  Qd P w K mg base (A.under (.builtin "type.__call__" ⟨.ref C::us,kw⟩)) outer s H:=⟨by first | exact e.frames | (simpa [Around.under,Code.envs,Code.isFrame,pushEnvs] using e.frames),e.mod,e.bs,e.bsz,e.funs,e.frf,e.hok,e.bare⟩
section
variable {X:Cx} {pins:List (Addr×Obj)} {σ:St} {H:Hp} {s s':Shared}
theorem Ax.env0 (I:Ax X pins σ H s):Qd X.prog X.w X.K X.mg X.base X.A X.stack s H :=
 ⟨I.ok.frames,I.ok.mod,I.bs,C0 I.ok.bsz I.sz,I.stack,I.stkFree,I.hok,I.bare⟩
theorem Ax.after {Q:VK} {u:Value} (I:Ax X pins σ H s) (h:CE X.stack X.prog X.w H s Q u s'):EP X pins σ Q u s':=by
 obtain ⟨v,H',os,bare,un,hok,r,q⟩:=h
 obtain ⟨hh,g,d,t,os'⟩:=s'
 obtain rfl:os'=s.os:=os
 exact ⟨v,H',I.call (h':=hh) (g':=g) (d':=d) (t':=t) (ch:=[]) un hok bare (λb z=>absurd z (by simp)),r,q⟩
end

def SS (sp:Sp) (dvs:List V) (E:XK) (t:TA):TE:=λσ H Q=>t σ H λvs H1=>sp (vs++dvs) H1 Q E
def Ql (C:Addr) (m:Str) (sp:Sp) (dvs:List V) (E:XK) (ta:TE) (t:TA):TE:=λσ H Q=>ta σ H λx H1=>∃ a dx fs,x=.ref a/\H1 a=some (.ins C dx fs)/\fs.lookup m=none /\
 t σ H1 λvs H2=>sp (x::(vs++dvs)) H2 Q E
def Qm (C:Addr) (sp:Sp) (dvs:List V) (E:XK) (t:TA):TE:=λσ H Q=>t σ H λvs H1=>∀ x dx,H1 x=none->H1 dx=none->dx≠x ->
 sp (.ref x::(vs++dvs)) (upd (upd H1 dx (.own x)) x (.ins C dx [])) (λv H2=>v=.non/\Q (.ref x) H2) E

def Ci (K:A0) (fd:FuncData) (ps:List Str) (ds:List Value):Prop :=
 ∀ (s:Shared) (us:List Value),K.In s.heap->(us++ds).length=ps.length->BindsTo s fd ⟨us,[]⟩ (ps.zip (us++ds))
theorem Ci.all {K:A0} {fd:FuncData} {ps:List Str} (h:∀ us:List Value,us.length=ps.length->bindArgs fd ⟨us,[]⟩=pure (ps.zip us)):Ci K fd ps []:=λs us _ hl=>by
 rw [P3] at hl |-
 exact .of_eq (h us hl)

def Em (CX:LX) (X:Cx) (E:XK):Prop:=∀ (pins:List (Addr×Obj)) (σ:St) (H:Hp) (s:Shared) (e:Value) (s':Shared),Ax X pins σ H s->CX X.stack H s E e s'->X.xe e s'

section
variable {X:Cx} {CX:LX} {k:Nat} {f C:Addr} {fd:FuncData} {ps:List Str} {sp:Sp} {dvs:List V} {ds:List Value} {E:XK} {x m:Str} {p pos apos:Pos} {e o:Expr} {es:List Expr} {ta:TE} {t:TA}

theorem Mp {pins:List (Addr×Obj)} {σ:St} {H:Hp} {s:Shared} {Q:VK} {us:List Value} {vs:List V} (F:AS X.prog X.w X.K X.mg X.base CX k f fd ps sp) (hr:BZ k X.A) (hb:Ci X.K fd ps ds) (hd:AR dvs ds) (hx:Em CX X E)
  (I:Ax X pins σ H s) (r:AR vs us) (h:sp (vs++dvs) H Q E):wpAny (model X.prog X.w) X.A (call (.ref f) us) (EP X pins σ Q) X.xe s:=by
 have r2:AR (vs++dvs) (us++ds):=r.append hd
 have hl:(us++ds).length=ps.length:=by rw [<- r2.length];exact F.len _ _ _ _ h
 refine wpAny_call (codeAny_mono (F.run X.A X.stack s H ⟨us,[]⟩ (us++ds) (vs++dvs) Q E hr I.env0 (hb s us I.kIn hl) r2 h) λr s' hq=>?_)
 cases r with
 |error e=>exact hx pins σ H s e s' I hq
 |ok fl =>
  cases fl with
  |ret u=>exact I.after hq
  |next=>exact False.elim hq
  |brk=>exact False.elim hq
  |cont=>exact False.elim hq

theorem Gr (F:AS X.prog X.w X.K X.mg X.base CX k f fd ps sp) (hr:BZ k X.A) (hg:Gl X x) (hm:X.mg x=some (.ref f)) (hk:T2 X.K (.ref f)=true) (hb:Ci X.K fd ps ds) (hd:AR dvs ds) (hx:Em CX X E)
  (ha:PA X (e::es) t) (hdb:(x == ("__debug__":Str))=false:=by kd_p) (he:starEach (e::es) X.env=(false,eval e X.env)::starEach es X.env:=by rfl) (hpl:(backTo pos (starEach es X.env)).any (·.1)=false:=by rfl) :
  PE X (.Call (.Name x p) (e::es) [] pos) (SS sp dvs E t):=by
 intro pins s σ H Q I h
 refine wpAny_Call_Name_kw (Gy I hg hm ?_ hdb)
 refine z5 (h₀:=X.base) I.ok.mod.kin hk (pL (ha pos pins s σ H _ I h) λus s1 vs H1 I1 r q=>⟨I1.kIn,?_⟩) he hpl
 exact Mp F hr hb hd hx I1 r q
theorem Bi {pl:Sem Bool} (he:PE X o ta) (c:FN X.K C) (hm:Ss X.K C m f) (F:AS X.prog X.w X.K X.mg X.base CX k f fd ps sp) (hr:BZ k X.A) (hb:Ci X.K fd ps ds) (hd:AR dvs ds) (hx:Em CX X E) (ha:PA X (e::es) t)
  (hst:starEach (e::es) X.env=(false,eval e X.env)::starEach es X.env:=by rfl) (hpl:(backTo pos (starEach es X.env)).any (·.1)=false:=by rfl)
  (ht:eval (.Call (.Attribute o m apos) (e::es) [] pos) X.env=(do
   let ov <- eval o X.env
   standAt apos.atName
   let (f,first) <- holding [ov] (getMethod ov m pl)
   callWith pos f first (backTo pos (starEach (e::es) X.env)) (backToKw pos (keywordEach [] X.env))):=by rfl) :
  PE X (.Call (.Attribute o m apos) (e::es) [] pos) (Ql C m sp dvs E ta t):=by
 intro pins s σ H Q I h
 refine E9 (pl:=pl) (pB (he pins s σ H _ I h) λu s1 x H1 I1 rx z=>?_) ht
 obtain ⟨a,dx,fs,rfl,ea,l,q⟩:=z
 obtain rfl:u=Value.ref a:=rx
 refine Kw I1 ea c hm l ?_
 refine z5 (first:=[.ref a]) (h₀:=X.base) I.ok.mod.kin hm.kp (pL (ha pos pins s1 σ H1 _ I1 q) λus s2 vs H2 I2 r q2=>⟨I2.kIn,?_⟩) hst hpl
 exact Mp (us:=.ref a::us) (vs:=.ref a::vs) F hr hb hd hx I2 (.cons rfl r) q2
theorem Bp {pl:Sem Bool} (he:PE X o ta) (c:FN X.K C) (hm:Ss X.K C m f) (F:AS X.prog X.w X.K X.mg X.base CX k f fd ps sp) (hr:BZ k X.A) (hb:Ci X.K fd ps ds) (hd:AR dvs ds) (hx:Em CX X E)
  (ht:eval (.Call (.Attribute o m apos) [] [] pos) X.env=(do
   let ov <- eval o X.env
   standAt apos.atName
   let (f,first) <- holding [ov] (getMethod ov m pl)
   callWith pos f first (backTo pos (starEach [] X.env)) (backToKw pos (keywordEach [] X.env))):=by rfl) :
  PE X (.Call (.Attribute o m apos) [] [] pos) (Ql C m sp dvs E ta tNil):=by
 intro pins s σ H Q I h
 refine E9 (pl:=pl) (pB (he pins s σ H _ I h) λu s1 x H1 I1 rx z=>?_) ht
 obtain ⟨a,dx,fs,rfl,ea,l,q⟩:=z
 obtain rfl:u=Value.ref a:=rx
 refine Kw I1 ea c hm l ?_
 exact PySem.W.callWith_K0 (first:=[.ref a]) I1.kIn hm.kp (Mp (us:=[.ref a]) (vs:=[.ref a]) F hr hb hd hx I1 (.cons rfl .nil) q)

structure Mk (K:A0) (C f:Addr):Prop where
 makes:d8 K C=true
 init:G0 K (.ref C) "__init__"=some (some (.ref f))
 fn:S5 K (.ref f)=true
 kp:T2 K (.ref C)=true

theorem Ny {pins:List (Addr×Obj)} {σ:St} {H:Hp} {s:Shared} {Q:VK} {us:List Value} {vs:List V} (M:Mk X.K C f) (F:AS X.prog X.w X.K X.mg X.base CX k f fd ps sp) (hr:BZ (k+1) X.A) (hb:Ci X.K fd ps ds) (hd:AR dvs ds)
  (hx:Em CX X E) (I:Ax X pins σ H s) (r:AR vs us)
  (h:∀ x dx,H x=none->H dx=none->dx≠x->sp (.ref x::(vs++dvs)) (upd (upd H dx (.own x)) x (.ins C dx [])) (λv H2=>v=.non/\Q (.ref x) H2) E) :
  wpAny (model X.prog X.w) X.A (call (.ref C) us) (EP X pins σ Q) X.xe s:=by
 have hq:=h (s.heap.objs.size+1) s.heap.objs.size (I.hok.fresh (U5 _)) (I.hok.fresh (P0 _)) (j1 (U7 _))
 have I2:=Ax.made (C:=C) I
 have r2:AR (V.ref (s.heap.objs.size+1)::(vs++dvs)) (Value.ref (s.heap.objs.size+1)::(us++ds)):=.cons rfl (r.append hd)
 have hl:(Value.ref (s.heap.objs.size+1)::us++ds).length=ps.length:=by
  have e:=r2.length
  rw [F.len _ _ _ _ hq] at e
  exact e.symm
 refine wpAny_call (Up (f:=f) I.kIn M.makes M.init (beq_iff_eq.mp M.fn) (codeAny_mono (F.run _ X.stack _ _ ⟨Value.ref (s.heap.objs.size+1)::us,[]⟩ (Value.ref (s.heap.objs.size+1)::(us++ds)) _ _ E (hr.make C us [])
  (I2.env0.make C us []) (hb _ (Value.ref (s.heap.objs.size+1)::us) I2.kIn hl) r2 hq) λr s' hq'=>?_))
 cases r with
 |error e=>exact hx pins σ _ _ e s' I2 hq'
 |ok fl =>
  cases fl with
  |ret u =>
   obtain ⟨v,H',I3,rv,ev,q3⟩:=I2.after hq'
   subst ev
   exact ⟨rv,⟨V.ref (s.heap.objs.size+1),H',I3,rfl,q3⟩⟩
  |next=>exact False.elim hq'
  |brk=>exact False.elim hq'
  |cont=>exact False.elim hq'
theorem EA (M:Mk X.K C f) (F:AS X.prog X.w X.K X.mg X.base CX k f fd ps sp) (hr:BZ (k+1) X.A) (hg:Gl X x) (hm:X.mg x=some (.ref C)) (hb:Ci X.K fd ps ds) (hd:AR dvs ds) (hx:Em CX X E)
  (ha:PA X (e::es) t) (hdb:(x == ("__debug__":Str))=false:=by kd_p) (he:starEach (e::es) X.env=(false,eval e X.env)::starEach es X.env:=by rfl) (hpl:(backTo pos (starEach es X.env)).any (·.1)=false:=by rfl) :
  PE X (.Call (.Name x p) (e::es) [] pos) (Qm C sp dvs E t):=by
 intro pins s σ H Q I h
 refine wpAny_Call_Name_kw (Gy I hg hm ?_ hdb)
 refine z5 (h₀:=X.base) I.ok.mod.kin M.kp (pL (ha pos pins s σ H _ I h) λus s1 vs H1 I1 r q=>⟨I1.kIn,?_⟩) he hpl
 exact Ny M F hr hb hd hx I1 r q
theorem DA (M:Mk X.K C f) (F:AS X.prog X.w X.K X.mg X.base CX k f fd ps sp) (hr:BZ (k+1) X.A) (hg:Gl X x) (hm:X.mg x=some (.ref C)) (hb:Ci X.K fd ps ds) (hd:AR dvs ds) (hx:Em CX X E)
  (hdb:(x == ("__debug__":Str))=false:=by kd_p):PE X (.Call (.Name x p) [] [] pos) (Qm C sp dvs E tNil):=by
 intro pins s σ H Q I h
 refine wpAny_Call_Name_kw (Gy I hg hm ?_ hdb)
 exact PySem.W.callWith_K0 I.kIn M.kp (Ny (us:=[]) M F hr hb hd hx I .nil h)
end

section
variable {X:Cx} {CX:LX} {k:Nat} {f C:Addr} {fd:FuncData} {ps ks:List Str} {sp:Sp} {E:XK} {x m:Str} {p pos apos kpos:Pos} {e o:Expr} {es:List Expr} {kws:List Keyword} {te ta:TE} {t tk:TA} {nm:Option Str}
variable {g:List Value->List Value->List Value} {gV:List V->List V->List V}
end

structure DX (N P:List Str) (sc:Scope):Prop where
 kind:sc.kind=.function
 co:sc.isCoroutine=false
 gen:sc.isGenerator=false
 nd:N.Nodup
 pre:N.take P.length=P
 par:∀ x∈P,sc.names.lookup x=some .local\/sc.names.lookup x=some .cell
 nofree:∀ y∈sc.names,y.2≠.free

theorem LS {kindOf:Str->Option NameKind} {x:Str}:∀ {binds:List (Str×Value)} {m:Str->Option Value},(∀ v,(x,v)∉binds)->bindL kindOf binds m x=m x
 |[],_,_=>rfl
 | (n,v)::r,m,h=>by
  unfold bindL
  rw [LS λw hw=>h w (N0 _ hw)]
  split
  ·have:x≠n:=by rintro rfl;exact h v W0
   simp [this]
  ·rfl
theorem LV {kindOf:Str->Option NameKind} {x:Str}:∀ {binds:List (Str×Value)} {m:Str->Option Value},(∀ v,(x,v)∉binds)->bindC kindOf binds m x=m x
 |[],_,_=>rfl
 | (n,v)::r,m,h=>by
  unfold bindC
  rw [LV λw hw=>h w (N0 _ hw)]
  split
  ·rfl
  ·have:x≠n:=by rintro rfl;exact h v W0
   simp [this]
theorem LU {kindOf:Str->Option NameKind} {x:Str} {v:Value}:∀ {P:List Str} {vs:List Value} {i:Nat} {m:Str->Option Value},P.Nodup->P[i]?=some x->vs[i]?=some v->kindOf x=some .local ->
  bindL kindOf (P.zip vs) m x=some v
 |[],_,_,_,_,h,_,_=>by simp at h
 |_::_,[],_,_,_,_,h,_=>by simp at h
 |p::P,w::vs,0,m,nd,h1,h2,hk=>by
  simp at h1 h2;subst h1;subst h2
  show bindL kindOf ((p,w)::P.zip vs) m p=_
  unfold bindL
  rw [LS λv hv=>(E3.mp nd).1 (g7 hv).1,if_pos hk]
  simp
 |p::P,w::vs,i+1,m,nd,h1,h2,hk=>by
  show bindL kindOf ((p,w)::P.zip vs) m x=_
  unfold bindL
  exact LU (i:=i) (E3.mp nd).2 (by simpa using h1) (by simpa using h2) hk
theorem LW {kindOf:Str->Option NameKind} {x:Str} {v:Value}:∀ {P:List Str} {vs:List Value} {i:Nat} {m:Str->Option Value},P.Nodup->P[i]?=some x->vs[i]?=some v->kindOf x≠some .local ->
  bindC kindOf (P.zip vs) m x=some v
 |[],_,_,_,_,h,_,_=>by simp at h
 |_::_,[],_,_,_,_,h,_=>by simp at h
 |p::P,w::vs,0,m,nd,h1,h2,hk=>by
  simp at h1 h2;subst h1;subst h2
  show bindC kindOf ((p,w)::P.zip vs) m p=_
  unfold bindC
  rw [LV λv hv=>(E3.mp nd).1 (g7 hv).1,if_neg hk]
  simp
 |p::P,w::vs,i+1,m,nd,h1,h2,hk=>by
  show bindC kindOf ((p,w)::P.zip vs) m x=_
  unfold bindC
  exact LW (i:=i) (E3.mp nd).2 (by simpa using h1) (by simpa using h2) hk

def start (N:List Str) (vs:List V):St:=vs.map some++A7 (N.length-vs.length) none

def Ff (CX:LX) (P:Program) (w:World) (K:A0) (mg:Str->Option Value) (base:Heap) (N:List Str) (qual:Str) (scope:Scope) (f:Addr) (cd:Value) (A:Around) (outer:List Env) (s:Shared) (H:Hp) (E:XK):Cx where
 prog:=P
 w:=w
 K:=K
 mg:=mg
 base:=base
 A:=A.deeper (envOfC qual scope s.heap.objs.size f cd)
 N:=N
 s₀:=s
 H₀:=H
 env:=envOfC qual scope s.heap.objs.size f cd
 outer:=outer
 stack:=envOfC qual scope s.heap.objs.size f cd::outer
 ex:=[]
 calm:=true
 fn:=λ_=>true
 pn:=[]
 xe:=λe s'=>wpAny (model P w) (A.deeper (envOfC qual scope s.heap.objs.size f cd)) (leaving (envOfC qual scope s.heap.objs.size f cd) e) (λ_ s''=>CX outer H s E e s'') (λe' s''=>CX outer H s E e' s'') s'

theorem Ox {sc:Scope} {n:Nat} {x:Str} (h:sc.names.lookup x=some .cell):∃ c,(cellsFrom n sc.names []).lookup x=some c:=by
 have q:=W7 sc.names n [] (.inl h)
 exact L7.mp q

theorem LI {CX:LX} {P:Program} {w:World} {K:A0} {mg:Str->Option Value} {base:Heap} {N ps:List Str} {qual:Str} {scope:Scope} {f:Addr} {cd:Value} {A:Around} {outer:List Env} {s s1:Shared} {H:Hp} {E:XK} {us:List Value} {vs:List V}
  (S:DX N ps scope) (hd:A.handled=none) (e0:Qd P w K mg base A outer s H) (hl:vs.length=ps.length) (r:AR vs us)
  (x:InCallC s s.heap.objs.size (bindL (envOfC qual scope s.heap.objs.size f cd).kindOf (ps.zip us) λ_=>none) (cellsFrom (s.heap.objs.size+1) scope.names []) (bindC (envOfC qual scope s.heap.objs.size f cd).kindOf (ps.zip us) λ_=>none) s1) :
  Ax (Ff CX P w K mg base N qual scope f cd A outer s H E) [] (start N vs) H s1:=by
 have hpl:ps.length<=N.length:=by have:=congrArg c8 S.pre;rw [Y2] at this;lia
 obtain ⟨h1,tk,rfl,hk⟩:=x.done
 have noA:∀ b:Addr,b∉(Ff CX P w K mg base N qual scope f cd A outer s H E).ex:=λb z=>absurd (show b∈([]:List Addr) from z) (by simp)
 refine ⟨⟨e0.mod,S.kind,rfl,rfl,P0 _,λy z c h1 h2=>?_,λy hy=>?_,λy c _ h=>?_,λ_=>hd,Around.frames_deeper e0.frames,.inr ⟨rfl,rfl⟩,λb z=>absurd z (noA b),e0.bs,e0.bsz,λb _ _=>noA b,λb z=>absurd z (noA b),e0.funs,e0.frf⟩,
  rfl,e0.bare,Un.kept hk,⟨_,x.toInCall.ns,λi y v h1 h2 h3=>?_⟩,λy c h=>⟨_,x.cell y c h⟩,e0.hok.fresh (P0 _),λy c h=>?_,λp hp=>absurd (show p∈([]:List (Addr×Obj)) from hp) (by simp),e0.hok.kept hk,?_⟩
 ·exact name_of_addr x.apart (PySem.mem_of_lookup h1) (PySem.mem_of_lookup h2)
 ·have hy:scope.names.lookup y=some .cell\/scope.names.lookup y=some .free:=hy
  rcases hy with hy | hy
  ·exact Ox hy
  ·exact absurd rfl (S.nofree _ (PySem.mem_of_lookup hy))
 ·exact Q8 (x.above y c (PySem.mem_of_lookup h))
 ·have hi:i<vs.length:=by
   unfold start at h2
   by_cases hi:i<vs.length
   ·exact hi
   ·rw [T3 (by simpa using hi)] at h2
    rw [z8] at h2
    split at h2<;>cases h2
  have ha:vs[i]?=some v:=by
   unfold start at h2
   rw [Q2 (by simpa using hi),J2] at h2
   cases e:vs[i]? with
   |none=>rw [e] at h2;cases h2
   |some a=>rw [e] at h2;cases h2;rfl
  obtain ⟨u,hu,rv⟩:=r.get ha
  have hp:ps[i]?=some y:=by
   rw [<- S.pre,List.getElem?_take_of_lt (by lia)];exact h1
  have ndP:ps.Nodup:=by rw [<- S.pre];exact S.nd.sublist (List.take_sublist _ _)
  refine ⟨u,rv,?_⟩
  rcases S.par y (j0 hp) with k | k
  ·exact .inl ⟨k,LU ndP hp hu k⟩
  ·obtain ⟨c,e⟩:=Ox (n:=s.heap.objs.size+1) k
   refine .inr ⟨.inl k,c,e,?_⟩
   have q:=x.cell y c e
   rw [LW ndP hp hu (by show scope.names.lookup y≠_;rw [k];decide)] at q
   exact q
 ·exact e0.hok.fresh (Q8 (x.above y c (PySem.mem_of_lookup h)))
 ·unfold start
  show _=N.length
  rw [K0,J0,L9]
  lia

theorem UQ {CX:LX} {P:Program} {w:World} {K:A0} {mg:Str->Option Value} {base:Heap} {k:Nat} {f:Addr} {name qual:Str} {params:Arguments} {body:List Stmt} {scope:Scope} {dV kV doc pm cdv ct oc:Value} {an od:Option Addr}
  {osl:Array (Option Value)} {N ps:List Str} {sp:Sp} (lk:K.lookup f=some ⟨oc,od,.func (V2 name qual params body scope dV kV doc pm an cdv ct),osl⟩) (hcd:E4 K cdv qual=true) (S:DX N ps scope)
  (len:∀ vs H Q E,sp vs H Q E->vs.length=ps.length)
  (hbody:∀ (A:Around) (outer:List Env) (s:Shared) (H:Hp) (vs:List V) (Q:VK) (E:XK),BZ k (A.deeper (envOfC qual scope s.heap.objs.size f cdv))->sp vs H Q E ->
   ∃ t,KI (Ff CX P w K mg base N qual scope f cdv A outer s H E) body t/\t { nx:=λ_ H'=>Q .non H',rt:=Q } (start N vs) H) :
  AS P w K mg base CX (k+1) f (V2 name qual params body scope dV kV doc pm an cdv ct) ps sp:=by
 refine ⟨len,λA outer s H args us vs Q E hr e0 hb r hsp=>?_⟩
 have hl:=len _ _ _ _ hsp
 have KX:K.In s.heap:=e0.mod.kin.keeps λb o e=>(e0.bs b o e).1
 have lim:s.heap.NoLimit:=e0.mod.nolimit.keeps λb o e=>(e0.bs b o e).1
 have hkind:∀ y∈ps.zip us,scope.names.lookup y.1=some .local\/(scope.names.lookup y.1=some .cell/\((cellsFrom (s.heap.objs.size+1) scope.names []).lookup y.1).isSome=true):=λ⟨n,v⟩ hy=>by
  rcases S.par n (g7 hy).1 with q | q
  ·exact .inl q
  ·exact .inr ⟨q,W7 _ _ _ (.inl q)⟩
 refine codeAny_call_function hr.depth (KX _ _ lk) rfl S.co S.gen rfl (PySem.W.codeRec_of KX hcd) (hb _ _ _ _ ?_)
 refine wpAny_newFunctionEnv_cells S.kind hkind λenv he s1 x=>?_
 subst he
 refine ⟨lim.keeps x.toInCall.keep,codeAny_func ?_⟩
 obtain ⟨t,ht,hq⟩:=hbody A outer s H vs Q E (hr.deeper _) hsp
 have I:Ax (Ff CX P w K mg base N qual scope f cdv A outer s H E) [] (start N vs) H s1:=LI S hr.hd e0 hl r x
 refine wpAny_mono (ht [] s1 (start N vs) H _ I hq) (λfl s' hs=>?_) λe s' hs=>hs
 have fin:∀ {σ':St} {H':Hp} {v:V} {u:Value},Ax (Ff CX P w K mg base N qual scope f cdv A outer s H E) [] σ' H' s'->Ba v u->Q v H'->CE outer P w H s Q u s' :=
  λ{σ' H' v u} J rv q=>⟨v,H',J.os,J.bare,J.base,J.hok,rv,q⟩
 cases fl with
 |ret u =>
  obtain ⟨v,σ',H',J,rv,q⟩:=hs
  exact fin J rv q
 |next =>
  obtain ⟨σ',H',J,q⟩:=hs
  exact fin (v:=V.non) (u:=Value.none) J rfl q
 |brk =>
  obtain ⟨_,_,_,q⟩:=hs
  exact False.elim q
 |cont =>
  obtain ⟨_,_,_,q⟩:=hs
  exact False.elim q
section
variable {X:Cx} {x:Str} {p pos:Pos} {e:Expr} {es:List Expr} {t:TA} {id T:String} {r:List V->Hp->VK->Prop}

def tCB (r:List V->Hp->VK->Prop) (t:TA):TE:=λσ H Q=>t σ H λvs H1=>r vs H1 Q
theorem Av (hc:En X (.builtin id) r) (hg:Gl X x) (hm:X.mg x=none) (hv:bootBuiltins x=some (.builtin id)) (ha:PA X (e::es) t) (hn:x≠"__name__":=by kd_p) (hdb:(x == ("__debug__":Str))=false:=by kd_p)
  (he:starEach (e::es) X.env=(false,eval e X.env)::starEach es X.env:=by rfl) (hpl:(backTo pos (starEach es X.env)).any (·.1)=false:=by rfl):PE X (.Call (.Name x p) (e::es) [] pos) (tCB r t):=by
 intro pins s σ H Q I h
 refine wpAny_Call_Name_kw (Gc I hg hm hv ?_ hn hdb)
 exact PyProof.Rows.callWith_builtin1 (pL (ha pos pins s σ H _ I h) λus s1 vs H1 I1 r1 q1=>hc pins s1 σ H1 vs us Q I1 r1 q1) he hpl
theorem Ay (hc:En X (.type T) r) (hg:Gl X x) (hm:X.mg x=none) (hv:bootBuiltins x=some (.type T)) (ha:PA X (e::es) t) (hn:x≠"__name__":=by kd_p) (hdb:(x == ("__debug__":Str))=false:=by kd_p)
  (he:starEach (e::es) X.env=(false,eval e X.env)::starEach es X.env:=by rfl) (hpl:(backTo pos (starEach es X.env)).any (·.1)=false:=by rfl):PE X (.Call (.Name x p) (e::es) [] pos) (tCB r t):=by
 intro pins s σ H Q I h
 refine wpAny_Call_Name_kw (Gc I hg hm hv ?_ hn hdb)
 exact T5 (pL (ha pos pins s σ H _ I h) λus s1 vs H1 I1 r1 q1=>hc pins s1 σ H1 vs us Q I1 r1 q1) he hpl
end
end L2

namespace HT
open PySem PyProof.Rows

section
open PySem.SeqAt
open PySem.AutoSeq1 (wpAny_loadPart')
open PySem.MeetsSeq PySem.MeetsSeq2 PySem.MeetsSeq3

end

section
variable {prog:Program} {w:World} {A:Around} {E:Value->Shared->Prop} {s:Shared}

theorem cat_tup {t b:Addr} {vs ws:List Value} {Q:Value->Shared->Prop} (ht:IsTup s.heap t vs.toArray) (hb:IsTup s.heap b ws.toArray) (hv:vs≠[])
  (h1:ws=[]->Q (.ref t) s) (h2:ws≠[]->Q (.ref s.heap.objs.size) { s with heap:=s.heap.push { cls:=.type "tuple",data:=.seq (vs++ws).toArray } })
  (hsz:vs.length+ws.length<=sizeLine):wpAny (model prog w) A (binaryOp .Add (.ref t) (.ref b)) Q E s:=by
 obtain ⟨⟨cls,dd,data,sl⟩,ho,hc,n,hd⟩:=id ht
 obtain ⟨⟨cls2,dd2,data2,sl2⟩,ho2,hc2,n2,hd2⟩:=id hb
 simp only at hc hd hc2 hd2
 subst hc hd hc2 hd2
 have e:vs.toArray++ws.toArray=(vs++ws).toArray:=by simp
 by_cases hw:ws=[]
 ·exact concat_meets ⟨_,ho,rfl⟩ ⟨_,ho2,rfl⟩ noFill_tuple_add seq_tuple_add X7 S7 (K7 _ _)
   (tuple_addW1 t b vs.toArray ws.toArray n n2 dd dd2 sl sl2 (by simpa using hv) (by simp [hw])) ⟨ho,ho2,h1 hw⟩
 ·refine concat_meets ⟨_,ho,rfl⟩ ⟨_,ho2,rfl⟩ noFill_tuple_add seq_tuple_add X7 S7 (K7 _ _)
   (tuple_addW2 t b vs.toArray ws.toArray n n2 dd dd2 sl sl2 (by simpa using hv) (by simpa using hw) (by rw [V0,V0];exact hsz)) ⟨ho,ho2,?_⟩
  rw [e]
  exact h2 hw

def sIx (n d:Nat):Option Int->Nat
 |none=>d
 |some v=>if v<0 then (v+(n:Int)).toNat else min v.toNat n
theorem sIx_nat (n d k:Nat):sIx n d (some (k:Int))=min k n:=by
 show (if (k:Int)<0 then ((k:Int)+(n:Int)).toNat else min (k:Int).toNat n)=min k n
 rw [if_neg (by lia),V8]
end
end HT

namespace L2
open PySem PySem.Spec PyProof.Rows

abbrev TO:=St->Hp->(Option Int->Hp->Prop)->Prop
def PO (X:Cx) (e:Option Expr) (t:TO):Prop :=
 ∀ (pins:List (Addr×Obj)) (s:Shared) (σ:St) (H:Hp) (Q:Option Int->Hp->Prop),Ax X pins σ H s->t σ H Q ->
  wpAny (model X.prog X.w) X.A (evalPart e X.env) (λu s'=>∃ o H',Ax X pins σ H' s'/\IsPart u o/\Q o H') X.xe s
def Qk:TO:=λ_ H Q=>Q none H
def tPart (t:TE):TO:=λσ H Q=>t σ H λx H1=>∃ i,x=.int i/\Q (some i) H1

section
variable {X:Cx} {e:Expr} {te:TE} {lo hi:Option Expr} {tl th:TO} {pos p2:Pos}

theorem CY:PO X none Qk:=by
 intro pins s σ H Q I h
 rw [evalPart_none]
 exact wpAny_pure ⟨none,H,I,.none,h⟩
theorem CW (h:PE X e te):PO X (some e) (tPart te):=by
 intro pins s σ H Q I hw
 rw [evalPart_some]
 refine pB (h pins s σ H _ I hw) λu s1 x H1 I1 r1 q1=>?_
 obtain ⟨i,rfl,q⟩:=q1
 obtain ⟨t,rfl⟩:=r1
 exact ⟨some i,H1,I1,.int i t,q⟩

def SlR (X:Cx) (r:V->Option Int->Option Int->Hp->VK->Prop):Prop :=
 ∀ (pins:List (Addr×Obj)) (s:Shared) (σ:St) (H:Hp) (x:V) (v vl vu:Value) (lo hi:Option Int) (sl:Addr) (Q:VK),Ax X pins σ H s->Ba x v->s.heap.IsSliceOf sl vl vu .none->IsPart vl lo->IsPart vu hi->r x lo hi H Q ->
  ∃ T id,typeLookup (.type T) "__getitem__"=pure (some (.builtin id))/\s.TypeIs v T/\wpAny (model X.prog X.w) X.A (getItem v (.ref sl)) (EP X pins σ Q) X.xe s
def tSl (r:V->Option Int->Option Int->Hp->VK->Prop) (te:TE) (tl th:TO):TE:=λσ H Q=>te σ H λx H1=>tl σ H1 λl H2=>th σ H2 λu H3=>r x l u H3 Q
theorem Cn {r:V->Option Int->Option Int->Hp->VK->Prop} (hr:SlR X r) (he:PE X e te) (hl:PO X lo tl) (hu:PO X hi th):PE X (.Subscript e (.Slice lo hi none p2) pos) (tSl r te tl th):=by
 intro pins s σ H Q I h
 refine Subscript_ (pB (he pins s σ H _ I h) λv s1 x H1 I1 r1 q1=>?_)
 refine wpAny_Slice (Bl (hl pins s1 σ H1 _ I1 q1) λvl s2 ⟨l,H2,I2,pl,q2⟩=>Bl (hu pins s2 σ H2 _ I2 q2) λvu s3 ⟨u,H3,I3,pu,q3⟩=>?_)
 rw [evalPart_none]
 refine wpAny_pure ?_
 have I4:Ax X pins σ H3 { s3 with heap:=s3.heap.push { cls:=.type "slice",data:=.fields #[vl,vu,.none] } }:=I3.kept (t':=s3.toks) λb ob q=>Heap.get?_push_of_some _ q
 obtain ⟨T,id,hT,ht,hg⟩:=hr pins { s3 with heap:=s3.heap.push { cls:=.type "slice",data:=.fields #[vl,vu,.none] } } σ H3 x v vl vu l u s3.heap.objs.size Q I4 r1 (Heap.IsSliceOf.new ..) pl pu q3
 show wpAny (model X.prog X.w) X.A (subscriptTail e (.Slice lo hi none p2) v (.ref s3.heap.objs.size)) (EP X pins σ Q) X.xe { s3 with heap:=s3.heap.push { cls:=.type "slice",data:=.fields #[vl,vu,.none] } }
 exact tail_any (ops:=[.ref s3.heap.objs.size,v]) ht hT hg (by with_unfolding_all rfl)

def Dj (xs:List V) (lo hi:Option Int):List V:=(xs.drop (HT.sIx xs.length 0 lo)).take (HT.sIx xs.length xs.length hi-HT.sIx xs.length 0 lo)
theorem Jt (xs:List V) (lo hi:Option Int):(Dj xs lo hi).length<=xs.length:=by
 unfold Dj
 rw [Y2,List.length_drop]
 lia
def TM (K:A0):R2:=λx y H Q=>∃ a b xs ys,x=.ref a/\y=.ref b/\Bc K H a xs/\Bc K H b ys/\xs≠[]/\xs.length+ys.length<=sizeLine /\
 (ys=[]->Q (.ref a) H)/\(ys≠[]->∀ p,H p=none->Q (.ref p) (upd H p (.tup (xs++ys))))
theorem AR.nil_iff {xs:List V} {us:List Value} (r:AR xs us):us=[]↔xs=[]:=by
 cases r with
 |nil=>simp
 |cons _ _=>simp
theorem op_catT:GC X (binaryOp .Add) (TM X.K):=by
 intro pins s σ H x y v u Q I rx ry h
 obtain ⟨a,b,xs,ys,rfl,rfl,ha,hb,hx,hz,q1,q2⟩:=h
 cases rx
 cases ry
 obtain ⟨its,r1,p1,_⟩:=I.tuple ha
 obtain ⟨its2,r2,p2,_⟩:=I.tuple hb
 refine HT.cat_tup p1 p2 (λz=>hx (r1.nil_iff.mp z)) (λz=>⟨.ref a,H,I,rfl,q1 (r2.nil_iff.mp z)⟩) (λz=>?_) (by rw [<- r1.length,<- r2.length];exact hz)
 refine ⟨.ref s.heap.objs.size,_,I.laid (t':=s.toks) (o:=.tup (xs++ys)) (λb ob q=>Heap.get?_push_of_some _ q) (P0 _) ?_,rfl,q2 (λw=>z (r2.nil_iff.mpr w)) _ (I.hok.fresh (P0 _))⟩
 exact ⟨by rw [K0];exact hz,_,r1.append r2,IsTup.new _ _⟩
end

def ixN (n:Nat) (i:Int):Option Nat:=if 0<=i then (if i<n then some i.toNat else none) else if -(n:Int)<=i then some (i+n).toNat else none
def Sw {α:Type} (xs:List α) (i:Int):Option α:=(ixN xs.length i).bind λj=>xs[j]?
theorem ixN_seq {n:Nat} {i:Int} {j:Nat} (h:ixN n i=some j):seqIndex? i n=some j/\j<n/\-(n:Int)<=i/\i<n:=by
 unfold ixN at h
 by_cases h0:0<=i
 ·rw [if_pos h0] at h
  by_cases h1:i<n
  ·rw [if_pos h1] at h
   have e:i.toNat=j:=V3.inj h
   exact ⟨by rw [seqIndex_of h0 h1,e],by lia,by lia,h1⟩
  ·rw [if_neg h1] at h;cases h
 ·rw [if_neg h0] at h
  by_cases h1:-(n:Int)<=i
  ·rw [if_pos h1] at h
   have e:(i+n).toNat=j:=V3.inj h
   exact ⟨by rw [seqIndex_neg (by lia) h1,e],by lia,h1,by lia⟩
  ·rw [if_neg h1] at h;cases h
theorem MS {α:Type} {xs:List α} {i:Int} {v:α} (h:Sw xs i=some v):∃ j,seqIndex? i xs.length=some j/\xs[j]?=some v/\j<xs.length/\-(xs.length:Int)<=i/\i<xs.length:=by
 unfold Sw at h
 cases e:ixN xs.length i with
 |none=>rw [e] at h;cases h
 |some j =>
  rw [e] at h
  obtain ⟨h1,h2,h3,h4⟩:=ixN_seq e
  exact ⟨j,h1,h,h2,h3,h4⟩
theorem Au {α:Type} {xs:List α} {j:Nat} {v:α} (h:xs[j]?=some v):Sw xs (j:Int)=some v:=by
 have hj:j<xs.length:=(Q1.mp h).1
 have e:ixN xs.length (j:Int)=some j:=by
  unfold ixN
  rw [if_pos (by lia),if_pos (by lia)];simp
 unfold Sw;rw [e];exact h
theorem atI_last {α:Type} (xs:List α) (v:α):Sw (xs++[v]) (-1)=some v:=by
 have hl:(xs++[v]).length=xs.length+1:=by simp
 have e:ixN (xs++[v]).length (-1)=some xs.length:=by
  unfold ixN
  rw [hl,if_neg (by kd_p),if_pos (by lia)]
  congr 1
  lia
 unfold Sw
 rw [e]
 show (xs++[v])[xs.length]?=some v
 simp

def Rc (b:Expr):Prop:=∀ o i,subscripted b false o i=operate [o,i] (getItem o i)
def IxR (X:Cx) (r:R2):Prop :=
 ∀ (value slice:Expr) (pins:List (Addr×Obj)) (s:Shared) (σ:St) (H:Hp) (x y:V) (v u:Value) (Q:VK),Ax X pins σ H s->Ba x v->Ba y u->r x y H Q ->
  subscripted slice false v u=operate [v,u] (getItem v u)->wpAny (model X.prog X.w) X.A (subscriptTail value slice v u) (EP X pins σ Q) X.xe s
def MtR (X:Cx) (id:String) (r:V->List V->Hp->VK->Prop):Prop :=
 ∀ (pins:List (Addr×Obj)) (s:Shared) (σ:St) (H:Hp) (x:V) (xs:List V) (v:Value) (us:List Value) (Q:VK),Ax X pins σ H s->Ba x v->AR xs us->r x xs H Q ->
  wpAny (model X.prog X.w) X.A (call (.builtin id) (v::us)) (EP X pins σ Q) X.xe s
section
variable {X:Cx} {a b:Expr} {ta tb:TE} {pos:Pos}
theorem pe_ix {r:R2} (hr:IxR X r) (ha:PE X a ta) (hb:PE X b tb) (hs:Rc b):PE X (.Subscript a b pos) (tOp r ta tb):=by
 intro pins s σ H Q I h
 exact Subscript_ (binT ha hb I h λv u s2 x y H2 I2 rx ry q=>hr a b pins s2 σ H2 x y v u Q I2 rx ry q (hs _ _))

def NB (K:A0):R2:=λx y H Q=>∃ p xs i v,x=.ref p/\y=.int i/\AD K H p xs/\Sw xs i=some v/\Q v H
def JA (K:A0):R2:=λx y H Q=>∃ p xs i v,x=.ref p/\y=.int i/\Bc K H p xs/\Sw xs i=some v/\Q v H
def rIxS:R2:=λx y H Q=>∃ z i c,x=.str z/\y=.int i/\z.length<=sizeLine/\Sw z.cps.toList i=some c/\Q (.str ⟨#[c]⟩) H
theorem AK:IxR X (NB X.K):=by
 intro value slice pins s σ H x y v u Q I rx ry h hs
 obtain ⟨p,xs,i,z,rfl,rfl,hq,he,q⟩:=h
 cases rx
 obtain ⟨t,rfl⟩:=ry
 obtain ⟨its,r,pl,hz⟩:=I.list hq
 obtain ⟨j,h1,h2,h3,h4,h5⟩:=MS he
 obtain ⟨w,ew,rw'⟩:=r.get h2
 have hl:=r.length
 have hn:=ME
 have fin:EP X pins σ Q w s:=⟨z,H,I,rw',q⟩
 by_cases h0:0<=i
 ·have hj:i.toNat=j:=by
   rw [seqIndex_of h0 h5] at h1
   exact V3.inj h1
  exact item_listR pl.isList h0 (by lia) (by rw [hj];simpa using ew) fin hs
 ·have hj:(i+(its.toArray.size:Int)).toNat=j:=by
   rw [seqIndex_neg (by lia) h4] at h1
   rw [V0,<- hl]
   exact V3.inj h1
  exact subscriptTail_builtinR (x:=w) pl.isList.typeIs slot_list_getitem.lookup
   (wpAny_getItem_list_neg (Q:=λr s'=>r=w/\EP X pins σ Q r s') pl.isList (by lia) (by rw [V0]<;>lia) (by lia) (by rw [hj];simpa using ew) ⟨rfl,fin⟩) hs
theorem As:IxR X (JA X.K):=by
 intro value slice pins s σ H x y v u Q I rx ry h hs
 obtain ⟨p,xs,i,z,rfl,rfl,hq,he,q⟩:=h
 cases rx
 obtain ⟨t,rfl⟩:=ry
 obtain ⟨its,r,pl,hz⟩:=I.tuple hq
 obtain ⟨j,h1,h2,h3,h4,h5⟩:=MS he
 obtain ⟨w,ew,rw'⟩:=r.get h2
 have hl:=r.length
 have hn:=ME
 have fin:EP X pins σ Q w s:=⟨z,H,I,rw',q⟩
 exact subscriptTail_builtinR (x:=w) pl.typeIs slot_tuple_getitem.lookup
  (getItem_tuple (j:=j) (Q:=λr s'=>r=w/\EP X pins σ Q r s') pl (by lia) (by lia) (by rw [V0,<- hl];exact h1) (by simpa using ew) ⟨rfl,fin⟩) hs
theorem ix_str:IxR X rIxS:=by
 intro value slice pins s σ H x y v u Q I rx ry h hs
 obtain ⟨z,i,c,rfl,rfl,hz,he,q⟩:=h
 obtain ⟨t,rfl⟩:=rx
 obtain ⟨t',rfl⟩:=ry
 obtain ⟨j,h1,h2,h3,h4,h5⟩:=MS he
 have hl:z.cps.toList.length=z.length:=by simp [Str.length]
 rw [hl] at h1 h4 h5
 have hn:=ME
 exact tail_any (typeIs_str s z t) slot_str_getitem.lookup (getItem_str (c:=c) (by
  have e1:decide (i < -(2 ^ 63:Int))=false:=decide_eq_false (by lia)
  have e2:decide (i ≥ 2 ^ 63)=false:=decide_eq_false (by lia)
  rw [e1,e2,u8]) (by rw [h1];simpa using h2) ⟨.str ⟨#[c]⟩,H,I.tok _,⟨_,rfl⟩,q⟩) hs
theorem Mf (lo hi:Option Int) (n:Nat):(sliceBounds lo hi none n).1=((HT.sIx n 0 lo:Nat):Int)/\(sliceBounds lo hi none n).2.1=((HT.sIx n n hi:Nat):Int)/\(sliceBounds lo hi none n).2.2=1:=by
 refine ⟨?_,?_,rfl⟩
 ·cases lo with
  |none=>simp [sliceBounds,HT.sIx]
  |some i =>
   simp only [sliceBounds,HT.sIx,Option.getD_none,show (1:Int) > 0 by kd_p,if_true]
   by_cases h:i<0
   ·simp only [h,if_true]<;>lia
   ·simp only [h,if_false]<;>lia
 ·cases hi with
  |none=>simp [sliceBounds,HT.sIx]
  |some i =>
   simp only [sliceBounds,HT.sIx,Option.getD_none,show (1:Int) > 0 by kd_p,if_true]
   by_cases h:i<0
   ·simp only [h,if_true]<;>lia
   ·simp only [h,if_false]<;>lia
theorem KQ (its:List Value) (lo hi:Option Int):slicePick its.toArray lo hi none=((its.drop (HT.sIx its.length 0 lo)).take (HT.sIx its.length its.length hi-HT.sIx its.length 0 lo)).toArray:=by
 obtain ⟨h1,h2,h3⟩:=Mf lo hi its.toArray.size
 unfold slicePick
 rw [h1,h2,h3]
 simp only [sliceRange_one,pick_run,V0]<;>rfl
def rSlL (K:A0):V->Option Int->Option Int->Hp->VK->Prop:=λx lo hi H Q=>∃ a xs,x=.ref a/\AD K H a xs/\∀ p,H p=none->Q (.ref p) (upd H p (.lst (Dj xs lo hi)))
theorem Et:SlR X (rSlL X.K):=by
 intro pins s σ H x v vl vu lo hi sl Q I rx hs pl pu h
 obtain ⟨a,xs,rfl,hx,q⟩:=h
 cases rx
 obtain ⟨its,r,ht,hz⟩:=I.list hx
 have hlen:=r.length
 refine ⟨"list",_,slot_list_getitem.lookup,ht.isList.typeIs,?_⟩
 refine wpAny_getItem_list_slice ht.isList hs pl pu .none (by simp) ?_ (by rw [V0]<;>lia)
 rw [KQ,<- hlen]
 refine ⟨.ref s.heap.objs.size,_,I.laid (t':=s.toks) (o:=.lst (Dj xs lo hi)) (λb ob q=>Heap.get?_push_of_some _ q) (P0 _) ?_,rfl,q _ (I.hok.fresh (P0 _))⟩
 exact ⟨C0 (Jt xs lo hi) hz,_,0,(r.drop (HT.sIx xs.length 0 lo)).take (HT.sIx xs.length xs.length hi-HT.sIx xs.length 0 lo),Heap.get?_push_size _ rfl⟩

def Cy:V->Bool
 |.non=>true
 |.bl _=>true
 |.int _=>true
 |.str _=>true
 |_=>false
def PH:V->V->Bool
 |.non,.non=>true
 |.bl a,.bl b=>a == b
 |.bl a,.int b=>(if a then 1 else 0) == b
 |.int a,.bl b=>a == (if b then 1 else 0)
 |.int a,.int b=>a == b
 |.str a,.str b=>a == b
 |_,_=>false
theorem UZ {A:Around} {s:Shared} {y x:V} {u v:Value} (ry:Ba y u) (rx:Ba x v) (fy:Cy y=true) (fx:Cy x=true):SeqAt.EqAt A s u v (PH y x):=by
 cases y with
 |non =>
  cases ry
  cases x with
  |non=>cases rx;exact SeqAt.EqAt.same _
  |bl b=>cases rx;exact SeqAt.EqAt.none_bool b
  |int b=>obtain ⟨t,rfl⟩:=rx;exact SeqAt.EqAt.none_int b t
  |str b=>obtain ⟨t,rfl⟩:=rx;exact SeqAt.EqAt.none_str b t
  |_=>exact absurd (show false=true from fx) Q0
 |bl a =>
  cases ry
  cases x with
  |non=>cases rx;exact SeqAt.EqAt.bool_none a
  |bl b=>cases rx;exact SeqAt.EqAt.bool_bool a b
  |int b=>obtain ⟨t,rfl⟩:=rx;exact SeqAt.EqAt.bool_int a b t
  |str b=>obtain ⟨t,rfl⟩:=rx;exact SeqAt.EqAt.bool_str a b t
  |_=>exact absurd (show false=true from fx) Q0
 |int a =>
  obtain ⟨t',rfl⟩:=ry
  cases x with
  |non=>cases rx;exact SeqAt.EqAt.int_none a t'
  |bl b=>cases rx;exact SeqAt.EqAt.int_bool a t' b
  |int b=>obtain ⟨t,rfl⟩:=rx;exact SeqAt.EqAt.int_int a t' b t
  |str b=>obtain ⟨t,rfl⟩:=rx;exact SeqAt.EqAt.int_str a t' b t
  |_=>exact absurd (show false=true from fx) Q0
 |str a =>
  obtain ⟨t',rfl⟩:=ry
  cases x with
  |non=>cases rx;exact SeqAt.EqAt.str_none a t'
  |bl b=>cases rx;exact SeqAt.EqAt.str_bool a t' b
  |int b=>obtain ⟨t,rfl⟩:=rx;exact SeqAt.EqAt.str_int a t' b t
  |str b=>obtain ⟨t,rfl⟩:=rx;exact SeqAt.EqAt.str_str a t' b t
  |_=>exact absurd (show false=true from fx) Q0
 |_=>exact absurd (show false=true from fy) Q0
def PJ (x:V) (u:Value):Bool:=match u with
 |.none=>PH .non x
 |.bool b=>PH (.bl b) x
 |.int i _=>PH (.int i) x
 |.str z _=>PH (.str z) x
 |_=>false
theorem UY {x y:V} {u:Value} (r:Ba y u) (f:Cy y=true):PJ x u=PH y x:=by
 cases y with
 |non=>cases r;rfl
 |bl b=>cases r;rfl
 |int i=>obtain ⟨t,rfl⟩:=r;rfl
 |str z=>obtain ⟨t,rfl⟩:=r;rfl
 |_=>exact absurd (show false=true from f) Q0
theorem Iy {x:V}:∀ {xs:List V} {us:List Value},AR xs us->xs.all Cy=true->us.any (PJ x)=xs.any λy=>PH y x
 |_,_,.nil,_=>rfl
 |y::xs,u::us,.cons r t,f=>by
  rw [O7,W1] at f
  rw [N7,N7,UY r f.1,Iy t f.2]
theorem Ga {A:Around} {s:Shared} {x:V} {v:Value} (rx:Ba x v) (fx:Cy x=true):∀ {xs:List V} {us:List Value},AR xs us->xs.all Cy=true->∀ u∈us,SeqAt.EqAt A s u v (PJ x u)
 |_,_,.nil,_=>λu hu=>by cases hu
 |y::xs,u::us,.cons r t,f=>λu' hu=>by
  rw [O7,W1] at f
  rcases S0.mp hu with rfl | hu
  ·rw [UY r f.1];exact UZ r rx f.1 fx
  ·exact Ga rx fx t f.2 u' hu
def Ik (x:V) (xs:List V):Bool:=xs.any λy=>PH y x
def rIn (K:A0) (neg:Bool):R2:=λx y H Q=>∃ p xs,y=.ref p/\(AD K H p xs\/Bc K H p xs)/\Cy x=true/\xs.all Cy=true/\Q (.bl (if neg then !Ik x xs else Ik x xs)) H
theorem BQ:GC X (compareOp .In) (rIn X.K false):=by
 intro pins s σ H x y v u Q I rx ry h
 obtain ⟨p,xs,rfl,hq,fx,fs,q⟩:=h
 cases ry
 rcases hq with hq | hq
 ·obtain ⟨its,r,pl,hz⟩:=I.list hq
  refine SeqAt.in_listAt (PJ x) pl.isList (λw hw=>Ga rx fx r fs w (by simpa using hw)) ⟨.bl _,H,I,rfl,?_⟩
  rw [show its.toArray.any (PJ x)=its.any (PJ x) by simp,Iy r fs]
  exact q
 ·obtain ⟨its,r,pl,hz⟩:=I.tuple hq
  refine SeqAt.in_tupleAt (PJ x) pl (λw hw=>Ga rx fx r fs w (by simpa using hw)) ⟨.bl _,H,I,rfl,?_⟩
  rw [show its.toArray.any (PJ x)=its.any (PJ x) by simp,Iy r fs]
  exact q
theorem Bz:GC X (compareOp .NotIn) (rIn X.K true):=by
 intro pins s σ H x y v u Q I rx ry h
 obtain ⟨p,xs,rfl,hq,fx,fs,q⟩:=h
 cases ry
 rcases hq with hq | hq
 ·obtain ⟨its,r,pl,hz⟩:=I.list hq
  refine SeqAt.notIn_listAt (PJ x) pl.isList (λw hw=>Ga rx fx r fs w (by simpa using hw)) ⟨.bl _,H,I,rfl,?_⟩
  rw [show its.toArray.any (PJ x)=its.any (PJ x) by simp,Iy r fs]
  exact q
 ·obtain ⟨its,r,pl,hz⟩:=I.tuple hq
  refine SeqAt.notIn_tupleAt (PJ x) pl (λw hw=>Ga rx fx r fs w (by simpa using hw)) ⟨.bl _,H,I,rfl,?_⟩
  rw [show its.toArray.any (PJ x)=its.any (PJ x) by simp,Iy r fs]
  exact q
theorem BX:En X (.type "list") (λxs H Q=>∃ p ys,xs=[.ref p]/\(AD X.K H p ys\/Bc X.K H p ys)/\∀ l,H l=none->Q (.ref l) (upd H l (.lst ys))):=by
 intro pins s σ H xs us Q I r h
 obtain ⟨p,ys,rfl,hq,q⟩:=h
 obtain ⟨u,rfl,rx⟩:=Ep r
 cases rx
 have fin:∀ (its:List Value),AR ys its->ys.length<=sizeLine->∀ (h':Heap) (c':Nat),(∀ b o',s.heap.get? b=some o'->h'.get? b=some o') ->
   h'.get? s.heap.objs.size=some { cls:=.type "list",dict:=none,data:=.seq its.toArray c',slots:=#[] }->EP X pins σ Q (.ref s.heap.objs.size) { s with heap:=h' }:=λits r' hz h' c' kp e =>
  ⟨.ref s.heap.objs.size,_,I.laid (t':=s.toks) kp (P0 _) (show Bj X.prog X.w _ h' _ (.lst ys) from ⟨hz,its,c',r',e⟩),rfl,q _ (I.hok.fresh (P0 _))⟩
 rcases hq with hq | hq
 ·obtain ⟨its,r',pl,hz⟩:=I.list hq
  have hlen:=r'.length
  obtain ⟨o,ho,hc,n,hd⟩:=pl.isList
  exact call_list_seq p (.inl rfl) ho hc hd (λh' c' kp e=>fin its r' hz h' c' kp e) (by simp only [V0]<;>lia)
 ·obtain ⟨its,r',pl,hz⟩:=I.tuple hq
  have hlen:=r'.length
  obtain ⟨o,ho,hc,n,hd⟩:=pl
  exact call_list_seq p (.inr rfl) ho hc hd (λh' c' kp e=>fin its r' hz h' c' kp e) (by simp only [V0]<;>lia)
theorem BC:En X (.type "tuple") (λxs H Q=>∃ p ys,xs=[.ref p]/\((AD X.K H p ys/\∀ l,H l=none->Q (.ref l) (upd H l (.tup ys)))\/(Bc X.K H p ys/\Q (.ref p) H))):=by
 intro pins s σ H xs us Q I r h
 obtain ⟨p,ys,rfl,h⟩:=h
 obtain ⟨u,rfl,rx⟩:=Ep r
 cases rx
 rcases h with ⟨hq,q⟩ | ⟨hq,q⟩
 ·obtain ⟨its,r',pl,hz⟩:=I.list hq
  have hlen:=r'.length
  refine call_tuple_list pl.isList (λh' kp=>?_) (by simp only [V0]<;>lia)
  have I1:Ax X pins σ H { s with heap:=h' }:=I.kept (t':=s.toks) kp
  have I2:Ax X pins σ (upd H h'.objs.size (.tup ys)) { s with heap:=h'.push { cls:=.type "tuple",data:=.seq its.toArray } } :=
   I1.laid (t':=s.toks) (λb o e=>Heap.get?_push_of_some _ e) (P0 _) (show Bj X.prog X.w _ _ _ (.tup ys) from ⟨hz,its,r',IsTup.new _ _⟩)
  exact ⟨.ref h'.objs.size,_,I2,rfl,q _ (I1.hok.fresh (P0 _))⟩
 ·obtain ⟨its,r',pl,hz⟩:=I.tuple hq
  exact call_tuple_same pl ⟨.ref p,H,I,rfl,q⟩

def tyV (K:A0) (T:String) (x:V) (H:Hp):Prop:=match x with
 |.str _=>T="str"
 |.int _=>T="int"
 |.ref p=>(T="list"/\∃ xs,AD K H p xs)\/(T="tuple"/\∃ o,K.lookup p=some o/\o.cls=.type "tuple"/\o.dict=none) \/
   (T="dict"/\((∃ kvs,H p=some (.dK kvs))\/∃ kvs,H p=some (.dT kvs)))\/(T="set"/\∃ S n,H p=some (.set S n))
 |_=>False
theorem SH {pins:List (Addr×Obj)} {σ:St} {H:Hp} {s:Shared} {T:String} {x:V} {v:Value} (I:Ax X pins σ H s) (r:Ba x v) (ty:tyV X.K T x H) :
  s.TypeIs v T/\∀ a,v=.ref a->∃ ob,s.heap.get? a=some ob/\ob.dict=none:=by
 cases x with
 |str z =>
  obtain ⟨t,rfl⟩:=r
  cases (show T="str" from ty)
  exact ⟨typeIs_str s z t,λ_ e=>nomatch e⟩
 |int i =>
  obtain ⟨t,rfl⟩:=r
  cases (show T="int" from ty)
  exact ⟨typeIs_int s i t,λ_ e=>nomatch e⟩
 |ref p =>
  cases r
  rcases ty with ⟨rfl,xs,hq⟩ | ⟨rfl,o,hk,hc,hd⟩ | ⟨rfl,hk⟩ | ⟨rfl,S,n,hk⟩
  ·obtain ⟨its,_,pl,_⟩:=I.list hq
   refine ⟨pl.isList.typeIs,λa e=>?_⟩
   cases e
   obtain ⟨o,n,e,c,hd,_⟩:=pl
   exact ⟨o,e,hd⟩
  ·refine ⟨⟨o,I.kIn p o hk,hc⟩,λa e=>?_⟩
   cases e
   exact ⟨o,I.kIn _ o hk,hd⟩
  ·have z:∃ o,s.heap.get? p=some o/\o.ExactDict:=by
    rcases hk with ⟨kvs,hk⟩ | ⟨kvs,hk⟩
    ·obtain ⟨_,_,_,_,o,_,_,e,ex,_⟩:=I.hok p _ hk
     exact ⟨o,e,ex⟩
    ·obtain ⟨_,_,_,_,o,_,_,e,ex,_⟩:=I.hok p _ hk
     exact ⟨o,e,ex⟩
   obtain ⟨o,e,ex⟩:=z
   refine ⟨⟨o,e,ex.1⟩,λa e2=>?_⟩
   cases e2
   exact ⟨o,e,ex.2.1⟩
  ·obtain ⟨o,_,_,_,e,ex,_⟩:=I.hok p _ hk
   refine ⟨⟨o,e,ex.1⟩,λa e2=>?_⟩
   cases e2
   exact ⟨o,e,ex.2.1⟩
 |_=>exact False.elim ty
def tBM0 (K:A0) (T:String) (r:V->List V->Hp->VK->Prop) (to:TE):TE:=λσ H Q=>to σ H λx H1=>tyV K T x H1/\r x [] H1 Q
def tBM (K:A0) (T:String) (r:V->List V->Hp->VK->Prop) (to:TE) (t:TA):TE:=λσ H Q=>to σ H λx H1=>tyV K T x H1/\t σ H1 λxs H2=>r x xs H2 Q
variable {o e:Expr} {es:List Expr} {to:TE} {t:TA} {name:Str} {apos cpos:Pos} {T id:String} {r:V->List V->Hp->VK->Prop}
theorem pe_bm0 (pa:PlainAttrs T) (slot:Slot T name id) (hty:typeOf (.builtin id)=pure (.type "method_descriptor")) (hm:MtR X id r) (ho:PE X o to)
  (hbase:attributeBase o name X.env (eval o X.env)=eval o X.env:=by rfl) (hline:(apos.endLine == cpos.line)=true:=by rfl):PE X (.Call (.Attribute o name apos) [] [] cpos) (tBM0 X.K T r to):=by
 intro pins s σ H Q I h
 refine wpAny_Call_method0_late hbase hline (pB (ho pins s σ H _ I h) λv s1 x H1 I1 r1 z=>?_)
 obtain ⟨ty,q1⟩:=z
 obtain ⟨h1,h2⟩:=SH I1 r1 ty
 exact ⟨T,id,pa,slot,hty,h1,h2,Calls.callWith_builtin rfl (PySem.evalArgs_none (hm pins s1 σ H1 x [] v [] Q I1 r1 .nil q1))⟩
theorem Bk (pa:PlainAttrs T) (slot:Slot T name id) (hty:typeOf (.builtin id)=pure (.type "method_descriptor")) (hm:MtR X id r) (ho:PE X o to) (ha:PA X (e::es) t)
  (hbase:attributeBase o name X.env (eval o X.env)=eval o X.env:=by rfl)
  (hfew:((backTo cpos (starEach (e::es) X.env)).all (λx=>!x.1)&&(backToKw cpos (keywordEach [] X.env)).all (λx=>x.1.isSome)
   && decide ((e::es).length+([]:List Keyword).length+(if ([]:List Keyword).isEmpty then 0 else 1)<30))=true:=by rfl)
  (hline:(apos.endLine == cpos.line)=true:=by rfl) (hs:starEach (e::es) X.env=(false,eval e X.env)::starEach es X.env:=by rfl) (hplain:(backTo cpos (starEach es X.env)).any (·.1)=false:=by rfl) :
  PE X (.Call (.Attribute o name apos) (e::es) [] cpos) (tBM X.K T r to t):=by
 intro pins s σ H Q I h
 refine wpAny_Call_method_late hbase hfew hline rfl (pB (ho pins s σ H _ I h) λv s1 x H1 I1 r1 z=>?_)
 obtain ⟨ty,q1⟩:=z
 obtain ⟨h1,h2⟩:=SH I1 r1 ty
 refine ⟨T,id,pa,slot,hty,h1,h2,?_⟩
 have hA:=ha cpos pins s1 σ H1 _ I1 q1
 rw [hs] at hA |-
 refine Calls.callWith_builtin (by show (false||(backTo cpos (starEach es X.env)).any (·.1))=false;rw [hplain]<;>rfl) (Calls.evalArgs_plain ?_)
 exact Bl hA λus s2 ⟨vs,H2,I2,r2,q2⟩=>hm pins s2 σ H2 x vs v us Q I2 r1 r2 q2
/- xs.append(e),list.index on a module's tuple .. are MtR facts of 06m -/
end

def MtM (X:Cx) (id:String) (r:V->List V->Hp->VK->Prop):Prop :=
 ∀ (pins:List (Addr×Obj)) (s:Shared) (σ:St) (H:Hp) (x:V) (xs:List V) (v:Value) (us:List Value) (Q:VK),Ax X pins σ H s->Ba x v->AR xs us->r x xs H Q ->
  wpAny (model X.prog X.w) X.A (call (.builtin id) (v::us)) (EP X pins σ Q) X.xe s

theorem AR.one:∀ {x:V} {us:List Value},AR [x] us->∃ u,us=[u]/\Ba x u
 |_,_,.cons r .nil=>⟨_,rfl,r⟩
theorem AR.zero:∀ {us:List Value},AR [] us->us=[]
 |_,.nil=>rfl
theorem AR.dropLast {xs:List V} {us:List Value} (h:AR xs us):AR xs.dropLast us.dropLast:=by
 induction h with
 |nil=>exact .nil
 |cons r t ih =>
  cases t with
  |nil=>exact .nil
  |cons q t'=>exact .cons r ih
theorem PF {α:Type} (l:List α):l.eraseIdx (l.length-1)=l.dropLast:=by
 induction l with
 |nil=>rfl
 |cons a r ih =>
  cases r with
  |nil=>rfl
  |cons b r =>
   have e:(a::b::r).length-1=((b::r).length-1)+1:=by
    have h1:(a::b::r).length=r.length+2:=rfl
    have h2:(b::r).length=r.length+1:=rfl
    lia
   rw [e,List.eraseIdx_cons_succ,ih]
   all_goals rfl
section
variable {X:Cx} {pins:List (Addr×Obj)} {σ:St} {H:Hp} {s:Shared} {l b:Addr} {xs ys zs:List V}

theorem Ax.lset {its its':List Value} {n:Nat} {f:Array Value->Array Value} {t':Nat} (I:Ax X pins σ H s) (hH:H l=some (.lst xs))
  (e:s.heap.get? l=some { cls:=.type "list",data:=.seq its.toArray n }) (hf:f its.toArray=its'.toArray) (hv:AR ys its') (hz:ys.length<=sizeLine) :
  Ax X pins σ (upd H l (.lst ys)) { s with heap:=s.heap.update l (Obj.mapSeq f),toks:=t' }:=by
 have q:=PySem.IsL.update e f
 rw [hf] at q
 refine I.write (x:=l) (e:=l) (by rw [hH];exact trivial) (.inl rfl) (λb' u hb hu=>(Heap.get?_update_other s.heap (Obj.mapSeq f) (Ne.symm hb)).trans hu) ⟨_,q⟩ ?_
 exact ⟨hz,its',_,hv,q⟩
theorem Ax.lnew {its:List Value} {t':Nat} (I:Ax X pins σ H s) (hv:AR ys its) (hz:ys.length<=sizeLine) :
  Ax X pins σ (upd H s.heap.objs.size (.lst ys)) { s with heap:=s.heap.push { cls:=.type "list",data:=.seq its.toArray },toks:=t' } :=
 I.laid (λ_ _ q=>Heap.get?_push_of_some _ q) (P0 _) ⟨hz,its,0,hv,Heap.get?_push_size _ rfl⟩
theorem Ax.fresh (I:Ax X pins σ H s):H s.heap.objs.size=none:=I.hok.fresh (P0 _)
theorem Ax.lstM (I:Ax X pins σ H s) (hH:H l=some (.lst xs)):xs.length<=sizeLine/\∃ (its:List Value) (n:Nat),AR xs its/\xs.length=its.length/\s.heap.get? l=some { cls:=.type "list",data:=.seq its.toArray n }:=by
 obtain ⟨z,its,n,r,e⟩:=I.hok l _ hH
 exact ⟨z,its,n,r,r.length,e⟩

theorem Uj {n:Nat} (h:n<=sizeLine):Builtin.List.listTooLong n=false:=by
 unfold Builtin.List.listTooLong
 exact decide_eq_false (by lia)
end

section
variable {X:Cx}

def Qx:V->List V->Hp->VK->Prop:=λx vs H Q=>∃ l xs y,x=.ref l/\vs=[y]/\H l=some (.lst xs)/\xs.length<sizeLine/\Q .non (upd H l (.lst (xs++[y])))
theorem AW:MtM X "list.append" Qx:=by
 intro pins s σ H x vs v us Q I rx rv h
 obtain ⟨l,xs,y,rfl,rfl,hH,hz,q⟩:=h
 cases rx
 obtain ⟨u,rfl,ru⟩:=rv.one
 obtain ⟨z,its,n,r,hl,e⟩:=I.lstM hH
 refine call_meets F.slot_list_append ⟨_,e,rfl⟩ F.entry_list_append (F.args_list_append_2 _ _) (PySem.list_append l its.toArray n u (by rw [V0];lia)) ⟨e,?_⟩
 refine ⟨.non,_,I.lset (its':=its++[u]) hH e (by simp) (r.append (.cons ru .nil)) ?_,rfl,q⟩
 rw [K0,l7]
 lia

def rExtend:V->List V->Hp->VK->Prop:=λx vs H Q=>∃ l b xs zs,x=.ref l/\vs=[.ref b]/\H l=some (.lst xs)/\H b=some (.lst zs)/\xs.length+zs.length<=sizeLine/\Q .non (upd H l (.lst (xs++zs)))
theorem EY:MtM X "list.extend" rExtend:=by
 intro pins s σ H x vs v us Q I rx rv h
 obtain ⟨l,b,xs,zs,rfl,rfl,hH,hB,hz,q⟩:=h
 cases rx
 obtain ⟨u,rfl,ru⟩:=rv.one
 cases ru
 obtain ⟨z,its,n,r,hl,e⟩:=I.lstM hH
 obtain ⟨z2,its2,n2,r2,hl2,e2⟩:=I.lstM hB
 have hsz:its.toArray.size+its2.toArray.size<=sizeLine:=by rw [V0,V0];lia
 have hlong:¬ (!its.toArray.isEmpty&&Builtin.List.listTooLong (its.toArray.size+its2.toArray.size))=true:=by
  rw [Uj hsz,Y6]
  exact Q0
 refine call_meets F.slot_list_extend ⟨_,e,rfl⟩ F.entry_list_extend (F.args_list_extend_2 _ _)
  (AutoSeq1.list_extend_list_list_0 l its.toArray n b its2.toArray n2 hlong (by rw [V0];lia) (by lia)) ⟨e,e2,?_⟩
 refine ⟨.non,_,I.lset (its':=its++its2) hH e (by simp) (r.append r2) ?_,rfl,q⟩
 rw [K0]
 lia

def rPop:V->List V->Hp->VK->Prop:=λx vs H Q=>∃ l xs y,x=.ref l/\vs=[]/\H l=some (.lst xs)/\xs[xs.length-1]?=some y/\Q y (upd H l (.lst xs.dropLast))
theorem mt_pop:MtM X "list.pop" rPop:=by
 intro pins s σ H x vs v us Q I rx rv h
 obtain ⟨l,xs,y,rfl,rfl,hH,hy,q⟩:=h
 cases rx
 have hus:=rv.zero
 subst hus
 obtain ⟨z,its,n,r,hl,e⟩:=I.lstM hH
 obtain ⟨u,hu,ru⟩:=r.get hy
 have hy':its.toArray[its.toArray.size-1]?=some u:=by
  show its.toArray[its.length-1]?=some u
  rw [<- Array.getElem?_toList,<- hl]
  exact hu
 refine call_meets F.slot_list_pop ⟨_,e,rfl⟩ F.entry_list_pop (F.args_list_pop_1 _) (MeetsSeq.list_pop_last l its.toArray n u hy' (by rw [V0];lia)) ⟨e,?_⟩
 refine ⟨y,_,I.lset (its':=its.dropLast) hH e ?_ r.dropLast ?_,ru,q⟩
 ·show its.toArray.eraseIdxIfInBounds (its.toArray.size-1)=its.dropLast.toArray
  rw [V0,List.eraseIdxIfInBounds_toArray,PF]
 ·rw [List.length_dropLast]
  lia

def rCat:R2:=λx y H Q=>∃ l b xs zs,x=.ref l/\y=.ref b/\H l=some (.lst xs)/\H b=some (.lst zs)/\xs.length+zs.length<=sizeLine/\∀ p,H p=none->Q (.ref p) (upd H p (.lst (xs++zs)))
theorem CK:GC X (binaryOp .Add) rCat:=by
 intro pins s σ H x y v u Q I rx ry h
 obtain ⟨l,b,xs,zs,rfl,rfl,hH,hB,hz,q⟩:=h
 cases rx
 cases ry
 obtain ⟨z,its,n,r,hl,e⟩:=I.lstM hH
 obtain ⟨z2,its2,n2,r2,hl2,e2⟩:=I.lstM hB
 refine PySem.P.add_list e e2 ?_ (by rw [V0,V0];lia)
 have ea:its.toArray++its2.toArray=(its++its2).toArray:=by simp
 rw [ea]
 exact ⟨.ref _,_,I.lnew (t':=s.toks) (r.append r2) (by rw [K0];lia),rfl,q _ I.fresh⟩
end

section
variable {prog:Program} {w:World} {A:Around} {E:Value->Shared->Prop} {s:Shared}
end

section
variable {X:Cx}
end
end L2

namespace Att
open PySem PySem.W PySem.Calls PyProof.Rows

theorem JG {P:Params} {h:Heap}:∀ (ns:List Int) (vs:List Value),WellAll P h vs (ns.map WData.int)->IntsAre vs ns:=by
 intro ns
 induction ns with
 |nil =>
  intro vs w
  rw [x6] at w
  cases w
  exact .nil
 |cons n ns ih =>
  intro vs w
  rw [j2] at w
  cases w with
  |cons a b =>
   cases a
   exact .cons _ _ (ih _ b)

theorem RD {l:OpenLaw} {n:Nat} (hn:l.most=some n) {P:Params} {h:Heap} {args:List WData} {vals:List Value}
  (hpre:l.row.toRowW.claim.pre args=true) (hwl:WellAll P h vals args) :
  ∃ a vs ns,vals=[Value.ref a]/\args=[WData.list (ns.map WData.int)]/\h.get? a=some { cls:=.type "list",data:=.seq vs.toArray }/\IntsAre vs ns/\ns.length<=n:=by
 have hsh:WShape.hasAll [] args [.list .int]=true:=(pre_splitW hpre).1
 have hc:l.pre.holds [] { args:=args }=true:=(pre_splitW hpre).2
 obtain ⟨d,r,rfl,h1,h2⟩:=hasAllW_cons hsh
 obtain rfl:=hasAllW_nil h2
 obtain ⟨xs,rfl,h3⟩:=hasW_list h1
 obtain ⟨ns,rfl⟩:=items_int h3
 have hlen:ns.length<=n:=by
  unfold OpenLaw.pre at hc
  have h4:(WTm.not (.lt (.lit (.int (n:Int))) (.len (.arg 0)))).holds [] { args:=[.list (ns.map .int)] }=true:=by
   have h4:=(holds_andW hc).1
   rw [hn] at h4
   exact h4
  have h5:=condW_of h4 (w_not (w_lt w_lit (w_len_list (w_arg rfl))))
  rw [J0] at h5
  refine Nat.le_of_not_lt λq=>?_
  have q':(n:Int)<((ns.length:Nat):Int):=by lia
  first
   | (rw [decide_eq_true q'] at h5;exact absurd h5 (by kd_p))
   | (simp at h5;lia)
 cases hwl with
 |cons w1 w2 =>
  cases w2
  cases w1 with
  |list ho hall=>exact ⟨_,_,ns,rfl,rfl,ho,JG ns _ hall,hlen⟩

theorem RK (l:OpenLaw) (args:List WData):l.row.toRowW.claim.post args (.bool true) args=true :=
 postW_of (r:=l.row.toRowW) (X:=(true == true))
  (show WShape.has [] (.bool true) .bool=true by first | rfl | decide | simp [WShape.has,WShape.arms,WShape.armsAll])
  (show (WTm.eq .res (.lit (.bool true))).value [] { args:=args,res:=some (.bool true),after:=args }=some (.bool (true == true)) from w_eq_bool (w_res rfl) w_lit) rfl

theorem attach_call {l:OpenLaw} {n:Nat} {q:Program} {loose:List Str} {XP:(Str->Option Value)->Heap->Prop} {YP:World->Heap->Prop} {d:DefRec}
  (hn:l.most=some n) (hdf:d.params.defaults=[])
  (call:∀ (w:World) (s₀ s₁:Shared) (mg mb:Str->Option Value) (fa:Addr) (o:Obj) (pm cd doc:Value) (a:Addr) (vs:List Value) (ns:List Int),
   Ground q loose [] XP w s₀ mg mb s₁.heap->YP w s₁.heap ->
   s₁.heap.get? fa=some o->o.data=.func (docDef d.name d.params d.body d.scope pm cd doc)->s₁.heap.CodeRec cd d.name->mg d.name=some (.ref fa) ->
   s₁.heap.get? a=some { cls:=.type "list",data:=.seq vs.toArray }->IntsAre vs ns->ns.length<=n->s₁.gens=#[] ->
   codeAny (model l.prog w) callerA (.call (.ref fa) ⟨[.ref a],[]⟩) (λr s'=>r=.ok (.ret (.bool true))/\OldK s₁.heap s'.heap/\s'.os=s₁.os/\AllBare s'.gens) s₁) :
  WalkO q loose XP YP l.row.toRowW d [] (λf vs=>PySem.call f vs):=by
 intro w s₀ s₁ mg mb G Y fa o pm cd doc dV kV ho hd hcd hD hmg hg args vals as hpre hlay hrd hwl hlo
 obtain rfl:dV=.none:=Dflts.none hD hdf
 obtain rfl:kV=.none:=Dflts.noKw hD
 obtain ⟨a,vs,ns,rfl,rfl,hobj,hints,hlen⟩:=RD hn hpre hwl
 refine enter_call (codeAny_mono (call w s₀ s₁ mg mb fa o pm cd doc a vs ns G Y ho (fd_plain hd) hcd hmg hobj hints hlen hg) λr s' hq=>?_)
 obtain ⟨rfl,h2,h3,h4⟩:=hq
 exact ⟨.inl ⟨.bool true,.bool true,[],rfl,λ_=>rfl,.bool true,RK l _,λ_=>⟨List.Pairwise.nil,λ_ hm=>(nomatch hm)⟩⟩,h2,h3,h4⟩

section
variable {prog:Program} {w:World} {A:Around} {E:Value->Shared->Prop} {s:Shared} {K:Frag}

end
end Att

namespace L2
open PySem PySem.Spec PyProof.Rows

theorem Lr:∀ {vs:List Value} {ns:List Int},IntsAre vs ns->AR (ns.map V.int) vs
 |_,_,.nil=>.nil
 |_,_,.cons n t h=>.cons ⟨t,rfl⟩ (Lr h)

def Only (H:Hp):Prop:=∀ b,H b=none\/∃ o xs,H b=some (.frz o (.lst xs))

theorem Uw {P:Program} {w:World} {K:A0} {mg mb:Str->Option Value} {CX:LX} {k:Nat} {fa a:Addr} {fd:FuncData} {x:Str} {sp:Sp} {s₁:Shared} {vs:List Value} {ns:List Int}
  (KX:K.In s₁.heap) (hns:s₁.heap.Ns mainGlobals mg) (hb:s₁.heap.Ns builtinsNs mb) (hbb:∀ x:Str,x≠"__name__"->mb x=bootBuiltins x) (hlim:s₁.heap.NoLimit) (hg:s₁.gens=#[])
  (ha:s₁.heap.get? a=some { cls:=.type "list",data:=.seq vs.toArray }) (hi:IntsAre vs ns) (hl:ns.length<=sizeLine) (hr:BZ k callerA)
  (F:∀ base:Heap,K.In base->base.Ns mainGlobals mg->AS P w K mg base CX k fa fd [x] sp) (hbind:∀ (s:Shared) (u:Value),BindsTo s fd ⟨[u],[]⟩ [(x,u)])
  (hsp:∀ H:Hp,Only H->AD K H a (ns.map V.int)->sp [.ref a] H (λv _=>v=.bl true) λ_ _ _=>False)
  (hCX:∀ H e s',CX [] H s₁ (λ_ _ _=>False) e s'->False) :
  codeAny (model P w) callerA (.call (.ref fa) ⟨[.ref a],[]⟩) (λr s'=>r=.ok (.ret (.bool true))/\OldK s₁.heap s'.heap/\s'.os=s₁.os/\AllBare s'.gens) s₁:=by
 have rv:=Lr hi
 have lenV:=hi.length
 -- from an abstract heap in which nothing but the script may be tracked
 have core:∀ H:Hp,Only H->AD K H a (ns.map V.int)->GX P w H s₁.heap->(∀ b,H b≠none->b=a)->(H a≠none->K.lookup a=none) ->
   codeAny (model P w) callerA (.call (.ref fa) ⟨[.ref a],[]⟩) (λr s'=>r=.ok (.ret (.bool true))/\OldK s₁.heap s'.heap/\s'.os=s₁.os/\AllBare s'.gens) s₁:=by
  intro H hO hS hok hA hK
  have base_of:∀ {b:Addr} {o:Obj},s₁.heap.get? b=some o->H b=none->(MH s₁.heap H).get? b=some o:=λe n=>UI e n
  have noA:∀ {b:Addr} {o:Obj} {es:Array DictEntry} {ep:Nat},s₁.heap.get? b=some o->o.data=.dict es ep->H b=none:=λ{b o es ep} e d=>by
   cases q:H b with
   |none=>rfl
   |some u =>
    have e':b=a:=hA b (by rw [q];simp)
    subst e'
    rw [ha] at e;cases e
    have d':Data.seq vs.toArray _=Data.dict es ep:=d
    cases d'
  have nsK:∀ {b:Addr} {m:Str->Option Value},s₁.heap.Ns b m->(MH s₁.heap H).Ns b m:=λ{b m} ⟨o,es,ep,e,d,r⟩=>⟨o,es,ep,base_of e (noA e d),d,r⟩
  have hKb:K.In (MH s₁.heap H):=λb o e=>base_of (KX b o e) (by
   cases q:H b with
   |none=>rfl
   |some u =>
    have e':b=a:=hA b (by rw [q];simp)
    subst e'
    rw [hK (by rw [q];simp)] at e;cases e)
  have hM:Mod K mg (MH s₁.heap H):=⟨hKb,nsK hns,⟨mb,nsK hb,hbb⟩,let ⟨mc,h1,h2⟩:=hlim;⟨mc,nsK h1,h2⟩⟩
  have e0:Qd P w K mg (MH s₁.heap H) callerA [] s₁ H:=⟨rfl,hM,λb o e=>of_hidT e,B9 (RZ _ _),trivial,λb hb=>absurd (show b∈([]:List Addr) from hb) (by simp),hok,.of_eq hg⟩
  refine codeAny_mono ((F _ hKb (nsK hns)).run callerA [] s₁ H ⟨[.ref a],[]⟩ [.ref a] [.ref a] _ _ hr e0 (hbind s₁ (.ref a)) (.cons rfl .nil) (hsp H hO hS)) λr s' h=>?_
  cases r with
  |error e=>exact (hCX H e s' h).elim
  |ok fl =>
   cases fl with
   |next=>exact False.elim h
   |brk=>exact False.elim h
   |cont=>exact False.elim h
   |ret u =>
    obtain ⟨v,H',os,bare,un,hok',r',q⟩:=h
    have q':v=.bl true:=q
    subst q'
    obtain rfl:u=Value.bool true:=r'
    refine ⟨rfl,OldK.of_keep λb o e=>?_,os,bare⟩
    cases q:H b with
    |none=>exact un.keep b o e q (by intro z;exact absurd (show b∈([]:List Addr) from z) (by simp)) (by simp)
    |some u =>
     rcases hO b with z | ⟨ob,xs,z⟩
     ·rw [q] at z;cases z
     ·have z2:=un.frzs b ob _ z
      obtain ⟨e1,_⟩:=hok b _ z
      obtain ⟨e2,_⟩:=hok' b _ z2
      rw [e] at e1;cases e1
      exact e2
 cases hk:K.lookup a with
 |some o =>
  -- the script is one of the module's own objects
  have e:=KX a o hk
  rw [ha] at e
  cases e
  refine core (λ_=>none) (λ_=>.inl rfl) (.inr ⟨_,vs.toArray,_,hk,rfl,rfl,rfl,by rw [V0,lenV];exact hl,by simpa using rv⟩) (λb u z=>by have z':(none:Option HO)=some u:=z;cases z') (λb z=>absurd rfl z) λz=>absurd rfl z
 |none =>
  refine core (λb=>if b=a then some (.frz { cls:=.type "list",data:=.seq vs.toArray } (.lst (ns.map V.int))) else none) (λb=>?_) (.inl (.inr ⟨{ cls:=.type "list",data:=.seq vs.toArray },if_pos rfl⟩)) (λb u z=>?_) (λb z=>?_) λ_=>hk
  ·by_cases hb:b=a
   ·exact .inr ⟨_,_,if_pos hb⟩
   ·exact .inl (if_neg hb)
  ·by_cases hb:b=a
   ·have z':=(if_pos hb).symm.trans z
    cases z'
    subst hb
    exact ⟨ha,by rw [J0];exact hl,vs,_,rv,ha⟩
   ·have z':=(if_neg hb).symm.trans z
    cases z'
  ·by_cases hb:b=a
   ·exact hb
   ·exact absurd (if_neg hb) z

theorem walk_of {l:g8} {n k:Nat} {q:Program} {loose:List Str} {XP:(Str->Option Value)->Heap->Prop} {YP:World->Heap->Prop} {d:DefRec} {K:Params->A0} {CX:World->LX} {sp:World->Sp} {x:Str}
  (hn:l.most=some n) (hn2:n<=sizeLine) (hdf:d.params.defaults=[]) (hr:BZ k callerA)
  (hY:∀ (w:World) (h:Heap),YP w h->(K w.params).In h)
  (F:∀ (w:World) (mg:Str->Option Value) (fa:Addr) (h:Heap),(K w.params).In h->h.Ns mainGlobals mg->mg d.name=some (.ref fa) ->
   ∃ fd:FuncData,(∀ (s:Shared) (u:Value),BindsTo s fd ⟨[u],[]⟩ [(x,u)]) /\
    ∀ base:Heap,(K w.params).In base->base.Ns mainGlobals mg->AS l.prog w (K w.params) mg base (CX w) k fa fd [x] (sp w))
  (hsp:∀ (w:World) (H:Hp) (a:Addr) (ns:List Int),ns.length<=n->Only H->AD (K w.params) H a (ns.map V.int)->sp w [.ref a] H (λv _=>v=.bl true) λ_ _ _=>False)
  (hCX:∀ (w:World) (H:Hp) (s:Shared) (e:Value) (s':Shared),CX w [] H s (λ_ _ _=>False) e s'->False) :
  PySem.W.WalkO q loose XP YP l.row.toRowW d [] (λf vs=>PySem.call f vs):=by
 refine Att.attach_call hn hdf λw s₀ s₁ mg mb fa o pm cd doc a vs ns G Y ho hd hcd hmg hobj hints hlen hg=>?_
 have KX:=hY w _ Y
 obtain ⟨fd,hb,hF⟩:=F w mg fa _ KX G.T.g hmg
 exact Uw KX G.T.g G.T.b G.T.builtins G.T.nolimit hg hobj hints (C0 hlen hn2) hr hF hb (λH hO hS=>hsp w H a ns hlen hO hS) λH e s'=>hCX w H s₁ e s'
theorem walk_ofK {l:g8} {n k:Nat} {q:Program} {loose:List Str} {XP:(Str->Option Value)->Heap->Prop} {YP:World->Heap->Prop} {d:DefRec} {K:Params->A0} {CX:LX} {sp:A0->Sp} {x:Str}
  (hn:l.most=some n) (hn2:n<=sizeLine) (hdf:d.params.defaults=[]) (hr:BZ k callerA)
  (hY:∀ (w:World) (h:Heap),YP w h->(K w.params).In h)
  (F:∀ (w:World) (mg:Str->Option Value) (fa:Addr) (h:Heap),(K w.params).In h->h.Ns mainGlobals mg->mg d.name=some (.ref fa) ->
   ∃ fd:FuncData,(∀ (s:Shared) (u:Value),BindsTo s fd ⟨[u],[]⟩ [(x,u)]) /\
    ∀ base:Heap,(K w.params).In base->base.Ns mainGlobals mg->AS l.prog w (K w.params) mg base CX k fa fd [x] (sp (K w.params)))
  (hsp:∀ (K:A0) (H:Hp) (a:Addr) (ns:List Int),ns.length<=n->Only H->AD K H a (ns.map V.int)->sp K [.ref a] H (λv _=>v=.bl true) λ_ _ _=>False)
  (hCX:∀ (H:Hp) (s:Shared) (e:Value) (s':Shared),CX [] H s (λ_ _ _=>False) e s'->False) :
  PySem.W.WalkO q loose XP YP l.row.toRowW d [] (λf vs=>PySem.call f vs) :=
 walk_of (K:=K) (CX:=λ_=>CX) (sp:=λw=>sp (K w.params)) hn hn2 hdf hr hY F (λw H a ns h1 h2 h3=>hsp (K w.params) H a ns h1 h2 h3) λ_ H s e s'=>hCX H s e s'

def Ag (s:Stmt) (j:Nat):Stmt:=match s with
 |.ClassDef _ _ _ body _ _ _ _ _ _ _=>body.getD j (.Pass ⟨0,0,0,0⟩)
 |_=>.Pass ⟨0,0,0,0⟩
def AZ (s:Stmt):Arguments:=match s with
 |.FunctionDef _ a _ _ _ _ _ _ _ _=>a
 |_=>{ posonlyargs:=[],args:=[],vararg:=none,kwonlyargs:=[],kw_defaults:=[],kwarg:=none,defaults:=[] }
def AT (s:Stmt):List Stmt:=match s with
 |.FunctionDef _ _ b _ _ _ _ _ _ _=>b
 |_=>[]
def At (s:Stmt):Scope:=match s with
 |.FunctionDef _ _ _ _ _ _ sc _ _ _=>sc
 |_=>{ kind:=.function,names:=[],isGenerator:=false,isCoroutine:=false }

abbrev CX0:LX:=λ_ _ _ _ _ _=>False
abbrev E0:XK:=λ_ _ _=>False
theorem AH {X:Cx}:Em CX0 X E0:=λ_ _ _ _ _ _ _ h=>h.elim

structure Sx (K:A0) (x qual:Str) (st:Stmt) (f:Addr) (fd:FuncData):Prop where
 ex:∃ (oc:Value) (od:Option Addr) (kV doc pm:Value) (an:Option Addr) (cdv ct:Value) (osl:Array (Option Value)),
  fd=V2 x qual (AZ st) (AT st) (At st) .none kV doc pm an cdv ct/\K.lookup f=some ⟨oc,od,.func fd,osl⟩/\E4 K cdv qual=true
 kp:T2 K (.ref f)=true
section
variable {P:Program} {w:World} {K:A0} {mg:Str->Option Value} {base:Heap}
theorem Sx.ok {x qual:Str} {st:Stmt} {f:Addr} {fd:FuncData} {N ps:List Str} {k:Nat} {sp:Sp} (F:Sx K x qual st f fd) (S:DX N ps (At st)) (len:∀ vs H Q E,sp vs H Q E->vs.length=ps.length)
  (hbody:∀ (cdv:Value) (A:Around) (outer:List Env) (s:Shared) (H:Hp) (vs:List V) (Q:VK) (E:XK),BZ k (A.deeper (envOfC qual (At st) s.heap.objs.size f cdv))->sp vs H Q E ->
   ∃ t,KI (Ff CX0 P w K mg base N qual (At st) f cdv A outer s H E).nox (AT st) t/\t { nx:=λ_ H'=>Q .non H',rt:=Q } (start N vs) H):AS P w K mg base CX0 (k+1) f fd ps sp:=by
 obtain ⟨oc,od,kV,doc,pm,an,cdv,ct,osl,rfl,lk,hcd⟩:=F.ex
 refine UQ lk hcd S len λA outer s H vs Q E hr hsp=>?_
 obtain ⟨t,h,q⟩:=hbody cdv A outer s H vs Q E hr hsp
 exact ⟨t,h.nox,q⟩
theorem Sx.binds {x qual:Str} {st:Stmt} {f:Addr} {fd:FuncData} {ps:List Str} (F:Sx K x qual st f fd)
  (h:∀ (kV doc pm:Value) (an:Option Addr) (cdv ct:Value) (us:List Value),us.length=ps.length->bindArgs (V2 x qual (AZ st) (AT st) (At st) .none kV doc pm an cdv ct) ⟨us,[]⟩=pure (ps.zip us)):Ci K fd ps []:=by
 obtain ⟨oc,od,kV,doc,pm,an,cdv,ct,osl,rfl,lk,hcd⟩:=F.ex
 exact .all (h kV doc pm an cdv ct)
theorem Pw {x qual:Str} {st:Stmt} {f:Addr} {oc:Value} {od an:Option Addr} {osl:Array (Option Value)} {kV doc pm cdv ct:Value} (l:K.lookup f=some ⟨oc,od,.func (V2 x qual (AZ st) (AT st) (At st) .none kV doc pm an cdv ct),osl⟩)
  (c:E4 K cdv qual=true) (k:T2 K (.ref f)=true):Sx K x qual st f (V2 x qual (AZ st) (AT st) (At st) .none kV doc pm an cdv ct):=⟨⟨oc,od,kV,doc,pm,an,cdv,ct,osl,rfl,l,c⟩,k⟩
end
theorem CG {A:Around} {k:Nat} (hr:BZ k A):A.units+1<cLine:=P4 (Nat.add_le_add_left (by decide:1<=64) _) hr.units
theorem Dq {n:Nat} (h:n<=1000):n<sizeLine:=P4 h (by kd_p)

section
variable {X:Cx}
theorem pv (i:Nat) {x:Str} {pos:Pos} (hN:X.N[i]?=some x:=by rfl) (hv:Vis X.env.scope x:=by first | exact Or.inl rfl | exact Or.inr (Or.inl rfl) | exact Or.inr (Or.inr rfl)) (hd:(x == ("__debug__":Str))=false:=by kd_p)
  (hcd:(x == ("__classdict__":Str))=false:=by kd_p):PE X (.Name x pos) (Hh i):=pe_var hN hv hd hcd
end

theorem iteF {A B:Prop} (h:B):if false=true then A else B:=by
 rw [if_neg Q0]
 exact h
theorem iteT {A B:Prop} (h:A):if true=true then A else B:=by
 rw [if_pos rfl]
 exact h
def Af (H H':Hp):Prop:=∀ b o,H b=some o->H' b=some o
theorem Af.refl (H:Hp):Af H H:=λ_ _ h=>h
theorem Af.trans {H H1 H2:Hp} (a:Af H H1) (b:Af H1 H2):Af H H2:=λc o h=>b c o (a c o h)
theorem Af.free {H H':Hp} (e:Af H H') {l:Addr} (h:H' l=Option.none):H l=Option.none:=by
 cases q:H l with
 |none=>rfl
 |some o =>
  rw [e l o q] at h
  cases h
theorem Af.seq {K:A0} {H H':Hp} {a:Addr} {xs:List V} (e:Af H H') (h:AD K H a xs):AD K H' a xs:=by
 rcases h with (h | ⟨o,h⟩) | h
 ·exact .inl (.inl (e _ _ h))
 ·exact .inl (.inr ⟨o,e _ _ h⟩)
 ·exact .inr h


section
variable {κ:Type} [DecidableEq κ]
def valV (kvs:List (κ×V)) (k:κ):Option V:=(kvs.find? λkv=>decide (kv.1=k)).map (·.2)
def Fo (kvs:List (κ×V)) (k:κ) (v:V):List (κ×V) :=
 if (kvs.any λkv=>decide (kv.1=k))=true then kvs.map (λkv=>if kv.1=k then (kv.1,v) else kv) else kvs++[(k,v)]
theorem SD {k:κ}:valV ([]:List (κ×V)) k=none:=rfl
theorem Cj {p:κ×V} {r:List (κ×V)} {k:κ} (e:p.1=k):valV (p::r) k=some p.2:=by simp [valV,T0,e]
theorem Ck {p:κ×V} {r:List (κ×V)} {k:κ} (e:¬ p.1=k):valV (p::r) k=valV r k:=by simp [valV,T0,e]
theorem HG (k:κ):∀ kvs:List (κ×V),(kvs.any λkv=>decide (kv.1=k))=(valV kvs k).isSome
 |[]=>rfl
 |p::r=>by
  rw [N7]
  by_cases e:p.1=k
  ·simp only [Cj e,decide_eq_true e,Bool.true_or,Option.isSome_some]
  ·rw [Ck e,decide_eq_false e,P7];exact HG k r
theorem Nd (k j:κ) (y:V):∀ kvs:List (κ×V),valV (kvs.map λkv=>if kv.1=k then (kv.1,y) else kv) j=(valV kvs j).map λx=>if j=k then y else x
 |[]=>rfl
 |p::r=>by
  have ih:=Nd k j y r
  rw [j2]
  by_cases h:p.1=k
  ·rw [if_pos h]
   by_cases e:p.1=j
   ·rw [Cj (p:=(p.1,y)) e,Cj e,f7,if_pos (e.symm.trans h)]
   ·rw [Ck (p:=(p.1,y)) e,Ck e,ih]
  ·rw [if_neg h]
   by_cases e:p.1=j
   ·rw [Cj (p:=p) e,Cj e,f7,if_neg (λz=>h (e.trans z))]
   ·rw [Ck (p:=p) e,Ck e,ih]
theorem Ls (k j:κ) (y:V):∀ kvs:List (κ×V),valV kvs k=none->valV (kvs++[(k,y)]) j=if j=k then some y else valV kvs j
 |[],_=>by
  by_cases e:k=j
  ·rw [if_pos e.symm];exact Cj (p:=(k,y)) e
  ·rw [if_neg (λz=>e z.symm)];exact Ck (p:=(k,y)) e
 |p::r,hn=>by
  rw [f6]
  have hk:¬ p.1=k:=λz=>by rw [Cj z] at hn;cases hn
  rw [Ck hk] at hn
  have ih:=Ls k j y r hn
  by_cases e:p.1=j
  ·rw [Cj e,Cj e,if_neg (λz=>hk (e.trans z))]
  ·rw [Ck e,Ck e,ih]
theorem HF (kvs:List (κ×V)) (k j:κ) (y:V):valV (Fo kvs k y) j=if j=k then some y else valV kvs j:=by
 unfold Fo
 by_cases a:(kvs.any λkv=>decide (kv.1=k))=true
 ·rw [if_pos a,Nd]
  rw [HG] at a
  by_cases e:j=k
  ·obtain ⟨x,hx⟩:=L7.mp a
   rw [if_pos e,e,hx,f7,if_pos rfl]
  ·rw [if_neg e]
   cases valV kvs j with
   |none=>rfl
   |some x=>rw [f7,if_neg e]
 ·rw [if_neg a]
  refine Ls k j y kvs ?_
  rw [HG] at a
  cases q:valV kvs k with
  |none=>rfl
  |some x=>rw [q] at a;exact (a rfl).elim
theorem BB (kvs:List (κ×V)) (k:κ) (v:V):(Fo kvs k v).length<=kvs.length+1:=by
 unfold Fo
 split
 ·rw [J0];lia
 ·rw [K0,v0,j3];lia
theorem DK.isSome_eq {o:Option V} {u:Option Value} (r:DK o u):o.isSome=u.isSome:=by
 cases o with
 |none=>cases u with
  |none=>rfl
  |some _=>exact (show False from r).elim
 |some _=>cases u with
  |none=>exact (show False from r).elim
  |some _=>rfl
theorem DK.getD {o:Option V} {u:Option Value} {d:V} {d':Value} (r:DK o u) (rd:Ba d d'):Ba (o.getD d) (u.getD d'):=by
 cases o with
 |none=>cases u with
  |none=>exact rd
  |some _=>exact (show False from r).elim
 |some _=>cases u with
  |none=>exact (show False from r).elim
  |some _=>exact r

theorem KV.val {kvs:List (κ×V)} {vs:List (κ×Value)} (r:KV kvs vs) (k:κ):DK (valV kvs k) (valueAt vs k):=by
 unfold KV at r
 induction r with
 |nil=>exact True.intro
 |@cons p q ps qs h t ih =>
  obtain ⟨h1,h2⟩:=h
  by_cases e:p.1=k
  ·have e':q.1=k:=h1.symm.trans e
   have b:valueAt (q::qs) k=some q.2:=by simp [valueAt,T0,e']
   rw [Cj e,b];exact h2
  ·have e':¬ q.1=k:=λz=>e (h1.trans z)
   have b:valueAt (q::qs) k=valueAt qs k:=by simp [valueAt,T0,e']
   rw [Ck e,b];exact ih
theorem KV.any {kvs:List (κ×V)} {vs:List (κ×Value)} (r:KV kvs vs) (k:κ):(kvs.any λkv=>decide (kv.1=k))=vs.any λkv=>decide (kv.1=k):=by
 unfold KV at r
 induction r with
 |nil=>rfl
 |cons h t ih=>rw [N7,N7,ih,h.1]
theorem KV.repl {kvs:List (κ×V)} {vs:List (κ×Value)} (r:KV kvs vs) (k:κ) {y:V} {u:Value} (ry:Ba y u) :
  KV (kvs.map λkv=>if kv.1=k then (kv.1,y) else kv) (vs.map λkv=>if kv.1=k then (kv.1,u) else kv):=by
 unfold KV at r |-
 induction r with
 |nil=>exact .nil
 |@cons p q ps qs h t ih =>
  rw [j2,j2]
  refine .cons ?_ ih
  obtain ⟨h1,h2⟩:=h
  by_cases e:p.1=k
  ·rw [if_pos e,if_pos (h1.symm.trans e)];exact ⟨h1,ry⟩
  ·rw [if_neg e,if_neg (λz=>e (h1.trans z))];exact ⟨h1,h2⟩
theorem KV.put {kvs:List (κ×V)} {vs:List (κ×Value)} (r:KV kvs vs) (k:κ) {y:V} {u:Value} (ry:Ba y u):KV (Fo kvs k y) (stored vs k u):=by
 unfold Fo stored
 rw [r.any k]
 by_cases e:(vs.any λkv=>decide (kv.1=k))=true
 ·rw [if_pos e,if_pos e];exact r.repl k ry
 ·rw [if_neg e,if_neg e];exact Paired.snoc r ⟨rfl,ry⟩
theorem KV.keys {kvs:List (κ×V)} {vs:List (κ×Value)} (r:KV kvs vs):kvs.map (·.1)=vs.map (·.1):=by
 unfold KV at r
 induction r with
 |nil=>rfl
 |cons h t ih=>rw [j2,j2,ih,h.1]
theorem KV.length {kvs:List (κ×V)} {vs:List (κ×Value)} (r:KV kvs vs):kvs.length=vs.length:=Paired.length r
end


theorem Gf {P:Program} {w:World} {k:Bw} {u:Value} (r:Ba (kV k) u):(Bn P w).is k u=true:=by
 cases k with
 |inl i=>obtain ⟨t,e⟩:=(show ∃ t,u=Value.int i t from r);subst e;exact NV P w i t
 |inr x=>obtain ⟨t,e⟩:=(show ∃ t,u=Value.str x t from r);subst e;exact NT P w x t
theorem LH {P:Program} {w:World}:∀ {ks:List Bw} {us:List Value},AR (ks.map kV) us->ItemsAre (Bn P w) ks us
 |[],_,r=>by rw [x6] at r;cases r;exact .nil
 |k::ks,_,r=>by
  rw [j2] at r
  cases r with
  |cons h t=>exact .cons (Gf h) (LH t)

abbrev KT (H:Hp):List (List Bw×V)->List (List Bw×Addr×Value)->Prop:=Paired λp q=>p.1=q.1/\H q.2.1=some (.tup (p.1.map kV))/\Ba p.2 q.2.2
theorem KT.val {H:Hp} {kvs:List (List Bw×V)} {xs:List (List Bw×Addr×Value)} (r:KT H kvs xs) (k:List Bw):DK (valV kvs k) ((atKey xs k).map (·.2)):=by
 induction r with
 |nil=>exact True.intro
 |@cons p q ps qs h t ih =>
  obtain ⟨h1,_,h2⟩:=h
  by_cases e:p.1=k
  ·have e':q.1=k:=h1.symm.trans e
   have b:atKey (q::qs) k=some q.2:=by simp [atKey,T0,e']
   rw [Cj e,b];exact h2
  ·have e':¬ q.1=k:=λz=>e (h1.trans z)
   have b:atKey (q::qs) k=atKey qs k:=by simp [atKey,T0,e']
   rw [Ck e,b];exact ih
theorem KT.repl {H:Hp} {kvs:List (List Bw×V)} {xs:List (List Bw×Addr×Value)} (r:KT H kvs xs) (k:List Bw) {y:V} {u:Value} (ry:Ba y u) :
  KT H (kvs.map λkv=>if kv.1=k then (kv.1,y) else kv) (xs.map (putAt k u)):=by
 induction r with
 |nil=>exact .nil
 |@cons p q ps qs h t ih =>
  rw [j2,j2]
  refine .cons ?_ ih
  obtain ⟨h1,h2,h3⟩:=h
  unfold putAt
  by_cases e:p.1=k
  ·rw [if_pos e,if_pos (h1.symm.trans e)];exact ⟨h1,h2,ry⟩
  ·rw [if_neg e,if_neg (λz=>e (h1.trans z))];exact ⟨h1,h2,h3⟩
theorem KT.put {H:Hp} {kvs:List (List Bw×V)} {xs:List (List Bw×Addr×Value)} (r:KT H kvs xs) (k:List Bw) {b:Addr} {y:V} {u:Value} (hb:H b=some (.tup (k.map kV))) (ry:Ba y u) :
  KT H (Fo kvs k y) (storedH xs k b u):=by
 have e:(kvs.any λkv=>decide (kv.1=k))=(atKey xs k).isSome:=by
  rw [HG,(r.val k).isSome_eq,Option.isSome_map]
 unfold Fo storedH
 rw [e]
 by_cases q:(atKey xs k).isSome=true
 ·rw [if_pos q,if_pos q];exact r.repl k ry
 ·rw [if_neg q,if_neg q];exact Paired.snoc r ⟨rfl,hb,ry⟩
theorem KT.keeps {H H':Hp} {kvs:List (List Bw×V)} {xs:List (List Bw×Addr×Value)} (r:KT H kvs xs) (ht:∀ b ys,H b=some (.tup ys)->H' b=some (.tup ys)):KT H' kvs xs :=
 Paired.mapP r λ_ _ z=>⟨z.1,ht _ _ z.2.1,z.2.2⟩

section
variable {P:Program} {w:World} {H:Hp} {h:Heap} {a:Addr}
theorem rd_of {u:HO} (ok:GX P w H h) (e:Rd H a u):Bj P w H h a u:=e.ok ok
theorem Os {kvs:List (Bw×V)} (ok:GX P w H h) (e:Rd H a (.dK kvs)):kvs.length<=sizeLine/\(a == sysModules)=false/\∃ vs,KV kvs vs/\h.DictOf (Bn P w) a vs :=
 show Bj P w H h a (.dK kvs) from rd_of ok e
theorem dk_of {kvs:List (Bw×V)} (ok:GX P w H h) (e:H a=some (.dK kvs)):kvs.length<=sizeLine/\(a == sysModules)=false/\∃ vs,KV kvs vs/\h.DictOf (Bn P w) a vs:=Os ok (.inl e)
theorem MF {ks:List Bw} (ok:GX P w H h) (e:H a=some (.tup (ks.map kV))):(tupleKind (Bn P w)).is h ks a:=by
 obtain ⟨_,its,r,o,h1,h2,n,h3⟩:=(show Bj P w H h a (.tup (ks.map kV)) from ok a _ e)
 exact ⟨o,its.toArray,n,h1,h2,h3,by simpa using LH r⟩
theorem Op {kvs:List (List Bw×V)} (ok:GX P w H h) (e:Rd H a (.dT kvs)):kvs.length<=sizeLine/\(a == sysModules)=false /\
  ∃ xs,KT H kvs xs/\h.DictOfH (tupleKind (Bn P w)) a xs:=by
 obtain ⟨z,y,xs,r,o,es,ep,h1,h2,h3,h4,h5⟩:=(show Bj P w H h a (.dT kvs) from rd_of ok e)
 refine ⟨z,y,xs,r,o,es,ep,h1,h2,h3,h4,λx hx=>?_,h5⟩
 have all:∀ {l:List (List Bw×V)} {m:List (List Bw×Addr×Value)},KT H l m->∀ x∈m,(tupleKind (Bn P w)).is h x.1 x.2.1:=by
  intro l m q
  induction q with
  |nil=>intro x hx;exact nomatch hx
  |@cons p q ps qs hq t ih =>
   intro x hx
   rcases S0.mp hx with e | hx
   ·subst e
    exact MF ok (by rw [<- hq.1];exact hq.2.1)
   ·exact ih x hx
 exact all r x hx
theorem dt_of {kvs:List (List Bw×V)} (ok:GX P w H h) (e:H a=some (.dT kvs)):kvs.length<=sizeLine/\(a == sysModules)=false /\
  ∃ xs,KT H kvs xs/\h.DictOfH (tupleKind (Bn P w)) a xs:=Op ok (.inl e)
end

def KO (H:Hp) (a:Addr) (y:V) (r:Option V):Prop :=
 (∃ kvs k,Rd H a (.dK kvs)/\y=kV k/\r=valV kvs k)\/∃ kvs k b,Rd H a (.dT kvs)/\y=.ref b/\H b=some (.tup (k.map kV))/\r=valV kvs k
def Qf (H:Hp) (a:Addr) (y v:V) (H':Hp):Prop :=
 (∃ kvs k,H a=some (.dK kvs)/\y=kV k/\kvs.length<sizeLine/\H'=upd H a (.dK (Fo kvs k v))) \/
 ∃ kvs k b,H a=some (.dT kvs)/\y=.ref b/\H b=some (.tup (k.map kV))/\kvs.length<sizeLine/\H'=upd H a (.dT (Fo kvs k v))
theorem KO.k {H:Hp} {a:Addr} {kvs:List (Bw×V)} {k:Bw} (e:H a=some (.dK kvs)):KO H a (kV k) (valV kvs k):=.inl ⟨kvs,k,.inl e,rfl,rfl⟩
theorem Qf.k {H:Hp} {a:Addr} {kvs:List (Bw×V)} {k:Bw} {v:V} (e:H a=some (.dK kvs)) (hl:kvs.length<sizeLine):Qf H a (kV k) v (upd H a (.dK (Fo kvs k v))):=.inl ⟨kvs,k,e,rfl,hl,rfl⟩
section
variable {X:Cx} {pins:List (Addr×Obj)} {σ:St} {H:Hp} {s:Shared} {a:Addr} {y v:V} {u r:Value} {o:Option V} {A:Around} {E:Value->Shared->Prop}

theorem Ax.big (I:Ax X pins σ H s):sysModules<s.heap.objs.size:=by
 have h:mainGlobals<s.heap.objs.size:=(I.mod.glob.keeps I.bk).lt
 exact Nat.lt_trans (by kd_p) h

theorem Sm {Q:Value->Shared->Prop} (hu:A.units+1<cLine) (I:Ax X pins σ H s) (g:KO H a y (some v)) (ry:Ba y u) (h:∀ w' s',Ax X pins σ H s'->Ba v w'->Q w' s') :
  wpAny (model X.prog X.w) A (getItem (.ref a) u) Q E s:=by
 rcases g with ⟨kvs,k,e,ey,l⟩ | ⟨kvs,k,b,e,ey,eb,l⟩
 ·subst ey
  obtain ⟨z,hd,vs,rel,dd⟩:=Os I.hok e
  obtain ⟨w',hw,rw'⟩:=DK.some_of (v:=v) (o:=valueAt vs k) (by rw [l];exact rel.val k)
  exact wpAny_getItem_of (Gf ry) dd.mapOf hw (h w' _ (I.tok _) rw')
 ·subst ey
  cases (show u=Value.ref b from ry)
  obtain ⟨z,hd,xs,rel,dd⟩:=Op I.hok e
  obtain ⟨w',hw,rw'⟩:=DK.some_of (v:=v) (o:=(atKey xs k).map (·.2)) (by rw [l];exact rel.val k)
  obtain ⟨p,hp,hp2⟩:=W2.mp hw
  refine wpAny_getItem_heap (tupleKind_room_in1 hu) (MF I.hok eb) dd hp ?_
  rw [hp2]
  exact h w' _ (I.tok _) rw'
theorem MM {h':Heap} {t':Nat} {ob:HO} (I:Ax X pins σ H s) (mu:Mut (H a)) (hs:Heap.SameBut a s.heap h') (he:∃ q,h'.get? a=some q) (new:Bj X.prog X.w (upd H a ob) h' a ob) :
  Ax X pins σ (upd H a ob) { s with heap:=h',toks:=t' } :=
 I.write (x:=a) (e:=a) mu (.inl rfl) (λb q hb z=>(hs.2 b hb).trans z) he new
theorem PK {P:Program} {w:World} {H':Hp} {h':Heap} {kvs:List (Bw×V)} {vs:List (Bw×Value)} (z:kvs.length<=sizeLine) (hd:(a == sysModules)=false) (rel:KV kvs vs) (dd:h'.DictOf (Bn P w) a vs) :
  Bj P w H' h' a (.dK kvs):=⟨z,hd,vs,rel,dd⟩
theorem Sl {H':Hp} {Q:Unit->Shared->Prop} (hu:A.units+1<cLine) (I:Ax X pins σ H s) (g:Qf H a y v H') (ry:Ba y u) (rv:Ba v r) (h:∀ s',Ax X pins σ H' s'->Q () s') :
  wpAny (model X.prog X.w) A (setItem (.ref a) u r) Q E s:=by
 rcases g with ⟨kvs,k,e,ey,l,eH⟩ | ⟨kvs,k,b,e,ey,eb,l,eH⟩
 ·subst ey eH
  obtain ⟨z,hd,vs,rel,dd⟩:=dk_of I.hok e
  have hz:vs.length<=sizeLine:=by rw [<- rel.length];exact z
  have hl:(Fo kvs k v).length<=sizeLine:=by have:=BB kvs k v;lia
  refine wpAny_setItem_pairs (hsz:=hz) (Gf ry) dd λh' dd' hs=>h _ ?_
  have he:∃ q,h'.get? a=some q:=let ⟨q,_,_,hq,_⟩:=dd';⟨q,hq⟩
  exact MM I (by rw [e];exact True.intro) hs he (PK hl hd (rel.put k rv) dd')
 ·subst ey eH
  cases (show u=Value.ref b from ry)
  obtain ⟨z,hd,xs,rel,dd⟩:=dt_of I.hok e
  have hz:xs.length<=sizeLine:=by rw [<- Paired.length rel];exact z
  have hl:(Fo kvs k v).length<=sizeLine:=by have:=BB kvs k v;lia
  refine wpAny_setItem_heap (hsz:=hz) (tupleKind_room_in1 hu) (MF I.hok eb) dd λh' dd' hs=>h _ ?_
  obtain ⟨q,es,ep,hq,h2,h3,h4,_,h5⟩:=dd'
  refine MM I (by rw [e];exact True.intro) hs ⟨q,hq⟩ ⟨hl,hd,_,(rel.put k eb rv).keeps λc ys ec=>?_,q,es,ep,hq,h2,h3,h4,h5⟩
  rw [Ah (AU ec e (λz=>nomatch z))]
  exact ec
end

section
variable {X:Cx} {pins:List (Addr×Obj)} {σ:St} {H:Hp} {s:Shared} {a:Addr} {kvs:List (Bw×V)} {k:Bw} {u:Value} {A:Around} {E:Value->Shared->Prop}
end


def NoSl (i:Expr):Prop:=∀ ov iv,subscripted i false ov iv=operate [ov,iv] (getItem ov iv)
theorem Qn {prog:Program} {w:World} {A:Around} {E:Value->Shared->Prop} {s:Shared} {env:Env} {value slice:Expr} {pos:Pos} {T id:String} {Q:Value->Shared->Prop}
  (hl:typeLookup (.type T) "__getitem__"=pure (some (.builtin id))) (hs:NoSl slice)
  (h:wpAny (model prog w) A (eval value env) (λo s₁=>wpAny (model prog w) A (eval slice env) (λi s₂=>s₂.TypeIs o T/\wpAny (model prog w) A (getItem o i) Q E s₂) E s₁) E s) :
  wpAny (model prog w) A (eval (.Subscript value slice pos) env) Q E s:=by
 refine Subscript_ (wpAny_mono h (λo s₁ h₁=>wpAny_mono h₁ (λi s₂ h₂=>?_) λ_ _ x=>x) λ_ _ x=>x)
 obtain ⟨hT,h₂⟩:=h₂
 unfold subscriptTail
 refine wpAny_bind ?_
 rw [getitemInPython_of_ne hT.not_modules]
 refine wpAny_bind (wpAny_specialOf hT hl ?_)
 have fin:wpAny (model prog w) A (subscripted slice false o i) (λr s₃=>wpAny (model prog w) A (letTemporaryGo value o r >>= λ_=>pure r) Q E s₃) E s₂:=by
  rw [hs o i]
  exact wpAny_operating (wpAny_mono h₂ (λr s₃ h₃=>wpAny_bind (wpAny_letTemporaryGo (wpAny_pure h₃))) λ_ _ x=>x)
 first
  |exact wpAny_pure (wpAny_bind fin)
  |exact wpAny_bind (wpAny_pure (wpAny_bind fin))
  |exact wpAny_bind fin

theorem Ou {X:Cx} {pins:List (Addr×Obj)} {σ:St} {H:Hp} {s:Shared} {a:Addr} {y:V} {o:Option V} (I:Ax X pins σ H s) (g:KO H a y o):s.TypeIs (.ref a) "dict":=by
 rcases g with ⟨kvs,k,e,_,_⟩ | ⟨kvs,k,b,e,_,_,_⟩
 ·obtain ⟨_,_,vs,_,dd⟩:=Os I.hok e
  exact dd.typeIs
 ·obtain ⟨_,_,xs,_,dd⟩:=Op I.hok e
  exact dd.typeIs
def Jj (td ty:TE):TE:=λσ H Q=>td σ H λx H1=>ty σ H1 λy H2=>∃ a v,x=.ref a/\KO H2 a y (some v)/\Q v H2
def Ka (td ty tv:TE):TS:=λD σ H=>tv σ H λv H1=>td σ H1 λx H2=>ty σ H2 λy H3=>∃ a H4,x=.ref a/\Qf H3 a y v H4/\D.nx σ H4
section
variable {X:Cx} {o i e value:Expr} {pos pos' tpos:Pos} {td ty tv:TE}
theorem Cv (hu:X.A.units+1<cLine) (ho:PE X o td) (hi:PE X i ty) (hs:NoSl i):PE X (.Subscript o i pos) (Jj td ty):=by
 intro pins s σ H Q I h
 refine Qn PySem.F.slot_dict_getitem.lookup hs (pB (ho pins s σ H _ I h) λu s1 x H1 I1 rx q1=>pB (hi pins s1 σ H1 _ I1 q1) λiv s2 y H2 I2 ry z=>?_)
 obtain ⟨a,v,rfl,g,q2⟩:=z
 obtain rfl:u=Value.ref a:=rx
 exact ⟨Ou I2 g,Sm hu I2 g ry λw' s3 I3 rw'=>⟨v,H2,I3,rw',q2⟩⟩
theorem Fs (hu:X.A.units+1<cLine) (ho:PE X o td) (hi:PE X i ty) (hv:PE X value tv) (hs:swapsWith value (some (.Subscript o i pos')) pos.line X.env=pure false) :
  PS X (.Assign [.Subscript o i pos'] value pos) (Ka td ty tv):=by
 intro pins s σ H D I h
 refine wpAny_Assign_Subscript (pB (hv pins s σ H _ I h) λr s1 v H1 I1 rv q1=>pB (ho pins s1 σ H1 _ I1 q1) λu s2 x H2 I2 rx q2=>pB (hi pins s2 σ H2 _ I2 q2) λiv s3 y H3 I3 ry z=>?_) hs
 obtain ⟨a,H4,rfl,g,q3⟩:=z
 obtain rfl:u=Value.ref a:=rx
 exact Sl hu I3 g ry rv λs4 I4=>⟨σ,H4,I4,q3⟩
end


theorem Ot {P:Program} {w:World} {H:Hp} (h:Heap) (hb:sysModules<h.objs.size):Bj P w H (h.push { cls:=.type "dict",data:=.dict #[] }) h.objs.size (.dK []) :=
 ⟨N1 _,beq_eq_false_iff_ne.mpr (Ne.symm (j1 hb)),[],.nil,Heap.DictOf.new h⟩
def Ma:TE:=λ_ H Q=>∀ p,H p=none->Q (.ref p) (upd H p (.dK []))
section
variable {X:Cx} {pos:Pos}
theorem BY:PE X (.Dict [] [] pos) Ma:=λpins s σ H Q I h =>
 wpAny_Dict_empty ⟨.ref s.heap.objs.size,_,I.laid (a:=s.heap.objs.size) (o:=.dK []) (t':=s.toks) (λ_ _ q=>Heap.get?_push_of_some _ q) (P0 _) (Ot s.heap I.big),rfl,h _ (I.hok.fresh (P0 _))⟩
end

def JR:List (TE×TE)->St->Hp->(List (V×V)->Hp->Prop)->Prop
 |[],_,H,Q=>Q [] H
 | (tk,tv)::r,σ,H,Q=>tk σ H λx H1=>tv σ H1 λy H2=>JR r σ H2 λps H3=>Q ((x,y)::ps) H3
abbrev VV:List (V×V)->List (Value×Value)->Prop:=Paired λp q=>Ba p.1 q.1/\Ba p.2 q.2
def PPs (X:Cx) (pos:Pos) (keys:List (Option Expr)) (values:List Expr) (trs:List (TE×TE)):Prop :=
 ∀ (pins:List (Addr×Obj)) (s:Shared) (σ:St) (H:Hp) (Q:List (V×V)->Hp->Prop),Ax X pins σ H s->JR trs σ H Q ->
  wpAny (model X.prog X.w) X.A (evalPairs (pairTrees keys values X.env pos)) (λvs s'=>∃ ps H',Ax X pins σ H' s'/\VV ps vs/\Q ps H') X.xe s
theorem QB {X:Cx} {pos:Pos}:PPs X pos [] [] []:=λpins s σ H Q I h=>pairTrees_nil_walk ⟨[],H,I,.nil,h⟩
theorem CV {X:Cx} {pos:Pos} {k v:Expr} {ks:List (Option Expr)} {vs:List Expr} {tk tv:TE} {trs:List (TE×TE)} (hk:PE X k tk) (hv:PE X v tv) (hr:PPs X pos ks vs trs) :
  PPs X pos (some k::ks) (v::vs) ((tk,tv)::trs):=λpins s σ H Q I h =>
 pairTrees_cons_walk (pB (hk pins s σ H _ I h) λu s1 x H1 I1 rx q1=>pB (hv pins s1 σ H1 _ I1 q1) λw2 s2 y H2 I2 ry q2 =>
  Bl (hr pins s2 σ H2 _ I2 q2) λws s3 ⟨ps,H3,I3,rel,q3⟩=>⟨(x,y)::ps,H3,I3,.cons ⟨rx,ry⟩ rel,q3⟩)

def Da (kvs more:List (Bw×V)):List (Bw×V):=more.foldl (λacc kv=>Fo acc kv.1 kv.2) kvs
theorem KV.merge:∀ {more:List (Bw×V)} {rs:List (Bw×Value)} {kvs:List (Bw×V)} {vs:List (Bw×Value)},KV more rs->KV kvs vs->KV (Da kvs more) (merged vs rs):=by
 intro more rs kvs vs r
 unfold KV at r
 induction r generalizing kvs vs with
 |nil=>intro q;exact q
 |@cons p q ps qs h t ih =>
  intro r0
  have e:KV (Fo kvs p.1 p.2) (stored vs q.1 q.2):=by
   have:=r0.put p.1 h.2
   rw [<- h.1];exact this
  exact ih e
theorem Hc:∀ (more kvs:List (Bw×V)),(Da kvs more).length<=kvs.length+more.length
 |[],kvs=>by show kvs.length<=kvs.length+0;lia
 |p::r,kvs=>by
  have h1:=Hc r (Fo kvs p.1 p.2)
  have h2:=BB kvs p.1 p.2
  show (Da (Fo kvs p.1 p.2) r).length<=_
  rw [v0];lia
theorem KF {P:Program} {w:World}:∀ {kvs:List (Bw×V)} {ws:List (Value×Value)},VV (kvs.map λkv=>(kV kv.1,kv.2)) ws->∃ rs,Carries (Bn P w) ws rs/\KV kvs rs
 |[],_,r=>by rw [x6] at r;cases r;exact ⟨[],True.intro,.nil⟩
 |p::kvs,_,r=>by
  rw [j2] at r
  cases r with
  |@cons a b as bs h t =>
   obtain ⟨rs,c,q⟩:=KF (P:=P) (w:=w) t
   obtain ⟨b1,b2⟩:=b
   exact ⟨(p.1,b2)::rs,⟨Gf h.1,rfl,c⟩,.cons ⟨rfl,h.2⟩ q⟩
def SO (trs:List (TE×TE)):TE:=λσ H Q=>∀ p,H p=none->JR trs σ (upd H p (.dK [])) λps H2=>H2 p=some (.dK [])/\∃ kvs:List (Bw×V),ps=kvs.map (λkv=>(kV kv.1,kv.2))/\kvs.length<=15/\Q (.ref p) (upd H2 p (.dK (Da [] kvs)))
theorem QE {X:Cx} {pos:Pos} {keys:List (Option Expr)} {values:List Expr} {trs:List (TE×TE)} (h:PPs X pos keys values trs) (hall:keys.all (·.isSome)=true) (hl:keys.length=values.length) (h0:keys≠[])
  (h15:keys.length<=15):PE X (.Dict keys values pos) (SO trs):=by
 intro pins s σ H Q I q
 have hn:=I.hok.fresh (P0 s.heap.objs.size)
 have I1:=I.laid (a:=s.heap.objs.size) (o:=.dK []) (h':=s.heap.push { cls:=.type "dict",data:=.dict #[] }) (t':=s.toks) (λ_ _ q=>Heap.get?_push_of_some _ q) (P0 _) (Ot s.heap I.big)
 refine wpAny_Dict_walk (knd:=Bn X.prog X.w) hall hl h0 h15 (Bl (h pins _ σ _ _ I1 (q _ hn)) λws s2 ⟨ps,H2,I2,rel,e,kvs,ep,lk,q2⟩=>?_)
 subst ep
 obtain ⟨rs,c,rk⟩:=KF (P:=X.prog) (w:=X.w) rel
 obtain ⟨z,hd,vs0,r0,dd⟩:=dk_of I2.hok e
 cases r0
 refine ⟨rs,c,dd,λh' dd' hs=>⟨.ref s.heap.objs.size,_,?_,rfl,q2⟩⟩
 have hz:(Da [] kvs).length<=sizeLine:=by
  have h1:=Hc kvs []
  rw [j3] at h1
  rw [sizeLine_eq];lia
 have he:∃ q,h'.get? s.heap.objs.size=some q:=let ⟨q,_,_,hq,_⟩:=dd';⟨q,hq⟩
 exact MM I2 (by rw [e];exact True.intro) hs he (PK hz hd (rk.merge .nil) dd')


structure M1 (X:Cx) (o:Expr) (m:Str) (apos:Pos) (e:Expr) (cpos:Pos):Prop where
 base:attributeBase o m X.env (eval o X.env)=eval o X.env
 few:((backTo cpos (starEach [e] X.env)).all (λx=>!x.1)&&(backToKw cpos (keywordEach [] X.env)).all (λx=>x.1.isSome)
  && decide (([e]:List Expr).length+([]:List Keyword).length+(if ([]:List Keyword).isEmpty then 0 else 1)<30))=true
 line:(apos.endLine == cpos.line)=true
 trees:backTo cpos (starEach [e] X.env)=[(false,eval e X.env)]
structure M2 (X:Cx) (o:Expr) (m:Str) (apos:Pos) (e f:Expr) (cpos:Pos):Prop where
 base:attributeBase o m X.env (eval o X.env)=eval o X.env
 few:((backTo cpos (starEach [e,f] X.env)).all (λx=>!x.1)&&(backToKw cpos (keywordEach [] X.env)).all (λx=>x.1.isSome)
  && decide (([e,f]:List Expr).length+([]:List Keyword).length+(if ([]:List Keyword).isEmpty then 0 else 1)<30))=true
 line:(apos.endLine == cpos.line)=true
 trees:backTo cpos (starEach [e,f] X.env)=[(false,eval e X.env),(false,eval f X.env)]

def IsD (H:Hp) (a:Addr):Prop:=(∃ kvs,Rd H a (.dK kvs))\/∃ kvs,Rd H a (.dT kvs)
theorem isD_at {X:Cx} {pins:List (Addr×Obj)} {σ:St} {H:Hp} {s:Shared} {a:Addr} (I:Ax X pins σ H s) (d:IsD H a) :
  s.TypeIs (.ref a) "dict"/\(∀ b,Value.ref a=.ref b->∃ ob,s.heap.get? b=some ob/\ob.dict=none)/\(a == sysModules)=false:=by
 rcases d with ⟨kvs,e⟩ | ⟨kvs,e⟩
 ·obtain ⟨_,hd,vs,_,dd⟩:=Os I.hok e
  refine ⟨dd.typeIs,λb q=>?_,hd⟩
  cases q
  obtain ⟨ob,_,_,h1,h2,_⟩:=dd
  exact ⟨ob,h1,h2.2.1⟩
 ·obtain ⟨_,hd,xs,_,dd⟩:=Op I.hok e
  refine ⟨dd.typeIs,λb q=>?_,hd⟩
  cases q
  obtain ⟨ob,_,_,h1,h2,_⟩:=dd
  exact ⟨ob,h1,h2.2.1⟩

section
variable {X:Cx} {pins:List (Addr×Obj)} {σ:St} {H:Hp} {s:Shared} {a:Addr} {y d:V} {u r:Value} {o:Option V} {A:Around} {E:Value->Shared->Prop}
theorem d_get2 {Q:Value->Shared->Prop} (hu:A.units+1<cLine) (I:Ax X pins σ H s) (g:KO H a y o) (ry:Ba y u) (rd:Ba d r) (h:∀ w' s',Ax X pins σ H s'->Ba (o.getD d) w'->Q w' s') :
  wpAny (model X.prog X.w) A (call (.builtin "dict.get") [.ref a,u,r]) Q E s:=by
 rcases g with ⟨kvs,k,e,ey,l⟩ | ⟨kvs,k,b,e,ey,eb,l⟩
 ·subst ey
  obtain ⟨z,hd,vs,rel,dd⟩:=Os I.hok e
  refine call_meetsIn A5 dd.typeIs U6 (T7 _ _ _) (meets_dict_get_default (Bn X.prog X.w) a (Gf ry) hd r) ⟨_,dd.mapOf,h _ _ (I.tok _) ?_⟩
  rw [l]
  exact (rel.val k).getD rd
 ·subst ey
  cases (show u=Value.ref b from ry)
  obtain ⟨z,hd,xs,rel,dd⟩:=Op I.hok e
  refine call_meetsIn A5 dd.typeIs U6 (T7 _ _ _) (meetsH_dict_get_default (tupleKind (Bn X.prog X.w)) a b hd r) ⟨tupleKind_room_in1 hu,k,xs,MF I.hok eb,dd,h _ _ (I.tok _) ?_⟩
  rw [l]
  exact (rel.val k).getD rd
end

def SR (td ty tx:TE):TE:=λσ H Q=>td σ H λx H1=>∃ a,x=.ref a/\IsD H1 a/\ty σ H1 λy H2=>tx σ H2 λz H3=>∃ o,KO H3 a y o/\Q (o.getD z) H3
section
variable {X:Cx} {o e f:Expr} {apos cpos:Pos} {td ty tx:TE}
theorem TY (hu:X.A.units+1<cLine) (ho:PE X o td) (he:PE X e ty) (hf:PE X f tx) (m:M2 X o "get" apos e f cpos):PE X (.Call (.Attribute o "get" apos) [e,f] [] cpos) (SR td ty tx):=by
 intro pins s σ H Q I h
 refine wpAny_Call_method m.base m.few m.line Q7 A5 j7 (pB (ho pins s σ H _ I h) λu s1 x H1 I1 rx z=>?_)
 obtain ⟨a,rfl,d,q1⟩:=z
 obtain rfl:u=Value.ref a:=rx
 obtain ⟨t1,t2,_⟩:=isD_at I1 d
 refine ⟨t1,t2,?_⟩
 rw [m.trees]
 refine Calls.callWith_builtin rfl (Calls.evalArgs_plain (Calls.spliced_cons (pB (he pins s1 σ H1 _ I1 q1) λiv s2 y H2 I2 ry q2 =>
  Calls.spliced_cons (pB (hf pins s2 σ H2 _ I2 q2) λfv s3 z H3 I3 rz ⟨ov,g,q3⟩=>Calls.spliced_nil ?_))))
 exact d_get2 hu I3 g ry rz λw' s4 I4 rw'=>⟨_,H3,I4,rw',q3⟩
end

section
variable {X:Cx} {pins:List (Addr×Obj)} {σ:St} {H:Hp} {s:Shared} {a:Addr} {kvs:List (Bw×V)} {A:Around} {E:Value->Shared->Prop}
end


section
variable {X:Cx} {pins:List (Addr×Obj)} {σ:St} {H:Hp} {s:Shared} {a:Addr} {y:V} {u:Value} {A:Around} {E:Value->Shared->Prop}
end
section
variable {X:Cx}
end
section
variable {κ:Type} [DecidableEq κ]
end
end L2

set_option maxHeartbeats 4000000
namespace L2
open PySem PySem.Spec PyProof.Rows

theorem noE {α:Type} {M:Model} {A:Around} {t:Sem α} {Q:α->Shared->Prop} {E:Value->Shared->Prop} {s:Shared} (h:wpAny M A t Q (λ_ _=>False) s):wpAny M A t Q E s :=
 wpAny_mono h (λ_ _ q=>q) λ_ _ f=>f.elim

def FJ (cells:List (Str×Addr)):List (Str×NameKind)->List (Str×Addr)->List (Str×Addr)
 |[],acc=>acc
 | (n,k)::r,acc=>FJ cells r (if (k == NameKind.free)=true then (n,(cells.lookup n).getD 0)::acc else acc)
theorem LR {cells:List (Str×Addr)} {y:Str} {c:Addr}:∀ (names:List (Str×NameKind)) (acc:List (Str×Addr)),
  (FJ cells names acc).lookup y=some c->acc.lookup y=some c\/((y,NameKind.free)∈names/\c=(cells.lookup y).getD 0)
 |[],acc,h=>.inl h
 | (n,k)::r,acc,h=>by
  rcases LR r _ h with h1 | ⟨h1,h2⟩
  ·by_cases hk:(k == NameKind.free)=true
   ·rw [if_pos hk,Y3] at h1
    by_cases e:(y == n)=true
    ·rw [e] at h1
     have e1:y=n:=by simpa using e
     have e2:k=NameKind.free:=by simpa using hk
     subst e1 e2
     exact .inr ⟨W0,(V3.inj h1).symm⟩
    ·have e1:(y == n)=false:=by simpa using e
     rw [e1] at h1
     exact .inl h1
   ·rw [if_neg hk] at h1
    exact .inl h1
  ·exact .inr ⟨N0 _ h1,h2⟩
theorem Ju {cells:List (Str×Addr)} {y:Str}:∀ (names:List (Str×NameKind)) (acc:List (Str×Addr)),(∃ c,acc.lookup y=some c)->∃ c,(FJ cells names acc).lookup y=some c
 |[],_,h=>h
 | (n,k)::r,acc,h=>by
  refine Ju r _ ?_
  by_cases hk:(k == NameKind.free)=true
  ·rw [if_pos hk,Y3]
   by_cases e:(y == n)=true
   ·rw [e];exact ⟨_,rfl⟩
   ·have e1:(y == n)=false:=by simpa using e
    rw [e1];exact h
  ·rw [if_neg hk];exact h
theorem Je {cells:List (Str×Addr)} {y:Str}:∀ (names:List (Str×NameKind)) (acc:List (Str×Addr)),(y,NameKind.free)∈names->∃ c,(FJ cells names acc).lookup y=some c
 |[],_,h=>by simp at h
 | (n,k)::r,acc,h=>by
  rcases S0.mp h with h | h
  ·cases h
   refine Ju r _ ?_
   rw [if_pos (by rfl),Y3,beq_self_eq_true]
   exact ⟨_,rfl⟩
  ·exact Je r _ h
theorem FI {scope:Scope} {env:Env} (h:∀ x,(x,NameKind.free)∈scope.names->∃ c,env.cells.lookup x=some c):closureFor scope env=pure (FJ env.cells scope.names []):=by
 have go:∀ (names:List (Str×NameKind)) (acc:List (Str×Addr)),(∀ x,(x,NameKind.free)∈names->∃ c,env.cells.lookup x=some c) ->
   (forIn names acc λ(x:Str×NameKind) (cs:List (Str×Addr))=>match x with
    | (name,kind)=>if (kind == NameKind.free)=true then do let a <- cellOf env name;pure (ForInStep.yield ((name,a)::cs)) else pure (ForInStep.yield cs):Sem (List (Str×Addr)))
   = pure (FJ env.cells names acc):=by
  intro names
  induction names with
  |nil=>intro acc _;rfl
  |cons x r ih =>
   intro acc hx
   obtain ⟨n,k⟩:=x
   rw [List.forIn_cons]
   by_cases hk:(k == NameKind.free)=true
   ·have e2:k=NameKind.free:=by simpa using hk
    obtain ⟨c,hc⟩:=hx n (by rw [e2];exact W0)
    have hcell:cellOf env n=pure c:=by unfold cellOf;rw [hc]
    simp only [hk,if_true,hcell]
    show (forIn r ((n,c)::acc) _:Sem (List (Str×Addr)))=_
    rw [ih _ λy hy=>hx y (N0 _ hy)]
    simp only [FJ,hk,if_true,hc,Option.getD_some]
   ·simp only [hk,if_false]
    show (forIn r acc _:Sem (List (Str×Addr)))=_
    rw [ih _ λy hy=>hx y (N0 _ hy)]
    simp only [FJ,hk,if_false]
    rfl
 have:=go scope.names [] h
 unfold closureFor
 exact (congrArg (λ(t:Sem (List (Str×Addr)))=>t >>= λcs=>(pure cs:Sem (List (Str×Addr)))) this).trans rfl

theorem DN {env:Env}:∀ {names:List (Str×NameKind)} {x:Str},names.lookup x=some .free ->
  (names.map λ(n,k)=>if (k == NameKind.free&&env.scope.kind == .function&&env.kindOf n == some .cell) then (n,NameKind.cell) else (n,k)).lookup x=some .cell \/
  (names.map λ(n,k)=>if (k == NameKind.free&&env.scope.kind == .function&&env.kindOf n == some .cell) then (n,NameKind.cell) else (n,k)).lookup x=some .free
 |[],_,h=>by simp at h
 | (n,k)::r,x,h=>by
  have ih:=@DN env r x
  show W3 x ((if (k == NameKind.free&&env.scope.kind == .function&&env.kindOf n == some .cell)=true then (n,NameKind.cell) else (n,k))::_)=_\/W3 x ((if (k == NameKind.free&&env.scope.kind == .function&&env.kindOf n == some .cell)=true then (n,NameKind.cell) else (n,k))::_)=_
  cases hx:x == n with
  |true =>
   simp only [Y3,hx] at h
   cases h
   by_cases hc:(NameKind.free == NameKind.free&&env.scope.kind == .function&&env.kindOf n == some .cell)=true
   ·rw [if_pos hc];left;simp [Y3,hx]
   ·rw [if_neg hc];right;simp [Y3,hx]
  |false =>
   simp only [Y3,hx] at h
   by_cases hc:(k == NameKind.free&&env.scope.kind == .function&&env.kindOf n == some .cell)=true
   ·rw [if_pos hc];simp only [Y3,hx];exact ih h
   ·rw [if_neg hc];simp only [Y3,hx];exact ih h
theorem CA {env:Env} {k:NameKind}:∀ {names:List (Str×NameKind)} {x:Str},
  (names.map λ(n,k)=>if (k == NameKind.free&&env.scope.kind == .function&&env.kindOf n == some .cell) then (n,NameKind.cell) else (n,k)).lookup x=some k ->
  names.lookup x=some k\/(k=.cell/\names.lookup x=some .free)
 |[],_,h=>by simp at h
 | (n,j)::r,x,h=>by
  have ih:=@CA env k r x
  have h':W3 x ((if (j == NameKind.free&&env.scope.kind == .function&&env.kindOf n == some .cell)=true then (n,NameKind.cell) else (n,j))::r.map λ(n,k)=>if (k == NameKind.free&&env.scope.kind == .function&&env.kindOf n == some .cell) then (n,NameKind.cell) else (n,k))=some k:=h
  cases hx:x == n with
  |true =>
   by_cases hc:(j == NameKind.free&&env.scope.kind == .function&&env.kindOf n == some .cell)=true
   ·rw [if_pos hc] at h'
    simp only [Y3,hx] at h' |-
    cases h'
    have e:j=NameKind.free:=by
     have:=hc
     simp only [W1] at this
     simpa using this.1.1
    rw [e]
    exact .inr ⟨rfl,rfl⟩
   ·rw [if_neg hc] at h'
    simp only [Y3,hx] at h' |-
    exact .inl h'
  |false =>
   by_cases hc:(j == NameKind.free&&env.scope.kind == .function&&env.kindOf n == some .cell)=true
   ·rw [if_pos hc] at h';simp only [Y3,hx] at h' |-;exact ih h'
   ·rw [if_neg hc] at h';simp only [Y3,hx] at h' |-;exact ih h'

def JO (sc osc:Scope) (N N':List Str) (sel:List (Option Nat)):Bool :=
 (sc.names.all λp=>match p.2 with
  |.free=>(osc.names.lookup p.1 == some .cell||osc.names.lookup p.1 == some .free)&&sc.names.lookup p.1 == some .free
  |.cell=>false
  |.local=>sc.names.lookup p.1 == some .local
  |_=>true)&&N'.length == sel.length&&((N'.zip sel).all λp=>match p.2 with
   |none=>true
   |some j=>N[j]? == some p.1&&sc.names.lookup p.1 == some .free)
def Fj (sel:List (Option Nat)) (σ:St):St:=sel.map λo=>o.bind λj=>(σ[j]?).join

def BL (X:Cx) (N':List Str) (scope:Scope) (C:Addr) (s:Shared) (H:Hp) (fp:List Addr) (pn:List (Addr×Obj)):Cx where
 prog:=X.prog
 w:=X.w
 K:=X.K
 mg:=X.mg
 base:=X.base
 A:=X.A
 N:=N'
 s₀:=s
 H₀:=H
 env:=compEnvC scope (FJ X.env.cells scope.names []) C X.env
 outer:=X.stack
 stack:=X.stack
 ex:=fp
 fn:=λx=>decide (scope.names.lookup x=some NameKind.local)
 calm:=X.calm
 pn:=pn
 xe:=λ_ _=>False

section
variable {X:Cx} {pins:List (Addr×Obj)} {σ:St} {H:Hp} {s:Shared}

structure Rf (X:Cx) (sc:Scope) (N':List Str) (sel:List (Option Nat)):Prop where
 fr:∀ x,(x,NameKind.free)∈sc.names->(X.env.kindOf x=some .cell\/X.env.kindOf x=some .free)/\sc.names.lookup x=some .free
 nc:∀ y∈sc.names,y.2≠NameKind.cell
 lo:∀ y∈sc.names,y.2=NameKind.local->sc.names.lookup y.1=some .local
 ln:N'.length=sel.length
 sl:∀ (i:Nat) (x:Str) (j:Nat),N'[i]?=some x->sel[i]?=some (some j)->X.N[j]?=some x/\sc.names.lookup x=some .free
theorem Vf {sc:Scope} {N':List Str} {sel:List (Option Nat)} (h:JO sc X.env.scope X.N N' sel=true):Rf X sc N' sel:=by
 unfold JO at h
 simp only [W1] at h
 obtain ⟨⟨h1,h2⟩,h3⟩:=h
 rw [C2] at h1 h3
 refine ⟨λx hx=>?_,λy hy e=>?_,λy hy e=>?_,by simpa using h2,λi x j e1 e2=>?_⟩
 ·have:=h1 _ hx
  simp only [W1,Bool.or_eq_true,beq_iff_eq] at this
  exact this
 ·have:=h1 _ hy
  rw [e] at this
  simp at this
 ·have:=h1 _ hy
  rw [e] at this
  simpa using this
 ·have hm:(x,some j)∈N'.zip sel:=by
   refine j0 (i:=i) ?_
   rw [List.getElem?_zip_eq_some]
   exact ⟨e1,e2⟩
  have:=h3 _ hm
  simp only [W1,beq_iff_eq] at this
  exact this

theorem El (I:Ax X pins σ H s) {sc:Scope} {N':List Str} {sel:List (Option Nat)} (k:Rf X sc N' sel) :
  (∀ x,(x,NameKind.free)∈sc.names->∃ c,X.env.cells.lookup x=some c)/\(∀ x c,(FJ X.env.cells sc.names []).lookup x=some c->X.env.cells.lookup x=some c/\(x,NameKind.free)∈sc.names):=by
 have a:∀ x,(x,NameKind.free)∈sc.names->∃ c,X.env.cells.lookup x=some c:=λx hx=>I.ok.has x (k.fr x hx).1
 refine ⟨a,λx c h=>?_⟩
 rcases LR _ _ h with h | ⟨h,e⟩
 ·simp at h
 ·obtain ⟨c',hc⟩:=a x h
  rw [hc] at e
  exact ⟨by rw [hc,e];rfl,h⟩

theorem RW (I:Ax X pins σ H s) {scope:Scope} {N':List Str} {sel:List (Option Nat)} {C:Addr} {fp:List Addr} {h₁:Heap} {t':Nat} {m:Str->Option Value} (hk:scope.kind=.function)
  (k:Rf X scope N' sel) (hC:s.heap.objs.size<=C) (hf:∀ b∈fp,Eo X pins H b) (hfl:∀ b∈fp,b<s.heap.objs.size) (hns:h₁.Ns C m) (hkeep:∀ b o,s.heap.get? b=some o->h₁.get? b=some o) :
  Ax (BL X N' scope C s H fp (X.pn++pins)) [] (Fj sel σ) H { s with heap:=h₁,toks:=t' }:=by
 obtain ⟨cl1,cl2⟩:=El I k
 have lkf:∀ x,scope.names.lookup x=some .free->(relabel scope X.env).names.lookup x=some .cell\/(relabel scope X.env).names.lookup x=some .free:=λx hx=>DN hx
 have hfr:∀ x,(relabel scope X.env).names.lookup x=some .cell\/(relabel scope X.env).names.lookup x=some .free->(x,NameKind.free)∈scope.names:=λx hx=>by
  rcases hx with hx | hx
  ·rcases CA hx with h | ⟨_,h⟩
   ·exact absurd rfl (k.nc _ (PySem.mem_of_lookup h))
   ·exact PySem.mem_of_lookup h
  ·rcases CA hx with h | ⟨e,h⟩
   ·exact PySem.mem_of_lookup h
   ·exact PySem.mem_of_lookup h
 refine ⟨⟨I.ok.mod,hk,I.ok.glob,I.ok.blt,hC,λx y c h1 h2=>?_,λx hx=>?_,λx c h1 h2=>?_,I.ok.hd,I.ok.frames,.inl rfl,λb hb=>?_,I.bs,C0 I.ok.bsz I.sz,λb o e hb=>?_,λb hb hb2=>?_,I.stack,I.stkFree⟩,
  rfl,I.bare,Un.kept hkeep,⟨m,hns,λi x v e1 e2 e3=>?_⟩,λx c h=>?_,I.hok.fresh hC,λx c h=>?_,λp hp=>?_,I.hok.kept hkeep,?_⟩
 ·exact I.ok.inj x y c (cl2 x c h1).1 (cl2 y c h2).1
 ·exact Je _ _ (hfr x hx)
 ·have h1':scope.names.lookup x=some NameKind.local:=of_decide_eq_true h1
  have:=(k.fr x (cl2 x c h2).2).2
  rw [h1'] at this
  cases this
 ·refine ⟨j1 (E2 (hfl b hb) hC),λx c h=>?_⟩
  exact (hf b hb).2.2.2.2.1 x c (cl2 x c h).1
 ·rcases (hf b hb).2.2.2.1 with z | z
  ·exact I.ok.noex b o e z
  ·exact absurd (E2 (Heap.lt_size e) (C0 I.ok.bsz z)) (B6 _)
 ·rcases S0.mp (I.stkSub b hb2) with z | z
  ·exact (hf b hb).2.1 z
  ·exact (hf b hb).2.2.1 z
 ·-- a free name
  have e2':sel[i]?.map (λo=>o.bind λj=>(σ[j]?).join)=some (some v):=by
   have:=e2
   unfold Fj at this
   rwa [J2] at this
  cases hs:sel[i]? with
  |none=>rw [hs] at e2';cases e2'
  |some o =>
   rw [hs] at e2'
   cases o with
   |none=>cases e2'
   |some j =>
    have e4:(σ[j]?).join=some v:=V3.inj e2'
    have e5:σ[j]?=some (some v):=by
     cases q:σ[j]? with
     |none=>rw [q] at e4;cases e4
     |some r=>rw [q] at e4;rw [show r=some v from e4]
    obtain ⟨hX,hl⟩:=k.sl i x j e1 hs
    obtain ⟨kk,_⟩:=k.fr x (PySem.mem_of_lookup hl)
    obtain ⟨m0,_,hloc⟩:=I.loc
    obtain ⟨u,ru,lu⟩:=hloc j x v hX e5 (kk.elim (λz=>.inr (.inl z)) λz=>.inr (.inr z))
    refine ⟨u,ru,?_⟩
    rcases lu with ⟨z,_⟩ | ⟨_,c,hc,hcell⟩
    ·rcases kk with y | y<;>(rw [z] at y;cases y)
    ·refine .inr ⟨lkf x hl,c,?_,hcell.keeps hkeep⟩
     obtain ⟨c',hc'⟩:=Je (cells:=X.env.cells) scope.names [] (PySem.mem_of_lookup hl)
     have:=(cl2 x c' hc').1
     rw [hc] at this
     cases this
     exact hc'
 ·obtain ⟨v,z⟩:=I.cell x c (cl2 x c h).1
  exact ⟨v,z.keeps hkeep⟩
 ·exact I.freeC x c (cl2 x c h).1
 ·have hp':p∈X.pn++pins:=by
   have:p∈(X.pn++pins)++[]:=hp
   rwa [P3] at this
  obtain ⟨e,n,ne,nf,d⟩:=I.pin p hp'
  refine ⟨hkeep _ _ e,n,j1 (E2 (Heap.lt_size e) hC),λz=>?_,d⟩
  rcases S0.mp (I.stkSub _ z) with z | z
  ·exact ne z
  ·exact nf z
 ·show (sel.map _).length=N'.length
  rw [J0]
  exact k.ln.symm

def PTs (X:Cx) (ifs:List Expr) (t:TT):Prop :=
 ∀ (pins:List (Addr×Obj)) (s:Shared) (σ:St) (H:Hp) (Q:Bool->Hp->Prop),Ax X pins σ H s->t σ H Q ->
  wpAny (model X.prog X.w) X.A (forIn ifs true λc r=>if r=true then do let ok <- isTrue c X.env (eval c X.env);pure (ForInStep.yield ok) else pure (ForInStep.yield r)) (TP X pins σ Q) X.xe s
def tTrue:TT:=λ_ H Q=>Q true H
theorem CU:PTs X [] tTrue:=λ_ _ _ H _ I h=>wpAny_tests_nil ⟨H,I,h⟩
theorem Fp {c:Expr} {t:TT} (h:PT X c t):PTs X [c] t:=λpins s σ H Q I q=>wpAny_tests_one (h pins s σ H Q I q)

theorem MN {prog:Program} {w:World} {A:Around} {R:Result->Shared->Prop} {s:Shared} {elt target iter:Expr} {ifs:List Expr} {scope:Scope} {pos:Pos} {it acc:Value} {env:Env} (I:Nat->Shared->Prop)
  (turn:∀ n s,I n s->wpAny (model prog w) A (pyNext it) (λr s₁=>match r with
   |none=>R (.ok .next) s₁
   |some v=>wpAny (model prog w) A (letOwnedTupleGo target it v) (λ_ s₁'=>wpAny (model prog w) A (assign target env v) (λ_ s₂ =>
     wpAny (model prog w) A (forIn ifs true λc r=>if r=true then do let ok <- isTrue c env (eval c env);pure (ForInStep.yield ok) else pure (ForInStep.yield r)) (λok s₃ =>
      if ok=true then wpAny (model prog w) A (eval elt env) (λx s₄ =>
       wpAny (model prog w) A (call (.builtin "list.append") [acc,x]) (λ_ s₅=>∃ m,m<n/\I m s₅) (notedBy (model prog w) A env λe s'=>R (.error e) s') s₄) (notedBy (model prog w) A env λe s'=>R (.error e) s') s₃
      else ∃ m,m<n/\I m s₃) (notedBy (model prog w) A env λe s'=>R (.error e) s') s₂) (notedBy (model prog w) A env λe s'=>R (.error e) s') s₁') (notedBy (model prog w) A env λe s'=>R (.error e) s') s₁) (notedBy (model prog w) A env λe s'=>R (.error e) s') s)
  (n:Nat) (h:I n s) :
  codeAny (model prog w) A (.compLoop (.ListComp elt [⟨target,iter,ifs,0⟩] scope pos) 0 it acc env) R s:=by
 refine codeAny_loop rfl I (λn s hI=>?_) n h
 show wpAny _ A ((compTurn (.ListComp elt [⟨target,iter,ifs,0⟩] scope pos) 0 it acc env).onRaise (λx=>do noteFrame x env;theTreesLotGoes x)) _ _ s
 refine wpAny_noted ?_
 rw [compTurn_list]
 refine wpAny_bind (wpAny_standAt (wpAny_bind (wpAny_mono (turn n s hI) (λr s₁ h₁=>?_) λ_ _ h'=>h')))
 cases r with
 |none=>exact wpAny_pure h₁
 |some v =>
  refine wpAny_bind (wpAny_mono h₁ (λ_ s₁' h₁'=>?_) λ_ _ h'=>h')
  refine wpAny_bind (wpAny_mono h₁' (λ_ s₂ h₂=>wpAny_bind (wpAny_mono h₂ (λok s₃ h₃=>?_) λ_ _ h'=>h')) λ_ _ h'=>h')
  cases ok with
  |false=>exact wpAny_pure ⟨rfl,h₃⟩
  |true =>
   exact wpAny_bind (wpAny_bind (wpAny_mono h₃ (λx s₄ h₄=>wpAny_bind (wpAny_mono h₄ (λ_ s₅ h₅=>wpAny_pure (wpAny_pure ⟨rfl,h₅⟩)) λ_ _ h'=>h')) λ_ _ h'=>h'))

def Ge (sel:List (Option Nat)) (g:TG) (tt:TT) (te:TE) (σ:St) (J:It) (W:Nat->Nat->List V->Hp->Prop) (Q:List V->Hp->Prop):Prop :=
 ∀ i m ys H,W i m ys H->(J.stop i H/\Q ys H) \/
  (J.go i H/\ys.length<sizeLine/\∃ N:List V->Hp->Prop,(∀ ys' H',N ys' H'->∃ m',m'<m/\W (i+1) m' ys' H') /\
   ∀ x H',J.yld i H x H'->g x (Fj sel σ) H' λσ2 H2=>tt σ2 H2 λb H3=>if b=true then te σ2 H3 λy H4=>N (ys++[y]) H4 else N ys H3)

def KM (sel:List (Option Nat)) (g:TG):Prop:=∀ (σ:St) (x:V) (H:Hp) (Q:St->Hp->Prop),g x (Fj sel σ) H Q->g x (Fj sel σ) H λσ2 H2=>(∀ (i:Nat) v,(Fj sel σ)[i]?=some (some v)->σ2[i]?=some (some v))/\Q σ2 H2
theorem Ty {sel:List (Option Nat)} {i:Nat} {σ:St} {v:V} (h:sel[i]?=some none):¬ (Fj sel σ)[i]?=some (some v):=λe=>by
 unfold Fj at e
 rw [J2,h] at e
 cases e
theorem ID {sel:List (Option Nat)} {i:Nat} {σ σ2:St} {x:V} (h:sel[i]?=some none) (k:∀ (j:Nat) v,(Fj sel σ)[j]?=some (some v)->σ2[j]?=some (some v)) :
  ∀ (j:Nat) v,(Fj sel σ)[j]?=some (some v)->(σ2.set i (some x))[j]?=some (some v):=λj v e=>by
 by_cases hj:i=j
 ·subst hj;exact absurd e (Ty h)
 ·rw [y7 hj];exact k j v e
theorem BO {sel:List (Option Nat)} {i:Nat} (h:sel[i]?=some none):KM sel (Hd i):=λ_ _ _ _ q=>⟨ID h λ_ _ e=>e,q⟩
theorem UK {K:A0} {sel:List (Option Nat)} {i j:Nat} (h:sel[i]?=some none) (h':sel[j]?=some none):KM sel (Sb K 2 (He (Hd i) (He (Hd j) MJ))):=λσ x H Q q=>by
 obtain ⟨a,xs,e1,e2,e3,v,r,e4,v2,r2,e5,e6,q⟩:=q
 exact ⟨a,xs,e1,e2,e3,v,r,e4,v2,r2,e5,e6,ID h' (ID h λ_ _ e=>e),q⟩

theorem NW {elt tg iter:Expr} {ifs:List Expr} {scope:Scope} {pos:Pos} {N':List Str} {sel:List (Option Nat)} {g:TG} {tt:TT} {te:TE} {it:Addr} {fp:List Addr} {tn:Nat->Heap->Prop} {J:It}
  {W:Nat->Nat->List V->Hp->Prop} {Qe:List V->Hp->Prop} {RR:Value->Addr->Result->Shared->Prop} {E:Value->Shared->Prop} {m0:Nat}
  (hc:X.calm=true) (hk:scope.kind=.function) (k:Rf X scope N' sel) (I:Ax X pins σ H s) (T:KH X.prog X.w X.K tg J fp it tn) (st:tn 0 s.heap) (f2:∀ b∈fp,Eo X pins H b)
  (hb:∀ (C:Addr) (s:Shared) (H:Hp) (fp:List Addr) (pn:List (Addr×Obj)),PG (BL X N' scope C s H fp pn) tg g/\PTs (BL X N' scope C s H fp pn) ifs tt/\PE (BL X N' scope C s H fp pn) elt te)
  (hgk:KM sel g) (w0:W 0 m0 [] H) (turn:Ge sel g tt te σ J W Qe)
  (hRR:∀ (D C:Addr) (s':Shared) (H':Hp) (ys:List V) (m:Str->Option Value),H' D=none->Ax X pins σ (upd H' D (.lst ys)) s'->s'.heap.Ns C m->Eo X pins (upd H' D (.lst ys)) C->Qe ys H'->RR (.ref D) C (.ok .next) s') :
  wpAny (model X.prog X.w) X.A (newList []) (λacc s₃=>wpAny (model X.prog X.w) X.A (newFunctionEnv scope X.env.globals (FJ X.env.cells scope.names []) [] X.env.qual none .none (some X.env)) (λcenv s₄ =>
   codeAny (model X.prog X.w) X.A (.compStart (.ListComp elt [⟨tg,iter,ifs,0⟩] scope pos) 0 (.ref it) acc { cenv with scope:=relabel scope X.env }) (RR acc cenv.locals) s₄) E s₃) E s:=by
 refine wpAny_newObj_type (wpAny_newFunctionEnv k.nc (by intro y hy;simp at hy) (λh₁ hns₁ hsb₁=>?_) hk)
 dsimp only at hns₁ hsb₁ |-
 generalize hH2:s.heap.push { cls:=.type "list",dict:=none,data:=.seq ([]:List Value).toArray }=H2 at hns₁ hsb₁ |-
 have hC:H2.objs.size=s.heap.objs.size+1:=by rw [<- hH2,Heap.size_push]
 have hDC:s.heap.objs.size≠H2.objs.size:=by rw [hC];exact j1 (U7 _)
 have hCle:s.heap.objs.size<=H2.objs.size:=by rw [hC];exact U5 _
 have below:∀ b,b<s.heap.objs.size->b≠H2.objs.size/\b≠s.heap.objs.size:=λb hb=>⟨by rw [hC];exact j1 (D7 hb),j1 hb⟩
 have old:∀ b o,s.heap.get? b=some o->h₁.get? b=some o:=λb o e=>hsb₁.extBut b o (below b (Heap.lt_size e)).1 (Heap.get?_push_of_some _ (hH2▸Heap.get?_push_of_some _ e))
 have hacc:h₁.get? s.heap.objs.size=some { cls:=.type "list",data:=.seq ([]:List Value).toArray }:=hsb₁.extBut _ _ hDC (Heap.get?_push_of_some _ (hH2▸Heap.get?_push_size _ rfl))
 have hfl:∀ b∈fp,b<s.heap.objs.size:=λb hb=>let ⟨_,e,_⟩:=T.obj 0 _ st b hb;Heap.lt_size e
 have hst₁:tn 0 h₁:=T.keep _ _ _ st λb _ o e=>old b o e
 generalize hDe:s.heap.objs.size=D at hDC hCle below hacc hfl |-
 generalize hCe:H2.objs.size=C at hns₁ hsb₁ hC hDC hCle below |-
 have fD:∀ {H':Hp},H' D=none->Eo X pins H' D:=λhn=>I.fpOk (by rw [hDe];exact P0 _) hn
 have fC:∀ {H':Hp},H' C=none->Eo X pins H' C:=λhn=>I.fpOk (by rw [hDe];exact hCle) hn
 have HD:H D=none:=I.hok.fresh (by rw [hDe];exact P0 _)
 -- the pin of the new list,in the block
 have pinD:∀ {o:Obj} {σ':St} {H':Hp} {s':Shared} {ps:List (Addr×Obj)},Ax (BL X N' scope C s H fp (X.pn++pins)) ps σ' H' s'->s'.heap.get? D=some o->H' D=none->(∀ v,o.data≠.cell v) ->
   Ax (BL X N' scope C s H fp (X.pn++pins)) (ps++[(D,o)]) σ' H' s':=λ{o σ' H' s' ps} J1 e n d=>by
  refine J1.pins_of λp hp=>?_
  rcases Q3.mp hp with hp | hp
  ·exact J1.pin p (Z0 _ hp)
  ·rw [C1.mp hp]
   refine ⟨e,n,hDC,λz=>?_,d⟩
   rcases S0.mp (I.stkSub D z) with z | z
   ·exact (fD HD).2.1 z
   ·exact (fD HD).2.2.1 z
 have loop:∀ s₃:Shared,s₃={ s with heap:=h₁,toks:=s.toks+([]:List (Str×Value)).length } ->
   codeAny (model X.prog X.w) X.A (.compLoop (.ListComp elt [⟨tg,iter,ifs,0⟩] scope pos) 0 (.ref it) (.ref D) (compEnvC scope (FJ X.env.cells scope.names []) C X.env)) (RR (.ref D) C) s₃:=by
  rintro s₃ rfl
  have I4:Ax (BL X N' scope C s H fp (X.pn++pins)) [] (Fj sel σ) H { s with heap:=h₁,toks:=s.toks+([]:List (Str×Value)).length } :=
   RW I hk k (by rw [hDe];exact hCle) f2 (λb hb=>by rw [hDe];exact hfl b hb) hns₁ old
  refine MN (λn s'=>∃ i H' ys its nn,Ax (BL X N' scope C s H fp (X.pn++pins)) [] (Fj sel σ) H' s'/\tn i s'.heap/\(∀ b∈fp,H' b=none)/\H' D=none /\
   s'.heap.get? D=some { cls:=.type "list",data:=.seq (Y7 its) nn }/\AR ys its/\ys.length<=sizeLine/\W i n ys H') ?_ m0 ⟨0,H,[],[],0,I4,hst₁,λb hb=>(f2 b hb).1,HD,hacc,.nil,N1 _,w0⟩
  rintro n s3 ⟨i,H3,ys,its,nn,I3,st3,fr3,hD3,o3,v3,z3,w3⟩
  have I3':=pinD I3 o3 hD3 (λv z=>by cases z)
  have stat:∀ {ps:List (Addr×Obj)} {H':Hp},(∀ p∈ps,p.1=D)->(∀ b∈fp,H' b=none)->∀ b∈fp,Eo (BL X N' scope C s H fp (X.pn++pins)) ps H' b:=λ{ps H'} hps hn b hb=>by
   obtain ⟨a0,a1,a2,a3,a4,a5⟩:=f2 b hb
   refine ⟨hn b hb,j1 (E2 (hfl b hb) hCle),λz=>?_,.inl hb,λx c h=>a4 x c ((El I k).2 x c h).1,λp hp=>?_⟩
   ·rcases S0.mp (I.stkSub b z) with z | z
    ·exact a1 z
    ·exact a2 z
   ·rcases Q3.mp hp with hp | hp
    ·exact a5 p hp
    ·rw [hps p hp]
     exact (j1 (hfl b hb)).symm
  rcases turn i n ys H3 w3 with ⟨stop,qe⟩ | ⟨go,hz,Nn,hNn,step⟩
  ·refine noE (Bl (T.done (BL X N' scope C s H fp (X.pn++pins)) rfl rfl rfl hc i _ s3 _ H3 _ I3' (stat (λp hp=>by have:p∈[]++[(D,_)]:=hp;rw [i6] at this;rw [C1.mp this]) fr3) st3 stop) λr s4 ⟨hr,J4⟩=>?_)
   subst hr
   obtain ⟨m4,n4,_⟩:=id J4.loc
   have o4:=(J4.pin (D,_) (Z0 _ (Z0 _ (C1.mpr rfl)))).1
   have hC4:H3 C=none:=J4.free
   have hDC':C≠D:=Ne.symm hDC
   refine hRR D C s4 H3 ys m4 hD3 (I.call' (ch:=fp) J4.os ?_ ?_ J4.bare (λb hb=>?_)) n4 (fC (by rw [Ah hDC'];exact hC4)) qe
   ·have u:=J4.base
    have nD:∀ b o,s.heap.get? b=some o->b≠D:=λb o e=>by rw [<- hDe];exact j1 (Heap.lt_size e)
    have nD2:∀ b o,H b=some o->b≠D:=λb o e=>AE e HD
    exact ⟨u.keep,u.slot,λb o e n hx=>by rw [Ah (nD b o e)];exact u.free b o e n hx,u.there,λb xs e=>by rw [Ah (nD2 b _ e)];exact u.tups b xs e,
     λb o w e=>by rw [Ah (nD2 b _ e)];exact u.frzs b o w e,λb ps e=>by rw [Ah (nD2 b _ e)];exact u.tbls b ps e⟩
   ·intro b o e
    by_cases hbD:b=D
    ·subst hbD
     rw [Ab] at e
     cases e
     exact ⟨z3,its,nn,v3,o4⟩
    ·rw [Ah hbD] at e
     exact (J4.hok b o e).stay (λc u _ q=>q) (λc q=>by rw [Ah (AE q hD3)];exact q) λc xs q=>by rw [Ah (AE q hD3)];exact q
   ·obtain ⟨a0,a1,a2,a3,a4,a5⟩:=f2 b hb
    exact ⟨a3,a1,a4,a5⟩
  ·refine noE (Bl (T.item (BL X N' scope C s H fp (X.pn++pins)) rfl rfl rfl hc i _ s3 _ H3 _ I3' (stat (λp hp=>by have:p∈[]++[(D,_)]:=hp;rw [i6] at this;rw [C1.mp this]) fr3) st3 go) λr s4 ⟨u,hr,h4⟩=>?_)
   subst hr
   refine noE (Bl h4 λ_ s5 ⟨x,H5,I5,r5,y5,st5,fr5⟩=>?_)
   obtain ⟨hb1,hb2,hb3⟩:=hb C s H fp (X.pn++pins)
   have I5':=I5.pinned (stat (λp hp=>by have:p∈[]++[(D,_)]:=hp;rw [i6] at this;rw [C1.mp this]) fr5) (T.obj _ _ st5)
   refine noE (Bl (hb1 _ s5 _ H5 x u _ I5' r5 (hgk _ _ _ _ (step x H5 y5))) λ_ s6 ⟨σ6,H6,I6,hw6,q6⟩=>?_)
   refine noE (Bl (hb2 _ s6 σ6 H6 _ I6 q6) λok s7 ⟨H7,I7,q7⟩=>?_)
   -- what stands behind the turn
   have back:∀ {σ8:St} {H8:Hp} {s8:Shared},Ax (BL X N' scope C s H fp (X.pn++pins)) (([]++[(D,{ cls:=.type "list",data:=.seq (Y7 its) nn })])++Kc fp s5.heap) σ8 H8 s8 ->
     tn (i+1) s8.heap/\(∀ b∈fp,H8 b=none)/\H8 D=none/\s8.heap.get? D=some { cls:=.type "list",data:=.seq (Y7 its) nn }:=λ{σ8 H8 s8} J8=>by
    refine ⟨T.keep _ _ _ st5 λb hb o e=>(J8.pin (b,o) (Z0 _ (Z0 _ (Fw hb e)))).1,λb hb=>?_,?_,?_⟩
    ·obtain ⟨o,e,d⟩:=T.obj _ _ st5 b hb
     exact (J8.pin (b,o) (Z0 _ (Z0 _ (Fw hb e)))).2.1
    ·exact (J8.pin (D,_) (Z0 _ (A4 _ (Z0 _ (C1.mpr rfl))))).2.1
    ·exact (J8.pin (D,_) (Z0 _ (A4 _ (Z0 _ (C1.mpr rfl))))).1
   have weak:∀ {H8:Hp} {s8:Shared} {ps:List (Addr×Obj)},Ax (BL X N' scope C s H fp (X.pn++pins)) ps σ6 H8 s8->Ax (BL X N' scope C s H fp (X.pn++pins)) [] (Fj sel σ) H8 s8:=λ{H8 s8 ps} J8 =>
    (J8.pins_of (pins':=[]) λp hp=>by simp at hp).weak (by rw [J8.len];exact I4.len) hw6
   cases ok with
   |false =>
    obtain ⟨st8,fr8,hD8,o8⟩:=back I7
    obtain ⟨m',hm,w8⟩:=hNn ys H7 q7
    exact ⟨m',hm,i+1,H7,ys,its,nn,weak I7,st8,fr8,hD8,o8,v3,z3,w8⟩
   |true =>
    refine noE (pB (hb3 _ s7 σ6 H7 _ I7 q7) λy s8 yv H8 I8 ry q8=>?_)
    obtain ⟨st8,fr8,hD8,o8⟩:=back I8
    obtain ⟨m',hm,w8⟩:=hNn _ _ q8
    have hl:=v3.length
    refine call_meets F.slot_list_append ⟨_,o8,rfl⟩ F.entry_list_append (F.args_list_append_2 _ _) (PySem.list_append D (Y7 its) nn y (by rw [V0];lia)) ⟨o8,?_⟩
    have q:=PySem.IsL.update o8 (λz=>z.push y)
    rw [show (Y7 its).push y=(its++[y]).toArray by simp] at q
    have kp:∀ b o,b≠D->s8.heap.get? b=some o->(s8.heap.update D (Obj.mapSeq λz=>z.push y)).get? b=some o:=λb o hb e=>(Heap.get?_update_other s8.heap (Obj.mapSeq λz=>z.push y) (Ne.symm hb)).trans e
    refine ⟨m',hm,i+1,H8,ys++[yv],its++[y],_,(weak I8).turned (t':=s8.toks) kp hD8 hDC (.inr (by show s.heap.objs.size<=D;rw [hDe];exact P0 _)) (λx c h=>(fD HD).2.2.2.2.1 x c ((El I k).2 x c h).1) (λp hp=>(fD HD).2.2.2.2.2 p (by have:p∈(X.pn++pins)++[]:=hp;rwa [P3] at this)),
     T.keep _ _ _ st8 (λb hb o e=>kp b o (j1 (hfl b hb)) e),fr8,hD8,q,v3.append (.cons ry .nil),?_,w8⟩
    rw [K0,l7]
    lia
 exact codeAny_compStart_list (loop _ rfl) (T.self _ 0 _ _ _ hst₁ (loop _ rfl))

def tLc (sel:List (Option Nat)) (wi:TI) (g:TG) (tt:TT) (te:TE):TE:=λσ H Q=>wi σ H λJ H1=>∃ W:Nat->Nat->List V->Hp->Prop,(∃ m,W 0 m [] H1) /\
 Ge sel g tt te σ J W λys H=>∀ D,H D=none->Q (.ref D) (upd H D (.lst ys))
theorem ER {elt tg iter:Expr} {ifs:List Expr} {scope:Scope} {pos:Pos} {wi:TI} {N':List Str} {sel:List (Option Nat)} {g:TG} {tt:TT} {te:TE}
  (hc:X.calm=true) (hk:scope.kind=.function) (chk:JO scope X.env.scope X.N N' sel=true) (hi:PI X tg iter wi) (hgk:KM sel g)
  (hb:∀ (C:Addr) (s:Shared) (H:Hp) (fp:List Addr) (pn:List (Addr×Obj)),PG (BL X N' scope C s H fp pn) tg g/\PTs (BL X N' scope C s H fp pn) ifs tt/\PE (BL X N' scope C s H fp pn) elt te)
  (hs:∀ x,foldedSetIterable iter X.env x=pure x:=by intro _;rfl):PE X (.ListComp elt [⟨tg,iter,ifs,0⟩] scope pos) (tLc sel wi g tt te):=by
 intro pins s σ H Q I h
 have k:=Vf chk
 rw [eval_ListComp]
 refine wpAny_comprehension_free (use:=none) rfl hs (FI (El I k).1) hk k.lo (Bl (hi pins s σ H _ I h) λv s1 h1=>Bl h1 λitv s2 h2=>?_)
 obtain ⟨it,fp,tn,J,H2,e,I2,T,st2,f2,W,⟨m0,w0⟩,turn⟩:=h2
 subst e
 refine NW (RR:=λacc C=>compPost (model X.prog X.w) X.A X.xe none (EP X pins σ Q) acc C) hc hk k I2 T st2 f2 hb hgk w0 turn ?_
 intro D C s' H' ys m hD I' hns fC q
 refine ⟨m,hns,λh' hs'=>⟨.ref D,_,I'.turned (t':=s'.toks) (λb o hb e=>(hs'.2 b hb).trans e) fC.1 fC.2.1 fC.2.2.2.1 fC.2.2.2.2.1 fC.2.2.2.2.2,rfl,q D hD⟩⟩

theorem Fy {K:A0} {a:Addr} {xs:List V} {sel:List (Option Nat)} {g:TG} {tt:TT} {te:TE} {σ:St} {H:Hp} {Qe:List V->Hp->Prop} (Pv:Nat->List V->Hp->Prop) (h0:Pv 0 [] H)
  (hl:∀ i ys H,i<=xs.length->Pv i ys H->AD K H a xs/\ys.length<=i) (hz:xs.length<=sizeLine)
  (hs:∀ i x ys H,xs[i]?=some x->Pv i ys H->g x (Fj sel σ) H λσ2 H2=>tt σ2 H2 λb H3=>if b=true then te σ2 H3 λy H4=>Pv (i+1) (ys++[y]) H4 else Pv (i+1) ys H3)
  (hd:∀ ys H,Pv xs.length ys H->Qe ys H):∃ W:Nat->Nat->List V->Hp->Prop,(∃ m,W 0 m [] H)/\Ge sel g tt te σ (Itl K a) W Qe:=by
 refine ⟨λi m ys H=>m=xs.length-i/\i<=xs.length/\Pv i ys H,⟨_,rfl,N1 _,h0⟩,?_⟩
 rintro i m ys H ⟨rfl,hi,p⟩
 obtain ⟨hS,hy⟩:=hl i ys H hi p
 by_cases e:i=xs.length
 ·subst e
  exact .inl ⟨⟨xs,hS,P0 _⟩,hd _ _ p⟩
 ·have hlt:i<xs.length:=P6 hi e
  refine .inr ⟨⟨xs,xs[i],hS,by simp [hlt]⟩,by lia,Pv (i+1),λys' H' p'=>⟨xs.length-(i+1),by lia,rfl,hlt,p'⟩,?_⟩
  rintro x H' ⟨rfl,hx⟩
  exact hs i x ys H' (hx xs hS) p
theorem Kr {K:A0} {a:Addr} {xs:List V} {sel:List (Option Nat)} {g:TG} {tt:TT} {te:TE} {σ:St} {H:Hp} {Qe:List V->Hp->Prop} (Pv:Nat->List V->Hp->Prop) (h0:Pv 0 [] H)
  (hl:∀ i ys H,i<=xs.length->Pv i ys H->Bc K H a xs/\ys.length<=i) (hz:xs.length<=sizeLine)
  (hs:∀ i x ys H,xs[i]?=some x->Pv i ys H->g x (Fj sel σ) H λσ2 H2=>tt σ2 H2 λb H3=>if b=true then te σ2 H3 λy H4=>Pv (i+1) (ys++[y]) H4 else Pv (i+1) ys H3)
  (hd:∀ ys H,Pv xs.length ys H->Qe ys H):∃ W:Nat->Nat->List V->Hp->Prop,(∃ m,W 0 m [] H)/\Ge sel g tt te σ (Itt K a) W Qe:=by
 refine ⟨λi m ys H=>m=xs.length-i/\i<=xs.length/\Pv i ys H,⟨_,rfl,N1 _,h0⟩,?_⟩
 rintro i m ys H ⟨rfl,hi,p⟩
 obtain ⟨hS,hy⟩:=hl i ys H hi p
 by_cases e:i=xs.length
 ·subst e
  exact .inl ⟨⟨xs,hS,P0 _⟩,hd _ _ p⟩
 ·have hlt:i<xs.length:=P6 hi e
  refine .inr ⟨⟨xs,xs[i],hS,by simp [hlt]⟩,by lia,Pv (i+1),λys' H' p'=>⟨xs.length-(i+1),by lia,rfl,hlt,p'⟩,?_⟩
  rintro x H' ⟨rfl,hx⟩
  exact hs i x ys H' (hx xs hS) p
theorem Uv {lo:Int} {n:Nat} {sel:List (Option Nat)} {g:TG} {tt:TT} {te:TE} {σ:St} {H:Hp} {Qe:List V->Hp->Prop} (Pv:Nat->List V->Hp->Prop) (h0:Pv 0 [] H)
  (hl:∀ i ys H,i<=n->Pv i ys H->ys.length<=i) (hz:n<=sizeLine)
  (hs:∀ i ys H,i<n->Pv i ys H->g (.int (lo+i)) (Fj sel σ) H λσ2 H2=>tt σ2 H2 λb H3=>if b=true then te σ2 H3 λy H4=>Pv (i+1) (ys++[y]) H4 else Pv (i+1) ys H3)
  (hd:∀ ys H,Pv n ys H->Qe ys H):∃ W:Nat->Nat->List V->Hp->Prop,(∃ m,W 0 m [] H)/\Ge sel g tt te σ (Itr lo n) W Qe:=by
 refine ⟨λi m ys H=>m=n-i/\i<=n/\Pv i ys H,⟨_,rfl,N1 _,h0⟩,?_⟩
 rintro i m ys H ⟨rfl,hi,p⟩
 have hy:=hl i ys H hi p
 by_cases e:i=n
 ·subst e
  exact .inl ⟨P0 _,hd _ _ p⟩
 ·have hlt:i<n:=P6 hi e
  refine .inr ⟨hlt,by lia,Pv (i+1),λys' H' p'=>⟨n-(i+1),by lia,rfl,hlt,p'⟩,?_⟩
  rintro x H' ⟨rfl,rfl⟩
  exact hs i ys H' hlt p

def IA (i:Nat) (sel:List (Option Nat)) (wi:TI) (g:TG) (tt:TT) (te:TE):TS:=λD σ H=>wi σ H λJ H1=>∃ W:Nat->Nat->List V->Hp->Prop,(∃ m,W 0 m [] H1) /\
 Ge sel g tt te σ J W λys H=>∀ l,H l=none->D.nx (σ.set i (some (.ref l))) (upd H l (.lst ys))
theorem FV {i:Nat} {x:Str} {elt tg iter:Expr} {ifs:List Expr} {scope:Scope} {pos pos' spos:Pos} {wi:TI} {N':List Str} {sel:List (Option Nat)} {g:TG} {tt:TT} {te:TE}
  (hN:X.N.Nodup) (hi':X.N[i]?=some x) (hx:Loc X.env.scope x)
  (hc:X.calm=true) (hk:scope.kind=.function) (chk:JO scope X.env.scope X.N N' sel=true) (hi:PI X tg iter wi) (hgk:KM sel g)
  (hb:∀ (C:Addr) (s:Shared) (H:Hp) (fp:List Addr) (pn:List (Addr×Obj)),PG (BL X N' scope C s H fp pn) tg g/\PTs (BL X N' scope C s H fp pn) ifs tt/\PE (BL X N' scope C s H fp pn) elt te)
  (hsw:swapsWith (.ListComp elt [⟨tg,iter,ifs,0⟩] scope pos) (some (.Name x pos')) spos.line X.env=pure true)
  (hs:∀ x,foldedSetIterable iter X.env x=pure x:=by intro _;rfl) (hf:X.fn x=true\/X.env.scope.names.lookup x=some .local:=by first | exact .inl rfl | exact .inr rfl | assumption) :
  PS X (.Assign [.Name x pos'] (.ListComp elt [⟨tg,iter,ifs,0⟩] scope pos) spos) (IA i sel wi g tt te):=by
 intro pins s σ H Dn I h
 have k:=Vf chk
 rw [exec_Assign_Name_used _ _ _ _ hsw]
 refine wpAny_bind (wpAny_standAt (wpAny_bind ?_))
 show wpAny _ X.A (do let _ <- comprehension (.ListComp elt [⟨tg,iter,ifs,0⟩] scope pos) scope X.env _ (newList []) false (eval iter X.env) (some (assign (.Name x pos') X.env))) _ _ s
 refine wpAny_bind (wpAny_mono (wpAny_comprehension_free (use:=some (assign (.Name x pos') X.env)) (Q:=λ_ s'=>SP X pins Dn .next s') rfl hs (FI (El I k).1) hk k.lo
  (Bl (hi pins s σ H _ I h) λv s1 h1=>Bl h1 λitv s2 h2=>?_)) (λ_ s' hq=>wpAny_pure (wpAny_pure hq)) λ_ _ e=>e)
 obtain ⟨it,fp,tn,J,H2,e,I2,T,st2,f2,W,⟨m0,w0⟩,turn⟩:=h2
 subst e
 refine NW (RR:=λacc C=>compPost (model X.prog X.w) X.A X.xe (some (assign (.Name x pos') X.env)) (λ_ s'=>SP X pins Dn .next s') acc C) hc hk k I2 T st2 f2 hb hgk w0 turn ?_
 intro D C s' H' ys m hD I' hns fC q
 obtain ⟨oC,es,ep,eC,dC,rC⟩:=id hns
 have I'':Ax X (pins++[(C,oC)]) σ (upd H' D (.lst ys)) s':=I'.pins_of λp hp=>by
  rcases Q3.mp hp with hp | hp
  ·exact I'.pin p (Z0 _ hp)
  ·rw [C1.mp hp]
   exact ⟨eC,fC.1,fC.2.1,fC.2.2.1,λv z=>by rw [dC] at z;cases z⟩
 refine Bl (Bm (pos:=pos') hN hi' hx hf (pins++[(C,oC)]) s' σ _ (.ref D) (.ref D) (λσ2 H2=>σ2=σ.set i (some (.ref D))/\H2=upd H' D (.lst ys)) I'' rfl ⟨rfl,rfl⟩) λ_ s9 h9=>?_
 obtain ⟨σ9,H9,I9,rfl,rfl⟩:=h9
 have eC9:=(I9.pin (C,oC) (Z0 _ (Z0 _ (C1.mpr rfl)))).1
 refine ⟨m,⟨oC,es,ep,eC9,dC,rC⟩,λh' hs'=>?_⟩
 exact ⟨_,_,(I9.unpinned).turned (t':=s9.toks) (λb o hb e=>(hs'.2 b hb).trans e) fC.1 fC.2.1 fC.2.2.2.1 fC.2.2.2.2.1 fC.2.2.2.2.2,q D hD⟩
end
section
variable {X:Cx} {tg:Expr} {a b:Expr} {ta tb:TE} {pos:Pos}

def tMid (t u:TS):TS:=λD σ H=>∃ M:St->Hp->Prop,t { D with nx:=M } σ H/\∀ σ' H',M σ' H'->u D σ' H'
theorem By {st:Stmt} {Bh:List Stmt} {t u:TS} (h1:PS X st t) (h2:KI X Bh u):KI X (st::Bh) (tMid t u):=by
 intro pins s σ H D I h
 obtain ⟨M,hM,hu⟩:=h
 refine wpAny_execs_cons (Bl (h1 pins s σ H { D with nx:=M } I hM) λf s1 q=>?_)
 cases f with
 |next =>
  obtain ⟨σ',H',I',q⟩:=q
  exact h2 pins s1 σ' H' D I' (hu _ _ q)
 |ret v=>exact q
 |brk=>exact q
 |cont=>exact q

def Its (x:Str):It:=⟨λi _=>i<x.length,λi H v H'=>H'=H/\∃ c,x.cps.toList[i]?=some c/\v=.str ⟨#[c]⟩,λi _=>x.length<=i⟩
theorem Rm {P:Program} {w:World} {K:A0} {tg:Expr} (x:Str) (t:Tok) (it:Addr):KH P w K tg (Its x) [it] it (λi h=>h.IsStrIter it "str_ascii_iterator" x t i) where
 mem:=by simp
 obj:=λi h st b hb=>by
  have e:b=it:=by simpa using hb
  subst e
  obtain ⟨o,e,c,d⟩:=st
  exact ⟨o,e,λv z=>by rw [d] at z;cases z⟩
 keep:=λi h h' st k=>let ⟨o,ho,r⟩:=st;⟨o,k it (by simp) o ho,r⟩
 item:=by
  intro X hP hw hK hc i pins s σ H E I hf st hg
  subst hP hw hK
  have hlt:i<x.cps.size:=hg
  obtain ⟨f0,f1,f2,f3,f4,f5⟩:=hf it (by simp)
  refine wpAny_pyNext_ascii_item st (c:=x.cps[i]) (by simp [hlt]) λh' st' sb=>?_
  have I1:Ax X pins σ H { s with heap:=h',toks:=s.toks+1 }:=I.turned (t':=s.toks+1) (λb o hb e=>(sb.2 b hb).trans e) f0 f1 f3 f4 f5
  obtain ⟨o,e,c,d⟩:=id st'
  exact ⟨_,rfl,Oe (s:={ s with heap:=h',toks:=s.toks+1 }) e c d (by kd_p) ⟨.str ⟨#[x.cps[i]]⟩,H,I1,⟨_,rfl⟩,⟨rfl,x.cps[i],by simp [hlt],rfl⟩,st',λb hb=>(hf b hb).1⟩⟩
 done:=by
  intro X hP hw hK hc i pins s σ H E I hf st hg
  subst hP hw hK
  have hle:x.cps.size<=i:=hg
  obtain ⟨f0,f1,f2,f3,f4,f5⟩:=hf it (by simp)
  exact wpAny_pyNext_ascii_end (I.ok.hd hc) st (by simp;lia) λh' eb=>⟨rfl,I.turned (t':=s.toks) (λb o hb e=>eb b o hb e) f0 f1 f3 f4 f5⟩
 self:=λ_ _ _ _ _ st h=>wpAny_pyIter_striter_ascii st h
theorem Rl {P:Program} {w:World} {K:A0} {tg:Expr} (x:Str) (t:Tok) (it:Addr):KH P w K tg (Its x) [it] it (λi h=>h.IsStrIter it "str_iterator" x t i) where
 mem:=by simp
 obj:=λi h st b hb=>by
  have e:b=it:=by simpa using hb
  subst e
  obtain ⟨o,e,c,d⟩:=st
  exact ⟨o,e,λv z=>by rw [d] at z;cases z⟩
 keep:=λi h h' st k=>let ⟨o,ho,r⟩:=st;⟨o,k it (by simp) o ho,r⟩
 item:=by
  intro X hP hw hK hc i pins s σ H E I hf st hg
  subst hP hw hK
  have hlt:i<x.cps.size:=hg
  obtain ⟨f0,f1,f2,f3,f4,f5⟩:=hf it (by simp)
  refine wpAny_pyNext_wide_item st (c:=x.cps[i]) (by simp [hlt]) λh' st' sb=>?_
  have I1:Ax X pins σ H { s with heap:=h',toks:=s.toks+1 }:=I.turned (t':=s.toks+1) (λb o hb e=>(sb.2 b hb).trans e) f0 f1 f3 f4 f5
  obtain ⟨o,e,c,d⟩:=id st'
  exact ⟨_,rfl,Oe (s:={ s with heap:=h',toks:=s.toks+1 }) e c d (by kd_p) ⟨.str ⟨#[x.cps[i]]⟩,H,I1,⟨_,rfl⟩,⟨rfl,x.cps[i],by simp [hlt],rfl⟩,st',λb hb=>(hf b hb).1⟩⟩
 done:=by
  intro X hP hw hK hc i pins s σ H E I hf st hg
  subst hP hw hK
  have hle:x.cps.size<=i:=hg
  obtain ⟨f0,f1,f2,f3,f4,f5⟩:=hf it (by simp)
  exact wpAny_pyNext_wide_end (I.ok.hd hc) st (by simp;lia) λh' eb=>⟨rfl,I.turned (t':=s.toks) (λb o hb e=>eb b o hb e) f0 f1 f3 f4 f5⟩
 self:=λ_ _ _ _ _ st h=>wpAny_pyIter_striter_wide st h
def iStr (tl:TE):TI:=λσ H R=>tl σ H λx H1=>∃ z,x=.str z/\R (Its z) H1
theorem OZ {l:Expr} {tl:TE} (hl:PE X l tl):PI X tg l (iStr tl):=by
 intro pins s σ H R I h
 refine pB (hl pins s σ H _ I h) λv s1 x H1 I1 r1 q1=>?_
 obtain ⟨z,e,q⟩:=q1
 subst e
 obtain ⟨t,rfl⟩:=r1
 have fp:∀ b∈[s1.heap.objs.size],Eo X pins H1 b:=λb hb=>by
  have e:b=s1.heap.objs.size:=by simpa using hb
  subst e
  exact I1.fpOk (P0 _) (I1.hok.fresh (P0 _))
 cases ha:z.cps.all (·<128)
 ·exact wpAny_pyIter_wide ha ⟨s1.heap.objs.size,[s1.heap.objs.size],_,_,H1,rfl,I1.kept (t':=s1.toks) λb o e=>Heap.get?_push_of_some _ e,Rl z t _,⟨_,Heap.get?_push_size _ rfl,rfl,rfl⟩,fp,q⟩
 ·exact wpAny_pyIter_ascii ha ⟨s1.heap.objs.size,[s1.heap.objs.size],_,_,H1,rfl,I1.kept (t':=s1.toks) λb o e=>Heap.get?_push_of_some _ e,Rm z t _,⟨_,Heap.get?_push_size _ rfl,rfl,rfl⟩,fp,q⟩
theorem Pr {z:Str} {sel:List (Option Nat)} {g:TG} {tt:TT} {te:TE} {σ:St} {H:Hp} {Qe:List V->Hp->Prop} (Pv:Nat->List V->Hp->Prop) (h0:Pv 0 [] H)
  (hl:∀ i ys H,i<=z.length->Pv i ys H->ys.length<=i) (hz:z.length<=sizeLine)
  (hs:∀ i c ys H,z.cps.toList[i]?=some c->Pv i ys H->g (.str ⟨#[c]⟩) (Fj sel σ) H λσ2 H2=>tt σ2 H2 λb H3=>if b=true then te σ2 H3 λy H4=>Pv (i+1) (ys++[y]) H4 else Pv (i+1) ys H3)
  (hd:∀ ys H,Pv z.length ys H->Qe ys H):∃ W:Nat->Nat->List V->Hp->Prop,(∃ m,W 0 m [] H)/\Ge sel g tt te σ (Its z) W Qe:=by
 refine ⟨λi m ys H=>m=z.length-i/\i<=z.length/\Pv i ys H,⟨_,rfl,N1 _,h0⟩,?_⟩
 rintro i m ys H ⟨rfl,hi,p⟩
 have hy:=hl i ys H hi p
 by_cases e:i=z.length
 ·subst e
  exact .inl ⟨P0 _,hd _ _ p⟩
 ·have hlt:i<z.length:=P6 hi e
  refine .inr ⟨hlt,by lia,Pv (i+1),λys' H' p'=>⟨z.length-(i+1),by lia,rfl,hlt,p'⟩,?_⟩
  rintro x H' ⟨rfl,c,hc,rfl⟩
  exact hs i c ys H' hc p

theorem Vl {bs:List Bool}:∀ {us:List Value},AR (bs.map V.bl) us->LSm.BoolsAre us bs:=by
 induction bs with
 |nil=>intro us r;cases r;exact .nil
 |cons b bs ih =>
  intro us r
  cases r with
  |cons h t =>
   cases h
   exact .cons b (ih t)
theorem Oz (hc:X.calm=true):En X (.builtin "all") (λxs H Q=>∃ (p:Addr) (bs:List Bool),xs=[.ref p]/\AD X.K H p (bs.map V.bl)/\Q (.bl (bs.all id)) H):=by
 intro pins s σ H xs us Q I r h
 obtain ⟨p,bs,rfl,hp,q⟩:=h
 obtain ⟨u,rfl,ru⟩:=Ep r
 cases ru
 obtain ⟨its,rv,pl,hz⟩:=I.list hp
 have hb:=Vl rv
 have hl:=pl.isList
 have hlt:p<s.heap.objs.size:=by obtain ⟨_,e,_⟩:=hl;exact Heap.lt_size e
 refine call_all_walk (wpAny_pyIter_list hl ?_)
 refine ⟨s.heap.objs.size,[s.heap.objs.size,p],[s.heap.objs.size],its.toArray.size,_,_,λi=>(bs[i]?).getD true,rfl,Walks.list (A:=X.A.in1) (I.ok.hd hc) _ p (j1 hlt) its.toArray,
  ⟨⟨_,Heap.get?_push_size _ rfl,rfl,rfl⟩,hl.push _⟩,λi v s' Q' E' hP hQ=>?_,λh' tk hk=>?_⟩
 ·obtain ⟨b,e,rfl⟩:=hb.get i v (by simpa using hP)
  simp only [e,Option.getD_some] at hQ
  exact wpAny_truthy_bool hQ
 ·have e:((C5 its.toArray.size).all λi=>(bs[i]?).getD true)=bs.all id:=by
   rw [V0,hb.length];exact LSm.range_all bs
  rw [e]
  exact ⟨.bl _,H,I.kept (LSm.kept_iter hk),rfl,q⟩
theorem CO:En X (.builtin "isinstance") (λxs H Q=>∃ x n t b,xs=[x,.ty n]/\GW X.K H x t/\K6 X.K t (.type n)=some b/\Q (.bl b) H):=by
 intro pins s σ H xs us Q I r h
 obtain ⟨x,n,t,b,rfl,ty,e,q⟩:=h
 obtain ⟨u,w',rfl,ru,rw'⟩:=Qh r
 cases rw'
 exact RV I ru ty e λtk=>⟨.bl b,H,I.tok _,rfl,q⟩
theorem Gv:GC X (compareOp .LtE) (λx y H Q=>∃ i j,x=.str i/\y=.str j/\Q (.bl (!decide (j.cps.toList<i.cps.toList))) H):=by
 intro pins s σ H x y v u Q I rx ry h
 obtain ⟨i,j,rfl,rfl,q⟩:=h
 obtain ⟨t,rfl⟩:=rx
 obtain ⟨t',rfl⟩:=ry
 exact PySem.P.le_str (AY I q rfl)

def Iq (z:Str) (lo hi:Option Int):Str:=⟨((z.cps.toList.drop (HT.sIx z.length 0 lo)).take (HT.sIx z.length z.length hi-HT.sIx z.length 0 lo)).toArray⟩
theorem Qv (n d:Nat) (hd:d<=n) (o:Option Int):HT.sIx n d o<=n:=by
 cases o with
 |none=>exact hd
 |some v=>simp only [HT.sIx];split<;>lia
theorem RH (a b:Nat):sliceRange (a:Int) (b:Int) 1=(C5 (b-a)).map (λk=>a+k):=by
 unfold sliceRange
 simp only [show (1:Int) > 0 by kd_p,if_true]
 have ec:(if (a:Int)<(b:Int) then ((b:Int)-a+1-1) / 1 else 0).toNat=b-a:=by split<;>simp<;>lia
 rw [ec]
 refine List.map_congr_left λk _=>?_
 lia
theorem idx_eq (lo hi:Option Int) (n:Nat):Builtin.Str.strSliceIndices lo hi 1 n=(C5 (HT.sIx n n hi-HT.sIx n 0 lo)).map (λk=>HT.sIx n 0 lo+k):=by
 rw [<- RH]
 unfold Builtin.Str.strSliceIndices
 simp only [show (1:Int) > 0 by kd_p,if_true]
 congr 1
 ·cases lo with
  |none=>rfl
  |some v=>simp only [HT.sIx];split<;>lia
 ·cases hi with
  |none=>rfl
  |some v=>simp only [HT.sIx];split<;>lia
theorem Np (z:Str) (lo hi:Option Int):Txt.slice z lo hi=Iq z lo hi:=by
 have ha:=Qv z.length 0 (N1 _) lo
 have hb:=Qv z.length z.length (P0 _) hi
 unfold Txt.slice Iq
 rw [idx_eq]
 generalize HT.sIx z.length 0 lo=a at *
 generalize HT.sIx z.length z.length hi=b at *
 have hl:z.cps.toList.length=z.length:=rfl
 split
 ·rename_i h
  have h':b-a=z.length:=by simpa using h
  apply Str.ext'
  show z.cps=((z.cps.toList.drop a).take (b-a)).toArray
  have h0:a=0\/z.length=0:=by lia
  rcases h0 with h0 | h0
  ·subst h0
   rw [l8,h',<- hl,K3]
  ·have:z.cps.toList=[]:=L4 (hl.trans h0)
   have hz:z.cps=#[]:=by rw [<- Array.toArray_toList (xs:=z.cps),this]
   rw [this,hz];simp
 ·by_cases hab:a<=b
  ·have h:=StrLaws.picks z.cps.toList (b-a) a (by lia)
   have h2:List.filterMap (λx=>z.cps[x]?) (T8 (λk=>a+k) (C5 (b-a)))=List.take (b-a) (List.drop a z.cps.toList):=by simpa using h
   rw [h2]
  ·have:b-a=0:=by lia
   rw [this];simp
theorem cut_le (z:Str) (lo hi:Option Int):(Iq z lo hi).length<=z.length:=by rw [<- Np];exact Txt.slice_le z lo hi
def rSlS:V->Option Int->Option Int->Hp->VK->Prop:=λx lo hi H Q=>∃ z,x=.str z/\z.length<=sizeLine/\Q (.str (Iq z lo hi)) H
theorem OP:SlR X rSlS:=by
 intro pins s σ H x v vl vu lo hi sl Q I rx hs pl pu h
 obtain ⟨z,rfl,hz,q⟩:=h
 obtain ⟨t,rfl⟩:=rx
 rw [<- Np] at q
 refine ⟨"str",_,F.slot_str_getitem.lookup,typeIs_str _ _ _,?_⟩
 have fin:∀ (l u:Option (Int×Tok)),vl=partValue l->vu=partValue u->lo=l.map (·.1)->hi=u.map (·.1)->wpAny (model X.prog X.w) X.A (getItem (.str z t) (.ref sl)) (EP X pins σ Q) X.xe s:=by
  rintro l u rfl rfl rfl rfl
  exact wpAny_getItem_str_slice (l:=l) (u:=u) (st:=none) hs rfl (post_val_or_str ⟨C0 (Txt.slice_le z _ _) hz,λt' k=>⟨.str _,H,I.tok _,⟨_,rfl⟩,q⟩⟩)
 cases pl with
 |none =>
  cases pu with
  |none=>exact fin none none rfl rfl rfl rfl
  |int j uj=>exact fin none (some (j,uj)) rfl rfl rfl rfl
 |int i ui =>
  cases pu with
  |none=>exact fin (some (i,ui)) none rfl rfl rfl rfl
  |int j uj=>exact fin (some (i,ui)) (some (j,uj)) rfl rfl rfl rfl
def Qw:V->List V->Hp->VK->Prop:=λx vs H Q=>∃ z y,x=.str z/\vs=[.str y]/\Q (.bl (Txt.startswith z y)) H
theorem EK:MtR X "str.startswith" Qw:=by
 intro pins s σ H x vs v us Q I rx rv h
 obtain ⟨z,y,rfl,rfl,q⟩:=h
 obtain ⟨t,rfl⟩:=rx
 obtain ⟨u,rfl,ru⟩:=Ep rv
 obtain ⟨t',rfl⟩:=ru
 exact SC.startswith ⟨.bl _,H,I,rfl,q⟩
theorem strs_of {zs:List Str}:∀ {us:List Value},AR (zs.map V.str) us->StrsAre us zs:=by
 induction zs with
 |nil=>intro us r;cases r;exact .nil
 |cons b bs ih =>
  intro us r
  cases r with
  |cons h t =>
   obtain ⟨tk,rfl⟩:=h
   exact .cons _ _ (ih t)
def rJoin (K:A0):V->List V->Hp->VK->Prop:=λx vs H Q=>∃ (z:Str) (p:Addr) (zs:List Str),x=.str z/\vs=[.ref p]/\AD K H p (zs.map V.str)/\(zs.map (·.length)).sum+zs.length*z.length<=16777216/\Q (.str (Txt.join z zs)) H
theorem MB:MtR X "str.join" (rJoin X.K):=by
 intro pins s σ H x vs v us Q I rx rv h
 obtain ⟨z,p,zs,rfl,rfl,hp,hz,q⟩:=h
 obtain ⟨t,rfl⟩:=rx
 obtain ⟨u,rfl,ru⟩:=Ep rv
 cases ru
 obtain ⟨its,r',pl,_⟩:=I.list hp
 exact join_list pl.isList (strs_of r') hz λt' k=>⟨.str _,H,I.tok _,⟨_,rfl⟩,q⟩

inductive Re (K:A0) (H:Hp):Nat->V->V->Bool->Prop
 |flat {n:Nat} {x y:V}:Cy x=true->Cy y=true->Re K H n x y (PH x y)
 |same {n:Nat} {a:Addr}:Re K H n (.ref a) (.ref a) true
 |lst {n:Nat} {a b:Addr} {xs ys:List V} {e:Nat->Bool}:AD K H a xs->AD K H b ys->a≠b->xs.length=ys.length->(∀ i x y,xs[i]?=some x->ys[i]?=some y->Re K H n x y (e i))->Re K H (n+1) (.ref a) (.ref b) ((C5 xs.length).all e)
 |lstN {n:Nat} {a b:Addr} {xs ys:List V}:AD K H a xs->AD K H b ys->a≠b->xs.length≠ys.length->Re K H (n+1) (.ref a) (.ref b) false
 |tup {n:Nat} {a b:Addr} {xs ys:List V} {e:Nat->Bool}:Bc K H a xs->Bc K H b ys->a≠b->(∀ i x y,xs[i]?=some x->ys[i]?=some y->Re K H n x y (e i))->Re K H (n+1) (.ref a) (.ref b) ((C5 (min xs.length ys.length)).all e&&xs.length == ys.length)
 |tupF {n:Nat} {a:Addr} {xs:List V} {y:V}:Bc K H a xs->Cy y=true->Re K H n (.ref a) y false
 |fTup {n:Nat} {a:Addr} {xs:List V} {y:V}:Bc K H a xs->Cy y=true->Re K H n y (.ref a) false
theorem ED {xs:List V} {its:List Value} {j:Nat} (r:AR xs its) (h:j<its.toArray.size):∃ x,xs[j]?=some x/\Ba x its.toArray[j]:=by
 have hl:=r.length
 have hj:j<xs.length:=by rw [V0] at h;lia
 obtain ⟨u,hu,ru⟩:=r.get (i:=j) (x:=xs[j]) (by simp [hj])
 refine ⟨xs[j],by simp [hj],?_⟩
 have e:its.toArray[j]=u:=by
  have h2:j<its.length:=by rw [V0] at h;exact h
  have:=Y1 h2
  rw [hu] at this
  simpa using (V3.inj this).symm
 rw [e];exact ru
theorem _root_.PyProof.Rows.IsTup.isTuple' {h:Heap} {a:Addr} {its:Array Value} (p:IsTup h a its):h.IsTuple a its:=p
theorem Re.at {K:A0} {H:Hp} {n:Nat} {x y:V} {b:Bool} (d:Re K H n x y b):∀ {X:Cx} {pins:List (Addr×Obj)} {σ:St} {s:Shared} {A:Around} {u v:Value},X.K=K->Ax X pins σ H s->Ba x u->Ba y v->A.units+n<cLine->SeqAt.EqAt A s u v b:=by
 induction d with
 |flat fx fy=>intro X pins σ s A u v hK I rx ry hu;exact UZ rx ry fx fy
 |same=>intro X pins σ s A u v hK I rx ry hu;cases rx;cases ry;exact SeqAt.EqAt.same _
 |@lst n a b xs ys e hx hy hne hl _ ih =>
  intro X pins σ s A u v hK I rx ry hu
  subst hK
  cases rx;cases ry
  obtain ⟨ia,ra,pa,_⟩:=I.list hx
  obtain ⟨ib,rb,pb,_⟩:=I.list hy
  have la:=ra.length
  have lb:=rb.length
  have hs:ia.toArray.size=ib.toArray.size:=by rw [V0,V0];lia
  have q:=SeqAt.RcAt.lists (A:=A) (e:=e) pa.isList pb.isList hs (by lia) λj h1 h2=>by
   obtain ⟨x,ex,rx⟩:=ED ra h1
   obtain ⟨y,ey,ry⟩:=ED rb h2
   exact ih j x y ex ey rfl I rx ry (by show A.units+1+n<cLine;lia)
  rw [V0,<- la] at q
  exact SeqAt.EqAt.of_refs hne q
 |@lstN n a b xs ys hx hy hne hl =>
  intro X pins σ s A u v hK I rx ry hu
  subst hK
  cases rx;cases ry
  obtain ⟨ia,ra,pa,_⟩:=I.list hx
  obtain ⟨ib,rb,pb,_⟩:=I.list hy
  have la:=ra.length
  have lb:=rb.length
  exact SeqAt.EqAt.of_refs hne (SeqAt.RcAt.lists_lengths pa.isList pb.isList (by rw [V0,V0];simp;lia) (by lia))
 |@tup n a b xs ys e hx hy hne _ ih =>
  intro X pins σ s A u v hK I rx ry hu
  subst hK
  cases rx;cases ry
  obtain ⟨ia,ra,pa,_⟩:=I.tuple hx
  obtain ⟨ib,rb,pb,_⟩:=I.tuple hy
  have la:=ra.length
  have lb:=rb.length
  have q:=SeqAt.RcAt.tuples (A:=A) (e:=e) pa.isTuple' pb.isTuple' (by lia) λj h1 h2=>by
   obtain ⟨x,ex,rx⟩:=ED ra h1
   obtain ⟨y,ey,ry⟩:=ED rb h2
   exact ih j x y ex ey rfl I rx ry (by show A.units+1+n<cLine;lia)
  rw [V0,V0,<- la,<- lb] at q
  exact SeqAt.EqAt.of_refs hne q
 |@tupF n a xs y hx fy =>
  intro X pins σ s A u v hK I rx ry hu
  subst hK
  cases rx
  obtain ⟨ia,ra,pa,_⟩:=I.tuple hx
  have hu':A.units<cLine:=by lia
  cases y with
  |non=>cases (show v=Value.none from ry);exact SeqAt.EqAt.tuple_none pa.isTuple' hu'
  |bl b=>cases (show v=Value.bool b from ry);exact SeqAt.EqAt.tuple_bool b pa.isTuple' hu'
  |int i=>obtain ⟨t,q⟩:=(show ∃ t,v=Value.int i t from ry);cases q;exact SeqAt.EqAt.tuple_int i t pa.isTuple' hu'
  |str z=>obtain ⟨t,q⟩:=(show ∃ t,v=Value.str z t from ry);cases q;exact SeqAt.EqAt.tuple_str z t pa.isTuple' hu'
  |byt b=>cases fy
  |flt b=>cases fy
  |ref a=>cases fy
  |ty n=>cases fy
 |@fTup n a xs y hx fy =>
  intro X pins σ s A u v hK I rx ry hu
  subst hK
  cases ry
  obtain ⟨ia,ra,pa,_⟩:=I.tuple hx
  have hu':A.units<cLine:=by lia
  cases y with
  |non=>cases (show u=Value.none from rx);exact SeqAt.EqAt.none_tuple pa.isTuple' hu'
  |bl b=>cases (show u=Value.bool b from rx);exact SeqAt.EqAt.bool_tuple b pa.isTuple' hu'
  |int i=>obtain ⟨t,q⟩:=(show ∃ t,u=Value.int i t from rx);cases q;exact SeqAt.EqAt.int_tuple i t pa.isTuple' hu'
  |str z=>obtain ⟨t,q⟩:=(show ∃ t,u=Value.str z t from rx);cases q;exact SeqAt.EqAt.str_tuple z t pa.isTuple' hu'
  |byt b=>cases fy
  |flt b=>cases fy
  |ref a=>cases fy
  |ty n=>cases fy
def EqIt (K:A0) (H:Hp) (n:Nat) (xs ys:List V) (e:Nat->Bool):Prop:=∀ i x y,xs[i]?=some x->ys[i]?=some y->Re K H n x y (e i)
def OW (K:A0) (neg:Bool):R2:=λx y H Q=>∃ a b xs ys n e,x=.ref a/\y=.ref b/\AD K H a xs/\AD K H b ys/\n<=90/\EqIt K H n xs ys e/\Q (.bl (neg^^(decide (xs.length=ys.length)&&(C5 xs.length).all e))) H
theorem EI (hu:X.A.units+100<cLine):GC X (compareOp .Eq) (OW X.K false):=by
 intro pins s σ H x y v u Q I rx ry h
 obtain ⟨a,b,xs,ys,n,e,rfl,rfl,hx,hy,hn,he,q⟩:=h
 cases rx;cases ry
 obtain ⟨ia,ra,pa,_⟩:=I.list hx
 obtain ⟨ib,rb,pb,_⟩:=I.list hy
 have la:=ra.length
 have lb:=rb.length
 rw [j4] at q
 by_cases hl:xs.length=ys.length
 ·rw [decide_eq_true hl,S3] at q
  refine SeqAt.eq_listAt (e:=e) pa.isList pb.isList (by rw [V0,V0];lia) (by lia) (λj h1 h2=>?_) ⟨.bl _,H,I,rfl,?_⟩
  ·obtain ⟨x,ex,rx⟩:=ED ra h1
   obtain ⟨y,ey,ry⟩:=ED rb h2
   exact (he j x y ex ey).at rfl I rx ry (by show X.A.units+1+n<cLine;lia)
  ·rw [V0,<- la];exact q
 ·rw [decide_eq_false hl,C3] at q
  exact SeqAt.eq_list_lengthsAt pa.isList pb.isList (by rw [V0,V0];simp;lia) (by lia) ⟨.bl _,H,I,rfl,q⟩
theorem IP (hu:X.A.units+100<cLine):GC X (compareOp .NotEq) (OW X.K true):=by
 intro pins s σ H x y v u Q I rx ry h
 obtain ⟨a,b,xs,ys,n,e,rfl,rfl,hx,hy,hn,he,q⟩:=h
 cases rx;cases ry
 obtain ⟨ia,ra,pa,_⟩:=I.list hx
 obtain ⟨ib,rb,pb,_⟩:=I.list hy
 have la:=ra.length
 have lb:=rb.length
 rw [V5] at q
 by_cases hl:xs.length=ys.length
 ·rw [decide_eq_true hl,S3] at q
  refine SeqAt.RcNeAt.lists (e:=e) pa.isList pb.isList (by rw [V0,V0];lia) (by lia) (λj h1 h2=>?_) _ _ _ _ ⟨.bl _,H,I,rfl,?_⟩
  ·obtain ⟨x,ex,rx⟩:=ED ra h1
   obtain ⟨y,ey,ry⟩:=ED rb h2
   exact (he j x y ex ey).at rfl I rx ry (by show X.A.units+1+n<cLine;lia)
  ·rw [V0,<- la];exact q
 ·rw [decide_eq_false hl,C3] at q
  exact SeqAt.RcNeAt.lists_lengths pa.isList pb.isList (by rw [V0,V0];simp;lia) (by lia) _ _ _ _ ⟨.bl _,H,I,rfl,q⟩
theorem BU {A:Around} {k:Nat} (hr:BZ k A):A.units+100<cLine:=P4 (by lia) hr.un

def Mc:List Expr->List Str->Bool
 |[],[]=>true
 |.Constant (.str x) _ _::r,z::zs=>x == z&&Mc r zs
 |_,_=>false
def tStrs (zs:List Str):TA:=λ_ H Q=>Q (zs.map V.str) H
theorem Ch:∀ {es:List Expr} {zs:List Str},Mc es zs=true->PA X es (tStrs zs):=by
 intro es
 induction es with
 |nil =>
  intro zs h
  cases zs with
  |nil=>exact Ac
  |cons z zs=>cases h
 |cons e r ih =>
  intro zs h
  unfold Mc at h
  split at h
  ·exact absurd ‹e::r=[]› (List.cons_ne_nil _ _)
  ·rename_i x j p r' z zs' h1
   cases h1
   rw [W1] at h
   have hx:x=z:=by simpa using h.1
   subst hx
   exact Aa (X:=X) (e:=.Constant (.str x) j p) Ak (ih h.2)
  ·cases h
end
set_option genInjectivity false in
structure Dl (K:A0) (mg:Str->Option Value) (x:Str) (st:Stmt) (ps:List Str) where
 f:Addr
 fd:FuncData
 F:Sx K x x st f fd
 hm:mg x=some (.ref f)
 b:Ci K fd ps []
theorem cxOf_K {CX:LX} {P:Program} {w:World} {K:A0} {mg:Str->Option Value} {base:Heap} {N:List Str} {qual:Str} {scope:Scope} {f:Addr} {cd:Value} {A:Around} {outer:List Env} {s:Shared} {H:Hp} {E:XK} :
  (Ff CX P w K mg base N qual scope f cd A outer s H E).K=K:=rfl
theorem Ve {X:Cx} {N:List Str} {scope:Scope} {C:Addr} {s:Shared} {H:Hp} {fp:List Addr} {pn:List (Addr×Obj)}:(BL X N scope C s H fp pn).K=X.K:=rfl
structure InK (K:A0) (x:Str) (st:Stmt):Prop where
 ex:∃ (f:Addr) (oc:Value) (od:Option Addr) (kV doc pm:Value) (an:Option Addr) (cdv ct:Value) (osl:Array (Option Value)),
  A1 K mainGlobals x=some (some (.ref f))/\K.lookup f=some ⟨oc,od,.func (V2 x x (AZ st) (AT st) (At st) .none kV doc pm an cdv ct),osl⟩/\E4 K cdv x=true/\T2 K (.ref f)=true
theorem InK.of {K:A0} {x:Str} {st:Stmt} {f:Addr} {oc:Value} {od:Option Addr} {kV doc pm:Value} {an:Option Addr} {cdv ct:Value} {osl:Array (Option Value)}
  (a:A1 K mainGlobals x=some (some (.ref f))) (l:K.lookup f=some ⟨oc,od,.func (V2 x x (AZ st) (AT st) (At st) .none kV doc pm an cdv ct),osl⟩) (c:E4 K cdv x=true) (k:T2 K (.ref f)=true):InK K x st :=
 ⟨⟨f,oc,od,kV,doc,pm,an,cdv,ct,osl,a,l,c,k⟩⟩
theorem InK.def {K:A0} {mg:Str->Option Value} {h:Heap} {x:Str} {st:Stmt} {ps:List Str} (i:InK K x st) (X:K.In h) (G:h.Ns mainGlobals mg)
  (hb:∀ (kV doc pm:Value) (an:Option Addr) (cdv ct:Value) (us:List Value),us.length=ps.length->bindArgs (V2 x x (AZ st) (AT st) (At st) .none kV doc pm an cdv ct) ⟨us,[]⟩=pure (ps.zip us)):Nonempty (Dl K mg x st ps):=by
 obtain ⟨f,oc,od,kV,doc,pm,an,cdv,ct,osl,a,l,c,k⟩:=i.ex
 have F:=Pw (x:=x) (qual:=x) (st:=st) l c k
 exact ⟨⟨f,_,F,g0 X G a,F.binds hb⟩⟩
def JT:List Str->List Value->Bool
 |[],[]=>true
 |z::zs,.str x _::r=>x == z&&JT zs r
 |_,_=>false
theorem Dx:∀ {zs:List Str} {us:List Value},JT zs us=true->AR (zs.map V.str) us:=by
 intro zs
 induction zs with
 |nil =>
  intro us h
  cases us with
  |nil=>exact .nil
  |cons u r=>cases h
 |cons z zs ih =>
  intro us h
  cases us with
  |nil=>cases h
  |cons u r =>
   cases u with
   |str x t =>
    have h':(x == z&&JT zs r)=true:=h
    rw [W1] at h'
    have e:x=z:=by simpa using h'.1
    subst e
    exact .cons ⟨t,rfl⟩ (ih h'.2)
   |_=>cases h
structure InT (K:A0) (x:Str) (zs:List Str):Prop where
 ex:∃ (p:Addr) (dd:Option Addr) (its:Array Value) (n:Nat) (sl:Array (Option Value)),A1 K mainGlobals x=some (some (.ref p))/\K.lookup p=some ⟨.type "tuple",dd,.seq its n,sl⟩/\its.size<=sizeLine/\JT zs its.toList=true
theorem InT.of {K:A0} {x:Str} {zs:List Str} {p:Addr} {dd:Option Addr} {its:Array Value} {n:Nat} {sl:Array (Option Value)} (a:A1 K mainGlobals x=some (some (.ref p))) (l:K.lookup p=some ⟨.type "tuple",dd,.seq its n,sl⟩)
  (s:its.size<=sizeLine) (v:JT zs its.toList=true):InT K x zs:=⟨⟨p,dd,its,n,sl,a,l,s,v⟩⟩
theorem Bf:bootBuiltins "len"=some (.builtin "len"):=by lk
theorem Vk:bootBuiltins "all"=some (.builtin "all"):=by lk
theorem Cb:bootBuiltins "isinstance"=some (.builtin "isinstance"):=by lk
theorem CL:bootBuiltins "str"=some (.type "str"):=by lk
theorem Jg:bootBuiltins "int"=some (.type "int"):=by lk
theorem bt_bool:bootBuiltins "bool"=some (.type "bool"):=by lk
theorem EF:bootBuiltins "list"=some (.type "list"):=by lk
theorem DD:bootBuiltins "tuple"=some (.type "tuple"):=by lk
theorem Af.upd {H:Hp} {a:Addr} {o:HO} (h:H a=none):Af H (L2.upd H a o):=λb u e=>by rw [Ah (AE e h)];exact e
theorem Ut {K:A0} {z:Str} {H:Hp} {n:Nat}:LenV K (.str z) H n↔z.length<=sizeLine/\n=z.length:=Iff.rfl
theorem Bu {K:A0} {p:Addr} {H:Hp} {n:Nat}:LenV K (.ref p) H n↔(∃ xs,AD K H p xs/\n=xs.length)\/∃ xs,Bc K H p xs/\n=xs.length:=Iff.rfl
section
variable {X:Cx} {o e f:Expr} {apos cpos pos:Pos} {td ty tx:TE}

def OE (P:Program) (w:World) (K:A0) (a:Addr) (kvs:List (Bw×V)):Prop:=(a == sysModules)=false/\∀ h:Heap,K.In h->∃ vs,KV kvs vs/\h.DictOf (Bn P w) a vs
def tDGetK (P:Program) (w:World) (K:A0) (td ty tx:TE):TE:=λσ H Q=>td σ H λx H1=>∃ a kvs,x=.ref a/\OE P w K a kvs/\ty σ H1 λy H2=>tx σ H2 λz H3=>∃ k,y=kV k/\Q ((valV kvs k).getD z) H3
theorem TX (ho:PE X o td) (he:PE X e ty) (hf:PE X f tx) (m:M2 X o "get" apos e f cpos):PE X (.Call (.Attribute o "get" apos) [e,f] [] cpos) (tDGetK X.prog X.w X.K td ty tx):=by
 intro pins s σ H Q I h
 refine wpAny_Call_method m.base m.few m.line Q7 A5 j7 (pB (ho pins s σ H _ I h) λu s1 x H1 I1 rx z=>?_)
 obtain ⟨a,kvs,rfl,d,q1⟩:=z
 obtain rfl:u=Value.ref a:=rx
 obtain ⟨vs1,_,dd1⟩:=d.2 s1.heap I1.kIn
 have t2:∀ b,Value.ref a=.ref b->∃ ob,s1.heap.get? b=some ob/\ob.dict=none:=by
  intro b hb
  cases hb
  obtain ⟨o,es,ep,h1,h2,_⟩:=dd1
  exact ⟨o,h1,h2.2.1⟩
 refine ⟨dd1.typeIs,t2,?_⟩
 rw [m.trees]
 refine Calls.callWith_builtin rfl (Calls.evalArgs_plain (Calls.spliced_cons (pB (he pins s1 σ H1 _ I1 q1) λiv s2 y H2 I2 ry q2 =>
  Calls.spliced_cons (pB (hf pins s2 σ H2 _ I2 q2) λfv s3 z H3 I3 rz ⟨k,ey,q3⟩=>Calls.spliced_nil ?_))))
 subst ey
 obtain ⟨vs,rel,dd⟩:=d.2 s3.heap I3.kIn
 refine call_meetsIn A5 dd.typeIs U6 (T7 _ _ _) (meets_dict_get_default (Bn X.prog X.w) a (Gf ry) d.1 fv) ⟨_,dd.mapOf,?_⟩
 exact ⟨_,H3,I3.tok _,(rel.val k).getD rz,q3⟩

variable {K:A0}
theorem DU (h:X.K=K):IxR X (JA K):=by subst h;exact As
theorem Ld (h:X.K=K):GC X (compareOp .NotIn) (rIn K true):=by subst h;exact Bz
def tIfM (c:TT) (t u:TS):TS:=λD σ H=>∃ M1 M2:Hp->Prop,(c σ H λb H1=>if b=true then M1 H1 else M2 H1)/\(∀ H1,M1 H1->t D σ H1)/\∀ H1,M2 H1->u D σ H1
theorem DH {X:Cx} {pos:Pos} {t u:TS} {c:Expr} {a b:List Stmt} {tc:TT} (hc:PT X c tc) (ha:KI X a t) (hb:KI X b u):PS X (.If c a b pos) (tIfM tc t u):=by
 intro pins s σ H D I h
 obtain ⟨M1,M2,h,h1,h2⟩:=h
 refine wpAny_If (Bl (hc pins s σ H _ I h) λd s1 ⟨H1,I1,q1⟩=>?_)
 cases d with
 |true=>exact ha pins s1 σ H1 D I1 (h1 _ q1)
 |false=>exact hb pins s1 σ H1 D I1 (h2 _ q1)
theorem Ax.turned2 {X:Cx} {pins:List (Addr×Obj)} {σ:List (Option V)} {H:Hp} {s:Shared} {h':Heap} {t':Nat} {e it:Addr} (I:Ax X pins σ H s) (k:∀ b o,b≠e->b≠it->s.heap.get? b=some o->h'.get? b=some o) (fe:Eo X pins H e) (fi:Eo X pins H it):Ax X pins σ H { s with heap:=h',toks:=t' }:=by
 obtain ⟨e0,e1,_,e3,e4,e5⟩:=fe
 obtain ⟨i0,i1,_,i3,i4,i5⟩:=fi
 have nit:∀ b u,H b=some u->b≠it:=λb u q z=>by rw [z,i0] at q;cases q
 have nie:∀ b u,H b=some u->b≠e:=λb u q z=>by rw [z,e0] at q;cases q
 have kk:∀ b o,b∉[e,it]->s.heap.get? b=some o->h'.get? b=some o:=λb o hc q=>k b o (λz=>hc (by simp [z])) (λz=>hc (by simp [z])) q
 refine I.step (g':=s.gens) (d':=s.drawn) (ch:=[e,it]) (λb hb=>?_) (λb o _ _ hc q _=>kk b o hc q) (λb o _ _ hc q _=>⟨o.slots,kk b o hc q⟩) (λ_ _ _ _ n=>n)
  (λb o hc q=>⟨o,kk b o hc q⟩) (λ_ _ q=>q) (λ_ _ _ q=>q) (λb ps q=>⟨#[],by rw [q];simp⟩) (λm hm=>?_) (λb u q=>?_) I.bare
 ·rcases S0.mp hb with rfl | hb
  ·exact ⟨e3,e1,e4,e5⟩
  ·have z:b=it:=by simpa using hb
   subst z
   exact ⟨i3,i1,i4,i5⟩
 ·obtain ⟨o,es,ep,ho,r⟩:=hm
  exact ⟨o,es,ep,k _ o (Ne.symm e1) (Ne.symm i1) ho,r⟩
 ·refine (I.hok b u q).stay (λc v hc q'=>k c v ?_ ?_ q') (λ_ q=>q) λ_ _ q=>q
  ·rcases hc with z | z
   ·rw [z];exact nie b u q
   ·exact nie c _ z
  ·rcases hc with z | z
   ·rw [z];exact nit b u q
   ·exact nit c _ z
def Ite (K:A0) (a:Addr):It :=
 ⟨λi H=>∃ xs x,AD K H a xs/\xs[i]?=some x,λi H v H'=>∃ p x,v=.ref p/\H p=none/\H'=upd H p (.tup [.int (i:Nat),x])/\∀ xs,AD K H a xs->xs[i]?=some x,λi H=>∃ xs,AD K H a xs/\xs.length<=i⟩
theorem Ro {P:Program} {w:World} {K:A0} {es:List Expr} {x1} {pos:Pos} (a e it:Addr) (hne:e≠it):KH P w K (.Tuple es x1 pos) (Ite K a) [e,it] e (λi h=>(∃ old,IsEnum h e it (i:Nat) old)/\h.IsListIter it a i) where
 mem:=by simp
 obj:=λi h st b hb=>by
  obtain ⟨⟨old,he⟩,hit⟩:=st
  rcases S0.mp hb with rfl | hb
  ·exact ⟨_,he,λv z=>by
    have z':Data.fields _=Data.cell v:=z
    cases z'⟩
  ·have z:b=it:=by simpa using hb
   subst z
   obtain ⟨o,e,c,d⟩:=hit
   exact ⟨o,e,λv z=>by rw [d] at z;cases z⟩
 keep:=λi h h' st k=>⟨let ⟨old,he⟩:=st.1;⟨old,k e (by simp) _ he⟩,st.2.at λo q=>k it (by simp) o q⟩
 item:=by
  intro X hP hw hK hc i pins s σ H E I hf st hg
  subst hP hw hK
  obtain ⟨xs,x,hq,hx⟩:=hg
  obtain ⟨its,rv,p,hz⟩:=I.list hq
  obtain ⟨u,hu,ru⟩:=rv.get hx
  obtain ⟨⟨old,he⟩,hit⟩:=st
  have fe:=hf e (by simp)
  have fi:=hf it (by simp)
  have helt:e<s.heap.objs.size:=Heap.lt_size he
  have hilt:it<s.heap.objs.size:=by obtain ⟨_,q,_⟩:=hit;exact Heap.lt_size q
  refine wpAny_pyNext_enum_item he hit p.isList (x:=u) (by simpa using hu) hne λh' ho hit' hT hsz hk=>?_
  refine ⟨_,rfl,wpAny_letOwnedTupleGo_enum ho λh'' he'' hs''=>?_⟩
  have hfr:H s.heap.objs.size=none:=I.hok.fresh (P0 _)
  have I1:Ax X pins σ (upd H s.heap.objs.size (.tup [.int (i:Nat),x])) { s with heap:=s.heap.push { cls:=.type "tuple",data:=.seq #[.int (i:Nat) s.toks,u] },toks:=s.toks } :=
   I.laid (t':=s.toks) (λb v q=>Heap.get?_push_of_some _ q) (P0 _) ⟨show 2<=sizeLine by kd_p,[.int (i:Nat) s.toks,u],.cons ⟨_,rfl⟩ (.cons ru .nil),⟨_,Heap.get?_push_size _ rfl,rfl,_,rfl⟩⟩
  have up:∀ {b:Addr},Eo X pins H b->b<s.heap.objs.size->Eo X pins (upd H s.heap.objs.size (.tup [.int (i:Nat),x])) b:=λf hb=>⟨by rw [Ah (j1 hb)];exact f.1,f.2⟩
  have I2:Ax X pins σ (upd H s.heap.objs.size (.tup [.int (i:Nat),x])) { s with heap:=h'',toks:=s.toks+1 } :=
   Ax.turned2 (s:={ s with heap:=s.heap.push { cls:=.type "tuple",data:=.seq #[.int (i:Nat) s.toks,u] },toks:=s.toks }) (h':=h'') (t':=s.toks+1) (e:=e) (it:=it) I1 (λb o b1 b2 q=>by
    rw [hs''.2 b b1]
    by_cases hb:b=s.heap.objs.size
    ·subst hb
     rw [Heap.get?_push_size _ rfl] at q
     cases q
     exact hT
    ·refine hk b o b1 b2 ?_
     rw [<- q]
     exact (Heap.get?_push_ne _ _ _ hb).symm) (up fe helt) (up fi hilt)
  refine ⟨.ref s.heap.objs.size,_,I2,rfl,⟨_,x,rfl,hfr,rfl,λys hy=>by rw [I.list_inj hy hq];exact hx⟩,⟨⟨_,by simpa using he''⟩,hit'.at λo q=>(hs''.2 it hne.symm).trans q⟩,λb hb=>?_⟩
  rcases S0.mp hb with rfl | hb
  ·exact (up fe helt).1
  ·have z:b=it:=by simpa using hb
   subst z
   exact (up fi hilt).1
 done:=by
  intro X hP hw hK hc i pins s σ H E I hf st hg
  subst hP hw hK
  obtain ⟨xs,hq,hx⟩:=hg
  obtain ⟨its,rv,p,hz⟩:=I.list hq
  obtain ⟨⟨old,he⟩,hit⟩:=st
  have fe:=hf e (by simp)
  have fi:=hf it (by simp)
  have hl:=rv.length
  exact wpAny_pyNext_enum_end (I.ok.hd hc) he hit p.isList (by simp;lia) λh' eb=>⟨rfl,Ax.turned2 (t':=s.toks) (e:=e) (it:=it) I (λb o _ hb q=>eb b o hb q) fe fi⟩
 self:=λ_ _ _ _ _ st h=>let ⟨_,he⟩:=st.1;wpAny_pyIter_enum he h
theorem FD:bootBuiltins "enumerate"=some (.type "enumerate"):=by lk
def iEnum (K:A0) (ta:TA):TI:=λσ H R=>ta σ H λvs H1=>∃ a:Addr,vs=[.ref a]/\(∃ xs,AD K H1 a xs)/\R (Ite K a) H1
theorem QC {X:Cx} {es:List Expr} {x1} {tpos:Pos} {a:Expr} {ta:TA} {p pos:Pos} (hg:Gl X "enumerate") (hm:X.mg "enumerate"=none) (ha:PA X [a] ta) (hs:starEach [a] X.env=[(false,eval a X.env)]:=by rfl):PI X (.Tuple es x1 tpos) (.Call (.Name "enumerate" p) [a] [] pos) (iEnum X.K ta):=by
 intro pins s σ H R I h
 refine Call_ (Gc I hg hm FD (T5 (pL (ha pos pins s σ H _ I h) λus s1 vs H1 I1 r1 q1=>?_) hs rfl))
 obtain ⟨l,q0,⟨xs,hq⟩,q⟩:=q1
 subst q0
 cases r1 with
 |cons r rr =>
  cases rr
  cases r
  obtain ⟨its,rv,pl,hz⟩:=I1.list hq
  refine call_enumerate_list pl.isList λh' he hit hsz hk=>wpAny_pyIter_enum he ?_
  refine ⟨s1.heap.objs.size+1,[s1.heap.objs.size+1,s1.heap.objs.size],_,_,H1,rfl,I1.kept (t':=s1.toks) hk,Ro l _ _ (W8 _),⟨⟨_,he⟩,hit⟩,λb hb=>?_,q⟩
  rcases S0.mp hb with rfl | hb
  ·exact I1.fpOk (by lia) (I1.hok.fresh (by lia))
  ·have z:b=s1.heap.objs.size:=by simpa using hb
   subst z
   exact I1.fpOk (P0 _) (I1.hok.fresh (P0 _))
theorem Og {K:A0} {a:Addr} {xs:List V} {g:TG} {tb:TS} {D:FE} {σ:St} {H:Hp} (Pv:Nat->St->Hp->Prop) (h0:Pv 0 σ H) (hl:∀ i σ H,i<=xs.length->Pv i σ H->AD K H a xs)
  (hs:∀ i x p σ H,xs[i]?=some x->Pv i σ H->H p=none->g (.ref p) σ (upd H p (.tup [.int (i:Nat),x])) λσ2 H2=>tb { D with nx:=Pv (i+1),ct:=Pv (i+1),bk:=D.nx } σ2 H2) (hd:∀ σ H,Pv xs.length σ H->D.nx σ H) :
  ∃ W:Nat->Nat->St->Hp->Prop,(∃ m,W 0 m σ H)/\∀ i m σ H,W i m σ H ->
   ((Ite K a).stop i H/\D.nx σ H)\/((Ite K a).go i H/\∃ N:St->Hp->Prop,(∀ σ' H',N σ' H'->∃ m',m'<m/\W (i+1) m' σ' H')/\∀ x H',(Ite K a).yld i H x H'->g x σ H' λσ2 H2=>tb { D with nx:=N,ct:=N,bk:=D.nx } σ2 H2):=by
 refine ⟨λi m σ H=>m=xs.length-i/\i<=xs.length/\Pv i σ H,⟨xs.length,by simp,N1 _,h0⟩,?_⟩
 rintro i m σ H ⟨rfl,hi,p⟩
 have q:=hl i σ H hi p
 by_cases hlt:i<xs.length
 ·refine .inr ⟨⟨xs,xs[i],q,by simp [hlt]⟩,Pv (i+1),λσ' H' p'=>⟨xs.length-(i+1),by lia,rfl,hlt,p'⟩,λv H' y=>?_⟩
  obtain ⟨b,x,rfl,hb,rfl,hx⟩:=y
  exact hs i x b σ H (hx xs q) p hb
 ·have z:i=xs.length:=by lia
  subst z
  exact .inl ⟨⟨xs,q,P0 _⟩,hd σ H p⟩
end
structure InC (K:A0) (x:Str) (C:Addr):Prop where
 a:A1 K mainGlobals x=some (some (.ref C))
 pg:Z6 K C Str.empty=true
 hd:T4 K C=true
 po:M8 K C=true
 sa:G0 K (.ref C) "__setattr__"=some (some (.builtin "object.__setattr__"))
 mak:d8 K C=true
 kp:T2 K (.ref C)=true
theorem InC.cls {K:A0} {x:Str} {C:Addr} (i:InC K x C):FN K C:=⟨i.pg,i.hd,i.po,i.sa⟩
structure InM (K:A0) (C:Addr) (m q:Str) (st:Stmt):Prop where
 ex:∃ (f:Addr) (oc:Value) (od:Option Addr) (kV doc pm:Value) (an:Option Addr) (cdv ct:Value) (osl:Array (Option Value)),
  G0 K (.ref C) m=some (some (.ref f))/\S5 K (.ref f)=true/\K.lookup f=some ⟨oc,od,.func (V2 m q (AZ st) (AT st) (At st) .none kV doc pm an cdv ct),osl⟩/\E4 K cdv q=true/\T2 K (.ref f)=true
theorem InM.of {K:A0} {C:Addr} {m q:Str} {st:Stmt} {f:Addr} {oc:Value} {od:Option Addr} {kV doc pm:Value} {an:Option Addr} {cdv ct:Value} {osl:Array (Option Value)}
  (a:G0 K (.ref C) m=some (some (.ref f))) (i:S5 K (.ref f)=true) (l:K.lookup f=some ⟨oc,od,.func (V2 m q (AZ st) (AT st) (At st) .none kV doc pm an cdv ct),osl⟩) (c:E4 K cdv q=true) (k:T2 K (.ref f)=true):InM K C m q st :=
 ⟨⟨f,oc,od,kV,doc,pm,an,cdv,ct,osl,a,i,l,c,k⟩⟩
set_option genInjectivity false in
structure Bv (K:A0) (C:Addr) (m q:Str) (st:Stmt) (ps:List Str) where
 f:Addr
 fd:FuncData
 F:Sx K m q st f fd
 me:Ss K C m f
 b:Ci K fd ps []
theorem InM.def {K:A0} {C:Addr} {m q:Str} {st:Stmt} {ps:List Str} (i:InM K C m q st)
  (hb:∀ (kV doc pm:Value) (an:Option Addr) (cdv ct:Value) (us:List Value),us.length=ps.length->bindArgs (V2 m q (AZ st) (AT st) (At st) .none kV doc pm an cdv ct) ⟨us,[]⟩=pure (ps.zip us)):Nonempty (Bv K C m q st ps):=by
 obtain ⟨f,oc,od,kV,doc,pm,an,cdv,ct,osl,a,i,l,c,k⟩:=i.ex
 have F:=Pw (x:=m) (qual:=q) (st:=st) l c k
 exact ⟨⟨f,_,F,⟨a,i,k⟩,F.binds hb⟩⟩
theorem InC.mkOf {K:A0} {x:Str} {C:Addr} {q:Str} {st:Stmt} {ps:List Str} (i:InC K x C) (d:Bv K C "__init__" q st ps):Mk K C d.f:=⟨i.mak,d.me.at_,d.me.fn,i.kp⟩

section
variable {X:Cx}
end
end L2
namespace HT
open PySem PySem.Spec PyProof.Rows
section
variable {prog:Program} {w:World} {A:Around} {E:Value->Shared->Prop} {s:Shared}
end
end HT
namespace L2
open PySem PySem.Spec PyProof.Rows
section
variable {X:Cx}
end
def Sk (H:Hp) (d:Addr):Hp:=λb=>if b=d then none else H b
theorem Vc {H:Hp} {d:Addr}:Sk H d d=none:=by unfold Sk;rw [if_pos rfl]
theorem Ek {H:Hp} {d b:Addr} (h:b≠d):Sk H d b=H b:=by unfold Sk;rw [if_neg h]
section
variable {X:Cx} {pins:List (Addr×Obj)} {σ:St} {H:Hp} {s:Shared}
end
structure Vq (K:A0) (x qual:Str) (st:Stmt) (dV:Value) (f:Addr) (fd:FuncData):Prop where
 ex:∃ (oc:Value) (od:Option Addr) (kV doc pm:Value) (an:Option Addr) (cdv ct:Value) (osl:Array (Option Value)),
  fd=V2 x qual (AZ st) (AT st) (At st) dV kV doc pm an cdv ct/\K.lookup f=some ⟨oc,od,.func fd,osl⟩/\E4 K cdv qual=true
 kp:T2 K (.ref f)=true
theorem Vq.ok {P:Program} {w:World} {K:A0} {mg:Str->Option Value} {base:Heap} {x qual:Str} {st:Stmt} {dV:Value} {f:Addr} {fd:FuncData} {N ps:List Str} {k:Nat} {sp:Sp} (F:Vq K x qual st dV f fd) (S:DX N ps (At st)) (len:∀ vs H Q E,sp vs H Q E->vs.length=ps.length)
  (hbody:∀ (cdv:Value) (A:Around) (outer:List Env) (s:Shared) (H:Hp) (vs:List V) (Q:VK) (E:XK),BZ k (A.deeper (envOfC qual (At st) s.heap.objs.size f cdv))->sp vs H Q E ->
   ∃ t,KI (Ff CX0 P w K mg base N qual (At st) f cdv A outer s H E).nox (AT st) t/\t { nx:=λ_ H'=>Q .non H',rt:=Q } (start N vs) H):AS P w K mg base CX0 (k+1) f fd ps sp:=by
 obtain ⟨oc,od,kV,doc,pm,an,cdv,ct,osl,rfl,lk,hcd⟩:=F.ex
 refine UQ lk hcd S len λA outer s H vs Q E hr hsp=>?_
 obtain ⟨t,h,q⟩:=hbody cdv A outer s H vs Q E hr hsp
 exact ⟨t,h.nox,q⟩
structure CMeth (K:A0) (C:Addr) (m:Str) (f:Addr):Prop where
 ga:L8 K (.ref C) "__getattribute__"=some (some (.builtin "type.__getattribute__"))
 rd:PySem.W.readsIn K C (.type "type")=true
 fi:PySem.W.findCls K (.ref C) (.type "type") m=some (.val (.ref f))
 kp:T2 K (.ref f)=true
structure InMD (K:A0) (C:Addr) (m q:Str) (st:Stmt):Prop where
 ex:∃ (f T:Addr) (oc:Value) (od:Option Addr) (kV doc pm:Value) (an:Option Addr) (cdv ct:Value) (osl:Array (Option Value)) (dd:Option Addr) (n:Nat) (sl:Array (Option Value)),
  G0 K (.ref C) m=some (some (.ref f))/\S5 K (.ref f)=true/\K.lookup f=some ⟨oc,od,.func (V2 m q (AZ st) (AT st) (At st) (.ref T) kV doc pm an cdv ct),osl⟩/\E4 K cdv q=true/\T2 K (.ref f)=true /\
   K.lookup T=some ⟨.type "tuple",dd,.seq #[.none] n,sl⟩/\CMeth K C m f
theorem InMD.of {K:A0} {C:Addr} {m q:Str} {st:Stmt} {f T:Addr} {oc:Value} {od:Option Addr} {kV doc pm:Value} {an:Option Addr} {cdv ct:Value} {osl:Array (Option Value)} {dd:Option Addr} {n:Nat} {sl:Array (Option Value)}
  (a:G0 K (.ref C) m=some (some (.ref f))) (i:S5 K (.ref f)=true) (l:K.lookup f=some ⟨oc,od,.func (V2 m q (AZ st) (AT st) (At st) (.ref T) kV doc pm an cdv ct),osl⟩) (c:E4 K cdv q=true) (k:T2 K (.ref f)=true)
  (d:K.lookup T=some ⟨.type "tuple",dd,.seq #[.none] n,sl⟩) (ga:L8 K (.ref C) "__getattribute__"=some (some (.builtin "type.__getattribute__"))) (rd:PySem.W.readsIn K C (.type "type")=true) (fi:PySem.W.findCls K (.ref C) (.type "type") m=some (.val (.ref f))):InMD K C m q st :=
 ⟨⟨f,T,oc,od,kV,doc,pm,an,cdv,ct,osl,dd,n,sl,a,i,l,c,k,d,ga,rd,fi,k⟩⟩
set_option genInjectivity false in
structure MDefD (K:A0) (C:Addr) (m q:Str) (st:Stmt) (ps:List Str) where
 f:Addr
 fd:FuncData
 dV:Value
 F:Vq K m q st dV f fd
 me:Ss K C m f
 b:Ci K fd ps []
 b1:Ci K fd ps [.none]
 cm:CMeth K C m f
theorem InMD.def {K:A0} {C:Addr} {m q:Str} {st:Stmt} {ps:List Str} (i:InMD K C m q st)
  (h0:∀ (T:Addr) (kV doc pm:Value) (an:Option Addr) (cdv ct:Value) (us:List Value),us.length=ps.length->∃ k,bindArgs (V2 m q (AZ st) (AT st) (At st) (.ref T) kV doc pm an cdv ct) ⟨us,[]⟩=seqItems? (.ref T) >>= k/\k (some #[.none])=pure (ps.zip us))
  (h1:∀ (T:Addr) (kV doc pm:Value) (an:Option Addr) (cdv ct:Value) (us:List Value),us.length+1=ps.length->∃ k,bindArgs (V2 m q (AZ st) (AT st) (At st) (.ref T) kV doc pm an cdv ct) ⟨us,[]⟩=seqItems? (.ref T) >>= k/\k (some #[.none])=pure (ps.zip (us++[Value.none]))):Nonempty (MDefD K C m q st ps):=by
 obtain ⟨f,T,oc,od,kV,doc,pm,an,cdv,ct,osl,dd,n,sl,a,i,l,c,k,d,cm⟩:=i.ex
 refine ⟨⟨f,V2 m q (AZ st) (AT st) (At st) (.ref T) kV doc pm an cdv ct,.ref T,⟨⟨oc,od,kV,doc,pm,an,cdv,ct,osl,rfl,l,c⟩,k⟩,⟨a,i,k⟩,λs us X hl=>?_,λs us X hl=>?_,cm⟩⟩
 ·rw [P3] at hl |-
  obtain ⟨kk,e1,e2⟩:=h0 T kV doc pm an cdv ct us hl
  exact BindsTo.of_defaults (T:=T) (items:=#[.none]) rfl (X T _ d) rfl e1 e2
 ·obtain ⟨kk,e1,e2⟩:=h1 T kV doc pm an cdv ct us (by rw [K0] at hl;exact hl)
  exact BindsTo.of_defaults (T:=T) (items:=#[.none]) rfl (X T _ d) rfl e1 e2
section
variable {X:Cx} {CX:LX} {k:Nat} {f C:Addr} {fd:FuncData} {ps:List Str} {sp:Sp} {dvs:List V} {ds:List Value} {E:XK} {x m:Str} {p pos apos:Pos} {e o:Expr} {es:List Expr} {ta:TE} {t:TA}
end
section
variable {X:Cx}
end
section
variable {X:Cx} {pins:List (Addr×Obj)} {σ:St} {H:Hp} {s:Shared} {a:Addr} {kvs:List (Bw×V)} {k:Bw} {u r:Value} {v:V} {A:Around} {E:Value->Shared->Prop}
end
def Itv (K:A0) (a:Addr) (xs:List V):It :=
 ⟨λi H=>AD K H a xs/\i<xs.length,λi H v H'=>H'=H/\xs[xs.length-1-i]?=some v,λi _=>i=xs.length⟩
def iRev (K:A0) (ta:TA):TI:=λσ H R=>ta σ H λvs H1=>∃ (a:Addr) (xs:List V),vs=[.ref a]/\AD K H1 a xs/\R (Itv K a xs) H1
theorem QP:∀ {ns:List Int} {us:List Value},AR (ns.map V.int) us->(∀ v,v∈us->∃ a t,v=Value.int a t)/\numsOf us=ns
 |[],_,.nil=>⟨(λ_ h=>by cases h),rfl⟩
 |n::r,_,.cons hv hr=>by
  obtain ⟨t,rfl⟩:=hv
  obtain ⟨h1,h2⟩:=QP hr
  refine ⟨λv hv=>?_,by rw [numsOf,h2]⟩
  rcases S0.mp hv with rfl | hv
  ·exact ⟨n,t,rfl⟩
  ·exact h1 v hv
theorem Oy {X:Cx} (hc:X.calm=true):En X (.builtin "sum") (λxs H Q=>∃ (p:Addr) (ns:List Int),xs=[.ref p]/\AD X.K H p (ns.map V.int)/\Q (.int ns.sum) H):=by
 intro pins s σ H xs us Q I r h
 obtain ⟨p,ns,rfl,hp,q⟩:=h
 obtain ⟨u,rfl,ru⟩:=Ep r
 cases ru
 obtain ⟨its,rv,pl,hz⟩:=I.list hp
 obtain ⟨h1,h2⟩:=QP rv
 have hall:AllInts its.toArray:=λv hv=>h1 v (by simpa using hv)
 obtain ⟨xs,hx⟩:=hall.items
 have hl:=pl.isList
 rw [hx] at hl
 refine sum_intListG (I.ok.hd hc) hl λh' tk t' hk=>⟨.int ns.sum,H,I.kept (t':=tk) hk,⟨t',?_⟩,q⟩
 have e:xs.toList.map (·.1)=ns:=by
  rw [<- nums_intItems,<- hx]
  simpa using h2
 rw [preSum_eq,A6 (by simp),e]
theorem Vj:bootBuiltins "sum"=some (.builtin "sum"):=by lk
section
variable {X:Cx} {CX:LX} {k:Nat} {f:Addr} {fd:FuncData} {ps:List Str} {sp:Sp} {dvs:List V} {ds:List Value} {E:XK} {x:Str} {p pos:Pos} {e:Expr} {es:List Expr} {ta:TE} {t:TA}
def Mb (f:Addr) (sp:Sp) (dvs:List V) (E:XK) (ta:TE) (t:TA):TE:=λσ H Q=>ta σ H λy H0=>y=.ref f/\t σ H0 λvs H1=>sp (vs++dvs) H1 Q E
theorem Kf (hn:PE X (.Name x p) ta) (F:AS X.prog X.w X.K X.mg X.base CX k f fd ps sp) (hr:BZ k X.A) (hk:T2 X.K (.ref f)=true) (hb:Ci X.K fd ps ds) (hd:AR dvs ds) (hx:Em CX X E)
  (ha:PA X (e::es) t) (he:starEach (e::es) X.env=(false,eval e X.env)::starEach es X.env:=by rfl) (hpl:(backTo pos (starEach es X.env)).any (·.1)=false:=by rfl) :
  PE X (.Call (.Name x p) (e::es) [] pos) (Mb f sp dvs E ta t):=by
 intro pins s σ H Q I h
 refine wpAny_Call_Name_kw (pB (hn pins s σ H _ I h) λu s0 y H0 I0 r0 z=>?_)
 obtain ⟨rfl,q0⟩:=z
 obtain rfl:u=Value.ref f:=r0
 refine z5 (h₀:=X.base) I.ok.mod.kin hk (pL (ha pos pins s0 σ H0 _ I0 q0) λus s1 vs H1 I1 r q=>⟨I1.kIn,?_⟩) he hpl
 exact Mp F hr hb hd hx I1 r q
end
theorem Nf (l b:Addr) (items items2:Array Value) (n n2:Nat) (dd dd2:Option Addr) (sl sl2:Array (Option Value)) (hc0:items.isEmpty=true) :
  Meets (Builtin.«tuple.__add__» ⟨[.ref l,.ref b],[]⟩) (λ_ R s=>s.heap.get? l=some { cls:=.type "tuple",dict:=dd,data:=.seq items n,slots:=sl }/\s.heap.get? b=some { cls:=.type "tuple",dict:=dd2,data:=.seq items2 n2,slots:=sl2 }/\R (.ok (.ret (Value.ref b))) { s with heap:=s.heap,toks:=s.toks }) :=
 .of_wp λprog w A R s h=>by obtain ⟨hp,g,d,tk,os⟩:=s;obtain ⟨hl,hb,h⟩:=h;have f2:=sub_tuple_tuple;wp_walk using wpAny_loadPart' hl,wpAny_loadPart' hb;exact ⟨_,rfl,h⟩
def TL (K:A0):R2:=λx y H Q=>TM K x y H Q\/∃ a b,x=.ref a/\y=.ref b/\Bc K H a []/\(∃ ys,Bc K H b ys)/\Q (.ref b) H
theorem FX {X:Cx}:GC X (binaryOp .Add) (TL X.K):=by
 intro pins s σ H x y v u Q I rx ry h
 rcases h with h | ⟨a,b,rfl,rfl,ha,⟨ys,hb⟩,q⟩
 ·exact op_catT pins s σ H x y v u Q I rx ry h
 ·cases rx
  cases ry
  obtain ⟨its,r1,p1,_⟩:=I.tuple ha
  obtain ⟨its2,r2,p2,_⟩:=I.tuple hb
  cases r1
  obtain ⟨⟨cls,dd,data,sl⟩,ho,hc,n,hd⟩:=id p1
  obtain ⟨⟨cls2,dd2,data2,sl2⟩,ho2,hc2,n2,hd2⟩:=id p2
  simp only at hc hd hc2 hd2
  subst hc hd hc2 hd2
  exact concat_meets ⟨_,ho,rfl⟩ ⟨_,ho2,rfl⟩ noFill_tuple_add seq_tuple_add X7 S7 (K7 _ _)
   (Nf a b _ its2.toArray n n2 dd dd2 sl sl2 (by simp)) ⟨ho,ho2,⟨.ref b,H,I,rfl,q⟩⟩
theorem MP {X:Cx} {K:A0} (h:X.K=K):En X (.builtin "isinstance") (λxs H Q=>∃ x n t b,xs=[x,.ty n]/\GW K H x t/\K6 K t (.type n)=some b/\Q (.bl b) H):=by subst h;exact CO
theorem BD {X:Cx}:En X (.type "str") (λxs H Q=>(∃ i:Int,xs=[.int i]/\i.natAbs.log2<1920/\Q (.str (toString i)) H)\/∃ z,xs=[.str z]/\Q (.str z) H):=by
 intro pins s σ H xs us Q I r h
 rcases h with ⟨i,rfl,hz,q⟩ | ⟨z,rfl,q⟩
 ·obtain ⟨u,rfl,t,rfl⟩:=Ep r
  exact PySem.P.str_of_int hz ⟨.str _,H,I.tok _,⟨_,rfl⟩,q⟩
 ·obtain ⟨u,rfl,t,rfl⟩:=Ep r
  exact PySem.P.str_of_str ⟨.str _,H,I,⟨_,rfl⟩,q⟩
end L2
namespace L2
open PySem PySem.Spec PyProof.Rows PySem.Builtin PySem.Builtin.Str
theorem Rt {prog:Program} {w:World} {A:Around} {E:Value->Shared->Prop} {s:Shared} {x:Str} {t u:Tok} {c:Nat} {Q:Value->Shared->Prop} (hx:x.length<=sizeLine) (hn:(Txt.split x ⟨#[c]⟩).length<=sizeLine)
  (q:∀ (l:List (Str×Tok)) (k:Nat),l.map (·.1)=Txt.split x ⟨#[c]⟩->Q (.ref s.heap.objs.size) { s with heap:=s.heap.push { cls:=.type "list",data:=.seq (strValues l).toArray },toks:=k }) :
  wpAny (model prog w) A (call (.builtin "str.split") [.str x t,.str ⟨#[c]⟩ u]) Q E s:=by
 have ne:((⟨#[c]⟩:Str).length == 0)=false:=rfl
 have def_:Txt.split x ⟨#[c]⟩=if (decide (x.length<(⟨#[c]⟩:Str).length)||decide (strKind x<strKind ⟨#[c]⟩))=true then [x] else if (occurrences x ⟨#[c]⟩ 0 x.length (x.length+1)).isEmpty=true then [x] else partsBetween x (occurrences x ⟨#[c]⟩ 0 x.length (x.length+1)) (⟨#[c]⟩:Str).length:=rfl
 by_cases no:(decide (x.length<(⟨#[c]⟩:Str).length)||decide (strKind x<strKind ⟨#[c]⟩))=true
 ·rw [if_pos no] at def_
  exact call_meets F.slot_str_split (typeIs_str _ _ _) F.entry_str_split (F.args_str_split_2 _ _) (meets_str_split_cannot_occur x _ t u no) (q [(x,t)] s.toks def_.symm)
 ·have no':(decide (x.length<(⟨#[c]⟩:Str).length)||decide (strKind x<strKind ⟨#[c]⟩))=false:=by simpa using no
  rw [if_neg no] at def_
  by_cases em:(occurrences x ⟨#[c]⟩ 0 x.length (x.length+1)).isEmpty=true
  ·rw [if_pos em] at def_
   exact call_meets F.slot_str_split (typeIs_str _ _ _) F.entry_str_split (F.args_str_split_2 _ _) (meets_str_split_not_found x _ t u no' ne em) (q [(x,t)] s.toks def_.symm)
  ·rw [if_neg em] at def_
   rw [def_] at hn
   refine call_meets F.slot_str_split (typeIs_str _ _ _) F.entry_str_split (F.args_str_split_2 _ _) (meets_str_split_sep x _ t u no' ne (by simpa using em) hx hn) ?_
   have h:=q (numbered s.toks (partsBetween x (occurrences x ⟨#[c]⟩ 0 x.length (x.length+1)) (⟨#[c]⟩:Str).length))
   have h2:=λk=>h k ((numbered_texts _ _).trans def_.symm)
   rw [<- strsFrom_eq] at h2
   exact h2 _
def rSplit:V->List V->Hp->VK->Prop:=λx vs H Q=>∃ (z:Str) (c:Nat),x=.str z/\vs=[.str ⟨#[c]⟩]/\z.length<=10000000/\∀ l,H l=none->Q (.ref l) (upd H l (.lst ((Txt.split z ⟨#[c]⟩).map V.str)))
theorem Lv:∀ (l:List (Str×Tok)),AR ((l.map (·.1)).map V.str) (strValues l)
 |[]=>.nil
 | (x,t)::r=>.cons ⟨t,rfl⟩ (Lv r)
section
variable {X:Cx}
theorem Ef:MtR X "str.split" rSplit:=by
 intro pins s σ H x vs v us Q I rx rv h
 obtain ⟨z,c,rfl,rfl,hz,q⟩:=h
 obtain ⟨t,rfl⟩:=rx
 obtain ⟨u,rfl,ru⟩:=Ep rv
 obtain ⟨t',rfl⟩:=ru
 have sl:=split_le z ⟨#[c]⟩
 have hs:z.length<=sizeLine:=C0 hz (by kd_p)
 have hn:(Txt.split z ⟨#[c]⟩).length<=sizeLine:=C0 sl (C0 (Nat.add_le_add_right hz 2) (by kd_p))
 refine Rt hs hn λl k e=>?_
 refine ⟨.ref s.heap.objs.size,_,I.laid (t':=k) (λb o g=>Heap.get?_push_of_some _ g) (P0 _) (show Bj X.prog X.w _ _ _ (.lst ((Txt.split z ⟨#[c]⟩).map V.str)) from ⟨by rw [J0];exact hn,strValues l,0,?_,Heap.get?_push_size _ rfl⟩),rfl,q _ (I.hok.fresh (P0 _))⟩
 rw [<- e]
 exact Lv l
theorem GA:En X (.type "int") (λxs H Q=>∃ (z:Str) (n:Int),xs=[.str z]/\intText? z=some n/\z.length<=640/\Q (.int n) H):=by
 intro pins s σ H xs us Q I r h
 obtain ⟨z,n,rfl,h0,h1,q⟩:=h
 obtain ⟨u,rfl,rx⟩:=Ep r
 obtain ⟨t,rfl⟩:=rx
 exact PySem.W.KIN.call_text h0 h1 ⟨.int n,H,I.tok _,⟨_,rfl⟩,q⟩
end
theorem join_cps (c:Nat):∀ (a:Str) (r:List Str),(Str.join ⟨#[c]⟩ (a::r)).cps.toList=a.cps.toList++(r.map λb=>c::b.cps.toList).flatten
 |a,[]=>by simp [Str.join]
 |a,b::r=>by
  have ih:=join_cps c b r
  show (a++⟨#[c]⟩++Str.join ⟨#[c]⟩ (b::r)).cps.toList=_
  show ((a.cps++#[c])++(Str.join ⟨#[c]⟩ (b::r)).cps).toList=_
  rw [E8,E8,ih]
  simp
theorem QX {c:Nat}:∀ {a b x y:List Nat},c∉a->c∉b->a++c::x=b++c::y->a=b/\x=y
 |[],[],_,_,_,_,h=>⟨rfl,(Z8.inj h).2⟩
 |[],d::b,_,_,_,hb,h=>absurd (S0.mpr (.inl (Z8.inj h).1)) hb
 |d::a,[],_,_,ha,_,h=>absurd (S0.mpr (.inl (Z8.inj h).1.symm)) ha
 |d::a,e::b,x,y,ha,hb,h=>by
  have h1:=Z8.inj h
  obtain ⟨e1,e2⟩:=QX (λz=>ha (N0 _ z)) (λz=>hb (N0 _ z)) h1.2
  exact ⟨by rw [h1.1,e1],e2⟩
theorem Ov {c:Nat} {a b x:List Nat} (ha:c∉a) (h:a=b++c::x):False:=ha (by rw [h];simp)
theorem NY (c:Nat):∀ {l m:List Str},l≠[]->m≠[]->(∀ a∈l,c∉a.cps.toList)->(∀ a∈m,c∉a.cps.toList)->Str.join ⟨#[c]⟩ l=Str.join ⟨#[c]⟩ m->l=m
 |[],_,h,_,_,_,_=>absurd rfl h
 |_,[],_,h,_,_,_=>absurd rfl h
 |a::l,b::m,_,_,hl,hm,h=>by
  have e:=congrArg (λz:Str=>z.cps.toList) h
  simp only [join_cps] at e
  have ha:=hl a W0
  have hb:=hm b W0
  cases l with
  |nil =>
   cases m with
   |nil =>
    simp at e
    have:a=b:=by cases a;cases b;simpa using e
    rw [this]
   |cons b2 m=>exact (Ov ha (by simpa using e)).elim
  |cons a2 l =>
   cases m with
   |nil=>exact (Ov hb (by simpa using e.symm)).elim
   |cons b2 m =>
    simp only [j2,List.flatten_cons,f6] at e
    obtain ⟨e1,e2⟩:=QX ha hb e
    have e3:a=b:=by cases a;cases b;simpa using e1
    have e4:Str.join ⟨#[c]⟩ (a2::l)=Str.join ⟨#[c]⟩ (b2::m):=by
     apply Str.ext'
     apply Array.toList_inj.mp
     rw [join_cps,join_cps]
     exact e2
    rw [e3,NY c (by simp) (by simp) (λx hx=>hl x (N0 _ hx)) (λx hx=>hm x (N0 _ hx)) e4]
end L2
namespace L2
open PySem PySem.Spec PyProof.Rows
theorem Ax.turnedN {X:Cx} {pins:List (Addr×Obj)} {σ:List (Option V)} {H:Hp} {s:Shared} {h':Heap} {t':Nat} {ch:List Addr} (I:Ax X pins σ H s) (k:∀ b o,b∉ch->s.heap.get? b=some o->h'.get? b=some o) (f:∀ c∈ch,Eo X pins H c):Ax X pins σ H { s with heap:=h',toks:=t' }:=by
 have ni:∀ b u,H b=some u->b∉ch:=λb u q m=>by
  rw [(f b m).1] at q;cases q
 refine I.step (g':=s.gens) (d':=s.drawn) (ch:=ch) (λb hb=>?_) (λb o _ _ hc q _=>k b o hc q) (λb o _ _ hc q _=>⟨o.slots,k b o hc q⟩) (λ_ _ _ _ n=>n)
  (λb o hc q=>⟨o,k b o hc q⟩) (λ_ _ q=>q) (λ_ _ _ q=>q) (λb ps q=>⟨#[],by rw [q];simp⟩) (λm hm=>?_) (λb u q=>?_) I.bare
 ·obtain ⟨_,f1,_,f3,f4,f5⟩:=f b hb
  exact ⟨f3,f1,f4,f5⟩
 ·obtain ⟨o,es,ep,ho,r⟩:=hm
  exact ⟨o,es,ep,k _ o (λhc=>(f _ hc).2.1 rfl) ho,r⟩
 ·refine (I.hok b u q).stay (λc v hc q'=>k c v ?_ q') (λ_ q=>q) λ_ _ q=>q
  rcases hc with z | z
  ·rw [z];exact ni b u q
  ·exact ni c _ z
def Itz (K:A0) (a b:Addr):It :=
 ⟨λi H=>∃ xs ys x y,AD K H a xs/\AD K H b ys/\xs[i]?=some x/\ys[i]?=some y,λi H v H'=>∃ p x y,v=.ref p/\H p=none/\H'=upd H p (.tup [x,y])/\(∀ xs,AD K H a xs->xs[i]?=some x)/\∀ ys,AD K H b ys->ys[i]?=some y,λi H=>∃ xs ys,AD K H a xs/\AD K H b ys/\(xs.length<=i\/ys.length<=i)⟩
structure ZAp (z TI TO i1 i2:Addr):Prop where
 a1:TI≠z
 a2:TO≠z
 a3:i1≠z
 a4:i2≠z
 a5:TI≠TO
 a6:TI≠i1
 a7:TI≠i2
 a8:TO≠i1
 a9:TO≠i2
 a10:i1≠i2
theorem Df {h:Heap} {a b:Addr} {o p:Obj} (ha:h.get? a=some o) (hb:h.get? b=some p) (n:o.cls≠p.cls):a≠b:=λe=>by
 subst e
 rw [ha] at hb
 cases hb
 exact n rfl
theorem ZAp.apart {z TI TO i1 i2 l1 l2:Addr} {h:Heap} {xs ys:Array Value} {f0 a b:Value} {k1 k2:Nat} {m1 m2:Addr} (Z:ZAp z TI TO i1 i2) (hz:IsZip h z TI TO f0) (hO:IsPair h TO a b) (h1:h.IsListIter i1 m1 k1) (h2:h.IsListIter i2 m2 k2) (g1:h.IsList l1 xs) (g2:h.IsList l2 ys):ZipApart z TI TO i1 i2 l1 l2:=by
 obtain ⟨o1,e1,c1,_⟩:=h1
 obtain ⟨o2,e2,c2,_⟩:=h2
 obtain ⟨p1,d1,b1,_⟩:=g1
 obtain ⟨p2,d2,b2,_⟩:=g2
 refine ⟨Z.a1,Z.a2,Z.a3,Z.a4,Z.a5,Z.a6,Z.a7,Z.a8,Z.a9,Z.a10,Df d1 hz ?_,Df d1 hO ?_,Df d1 e1 ?_,Df d1 e2 ?_,Df d2 hz ?_,Df d2 hO ?_,Df d2 e1 ?_,Df d2 e2 ?_⟩
 ·rw [b1];show Value.type "list"≠Value.type "zip";decide
 ·rw [b1];show Value.type "list"≠Value.type "tuple";decide
 ·rw [b1,c1];decide
 ·rw [b1,c2];decide
 ·rw [b2];show Value.type "list"≠Value.type "zip";decide
 ·rw [b2];show Value.type "list"≠Value.type "tuple";decide
 ·rw [b2,c1];decide
 ·rw [b2,c2];decide
def znow (z TI TO i1 i2 l1 l2:Addr) (i:Nat) (h:Heap):Prop:=IsZip h z TI TO .none/\IsPair h TI (.ref i1) (.ref i2)/\(∃ a b,IsPair h TO a b)/\h.IsListIter i1 l1 i/\h.IsListIter i2 l2 i
theorem SJ {P:Program} {w:World} {K:A0} {es:List Expr} {x1} {pos:Pos} (z TI TO i1 i2 l1 l2:Addr) (Z:ZAp z TI TO i1 i2):KH P w K (.Tuple es x1 pos) (Itz K l1 l2) [z,TI,TO,i1,i2] z (znow z TI TO i1 i2 l1 l2) where
 mem:=by simp
 obj:=λi h st b hb=>by
  obtain ⟨hz,hI,⟨a,c,hO⟩,h1,h2⟩:=st
  simp only [S0,A2,or_false] at hb
  rcases hb with rfl | rfl | rfl | rfl | rfl
  ·exact ⟨_,hz,λv q=>nomatch q⟩
  ·exact ⟨_,hI,λv q=>nomatch q⟩
  ·exact ⟨_,hO,λv q=>nomatch q⟩
  ·obtain ⟨o,e,_,d⟩:=h1
   exact ⟨o,e,λv q=>by rw [d] at q;cases q⟩
  ·obtain ⟨o,e,_,d⟩:=h2
   exact ⟨o,e,λv q=>by rw [d] at q;cases q⟩
 keep:=λi h h' st k=>by
  obtain ⟨hz,hI,⟨a,c,hO⟩,h1,h2⟩:=st
  exact ⟨k z (by simp) _ hz,k TI (by simp) _ hI,⟨a,c,k TO (by simp) _ hO⟩,h1.at λo q=>k i1 (by simp) o q,h2.at λo q=>k i2 (by simp) o q⟩
 item:=by
  intro X hP hw hK hc i pins s σ H E I hf st hg
  subst hP hw hK
  obtain ⟨xs,ys,x,y,q1,q2,hx,hy⟩:=hg
  obtain ⟨t1,rv1,p1,z1⟩:=I.list q1
  obtain ⟨t2,rv2,p2,z2⟩:=I.list q2
  obtain ⟨u1,hu1,ru1⟩:=rv1.get hx
  obtain ⟨u2,hu2,ru2⟩:=rv2.get hy
  obtain ⟨hz,hI,⟨a,c,hO⟩,h1,h2⟩:=st
  have D:=Z.apart hz hO h1 h2 p1.isList p2.isList
  have lz:=Heap.lt_size hz
  have lI:=Heap.lt_size hI
  have lO:=Heap.lt_size hO
  have l1':i1<s.heap.objs.size:=by obtain ⟨_,q,_⟩:=h1;exact Heap.lt_size q
  have l2':i2<s.heap.objs.size:=by obtain ⟨_,q,_⟩:=h2;exact Heap.lt_size q
  refine wpAny_pyNext_zip_item D hz hI hO h1 h2 p1.isList p2.isList (x:=u1) (y:=u2) (by simpa using hu1) (by simpa using hu2) λh' b1 b2 b3 b4 b5 b6 hk=>?_
  refine ⟨_,rfl,wpAny_letOwnedTupleGo_zip b1 λh'' bz bs=>?_⟩
  have hfr:H s.heap.objs.size=none:=I.hok.fresh (P0 _)
  have I1:Ax X pins σ (upd H s.heap.objs.size (.tup [x,y])) { s with heap:=s.heap.push { cls:=.type "tuple",data:=.seq #[u1,u2] },toks:=s.toks } :=
   I.laid (t':=s.toks) (λb v q=>Heap.get?_push_of_some _ q) (P0 _) ⟨show 2<=sizeLine by kd_p,[u1,u2],.cons ru1 (.cons ru2 .nil),⟨_,Heap.get?_push_size _ rfl,rfl,_,rfl⟩⟩
  have small:∀ b∈[z,TI,TO,i1,i2],b<s.heap.objs.size:=λb hb=>by
   simp only [S0,A2,or_false] at hb
   rcases hb with rfl | rfl | rfl | rfl | rfl<;>assumption
  have up:∀ b∈[z,TI,TO,i1,i2],Eo X pins (upd H s.heap.objs.size (.tup [x,y])) b:=λb hb=>⟨by rw [Ah (j1 (small b hb))];exact (hf b hb).1,(hf b hb).2⟩
  have I2:Ax X pins σ (upd H s.heap.objs.size (.tup [x,y])) { s with heap:=h'',toks:=s.toks } :=
   Ax.turnedN (s:={ s with heap:=s.heap.push { cls:=.type "tuple",data:=.seq #[u1,u2] },toks:=s.toks }) (h':=h'') (t':=s.toks) (ch:=[z,TI,TO,i1,i2]) I1 (λb o hb q=>by
    simp only [S0,A2,or_false,not_or] at hb
    obtain ⟨n1,n2,n3,n4,n5⟩:=hb
    refine bs.extBut b o n1 ?_
    by_cases e:b=s.heap.objs.size
    ·subst e
     rw [Heap.get?_push_size _ rfl] at q
     cases q
     exact b5
    ·refine hk b o n1 n3 n4 n5 ?_
     rw [<- q]
     exact (Heap.get?_push_ne _ _ _ e).symm) up
  refine ⟨.ref s.heap.objs.size,_,I2,rfl,⟨_,x,y,rfl,hfr,rfl,λzs hs=>by rw [I.list_inj hs q1];exact hx,λzs hs=>by rw [I.list_inj hs q2];exact hy⟩,⟨bz,bs.extBut _ _ Z.a1 (hk _ _ Z.a1 Z.a5 Z.a6 Z.a7 hI),⟨_,_,bs.extBut _ _ Z.a2 b2⟩,b3.extBut bs.extBut Z.a3,b4.extBut bs.extBut Z.a4⟩,λb hb=>(up b hb).1⟩
 done:=by
  intro X hP hw hK hc i pins s σ H E I hf st hg
  subst hP hw hK
  obtain ⟨xs,ys,q1,q2,hx⟩:=hg
  obtain ⟨t1,rv1,p1,z1⟩:=I.list q1
  obtain ⟨t2,rv2,p2,z2⟩:=I.list q2
  obtain ⟨hz,hI,⟨a,c,hO⟩,h1,h2⟩:=st
  have D:=Z.apart hz hO h1 h2 p1.isList p2.isList
  have e1:=rv1.length
  have e2:=rv2.length
  refine wpAny_pyNext_zip_end (I.ok.hd hc) D hz hI hO h1 h2 p1.isList p2.isList (hx.imp (λq=>by simp;lia) (λq=>by simp;lia)) λh' hk=>⟨rfl,Ax.turnedN (t':=s.toks) (ch:=[z,TI,TO,i1,i2]) I (λb o hb q=>?_) hf⟩
  simp only [S0,A2,or_false,not_or] at hb
  obtain ⟨n1,n2,n3,n4,n5⟩:=hb
  exact hk b o n1 n3 n4 n5 q
 self:=λ_ _ _ _ _ st h=>wpAny_pyIter_zip st.1 h
theorem zap (n:Nat):ZAp (n+4) (n+2) (n+3) n (n+1) :=
 have q:∀ {i j:Nat},i≠j->∀ {a b:Addr},a=i->b=j->a≠b:=λh _ _ e1 e2 e=>h (e1.symm.trans (e.trans e2))
 ⟨q (i:=n+2) (j:=n+4) (by lia) rfl rfl,q (i:=n+3) (j:=n+4) (by lia) rfl rfl,q (i:=n) (j:=n+4) (by lia) rfl rfl,q (i:=n+1) (j:=n+4) (by lia) rfl rfl,q (i:=n+2) (j:=n+3) (by lia) rfl rfl,q (i:=n+2) (j:=n) (by lia) rfl rfl,q (i:=n+2) (j:=n+1) (by lia) rfl rfl,q (i:=n+3) (j:=n) (by lia) rfl rfl,q (i:=n+3) (j:=n+1) (by lia) rfl rfl,q (i:=n) (j:=n+1) (by lia) rfl rfl⟩
theorem bt_zip:bootBuiltins "zip"=some (.type "zip"):=by lk
def iZip (K:A0) (ta:TA):TI:=λσ H R=>ta σ H λvs H1=>∃ a b:Addr,vs=[.ref a,.ref b]/\(∃ xs,AD K H1 a xs)/\(∃ ys,AD K H1 b ys)/\R (Itz K a b) H1
theorem TQ {X:Cx} {es:List Expr} {x1} {tpos:Pos} {a b:Expr} {ta:TA} {p pos:Pos} (hg:Gl X "zip") (hm:X.mg "zip"=none) (ha:PA X [a,b] ta) (hs:starEach [a,b] X.env=(false,eval a X.env)::starEach [b] X.env:=by rfl) (hs2:(backTo pos (starEach [b] X.env)).any (·.1)=false:=by rfl):PI X (.Tuple es x1 tpos) (.Call (.Name "zip" p) [a,b] [] pos) (iZip X.K ta):=by
 intro pins s σ H R I h
 refine Call_ (Gc I hg hm bt_zip (T5 (pL (ha pos pins s σ H _ I h) λus s1 vs H1 I1 r1 q1=>?_) hs hs2))
 obtain ⟨l1,l2,q0,⟨xs,hq1⟩,⟨ys,hq2⟩,q⟩:=q1
 subst q0
 obtain ⟨u1,u2,rfl,r1,r2⟩:=Qh r1
 cases r1
 cases r2
 obtain ⟨t1,rv1,p1,z1⟩:=I1.list hq1
 obtain ⟨t2,rv2,p2,z2⟩:=I1.list hq2
 refine call_zip_2 p1.isList p2.isList λh' hz hI hO h1 h2 hsz hk=>wpAny_pyIter_zip hz ?_
 have ne:∀ {i j:Nat},i≠j->s1.heap.objs.size+i≠s1.heap.objs.size+j:=λh=>by lia
 refine ⟨s1.heap.objs.size+4,[s1.heap.objs.size+4,s1.heap.objs.size+2,s1.heap.objs.size+3,s1.heap.objs.size,s1.heap.objs.size+1],_,_,H1,rfl,I1.kept (t':=s1.toks) hk,SJ (s1.heap.objs.size+4) (s1.heap.objs.size+2) (s1.heap.objs.size+3) s1.heap.objs.size (s1.heap.objs.size+1) l1 l2 (zap _),⟨hz,hI,⟨_,_,hO⟩,h1,h2⟩,λb hb=>?_,q⟩
 have hb':s1.heap.objs.size<=b:=by
  simp only [S0,A2,or_false] at hb
  rcases hb with rfl | rfl | rfl | rfl | rfl
  ·exact c6 _ _
  ·exact c6 _ _
  ·exact c6 _ _
  ·exact P0 _
  ·exact c6 _ _
 exact I1.fpOk hb' (I1.hok.fresh hb')
theorem Uu {K:A0} {a b:Addr} {xs ys:List V} {sel:List (Option Nat)} {g:TG} {tt:TT} {te:TE} {σ:St} {H:Hp} {Qe:List V->Hp->Prop} (hlen:xs.length=ys.length) (Pv:Nat->List V->Hp->Prop) (h0:Pv 0 [] H)
  (hl:∀ i zs H,i<=xs.length->Pv i zs H->AD K H a xs/\AD K H b ys/\zs.length<=i) (hz:xs.length<=sizeLine)
  (hs:∀ i x y p zs H,xs[i]?=some x->ys[i]?=some y->Pv i zs H->H p=none->g (.ref p) (Fj sel σ) (upd H p (.tup [x,y])) λσ2 H2=>tt σ2 H2 λb H3=>if b=true then te σ2 H3 λy H4=>Pv (i+1) (zs++[y]) H4 else Pv (i+1) zs H3)
  (hd:∀ zs H,Pv xs.length zs H->Qe zs H):∃ W:Nat->Nat->List V->Hp->Prop,(∃ m,W 0 m [] H)/\Ge sel g tt te σ (Itz K a b) W Qe:=by
 refine ⟨λi m zs H=>m=xs.length-i/\i<=xs.length/\Pv i zs H,⟨_,rfl,N1 _,h0⟩,?_⟩
 rintro i m zs H ⟨rfl,hi,p⟩
 obtain ⟨hA,hB,hy⟩:=hl i zs H hi p
 by_cases e:i=xs.length
 ·subst e
  exact .inl ⟨⟨xs,ys,hA,hB,.inl (P0 _)⟩,hd _ _ p⟩
 ·have lt1:i<xs.length:=P6 hi e
  have lt2:i<ys.length:=by lia
  refine .inr ⟨⟨xs,ys,xs[i],ys[i],hA,hB,by simp [lt1],by simp [lt2]⟩,by lia,Pv (i+1),λzs' H' p'=>⟨xs.length-(i+1),by lia,rfl,lt1,p'⟩,?_⟩
  rintro v H' ⟨q,x,y,rfl,hq,rfl,hx,hy⟩
  exact hs i x y q zs H (hx xs hA) (hy ys hB) p hq
section
variable {X:Cx} {o e i:Expr} {apos cpos pos:Pos} {td ty:TE}
def SQ (P:Program) (w:World) (K:A0) (neg:Bool) (ty td:TE):TE:=λσ H Q=>ty σ H λy H1=>td σ H1 λx H2=>∃ a kvs k,x=.ref a/\OE P w K a kvs/\y=kV k/\Q (.bl (neg^^(valV kvs k).isSome)) H2
theorem JL (hi:PE X i ty) (ho:PE X o td):PC X .In i o (SQ X.prog X.w X.K false ty td):=by
 intro pins s σ H Q I h
 refine pB (hi pins s σ H _ I h) λiv s1 y H1 I1 ry q1=>pB (ho pins s1 σ H1 _ I1 q1) λu s2 x H2 I2 rx z=>?_
 obtain ⟨a,kvs,k,rfl,d,rfl,q2⟩:=z
 obtain rfl:u=Value.ref a:=rx
 obtain ⟨vs,rel,dd⟩:=d.2 s2.heap I2.kIn
 refine wpAny_in_of (Gf ry) d.1 dd.mapOf ?_
 rw [<- (rel.val k).isSome_eq]
 exact ⟨.bl (valV kvs k).isSome,H2,I2.tok _,rfl,by rw [j4] at q2;exact q2⟩
theorem Pa (hi:PE X i ty) (ho:PE X o td):PC X .NotIn i o (SQ X.prog X.w X.K true ty td):=by
 intro pins s σ H Q I h
 refine pB (hi pins s σ H _ I h) λiv s1 y H1 I1 ry q1=>pB (ho pins s1 σ H1 _ I1 q1) λu s2 x H2 I2 rx z=>?_
 obtain ⟨a,kvs,k,rfl,d,rfl,q2⟩:=z
 obtain rfl:u=Value.ref a:=rx
 obtain ⟨vs,rel,dd⟩:=d.2 s2.heap I2.kIn
 refine wpAny_notIn_of (Gf ry) d.1 dd.mapOf ?_
 rw [<- (rel.val k).isSome_eq]
 exact ⟨.bl (!(valV kvs k).isSome),H2,I2.tok _,rfl,by rw [V5] at q2;exact q2⟩
def tDIxK (P:Program) (w:World) (K:A0) (td ty:TE):TE:=λσ H Q=>td σ H λx H1=>ty σ H1 λy H2=>∃ a kvs k v,x=.ref a/\OE P w K a kvs/\y=kV k/\valV kvs k=some v/\Q v H2
theorem Mt (ho:PE X o td) (hi:PE X i ty) (hs:NoSl i):PE X (.Subscript o i pos) (tDIxK X.prog X.w X.K td ty):=by
 intro pins s σ H Q I h
 refine Qn PySem.F.slot_dict_getitem.lookup hs (pB (ho pins s σ H _ I h) λu s1 x H1 I1 rx q1=>pB (hi pins s1 σ H1 _ I1 q1) λiv s2 y H2 I2 ry z=>?_)
 obtain ⟨a,kvs,k,v,rfl,d,rfl,l,q2⟩:=z
 obtain rfl:u=Value.ref a:=rx
 obtain ⟨vs,rel,dd⟩:=d.2 s2.heap I2.kIn
 obtain ⟨w',hw,rw'⟩:=DK.some_of (v:=v) (o:=valueAt vs k) (by rw [<- l];exact rel.val k)
 exact ⟨dd.typeIs,wpAny_getItem_of (Gf ry) dd.mapOf hw ⟨v,H2,I2.tok _,rw',q2⟩⟩
def tDGetK1 (P:Program) (w:World) (K:A0) (td ty:TE):TE:=λσ H Q=>td σ H λx H1=>∃ a kvs,x=.ref a/\OE P w K a kvs/\ty σ H1 λy H2=>∃ k,y=kV k/\Q ((valV kvs k).getD .non) H2
theorem RL (ho:PE X o td) (he:PE X e ty) (m:M1 X o "get" apos e cpos):PE X (.Call (.Attribute o "get" apos) [e] [] cpos) (tDGetK1 X.prog X.w X.K td ty):=by
 intro pins s σ H Q I h
 refine wpAny_Call_method m.base m.few m.line Q7 A5 j7 (pB (ho pins s σ H _ I h) λu s1 x H1 I1 rx z=>?_)
 obtain ⟨a,kvs,rfl,d,q1⟩:=z
 obtain rfl:u=Value.ref a:=rx
 obtain ⟨vs1,_,dd1⟩:=d.2 s1.heap I1.kIn
 refine ⟨dd1.typeIs,λb hb=>?_,?_⟩
 ·cases hb
  obtain ⟨o,es,ep,h1,h2,_⟩:=dd1
  exact ⟨o,h1,h2.2.1⟩
 rw [m.trees]
 refine Calls.callWith_builtin rfl (Calls.evalArgs_plain (Calls.spliced_cons (pB (he pins s1 σ H1 _ I1 q1) λiv s2 y H2 I2 ry ⟨k,ey,q2⟩=>Calls.spliced_nil ?_)))
 subst ey
 obtain ⟨vs,rel,dd⟩:=d.2 s2.heap I2.kIn
 exact call_meetsIn A5 dd.typeIs U6 (PySem.F.args_dict_get_2 _ _) (meets_dict_get (Bn X.prog X.w) a (Gf ry) d.1) ⟨_,dd.mapOf,_,H2,I2.tok _,(show Ba ((valV kvs k).getD .non) _ from (rel.val k).getD rfl),q2⟩
end
open AutoSeq1 (wpAny_loadPart')
theorem pD {P:Program} {w:World} {A:Around} {E:Value->Shared->Prop} {s:Shared} {T nid iid:String} {args:List Value} {kw:List (Str×Value)} {Q Q1:Value->Shared->Prop} (ft:TypeCalled T nid iid) (hct:checkTypeCall T ⟨args,kw⟩=pure ())
  (hn:codeAny (model P w) A.in1 (.call (.builtin nid) ⟨.type T::args,kw⟩) (wants Q1 E) s)
  (hi:∀ ob s1,Q1 ob s1->codeAny (model P w) A.in1 (.call (.builtin iid) ⟨ob::args,kw⟩) (wants (λr s2=>r=.none/\Q ob s2) E) s1/\s1.TypeIs ob T):wpAny (model P w) A (call (.type T) args kw) Q E s:=by
 obtain ⟨c,tl,hm⟩:=ft.mro
 have:=ft.made
 have:=ft.sub
 refine wpAny_call (codeAny_of_tree (?_:wpAny _ _ (callAny (.type T) _) _ _ _))
 refine wpAny_pure ⟨Code.quiet_builtin _ (by lk),codeAny_builtin PySem.F.entry_type_call ?_⟩
 rw [Around.under_plain (weight_type_call_type T args _) (units_type_call_type T args _)]
 have:=ft.notType
 have:=ft.canCreate
 repeat any_goals (first | assumption | wp_step)
 refine codeAny_mono hn λr s1 hr=>?_
 cases r with
 |error e=>exact hr
 |ok fl =>
  cases fl with
  |ret ob =>
   obtain ⟨hi,hT⟩:=hi _ _ hr
   have:=ft.init.lookup
   have:=ft.init.bind ob
   repeat any_goals (first | assumption | wp_step)
   refine codeAny_mono hi λr s2 hr=>?_
   cases r with
   |error e=>exact hr
   |ok fl =>
    cases fl with
    |ret r =>
     obtain ⟨rfl,h⟩:=hr
     repeat any_goals (first | assumption | wp_step)
    |_=>exact False.elim hr
  |_=>exact False.elim hr
theorem pQ {P:Program} {w:World} {A:Around} {b:Bool} {Q:Bool->Shared->Prop} {E:Value->Shared->Prop} {s:Shared} (h:∀ b,Q b s):wpAny (model P w) A (pure b) Q E s:=wpAny_pure (h b)
theorem Po (l:Addr) (items:Array Value) (n:Nat) (dct:Option Addr) (sl:Array (Option Value)) (t:Tok) :
  Meets (Builtin.«enumerate.__new__» ⟨[.type "enumerate",.ref l],[("start",.int 1 t)]⟩) (λ_ R s=>s.heap.get? l=some { cls:=.type "list",dict:=dct,data:=.seq items n,slots:=sl } /\
   R (.ok (.ret (.ref (s.heap.push { cls:=.type "list_iterator",data:=.fields #[.ref l,.int 0 0] }).objs.size)))
    { s with heap:=(s.heap.push { cls:=.type "list_iterator",data:=.fields #[.ref l,.int 0 0] }).push { cls:=.type "enumerate",data:=.fields #[.none,.bool false,.ref s.heap.objs.size,rawInt 1,.none,.none] } }) :=
 .of_wp λprog w A R s h=>by
  obtain ⟨hp,g,d,tk,os⟩:=s;obtain ⟨hl,h⟩:=h
  have hsub:=sub_enumerate
  have hL:Heap.IsList (Shared.heap ⟨hp,g,d,tk,os⟩) l items:=⟨_,hl,rfl,n,rfl⟩
  wp_walk using wpAny_loadPart' hl
  refine wpAny_stack_any λst=>pQ λb=>?_
  cases b<;>(wp_walk using wpAny_pyIter_list hL,wpAny_loadPart' hl;exact ⟨_,rfl,h⟩)
theorem initE (a l:Value) (t:Tok):argsOk "object.__init__" ⟨[a,l],[("start",.int 1 t)]⟩:=by
 unfold argsOk;rw [signature?_of (id:="object.__init__") (n:=['_','_','t','i','n','i','_','_']) (o:=['t','c','e','j','b','o']) (by kernel_rfl) F.owner_object];kernel_rfl
theorem Oc {self l:Value} {t:Tok}:Meets (Builtin.«object.__init__» ⟨[self,l],[("start",.int 1 t)]⟩) (λ_ R s=>s.TypeIs self "enumerate"/\R (.ok (.ret .none)) s):=by
 refine Meets.of_wp λprog w A R s hs=>?_
 obtain ⟨hT,hq⟩:=hs
 have g1:=F.called_enumerate.init.lookup
 have g2:=F.called_enumerate.made
 repeat (any_goals (first | assumption | wp_step))
 exact ⟨_,rfl,hq⟩
theorem PN {prog:Program} {w:World} {A:Around} {E:Value->Shared->Prop} {s:Shared} {l:Addr} {items:Array Value} {t:Tok} {Q:Value->Shared->Prop} (hL:s.heap.IsList l items)
  (h:∀ h',IsEnum h' (s.heap.objs.size+1) s.heap.objs.size 1 .none->h'.IsListIter s.heap.objs.size l 0->(∀ b o,s.heap.get? b=some o->h'.get? b=some o)->Q (.ref (s.heap.objs.size+1)) { s with heap:=h' }) :
  wpAny (model prog w) A (call (.type "enumerate") [.ref l] [("start",.int 1 t)]) Q E s:=by
 obtain ⟨⟨c,dct,dt,sl⟩,hl,hc,n,hd⟩:=hL
 cases (show c=.type "list" from hc)
 cases (show dt=.seq items n from hd)
 have ft:=F.called_enumerate
 have z:(s.heap.push { cls:=.type "list_iterator",data:=.fields #[.ref l,.int 0 0] }).objs.size=s.heap.objs.size+1:=Heap.size_push ..
 have he:=λo h=>Heap.get?_push_size (s.heap.push { cls:=.type "list_iterator",data:=.fields #[.ref l,.int 0 0] }) (o:=o) h
 rw [z] at he
 refine pD (Q1:=λob s=>s.TypeIs ob "enumerate"/\Q ob s) ft (by kernel_rfl) (codeAny_call_builtin ft.plain F.entry_enumerate_new (wpAny_of_eq (a:=()) (by kernel_rfl) (Po l items n dct sl t prog w A.in1 _ s ⟨hl,?_⟩))) λob s1 ⟨hT,q⟩=>⟨codeAny_call_builtin ft.init.plain F.entry_object_init (ft.init.check _ _ _ _ _ _ _ _ hT (initE _ _ _) (Oc prog w A.in1 _ s1 ⟨hT,rfl,q⟩)),hT⟩
 rw [z]
 exact ⟨⟨_,he _ rfl,rfl⟩,h _ (he _ rfl) ⟨_,Heap.get?_push_of_some _ (Heap.get?_push_size _ rfl),rfl,rfl⟩ λb o q=>Heap.get?_push_of_some _ (Heap.get?_push_of_some _ q)⟩
end L2
namespace L2
open PySem PySem.Spec PyProof.Rows
theorem Oq {prog:Program} {w:World} {A:Around} {it:Addr} {fp:List Addr} {n:Nat} {P:Nat->Value->Prop} {S:Nat->Heap->Prop} (D:Draws prog w A it fp n P S):Draws prog w A it fp (n+1) (λj x=>∃ i,j=i+1/\P i x) (λj h=>∃ i,j=i+1/\S i h) where
 live:=λj h ⟨i,_,hs⟩=>D.live i h hs
 frame:=λj h h' ⟨i,e,hs⟩ k=>⟨i,e,D.frame i h h' hs k⟩
 item:=λj s Q E hj st hQ=>by
  obtain ⟨i,rfl,hs⟩:=st
  exact D.item i s Q E (by lia) hs λx h' tk px hs' sb=>hQ x h' tk ⟨i,rfl,px⟩ ⟨i+1,rfl,hs'⟩ sb
 done:=λs Q E st hE=>by
  obtain ⟨i,e,hs⟩:=st
  obtain rfl:n=i:=by lia
  exact D.done s Q E hs hE
def Vp (K:A0) (a:Addr):It :=
 ⟨λi H=>∃ xs x,AD K H a xs/\xs[i]?=some x,λi H v H'=>∃ p x,v=.ref p/\H p=none/\H'=upd H p (.tup [.int ((i+1:Nat):Int),x])/\∀ xs,AD K H a xs->xs[i]?=some x,λi H=>∃ xs,AD K H a xs/\xs.length=i⟩
theorem OJ {P:Program} {w:World} {K:A0} {es:List Expr} {x1} {pos:Pos} (a e it:Addr) (hne:e≠it):KH P w K (.Tuple es x1 pos) (Vp K a) [e,it] e (λi h=>(∃ old,IsEnum h e it ((i+1:Nat):Int) old)/\h.IsListIter it a i) where
 mem:=by simp
 obj:=λi h st b hb=>by
  obtain ⟨⟨old,he⟩,hit⟩:=st
  rcases S0.mp hb with rfl | hb
  ·exact ⟨_,he,λv z=>nomatch z⟩
  ·cases C1.mp hb
   obtain ⟨o,q,_,d⟩:=hit
   exact ⟨o,q,λv z=>by rw [d] at z;cases z⟩
 keep:=λi h h' st k=>by
  obtain ⟨⟨old,he⟩,hit⟩:=st
  exact ⟨⟨old,k e (by simp) _ he⟩,hit.at λo q=>k it (by simp) o q⟩
 item:=by
  intro X hP hw hK hc i pins s σ H E I hf st hg
  subst hP hw hK
  obtain ⟨xs,x,hq,hx⟩:=hg
  obtain ⟨its,rv,p,hz⟩:=I.list hq
  obtain ⟨u,hu,ru⟩:=rv.get hx
  obtain ⟨⟨old,he⟩,hit⟩:=st
  have le:=Heap.lt_size he
  have li:it<s.heap.objs.size:=by obtain ⟨_,q,_⟩:=hit;exact Heap.lt_size q
  have nl:a≠it:=by
   obtain ⟨_,q1,c1,_⟩:=hit
   obtain ⟨_,q2,c2,_⟩:=p.isList
   exact Df q2 q1 (by rw [c1,c2];decide)
  have nle:a≠e:=by
   obtain ⟨_,q2,c2,_⟩:=p.isList
   exact Df q2 he (by rw [c2];show Value.type "list"≠Value.type "enumerate";decide)
  have D:=Oq (Draws.list (prog:=X.prog) (w:=X.w) (A:=X.A.in1) (I.ok.hd hc) it a nl its.toArray)
  have lt:i<its.toArray.size:=by
   have:=(Q1.mp hu).1
   simpa using this
  refine wpAny_pyNext_enum_itemD D (i:=i+1) he ⟨i,rfl,hit,p.isList⟩ (by lia) hne (by simp only [S0,A2,or_false,not_or];exact ⟨hne,Ne.symm nle⟩) λv h' tk pv ho hs hT hsz hk=>?_
  obtain ⟨i',ei,hv⟩:=pv
  obtain rfl:i=i':=by lia
  obtain rfl:u=v:=by
   have:its.toArray[i]?=some u:=by simpa using hu
   rw [this] at hv
   exact V3.inj hv
  obtain ⟨i2,ei2,hit',_⟩:=hs
  obtain rfl:i2=i+1:=by lia
  refine ⟨_,rfl,wpAny_letOwnedTupleGo_enum ho λh'' he'' hs''=>?_⟩
  have hfr:H s.heap.objs.size=none:=I.hok.fresh (P0 _)
  have I1:Ax X pins σ (upd H s.heap.objs.size (.tup [.int ((i+1:Nat):Int),x])) { s with heap:=s.heap.push { cls:=.type "tuple",data:=.seq #[.int ((i+1:Nat):Int) tk,u] },toks:=s.toks } :=
   I.laid (t':=s.toks) (λb v q=>Heap.get?_push_of_some _ q) (P0 _) ⟨show 2<=sizeLine by kd_p,[.int ((i+1:Nat):Int) tk,u],.cons ⟨_,rfl⟩ (.cons ru .nil),⟨_,Heap.get?_push_size _ rfl,rfl,_,rfl⟩⟩
  have up:∀ b∈[e,it],Eo X pins (upd H s.heap.objs.size (.tup [.int ((i+1:Nat):Int),x])) b:=λb hb=>by
   have hlt:b<s.heap.objs.size:=by
    rcases S0.mp hb with rfl | hb
    ·exact le
    ·cases C1.mp hb;exact li
   exact ⟨by rw [Ah (j1 hlt)];exact (hf b hb).1,(hf b hb).2⟩
  have I2:Ax X pins σ (upd H s.heap.objs.size (.tup [.int ((i+1:Nat):Int),x])) { s with heap:=h'',toks:=tk+1 } :=
   Ax.turnedN (s:={ s with heap:=s.heap.push { cls:=.type "tuple",data:=.seq #[.int ((i+1:Nat):Int) tk,u] },toks:=s.toks }) (h':=h'') (t':=tk+1) (ch:=[e,it]) I1 (λb o hb q=>by
    simp only [S0,A2,or_false,not_or] at hb
    rw [hs''.2 b hb.1]
    by_cases z:b=s.heap.objs.size
    ·subst z
     rw [Heap.get?_push_size _ rfl] at q
     cases q
     exact hT
    ·refine hk b o hb.1 hb.2 ?_
     rw [<- q]
     exact (Heap.get?_push_ne _ _ _ z).symm) up
  exact ⟨.ref s.heap.objs.size,_,I2,rfl,⟨_,x,rfl,hfr,rfl,λys hy=>by rw [I.list_inj hy hq];exact hx⟩,⟨⟨_,by simpa using he''⟩,hit'.at λo q=>(hs''.2 it hne.symm).trans q⟩,λb hb=>(up b hb).1⟩
 done:=by
  intro X hP hw hK hc i pins s σ H E I hf st hg
  subst hP hw hK
  obtain ⟨xs,hq,hx⟩:=hg
  obtain ⟨its,rv,p,hz⟩:=I.list hq
  obtain ⟨⟨old,he⟩,hit⟩:=st
  have hl:=rv.length
  have nl:a≠it:=by
   obtain ⟨_,q1,c1,_⟩:=hit
   obtain ⟨_,q2,c2,_⟩:=p.isList
   exact Df q2 q1 (by rw [c1,c2];decide)
  have D:=Oq (Draws.list (prog:=X.prog) (w:=X.w) (A:=X.A.in1) (I.ok.hd hc) it a nl its.toArray)
  have e1:its.toArray.size=i:=by simp;lia
  exact wpAny_pyNext_enum_endD D he ⟨i,by rw [e1],hit,p.isList⟩ λh' eb=>⟨rfl,Ax.turnedN (t':=s.toks) (ch:=[e,it]) I (λb o hb q=>eb b o (λz=>hb (by simp [z])) q) hf⟩
 self:=λ_ _ _ _ _ st h=>let ⟨_,he⟩:=st.1;wpAny_pyIter_enum he h
theorem SI {M:Model} {A:Around} {E:Value->Shared->Prop} {s:Shared} {pos:Pos} {T:String} {args:List (Bool×Sem Value)} {keywords:List (Option Str×Sem Value)} {Q:Value->Shared->Prop} (hp:args.any (·.1)=false) (hk:keywords.any (·.1.isNone)=false)
  (h:wpAny M A (evalArgs (.type T) true args keywords) (λa s1=>wpAny M A (call (.type T) a.pos a.kw) Q E s1) E s):wpAny M A (callWith pos (.type T) [] args keywords) Q E s:=by
 unfold callWith
 refine wpAny_bind (wpAny_holding (wpAny_mono h (λa s1 g=>wpAny_bind (wpAny_standAt ?_)) λ_ _ q=>q))
 simp only [hp,hk,u8]
 exact wpAny_bind (wpAny_pure (wpAny_bind (wpAny_mono g (λr s2 hr=>wpAny_bind (wpAny_holding (wpAny_point (wpAny_pure hr)))) λ_ _ q=>q)))
def UF (K:A0) (te:TE):TI:=λσ H R=>te σ H λx H1=>∃ a:Addr,x=.ref a/\(∃ xs,AD K H1 a xs)/\R (Vp K a) H1
theorem TR {X:Cx} {es:List Expr} {x1 j} {tpos:Pos} {a:Expr} {te:TE} {p pos kp cp:Pos} (hg:Gl X "enumerate") (hm:X.mg "enumerate"=none) (ha:PE X a te) (hst:starEach [a] X.env=[(false,eval a X.env)]:=by rfl):PI X (.Tuple es x1 tpos) (.Call (.Name "enumerate" p) [a] [⟨some "start",.Constant (.int 1) j cp,kp⟩] pos) (UF X.K te):=by
 intro pins s σ H R I h
 refine wpAny_Call_Name_kw (Gc I hg hm FD ?_)
 refine SI (by rw [hst];rfl) rfl ?_
 rw [hst]
 refine evalArgs_kwB rfl ?_
 show wpAny _ _ (spliced ((false,eval a X.env)::backTo pos [])) _ _ s
 refine Calls.spliced_cons (Bl (ha pins s σ H _ I h) λu s1 ⟨x,H1,I1,rx,l,ex,⟨xs,hq⟩,q⟩=>Calls.spliced_nil ?_)
 subst ex
 cases rx
 refine kws_cons (pB (Ai (X:=X) pins s1 σ H1 (λv G=>v=.int 1/\G=H1) I1 ⟨rfl,rfl⟩) λv s2 y H2 I2 ry ⟨ey,eH⟩=>kws_nil ?_)
 subst ey eH
 obtain ⟨t,rfl⟩:=ry
 obtain ⟨its,rv,pl,hz⟩:=I2.list hq
 refine PN pl.isList λh' he hit hk=>wpAny_pyIter_enum he ?_
 refine ⟨s2.heap.objs.size+1,[s2.heap.objs.size+1,s2.heap.objs.size],_,_,H2,rfl,I2.kept (t':=s2.toks) hk,OJ l _ _ (W8 _),⟨⟨_,he⟩,hit⟩,λb hb=>?_,q⟩
 rcases S0.mp hb with rfl | hb
 ·exact I2.fpOk (by lia) (I2.hok.fresh (by lia))
 ·cases C1.mp hb
  exact I2.fpOk (P0 _) (I2.hok.fresh (P0 _))
theorem Sf {K:A0} {a:Addr} {xs:List V} {g:TG} {tb:TS} {D:FE} {σ:St} {H:Hp} (Pv:Nat->St->Hp->Prop) (h0:Pv 0 σ H) (hl:∀ i σ H,i<=xs.length->Pv i σ H->AD K H a xs)
  (hs:∀ i x p σ H,xs[i]?=some x->Pv i σ H->H p=none->g (.ref p) σ (upd H p (.tup [.int ((i+1:Nat):Int),x])) λσ2 H2=>tb { D with nx:=Pv (i+1),ct:=Pv (i+1),bk:=D.nx } σ2 H2) (hd:∀ σ H,Pv xs.length σ H->D.nx σ H) :
  ∃ W:Nat->Nat->St->Hp->Prop,(∃ m,W 0 m σ H)/\∀ i m σ H,W i m σ H ->
   ((Vp K a).stop i H/\D.nx σ H)\/((Vp K a).go i H/\∃ N:St->Hp->Prop,(∀ σ' H',N σ' H'->∃ m',m'<m/\W (i+1) m' σ' H')/\∀ x H',(Vp K a).yld i H x H'->g x σ H' λσ2 H2=>tb { D with nx:=N,ct:=N,bk:=D.nx } σ2 H2):=by
 refine ⟨λi m σ H=>m=xs.length-i/\i<=xs.length/\Pv i σ H,⟨xs.length,by simp,N1 _,h0⟩,?_⟩
 rintro i m σ H ⟨rfl,hi,p⟩
 have q:=hl i σ H hi p
 by_cases lt:i<xs.length
 ·refine .inr ⟨⟨xs,xs[i],q,by simp [lt]⟩,Pv (i+1),λσ' H' p'=>⟨xs.length-(i+1),by lia,rfl,lt,p'⟩,λv H' y=>?_⟩
  obtain ⟨b,x,rfl,hb,rfl,hx⟩:=y
  exact hs i x b σ H (hx xs q) p hb
 ·have z:xs.length=i:=by lia
  subst z
  exact .inl ⟨⟨xs,q,rfl⟩,hd σ H p⟩
section
variable {X:Cx} {tg:Expr}
end
section
variable {X:Cx}
end
section
variable {X:Cx}
end
section
variable {X:Cx} {tg:Expr}
end
section
variable {pg:Program} {wd:World} {Ar:Around}
theorem nxT_one {q t:Addr} {n:Nat} {us:Array Value} {u:Value} {R:Value->Shared->Prop} {Fe:Value->Shared->Prop} {z:Shared} (iq:z.heap.IsTupleIter q t n) (it:z.heap.IsTuple t us) (e:us[n]?=some u) (k:∀ g,g.IsTupleIter q t (n+1)->Heap.SameBut q z.heap g->R u { z with heap:=g }):wpAny (model pg wd) Ar (Builtin.SmallTypes.nextOf (.ref q)) R Fe z:=by
 have ty:=iq.typeIs
 obtain ⟨oq,aq,cq,fq⟩:=iq
 obtain ⟨ot,at',_,m,ft⟩:=it
 unfold Builtin.SmallTypes.nextOf
 refine wpAny_bind (wpAny_callSpecial?_slot (name:=Str.ofString "__next__") ty F.slot_tuple_iterator_next (wpAny_call_entry F.slot_tuple_iterator_next ty F.entry_tuple_iterator_next ?_ (F.args_tuple_iterator_next_1 _)))
 show wpAny _ _ (field (.ref q) 0 >>= _) _ _ z
 refine wpAny_bind (wpAny_field aq fq (x:=.ref t) rfl ?_)
 show wpAny _ _ (if (Value.ref t == Value.none)=true then _ else _) _ _ z
 rw [if_neg (by exact Q0)]
 show wpAny _ _ (field (.ref q) 1 >>= _) _ _ z
 refine wpAny_bind (wpAny_field aq fq (x:=.int n 0) rfl ?_)
 show wpAny _ _ (seqItems? (.ref t) >>= _) _ _ z
 refine wpAny_bind (wpAny_seqItems at' ft ?_)
 simp only [V8,e]
 exact wpAny_bind (wpAny_setField aq fq (by simp) (wpAny_pure ⟨u,rfl,wpAny_pure (k _ ⟨_,Heap.get?_update_self _ aq (Obj.isFreed_of_fields (Obj.data_mapFields fq _)),(Obj.cls_mapFields ..).trans cq,by rw [Obj.data_mapFields fq];simp [rawInt]⟩ (Heap.SameBut.update ..))⟩))
theorem nxT_end {q t:Addr} {n:Nat} {us:Array Value} {R:Value->Shared->Prop} {Fe:Value->Shared->Prop} {z:Shared} (nh:Ar.handled=none) (iq:z.heap.IsTupleIter q t n) (it:z.heap.IsTuple t us) (e:us[n]?=none) (k:∀ g x,Heap.ExtBut q z.heap g->(∃ o,g.get? x=some o/\o.cls=.type "StopIteration")->Fe (.ref x) { z with heap:=g }):wpAny (model pg wd) Ar (Builtin.SmallTypes.nextOf (.ref q)) R Fe z:=by
 have ty:=iq.typeIs
 obtain ⟨oq,aq,cq,fq⟩:=iq
 obtain ⟨ot,at',_,m,ft⟩:=it
 unfold Builtin.SmallTypes.nextOf
 refine wpAny_bind (wpAny_callSpecial?_slot (name:=Str.ofString "__next__") ty F.slot_tuple_iterator_next (wpAny_call_entry F.slot_tuple_iterator_next ty F.entry_tuple_iterator_next ?_ (F.args_tuple_iterator_next_1 _)))
 show wpAny _ _ (field (.ref q) 0 >>= _) _ _ z
 refine wpAny_bind (wpAny_field aq fq (x:=.ref t) rfl ?_)
 show wpAny _ _ (if (Value.ref t == Value.none)=true then _ else _) _ _ z
 rw [if_neg (by exact Q0)]
 show wpAny _ _ (field (.ref q) 1 >>= _) _ _ z
 refine wpAny_bind (wpAny_field aq fq (x:=.int n 0) rfl ?_)
 show wpAny _ _ (seqItems? (.ref t) >>= _) _ _ z
 refine wpAny_bind (wpAny_seqItems at' ft ?_)
 simp only [V8,e]
 refine wpAny_bind (wpAny_rule (wpAny_bind (wpAny_setField aq fq (by simp) (wpAny_bind ?_))))
 simp only [newExc,newTuple]
 refine wpAny_bind (wpAny_newObj_type (wpAny_bind (m:=firstArgMember _ _) (wpAny_of_eq (a:=Value.none) (by first | rfl | (simp only [firstArgMember];rfl)) (wpAny_newObj_type ?_ (by size_fits)))) (by size_fits))
 simp only [raiseNew]
 refine wpAny_bind (wpAny_handled ?_);first | rw [show Ar.in1.handled=none from nh] | rw [nh]
 refine wpAny_bind (wpAny_pure (wpAny_throw ?_));show Fe _ _
 exact k _ _ (((Heap.SameBut.update ..).extBut.push _).push _) ⟨_,Heap.get?_push_size _ rfl,rfl⟩
theorem drT (nh:Ar.handled=none) (q t:Addr) (ne:t≠q) (us:Array Value):Draws pg wd Ar q [q,t] us.size (λi v=>us[i]?=some v) (λi h=>h.IsTupleIter q t i/\h.IsTuple t us) where
 live:=λ_ _ st=>by obtain ⟨⟨o,e,_⟩,_⟩:=st;exact ⟨o,e⟩
 frame:=λ_ _ _ st k=>⟨st.1.at (k q W0),by obtain ⟨_,o,e,r⟩:=st;exact ⟨o,k t (by simp) o e,r⟩⟩
 item:=λi z Q E lt st k=>nxT_one st.1 st.2 (u:=us[i]) (by simp [lt]) λg a b=>k _ g z.toks (by simp [lt]) ⟨a,st.2.extBut b.extBut ne⟩ b
 done:=λz Q E st k=>nxT_end nh st.1 st.2 (by simp) k
end
section
variable {pr:Program} {wd:World} {Ar:Around} {E:Value->Shared->Prop} {s:Shared} {z TI TO p q:Addr} {f g:List Addr} {n m:Nat} {P1 P2:Nat->Value->Prop} {S1 S2:Nat->Heap->Prop}
end
def Gj (l:List Addr) (h h':Heap):Prop:=∀ b o,h.get? b=some o->b∈l->∃ sl,h'.get? b=some { o with slots:=sl }
structure UnB (fs:List Addr) (H H':Hp) (h h':Heap):Prop where
 keep:∀ b o,h.get? b=some o->H b=none->b∉fs->h'.get? b=some o
 free:∀ b o,h.get? b=some o->H b=none->H' b=none
 there:∀ b o,h.get? b=some o->b∉fs->∃ o',h'.get? b=some o'
 tups:∀ b xs,H b=some (.tup xs)->H' b=some (.tup xs)
 frzs:∀ b o u,H b=some (.frz o u)->H' b=some (.frz o u)
 tbls:∀ b ps,H b=some (.tbl ps)->∃ more,H' b=some (.tbl (ps++more))
theorem UnB.un {fs:List Addr} {H H':Hp} {h h':Heap} (u:UnB fs H H' h h') (sl:Gj fs h h'):Un fs [] H H' h h' :=
 ⟨λb o e n hb _=>u.keep b o e n hb,λb o e _ hb _=>sl b o e hb,λb o e n _=>u.free b o e n,λb o e _=>by
  by_cases hb:b∈fs
  ·obtain ⟨z,q⟩:=sl b o e hb
   exact ⟨_,q⟩
  ·exact u.there b o e hb,u.tups,u.frzs,u.tbls⟩
theorem Gj.up {l:List Env} {base h h1 h2:Heap} (f:h.FunFrames base l) (a:Gj (HC l) h h1) (u:h1.UpToSlots h2):Gj (HC l) h h2:=λb o e hb=>by
 obtain ⟨_,o',e',hnf⟩:=f.mem hb
 rw [e] at e'
 cases e'
 obtain ⟨sl,q⟩:=a b o e hb
 obtain ⟨sl',q'⟩:=u b _ q hnf
 exact ⟨sl',q'⟩
theorem Ax.oldB {X:Cx} {pins:List (Addr×Obj)} {σ:St} {H:Hp} {s:Shared} (I:Ax X pins σ H s) {b:Addr} {o:Obj} (e:X.s₀.heap.get? b=some o) (hb:b∉HC X.outer):b∉HC X.stack:=λhs=>by
 rcases S0.mp (I.stkSub b hs) with z | z
 ·have:=Heap.lt_size e
  rw [z] at this
  exact absurd this (Nat.not_lt.mpr I.ok.above)
 ·exact hb z
theorem Ax.onB {X:Cx} {pins:List (Addr×Obj)} {σ:St} {H H':Hp} {s:Shared} {h':Heap} (I:Ax X pins σ H s) (hex:X.ex=[]) (u:UnB (HC X.stack) H H' s.heap h'):UnB (HC X.outer) X.H₀ H' X.s₀.heap h':=by
 have nx:∀ b,b∉X.ex:=λb z=>by rw [hex] at z;cases z
 refine ⟨λb o e n hb=>?_,λb o e n=>?_,λb o e hb=>?_,λb xs e=>u.tups b xs (I.base.tups b xs e),λb o v e=>u.frzs b o v (I.base.frzs b o v e),λb ps e=>?_⟩
 ·exact u.keep b o (I.base.keep b o e n hb (nx b)) (I.base.free b o e n (nx b)) (I.oldB e hb)
 ·obtain ⟨sl,q⟩:=I.base.any e n (nx b)
  exact u.free b _ q (I.base.free b o e n (nx b))
 ·obtain ⟨o',q⟩:=I.base.there b o e (nx b)
  exact u.there b o' q (I.oldB e hb)
 ·obtain ⟨m1,q1⟩:=I.base.tbls b ps e
  obtain ⟨m2,q2⟩:=u.tbls b _ q1
  exact ⟨m1++m2,by rw [q2,Array.append_assoc]⟩
theorem LP {K:A0} {h:Heap} {C:Addr} {bmB:List Value} {newId:String} (X:K.In h) (q:N6 K C bmB newId=true) :
  ∃ bm N nm qn bs hdct sn sub ab col dd k0 k1 k2 k3 k5 mN,h.get? C=some (excClassObj nm qn C N bs bm hdct sn sub ab col dd k0 k1 k2 k3 k5 newId)/\h.Ns N mN/\mN "__init__"=none/\OwnTail h bmB bm:=by
 unfold N6 at q
 split at q
 ·rename_i dd cd sl ho
  split at q
  ·rename_i C' bm k0 k1 k2 k3 n k5 hm hs
   simp only [W1,beq_iff_eq,J7] at q
   obtain ⟨⟨⟨⟨⟨rfl,rfl⟩,hdel⟩,ht⟩,hok⟩,hni⟩:=q
   obtain ⟨nm,bs,mro,ns,qn,hd,sn,sub,ab,col,Sk⟩:=cd
   dsimp only at hm hdel hok hni
   subst hm hdel
   obtain ⟨l⟩:=sl
   dsimp only at hs
   subst hs
   exact ⟨bm,ns,nm,qn,bs,hd,sn,sub,ab,col,dd,k0,k1,k2,k3,k5,_,X _ _ ho,.of_isNs (PySem.W.isNs_of_in X hok),PySem.W.nsMap_none_of_in X hok hni,PySem.W.tail_of_in X ht⟩
  ·cases q
 ·cases q
structure XCls (K:A0) (mg:Str->Option Value) (x:Str) (C:Addr):Prop where
 at_:mg x=some (.ref C)
 ex:N6 K C [.type "ValueError",.type "Exception",.type "BaseException",.type "object"] "ValueError.__new__"=true
section
variable {X:Cx}
end
section
variable {P:Program} {w:World} {K:A0} {mg:Str->Option Value} {base:Heap}
end
theorem fn_ofW {CX:LX} {P:Program} {w:World} {K:A0} {mg:Str->Option Value} {base:Heap} {k:Nat} {f:Addr} {name qual:Str} {params:Arguments} {body:List Stmt} {scope:Scope} {dV kV doc pm cdv ct oc:Value} {an od:Option Addr}
  {osl:Array (Option Value)} {N ps:List Str} {sp:Sp} (lk:K.lookup f=some ⟨oc,od,.func (V2 name qual params body scope dV kV doc pm an cdv ct),osl⟩) (hcd:E4 K cdv qual=true) (S:DX N ps scope)
  (len:∀ vs H Q E,sp vs H Q E->vs.length=ps.length)
  (hbody:∀ (A:Around) (outer:List Env) (s:Shared) (H:Hp) (vs:List V) (Q:VK) (E:XK),BZ k (A.deeper (envOfC qual scope s.heap.objs.size f cdv))->sp vs H Q E ->
   ∀ s1,Ax (Ff CX P w K mg base N qual scope f cdv A outer s H E) [] (start N vs) H s1->wpAny (model P w) (A.deeper (envOfC qual scope s.heap.objs.size f cdv)) (execs body (envOfC qual scope s.heap.objs.size f cdv)) (SP (Ff CX P w K mg base N qual scope f cdv A outer s H E) [] { nx:=λ_ H'=>Q .non H',rt:=Q }) (Ff CX P w K mg base N qual scope f cdv A outer s H E).xe s1) :
  AS P w K mg base CX (k+1) f (V2 name qual params body scope dV kV doc pm an cdv ct) ps sp:=by
 refine ⟨len,λA outer s H args us vs Q E hr e0 hb r hsp=>?_⟩
 have hl:=len _ _ _ _ hsp
 have KX:K.In s.heap:=e0.mod.kin.keeps λb o e=>(e0.bs b o e).1
 have lim:s.heap.NoLimit:=e0.mod.nolimit.keeps λb o e=>(e0.bs b o e).1
 have hkind:∀ y∈ps.zip us,scope.names.lookup y.1=some .local\/(scope.names.lookup y.1=some .cell/\((cellsFrom (s.heap.objs.size+1) scope.names []).lookup y.1).isSome=true):=λ⟨n,v⟩ hy=>by
  rcases S.par n (g7 hy).1 with q | q
  ·exact .inl q
  ·exact .inr ⟨q,W7 _ _ _ (.inl q)⟩
 refine codeAny_call_function hr.depth (KX _ _ lk) rfl S.co S.gen rfl (PySem.W.codeRec_of KX hcd) (hb _ _ _ _ ?_)
 refine wpAny_newFunctionEnv_cells S.kind hkind λenv he s1 x=>?_
 subst he
 refine ⟨lim.keeps x.toInCall.keep,codeAny_func ?_⟩
 have hq:=hbody A outer s H vs Q E (hr.deeper _) hsp
 have I:Ax (Ff CX P w K mg base N qual scope f cdv A outer s H E) [] (start N vs) H s1:=LI S hr.hd e0 hl r x
 refine wpAny_mono (hq s1 I) (λfl s' hs=>?_) λe s' hs=>hs
 have fin:∀ {σ':St} {H':Hp} {v:V} {u:Value},Ax (Ff CX P w K mg base N qual scope f cdv A outer s H E) [] σ' H' s'->Ba v u->Q v H'->CE outer P w H s Q u s' :=
  λ{σ' H' v u} J rv q=>⟨v,H',J.os,J.bare,J.base,J.hok,rv,q⟩
 cases fl with
 |ret u =>
  obtain ⟨v,σ',H',J,rv,q⟩:=hs
  exact fin J rv q
 |next =>
  obtain ⟨σ',H',J,q⟩:=hs
  exact fin (v:=V.non) (u:=Value.none) J rfl q
 |brk =>
  obtain ⟨_,_,_,q⟩:=hs
  exact False.elim q
 |cont =>
  obtain ⟨_,_,_,q⟩:=hs
  exact False.elim q
section
variable {P:Program} {w:World} {K:A0} {mg:Str->Option Value} {base:Heap}
end
def TrD (h B:Heap) (e:Addr) (c:Value) (d:Option Addr) (fl:Value):Prop :=
 ∃ oe vs T oT ts,h.get? e=some oe/\((oe.cls=c/\oe.dict=d)/\vs[2]?=some .none)/\oe.data=.fields vs/\vs[1]?=some (.ref T)/\B.get? T=none/\T≠e/\h.get? T=some oT/\oT.data=.fields ts/\ts[3]?=some fl
theorem Uo (f:Array Value->Array Value) (o:Obj):(Obj.mapFields f o).dict=o.dict:=by
 obtain ⟨c,d,x,sl⟩:=o
 cases x<;>rfl
def StpD (B:Heap) (l:List Env) (e:Addr) (c:Value) (d:Option Addr) (fl:Value) (h h':Heap):Prop:=B.StaysIn h'/\h'.FunFrames B l/\TrD h' B e c d fl/\h.UpToSlots h'
section
variable {M:Model} {A:Around} {E:Value->Shared->Prop} {s:Shared} {B:Heap} {env:Env} {outer l:List Env} {L e:Addr} {c:Value} {d:Option Addr}
theorem LM {oe:Obj} {vs:Array Value} {head:Value} {nx:Bool} {Q:Unit->Shared->Prop} (fr:A.frames=some (env::outer)) (ff:s.heap.FunFrames B (env::outer)) (hf:env.frame=some L) (at_:s.heap.get? e=some oe) (kb:B.StaysIn s.heap) (nb:B.get? e=none) (dat:oe.data=.fields vs) (sz:1<vs.size) (c2:vs[2]?=some .none)
  (k:∀ h',StpD B (env::outer) e oe.cls oe.dict (rawInt L) s.heap h'->Q () { s with heap:=h' }) :
  wpAny M A (do let a <- frameOf env;let pl <- entryPlaceOf L nx;let b <- EntryCells.newEntry head a .none (rawInt L) .none pl;setField (.ref e) 1 b) Q E s:=by
 have nfr:e∉(env::outer).filterMap (·.frame):=λz=>by
  obtain ⟨_,o,ho,hn⟩:=ff.mem z
  rw [at_] at ho;cases ho
  exact hn vs dat
 refine wpAny_bind (wpAny_frameOf_fun fr ff hf λh1 s1=>wpAny_bind (wpAny_entryPlaceOf λpl hpl=>?_))
 unfold EntryCells.newEntry newFields
 have at1:h1.get? e=some oe:=(s1.2.1 e nfr).trans at_
 have kb1:B.StaysIn h1:=λb o q=>(s1.2.1 b λz=>by rw [(ff.mem z).1] at q;cases q).trans (kb b o q)
 refine wpAny_bind (wpAny_newObj_type ?_ (hpl.sizeOk5 _ _ _ _ _))
 generalize hz:([head,Value.ref L,.none,rawInt L,.none]++(if pl.isEmpty then A7 6 Value.none else pl)).toArray=zs
 have z3:zs[3]?=some (rawInt L):=by
  rw [<- hz]
  first | (simp;done) | (rcases hpl with rfl | ⟨_,_,_,_,_,_,_,rfl⟩<;>simp)
 have at2:=Heap.get?_push_of_some (h:=h1) { cls:=.type "traceback",dict:=none,data:=.fields zs } at1
 have neT:h1.objs.size≠e:=P8 (Heap.lt_size at1)
 have dat3:=Obj.data_mapFields dat (·.setIfInBounds 1 (Value.ref h1.objs.size))
 have at3:=Heap.get?_update_self (Obj.mapFields (·.setIfInBounds 1 (Value.ref h1.objs.size))) at2 (Obj.isFreed_of_fields dat3)
 have kp:∀ b o,b≠e->h1.get? b=some o->((h1.push { cls:=.type "traceback",dict:=none,data:=.fields zs }).update e (Obj.mapFields (·.setIfInBounds 1 (Value.ref h1.objs.size)))).get? b=some o:=λb o n q=>by
  rw [Heap.get?_update_other _ _ (Ne.symm n)];exact Heap.get?_push_of_some _ q
 have nr:∀ b o,s.heap.get? b=some o->(∀ ws,o.data≠.fields ws)->b≠e:=λb o q n z=>by
  rw [z,at_] at q;cases q
  exact n vs dat
 refine wpAny_setField at2 dat sz (k _ ⟨λb o q=>kp b o (λz=>by rw [z,nb] at q;cases q) (kb1 b o q),ff.of_keeps λb o q n=>?_,⟨_,_,h1.objs.size,{ cls:=.type "traceback",dict:=none,data:=.fields zs },zs,at3,⟨⟨Obj.cls_mapFields _ _,Uo _ _⟩,by simp [c2]⟩,dat3,by simp [sz],kb1.fresh,neT,?_,rfl,z3⟩,λb o q n=>?_⟩)
 ·obtain ⟨sl,q2⟩:=s1.2.2 b o q
  exact ⟨_,kp b _ (nr b o q n) q2,rfl⟩
 ·rw [Heap.get?_update_other _ _ (Ne.symm neT)];exact Heap.get?_push_size h1 rfl
 ·obtain ⟨sl,q2⟩:=s1.2.2 b o q
  exact ⟨sl,kp b _ (nr b o q n) q2⟩
theorem Sg {oe:Obj} {vs:Array Value} {Q:Unit->Shared->Prop} (fr:A.frames=some (env::outer)) (ff:s.heap.FunFrames B (env::outer)) (hf:env.frame=some L) (at_:s.heap.get? e=some oe) (kb:B.StaysIn s.heap) (nb:B.get? e=none) (dat:oe.data=.fields vs) (no:vs[1]?=some .none) (c2:vs[2]?=some .none)
  (k:∀ h',StpD B (env::outer) e oe.cls oe.dict (rawInt L) s.heap h'->Q () { s with heap:=h' }):wpAny M A (noteFrame (.ref e) env) Q E s:=by
 unfold noteFrame
 simp only [hf]
 refine wpAny_bind (wpAny_field at_ dat no ?_)
 rw [if_neg (by kd_p)]
 exact LM fr ff hf at_ kb nb dat (L6.mp no).1 c2 k
theorem Oh {Q:Unit->Shared->Prop} (fr:A.frames=some (env::outer)) (ff:s.heap.FunFrames B (env::outer)) (hf:env.frame=some L) (t:TrD s.heap B e c d .none) (kb:B.StaysIn s.heap) (nb:B.get? e=none)
  (k:∀ h',StpD B (env::outer) e c d (rawInt L) s.heap h'->Q () { s with heap:=h' }):wpAny M A (noteFrame (.ref e) env) Q E s:=by
 obtain ⟨oe,vs,T,oT,ts,at_,⟨⟨rfl,rfl⟩,c2⟩,dat,h1,nT,neT,atT,datT,h3⟩:=t
 unfold noteFrame
 simp only [hf]
 have oth:∀ b,b≠T->(s.heap.update T (Obj.mapFields (·.setIfInBounds 3 Value.none))).get? b=s.heap.get? b:=λb n=>Heap.get?_update_other _ _ (Ne.symm n)
 have nr:∀ b o,s.heap.get? b=some o->(∀ ws,o.data≠.fields ws)->b≠T:=λb o q n z=>by
  rw [z,atT] at q;cases q
  exact n ts datT
 refine wpAny_bind (wpAny_field at_ dat h1 ?_);rw [if_pos (show (Value.ref T != Value.none)=true by simp)]
 refine wpAny_bind (wpAny_field atT datT h3 ?_);rw [if_neg (show ¬ ((Value.none == rawInt L)=true) by simp [rawInt])]
 refine wpAny_bind (wpAny_setField atT datT (L6.mp h3).1 (LM fr (ff.of_keeps λb o q n=>⟨o,(oth b (nr b o q n)).trans q,rfl⟩) hf ((oth e (Ne.symm neT)).trans at_) (λb o q=>(oth b λz=>by rw [z,nT] at q;cases q).trans (kb b o q)) nb dat (L6.mp h1).1 c2 λh' ⟨x1,x2,x3,x4⟩=>?_))
 exact k h' ⟨x1,x2,x3,λb o q n=>x4 b o ((oth b (nr b o q n)).trans q) n⟩
theorem Il {fl:Value} {Q:Unit->Shared->Prop} (kb:B.StaysIn s.heap) (ff:s.heap.FunFrames B l) (t:TrD s.heap B e c d fl) (k:∀ h',StpD B l e c d .none s.heap h'->Q () { s with heap:=h' }):wpAny M A (setFlight (.ref e) none) Q E s:=by
 obtain ⟨oe,vs,T,oT,ts,at_,cd,dat,h1,nT,neT,atT,datT,h3⟩:=t
 have z3:3<ts.size:=(L6.mp h3).1
 have oth:∀ b,b≠T->(s.heap.update T (Obj.mapFields (·.setIfInBounds 3 ((none:Option Addr).elim Value.none λf=>rawInt f)))).get? b=s.heap.get? b:=λb n=>Heap.get?_update_other _ _ (Ne.symm n)
 have nr:∀ b o,s.heap.get? b=some o->(∀ ws,o.data≠.fields ws)->b≠T:=λb o q n z=>by
  rw [z,atT] at q;cases q
  exact n ts datT
 unfold setFlight
 refine wpAny_bind (wpAny_field at_ dat h1 ?_);rw [if_pos (show (Value.ref T != Value.none)=true by simp)]
 exact wpAny_setField atT datT z3 (k _ ⟨λb o q=>(oth b λz=>by rw [z,nT] at q;cases q).trans (kb b o q),ff.of_keeps λb o q n=>⟨o,(oth b (nr b o q n)).trans q,rfl⟩,⟨oe,vs,T,_,_,(oth e (Ne.symm neT)).trans at_,cd,dat,h1,nT,neT,Heap.get?_update_self _ atT (Obj.isFreed_of_fields (Obj.data_mapFields datT _)),Obj.data_mapFields datT _,by simp [z3]⟩,λb o q n=>⟨o.slots,(oth b (nr b o q n)).trans q⟩⟩)
end
def HA (B:Heap) (l:List Env) (e:Addr) (c:Value) (d:Option Addr) (h:Heap):Prop:=B.StaysIn h/\B.get? e=none/\h.FunFrames B l/\TrD h B e c d .none
section
variable {M:Model} {A:Around} {E:Value->Shared->Prop} {s:Shared} {B:Heap} {env:Env} {outer l:List Env} {L e:Addr} {c:Value} {d:Option Addr}
theorem HA.there {h:Heap} (x:HA B l e c d h):∃ ob vs,h.get? e=some ob/\ob.cls=c/\ob.dict=d/\ob.data=.fields vs:=by
 obtain ⟨_,_,_,oe,vs,_,_,_,at_,cd,dat,_⟩:=x
 exact ⟨oe,vs,at_,cd.1.1,cd.1.2,dat⟩
theorem HA.there2 {h:Heap} (x:HA B l e c d h):∃ ob vs,h.get? e=some ob/\ob.cls=c/\ob.dict=d/\ob.data=.fields vs/\vs[2]?=some .none:=by
 obtain ⟨_,_,_,oe,vs,_,_,_,at_,cd,dat,_⟩:=x
 exact ⟨oe,vs,at_,cd.1.1,cd.1.2,dat,cd.2⟩
theorem HA.leaves {Q:Unit->Shared->Prop} (x:HA B (env::outer) e c d s.heap) (fr:A.frames=some (env::outer)) (hf:env.frame=some L) (k:∀ h',HA B outer e c d h'->s.heap.UpToSlots h'->Q () { s with heap:=h' }):wpAny M A (leaving env (.ref e)) Q E s:=by
 obtain ⟨f1,f2,f3,f4⟩:=x
 unfold leaving
 refine wpAny_bind (Oh fr f3 hf f4 f1 f2 λh1 ⟨a1,a2,a3,a4⟩=>Il (s:={ s with heap:=h1 }) a1 a2 a3 λh2 ⟨b1,⟨_,_,b2⟩,b3,b4⟩=>k h2 ⟨b1,f2,b2,b3⟩ (a4.trans b4))
theorem HA.comes {Q:Unit->Shared->Prop} (x:HA B (env::outer) e c d s.heap) (fr:A.frames=some (env::outer)) (hf:env.frame=some L) (k:∀ h',HA B (env::outer) e c d h'->s.heap.UpToSlots h'->Q () { s with heap:=h' }) :
  wpAny M A (noteFrame (.ref e) env) (λ_ s2=>wpAny M A (setFlight (.ref e) none) Q E s2) E s:=by
 obtain ⟨f1,f2,f3,f4⟩:=x
 refine Oh fr f3 hf f4 f1 f2 λh1 ⟨a1,a2,a3,a4⟩=>Il (s:={ s with heap:=h1 }) a1 a2 a3 λh2 ⟨b1,b2,b3,b4⟩=>k h2 ⟨b1,f2,b2,b3⟩ (a4.trans b4)
theorem HA.again {Q:Unit->Shared->Prop} (x:HA B l e c d s.heap) (k:∀ h',HA B l e c d h'->s.heap.UpToSlots h'->Q () { s with heap:=h' }):wpAny M A (setFlight (.ref e) none) Q E s:=by
 obtain ⟨f1,f2,f3,f4⟩:=x
 exact Il f1 f3 f4 λh2 ⟨b1,b2,b3,b4⟩=>k h2 ⟨b1,f2,b2,b3⟩ b4
end
end L2

namespace L2
open PySem
def ExcUp (h:Heap) (C:Addr) (ups:List Value):Prop:=∃ nm qn N bs hdct sn sub ab col dd k0 k1 k2 k3 k5 newId,h.get? C=some (excClassObj nm qn C N bs ups hdct sn sub ab col dd k0 k1 k2 k3 k5 newId)
theorem Om {M:Model} {A:Around} {E:Value->Shared->Prop} {s:Shared} {C D e:Addr} {ups downs:List Value} {oe:Obj} {Q:Bool->Shared->Prop} (uC:ExcUp s.heap C ups) (uD:ExcUp s.heap D downs)
  (he:s.heap.get? e=some oe) (hcls:oe.cls=.ref C) (hbase:downs.contains (.type "BaseException")=true) (hq:Q ((Value.ref C::ups).contains (.ref D)) s):wpAny M A (excMatches (.ref e) (.ref D)) Q E s:=by
 obtain ⟨hp,gs,dr,tk,os⟩:=s
 obtain ⟨_,_,_,_,_,_,_,_,_,_,_,_,_,_,_,_,atC⟩:=uC
 obtain ⟨_,_,_,_,_,_,_,_,_,_,_,_,_,_,_,_,atD⟩:=uD
 have inD:(Value.ref D::downs).contains (.type "BaseException")=true:=by rw [List.contains_cons,hbase,d7]
 have notTup:=tc_notTuple
 cases yes:(Value.ref C::ups).contains (.ref D)<;>(
  rw [yes] at hq
  unfold excMatches
  repeat (first | (with_reducible refine wpAny_loadPart_at he ?_;rw [hcls]) | with_reducible refine wpAny_loadPart_at atD ?_ | (with_reducible refine wpAny_isSubtype_exc atC ?_;rw [yes]) | (with_reducible refine wpAny_isSubtype_exc atD ?_;rw [inD]) | wp_step)
  exact hq)
end L2


set_option maxRecDepth 100000
namespace L2
open PySem PySem.W PySem.Spec PySem.Calls PyProof.Rows
abbrev gaE:String:="BaseException.__getattribute__"
structure Ji (K:Frag) (D:Addr):Prop where
 cls:(clsIn K D).isSome=true
 exc:mroIn K D (.type "BaseException")=some true
 obj:mroIn K D (.type "object")=some true
 ga:findIn K (.ref D) "__getattribute__"=some (some (.builtin gaE))
 hook:findIn K (.ref D) "__getattr__"=some none
theorem MI:builtinKind gaE=some .slot/\splitId gaE=some ("BaseException", "__getattribute__")/\(Value.builtin gaE == Value.builtin "object.__getattribute__")=false:=by lk
section
variable {prog:Program} {w:World} {A:Around} {E:Value->Shared->Prop} {s:Shared} {K:Frag} {x D:Addr} {ox:Obj} {od:Option Obj} {name:Str}
theorem Sh {M:Model} {nv:Value} {Q:Unit->Shared->Prop} (X:K.In s.heap) (I:InstAt s.heap x ox D od) (c:Ji K D) (h:Q () s):wpAny M A (checkBuiltinCall gaE ⟨[.ref x,nv],[]⟩) Q E s:=by
 obtain ⟨hp,gs,dr,tk,os⟩:=s
 have ty:=I.type (M:=M)
 have up:=looks_mroIn (M:=M) X c.exc
 have argsOk:=F.args_bexc_ga (.ref x) nv
 simp only [checkBuiltinCall,MI.1,MI.2.1]
 refine wpAny_bind ?_
 unfold isInstance
 refine wpAny_bind (ty.at (up.at ?_))
 repeat (first | wp_step)
 exact h
theorem PD {v:Value} {t:Tok} {Q:Fin->Shared->Prop} (X:K.In s.heap) (I:InstAt s.heap x ox D od) (hf:findObj K D od name=some (.value v)) (h:Q (.done (.ret v)) s) :
  wpAny (model prog w) A (Builtin.«object.__getattribute__» ⟨[.ref x,.str name t],[]⟩) Q E s:=by
 obtain ⟨hp,gs,dr,tk,os⟩:=s
 have fd:=looks_find (M:=model prog w) X I hf
 exact wpAny_bind (wpAny_pure (wpAny_bind (wpAny_pure (wpAny_bind (I.type.at (wpAny_bind (fd.at (wpAny_pure h))))))))
theorem exc_by {t:Tok} {fill expr:Bool} {Q:Value->Shared->Prop} (X:K.In s.heap) (I:InstAt s.heap x ox D od) (c:Ji K D)
  (h:wpAny (model prog w) A.in1 (Builtin.«object.__getattribute__» ⟨[.ref x,.str name t],[]⟩)
   (λr s'=>match r with | .done (.ret v)=>wpAny (model prog w) A (handedOut v) Q (λ_ _=>False) s' | _=>False) (λ_ _=>False) s) :
  wpAny (model prog w) A (getAttrBy (.ref x) (.str name t) fill expr) Q E s:=by
 obtain ⟨hp,gs,dr,tk,os⟩:=s
 have way:=looks_findIn (M:=model prog w) X c.ga
 have hook:=looks_findIn (M:=model prog w) X c.hook
 have plain:(expr&&onTheHeap (Value.builtin gaE))=false:=by cases expr<;>rfl
 have other:(onTheHeap (Value.ref D)&&Value.builtin gaE == Value.builtin "object.__getattribute__")=false:=by rw [MI.2.2];rfl
 unfold getAttrBy
 refine wpAny_holding (wpAny_bind (I.type.at (wpAny_bind (way.at ?_))))
 dsimp only
 rw [if_neg (by rw [other];decide)]
 unfold getAttrByItsOwn
 refine wpAny_bind ?_
 show wpAny _ _ (typeLookup (.ref D) "__getattr__") _ _ _
 refine hook.at (wpAny_bind (wpAny_attempt (wpAny_holding ?_)))
 unfold callGetattribute
 rw [if_neg (by rw [plain];decide)]
 unfold boundAndCalled
 rw [PySem.F.attrBase_ValueError.ga.bind (.ref x)]
 refine wpAny_bind (wpAny_pure (wpAny_call (codeAny_call_builtin PySem.F.attrBase_ValueError.ga.plain F.entry_bexc_ga (Sh X I c ?_))))
 refine wpAny_mono h (λr s' z=>?_) (λ_ _ z=>z.elim)
 rcases r with (_ | _ | _ | _) | _
 all_goals first | exact wpAny_mono z (λ_ _ q=>q) (λ_ _ q=>q.elim) | exact z.elim
theorem exc_fld {v:Value} {expr:Bool} {Q:Value->Shared->Prop} (X:K.In s.heap) (I:InstAt s.heap x ox D od) (c:Ji K D) (hf:findObj K D od name=some (.value v)) (hv:handedOut v=pure v)
  (h:Q v { s with toks:=s.toks+1 }):wpAny (model prog w) A (getAttr (.ref x) name expr) Q E s:=by
 refine wpAny_bind (wpAny_mkText (exc_by (s:={ s with toks:=s.toks+1 }) X I c (PD (s:={ s with toks:=s.toks+1 }) X I hf ?_)))
 dsimp only
 rw [hv]
 exact wpAny_pure h
end
end L2
namespace L2
open PySem PySem.Spec PyProof.Rows
def Rg (P:Program) (w:World):LX:=λouter H s E e s'=>∃ (a:Addr) (C:Value) (d:Option Addr) (B:Heap) (H':Hp),e=.ref a/\s'.os=s.os/\AllBare s'.gens/\HA B outer a C d s'.heap/\Gj (HC outer) s.heap s'.heap /\
 (∀ h':Heap,B.StaysIn h'->UnB (HC outer) H H' s.heap h'/\GX P w H' h')/\E C d H'
section
variable {X:Cx}
def MW (X:Cx) (E:XK):Prop:=X.stack=X.env::X.outer/\X.env.frame=some X.env.locals/\X.ex=[] /\
 X.xe=λe s'=>wpAny (model X.prog X.w) X.A (leaving X.env e) (λ_ s''=>Rg X.prog X.w X.outer X.H₀ X.s₀ E e s'') (λe' s''=>Rg X.prog X.w X.outer X.H₀ X.s₀ E e' s'') s'
end
section
variable {P:Program} {w:World} {K:A0} {mg:Str->Option Value} {base:Heap}
theorem Sx.okD {x qual:Str} {st:Stmt} {f:Addr} {fd:FuncData} {N ps:List Str} {k:Nat} {sp:Sp} (F:Sx K x qual st f fd) (S:DX N ps (At st)) (len:∀ vs H Q E,sp vs H Q E->vs.length=ps.length)
  (hbody:∀ (cdv:Value) (A:Around) (outer:List Env) (s:Shared) (H:Hp) (vs:List V) (Q:VK) (E:XK),BZ k (A.deeper (envOfC qual (At st) s.heap.objs.size f cdv))->sp vs H Q E ->
   ∃ t,KI (Ff (Rg P w) P w K mg base N qual (At st) f cdv A outer s H E) (AT st) t/\t { nx:=λ_ H'=>Q .non H',rt:=Q } (start N vs) H):AS P w K mg base (Rg P w) (k+1) f fd ps sp:=by
 obtain ⟨oc,od,kV,doc,pm,an,cdv,ct,osl,rfl,lk,hcd⟩:=F.ex
 exact UQ lk hcd S len λA outer s H vs Q E hr hsp=>hbody cdv A outer s H vs Q E hr hsp
theorem Db {N:List Str} {qual:Str} {scope:Scope} {f:Addr} {cd:Value} {A:Around} {outer:List Env} {s:Shared} {H:Hp} {E:XK}:MW (Ff (Rg P w) P w K mg base N qual scope f cd A outer s H E) E:=⟨rfl,rfl,rfl,rfl⟩
theorem Ua {X:Cx} {E E':XK} (L:MW X E') (h:∀ c d H,E c d H->E' c d H):Em (Rg X.prog X.w) X E:=by
 intro pins σ H s e s' I q
 obtain ⟨hst,hfr,hex,hxe⟩:=L
 obtain ⟨a,c,d,B,H2,rfl,os,bare,fly,sl,kp,hq⟩:=q
 rw [hxe]
 have fr:X.A.frames=some (X.env::X.outer):=by rw [I.ok.frames,hst]
 rw [hst] at fly
 have s0:Gj (HC X.outer) X.s₀.heap s'.heap:=λb o e hb=>by
  obtain ⟨z,q⟩:=I.base.slot b o e (I.ok.frf b hb) hb (by rw [hex];simp)
  obtain ⟨z',q'⟩:=sl b _ q (by rw [hst];exact Q6.mpr (by
   obtain ⟨env,he,hf⟩:=Q6.mp hb
   exact ⟨env,N0 _ he,hf⟩))
  exact ⟨z',q'⟩
 refine fly.leaves fr hfr λh2 fly2 u2=>?_
 exact ⟨a,c,d,B,H2,rfl,os.trans I.os,bare,fly2,s0.up I.ok.funs u2,λh' b'=>⟨I.onB hex (kp h' b').1,(kp h' b').2⟩,h _ _ _ hq⟩
theorem passDN {X:Cx} {P:Program} {w:World} {E:XK} (h:∀ c d H,E c d H->False):Em (Rg P w) X E:=λ_ _ _ _ _ _ _ q=>by
 obtain ⟨a,c,d,B,H2,_,_,_,_,_,_,hq⟩:=q
 exact (h _ _ _ hq).elim
end
abbrev Cx.with (X:Cx) (A:Around) (c:Bool) (xe:Value->Shared->Prop):Cx:={ X with A:=A,calm:=c,xe:=xe }
theorem Ax.with {X:Cx} {pins:List (Addr×Obj)} {σ:St} {H:Hp} {s:Shared} {A:Around} {c:Bool} {xe:Value->Shared->Prop} (I:Ax X pins σ H s) (hd:c=true->A.handled=none) (fr:A.frames=X.A.frames):Ax (X.with A c xe) pins σ H s :=
 ⟨⟨I.ok.mod,I.ok.kind,I.ok.glob,I.ok.blt,I.ok.above,I.ok.inj,I.ok.has,I.ok.cab,hd,fr.trans I.ok.frames,I.ok.stk,I.ok.exf,I.ok.bs,I.ok.bsz,I.ok.noex,I.ok.exfs,I.ok.funs,I.ok.frf⟩,I.os,I.bare,I.base,I.loc,I.cell,I.free,I.freeC,I.pin,I.hok,I.len⟩
theorem Ax.back {X:Cx} {pins:List (Addr×Obj)} {σ σ0:St} {H H0:Hp} {s s0:Shared} {A:Around} {c:Bool} {xe:Value->Shared->Prop} (I:Ax (X.with A c xe) pins σ H s) (J:Ax X pins σ0 H0 s0):Ax X pins σ H s :=
 ⟨J.ok,I.os,I.bare,I.base,I.loc,I.cell,I.free,I.freeC,I.pin,I.hok,I.len⟩
theorem Ax.forgotten {X:Cx} {pins:List (Addr×Obj)} {σ:St} {H:Hp} {s:Shared} {h':Heap} {m:Str->Option Value} {t':Nat} (I:Ax X pins σ H s) (hn:h'.Ns X.env.locals m) (hs:Heap.SameBut X.env.locals s.heap h'):Ax X pins (A7 X.N.length none) H { s with heap:=h',toks:=t' }:=by
 have neL:∀ b o,X.s₀.heap.get? b=some o->b≠X.env.locals:=λb o e=>j1 (E2 (Heap.lt_size e) I.ok.above)
 refine ⟨I.ok,I.os,I.bare,⟨λb o e n hb hx=>(hs.2 b (neL b o e)).trans (I.base.keep b o e n hb hx),λb o e n hb hx=>?_,I.base.free,λb o e hx=>?_,I.base.tups,I.base.frzs,I.base.tbls⟩,⟨m,hn,λi x v _ e2 _=>?_⟩,λx c e=>?_,I.free,I.freeC,λp hp=>?_,λb ob e=>?_,L9⟩
 ·obtain ⟨sl,q⟩:=I.base.slot b o e n hb hx
  exact ⟨sl,(hs.2 b (neL b o e)).trans q⟩
 ·obtain ⟨o',q⟩:=I.base.there b o e hx
  exact ⟨o',(hs.2 b (neL b o e)).trans q⟩
 ·rw [z8] at e2
  split at e2<;>cases e2
 ·obtain ⟨v,z⟩:=I.cell x c e
  exact ⟨v,z.sameBut hs (I.cne x c e)⟩
 ·obtain ⟨e,n,ne,nf,d⟩:=I.pin p hp
  exact ⟨(hs.2 p.1 ne).trans e,n,ne,nf,d⟩
 ·refine (I.hok b ob e).stay (λc v hc q=>(hs.2 c λz=>?_).trans q) (λ_ q=>q) λ_ _ q=>q
  rcases hc with w | w
  ·rw [z] at w
   rw [<- w,I.free] at e;cases e
  ·rw [z,I.free] at w;cases w
def PY (X:Cx) (E:St->XK) (e:Value) (s':Shared):Prop:=∃ σ H s,Ax X [] σ H s/\Rg X.prog X.w X.stack H s (E σ) e s'
def MU (CX:LX) (X:Cx) (E:St->XK):Prop:=∀ (pins:List (Addr×Obj)) (σ:St) (H:Hp) (s:Shared) (e:Value) (s':Shared),Ax X pins σ H s->CX X.stack H s (E σ) e s'->X.xe e s'
theorem QF {X:Cx} {E:St->XK}:MU (Rg X.prog X.w) (X.wish (PY X E)) E:=λ_ σ H s _ _ I h=>⟨σ,H,s,I.unwish.pins_of (λp hp=>by cases hp),h⟩
section
variable {X:Cx} {CX:LX} {k:Nat} {f C:Addr} {fd:FuncData} {ps:List Str} {sp:Sp} {dvs:List V} {ds:List Value} {x m:Str} {p pos apos:Pos} {e o:Expr} {es:List Expr} {ta:TE} {t:TA}
theorem run_fnS {E:St->XK} {pins:List (Addr×Obj)} {σ:St} {H:Hp} {s:Shared} {Q:VK} {us:List Value} {vs:List V} (F:AS X.prog X.w X.K X.mg X.base CX k f fd ps sp) (hr:BZ k X.A) (hb:Ci X.K fd ps ds) (hd:AR dvs ds) (hx:MU CX X E)
  (I:Ax X pins σ H s) (r:AR vs us) (h:sp (vs++dvs) H Q (E σ)):wpAny (model X.prog X.w) X.A (call (.ref f) us) (EP X pins σ Q) X.xe s:=by
 have r2:AR (vs++dvs) (us++ds):=r.append hd
 have hl:(us++ds).length=ps.length:=by rw [<- r2.length];exact F.len _ _ _ _ h
 refine wpAny_call (codeAny_mono (F.run X.A X.stack s H ⟨us,[]⟩ (us++ds) (vs++dvs) Q (E σ) hr I.env0 (hb s us I.kIn hl) r2 h) λr s' hq=>?_)
 cases r with
 |error e=>exact hx pins σ H s e s' I hq
 |ok fl =>
  cases fl with
  |ret u=>exact I.after hq
  |next=>exact False.elim hq
  |brk=>exact False.elim hq
  |cont=>exact False.elim hq
def JS (sp:Sp) (dvs:List V) (E:St->XK) (t:TA):TE:=λσ H Q=>t σ H λvs H1=>sp (vs++dvs) H1 Q (E σ)
theorem HQ {E:St->XK} (F:AS X.prog X.w X.K X.mg X.base CX k f fd ps sp) (hr:BZ k X.A) (hg:Gl X x) (hm:X.mg x=some (.ref f)) (hk:T2 X.K (.ref f)=true) (hb:Ci X.K fd ps ds) (hd:AR dvs ds) (hx:MU CX X E)
  (ha:PA X (e::es) t) (hdb:(x == ("__debug__":Str))=false:=by kd_p) (he:starEach (e::es) X.env=(false,eval e X.env)::starEach es X.env:=by rfl) (hpl:(backTo pos (starEach es X.env)).any (·.1)=false:=by rfl) :
  PE X (.Call (.Name x p) (e::es) [] pos) (JS sp dvs E t):=by
 intro pins s σ H Q I h
 refine wpAny_Call_Name_kw (Gy I hg hm ?_ hdb)
 exact z5 (h₀:=X.base) I.ok.mod.kin hk (pL (ha pos pins s σ H _ I h) λus s1 vs H1 I1 r q=>⟨I1.kIn,run_fnS F hr hb hd hx I1 r q⟩) he hpl
end
section
variable {P:Program} {w:World} {K:A0} {mg:Str->Option Value} {base:Heap}
end
section
variable {X:Cx} {CX:LX} {k:Nat} {f C:Addr} {fd:FuncData} {ps:List Str} {sp:Sp} {dvs:List V} {ds:List Value} {E:XK} {x m:Str} {p pos apos:Pos} {e o:Expr} {es:List Expr} {ta:TE} {t:TA}
end
theorem Bj.some {P:Program} {w:World} {H:Hp} {h:Heap} {a:Addr} {o:HO} (x:Bj P w H h a o):∃ ob,h.get? a=some ob:=by
 cases o with
 |lst xs=>obtain ⟨_,_,_,_,e⟩:=x;exact ⟨_,e⟩
 |tup xs=>obtain ⟨_,_,_,o,e,_⟩:=x;exact ⟨o,e⟩
 |dK kvs=>obtain ⟨_,_,_,_,o,_,_,e,_⟩:=x;exact ⟨o,e⟩
 |dT kvs=>obtain ⟨_,_,_,_,o,_,_,e,_⟩:=x;exact ⟨o,e⟩
 |set S n=>obtain ⟨o,_,_,_,e,_⟩:=x;exact ⟨o,e⟩
 |ins C dx fs=>obtain ⟨_,_,_,e,_⟩:=x;exact ⟨_,e⟩
 |own y=>exact x
 |xd fs=>obtain ⟨_,⟨o,_,_,e,_⟩,_⟩:=x;exact ⟨o,e⟩
 |rng lo hi=>obtain ⟨_,_,_,e⟩:=x;exact ⟨_,e⟩
 |frz ob u=>obtain ⟨e,_⟩:=x;exact ⟨_,e⟩
 |tbl ps=>exact ⟨_,x⟩
 |met f y=>exact ⟨_,x⟩
 |ext φ=>obtain ⟨_,e,_⟩:=x;exact e
theorem Ax.track {X:Cx} {pins:List (Addr×Obj)} {σ:St} {H:Hp} {s:Shared} {a:Addr} {o:HO} (I:Ax X pins σ H s) (hn:H a=none) (n0:X.s₀.heap.get? a=none) (nl:a≠X.env.locals) (nc:∀ x c,X.env.cells.lookup x=some c->c≠a) (np:∀ p∈X.pn++pins,p.1≠a)
  (new:Bj X.prog X.w (upd H a o) s.heap a o):Ax X pins σ (upd H a o) s:=by
 refine ⟨I.ok,I.os,I.bare,⟨I.base.keep,I.base.slot,λb u e n hx=>?_,I.base.there,λb xs e=>?_,λb u v e=>?_,λb ps e=>?_⟩,I.loc,I.cell,?_,λx c e=>?_,λp hp=>?_,λb u e=>?_,I.len⟩
 ·rw [Ah (λz=>by rw [z,n0] at e;cases e)];exact I.base.free b u e n hx
 ·have q:=I.base.tups b xs e
  rw [Ah (AE q hn)];exact q
 ·have q:=I.base.frzs b u v e
  rw [Ah (AE q hn)];exact q
 ·obtain ⟨more,q⟩:=I.base.tbls b ps e
  exact ⟨more,by rw [Ah (AE q hn)];exact q⟩
 ·rw [Ah (Ne.symm nl)];exact I.free
 ·rw [Ah (nc x c e)];exact I.freeC x c e
 ·obtain ⟨e,n,ne,nf,d⟩:=I.pin p hp
  exact ⟨e,by rw [Ah (np p hp)];exact n,ne,nf,d⟩
 ·by_cases z:b=a
  ·subst z
   rw [Ab] at e;cases e
   exact new
  ·rw [Ah z] at e
   exact (I.hok b u e).stay (λ_ _ _ q=>q) (λc q=>by rw [Ah (AE q hn)];exact q) λc xs q=>by rw [Ah (AE q hn)];exact q
theorem mro_is {K:A0} {h:Heap} {C N:Addr} {bm bs:List Value} {nm qn:Str} {hdct:Bool} {sn:List Str} {sub:List Value} {ab:Bool} {col:Option Bool} {dd:Option Addr} {k0 k1 k2 k3 k5:Option Value} {newId:String} {v:Value} {b:Bool} (X:K.In h)
  (e:h.get? C=some (excClassObj nm qn C N bs bm hdct sn sub ab col dd k0 k1 k2 k3 k5 newId)) (q:K4 K C v=some b):(Value.ref C::bm).contains v=b:=by
 unfold K4 p8 at q
 split at q
 ·rename_i ho
  have e2:=X _ _ ho
  rw [e] at e2
  cases e2
  exact V3.inj q
 ·cases q
def IsExc (K:A0) (C:Addr):Prop:=N6 K C [.type "ValueError",.type "Exception",.type "BaseException",.type "object"] "ValueError.__new__"=true
section
variable {P:Program} {w:World} {K:A0} {mg:Str->Option Value} {base:Heap}
end
end L2
namespace L2
open PySem PySem.Spec PyProof.Rows PySem.W
abbrev BMV:List Value:=[.type "ValueError",.type "Exception",.type "BaseException",.type "object"]
noncomputable def excInI (K:Frag) (C f:Addr):Bool:=@decide (∃ dd cd sl bm k0 k1 k2 k3 k5,K.lookup C=some ⟨.type "type",dd,.cls cd,sl⟩/\cd.mro=.ref C::bm/\sl.toList=[k0,k1,k2,k3,some (.builtin "ValueError.__new__"),k5]/\cd.hasDel=false/\tailIn K BMV bm=true/\nsOkIn K cd.ns=true/\nsIn K cd.ns "__init__"=some (some (.ref f))) (Classical.propDecidable _)
theorem ns_some {K:Frag} {h:Heap} {N:Addr} {m:Str->Option Value} {x:Str} {v:Value} (X:K.In h) (G:h.Ns N m) (e:nsIn K N x=some (some v)):m x=some v:=by
 obtain ⟨o,es,ep,ho,hd,_,hf⟩:=G
 unfold nsIn at e
 split at e
 ·rename_i q
  have z:=X _ _ q
  rw [ho] at z
  cases z
  cases hd
  split at e
  ·rename_i en he
   rw [<- hf]
   unfold nsFind findBy
   rw [<- Array.find?_toList,he]
   cases e
   rfl
  ·split at e<;>cases e
 ·cases e
theorem IX {K:Frag} {h:Heap} {N:Addr} {x:Str} {v:Value} (X:K.In h) (e:nsOkIn K N=true) (q:nsIn K N x=some (some v)):h.nsMap N x=some v:=ns_some X (.of_isNs (isNs_of_in X e)) q
theorem Gz {K:Frag} {h:Heap} {C f:Addr} (X:K.In h) (q:excInI K C f=true) :
  ∃ bm N nm qn bs hdct sn sub ab col dd k0 k1 k2 k3 k5 mN,h.get? C=some (excClassObj nm qn C N bs bm hdct sn sub ab col dd k0 k1 k2 k3 k5 "ValueError.__new__")/\h.Ns N mN/\mN "__init__"=some (.ref f)/\OwnTail h BMV bm:=by
 obtain ⟨dd,cd,sl,bm,k0,k1,k2,k3,k5,ho,hm,hs,hdel,ht,hok,hni⟩:=@of_decide_eq_true _ (Classical.propDecidable _) q
 obtain ⟨nm,bs,mro,ns,qn,hd,sn,sub,ab,col,Sk⟩:=cd
 dsimp only at hm hdel hok hni
 subst hm hdel
 obtain ⟨l⟩:=sl
 dsimp only at hs
 subst hs
 exact ⟨bm,ns,nm,qn,bs,hd,sn,sub,ab,col,dd,k0,k1,k2,k3,k5,_,X _ _ ho,.of_isNs (isNs_of_in X hok),IX X hok hni,tail_of_in X ht⟩
section
variable {prog:Program} {w:World} {A:Around} {E:Value->Shared->Prop} {s:Shared}
variable {nm q:Str} {C N f:Addr} {bs bm:List Value} {hdct:Bool} {sn:List Str} {sub:List Value} {ab:Bool} {col:Option Bool} {dd:Option Addr} {k0 k1 k2 k3 k5:Option Value} {mN:Str->Option Value}
theorem Vi {Bh:List Value} {oI:Obj} {Q:Fin->Shared->Prop} (cC:s.heap.get? C=some (excClassObj nm q C N bs bm hdct sn sub ab col dd k0 k1 k2 k3 k5 "ValueError.__new__")) (cn:s.heap.Ns N mN) (ci:mN "__init__"=some (.ref f)) (T:OwnTail s.heap BMV bm) (fI:s.heap.get? f=some oI) (fc:oI.cls=.type "function") (lr:Bh.length<=sizeLine)
  (k:∀ h' e,Heap.MadeExcOf s.heap h' e (.ref C) Bh->wpAny (model prog w) A (call (.ref f) (.ref e::Bh)) (λr s'=>r=.none/\Q (.done (.ret (.ref e))) s') E { s with heap:=h' }):wpAny (model prog w) A (Builtin.«type.__call__» ⟨.ref C::Bh,[]⟩) Q E s:=by
 obtain ⟨h,g,d,t,os⟩:=s
 have VE:=PySem.F.excBase_ValueError
 repeat (first | with_reducible refine wpAny_loadPart_at cC ?_ | with_reducible refine wpAny_madeBy_exc cC ?_ | wp_step)
 refine codeAny_call_builtin_code (Code.quiet_builtin _ VE.quiet) (wpAny_check_new_subT VE T cC (codeAny_exc_new_subT VE T cC ?_ lr));show wpAny _ _ _ _ _ _
 have pC:=Heap.get?_push_of_some { cls:=.ref C,data:=.fields #[.ref h.objs.size,.none,.none,.none,.bool false,.none] } (Heap.get?_push_of_some { cls:=.type "tuple",data:=.seq Bh.toArray } cC)
 have pf:=Heap.get?_push_of_some { cls:=.ref C,data:=.fields #[.ref h.objs.size,.none,.none,.none,.bool false,.none] } (Heap.get?_push_of_some { cls:=.type "tuple",data:=.seq Bh.toArray } fI)
 have pn:((h.push { cls:=.type "tuple",data:=.seq Bh.toArray }).push { cls:=.ref C,data:=.fields #[.ref h.objs.size,.none,.none,.none,.bool false,.none] }).Ns N mN:=cn.keeps λb o e=>Heap.get?_push_of_some _ (Heap.get?_push_of_some _ e)
 have pe:((h.push { cls:=.type "tuple",data:=.seq Bh.toArray }).push { cls:=.ref C,data:=.fields #[.ref h.objs.size,.none,.none,.none,.bool false,.none] }).get? (h.objs.size+1)=some { cls:=.ref C,data:=.fields #[.ref h.objs.size,.none,.none,.none,.bool false,.none] }:=by heap_get
 have pT:=T.keeps (h':=(h.push { cls:=.type "tuple",data:=.seq Bh.toArray }).push { cls:=.ref C,data:=.fields #[.ref h.objs.size,.none,.none,.none,.bool false,.none] }) λb o e=>Heap.get?_push_of_some _ (Heap.get?_push_of_some _ e)
 have self:(Value.ref C::bm).contains (.ref C)=true:=by simp
 unfold isInstance
 repeat (first | with_reducible refine wpAny_loadPart_at pe ?_ | (with_reducible refine wpAny_isSubtype_exc pC ?_;rw [self]) | wp_step)
 show wpAny _ _ (typeLookup (.ref C) _) _ _ _;refine wpAny_typeLookup_tail pC pn pT VE.mroIs VE.init.lookup ?_;rw [ci]
 refine wpAny_holding (wpAny_bind ?_);unfold bindSpecial;refine wpAny_bind (wpAny_typeOf (T:="function") ⟨_,pf,fc⟩ ?_);rw [if_pos (by kd_p)]
 refine wpAny_pure (wpAny_bind (wpAny_mono (k _ (h.objs.size+1) ⟨λb o hb=>Heap.get?_push_of_some _ (Heap.get?_push_of_some _ hb),Heap.get?_none_of_le (U5 _),h.objs.size,pe,Heap.get?_none_of_le (P0 _),Heap.get?_push_of_some _ (Heap.get?_push_at rfl rfl)⟩) (λr s' hr=>?_) λ_ _ x=>x))
 obtain ⟨rfl,hQ⟩:=hr
 wp_walk
 exact hQ
theorem callI {Bh:List Value} {oI:Obj} {Q:Value->Shared->Prop} (cC:s.heap.get? C=some (excClassObj nm q C N bs bm hdct sn sub ab col dd k0 k1 k2 k3 k5 "ValueError.__new__")) (cn:s.heap.Ns N mN) (ci:mN "__init__"=some (.ref f)) (T:OwnTail s.heap BMV bm) (fI:s.heap.get? f=some oI) (fc:oI.cls=.type "function") (lr:Bh.length<=sizeLine)
  (k:∀ h' e,Heap.MadeExcOf s.heap h' e (.ref C) Bh->wpAny (model prog w) (A.under (.builtin "type.__call__" ⟨.ref C::Bh,[]⟩)) (call (.ref f) (.ref e::Bh)) (λr s'=>r=.none/\Q (.ref e) s') E { s with heap:=h' }):wpAny (model prog w) A (call (.ref C) Bh) Q E s:=by
 obtain ⟨h,g,d,t,os⟩:=s
 have f1:=tc_lookup
 have f2:=tc_bind (.ref C)
 have ty:(⟨h,g,d,t,os⟩:Shared).TypeIs (.ref C) "type":=⟨_,cC,rfl⟩
 refine wpAny_call (codeAny_of_tree ?_);show wpAny _ _ (callAny (.ref C) _) _ _ _
 repeat (any_goals (first | assumption | with_reducible refine wpAny_loadPart_at cC ?_ | wp_step))
 exact ⟨rfl,codeAny_call_builtin_at (Code.quiet_builtin _ (by lk)) entry_typeCall (wpAny_check_type_call_sub cC (Vi (s:=⟨h,g,d,t,os⟩) cC cn ci T fI fc lr λh' e hm=>k h' e hm))⟩
end
theorem NA {h:Heap} {tl:List Value} (T:OwnTail h BMV tl) (x:Value):refuseLoop x "__setattr__" tl=pure ():=by
 induction T with
 |base=>exact PySem.F.store_ValueError.passes x
 |own _ _ _ _ ih=>rw [refuseLoop_ref];exact ih
section
variable {prog:Program} {w:World} {A:Around} {E:Value->Shared->Prop} {s:Shared} {K:Frag} {x C:Addr} {ox:Obj} {od:Option Obj}
variable {nm q:Str} {N:Addr} {bs bm:List Value} {hdct:Bool} {sn:List Str} {sub:List Value} {ab:Bool} {col:Option Bool} {dd:Option Addr} {k0 k1 k2 k3 k5:Option Value}
theorem osaE {R:Result->Shared->Prop} {name:Str} {tk:Tok} {v:Value} (X:K.In s.heap) (I:InstAt s.heap x ox C od) (cC:s.heap.get? C=some (excClassObj nm q C N bs bm hdct sn sub ab col dd k0 k1 k2 k3 k5 "ValueError.__new__")) (T:OwnTail s.heap BMV bm) (ho:mroIn K C (.type "object")=some true) (ht:takerIn K C name=some none)
  (h:∀ b,wpAny (model prog w) A.in1 (Builtin.ObjectAttr.storeInOwnDict (.ref x) (.ref C) (.str name tk) name v b) (λfin s'=>match fin with | .done f=>R (.ok f) s' | .again c'=>c'.quiet=true/\codeAny (model prog w) A c' R s') (λe s'=>R (.error e) s') s) :
  codeAny (model prog w) A (.call (.builtin "object.__setattr__") ⟨[.ref x,.str name tk,v],[]⟩) R s:=by
 have SF:=PySem.F.store_object
 have up:Looks (model prog w) s.heap (isInstance (.ref x) (.type "object")) true:=I.type.andThen (looks_mroIn X ho)
 refine codeAny_call_builtin SF.slot.plain SF.entry (@check_slot (model prog w) _ _ s "object.__setattr__" "object" "__setattr__" (.ref x) [.str name tk,v] [] _ SF.kind SF.split up (SF.args (.ref x) (.str name tk) v) ?_)
 obtain ⟨attr,ha,hr⟩:=Option.bind_eq_some_iff.mp ht
 have take:Looks (model prog w) s.heap (Builtin.ObjectAttr.storeTaker? attr) none:=by
  cases attr with
  |none=>cases hr;exact .now
  |some a =>
   obtain ⟨b,hb,eb⟩:=W2.mp hr
   refine (looks_takesIn X hb).andThen ?_
   cases b with
   |false=>exact .now
   |true=>cases eb
 rw [osa_eq,refuse_eq]
 obtain ⟨hp,g,d,t,os⟩:=s
 refine wpAny_bind (wpAny_bind (I.type.here (wpAny_bind (wpAny_mroOf_exc cC ?_))));rw [refuseLoop_ref,NA T]
 refine wpAny_pure (wpAny_bind (I.type.here (wpAny_bind ((looks_findIn X ha).here (wpAny_bind (take.here ?_))))));exact h _
abbrev De (C:Addr) (d:Option Addr) (t:Addr):Obj:={ cls:=.ref C,dict:=d,data:=.fields #[.ref t,.none,.none,.none,.bool false,.none] }
theorem LQ {h:Heap} {t:Addr} (hx:h.get? x=some (De C none t)):InstAt h x (De C none t) C none:=⟨hx,rfl,rfl,trivial⟩
theorem UV {h:Heap} {dx t:Addr} {mA:Str->Option Value} (hx:h.get? x=some (De C (some dx) t)) (n:h.Ns1 dx mA):∃ od,InstAt h x (De C (some dx) t) C (some od)/\∀ name,lookIn name od=some (mA name):=by
 obtain ⟨od,e,l⟩:=IZ n
 exact ⟨od,⟨hx,rfl,rfl,e⟩,l⟩
structure SetE (K:Frag) (C:Addr):Prop where
 obj:mroIn K C (.type "object")=some true
 sa:findIn K (.ref C) "__setattr__"=some (some (.builtin "object.__setattr__"))
 hd:hasDictIn K C=true
variable {name:Str} {v:Value} {t:Addr} {Q:Unit->Shared->Prop}
theorem Tw (X:K.In s.heap) (cC:s.heap.get? C=some (excClassObj nm q C N bs bm hdct sn sub ab col dd k0 k1 k2 k3 k5 "ValueError.__new__")) (T:OwnTail s.heap BMV bm) (c:SetE K C) (ht:takerIn K C name=some none) (hx:s.heap.get? x=some (De C none t))
  (k:∀ h',h'.get? x=some (De C (some s.heap.objs.size) t)->h'.Ns1 s.heap.objs.size (λy=>if y=name then some v else none)->(∀ b o,b≠x->s.heap.get? b=some o->h'.get? b=some o)->Q () { s with heap:=h',toks:=s.toks+2 }):wpAny (model prog w) A (setAttr (.ref x) name v) Q E s:=by
 refine set_plain X (LQ hx) c.sa (osaE (s:={ s with toks:=s.toks+1 }) X (LQ hx) cC T c.obj ht λb=>?_)
 obtain ⟨cd,hc,hd'⟩:=any_some c.hd
 have hx1:(s.heap.push { cls:=.type "dict",data:=.dict #[] }).get? x=some (De C none t):=Heap.get?_push_of_some _ hx
 have xs:x≠s.heap.objs.size:=j1 (Heap.lt_size hx)
 refine wpAny_bind (wpAny_pure (wpAny_bind (wpAny_bind (wpAny_loadPart hx (wpAny_bind (Looks.here (s:={ s with toks:=s.toks+1 }) (looks_clsIn X hc) ?_))))))
 rw [hd']
 show wpAny _ _ (alloc _ >>= _) _ _ _
 refine wpAny_bind (wpAny_alloc' (wpAny_bind (wpAny_update' hx1 (wpAny_pure (wpAny_bind (wpAny_pure (wpAny_bind ?_)))))))
 have hgd:((s.heap.push { cls:=.type "dict",data:=.dict #[] }).update x λo=>{ o with dict:=some s.heap.objs.size }).get? s.heap.objs.size=some { cls:=.type "dict",data:=.dict #[] }:=(Heap.get?_update_ne _ _ _ _ xs.symm).trans (Heap.get?_push_at rfl rfl)
 have hnd:((s.heap.push { cls:=.type "dict",data:=.dict #[] }).update x λo=>{ o with dict:=some s.heap.objs.size }).Ns s.heap.objs.size (λ_=>none):=⟨_,#[],_,hgd,rfl,λe he=>absurd he (by simp),λ_=>rfl⟩
 refine wpAny_nsSet1 (Heap.Ns1.of_empty hnd) λh' hn hs=>?_
 obtain ⟨oD,esD,epD,hoD,hdD,hcD⟩:=hn.count (Within.cons name v Within.nil)
 refine wpAny_bind (wpAny_lookBehind hoD (by rw [hdD];exact pastItsLine_dict (C0 hcD (by rw [v0,j3,sizeLine_eq];lia))) ?_)
 refine wpAny_pure (k h' ((hs.2 x xs).trans (Heap.get?_update_self _ hx1 rfl)) hn λb o bx hb=>(hs.2 b (j1 (Heap.lt_size hb))).trans ((Heap.get?_update_ne _ _ _ _ bx).trans (Heap.get?_push_of_some _ hb)))
theorem Tv {dx:Addr} {mA:Str->Option Value} {ns:List Str} (X:K.In s.heap) (cC:s.heap.get? C=some (excClassObj nm q C N bs bm hdct sn sub ab col dd k0 k1 k2 k3 k5 "ValueError.__new__")) (T:OwnTail s.heap BMV bm) (c:SetE K C) (ht:takerIn K C name=some none) (hx:s.heap.get? x=some (De C (some dx) t)) (hn:s.heap.Ns1 dx mA) (hw:Within mA ns) (hz:ns.length<=sizeLine)
  (k:∀ h',h'.Ns1 dx (λy=>if y=name then some v else mA y)->Heap.SameBut dx s.heap h'->Q () { s with heap:=h',toks:=s.toks+2 }):wpAny (model prog w) A (setAttr (.ref x) name v) Q E s:=by
 obtain ⟨od,J,_⟩:=UV hx hn
 refine set_plain X J c.sa (osaE (s:={ s with toks:=s.toks+1 }) X J cC T c.obj ht λb=>?_)
 obtain ⟨cd,hc,hd'⟩:=any_some c.hd
 refine wpAny_bind (wpAny_pure (wpAny_bind (wpAny_bind (wpAny_loadPart hx (wpAny_bind (Looks.here (s:={ s with toks:=s.toks+1 }) (looks_clsIn X hc) ?_))))))
 rw [hd']
 refine wpAny_pure (a:=some dx) (wpAny_bind (wpAny_pure (wpAny_bind ?_)))
 refine wpAny_nsSet1 (s:={ s with toks:=s.toks+1 }) hn λh' n2 s2=>?_
 obtain ⟨oD,esD,epD,hoD,hdD,hcD⟩:=n2.count (PySem.Within.cons name v hw)
 refine wpAny_bind (wpAny_lookBehind hoD (by rw [hdD];exact pastItsLine_dict (C0 hcD (by rw [v0];lia))) ?_)
 exact wpAny_pure (k _ n2 s2)
end
end L2
namespace L2
open PySem PySem.Spec PyProof.Rows
def BM (a C:Addr) (d:Option Addr) (t:Addr):HO:=.ext λh=>h.get? a=some (De C d t)
def OB (a:Addr) (fs:List (Str×V)):HO:=.ext λh=>∃ mA,h.Ns1 a mA/\(∀ f,DK (fs.lookup f) (mA f))/\PySem.Within mA (fs.map (·.1))
theorem On {P:Program} {w:World} {H:Hp} {h:Heap} {a C t:Addr} {d:Option Addr} (e:h.get? a=some (De C d t)):Bj P w H h a (BM a C d t):=⟨e,⟨_,e⟩,λ_ _ x k=>k _ x⟩
theorem Sz {P:Program} {w:World} {H:Hp} {h:Heap} {a:Addr} {fs:List (Str×V)} {mA:Str->Option Value} (n:h.Ns1 a mA) (r:∀ f,DK (fs.lookup f) (mA f)) (wi:PySem.Within mA (fs.map (·.1))):Bj P w H h a (OB a fs) :=
 ⟨⟨mA,n,r,wi⟩,let ⟨o,_,_,e,_⟩:=n;⟨o,e⟩,λ_ _ ⟨mA,n,r,wi⟩ k=>⟨mA,n.at k,r,wi⟩⟩
structure ExcI (K:A0) (C f:Addr):Prop where
 ex:excInI K C f=true
 st:SetE K C
section
variable {X:Cx} {pins:List (Addr×Obj)} {σ:St} {H:Hp} {s:Shared} {a C fI t dx:Addr} {fs:List (Str×V)} {f:Str} {A:Around} {E:Value->Shared->Prop}
theorem setE0 {y:V} {u:Value} {Q:Unit->Shared->Prop} (I:Ax X pins σ H s) (e:H a=some (BM a C none t)) (c:ExcI X.K C fI) (n:Q4 X.K C f=some none) (ry:Ba y u)
  (h:∀ dx s',H dx=none->dx≠a->Ax X pins σ (upd (upd H a (BM a C (some dx) t)) dx (OB dx [(f,y)])) s'->Q () s'):wpAny (model X.prog X.w) A (setAttr (.ref a) f u) Q E s:=by
 obtain ⟨bm,N,nm,q,bs,hdct,sn,sub,ab,col,dd,k0,k1,k2,k3,k5,mN,cC,cn,ci,T⟩:=Gz I.kIn c.ex
 have ob:s.heap.get? a=some (De C none t):=(I.hok a _ e).1
 refine Tw I.kIn cC T c.st n ob λh' ha hn kp=>?_
 have fr:H s.heap.objs.size=none:=I.hok.fresh (P0 _)
 have ne:s.heap.objs.size≠a:=P8 (Heap.lt_size ob)
 have I1:Ax X pins σ (upd H a (BM a C (some s.heap.objs.size) t)) { s with heap:=h',toks:=s.toks+2 }:=I.write (x:=a) (e:=a) (by rw [e];exact True.intro) (.inl rfl) kp ⟨_,ha⟩ (On ha)
 have fp:Eo X pins H s.heap.objs.size:=I.fpOk (P0 _) fr
 have n0:X.s₀.heap.get? s.heap.objs.size=none:=Heap.get?_none_of_le I.sz
 refine h s.heap.objs.size _ fr ne (I1.track (a:=s.heap.objs.size) (by rw [Ah ne];exact fr) n0 fp.2.1 fp.2.2.2.2.1 fp.2.2.2.2.2 (Sz hn (λg=>?_) λg hg=>?_))
 ·show DK (W3 g [(f,y)]) (if g=f then some u else none)
  by_cases z:g=f
  ·subst z
   rw [if_pos rfl,show W3 g [(g,y)]=some y by simp [W3]]
   exact ry
  ·rw [if_neg z,show W3 g [(f,y)]=none by rw [W3,show (g == f)=false by simpa using z];rfl]
   exact True.intro
 ·by_cases z:g=f
  ·simp [z]
  ·exact absurd (show (if g=f then some u else none)=none from if_neg z) hg
theorem setE1 {y:V} {u:Value} {Q:Unit->Shared->Prop} (I:Ax X pins σ H s) (e:H a=some (BM a C (some dx) t)) (ed:H dx=some (OB dx fs)) (c:ExcI X.K C fI) (n:Q4 X.K C f=some none) (hl:fs.length<1000) (ry:Ba y u)
  (h:∀ s',Ax X pins σ (upd H dx (OB dx (AM f y fs))) s'->Q () s'):wpAny (model X.prog X.w) A (setAttr (.ref a) f u) Q E s:=by
 obtain ⟨bm,N,nm,q,bs,hdct,sn,sub,ab,col,dd,k0,k1,k2,k3,k5,mN,cC,cn,ci,T⟩:=Gz I.kIn c.ex
 have ob:s.heap.get? a=some (De C (some dx) t):=(I.hok a _ e).1
 obtain ⟨mA,hn,r,wi⟩:=(I.hok dx _ ed).1
 refine Tv I.kIn cC T c.st n ob hn wi (by rw [J0,sizeLine_eq];lia) λh' n2 sb=>h _ ?_
 have hd:∃ o,h'.get? dx=some o:=let ⟨o,_,_,e',_⟩:=n2;⟨o,e'⟩
 refine I.write (x:=dx) (e:=dx) (by rw [ed];exact True.intro) (.inl rfl) (λb q hb z=>(sb.2 b hb).trans z) hd (Sz n2 (λg=>?_) λg hg=>?_)
 ·show DK ((AM f y fs).lookup g) (if g=f then some u else mA g)
  rw [Cq]
  by_cases z:g=f
  ·rw [if_pos z,if_pos z];exact ry
  ·rw [if_neg z,if_neg z];exact r g
 ·by_cases z:g=f
  ·rw [z];exact (EZ f y fs).1
  ·refine (EZ f y fs).2 g (wi g λq=>hg ?_)
   show (if g=f then some u else mA g)=none
   rw [if_neg z];exact q
end
def sFldE (K:A0) (ta tv:TE) (f:Str):TS:=λD σ H=>tv σ H λy H1=>ta σ H1 λx H2=>∃ a C fI t,x=.ref a/\ExcI K C fI/\Q4 K C f=some none /\
  ((H2 a=some (BM a C none t)/\∀ dx,H2 dx=none->dx≠a->D.nx σ (upd (upd H2 a (BM a C (some dx) t)) dx (OB dx [(f,y)]))) \/
   ∃ dx fs,H2 a=some (BM a C (some dx) t)/\H2 dx=some (OB dx fs)/\fs.length<1000/\D.nx σ (upd H2 dx (OB dx (AM f y fs))))
theorem Ms {X:Cx} {o value:Expr} {f:Str} {pos pos':Pos} {ta tv:TE} (ha:PE X o ta) (hv:PE X value tv) (hs:swapsWith value (some (.Attribute o f pos')) pos.line X.env=pure false):PS X (.Assign [.Attribute o f pos'] value pos) (sFldE X.K ta tv f):=by
 intro pins s σ H D I h
 refine plainObj_wpAny_Assign_Attribute (pB (hv pins s σ H _ I h) λu s1 y H1 I1 ry q=>pB (ha pins s1 σ H1 _ I1 q) λov s2 x H2 I2 rx z=>?_) hs
 obtain ⟨a,C,fI,t,rfl,c,n,q2⟩:=z
 obtain rfl:ov=Value.ref a:=rx
 rcases q2 with ⟨e,q2⟩ | ⟨dx,fs,e,ed,l,q2⟩
 ·exact setE0 I2 e c n ry λdx s3 fr ne I3=>⟨σ,_,I3,q2 dx fr ne⟩
 ·exact setE1 I2 e ed c n l ry λs3 I3=>⟨σ,_,I3,q2⟩
theorem fn_at {K:A0} {h:Heap} {f:Addr} (X:K.In h) (e:S5 K (.ref f)=true):∃ o,h.get? f=some o/\o.cls=.type "function":=by
 have q:(K.lookup f).map (·.cls)=some (.type "function"):=beq_iff_eq.mp e
 obtain ⟨o,ho,hc⟩:=W2.mp q
 exact ⟨o,X _ _ ho,hc⟩
structure MkE (K:A0) (C f:Addr):Prop where
 ex:ExcI K C f
 fn:S5 K (.ref f)=true
 kp:T2 K (.ref C)=true
theorem Ax.newE {X:Cx} {pins:List (Addr×Obj)} {σ:St} {H:Hp} {s:Shared} {h':Heap} {e:Addr} {c:Value} {us:List Value} (I:Ax X pins σ H s) (hex:X.ex=[]) (mk:Heap.MadeExcOf s.heap h' e c us) {o:HO} (new:Bj X.prog X.w (upd H e o) h' e o):H e=none/\X.s₀.heap.get? e=none/\Ax X pins σ (upd H e o) { s with heap:=h' }:=by
 have nH:H e=none:=by
  cases q:H e with
  |none=>rfl
  |some u =>
   obtain ⟨o',q'⟩:=(I.hok e u q).some
   rw [mk.new] at q';cases q'
 have nX:X.s₀.heap.get? e=none:=by
  cases q:X.s₀.heap.get? e with
  |none=>rfl
  |some o =>
   obtain ⟨o',q'⟩:=I.base.there e o q (by rw [hex];simp)
   rw [mk.new] at q';cases q'
 have nL:e≠X.env.locals:=λz=>by
  obtain ⟨m,⟨o,_,_,e',_⟩,_⟩:=I.loc
  rw [<- z,mk.new] at e';cases e'
 have nC:∀ y c,X.env.cells.lookup y=some c->c≠e:=λy c q z=>by
  obtain ⟨v,o,ho,_⟩:=I.cell y c q
  rw [z,mk.new] at ho;cases ho
 have nP:∀ p∈X.pn++pins,p.1≠e:=λp hp z=>by
  have q:=(I.pin p hp).1
  rw [z,mk.new] at q;cases q
 exact ⟨nH,nX,(I.kept (t':=s.toks) mk.keeps).track nH nX nL nC nP new⟩
section
variable {X:Cx} {k:Nat} {f C:Addr} {fd:FuncData} {ps:List Str} {sp:Sp} {x:Str} {p pos:Pos} {e:Expr} {es:List Expr} {t:TA}
theorem RG {pins:List (Addr×Obj)} {σ:St} {H:Hp} {s:Shared} {Q:VK} {us:List Value} {vs:List V} (M:MkE X.K C f) (F:AS X.prog X.w X.K X.mg X.base CX0 k f fd ps sp) (hr:BZ (k+1) X.A) (hb:Ci X.K fd ps []) (hex:X.ex=[]) (I:Ax X pins σ H s) (r:AR vs us) (lr:us.length<=sizeLine)
  (h:∀ e t,H e=none->sp (.ref e::vs) (upd H e (BM e C none t)) (λv H2=>v=.non/\Q (.ref e) H2) E0):wpAny (model X.prog X.w) X.A (call (.ref C) us) (λu s'=>(∃ a,u=.ref a/\X.s₀.heap.get? a=none)/\EP X pins σ Q u s') X.xe s:=by
 obtain ⟨bm,N,nm,q,bs,hdct,sn,sub,ab,col,dd,k0,k1,k2,k3,k5,mN,cC,cn,ci,T⟩:=Gz I.kIn M.ex.ex
 obtain ⟨oI,fo,fc⟩:=fn_at I.kIn M.fn
 refine callI cC cn ci T fo fc lr λh' a mk=>?_
 obtain ⟨t,at_,_,_⟩:=mk.there
 obtain ⟨nH,nX,I2⟩:=I.newE hex mk (On (C:=C) (d:=none) (t:=t) at_)
 have hq:=h a t nH
 have r2:AR (V.ref a::(vs++[])) (Value.ref a::(us++[])):=.cons rfl (r.append .nil)
 rw [P3,P3] at r2
 have hl:(Value.ref a::us).length=ps.length:=by
  have e:=r2.length
  rw [F.len _ _ _ _ hq] at e
  exact e.symm
 have bd:=hb { s with heap:=h' } (Value.ref a::us) I2.kIn (by rw [P3];exact hl)
 rw [P3] at bd
 refine wpAny_call (codeAny_mono (F.run _ X.stack _ _ ⟨Value.ref a::us,[]⟩ (Value.ref a::us) _ _ E0 (hr.make C us []) (I2.env0.make C us []) bd r2 hq) λr s' hq'=>?_)
 cases r with
 |error e=>exact (AH (X:=X) pins σ _ _ e s' I2 hq')
 |ok fl =>
  cases fl with
  |ret u =>
   obtain ⟨v,H',I3,rv,ev,q3⟩:=I2.after hq'
   subst ev
   exact ⟨rv,⟨a,rfl,nX⟩,⟨V.ref a,H',I3,rfl,q3⟩⟩
  |next=>exact False.elim hq'
  |brk=>exact False.elim hq'
  |cont=>exact False.elim hq'
end
theorem RJ {M:Model} {A:Around} {E:Value->Shared->Prop} {s:Shared} {env:Env} {x:Sem Value} {Q:Flow->Shared->Prop} (hh:A.handled=none)
  (h:wpAny M A x (λv s1=>∃ e C d t nm q N bs bm hdct sn sub ab col dd k0 k1 k2 k3 k5,v=.ref e/\s1.heap.get? C=some (excClassObj nm q C N bs bm hdct sn sub ab col dd k0 k1 k2 k3 k5 "ValueError.__new__")/\bm.contains (.type "BaseException")=true/\s1.heap.get? e=some (De C d t)/\E (.ref e) s1) E s):wpAny M A (raiseStmt env (some x) none) Q E s:=by
 unfold raiseStmt
 refine wpAny_bind (wpAny_mono h (λv s1 z=>?_) λ_ _ x=>x)
 obtain ⟨e,C,d,t,nm,q,N,bs,bm,hdct,sn,sub,ab,col,dd,k0,k1,k2,k3,k5,rfl,cC,hb,he,hE⟩:=z
 have up:(Value.ref C::bm).contains (.type "BaseException")=true:=by rw [List.contains_cons,hb,d7]
 obtain ⟨hp,g,dr,tk,os⟩:=s1
 repeat (first | with_reducible refine wpAny_loadPart_at he ?_ | with_reducible refine wpAny_loadPart_at cC ?_ | (with_reducible refine wpAny_isSubtype_exc cC ?_;rw [up]) | wp_step)
 exact wpAny_raiseNew_none hh hE
theorem Ax.raisedE {X:Cx} {pins:List (Addr×Obj)} {σ:St} {H:Hp} {s:Shared} {a C t:Addr} {d:Option Addr} (I:Ax X pins σ H s) (hex:X.ex=[]) (ea:H a=some (BM a C d t)) (na:X.s₀.heap.get? a=none) :
  ∀ h':Heap,(f8 s.heap (a::HC X.stack)).StaysIn h'->UnB (HC X.outer) X.H₀ (Sk H a) X.s₀.heap h'/\GX X.prog X.w (Sk H a) h':=by
 intro h' st
 have kp:∀ b u,s.heap.get? b=some u->b≠a->b∉HC X.stack->h'.get? b=some u:=λb u e n hb=>st b u (PySem.W.hideAll_get _ e λz=>by
  rcases S0.mp z with z | z
  ·exact n z
  ·exact hb z)
 have nx:∀ b,b∉X.ex:=λb z=>by rw [hex] at z;cases z
 have old:∀ b o,X.s₀.heap.get? b=some o->b≠a:=λb o e z=>by rw [z,na] at e;cases e
 have tr:∀ b u,H b=some u->u≠BM a C d t->b≠a:=λb u e n z=>by
  rw [z,ea] at e
  cases e
  exact n rfl
 refine ⟨⟨λb o e n hb=>kp b o (I.base.keep b o e n hb (nx b)) (old b o e) (I.oldB e hb),λb o e n=>?_,λb o e hb=>?_,λb xs e=>?_,λb o v e=>?_,λb ps e=>?_⟩,λb u e=>?_⟩
 ·rw [Ek (old b o e)];exact I.base.free b o e n (nx b)
 ·obtain ⟨o',q⟩:=I.base.there b o e (nx b)
  exact ⟨o',kp b o' q (old b o e) (I.oldB e hb)⟩
 ·have q:=I.base.tups b xs e
  rw [Ek (tr b _ q λz=>by unfold BM at z;cases z)];exact q
 ·have q:=I.base.frzs b o v e
  rw [Ek (tr b _ q λz=>by unfold BM at z;cases z)];exact q
 ·obtain ⟨m,q⟩:=I.base.tbls b ps e
  exact ⟨m,by rw [Ek (tr b _ q λz=>by unfold BM at z;cases z)];exact q⟩
 ·have n:b≠a:=λz=>by rw [z,Vc] at e;cases e
  rw [Ek n] at e
  refine (I.hok b u e).stay (λc v hc q=>kp c v q (λz=>?_) λhs=>?_) (λc q=>?_) λc xs q=>?_
  ·rcases hc with w | w
   ·exact n (w.symm.trans z)
   ·rw [z,ea] at w;unfold BM at w;cases w
  ·have hn:=I.stkFree c hs
   rcases hc with z | z
   ·rw [z,e] at hn;cases hn
   ·rw [z] at hn;cases hn
  ·rw [Ek (tr c _ q λz=>by unfold BM at z;cases z)];exact q
  ·rw [Ek (tr c _ q λz=>by unfold BM at z;cases z)];exact q
def Du (C:Addr) (sp:Sp) (t:TA) (E:XK):TS:=λ_ σ H=>t σ H λvs H1=>vs.length<=sizeLine/\∀ e t,H1 e=none->sp (.ref e::vs) (upd H1 e (BM e C none t)) (λv H2=>v=.non/\∃ a d t,(V.ref e)=.ref a/\H2 a=some (BM a C d t)/\E (.ref C) d (Sk H2 a)) E0
theorem CN {X:Cx} {E:XK} {k:Nat} {f C:Addr} {fd:FuncData} {ps:List Str} {sp:Sp} {x:Str} {p cpos pos:Pos} {e:Expr} {es:List Expr} {t:TA} (L:MW X E) (hc:X.calm=true) (M:MkE X.K C f) (F:AS X.prog X.w X.K X.mg X.base CX0 k f fd ps sp) (hr:BZ (k+1) X.A) (hg:Gl X x) (hm:X.mg x=some (.ref C)) (hb:Ci X.K fd ps [])
  (ha:PA X (e::es) t) (hdb:(x == ("__debug__":Str))=false:=by kd_p) (he:starEach (e::es) X.env=(false,eval e X.env)::starEach es X.env:=by rfl) (hpl:(backTo cpos (starEach es X.env)).any (·.1)=false:=by rfl):PS X (.Raise (some (.Call (.Name x p) (e::es) [] cpos)) none pos) (Du C sp t E):=by
 intro pins s σ H D I h
 obtain ⟨hst,hfr,hex,hxe⟩:=L
 rw [arm_exec_Raise]
 refine wpAny_bind (wpAny_standAt (RJ (I.ok.hd hc) (wpAny_bind (wpAny_mono (wpAny_Call_Name_kw (Gy I hg hm (z5 (h₀:=X.base) I.ok.mod.kin M.kp (pL (ha cpos pins s σ H _ I h) λus s1 vs H1 I1 r ⟨lr,q⟩=>⟨I1.kIn,RG (Q:=λv H2=>∃ a d t,v=.ref a/\H2 a=some (BM a C d t)/\E (.ref C) d (Sk H2 a)) M F hr hb hex I1 r (by show us.length<=_;rw [<- r.length];exact lr) q⟩) he hpl) hdb)) (λv s1 z=>wpAny_bind (wpAny_standAt (wpAny_pure ?_))) λ_ _ q=>q))))
 obtain ⟨⟨a0,ev0,na⟩,x,H1,I1,rx,a,d,t,ev,ea,q⟩:=z
 subst ev
 obtain rfl:v=Value.ref a:=rx
 rw [show a0=a from (Value.ref.inj ev0).symm] at na
 obtain ⟨bm,N,nm,qn,bs,hdct,sn,sub,ab,col,dd,k0,k1,k2,k3,k5,mN,cC,cn,ci,T⟩:=Gz I1.kIn M.ex.ex
 have ob:s1.heap.get? a=some (De C d t):=(I1.hok a _ ea).1
 refine ⟨a,C,d,t,nm,qn,N,bs,bm,hdct,sn,sub,ab,col,dd,k0,k1,k2,k3,k5,rfl,cC,T.hasType PySem.F.excBase_ValueError.hasBase,ob,?_⟩
 rw [hxe]
 have fr:X.A.frames=some (X.env::X.outer):=by rw [I1.ok.frames,hst]
 have ff:s1.heap.FunFrames X.base (X.env::X.outer):=by rw [<- hst];exact I1.stack
 unfold leaving
 refine wpAny_bind (Sg (B:=f8 s1.heap (a::HC X.stack)) fr (PySem.W.funFrames_hide ff λenv he b hb=>N0 _ (by rw [hst];exact Q6.mpr ⟨env,he,hb⟩)) hfr ob (λb o z=>PySem.W.of_hideAll _ z) (m7 _ W0) rfl rfl rfl λh1 ⟨a1,a2,a3,a4⟩=>Il (s:={ s1 with heap:=h1 }) a1 a2 a3 λh2 ⟨b1,⟨_,_,b2⟩,b3,b4⟩=>?_)
 have s0:Gj (HC X.outer) X.s₀.heap s1.heap:=λb o e hb=>I1.base.slot b o e (I1.ok.frf b hb) hb (by rw [hex];simp)
 exact ⟨a,.ref C,d,_,Sk H1 a,rfl,I1.os,I1.bare,⟨b1,m7 _ W0,b2,b3⟩,s0.up I1.ok.funs (a4.trans b4),I1.raisedE hex ea na,q⟩
def FF (K:A0) (C:Addr):Prop:=IsExc K C\/∃ f,excInI K C f=true
theorem FF.rec {K:A0} {h:Heap} {C:Addr} (x:FF K C) (X:K.In h):∃ nid bm N nm qn bs hdct sn sub ab col dd k0 k1 k2 k3 k5,h.get? C=some (excClassObj nm qn C N bs bm hdct sn sub ab col dd k0 k1 k2 k3 k5 nid):=by
 rcases x with x | ⟨f,x⟩
 ·obtain ⟨bm,N,nm,qn,bs,hd,sn,sub,ab,col,dd,k0,k1,k2,k3,k5,_,e,_⟩:=LP X x
  exact ⟨_,bm,N,nm,qn,bs,hd,sn,sub,ab,col,dd,k0,k1,k2,k3,k5,e⟩
 ·obtain ⟨bm,N,nm,qn,bs,hd,sn,sub,ab,col,dd,k0,k1,k2,k3,k5,_,e,_⟩:=Gz X x
  exact ⟨_,bm,N,nm,qn,bs,hd,sn,sub,ab,col,dd,k0,k1,k2,k3,k5,e⟩
def DC (a C:Addr) (d:Option Addr):HO:=.ext λh=>∃ ob,h.get? a=some ob/\ob.cls=.ref C/\(i8 ob=true/\∃ vs,ob.data=.fields vs/\vs[2]?=some .none)/\ob.dict=d
theorem UX {P:Program} {w:World} {H:Hp} {h:Heap} {a C:Addr} {d:Option Addr} {ob:Obj} (e:h.get? a=some ob) (c:ob.cls=.ref C) (n:i8 ob=true/\∃ vs,ob.data=.fields vs/\vs[2]?=some .none) (x:ob.dict=d):Bj P w H h a (DC a C d) :=
 ⟨⟨ob,e,c,n,x⟩,⟨ob,e⟩,λ_ _ ⟨ob,e,c,n,x⟩ k=>⟨ob,k _ e,c,n,x⟩⟩
theorem UW {P:Program} {w:World} {H:Hp} {h:Heap} {a C dx:Addr} {fs:List (Str×V)} (I:GX P w H h) (e:H a=some (DC a C (some dx))) (e2:H dx=some (OB dx fs)):∃ (ob od:Obj) (mA:Str->Option Value),PySem.W.InstAt h a ob C (some od)/\(∀ f,DK (fs.lookup f) (mA f))/\∀ name,z6 name od=some (mA name):=by
 obtain ⟨ob,at_,c,n,x⟩:=(I a _ e).1
 obtain ⟨mA,hn,r,_⟩:=(I dx _ e2).1
 obtain ⟨od,q,l⟩:=IZ hn
 exact ⟨ob,od,mA,⟨at_,c,n.1,by rw [x];exact q⟩,r,l⟩
section
variable {X:Cx}
def tFldX (K:A0) (ta:TE) (f:Str):TE:=λσ H Q=>ta σ H λx H1=>∃ a C dx fs v,x=.ref a/\H1 a=some (DC a C (some dx))/\H1 dx=some (OB dx fs)/\Ji K C/\T4 K C=true/\G0 K (.ref C) f=some none/\fs.lookup f=some v/\Q v H1
theorem pe_fldX {e:Expr} {f:Str} {pos:Pos} {ta:TE} (he:PE X e ta) (hb:attributeBase e f X.env (eval e X.env)=eval e X.env):PE X (.Attribute e f pos) (tFldX X.K ta f):=by
 intro pins s σ H Q I h
 refine Ra hb (pB (he pins s σ H _ I h) λu s1 x H1 I1 rx z=>?_)
 obtain ⟨a,C,dx,fs,v,rfl,ea,ed,c,hh,hf,l,q⟩:=z
 obtain rfl:u=Value.ref a:=rx
 obtain ⟨ob,od,mA,J,r,lk⟩:=UW I1.hok ea ed
 obtain ⟨u,hu,ru⟩:=DK.some_of (v:=v) (o:=mA f) (by rw [<- l];exact r f)
 refine exc_fld I1.kIn J c (PySem.W.findObj_own hh hf rfl (by rw [lk,hu])) ?_ ⟨v,H1,I1.tok _,ru,q⟩
 exact PySem.W.handedOut_of (LJ ru)
end
section
variable {P:Program} {w:World} {K:A0} {mg:Str->Option Value} {base:Heap}
end
section
variable {X:Cx}
end
theorem bt_min:bootBuiltins "min"=some (.builtin "min"):=by lk
theorem ES {X:Cx} {K:A0} {e:Expr} {f:Str} {pos:Pos} {ta:TE} (hK:X.K=K) (he:PE X e ta) (hb:attributeBase e f X.env (eval e X.env)=eval e X.env):PE X (.Attribute e f pos) (tFldX K ta f):=by subst hK;exact pe_fldX he hb
theorem nsOk_of {K:A0} {N:Addr} {c:Value} {dd:Option Addr} {es:Array DictEntry} {n:Nat} {sl:Array (Option Value)} (h:K.lookup N=some ⟨c,dd,.dict es n,sl⟩) (ha:es.toList.all (λe=>match e.key with | .str _ _=>true | _=>false)=true):PySem.W.nsOkIn K N=true:=by
 unfold PySem.W.nsOkIn
 rw [h]
 show es.all _=true
 rw [<- Array.all_toList]
 exact ha
theorem excInI_of {K:A0} {C W f N:Addr} {dd dW:Option Addr} {cd cW:ClassData} {sl sW:Array (Option Value)} {oW cN:Value} {bm:List Value} {k0 k1 k2 k3 k5:Option Value} {dN:Option Addr} {es:Array DictEntry} {n:Nat} {sN:Array (Option Value)} {nid:String}
  (hl:K.lookup C=some ⟨.type "type",dd,.cls cd,sl⟩) (hm:cd.mro=.ref C::.ref W::bm) (hs:sl.toList=[k0,k1,k2,k3,some (.builtin "ValueError.__new__"),k5]) (hd:cd.hasDel=false)
  (hW:K.lookup W=some ⟨oW,dW,.cls cW,sW⟩) (hWm:cW.mro=.ref W::bm) (hx:N6 K W BMV nid=true) (hN:cd.ns=N) (hNl:K.lookup N=some ⟨cN,dN,.dict es n,sN⟩) (ha:es.toList.all (λe=>match e.key with | .str _ _=>true | _=>false)=true)
  (hi:A1 K N "__init__"=some (some (.ref f))):excInI K C f=true:=by
 subst hN
 have ho:=nsOk_of hNl ha
 have ht:PySem.W.tailIn K BMV (.ref W::bm)=true:=by
  unfold N6 at hx
  rw [hW] at hx
  split at hx
  ·rename_i q
   cases q
   rw [hWm] at hx
   split at hx
   ·rename_i q _
    cases q
    simp only [W1] at hx
    unfold PySem.W.tailIn
    simp only [hW,hx.1.2,hx.2,hx.1.1.2,Bool.and_self,d7]
   ·cases hx
  ·cases hx
 exact @decide_eq_true _ (Classical.propDecidable _) ⟨dd,cd,sl,_,k0,k1,k2,k3,k5,hl,hm,hs,hd,ht,ho,hi⟩
section
variable {prog:Program} {w:World} {A:Around} {E:Value->Shared->Prop} {s:Shared}
end
section
variable {X:Cx} {pins:List (Addr×Obj)} {σ:St} {H:Hp} {s:Shared}
end
structure Vn (K:A0) (mg:Str->Option Value) (x:Str) (C:Addr):Prop where
 at_:mg x=some (.ref C)
 ex:FF K C
theorem FF.base {K:A0} {h:Heap} {C:Addr} (x:FF K C) (X:K.In h):∃ nid bm N nm qn bs hdct sn sub ab col dd k0 k1 k2 k3 k5,h.get? C=some (excClassObj nm qn C N bs bm hdct sn sub ab col dd k0 k1 k2 k3 k5 nid)/\bm.contains (.type "BaseException")=true:=by
 rcases x with x | ⟨f,x⟩
 ·obtain ⟨bm,N,nm,qn,bs,hd,sn,sub,ab,col,dd,k0,k1,k2,k3,k5,_,e,_,_,T⟩:=LP X x
  exact ⟨_,bm,N,nm,qn,bs,hd,sn,sub,ab,col,dd,k0,k1,k2,k3,k5,e,T.hasType PySem.F.excBase_ValueError.hasBase⟩
 ·obtain ⟨bm,N,nm,qn,bs,hd,sn,sub,ab,col,dd,k0,k1,k2,k3,k5,_,e,_,_,T⟩:=Gz X x
  exact ⟨_,bm,N,nm,qn,bs,hd,sn,sub,ab,col,dd,k0,k1,k2,k3,k5,e,T.hasType PySem.F.excBase_ValueError.hasBase⟩
structure Vt (X:Cx) (a:Addr) (C:Value) (d:Option Addr) (σ:St) (H:Hp) (s:Shared):Prop where
 fly:∃ B h0:Heap,HA B X.stack a C d s.heap/\(∀ h6:Heap,B.StaysIn h6->Gj (HC X.stack) h0 h6->Ax X [] σ H { s with heap:=h6 })/\Gj (HC X.stack) h0 s.heap/\h0.FunFrames X.base X.stack
 nH:H a=none
 nX:X.s₀.heap.get? a=none
 nL:a≠X.env.locals
 nC:∀ y c,X.env.cells.lookup y=some c->c≠a
abbrev TH:=FE->St->XK
def PHs (X:Cx) (hs:List ExceptHandler) (th:TH):Prop:=∀ (a:Addr) (C:Value) (d:Option Addr) (σ:St) (H:Hp) (s:Shared) (D0:FE),(∀ σ H,¬ D0.bk σ H)->(∀ σ H,¬ D0.ct σ H)->Vt X a C d σ H s->th D0 σ C d H ->
 wpAny (model X.prog X.w) X.A (handleBy (.ref a) X.env hs) (SP X [] D0) X.xe s
theorem TU {X:Cx}:PHs X [] (λ_ _ _ _ _=>False):=λ_ _ _ _ _ _ _ _ _ _ h=>h.elim
def tHAs (K:A0) (D:Addr) (len i:Nat) (ts:Addr->TS) (r:TH):TH:=λD0 σ C d H=>∃ Ca,C=.ref Ca/\FF K Ca /\
 ((K4 K Ca (.ref D)=some true/\∀ a,H a=none->ts a { nx:=λ_ H=>D0.nx (A7 len none) H,rt:=D0.rt } (σ.set i (some (.ref a))) (upd H a (DC a Ca d)))\/(K4 K Ca (.ref D)=some false/\r D0 σ C d H))
section
variable {X:Cx}
theorem Vt.test {a D Ca:Addr} {d:Option Addr} {σ:St} {H:Hp} {s:Shared} {x:Str} {np:Pos} {A:Around} {E:Value->Shared->Prop} {R:Bool->Shared->Prop} {b:Bool} (c:Vt X a (.ref Ca) d σ H s) (hg:Gl X x) (O:Vn X.K X.mg x D) (xC:FF X.K Ca) (up:K4 X.K Ca (.ref D)=some b) (hd:(x == ("__debug__":Str))=false) (k:R b s) :
  wpAny (model X.prog X.w) A (eval (.Name x np) X.env) (λc s₁=>wpAny (model X.prog X.w) A (excMatches (.ref a) c) R E s₁) E s:=by
 obtain ⟨B,h0,fly,inv,sl,ff⟩:=c.fly
 have I:Ax X [] σ H s:=inv s.heap fly.1 sl
 obtain ⟨ob,vs,hob,hobc,_,_⟩:=fly.there
 obtain ⟨nidD,bmD,ND,nmD,qnD,bsD,hdD,snD,subD,abD,colD,ddD,a0,a1,a2,a3,a5,atD,TD⟩:=O.ex.base I.kIn
 obtain ⟨nidC,bmC,NC,nmC,qnC,bsC,hdC,snC,subC,abC,colC,ddC,e0,e1,e2,e3,e5,atC⟩:=xC.rec I.kIn
 refine Calls.Name_function_global I.ok.kind hg (Calls.loadGlobal_global (by rw [I.ok.glob];exact I.mod.glob.keeps I.bk) O.at_ ?_) hd
 refine Om (C:=Ca) (D:=D) (ups:=bmC) (downs:=bmD) ⟨nmC,qnC,NC,bsC,hdC,snC,subC,abC,colC,ddC,e0,e1,e2,e3,e5,_,atC⟩ ⟨nmD,qnD,ND,bsD,hdD,snD,subD,abD,colD,ddD,a0,a1,a2,a3,a5,_,atD⟩ hob hobc TD ?_
 rw [mro_is I.kIn atC up]
 exact k
theorem QD {x n:Str} {D:Addr} {i:Nat} {np hp:Pos} {b0:Stmt} {suite:List Stmt} {Bh:List ExceptHandler} {ts:Addr->TS} {r:TH} (hpn:X.pn=[]) (hg:Gl X x) (O:Vn X.K X.mg x D) (hN:X.N.Nodup) (hi:X.N[i]?=some n) (hl:X.env.scope.names.lookup n=some .local)
  (hs:∀ a,KI (X.with (X.A.mark (some (.ref a))) false (λ_ _=>False)) (b0::suite) (ts a)) (hr:PHs X Bh r) (hd:(x == ("__debug__":Str))=false:=by kd_p):PHs X (.ExceptHandler (some (.Name x np)) (some n) (b0::suite) hp::Bh) (tHAs X.K D X.N.length i ts r):=by
 intro a C d σ H s D0 b1 c1 c h
 obtain ⟨Ca,rfl,xC,h⟩:=h
 refine wpAny_handleBy_cons (codeAny_handlers_test ?_) (by intro q;cases q)
 rcases h with ⟨up,hts⟩ | ⟨up,h⟩
 ·refine c.test hg O xC up hd ?_
  obtain ⟨B,h0,fly,inv,sl,ff⟩:=c.fly
  have I5:Ax X [] σ H s:=inv s.heap fly.1 sl
  refine codeAny_handlers_suite_as (fly.again λh6 fly6 u6=>?_)
  have I6:=inv h6 fly6.1 (sl.up ff u6)
  obtain ⟨ob6,vs6,hob6,hobc6,hobx6,hobd6,hobn6⟩:=fly6.there2
  have J6:Ax X [] σ (upd H a (DC a Ca d)) { s with heap:=h6 }:=I6.track c.nH c.nX c.nL c.nC (λp hp=>by rw [hpn] at hp;cases hp) (UX hob6 hobc6 ⟨by unfold i8;rw [hobd6],_,hobd6,hobn6⟩ hobx6)
  refine JU J6 hN hi (.inl hl) (v:=.ref a) rfl (λs7 I7=>?_) (.inr hl)
  refine wpAny_mono (hs a [] s7 _ _ _ (I7.with (λz=>nomatch z) rfl) (hts a c.nH)) (λf s8 q=>?_) (λ_ _ z=>z.elim)
  have kd:(X.env.scope.kind == .class||(X.env.scope.kind == .module&&X.env.locals != X.env.globals))=false:=by rw [I5.ok.kind];rfl
  cases f with
  |next =>
   obtain ⟨σ',H',I8,q⟩:=q
   have I8:=I8.back I7
   obtain ⟨m,hm,_⟩:=I8.loc
   exact wpAny_nameGoes hl hm kd λh9 m9 hn9 hs9=>⟨_,H',I8.forgotten hn9 hs9,q⟩
  |brk=>obtain ⟨_,_,_,q⟩:=q;exact q.elim
  |cont=>obtain ⟨_,_,_,q⟩:=q;exact q.elim
  |ret u =>
   obtain ⟨v,σ',H',I8,r,q⟩:=q
   have I8:=I8.back I7
   obtain ⟨m,hm,_⟩:=I8.loc
   exact wpAny_nameGoes hl hm kd λh9 m9 hn9 hs9=>⟨v,_,H',I8.forgotten hn9 hs9,r,q⟩
 ·exact c.test hg O xC up hd (hr a _ d σ H s D0 b1 c1 c h)
theorem try_M {tb:List Stmt} {hd0:ExceptHandler} {hds:List ExceptHandler} {pos:Pos} {t:TS} {th:TH} {D0:FE} {σ:St} {H:Hp} {s:Shared} (hst:X.stack=X.env::X.outer) (hfr:X.env.frame=some X.env.locals) (hex:X.ex=[]) (b1:∀ σ H,¬ D0.bk σ H) (c1:∀ σ H,¬ D0.ct σ H)
  (hb:KI (X.wish (PY X (th D0))) tb t) (hh:PHs X (hd0::hds) th) (ht:t D0 σ H) (I:Ax X [] σ H s):wpAny (model X.prog X.w) X.A (exec (.Try tb (hd0::hds) [] [] pos) X.env) (SP X [] D0) X.xe s:=by
 refine wpAny_Try_except (wpAny_mono (hb [] s σ H _ (I.wish _) ht) (λf s1 q=>?_) λe s1 q=>?_)
 ·have q':=SP.unwish q
  cases f with
  |next=>exact wpAny_execs_nil q'
  |brk=>exact q'
  |cont=>exact q'
  |ret u=>exact q'
 ·obtain ⟨σ1,H1,s0,I0,a,C,d,B,H2,rfl,os,bare,fly,sl,kp,hth⟩:=q
  have fr:X.A.frames=some (X.env::X.outer):=by rw [I0.ok.frames,hst]
  have ff:s0.heap.FunFrames X.base X.stack:=I0.stack
  rw [hst] at fly
  refine fly.comes fr hfr λh5 fly5 u5=>?_
  have inv:∀ h6:Heap,B.StaysIn h6->Gj (HC X.stack) s0.heap h6->Ax X [] σ1 H2 { s1 with heap:=h6 }:=λh6 b6 s6=>by
   obtain ⟨un,hok⟩:=kp h6 b6
   exact I0.call' (s':={ s1 with heap:=h6 }) (ch:=[]) os (un.un s6) hok bare (λb hb=>by cases hb)
  have sl5:Gj (HC X.stack) s0.heap h5:=sl.up ff u5
  obtain ⟨ob,vs5,hob,hobc,_,hobd⟩:=fly5.there
  have nB:B.get? a=none:=fly5.2.1
  have n0:s0.heap.get? a=none:=by
   cases q:s0.heap.get? a with
   |none=>rfl
   |some o =>
    by_cases hb:a∈HC X.stack
    ·obtain ⟨_,o',ho',hnf⟩:=ff.mem hb
     rw [q] at ho';cases ho'
     obtain ⟨sl',q'⟩:=sl5 a _ q hb
     rw [hob] at q';cases q'
     exact absurd hobd (hnf _)
    ·obtain ⟨o',q'⟩:=(kp B (λ_ _ e=>e)).1.there a o q hb
     rw [nB] at q';cases q'
  refine hh a C d σ1 H2 { s1 with heap:=h5 } D0 b1 c1 ⟨⟨B,s0.heap,by rw [hst];exact fly5,inv,sl5,ff⟩,?_,?_,λz=>?_,λy c e z=>?_⟩ hth
  ·cases q:H2 a with
   |none=>rfl
   |some u =>
    obtain ⟨o',q'⟩:=((kp B (λ_ _ e=>e)).2 a u q).some
    rw [nB] at q';cases q'
  ·cases q:X.s₀.heap.get? a with
   |none=>rfl
   |some o =>
    obtain ⟨o',q'⟩:=I0.base.there a o q (by rw [hex];simp)
    rw [n0] at q';cases q'
  ·obtain ⟨m,⟨o,_,_,e,_⟩,_⟩:=I0.loc
   rw [<- z,n0] at e;cases e
  ·obtain ⟨v,o,ho,_⟩:=I0.cell y c e
   rw [z,n0] at ho;cases ho
end
section
variable {P:Program} {w:World} {K:A0} {mg:Str->Option Value} {base:Heap}
theorem Sx.okM {x qual:Str} {st:Stmt} {f:Addr} {fd:FuncData} {N ps:List Str} {k:Nat} {sp:Sp} {tb Bh:List Stmt} {hd0:ExceptHandler} {hds:List ExceptHandler} {pos:Pos} (F:Sx K x qual st f fd) (S:DX N ps (At st))
  (hb:AT st=.Try tb (hd0::hds) [] [] pos::Bh) (len:∀ vs H Q E,sp vs H Q E->vs.length=ps.length)
  (hbody:∀ (cdv:Value) (A:Around) (outer:List Env) (s:Shared) (H:Hp) (vs:List V) (Q:VK) (E:XK),BZ k (A.deeper (envOfC qual (At st) s.heap.objs.size f cdv))->sp vs H Q E ->
   ∃ (t:(St->XK)->TS) (th:TH) (tr:TS),(∀ E',KI ((Ff CX0 P w K mg base N qual (At st) f cdv A outer s H E).wish (PY (Ff CX0 P w K mg base N qual (At st) f cdv A outer s H E) E')) tb (t E')) /\
    PHs (Ff CX0 P w K mg base N qual (At st) f cdv A outer s H E) (hd0::hds) th/\KI (Ff CX0 P w K mg base N qual (At st) f cdv A outer s H E).nox Bh tr /\
    t (th { nx:=λσ' H'=>tr { nx:=λ_ H'=>Q .non H',rt:=Q } σ' H',rt:=Q }) { nx:=λσ' H'=>tr { nx:=λ_ H'=>Q .non H',rt:=Q } σ' H',rt:=Q } (start N vs) H):AS P w K mg base CX0 (k+1) f fd ps sp:=by
 obtain ⟨oc,od,kV,doc,pm,an,cdv,ct,osl,rfl,lk,hcd⟩:=F.ex
 refine fn_ofW lk hcd S len λA outer s H vs Q E hr hsp s1 I=>?_
 obtain ⟨t,th,tr,h1,h2,h3,q⟩:=hbody cdv A outer s H vs Q E hr hsp
 rw [hb]
 refine wpAny_execs_cons (Bl (try_M (X:=Ff CX0 P w K mg base N qual (At st) f cdv A outer s H E) (D0:={ nx:=λσ' H'=>tr { nx:=λ_ H'=>Q .non H',rt:=Q } σ' H',rt:=Q }) rfl rfl rfl (λ_ _ z=>z) (λ_ _ z=>z) (h1 _) h2 q I) λfl s2 z=>?_)
 cases fl with
 |next =>
  obtain ⟨σ',H',I',z⟩:=z
  exact h3.nox [] s2 σ' H' _ I' z
 |ret v=>exact z
 |brk=>obtain ⟨_,_,_,z⟩:=z;exact z.elim
 |cont=>obtain ⟨_,_,_,z⟩:=z;exact z.elim
end
open AutoSeq1 (wpAny_loadPart')
theorem Pn (l:Addr) (items:Array Value) (n:Nat) (dct:Option Addr) (sl:Array (Option Value)) :
  Meets (Builtin.«enumerate.__new__» ⟨[.type "enumerate",.ref l],[]⟩) (λ_ R s=>s.heap.get? l=some { cls:=.type "tuple",dict:=dct,data:=.seq items n,slots:=sl } /\
   R (.ok (.ret (.ref (s.heap.push { cls:=.type "tuple_iterator",data:=.fields #[.ref l,.int 0 0] }).objs.size)))
    { s with heap:=(s.heap.push { cls:=.type "tuple_iterator",data:=.fields #[.ref l,.int 0 0] }).push { cls:=.type "enumerate",data:=.fields #[.none,.bool false,.ref s.heap.objs.size,rawInt 0,.none,.none] } }) :=
 .of_wp λprog w A R s h=>by
  obtain ⟨hp,g,d,tk,os⟩:=s;obtain ⟨hl,h⟩:=h
  have hsub:=sub_enumerate
  have hL:Heap.IsTuple (Shared.heap ⟨hp,g,d,tk,os⟩) l items:=⟨_,hl,rfl,n,rfl⟩
  wp_walk using wpAny_loadPart' hl
  refine wpAny_stack_any λst=>pQ λb=>?_
  cases b<;>(wp_walk using wpAny_pyIter_tuple hL,wpAny_loadPart' hl;exact ⟨_,rfl,h⟩)
theorem PM {prog:Program} {w:World} {A:Around} {E:Value->Shared->Prop} {s:Shared} {l:Addr} {items:Array Value} {Q:Value->Shared->Prop} (hL:s.heap.IsTuple l items)
  (h:∀ h',IsEnum h' (s.heap.objs.size+1) s.heap.objs.size 0 .none->h'.IsTupleIter s.heap.objs.size l 0->(∀ b o,s.heap.get? b=some o->h'.get? b=some o)->Q (.ref (s.heap.objs.size+1)) { s with heap:=h' }) :
  wpAny (model prog w) A (call (.type "enumerate") [.ref l]) Q E s:=by
 obtain ⟨⟨c,dct,dt,sl⟩,hl,hc,n,hd⟩:=hL
 cases (show c=.type "tuple" from hc)
 cases (show dt=.seq items n from hd)
 have m:=Pn l items n dct sl
 refine callType_new F.called_enumerate (by kd_p) (F.typeCall_enumerate_1 _) (F.newCall_enumerate_1 _) (λo=>F.args_object_init_2 o _) F.entry_enumerate_new m ⟨hl,?_⟩
 obtain ⟨it,hi⟩:∃ it:Obj,it={ cls:=.type "tuple_iterator",data:=.fields #[.ref l,.int 0 0] }:=⟨_,rfl⟩
 have z:(s.heap.push it).objs.size=s.heap.objs.size+1:=Heap.size_push ..
 rw [<- hi]
 have he:IsEnum ((s.heap.push it).push { cls:=.type "enumerate",data:=.fields #[.none,.bool false,.ref s.heap.objs.size,rawInt 0,.none,.none] }) (s.heap.objs.size+1) s.heap.objs.size 0 .none:=by
  rw [<- z]
  exact Heap.get?_push_size _ rfl
 show _/\_
 rw [z]
 refine ⟨⟨_,he,rfl⟩,h _ he ⟨it,Heap.get?_push_of_some _ (Heap.get?_push_size _ (by rw [hi];rfl)),by rw [hi],by rw [hi];rfl⟩ λb o q=>Heap.get?_push_of_some _ (Heap.get?_push_of_some _ q)⟩
def Vo (K:A0) (a:Addr):It :=
 ⟨λi H=>∃ xs x,Bc K H a xs/\xs[i]?=some x,λi H v H'=>∃ p x,v=.ref p/\H p=none/\H'=upd H p (.tup [.int (i:Nat),x])/\∀ xs,Bc K H a xs->xs[i]?=some x,λi H=>∃ xs,Bc K H a xs/\xs.length=i⟩
theorem OI {P:Program} {w:World} {K:A0} {es:List Expr} {x1} {pos:Pos} (a e it:Addr) (hne:e≠it):KH P w K (.Tuple es x1 pos) (Vo K a) [e,it] e (λi h=>(∃ old,IsEnum h e it (i:Nat) old)/\h.IsTupleIter it a i) where
 mem:=by simp
 obj:=λi h st b hb=>by
  obtain ⟨⟨old,he⟩,hit⟩:=st
  rcases S0.mp hb with rfl | hb
  ·exact ⟨_,he,λv z=>nomatch z⟩
  ·cases C1.mp hb
   obtain ⟨o,q,_,d⟩:=hit
   exact ⟨o,q,λv z=>by rw [d] at z;cases z⟩
 keep:=λi h h' st k=>by
  obtain ⟨⟨old,he⟩,hit⟩:=st
  exact ⟨⟨old,k e (by simp) _ he⟩,hit.at λo q=>k it (by simp) o q⟩
 item:=by
  intro X hP hw hK hc i pins s σ H E I hf st hg
  subst hP hw hK
  obtain ⟨xs,x,hq,hx⟩:=hg
  obtain ⟨its,rv,p,hz⟩:=I.tuple hq
  obtain ⟨u,hu,ru⟩:=rv.get hx
  obtain ⟨⟨old,he⟩,hit⟩:=st
  have le:=Heap.lt_size he
  have li:it<s.heap.objs.size:=by obtain ⟨_,q,_⟩:=hit;exact Heap.lt_size q
  have nl:a≠it:=by
   obtain ⟨_,q1,c1,_⟩:=hit
   obtain ⟨_,q2,c2,_⟩:=(show s.heap.IsTuple a its.toArray from p)
   exact Df q2 q1 (by rw [c1,c2];decide)
  have nle:a≠e:=by
   obtain ⟨_,q2,c2,_⟩:=(show s.heap.IsTuple a its.toArray from p)
   exact Df q2 he (by rw [c2];show Value.type "tuple"≠Value.type "enumerate";decide)
  have D:=drT (pg:=X.prog) (wd:=X.w) (Ar:=X.A.in1) (I.ok.hd hc) it a nl its.toArray
  have lt:i<its.toArray.size:=by
   have:=(Q1.mp hu).1
   simpa using this
  refine wpAny_pyNext_enum_itemD D (i:=i) he ⟨hit,(show s.heap.IsTuple a its.toArray from p)⟩ (by lia) hne (by simp only [S0,A2,or_false,not_or];exact ⟨hne,Ne.symm nle⟩) λv h' tk pv ho hs hT hsz hk=>?_
  have hv:=pv
  obtain rfl:u=v:=by
   have:its.toArray[i]?=some u:=by simpa using hu
   rw [this] at hv
   exact V3.inj hv
  obtain ⟨hit',_⟩:=hs
  refine ⟨_,rfl,wpAny_letOwnedTupleGo_enum ho λh'' he'' hs''=>?_⟩
  have hfr:H s.heap.objs.size=none:=I.hok.fresh (P0 _)
  have I1:Ax X pins σ (upd H s.heap.objs.size (.tup [.int (i:Nat),x])) { s with heap:=s.heap.push { cls:=.type "tuple",data:=.seq #[.int (i:Nat) tk,u] },toks:=s.toks } :=
   I.laid (t':=s.toks) (λb v q=>Heap.get?_push_of_some _ q) (P0 _) ⟨show 2<=sizeLine by kd_p,[.int (i:Nat) tk,u],.cons ⟨_,rfl⟩ (.cons ru .nil),⟨_,Heap.get?_push_size _ rfl,rfl,_,rfl⟩⟩
  have up:∀ b∈[e,it],Eo X pins (upd H s.heap.objs.size (.tup [.int (i:Nat),x])) b:=λb hb=>by
   have hlt:b<s.heap.objs.size:=by
    rcases S0.mp hb with rfl | hb
    ·exact le
    ·cases C1.mp hb;exact li
   exact ⟨by rw [Ah (j1 hlt)];exact (hf b hb).1,(hf b hb).2⟩
  have I2:Ax X pins σ (upd H s.heap.objs.size (.tup [.int (i:Nat),x])) { s with heap:=h'',toks:=tk+1 } :=
   Ax.turnedN (s:={ s with heap:=s.heap.push { cls:=.type "tuple",data:=.seq #[.int (i:Nat) tk,u] },toks:=s.toks }) (h':=h'') (t':=tk+1) (ch:=[e,it]) I1 (λb o hb q=>by
    simp only [S0,A2,or_false,not_or] at hb
    rw [hs''.2 b hb.1]
    by_cases z:b=s.heap.objs.size
    ·subst z
     rw [Heap.get?_push_size _ rfl] at q
     cases q
     exact hT
    ·refine hk b o hb.1 hb.2 ?_
     rw [<- q]
     exact (Heap.get?_push_ne _ _ _ z).symm) up
  exact ⟨.ref s.heap.objs.size,_,I2,rfl,⟨_,x,rfl,hfr,rfl,λys hy=>by rw [I.tuple_inj hy hq];exact hx⟩,⟨⟨_,by simpa using he''⟩,hit'.at λo q=>(hs''.2 it hne.symm).trans q⟩,λb hb=>(up b hb).1⟩
 done:=by
  intro X hP hw hK hc i pins s σ H E I hf st hg
  subst hP hw hK
  obtain ⟨xs,hq,hx⟩:=hg
  obtain ⟨its,rv,p,hz⟩:=I.tuple hq
  obtain ⟨⟨old,he⟩,hit⟩:=st
  have hl:=rv.length
  have nl:a≠it:=by
   obtain ⟨_,q1,c1,_⟩:=hit
   obtain ⟨_,q2,c2,_⟩:=(show s.heap.IsTuple a its.toArray from p)
   exact Df q2 q1 (by rw [c1,c2];decide)
  have D:=drT (pg:=X.prog) (wd:=X.w) (Ar:=X.A.in1) (I.ok.hd hc) it a nl its.toArray
  have e1:its.toArray.size=i:=by simp;lia
  exact wpAny_pyNext_enum_endD D he (by rw [e1];exact ⟨hit,(show s.heap.IsTuple a its.toArray from p)⟩) λh' eb=>⟨rfl,Ax.turnedN (t':=s.toks) (ch:=[e,it]) I (λb o hb q=>eb b o (λz=>hb (by simp [z])) q) hf⟩
 self:=λ_ _ _ _ _ st h=>let ⟨_,he⟩:=st.1;wpAny_pyIter_enum he h
def UE (K:A0) (ta:TA):TI:=λσ H R=>ta σ H λvs H1=>∃ a:Addr,vs=[.ref a]/\(∃ xs,Bc K H1 a xs)/\R (Vo K a) H1
theorem NF {X:Cx} {es:List Expr} {x1} {tpos:Pos} {a:Expr} {ta:TA} {p pos:Pos} (hg:Gl X "enumerate") (hm:X.mg "enumerate"=none) (ha:PA X [a] ta) (hs:starEach [a] X.env=[(false,eval a X.env)]:=by rfl):PI X (.Tuple es x1 tpos) (.Call (.Name "enumerate" p) [a] [] pos) (UE X.K ta):=by
 intro pins s σ H R I h
 refine Call_ (Gc I hg hm FD (T5 (pL (ha pos pins s σ H _ I h) λus s1 vs H1 I1 r1 q1=>?_) hs rfl))
 obtain ⟨l,q0,⟨xs,hq⟩,q⟩:=q1
 subst q0
 cases r1 with
 |cons r rr =>
  cases rr
  cases r
  obtain ⟨its,rv,pl,hz⟩:=I1.tuple hq
  refine PM (show s1.heap.IsTuple l its.toArray from pl) λh' he hit hk=>wpAny_pyIter_enum he ?_
  refine ⟨s1.heap.objs.size+1,[s1.heap.objs.size+1,s1.heap.objs.size],_,_,H1,rfl,I1.kept (t':=s1.toks) hk,OI l _ _ (W8 _),⟨⟨_,he⟩,hit⟩,λb hb=>?_,q⟩
  rcases S0.mp hb with rfl | hb
  ·exact I1.fpOk (by lia) (I1.hok.fresh (by lia))
  ·cases C1.mp hb
   exact I1.fpOk (P0 _) (I1.hok.fresh (P0 _))
theorem LL {K:A0} {a:Addr} {xs:List V} {g:TG} {tb:TS} {D:FE} {σ:St} {H:Hp} (Pv:Nat->St->Hp->Prop) (h0:Pv 0 σ H) (hl:∀ i σ H,i<=xs.length->Pv i σ H->Bc K H a xs)
  (hs:∀ i x p σ H,xs[i]?=some x->Pv i σ H->H p=none->g (.ref p) σ (upd H p (.tup [.int (i:Nat),x])) λσ2 H2=>tb { D with nx:=Pv (i+1),ct:=Pv (i+1),bk:=D.nx } σ2 H2) (hd:∀ σ H,Pv xs.length σ H->D.nx σ H) :
  ∃ W:Nat->Nat->St->Hp->Prop,(∃ m,W 0 m σ H)/\∀ i m σ H,W i m σ H ->
   ((Vo K a).stop i H/\D.nx σ H)\/((Vo K a).go i H/\∃ N:St->Hp->Prop,(∀ σ' H',N σ' H'->∃ m',m'<m/\W (i+1) m' σ' H')/\∀ x H',(Vo K a).yld i H x H'->g x σ H' λσ2 H2=>tb { D with nx:=N,ct:=N,bk:=D.nx } σ2 H2):=by
 refine ⟨λi m σ H=>m=xs.length-i/\i<=xs.length/\Pv i σ H,⟨xs.length,by simp,N1 _,h0⟩,?_⟩
 rintro i m σ H ⟨rfl,hi,p⟩
 have q:=hl i σ H hi p
 by_cases lt:i<xs.length
 ·refine .inr ⟨⟨xs,xs[i],q,by simp [lt]⟩,Pv (i+1),λσ' H' p'=>⟨xs.length-(i+1),by lia,rfl,lt,p'⟩,λv H' y=>?_⟩
  obtain ⟨b,x,rfl,hb,rfl,hx⟩:=y
  exact hs i x b σ H (hx xs q) p hb
 ·have z:xs.length=i:=by lia
  subst z
  exact .inl ⟨⟨xs,q,rfl⟩,hd σ H p⟩
end L2
namespace L2
open PySem PySem.Spec PyProof.Rows
end L2
namespace HT
open PySem PySem.Spec PyProof.Rows
section
variable {prog:Program} {w:World} {A:Around} {E:Value->Shared->Prop} {s:Shared}
end
end HT
namespace L2
open PySem PySem.Spec PyProof.Rows
section
variable {X:Cx}
end
abbrev CJ (P:Program) (w:World) (base:Heap) {K:A0} {mg:Str->Option Value} {x:Str} {st:Stmt} {ps:List Str} (D:Dl K mg x st ps) (k:Nat) (sp:Sp):Prop:=AS P w K mg base CX0 k D.f D.fd ps sp
theorem AB {X:Cx} {k n:Nat} {x:Str} {st:Stmt} {ps:List Str} {sp:Sp} {p pos:Pos} {e:Expr} {es:List Expr} {t:TA} (D:Dl X.K X.mg x st ps) (F:AS X.prog X.w X.K X.mg X.base CX0 k D.f D.fd ps sp) (hr:BZ n X.A) (ha:PA X (e::es) t)
  (hn:k<=n:=by first | decide | lia) (hg:Gl X x:=by rfl) (hdb:(x == ("__debug__":Str))=false:=by kd_p) (he:starEach (e::es) X.env=(false,eval e X.env)::starEach es X.env:=by rfl) (hpl:(backTo pos (starEach es X.env)).any (·.1)=false:=by rfl):PE X (.Call (.Name x p) (e::es) [] pos) (SS sp [] E0 t) :=
 Gr F (hr.mono hn) hg D.hm D.F.kp D.b .nil AH ha hdb he hpl
abbrev Sc (N P:List Str) (st:Stmt):Prop:=DX N P (At st)
theorem BE {N P:List Str} {sc:Scope} (h:N.Nodup/\(∀ x∈P,sc.names.lookup x=some .local\/sc.names.lookup x=some .cell)/\∀ y∈sc.names,y.2≠.free) (a:sc.kind=.function:=by rfl) (b:sc.isCoroutine=false:=by rfl) (c:sc.isGenerator=false:=by rfl) (d:N.take P.length=P:=by rfl):DX N P sc:=⟨a,b,c,h.1,d,h.2.1,h.2.2⟩
def Vm {α:Type}:Nat->(List α->Prop)->Prop
 |0,P=>P []
 |n+1,P=>∀ a,Vm n λr=>P (a::r)
theorem Vm.all {α:Type}:∀ {n:Nat} {P:List α->Prop},Vm n P->∀ us:List α,us.length=n->P us
 |0,_,h,[],_=>h
 |_+1,_,h,a::r,e=>(h a).all r (j8.inj e)
noncomputable def InK.dn {K:A0} {mg:Str->Option Value} {h:Heap} {x:Str} {st:Stmt} {ps:List Str} (i:InK K x st) (X:K.In h) (G:h.Ns mainGlobals mg) (hb:Vm ps.length λus=>∀ (kV doc pm:Value) (an:Option Addr) (cdv ct:Value),bindArgs (V2 x x (AZ st) (AT st) (At st) .none kV doc pm an cdv ct) ⟨us,[]⟩=pure (ps.zip us):=by (repeat intro _);kernel_rfl):Dl K mg x st ps :=
 Classical.choice (i.def X G λkV doc pm an cdv ct us hl=>hb.all us hl kV doc pm an cdv ct)
section
variable {X:Cx}
end
structure InME (K:A0) (C:Addr) (m q:Str) (st:Stmt):Prop where
 ex:∃ (f T:Addr) (oc:Value) (od:Option Addr) (kV doc pm:Value) (an:Option Addr) (cdv ct:Value) (osl:Array (Option Value)) (dd:Option Addr) (n:Nat) (sl:Array (Option Value)),
  G0 K (.ref C) m=some (some (.ref f))/\S5 K (.ref f)=true/\K.lookup f=some ⟨oc,od,.func (V2 m q (AZ st) (AT st) (At st) (.ref T) kV doc pm an cdv ct),osl⟩/\E4 K cdv q=true/\T2 K (.ref f)=true /\
   K.lookup T=some ⟨.type "tuple",dd,.seq #[.none,.none] n,sl⟩
theorem InME.of {K:A0} {C:Addr} {m q:Str} {st:Stmt} {f T:Addr} {oc:Value} {od:Option Addr} {kV doc pm:Value} {an:Option Addr} {cdv ct:Value} {osl:Array (Option Value)} {dd:Option Addr} {n:Nat} {sl:Array (Option Value)}
  (a:G0 K (.ref C) m=some (some (.ref f))) (i:S5 K (.ref f)=true) (l:K.lookup f=some ⟨oc,od,.func (V2 m q (AZ st) (AT st) (At st) (.ref T) kV doc pm an cdv ct),osl⟩) (c:E4 K cdv q=true) (k:T2 K (.ref f)=true)
  (d:K.lookup T=some ⟨.type "tuple",dd,.seq #[.none,.none] n,sl⟩):InME K C m q st:=⟨⟨f,T,oc,od,kV,doc,pm,an,cdv,ct,osl,dd,n,sl,a,i,l,c,k,d⟩⟩
set_option genInjectivity false in
structure MDefE (K:A0) (C:Addr) (m q:Str) (st:Stmt) (ps:List Str) where
 f:Addr
 fd:FuncData
 dV:Value
 F:Vq K m q st dV f fd
 me:Ss K C m f
 b:Ci K fd ps []
theorem InME.def {K:A0} {C:Addr} {m q:Str} {st:Stmt} {ps:List Str} (i:InME K C m q st)
  (h0:∀ (T:Addr) (kV doc pm:Value) (an:Option Addr) (cdv ct:Value) (us:List Value),us.length=ps.length->∃ k,bindArgs (V2 m q (AZ st) (AT st) (At st) (.ref T) kV doc pm an cdv ct) ⟨us,[]⟩=seqItems? (.ref T) >>= k/\k (some #[.none,.none])=pure (ps.zip us)):Nonempty (MDefE K C m q st ps):=by
 obtain ⟨f,T,oc,od,kV,doc,pm,an,cdv,ct,osl,dd,n,sl,a,i,l,c,k,d⟩:=i.ex
 refine ⟨⟨f,V2 m q (AZ st) (AT st) (At st) (.ref T) kV doc pm an cdv ct,.ref T,⟨⟨oc,od,kV,doc,pm,an,cdv,ct,osl,rfl,l,c⟩,k⟩,⟨a,i,k⟩,λs us X hl=>?_⟩⟩
 rw [P3] at hl |-
 obtain ⟨kk,e1,e2⟩:=h0 T kV doc pm an cdv ct us hl
 exact BindsTo.of_defaults (T:=T) (items:=#[.none,.none]) rfl (X T _ d) rfl e1 e2
structure InKE (K:A0) (x:Str) (st:Stmt):Prop where
 ex:∃ (f T:Addr) (oc:Value) (od:Option Addr) (kV doc pm:Value) (an:Option Addr) (cdv ct:Value) (osl:Array (Option Value)) (dd:Option Addr) (n:Nat) (sl:Array (Option Value)),
  A1 K mainGlobals x=some (some (.ref f))/\K.lookup f=some ⟨oc,od,.func (V2 x x (AZ st) (AT st) (At st) (.ref T) kV doc pm an cdv ct),osl⟩/\E4 K cdv x=true/\T2 K (.ref f)=true/\K.lookup T=some ⟨.type "tuple",dd,.seq #[.none,.none] n,sl⟩
theorem InKE.of {K:A0} {x:Str} {st:Stmt} {f T:Addr} {oc:Value} {od:Option Addr} {kV doc pm:Value} {an:Option Addr} {cdv ct:Value} {osl:Array (Option Value)} {dd:Option Addr} {n:Nat} {sl:Array (Option Value)}
  (a:A1 K mainGlobals x=some (some (.ref f))) (l:K.lookup f=some ⟨oc,od,.func (V2 x x (AZ st) (AT st) (At st) (.ref T) kV doc pm an cdv ct),osl⟩) (c:E4 K cdv x=true) (k:T2 K (.ref f)=true) (d:K.lookup T=some ⟨.type "tuple",dd,.seq #[.none,.none] n,sl⟩):InKE K x st :=
 ⟨⟨f,T,oc,od,kV,doc,pm,an,cdv,ct,osl,dd,n,sl,a,l,c,k,d⟩⟩
set_option genInjectivity false in
structure DefE (K:A0) (mg:Str->Option Value) (x:Str) (st:Stmt) (ps:List Str) where
 f:Addr
 fd:FuncData
 dV:Value
 F:Vq K x x st dV f fd
 hm:mg x=some (.ref f)
 b:Ci K fd ps []
theorem InKE.def {K:A0} {mg:Str->Option Value} {h:Heap} {x:Str} {st:Stmt} {ps:List Str} (i:InKE K x st) (X:K.In h) (G:h.Ns mainGlobals mg)
  (h0:∀ (T:Addr) (kV doc pm:Value) (an:Option Addr) (cdv ct:Value) (us:List Value),us.length=ps.length->∃ k,bindArgs (V2 x x (AZ st) (AT st) (At st) (.ref T) kV doc pm an cdv ct) ⟨us,[]⟩=seqItems? (.ref T) >>= k/\k (some #[.none,.none])=pure (ps.zip us)):Nonempty (DefE K mg x st ps):=by
 obtain ⟨f,T,oc,od,kV,doc,pm,an,cdv,ct,osl,dd,n,sl,a,l,c,k,d⟩:=i.ex
 refine ⟨⟨f,V2 x x (AZ st) (AT st) (At st) (.ref T) kV doc pm an cdv ct,.ref T,⟨⟨oc,od,kV,doc,pm,an,cdv,ct,osl,rfl,l,c⟩,k⟩,g0 X G a,λs us Y hl=>?_⟩⟩
 rw [P3] at hl |-
 obtain ⟨kk,e1,e2⟩:=h0 T kV doc pm an cdv ct us hl
 exact BindsTo.of_defaults (T:=T) (items:=#[.none,.none]) rfl (Y T _ d) rfl e1 e2
theorem Sr:bootBuiltins "sorted"=some (.builtin "sorted"):=by lk
theorem bt_set:bootBuiltins "set"=some (.type "set"):=by lk
theorem en_sit:entryFor table "set_iterator.__next__"=some Builtin.«set_iterator.__next__»:=entryFor_of_tree (by kernel_rfl)
theorem Mg:Slot "set_iterator" "__next__" "set_iterator.__next__" :=
 .of (owner:="set_iterator") (n:="__next__") (by rw [typeLookup_type,builtinLookup_eq_fast];kernel_rfl) (by lk) (by lk) (by lk) (by first | exact .inl (by lk) | exact .inr (by lk)) (by rw [isSubtype_type];kernel_rfl)
theorem ar_sit (a:Value):argsOk "set_iterator.__next__" ⟨[a],[]⟩:=by unfold argsOk;kernel_rfl
theorem en_sei:entryFor table "set.__iter__"=some Builtin.«frozenset.__iter__»:=entryFor_alias (id':="frozenset.__iter__") (by kernel_rfl) (by kernel_rfl) (by lk) (by kernel_rfl)
theorem en_sii:entryFor table "set_iterator.__iter__"=some Builtin.«dict_keyiterator.__iter__»:=entryFor_alias (id':="dict_keyiterator.__iter__") (by kernel_rfl) (by kernel_rfl) (by lk) (by kernel_rfl)
theorem Tu:Slot "set_iterator" "__iter__" "set_iterator.__iter__" :=
 .of (owner:="set_iterator") (n:="__iter__") (by rw [typeLookup_type,builtinLookup_eq_fast];kernel_rfl) (by lk) (by lk) (by lk) (by first | exact .inl (by lk) | exact .inr (by lk)) (by rw [isSubtype_type];kernel_rfl)
theorem ar_sii (a:Value):argsOk "set_iterator.__iter__" ⟨[a],[]⟩:=by unfold argsOk;kernel_rfl
theorem en_sul:entryFor table "set.update.loop"=some Builtin.«set.update.loop»:=entryFor_of_tree (by kernel_rfl)
theorem pl_sul:plainId "set.update.loop"=true:=by lk
def sO (led:Bool):Obj:={ cls:=.type "set",data:=.set #[] 0 (.fresh 0 0 led) }
def itO (S:Addr):Obj:={ cls:=.type "set_iterator",data:=.fields #[rawInt 0,rawInt 0,.ref S,rawInt 0,rawInt 0] }
section
variable {P:Program} {w:World} {A:Around} {E:Value->Shared->Prop} {s:Shared} {S I:Addr} {led:Bool}
theorem iter_s0 {Q:Value->Shared->Prop} (at_:s.heap.get? S=some (sO led)) (h:Q (.ref s.heap.objs.size) { s with heap:=s.heap.push (itO S) }):wpAny (model P w) A (pyIter (.ref S)) Q E s:=by
 have hT:s.TypeIs (.ref S) "set":=⟨_,at_,rfl⟩
 refine wpAny_pyIter_slot hT F.slot_set_iter (wpAny_call_entry F.slot_set_iter hT en_sei ?_ (F.args_set_iter_1 _))
 unfold Builtin.«frozenset.__iter__»
 refine wpAny_bind (wpAny_of_eq (a:=S) rfl ?_)
 unfold Builtin.Frozenset.sizeOf setEntries setDrawn setsByText
 refine wpAny_bind (wpAny_bind (wpAny_bind (wpAny_setState_of at_ rfl rfl (wpAny_pure (wpAny_pure ?_)))))
 refine wpAny_bind (wpAny_bind (wpAny_setState_of at_ rfl rfl (wpAny_bind (wpAny_bind (wpAny_askSetting (wpAny_pure (wpAny_pure ?_)))))))
 dsimp only
 split
 ·rename_i q
  have q':(!w.params.followText "set-order"&&(!(SetTable.fresh 0 0 led).plain&&false))=true:=q
  simp at q'
 ·refine wpAny_bind (wpAny_pure ?_)
  simp only [newFields]
  refine wpAny_bind (wpAny_setEpoch_of at_ rfl rfl ?_)
  exact wpAny_bind (wpAny_newObj_type (wpAny_pure ⟨_,rfl, "set_iterator",_,⟨_,Heap.get?_push_size _ rfl,rfl⟩,Mg.lookup,h⟩) (by size_fits))
theorem sn0 {Q:Option (Value×Nat)->Shared->Prop} (at_:s.heap.get? S=some (sO led)) (h:Q none s):wpAny (model P w) A (setNext S 0 0 0) Q E s:=by
 unfold setNext setsByText setWalk
 refine wpAny_bind (wpAny_setState_of at_ rfl rfl (wpAny_bind (wpAny_bind (wpAny_askSetting (wpAny_pure ?_)))))
 dsimp only
 split
 ·rename_i ht
  rw [if_neg (by simp)]
  unfold setsByText
  refine wpAny_bind (wpAny_bind (wpAny_setState_of at_ rfl rfl (wpAny_bind (wpAny_bind (wpAny_askSetting (wpAny_pure ?_))))))
  dsimp only
  rw [if_pos ht]
  exact wpAny_bind (wpAny_askSetting (wpAny_pure (wpAny_pure h)))
 ·split
  ·rename_i q
   have q':(!(SetTable.fresh 0 0 led).plain&&false)=true:=q
   simp at q'
  ·refine wpAny_bind (wpAny_of_eq (a:=()) ?_ (wpAny_pure h))
   show (if (!(SetTable.fresh 0 0 led).led&&false)=true then unsupported "set:maker-not-led" else pure ())=pure ()
   rw [Y6]
   rfl
theorem nx0 {Q:Option Value->Shared->Prop} (hh:A.handled=none) (it:s.heap.get? I=some (itO S)) (at_:s.heap.get? S=some (sO led))
  (hQ:∀ h',(∀ b o,b≠I->s.heap.get? b=some o->h'.get? b=some o)->Q none { s with heap:=h' }):wpAny (model P w) A (pyNext (.ref I)) Q E s:=by
 have hT:s.TypeIs (.ref I) "set_iterator":=⟨_,it,rfl⟩
 unfold pyNext
 refine wpAny_bind (wpAny_attempt (wpAny_callSpecial?_slot (name:=Str.ofString "__next__") hT Mg (wpAny_call_entry Mg hT en_sit ?_ (ar_sit _))))
 unfold Builtin.«set_iterator.__next__»
 refine wpAny_bind (wpAny_of_eq (a:=(Value.ref I,[])) rfl (wpAny_bind (wpAny_fieldsOf it rfl ?_)))
 show wpAny _ _ (setEntries S >>= _) _ _ s
 unfold setEntries
 refine wpAny_bind (wpAny_bind (wpAny_setState_of at_ rfl rfl (wpAny_pure ?_)))
 dsimp only
 rw [if_neg (by simp)]
 show wpAny _ _ (setNext S 0 0 0 >>= _) _ _ s
 refine wpAny_bind (sn0 at_ ?_)
 dsimp only
 refine wpAny_bind (wpAny_setField it rfl (by simp) ?_)
 refine wpAny_bind ?_
 simp only [newExc,newTuple]
 refine wpAny_bind (wpAny_newObj_type (wpAny_bind (m:=firstArgMember _ _) (wpAny_of_eq (a:=Value.none) (by first | rfl | (simp only [firstArgMember];rfl)) (wpAny_newObj_type ?_ (by size_fits)))) (by size_fits))
 simp only [raiseNew]
 refine wpAny_bind (wpAny_handled ?_)
 rw [show A.in1.handled=none from hh]
 refine (wpAny_bind (wpAny_pure (wpAny_throw ?_)))
 refine (wpAny_bind (wpAny_isInstance (T:="StopIteration") (b:=true) ⟨_,Heap.get?_push_size _ rfl,rfl⟩ isSubtype_stop (wpAny_pure ?_)))
 exact hQ _ λb o hb e=>Heap.get?_push_of_some _ (Heap.get?_push_of_some _ ((Heap.get?_update_other _ _ (Ne.symm hb)).trans e))
theorem walk0 (hh:A.handled=none):Walks P w A I [I,S] [I] 0 (λ_ _=>False) (λ_ h=>h.get? I=some (itO S)/\h.get? S=some (sO led)) where
 sub:=λb hb=>by simp at hb;simp [hb]
 frame:=λi h h' st k=>⟨k I (by simp) _ st.1,k S (by simp) _ st.2⟩
 item:=λi s Q E hi=>absurd hi (Nat.not_lt_zero _)
 done:=λs Q E st hQ=>nx0 hh st.1 st.2 λh' k=>hQ h' s.toks λb o hb q=>k b o (λz=>hb (by simp [z])) q
 self:=λi s Q E st hQ=>by
  have hT:s.TypeIs (.ref I) "set_iterator":=⟨_,st.1,rfl⟩
  refine wpAny_pyIter_slot hT Tu (wpAny_call_entry Tu hT en_sii ?_ (ar_sii _))
  show wpAny (model P w) _ (ret (.ref I)) _ _ s
  exact wpAny_pure ⟨_,rfl, "set_iterator",_,hT,Mg.lookup,hQ⟩
theorem Ow (a:Value) {R:Value->Shared->Prop} (hled:led=!w.params.followText "set-order") (h:R (.ref s.heap.objs.size) { s with heap:=s.heap.push (sO led) }) :
  codeAny (model P w) A (.call (.builtin "set.__new__") ⟨[.type "set",a],[]⟩) (wants R E) s:=by
 refine codeAny_of_tree (?_:wpAny _ A.in1 (do checkBuiltinCall "set.__new__" ⟨[.type "set",a],[]⟩;again (.builtin "set.__new__" ⟨[.type "set",a],[]⟩)) _ _ s)
 refine wpAny_bind (wpAny_of_eq (PySem.F.newCall_set_1 a) (wpAny_pure ⟨plainId_quiet J9 _,codeAny_builtin PySem.F.entry_set_new ?_⟩))
 rw [Around.under_plainId J9 _]
 unfold Builtin.«set.__new__» Builtin.Frozenset.newClass
 have sub:=sub_set_self
 obtain ⟨hp,g,d,tk,os⟩:=s
 dsimp only
 wp_walk
 refine wpAny_askSetting (wpAny_pure ?_)
 dsimp only
 simp only [newObj]
 subst hled
 exact wpAny_bind (wpAny_alloc (wpAny_pure (wpAny_pure h)))
theorem pI {l S:Addr} {R:Value->Shared->Prop} (hh:A.handled=none) (oS:s.heap.get? S=some (sO led)) (hl:s.heap.IsList l #[])
  (h:∀ h' tk,(∀ b o,s.heap.get? b=some o->h'.get? b=some o)->R .none { s with heap:=h',toks:=tk }):codeAny (model P w) A.in1 (.call (.builtin "set.__init__") ⟨[.ref S,.ref l],[]⟩) (wants R E) s:=by
 have tS:s.TypeIs (.ref S) "set":=⟨_,oS,rfl⟩
 refine codeAny_call_builtin PySem.F.called_set.init.plain PySem.F.entry_set_init (check_set_init_1 tS ?_)
 have n1:=PySem.F.sub_list_set
 have n2:=PySem.F.sub_list_frozenset
 have n3:(Value.type "list" == Value.type "dict")=false:=by kd_p
 have hlS:=hl
 obtain ⟨⟨c,d,t,z⟩,ho,e,n,f⟩:=hl
 cases (show c=_ from e);cases (show t=_ from f)
 unfold Builtin.«set.__init__» noKeywords Builtin.Frozenset.updateFrom
 generalize ePI:pyIter=PI
 wp_walk
 subst ePI
 refine wpAny_pyIter_list hlS (wpAny_bind (wpAny_runValue (codeAny_builtin en_sul ?_)))
 rw [Around.under_plainId pl_sul _]
 refine wpAny_bind (m:=pyNext (.ref s.heap.objs.size)) ((Walks.list (A:=A.in1.in1.in1) hh _ l (j1 (Heap.lt_size ho)) #[]).done _ _ _ ⟨⟨_,Heap.get?_push_size _ rfl,rfl,rfl⟩,hlS.push _⟩ λh' tk kp=>wpAny_pure (wpAny_pure (wpAny_pure (h _ _ λb o e=>kp b o (λz=>?_) (Heap.get?_push_of_some _ e)))))
 simp only [S0,A2,or_false] at z
 exact absurd (Heap.lt_size e) (by rw [z];exact B6 _)
theorem set_of0 {l:Addr} {Q:Value->Shared->Prop} (hled:led=!w.params.followText "set-order") (hh:A.handled=none) (hl:s.heap.IsList l #[])
  (h:∀ (h':Heap) (tk:Nat),h'.get? s.heap.objs.size=some (sO led)->(∀ b o,s.heap.get? b=some o->h'.get? b=some o)->Q (.ref s.heap.objs.size) { s with heap:=h',toks:=tk }) :
  wpAny (model P w) A (call (.type "set") [.ref l]) Q E s:=by
 have oS:(s.heap.push (sO led)).get? s.heap.objs.size=some (sO led):=Heap.get?_push_size _ rfl
 refine pD PySem.F.called_set (PySem.F.typeCall_set_1 _) (Ow _ hled (R:=λob s1=>ob=.ref s.heap.objs.size/\s1={ s with heap:=s.heap.push (sO led) }) ⟨rfl,rfl⟩) ?_
 rintro ob s1 ⟨rfl,rfl⟩
 exact ⟨pI (A:=A) (s:={ s with heap:=s.heap.push (sO led) }) hh oS (hl.push _) λh' tk k=>⟨rfl,h _ _ (k _ _ oS) λb o e=>k _ _ (Heap.get?_push_of_some _ e)⟩,_,oS,rfl⟩
theorem UH {r:Addr} {Q:Bool->Shared->Prop} (hT:s.TypeIs (.ref r) "set") (h:Q false s):wpAny (model P w) A (Builtin.List.listLengthHint (.ref r)) Q E s:=by
 unfold Builtin.List.listLengthHint
 refine wpAny_bind (wpAny_specialOf hT PySem.F.slot_set_len.lookup ?_)
 generalize eid:("set.__len__":String)=id0
 wp_delta
 rw [show splitId id0=some ("set", "__len__") from by subst eid;lk]
 subst eid
 refine wpAny_bind (wpAny_isInstance (T:="set") (b:=true) hT sub_set_self ?_)
 refine wpAny_ite_split (λq=>absurd q (by kd_p)) (λ_=>wpAny_ite_split (λ_=>?_) (λq=>absurd (by lk) q))
 exact wpAny_bind (wpAny_typeOf hT (wpAny_pure h))
theorem ext0 {R:Result->Shared->Prop} {L:Addr} {c:Nat} (hh:A.handled=none) (at_:s.heap.get? S=some (sO led)) (hLS:L≠S) (hL:s.heap.get? L=some { cls:=.type "list",data:=.seq #[] c })
  (hR:∀ h' tk acc c',(∀ b o,b≠L->s.heap.get? b=some o->h'.get? b=some o)->h'.get? L=some { cls:=.type "list",dict:=none,data:=.seq acc c',slots:=#[] }->acc=#[]->R (.ok (.ret (.ref L))) { s with heap:=h',toks:=tk }) :
  wpAny (model P w) A.in1 (Builtin.List.listExtendWith (.ref L) (.ref S) (.ref L)) (λfin s'=>match fin with | .done f=>R (.ok f) s' | .again c'=>c'.quiet=true/\codeAny (model P w) A c' R s') (λe s'=>R (.error e) s') s:=by
 have hT:s.TypeIs (.ref S) "set":=⟨_,at_,rfl⟩
 unfold Builtin.List.listExtendWith
 refine wpAny_bind (wpAny_typeOf (T:="set") hT ?_)
 have h1:Builtin.List.listSameRef (.ref L) (.ref S)=false:=by simp [Builtin.List.listSameRef,hLS]
 have h2:(Value.type "set" == Value.type "list")=false:=by kd_p
 have h3:(Value.type "set" == Value.type "tuple")=false:=by kd_p
 simp only [h1,h2,h3,u8,Bool.false_eq_true,if_false]
 refine wpAny_bind (iter_s0 at_ ?_)
 have hlL:L<s.heap.objs.size:=Heap.lt_size hL
 have hLf:L∉[s.heap.objs.size,S]:=by simp only [S0,A2,or_false,not_or];exact ⟨j1 hlL,hLS⟩
 have kp:∀ b o,s.heap.get? b=some o->(s.heap.push (itO S)).get? b=some o:=λb o e=>Heap.get?_push_of_some _ e
 have hL1:=kp _ _ hL
 have W:=walk0 (P:=P) (w:=w) (A:=A.in1) (I:=s.heap.objs.size) (S:=S) (led:=led) (by simp [hh])
 have st:(s.heap.push (itO S)).get? s.heap.objs.size=some (itO S)/\(s.heap.push (itO S)).get? S=some (sO led):=⟨Heap.get?_push_size _ rfl,kp _ _ at_⟩
 refine wpAny_bind (wpAny_holding (UH (s:={ s with heap:=s.heap.push (itO S) }) ⟨_,kp _ _ at_,rfl⟩ ?_))
 have key:∀ (h1:Heap) (c1 tk:Nat),(h1.get? s.heap.objs.size=some (itO S)/\h1.get? S=some (sO led))->(∀ b o,b≠L->s.heap.get? b=some o->h1.get? b=some o)->h1.get? L=some { cls:=.type "list",data:=.seq #[] c1 } ->
   codeAny (model P w) A (.builtin "list.extend.loop" ⟨[.ref L,.ref s.heap.objs.size,.ref L],[]⟩) R { s with heap:=h1,toks:=tk }:=by
  intro h1 c1 tk st1 k1 hL1
  refine codeAny_extend_loopS W.toS (N1 _) L hLf (.ref L) 0 0 _ #[] c1 rfl (N1 _) st1 hL1 (ItemsOf.nil _) λs' acc' c' hm hL' hacc=>?_
  obtain ⟨h2,g2,d2,tk2,os2⟩:=s'
  have eg:g2=s.gens:=hm.gens
  have ed:d2=s.drawn:=hm.drawn
  have eo:os2=s.os:=hm.os
  subst eg;subst ed;subst eo
  refine hR h2 tk2 acc' c' (λb o hb e=>hm.heap b o (λz=>?_) (k1 b o hb e)) hL' (Array.eq_empty_of_size_eq_zero hacc.1)
  rcases S0.mp z with z | z
  ·exact hb z
  ·rw [C1.mp z] at e
   exact absurd (Heap.lt_size e) (B6 _)
 refine wpAny_ite_split (λ_=>?_) (λ_=>wpAny_pure ⟨plainId_quiet m8 _,key _ c _ st (λb o _ e=>kp b o e) hL1⟩)
 refine wpAny_bind (wpAny_rule (wpAny_bind (?_:wpAny _ _ (updateSeq L (·.push .none) >>= λ_=>updateSeq L (·.pop)) _ _ _)))
 refine wpAny_bind (wpAny_updateSeq hL1 rfl ?_)
 have hL2:=Heap.get?_update_self (Obj.mapSeq (·.push Value.none)) hL1 rfl
 refine wpAny_updateSeq (hz:=by seq_fits) hL2 rfl ?_
 have hL3:=Heap.get?_update_self (Obj.mapSeq (·.pop)) hL2 rfl
 refine wpAny_pure ⟨plainId_quiet m8 _,key _ _ _ (W.frame 0 _ _ st λb hb o e=>?_) (λb o hb e=>?_) hL3⟩
 ·have hbL:b≠L:=λz=>hLf (z▸hb)
  exact (Heap.get?_update_other _ _ (Ne.symm hbL)).trans ((Heap.get?_update_other _ _ (Ne.symm hbL)).trans e)
 ·exact (Heap.get?_update_other _ _ (Ne.symm hb)).trans ((Heap.get?_update_other _ _ (Ne.symm hb)).trans (kp b o e))
theorem col0 {R:List Value->Shared->Prop} (hh:A.handled=none) (at_:s.heap.get? S=some (sO led))
  (h:∀ h' tk,(∀ b o,s.heap.get? b=some o->h'.get? b=some o)->s.heap.objs.size<h'.objs.size->R [] { s with heap:=h',toks:=tk }):wpAny (model P w) A (collect (.ref S)) R E s:=by
 unfold collect
 refine wpAny_bind (wpAny_runValue (codeAny_builtin entry_proto_collect' ?_))
 rw [Around.under_plainId PySem.F.plain_proto_collect _]
 refine wpAny_bind (m:=newList []) (wpAny_newObj_type (wpAny_pure ⟨plainId_quiet x8 _,codeAny_builtin entry_list_iadd' ?_⟩))
 rw [Around.under_plainId x8 _]
 have hL:(s.heap.push { cls:=.type "list",data:=.seq ([]:List Value).toArray }).get? s.heap.objs.size=some { cls:=.type "list",data:=.seq #[] }:=Heap.get?_push_size _ rfl
 have kp:∀ b o,s.heap.get? b=some o->(s.heap.push { cls:=.type "list",data:=.seq ([]:List Value).toArray }).get? b=some o:=λb o e=>Heap.get?_push_of_some _ e
 have key:=ext0 (A:=A) (P:=P) (w:=w) (s:={ s with heap:=s.heap.push { cls:=.type "list",data:=.seq ([]:List Value).toArray } })
  (R:=λ(q:Result) (s':Shared)=>∃ h' tk c',q=.ok (.ret (.ref s.heap.objs.size))/\s'={ s with heap:=h',toks:=tk }/\(∀ b o,s.heap.get? b=some o->h'.get? b=some o) /\
   h'.get? s.heap.objs.size=some { cls:=.type "list",dict:=none,data:=.seq #[] c',slots:=#[] })
  hh (kp _ _ at_) (P8 (Heap.lt_size at_)) hL
  (λh' tk acc c' k1 hL' p=>⟨h',tk,c',rfl,rfl,λb o e=>k1 b o (j1 (Heap.lt_size e)) (kp b o e),by rw [hL',p]⟩)
 refine wpAny_mono key (λfin s' x=>?_) λe s' x=>?_
 ·cases fin with
  |done f =>
   obtain ⟨h',tk,c',e,rfl,k1,hL'⟩:=x
   cases e
   exact wpAny_bind (m:=load s.heap.objs.size) (wpAny_load hL' (wpAny_pure (h h' tk k1 (Heap.lt_size hL'))))
  |again c1 =>
   refine ⟨x.1,codeAny_mono x.2 λq s2 y=>?_⟩
   obtain ⟨h',tk,c',rfl,rfl,k1,hL'⟩:=y
   exact wpAny_bind (m:=load s.heap.objs.size) (wpAny_load hL' (wpAny_pure (h h' tk k1 (Heap.lt_size hL'))))
 ·obtain ⟨_,_,_,e',_⟩:=x
  cases e'
theorem sorted0 {Q:Value->Shared->Prop} (hh:A.handled=none) (at_:s.heap.get? S=some (sO led))
  (h:∀ D h' tk e,s.heap.objs.size<=D->(∀ b o,s.heap.get? b=some o->h'.get? b=some o)->h'.get? D=some (seqObj "list" #[] e)->Q (.ref D) { s with heap:=h',toks:=tk }) :
  wpAny (model P w) A (call (.builtin "sorted") [.ref S]) Q E s:=by
 refine Calls.call_function_entry kind_sorted plain_sorted entry_sorted (args_sorted1 _) ?_
 unfold Builtin.«sorted»
 refine wpAny_bind (m:=checkCount "sorted" 1 1 _) (wpAny_pure (wpAny_bind (col0 (by simp [hh]) at_ λh' tk k1 ksz=>?_)))
 refine wpAny_bind (wpAny_newList ?_ (by rw [sizeLine_eq];exact N1 _))
 have hoL:(h'.push (seqObj "list" ([]:List Value).toArray 0)).get? h'.objs.size=some (seqObj "list" ([]:List Value).toArray 0):=Heap.get?_push_size _ rfl
 refine wpAny_bind (wpAny_holding (wpAny_call_entry slot_list_sort ⟨_,hoL,rfl⟩ entry_list_sort (list_sort_tree (s:={ s with heap:=h'.push (seqObj "list" ([]:List Value).toArray 0),toks:=tk }) hoL IntsAre.nil (by kd_p) λout ns a1 a2 a3=>⟨_,rfl,?_⟩) (args_list_sort _)))
 refine wpAny_pure ⟨_,rfl,?_⟩
 obtain ⟨e,he⟩:=sortedHeap_at (out:=out) hoL
 have:ns=[]:=List.Perm.eq_nil a2
 subst this
 have ho:out=#[]:=by
  cases hq:out.toList with
  |nil=>exact Array.toList_eq_nil_iff.mp hq
  |cons x y=>rw [hq] at a1;cases a1
 subst ho
 refine h h'.objs.size _ tk e (Q8 ksz) (λb o q=>?_) he
 have hb:=Heap.lt_size (k1 b o q)
 rw [sortedHeap_old (j1 hb) (by rw [Heap.size_push];exact D7 hb)]
 exact Heap.get?_push_of_some _ (k1 b o q)
end
section
variable {X:Cx}
def Qu (w:World) (S:Addr):HO:=.ext λh=>h.get? S=some (sO (!w.params.followText "set-order"))
theorem Vh {P:Program} {w:World} (eP:X.prog=P) (ew:X.w=w) (hc:X.calm=true):En X (.type "set") (λxs H Q=>∃ p:Addr,xs=[.ref p]/\AD X.K H p []/\∀ S,H S=none->Q (.ref S) (upd H S (Qu w S))):=by
 subst eP ew
 intro pins s σ H xs us Q I r h
 obtain ⟨p,rfl,hq,q⟩:=h
 obtain ⟨u,rfl,rx⟩:=Ep r
 cases rx
 obtain ⟨its,rv,pl,hz⟩:=I.list hq
 cases rv
 refine set_of0 rfl (I.ok.hd hc) pl.isList λh' tk hS k=>?_
 exact ⟨.ref s.heap.objs.size,_,I.laid (t':=tk) k (P0 _) (show Bj X.prog X.w _ h' _ (Qu X.w s.heap.objs.size) from ⟨hS,⟨_,hS⟩,λh1 h2 z k2=>k2 _ z⟩),rfl,q _ (I.hok.fresh (P0 _))⟩
theorem MO {P:Program} {w:World} (eP:X.prog=P) (ew:X.w=w) (hc:X.calm=true):En X (.builtin "sorted") (λxs H Q=>∃ S:Addr,xs=[.ref S]/\H S=some (Qu w S)/\∀ l,H l=none->Q (.ref l) (upd H l (.lst []))):=by
 subst eP ew
 intro pins s σ H xs us Q I r h
 obtain ⟨S,rfl,hq,q⟩:=h
 obtain ⟨u,rfl,rx⟩:=Ep r
 cases rx
 obtain ⟨hS,_,_⟩:=(show Bj X.prog X.w H s.heap S (Qu X.w S) from I.hok S _ hq)
 refine sorted0 (I.ok.hd hc) hS λD h' tk e hD k he=>?_
 exact ⟨.ref D,_,I.laid (t':=tk) k hD (show Bj X.prog X.w _ _ _ (.lst []) from ⟨N1 _,[],e,.nil,he⟩),rfl,q _ (I.hok.fresh hD)⟩
end
noncomputable def InM.dn {K:A0} {C:Addr} {m q:Str} {st:Stmt} {ps:List Str} (i:InM K C m q st) (hb:Vm ps.length λus=>∀ (kV doc pm:Value) (an:Option Addr) (cdv ct:Value),bindArgs (V2 m q (AZ st) (AT st) (At st) .none kV doc pm an cdv ct) ⟨us,[]⟩=pure (ps.zip us):=by (repeat intro _);kernel_rfl):Bv K C m q st ps :=
 Classical.choice (i.def λkV doc pm an cdv ct us hl=>hb.all us hl kV doc pm an cdv ct)
section
variable {X:Cx} {pos:Pos}
theorem Be {i:Nat} {x:Str} {e:Expr} {te:TE} {pos':Pos} (hN:X.N.Nodup) (he:PE X e te) (hi:X.N[i]?=some x:=by rfl) (hx:Loc X.env.scope x:=by exact Or.inl rfl) (hs:swapsWith e (some (.Name x pos')) pos.line X.env=pure false:=by rfl) (hf:X.fn x=true\/X.env.scope.names.lookup x=some .local:=by first | exact .inl rfl | exact .inr rfl | assumption) :
  PS X (.Assign [.Name x pos'] e pos) (tAsg te (Hd i)):=ps_set hN hi hx he hs hf
theorem Di {i:Nat} {x:Str} (hN:X.N.Nodup) (hi:X.N[i]?=some x:=by rfl) (hx:Loc X.env.scope x:=by exact Or.inl rfl) (hf:X.fn x=true\/X.env.scope.names.lookup x=some .local:=by first | exact .inl rfl | exact .inr rfl | assumption):PG X (.Name x pos) (Hd i):=Bm hN hi hx hf
theorem Az {r:R2} {a b:Expr} {ta tb:TE} (hr:IxR X r) (ha:PE X a ta) (hb:PE X b tb) (hs:Rc b:=by exact λ_ _=>rfl):PE X (.Subscript a b pos) (tOp r ta tb):=pe_ix hr ha hb hs
end
end L2
namespace L2
open PySem
section
variable {P:Program} {w:World} {A:Around} {E:Value->Shared->Prop} {s:Shared} {a:Addr} {its:Array Value} {n:Nat}
theorem MD:typeLookup (.type "list") "keys"=pure none:=by rw [typeLookup_type,builtinLookup_eq_fast];kernel_rfl
theorem no_keys {Q:Option Value->Shared->Prop} (at_a:s.heap.get? a=some { cls:=.type "list",data:=.seq its n }) (calm:A.handled=none)
  (q:∀ h' tk,(∀ b o,s.heap.get? b=some o->h'.get? b=some o)->Q none { s with heap:=h',toks:=tk }):wpAny (model P w) A (getAttr? (.ref a) "keys") Q E s:=by
 obtain ⟨hp,g,d,tk,os⟩:=s
 have ty:∀ tk',(⟨hp,g,d,tk',os⟩:Shared).TypeIs (.ref a) "list":=λ_=>⟨_,at_a,rfl⟩
 have g1:=sub_AttributeError
 have g2:=F.slot_list_getattribute.lookup
 have g3:=F.slot_list_getattribute.bind (.ref a)
 have g4:=am_list_getattr_none
 unfold getAttr? getAttrBy? getAttrBy
 repeat (any_goals (first | assumption | exact ty _ | ((with_reducible show wpAny _ _ (call (Value.builtin "list.__getattribute__") _ _) _ _ _);refine call_meets F.slot_list_getattribute (ty _) am_entry_list_getattribute (F.args_list_getattribute_2 _ _) (meets_getattribute_miss_list a its n _ "keys" _ MD (by lk)) ⟨at_a,calm,λh' tk' e new=>?_⟩) | wp_step))
 obtain ⟨t',u',at_e⟩:=new.there
 show wpAny _ _ (getattributeRaised _ _ _ _ _ _ _) _ _ _
 unfold getattributeRaised
 repeat (any_goals (first | assumption | exact q _ _ new.keeps | wp_step))
end
theorem Fx:plainId "dict.update.loop"=true:=by lk
theorem Kp:entryFor table "dict.update.loop"=some Builtin.«dict.update.loop»:=entryFor_of_tree (by kernel_rfl)
section
variable {P:Program} {w:World} {A:Around} {R:Result->Shared->Prop} {κ:Type} [DecidableEq κ] {knd:KeyKind P w κ} {I d:Addr} {fp wr:List Addr} {n:Nat} {Pv:Nat->Value->Prop} {St:Nat->Heap->Prop}
def PairAt (knd:KeyKind P w κ) (h0:Heap) (d:Addr) (wr:List Addr) (kvs:List (κ×Value)) (i:Nat) (v:Value):Prop :=
 ∃ t o m key k x,v=.ref t/\t≠d/\t∉wr/\h0.get? t=some o/\o.cls=.type "tuple"/\o.data=.seq #[key,x] m/\knd.is k key=true/\kvs[i]?=some (k,x)
theorem Nh {kvs:List (κ×Value)} {i:Nat} {k:κ} {x:Value} (nd:(kvs.map (·.1)).Nodup) (h:kvs[i]?=some (k,x)):stored (kvs.take i) k x=kvs.take (i+1):=by
 have lt:i<kvs.length:=by
  rcases Nat.lt_or_ge i kvs.length with z | z
  ·exact z
  ·rw [E6 z] at h;cases h
 have no:((kvs.take i).any λkv=>decide (kv.1=k))=false:=by
  rw [U8]
  intro kv hm e
  obtain ⟨j,hj,e2⟩:=List.getElem_of_mem hm
  have hj':j<i:=by rw [Y2] at hj;lia
  have e3:kvs[j]'(by lia)=kv:=by rw [<- e2,List.getElem_take]
  have e4:kvs[i]=(k,x):=by rw [Y1 lt] at h;exact V3.inj h
  have ne:=(List.pairwise_iff_getElem.mp nd) j i (by rw [J0];lia) (by rw [J0];exact lt) hj'
  apply ne
  rw [List.getElem_map,List.getElem_map,e3,e4]
  exact of_decide_eq_true e
 unfold stored
 rw [no,if_neg (by kd_p),W6,h]
 rfl
theorem Pb (W:Walks P w A.in1 I fp wr n Pv St) (hf:d∉fp) (res:Value) (h0:Heap) (kvs:List (κ×Value)) (hl:kvs.length=n) (nd:(kvs.map (·.1)).Nodup) (hz:n<=sizeLine) (pr:∀ i v,Pv i v->PairAt knd h0 d wr kvs i v) :
  ∀ (m i:Nat) (s:Shared),n-i=m->i<=n->St i s.heap->s.heap.DictOf knd d (kvs.take i)->(∀ b o,b≠d->b∉wr->h0.get? b=some o->s.heap.get? b=some o) ->
   (∀ h' tk,h'.DictOf knd d kvs->(∀ b o,b≠d->b∉wr->h0.get? b=some o->h'.get? b=some o)->R (.ok (.ret res)) { s with heap:=h',toks:=tk }) ->
   codeAny (model P w) A (.builtin "dict.update.loop" ⟨[.ref d,.ref I,rawInt i,res],[]⟩) R s:=by
 have hw:d∉wr:=λh=>hf (W.sub _ h)
 intro m
 induction m with
 |zero =>
  intro i s e hi st dd kp q
  obtain rfl:i=n:=by lia
  refine codeAny_builtin Kp ?_
  rw [Around.under_plainId Fx _]
  show wpAny _ A.in1 (pyNext (.ref I) >>= _) _ _ s
  refine wpAny_bind (W.done s _ _ st λh' tk k1=>?_)
  show wpAny _ A.in1 (Builtin.Dict.addKeywords d [] >>= _) _ _ _
  refine wpAny_bind (wpAny_pure (wpAny_pure (q h' tk ?_ λb o hb hb' z=>k1 b o hb' (kp b o hb hb' z))))
  rw [<- hl,K3] at dd
  obtain ⟨o,es,ep,z,r⟩:=dd
  exact ⟨o,es,ep,k1 d o hw z,r⟩
 |succ m ih =>
  intro i s e hi st dd kp q
  have lt:i<n:=by lia
  refine codeAny_builtin Kp ?_
  rw [Around.under_plainId Fx _]
  show wpAny _ A.in1 (pyNext (.ref I) >>= _) _ _ s
  refine wpAny_bind (W.item i s _ _ lt st λv h' tk pv st' k1=>?_)
  obtain ⟨t,o,c,key,k,x,rfl,td,tw,at_t,ct,dt,ik,hx⟩:=pr i v pv
  have at_t':h'.get? t=some o:=k1 t o tw (kp t o td tw at_t)
  have dd':h'.DictOf knd d (kvs.take i):=by
   obtain ⟨o,es,ep,z,r⟩:=dd
   exact ⟨o,es,ep,k1 d o hw z,r⟩
  show wpAny _ A.in1 ((holding [Value.ref t] _) >>= _) _ _ _
  refine wpAny_bind (wpAny_holding (wpAny_bind (wpAny_tryCatch ?_)))
  unfold Builtin.Dict.pairItems
  refine wpAny_bind (wpAny_typeOf (s:={ s with heap:=h',toks:=tk }) (show Shared.TypeIs _ (.ref t) "tuple" from ⟨o,at_t',ct⟩) ?_)
  rw [if_pos (by kd_p)]
  refine wpAny_bind (wpAny_seqItems (s:={ s with heap:=h',toks:=tk }) at_t' dt (wpAny_pure ?_))
  show wpAny _ A.in1 (holding [key,x] (dictSet d key x)) _ _ _
  refine wpAny_holding (wpAny_dictSet_pairs (s:={ s with heap:=h',toks:=tk }) ik dd' (λh2 d2 sb=>?_) (by rw [Y2];lia))
  rw [Nh nd hx] at d2
  refine wpAny_pure ⟨plainId_quiet Fx _,?_⟩
  have:=ih (i+1) { s with heap:=h2,toks:=tk+1 } (by lia) lt (W.frame _ h' _ st' λb hb o z=>?_) d2 (λb o hb hb' z=>?_) λh3 tk3 d3 k3=>q h3 tk3 d3 k3
  ·exact this
  ·rw [sb.2 b λz'=>hf (by rw [<- z'];exact hb)];exact z
  ·rw [sb.2 b hb];exact k1 b o hb' (kp b o hb hb' z)
variable {E:Value->Shared->Prop} {s:Shared}
theorem Lk {l:Addr} {its:List Value} {n:Nat} {kvs:List (κ×Value)} {Q:Value->Shared->Prop} (at_l:s.heap.get? l=some { cls:=.type "list",data:=.seq its.toArray n }) (calm:A.handled=none) (hl:kvs.length=its.length) (nd:(kvs.map (·.1)).Nodup) (hz:its.length<=sizeLine)
  (pr:∀ (i:Nat) (v:Value),its[i]?=some v->∃ t o m key k x,v=Value.ref t/\s.heap.get? t=some o/\o.cls=.type "tuple"/\o.data=.seq #[key,x] m/\knd.is k key=true/\kvs[i]?=some (k,x))
  (q:∀ h' tk,h'.DictOf knd s.heap.objs.size kvs->(∀ b o,s.heap.get? b=some o->h'.get? b=some o)->Q (.ref s.heap.objs.size) { s with heap:=h',toks:=tk }):wpAny (model P w) A (call (.type "dict") [.ref l]) Q E s:=by
 refine callType_codes (Q₁:=λobj s₁=>obj=.ref s.heap.objs.size/\s₁={ s with heap:=s.heap.push { cls:=.type "dict",data:=.dict #[] } }) F.kt_called_dict (F.kt_typeCall_dict_1 _) F.entry_dict_init (kt_code_dict_new _ ⟨rfl,rfl⟩) ?_
 rintro obj s₁ ⟨rfl,rfl⟩
 have new:(s.heap.push { cls:=.type "dict",data:=.dict #[] }).DictOf knd s.heap.objs.size []:=Heap.DictOf.new s.heap
 have up:∀ b o,s.heap.get? b=some o->(s.heap.push { cls:=.type "dict",data:=.dict #[] }).get? b=some o:=λb o z=>Heap.get?_push_of_some _ z
 have l_d:l≠s.heap.objs.size:=j1 (Heap.lt_size at_l)
 refine ⟨new.typeIs,F.args_dict_init_2 _ _,?_⟩
 generalize hD:s.heap.objs.size=D at new l_d q |-
 generalize hh1:s.heap.push { cls:=.type "dict",data:=.dict #[] }=h1 at new up |-
 have old_D:∀ b o,s.heap.get? b=some o->b≠D:=λb o z=>by rw [<- hD];exact j1 (Heap.lt_size z)
 unfold Builtin.«dict.__init__» Builtin.Dict.selfAndRest
 refine wpAny_bind (wpAny_bind (wpAny_notOrdered_dict (s:={ s with heap:=h1 }) new.typeIs ?_))
 show wpAny _ _ (pure (D,[Value.ref l])) _ _ _
 refine wpAny_pure ?_
 show wpAny _ _ (Builtin.Dict.updateFrom "dict.__init__" D (.ref l) [] .none) _ _ _
 unfold Builtin.Dict.updateFrom
 refine wpAny_bind (wpAny_typeOf (s:={ s with heap:=h1 }) (show Shared.TypeIs _ (.ref l) "list" from ⟨_,up _ _ at_l,rfl⟩) ?_)
 rw [if_pos (by kd_p)]
 refine wpAny_bind (no_keys (s:={ s with heap:=h1 }) (up _ _ at_l) calm λh2 tk2 k2=>?_)
 rw [if_pos (by rfl)]
 refine wpAny_bind (wpAny_rule ?_)
 have isL:h2.IsList l its.toArray:=⟨_,k2 _ _ (up _ _ at_l),rfl,_,rfl⟩
 refine wpAny_bind (wpAny_pyIter_list (s:={ s with heap:=h2,toks:=tk2 }) isL (wpAny_pure ⟨plainId_quiet Fx _,?_⟩))
 generalize hI:h2.objs.size=I
 have at_I:(h2.push { cls:=.type "list_iterator",data:=.fields #[.ref l,.int 0 0] }).IsListIter I l 0:=by rw [<- hI];exact ⟨_,Heap.get?_push_size _ rfl,rfl,rfl⟩
 have ltI:∀ b o,h2.get? b=some o->b≠I:=λb o z=>by rw [<- hI];exact j1 (Heap.lt_size z)
 have lI:l≠I:=ltI _ _ (k2 _ _ (up _ _ at_l))
 have DI:D≠I:=by
  obtain ⟨o,_,_,z,_⟩:=id new
  exact ltI _ _ (k2 _ _ z)
 refine Pb (knd:=knd) (Walks.list (A:=A.in1.in1) calm I l lI its.toArray) (by simp [DI,Ne.symm l_d]) .none s.heap kvs (by simp [hl]) nd (by simpa using hz) (λi v hv=>?_) _ 0 _ rfl (N1 _) ⟨at_I,?_⟩ ?_ (λb o hb hb' z=>?_) λh' tk d' k'=>?_
 ·obtain ⟨t,o,m,key,k,x,rfl,z,r⟩:=pr i v (by simpa using hv)
  refine ⟨t,o,m,key,k,x,rfl,old_D _ _ z,?_,z,r⟩
  simp only [C1]
  exact ltI _ _ (k2 _ _ (up _ _ z))
 ·obtain ⟨o,z,r⟩:=isL
  exact ⟨o,Heap.get?_push_of_some _ z,r⟩
 ·rw [V6]
  obtain ⟨o,es,ep,z,r⟩:=new
  exact ⟨o,es,ep,Heap.get?_push_of_some _ (k2 _ _ z),r⟩
 ·exact Heap.get?_push_of_some _ (k2 _ _ (up _ _ z))
 ·refine ⟨rfl,q h' tk d' λb o z=>k' b o (old_D b o z) ?_ z⟩
  simp only [C1]
  exact ltI _ _ (k2 _ _ (up _ _ z))
end
end L2
namespace L2
open PySem PySem.Spec PyProof.Rows
theorem Lp:∀ {ps:List Addr} {us:List Value},AR (ps.map V.ref) us->us=ps.map Value.ref
 |[],_,.nil=>rfl
 |p::r,_,.cons h t=>by
  obtain rfl:=(show _=Value.ref p from h)
  rw [j2,Lp t]
section
variable {X:Cx}
theorem PP (hc:X.calm=true):En X (.type "dict") (λxs H Q=>∃ (l:Addr) (ps:List Addr) (kvs:List (Bw×V)),xs=[.ref l]/\H l=some (.lst (ps.map V.ref))/\ps.length=kvs.length /\
  (∀ (i:Nat) p kv,ps[i]?=some p->kvs[i]?=some kv->H p=some (.tup [kV kv.1,kv.2]))/\(kvs.map (·.1)).Nodup/\∀ d,H d=none->Q (.ref d) (upd H d (.dK kvs))):=by
 intro pins s σ H xs us Q I r h
 obtain ⟨l,ps,kvs,rfl,hl,hn,hp,nd,q⟩:=h
 obtain ⟨u,rfl,rx⟩:=Ep r
 cases rx
 obtain ⟨z,its,n,rv,lv,e⟩:=I.lstM hl
 have ei:=Lp rv
 have mk:∀ (ps:List Addr) (kvs:List (Bw×V)),ps.length=kvs.length->(∀ (i:Nat) p kv,ps[i]?=some p->kvs[i]?=some kv->H p=some (.tup [kV kv.1,kv.2])) ->
   ∃ vs:List (Bw×Value),KV kvs vs/\∀ (i:Nat) (v:Value),(ps.map Value.ref)[i]?=some v->∃ t o m key k x,v=Value.ref t/\s.heap.get? t=some o/\o.cls=.type "tuple"/\o.data=.seq #[key,x] m/\(Bn X.prog X.w).is k key=true/\vs[i]?=some (k,x):=by
  intro ps
  induction ps with
  |nil =>
   intro kvs e _
   cases kvs with
   |nil=>exact ⟨[],.nil,λi v h=>by simp at h⟩
   |cons _ _=>cases e
  |cons p r ih =>
   intro kvs e hp
   cases kvs with
   |nil=>cases e
   |cons kv kr =>
    obtain ⟨vs,rel,at_⟩:=ih kr (by simpa using e) λi p kv h1 h2=>hp (i+1) p kv (by simpa using h1) (by simpa using h2)
    obtain ⟨_,us,ru,o,h1,h2,m,h3⟩:=(show Bj X.prog X.w H s.heap p (.tup [kV kv.1,kv.2]) from I.hok p _ (hp 0 p kv (by simp) (by simp)))
    obtain ⟨key,x,rfl,rk,rx⟩:=Qh ru
    refine ⟨(kv.1,x)::vs,.cons ⟨rfl,rx⟩ rel,λi v hv=>?_⟩
    cases i with
    |zero =>
     obtain rfl:Value.ref p=v:=by simpa using hv
     exact ⟨p,o,m,key,kv.1,x,rfl,h1,h2,h3,Gf rk,by simp⟩
    |succ i =>
     obtain ⟨t,o,m,key,k,x,a⟩:=at_ i v (by simpa using hv)
     exact ⟨t,o,m,key,k,x,by simpa using a⟩
 obtain ⟨vs,rel,at_⟩:=mk ps kvs hn hp
 have lv2:its.length=ps.length:=by rw [ei,J0]
 rw [J0] at z
 refine Lk (knd:=Bn X.prog X.w) (kvs:=vs) e (I.ok.hd hc) (by rw [<- rel.length,lv2,hn]) (by rw [<- rel.keys];exact nd) (by rw [lv2];exact z) (λi v hv=>at_ i v (by rw [<- ei];exact hv)) λh' tk dd kp=>?_
 refine ⟨.ref s.heap.objs.size,_,I.laid (a:=s.heap.objs.size) (o:=.dK kvs) (t':=tk) kp (P0 _) (PK (by rw [<- hn];exact z) (beq_eq_false_iff_ne.mpr (Ne.symm (j1 I.big))) rel dd),rfl,q _ (I.hok.fresh (P0 _))⟩
end
end L2
namespace K90
local macro_rules | `(tactic| k_go) => `(tactic| walk_at "sy")
local macro_rules | `(tactic| w_up) => `(tactic| walk_at "sx")
set_option hygiene false in
open Lean in
local macro_rules|`(tactic|exists $a)=>do
 let r<-(Array.range 12).mapM λi=>do
  let x<-(Array.range i).mapM λ_=>`(_)
  if i<2 then `(tacticSeq|exact h.elim λ_ z=>congrArg _ z.1) else `(tacticSeq|exact $(mkIdent (.str `HK s!"e{i}")) h λ$x* z=>congrArg _ z.1)
 `(tactic|refine $a (λvs H Q E h=>by first $[|$r]*|exact congrArg _ h.1) (λcdv A outer s H vs Q E hr h=>?_))
open PySem L2
@[elab_as_elim] theorem lx1 {α:Type} {P:List α->Prop} {us:List α} (h:us.length=1) (k:∀ a,P [a]):P us:=by
 match us,h with
 |[a],_=>exact k a
theorem lxC {α:Type} {P:List α->Prop} {us:List α} {n:Nat} (h:us.length=n+1) (k:∀ a r,r.length=n->P (a::r)):P us:=by
 cases us with
 |nil=>cases h
 |cons a r=>exact k a r (j8.inj h)
@[elab_as_elim] theorem lx2 {α:Type} {P:List α->Prop} {us:List α} (h:us.length=2) (k:∀ a b,P [a,b]):P us:=lxC h λa _ h=>lx1 (P:=λr=>P (a::r)) h (k a)
@[elab_as_elim] theorem lx3 {α:Type} {P:List α->Prop} {us:List α} (h:us.length=3) (k:∀ a b c,P [a,b,c]):P us:=lxC h λa _ h=>lx2 (P:=λr=>P (a::r)) h (k a)
@[elab_as_elim] theorem lx4 {α:Type} {P:List α->Prop} {us:List α} (h:us.length=4) (k:∀ a b c d,P [a,b,c,d]):P us:=lxC h λa _ h=>lx3 (P:=λr=>P (a::r)) h (k a)
@[elab_as_elim] theorem lx5 {α:Type} {P:List α->Prop} {us:List α} (h:us.length=5) (k:∀ a b c d e,P [a,b,c,d,e]):P us:=lxC h λa _ h=>lx4 (P:=λr=>P (a::r)) h (k a)
theorem Cw {c A B:Prop} [Decidable c] (hc:c) (h:A):if decide c=true then A else B:=by
 rw [if_pos (decide_eq_true hc)];exact h
theorem CD {c A B:Prop} [Decidable c] (hc:¬ c) (h:B):if decide c=true then A else B:=by
 rw [if_neg (by rw [decide_eq_false hc];exact Q0)];exact h
theorem Ku {c A B:Prop} [Decidable c] (hc:¬ c) (h:A):if (!decide c)=true then A else B:=by
 rw [if_pos (by rw [decide_eq_false hc];rfl)];exact h
theorem Kv {c A B:Prop} [Decidable c] (hc:c) (h:B):if (!decide c)=true then A else B:=by
 rw [if_neg (by rw [decide_eq_true hc];exact Q0)];exact h
theorem Lu {α β:Type} {f:α->β} {xs:List α} {i:Nat} {x:α} (h:xs[i]?=some x):(xs.take i).map f++[f x]=(xs.take (i+1)).map f:=by
 rw [Y5,h,A3]
 rfl
def places (z:Str):List Nat :=
 if z="group" then [3] else if z="limit" then [3,4] else if z="keep" then [2] else if z="try" then [2,4] else if z="do" then [2,3] else if z="when" then [4] else if z="repeat" then [3] else if z="errand" then [3] else []
def lenOf (z:Str):Nat :=
 if z="group" then 4 else if z="limit" then 5 else if z="keep" then 3 else if z="try" then 5 else if z="do" then 4 else if z="when" then 5 else if z="repeat" then 4 else if z="errand" then 4 else 0
def TV (v:V):Prop:=(∃ n:Int,v=.int n/\0<=n/\n<10000000)\/∃ z:Str,v=.str z/\z.length<=60
def StV (v:V):Prop:=∃ z:Str,v=.str z/\z.length<=60
def thLen (z:Str):Nat:=if z="when" then 2 else if z="keep" then 0 else if z="try" then 0 else if z="do" then 0 else 1
abbrev JQ (z:Str):Prop:=z="try"\/z="do"\/z="limit"
abbrev wordW (z:Str):Prop:=z="errand"\/z="group"\/z="limit"\/z="keep"\/z="try"\/z="do"\/z="when"\/z="repeat"
def tryL:List Addr->V->List V
 |[b0,b1],fa=>[.ref b0,fa,.ref b1]
 |_,_=>[]
def MX:List Str:=["any", "ask", "begin", "but", "do", "end", "errand", "give", "group", "hear", "in", "keep", "last", "late", "let", "limit", "off", "raise", "repeat", "ring", "send", "take", "try", "wait", "when", "within"]
def LowS (z:Str):Prop:=∀ c∈z.cps.toList,97<=c/\c<=122
structure NmOk (z:Str):Prop where
 lo:1<=z.length
 hi:z.length<=8
 low:LowS z
 nk:z∉MX
def TdOk (z:Str):Prop:=∃ y:Str,z=(":":Str)++y/\1<=y.length/\y.length<=8/\LowS y
def NmV (v:V):Prop:=∃ z:Str,v=.str z/\NmOk z
def VlV (v:V):Prop:=(∃ n:Int,v=.int n/\0<=n/\n<=999999)\/∃ z:Str,v=.str z/\(NmOk z\/TdOk z)
def NuV (lo hi:Int) (v:V):Prop:=∃ n:Int,v=.int n/\lo<=n/\n<=hi
inductive Qb:Str->List V->Prop
 |wait {v:V}:NuV 1 99 v->Qb "wait" [v]
 |one {z:Str} {a:V}:z="hear"\/z="ring"\/z="raise"\/z="off"->NmV a->Qb z [a]
 |val {z:Str} {a v:V}:z="send"\/z="let"->NmV a->VlV v->Qb z [a,v]
 |two {z:Str} {a b:V}:z="take"\/z="ask"->NmV a->NmV b->Qb z [a,b]
 |begin {a b c v:V}:NmV a->NmV b->NmV c->NuV 0 99 v->Qb "begin" [a,b,c,v]
 |give {v:V}:VlV v->Qb "give" [v]
inductive Qc:Str->List V->V->Prop
 |name {z:Str} {a fa:V}:z="errand"\/z="group"->NmV a->Qc z [a] fa
 |limit {v fa:V}:NuV 1 99 v->Qc "limit" [v] fa
 |bare {z:Str} {fa:V}:z="keep"\/z="do"->Qc z [] fa
 |try_ {z:Str}:NmOk z\/z="any"->Qc "try" [] (.str z)
 |when {a v fa:V}:NmV a->VlV v->Qc "when" [a,v] fa
 |rep {v fa:V}:NuV 1 9 v->Qc "repeat" [v] fa
structure BlkSh (z:Str) (r:List V) (th:List V) (fa:V) (bs:List Addr):Prop where
 w:wordW z
 e:r=th++(if z="try" then tryL bs fa else bs.map V.ref)
 tv:∀ t∈th,TV t
 sv:z="when"->∀ t,th[0]?=some t->StV t
 tl:th.length=thLen z
 fv:(z="try"->StV fa)/\Qc z th fa
 two:JQ z->bs.length=2
 one:¬ JQ z->bs.length=1
structure PlnSh (z:Str) (r:List V):Prop where
 p:places z=[]
 l:z.length<=10
 tv:∀ t∈r,TV t
 rl:r.length<=4
 b:(z="begin"->∃ (a b c:Str) (l:Int),r=[.str a,.str b,.str c,.int l]/\0<=l)/\Qb z r
def RowSh (z:Str) (r:List V):Prop:=∃ (ln:Int) (r':List V),r=.int ln::r'/\(PlnSh z r'\/∃ th fa bs,BlkSh z r' th fa bs)
def Nz:List V->List V
 |.str z::r=>(places z).filterMap λi=>(V.str z::r)[i]?
 |_=>[]
def Dp (z:Str) (n:Nat):Prop:=2<=n/\(z="errand"↔n=22)
def RowOk:Nat->Hp->V->Prop
 |0,_,_=>False
 |n+1,H,v=>∃ (a:Addr) (z:Str) (r:List V),v=.ref a/\H a=some (.tup (.str z::r))/\RowSh z r/\(places z≠[]->r.length+1=lenOf z/\Dp z n) /\
   ∀ p∈Nz (.str z::r),∃ (b:Addr) (ys:List V),p=.ref b/\H b=some (.tup ys)/\∀ y∈ys,RowOk n H y
def RowsOk (n:Nat) (H:Hp) (v:V):Prop:=∃ (b:Addr) (ys:List V),v=.ref b/\H b=some (.tup ys)/\∀ y∈ys,RowOk n H y
def partsF (H:Hp):V->List V
 |.ref a=>match H a with
  |some (.tup xs)=>Nz xs
  |_=>[]
 |_=>[]
theorem Ea {H H2:Hp} {l:Addr} {o:HO} (s:Af H H2) (h:H l=none):Af H (upd H2 l o):=λb u e=>by rw [Ah (AE e h)];exact s b u e
theorem MT (a b:Str):(a++b).length=a.length+b.length:=Array.size_append
theorem Jd:∀ zs:List Str,(zs.map V.str).all Cy=true
 |[]=>rfl
 |_::r=>by rw [j2,O7,Jd r];rfl
theorem pick {xs:List V} {m:Int} (h0:0<=m) (h1:m<xs.length):∃ v,Sw xs m=some v/\v∈xs:=by
 have hlt:m.toNat<xs.length:=by lia
 refine ⟨xs[m.toNat],?_,List.getElem_mem hlt⟩
 have hat:=Au (xs:=xs) (j:=m.toNat) (v:=xs[m.toNat]) (by simp [hlt])
 rw [show ((m.toNat:Nat):Int)=m by lia] at hat
 exact hat
def shortS:V->Bool
 |.str z=>decide (z.length<=20)
 |_=>false
def Hf (H H':Hp):Prop:=∀ (a:Addr) (xs:List V),H a=some (.tup xs)->H' a=some (.tup xs)
theorem ST {a b:Str} (h:a.cps.toList=b.cps.toList):a=b:=by
 cases a;cases b
 simp only [Str.mk.injEq]
 exact Array.toList_inj.mp h
theorem QY (a b:Str):(a++b).cps.toList=a.cps.toList++b.cps.toList:=by
 show (a.cps++b.cps).toList=_
 exact E8
theorem JM (a:Str):a.length=a.cps.toList.length:=rfl
theorem UA {b:Bool} {A B:Prop} (h:b=true) (a:A):if b=true then A else B:=by rw [if_pos h];exact a
theorem iteF' {b:Bool} {A B:Prop} (h:b=false) (a:B):if b=true then A else B:=by rw [h,if_neg Q0];exact a
set_option genInjectivity false in
structure Fr where
 f:Addr
 t:Addr
 L:Addr
 ps:List Addr
 z:Str
 fa:V
 th:List V
 rss:List (List V)
 c:Nat
def Fr.own (F:Fr):List Addr:=F.f::F.L::F.ps
theorem Eb {H H':Hp} (s:Af H H'):Hf H H':=λa _ h=>s a _ h
def mkE (w:World) (x:Str×Tok×Value):DictEntry:=⟨PyData.keyHash w.params x.1,.str x.1 x.2.1,x.2.2⟩
theorem PL {P:Program} {w:World} {K:A0} {p:Addr} {ep:Nat} (L:List (Str×Tok×Value)) {kvs:List (Bw×V)} (l:K.lookup p=some ⟨.type "dict",none,.dict (L.map (mkE w)).toArray ep,#[]⟩) (s:(p == sysModules)=false) (nd:(L.map (·.1)).Nodup) (kv:KV kvs (L.map λx=>((.inr x.1:Bw),x.2.2))):OE P w K p kvs:=by
 refine ⟨s,λh X=>⟨L.map λx=>((.inr x.1:Bw),x.2.2),kv,_,_,_,X _ _ l,⟨rfl,rfl,rfl⟩,rfl,?_,?_,?_⟩⟩
 ·intro e he
  have he':e∈L.map (mkE w):=by rw [<- List.mem_toArray];exact he
  obtain ⟨x,_,rfl⟩:=E5.mp he'
  exact ⟨.inr x.1,Bg _ x.2.1,rfl⟩
 ·show Pairs _ (L.map (mkE w)).toArray.toList _
  rw [List.toList_toArray]
  clear l nd kv
  induction L with
  |nil=>exact .nil
  |cons x r ih=>exact .cons (Bg _ x.2.1) rfl ih
 ·rw [y6]
  have e:(λx=>x.1) ∘ (λx:Str×Tok×Value=>((.inr x.1:Bw),x.2.2))=(Sum.inr:Str->Bw) ∘ (λx:Str×Tok×Value=>x.1):=rfl
  rw [e,<- y6]
  exact List.Pairwise.map _ (λa b h q=>h (Sum.inr.inj q)) nd
def FORMS:List Str:=["errand NAME", "wait N", "hear NAME", "ring NAME", "send NAME VALUE", "take NAME NAME", "let NAME VALUE", "raise NAME", "begin NAME NAME in NAME", "begin NAME NAME in NAME within N", "ask NAME NAME", "off NAME", "give VALUE", "group NAME", "limit N", "late", "keep", "try", "but NAME", "but any", "do", "last", "when NAME VALUE", "repeat ROUNDS", "end"]
def TWS:List Str:=["late", "but", "last"]
def GRkv:List (Bw×V):=[(.inr "N",.int 99),(.inr "ROUNDS",.int 9)]
def PZ:List (Bw×V):=[(.inr "limit",.str "late"),(.inr "try",.str "but"),(.inr "do",.str "last")]
structure InGR (w:World) (K:A0):Prop where
 ex:∃ (p:Addr) (t1 t2 u1 u2:Tok) (ep:Nat),A1 K mainGlobals "GREATEST"=some (some (.ref p))/\(p == sysModules)=false /\
  K.lookup p=some ⟨.type "dict",none,.dict #[⟨PyData.keyHash w.params "N",.str "N" t1,.int 99 u1⟩,⟨PyData.keyHash w.params "ROUNDS",.str "ROUNDS" t2,.int 9 u2⟩] ep,#[]⟩
theorem InGR.of {w:World} {K:A0} {p:Addr} {t1 t2 u1 u2:Tok} {ep:Nat} (a:A1 K mainGlobals "GREATEST"=some (some (.ref p)))
  (l:K.lookup p=some ⟨.type "dict",none,.dict #[⟨PyData.keyHash w.params "N",.str "N" t1,.int 99 u1⟩,⟨PyData.keyHash w.params "ROUNDS",.str "ROUNDS" t2,.int 9 u2⟩] ep,#[]⟩) (s:(p == sysModules)=false):InGR w K:=⟨⟨p,t1,t2,u1,u2,ep,a,s,l⟩⟩
theorem InGR.get {P:Program} {w:World} {K:A0} {mg:Str->Option Value} {h:Heap} (i:InGR w K) (X:K.In h) (G:h.Ns mainGlobals mg):∃ a:Addr,mg "GREATEST"=some (.ref a)/\OE P w K a GRkv:=by
 obtain ⟨p,t1,t2,u1,u2,ep,a,s,l⟩:=i.ex
 refine ⟨p,g0 X G a,PL [("N",t1,.int 99 u1),("ROUNDS",t2,.int 9 u2)] l s ?_ ?_⟩
 ·show (["N", "ROUNDS"]:List Str).Nodup
  lk
 ·exact .cons ⟨rfl,_,rfl⟩ (.cons ⟨rfl,_,rfl⟩ .nil)
structure InTU (w:World) (K:A0):Prop where
 ex:∃ (p:Addr) (t1 t2 t3 u1 u2 u3:Tok) (ep:Nat),A1 K mainGlobals "TURNS"=some (some (.ref p))/\(p == sysModules)=false /\
  K.lookup p=some ⟨.type "dict",none,.dict #[⟨PyData.keyHash w.params "limit",.str "limit" t1,.str "late" u1⟩,⟨PyData.keyHash w.params "try",.str "try" t2,.str "but" u2⟩,⟨PyData.keyHash w.params "do",.str "do" t3,.str "last" u3⟩] ep,#[]⟩
theorem InTU.of {w:World} {K:A0} {p:Addr} {t1 t2 t3 u1 u2 u3:Tok} {ep:Nat} (a:A1 K mainGlobals "TURNS"=some (some (.ref p)))
  (l:K.lookup p=some ⟨.type "dict",none,.dict #[⟨PyData.keyHash w.params "limit",.str "limit" t1,.str "late" u1⟩,⟨PyData.keyHash w.params "try",.str "try" t2,.str "but" u2⟩,⟨PyData.keyHash w.params "do",.str "do" t3,.str "last" u3⟩] ep,#[]⟩) (s:(p == sysModules)=false):InTU w K:=⟨⟨p,t1,t2,t3,u1,u2,u3,ep,a,s,l⟩⟩
theorem InTU.get {P:Program} {w:World} {K:A0} {mg:Str->Option Value} {h:Heap} (i:InTU w K) (X:K.In h) (G:h.Ns mainGlobals mg):∃ a:Addr,mg "TURNS"=some (.ref a)/\OE P w K a PZ:=by
 obtain ⟨p,t1,t2,t3,u1,u2,u3,ep,a,s,l⟩:=i.ex
 refine ⟨p,g0 X G a,PL [("limit",t1,.str "late" u1),("try",t2,.str "but" u2),("do",t3,.str "last" u3)] l s ?_ ?_⟩
 ·show (["limit", "try", "do"]:List Str).Nodup
  lk
 ·exact .cons ⟨rfl,_,rfl⟩ (.cons ⟨rfl,_,rfl⟩ (.cons ⟨rfl,_,rfl⟩ .nil))
def PPW:List Str:=["group", "limit", "keep", "try", "do", "when", "repeat"]
theorem Rk {L:List (Str×V)} (z:Str):(valV (L.map λx=>((.inr x.1:Bw),x.2)) (.inr z)).isSome=decide (z∈L.map (·.1)):=by
 unfold valV
 rw [Option.isSome_map]
 induction L with
 |nil=>rfl
 |cons x r ih =>
  rw [j2,j2,T0]
  by_cases e:x.1=z
  ·subst e
   simp
  ·have n1:decide ((Sum.inr x.1:Bw)=Sum.inr z)=false:=decide_eq_false λq=>e (Sum.inr.inj q)
   have n2:¬ z=x.1:=λq=>e q.symm
   simp only [n1,ih,S0,n2,false_or]
theorem Hg {α β:Type} {f:α->β} {xs:List α} {i:Nat} {x:α} (h:xs[i]?=some x):(xs.take i).map f++[f x]=(xs.take (i+1)).map f:=by
 rw [Y5,h,A3]
 rfl
def AG (z:Str):List Nat :=
 if z="group" then [3] else if z="limit" then [3,4] else if z="keep" then [2] else if z="try" then [2,4] else if z="do" then [2,3] else if z="when" then [4] else if z="repeat" then [3] else []
def Eh (z:Str):Nat :=
 if z="group" then 4 else if z="limit" then 5 else if z="keep" then 3 else if z="try" then 5 else if z="do" then 4 else if z="when" then 5 else if z="repeat" then 4 else 0
theorem Dv (z:Str):(z="group"/\AG z=[3]/\Eh z=4)\/(z="limit"/\AG z=[3,4]/\Eh z=5)\/(z="keep"/\AG z=[2]/\Eh z=3)\/(z="try"/\AG z=[2,4]/\Eh z=5) \/
  (z="do"/\AG z=[2,3]/\Eh z=4)\/(z="when"/\AG z=[4]/\Eh z=5)\/(z="repeat"/\AG z=[3]/\Eh z=4) \/
  (AG z=[]/\z≠"group"/\z≠"limit"/\z≠"keep"/\z≠"try"/\z≠"do"/\z≠"when"/\z≠"repeat"):=by
 by_cases h1:z="group"
 ·subst h1;exact .inl ⟨rfl,by lk,by lk⟩
 by_cases h2:z="limit"
 ·subst h2;exact .inr (.inl ⟨rfl,by lk,by lk⟩)
 by_cases h3:z="keep"
 ·subst h3;exact .inr (.inr (.inl ⟨rfl,by lk,by lk⟩))
 by_cases h4:z="try"
 ·subst h4;exact .inr (.inr (.inr (.inl ⟨rfl,by lk,by lk⟩)))
 by_cases h5:z="do"
 ·subst h5;exact .inr (.inr (.inr (.inr (.inl ⟨rfl,by lk,by lk⟩))))
 by_cases h6:z="when"
 ·subst h6;exact .inr (.inr (.inr (.inr (.inr (.inl ⟨rfl,by lk,by lk⟩)))))
 by_cases h7:z="repeat"
 ·subst h7;exact .inr (.inr (.inr (.inr (.inr (.inr (.inl ⟨rfl,by lk,by lk⟩))))))
 ·refine .inr (.inr (.inr (.inr (.inr (.inr (.inr ⟨?_,h1,h2,h3,h4,h5,h6,h7⟩))))))
  unfold AG
  rw [if_neg h1,if_neg h2,if_neg h3,if_neg h4,if_neg h5,if_neg h6,if_neg h7]
def Cu:List V->List V
 |.str z::r=>(AG z).filterMap λi=>(V.str z::r)[i]?
 |_=>[]
theorem Ha (z:Str) (r:List V):Cu (.str z::r)=(AG z).filterMap λi=>(V.str z::r)[i]?:=rfl
theorem OY {z:Str} {r:List V} (h:AG z≠[]->r.length+1=Eh z):∀ p∈AG z,p<(V.str z::r).length:=by
 intro p hp
 rw [v0]
 rcases Dv z with ⟨_,ep,el⟩ | ⟨_,ep,el⟩ | ⟨_,ep,el⟩ | ⟨_,ep,el⟩ | ⟨_,ep,el⟩ | ⟨_,ep,el⟩ | ⟨_,ep,el⟩ | ⟨ep,_⟩
 all_goals
  rw [ep] at hp h
  simp only [S0,A2,or_false] at hp
 all_goals
  have h':=h (by simp)
  rw [el] at h'
  lia
theorem Tt {α β:Type} {f:α->Option β} {xs:List α} {i:Nat} {x:α} {y:β} (h:xs[i]?=some x) (hf:f x=some y):(xs.take i).filterMap f++[y]=(xs.take (i+1)).filterMap f:=by
 rw [Y5,h,List.filterMap_append]
 simp [hf]
theorem bT {x:Bool} {A B:Prop} (h:x=true) (a:A):if x=true then A else B:=by rw [if_pos h];exact a
theorem bF {x:Bool} {A B:Prop} (h:x=false) (b:B):if x=true then A else B:=by rw [h,if_neg Q0];exact b
theorem Rb {α:Type} {xs:List α} {v:α} (h:xs[xs.length-1]?=some v):Sw xs (-1)=some v:=by
 have hl:xs.length-1<xs.length:=(Q1.mp h).1
 have e:ixN xs.length (-1)=some (xs.length-1):=by
  unfold ixN
  have h1:¬ (0:Int)<=-1:=by lia
  simp only [h1,false_and,if_false]
  rw [if_pos (by lia),show (-1+(xs.length:Int)).toNat=xs.length-1 by lia]
 unfold Sw
 rw [e]
 exact h
def Ks:List Nat->List Value->Bool
 |[],[]=>true
 |i::r,.int j _::us=>j == (i:Int)&&Ks r us
 |_,_=>false
theorem Ob:∀ {is:List Nat} {us:List Value},Ks is us=true->AR (is.map λi=>V.int (i:Nat)) us:=by
 intro is
 induction is with
 |nil =>
  intro us h
  cases us with
  |nil=>exact .nil
  |cons u r=>cases h
 |cons i r ih =>
  intro us h
  cases us with
  |nil=>cases h
  |cons u us =>
   cases u with
   |int j t =>
    have h':(j == (i:Int)&&Ks r us)=true:=h
    rw [W1] at h'
    have e:j=(i:Int):=by simpa using h'.1
    subst e
    exact .cons ⟨t,rfl⟩ (ih h'.2)
   |_=>cases h
structure InI (K:A0) (b:Addr) (is:List Nat):Prop where
 ex:∃ (dd:Option Addr) (its:Array Value) (n:Nat) (sl:Array (Option Value)),K.lookup b=some ⟨.type "tuple",dd,.seq its n,sl⟩/\its.size<=sizeLine/\Ks is its.toList=true
theorem InI.of {K:A0} {b:Addr} {is:List Nat} {dd:Option Addr} {its:Array Value} {n:Nat} {sl:Array (Option Value)} (l:K.lookup b=some ⟨.type "tuple",dd,.seq its n,sl⟩) (s:its.size<=sizeLine) (v:Ks is its.toList=true):InI K b is:=⟨⟨dd,its,n,sl,l,s,v⟩⟩
theorem InI.sq {K:A0} {b:Addr} {is:List Nat} (i:InI K b is) (H:Hp):Bc K H b (is.map λi=>V.int (i:Nat)):=by
 obtain ⟨dd,its,n,sl,l,s,v⟩:=i.ex
 exact .inr ⟨_,its,n,l,rfl,rfl,s,Ob v⟩
structure InPPL (w:World) (K:A0):Prop where
 ex:∃ (p b1 b2 b3 b4 b5 b6 b7:Addr) (t1 t2 t3 t4 t5 t6 t7:Tok) (ep:Nat),A1 K mainGlobals "PART_PLACES"=some (some (.ref p))/\(p == sysModules)=false /\
  K.lookup p=some ⟨.type "dict",none,.dict #[⟨PyData.keyHash w.params "group",.str "group" t1,.ref b1⟩,⟨PyData.keyHash w.params "limit",.str "limit" t2,.ref b2⟩,⟨PyData.keyHash w.params "keep",.str "keep" t3,.ref b3⟩,⟨PyData.keyHash w.params "try",.str "try" t4,.ref b4⟩,⟨PyData.keyHash w.params "do",.str "do" t5,.ref b5⟩,⟨PyData.keyHash w.params "when",.str "when" t6,.ref b6⟩,⟨PyData.keyHash w.params "repeat",.str "repeat" t7,.ref b7⟩] ep,#[]⟩ /\
  InI K b1 [3]/\InI K b2 [3,4]/\InI K b3 [2]/\InI K b4 [2,4]/\InI K b5 [2,3]/\InI K b6 [4]/\InI K b7 [3]
theorem InPPL.of {w:World} {K:A0} {p b1 b2 b3 b4 b5 b6 b7:Addr} {t1 t2 t3 t4 t5 t6 t7:Tok} {ep:Nat} (a:A1 K mainGlobals "PART_PLACES"=some (some (.ref p))) 
  (l:K.lookup p=some ⟨.type "dict",none,.dict #[⟨PyData.keyHash w.params "group",.str "group" t1,.ref b1⟩,⟨PyData.keyHash w.params "limit",.str "limit" t2,.ref b2⟩,⟨PyData.keyHash w.params "keep",.str "keep" t3,.ref b3⟩,⟨PyData.keyHash w.params "try",.str "try" t4,.ref b4⟩,⟨PyData.keyHash w.params "do",.str "do" t5,.ref b5⟩,⟨PyData.keyHash w.params "when",.str "when" t6,.ref b6⟩,⟨PyData.keyHash w.params "repeat",.str "repeat" t7,.ref b7⟩] ep,#[]⟩)
  (s:(p == sysModules)=false) (q1:InI K b1 [3]) (q2:InI K b2 [3,4]) (q3:InI K b3 [2]) (q4:InI K b4 [2,4]) (q5:InI K b5 [2,3]) (q6:InI K b6 [4]) (q7:InI K b7 [3]):InPPL w K :=
 ⟨⟨p,b1,b2,b3,b4,b5,b6,b7,t1,t2,t3,t4,t5,t6,t7,ep,a,s,l,q1,q2,q3,q4,q5,q6,q7⟩⟩
theorem InPPL.get {P:Program} {w:World} {K:A0} {mg:Str->Option Value} {h:Heap} (i:InPPL w K) (X:K.In h) (G:h.Ns mainGlobals mg):∃ (pp:Addr) (pkv:List (Bw×V)),mg "PART_PLACES"=some (.ref pp)/\OE P w K pp pkv /\
  ∀ z:Str,(AG z=[]->valV pkv (.inr z)=none)/\(AG z≠[]->∃ b,valV pkv (.inr z)=some (.ref b)/\∀ H:Hp,Bc K H b ((AG z).map λi=>V.int (i:Nat))):=by
 obtain ⟨p,b1,b2,b3,b4,b5,b6,b7,t1,t2,t3,t4,t5,t6,t7,ep,a,s,l,q1,q2,q3,q4,q5,q6,q7⟩:=i.ex
 refine ⟨p,[(.inr "group",.ref b1),(.inr "limit",.ref b2),(.inr "keep",.ref b3),(.inr "try",.ref b4),(.inr "do",.ref b5),(.inr "when",.ref b6),(.inr "repeat",.ref b7)],g0 X G a,⟨s,λh' X'=>⟨[(.inr "group",.ref b1),(.inr "limit",.ref b2),(.inr "keep",.ref b3),(.inr "try",.ref b4),(.inr "do",.ref b5),(.inr "when",.ref b6),(.inr "repeat",.ref b7)],?_,_,_,_,X' _ _ l,⟨rfl,rfl,rfl⟩,rfl,?_,?_,?_⟩⟩,λz=>?_⟩
 ·exact .cons ⟨rfl,rfl⟩ (.cons ⟨rfl,rfl⟩ (.cons ⟨rfl,rfl⟩ (.cons ⟨rfl,rfl⟩ (.cons ⟨rfl,rfl⟩ (.cons ⟨rfl,rfl⟩ (.cons ⟨rfl,rfl⟩ .nil))))))
 ·intro e he
  have he':=O9.mpr he
  simp only [S0,A2,or_false] at he'
  rcases he' with rfl | rfl | rfl | rfl | rfl | rfl | rfl
  ·exact ⟨.inr "group",Bg _ t1,rfl⟩
  ·exact ⟨.inr "limit",Bg _ t2,rfl⟩
  ·exact ⟨.inr "keep",Bg _ t3,rfl⟩
  ·exact ⟨.inr "try",Bg _ t4,rfl⟩
  ·exact ⟨.inr "do",Bg _ t5,rfl⟩
  ·exact ⟨.inr "when",Bg _ t6,rfl⟩
  ·exact ⟨.inr "repeat",Bg _ t7,rfl⟩
 ·exact .cons (Bg _ t1) rfl (.cons (Bg _ t2) rfl (.cons (Bg _ t3) rfl (.cons (Bg _ t4) rfl (.cons (Bg _ t5) rfl (.cons (Bg _ t6) rfl (.cons (Bg _ t7) rfl .nil))))))
 ·show ([.inr "group",.inr "limit",.inr "keep",.inr "try",.inr "do",.inr "when",.inr "repeat"]:List Bw).Nodup
  lk
 ·have ne:∀ {y z:Str},y≠z->decide ((Sum.inr y:Bw)=Sum.inr z)=false:=λh=>decide_eq_false λe=>h (Sum.inr.inj e)
  unfold valV
  rcases Dv z with ⟨rfl,ep,_⟩ | ⟨rfl,ep,_⟩ | ⟨rfl,ep,_⟩ | ⟨rfl,ep,_⟩ | ⟨rfl,ep,_⟩ | ⟨rfl,ep,_⟩ | ⟨rfl,ep,_⟩ | ⟨ep,n1,n2,n3,n4,n5,n6,n7⟩
  ·refine ⟨λh=>absurd (ep.symm.trans h) (by kd_p),λ_=>⟨b1,?_,λH=>by rw [ep];exact q1.sq H⟩⟩
   kernel_rfl
  ·refine ⟨λh=>absurd (ep.symm.trans h) (by kd_p),λ_=>⟨b2,?_,λH=>by rw [ep];exact q2.sq H⟩⟩
   kernel_rfl
  ·refine ⟨λh=>absurd (ep.symm.trans h) (by kd_p),λ_=>⟨b3,?_,λH=>by rw [ep];exact q3.sq H⟩⟩
   kernel_rfl
  ·refine ⟨λh=>absurd (ep.symm.trans h) (by kd_p),λ_=>⟨b4,?_,λH=>by rw [ep];exact q4.sq H⟩⟩
   kernel_rfl
  ·refine ⟨λh=>absurd (ep.symm.trans h) (by kd_p),λ_=>⟨b5,?_,λH=>by rw [ep];exact q5.sq H⟩⟩
   kernel_rfl
  ·refine ⟨λh=>absurd (ep.symm.trans h) (by kd_p),λ_=>⟨b6,?_,λH=>by rw [ep];exact q6.sq H⟩⟩
   kernel_rfl
  ·refine ⟨λh=>absurd (ep.symm.trans h) (by kd_p),λ_=>⟨b7,?_,λH=>by rw [ep];exact q7.sq H⟩⟩
   kernel_rfl
  ·refine ⟨λ_=>?_,λh=>absurd ep h⟩
   rw [T0,ne (Ne.symm n1),T0,ne (Ne.symm n2),T0,ne (Ne.symm n3),T0,ne (Ne.symm n4),T0,ne (Ne.symm n5),T0,ne (Ne.symm n6),T0,ne (Ne.symm n7)];rfl
inductive Rw where
 |mk (w:Str) (ln:Int) (xs:List Str) (k:Int) (ps:List (List Rw))
def Rw.w:Rw->Str | .mk w _ _ _ _=>w
def Rw.ln:Rw->Int | .mk _ l _ _ _=>l
def Rw.xs:Rw->List Str | .mk _ _ x _ _=>x
def Rw.k:Rw->Int | .mk _ _ _ k _=>k
def Rw.ps:Rw->List (List Rw) | .mk _ _ _ _ p=>p
set_option genInjectivity false in
structure Er where
 ln:Int
 nm:Str
 rows:List Rw
def AC:Nat->List Rw->List Rw
 |0,_=>[]
 |n+1,rs=>rs.flatMap λr=>r::r.ps.flatMap (AC n)
set_option genInjectivity false in
structure Fg where
 deep:Nat
 last:Bool
 gr:List Str
 cl:Bool
def Fg.within (sp:Fg) (r:Rw) (i:Nat):Fg:=⟨sp.deep+1,sp.last||(decide (r.w="do")&&decide (i=1)),sp.gr++(if r.w="group" then r.xs.take 1 else []),false⟩
def BP:Nat->Fg->Rw->List (Rw×Fg)
 |0,_,_=>[]
 |n+1,sp,r=>(r,sp)::r.ps.zipIdx.flatMap λq=>q.1.flatMap (BP n (sp.within r q.2))
def Ng (m i:Nat):Fg:=⟨0,false,[],decide (i+1=m)⟩
def Gn (n:Nat) (rs:List Rw):List (Rw×Fg):=rs.zipIdx.flatMap λq=>BP n (Ng rs.length q.2) q.1
def MY:List Str:=["wait", "ring", "send", "let", "when", "repeat"]
def Rw.x (r:Rw) (i:Nat):Str:=r.xs.getD i ""
def Ix (r:Rw) (sp:Fg):Bool:=if r.w="begin" then !decide (r.x 2∈sp.gr) else decide (r.w="group")&&decide (r.x 0∈sp.gr)
def Iw (r:Rw) (lab grp:List Str):Bool:=if r.w="begin" then decide (r.x 0∈grp) else decide (r.w="ask")&&!decide (r.x 0∈lab)
def MR (r:Rw) (sp:Fg) (lab:List Str):Bool:=decide (r.w="off")&&!decide (r.x 0∈lab)&&!decide (r.x 0∈sp.gr)
def FO (r:Rw) (sp:Fg) (lab grp ah:List Str):Option Str :=
 if 6<sp.deep then some "deep" else if sp.last=true/\r.w∉MY then some "last" else if r.w="give"/\sp.cl=false then some "give" else if r.w="begin"/\r.x 1∉ah then some "errand"
 else if Ix r sp=true then some "group" else if Iw r lab grp=true then some "label" else if MR r sp lab=true then some "off" else none
def DO (all:List Rw):List Str:=(all.filter λr=>decide (r.w=("begin":Str))).map λr=>r.x 0
def Fa (all:List Rw):List Str:=(all.filter λr=>decide (r.w=("group":Str))).map λr=>r.x 0
def Gm (lab grp ah:List Str) (q:Rw×Fg):Option (Int×Str):=(FO q.1 q.2 lab grp ah).map λw=>(q.1.ln,w)
def FM (n:Nat) (ah:List Str) (e:Er):Option (Int×Str):=if e.nm∈ah then some (e.ln, "twice") else (Gn n e.rows).findSome? (Gm (DO (AC n e.rows)) (Fa (AC n e.rows)) ah)
def DP (n:Nat):List Str->List Er->Option (Int×Str)
 |_,[]=>none
 |ah,e::r=>match FM n ah e with
  |some x=>some x
  |none=>DP n (ah++[e.nm]) r
def PU (n:Nat) (es:List Er):List Rw:=es.flatMap λe=>AC n e.rows
def FB (n:Nat) (es:List Er):Option (Int×Str):=match es[12]? with
 |some e=>some (e.ln, "many")
 |none=>match (PU n es)[200]? with
  |some r=>some (r.ln, "long")
  |none=>none
def Pc (o:Bool) (r:Rw):Int:=if o=true then (if r.w="begin" then 1 else 0) else 1
def JH (o:Bool) (A:Str->Int):Nat->List Rw->Int
 |0,_=>0
 |n+1,rs=>(rs.map λr=>Pc o r+(if r.w="begin" then A (r.x 1) else (r.ps.map (JH o A n)).sum*r.k)).sum
def SU (o:Bool) (it:Int) (n:Nat) (A:Str->Int) (e:Er):Str->Int:=λm=>if m=e.nm then it+JH o A n e.rows else A m
def AP (o:Bool) (it:Int) (n:Nat) (es:List Er):Str->Int:=es.foldl (SU o it n) (λ_=>0)
def Ej (es:List Er):Er:=es.getLastD ⟨0, "",[]⟩
def Iv (n:Nat) (es:List Er):Option (Int×Str):=if 300<AP false 1 n es (Ej es).nm then some ((Ej es).ln, "weight") else if 30<AP true 0 n es (Ej es).nm then some ((Ej es).ln, "begun") else none
def Eg (n:Nat) (es:List Er):Option (Int×Str):=match FB n es with
 |some x=>some x
 |none=>match DP n [] es with
  |some x=>some x
  |none=>Iv n es
def deepP (m:Nat):Nat->Nat->List Rw->Option Int
 |0,_,_=>none
 |n+1,d,rs=>rs.findSome? λr=>if m<d then some r.ln else r.ps.findSome? (deepP m n (d+1))
def deepsP (n:Nat):List Er->Option (Int×Str)
 |[]=>none
 |e::r=>match deepP 6 n 0 e.rows with
  |some l=>some (l, "deep")
  |none=>deepsP n r
section
variable {L G ah:List Str}
end
theorem JP (n:Nat) (a b:List Rw):AC n (a++b)=AC n a++AC n b:=by
 cases n with
 |zero=>rfl
 |succ n=>exact C8
theorem SB {n:Nat} {rs:List Rw} {r q:Rw} (hr:r∈rs) (h:q∈AC n [r]):q∈AC n rs:=by
 cases n with
 |zero=>cases h
 |succ n =>
  have h':q∈r::r.ps.flatMap (AC n):=by
   have:q∈[r].flatMap λr=>r::r.ps.flatMap (AC n):=h
   simpa using this
  exact x5.mpr ⟨r,hr,h'⟩
def Jb:V->Bool
 |.ref _=>true
 |_=>false
def IS (v:V):Prop:=(∃ n,v=.int n)\/∃ s,v=.str s
theorem IS.noRef {v:V} (h:IS v):Jb v=false:=by
 rcases h with ⟨n,rfl⟩ | ⟨s,rfl⟩<;>rfl
structure Args (w:Str) (rr:List V) (xs:List Str) (k:Int):Prop where
 be:w="begin"->∃ (l m g:Str) (z:Int),rr=[.str l,.str m,.str g,.int z]/\xs=[l,m,g]
 nm:w="group"\/w="ask"\/w="off"->∃ (x:Str) (r:List V),rr=.str x::r/\xs=[x]
 re:w="repeat"->∃ p,rr=[.int k,p]/\1<=k/\k<=9
 on:w≠"repeat"->k=1
def BT {α:Type} (R:V->α->Prop) (ys:List V) (rs:List α):Prop:=ys.length=rs.length/\∀ (i:Nat) (y:V) (r:α),ys[i]?=some y->rs[i]?=some r->R y r
theorem BT.nil {α:Type} {R:V->α->Prop}:BT R [] []:=⟨rfl,λ_ _ _ h=>nomatch h⟩
theorem BT.mono {α:Type} {R R':V->α->Prop} {ys:List V} {rs:List α} (h:BT R ys rs) (k:∀ y r,r∈rs->R y r->R' y r):BT R' ys rs:=⟨h.1,λi y r a b=>k y r (j0 b) (h.2 i y r a b)⟩
theorem BT.snoc {α:Type} {R:V->α->Prop} {ys:List V} {rs:List α} {y:V} {r:α} (h:BT R ys rs) (q:R y r):BT R (ys++[y]) (rs++[r]):=by
 refine ⟨by rw [K0,K0,h.1];rfl,λi x u hx hu=>?_⟩
 by_cases lt:i<ys.length
 ·rw [Q2 lt] at hx
  rw [Q2 (by rw [<- h.1];exact lt)] at hu
  exact h.2 i x u hx hu
 ·have hi:i=ys.length:=by
   have:=(Q1.mp hx).1
   rw [K0,l7] at this
   lia
  subst hi
  rw [T3 (P0 _),O8] at hx
  rw [h.1,T3 (P0 _),O8] at hu
  cases hx;cases hu
  exact q
theorem BT.app {α:Type} {R:V->α->Prop} {ys zs:List V} {rs us:List α} (h:BT R ys rs) (q:BT R zs us):BT R (ys++zs) (rs++us):=by
 refine ⟨by rw [K0,K0,h.1,q.1],λi x t hx ht=>?_⟩
 by_cases lt:i<ys.length
 ·rw [Q2 lt] at hx
  rw [Q2 (by rw [<- h.1];exact lt)] at ht
  exact h.2 i x t hx ht
 ·rw [T3 (by lia)] at hx
  rw [T3 (by rw [<- h.1];lia),<- h.1] at ht
  exact q.2 _ x t hx ht
theorem BT.get {α:Type} {R:V->α->Prop} {ys:List V} {rs:List α} (h:BT R ys rs) {i:Nat} {y:V} (hy:ys[i]?=some y):∃ r,rs[i]?=some r/\R y r:=by
 have lt:i<rs.length:=by rw [<- h.1];exact (Q1.mp hy).1
 exact ⟨rs[i],Y1 lt,h.2 i y _ hy (Y1 lt)⟩
def BS:Nat->Hp->V->Rw->Prop
 |0,_,_,_=>False
 |n+1,H,v,r=>∃ (a:Addr) (rr:List V),v=.ref a/\H a=some (.tup (.str r.w::.int r.ln::rr))/\(AG r.w≠[]->rr.length+2=Eh r.w)/\rr.length<=9/\rr.filter Jb=Cu (.str r.w::.int r.ln::rr)/\(∀ x∈rr,Jb x=true\/IS x)/\Args r.w rr r.xs r.k /\
  BT (λp q=>∃ (b:Addr) (ys:List V),p=.ref b/\H b=some (.tup ys)/\ys.length<=1000/\BT (BS n H) ys q) (Cu (.str r.w::.int r.ln::rr)) r.ps
def Gk (n:Nat) (H:Hp) (p:V) (q:List Rw):Prop:=∃ (b:Addr) (ys:List V),p=.ref b/\H b=some (.tup ys)/\ys.length<=1000/\BT (BS n H) ys q
def DQ (H H':Hp):Prop:=∀ c xs,H c=some (.tup xs)->H' c=some (.tup xs)
theorem DQ.of {H H':Hp} (s:Af H H'):DQ H H':=λc _ h=>s c _ h
theorem BS.ts {H H':Hp} (s:DQ H H'):∀ {n:Nat} {v:V} {r:Rw},BS n H v r->BS n H' v r
 |0,_,_,h=>h
 |n+1,v,r,h=>by
  obtain ⟨a,rr,e1,e2,e3,e4,e5,e6,e7,e8⟩:=h
  refine ⟨a,rr,e1,s a _ e2,e3,e4,e5,e6,e7,e8.mono λp q _ ⟨b,ys,f1,f2,f3,f4⟩=>⟨b,ys,f1,s b _ f2,f3,f4.mono λy r _ z=>z.ts s⟩⟩
theorem Gk.ts {H H':Hp} (s:DQ H H') {n:Nat} {v:V} {q:List Rw} (h:Gk n H v q):Gk n H' v q:=by
 obtain ⟨b,ys,f1,f2,f3,f4⟩:=h
 exact ⟨b,ys,f1,s b _ f2,f3,f4.mono λy r _ z=>z.ts s⟩
structure RowS (n:Nat) (H:Hp) (r:Rw) (rr:List V):Prop where
 len:AG r.w≠[]->rr.length+2=Eh r.w
 le:rr.length<=9
 fi:rr.filter Jb=Cu (.str r.w::.int r.ln::rr)
 is:∀ x∈rr,Jb x=true\/IS x
 ar:Args r.w rr r.xs r.k
 pa:BT (Gk n H) (Cu (.str r.w::.int r.ln::rr)) r.ps
theorem BS.sh {n:Nat} {H:Hp} {v:V} {r:Rw} (ok:BS (n+1) H v r):∃ (a:Addr) (rr:List V),v=.ref a/\H a=some (.tup (.str r.w::.int r.ln::rr))/\RowS n H r rr:=by
 obtain ⟨a,rr,e1,e2,e3,e4,e5,e6,e7,e8⟩:=ok
 exact ⟨a,rr,e1,e2,e3,e4,e5,e6,e7,e8⟩
theorem row_of {n:Nat} {H:Hp} {a:Addr} {r:Rw} {rr:List V} (h:H a=some (.tup (.str r.w::.int r.ln::rr))) (s:RowS n H r rr):BS (n+1) H (.ref a) r:=⟨a,rr,rfl,h,s.len,s.le,s.fi,s.is,s.ar,s.pa⟩
theorem ppk_of {K:A0} {pkv:List (Bw×V)} (pv:∀ z:Str,(AG z=[]->valV pkv (.inr z)=none)/\(AG z≠[]->∃ b,valV pkv (.inr z)=some (.ref b)/\∀ H:Hp,Bc K H b ((AG z).map λi=>V.int (i:Nat)))) (z:Str):(valV pkv (.inr z)).isSome=decide (z∈PPW):=by
 by_cases h:z∈PPW
 ·have hp:AG z≠[]:=by
   simp only [PPW,S0,A2,or_false] at h
   rcases h with rfl | rfl | rfl | rfl | rfl | rfl | rfl<;>lk
  obtain ⟨b,e,_⟩:=(pv z).2 hp
  rw [e,decide_eq_true h]
  rfl
 ·have hp:AG z=[]:=by
   simp only [PPW,S0,A2,or_false,not_or] at h
   obtain ⟨h1,h2,h3,h4,h5,h6,h7⟩:=h
   rcases Dv z with ⟨e,_⟩ | ⟨e,_⟩ | ⟨e,_⟩ | ⟨e,_⟩ | ⟨e,_⟩ | ⟨e,_⟩ | ⟨e,_⟩ | ⟨e,_⟩
   ·exact absurd e h1
   ·exact absurd e h2
   ·exact absurd e h3
   ·exact absurd e h4
   ·exact absurd e h5
   ·exact absurd e h6
   ·exact absurd e h7
   ·exact e
  rw [(pv z).1 hp,decide_eq_false h]
  rfl
def EVS:List Str:=["at NUMBER ring NAME", "at NUMBER send NAME TOLD", "at NUMBER off NUMBER"]
def SLO:List Str:=["at", "ring", "NAME", "send", "TOLD", "off"]
structure InBD (w:World) (K:A0):Prop where
 ex:∃ (p b1 b2 b3 b4 b5 b6 b7:Addr) (t1 t2 t3 t4 t5 t6 t7:Tok) (ep:Nat),A1 K mainGlobals "BOUNDS"=some (some (.ref p))/\(p == sysModules)=false /\
  K.lookup p=some ⟨.type "dict",none,.dict #[⟨PyData.keyHash w.params "TICK",.str "TICK" t1,.ref b1⟩,⟨PyData.keyHash w.params "LINE",.str "LINE" t2,.ref b2⟩,⟨PyData.keyHash w.params "SCOPE",.str "SCOPE" t3,.ref b3⟩,⟨PyData.keyHash w.params "ERRAND",.str "ERRAND" t4,.ref b4⟩,⟨PyData.keyHash w.params "NUMBER",.str "NUMBER" t5,.ref b5⟩,⟨PyData.keyHash w.params "WITHIN",.str "WITHIN" t6,.ref b6⟩,⟨PyData.keyHash w.params "TICKS",.str "TICKS" t7,.ref b7⟩] ep,#[]⟩/\InI K b5 [0,9999]
theorem InBD.of {w:World} {K:A0} {p b1 b2 b3 b4 b5 b6 b7:Addr} {t1 t2 t3 t4 t5 t6 t7:Tok} {ep:Nat} (a:A1 K mainGlobals "BOUNDS"=some (some (.ref p)))
  (l:K.lookup p=some ⟨.type "dict",none,.dict #[⟨PyData.keyHash w.params "TICK",.str "TICK" t1,.ref b1⟩,⟨PyData.keyHash w.params "LINE",.str "LINE" t2,.ref b2⟩,⟨PyData.keyHash w.params "SCOPE",.str "SCOPE" t3,.ref b3⟩,⟨PyData.keyHash w.params "ERRAND",.str "ERRAND" t4,.ref b4⟩,⟨PyData.keyHash w.params "NUMBER",.str "NUMBER" t5,.ref b5⟩,⟨PyData.keyHash w.params "WITHIN",.str "WITHIN" t6,.ref b6⟩,⟨PyData.keyHash w.params "TICKS",.str "TICKS" t7,.ref b7⟩] ep,#[]⟩) (s:(p == sysModules)=false) (q5:InI K b5 [0,9999]):InBD w K :=
 ⟨⟨p,b1,b2,b3,b4,b5,b6,b7,t1,t2,t3,t4,t5,t6,t7,ep,a,s,l,q5⟩⟩
theorem InBD.get {P:Program} {w:World} {K:A0} {mg:Str->Option Value} {h:Heap} (i:InBD w K) (X:K.In h) (G:h.Ns mainGlobals mg):∃ (a:Addr) (kvs:List (Bw×V)),mg "BOUNDS"=some (.ref a)/\OE P w K a kvs/\(∃ c,valV kvs (.inr "NUMBER")=some (.ref c)/\∀ H:Hp,Bc K H c [.int 0,.int 9999])/\∀ z∈SLO,valV kvs (.inr z)=none:=by
 obtain ⟨p,b1,b2,b3,b4,b5,b6,b7,t1,t2,t3,t4,t5,t6,t7,ep,a,s,l,q5⟩:=i.ex
 refine ⟨p,([("TICK",.ref b1),("LINE",.ref b2),("SCOPE",.ref b3),("ERRAND",.ref b4),("NUMBER",.ref b5),("WITHIN",.ref b6),("TICKS",.ref b7)]:List (Str×V)).map λx=>((.inr x.1:Bw),x.2),g0 X G a,PL [("TICK",t1,.ref b1),("LINE",t2,.ref b2),("SCOPE",t3,.ref b3),("ERRAND",t4,.ref b4),("NUMBER",t5,.ref b5),("WITHIN",t6,.ref b6),("TICKS",t7,.ref b7)] l s ?_ ?_,⟨b5,?_,λH=>q5.sq H⟩,λz hz=>?_⟩
 ·show (["TICK", "LINE", "SCOPE", "ERRAND", "NUMBER", "WITHIN", "TICKS"]:List Str).Nodup
  lk
 ·exact .cons ⟨rfl,rfl⟩ (.cons ⟨rfl,rfl⟩ (.cons ⟨rfl,rfl⟩ (.cons ⟨rfl,rfl⟩ (.cons ⟨rfl,rfl⟩ (.cons ⟨rfl,rfl⟩ (.cons ⟨rfl,rfl⟩ .nil))))))
 ·have ne:∀ {y z:Str},y≠z->decide ((Sum.inr y:Bw)=Sum.inr z)=false:=λh=>decide_eq_false λe=>h (Sum.inr.inj e)
  have eq:∀ (y:Str),decide ((Sum.inr y:Bw)=Sum.inr y)=true:=λy=>decide_eq_true rfl
  unfold valV
  simp only [j2]
  rw [T0,ne (by lk),T0,ne (by lk),T0,ne (by lk),T0,ne (by lk),T0,eq]
  rfl
 ·have e:=Rk (L:=[("TICK",V.ref b1),("LINE",.ref b2),("SCOPE",.ref b3),("ERRAND",.ref b4),("NUMBER",.ref b5),("WITHIN",.ref b6),("TICKS",.ref b7)]) z
  have n:decide (z∈(["TICK", "LINE", "SCOPE", "ERRAND", "NUMBER", "WITHIN", "TICKS"]:List Str))=false:=by
   have:SLO.all (λz=>!decide (z∈(["TICK", "LINE", "SCOPE", "ERRAND", "NUMBER", "WITHIN", "TICKS"]:List Str)))=true:=by lk
   have:=C2.mp this z hz
   simpa using this
  have e:=e.trans n
  exact Option.not_isSome_iff_eq_none.mp (by rw [e];exact Q0)

def top (i:Nat):Stmt:=PySem.Challenge.pw_nightwatch_k90_desk_rows.main.body.getD i (.Pass ⟨0,0,0,0⟩)

set_option genInjectivity false in
structure Tx (P:Program) (w:World) (K:A0) (mg:Str->Option Value) where
 fU:Dl K mg "is_letters" (top 14) ["text"]
 fW:Dl K mg "is_name" (top 15) ["thing"]
 fX:Dl K mg "is_told_word" (top 16) ["text"]
 iY:Dl K mg "is_value" (top 17) ["thing"]
 dh:Dl K mg "is_block_word" (top 18) ["word"]
 dJ:Dl K mg "number_of" (top 28) ["word"]
 iL:Dl K mg "bounded" (top 29) ["word", "least", "greatest"]
 hJ:Dl K mg "value_of" (top 30) ["word"]
 bW:Dl K mg "field_of" (top 31) ["slot", "word"]
 fY:Dl K mg "fitted" (top 32) ["slots", "words", "field_at"]
 dL:Dl K mg "first_fit" (top 33) ["forms", "words", "field_at"]
 jf:Dl K mg "row_of" (top 34) ["fields", "number"]
 hU:Dl K mg "read" (top 37) ["text"]
 di:Dl K mg "parts" (top 19) ["row"]
 hV:Dl K mg "walk" (top 20) ["rows"]
 eD:Dl K mg "each_row" (top 53) ["row"]
 cL:Dl K mg "each_begin" (top 54) ["row"]
 jL:Dl K mg "added" (top 55) ["row", "own", "ahead"]
 eE:Dl K mg "counted" (top 56) ["rows", "own", "ahead"]
 gS:Dl K mg "of_last" (top 57) ["program", "own", "itself"]
 jO:Dl K mg "weight" (top 58) ["program"]
 kB:Dl K mg "begun" (top 59) ["program"]
 db:Dl K mg "spot_within" (top 68) ["row", "spot", "place"]
 eF:Dl K mg "spots_in" (top 69) ["row", "spot"]
 iZ:Dl K mg "spots_of" (top 70) ["rows"]
 fZ:Dl K mg "is_bad_group" (top 72) ["row", "spot"]
 f9:Dl K mg "is_bad_label" (top 73) ["row", "naming"]
 ic:Dl K mg "is_bad_off" (top 74) ["row", "spot", "naming"]
 ie:Dl K mg "wrong_word" (top 75) ["row", "spot", "naming"]
 aO:Dl K mg "look_at_counts" (top 76) ["program"]
 aP:Dl K mg "look_at_errand" (top 77) ["errand", "ahead"]
 aQ:Dl K mg "look_at_bounds" (top 78) ["program"]
 fw:Dl K mg "look" (top 79) ["program"]
 jr:Dl K mg "faults_of_word" (top 50) ["word"]
 jH:Dl K mg "is_event_deed" (top 119) ["deed"]
 kP:Dl K mg "does_row" (top 121) ["night", "row"]
 i9:Dl K mg "row_text" (top 48) ["row"]
 jP:Dl K mg "outcome_text" (top 43) ["outcome"]
 kN:Dl K mg "deed_text" (top 45) ["deed"]
 fA:Dl K mg "told_value_of" (top 49) ["word"]
 aJ:Dl K mg "field_at" (top 51) ["slot", "word"]
 ja:Dl K mg "might_of" (top 106) ["rows"]
 ig:Dl K mg "with_begun" (top 112) ["pairs", "reach"]
 jb:Dl K mg "reach_of" (top 113) ["program"]
 gz:Dl K mg "events_told" (top 120) ["rows"]
 iM:DefE K mg "risen" (top 122) ["program", "rows", "events", "picks"]
 ii:Dl K mg "state_text" (top 127) ["night", "number"]
 jQ:Dl K mg "_law_held" (top 130) ["_law_held_here"]
 js:Dl K mg "_law_mixed" (top 131) ["_law_cell", "_law_k"]
 kC:Dl K mg "_law_row" (top 132) ["_law_pick"]
 eG:Dl K mg "_law_number" (top 133) ["_law_word", "_law_most"]
 jt:Dl K mg "_law_event" (top 134) ["_law_words"]
 ju:Dl K mg "_law_begun" (top 135) ["_law_model"]
 jM:Dl K mg "_law_due" (top 136) ["_law_model", "_law_row_here"]
 ae:Addr
 eI:FN K ae
 kY:mg "Unended"=some (.ref ae)
 jR:Aq K ae "head"
 jS:Aq K ae "rows"
 jv:Aq K ae "turned"
 iy:Aq K ae "turn_fields"
 jw:Aq K ae "others"
 aT:Bv K ae "__init__" "Unended.__init__" (Ag (top 35) 0) ["self", "head"]
 bB:Bv K ae "put" "Unended.put" (Ag (top 35) 1) ["self", "row"]
 aU:Bv K ae "may_turn" "Unended.may_turn" (Ag (top 35) 2) ["self", "word"]
 cG:Bv K ae "turn" "Unended.turn" (Ag (top 35) 3) ["self", "turn_fields"]
 bq:Bv K ae "may_end" "Unended.may_end" (Ag (top 35) 4) ["self"]
 ce:Bv K ae "whole" "Unended.whole" (Ag (top 35) 5) ["self"]
 kZ:Mk K ae aT.f
 al:Addr
 gT:FN K al
 k9:mg "Reading"=some (.ref al)
 jg:Aq K al "program"
 jh:Aq K al "unended"
 aV:Bv K al "__init__" "Reading.__init__" (Ag (top 36) 0) ["self"]
 bH:Bv K al "allows" "Reading.allows" (Ag (top 36) 1) ["self", "word"]
 aW:Bv K al "put_line" "Reading.put_line" (Ag (top 36) 2) ["self", "fields", "number"]
 aw:Bv K al "end_innermost" "Reading.end_innermost" (Ag (top 36) 3) ["self"]
 aX:Bv K al "is_whole" "Reading.is_whole" (Ag (top 36) 4) ["self"]
 lc:Mk K al aV.f
 am:Addr
 bI:FN K am
 lh:mg "Spot"=some (.ref am)
 bV:Aq K am "deep"
 gb:Aq K am "in_last"
 ap:Aq K am "groups_round"
 iz:Aq K am "closing"
 bo:Bv K am "__init__" "Spot.__init__" (Ag (top 67) 0) ["self", "deep", "in_last", "groups_round", "closing"]
 lj:Mk K am bo.f
 aj:Addr
 gc:FN K aj
 ll:mg "Naming"=some (.ref aj)
 iA:Aq K aj "ahead"
 fB:Aq K aj "labels"
 fh:Aq K aj "group_names"
 br:Bv K aj "__init__" "Naming.__init__" (Ag (top 71) 0) ["self", "rows", "ahead"]
 lx:Mk K aj br.f
 dq:Addr
 lR:FN K dq
 lS:mg "Lines"=some (.ref dq)
 jT:Aq K dq "places"
 bJ:Bv K dq "__init__" "Lines.__init__" (Ag (top 81) 0) ["self"]
 lT:Mk K dq bJ.f
 du:Addr
 lU:FN K du
 lV:mg "Bells"=some (.ref du)
 jU:Aq K du "places"
 bK:Bv K du "__init__" "Lines.__init__" (Ag (top 81) 0) ["self"]
 lW:Mk K du bK.f
 cz:Addr
 kU:FN K cz
 lX:mg "Boxes"=some (.ref cz)
 jV:Aq K cz "takers"
 kD:Aq K cz "mail"
 bL:Bv K cz "__init__" "Boxes.__init__" (Ag (top 85) 0) ["self"]
 lY:Mk K cz bL.f
 aN:Addr
 jN:FN K aN
 lZ:mg "Clock"=some (.ref aN)
 ji:Aq K aN "tick"
 jx:Aq K aN "standing"
 bM:Bv K aN "__init__" "Clock.__init__" (Ag (top 87) 0) ["self"]
 fj:Bv K aN "now" "Clock.now" (Ag (top 87) 1) ["self"]
 l9:Mk K aN bM.f
 aB:Addr
 jj:FN K aB
 ly:mg "Groups"=some (.ref aB)
 jI:Aq K aB "opened"
 jy:Aq K aB "members"
 iB:Aq K aB "opened_ever"
 jk:Aq K aB "put_ever"
 bu:Bv K aB "__init__" "Groups.__init__" (Ag (top 91) 0) ["self"]
 lA:Mk K aB bu.f
 aA:Addr
 iN:FN K aA
 ma:mg "Frame"=some (.ref aA)
 kE:Aq K aA "rows"
 kF:Aq K aA "line"
 kf:Aq K aA "scope"
 jc:Aq K aA "begun_rows"
 kg:Aq K aA "named"
 kH:Aq K aA "held"
 bN:MDefD K aA "__init__" "Frame.__init__" (Ag (top 97) 0) ["self", "rows", "line", "scope"]
 mf:Mk K aA bN.f
 ad:Addr
 aR:FN K ad
 ld:mg "Machine"=some (.ref ad)
 jz:Aq K ad "frames"
 iC:Aq K ad "last_scope"
 ij:Aq K ad "named_values"
 jJ:Aq K ad "given"
 jK:Aq K ad "marks"
 jA:Aq K ad "signal"
 jB:Aq K ad "struck"
 iD:Aq K ad "want"
 gW:Aq K ad "ending"
 aY:Bv K ad "__init__" "Machine.__init__" (Ag (top 108) 0) ["self", "rows"]
 bv:Bv K ad "waiting" "Machine.waiting" (Ag (top 108) 1) ["self"]
 bw:Bv K ad "outcome" "Machine.outcome" (Ag (top 108) 2) ["self"]
 lg:Mk K ad aY.f
 ac:Addr
 ao:FN K ac
 kW:mg "Night"=some (.ref ac)
 fT:Aq K ac "errand_rows"
 kj:Aq K ac "reach"
 jW:Aq K ac "coming"
 jd:Aq K ac "picks_left"
 iT:Aq K ac "clock"
 km:Aq K ac "bells"
 ko:Aq K ac "boxes"
 jX:Aq K ac "groups"
 gA:Aq K ac "names"
 bO:Aq K ac "machines"
 kx:Aq K ac "asked"
 iU:Aq K ac "queue"
 iV:Aq K ac "pages"
 jY:Aq K ac "marked"
 iW:Aq K ac "woken"
 aS:MDefE K ac "__init__" "Night.__init__" (Ag (top 115) 0) ["self", "program", "events", "picks"]
 fk:Bv K ac "now" "Night.now" (Ag (top 115) 3) ["self"]
 ay:Bv K ac "book" "Night.book" (Ag (top 115) 4) ["self"]
 cg:Bv K ac "errands" "Night.errands" (Ag (top 115) 6) ["self"]
 aK:Bv K ac "waiting" "Night.waiting" (Ag (top 115) 7) ["self", "number"]
 aL:Bv K ac "outcome" "Night.outcome" (Ag (top 115) 8) ["self", "number"]
 au:Bv K ac "machine_at" "Night.machine_at" (Ag (top 115) 11) ["self", "number"]
 aZ:Bv K ac "new_errand" "Night.new_errand" (Ag (top 115) 27) ["self", "name"]
 ba:Bv K ac "come_ready" "Night.come_ready" (Ag (top 115) 28) ["self", "number"]
 jl:Bv K ac "step" "Night.step" (Ag (top 115) 14) ["self"]
 jG:Bv K ac "run" "Night.run" (Ag (top 115) 15) ["self"]
 mh:Bv K ac "knot" "Night.knot" (Ag (top 115) 10) ["self"]
 kX:Mk K ac aS.f
 af:Addr
 ak:FN K af
 lB:mg "Desk"=some (.ref af)
 cA:Aq K af "told_lines"
 av:Aq K af "told_events"
 bA:Aq K af "told_picks"
 ge:Aq K af "program"
 az:Aq K af "night"
 bp:Bv K af "__init__" "Desk.__init__" (Ag (top 128) 0) ["self"]
 dv:Bv K af "say" "Desk.say" (Ag (top 128) 1) ["self", "row"]
 aM:Bv K af "answer_ahead" "Desk.answer_ahead" (Ag (top 128) 2) ["self", "row"]
 cj:Bv K af "put_text" "Desk.put_text" (Ag (top 128) 3) ["self", "line"]
 ck:Bv K af "put_pick" "Desk.put_pick" (Ag (top 128) 4) ["self", "number"]
 bP:Bv K af "put_event" "Desk.put_event" (Ag (top 128) 5) ["self", "fields"]
 bf:Bv K af "begin_night" "Desk.begin_night" (Ag (top 128) 6) ["self"]
 aH:Bv K af "answer_behind" "Desk.answer_behind" (Ag (top 128) 7) ["self", "words"]
 aC:Bv K af "answer_counted" "Desk.answer_counted" (Ag (top 128) 8) ["self", "word", "number"]
 bQ:Bv K af "who_lines" "Desk.who_lines" (Ag (top 128) 9) ["self"]
 gx:Bv K af "knot_lines" "Desk.knot_lines" (Ag (top 128) 10) ["self"]
 bR:Bv K af "rise_from" "Desk.rise_from" (Ag (top 128) 11) ["self", "rows"]
 lC:Mk K af bp.f
 kwa:Addr
 kwm:mg "KEY_WORDS"=some (.ref kwa)
 kwt:∀ H:Hp,Bc K H kwa (MX.map V.str)
 fma:Addr
 fmm:mg "FORMS"=some (.ref fma)
 fmt:∀ H:Hp,Bc K H fma (FORMS.map V.str)
 twa:Addr
 twm:mg "TURN_WORDS"=some (.ref twa)
 twt:∀ H:Hp,Bc K H twa (TWS.map V.str)
 mlt:Tok
 mlm:mg "MOST_LETTERS"=some (.int 8 mlt)
 mvt:Tok
 mvm:mg "MOST_VALUE"=some (.int 999999 mvt)
 mft:Tok
 mfm:mg "MOST_FIGURES"=some (.int 6 mft)
 mdt:Tok
 mdm:mg "MOST_DEEP_reader"=some (.int 20 mdt)
 gra:Addr
 grm:mg "GREATEST"=some (.ref gra)
 grd:OE P w K gra GRkv
 tua:Addr
 tum:mg "TURNS"=some (.ref tua)
 tud:OE P w K tua PZ
 il:Addr
 mr:mg "BadClock"=some (.ref il)
 fV:Addr
 mi:mg "NotWaiting"=some (.ref fV)
 kI:Addr
 nF:mg "Over"=some (.ref kI)
 aa:Addr
 cM:mg "BadProgram"=some (.ref aa)
 iO:Addr
 nj:mg "BadBook"=some (.ref iO)
 bX:Addr
 x_WatchError:XCls K mg "WatchError" bX
 mj:mg "WatchError"=some (.ref bX)
 ag:Addr
 kO:mg "BadRow"=some (.ref ag)
 aI:Bv K ag "__init__" "BadRow.__init__" (Ag (top 6) 0) ["self", "line"]
 mk_BadRow:MkE K ag aI.f
 cH:Q4 K ag "line"=some none
 bS:G0 K (.ref ag) "line"=some none
 eJ:T4 K ag=true
 ky:Vn K mg "BadRow" ag
 ax:FF K ag
 lQ:Vn K mg "WatchError" bX
 cwa:Addr
 cwm:mg "CLEAN_WORDS"=some (.ref cwa)
 cwt:∀ H:Hp,Bc K H cwa (MY.map V.str)
 met:Tok
 mem:mg "MOST_ERRANDS"=some (.int 12 met)
 mrt:Tok
 mrm:mg "MOST_ROWS"=some (.int 200 mrt)
 mdlt:Tok
 mdlm:mg "MOST_DEEP_looker"=some (.int 6 mdlt)
 mwt:Tok
 mwm:mg "MOST_WEIGHT"=some (.int 300 mwt)
 mbt:Tok
 mbm:mg "MOST_BEGUN"=some (.int 30 mbt)
 ai:Bv K aa "__init__" "BadProgram.__init__" (Ag (top 7) 0) ["self", "line", "word"]
 mk_BadProgram:MkE K aa ai.f
 bg:Q4 K aa "line"=some none
 aD:G0 K (.ref aa) "line"=some none
 bj:Q4 K aa "word"=some none
 aE:G0 K (.ref aa) "word"=some none
 aF:T4 K aa=true
 iX:Vn K mg "BadProgram" aa
 nA:FF K aa
 nE:Ji K aa
 up:K4 K aa (.ref aa)=some true
 pp:Addr
 ppm:mg "PART_PLACES"=some (.ref pp)
 pkv:List (Bw×V)
 pd:OE P w K pp pkv
 pv:∀ z:Str,(AG z=[]->valV pkv (.inr z)=none)/\(AG z≠[]->∃ b,valV pkv (.inr z)=some (.ref b)/\∀ H:Hp,Bc K H b ((AG z).map λi=>V.int (i:Nat)))
 ppk:∃ kvs,OE P w K pp kvs/\∀ z:Str,(valV kvs (.inr z)).isSome=decide (z∈PPW)
 bda:Addr
 bdm:mg "BOUNDS"=some (.ref bda)
 bkv:List (Bw×V)
 bd:OE P w K bda bkv
 bvn:∃ c,valV bkv (.inr "NUMBER")=some (.ref c)/\∀ H:Hp,Bc K H c [.int 0,.int 9999]
 bvo:∀ z∈SLO,valV bkv (.inr z)=none
 nto:Tok
 nom:mg "NONE"=some (.str "-" nto)
 nut:Tok
 num:mg "NOT_UNDERSTOOD"=some (.str "not understood" nut)
 eva:Addr
 evm:mg "EVENT_FORMS"=some (.ref eva)
 evt:∀ H:Hp,Bc K H eva (EVS.map V.str)
 oU:Ji K ag
 ur:K4 K ag (.ref ag)=some true
 un:K4 K aa (.ref ag)=some false
 bn:mg "len"=none
 cO:mg "isinstance"=none
 iE:mg "list"=none
 gy:mg "tuple"=none
 kA:mg "int"=none
 kJ:mg "range"=none
 fu:mg "enumerate"=none
 gf:mg "str"=none
 mt:mg "bool"=none
 mn:mg "all"=none
 mo:mg "zip"=none
 mm:mg "ValueError"=none
 mq:mg "sum"=none
 lD:mg "sorted"=none
 ny:mg "set"=none
 mw:mg "dict"=none
 nz:mg "min"=none
section
variable {P:Program} {w:World} {K:A0} {mg:Str->Option Value} {base:Heap}
local macro_rules
  | `(tactic| walk_at $s:str) => do
  let e <- match s.getString with
   |"sx"=>pure ""
   |"sd"=>pure "tLst tTup Ma Jj "
   |"sy"=>pure "tLst tTup Ma "
   |"sw"=>pure "tLst tTup Ma tLc Od iStr UD "
   |_=>Lean.Macro.throwUnsupported
  let a:=((e++"L2.start cxOf_K Ve Rp tAsg Hd SK tRetN tDrop tIfS Qj tB tNot tAnd tOr tAndV tOrV tNotV tOp tUn Hh tC tCons tNil tStrs tCB SS OL tBM tBM0 tPart Qk tSl tIf tNext tTrue Fj Option.bind_none Option.bind_some Option.join_some if_true rI rI0 rU rEq rNe Qw rSlS Ut tyV j2 x6 T8 List.set v0 j3 A7 f6 i6 P3 Nat.reduceAdd Nat.reduceSub A9 Nat.add_zero O8 T6 List.getElem?_cons_succ List.set_cons_zero List.set_cons_succ Rq sFld Ql Qm Rq sFld Ql Qm UE SM Mb iRev").splitOn " ").toArray.map λx=>Lean.mkIdent x.toName
  let b:=a++(("C7 V.int.injEq V.str.injEq V.ref.injEq V.bl.injEq V.ty.injEq Z8.injEq exists_eq_left exists_eq_left' exists_eq_right exists_and_left exists_eq and_true true_and and_self and_assoc").splitOn " ").toArray.map λx=>Lean.mkIdent x.toName
  `(tactic| (try dsimp only [$[$a:term],*]; try simp only [$[$b:term],*]))




seal PE PT PW PA PS KI PG PGs PI PC PTs PO
def spNo:Sp:=λ_ _ _ _=>False
theorem KD {K:A0} {H:Hp} {a b:Addr} {xs ys:List V} {Q:VK} (ha:H a=some (.tup xs)) (hb:H b=some (.tup ys)) (hne:xs≠[]) (hl:xs.length+ys.length<=sizeLine) (k:∀ (p:Addr) (H':Hp),H' p=some (.tup (xs++ys))->Af H H'->Q (.ref p) H'):TM K (.ref a) (.ref b) H Q :=
 ⟨a,b,xs,ys,rfl,rfl,Bc.of ha,Bc.of hb,hne,hl,λe=>k a H (by rw [e,P3];exact ha) (Af.refl H),λ_ p hp=>k p _ Ab (Af.upd hp)⟩
theorem EQ {H:Hp} {a:Addr} {xs:List V} {o:HO} (h:H a=some (.lst xs)):Hf H (upd H a o):=λb ys hb=>by
 rw [Ah (λe=>by rw [e,h] at hb;cases hb)];exact hb
theorem Ky {α:Type} {Gs:List α} {F X:α} {i:Nat} (h:(Gs++[F])[i]?=some X):(i<Gs.length/\Gs[i]?=some X)\/(i=Gs.length/\X=F):=by
 by_cases hi:i<Gs.length
 ·rw [Q2 hi] at h
  exact .inl ⟨hi,h⟩
 ·rw [T3 (by lia)] at h
  have e1:=(Q1.mp h).1
  have e2:i-Gs.length=0:=by simp only [v0,j3] at e1;lia
  rw [e2] at h
  cases h
  exact .inr ⟨by lia,rfl⟩
theorem Fb {α:Type} {Gs:List α} {F:α}:(Gs++[F])[Gs.length]?=some F:=by
 rw [T3 (P0 _),O8];rfl
theorem Gp {α:Type} {xs:List α} (h:0<xs.length):∃ ys x,xs=ys++[x]:=by
 rcases List.eq_nil_or_concat xs with rfl | ⟨L,b,e⟩
 ·exact absurd h (B6 0)
 ·exact ⟨L,b,by rw [e];simp⟩
def spLaw (K:A0):Sp:=λvs H Q _=>∃ (a:Addr) (ns:List Int),vs=[.ref a]/\AD K H a (ns.map V.int)/\ns.length<=63/\∀ H',Q (.bl true) H'
def txt:V->Str
 |.int n=>(toString n:String)
 |.str z=>z
 |_=>""
def isR:V->Bool
 |.ref _=>true
 |_=>false
def wordsF (z:Str) (r:List V):List Str :=
 if z="begin" then
  match r with
  |[.str a,.str b,.str c,.int l]=>[("begin":Str),a,b, "in",c]++(if l=0 then [] else [("within":Str),txt (.int l)])
  |_=>[]
 else if z="try" then ["try"] else z::((r.filter λv=>!isR v).map txt)
def OU (H:Hp):V->Str×List V
 |.ref a=>match H a with
  |some (.tup (.str z::_::r))=>(z,r)
  |_=>("",[])
 |_=>("",[])
def TF (H:Hp) (v:V):List Str:=wordsF (OU H v).1 (OU H v).2
def elems (H:Hp):V->List V
 |.ref a=>match H a with
  |some (.tup ys)=>ys
  |_=>[]
 |_=>[]
def turnF (H:Hp) (v:V):List (List Str) :=
 if (OU H v).1="try" then [[("but":Str),txt ((OU H v).2.getD 1 .non)]] else if (OU H v).1="do" then [["last"]] else if elems H ((OU H v).2.getD 2 .non)=[] then [] else [["late"]]
abbrev Ln:=Nat×List Str
def lnsL (f:V->List Ln) (tn en:List Ln):Bool->List V->List Ln
 |w,[]=>if w then en else []
 |w,x::r=>if isR x then (if w then tn else [])++(f x++lnsL f tn en true r) else lnsL f tn en w r
def rowLn (f:V->Nat->List Ln) (H:Hp) (y:V) (d:Nat):List Ln:=(d,TF H y)::lnsL (λp=>f p (d+1)) ((turnF H y).map λws=>(d,ws)) [(d,["end"])] false (OU H y).2
def Pq:Nat->Hp->V->Nat->List Ln
 |0,_,_,_=>[]
 |n+1,H,v,d=>(elems H v).flatMap λy=>rowLn (Pq n H) H y d
inductive Tr where
 |i (n:Int)
 |s (z:Str)
 |t (ts:List Tr)
def trV:V->Tr
 |.int n=>.i n
 |.str z=>.s z
 |_=>.t []
theorem iteT {c A B:Prop} [Decidable c] (hc:c) (h:A):if c then A else B:=by rw [if_pos hc];exact h
theorem iteF {c A B:Prop} [Decidable c] (hc:¬ c) (h:B):if c then A else B:=by rw [if_neg hc];exact h
theorem Pk {K:A0} {G:Hp} {a:Addr} {xs:List V} {R:VK} (h:G a=some (.lst xs)) (k:∀ G',Af G G'->R (.bl (!decide (xs=[]))) G'):0<=sizeLine/\∀ p,G p=none->OW K true (.ref a) (.ref p) (upd G p (.lst [])) R:=by
 refine ⟨by kd_p,λp hp=>⟨a,p,_,[],0,λ_=>true,rfl,rfl,AD.of ((Af.upd hp) _ _ h),AD.of Ab,by kd_p,(λi x y _ hy=>by cases hy),?_⟩⟩
 have e:(true^^(decide (xs.length=([]:List V).length)&&(C5 xs.length).all λ_=>true))=!decide (xs=[]):=by
  cases xs with
  |nil=>rfl
  |cons z r=>simp
 rw [e]
 exact k _ (Af.upd hp)
theorem log_lt {n:Int} (h0:0<=n) (h1:n<10000000):n.natAbs.log2<1920:=by
 by_cases e:n.natAbs=0
 ·rw [e];decide
 ·refine (Nat.log2_lt e).mpr (E2 (show n.natAbs<10000000 by lia) ?_)
  exact C0 (show 10000000<=2 ^ 24 by kd_p) (Nat.pow_le_pow_right (show 0<2 by kd_p) (show 24<=1920 by kd_p))
theorem Kt (z:Str) (zs:List Str):Ik (.str z) (zs.map V.str)=decide (z∈zs):=by
 unfold Ik
 rw [j6,V7,decide_eq_true_eq]
 constructor
 ·rintro ⟨y,hy,q⟩
  obtain ⟨n,hn,rfl⟩:=E5.mp hy
  cases (beq_iff_eq.1 q:n=z)
  exact hn
 ·intro h
  exact ⟨.str z,E5.mpr ⟨z,h,rfl⟩,beq_self_eq_true z⟩
def CP (d:Addr) (H H':Hp):Prop:=∀ c o,c≠d->H c=some o->H' c=some o
theorem CP.trans {d:Addr} {H H1 H2:Hp} (a:CP d H H1) (b:CP d H1 H2):CP d H H2:=λc o n h=>b c o n (a c o n h)
theorem CP.of {d:Addr} {H H':Hp} (s:Af H H'):CP d H H':=λc o _ h=>s c o h
theorem CP.upd {d:Addr} {H:Hp} {u:HO}:CP d H (L2.upd H d u):=λc o n h=>by rw [Ah n];exact h
def LnsAt (H:Hp) (ps:List Addr) (ls:List Ln):Prop:=ps.length=ls.length/\∀ (i:Nat) (q:Addr) (x:Ln),ps[i]?=some q->ls[i]?=some x->x.2≠[]/\∃ w,H q=some (.tup [.int (x.1:Nat),.ref w])/\H w=some (.lst (x.2.map V.str))
def spLines (n:Nat):Sp:=λvs H Q _=>∃ (v:V) (d:Nat),vs=[v,.int d]/\RowsOk n H v/\(Pq (n+1) H v d).length<=20000/\∀ (l:Addr) (ps:List Addr) (H':Hp),H l=none->H' l=some (.lst (ps.map V.ref))->LnsAt H' ps (Pq (n+1) H v d)->Af H H'->Q (.ref l) H'
def spLinesD:Nat->Sp
 |0=>spNo
 |n+1=>spLines n
theorem KC {K:A0} {G:Hp} {a:Addr} {xs:List V} {R:VK} (h:G a=some (.lst xs)) (k:∀ G',Af G G'->R (.bl (decide (xs=[]))) G'):0<=sizeLine/\∀ p,G p=none->OW K false (.ref a) (.ref p) (upd G p (.lst [])) R:=by
 refine ⟨by kd_p,λp hp=>⟨a,p,_,[],0,λ_=>true,rfl,rfl,AD.of ((Af.upd hp) _ _ h),AD.of Ab,by kd_p,(λi x y _ hy=>by cases hy),?_⟩⟩
 have e:(false^^(decide (xs.length=([]:List V).length)&&(C5 xs.length).all λ_=>true))=decide (xs=[]):=by
  cases xs with
  |nil=>rfl
  |cons z r=>simp
 rw [e]
 exact k _ (Af.upd hp)
def isL (c:Nat):Bool:=decide (97<=c)&&decide (c<=122)
def Gg (z:Str):Bool:=decide (1<=z.length)&&decide (z.length<=8)&&z.cps.toList.all isL
def CB (z:Str):Bool:=Gg z&&!(MX.any λy=>y == z)
def Fz (z:Str):Bool:=Txt.startswith z ":"&&Gg (Iq z (some 1) none)
def Jr:V->Bool
 |.str z=>CB z
 |_=>false
def IY:V->Bool
 |.str z=>CB z||Fz z
 |.int i=>decide (0<=i)&&decide (i<=999999)
 |_=>false
def MZ (c:Nat):Bool:=decide (48<=c)&&decide (c<=57)
def GV (z:Str):Bool:=decide (1<=z.length)&&decide (z.length<=6)&&z.cps.toList.all MZ
def Cp (z:Str):Option Int:=if GV z=true then (if Txt.startswith z "0"=true/\z≠"0" then none else some ((v8 z.cps.toList:Nat):Int)) else none
def Ll (z:Str) (lo hi:Int):V:=match Cp z with
 |some n=>if lo<=n/\n<=hi then .int n else .non
 |none=>.non
def Do (z:Str):V:=match Cp z with
 |some n=>if IY (.int n)=true then .int n else .non
 |none=>if IY (.str z)=true then .str z else .non
def BR (slot z:Str):V:=if slot="N" then Ll z 1 99 else if slot="ROUNDS" then Ll z 1 9 else if slot="VALUE" then Do z else if slot="NAME" then (if CB z=true then .str z else .non) else if z=slot then .str z else .non
def FA (slots ws:List Str):Option (List V):=if slots.length=ws.length then (if Ik .non (D4 BR slots ws)=true then none else some (D4 BR slots ws)) else none
def BW:List (List Str)->List Str->Option (List V)
 |[],_=>none
 |f::r,ws=>match FA f ws with
  |some x=>some x
  |none=>BW r ws
def SL:List (List Str):=[["errand", "NAME"],["wait", "N"],["hear", "NAME"],["ring", "NAME"],["send", "NAME", "VALUE"],["take", "NAME", "NAME"],["let", "NAME", "VALUE"],["raise", "NAME"],["begin", "NAME", "NAME", "in", "NAME"],["begin", "NAME", "NAME", "in", "NAME", "within", "N"],["ask", "NAME", "NAME"],["off", "NAME"],["give", "VALUE"],["group", "NAME"],["limit", "N"],["late"],["keep"],["try"],["but", "NAME"],["but", "any"],["do"],["last"],["when", "NAME", "VALUE"],["repeat", "ROUNDS"],["end"]]
theorem Of:FORMS.map (λf=>Txt.split f ⟨#[32]⟩)=SL:=by lk
def GZ (s:Str):Bool:=s == "N"||s == "ROUNDS"||s == "VALUE"||s == "NAME"
def skipB (z:Str) (n:Nat) (slots:List Str):Bool:=slots.length != n||(match slots with
 |[]=>false
 |s::_=>!GZ s&&s != z)
theorem UR {z:Str} {slots r:List Str} (h:skipB z (r.length+1) slots=true):FA slots (z::r)=none:=by
 unfold FA
 unfold skipB at h
 by_cases e:slots.length=(z::r).length
 ·rw [if_pos e]
  cases slots with
  |nil=>cases e
  |cons s t =>
   rw [v0] at e
   have e':(s::t).length=r.length+1:=e
   rw [e'] at h
   simp only [bne_self_eq_false,P7,W1,J7,GZ,N9,beq_eq_false_iff_ne,bne_iff_ne,ne_eq] at h
   obtain ⟨⟨⟨⟨h1,h2⟩,h3⟩,h4⟩,h5⟩:=h
   rw [C9]
   have f:BR s z=.non:=by
    unfold BR
    rw [if_neg h1,if_neg h2,if_neg h3,if_neg h4,if_neg (λq=>h5 q.symm)]
   rw [f]
   exact if_pos rfl
 ·rw [if_neg e]
theorem Py {z:Str} (h:1<=z.length):∃ c r,z.cps.toList=c::r:=by
 rw [JM] at h
 cases e:z.cps.toList with
 |nil=>rw [e] at h;exact absurd h (by kd_p)
 |cons c r=>exact ⟨c,r,rfl⟩
theorem starts1 (a c:Nat) (r:List Nat):Txt.startswith ⟨⟨a::r⟩⟩ ⟨#[c]⟩=decide (a=c):=by
 unfold Txt.startswith Builtin.Str.subAt
 have e1:(⟨⟨a::r⟩⟩:Str).length=r.length+1:=rfl
 have e3:(⟨#[c]⟩:Str).length=1:=rfl
 rw [e1,e3]
 have e5:(⟨a::r⟩:Array Nat).extract 0 (0+1)=#[a]:=by simp
 rw [e5]
 by_cases h:a=c
 ·subst h;simp
 ·simp [h]
theorem Rs {z:Str} {a c:Nat} {r:List Nat} (h:z.cps.toList=a::r):Txt.startswith z ⟨#[c]⟩=decide (a=c):=by
 obtain ⟨⟨l⟩⟩:=z
 cases h
 exact starts1 a c r
theorem US {s:Str} (h:GZ s=false):BR s s=.str s:=by
 simp only [GZ,N9,beq_eq_false_iff_ne,ne_eq] at h
 unfold BR
 rw [if_neg h.1.1.1,if_neg h.1.1.2,if_neg h.1.2,if_neg h.2,if_pos rfl]
def NX (fs:List V):List V:=(fs.tail.filter λv=>!Ik v [.str "in",.str "within"])++(if fs.head?=some (.str "begin")/\Ik (.str "within") fs=false then [.int 0] else [])
def La (fs:List V) (n:Int):List V:=fs.headD .non::.int n::NX fs
set_option genInjectivity false in
structure Fq where
 hd:List V
 rs:List Tr
 tn:Bool
 tf:List V
 os:List Tr
set_option genInjectivity false in
structure St where
 pg:List Tr
 un:List Fq
abbrev EN (w:Str):Prop:=w="late"\/w="but"\/w="last"
abbrev JI (z:Str):Prop:=z="group"\/z="limit"\/z="keep"\/z="try"\/z="do"\/z="when"\/z="repeat"
def Fh (z:Str):Str:=if z="limit" then "late" else if z="try" then "but" else if z="do" then "last" else ""
def Fq.wd (F:Fq):Str:=match F.hd with
 |.str z::_=>z
 |_=>""
def Fq.put (F:Fq) (t:Tr):Fq:=if F.tn=true then { F with os:=F.os++[t] } else { F with rs:=F.rs++[t] }
def Fq.mayTurn (F:Fq) (w:Str):Bool:=!F.tn&&decide (JQ F.wd/\Fh F.wd=w)
def Fq.mayEnd (F:Fq):Bool:=if F.wd="limit" then !F.tn||!F.os.isEmpty else F.tn||!decide (JQ F.wd)
def Fq.whole (F:Fq):Tr:=.t (F.hd.map trV++[.t F.rs]++(if JQ F.wd then F.tf.map trV++[.t F.os] else []))
def CI (s:St) (w:Str):Bool:=match s.un.getLast? with
 |none=>decide (w="errand")
 |some F=>if w="end" then F.mayEnd else if EN w then F.mayTurn w else if JI w then decide (s.un.length<=20) else decide (w≠"errand")
def Um (f:Fq->Fq) (s:St):St:=match s.un.getLast? with
 |none=>s
 |some F=>⟨s.pg,s.un.dropLast++[f F]⟩
def Vb (s:St):St:=match s.un.getLast? with
 |none=>s
 |some F=>match s.un.dropLast.getLast? with
  |none=>⟨s.pg++[F.whole],s.un.dropLast⟩
  |some G=>⟨s.pg,s.un.dropLast.dropLast++[G.put F.whole]⟩
def putL (s:St) (w:Str) (fs:List V) (n:Int):St :=
 if w="end" then Vb s else if EN w then Um (λF=>{ F with tn:=true,tf:=fs.tail }) s else if w="errand"\/JI w then ⟨s.pg,s.un++[⟨La fs n,[],false,[],[]⟩]⟩ else Um (λF=>F.put (.t ((La fs n).map trV))) s
def step (s:St) (n:Int) (ws:List Str):Option St:=match BW SL ws with
 |none=>none
 |some fs=>match fs.head? with
  |some (.str w)=>if CI s w=true then some (putL s w fs n) else none
  |_=>none
def run (pf:Nat->Int):Nat->List Ln->St->Option St
 |_,[],s=>some s
 |k,l::r,s=>match step s (pf k) l.2 with
  |none=>none
  |some s'=>run pf (k+1) r s'
theorem Ja (S:List Fq) (F:Fq):(S++[F]).getLast?=some F:=v7
theorem LF {f:Fq->Fq} {pg:List Tr} {S:List Fq} {F:Fq}:Um f ⟨pg,S++[F]⟩=⟨pg,S++[f F]⟩:=by
 unfold Um
 simp only [Ja,z7]
theorem Va {pg:List Tr} {S:List Fq} {F G:Fq}:Vb ⟨pg,S++[G]++[F]⟩=⟨pg,S++[G.put F.whole]⟩:=by
 unfold Vb
 simp only [Ja,z7]
theorem Jv {pg:List Tr} {S:List Fq} {F:Fq} {w:Str}:CI ⟨pg,S++[F]⟩ w=(if w="end" then F.mayEnd else if EN w then F.mayTurn w else if JI w then decide (S.length+1<=20) else decide (w≠"errand")):=by
 unfold CI
 simp only [Ja,K0,v0,j3,A9]
def kids:Tr->List Tr
 |.t ts=>ts
 |_=>[]
def BJ (l:Str):List Str:=(Txt.split l ⟨#[32]⟩).filter λw=>w != ""
def readL:Nat->List Str->St->Option St
 |_,[],s=>some s
 |i,l::r,s=>if BJ l=[] then readL (i+1) r s else match step s i (BJ l) with
  |none=>none
  |some s'=>readL (i+1) r s'
theorem HH (z:Str) (c:Nat):Txt.split z ⟨#[c]⟩≠[]:=λe=>by
 have:=PyProof.Rows.split_pos z ⟨#[c]⟩
 rw [e] at this
 exact absurd this (by kd_p)
inductive Kd where
 |une | rdg
inductive Fl where
 |head | rows | turned | tfl | others | prog | unended
deriving DecidableEq
def Fl.kd:Fl->Kd
 |.prog=>.rdg | .unended=>.rdg | _=>.une
def Fl.name:Fl->Str
 |.head=>"head" | .rows=>"rows" | .turned=>"turned" | .tfl=>"turn_fields" | .others=>"others" | .prog=>"program" | .unended=>"unended"
def Fl.ix:Fl->Fin 7
 |.head=>0 | .rows=>1 | .turned=>2 | .tfl=>3 | .others=>4 | .prog=>5 | .unended=>6
def FLS:List Fl:=[.head,.rows,.turned,.tfl,.others,.prog,.unended]
theorem fls_nd:(FLS.map Fl.name).Nodup:=by lk
theorem MK (l:Fl):FLS[l.ix.val]?=some l:=by cases l<;>rfl
theorem Uk (a b:Fl) (h:a.name=b.name):a=b:=by
 have ha:=MK a
 have hb:=MK b
 have e1:(FLS.map Fl.name)[a.ix.val]?=some a.name:=by rw [J2,ha];rfl
 have e2:(FLS.map Fl.name)[b.ix.val]?=some a.name:=by rw [J2,hb,h];rfl
 have l1:=(Q1.mp e1).1
 have e:=(List.getElem?_inj l1 fls_nd).mp (e1.trans e2.symm)
 rw [e] at ha
 exact V3.inj (ha.symm.trans hb)
def Tx.C (T:Tx P w K mg):Kd->Addr
 |.une=>T.ae
 |.rdg=>T.al
theorem Tx.cl (T:Tx P w K mg) (c:Kd):FN K (T.C c):=by
 cases c
 ·exact T.eI
 ·exact T.gT
theorem Tx.na (T:Tx P w K mg) (l:Fl):Aq K (T.C l.kd) l.name:=match l with
 |.head=>T.jR | .rows=>T.jS | .turned=>T.jv | .tfl=>T.iy | .others=>T.jw | .prog=>T.jg | .unended=>T.jh
def RC (g:Fl->Option V) (l:Fl) (v:V):Fl->Option V:=λx=>if x=l then some v else g x
structure Cr (T:Tx P w K mg) (n:Nat) (c:Kd) (H:Hp) (p:Addr) (g:Fl->Option V):Prop where
 ex:∃ dx fs,H p=some (.ins (T.C c) dx fs)/\fs.length<=n/\(∀ l:Fl,fs.lookup l.name=g l)/\∀ m:Str,(∀ l:Fl,l.name≠m)->fs.lookup m=none
theorem Cr.same {T:Tx P w K mg} {n:Nat} {c:Kd} {H H':Hp} {p:Addr} {g:Fl->Option V} (F:Cr T n c H p g) (s:Af H H'):Cr T n c H' p g:=by
 obtain ⟨dx,fs,h1,h2⟩:=F.ex
 exact ⟨dx,fs,s _ _ h1,h2⟩
theorem Cr.at' {T:Tx P w K mg} {n:Nat} {c:Kd} {H H':Hp} {p:Addr} {g:Fl->Option V} (F:Cr T n c H p g) (s:∀ o,H p=some o->H' p=some o):Cr T n c H' p g:=by
 obtain ⟨dx,fs,h1,h2⟩:=F.ex
 exact ⟨dx,fs,s _ h1,h2⟩
theorem Cr.new {T:Tx P w K mg} {c:Kd} {H:Hp} {p dx:Addr} (h:H p=some (.ins (T.C c) dx [])):Cr T 0 c H p (λ_=>none):=⟨dx,[],h,P0 _,λ_=>rfl,λ_ _=>rfl⟩
theorem Cr.fld {T:Tx P w K mg} {n:Nat} {c:Kd} {H:Hp} {p:Addr} {g:Fl->Option V} (F:Cr T n c H p g) (l:Fl) {z:Str} {v:V} {R:V->Prop} (e:g l=some v) (k:R v) (hz:l.name=z:=by rfl) (hc:l.kd=c:=by rfl):∃ C dx fs,H p=some (.ins C dx fs)/\FN K C/\Aq K C z/\∃ v,fs.lookup z=some v/\R v:=by
 subst hz
 obtain ⟨dx,fs,h1,_,h3,_⟩:=F.ex
 exact ⟨_,dx,fs,h1,T.cl c,by rw [<- hc];exact T.na l,v,(h3 l).trans e,k⟩
theorem Ii {f:Str} {v:V}:∀ {fs:List (Str×V)},fs.lookup f≠none->(AM f v fs).length=fs.length
 |[],h=>absurd rfl h
 | (g,x)::r,h=>by
  show (if g=f then (g,v)::r else (g,x)::AM f v r).length=_
  by_cases e:g=f
  ·rw [if_pos e];rfl
  ·rw [if_neg e]
   show (AM f v r).length+1=r.length+1
   rw [Ii]
   intro z
   apply h
   rw [Y3]
   have:(f == g)=false:=by simp [Ne.symm e]
   rw [this];exact z
theorem Cr.put {T:Tx P w K mg} {n:Nat} {c:Kd} {H:Hp} {p:Addr} {g:Fl->Option V} (F:Cr T n c H p g) (l:Fl) (v:V):∃ dx fs,H p=some (.ins (T.C c) dx fs)/\fs.length<=n /\
  Cr T (n+1) c (upd H p (.ins (T.C c) dx (AM l.name v fs))) p (RC g l v)/\(g l≠none->Cr T n c (upd H p (.ins (T.C c) dx (AM l.name v fs))) p (RC g l v)):=by
 obtain ⟨dx,fs,h1,h2,h3,h4⟩:=F.ex
 have q1:∀ x:Fl,(AM l.name v fs).lookup x.name=RC g l v x:=λx=>by
  rw [Cq]
  unfold RC
  by_cases e:x=l
  ·rw [if_pos (by rw [e]),if_pos e]
  ·rw [if_neg (λz=>e (Uk _ _ z)),if_neg e,h3]
 have q2:∀ m:Str,(∀ l:Fl,l.name≠m)->(AM l.name v fs).lookup m=none:=λm hm=>by
  rw [Cq,if_neg (Ne.symm (hm l)),h4 m hm]
 refine ⟨dx,fs,h1,h2,⟨dx,_,Ab,?_,q1,q2⟩,λhg=>⟨dx,_,Ab,?_,q1,q2⟩⟩
 ·have:=Gb l.name v fs;lia
 ·rw [Ii (by rw [h3];exact hg)];exact h2
theorem nofl {z:Str} (h:(FLS.map Fl.name).contains z=false) (l:Fl):l.name≠z:=λe=>by
 have m:l.name∈FLS.map Fl.name:=E5.mpr ⟨l,j0 (MK l),rfl⟩
 rw [e] at m
 rw [List.contains_eq_mem,decide_eq_true m] at h
 cases h
theorem Cr.call {T:Tx P w K mg} {n:Nat} {c:Kd} {H:Hp} {p:Addr} {g:Fl->Option V} (F:Cr T n c H p g) {z:Str} {A:Prop} (k:A) (h:(FLS.map Fl.name).contains z=false:=by lk):∃ x y,H p=some (.ins (T.C c) x y)/\y.lookup z=none/\A:=by
 obtain ⟨dx,fs,h1,_,_,h4⟩:=F.ex
 exact ⟨dx,fs,h1,h4 z (nofl h),k⟩
inductive GB (H:Hp):V->Tr->Prop
 |i (n:Int):GB H (.int n) (.i n)
 |s (z:Str):GB H (.str z) (.s z)
 |t {a:Addr} {xs:List V} {ts:List Tr}:H a=some (.tup xs)->xs.length=ts.length->(∀ (i:Nat) (x:V) (t:Tr),xs[i]?=some x->ts[i]?=some t->GB H x t)->GB H (.ref a) (.t ts)
theorem GB.sameT {H H':Hp} {v:V} {t:Tr} (r:GB H v t) (s:Hf H H'):GB H' v t:=by
 induction r with
 |i n=>exact .i n
 |s z=>exact .s z
 |t h l _ ih=>exact .t (s _ _ h) l ih
def CC (H:Hp) (xs:List V) (ts:List Tr):Prop:=xs.length=ts.length/\∀ (i:Nat) (x:V) (t:Tr),xs[i]?=some x->ts[i]?=some t->GB H x t
theorem CC.sameT {H H':Hp} {xs:List V} {ts:List Tr} (r:CC H xs ts) (s:Hf H H'):CC H' xs ts:=⟨r.1,λi x t hx ht=>(r.2 i x t hx ht).sameT s⟩
theorem CC.nil (H:Hp):CC H [] []:=⟨rfl,λ_ _ _ h=>nomatch h⟩
theorem CC.snoc {H:Hp} {xs:List V} {ts:List Tr} {x:V} {t:Tr} (r:CC H xs ts) (h:GB H x t):CC H (xs++[x]) (ts++[t]):=by
 refine ⟨by rw [K0,K0,r.1];rfl,λi y u hy hu=>?_⟩
 rcases Ky hy with ⟨lt,hy⟩ | ⟨ei,ey⟩
 ·have lt2:i<ts.length:=by rw [<- r.1];exact lt
  rw [Q2 lt2] at hu
  exact r.2 i y u hy hu
 ·rw [ei,r.1,Fb] at hu
  cases hu
  rw [ey]
  exact h
def DB:V->Bool
 |.int _=>true
 |.str _=>true
 |_=>false
theorem TJ {H:Hp} {v:V} (h:DB v=true):GB H v (trV v):=by
 cases v with
 |int n=>exact .i n
 |str z=>exact .s z
 |_=>cases h
theorem CC.flat {H:Hp} {xs:List V} (h:∀ v∈xs,DB v=true):CC H xs (xs.map trV):=by
 refine ⟨by rw [J0],λi x t hx ht=>?_⟩
 rw [J2,hx] at ht
 cases ht
 exact TJ (h x (j0 hx))
theorem CC.app {H:Hp} {xs ys:List V} {ts us:List Tr} (r:CC H xs ts) (q:CC H ys us):CC H (xs++ys) (ts++us):=by
 refine ⟨by rw [K0,K0,r.1,q.1],λi x t hx ht=>?_⟩
 by_cases lt:i<xs.length
 ·rw [Q2 lt] at hx
  rw [Q2 (by rw [<- r.1];exact lt)] at ht
  exact r.2 i x t hx ht
 ·rw [T3 (by lia)] at hx
  rw [T3 (by rw [<- r.1];lia),<- r.1] at ht
  exact q.2 _ x t hx ht
theorem CC.one {H:Hp} {x:V} {t:Tr} (h:GB H x t):CC H [x] [t]:=(CC.nil H).snoc h
theorem GB.tup {H:Hp} {a:Addr} {xs:List V} {ts:List Tr} (h:H a=some (.tup xs)) (r:CC H xs ts):GB H (.ref a) (.t ts):=.t h r.1 r.2
theorem MC (a b:Nat):([a] < [b])↔a<b:=by
 constructor
 ·intro h
  cases h with
  |rel h=>exact h
  |cons h=>cases h
 ·intro h;exact List.Lex.rel h
theorem Sn (c:Nat):(if (!decide ((⟨#[c]⟩:Str).cps.toList<("a":Str).cps.toList))=true then (!decide (("z":Str).cps.toList<(⟨#[c]⟩:Str).cps.toList)) else false)=isL c:=by
 have ea:("a":Str).cps.toList=[97]:=by lk
 have ez:("z":Str).cps.toList=[122]:=by lk
 have ec:(⟨#[c]⟩:Str).cps.toList=[c]:=rfl
 rw [ea,ez,ec]
 have h1:=MC c 97
 have h2:=MC 122 c
 unfold isL
 by_cases a:c<97<;>by_cases b:122<c<;>simp [h1,h2,a,b]<;>lia
theorem So (c:Nat):(if (!decide ((⟨#[c]⟩:Str).cps.toList<("0":Str).cps.toList))=true then (!decide (("9":Str).cps.toList<(⟨#[c]⟩:Str).cps.toList)) else false)=MZ c:=by
 have ea:("0":Str).cps.toList=[48]:=by lk
 have ez:("9":Str).cps.toList=[57]:=by lk
 have ec:(⟨#[c]⟩:Str).cps.toList=[c]:=rfl
 rw [ea,ez,ec]
 have h1:=MC c 48
 have h2:=MC 57 c
 unfold MZ
 by_cases a:c<48<;>by_cases b:57<c<;>simp [h1,h2,a,b]<;>lia
inductive Th (H:Hp):V->Prop
 |str (z:Str):z.length<=6000->Th H (.str z)
 |int (i:Int):Th H (.int i)
 |bl (b:Bool):Th H (.bl b)
 |non:Th H .non
 |lst {a:Addr} {xs:List V}:H a=some (.lst xs)->Th H (.ref a)
 |tup {a:Addr} {xs:List V}:H a=some (.tup xs)->Th H (.ref a)
 |dic {a:Addr} {kvs:List (Bw×V)}:H a=some (.dK kvs)->Th H (.ref a)
theorem Th.same {H H':Hp} {v:V} (t:Th H v) (s:Af H H'):Th H' v:=by
 cases t with
 |str z h=>exact .str z h
 |int i=>exact .int i
 |bl b=>exact .bl b
 |non=>exact .non
 |lst h=>exact .lst (s _ _ h)
 |tup h=>exact .tup (s _ _ h)
 |dic h=>exact .dic (s _ _ h)
def isS:V->Bool
 |.str _=>true
 |_=>false
def isB:V->Bool
 |.bl _=>true
 |_=>false
def isI:V->Bool
 |.int _=>true
 |.bl _=>true
 |_=>false
theorem Th.ty {K:A0} {H:Hp} {v:V} (t:Th H v):∃ u,GW K H v u/\K6 K u (.type "str")=some (isS v)/\K6 K u (.type "bool")=some (isB v)/\K6 K u (.type "int")=some (isI v):=by
 cases t with
 |str z h=>exact ⟨_,.str z,rfl,rfl,rfl⟩
 |int i=>exact ⟨_,.int i,rfl,rfl,rfl⟩
 |bl b=>exact ⟨_,.bl b,rfl,rfl,rfl⟩
 |non=>exact ⟨_,.non,rfl,rfl,rfl⟩
 |lst h=>exact ⟨_,.lst h,rfl,rfl,rfl⟩
 |tup h=>exact ⟨_,.tup h,rfl,rfl,rfl⟩
 |dic h=>exact ⟨_,.dK h,rfl,rfl,rfl⟩
theorem Ul (z:Str):Ik (V.str z) (MX.map V.str)=MX.any λy=>y == z:=by
 unfold Ik
 rw [List.any_map]
 rfl
def Ry:Sp:=λvs H Q _=>∃ z:Str,vs=[.str z]/\z.length<=6000/\∀ H',Af H H'->Q (.bl (Gg z)) H'
def Tg:Sp:=λvs H Q _=>∃ v:V,vs=[v]/\Th H v/\∀ H',Af H H'->Q (.bl (Jr v)) H'
def SY:Sp:=λvs H Q _=>∃ z:Str,vs=[.str z]/\z.length<=6000/\∀ H',Af H H'->Q (.bl (Fz z)) H'
def spVal:Sp:=λvs H Q _=>∃ v:V,vs=[v]/\Th H v/\∀ H',Af H H'->Q (.bl (IY v)) H'
def Tp:Sp:=λvs H Q _=>∃ z:Str,vs=[.str z]/\Q (.bl (decide (z∈PPW))) H
def oN:Option Int->V
 |some n=>.int n
 |none=>.non
def Te:Sp:=λvs H Q _=>∃ z:Str,vs=[.str z]/\z.length<=6000/\∀ H',Af H H'->Q (oN (Cp z)) H'
def RB:Sp:=λvs H Q _=>∃ (z:Str) (lo hi:Int),vs=[.str z,.int lo,.int hi]/\z.length<=6000/\∀ H',Af H H'->Q (Ll z lo hi) H'
def Ru:Sp:=λvs H Q _=>∃ z:Str,vs=[.str z]/\z.length<=6000/\∀ H',Af H H'->Q (Do z) H'
def Rz:Sp:=λvs H Q _=>∃ y z:Str,vs=[.str y,.str z]/\y.length<=6000/\z.length<=6000/\∀ H',Af H H'->Q (BR y z) H'
def WsOk (ws:List Str):Prop:=ws.length<=6000/\∀ w∈ws,w.length<=6000
def Tk (f:Addr):Sp:=λvs H Q _=>∃ (a b:Addr) (slots ws:List Str),vs=[.ref a,.ref b,.ref f]/\H a=some (.lst (slots.map V.str))/\H b=some (.lst (ws.map V.str))/\WsOk slots/\WsOk ws /\
 (FA slots ws=none->∀ H',Af H H'->Q .non H')/\∀ x,FA slots ws=some x->∀ (l:Addr) (H':Hp),H l=none->H' l=some (.lst x)->Af H H'->Q (.ref l) H'
def spFirst (T:Tx P w K mg):Sp:=λvs H Q _=>∃ (b:Addr) (ws:List Str),vs=[.ref T.fma,.ref b,.ref T.bW.f]/\H b=some (.lst (ws.map V.str))/\WsOk ws /\
 (BW SL ws=none->∀ H',Af H H'->Q .non H')/\∀ x,BW SL ws=some x->∀ (l:Addr) (H':Hp),H l=none->H' l=some (.lst x)->Af H H'->Q (.ref l) H'
def Vr (fs:List V):Prop:=(∃ w r,fs=.str w::r)/\fs.length<=10/\∀ v∈fs,DB v=true
def Qp:Sp:=λvs H Q _=>∃ (l:Addr) (fs:List V) (n:Int),vs=[.ref l,.int n]/\H l=some (.lst fs)/\Vr fs/\∀ (a:Addr) (H':Hp),H' a=some (.tup (La fs n))->Af H H'->Q (.ref a) H'
set_option genInjectivity false in
structure Ub where
 p:Addr
 h:Addr
 r:Addr
 t:Addr
 o:Addr
def Ub.own (b:Ub):List Addr:=[b.p,b.r,b.o]
def gU (b:Ub) (tn:Bool):Fl->Option V
 |.head=>some (.ref b.h) | .rows=>some (.ref b.r) | .turned=>some (.bl tn) | .tfl=>some (.ref b.t) | .others=>some (.ref b.o) | _=>none
def gR (pa ua:Addr):Fl->Option V
 |.prog=>some (.ref pa) | .unended=>some (.ref ua) | _=>none
structure KG (T:Tx P w K mg) (H:Hp) (b:Ub) (F:Fq):Prop where
 ob:Cr T 5 .une H b.p (gU b F.tn)
 hd:H b.h=some (.tup F.hd)
 hz:∃ z n r,F.hd=.str z::.int n::r/\r.length<=10/\∀ v∈r,DB v=true
 rs:∃ xs,H b.r=some (.lst xs)/\CC H xs F.rs
 tf:H b.t=some (.tup F.tf)/\F.tf.length<=10/\∀ v∈F.tf,DB v=true
 os:∃ ys,H b.o=some (.lst ys)/\CC H ys F.os
 ne:b.r≠b.o
theorem KG.sameT {T:Tx P w K mg} {H H':Hp} {b:Ub} {F:Fq} (U:KG T H b F) (s:Hf H H') (o:∀ a∈b.own,H' a=H a):KG T H' b F:=by
 obtain ⟨xs,x1,x2⟩:=U.rs
 obtain ⟨ys,y1,y2⟩:=U.os
 exact ⟨U.ob.at' λu h=>by rw [o _ (by simp [Ub.own])];exact h,s _ _ U.hd,U.hz,⟨xs,by rw [o _ (by simp [Ub.own])];exact x1,x2.sameT s⟩,⟨s _ _ U.tf.1,U.tf.2⟩,⟨ys,by rw [o _ (by simp [Ub.own])];exact y1,y2.sameT s⟩,U.ne⟩
theorem KG.there {T:Tx P w K mg} {H:Hp} {b:Ub} {F:Fq} (U:KG T H b F):∀ a∈b.own,∃ u,H a=some u:=by
 intro a ha
 obtain ⟨xs,x1,_⟩:=U.rs
 obtain ⟨ys,y1,_⟩:=U.os
 obtain ⟨dx,fs,h1,_⟩:=U.ob.ex
 simp only [Ub.own,S0,A2,or_false] at ha
 rcases ha with rfl | rfl | rfl
 ·exact ⟨_,h1⟩
 ·exact ⟨_,x1⟩
 ·exact ⟨_,y1⟩
theorem KG.same {T:Tx P w K mg} {H H':Hp} {b:Ub} {F:Fq} (U:KG T H b F) (s:Af H H'):KG T H' b F :=
 U.sameT (Eb s) λa ha=>by
  obtain ⟨u,e⟩:=U.there a ha
  rw [e];exact s _ _ e
def Qo (T:Tx P w K mg):Sp:=λvs H Q _=>∃ (x dx hA:Addr) (hd:List V),vs=[.ref x,.ref hA]/\H x=some (.ins T.ae dx [])/\H hA=some (.tup hd)/\(∃ z n r,hd=.str z::.int n::r/\r.length<=10/\∀ v∈r,DB v=true) /\
 ∀ (b:Ub) (H':Hp),b.p=x->KG T H' b ⟨hd,[],false,[],[]⟩->H b.r=none->H b.o=none->CP x H H'->Q .non H'
def spUPut (T:Tx P w K mg):Sp:=λvs H Q _=>∃ (b:Ub) (F:Fq) (v:V) (t:Tr),vs=[.ref b.p,v]/\KG T H b F/\GB H v t/\F.rs.length<=100000/\F.os.length<=100000 /\
 ∀ H':Hp,KG T H' b (F.put t)->(∀ a u,a≠b.r->a≠b.o->H a=some u->H' a=some u)->Q .non H'
def OM (T:Tx P w K mg):Sp:=λvs H Q _=>∃ (b:Ub) (F:Fq) (z:Str),vs=[.ref b.p,.str z]/\KG T H b F/\Q (.bl (F.mayTurn z)) H
def spUTurn (T:Tx P w K mg):Sp:=λvs H Q _=>∃ (b:Ub) (F:Fq) (ta:Addr) (tf:List V),vs=[.ref b.p,.ref ta]/\KG T H b F/\H ta=some (.tup tf)/\tf.length<=10/\(∀ v∈tf,DB v=true) /\
 ∀ H':Hp,KG T H' { b with t:=ta } { F with tn:=true,tf:=tf }->CP b.p H H'->Q .non H'
def Rv (T:Tx P w K mg):Sp:=λvs H Q _=>∃ (b:Ub) (F:Fq),vs=[.ref b.p]/\KG T H b F/\∀ H',Af H H'->Q (.bl F.mayEnd) H'
def SX (T:Tx P w K mg):Sp:=λvs H Q _=>∃ (b:Ub) (F:Fq),vs=[.ref b.p]/\KG T H b F/\F.rs.length<=100000/\F.os.length<=100000/\∀ (v:V) (H':Hp),GB H' v F.whole->Af H H'->Q v H'
structure RA (T:Tx P w K mg) (H0 H:Hp) (p pa ua:Addr) (s:St) (Bs:List Ub) (c:Nat):Prop where
 out:Af H0 H
 new:∀ a∈p::pa::ua::Bs.flatMap Ub.own,H0 a=none
 ob:Cr T 2 .rdg H p (gR pa ua)
 pr:∃ xs,H pa=some (.lst xs)/\CC H xs s.pg
 ul:H ua=some (.lst (Bs.map λb=>V.ref b.p))
 len:Bs.length=s.un.length
 le:s.un.length<=21
 each:∀ (i:Nat) (b:Ub) (F:Fq),Bs[i]?=some b->s.un[i]?=some F->KG T H b F
 nd:(p::pa::ua::Bs.flatMap Ub.own).Nodup
 ct:s.pg.length<=c/\∀ F∈s.un,F.rs.length<=c/\F.os.length<=c
theorem RA.there {T:Tx P w K mg} {H0 H:Hp} {p pa ua:Addr} {s:St} {Bs:List Ub} {c:Nat} (R:RA T H0 H p pa ua s Bs c):∀ a∈p::pa::ua::Bs.flatMap Ub.own,∃ u,H a=some u/\∀ ys,u≠.tup ys:=by
 intro a ha
 rcases S0.mp ha with rfl | ha
 ·obtain ⟨dx,fs,h1,_⟩:=R.ob.ex
  exact ⟨_,h1,λ_ e=>nomatch e⟩
 rcases S0.mp ha with rfl | ha
 ·obtain ⟨xs,x1,_⟩:=R.pr
  exact ⟨_,x1,λ_ e=>nomatch e⟩
 rcases S0.mp ha with rfl | ha
 ·exact ⟨_,R.ul,λ_ e=>nomatch e⟩
 obtain ⟨b,hb,ha⟩:=x5.mp ha
 obtain ⟨i,hi⟩:=g6 hb
 have lt:i<s.un.length:=by rw [<- R.len];exact (Q1.mp hi).1
 have U:=R.each i b _ hi (Y1 lt)
 obtain ⟨xs,x1,_⟩:=U.rs
 obtain ⟨ys,y1,_⟩:=U.os
 obtain ⟨dx,fs,h1,_⟩:=U.ob.ex
 simp only [Ub.own,S0,A2,or_false] at ha
 rcases ha with rfl | rfl | rfl
 ·exact ⟨_,h1,λ_ e=>nomatch e⟩
 ·exact ⟨_,x1,λ_ e=>nomatch e⟩
 ·exact ⟨_,y1,λ_ e=>nomatch e⟩
theorem RA.same {T:Tx P w K mg} {H0 H H':Hp} {p pa ua:Addr} {s:St} {Bs:List Ub} {c:Nat} (R:RA T H0 H p pa ua s Bs c) (sm:Af H H'):RA T H0 H' p pa ua s Bs c:=by
 obtain ⟨xs,x1,x2⟩:=R.pr
 exact ⟨R.out.trans sm,R.new,R.ob.same sm,⟨xs,sm _ _ x1,x2.sameT (Eb sm)⟩,sm _ _ R.ul,R.len,R.le,λi b F h1 h2=>(R.each i b F h1 h2).same sm,R.nd,R.ct⟩
theorem RA.mono {T:Tx P w K mg} {H0 H:Hp} {p pa ua:Addr} {s:St} {Bs:List Ub} {c c':Nat} (R:RA T H0 H p pa ua s Bs c) (h:c<=c'):RA T H0 H p pa ua s Bs c' :=
 ⟨R.out,R.new,R.ob,R.pr,R.ul,R.len,R.le,R.each,R.nd,C0 R.ct.1 h,λF hF=>⟨C0 (R.ct.2 F hF).1 h,C0 (R.ct.2 F hF).2 h⟩⟩
def spRInit (T:Tx P w K mg):Sp:=λvs H Q _=>∃ (x dx:Addr),vs=[.ref x]/\H x=some (.ins T.al dx [])/\∀ (pa ua:Addr) (H':Hp),Cr T 2 .rdg H' x (gR pa ua)->H' pa=some (.lst [])->H' ua=some (.lst [])->H pa=none->H ua=none->pa≠ua->CP x H H'->Q .non H'
def Rx (T:Tx P w K mg):Sp:=λvs H Q _=>∃ (H0:Hp) (p pa ua:Addr) (s:St) (Bs:List Ub) (c:Nat) (z:Str),vs=[.ref p,.str z]/\RA T H0 H p pa ua s Bs c/\∀ H',Af H H'->Q (.bl (CI s z)) H'
def spREnd (T:Tx P w K mg):Sp:=λvs H Q _=>∃ (H0:Hp) (p pa ua:Addr) (s:St) (Bs:List Ub) (c:Nat),vs=[.ref p]/\RA T H0 H p pa ua s Bs c/\s.un≠[]/\c<=99999/\∀ (H':Hp) (Bs':List Ub),RA T H0 H' p pa ua (Vb s) Bs' (c+1)->Q .non H'
def spRPut (T:Tx P w K mg):Sp:=λvs H Q _=>∃ (H0:Hp) (p pa ua:Addr) (s:St) (Bs:List Ub) (c:Nat) (l:Addr) (z:Str) (fs:List V) (n:Int),vs=[.ref p,.ref l,.int n]/\RA T H0 H p pa ua s Bs c/\c<=99999/\H l=some (.lst fs)/\Vr fs/\fs.head?=some (.str z)/\CI s z=true /\
 ∀ (H':Hp) (Bs':List Ub),RA T H0 H' p pa ua (putL s z fs n) Bs' (c+1)->Q .non H'
def Ta (T:Tx P w K mg):Sp:=λvs H Q _=>∃ (H0:Hp) (p pa ua:Addr) (s:St) (Bs:List Ub) (c:Nat),vs=[.ref p]/\RA T H0 H p pa ua s Bs c/\∀ H',Af H H'->Q (.bl (s.un.isEmpty&&!s.pg.isEmpty)) H'
theorem dinK {P:Program} {w:World} {K:A0} {neg:Bool} {σ:L2.St} {i:Nat} {a:Addr} {kvs:List (Bw×V)} {z:Str} {H:Hp} {R:VK} (hσ:σ[i]?=some (some (.str z))) (hd:OE P w K a kvs) (k:R (.bl (neg^^(L2.valV kvs (.inr z)).isSome)) H):SQ P w K neg (Hh i) (tC (.ref a)) σ H R:=tVo hσ ⟨a,kvs,.inr z,rfl,hd,rfl,k⟩
theorem dixK {P:Program} {w:World} {K:A0} {σ:L2.St} {i:Nat} {a:Addr} {kvs:List (Bw×V)} {z:Str} {v:V} {H:Hp} {R:VK} (hσ:σ[i]?=some (some (.str z))) (hd:OE P w K a kvs) (e:L2.valV kvs (.inr z)=some v) (k:R v H):tDIxK P w K (tC (.ref a)) (Hh i) σ H R:=by
 unfold tDIxK tC
 exact tVo hσ ⟨a,kvs,.inr z,v,rfl,hd,rfl,e,k⟩
theorem ppw_iff (z:Str):z∈PPW↔JI z:=by
 unfold PPW JI
 simp only [S0,A2,or_false]
theorem gr_get (y:Str):L2.valV GRkv (.inr y)=if y="N" then some (.int 99) else if y="ROUNDS" then some (.int 9) else none:=by
 unfold L2.valV GRkv
 rw [T0]
 by_cases h1:y="N"
 ·subst h1
  rw [if_pos rfl]
  simp
 ·have e1:decide ((Sum.inr "N":Bw)=Sum.inr y)=false:=decide_eq_false λq=>h1 (Sum.inr.inj q).symm
  rw [if_neg h1,e1,T0]
  by_cases h2:y="ROUNDS"
  ·subst h2
   rw [if_pos rfl]
   simp
  ·have e2:decide ((Sum.inr "ROUNDS":Bw)=Sum.inr y)=false:=decide_eq_false λq=>h2 (Sum.inr.inj q).symm
   rw [if_neg h2,e2]
   rfl
theorem OK (z:Str):L2.valV PZ (.inr z)=if JQ z then some (.str (Fh z)) else none:=by
 unfold L2.valV PZ
 rw [T0]
 by_cases h1:z="limit"
 ·subst h1
  rw [if_pos (.inr (.inr rfl)),show Fh "limit"="late" by lk]
  simp
 ·have e1:decide ((Sum.inr "limit":Bw)=Sum.inr z)=false:=decide_eq_false λq=>h1 (Sum.inr.inj q).symm
  rw [e1,T0]
  by_cases h2:z="try"
  ·subst h2
   rw [if_pos (.inl rfl),show Fh "try"="but" by lk]
   simp
  ·have e2:decide ((Sum.inr "try":Bw)=Sum.inr z)=false:=decide_eq_false λq=>h2 (Sum.inr.inj q).symm
   rw [e2,T0]
   by_cases h3:z="do"
   ·subst h3
    rw [if_pos (.inr (.inl rfl)),show Fh "do"="last" by lk]
    simp
   ·have e3:decide ((Sum.inr "do":Bw)=Sum.inr z)=false:=decide_eq_false λq=>h3 (Sum.inr.inj q).symm
    rw [e3,if_neg (λq=>q.elim h2 λq=>q.elim h3 h1)]
    rfl
theorem Kz {z:Str} (h:GV z=true):intText? z=some ((v8 z.cps.toList:Nat):Int):=by
 unfold GV at h
 rw [W1,W1,decide_eq_true_eq,decide_eq_true_eq,C2] at h
 refine PySem.intText_digits (λc hc=>?_) (λe=>?_) (C0 h.1.2 (by kd_p))
 ·have:=h.2 c hc
  unfold MZ at this
  rw [W1,decide_eq_true_eq,decide_eq_true_eq] at this
  exact this
 ·have:=h.1.1
  rw [JM,e] at this
  exact absurd this (by kd_p)
theorem cut1 (x:V) (r:List V):Dj (x::r) (some 1) none=r:=by
 unfold Dj
 have e1:HT.sIx (x::r).length 0 (some 1)=1:=(HT.sIx_nat _ _ 1).trans (by rw [v0];lia)
 have e2:HT.sIx (x::r).length (x::r).length none=(x::r).length:=rfl
 rw [e1,e2]
 show List.take (r.length+1-1) r=r
 rw [Nat.add_sub_cancel,K3]
theorem Gi {α:Type} {f:α->Bool} {xs:List α} {i:Nat} {x:α} (h:xs[i]?=some x):(xs.take (i+1)).filter f=if f x=true then (xs.take i).filter f++[x] else (xs.take i).filter f:=by
 rw [W6,h,S6]
 show _++[x].filter f=_
 rw [X8]
 split<;>simp
theorem KA (y z:Str):BR y z=.non\/DB (BR y z)=true:=by
 have hb:∀ lo hi,Ll z lo hi=.non\/DB (Ll z lo hi)=true:=λlo hi=>by
  unfold Ll
  split
  ·split
   ·exact .inr rfl
   ·exact .inl rfl
  ·exact .inl rfl
 unfold BR
 split
 ·exact hb _ _
 split
 ·exact hb _ _
 split
 ·unfold Do
  split
  ·split
   ·exact .inr rfl
   ·exact .inl rfl
  ·split
   ·exact .inr rfl
   ·exact .inl rfl
 split
 ·split
  ·exact .inr rfl
  ·exact .inl rfl
 split
 ·exact .inr rfl
 ·exact .inl rfl
theorem ML {v:V} (h:DB v=true):Cy v=true:=by
 cases v with
 |int _=>rfl
 |str _=>rfl
 |_=>cases h
theorem field_V (y z:Str):Cy (BR y z)=true:=by
 rcases KA y z with h | h
 ·rw [h];rfl
 ·exact ML h
theorem zip_V (slots ws:List Str):(D4 BR slots ws).all Cy=true:=by
 rw [C2]
 intro v hv
 obtain ⟨i,hi⟩:=g6 hv
 rw [C6] at hi
 cases e1:slots[i]? with
 |none=>rw [e1] at hi;cases hi
 |some y =>
  cases e2:ws[i]? with
  |none=>rw [e1,e2] at hi;cases hi
  |some z=>rw [e1,e2] at hi;cases hi;exact field_V y z
theorem sp1:(" ":Str)=⟨#[32]⟩:=by lk
theorem nl1:("\n":Str)=⟨#[10]⟩:=by lk
theorem UP:∀ f∈FORMS,f.length<=6000:=by lk
theorem sl_ok:∀ s∈SL,s.length<=6000/\∀ w∈s,w.length<=6000:=by lk
theorem PB {F:List (List Str)} {i:Nat} {f:List Str} {ws:List Str} (h:F[i]?=some f):BW (F.drop i) ws=match FA f ws with
  |some x=>some x
  |none=>BW (F.drop (i+1)) ws:=by
 obtain ⟨lt,e⟩:=Q1.mp h
 rw [Z5 lt,e]
 rfl
theorem Cr.stN {T:Tx P w K mg} {n:Nat} {c:Kd} {H:Hp} {p:Addr} {g:Fl->Option V} (F:Cr T n c H p g) (l:Fl) (y:V) (hn:n<900:=by kd_p) (hc:l.kd=c:=by rfl):∃ dx fs,H p=some (.ins (T.C c) dx fs)/\FN K (T.C c)/\Aq K (T.C c) l.name/\fs.length<1000/\∃ H2,H2=upd H p (.ins (T.C c) dx (AM l.name y fs))/\CP p H H2/\Cr T (n+1) c H2 p (RC g l y)/\(g l≠none->Cr T n c H2 p (RC g l y)):=by
 obtain ⟨dx,fs,h1,h2,h3,h4⟩:=F.put l y
 exact ⟨dx,fs,h1,T.cl c,by rw [<- hc];exact T.na l,by lia,_,rfl,CP.upd,h3,h4⟩
theorem Cr.congr {T:Tx P w K mg} {n:Nat} {c:Kd} {H:Hp} {p:Addr} {g g':Fl->Option V} (F:Cr T n c H p g) (e:∀ l,g l=g' l):Cr T n c H p g':=by
 have:g=g':=funext e
 rw [<- this];exact F
theorem Cr.live {T:Tx P w K mg} {n:Nat} {c:Kd} {H:Hp} {p:Addr} {g:Fl->Option V} (F:Cr T n c H p g) {a:Addr} (h:H a=none):a≠p:=λe=>by
 obtain ⟨dx,fs,h1,_⟩:=F.ex
 rw [e,h1] at h
 cases h
theorem Cr.neL {T:Tx P w K mg} {n:Nat} {c:Kd} {H:Hp} {p:Addr} {g:Fl->Option V} (F:Cr T n c H p g) {a:Addr} {o:HO} (h:H a=some o) (hn:∀ C dx fs,o≠.ins C dx fs):a≠p:=λe=>by
 obtain ⟨dx,fs,h1,_⟩:=F.ex
 rw [e,h1] at h
 cases h
 exact hn _ _ _ rfl
theorem tw_iff (z:Str):z∈TWS↔EN z:=by
 unfold TWS EN
 simp only [S0,A2,or_false]
theorem inTW {K:A0} {G:Hp} {a:Addr} {z:Str} {R:VK} (h:Bc K G a (TWS.map V.str)) (k:R (.bl (decide (EN z))) G):rIn K false (.str z) (.ref a) G R:=by
 refine ⟨a,_,rfl,.inr h,rfl,Jd TWS,?_⟩
 rw [if_neg Q0,Kt]
 have e:decide (z∈TWS)=decide (EN z):=decide_eq_decide.mpr (tw_iff z)
 rw [e]
 exact k
theorem decP {z:Str}:decide (z∈PPW)=decide (JI z):=decide_eq_decide.mpr (ppw_iff z)
section
variable {T:Tx P w K mg} {H0 H H':Hp} {p pa ua:Addr} {pg:List Tr} {S:List Fq} {F F':Fq} {Bs Cs:List Ub} {b b':Ub} {c c':Nat} {st:St}
theorem RA.split (R:RA T H0 H p pa ua ⟨pg,S++[F]⟩ Bs c):∃ Cs b,Bs=Cs++[b]/\Cs.length=S.length:=by
 have hl:=R.len
 have hl':Bs.length=S.length+1:=by rw [hl];exact K0
 obtain ⟨Cs,b,rfl⟩:=Gp (xs:=Bs) (by lia)
 rw [K0] at hl'
 exact ⟨Cs,b,rfl,by simpa using hl'⟩
theorem RA.top (R:RA T H0 H p pa ua ⟨pg,S++[F]⟩ (Cs++[b]) c) (h:Cs.length=S.length):KG T H b F:=R.each S.length b F (by rw [<- h];exact Fb) Fb
theorem RA.ixTop {Q:VK} (R:RA T H0 H p pa ua st (Cs++[b]) c) (k:Q (.ref b.p) H):NB K (.ref ua) (.int (-1)) H Q:=by
 refine ⟨ua,_,-1,.ref b.p,rfl,rfl,AD.of R.ul,?_,k⟩
 rw [A3]
 exact atI_last _ _
theorem Io (Cs:List Ub) (b:Ub):(Cs++[b]).flatMap Ub.own=Cs.flatMap Ub.own++b.own:=by simp
theorem QG {i:Nat} (h:Bs[i]?=some b) {a:Addr} (ha:a∈b.own):a∈Bs.flatMap Ub.own:=x5.mpr ⟨b,j0 h,ha⟩
theorem KG.notT (U:KG T H b F) {a:Addr} {ys:List V} (h:H a=some (.tup ys)):a∉b.own:=λha=>by
 obtain ⟨xs,x1,_⟩:=U.rs
 obtain ⟨zs,y1,_⟩:=U.os
 obtain ⟨dx,fs,h1,_⟩:=U.ob.ex
 simp only [Ub.own,S0,A2,or_false] at ha
 rcases ha with rfl | rfl | rfl
 ·rw [h] at h1;cases h1
 ·rw [h] at x1;cases x1
 ·rw [h] at y1;cases y1
theorem RA.mod (R:RA T H0 H p pa ua ⟨pg,S++[F]⟩ (Cs++[b]) c) (hl:Cs.length=S.length) (U:KG T H' b' F') (e1:b'.p=b.p) (e2:b'.r=b.r) (e3:b'.o=b.o) (k:∀ a u,a∉b.own->H a=some u->H' a=some u) (hc:c<=c') (h1:F'.rs.length<=c') (h2:F'.os.length<=c'):RA T H0 H' p pa ua ⟨pg,S++[F']⟩ (Cs++[b']) c':=by
 have eo:b'.own=b.own:=by unfold Ub.own;rw [e1,e2,e3]
 have U0:=R.top hl
 have nd:=R.nd
 rw [Io] at nd
 have nin:∀ a∈p::pa::ua::Cs.flatMap Ub.own,a∉b.own:=λa ha hb=>by
  have:(p::pa::ua::Cs.flatMap Ub.own++b.own).Nodup:=nd
  exact (S8.mp this).2.2 a ha a hb rfl
 have sT:Hf H H':=λa ys h=>k a _ (U0.notT h) h
 obtain ⟨xs,x1,x2⟩:=R.pr
 have ob2:∀ {a u},a∈p::pa::ua::Cs.flatMap Ub.own->H a=some u->H' a=some u:=λha h=>k _ _ (nin _ ha) h
 refine ⟨λa u h=>?_,λa ha=>?_,R.ob.at' λo h=>ob2 W0 h,⟨xs,ob2 (N0 _ W0) x1,x2.sameT sT⟩,?_,?_,?_,?_,?_,?_⟩
 ·refine k a u (λhb=>?_) (R.out a u h)
  have:=R.new a (by rw [Io];exact N0 _ (N0 _ (N0 _ (Z0 _ hb))))
  rw [this] at h;cases h
 ·rw [Io,eo,<- Io] at ha
  exact R.new a ha
 ·have:=ob2 (N0 _ (N0 _ W0)) R.ul
  rw [A3] at this |-
  show H' ua=some (.lst (Cs.map (λb=>V.ref b.p)++[.ref b'.p]))
  rw [e1]
  exact this
 ·rw [K0,hl]
  show S.length+1=(S++[F']).length
  rw [K0]
  rfl
 ·have:=R.le
  have e:(S++[F]).length=(S++[F']).length:=by rw [K0,K0];rfl
  show (S++[F']).length<=21
  rw [<- e];exact this
 ·intro i d G h1 h2
  rcases Ky h1 with ⟨lt,h1⟩ | ⟨ei,ed⟩
  ·have lt2:i<S.length:=by lia
   have h2':S[i]?=some G:=by rw [<- h2];exact (Q2 lt2).symm
   have UU:=R.each i d G (by rw [Q2 lt];exact h1) (by rw [Q2 lt2];exact h2')
   refine UU.sameT sT λa ha=>?_
   obtain ⟨u,hu⟩:=UU.there a ha
   rw [hu]
   exact ob2 (N0 _ (N0 _ (N0 _ (QG h1 ha)))) hu
  ·rw [ei,hl] at h2
   have:(S++[F'])[S.length]?=some F':=Fb
   rw [show (⟨pg,S++[F']⟩:St).un=S++[F'] from rfl,this] at h2
   cases h2
   rw [ed]
   exact U
 ·rw [Io,eo];exact nd
 ·refine ⟨C0 R.ct.1 hc,λG hG=>?_⟩
  rcases Q3.mp (show G∈S++[F'] from hG) with q | q
  ·have:=R.ct.2 G (A4 _ q)
   exact ⟨C0 this.1 hc,C0 this.2 hc⟩
  ·rw [C1.mp q];exact ⟨h1,h2⟩
theorem RA.pop (R:RA T H0 H p pa ua ⟨pg,S++[F]⟩ (Cs++[b]) c) (hl:Cs.length=S.length):RA T H0 (upd H ua (.lst (Cs.map λb=>V.ref b.p))) p pa ua ⟨pg,S⟩ Cs c/\KG T (upd H ua (.lst (Cs.map λb=>V.ref b.p))) b F:=by
 have nd:=R.nd
 rw [Io] at nd
 have sT:Hf H (upd H ua (.lst (Cs.map λb=>V.ref b.p))):=EQ R.ul
 have nua:∀ a∈Cs.flatMap Ub.own++b.own,a≠ua:=λa ha e=>by
  have n1:=(E3.mp (E3.mp (E3.mp nd).2).2).1
  exact n1 (e▸ha)
 have np:p≠ua:=λe=>(E3.mp nd).1 (by rw [e];exact N0 _ W0)
 have npa:pa≠ua:=λe=>(E3.mp (E3.mp nd).2).1 (by rw [e];exact W0)
 obtain ⟨xs,x1,x2⟩:=R.pr
 have hle:=R.le
 have hle':S.length+1<=21:=by
  have e:(S++[F]).length=S.length+1:=K0
  rw [<- e];exact hle
 refine ⟨⟨λa u h=>?_,λa ha=>R.new a ?_,R.ob.at' λo h=>by rw [Ah np];exact h,⟨xs,by rw [Ah npa];exact x1,x2.sameT sT⟩,Ab,hl,(show S.length<=21 by lia),λi d G h1 h2=>?_,?_,R.ct.1,λG hG=>R.ct.2 G (A4 _ hG)⟩,?_⟩
 ·rw [Ah (λe=>by rw [e,R.new ua (N0 _ (N0 _ W0))] at h;cases h)]
  exact R.out a u h
 ·rw [Io]
  rcases S0.mp ha with rfl | ha
  ·exact W0
  rcases S0.mp ha with rfl | ha
  ·exact N0 _ W0
  rcases S0.mp ha with rfl | ha
  ·exact N0 _ (N0 _ W0)
  ·exact N0 _ (N0 _ (N0 _ (A4 _ ha)))
 ·have lt:i<Cs.length:=(Q1.mp h1).1
  have lt2:i<S.length:=by lia
  have UU:=R.each i d G (by rw [Q2 lt];exact h1) (by rw [Q2 lt2];exact h2)
  exact UU.sameT sT λa ha=>Ah (nua a (A4 _ (QG h1 ha)))
 ·have:(p::pa::ua::Cs.flatMap Ub.own++b.own).Nodup:=nd
  exact (S8.mp this).1
 ·exact (R.top hl).sameT sT λa ha=>Ah (nua a (Z0 _ ha))
theorem RA.addP (R:RA T H0 H p pa ua ⟨pg,S⟩ Bs c) {xs:List V} {v:V} {t:Tr} (hx:H pa=some (.lst xs)) (hr:CC H xs pg) (hv:GB H v t):RA T H0 (upd H pa (.lst (xs++[v]))) p pa ua ⟨pg++[t],S⟩ Bs (c+1):=by
 have nd:=R.nd
 have sT:Hf H (upd H pa (.lst (xs++[v]))):=EQ hx
 have np:p≠pa:=λe=>(E3.mp nd).1 (by rw [e];exact W0)
 have n1:=(E3.mp (E3.mp nd).2).1
 have nu:ua≠pa:=λe=>n1 (by rw [<- e];exact W0)
 refine ⟨λa u h=>?_,R.new,R.ob.at' λo h=>by rw [Ah np];exact h,⟨_,Ab,(hr.sameT sT).snoc (hv.sameT sT)⟩,by rw [Ah nu];exact R.ul,R.len,R.le,λi d G h1 h2=>(R.each i d G h1 h2).sameT sT λa ha=>Ah (λe=>n1 (by rw [<- e];exact N0 _ (QG h1 ha))),nd,?_,λG hG=>?_⟩
 ·rw [Ah (λe=>by rw [e,R.new pa (N0 _ W0)] at h;cases h)]
  exact R.out a u h
 ·rw [K0]
  exact N3 R.ct.1
 ·have:=R.ct.2 G hG
  exact ⟨M4 this.1,M4 this.2⟩
theorem RA.push (R:RA T H0 H p pa ua ⟨pg,S⟩ Bs c) (hl:S.length<=20) (s:Af H H') (U:KG T H' b F) (hn:∀ a∈b.own,H a=none) (hd:b.own.Nodup) (h1:F.rs.length<=c) (h2:F.os.length<=c):RA T H0 (upd H' ua (.lst (Bs.map (λb=>V.ref b.p)++[.ref b.p]))) p pa ua ⟨pg,S++[F]⟩ (Bs++[b]) c:=by
 have R2:=R.same s
 have nd:=R.nd
 have sT:Hf H' (upd H' ua (.lst (Bs.map (λb=>V.ref b.p)++[.ref b.p]))):=EQ R2.ul
 have np:p≠ua:=λe=>(E3.mp nd).1 (by rw [e];exact N0 _ W0)
 have npa:pa≠ua:=λe=>(E3.mp (E3.mp nd).2).1 (by rw [e];exact W0)
 have n1:=(E3.mp (E3.mp (E3.mp nd).2).2).1
 have nb:∀ a∈b.own,∀ x∈p::pa::ua::Bs.flatMap Ub.own,x≠a:=λa ha x hx e=>by
  obtain ⟨u,hu,_⟩:=R.there x hx
  rw [e,hn a ha] at hu
  cases hu
 obtain ⟨xs,x1,x2⟩:=R2.pr
 refine ⟨λa u h=>?_,λa ha=>?_,R2.ob.at' λo h=>by rw [Ah np];exact h,⟨xs,by rw [Ah npa];exact x1,x2.sameT sT⟩,?_,?_,?_,λi d G h1 h2=>?_,?_,R.ct.1,λG hG=>?_⟩
 ·rw [Ah (λe=>by rw [e,R.new ua (N0 _ (N0 _ W0))] at h;cases h)]
  exact R2.out a u h
 ·rw [Io] at ha
  rcases Q3.mp (show a∈(p::pa::ua::Bs.flatMap Ub.own)++b.own from ha) with q | q
  ·exact R.new a q
  ·exact R.out.free (hn a q)
 ·rw [Ab,A3]
  rfl
 ·rw [K0,R.len]
  show S.length+1=(S++[F]).length
  rw [K0]
  rfl
 ·show (S++[F]).length<=21
  rw [K0]
  show S.length+1<=21
  lia
 ·rcases Ky h1 with ⟨lt,h1⟩ | ⟨ei,ed⟩
  ·have lt2:i<S.length:=by have:=R.len;rw [this] at lt;exact lt
   have UU:=R2.each i d G h1 (by rw [<- h2];exact (Q2 lt2).symm)
   exact UU.sameT sT λa ha=>Ah (λe=>n1 (by rw [<- e];exact QG h1 ha))
  ·have hl2:Bs.length=S.length:=R.len
   rw [ei,hl2] at h2
   have:(S++[F])[S.length]?=some F:=Fb
   rw [show (⟨pg,S++[F]⟩:St).un=S++[F] from rfl,this] at h2
   cases h2
   rw [ed]
   exact U.sameT sT λa ha=>Ah (λe=>nb a ha ua (N0 _ (N0 _ W0)) e.symm)
 ·rw [Io]
  show ((p::pa::ua::Bs.flatMap Ub.own)++b.own).Nodup
  exact S8.mpr ⟨nd,hd,λx hx a ha=>nb a ha x hx⟩
 ·rcases Q3.mp (show G∈S++[F] from hG) with q | q
  ·exact R.ct.2 G q
  ·rw [C1.mp q];exact ⟨h1,h2⟩
end
theorem Oi:∀ {F:List (List Str)} {ws:List Str} {fs:List V},(∀ f∈F,f.length<=10)->BW F ws=some fs->fs.length<=10/\∀ v∈fs,DB v=true
 |[],_,_,_,h=>nomatch h
 |f::F,ws,fs,hF,h=>by
  have h':(match FA f ws with | some x=>some x | none=>BW F ws)=some fs:=h
  cases e:FA f ws with
  |none =>
   rw [e] at h'
   exact Oi (λg hg=>hF g (N0 _ hg)) h'
  |some x =>
   rw [e] at h'
   cases h'
   unfold FA at e
   split at e
   ·split at e
    ·cases e
    ·rename_i hl hin
     cases e
     refine ⟨?_,λv hv=>?_⟩
     ·rw [B8]
      exact C0 (Nat.min_le_left _ _) (hF f W0)
     ·obtain ⟨i,hi⟩:=g6 hv
      rw [C6] at hi
      cases e1:f[i]? with
      |none=>rw [e1] at hi;cases hi
      |some y =>
       cases e2:ws[i]? with
       |none=>rw [e1,e2] at hi;cases hi
       |some z =>
        rw [e1,e2] at hi
        cases hi
        rcases KA y z with q | q
        ·exfalso
         apply hin
         unfold Ik
         rw [V7]
         exact ⟨_,hv,by rw [q];rfl⟩
        ·exact q
   ·cases e
theorem Jq (sep:Str):∀ {l:List Str} {a:Str},a∈l->a.length<=(Str.join sep l).length
 |[b],a,h=>by rw [C1.mp h];exact P0 _
 |b::c::l,a,h=>by
  show a.length<=(b++sep++Str.join sep (c::l)).length
  rw [MT,MT]
  rcases S0.mp h with rfl | h
  ·lia
  ·have:=Jq sep (l:=c::l) h
   lia
theorem HI {z a:Str} {c:Nat} (h:a∈Txt.split z ⟨#[c]⟩):a.length<=z.length:=by
 have:=Jq ⟨#[c]⟩ h
 rw [StrLaws.join_split] at this
 exact this
def Lj (H:Hp) (xs:List Addr):Hp:=λa=>if a∈xs then none else H a
theorem RX (H:Hp) (xs:List Addr):Af (Lj H xs) H:=λa o h=>by
 unfold Lj at h
 by_cases e:a∈xs
 ·rw [if_pos e] at h;cases h
 ·rw [if_neg e] at h;exact h
theorem QR {H:Hp} {xs:List Addr} {a:Addr} {o:HO} (h:H a=some o) (n:a∉xs):Lj H xs a=some o:=by
 unfold Lj
 rw [if_neg n];exact h
theorem RF {H G:Hp} {xs:List Addr} (s:Af H G) (h:∀ a∈xs,H a=none):Af H (Lj G xs):=λa o e=>QR (s a o e) λq=>by rw [h a q] at e;cases e
theorem RY (H:Hp) {xs:List Addr} {a:Addr} (h:a∈xs):Lj H xs a=none:=if_pos h
theorem RA.first {T:Tx P w K mg} {H:Hp} {p pa ua:Addr} (ob:Cr T 2 .rdg H p (gR pa ua)) (h1:H pa=some (.lst [])) (h2:H ua=some (.lst [])) (n:pa≠ua):RA T (Lj H [p,pa,ua]) H p pa ua ⟨[],[]⟩ [] 0:=by
 refine ⟨RX _ _,λa ha=>RY _ ha,ob,⟨[],h1,CC.nil _⟩,h2,rfl,N1 _,(λ_ _ _ h=>nomatch h),?_,P0 _,(λ_ h=>nomatch h)⟩
 have n1:p≠pa:=λe=>ob.neL h1 (λ_ _ _ z=>nomatch z) e.symm
 have n2:p≠ua:=λe=>ob.neL h2 (λ_ _ _ z=>nomatch z) e.symm
 show [p,pa,ua].Nodup
 simp [n1,n2,n]
theorem Sa (z:Str) (L:List Str):Txt.join z L=Str.join z L:=by
 show Builtin.Str.glued _ _=_
 rw [StrLaws.glued_eq_join]
def Rh (z:Str):Prop:=∀ c∈z.cps.toList,c<128
theorem Ip {z:Str} {r:List Str}:∀ {F:List (List Str)},(∀ f∈F,∃ s t,f=s::t/\GZ s=false)->BW F (z::r)=BW (F.filter λf=>decide (f.head?=some z)) (z::r)
 |[],_=>rfl
 |f::F,h=>by
  obtain ⟨s,t,rfl,hs⟩:=h f W0
  have ih:=Ip (z:=z) (r:=r) λg hg=>h g (N0 _ hg)
  show (match FA (s::t) (z::r) with | some x=>some x | none=>BW F (z::r))=_
  by_cases e:s=z
  ·rw [X8,if_pos (by rw [e];exact decide_eq_true rfl)]
   show _=(match FA (s::t) (z::r) with | some x=>some x | none=>BW _ (z::r))
   rw [ih]
  ·rw [X8,if_neg (by show ¬ decide (some s=some z)=true;rw [decide_eq_false (λq=>e (V3.inj q))];exact Q0)]
   have:FA (s::t) (z::r)=none:=by
    by_cases el:(s::t).length=(z::r).length
    ·refine UR ?_
     show ((s::t).length != r.length+1||(!GZ s&&s != z))=true
     rw [hs,Bool.not_false,S3,bne_iff_ne.mpr e,d7]
    ·unfold FA
     rw [if_neg el]
   rw [this,ih]
theorem OQ:∀ f∈SL,∃ s t,f=s::t/\GZ s=false:=by
 intro f hf
 have:∀ f∈SL,(match f with | []=>false | s::_=>!GZ s)=true:=by lk
 have:=this f hf
 cases f with
 |nil=>cases this
 |cons s t=>exact ⟨s,t,rfl,by simpa using this⟩
theorem QZ {α:Type} {l:List α} {n:Nat} (h:l.length=n+1):∃ a r,l=a::r/\r.length=n:=by
 cases l with
 |nil=>cases h
 |cons a r=>exact ⟨a,r,rfl,j8.inj h⟩
theorem Pe {α:Type} {l:List α} (h:l.length=1):∃ a,l=[a]:=by
 obtain ⟨a,r,e,h2⟩:=QZ h
 exact ⟨a,by rw [e,y8.mp h2]⟩
theorem LZ {α:Type} {l:List α} (h:l.length=2):∃ a b,l=[a,b]:=by
 obtain ⟨a,r,e,h2⟩:=QZ h
 obtain ⟨b,e2⟩:=Pe h2
 exact ⟨a,b,by rw [e,e2]⟩
set_option genInjectivity false in
structure Lb where
 p:Addr
 t:Addr
 L:Addr
 r:Addr
 o:Option Addr
def Lb.own (b:Lb):List Addr:=b.p::b.L::b.r::b.o.toList
structure LAt (H:Hp) (b:Lb) (F:Fq):Prop where
 fr:∃ (z:Str) (n:Int) (th:List V) (fa:V),F.hd=.str z::.int n::th/\H b.p=some (.lst [.str z,.int n,.ref b.t,.ref b.L,fa])/\H b.t=some (.tup th)/\th.length<=10/\(∀ v∈th,DB v=true)/\(z="try"->th=[]/\(F.tn=true->F.tf=[fa]/\DB fa=true))/\(z≠"try"->F.tf=[])
 ls:H b.L=some (.lst (.ref b.r::b.o.toList.map V.ref))
 rs:∃ xs,H b.r=some (.lst xs)/\CC H xs F.rs
 os:(b.o=none/\F.tn=false/\F.os=[])\/∃ q ys,b.o=some q/\F.tn=true/\H q=some (.lst ys)/\CC H ys F.os
section
variable {H0 H H':Hp} {pa ua:Addr} {pg:List Tr} {S:List Fq} {F F':Fq} {Bs Cs:List Lb} {b b':Lb} {c c':Nat} {st:St}
end
theorem Pz {z:Str} {r:List Str} {fs:List V} (h:BW SL (z::r)=some fs):fs.head?=some (.str z):=by
 rw [Ip OQ] at h
 have key:∀ {F:List (List Str)},(∀ f∈F,∃ t,f=z::t)->GZ z=false\/F=[]->BW F (z::r)=some fs->fs.head?=some (.str z):=by
  intro F
  induction F with
  |nil=>intro _ _ e;cases e
  |cons f F ih =>
   intro hF hz e
   obtain ⟨t,rfl⟩:=hF f W0
   have hz:GZ z=false:=hz.resolve_right λq=>nomatch q
   have e:(match FA (z::t) (z::r) with | some x=>some x | none=>BW F (z::r))=some fs:=e
   cases q:FA (z::t) (z::r) with
   |none=>rw [q] at e;exact ih (λg hg=>hF g (N0 _ hg)) (.inl hz) e
   |some x =>
    rw [q] at e
    cases e
    unfold FA at q
    split at q
    ·split at q
     ·cases q
     ·cases q
      rw [C9,US hz]
      rfl
    ·cases q
 refine key (λf hf=>?_) ?_ h
 ·obtain ⟨h1,h2⟩:=O6.mp hf
  obtain ⟨s,t,rfl,_⟩:=OQ f h1
  have h2:some s=some z:=of_decide_eq_true h2
  cases h2
  exact ⟨t,rfl⟩
 ·cases e:SL.filter λf=>decide (f.head?=some z) with
  |nil=>exact .inr rfl
  |cons f F =>
   have hf:f∈SL.filter λf=>decide (f.head?=some z):=by rw [e];exact W0
   obtain ⟨h1,h2⟩:=O6.mp hf
   obtain ⟨s,t,rfl,hs⟩:=OQ f h1
   have h2:some s=some z:=of_decide_eq_true h2
   cases h2
   exact .inl hs
def Dz:Nat->List Str->St->Int ⊕ St
 |_,[],s=>.inr s
 |i,l::r,s=>if BJ l=[] then Dz (i+1) r s else match step s i (BJ l) with
  |none=>.inl i
  |some s'=>Dz (i+1) r s'
def Pd (L:List Str):Int ⊕ List Tr:=match Dz 1 L ⟨[],[]⟩ with
 |.inl i=>.inl i
 |.inr s=>if s.un=[]/\s.pg≠[] then .inr s.pg else .inl L.length
def OutV (H:Hp) (v:V):Int ⊕ List Tr->Prop
 |.inl i=>v=.int i
 |.inr ts=>GB H v (.t ts)
def htL:Nat->Tr->Prop
 |_,.i _=>True
 |_,.s _=>True
 |0,.t _=>False
 |n+1,.t ts=>∀ t∈ts,htL n t
structure HtS (s:St):Prop where
 le:s.un.length<=21
 pg:∀ t∈s.pg,htL 44 t
 un:∀ (j:Nat) (F:Fq),s.un[j]?=some F->∀ t∈F.rs++F.os,htL (42-2*j) t
def WsA (ws:List Str):Prop:=ws.length<=6000/\∀ w∈ws,w.length<=6000/\Rh w
theorem WsA.ok {ws:List Str} (h:WsA ws):WsOk ws:=⟨h.1,λw hw=>(h.2 w hw).1⟩
structure PX (z:Str):Prop where
 asc:Rh z
 len:z.length<=10000000
 cnt:(Txt.split z ⟨#[10]⟩).length<=90000
 each:∀ l∈Txt.split z ⟨#[10]⟩,l.length<=5000
def Lc (z:Str):Int ⊕ List Tr:=Pd (Txt.split z ⟨#[10]⟩)
def Nk (C:Addr):Sp:=λvs H Q _=>∃ (a:Addr) (v:V) (t:Addr),vs=[.ref a,v]/\H a=some (BM a C none t)/\∀ dx H',H dx=none->dx≠a->H' a=some (BM a C (some dx) t)->H' dx=some (OB dx [("line",v)])->(∀ b o,b≠a->H b=some o->H' b=some o)->Q .non H'
def spReadX (C:Addr):Sp:=λvs H Q E=>∃ z:Str,vs=[.str z]/\PX z/\(∀ ts,Lc z=.inr ts->∀ v H',GB H' v (.t ts)->Af H H'->Q v H')/\(∀ i,Lc z=.inl i->∀ dx H',H' dx=some (OB dx [("line",.int i)])->Af H H'->E (.ref C) (some dx) H')
theorem join_cps (sep:Str):∀ {l:List Str} {a:Str},a∈l->∀ c∈a.cps.toList,c∈(Str.join sep l).cps.toList
 |[b],a,h,c,hc=>by rw [C1.mp h] at hc;exact hc
 |b::d::l,a,h,c,hc=>by
  show c∈(b++sep++Str.join sep (d::l)).cps.toList
  rw [QY,QY]
  rcases S0.mp h with rfl | h
  ·exact A4 _ (A4 _ hc)
  ·exact Z0 _ (join_cps sep h c hc)
theorem Lx {z:Str} (h:Rh z) {k:Nat}:∀ l∈Txt.split z ⟨#[k]⟩,Rh l:=λl hl c hc=>by
 refine h c ?_
 have:=join_cps ⟨#[k]⟩ hl c hc
 rw [StrLaws.join_split] at this
 exact this
theorem Us {l:Str} (ha:Rh l) (hl:l.length<=5000):WsA (BJ l):=by
 unfold BJ
 refine ⟨?_,λw hw=>?_⟩
 ·have:=K9 l ⟨#[32]⟩
  exact C0 (C4 _ _) (by lia)
 ·have hw:=(O6.mp hw).1
  exact ⟨C0 (HI hw) (by lia),Lx ha w hw⟩
theorem dig128:∀ c:Fin 128,(Builtin.Str.occurrences (Str.ofString "0123456789") ⟨#[c.val]⟩ 0 (Str.ofString "0123456789").length 1).isEmpty=!MZ c.val:=by lk
theorem z0 {z:Str} (h:z.length=0):z="":=by
 refine ST ?_
 rw [show (Str.ofString "").cps.toList=[] by lk]
 exact y8.mp h
theorem al_s {H G:Hp} {p:Addr} {o:HO} (h:H p=none) (e:upd H p o=G):Af H G/\G p=some o:=by
 subst e
 exact ⟨Af.upd h,Ab⟩
set_option hygiene false in
local macro_rules | `(tactic| walk_at "m") => `(tactic| (refine mA fun N hN => ?_; k_go))
set_option hygiene false in
local macro_rules | `(tactic| walk_at "n") => `(tactic| (refine hN _ _ ?_; clear hN N; k_go))
theorem mA {a b:TS} {D:FE} {σ:L2.St} {H:Hp} (h:∀ N:L2.St->Hp->Prop,(∀ σ' H',b D σ' H'->N σ' H')->a { D with nx:=N } σ H):tMid a b D σ H:=⟨b D,h (b D) (λ_ _ x=>x),λ_ _ x=>x⟩
set_option hygiene false in
theorem may_end {F:Fq} {fz:Str} (e:F.wd=fz):F.mayEnd=if fz="limit" then !F.tn||!F.os.isEmpty else F.tn||!decide (JQ fz):=by unfold Fq.mayEnd;rw [e]
section
variable {H0 H H':Hp} {pa ua:Addr} {pg:List Tr} {S:List Fq} {F F':Fq} {Bs Cs:List Lb} {b b':Lb} {c c':Nat} {st:St}
end
theorem OV {C:Addr} {H G:Hp} {v:V} {E:XK} (s:Af H G) (k:∀ dx H',H' dx=some (OB dx [("line",v)])->Af H H'->E (.ref C) (some dx) H'):∀ e t,G e=none->Nk C [.ref e,v] (upd G e (BM e C none t)) (λv H2=>v=.non/\∃ d t,H2 e=some (BM e C d t)/\E (.ref C) d (Sk H2 e)) E0:=λe t he=>by
 refine ⟨e,v,t,rfl,Ab,λdx H' hd ne h1 h2 h3=>⟨rfl,some dx,t,h1,k dx _ (by rw [Ek ne];exact h2) λb o hb=>?_⟩⟩
 have hbe:b≠e:=λq=>by rw [q] at hb;rw [s _ _ hb] at he;cases he
 rw [Ek hbe]
 exact h3 b o hbe (by rw [Ah hbe];exact s _ _ hb)
def nl (z:Str):Nat:=z.cps.toList.count 10
structure Gd (N S M B:Nat) (g:List Str):Prop where
 len:g.length<=N
 each:∀ x∈g,Rh x/\x.length<=M
 sum:(g.map (·.length)).sum<=S
 nls:(g.map nl).sum<=B
def jn (l:List Str):List Nat:=(l.map λb=>10::b.cps.toList).flatten
theorem jn_app (a b:List Str):jn (a++b)=jn a++jn b:=by unfold jn;rw [A3,List.flatten_append]
theorem Ij:∀ {l:List Str},l≠[]->10::(Str.join ⟨#[10]⟩ l).cps.toList=jn l
 |a::r,_=>by
  rw [L2.join_cps]
  rfl
theorem NZ (z:Str):jn (Txt.split z ⟨#[10]⟩)=10::z.cps.toList:=by
 rw [<- Ij (HH z 10),StrLaws.join_split]
theorem Oa:∀ {l:List Str},(∀ a∈l,(10:Nat)∉a.cps.toList)->(jn l).count 10=l.length
 |[],_=>rfl
 |a::l,h=>by
  show (10::a.cps.toList++jn l).count 10=_
  rw [List.count_append,Oa λb hb=>h b (N0 _ hb),M9,List.count_eq_zero.mpr (h a W0),v0]
  lia
theorem SV (z:Str):(Txt.split z ⟨#[10]⟩).length=nl z+1:=by
 rw [<- Oa λa ha=>StrLaws.split_free _ 10 a ha,NZ,M9]
 rfl
theorem MG:∀ L:List Str,jn (L.flatMap λl=>Txt.split l ⟨#[10]⟩)=jn L
 |[]=>rfl
 |a::L=>by
  rw [K5,jn_app,MG L,NZ]
  rfl
theorem Hj {L:List Str} (h:L≠[]):Txt.split (Str.join ⟨#[10]⟩ L) ⟨#[10]⟩=L.flatMap λl=>Txt.split l ⟨#[10]⟩:=by
 have hne:(L.flatMap λl=>Txt.split l ⟨#[10]⟩)≠[]:=λe=>by
  have:=MG L
  rw [e,<- Ij h] at this
  cases this
 refine NY 10 (HH _ 10) hne (λa ha=>StrLaws.split_free _ 10 a ha) (λa ha=>?_) ?_
 ·obtain ⟨l,_,hl⟩:=x5.mp ha
  exact StrLaws.split_free _ 10 a hl
 ·rw [StrLaws.join_split]
  refine ST ?_
  have:=(Ij hne).trans ((MG L).trans (Ij h).symm)
  exact (Z8.inj this).2.symm
theorem Gd.text {N S M B:Nat} {g:List Str} (h:Gd N S M B g) (hM:M<=5000) (hN:N+B+1<=90000) (hS:S+N<=10000000):PX (Str.join ⟨#[10]⟩ g):=by
 by_cases hg:g=[]
 ·subst hg
  have e:Txt.split (Str.join ⟨#[10]⟩ []) ⟨#[10]⟩=[("":Str)]:=by lk
  refine ⟨(show Rh "" from λc hc=>(by cases hc)),N1 _,(by rw [e];decide),λl hl=>?_⟩
  rw [e] at hl
  rw [C1.mp hl]
  lk
 have ej:=Ij hg
 have hjn:∀ (l:List Str) c,c∈jn l->c=10\/∃ x∈l,c∈x.cps.toList:=λl c hc=>by
  unfold jn at hc
  obtain ⟨q,hq,hc⟩:=List.mem_flatten.mp hc
  obtain ⟨x,hx,rfl⟩:=E5.mp hq
  rcases S0.mp hc with rfl | hc
  ·exact .inl rfl
  ·exact .inr ⟨x,hx,hc⟩
 have hjl:∀ l:List Str,(jn l).length=(l.map (·.length)).sum+l.length:=λl=>by
  induction l with
  |nil=>rfl
  |cons a l ih =>
   show (10::a.cps.toList++jn l).length=_
   rw [K0,ih,j2,K8,v0,v0,JM]
   lia
 refine ⟨λc hc=>?_,?_,?_,λl hl=>?_⟩
 ·rcases hjn g c (by rw [<- ej];exact N0 _ hc) with rfl | ⟨x,hx,q⟩
  ·decide
  ·exact (h.each x hx).1 c q
 ·have:=hjl g
  rw [<- ej,v0] at this
  rw [JM]
  have h1:=h.len
  have h2:=h.sum
  lia
 ·rw [Hj hg]
  have:∀ l:List Str,(l.flatMap λl=>Txt.split l ⟨#[10]⟩).length=(l.map nl).sum+l.length:=λl=>by
   induction l with
   |nil=>rfl
   |cons a l ih =>
    rw [K5,K0,ih,SV,j2,K8,v0]
    lia
  rw [this]
  have h1:=h.len
  have h2:=h.nls
  lia
 ·rw [Hj hg] at hl
  obtain ⟨x,hx,hl⟩:=x5.mp hl
  have:=HI hl
  have:=(h.each x hx).2
  lia
def Gs (x:Str):Prop:=Rh x/\x.length<=4000/\nl x<=9
def gsB (x:Str):Bool:=(x.cps.toList.all λc=>decide (c<128))&&decide (x.length<=4000)&&decide (x.cps.toList.count 10<=9)
theorem gsB_of {x:Str} (h:gsB x=true):Gs x:=by
 unfold gsB at h
 simp only [W1,decide_eq_true_eq,C2] at h
 exact ⟨λc hc=>h.1.1 c hc,h.1.2,h.2⟩
theorem gsL_of {xs:List Str} (h:xs.all gsB=true):∀ x∈xs,Gs x:=λx hx=>gsB_of (C2.mp h x hx)
def Kq (x:Str):Prop:=Rh x/\x.length<=10/\nl x=0
def kqB (x:Str):Bool:=(x.cps.toList.all λc=>decide (c<128))&&decide (x.length<=10)&&decide (x.cps.toList.count 10=0)
theorem kqL_of {xs:List Str} (h:xs.all kqB=true):∀ x∈xs,Kq x:=λx hx=>by
 have h:=C2.mp h x hx
 unfold kqB at h
 simp only [W1,decide_eq_true_eq,C2] at h
 exact ⟨λc hc=>h.1.1 c hc,h.1.2,h.2⟩
def GL (P:Str->Prop) (H:Hp) (a:Addr) (n:Nat):Prop:=∃ xs:List Str,H a=some (.lst (xs.map V.str))/\xs.length=n/\∀ x∈xs,P x
theorem catG {P:Str->Prop} {H:Hp} {a b:Addr} {n m:Nat} {Q:VK} (ha:GL P H a n) (hb:GL P H b m) (h:n+m<=1000) (k:∀ p H',H p=none->GL P H' p (n+m)->Af H H'->Q (.ref p) H'):rCat (.ref a) (.ref b) H Q:=by
 obtain ⟨xs,x1,x2,x3⟩:=ha
 obtain ⟨ys,y1,y2,y3⟩:=hb
 refine ⟨a,b,_,_,rfl,rfl,x1,y1,by rw [J0,J0,x2,y2];exact C0 h (by kd_p),λp hp=>k p _ hp ⟨xs++ys,by rw [Ab,A3],by rw [K0,x2,y2],λx hx=>?_⟩ (Af.upd hp)⟩
 rcases Q3.mp hx with q | q
 ·exact x3 x q
 ·exact y3 x q
def vB (f:Str->Bool):V->Bool
 |.str x=>f x
 |_=>false
theorem SG {f:Str->Bool}:∀ {vs:List V},vs.all (vB f)=true->∃ xs:List Str,vs=xs.map V.str/\xs.all f=true
 |[],_=>⟨[],rfl,rfl⟩
 |v::vs,h=>by
  rw [O7,W1] at h
  obtain ⟨xs,rfl,h2⟩:=SG h.2
  cases v with
  |str x=>exact ⟨x::xs,rfl,by rw [O7,h2,Bool.and_true];exact h.1⟩
  |_=>cases h.1
theorem newG {H:Hp} {p:Addr} {vs:List V} (h:vs.all (vB gsB)=true):GL Gs (upd H p (.lst vs)) p vs.length:=by
 obtain ⟨xs,rfl,h2⟩:=SG h
 exact ⟨xs,Ab,by rw [J0],gsL_of h2⟩
theorem newK {H:Hp} {p:Addr} {vs:List V} (h:vs.all (vB kqB)=true):GL Kq (upd H p (.lst vs)) p vs.length:=by
 obtain ⟨xs,rfl,h2⟩:=SG h
 exact ⟨xs,Ab,by rw [J0],kqL_of h2⟩
set_option hygiene false in
section
variable {K:A0} {G:Hp} {ga la:Addr} {g:List Str} {i k:Nat} {Q R:VK}
end
def Qq:Sp:=λ_ _ _ _=>False
theorem Dc {f:Addr} {fd:FuncData} {ps:List Str} {k:Nat}:AS P w K mg base CX0 k f fd ps Qq:=⟨λ_ _ _ _ h=>h.elim,λ_ _ _ _ _ _ _ _ _ _ _ _ _ h=>h.elim⟩
def HB (n:Nat) (rs:List Rw):Nat:=(AC n rs).length
theorem siz_app (n:Nat) (a b:List Rw):HB n (a++b)=HB n a+HB n b:=by unfold HB;rw [JP,K0]
theorem Mh {n:Nat} {r:Rw}:HB (n+1) [r]=1+(r.ps.map (HB n)).sum:=by
 have e:AC (n+1) [r]=r::r.ps.flatMap (AC n):=by
  show [r].flatMap (λr=>r::r.ps.flatMap (AC n))=_
  simp
 have e2:∀ l:List (List Rw),(l.flatMap (AC n)).length=(l.map (HB n)).sum:=λl=>by
  induction l with
  |nil=>rfl
  |cons p l ih=>rw [K5,K0,ih,j2,K8];rfl
 unfold HB
 rw [e,v0]
 have:=e2 r.ps
 unfold HB at this
 lia
theorem DQ.updL {H H1:Hp} {p:Addr} {xs:List V} {o:HO} (s:DQ H H1) (h:H1 p=some (.lst xs)):DQ H (upd H1 p o):=λc ys e=>by
 have e1:=s c ys e
 rw [Ah (AU e1 h (λz=>nomatch z))];exact e1
def OA (H:Hp) (v:V) (e:Er):Prop:=∃ (q:Addr) (p:V),v=.ref q/\H q=some (.tup [.str "errand",.int e.ln,.str e.nm,p])/\Gk 7 H p e.rows/\HB 7 e.rows<=800
def DR (H:Hp) (v:V) (es:List Er):Prop:=∃ (b:Addr) (ys:List V),v=.ref b/\H b=some (.tup ys)/\es.length<=60/\BT (OA H) ys es
theorem OA.ts {H H':Hp} {v:V} {e:Er} (h:OA H v e) (s:DQ H H'):OA H' v e:=by
 obtain ⟨q,p,h1,h2,h3,h4⟩:=h
 exact ⟨q,p,h1,s _ _ h2,h3.ts s,h4⟩
theorem DR.ts {H H':Hp} {v:V} {es:List Er} (h:DR H v es) (s:DQ H H'):DR H' v es:=by
 obtain ⟨b,ys,h1,h2,h3,h4⟩:=h
 exact ⟨b,ys,h1,s _ _ h2,h3,h4.mono λy r _ q=>q.ts s⟩
theorem BS.up {H:Hp}:∀ {n:Nat} {v:V} {r:Rw},BS n H v r->BS (n+1) H v r
 |0,_,_,h=>h.elim
 |n+1,v,r,h=>by
  obtain ⟨a,rr,e1,e2,e3,e4,e5,e6,e7,e8⟩:=h
  exact ⟨a,rr,e1,e2,e3,e4,e5,e6,e7,e8.mono λp q _ ⟨b,ys,f1,f2,f3,f4⟩=>⟨b,ys,f1,f2,f3,f4.mono λy r _ z=>z.up⟩⟩
theorem BS.le {H:Hp} {n m:Nat} {v:V} {r:Rw} (h:BS n H v r) (l:n<=m):BS m H v r:=by
 induction l with
 |refl=>exact h
 |step _ ih=>exact ih.up
theorem HE {n:Nat} {r:Rw}:AC (n+1) [r]=r::r.ps.flatMap (AC n):=by
 show [r].flatMap (λr=>r::r.ps.flatMap (AC n))=_
 simp
theorem Iz {n:Nat} {r:Rw} {rs:List Rw}:AC n (r::rs)=AC n [r]++AC n rs:=JP n [r] rs
theorem BV {α β:Type} {f:α->List β} {xs:List α} {i:Nat} {x:α} (h:xs[i]?=some x):(xs.take (i+1)).flatMap f=(xs.take i).flatMap f++f x:=by
 rw [Y5,h,C8]
 simp
theorem Gh {α β:Type} {f:α->List β} (xs:List α) (i:Nat):((xs.take i).flatMap f).length<=(xs.flatMap f).length:=by
 have h:=congrArg c8 (congrArg (List.flatMap f) (List.take_append_drop i xs))
 rw [C8,K0] at h
 lia
theorem BT.emp {α:Type} {R:V->α->Prop} {ys:List V} {rs:List α} (h:BT R ys rs) (n:∀ y r,¬ R y r):ys=[]/\rs=[]:=by
 cases ys with
 |nil=>exact ⟨rfl,L4 h.1.symm⟩
 |cons y ys =>
  obtain ⟨r,_,hr⟩:=h.get (i:=0) (y:=y) rfl
  exact (n _ _ hr).elim
def Es:Sp:=λvs H Q _=>∃ (v:V) (n:Nat) (r:Rw),vs=[v]/\BS (n+1) H v r/\∀ p us H',H p=none->H' p=some (.tup us)->us.length<=10->BT (Gk n H') us r.ps->Af H H'->Q (.ref p) H'
def Md (n:Nat):Sp:=λvs H Q _=>∃ (v:V) (rs:List Rw),vs=[v]/\Gk n H v rs/\HB n rs<=1000/\∀ l us H',H l=none->H' l=some (.lst us)->BT (BS n H') us (AC n rs)->Af H H'->Q (.ref l) H'
def spDown:Nat->Sp
 |0=>Qq
 |n+1=>Md n
def KnA (ah:List Str) (rs:List Rw):Prop:=∀ q∈rs,q.w="begin"->q.x 1∈ah
def Vu (H:Hp) (d:Addr) (ah:List Str) (A:Str->Int):Prop:=∃ kvs:List (Bw×V),H d=some (.dK kvs)/\kvs.length<=100/\∀ m∈ah,valV kvs (.inr m)=some (.int (A m))
theorem Vu.same {H H':Hp} {d:Addr} {ah:List Str} {A:Str->Int} (h:Vu H d ah A) (s:Af H H'):Vu H' d ah A:=by
 obtain ⟨kvs,h1,h2⟩:=h
 exact ⟨kvs,s _ _ h1,h2⟩
def addP (o:Bool) (A:Str->Int) (n:Nat) (r:Rw):Int:=if r.w="begin" then A (r.x 1) else (r.ps.map (JH o A n)).sum*r.k
theorem cnt_eq (o:Bool) (A:Str->Int) (n:Nat) (rs:List Rw):JH o A (n+1) rs=(rs.map λr=>Pc o r+addP o A n r).sum:=rfl
def Nl (o:Bool):Sp:=λvs H Q _=>∃ (v:V) (n:Nat) (r:Rw),vs=[v]/\BS (n+1) H v r/\Q (.int (Pc o r)) H
def Go (f:Addr) (o:Bool) (n:Nat):Sp:=λvs H Q _=>∃ (ah:List Str) (A:Str->Int) (v:V) (d:Addr) (rs:List Rw),vs=[v,.ref f,.ref d]/\Gk n H v rs/\KnA ah (AC n rs)/\Vu H d ah A/\∀ H',Af H H'->Q (.int (JH o A n rs)) H'
def Qt (f:Addr) (o:Bool) (n:Nat):Sp:=λvs H Q _=>∃ (ah:List Str) (A:Str->Int) (v:V) (d:Addr) (r:Rw),vs=[v,.ref f,.ref d]/\BS (n+1) H v r/\KnA ah (AC (n+1) [r])/\Vu H d ah A/\∀ H',Af H H'->Q (.int (addP o A n r)) H'
def Ts (f:Addr) (o:Bool):Nat->Sp
 |0=>Qq
 |n+1=>Qt f o n
def Kn (es:List Er):Prop:=∀ i e,es[i]?=some e->KnA ((es.take i).map Er.nm) (AC 7 e.rows)
def Nm (f:Addr) (o:Bool):Sp:=λvs H Q _=>∃ (v:V) (it:Int) (es:List Er),vs=[v,.ref f,.int it]/\DR H v es/\es≠[]/\Kn es/\∀ H',Af H H'->Q (.int (AP o it 7 es (Ej es).nm)) H'
def Nj (o:Bool) (it:Int):Sp:=λvs H Q _=>∃ (v:V) (es:List Er),vs=[v]/\DR H v es/\es≠[]/\Kn es/\∀ H',Af H H'->Q (.int (AP o it 7 es (Ej es).nm)) H'
theorem AP_snoc {o:Bool} {it:Int} {es:List Er} {i:Nat} {e:Er} (h:es[i]?=some e):AP o it 7 (es.take (i+1))=SU o it 7 (AP o it 7 (es.take i)) e:=by
 unfold AP
 rw [Y5,h,List.foldl_append]
 rfl
def flS (d:Int) (l:Bool) (t:Addr) (c:Bool):List (Str×V):=[("deep",.int d),("in_last",.bl l),("groups_round",.ref t),("closing",.bl c)]
theorem flS_mk {d:Int} {l:Bool} {t:Addr} {c:Bool}:AM "closing" (.bl c) (AM "groups_round" (.ref t) (AM "in_last" (.bl l) (AM "deep" (.int d) [])))=flS d l t c:=by
 show AM "closing" (.bl c) (AM "groups_round" (.ref t) (AM "in_last" (.bl l) [("deep",.int d)]))=flS d l t c
 rw [AM,if_neg (by lk)]
 rfl
def Cz (C:Addr) (H:Hp) (v:V) (sp:Fg):Prop:=∃ (p dx t:Addr),v=.ref p/\H p=some (.ins C dx (flS sp.deep sp.last t sp.cl))/\H t=some (.tup (sp.gr.map V.str))/\sp.gr.length<=100
theorem Cz.same {C:Addr} {H H':Hp} {v:V} {sp:Fg} (h:Cz C H v sp) (s:Af H H'):Cz C H' v sp:=by
 obtain ⟨p,dx,t,e,h1,h2,h3⟩:=h
 exact ⟨p,dx,t,e,s _ _ h1,s _ _ h2,h3⟩
def Me (C:Addr):Sp:=λvs H Q _=>∃ (p dx:Addr) (d:Int) (l:Bool) (t:Addr) (c:Bool),vs=[.ref p,.int d,.bl l,.ref t,.bl c]/\H p=some (.ins C dx [])/\Q .non (upd H p (.ins C dx (flS d l t c)))
def IC (C:Addr):Sp:=λvs H Q _=>∃ (v s:V) (n:Nat) (r:Rw) (sp:Fg) (i:Nat),vs=[v,s,.int (i:Nat)]/\BS (n+1) H v r/\Cz C H s sp/\sp.gr.length<90/\∀ p H',Cz C H' (.ref p) (sp.within r i)->Af H H'->Q (.ref p) H'
def FK (C:Addr) (H:Hp) (v:V) (q:Rw×Fg):Prop:=∃ (p:Addr) (x s:V),v=.ref p/\H p=some (.tup [x,s])/\BS 7 H x q.1/\Cz C H s q.2
theorem FK.same {C:Addr} {H H':Hp} {v:V} {q:Rw×Fg} (h:FK C H v q) (s:Af H H'):FK C H' v q:=by
 obtain ⟨p,x,t,e,h1,h2,h3⟩:=h
 exact ⟨p,x,t,e,s _ _ h1,h2.ts (DQ.of s),h3.same s⟩
def JJ (C:Addr) (n:Nat):Sp:=λvs H Q _=>∃ (v s:V) (r:Rw) (sp:Fg),vs=[v,s]/\BS n H v r/\n<=7/\Cz C H s sp/\sp.gr.length+n<=20/\HB n [r]<=1000/\∀ l us H',H l=none->H' l=some (.lst us)->BT (FK C H') us (BP n sp r)->Af H H'->Q (.ref l) H'
def SZ (C:Addr):Nat->Sp
 |0=>Qq
 |n+1=>JJ C n
def Ly (C:Addr):Sp:=λvs H Q _=>∃ (v:V) (rs:List Rw),vs=[v]/\Gk 7 H v rs/\HB 7 rs<=1000/\∀ l us H',H l=none->H' l=some (.lst us)->BT (FK C H') us (Gn 7 rs)->Af H H'->Q (.ref l) H'
theorem Hi:∀ (n:Nat) (sp:Fg) (r:Rw),(BP n sp r).map Prod.fst=AC n [r]
 |0,_,_=>rfl
 |n+1,sp,r=>by
  rw [HE]
  show r::T8 Prod.fst (r.ps.zipIdx.flatMap λq=>q.1.flatMap (BP n (sp.within r q.2)))=_
  rw [List.map_flatMap]
  congr 1
  have e:∀ q:List Rw×Nat,(q.1.flatMap (BP n (sp.within r q.2))).map Prod.fst=AC n q.1:=λq=>by
   rw [List.map_flatMap]
   generalize q.1=l
   induction l with
   |nil=>cases n<;>rfl
   |cons a l ih=>rw [K5,ih,Hi n,<- Iz]
  simp only [e]
  generalize r.ps=l
  have:∀ (l:List (List Rw)) (k:Nat),(l.zipIdx k).flatMap (λq=>AC n q.1)=l.flatMap (AC n):=λl=>by
   induction l with
   |nil=>intro k;rfl
   |cons a l ih=>intro k;rw [List.zipIdx_cons,K5,K5,ih]
  exact this l 0
theorem IB (n:Nat) (sp:Fg) (r:Rw):(BP n sp r).length=HB n [r]:=by
 unfold HB
 rw [<- Hi n sp r,J0]
theorem Fi (n:Nat) (rs:List Rw):(Gn n rs).map Prod.fst=AC n rs:=by
 unfold Gn
 generalize rs.length=m
 have:∀ (l:List Rw) (k:Nat),((l.zipIdx k).flatMap λq=>BP n (Ng m q.2) q.1).map Prod.fst=AC n l:=λl=>by
  induction l with
  |nil=>intro k;cases n<;>rfl
  |cons a l ih=>intro k;rw [List.zipIdx_cons,K5,A3,ih,Hi,<- Iz]
 exact this rs 0
def flN (a l g:Addr):List (Str×V):=[("ahead",.ref a),("labels",.ref l),("group_names",.ref g)]
theorem flN_mk {a l g:Addr}:AM "group_names" (.ref g) (AM "labels" (.ref l) (AM "ahead" (.ref a) []))=flN a l g:=by
 show AM "group_names" (.ref g) (AM "labels" (.ref l) [("ahead",.ref a)])=flN a l g
 rw [AM,if_neg (by lk)]
 rfl
def Jh (C:Addr) (H:Hp) (v:V) (lab grp ah:List Str):Prop:=∃ (p dx a l g:Addr),v=.ref p/\H p=some (.ins C dx (flN a l g))/\H a=some (.lst (ah.map V.str))/\H l=some (.lst (lab.map V.str))/\H g=some (.lst (grp.map V.str))/\ah.length<=1000/\lab.length<=1000/\grp.length<=1000
theorem Jh.same {C:Addr} {H H':Hp} {v:V} {lab grp ah:List Str} (h:Jh C H v lab grp ah) (s:Af H H'):Jh C H' v lab grp ah:=by
 obtain ⟨p,dx,a,l,g,e,h1,h2,h3,h4,h5⟩:=h
 exact ⟨p,dx,a,l,g,e,s _ _ h1,s _ _ h2,s _ _ h3,s _ _ h4,h5⟩
def spNInit (C:Addr):Sp:=λvs H Q _=>∃ (p dx:Addr) (v:V) (a:Addr) (rs:List Rw),vs=[.ref p,v,.ref a]/\H p=some (.ins C dx [])/\Gk 7 H v rs/\HB 7 rs<=1000/\∀ l g H',(∀ c o,c≠p->H c=some o->H' c=some o)->H' p=some (.ins C dx (flN a l g))->H' l=some (.lst ((DO (AC 7 rs)).map V.str))->H' g=some (.lst ((Fa (AC 7 rs)).map V.str))->Q .non H'
def OO (C:Addr):Sp:=λvs H Q _=>∃ (v s:V) (n:Nat) (r:Rw) (sp:Fg),vs=[v,s]/\BS (n+1) H v r/\Cz C H s sp/\Q (.bl (Ix r sp)) H
def ON (C:Addr):Sp:=λvs H Q _=>∃ (v s:V) (n:Nat) (r:Rw) (lab grp ah:List Str),vs=[v,s]/\BS (n+1) H v r/\Jh C H s lab grp ah/\Q (.bl (Iw r lab grp)) H
def Tq (C D:Addr):Sp:=λvs H Q _=>∃ (v s u:V) (n:Nat) (r:Rw) (sp:Fg) (lab grp ah:List Str),vs=[v,s,u]/\BS (n+1) H v r/\Cz C H s sp/\Jh D H u lab grp ah/\Q (.bl (MR r sp lab)) H
def optV:Option Str->V
 |some z=>.str z
 |none=>.non
def spWrong (C D:Addr):Sp:=λvs H Q _=>∃ (v s u:V) (n:Nat) (r:Rw) (sp:Fg) (lab grp ah:List Str),vs=[v,s,u]/\BS (n+1) H v r/\Cz C H s sp/\Jh D H u lab grp ah/\Q (optV (FO r sp lab grp ah)) H
def Qs (C:Addr):Sp:=λvs H Q _=>∃ (a:Addr) (v u:V) (t:Addr),vs=[.ref a,v,u]/\H a=some (BM a C none t)/\∀ dx H',H dx=none->dx≠a->H' a=some (BM a C (some dx) t)->H' dx=some (OB dx (AM "word" u [("line",v)]))->(∀ b o,b≠a->H b=some o->H' b=some o)->Q .non H'
def Lm (C:Addr) (H:Hp) (Q:Hp->Prop) (E:XK) (o:Option (Int×Str)):Prop:=match o with
 |none=>∀ H',Af H H'->Q H'
 |some x=>∀ dx H',H' dx=some (OB dx (AM "word" (.str x.2) [("line",.int x.1)]))->Af H H'->E (.ref C) (some dx) H'
def Tm (C:Addr):Sp:=λvs H Q E=>∃ (v:V) (es:List Er),vs=[v]/\DR H v es/\Lm C H (Q .non) E (FB 7 es)
def spErr (C:Addr):Sp:=λvs H Q E=>∃ (v:V) (a:Addr) (e:Er) (ah:List Str),vs=[v,.ref a]/\OA H v e/\H a=some (.lst (ah.map V.str))/\ah.length<=100/\Lm C H (Q .non) E (FM 7 ah e)
def To (C:Addr):Sp:=λvs H Q E=>∃ (v:V) (es:List Er),vs=[v]/\DR H v es/\es≠[]/\Kn es/\Lm C H (Q .non) E (Iv 7 es)
def spLook (C:Addr):Sp:=λvs H Q E=>∃ (v:V) (es:List Er),vs=[v]/\DR H v es/\es≠[]/\Lm C H (Q v) E (Eg 7 es)
theorem IM {C:Addr} {H G:Hp} {Q:Hp->Prop} {E:XK} {l:Int} {z:Str} (s0:Af H G) (k:Lm C H Q E (some (l,z))):∀ e t,G e=none->Qs C [.ref e,.int l,.str z] (upd G e (BM e C none t)) (λv H2=>v=.non/\∃ d t,H2 e=some (BM e C d t)/\E (.ref C) d (Sk H2 e)) E0:=λe t he=>by
 refine ⟨e,_,_,t,rfl,Ab,λdx H' hx ne h1 h2 kp=>⟨rfl,some dx,t,h1,k dx _ (by rw [Ek ne];exact h2) λc o hc=>?_⟩⟩
 have hG:=s0 _ _ hc
 have c1:c≠e:=λq=>by rw [q,he] at hG;cases hG
 rw [Ek c1]
 exact kp c o c1 (by rw [Ah c1];exact hG)
theorem known {ah:List Str} {e:Er} (h:FM 7 ah e=none):KnA ah (AC 7 e.rows):=λq hq hb=>by
 unfold FM at h
 by_cases hn:e.nm∈ah
 ·rw [if_pos hn] at h;cases h
 rw [if_neg hn,List.findSome?_eq_none_iff] at h
 rw [<- Fi] at hq
 obtain ⟨⟨r,sp⟩,hr,rfl⟩:=E5.mp hq
 have:=h _ hr
 unfold Gm FO at this
 by_cases ha:r.x 1∈ah
 ·exact ha
 ·simp only [Option.map_eq_none_iff] at this
  split at this
  ·cases this
  ·split at this
   ·cases this
   ·split at this
    ·cases this
    ·rw [if_pos ⟨hb,ha⟩] at this
     cases this
theorem KB:∀ {es:List Er} {ah:List Str},DP 7 ah es=none->∀ i e,es[i]?=some e->KnA (ah++(es.take i).map Er.nm) (AC 7 e.rows)
 |[],_,_,i,e,hi=>by cases hi
 |a::es,ah,h,i,e,hi=>by
  have h':(match FM 7 ah a with | some x=>some x | none=>DP 7 (ah++[a.nm]) es)=none:=h
  cases h1:FM 7 ah a with
  |some x=>rw [h1] at h';cases h'
  |none =>
   rw [h1] at h'
   cases i with
   |zero =>
    cases hi
    rw [V6,x6,P3]
    exact known h1
   |succ i =>
    have:=KB h' i e hi
    rw [List.take_succ_cons,j2]
    rw [E7] at this
    exact this
theorem errs_kn {es:List Er} (h:DP 7 [] es=none):Kn es:=λi e hi=>by
 have:=KB h i e hi
 rw [i6] at this
 exact this
section
variable {K:A0} {H:Hp} {v s:V} {n:Nat} {r:Rw} {R:VK}
theorem BS.ix0 (h:BS (n+1) H v r) (k:R (.str r.w) H):JA K v (.int 0) H R:=by
 obtain ⟨a,rr,rfl,ha,S⟩:=h.sh
 exact ⟨a,_,_,_,rfl,rfl,Bc.of ha,Au (j:=0) rfl,k⟩
theorem BS.ix1 (h:BS (n+1) H v r) (k:R (.int r.ln) H):JA K v (.int 1) H R:=by
 obtain ⟨a,rr,rfl,ha,S⟩:=h.sh
 exact ⟨a,_,_,_,rfl,rfl,Bc.of ha,Au (j:=1) rfl,k⟩
theorem BS.ixB (h:BS (n+1) H v r) (e:r.w="begin"):(R (.str (r.x 0)) H->JA K v (.int 2) H R)/\(R (.str (r.x 1)) H->JA K v (.int 3) H R)/\(R (.str (r.x 2)) H->JA K v (.int 4) H R):=by
 obtain ⟨a,rr,rfl,ha,S⟩:=h.sh
 obtain ⟨l,m,g,z,e1,e2⟩:=S.ar.be e
 rw [e1] at ha
 have x0:r.x 0=l:=by unfold Rw.x;rw [e2];rfl
 have x1:r.x 1=m:=by unfold Rw.x;rw [e2];rfl
 have x2:r.x 2=g:=by unfold Rw.x;rw [e2];rfl
 rw [x0,x1,x2]
 exact ⟨λk=>⟨a,_,_,_,rfl,rfl,Bc.of ha,Au (j:=2) rfl,k⟩,λk=>⟨a,_,_,_,rfl,rfl,Bc.of ha,Au (j:=3) rfl,k⟩,λk=>⟨a,_,_,_,rfl,rfl,Bc.of ha,Au (j:=4) rfl,k⟩⟩
theorem BS.ix2 (h:BS (n+1) H v r) (e:r.w="group"\/r.w="ask"\/r.w="off") (k:R (.str (r.x 0)) H):JA K v (.int 2) H R:=by
 obtain ⟨a,rr,rfl,ha,S⟩:=h.sh
 obtain ⟨x,q,e1,e2⟩:=S.ar.nm e
 rw [e1] at ha
 have x0:r.x 0=x:=by unfold Rw.x;rw [e2];rfl
 rw [x0] at k
 exact ⟨a,_,_,_,rfl,rfl,Bc.of ha,Au (j:=2) rfl,k⟩
theorem BS.gr1 (h:BS (n+1) H v r) (e:r.w="group"):r.xs.take 1=[r.x 0]:=by
 obtain ⟨a,rr,rfl,ha,S⟩:=h.sh
 obtain ⟨x,q,e1,e2⟩:=S.ar.nm (.inl e)
 unfold Rw.x
 rw [e2];rfl
def KN (K:A0) (H:Hp) (s:V) (f:Str) (R:V->Prop):Prop:=∃ a,s=.ref a/\∃ x x1 x2,H a=some (.ins x x1 x2)/\FN K x/\Aq K x f/\∃ y,x2.lookup f=some y/\R y
variable {C:Addr} {sp:Fg} {T:V->Prop}
theorem Cz.deep (h:Cz C H s sp) (c:FN K C) (na:Aq K C "deep") (k:T (.int sp.deep)):KN K H s "deep" T:=by
 obtain ⟨p,dx,t,rfl,h1,_⟩:=h
 exact ⟨p,rfl,_,_,_,h1,c,na,_,rfl,k⟩
theorem Cz.last (h:Cz C H s sp) (c:FN K C) (na:Aq K C "in_last") (k:T (.bl sp.last)):KN K H s "in_last" T:=by
 obtain ⟨p,dx,t,rfl,h1,_⟩:=h
 exact ⟨p,rfl,_,_,_,h1,c,na,_,rfl,k⟩
theorem Cz.clo (h:Cz C H s sp) (c:FN K C) (na:Aq K C "closing") (k:T (.bl sp.cl)):KN K H s "closing" T:=by
 obtain ⟨p,dx,t,rfl,h1,_⟩:=h
 exact ⟨p,rfl,_,_,_,h1,c,na,_,rfl,k⟩
theorem Cz.grp (h:Cz C H s sp) (c:FN K C) (na:Aq K C "groups_round") (k:∀ t,H t=some (.tup (sp.gr.map V.str))->T (.ref t)):KN K H s "groups_round" T:=by
 obtain ⟨p,dx,t,rfl,h1,h2,_⟩:=h
 exact ⟨p,rfl,_,_,_,h1,c,na,_,rfl,k t h2⟩
variable {lab grp ah:List Str}
theorem Jh.fah (h:Jh C H s lab grp ah) (c:FN K C) (na:Aq K C "ahead") (k:∀ t,H t=some (.lst (ah.map V.str))->T (.ref t)):KN K H s "ahead" T:=by
 obtain ⟨p,dx,a,l,g,rfl,h1,h2,h3,h4,_⟩:=h
 exact ⟨p,rfl,_,_,_,h1,c,na,_,rfl,k a h2⟩
theorem Jh.flab (h:Jh C H s lab grp ah) (c:FN K C) (na:Aq K C "labels") (k:∀ t,H t=some (.lst (lab.map V.str))->T (.ref t)):KN K H s "labels" T:=by
 obtain ⟨p,dx,a,l,g,rfl,h1,h2,h3,h4,_⟩:=h
 exact ⟨p,rfl,_,_,_,h1,c,na,_,rfl,k l h3⟩
theorem Jh.fgrp (h:Jh C H s lab grp ah) (c:FN K C) (na:Aq K C "group_names") (k:∀ t,H t=some (.lst (grp.map V.str))->T (.ref t)):KN K H s "group_names" T:=by
 obtain ⟨p,dx,a,l,g,rfl,h1,h2,h3,h4,_⟩:=h
 exact ⟨p,rfl,_,_,_,h1,c,na,_,rfl,k g h4⟩
theorem LO (zs:List Str):(zs.map V.str).all Cy=true:=by
 rw [C2]
 intro x hx
 obtain ⟨z,_,rfl⟩:=E5.mp hx
 rfl
theorem inT {p:Addr} {z:Str} {zs:List Str} {neg:Bool} (h:Bc K H p (zs.map V.str)) (k:R (.bl (neg^^decide (z∈zs))) H):rIn K neg (.str z) (.ref p) H R:=by
 refine ⟨p,_,rfl,.inr h,rfl,LO zs,?_⟩
 rw [Kt]
 cases neg with
 |false=>rw [j4] at k;exact k
 |true=>rw [V5] at k;exact k
theorem UB {p:Addr} {z:Str} {zs:List Str} {neg:Bool} (h:AD K H p (zs.map V.str)) (k:R (.bl (neg^^decide (z∈zs))) H):rIn K neg (.str z) (.ref p) H R:=by
 refine ⟨p,_,rfl,.inl h,rfl,LO zs,?_⟩
 rw [Kt]
 cases neg with
 |false=>rw [j4] at k;exact k
 |true=>rw [V5] at k;exact k
theorem Ps {c:TT} {t u:L2.TS} {D:FE} {σ:L2.St} {H:Hp} (p:Bool) (hc:∀ S:Bool->Hp->Prop,S p H->c σ H S) (h1:p=true->t D σ H) (h2:p=false->u D σ H):tIfM c t u D σ H:=by
 refine ⟨λG=>G=H/\p=true,λG=>G=H/\p=false,hc _ ?_,λG ⟨e,z⟩=>by rw [e];exact h1 z,λG ⟨e,z⟩=>by rw [e];exact h2 z⟩
 cases p
 ·exact ⟨rfl,rfl⟩
 ·exact ⟨rfl,rfl⟩
end
theorem Jf {K:A0} {H:Hp} {a b:Addr} {xs ys:List Str} {R:VK} (h1:H a=some (.tup (xs.map V.str))) (h2:H b=some (.tup (ys.map V.str))) (hl:xs.length+ys.length<=1000) (k:∀ t H',Af H H'->H' t=some (.tup ((xs++ys).map V.str))->R (.ref t) H'):TL K (.ref a) (.ref b) H R:=by
 by_cases hx:xs=[]
 ·subst hx
  exact .inr ⟨a,b,rfl,rfl,Bc.of h1,⟨_,Bc.of h2⟩,k _ _ (Af.refl _) h2⟩
 ·refine .inl ⟨a,b,_,_,rfl,rfl,Bc.of h1,Bc.of h2,λe=>hx (L5.mp e),C0 (show (xs.map V.str).length+(ys.map V.str).length<=1000 by rw [J0,J0];exact hl) (by kd_p),λhz=>?_,λhz p hp=>k _ _ (Af.upd hp) (by rw [Ab,A3])⟩
  have:ys=[]:=L5.mp hz
  subst this
  rw [P3] at k
  exact k _ _ (Af.refl _) h1
def KL (H H':Hp):Prop:=∀ c o,H c=some o->(∀ us,o≠.lst us)->H' c=some o
theorem KL.refl (H:Hp):KL H H:=λ_ _ h _=>h
theorem KL.trans {H H1 H2:Hp} (a:KL H H1) (b:KL H1 H2):KL H H2:=λc o h n=>b c o (a c o h n) n
theorem KL.of {H H':Hp} (s:Af H H'):KL H H':=λc o h _=>s c o h
theorem KL.ts {H H':Hp} (s:KL H H'):DQ H H':=λc _ h=>s c _ h λ_ z=>nomatch z
theorem KL.put {H:Hp} {l:Addr} {us:List V} {o:HO} (h:H l=some (.lst us)):KL H (upd H l o):=λc u e n=>by
 rw [Ah (λz=>by rw [z,h] at e;cases e;exact n _ rfl)]
 exact e
theorem Cz.kl {C:Addr} {H H':Hp} {v:V} {sp:Fg} (h:Cz C H v sp) (s:KL H H'):Cz C H' v sp:=by
 obtain ⟨p,dx,t,e,h1,h2,h3⟩:=h
 exact ⟨p,dx,t,e,s _ _ h1 (λ_ z=>nomatch z),s _ _ h2 (λ_ z=>nomatch z),h3⟩
theorem FK.kl {C:Addr} {H H':Hp} {v:V} {q:Rw×Fg} (h:FK C H v q) (s:KL H H'):FK C H' v q:=by
 obtain ⟨p,x,t,e,h1,h2,h3⟩:=h
 exact ⟨p,x,t,e,s _ _ h1 (λ_ z=>nomatch z),h2.ts s.ts,h3.kl s⟩
theorem Sy {α:Type} {l:List α} {i:Nat} {x:α} (h:l[i]?=some x):l.zipIdx[i]?=some (x,i):=by
 rw [List.getElem?_zipIdx,h];simp
theorem Fg.within_len (sp:Fg) (r:Rw) (i:Nat):(sp.within r i).gr.length<=sp.gr.length+1:=by
 show (sp.gr++_).length<=_
 rw [K0]
 split
 ·rw [Y2];lia
 ·simp
theorem Lm.from {C:Addr} {H G:Hp} {Q:Hp->Prop} {E:XK} {o:Option (Int×Str)} (k:Lm C H Q E o) (s:Af H G):Lm C G Q E o:=by
 cases o with
 |none=>exact λH' s'=>k H' (s.trans s')
 |some x=>exact λdx H' h s'=>k dx H' h (s.trans s')
theorem Sj (ah:List Str) (e:Er) (r:List Er):DP 7 ah (e::r)=match FM 7 ah e with | some x=>some x | none=>DP 7 (ah++[e.nm]) r:=rfl
theorem BT.last {H:Hp} {ps:List V} {es:List Er} (h:BT (OA H) ps es) (hne:es≠[]):∃ y,ps[ps.length-1]?=some y/\OA H y (Ej es):=by
 have h0:0<es.length:=Q5.mpr hne
 have hl:=h.1
 have h1:ps.length-1<ps.length:=by lia
 obtain ⟨e,he,hy⟩:=h.get (Y1 h1)
 have eL:Ej es=e:=by
  unfold Ej
  rw [B7,n8,<- hl,he]
  rfl
 exact ⟨_,Y1 h1,by rw [eL];exact hy⟩
theorem mkSpot {C:Addr} {H G:Hp} {t:Addr} {sp:Fg} {R:VK} (ht:G t=some (.tup (sp.gr.map V.str))) (hl:sp.gr.length<=100) (sG:Af H G) (k:∀ p H',Cz C H' (.ref p) sp->Af G H'->R (.ref p) H'):∀ e dx,G e=none->G dx=none->dx≠e->Me C [.ref e,.int sp.deep,.bl sp.last,.ref t,.bl sp.cl] (upd (upd G dx (.own e)) e (.ins C dx [])) (λx H1=>x=.non/\R (.ref e) H1) E0:=λe dx he hdx ne=>by
 have s2:Af G (upd (upd (upd G dx (.own e)) e (.ins C dx [])) e (.ins C dx (flS sp.deep sp.last t sp.cl))):=λc o hc=>by
  rw [Ah (AE hc he),Ah (AE hc he),Ah (AE hc hdx)]
  exact hc
 exact ⟨e,dx,_,_,t,_,rfl,Ab,rfl,k e _ ⟨e,dx,t,rfl,Ab,s2 _ _ ht,hl⟩ s2⟩
theorem Uy (all:List Rw):(DO all).length<=all.length:=by
 unfold DO
 rw [J0]
 exact C4 _ _
theorem UJ (all:List Rw):(Fa all).length<=all.length:=by
 unfold Fa
 rw [J0]
 exact C4 _ _

def LN:List Str:=["errand a", "wait 3", "end", "wait 0", "", "raise boom", "give 1", "ask la x", " end"]
def Nb (n:Int):Prop:=0<=n/\n<=100
def RwT (t:Tr):Prop:=∃ n:Int,Nb n/\(t=.t [.s "wait",.i n,.i 3]\/t=.t [.s "raise",.i n,.s "boom"]\/t=.t [.s "give",.i n,.i 1]\/t=.t [.s "ask",.i n,.s "la",.s "x"])
def Vs (m:Nat) (t:Tr):Prop:=∃ (n:Int) (rs:List Tr),Nb n/\t=.t [.s "errand",.i n,.s "a",.t rs]/\(∀ r∈rs,RwT r)/\rs.length<=m
def FqO (m:Nat) (f:Fq):Prop:=∃ (n:Int) (rs:List Tr),Nb n/\f=⟨[.str "errand",.int n,.str "a"],rs,false,[],[]⟩/\(∀ r∈rs,RwT r)/\rs.length<=m
structure Sv (m:Nat) (s:St):Prop where
 pg:∀ t∈s.pg,Vs m t
 un:s.un=[]\/∃ f,s.un=[f]/\FqO m f
 ln:s.pg.length<=m
theorem Vs.up {m k:Nat} {t:Tr} (h:Vs m t) (l:m<=k):Vs k t:=by
 obtain ⟨n,rs,nb,e,a,b⟩:=h
 exact ⟨n,rs,nb,e,a,C0 b l⟩
theorem Sv.up {m k:Nat} {s:St} (h:Sv m s) (l:m<=k):Sv k s:=by
 refine ⟨λt ht=>(h.pg t ht).up l,?_,C0 h.ln l⟩
 rcases h.un with e | ⟨f,e,n,rs,nb,e2,a,b⟩
 ·exact .inl e
 ·exact .inr ⟨f,e,n,rs,nb,e2,a,C0 b l⟩
theorem RT:LN.all (λl=>decide (BJ l=[])||(match BW SL (BJ l) with
  |none=>true
  |some fs=>decide (fs∈([[.str "errand",.str "a"],[.str "wait",.int 3],[.str "end"],[.str "raise",.str "boom"],[.str "give",.int 1],[.str "ask",.str "la",.str "x"]]:List (List V)))))=true:=by lk
theorem step_sv {m:Nat} {s s':St} {n:Int} {l:Str} (hl:l∈LN) (h0:BJ l≠[]) (h:Sv m s) (hnb:Nb n) (e:step s n (BJ l)=some s'):Sv (m+1) s':=by
 have hf:=C2.mp RT l hl
 rw [decide_eq_false h0,P7] at hf
 unfold step at e
 cases hw:BW SL (BJ l) with
 |none=>rw [hw] at e;cases e
 |some fs =>
  rw [hw] at e hf
  have hf:=of_decide_eq_true hf
  have two:∀ {w:Str} {r:List V},fs=.str w::r->(if CI s w=true then some (putL s w fs n) else none)=some s':=λz=>by subst z;exact e
  clear e
  have row:∀ {w:Str} {r:List V},fs=.str w::r->w∈(["wait", "raise", "give", "ask"]:List Str)->RwT (.t ((La fs n).map trV))->Sv (m+1) s':=λ{w r} z hw4 hr=>by
   have e:=two z
   split at e
   ·rename_i hal
    cases e
    have hn:w≠"end"/\¬ EN w/\¬ (w="errand"\/JI w):=by
     simp only [S0,A2,or_false] at hw4
     rcases hw4 with rfl | rfl | rfl | rfl<;>exact ⟨by lk,by lk,by lk⟩
    unfold putL
    rw [if_neg hn.1,if_neg hn.2.1,if_neg hn.2.2]
    rcases h.un with eu | ⟨f,eu,n0,rs,nb0,rfl,hrs,hln⟩
    ·unfold CI at hal
     rw [eu] at hal
     have:w="errand":=of_decide_eq_true hal
     exact absurd (.inl this) hn.2.2
    ·unfold Um
     rw [eu]
     refine ⟨λt ht=>(h.pg t ht).up (U5 _),.inr ⟨_,rfl,n0,rs++[.t ((La fs n).map trV)],nb0,rfl,λr hr'=>?_,by rw [K0];exact N3 hln⟩,M4 h.ln⟩
     rcases Q3.mp hr' with hr' | hr'
     ·exact hrs r hr'
     ·rw [C1.mp hr'];exact hr
   ·cases e
  simp only [S0,A2,or_false] at hf
  rcases hf with rfl | rfl | rfl | rfl | rfl | rfl
  ·have e:=two rfl
   split at e
   ·rename_i hal
    cases e
    rcases h.un with eu | ⟨f,eu,n0,rs,nb0,rfl,hrs,hln⟩
    ·unfold putL
     rw [if_neg (by lk),if_neg (by lk),if_pos (.inl rfl),eu]
     exact ⟨λt ht=>(h.pg t ht).up (U5 _),.inr ⟨_,rfl,n,[],hnb,rfl,(λr hr=>nomatch hr),N1 _⟩,M4 h.ln⟩
    ·unfold CI at hal
     rw [eu] at hal
     revert hal
     show (if ("errand":Str)="end" then _ else if EN "errand" then _ else if JI "errand" then _ else decide (("errand":Str)≠"errand"))=true->_
     rw [if_neg (by lk),if_neg (by lk),if_neg (by lk)]
     intro z
     exact absurd rfl (of_decide_eq_true z)
   ·cases e
  ·exact row rfl (by kd_p) ⟨n,hnb,.inl rfl⟩
  ·have e:=two rfl
   split at e
   ·rename_i hal
    cases e
    rcases h.un with eu | ⟨f,eu,n0,rs,nb0,rfl,hrs,hln⟩
    ·unfold CI at hal
     rw [eu] at hal
     exact absurd (of_decide_eq_true hal) (by lk)
    ·unfold putL
     rw [if_pos rfl]
     unfold Vb
     rw [eu]
     refine ⟨λt ht=>?_,.inl rfl,by show (s.pg++[_]).length<=_;rw [K0];exact N3 h.ln⟩
     rcases Q3.mp ht with ht | ht
     ·exact (h.pg t ht).up (U5 _)
     ·rw [C1.mp ht]
      exact ⟨n0,rs,nb0,rfl,hrs,M4 hln⟩
   ·cases e
  ·exact row rfl (by kd_p) ⟨n,hnb,.inr (.inl rfl)⟩
  ·exact row rfl (by kd_p) ⟨n,hnb,.inr (.inr (.inl rfl))⟩
  ·exact row rfl (by kd_p) ⟨n,hnb,.inr (.inr (.inr rfl))⟩
theorem Mq:∀ {L:List Str} {i m:Nat} {s s':St},(∀ l∈L,l∈LN)->i+L.length<=101->Sv m s->Dz i L s=.inr s'->Sv (m+L.length) s'
 |[],_,_,_,_,_,_,h,e=>by cases e;exact h
 |l::L,i,m,s,s',hl,hi,h,e=>by
  have hL:∀ l∈L,l∈LN:=λx hx=>hl x (N0 _ hx)
  have e:(if BJ l=[] then Dz (i+1) L s else match step s i (BJ l) with
   |none=>.inl (i:Int)
   |some s'=>Dz (i+1) L s')=.inr s':=e
  rw [v0] at hi |-
  split at e
  ·exact (Mq hL (by lia) h e).up (by lia)
  ·rename_i h0
   cases hs:step s i (BJ l) with
   |none=>rw [hs] at e;cases e
   |some s1 =>
    rw [hs] at e
    exact (Mq hL (by lia) (step_sv (hl l W0) h0 h ⟨by lia,by lia⟩ hs) e).up (by lia)
theorem out_sv {L:List Str} {ts:List Tr} (hl:∀ l∈L,l∈LN) (h60:L.length<=60) (e:Pd L=.inr ts):ts≠[]/\ts.length<=L.length/\∀ t∈ts,Vs L.length t:=by
 unfold Pd at e
 cases h:Dz 1 L ⟨[],[]⟩ with
 |inl i=>rw [h] at e;cases e
 |inr s =>
  rw [h] at e
  have v:=Mq hl (by lia) (⟨(λt ht=>nomatch ht),.inl rfl,P0 _⟩:Sv 0 ⟨[],[]⟩) h
  rw [A9] at v
  dsimp only at e
  split at e
  ·rename_i c
   cases e
   exact ⟨c.2,v.ln,v.pg⟩
  ·cases e
def TC:Tr->Rw
 |.t [.s w,.i n,.s x,_]=>.mk w n [x] 1 []
 |.t (.s w::.i n::_)=>.mk w n [] 1 []
 |_=>.mk "" 0 [] 1 []
def Su:Tr->Er
 |.t [_,.i n,.s nm,.t rs]=>⟨n,nm,rs.map TC⟩
 |_=>⟨0, "",[]⟩
theorem GB.tupI {H:Hp} {v:V} {ts:List Tr} (r:GB H v (.t ts)):∃ a xs,v=.ref a/\H a=some (.tup xs)/\xs.length=ts.length/\∀ (i:Nat) (x:V) (t:Tr),xs[i]?=some x->ts[i]?=some t->GB H x t:=by
 cases r with
 |t h l k=>exact ⟨_,_,rfl,h,l,k⟩
theorem GB.sI {H:Hp} {v:V} {z:Str} (r:GB H v (.s z)):v=.str z:=by cases r;rfl
theorem GB.iI {H:Hp} {v:V} {n:Int} (r:GB H v (.i n)):v=.int n:=by cases r;rfl
theorem l3 {α:Type} {xs:List α} (h:xs.length=3):∃ a b c,xs=[a,b,c]:=by
 match xs,h with
 |[a,b,c],_=>exact ⟨a,b,c,rfl⟩
theorem l4 {α:Type} {xs:List α} (h:xs.length=4):∃ a b c d,xs=[a,b,c,d]:=by
 match xs,h with
 |[a,b,c,d],_=>exact ⟨a,b,c,d,rfl⟩
theorem Im {H:Hp} {a:Addr} {w:Str} {n:Int} {rr:List V} {xs:List Str} (h:H a=some (.tup (.str w::.int n::rr))) (hw:AG w=[]) (hl:rr.length<=9) (hi:∀ x∈rr,IS x) (ha:Args w rr xs 1):BS 7 H (.ref a) (.mk w n xs 1 []):=by
 have e:Cu (.str w::.int n::rr)=[]:=by rw [Ha,hw];rfl
 refine ⟨a,rr,rfl,h,λz=>absurd hw z,hl,?_,λx hx=>.inr (hi x hx),ha,?_⟩
 ·show rr.filter Jb=Cu (.str w::.int n::rr)
  rw [e,Z7]
  intro x hx
  rw [(hi x hx).noRef]
  exact Q0
 ·show BT _ (Cu (.str w::.int n::rr)) []
  rw [e]
  exact BT.nil
theorem PR {w:Str} {rr:List V} (h1:w≠"begin") (h2:w≠"group") (h3:w≠"ask") (h4:w≠"off") (h5:w≠"repeat"):Args w rr [] 1 :=
 ⟨λz=>absurd z h1,λz=>by rcases z with z | z | z;exact absurd z h2;exact absurd z h3;exact absurd z h4,λz=>absurd z h5,λ_=>rfl⟩
theorem rep_row {H:Hp} {v:V} {t:Tr} (r:GB H v t) (h:RwT t):BS 7 H v (TC t):=by
 obtain ⟨n,_,h⟩:=h
 rcases h with rfl | rfl | rfl | rfl
 ·obtain ⟨a,xs,rfl,ha,hl,k⟩:=r.tupI
  obtain ⟨x,y,z,rfl⟩:=l3 hl
  obtain rfl:=(k 0 _ _ rfl rfl).sI
  obtain rfl:=(k 1 _ _ rfl rfl).iI
  obtain rfl:=(k 2 _ _ rfl rfl).iI
  exact Im ha (by lk) (by simp) (by simp [IS]) (PR (by lk) (by lk) (by lk) (by lk) (by lk))
 ·obtain ⟨a,xs,rfl,ha,hl,k⟩:=r.tupI
  obtain ⟨x,y,z,rfl⟩:=l3 hl
  obtain rfl:=(k 0 _ _ rfl rfl).sI
  obtain rfl:=(k 1 _ _ rfl rfl).iI
  obtain rfl:=(k 2 _ _ rfl rfl).sI
  exact Im ha (by lk) (by simp) (by simp [IS]) (PR (by lk) (by lk) (by lk) (by lk) (by lk))
 ·obtain ⟨a,xs,rfl,ha,hl,k⟩:=r.tupI
  obtain ⟨x,y,z,rfl⟩:=l3 hl
  obtain rfl:=(k 0 _ _ rfl rfl).sI
  obtain rfl:=(k 1 _ _ rfl rfl).iI
  obtain rfl:=(k 2 _ _ rfl rfl).iI
  exact Im ha (by lk) (by simp) (by simp [IS]) (PR (by lk) (by lk) (by lk) (by lk) (by lk))
 ·obtain ⟨a,xs,rfl,ha,hl,k⟩:=r.tupI
  obtain ⟨x,y,z,u,rfl⟩:=l4 hl
  obtain rfl:=(k 0 _ _ rfl rfl).sI
  obtain rfl:=(k 1 _ _ rfl rfl).iI
  obtain rfl:=(k 2 _ _ rfl rfl).sI
  obtain rfl:=(k 3 _ _ rfl rfl).sI
  exact Im ha (by lk) (by simp) (by simp [IS]) ⟨λz=>absurd z (by lk),λ_=>⟨_,_,rfl,rfl⟩,λz=>absurd z (by lk),λ_=>rfl⟩
theorem rw_ps {t:Tr} (h:RwT t):(TC t).ps=[]/\(TC t).w∈(["wait", "raise", "give", "ask"]:List Str):=by
 obtain ⟨n,_,h⟩:=h
 rcases h with rfl | rfl | rfl | rfl
 ·exact ⟨rfl,.head _⟩
 ·exact ⟨rfl,.tail _ (.head _)⟩
 ·exact ⟨rfl,.tail _ (.tail _ (.head _))⟩
 ·exact ⟨rfl,.tail _ (.tail _ (.tail _ (.head _)))⟩
theorem EM (n:Nat):∀ {rs:List Rw},(∀ r∈rs,r.ps=[])->AC (n+1) rs=rs
 |[],_=>rfl
 |r::rs,h=>by
  rw [Iz,HE,h r W0,EM n λx hx=>h x (N0 _ hx)]
  rfl
def ErF (e:Er):Prop:=e.nm="a"/\∀ r∈e.rows,r.ps=[]/\r.w∈(["wait", "raise", "give", "ask"]:List Str)
theorem QT {m:Nat} {t:Tr} (h:Vs m t):ErF (Su t):=by
 obtain ⟨n,rs,_,rfl,hr,_⟩:=h
 refine ⟨rfl,λr hr'=>?_⟩
 obtain ⟨x,hx,rfl⟩:=E5.mp hr'
 exact rw_ps (hr x hx)
theorem rep_err {H:Hp} {v:V} {t:Tr} {m:Nat} (r:GB H v t) (h:Vs m t) (hm:m<=700):OA H v (Su t):=by
 have hf:=QT h
 obtain ⟨n,rs,_,rfl,hr,hl⟩:=h
 obtain ⟨a,xs,rfl,ha,hl',k⟩:=r.tupI
 obtain ⟨x,y,z,u,rfl⟩:=l4 hl'
 obtain rfl:=(k 0 _ _ rfl rfl).sI
 obtain rfl:=(k 1 _ _ rfl rfl).iI
 obtain rfl:=(k 2 _ _ rfl rfl).sI
 obtain ⟨b,ys,rfl,hb,hyl,kk⟩:=(k 3 _ _ rfl rfl).tupI
 refine ⟨a,.ref b,rfl,ha,⟨b,ys,rfl,hb,by lia,⟨by rw [hyl];exact (J0 _).symm,λi y q hy hq=>?_⟩⟩,?_⟩
 ·have hq:(rs.map TC)[i]?=some q:=hq
  rw [J2] at hq
  cases e:rs[i]? with
  |none=>rw [e] at hq;cases hq
  |some t =>
   rw [e] at hq
   cases hq
   exact rep_row (kk i y t hy e) (hr t (j0 e))
 ·unfold HB
  rw [EM 6 λr hr=>(hf.2 r hr).1]
  show (rs.map TC).length<=800
  rw [J0];lia
theorem Kb {H:Hp} {v:V} {ts:List Tr} {m:Nat} (r:GB H v (.t ts)) (h:∀ t∈ts,Vs m t) (hm:m<=700) (hl:ts.length<=60):DR H v (ts.map Su):=by
 obtain ⟨a,xs,rfl,ha,hl',k⟩:=r.tupI
 refine ⟨a,xs,rfl,ha,by rw [J0];exact hl,⟨by rw [hl',J0],λi y q hy hq=>?_⟩⟩
 rw [J2] at hq
 cases e:ts[i]? with
 |none=>rw [e] at hq;cases hq
 |some t =>
  rw [e] at hq
  cases hq
  exact rep_err (k i y t hy e) (h t (j0 e)) hm
structure Oj (C:Addr) (n:Nat) (H:Hp) (p:Addr) (g:Str->Option V):Prop where
 ex:∃ dx fs,H p=some (.ins C dx fs)/\fs.length<=n/\∀ z,W3 z fs=g z
def Hk (g:Str->Option V) (z:Str) (v:V):Str->Option V:=λx=>if x=z then some v else g x
theorem Oj.new {C dx:Addr} {H:Hp} {p:Addr} (h:H p=some (.ins C dx [])):Oj C 0 H p (λ_=>none):=⟨dx,[],h,P0 _,λ_=>rfl⟩
theorem Oj.same {C:Addr} {n:Nat} {H H':Hp} {p:Addr} {g:Str->Option V} (F:Oj C n H p g) (s:Af H H'):Oj C n H' p g:=by
 obtain ⟨dx,fs,h,r⟩:=F.ex
 exact ⟨dx,fs,s _ _ h,r⟩
theorem Oj.but {C:Addr} {n:Nat} {H H':Hp} {p q:Addr} {g:Str->Option V} (F:Oj C n H p g) (s:CP q H H') (hn:p≠q):Oj C n H' p g:=by
 obtain ⟨dx,fs,h,r⟩:=F.ex
 exact ⟨dx,fs,s _ _ hn h,r⟩
theorem Oj.at {C:Addr} {n:Nat} {H:Hp} {p:Addr} {g:Str->Option V} (F:Oj C n H p g):∃ dx fs,H p=some (.ins C dx fs):=by
 obtain ⟨dx,fs,h,r⟩:=F.ex
 exact ⟨dx,fs,h⟩
theorem Qy (z:Str) (v:V):∀ fs:List (Str×V),(AM z v fs).length<=fs.length+1
 |[]=>P0 _
 | (y,x)::r=>by
  show (if y=z then (y,v)::r else (y,x)::AM z v r).length<=_
  split
  ·exact U5 _
  ·exact N3 (Qy z v r)
theorem Oj.put {C:Addr} {n:Nat} {H:Hp} {p:Addr} {g:Str->Option V} (F:Oj C n H p g):∃ dx fs,H p=some (.ins C dx fs)/\fs.length<=n/\∀ z v H1,upd H p (.ins C dx (AM z v fs))=H1->CP p H H1/\Oj C (n+1) H1 p (Hk g z v):=by
 obtain ⟨dx,fs,h,hl,r⟩:=F.ex
 refine ⟨dx,fs,h,hl,λz v H1 e=>?_⟩
 subst e
 refine ⟨λc o m e=>by rw [Ah m];exact e,dx,_,Ab,C0 (Qy _ _ _) (N3 hl),λy=>?_⟩
 rw [Cq,r]
 rfl
theorem Oj.rd {C:Addr} {n:Nat} {H:Hp} {p:Addr} {g:Str->Option V} {z:Str} {v:V} {K:A0} {R:V->Prop} (F:Oj C n H p g) (kc:FN K C) (ka:Aq K C z) (hg:g z=some v) (k:R v):∃ C' dx fs,H p=some (.ins C' dx fs)/\FN K C'/\Aq K C' z/\∃ x,W3 z fs=some x/\R x:=by
 obtain ⟨dx,fs,h,hl,r⟩:=F.ex
 exact ⟨C,dx,fs,h,kc,ka,v,by rw [r];exact hg,k⟩
set_option hygiene false in
local macro_rules | `(tactic| exists $F,$kc,$ka,$G,$b,$F1) => `(tactic| (obtain ⟨dx_, fs_, hq_, hl_, hh_⟩ := Oj.put $F; refine ⟨_, dx_, fs_, hq_, $kc, $ka, by lia, ?_⟩; generalize hG_ : upd _ _ (.ins _ dx_ (AM _ _ fs_)) = $(⟨G⟩):ident; obtain ⟨$(⟨b⟩):ident, $(⟨F1⟩):ident⟩ := hh_ _ _ _ hG_; clear hG_ hh_ hl_ hq_; try clear fs_ dx_))
set_option hygiene false in
local macro_rules | `(tactic| exists $F,$ka) => `(tactic| (obtain ⟨dx_, fs_, hq_, hl_, hh_⟩ := $F; refine ⟨_, dx_, fs_, hq_, T.ao, $ka, by lia, ?_⟩; generalize hG_ : upd _ _ (.ins _ dx_ (AM _ _ fs_)) = K; replace I0 := hh_ _ _ _ hG_; clear hG_ hh_ hl_ hq_ fs_ dx_; refine hN _ _ ?_; clear hN N))
theorem Oj.call {C:Addr} {n:Nat} {H:Hp} {p:Addr} {g:Str->Option V} {z:Str} {B:Prop} (F:Oj C n H p g) (hz:g z=none) (k:B):∃ x y,H p=some (.ins C x y)/\W3 z y=none/\B:=by
 obtain ⟨dx,fs,h,hl,r⟩:=F.ex
 exact ⟨dx,fs,h,by rw [r];exact hz,k⟩
def Qr (C:Addr):Sp:=λvs H Q _=>∃ (p dx:Addr),vs=[.ref p]/\H p=some (.ins C dx [])/\∀ H',CP p H H'->Q .non H'
def gClk (v:V):Str->Option V:=Hk (Hk (λ_=>none) "tick" (.int 0)) "standing" v
def spClkI (C:Addr):Sp:=λvs H Q _=>∃ (p dx:Addr),vs=[.ref p]/\H p=some (.ins C dx [])/\∀ H' v,CP p H H'->Oj C 2 H' p (gClk v)->Q .non H'
def spClkN (C:Addr):Sp:=λvs H Q _=>∃ (p:Addr) (v:V),vs=[.ref p]/\Oj C 2 H p (gClk v)/\Q (.int 0) H
def spFrI (C:Addr):Sp:=λvs H Q _=>∃ (p dx a:Addr) (xs:List V),vs=[.ref p,.ref a,.int 0,.int 0]/\H p=some (.ins C dx [])/\H a=some (.tup xs)/\∀ H',CP p H H'->Q .non H'
def KK (C:Addr) (H:Hp) (p:Addr):Prop:=∃ n g,Oj C n H p g/\g "want"=some .non/\g "ending"=some .non/\g "waiting"=none/\g "outcome"=none
theorem KK.same {C:Addr} {H H':Hp} {p:Addr} (h:KK C H p) (s:Af H H'):KK C H' p:=by
 obtain ⟨n,g,F,r⟩:=h
 exact ⟨n,g,F.same s,r⟩
def spMcI (C:Addr):Sp:=λvs H Q _=>∃ (p dx a:Addr) (xs:List V),vs=[.ref p,.ref a]/\H p=some (.ins C dx [])/\H a=some (.tup xs)/\∀ H',CP p H H'->KK C H' p->Q .non H'
def spMcQ (C:Addr):Sp:=λvs H Q _=>∃ p,vs=[.ref p]/\KK C H p/\Q .non H
theorem CS {H H1 H':Hp} {x:Addr} (nx:H x=none) (s:Af H H1) (b:CP x H1 H'):Af H H':=λc o e=>b c o (AE e nx) (s c o e)
theorem CZ {H:Hp} {C x dx:Addr} (h1:H x=none) (h2:H dx=none) (h3:dx≠x):Af H (upd (upd H dx (.own x)) x (.ins C dx [])):=(Af.upd h2).trans (Af.upd (by rw [Ah (Ne.symm h3)];exact h1))
def W4:List Str:=["wait", "raise", "give", "ask"]
def Ti:Sp:=λvs H Q _=>∃ (v:V) (rs:List Rw),vs=[v]/\Gk 7 H v rs/\HB 7 rs<=1000/\(∀ r∈rs,r.ps=[]/\r.w∈W4)/\∀ l H',H l=none->H' l=some (.lst [])->Af H H'->Q (.ref l) H'
def spWithB:Sp:=λvs H Q _=>∃ (l d:Addr),vs=[.ref l,.ref d]/\H l=some (.lst [])/\∀ r H',Af H H'->Q (.ref r) H'
def spReach:Sp:=λvs H Q _=>∃ (v:V) (es:List Er),vs=[v]/\DR H v es/\(∀ e∈es,ErF e)/\∀ d H',Af H H'->Q (.ref d) H'
structure Dg (T:Tx P w K mg) (H:Hp) (p:Addr):Prop where
 ex:∃ (n:Nat) (g:Str->Option V) (c a b m q:Addr) (v:V),Oj T.ac n H p g/\n<=800/\(∀ z∈(["now", "book", "errands", "waiting", "outcome", "machine_at", "step", "run", "knot"]:List Str),g z=none)/\g "clock"=some (.ref c)/\Oj T.aN 2 H c (gClk v)/\g "names"=some (.ref a)/\H a=some (.lst [.str "a"])/\g "machines"=some (.ref b)/\H b=some (.lst [.ref m])/\KK T.ad H m/\g "pages"=some (.ref q)/\H q=some (.lst [])
theorem Dg.same {T:Tx P w K mg} {H H':Hp} {p:Addr} (h:Dg T H p) (s:Af H H'):Dg T H' p:=by
 obtain ⟨n,g,c,a,b,m,q,v,h1,h2,h3,h4,h5,h6,h7,h8,h9,h10,h11,h12⟩:=h.ex
 exact ⟨n,g,c,a,b,m,q,v,h1.same s,h2,h3,h4,h5.same s,h6,s _ _ h7,h8,s _ _ h9,h10.same s,h11,s _ _ h12⟩
theorem Dg.call {T:Tx P w K mg} {H:Hp} {p:Addr} {z:Str} {B:Prop} (h:Dg T H p) (hz:z∈(["now", "book", "errands", "waiting", "outcome", "machine_at", "step", "run", "knot"]:List Str)) (k:B):∃ x y,H p=some (.ins T.ac x y)/\W3 z y=none/\B:=by
 obtain ⟨n,g,c,a,b,m,q,v,h1,h2,h3,_⟩:=h.ex
 exact h1.call (h3 z hz) k
def spNow (T:Tx P w K mg):Sp:=λvs H Q _=>∃ p,vs=[.ref p]/\Dg T H p/\Q (.int 0) H
def Tj (T:Tx P w K mg) (xs:List V):Sp:=λvs H Q _=>∃ p,vs=[.ref p]/\Dg T H p/\∀ l H',H l=none->Af H H'->H' l=some (.lst xs)->Q (.ref l) H'
def spMacA (T:Tx P w K mg):Sp:=λvs H Q _=>∃ p,vs=[.ref p,.int 0]/\Dg T H p/\∀ m,KK T.ad H m->Q (.ref m) H
def Tf (T:Tx P w K mg):Sp:=λvs H Q _=>∃ p,vs=[.ref p,.int 0]/\Dg T H p/\Q .non H
def spNewE (T:Tx P w K mg):Sp:=λvs H Q _=>∃ (p a b d r:Addr) (n:Nat) (g:Str->Option V) (xs:List V),vs=[.ref p,.str "a"]/\Oj T.ac n H p g/\g "names"=some (.ref a)/\H a=some (.lst [])/\g "machines"=some (.ref b)/\H b=some (.lst [])/\a≠b/\g "errand_rows"=some (.ref d)/\H d=some (.dK [(.inr "a",.ref r)])/\H r=some (.tup xs) /\
 ∀ H' m,(∀ c o,c≠a->c≠b->H c=some o->H' c=some o)->H' a=some (.lst [.str "a"])->H' b=some (.lst [.ref m])->KK T.ad H' m->Q (.int 0) H'
def spComeR (T:Tx P w K mg):Sp:=λvs H Q _=>∃ (p q u:Addr) (n:Nat) (g:Str->Option V),vs=[.ref p,.int 0]/\Oj T.ac n H p g/\g "queue"=some (.ref q)/\H q=some (.lst [])/\g "woken"=some (.ref u)/\H u=some (.lst [])/\q≠u/\∀ H',(∀ c o,c≠q->c≠u->H c=some o->H' c=some o)->Q .non H'
theorem KK.but {C:Addr} {H H':Hp} {p:Addr} (h:KK C H p) (k:∀ o,H p=some o->(∃ D x y,o=.ins D x y)->H' p=some o):KK C H' p:=by
 obtain ⟨n,g,F,r⟩:=h
 obtain ⟨dx,fs,e,r2⟩:=F.ex
 exact ⟨n,g,⟨dx,fs,k _ e ⟨_,_,_,rfl⟩,r2⟩,r⟩
theorem one_er {es:List Er} (h:Eg 7 es=none) (hf:∀ e∈es,ErF e) (hn:es≠[]):∃ e,es=[e]:=by
 match es,hn with
 |[e],_=>exact ⟨e,rfl⟩
 |e1::e2::r,_ =>
  exfalso
  unfold Eg at h
  have he:∃ x,DP 7 [] (e1::e2::r)=some x:=by
   have n1:=(hf e1 (by simp)).1
   have n2:=(hf e2 (by simp)).1
   show ∃ x,(match FM 7 [] e1 with | some x=>some x | none=>DP 7 ([]++[e1.nm]) (e2::r))=some x
   cases h1:FM 7 [] e1 with
   |some x=>exact ⟨x,rfl⟩
   |none =>
    show ∃ x,(match FM 7 ([]++[e1.nm]) e2 with | some x=>some x | none=>DP 7 ([]++[e1.nm]++[e2.nm]) r)=some x
    have:FM 7 ([]++[e1.nm]) e2=some (e2.ln,("twice":Str)):=by
     unfold FM
     rw [if_pos (by rw [n1,n2];simp)]
    rw [this]
    exact ⟨_,rfl⟩
  obtain ⟨x,hx⟩:=he
  cases hc:FB 7 (e1::e2::r) with
  |some y=>rw [hc] at h;cases h
  |none=>rw [hc] at h;dsimp only at h;rw [hx] at h;cases h
def Na (T:Tx P w K mg) (H:Hp) (p u:Addr):Prop:=∃ n g a b q,Oj T.ac n H p g/\g "names"=some (.ref a)/\g "machines"=some (.ref b)/\g "pages"=some (.ref q)/\u≠a/\u≠b/\u≠q
def Nw (T:Tx P w K mg) (H H':Hp) (m:Addr):Prop:=∀ u o,H u=some o->Na T H' m u
def spNtI (T:Tx P w K mg):Sp:=λvs H Q _=>∃ (p dx ev pk:Addr) (v:V) (e:Er) (xs ys:List V),vs=[.ref p,v,.ref ev,.ref pk]/\H p=some (.ins T.ac dx [])/\DR H v [e]/\ErF e/\Eg 7 [e]=none/\H ev=some (.lst xs)/\H pk=some (.lst ys)/\∀ H',CP p H H'->Dg T H' p->Nw T H H' p->Q .non H'
theorem bt_dict:bootBuiltins "dict"=some (.type "dict"):=by lk
theorem Js {H G:Hp} {p l:Addr} {o:HO} (t:CP p H G) (hp:G p=some o) (hl:G l=none):H l=none:=by
 cases e:H l with
 |none=>rfl
 |some u =>
  by_cases c:l=p
  ·rw [c,hp] at hl;cases hl
  ·rw [t _ _ c e] at hl;cases hl
theorem Oj.mv {C:Addr} {n:Nat} {H H':Hp} {p:Addr} {g:Str->Option V} (F:Oj C n H p g) (h:∀ dx fs,H p=some (.ins C dx fs)->H' p=some (.ins C dx fs)):Oj C n H' p g:=by
 obtain ⟨dx,fs,e,r⟩:=F.ex
 exact ⟨dx,fs,h _ _ e,r⟩
structure Ni (C:Addr) (H:Hp) (L:List (Addr×HO)) (K:Hp) (p:Addr) (n:Nat) (g:Str->Option V):Prop where
 tt:CP p H K
 sz:∀ x∈L,K x.1=some x.2/\x.1≠p/\H x.1=none
 nd:(L.map (·.1)).Nodup
 F:Oj C n K p g
section
variable {C:Addr} {H K K1:Hp} {L:List (Addr×HO)} {p l:Addr} {n:Nat} {g:Str->Option V} {o:HO}
theorem Ni.put (I:Ni C H L K p n g) (s:Af K K1):∃ dx fs,K1 p=some (.ins C dx fs)/\fs.length<=n/\∀ z v K2,upd K1 p (.ins C dx (AM z v fs))=K2->Ni C H L K2 p (n+1) (Hk g z v):=by
 obtain ⟨dx,fs,h1,h2,h3⟩:=(I.F.same s).put
 refine ⟨dx,fs,h1,h2,λz v K2 e=>?_⟩
 obtain ⟨b,F⟩:=h3 z v K2 e
 exact ⟨I.tt.trans ((CP.of s).trans b),λx h=>have y:=I.sz x h;⟨b _ _ y.2.1 (s _ _ y.1),y.2⟩,I.nd,F⟩
theorem Ni.new (I:Ni C H L K p n g) (s:Af K K1) (hl:K l=none) (h:K1 l=some o):∃ dx fs,K1 p=some (.ins C dx fs)/\fs.length<=n/\∀ z v K2,upd K1 p (.ins C dx (AM z v fs))=K2->Ni C H ((l,o)::L) K2 p (n+1) (Hk g z v):=by
 obtain ⟨dx,fs,h1,h2,h3⟩:=I.put s
 obtain ⟨_,_,hp⟩:=I.F.at
 have lp:l≠p:=λz=>by rw [z,hp] at hl;cases hl
 refine ⟨dx,fs,h1,h2,λz v K2 e=>?_⟩
 have J:=h3 z v K2 e
 refine ⟨J.tt,λx hx=>?_,?_,J.F⟩
 ·rcases S0.mp hx with rfl | hx
  ·exact ⟨by rw [<- e,Ah lp];exact h,lp,Js I.tt hp hl⟩
  ·exact J.sz x hx
 ·rw [j2,E3]
  refine ⟨λhm=>?_,I.nd⟩
  obtain ⟨x,hx,e⟩:=E5.mp hm
  have:=(I.sz x hx).1
  rw [e,hl] at this
  cases this
end
section
variable {K:A0} {C:Addr} {H G G1:Hp} {L:List (Addr×HO)} {p:Addr} {n i:Nat} {g:Str->Option V} {tv:TE} {f:Str} {v:V} {o:HO} {u:TS} {D:FE} {σ:L2.St}
theorem qd (I:∃ dx fs,G1 p=some (.ins C dx fs)/\fs.length<=n/\∀ z v K2,upd G1 p (.ins C dx (AM z v fs))=K2->Ni C H L K2 p (n+1) (Hk g z v)) (c:FN K C) (a:Aq K C f) (k:∀ G,Ni C H L G p (n+1) (Hk g f v)->u D σ G) (e:σ[i]?=some (some (.ref p))) (z:n<900):(Hh i) σ G1 λx H2=>∃ a C dx fs,x=.ref a/\H2 a=some (.ins C dx fs)/\FN K C/\Aq K C f/\fs.length<1000/\u D σ (upd H2 a (.ins C dx (AM f v fs))):=by
 obtain ⟨dx,fs,h,l,q⟩:=I
 exact tVo e ⟨p,C,dx,fs,rfl,h,c,a,by lia,k _ (q _ _ _ rfl)⟩
theorem qa (I:Ni C H L G p n g) (c:FN K C) (a:Aq K C f) (k:∀ G,Ni C H L G p (n+1) (Hk g f v)->u D σ G) (hv:∀ Q:VK,Q v G->tv σ G Q:=by exact λ_ q=>q) (e:σ[i]?=some (some (.ref p)):=by rfl) (z:n<900:=by kd_p):Rp (sFld K (Hh i) tv f) u D σ G:=hv _ (qd (I.put (Af.refl G)) c a k e z)
theorem qb (I:Ni C H L G p n g) (c:FN K C) (a:Aq K C f) (k:∀ d G,Ni C H ((d,o)::L) G p (n+1) (Hk g f (.ref d))->u D σ G) (hv:∀ Q:VK,(∀ d,G d=none->Q (.ref d) (upd G d o))->tv σ G Q:=by first|exact λ_ q=>q|exact λ_ q=>⟨by kd_p,q⟩) (e:σ[i]?=some (some (.ref p)):=by rfl) (z:n<900:=by kd_p):Rp (sFld K (Hh i) tv f) u D σ G:=hv _ λd hd=>qd (I.new (Af.upd hd) hd Ab) c a (k d) e z
theorem qe (I:Ni C H L G p n g) (c:FN K C) (a:Aq K C f) (k:∀ d G,Ni C H L G p (n+1) (Hk g f (.ref d))->u D σ G) (hv:∀ Q:VK,(∀ d,G d=none->Q (.ref d) (upd G d o))->tv σ G Q:=by first|exact λ_ q=>q|exact λ_ q=>⟨by kd_p,q⟩) (e:σ[i]?=some (some (.ref p)):=by rfl) (z:n<900:=by kd_p):Rp (sFld K (Hh i) tv f) u D σ G:=hv _ λd hd=>qd (I.put (Af.upd hd)) c a (k d) e z
theorem qg {sp:Sp} {B:Addr} {E:XK} (I:Ni C H L G p n g) (c:FN K C) (a:Aq K C f) (hs:∀ x dx X (Q:VK),X x=some (.ins B dx [])->(∀ H',CP x X H'->Q .non H')->sp [.ref x] X Q E) (k:∀ d G,Ni C H L G p (n+1) (Hk g f (.ref d))->u D σ G) (e:σ[i]?=some (some (.ref p)):=by rfl) (z:n<900:=by kd_p):Rp (sFld K (Hh i) (Qm B sp [] E tNil) f) u D σ G:=
 λx dx h1 h2 h3=>hs x dx _ _ Ab λ_ b=>⟨rfl,qd (I.put (CS h1 (CZ h1 h2 h3) b)) c a (k x) e z⟩
theorem qc {d:Addr} (hp:H p=some (.ins C d [])):Ni C H [] H p 0 (λ_=>none):=⟨λ_ _ _ h=>h,(λx h=>nomatch h),List.nodup_nil,Oj.new hp⟩
end
def spEvT:Sp:=λvs H Q _=>∃ l,vs=[.ref l]/\H l=some (.lst [])/\∀ r H',H r=none->Af H H'->H' r=some (.lst [])->Q (.ref r) H'
def spRisen (T:Tx P w K mg):Sp:=λvs H Q _=>∃ (l ev pk:Addr) (v:V) (e:Er) (xs ys:List V),vs=[v,.ref l,.ref ev,.ref pk]/\H l=some (.lst [])/\DR H v [e]/\ErF e/\Eg 7 [e]=none/\H ev=some (.lst xs)/\xs.length<=1000/\H pk=some (.lst ys)/\∀ n H',Af H H'->Dg T H' n->Nw T H H' n->Q (.ref n) H'
def spState (T:Tx P w K mg):Sp:=λvs H Q _=>∃ p,vs=[.ref p,.int 0]/\Dg T H p/\Q (.str "ready") H
set_option genInjectivity false in
structure Dk where
 a:Addr
 b:Addr
 c:Addr
 pr:V
 ng:V
def Pu (d:Dk):Str->Option V:=Hk (Hk (Hk (Hk (Hk (λ_=>none) "told_lines" (.ref d.a)) "told_events" (.ref d.b)) "told_picks" (.ref d.c)) "program" d.pr) "night" d.ng
theorem UO (d:Dk) (v:V):Hk (Pu d) "night" v=Pu { d with ng:=v }:=by
 funext z
 unfold Pu Hk
 by_cases h:z="night"
 ·rw [if_pos h,if_pos h]
 ·rw [if_neg h,if_neg h,if_neg h]
theorem gDk_pr (d:Dk) (v:V):Hk (Pu d) "program" v=Pu { d with pr:=v }:=by
 funext z
 unfold Pu Hk
 by_cases h:z="program"
 ·rw [if_pos h,h,if_neg (by lk),if_pos rfl]
 ·rw [if_neg h]
  by_cases h2:z="night"
  ·rw [if_pos h2,if_pos h2]
  ·rw [if_neg h2,if_neg h2,if_neg h,if_neg h]
set_option genInjectivity false in
structure Ds where
 ls:List Str
 ev:Nat
 tk:Int
 pk:Nat
 ng:Bool
def EvV (H:Hp) (v:V) (t:Int):Prop:=∃ q r,v=.ref q/\H q=some (.tup (.int t::r))
structure BH (T:Tx P w K mg) (H:Hp) (p:Addr) (d:Dk) (s:Ds):Prop where
 ob:∃ n,Oj T.af n H p (Pu d)/\n<=700
 ls:H d.a=some (.lst (s.ls.map V.str))
 ev:∃ vs:List V,H d.b=some (.lst vs)/\vs.length=s.ev/\(∀ v∈vs,∃ q,v=.ref q)/\(∀ v,vs.getLast?=some v->EvV H v s.tk)
 pk:∃ ns:List Int,H d.c=some (.lst (ns.map V.int))/\ns.length=s.pk
 n1:d.a≠d.b
 n2:d.a≠d.c
 n3:d.b≠d.c
 t0:s.ev=0->s.tk=0
 no:s.ng=false->d.ng=.non
 ye:s.ng=true->∃ n e,d.ng=.ref n/\Dg T H n/\DR H d.pr [e]/\ErF e/\Eg 7 [e]=none
 le:s.ls.length<=60/\s.ev<=60/\s.pk<=60
 ln:∀ l∈s.ls,l∈LN
def spDkI (T:Tx P w K mg):Sp:=λvs H Q _=>∃ (p dx:Addr),vs=[.ref p]/\H p=some (.ins T.af dx [])/\∀ H' d,CP p H H'->BH T H' p d ⟨[],0,0,0,false⟩->H d.a=none->H d.b=none->H d.c=none->Q .non H'
def Fd (p:Addr) (d:Dk) (H H':Hp):Prop:=∀ c o,c≠p->c≠d.a->c≠d.b->c≠d.c->H c=some o->H' c=some o
def QK (i:Int):Str:=toString i
theorem EvV.mv {H H':Hp} {v:V} {t:Int} (h:EvV H v t) (k:∀ q xs,H q=some (.tup xs)->H' q=some (.tup xs)):EvV H' v t:=by
 obtain ⟨q,r,e,h⟩:=h
 exact ⟨q,r,e,k _ _ h⟩
section
variable {T:Tx P w K mg} {H H':Hp} {p:Addr} {d:Dk} {s:Ds}
theorem BH.putL {l:Str} (D:BH T H p d s) (hn:s.ng=false) (hl:l∈LN) (hc:s.ls.length<60):BH T (upd H d.a (.lst (s.ls.map V.str++[.str l]))) p d { s with ls:=s.ls++[l] }:=by
 obtain ⟨n,F,h7⟩:=D.ob
 obtain ⟨_,_,hp⟩:=F.at
 obtain ⟨vs,e1,e2,e3,e4⟩:=D.ev
 obtain ⟨ns,f1,f2⟩:=D.pk
 refine ⟨⟨n,F.mv λdx fs e=>by rw [Ah (AU e D.ls (λz=>nomatch z))];exact e,h7⟩,?_,⟨vs,by rw [Ah (Ne.symm D.n1)];exact e1,e2,e3,λv hv=>(e4 v hv).mv λq xs h=>by rw [Ah (AU h D.ls (λz=>nomatch z))];exact h⟩,⟨ns,by rw [Ah (Ne.symm D.n2)];exact f1,f2⟩,D.n1,D.n2,D.n3,D.t0,D.no,(λz=>by rw [hn] at z;cases z),⟨by rw [K0];exact hc,D.le.2⟩,λx hx=>?_⟩
 ·rw [Ab,A3];rfl
 ·rcases Q3.mp hx with hx | hx
  ·exact D.ln x hx
  ·rw [C1.mp hx];exact hl
theorem BH.same (D:BH T H p d s) (k:Af H H'):BH T H' p d s:=by
 obtain ⟨n,F,h7⟩:=D.ob
 obtain ⟨vs,e1,e2,e3,e4⟩:=D.ev
 obtain ⟨ns,f1,f2⟩:=D.pk
 refine ⟨⟨n,F.same k,h7⟩,k _ _ D.ls,⟨vs,k _ _ e1,e2,e3,λv hv=>(e4 v hv).mv λq xs h=>k _ _ h⟩,⟨ns,k _ _ f1,f2⟩,D.n1,D.n2,D.n3,D.t0,D.no,λz=>?_,D.le,D.ln⟩
 obtain ⟨n,e,a,b,c,x⟩:=D.ye z
 exact ⟨n,e,a,b.same k,c.ts (DQ.of k),x⟩
end
theorem Gw {n:Nat} (h:n<=100):((n:Nat):Int).natAbs.log2<1920:=by
 have:(n:Nat).log2<=n:=Nat.log2_le_self n
 rw [Int.natAbs_natCast];lia
def Tc (T:Tx P w K mg):Sp:=λvs H Q _=>∃ (p:Addr) (d:Dk) (s:Ds) (l:Str),vs=[.ref p,.str l]/\BH T H p d s/\s.ng=false/\s.ls.length<60/\l∈LN/\∀ r H',Fd p d H H'->H r=none->BH T H' p d { s with ls:=s.ls++[l] }->H' r=some (.lst [.str ("line "++QK ((s.ls.length+1:Nat):Int))])->Q (.ref r) H'
theorem ntx_all:(C5 101).all (λn=>decide ((QK ((n:Nat):Int)).length<=10))=true:=by lk
theorem Hz {n:Nat} (h:n<=100):(QK ((n:Nat):Int)).length<=10:=of_decide_eq_true (C2.mp ntx_all n (u7.mpr (by lia)))
section
variable {T:Tx P w K mg} {H H':Hp} {p:Addr} {d:Dk} {s:Ds}
theorem BH.putP {n:Int} {ns:List Int} (D:BH T H p d s) (hn:s.ng=false) (h:H d.c=some (.lst (ns.map V.int))) (hc:s.pk<60):BH T (upd H d.c (.lst (ns.map V.int++[.int n]))) p d { s with pk:=s.pk+1 }:=by
 obtain ⟨m,F,h7⟩:=D.ob
 obtain ⟨vs,e1,e2,e3,e4⟩:=D.ev
 obtain ⟨ns',f1,f2⟩:=D.pk
 rw [h] at f1
 have el:ns.length=ns'.length:=by
  injection f1 with f1
  injection f1 with f1
  have:=congrArg c8 f1
  rwa [J0,J0] at this
 refine ⟨⟨m,F.mv λdx fs e=>by rw [Ah (AU e h (λz=>nomatch z))];exact e,h7⟩,by rw [Ah D.n2];exact D.ls,⟨vs,by rw [Ah D.n3];exact e1,e2,e3,λv hv=>(e4 v hv).mv λq xs e=>by rw [Ah (AU e h (λz=>nomatch z))];exact e⟩,⟨ns++[n],by rw [Ab,A3];rfl,by rw [K0,el,f2];rfl⟩,D.n1,D.n2,D.n3,D.t0,D.no,(λz=>by rw [hn] at z;cases z),⟨D.le.1,D.le.2.1,hc⟩,D.ln⟩
end
def spPutP (T:Tx P w K mg):Sp:=λvs H Q _=>∃ (p:Addr) (d:Dk) (s:Ds) (v:V),vs=[.ref p,v]/\BH T H p d s/\s.ng=false/\s.pk<60/\((v=.non/\Q .non H)\/∃ n:Int,v=.int n/\∀ r H',Fd p d H H'->H r=none->BH T H' p d { s with pk:=s.pk+1 }->H' r=some (.lst [.str ("pick "++QK ((s.pk+1:Nat):Int))])->Q (.ref r) H')
def Td (T:Tx P w K mg):Sp:=λvs H Q _=>∃ (p:Addr) (d:Dk) (s:Ds) (v:V),vs=[.ref p,v]/\BH T H p d s/\s.ng=false/\s.ev<60/\((v=.non/\Q .non H)\/∃ (l:Addr) (t:Int) (Bh:List V),v=.ref l/\H l=some (.lst (.str "at"::.int t::Bh))/\Bh.length<=20/\0<=t/\(t<s.tk->∀ H',Af H H'->Q .non H')/\(¬ t<s.tk->∀ r H',Fd p d H H'->H r=none->BH T H' p d { s with ev:=s.ev+1,tk:=t }->H' r=some (.lst [.str ("event "++QK ((s.ev+1:Nat):Int))])->Q (.ref r) H'))
theorem AN {G J:Hp} {p:Addr} (s:Af G J) (h:J p=none):G p=none:=by
 cases e:G p with
 |none=>rfl
 |some o=>rw [s _ _ e] at h;cases h
theorem BH.putE {T:Tx P w K mg} {H:Hp} {p q:Addr} {d:Dk} {s:Ds} {t:Int} {r vs:List V} (D:BH T H p d s) (hn:s.ng=false) (h:H d.b=some (.lst vs)) (hq:H q=some (.tup (.int t::r))) (hc:s.ev<60):BH T (upd H d.b (.lst (vs++[.ref q]))) p d { s with ev:=s.ev+1,tk:=t }:=by
 obtain ⟨m,F,h7⟩:=D.ob
 obtain ⟨vs',e1,e2,e3,e4⟩:=D.ev
 obtain ⟨ns,f1,f2⟩:=D.pk
 rw [h] at e1
 obtain rfl:vs=vs':=by injection e1 with e1;injection e1
 refine ⟨⟨m,F.mv λdx fs e=>by rw [Ah (AU e h (λz=>nomatch z))];exact e,h7⟩,by rw [Ah D.n1];exact D.ls,⟨vs++[.ref q],Ab,by rw [K0,e2];rfl,λv hv=>?_,λv hv=>?_⟩,⟨ns,by rw [Ah (Ne.symm D.n3)];exact f1,f2⟩,D.n1,D.n2,D.n3,(λz=>nomatch z),D.no,(λz=>by rw [hn] at z;cases z),⟨D.le.1,hc,D.le.2.2⟩,D.ln⟩
 ·rcases Q3.mp hv with hv | hv
  ·exact e3 v hv
  ·exact ⟨q,C1.mp hv⟩
 ·rw [v7] at hv
  cases hv
  exact ⟨q,r,rfl,by rw [Ah (AU hq h (λz=>nomatch z))];exact hq⟩
def spWho (T:Tx P w K mg):Sp:=λvs H Q _=>∃ (p m:Addr) (g:Str->Option V) (n:Nat),vs=[.ref p]/\Oj T.af n H p g/\g "night"=some (.ref m)/\Dg T H m/\∀ l H',H l=none->Af H H'->H' l=some (.lst [.str "0 a ready"])->Q (.ref l) H'
theorem Qz {z:Str} {v:V}:∀ {fs:List (Str×V)} {u:V},W3 z fs=some u->(AM z v fs).length=fs.length
 |[],_,h=>nomatch h
 | (y,x)::r,u,h=>by
  show (if y=z then (y,v)::r else (y,x)::AM z v r).length=_
  by_cases c:y=z
  ·rw [if_pos c];rfl
  ·rw [if_neg c]
   have hb:(z == y)=false:=beq_eq_false_iff_ne.mpr λe=>c e.symm
   rw [W3,hb] at h
   exact congrArg j8 (Qz h)
theorem Oj.put2 {C:Addr} {n:Nat} {H:Hp} {p:Addr} {g:Str->Option V} {z:Str} {u:V} (F:Oj C n H p g) (hg:g z=some u):∃ dx fs,H p=some (.ins C dx fs)/\fs.length<=n/\∀ v H1,upd H p (.ins C dx (AM z v fs))=H1->CP p H H1/\Oj C n H1 p (Hk g z v):=by
 obtain ⟨dx,fs,h,hl,r⟩:=F.ex
 refine ⟨dx,fs,h,hl,λv H1 e=>?_⟩
 subst e
 refine ⟨λc o m e=>by rw [Ah m];exact e,dx,_,Ab,by rw [Qz ((r z).trans hg)];exact hl,λy=>?_⟩
 rw [Cq,r]
 rfl
theorem Oj.ne {C D:Addr} {n m:Nat} {H:Hp} {p q:Addr} {g f:Str->Option V} (F:Oj C n H p g) (G:Oj D m H q f) (z:Str) (h:(g z).isSome≠(f z).isSome):p≠q:=by
 rintro rfl
 obtain ⟨dx,fs,e,_,r⟩:=F.ex
 obtain ⟨dy,gs,e2,_,r2⟩:=G.ex
 rw [e] at e2
 cases e2
 exact h (by rw [<- r,<- r2])
theorem Oj.but2 {C:Addr} {n:Nat} {H H':Hp} {p q:Addr} {g:Str->Option V} (F:Oj C n H p g) (b:CP q H H') (h:p≠q):Oj C n H' p g:=by
 obtain ⟨dx,fs,e,r⟩:=F.ex
 exact ⟨dx,fs,b _ _ h e,r⟩
section
variable {T:Tx P w K mg} {H H':Hp} {p m:Addr} {d:Dk} {s:Ds} {k:Nat}
theorem Dg.but2 (N:Dg T H m) (F:Oj T.af k H p (Pu d)) (b:CP p H H'):Dg T H' m:=by
 obtain ⟨n,g,c,a,b1,m1,q,v,h1,h2,h3,h4,h5,h6,h7,h8,h9,⟨n2,g2,i1,i2,i3⟩,h11,h12⟩:=N.ex
 obtain ⟨dx,fs,hp,_⟩:=F.ex
 refine ⟨n,g,c,a,b1,m1,q,v,h1.but2 b (h1.ne F "clock" (by rw [h4];exact λz=>nomatch z)),h2,h3,h4,h5.but2 b (h5.ne F "tick" (λz=>nomatch z)),h6,b _ _ (AU h7 hp (λz=>nomatch z)) h7,h8,b _ _ (AU h9 hp (λz=>nomatch z)) h9,⟨n2,g2,i1.but2 b (i1.ne F "want" (by rw [i2];exact λz=>nomatch z)),i2,i3⟩,h11,b _ _ (AU h12 hp (λz=>nomatch z)) h12⟩
theorem BH.rise (D:BH T H p d s) (hn:s.ng=true) (N:Dg T H m) (b:CP p H H') {j:Nat} (F:Oj T.af k H p (Pu d)) (F':Oj T.af j H' p (Pu { d with ng:=.ref m })) (hj:j<=700):BH T H' p { d with ng:=.ref m } s:=by
 obtain ⟨dx,fs,hp,_⟩:=F.ex
 obtain ⟨vs,e1,e2,e3,e4⟩:=D.ev
 obtain ⟨ns,f1,f2⟩:=D.pk
 obtain ⟨_,e,_,_,y⟩:=D.ye hn
 exact ⟨⟨j,F',hj⟩,b _ _ (AU D.ls hp (λz=>nomatch z)) D.ls,⟨vs,b _ _ (AU e1 hp (λz=>nomatch z)) e1,e2,e3,λv hv=>(e4 v hv).mv λq xs h=>b _ _ (AU h hp (λz=>nomatch z)) h⟩,⟨ns,b _ _ (AU f1 hp (λz=>nomatch z)) f1,f2⟩,D.n1,D.n2,D.n3,D.t0,(λz=>by rw [hn] at z;cases z),(λ_=>⟨m,e,rfl,N.but2 F b,y.1.ts λq xs h=>b _ _ (AU h hp (λz=>nomatch z)) h,y.2⟩),D.le,D.ln⟩
end
theorem Na.same {T:Tx P w K mg} {H H':Hp} {m u:Addr} (h:Na T H m u) (s:Af H H'):Na T H' m u:=by
 obtain ⟨n,g,a,b,q,F,r⟩:=h
 exact ⟨n,g,a,b,q,F.same s,r⟩
theorem Na.but2 {T:Tx P w K mg} {H H':Hp} {m u p:Addr} {k:Nat} {d:Dk} (h:Na T H m u) (D:Oj T.af k H p (Pu d)) (s:CP p H H'):Na T H' m u:=by
 obtain ⟨n,g,a,b,q,F,g1,r⟩:=h
 exact ⟨n,g,a,b,q,F.but2 s (F.ne D "names" (by rw [g1];exact λz=>nomatch z)),g1,r⟩
def spRise (T:Tx P w K mg):Sp:=λvs H Q _=>∃ (p r:Addr) (d:Dk) (s:Ds),vs=[.ref p,.ref r]/\BH T H p d s/\s.ng=true/\H r=some (.lst [])/\∀ l m H',Fd p d H H'->H l=none->BH T H' p { d with ng:=.ref m } s->Nw T H H' m->H' l=some (.lst [.str "up 0"])->Q (.ref l) H'
def Tn (T:Tx P w K mg):Sp:=λvs H Q _=>∃ (p:Addr) (d:Dk) (s:Ds) (z:Str) (v:V),vs=[.ref p,.str z,v]/\BH T H p d s/\s.ng=true/\z.length<=900/\((v=.non/\Q .non H)\/∃ n:Nat,v=.int n/\(z="book"->∀ l H',Af H H'->H l=none->H' l=some (.lst [])->Q (.ref l) H')/\(z="rise"->n=0->∀ l m H',Fd p d H H'->H l=none->BH T H' p { d with ng:=.ref m } s->Nw T H H' m->H' l=some (.lst [.str "up 0"])->Q (.ref l) H')/\(z≠"book"->¬ (z="rise"/\n=0)->∀ H',Af H H'->Q .non H'))
def spBhd (T:Tx P w K mg):Sp:=λvs H Q _=>∃ (p a:Addr) (d:Dk) (s:Ds) (ws:List Str),vs=[.ref p,.ref a]/\BH T H p d s/\s.ng=true/\H a=some (.lst (ws.map V.str))/\(∀ z∈ws,z.length<=900)/\ws≠[("step":Str)]/\ws≠[("run":Str)]/\ws≠[("knot":Str)]/\(∀ x y,ws=[x,y]->∀ H',Af H H'->Tn T [.ref p,.str x,oN (Cp y)] H' Q E0)/\(ws.length≠2->(ws=[("now":Str)]->∀ l H',Af H H'->H l=none->H' l=some (.lst [.str "tick 0"])->Q (.ref l) H')/\(ws=[("who":Str)]->∀ l H',Af H H'->H l=none->H' l=some (.lst [.str "0 a ready"])->Q (.ref l) H')/\(ws≠[("now":Str)]->ws≠[("who":Str)]->∀ H',Af H H'->Q .non H'))
def Qi (z:Str):V:=if Jr (Do z)=true then .non else Do z
def spToldV:Sp:=λvs H Q _=>∃ z:Str,vs=[.str z]/\z.length<=900/\∀ H',Af H H'->Q (Qi z) H'
theorem th_val {H:Hp} {z:Str} (h:z.length<=900):Th H (Do z):=by
 unfold Do
 split
 ·split
  ·exact .int _
  ·exact .non
 ·split
  ·exact .str _ (by lia)
  ·exact .non
theorem rw_nb {t:Tr} (h:RwT t):Nb (TC t).ln:=by
 obtain ⟨n,hn,h⟩:=h
 rcases h with rfl | rfl | rfl | rfl
 ·exact hn
 ·exact hn
 ·exact hn
 ·exact hn
def ErN (e:Er):Prop:=ErF e/\Nb e.ln/\∀ r∈e.rows,Nb r.ln
theorem er_nb {m:Nat} {t:Tr} (h:Vs m t):ErN (Su t):=by
 refine ⟨QT h,?_⟩
 obtain ⟨n,rs,hn,rfl,hr,_⟩:=h
 refine ⟨hn,λr hr'=>?_⟩
 obtain ⟨x,hx,rfl⟩:=E5.mp hr'
 exact rw_nb (hr x hx)
theorem Rj {r:Rw} {sp:Fg} {lab grp ah:List Str} {z:Str} (h:FO r sp lab grp ah=some z):z.length<=10:=by
 unfold FO at h
 repeat' split at h
 all_goals first | (cases h;decide) | cases h
def Tb (x:Int×Str):Prop:=Nb x.1/\x.2.length<=10
theorem err_nb {e:Er} {ah:List Str} {x:Int×Str} (h:ErN e) (hx:FM 7 ah e=some x):Tb x:=by
 unfold FM at hx
 split at hx
 ·cases hx
  exact ⟨h.2.1,by dsimp only;decide⟩
 ·obtain ⟨q,hq,e2⟩:=List.exists_of_findSome?_eq_some hx
  unfold Gm at e2
  obtain ⟨z,hz,rfl⟩:=W2.mp e2
  have:q.1∈AC 7 e.rows:=by
   rw [<- Fi]
   exact List.mem_map_of_mem hq
  rw [EM 6 λr hr=>(h.1.2 r hr).1] at this
  exact ⟨h.2.2 _ this,Rj hz⟩
theorem QS:∀ {es:List Er} {ah:List Str} {x:Int×Str},(∀ e∈es,ErN e)->DP 7 ah es=some x->Tb x
 |[],_,_,_,hx=>nomatch hx
 |e::r,ah,x,h,hx=>by
  have hx:(match FM 7 ah e with | some x=>some x | none=>DP 7 (ah++[e.nm]) r)=some x:=hx
  cases h1:FM 7 ah e with
  |some y =>
   rw [h1] at hx
   cases hx
   exact err_nb (h e W0) h1
  |none =>
   rw [h1] at hx
   exact QS (λx hx=>h x (N0 _ hx)) hx
theorem QL {es:List Er} {x:Int×Str} (h:∀ e∈es,ErN e) (hn:es≠[]) (hx:Eg 7 es=some x):Tb x:=by
 unfold Eg at hx
 cases h1:FB 7 es with
 |some y =>
  rw [h1] at hx
  cases hx
  unfold FB at h1
  split at h1
  ·rename_i e he
   cases h1
   exact ⟨(h e (j0 he)).2.1,by dsimp only;decide⟩
  ·split at h1
   ·rename_i r hr
    cases h1
    obtain ⟨e,he,hr⟩:=x5.mp (j0 hr)
    rw [EM 6 λr hr=>((h e he).1.2 r hr).1] at hr
    exact ⟨(h e he).2.2 r hr,by dsimp only;decide⟩
   ·cases h1
 |none =>
  rw [h1] at hx
  dsimp only at hx
  cases h2:DP 7 [] es with
  |some y =>
   rw [h2] at hx
   cases hx
   exact QS h h2
  |none =>
   rw [h2] at hx
   have hm:Ej es∈es:=by
    unfold Ej
    rw [B7,List.getLast?_eq_some_getLast hn]
    exact List.getLast_mem hn
   have hx:Iv 7 es=some x:=hx
   unfold Iv at hx
   split at hx
   ·cases hx;exact ⟨(h _ hm).2.1,by dsimp only;decide⟩
   ·split at hx
    ·cases hx;exact ⟨(h _ hm).2.1,by dsimp only;decide⟩
    ·cases hx
theorem Mr:∀ {L:List Str} {i:Nat} {j:Int} {s:St},Dz i L s=.inl j->(i:Int)<=j/\j<=i+L.length
 |[],_,_,_,e=>nomatch e
 |l::L,i,j,s,e=>by
  have e:(if BJ l=[] then Dz (i+1) L s else match step s i (BJ l) with
   |none=>.inl (i:Int)
   |some s'=>Dz (i+1) L s')=.inl j:=e
  rw [v0]
  split at e
  ·have:=Mr e
   lia
  ·cases hs:step s i (BJ l) with
   |none=>rw [hs] at e;cases e;lia
   |some s1=>rw [hs] at e;have:=Mr e;lia
def lnS (L:List Str):List Str:=if L=[] then [""] else L
theorem Uq:LN.all (λl=>decide (Txt.split l ⟨#[10]⟩=[l])&&(l.cps.toList.all λc=>decide (c<128))&&decide (l.length<=20)&&decide (nl l=0))=true:=by lk
theorem ln_sp {L:List Str} (h:∀ l∈L,l∈LN):Txt.split (Str.join ⟨#[10]⟩ L) ⟨#[10]⟩=lnS L:=by
 unfold lnS
 by_cases c:L=[]
 ·subst c;lk
 ·rw [if_neg c,Hj c]
  clear c
  induction L with
  |nil=>rfl
  |cons x r ih =>
   have:=C2.mp Uq x (h x W0)
   simp only [W1,decide_eq_true_eq] at this
   rw [K5,this.1.1.1,ih λl hl=>h l (N0 _ hl)]
   rfl
theorem QN {L:List Str} (h:∀ l∈L,l∈LN):∀ x∈L,Rh x/\x.length<=20/\nl x=0:=λx hx=>by
 have:=C2.mp Uq x (h x hx)
 simp only [W1,decide_eq_true_eq,C2] at this
 exact ⟨this.1.1.2,this.1.2,this.2⟩
theorem Pp:∀ {M:List Str},(∀ x∈M,Rh x/\x.length<=20/\nl x=0)->(M.map (·.length)).sum<=20*M.length/\(M.map nl).sum=0
 |[],_=>⟨P0 _,rfl⟩
 |x::r,hM=>by
  have a:=Pp λl hl=>hM l (N0 _ hl)
  have b:=hM x W0
  simp only [j2,K8,v0]
  lia
theorem ln_gd {L:List Str} (h:∀ l∈L,l∈LN) (hl:L.length<=60):PX (Str.join ⟨#[10]⟩ L):=by
 have each:=QN h
 have k:=Pp each
 exact (⟨hl,λx hx=>⟨(each x hx).1,(each x hx).2.1⟩,C0 k.1 (Nat.mul_le_mul_left 20 hl),B9 k.2⟩:Gd 60 (20*60) 20 0 L).text (by kd_p) (by kd_p) (by kd_p)
theorem QM {K:A0} {H:Hp} {a:Addr} {L:List Str} {R:VK} (h:∀ l∈L,l∈LN) (hl:L.length<=60) (ha:H a=some (.lst (L.map V.str))) (k:R (.str (Str.join ⟨#[10]⟩ L)) H):rJoin K (.str "\n") [.ref a] H R:=by
 refine ⟨"\n",a,L,rfl,rfl,AD.of ha,?_,?_⟩
 ·have:=(Pp (QN h)).1
  have e:("\n":Str).length=1:=by kd_p
  rw [e]
  lia
 ·rw [nl1,Sa]
  exact k
theorem MA {n:Int} (h:Nb n):n.natAbs.log2<1920:=log_lt h.1 (by have:=h.2;lia)
theorem Ko {n:Int} (h:Nb n):(QK n).length<=10:=by
 have:=Hz (n:=n.natAbs) (by have:=h.2;have:=h.1;lia)
 rwa [Int.natAbs_of_nonneg h.1] at this
theorem SW {x:Int×Str} (h:Tb x):(QK x.1++" ").length+x.2.length<=sizeLine:=by
 have a:=Ko h.1
 have b:=h.2
 have c:(" ":Str).length=1:=by kd_p
 rw [MT,c]
 exact C0 (show _<=100 by lia) (by kd_p)
theorem Ur {L:List Str} (h:∀ l∈L,l∈LN) (hl:L.length<=60):(∀ l∈lnS L,l∈LN)/\(lnS L).length<=60:=by
 unfold lnS
 split
 ·exact ⟨λl hl=>by rw [C1.mp hl];lk,by kd_p⟩
 ·exact ⟨h,hl⟩
def DW (L:List Str):Int ⊕ Option (Int×Str):=match Lc (Str.join ⟨#[10]⟩ L) with
 |.inl i=>.inl i
 |.inr ts=>.inr (Eg 7 (ts.map Su))
def PQ:Int ⊕ Option (Int×Str)->Str
 |.inl i=>"row "++QK i
 |.inr (some x)=>QK x.1++" "++x.2
 |.inr none=>"night"
def MQ:Int ⊕ Option (Int×Str)->Bool
 |.inr none=>true
 |_=>false
theorem QH {L:List Str} {i:Int} (h:∀ l∈L,l∈LN) (hl:L.length<=60) (e:Lc (Str.join ⟨#[10]⟩ L)=.inl i):Nb i:=by
 obtain ⟨_,l2⟩:=Ur h hl
 unfold Lc at e
 rw [ln_sp h] at e
 unfold Pd at e
 cases h1:Dz 1 (lnS L) ⟨[],[]⟩ with
 |inl j =>
  rw [h1] at e
  cases e
  have:=Mr h1
  exact ⟨by lia,by lia⟩
 |inr s =>
  rw [h1] at e
  dsimp only at e
  split at e
  ·cases e
  ·cases e
   exact ⟨by lia,by lia⟩
theorem NH {L:List Str} {ts:List Tr} (h:∀ l∈L,l∈LN) (hl:L.length<=60) (e:Lc (Str.join ⟨#[10]⟩ L)=.inr ts):ts≠[]/\ts.length<=60/\∀ t∈ts,Vs 60 t:=by
 obtain ⟨l1,l2⟩:=Ur h hl
 unfold Lc at e
 rw [ln_sp h] at e
 obtain ⟨a,b,c⟩:=out_sv l1 l2 e
 exact ⟨a,C0 b l2,λt ht=>(c t ht).up l2⟩
theorem QA {ts:List Tr} (h:∀ t∈ts,Vs 60 t):∀ e∈ts.map Su,ErN e:=λe he=>by
 obtain ⟨t,ht,rfl⟩:=E5.mp he
 exact er_nb (h t ht)
theorem eqWs {K:A0} {G:Hp} {a p:Addr} {ws us:List Str} {R:VK} {neg:Bool} (ha:G a=some (.lst (ws.map V.str))) (hp:G p=some (.lst (us.map V.str))) (k:R (.bl (neg^^decide (ws=us))) G):OW K neg (.ref a) (.ref p) G R:=by
 refine ⟨a,p,_,_,1,λi=>decide (ws[i]?=us[i]?),rfl,rfl,AD.of ha,AD.of hp,by kd_p,λi x y hx hy=>?_,?_⟩
 ·rw [J2] at hx hy
  obtain ⟨u,hu,rfl⟩:=W2.mp hx
  obtain ⟨v,hv,rfl⟩:=W2.mp hy
  have:Re K G 1 (.str u) (.str v) (PH (.str u) (.str v)):=.flat rfl rfl
  have e:PH (.str u) (.str v)=decide (ws[i]?=us[i]?):=by
   rw [hu,hv]
   show decide (u=v)=_
   rw [decide_eq_decide]
   exact ⟨λz=>congrArg some z,λz=>V3.inj z⟩
  show Re K G 1 (.str u) (.str v) (decide (ws[i]?=us[i]?))
  rw [<- e]
  exact this
 ·have e:(decide ((ws.map V.str).length=(us.map V.str).length)&&(C5 (ws.map V.str).length).all λi=>decide (ws[i]?=us[i]?))=decide (ws=us):=by
   rw [J0,J0]
   by_cases h:ws=us
   ·subst h;simp
   ·rw [decide_eq_false h]
    cases hb:(decide (ws.length=us.length)&&(C5 ws.length).all λi=>decide (ws[i]?=us[i]?)) with
    |false=>rfl
    |true =>
     rw [W1] at hb
     have hl:=of_decide_eq_true hb.1
     refine absurd (List.ext_getElem? λi=>?_) h
     by_cases hi:i<ws.length
     ·exact of_decide_eq_true (C2.mp hb.2 i (u7.mpr hi))
     ·rw [E6 (by lia),E6 (by lia)]
  rw [e]
  exact k
theorem Oo {K:A0} {H:Hp} {a:Addr} {ws:List Str} {z:Str} {R:VK} (ha:H a=some (.lst (ws.map V.str))) (k:∀ G,Af H G->R (.bl (decide (ws=[z]))) G):1<=sizeLine/\∀ p,H p=none->OW K false (.ref a) (.ref p) (upd H p (.lst [.str z])) R :=
 ⟨by kd_p,λp hp=>eqWs (us:=[z]) ((Af.upd hp) _ _ ha) Ab (by rw [j4];exact k _ (Af.upd hp))⟩
def Dd (y z:Str):V:=if y="NUMBER" then Ll z 0 9999 else if y="NAME" then (if CB z=true then .str z else .non) else if y="TOLD" then Qi z else if z=y then .str z else .non
def Lz:Sp:=λvs H Q _=>∃ y z:Str,vs=[.str y,.str z]/\(y="NUMBER"\/y∈SLO)/\z.length<=900/\∀ H',Af H H'->Q (Dd y z) H'
def Px (slots ws:List Str):Option (List V):=if slots.length=ws.length then (if Ik .non (D4 Dd slots ws)=true then none else some (D4 Dd slots ws)) else none
def EL:List (List Str)->List Str->Option (List V)
 |[],_=>none
 |f::r,ws=>match Px f ws with
  |some x=>some x
  |none=>EL r ws
def SE:List (List Str):=[["at", "NUMBER", "ring", "NAME"],["at", "NUMBER", "send", "NAME", "TOLD"],["at", "NUMBER", "off", "NUMBER"]]
theorem Si:EVS.map (λf=>Txt.split f ⟨#[32]⟩)=SE:=by lk
theorem evs_le:∀ f∈EVS,f.length<=900:=by lk
theorem se_ok:∀ s∈SE,s.length<=900/\∀ w∈s,w="NUMBER"\/w∈SLO:=by lk
def WsE (ws:List Str):Prop:=ws.length<=900/\∀ w∈ws,w.length<=900
def Tl (f:Addr):Sp:=λvs H Q _=>∃ (a b:Addr) (slots ws:List Str),vs=[.ref a,.ref b,.ref f]/\H a=some (.lst (slots.map V.str))/\H b=some (.lst (ws.map V.str))/\slots∈SE/\WsE ws /\
 (Px slots ws=none->∀ H',Af H H'->Q .non H')/\∀ x,Px slots ws=some x->∀ (l:Addr) (H':Hp),H l=none->H' l=some (.lst x)->Af H H'->Q (.ref l) H'
def No (T:Tx P w K mg):Sp:=λvs H Q _=>∃ (b:Addr) (ws:List Str),vs=[.ref T.eva,.ref b,.ref T.aJ.f]/\H b=some (.lst (ws.map V.str))/\WsE ws /\
 (EL SE ws=none->∀ H',Af H H'->Q .non H')/\∀ x,EL SE ws=some x->∀ (l:Addr) (H':Hp),H l=none->H' l=some (.lst x)->Af H H'->Q (.ref l) H'
theorem bnd_V (z:Str) (a b:Int):Cy (Ll z a b)=true:=by
 unfold Ll
 split
 ·split
  ·rfl
  ·rfl
 ·rfl
theorem value_V (z:Str):Cy (Do z)=true:=by
 unfold Do
 split
 ·split
  ·rfl
  ·rfl
 ·split
  ·rfl
  ·rfl
theorem UT (y z:Str):Cy (Dd y z)=true:=by
 unfold Dd
 split
 ·exact bnd_V ..
 split
 ·split
  ·rfl
  ·rfl
 split
 ·unfold Qi
  split
  ·rfl
  ·exact value_V z
 split
 ·rfl
 ·rfl
theorem zip_E (slots ws:List Str):(D4 Dd slots ws).all Cy=true:=by
 rw [C2]
 intro v hv
 obtain ⟨i,hi⟩:=g6 hv
 rw [C6] at hi
 cases e1:slots[i]? with
 |none=>rw [e1] at hi;cases hi
 |some y =>
  cases e2:ws[i]? with
  |none=>rw [e1,e2] at hi;cases hi
  |some z=>rw [e1,e2] at hi;cases hi;exact UT y z
theorem Ol {F:List (List Str)} {i:Nat} {f:List Str} {ws:List Str} (h:F[i]?=some f):EL (F.drop i) ws=match Px f ws with
  |some x=>some x
  |none=>EL (F.drop (i+1)) ws:=by
 obtain ⟨lt,e⟩:=Q1.mp h
 rw [Z5 lt,e]
 rfl
def NgO (T:Tx P w K mg) (H H':Hp) (d d':Dk) (l:Addr):Prop:=d'.a=d.a/\d'.b=d.b/\d'.c=d.c/\(d'.ng=d.ng\/∃ m,d'.ng=.ref m/\Nw T H H' m/\Na T H' m l)
theorem Dg.out {T:Tx P w K mg} {H:Hp} {m l:Addr} {z:Str} (N:Dg T H m) (h:H l=some (.lst [.str z])) (hz:z≠"a"):Na T H m l:=by
 obtain ⟨n,g,c,a,b,m1,q,v,h1,h2,h3,h4,h5,h6,h7,h8,h9,h10,h11,h12⟩:=N.ex
 refine ⟨n,g,a,b,q,h1,h6,h8,h11,?_,?_,?_⟩
 ·rintro rfl
  rw [h] at h7
  cases h7
  exact hz rfl
 ·rintro rfl
  rw [h] at h9
  cases h9
 ·rintro rfl
  rw [h] at h12
  cases h12
theorem Dg.fresh {T:Tx P w K mg} {H:Hp} {m l:Addr} (N:Dg T H m) (h:H l=none):Na T H m l:=by
 obtain ⟨n,g,c,a,b,m1,q,v,h1,h2,h3,h4,h5,h6,h7,h8,h9,h10,h11,h12⟩:=N.ex
 refine ⟨n,g,a,b,q,h1,h6,h8,h11,?_,?_,?_⟩
 ·rintro rfl
  rw [h] at h7
  cases h7
 ·rintro rfl
  rw [h] at h9
  cases h9
 ·rintro rfl
  rw [h] at h12
  cases h12
def spBeg (T:Tx P w K mg):Sp:=λvs H Q _=>∃ (p:Addr) (d:Dk) (s:Ds),vs=[.ref p]/\BH T H p d s/\s.ng=false/\∀ l d' H',Fd p d H H'->H l=none->BH T H' p d' { s with ng:=MQ (DW s.ls) }->NgO T H H' d d' l->H' l=some (.lst [.str (PQ (DW s.ls))])->Q (.ref l) H'
theorem BH.night {T:Tx P w K mg} {H H':Hp} {p m:Addr} {d:Dk} {s:Ds} {v:V} {e:Er} {j:Nat} (D:BH T H p d s) (t:CP p H H') (F':Oj T.af j H' p (Pu { d with pr:=v,ng:=.ref m })) (hj:j<=700) (N:Dg T H' m) (P1:DR H' v [e]) (E1:ErF e) (L1:Eg 7 [e]=none):BH T H' p { d with pr:=v,ng:=.ref m } { s with ng:=true }:=by
 obtain ⟨k,F,_⟩:=D.ob
 obtain ⟨dx,fs,hp,_⟩:=F.ex
 obtain ⟨vs,e1,e2,e3,e4⟩:=D.ev
 obtain ⟨ns,f1,f2⟩:=D.pk
 exact ⟨⟨j,F',hj⟩,t _ _ (AU D.ls hp (λz=>nomatch z)) D.ls,⟨vs,t _ _ (AU e1 hp (λz=>nomatch z)) e1,e2,e3,λv hv=>(e4 v hv).mv λq xs h=>t _ _ (AU h hp (λz=>nomatch z)) h⟩,⟨ns,t _ _ (AU f1 hp (λz=>nomatch z)) f1,f2⟩,D.n1,D.n2,D.n3,D.t0,(λz=>nomatch z),(λ_=>⟨m,e,rfl,N,P1,E1,L1⟩),D.le,D.ln⟩
def R0:List Str:=["| errand a", "| errand a", "| wait 3", "| end", "| end", "| wait 0", "|", "| ", "|x", "| raise boom"]
def R1:List Str:=["| give 1", "| ask la x", "|  end", "at 3 ring dusk", "at 0 off 0", "at 5 send box 7", "| end"]
def R2:List Str:=["at 5 send box :off", "at 5 send box x", "at 05 ring dusk", "at 10000 ring a", "at 3 ring"]
def R3:List Str:=["at 3 ring dusk x", "at 3 hear dusk", "at x ring dusk", "at 3 ring Dusk", "at 3 off 10000"]
def R4:List Str:=["at 9999 off 9999", "at 7 off 1", "at 7 send keep 1", "at 7 send box 1000000", "at 5 send box"]
def R5:List Str:=["pick 0", "pick 999999", "pick 1000000", "pick", "pick 1 2", "pick 01", "pick -1", "pick 3"]
def R6:List Str:=["begin", "begin", "begin 1", "Begin", "", " begin", "step now", "run 1", "now", "who", "knot x"]
def R7:List Str:=["book 0", "rise 0", "book x", "rise 1", "rise", "at", "at 9 off", "errand a", "rise 00", "book 01"]
def R8:List Str:=["at 5 send box :Off", "at 5 send box :", "at 5 send box :off1", "at 5 send box :abcdefghi"]
def R9:List Str:=["at 3 ring abcdefghi", "at 3 ring end", "at 3 ring 1a"]
def R10:List Str:=["pick  3", "now ", "begin "]
def RWS:List Str:=(((((((((R0++R1)++R2)++R3)++R4)++R5)++R6)++R7)++R8)++R9)++R10
def LWS:List Str:=["at 9999 off 1", "begin", "at 9998 off 1", "at 9999 off 1", "| errand a", "| end", "begin", "now", "who", "rise 0", "begin", "step now", "book 0"]
def Ri:List Str:=RWS++LWS
def Dm (z:Str):List Str:=Txt.split z ⟨#[32]⟩
def JF (z:Str):Bool:=decide (z="|")||Txt.startswith z "| "
def lnO (z:Str):Str:=Iq z (some 2) none
def NU:List Str:=["not understood"]
def Jc (z:Str):Bool:=decide ((Dm z).head?=some ("pick":Str))&&decide ((Dm z).length=2)
def pkO (z:Str):Option Int:=Cp ((Dm z).getD 1 "")
def tkV:List V->Option Int
 |.str a::.int t::r=>if a="at"/\0<=t/\r.length<=20 then some t else none
 |_=>none
def OC (z:Str):Option Int:=(EL SE (Dm z)).bind tkV
def OD (z:Str):List Str:=if z="now" then ["tick 0"] else if z="who" then ["0 a ready"] else if z="book 0" then [] else if z="rise 0" then ["up 0"] else NU
def DT (s:Ds) (z:Str):List Str×Ds :=
 if s.ng=true then (OD z,s) else if JF z=true then (["line "++QK ((s.ls.length+1:Nat):Int)],{ s with ls:=s.ls++[lnO z] })
 else if z="begin" then ([PQ (DW s.ls)],{ s with ng:=MQ (DW s.ls) })
 else if Jc z=true then (if (pkO z).isSome=true then (["pick "++QK ((s.pk+1:Nat):Int)],{ s with pk:=s.pk+1 }) else (NU,s))
 else match OC z with
  |some t=>if t<s.tk then (NU,s) else (["event "++QK ((s.ev+1:Nat):Int)],{ s with ev:=s.ev+1,tk:=t })
  |none=>(NU,s)
structure ChkA (z:Str):Prop where
 le:z.length<=900
 ln:JF z=true->lnO z∈LN
 ws:WsE (Dm z)
 ev:(EL SE (Dm z)).isSome=(OC z).isSome
def chkA (z:Str):Bool:=decide (z.length<=900)&&(!JF z||decide (lnO z∈LN))&&decide ((Dm z).length<=900)&&((Dm z).all λx=>decide (x.length<=900))&&((EL SE (Dm z)).isSome == (OC z).isSome)
theorem Vg:Ri.all chkA=true:=by lk
theorem Iu {z:Str} (h:z∈Ri):ChkA z:=by
 have:=C2.mp Vg z h
 unfold chkA at this
 simp only [W1,decide_eq_true_eq,Bool.or_eq_true,J7,C2,beq_iff_eq] at this
 obtain ⟨⟨⟨⟨a,b⟩,c⟩,d⟩,e⟩:=this
 exact ⟨a,λh=>by rcases b with b | b;(rw [h] at b;cases b);exact b,⟨c,d⟩,e⟩
theorem tkV_of {x:List V} {t:Int} (h:tkV x=some t):∃ r,x=.str "at"::.int t::r/\0<=t/\r.length<=20:=by
 unfold tkV at h
 split at h
 ·rename_i a t' r
  split at h
  ·rename_i c
   cases h
   exact ⟨r,by rw [c.1],c.2⟩
  ·cases h
 ·cases h
def ChC (z x y:Str):Prop:=(Cp y=none->OD z=NU)/\(Cp y≠none->x="book"->OD z=[])/\(Cp y=some 0->x="rise"->OD z=[("up 0":Str)])/\(Cp y≠none->x≠"book"->¬ (x="rise"/\Cp y=some 0)->OD z=NU)
instance (z x y:Str):Decidable (ChC z x y):=by unfold ChC;infer_instance
def ChD (z:Str):Prop:=(Dm z=[("now":Str)]->OD z=[("tick 0":Str)])/\(Dm z=[("who":Str)]->OD z=[("0 a ready":Str)])/\(Dm z≠[("now":Str)]->Dm z≠[("who":Str)]->OD z=NU)
instance (z:Str):Decidable (ChD z):=by unfold ChD;infer_instance
def ChB (z:Str):Prop:=Dm z≠[("step":Str)]/\Dm z≠[("run":Str)]/\Dm z≠[("knot":Str)]/\((Dm z).length=2->ChC z ((Dm z).getD 0 "") ((Dm z).getD 1 ""))/\((Dm z).length≠2->ChD z)
instance (z:Str):Decidable (ChB z):=by unfold ChB;infer_instance
theorem chB_all:Ri.all (λz=>decide (ChB z))=true:=by lk
theorem chB_of {z:Str} (h:z∈Ri):ChB z:=of_decide_eq_true (C2.mp chB_all z h)
theorem Ui {y:Str} {n:Int} (h:Cp y=some n):∃ m:Nat,n=m:=by
 unfold Cp at h
 split at h
 ·split at h
  ·cases h
  ·cases h;exact ⟨_,rfl⟩
 ·cases h
def Lt60 (s:Ds):Prop:=s.ls.length<60/\s.ev<60/\s.pk<60
def spAhd (T:Tx P w K mg):Sp:=λvs H Q _=>∃ (p:Addr) (d:Dk) (s:Ds) (z:Str),vs=[.ref p,.str z]/\BH T H p d s/\s.ng=false/\z∈Ri/\Lt60 s/\(∀ l d' H',Fd p d H H'->H l=none->BH T H' p d' (DT s z).2->NgO T H H' d d' l->H' l=some (.lst ((DT s z).1.map V.str))->Q (.ref l) H')/\(DT s z=(NU,s)->∀ H',Af H H'->Q .non H')
theorem NgO.rf {T:Tx P w K mg} {H H':Hp} {d:Dk} {l:Addr}:NgO T H H' d d l:=⟨rfl,rfl,rfl,.inl rfl⟩
def spSay (T:Tx P w K mg):Sp:=λvs H Q _=>∃ (p:Addr) (d:Dk) (s:Ds) (z:Str),vs=[.ref p,.str z]/\BH T H p d s/\z∈Ri/\Lt60 s/\∀ l d' H',Fd p d H H'->H l=none->BH T H' p d' (DT s z).2->NgO T H H' d d' l->H' l=some (.lst ((DT s z).1.map V.str))->Q (.ref l) H'
def PairE (H:Hp) (v:V):Prop:=∃ (q a b:Addr) (ws:List Str),v=.ref q/\H q=some (.tup [.ref a,.ref b])/\H a=some (.lst (ws.map V.str))/\H b=some (.lst (ws.map V.str))
def spHeld:Sp:=λvs H Q _=>∃ (h:Addr) (ps:List V),vs=[.ref h]/\H h=some (.lst ps)/\(∀ v∈ps,PairE H v)/\Q (.bl true) H
def spMix9:Sp:=λvs H Q _=>∃ (c:Int) (k:Nat),vs=[.int c,.int k]/\k<=40/\∀ n:Int,0<=n->n<2147483647->Q (.int n) H
def spRow:Sp:=λvs H Q _=>∃ n:Int,vs=[.int n]/\∀ z H',z∈RWS->Af H H'->Q (.str z) H'
def Ei (z:Str) (m:Int):Bool:=match Cp z with
 |some n=>decide (n<=m)
 |none=>false
def spNum:Sp:=λvs H Q _=>∃ (z:Str) (m:Int),vs=[.str z,.int m]/\Rh z/\z.length<=900/\∀ H',Af H H'->Q (.bl (Ei z m)) H'
def NMS:List Str:=["dusk", "box", "a"]
def evR (c:Str) (r:List Str):Bool:=if c="ring" then decide (r.length=1)&&decide (r.getD 0 ""∈NMS) else if c="send" then decide (r.length=2)&&(decide (r.getD 0 ""∈NMS)&&(decide (r.getD 1 ""=":off")||Ei (r.getD 1 "") 999999)) else decide (c="off")&&(decide (r.length=1)&&Ei (r.getD 0 "") 9999)
def Ux:List Str->Bool
 |_::b::c::r=>Ei b 9999&&evR c r
 |_=>false
def WsL (ws:List Str):Prop:=∀ w∈ws,Rh w/\w.length<=900
def spEvn:Sp:=λvs H Q _=>∃ (a:Addr) (ws:List Str),vs=[.ref a]/\H a=some (.lst (ws.map V.str))/\WsL ws/\∀ H',Af H H'->Q (.bl (Ux ws)) H'
def gM (l:Addr) (s:Ds) (z:Str):Option V:=if z="lines" then some (.ref l) else if z="tick" then some (.int s.tk) else if z="events" then some (.int s.ev) else if z="picks" then some (.int s.pk) else if z="night" then some (.bl s.ng) else none
def KJ (H:Hp) (m l:Addr) (s:Ds):Prop:=∃ kvs,H m=some (.dK kvs)/\kvs.length<=5/\(∀ z,valV kvs (.inr z)=gM l s z)/\H l=some (.lst (s.ls.map V.str))
theorem KJ.same {H H':Hp} {m l:Addr} {s:Ds} (h:KJ H m l s) (k:Af H H'):KJ H' m l s:=by
 obtain ⟨kvs,a,b,c,d⟩:=h
 exact ⟨kvs,k _ _ a,b,c,k _ _ d⟩
theorem TN {kvs:List (Bw×V)} {k:Bw} {v u:V} (h:valV kvs k=some u):(Fo kvs k v).length=kvs.length:=by
 unfold valV at h
 obtain ⟨x,hx,_⟩:=W2.mp h
 unfold Fo
 rw [if_pos (V7.mpr ⟨x,List.mem_of_find?_eq_some hx,List.find?_some hx⟩),J0]
theorem KJ.get {H:Hp} {m l:Addr} {s:Ds} {z:Str} {v:V} (h:KJ H m l s) (e:gM l s z=some v):KO H m (.str z) (some v):=by
 obtain ⟨kvs,a,b,c,d⟩:=h
 exact .inl ⟨kvs,.inr z,.inl a,rfl,by rw [c,e]⟩
theorem KJ.put {H:Hp} {m l l':Addr} {s s':Ds} {z:Str} {v u:V} (h:KJ H m l s) (e:gM l s z=some u) (g:∀ y,(if y=z then some v else gM l s y)=gM l' s' y) (hl:H l'=some (.lst (s'.ls.map V.str))):∃ H',Qf H m (.str z) v H'/\CP m H H'/\KJ H' m l' s':=by
 obtain ⟨kvs,a,b,c,d⟩:=h
 have hv:valV kvs (.inr z)=some u:=by rw [c,e]
 refine ⟨_,.inl ⟨kvs,.inr z,a,rfl,P4 b (by kd_p),rfl⟩,λx o n h=>by rw [Ah n];exact h,_,Ab,by rw [TN hv];exact b,λy=>?_,by rw [Ah (AU hl a (λz=>nomatch z))];exact hl⟩
 rw [HF,<- g,<- c]
 by_cases q:y=z
 ·rw [if_pos q,if_pos (by rw [q])]
 ·rw [if_neg q,if_neg (λw=>q (Sum.inr.inj w))]
section
variable {l:Addr} {s:Ds}
theorem Se:gM l s "lines"=some (.ref l):=by unfold gM;rw [if_pos rfl]
theorem gM_t:gM l s "tick"=some (.int s.tk):=by unfold gM;rw [if_neg (by lk),if_pos rfl]
theorem UN:gM l s "events"=some (.int s.ev):=by unfold gM;rw [if_neg (by lk),if_neg (by lk),if_pos rfl]
theorem UM:gM l s "picks"=some (.int s.pk):=by unfold gM;rw [if_neg (by lk),if_neg (by lk),if_neg (by lk),if_pos rfl]
theorem gM_n:gM l s "night"=some (.bl s.ng):=by unfold gM;rw [if_neg (by lk),if_neg (by lk),if_neg (by lk),if_neg (by lk),if_pos rfl]
theorem gM_pl {l':Addr} {x:List Str} (y:Str):(if y="lines" then some (.ref l') else gM l s y)=gM l' { s with ls:=x } y:=by
 by_cases h:y="lines"
 ·rw [if_pos h,h,Se]
 ·unfold gM;rw [if_neg h,if_neg h,if_neg h]
theorem gM_pt {x:Int} (y:Str):(if y="tick" then some (.int x) else gM l s y)=gM l { s with tk:=x } y:=by
 by_cases h:y="tick"
 ·rw [if_pos h,h,gM_t]
 ·unfold gM;rw [if_neg h,if_neg h,if_neg h]
theorem gM_pe {x:Nat} (y:Str):(if y="events" then some (.int (x:Nat)) else gM l s y)=gM l { s with ev:=x } y:=by
 by_cases h:y="events"
 ·rw [if_pos h,h,UN]
 ·unfold gM;rw [if_neg h,if_neg h,if_neg h]
theorem gM_pp {x:Nat} (y:Str):(if y="picks" then some (.int (x:Nat)) else gM l s y)=gM l { s with pk:=x } y:=by
 by_cases h:y="picks"
 ·rw [if_pos h,h,UM]
 ·unfold gM;rw [if_neg h,if_neg h,if_neg h]
theorem gM_pn {x:Bool} (y:Str):(if y="night" then some (.bl x) else gM l s y)=gM l { s with ng:=x } y:=by
 by_cases h:y="night"
 ·rw [if_pos h,h,gM_n]
 ·unfold gM;rw [if_neg h,if_neg h,if_neg h]
end
def Lq (s:Ds):Prop:=s.ls.length<=60/\s.ev<=60/\s.pk<=60/\(∀ l∈s.ls,l∈LN)
def spBgn:Sp:=λvs H Q _=>∃ (m l:Addr) (s:Ds),vs=[.ref m]/\KJ H m l s/\Lq s/\s.ng=false/\∀ r H',CP m H H'->H r=none->KJ H' m l { s with ng:=MQ (DW s.ls) }->H' r=some (.lst [.str (PQ (DW s.ls))])->Q (.ref r) H'
def spDue:Sp:=λvs H Q _=>∃ (m l:Addr) (s:Ds) (z:Str),vs=[.ref m,.str z]/\KJ H m l s/\Lq s/\z∈Ri/\∀ r l' H',CP m H H'->H r=none->(l'=l\/H l'=none/\l'≠r)->KJ H' m l' (DT s z).2->H' r=some (.lst ((DT s z).1.map V.str))->Q (.ref r) H'
theorem UC {c:TT} {t u:L2.TS} {D:FE} {σ:L2.St} {H:Hp} (p:Bool) (hc:∀ S:Bool->Hp->Prop,(∀ G,Af H G->S p G)->c σ H S) (h1:p=true->∀ G,Af H G->t D σ G) (h2:p=false->∀ G,Af H G->u D σ G):tIfM c t u D σ H:=by
 refine ⟨λG=>Af H G/\p=true,λG=>Af H G/\p=false,hc _ λG sG=>?_,λG ⟨e,z⟩=>h1 z G e,λG ⟨e,z⟩=>h2 z G e⟩
 cases p
 ·exact ⟨sG,rfl⟩
 ·exact ⟨sG,rfl⟩
theorem EH {H G:Hp} {a:Addr} {n:Nat} {xs ys:List Str} {R:VK} (sG:Af H G) (ha:G a=some (.lst (xs.map V.str))) (hn:n<=100) (hl:xs.length+ys.length<=100) (k:∀ b G',Af H G'->G' b=some (.lst ((xs++ys).map V.str))->R (.ref b) G'):n<=sizeLine/\∀ p,G p=none->rCat (.ref a) (.ref p) (upd G p (.lst (ys.map V.str))) R:=by
 refine ⟨C0 hn (by kd_p),λp hp=>⟨a,p,_,_,rfl,rfl,(Af.upd hp) _ _ ha,Ab,C0 (show (xs.map V.str).length+(ys.map V.str).length<=100 by rw [J0,J0];exact hl) (by kd_p),λb hb=>k b _ ((sG.trans (Af.upd hp)).trans (Af.upd hb)) ?_⟩⟩
 rw [Ab,A3]
def ChL (z:Str):Prop:=decide ((Dm z).getD 0 ""="|")=JF z/\(decide ((Dm z).getD 0 ""="at")&&Ux (Dm z))=(OC z).isSome/\(decide ((Dm z).getD 0 ""="pick")&&(decide ((Dm z).length=2)&&Ei ((Dm z).getD 1 "") 999999))=(Jc z&&(pkO z).isSome)/\((OC z).isSome=true->Jc z=false/\Cp ((Dm z).getD 1 "")=OC z)
instance (z:Str):Decidable (ChL z):=by unfold ChL;infer_instance
theorem chL_all:Ri.all (λz=>decide (ChL z)&&(Dm z).all λw=>w.cps.toList.all λc=>decide (c<128))=true:=by lk
theorem chL_of {z:Str} (h:z∈Ri):ChL z/\WsL (Dm z):=by
 have:=C2.mp chL_all z h
 rw [W1] at this
 refine ⟨of_decide_eq_true this.1,λw hw=>⟨λc hc=>?_,(Iu h).ws.2 w hw⟩⟩
 exact of_decide_eq_true (C2.mp (C2.mp this.2 w hw) c hc)
theorem NQ {y:Str} {n:Int} (h:Cp y=some n):intText? y=some n/\y.length<=640:=by
 unfold Cp at h
 split at h
 ·rename_i hg
  split at h
  ·cases h
  ·cases h
   refine ⟨Kz hg,?_⟩
   unfold GV at hg
   simp only [W1,decide_eq_true_eq] at hg
   lia
 ·cases h
theorem dgM {G:Hp} {m l:Addr} {s:Ds} {z:Str} {v:V} {σ:L2.St} {R:VK} (M:KJ G m l s) (e:gM l s z=some v) (q:R v G):Jj (Hh 0) (tC (.str z)) (some (.ref m)::σ) G R:=⟨m,v,rfl,M.get e,q⟩
def W4s:List Str:=["clock", "tick", "want", "names"]
def KpI (H H':Hp):Prop:=∀ (c C:Addr) (k:Nat) (g:Str->Option V),Oj C k H c g->(∃ z,z∈W4s/\(g z).isSome=true)->Oj C k H' c g
theorem Oj.fn {C D:Addr} {n m:Nat} {H:Hp} {p:Addr} {g f:Str->Option V} (F:Oj C n H p g) (G:Oj D m H p f):g=f:=by
 obtain ⟨dx,fs,e,_,r⟩:=F.ex
 obtain ⟨dy,gs,e2,_,r2⟩:=G.ex
 rw [e] at e2
 cases e2
 funext z
 rw [<- r,<- r2]
section
variable {T:Tx P w K mg} {H H':Hp} {n u:Addr}
theorem Na.keep (h:Na T H n u) (ki:KpI H H'):Na T H' n u:=by
 obtain ⟨k,g,a,b,q,F,g1,r⟩:=h
 exact ⟨k,g,a,b,q,ki _ _ _ _ F ⟨"names",by lk,by rw [g1];rfl⟩,g1,r⟩
theorem Dg.keep (N:Dg T H n) (ki:KpI H H') (kl:∀ u xs,H u=some (.lst xs)->¬ Na T H n u->H' u=some (.lst xs)):Dg T H' n:=by
 obtain ⟨k,g,c,a,b,m,q,v,h1,h2,h3,h4,h5,h6,h7,h8,h9,⟨n2,g2,i1,i2,i3⟩,h11,h12⟩:=N.ex
 have no:∀ x,x=a\/x=b\/x=q->¬ Na T H n x:=by
  rintro x hx ⟨k',g',a',b',q',F,f1,f2,f3,n1,n2,n3⟩
  have e:=F.fn h1
  subst e
  rw [h6] at f1;rw [h8] at f2;rw [h11] at f3
  cases f1;cases f2;cases f3
  rcases hx with rfl | rfl | rfl
  ·exact n1 rfl
  ·exact n2 rfl
  ·exact n3 rfl
 exact ⟨k,g,c,a,b,m,q,v,ki _ _ _ _ h1 ⟨"names",by lk,by rw [h6];rfl⟩,h2,h3,h4,ki _ _ _ _ h5 ⟨"tick",by lk,rfl⟩,h6,kl _ _ h7 (no a (.inl rfl)),h8,kl _ _ h9 (no b (.inr (.inl rfl))),⟨n2,g2,ki _ _ _ _ i1 ⟨"want",by lk,by rw [i2];rfl⟩,i2,i3⟩,h11,kl _ _ h12 (no q (.inr (.inr rfl)))⟩
end
set_option genInjectivity false in
structure Sd where
 p:Addr
 m:Addr
 l:Addr
 d:Dk
 s:Ds
 t:Ds
def MV (d:Dk) (u:Addr):Prop:=u=d.a\/u=d.b\/u=d.c
def KP (x:Sd) (u:Addr):Prop:=u=x.p\/u=x.m\/u=x.l\/MV x.d u
def Bd (n:Nat) (s:Ds):Prop:=s.ls.length<=n/\s.ev<=n/\s.pk<=n
structure Lw (T:Tx P w K mg) (Z H:Hp) (S:Bool->Sd) (n:Nat):Prop where
 dk:∀ b,BH T H (S b).p (S b).d (S b).s
 md:∀ b,KJ H (S b).m (S b).l (S b).t
 sz:Af Z H
 fr:∀ b u,KP (S b) u->Z u=none
 dj:∀ u,KP (S true) u->¬ KP (S false) u
 nl:∀ b,¬ MV (S b).d (S b).l
 no:∀ b n,(S b).d.ng=.ref n->∀ u,(∃ c,KP (S c) u)\/(∃ o,Z u=some o)->Na T H n u
 le:∀ b,Bd n (S b).s/\Bd n (S b).t
 ln:∀ b,∀ l∈(S b).t.ls,l∈LN
section
variable {T:Tx P w K mg} {Z H H':Hp} {S:Bool->Sd} {n:Nat}
theorem BH.mv {p:Addr} {d:Dk} {s:Ds} (D:BH T H p d s) (kp:∀ C x y,H p=some (.ins C x y)->H' p=some (.ins C x y)) (kl:∀ u xs,MV d u->H u=some (.lst xs)->H' u=some (.lst xs)) (kt:∀ q xs,H q=some (.tup xs)->H' q=some (.tup xs)) (kn:∀ n,d.ng=.ref n->Dg T H n->Dg T H' n):BH T H' p d s:=by
 obtain ⟨k,F,h7⟩:=D.ob
 obtain ⟨vs,e1,e2,e3,e4⟩:=D.ev
 obtain ⟨ns,f1,f2⟩:=D.pk
 refine ⟨⟨k,F.mv λdx fs h=>kp _ _ _ h,h7⟩,kl _ _ (.inl rfl) D.ls,⟨vs,kl _ _ (.inr (.inl rfl)) e1,e2,e3,λv hv=>(e4 v hv).mv kt⟩,⟨ns,kl _ _ (.inr (.inr rfl)) f1,f2⟩,D.n1,D.n2,D.n3,D.t0,D.no,λz=>?_,D.le,D.ln⟩
 obtain ⟨n,e,a,b,c,x⟩:=D.ye z
 exact ⟨n,e,a,kn n a b,c.ts kt,x⟩
theorem Lw.ex (I:Lw T Z H S n) {b:Bool} {u:Addr} (h:KP (S b) u):∃ o,H u=some o:=by
 have D:=I.dk b
 obtain ⟨kvs,m1,_,_,m2⟩:=I.md b
 rcases h with rfl | rfl | rfl | rfl | rfl | rfl
 ·obtain ⟨k,F,_⟩:=D.ob
  obtain ⟨x,y,e⟩:=F.at
  exact ⟨_,e⟩
 ·exact ⟨_,m1⟩
 ·exact ⟨_,m2⟩
 ·exact ⟨_,D.ls⟩
 ·obtain ⟨vs,e,_⟩:=D.ev
  exact ⟨_,e⟩
 ·obtain ⟨vs,e,_⟩:=D.pk
  exact ⟨_,e⟩
theorem Lw.nt (I:Lw T Z H S n) {b:Bool} {x:Addr} (h:(S b).d.ng=.ref x):Dg T H x:=by
 have D:=I.dk b
 cases e:(S b).s.ng with
 |false =>
  have:=D.no e
  rw [h] at this
  cases this
 |true =>
  obtain ⟨y,_,a,N,_⟩:=D.ye e
  rw [h] at a
  cases a
  exact N
theorem Lw.li (I:Lw T Z H S n) {b:Bool} {u:Addr} (h:MV (S b).d u):∃ xs,H u=some (.lst xs):=by
 have D:=I.dk b
 rcases h with rfl | rfl | rfl
 ·exact ⟨_,D.ls⟩
 ·obtain ⟨vs,e,_⟩:=D.ev
  exact ⟨_,e⟩
 ·obtain ⟨vs,e,_⟩:=D.pk
  exact ⟨_,e⟩
theorem Uz (h:∀ c C x y,H c=some (.ins C x y)->H' c=some (.ins C x y)):KpI H H':=λc C k g F _=>F.mv λdx fs e=>h _ _ _ _ e
theorem Lw.new (I:Lw T Z H S n) {r:Addr} {o:HO} (h:H r=none):Lw T (upd Z r o) (upd H r o) S n:=by
 have s:=Af.upd (o:=o) h
 refine ⟨λb=>(I.dk b).same s,λb=>(I.md b).same s,λc x e=>?_,λb u hu=>?_,I.dj,I.nl,λb x hx u hu=>?_,I.le,I.ln⟩
 ·by_cases q:c=r
  ·rw [q,Ab] at e |-;exact e
  ·rw [Ah q] at e |-;exact I.sz _ _ e
 ·obtain ⟨y,hy⟩:=I.ex hu
  have:u≠r:=λz=>by rw [z,h] at hy;cases hy
  rw [Ah this]
  exact I.fr b u hu
 ·by_cases q:u=r
  ·rw [q]
   exact ((I.nt hx).fresh h).same s
  ·refine (I.no b x hx u ?_).same s
   rw [Ah q] at hu
   exact hu
theorem Lw.mut (I:Lw T Z H S n) {r:Addr} {xs ys:List V} (h:Z r=some (.lst xs)):Lw T (upd Z r (.lst ys)) (upd H r (.lst ys)) S n:=by
 have hH:=I.sz _ _ h
 have nr:∀ {b u},KP (S b) u->u≠r:=λ{b u} hu z=>by rw [z] at hu;rw [I.fr b r hu] at h;cases h
 have kp:∀ {c:Addr} {o:HO},H c=some o->(∀ zs,o≠.lst zs)->(upd H r (.lst ys)) c=some o:=λ{c o} e ne=>by
  rw [Ah (λz=>by rw [z,hH] at e;cases e;exact ne _ rfl)]
  exact e
 have ki:KpI H (upd H r (.lst ys)):=Uz λc C x y e=>kp e (λ_ z=>nomatch z)
 refine ⟨λb=>(I.dk b).mv (λC x y e=>kp e (λ_ z=>nomatch z)) (λu zs hu e=>by rw [Ah (nr (.inr (.inr (.inr hu))))];exact e) (λq zs e=>kp e (λ_ z=>nomatch z)) (λx hx N=>N.keep ki λu zs e no=>?_),λb=>?_,λc o e=>?_,λb u hu=>by rw [Ah (nr hu)];exact I.fr b u hu,I.dj,I.nl,λb x hx u hu=>?_,I.le,I.ln⟩
 ·rw [Ah (λz=>no (I.no b x hx u (.inr ⟨_,by rw [z];exact h⟩)))]
  exact e
 ·obtain ⟨kvs,m1,m2,m3,m4⟩:=I.md b
  exact ⟨kvs,kp m1 (λ_ z=>nomatch z),m2,m3,by rw [Ah (nr (.inr (.inr (.inl rfl))))];exact m4⟩
 ·by_cases q:c=r
  ·rw [q,Ab] at e |-;exact e
  ·rw [Ah q] at e |-;exact I.sz _ _ e
 ·refine (I.no b x hx u ?_).keep ki
  rcases hu with hu | ⟨o,hu⟩
  ·exact .inl hu
  ·refine .inr ?_
   by_cases q:u=r
   ·exact ⟨_,by rw [q];exact h⟩
   ·rw [Ah q] at hu
    exact ⟨_,hu⟩
def Dh (S:Bool->Sd) (b:Bool) (x:Sd):Bool->Sd:=λc=>if c=b then x else S c
def wz (z:Str):Nat:=if JF z=true\/(OC z).isSome=true\/Jc z=true then 1 else 0
theorem Uh {s:Ds} {z:Str} (h:Bd n s):Bd (n+wz z) (DT s z).2:=by
 obtain ⟨a,b,c⟩:=h
 have k:Bd (n+wz z) s:=⟨by lia,by lia,by lia⟩
 unfold DT
 split
 ·exact k
 split
 ·rename_i e
  have:wz z=1:=if_pos (.inl e)
  exact ⟨by show (s.ls++[_]).length<=_;rw [K0,this];exact N3 a,k.2⟩
 split
 ·exact k
 split
 ·rename_i e
  have:wz z=1:=if_pos (.inr (.inr e))
  split
  ·exact ⟨k.1,k.2.1,by rw [this];exact N3 c⟩
  ·exact k
 split
 ·rename_i e
  have:wz z=1:=if_pos (.inr (.inl (by rw [e];rfl)))
  split
  ·exact k
  ·exact ⟨k.1,by rw [this];exact N3 b,k.2.2⟩
 ·exact k
theorem nxt_ln {s:Ds} {z:Str} (hz:z∈Ri) (h:∀ l∈s.ls,l∈LN):∀ l∈(DT s z).2.ls,l∈LN:=by
 unfold DT
 split
 ·exact h
 split
 ·rename_i e
  intro l hl
  rcases Q3.mp hl with hl | hl
  ·exact h l hl
  ·rw [C1.mp hl];exact (Iu hz).ln e
 split
 ·exact h
 split
 ·split
  ·exact h
  ·exact h
 split
 ·split
  ·exact h
  ·exact h
 ·exact h
theorem Lw.say (I:Lw T Z H S n) {b:Bool} {z:Str} {r:Addr} {d':Dk} {k:Nat} (hk:Bd k (DT (S b).s z).2) (hn:n<=k) (fd:Fd (S b).p (S b).d H H') (hr:H r=none) (D':BH T H' (S b).p d' (DT (S b).s z).2) (ng:NgO T H H' (S b).d d' r) (e:H' r=some (.lst ((DT (S b).s z).1.map V.str))):Lw T (upd Z r (.lst ((DT (S b).s z).1.map V.str))) H' (Dh S b { S b with d:=d',s:=(DT (S b).s z).2 }) k:=by
 obtain ⟨g1,g2,g3,ng⟩:=ng
 have eL:∀ u,MV d' u↔MV (S b).d u:=λu=>by unfold MV;rw [g1,g2,g3]
 have eO:∀ c u,KP (Dh S b { S b with d:=d',s:=(DT (S b).s z).2 } c) u↔KP (S c) u:=λc u=>by
  unfold Dh
  by_cases q:c=b
  ·rw [if_pos q,q];unfold KP;rw [eL]
  ·rw [if_neg q]
 obtain ⟨k0,F0,_⟩:=(I.dk b).ob
 obtain ⟨x0,y0,hp0⟩:=F0.at
 have li:∀ {u:Addr},MV (S b).d u->∃ xs,H u=some (.lst xs):=λh=>I.li h
 have kpn:∀ {c:Addr} {o:HO},H c=some o->c≠(S b).p->¬ MV (S b).d c->H' c=some o:=λ{c o} h n1 n2=>fd c o n1 (λq=>n2 (.inl q)) (λq=>n2 (.inr (.inl q))) (λq=>n2 (.inr (.inr q))) h
 have nls:∀ {c:Addr} {o:HO},H c=some o->(∀ xs,o≠.lst xs)->¬ MV (S b).d c:=λ{c o} h ne q=>by
  obtain ⟨xs,hx⟩:=li q
  rw [h] at hx
  cases hx
  exact ne _ rfl
 have nin:∀ {c:Addr} {o:HO},H c=some o->(∀ C x y,o≠.ins C x y)->c≠(S b).p:=λ{c o} h ne q=>by
  rw [q,hp0] at h
  cases h
  exact ne _ _ _ rfl
 have ki:KpI H H':=λc C k g F ⟨z,hz,hg⟩=>by
  refine F.mv λdx fs h=>kpn h ?_ (nls h (λ_ z=>nomatch z))
  refine F.ne F0 z ?_
  rw [hg]
  have:Pu (S b).d z=none:=by
   have:z="clock"\/z="tick"\/z="want"\/z="names":=by simpa [W4s] using hz
   rcases this with rfl | rfl | rfl | rfl<;>rfl
  rw [this]
  exact λz=>nomatch z
 have kl:∀ {x:Addr} {c:Bool},(S c).d.ng=.ref x->∀ u xs,H u=some (.lst xs)->¬ Na T H x u->H' u=some (.lst xs):=λ{x c} hx u xs h no=>kpn h (nin h (λ_ _ _ z=>nomatch z)) λq=>no (I.no c x hx u (.inl ⟨b,.inr (.inr (.inr q))⟩))
 have oth:∀ {c:Bool} {u:Addr},c≠b->KP (S c) u->¬ KP (S b) u:=λ{c u} h h1 h2=>by
  cases c<;>cases b
  ·exact h rfl
  ·exact I.dj u h2 h1
  ·exact I.dj u h1 h2
  ·exact h rfl
 have nr:∀ {c:Bool} {u:Addr},KP (S c) u->u≠r:=λ{c u} hu q=>by
  obtain ⟨o,ho⟩:=I.ex hu
  rw [q,hr] at ho
  cases ho
 refine ⟨λc=>?_,λc=>?_,λc o h=>?_,λc u hu=>?_,λu h1 h2=>I.dj u ((eO _ _).mp h1) ((eO _ _).mp h2),λc=>?_,λc x hx u hu=>?_,λc=>?_,λc=>?_⟩
 ·unfold Dh
  by_cases q:c=b
  ·rw [if_pos q];exact D'
  ·rw [if_neg q]
   refine (I.dk c).mv (λC x y h=>kpn h (λw=>oth q (.inl rfl) (.inl w)) (nls h (λ_ z=>nomatch z))) (λu xs hu h=>kpn h (nin h (λ_ _ _ z=>nomatch z)) (λw=>oth q (.inr (.inr (.inr hu))) (.inr (.inr (.inr w))))) (λt xs h=>kpn h (nin h (λ_ _ _ z=>nomatch z)) (nls h (λ_ z=>nomatch z))) (λx hx N=>N.keep ki (kl hx))
 ·have key:KJ H' (S c).m (S c).l (S c).t:=by
   obtain ⟨kvs,m1,m2,m3,m4⟩:=I.md c
   refine ⟨kvs,kpn m1 (nin m1 (λ_ _ _ z=>nomatch z)) (nls m1 (λ_ z=>nomatch z)),m2,m3,kpn m4 (nin m4 (λ_ _ _ z=>nomatch z)) λw=>?_⟩
   by_cases q:c=b
   ·subst q;exact I.nl c w
   ·exact oth q (.inr (.inr (.inl rfl))) (.inr (.inr (.inr w)))
  unfold Dh
  by_cases q:c=b
  ·rw [if_pos q];rw [q] at key;exact key
  ·rw [if_neg q];exact key
 ·by_cases q:c=r
  ·rw [q,Ab] at h;rw [q,e];exact h
  ·rw [Ah q] at h
   have no:¬ KP (S b) c:=λw=>by rw [I.fr b c w] at h;cases h
   exact kpn (I.sz _ _ h) (λw=>no (.inl w)) (λw=>no (.inr (.inr (.inr w))))
 ·have hu:=(eO _ _).mp hu
  rw [Ah (nr hu)]
  exact I.fr c u hu
 ·unfold Dh
  by_cases q:c=b
  ·rw [if_pos q];exact λw=>I.nl b ((eL _).mp w)
  ·rw [if_neg q];exact I.nl c
 ·have ex:u=r\/((∃ c,KP (S c) u)\/∃ o,Z u=some o):=by
   rcases hu with ⟨c,hu⟩ | ⟨o,hu⟩
   ·exact .inr (.inl ⟨c,(eO _ _).mp hu⟩)
   ·by_cases q:u=r
    ·exact .inl q
    ·rw [Ah q] at hu;exact .inr (.inr ⟨o,hu⟩)
  have old:∀ {c:Bool} {x:Addr},(S c).d.ng=.ref x->Na T H' x u:=λ{c x} hx=>by
   rcases ex with rfl | ex
   ·exact ((I.nt hx).fresh hr).keep ki
   ·exact (I.no c x hx u ex).keep ki
  unfold Dh at hx
  by_cases q:c=b
  ·rw [if_pos q] at hx
   have hx:d'.ng=.ref x:=hx
   rcases ng with ng | ⟨m,em,nw,no⟩
   ·rw [ng] at hx;exact old hx
   ·rw [em] at hx
    cases hx
    rcases ex with rfl | ⟨c,ex⟩ | ⟨o,ex⟩
    ·exact no
    ·obtain ⟨o,ho⟩:=I.ex ex
     exact nw u o ho
    ·exact nw u o (I.sz _ _ ex)
  ·rw [if_neg q] at hx
   exact old hx
 ·unfold Dh
  have up:∀ {s:Ds},Bd n s->Bd k s:=λh=>⟨C0 h.1 hn,C0 h.2.1 hn,C0 h.2.2 hn⟩
  by_cases q:c=b
  ·rw [if_pos q];exact ⟨hk,up (I.le b).2⟩
  ·rw [if_neg q];exact ⟨up (I.le c).1,up (I.le c).2⟩
 ·unfold Dh
  by_cases q:c=b
  ·rw [if_pos q];exact I.ln b
  ·rw [if_neg q];exact I.ln c
theorem Lw.due (I:Lw T Z H S n) {b:Bool} {z:Str} {r l':Addr} {k:Nat} (hk:Bd k (DT (S b).t z).2) (hn:n<=k) (hz:z∈Ri) (bt:CP (S b).m H H') (hr:H r=none) (hl:l'=(S b).l\/H l'=none/\l'≠r) (M':KJ H' (S b).m l' (DT (S b).t z).2) (e:H' r=some (.lst ((DT (S b).t z).1.map V.str))):Lw T (upd Z r (.lst ((DT (S b).t z).1.map V.str))) H' (Dh S b { S b with l:=l',t:=(DT (S b).t z).2 }) k:=by
 obtain ⟨kv,hm,_⟩:=id (I.md b)
 have kpn:∀ {c:Addr} {o:HO},H c=some o->(∀ kvs,o≠.dK kvs)->H' c=some o:=λ{c o} h ne=>bt _ _ (λq=>by rw [q,hm] at h;cases h;exact ne _ rfl) h
 have ki:KpI H H':=Uz λc C x y h=>kpn h (λ_ z=>nomatch z)
 have nr:∀ {c:Bool} {u:Addr},KP (S c) u->u≠r:=λ{c u} hu q=>by
  obtain ⟨o,ho⟩:=I.ex hu
  rw [q,hr] at ho
  cases ho
 have oth:∀ {c:Bool} {u:Addr},c≠b->KP (S c) u->¬ KP (S b) u:=λ{c u} h h1 h2=>by
  cases c<;>cases b
  ·exact h rfl
  ·exact I.dj u h2 h1
  ·exact I.dj u h1 h2
  ·exact h rfl
 have eO:∀ c u,KP (Dh S b { S b with l:=l',t:=(DT (S b).t z).2 } c) u->(c=b/\u=l'/\H l'=none/\l'≠r)\/KP (S c) u:=λc u h=>by
  unfold Dh at h
  by_cases q:c=b
  ·rw [if_pos q] at h
   rw [q]
   rcases h with h | h | h | h
   ·exact .inr (.inl h)
   ·exact .inr (.inr (.inl h))
   ·have h:u=l':=h
    rcases hl with hl | hl
    ·exact .inr (.inr (.inr (.inl (h.trans hl))))
    ·exact .inl ⟨rfl,h,hl⟩
   ·exact .inr (.inr (.inr (.inr h)))
  ·rw [if_neg q] at h
   exact .inr h
 have lf:∀ {c:Bool} {u:Addr},H l'=none->KP (S c) u->u≠l':=λ{c u} hf hu q=>by
  obtain ⟨o,ho⟩:=I.ex hu
  rw [q,hf] at ho
  cases ho
 refine ⟨λc=>?_,λc=>?_,λc o h=>?_,λc u hu=>?_,λu h1 h2=>?_,λc=>?_,λc x hx u hu=>?_,λc=>?_,λc=>?_⟩
 ·have key:BH T H' (S c).p (S c).d (S c).s:=(I.dk c).mv (λC x y h=>kpn h (λ_ z=>nomatch z)) (λu xs hu h=>kpn h (λ_ z=>nomatch z)) (λt xs h=>kpn h (λ_ z=>nomatch z)) (λx hx N=>N.keep ki λu xs h _=>kpn h (λ_ z=>nomatch z))
  unfold Dh
  by_cases q:c=b
  ·rw [if_pos q];rw [q] at key;exact key
  ·rw [if_neg q];exact key
 ·unfold Dh
  by_cases q:c=b
  ·rw [if_pos q];exact M'
  ·rw [if_neg q]
   obtain ⟨kvs,m1,m2,m3,m4⟩:=I.md c
   exact ⟨kvs,bt _ _ (λw=>oth q (.inr (.inl rfl)) (.inr (.inl w))) m1,m2,m3,kpn m4 (λ_ z=>nomatch z)⟩
 ·by_cases q:c=r
  ·rw [q,Ab] at h;rw [q,e];exact h
  ·rw [Ah q] at h
   exact bt _ _ (λw=>by rw [I.fr b c (.inr (.inl w))] at h;cases h) (I.sz _ _ h)
 ·rcases eO c u hu with ⟨_,rfl,h1,h2⟩ | h
  ·rw [Ah h2]
   exact AN I.sz h1
  ·rw [Ah (nr h)]
   exact I.fr c u h
 ·rcases eO _ _ h1 with ⟨q,e1,f1,f2⟩ | g1
  ·rcases eO _ _ h2 with ⟨q',_⟩ | g2
   ·rw [<- q] at q';cases q'
   ·exact lf f1 g2 e1
  ·rcases eO _ _ h2 with ⟨q,e1,f1,f2⟩ | g2
   ·exact lf f1 g1 e1
   ·exact I.dj u g1 g2
 ·unfold Dh
  by_cases q:c=b
  ·rw [if_pos q]
   intro w
   rcases hl with hl | hl
   ·have w:MV (S b).d l':=w
    rw [hl] at w
    exact I.nl b w
   ·exact lf hl.1 (.inr (.inr (.inr w))) rfl
  ·rw [if_neg q];exact I.nl c
 ·have hx2:(S c).d.ng=.ref x:=by
   unfold Dh at hx
   by_cases q:c=b
   ·rw [if_pos q] at hx;rw [q];exact hx
   ·rw [if_neg q] at hx;exact hx
  clear hx
  have hx:=hx2
  rcases hu with ⟨c',hu⟩ | ⟨o,hu⟩
  ·rcases eO _ _ hu with ⟨_,e1,h1,_⟩ | h
   ·rw [e1]
    exact ((I.nt hx).fresh h1).keep ki
   ·exact (I.no c x hx u (.inl ⟨c',h⟩)).keep ki
  ·by_cases q:u=r
   ·rw [q];exact ((I.nt hx).fresh hr).keep ki
   ·rw [Ah q] at hu
    exact (I.no c x hx u (.inr ⟨o,hu⟩)).keep ki
 ·have up:∀ {s:Ds},Bd n s->Bd k s:=λh=>⟨C0 h.1 hn,C0 h.2.1 hn,C0 h.2.2 hn⟩
  unfold Dh
  by_cases q:c=b
  ·rw [if_pos q];exact ⟨up (I.le b).1,hk⟩
  ·rw [if_neg q];exact ⟨up (I.le c).1,up (I.le c).2⟩
 ·unfold Dh
  by_cases q:c=b
  ·rw [if_pos q];exact nxt_ln hz (I.ln b)
  ·rw [if_neg q];exact I.ln c
theorem Lw.up (I:Lw T Z H S n) {k:Nat} (h:n<=k):Lw T Z H S k:=⟨I.dk,I.md,I.sz,I.fr,I.dj,I.nl,I.no,λb=>⟨⟨C0 (I.le b).1.1 h,C0 (I.le b).1.2.1 h,C0 (I.le b).1.2.2 h⟩,⟨C0 (I.le b).2.1 h,C0 (I.le b).2.2.1 h,C0 (I.le b).2.2.2 h⟩⟩,I.ln⟩
end
def Nc:Ds:=⟨[],0,0,0,false⟩
section
variable {T:Tx P w K mg}
theorem Lw.start {H H1 H2 H3 G:Hp} {dl p0 p1 m0 l0 m1 l1:Addr} {d0 d1:Dk} (D0:BH T G p0 d0 Nc) (D1:BH T G p1 d1 Nc) (M0:KJ G m0 l0 Nc) (M1:KJ G m1 l1 Nc) (s1:Af H H1) (s2:Af H1 H2) (s3:Af H2 H3) (s4:Af H3 G) (f0:∀ u,u=p0\/MV d0 u->H u=none/\∃ o,H1 u=some o) (f1:∀ u,u=p1\/MV d1 u->H1 u=none/\∃ o,H2 u=some o) (fd:H2 dl=none) (hd:H3 dl=some (.lst [.ref p0,.ref p1])) (fm:∀ u,u=m0\/u=l0\/u=m1\/u=l1->H3 u=none) (n1:m0≠m1) (n2:m0≠l1) (n3:l0≠m1) (n4:l0≠l1) :
  Lw T (upd H dl (.lst [.ref p0,.ref p1])) G (λb=>if b=true then ⟨p1,m1,l1,d1,Nc,Nc⟩ else ⟨p0,m0,l0,d0,Nc,Nc⟩) 0:=by
 have o0:∀ {u},KP ⟨p0,m0,l0,d0,Nc,Nc⟩ u->(u=p0\/MV d0 u)\/(u=m0\/u=l0):=λ{u} h=>by
  rcases h with h | h | h | h
  ·exact .inl (.inl h)
  ·exact .inr (.inl h)
  ·exact .inr (.inr h)
  ·exact .inl (.inr h)
 have o1:∀ {u},KP ⟨p1,m1,l1,d1,Nc,Nc⟩ u->(u=p1\/MV d1 u)\/(u=m1\/u=l1):=λ{u} h=>by
  rcases h with h | h | h | h
  ·exact .inl (.inl h)
  ·exact .inr (.inl h)
  ·exact .inr (.inr h)
  ·exact .inl (.inr h)
 have a0:∀ {u},u=p0\/MV d0 u->∃ o,H2 u=some o:=λh=>by obtain ⟨_,o,ho⟩:=f0 _ h;exact ⟨o,s2 _ _ ho⟩
 have nd:∀ {u},(∃ o,H2 u=some o)->u≠dl:=λ⟨o,h⟩ z=>by rw [z,fd] at h;cases h
 have nc:∀ {u},(∃ o,H2 u=some o)->H3 u≠none:=λ⟨o,h⟩ z=>by rw [s3 _ _ h] at z;cases z
 have nm:∀ {u},u=m0\/u=l0\/u=m1\/u=l1->u≠dl:=λh z=>by have:=fm _ h;rw [z,hd] at this;cases this
 have s03:=(s1.trans s2).trans s3
 have fz:∀ {u},H u=none->u≠dl->(upd H dl (.lst [.ref p0,.ref p1])) u=none:=λh n=>by rw [Ah n];exact h
 refine ⟨λb=>?_,λb=>?_,λc o h=>?_,λb u h=>?_,λu h1 h0=>?_,λb h=>?_,λb x hx=>?_,λb=>?_,λb=>?_⟩
 ·cases b
  ·exact D0
  ·exact D1
 ·cases b
  ·exact M0
  ·exact M1
 ·by_cases q:c=dl
  ·rw [q,Ab] at h;rw [q,s4 _ _ hd];exact h
  ·rw [Ah q] at h;exact s4 _ _ (s03 _ _ h)
 ·cases b
  ·rcases o0 h with h | h
   ·exact fz (f0 u h).1 (nd (a0 h))
   ·have h:u=m0\/u=l0\/u=m1\/u=l1:=by rcases h with h | h;exact .inl h;exact .inr (.inl h)
    exact fz (AN s03 (fm u h)) (nm h)
  ·rcases o1 h with h | h
   ·exact fz (AN s1 (f1 u h).1) (nd (f1 u h).2)
   ·have h:u=m0\/u=l0\/u=m1\/u=l1:=by rcases h with h | h;exact .inr (.inr (.inl h));exact .inr (.inr (.inr h))
    exact fz (AN s03 (fm u h)) (nm h)
 ·rcases o1 h1 with h1 | h1
  ·rcases o0 h0 with h0 | h0
   ·obtain ⟨_,o,ho⟩:=f0 u h0
    rw [(f1 u h1).1] at ho;cases ho
   ·exact nc (f1 u h1).2 (fm u (by rcases h0 with h | h;exact .inl h;exact .inr (.inl h)))
  ·rcases o0 h0 with h0 | h0
   ·exact nc (a0 h0) (fm u (by rcases h1 with h | h;exact .inr (.inr (.inl h));exact .inr (.inr (.inr h))))
   ·rcases h1 with e1 | e1
    ·rcases h0 with e0 | e0
     ·exact n1 (e0.symm.trans e1)
     ·exact n3 (e0.symm.trans e1)
    ·rcases h0 with e0 | e0
     ·exact n2 (e0.symm.trans e1)
     ·exact n4 (e0.symm.trans e1)
 ·cases b
  ·exact nc (a0 (.inr h)) (fm _ (.inr (.inl rfl)))
  ·exact nc (f1 _ (.inr h)).2 (fm _ (.inr (.inr (.inr rfl))))
 ·cases b
  ·have:=D0.no rfl
   have hx:d0.ng=.ref x:=hx
   rw [hx] at this;cases this
  ·have:=D1.no rfl
   have hx:d1.ng=.ref x:=hx
   rw [hx] at this;cases this
 ·cases b
  ·exact ⟨⟨N1 _,N1 _,N1 _⟩,⟨N1 _,N1 _,N1 _⟩⟩
  ·exact ⟨⟨N1 _,N1 _,N1 _⟩,⟨N1 _,N1 _,N1 _⟩⟩
 ·cases b
  ·exact λl hl=>nomatch hl
  ·exact λl hl=>nomatch hl
structure Bo (T:Tx P w K mg) (H:Hp) (dl ml h:Addr) (Z G:Hp) (S:Bool->Sd) (n N:Nat) (R:Addr->Prop):Prop where
 lw:Lw T Z G S n
 eq:∀ b,(S b).s=(S b).t
 hz:Af H Z
 dlz:Z dl=some (.lst [.ref (S false).p,.ref (S true).p])
 mlz:Z ml=some (.lst [.ref (S false).m,.ref (S true).m])
 hd:∃ ps,Z h=some (.lst ps)/\ps.length<=N/\∀ v∈ps,∃ (q x y:Addr) (ws:List Str),v=.ref q/\Z q=some (.tup [.ref x,.ref y])/\Z x=some (.lst (ws.map V.str))/\Z y=some (.lst (ws.map V.str))/\x≠h/\y≠h/\¬ R x/\¬ R y
 h0:H h=none
 nh:dl≠h/\ml≠h
variable {H Z G:Hp} {dl ml h:Addr} {S:Bool->Sd} {n N:Nat} {R:Addr->Prop}
theorem Lw.same {H':Hp} (I:Lw T Z G S n) (s:Af G H'):Lw T Z H' S n:=⟨λb=>(I.dk b).same s,λb=>(I.md b).same s,I.sz.trans s,I.fr,I.dj,I.nl,λb x hx u hu=>(I.no b x hx u hu).same s,I.le,I.ln⟩
theorem Bo.same {H':Hp} (B:Bo T H dl ml h Z G S n N R) (s:Af G H'):Bo T H dl ml h Z H' S n N R:=⟨B.lw.same s,B.eq,B.hz,B.dlz,B.mlz,B.hd,B.h0,B.nh⟩
theorem QO {q:Addr} {f:Bool->Addr} {b:Bool} {Q:VK} (e:G q=some (.lst [.ref (f false),.ref (f true)])) (k:Q (.ref (f b)) G):NB K (.ref q) (.int ((b.toNat:Nat):Int)) G Q:=⟨q,_,((b.toNat:Nat):Int),.ref (f b),rfl,rfl,AD.of e,Au (by cases b<;>rfl),k⟩
theorem Bo.up (B:Bo T H dl ml h Z G S n N R) {k:Nat} (hk:n<=k):Bo T H dl ml h Z G S k N R:=by
 obtain ⟨ps,a,b,c⟩:=B.hd
 exact ⟨B.lw.up hk,B.eq,B.hz,B.dlz,B.mlz,⟨ps,a,b,c⟩,B.h0,B.nh⟩
theorem Mi {b c:Bool} {x:Sd} (h:x.p=(S b).p):(Dh S b x c).p=(S c).p:=by
 unfold Dh
 by_cases q:c=b
 ·rw [if_pos q,q];exact h
 ·rw [if_neg q]
theorem Mj {b c:Bool} {x:Sd} (h:x.m=(S b).m):(Dh S b x c).m=(S c).m:=by
 unfold Dh
 by_cases q:c=b
 ·rw [if_pos q,q];exact h
 ·rw [if_neg q]
theorem Bo.step (B:Bo T H dl ml h Z G S n N (λ_=>False)) {b:Bool} {z:Str} (hz:z∈Ri) (hn:n<=58) {Q:VK} (k:∀ (r:Addr) (G1:Hp) (xs:List Str),xs.length<=1->G1 r=some (.lst (xs.map V.str))->G1 ml=some (.lst [.ref (S false).m,.ref (S true).m])->(∀ {R:VK},(∀ r2 G2 Z2 S2,Bo T H dl ml h Z2 G2 S2 (n+wz z) N (λx=>x=r)->Z2 r=some (.lst (xs.map V.str))->Z2 r2=some (.lst (xs.map V.str))->r≠dl->r≠ml->r≠h->H r=none->Af Z Z2->R (.ref r2) G2)->spDue [.ref (S b).m,.str z] G1 R E0)->Q (.ref r) G1):∃ x y,G (S b).p=some (.ins T.af x y)/\W3 ("say":Str) y=none/\spSay T [.ref (S b).p,.str z] G Q E0:=by
 have I:=B.lw
 obtain ⟨kd,F,_⟩:=(I.dk b).ob
 have l1:=(I.le b).1
 have wz1:wz z<=1:=by unfold wz;split;exact P0 _;exact N1 _
 refine F.call rfl ⟨_,_,_,z,rfl,I.dk b,hz,⟨P4 l1.1 (by lia),P4 l1.2.1 (by lia),P4 l1.2.2 (by lia)⟩,λr d' G1 fd hr D' ng e=>?_⟩
 have I1:=I.say (Uh l1) (c6 n (wz z)) fd hr D' ng e
 have nr:∀ {u:Addr} {o:HO},Z u=some o->u≠r:=λ{u o} hu q=>by rw [<- q,I.sz _ _ hu] at hr;cases hr
 have ku:∀ {u:Addr} {o:HO},Z u=some o->(upd Z r (.lst ((DT (S b).s z).1.map V.str))) u=some o:=λ{u o} hu=>by rw [Ah (nr hu)];exact hu
 have len:(DT (S b).s z).1.length<=1:=by
  unfold DT OD NU
  repeat' split
  all_goals (first | exact P0 _ | exact N1 _)
 refine k r G1 _ len e (I1.sz _ _ (ku B.mlz)) λ{R} kk=>?_
 have et:(Dh S b { S b with d:=d',s:=(DT (S b).s z).2 } b).t=(S b).t:=by unfold Dh;rw [if_pos rfl]
 have em:(Dh S b { S b with d:=d',s:=(DT (S b).s z).2 } b).m=(S b).m:=by unfold Dh;rw [if_pos rfl]
 have M1:=I1.md b
 have t1:=(I1.le b).2
 have tl:=I1.ln b
 rw [et] at t1 tl
 have bt:Bd n (S b).t:=(I.le b).2
 refine ⟨(S b).m,_,(S b).t,z,rfl,by rw [et,em] at M1;exact M1,⟨C0 t1.1 (by lia),C0 t1.2.1 (by lia),C0 t1.2.2 (by lia),tl⟩,hz,λr2 l' G2 b2 hr2 hl M2 e2=>?_⟩
 have I2:=I1.due (b:=b) (z:=z) (r:=r2) (l':=l') (k:=n+wz z) (by rw [et];exact Uh bt) (P0 _) hz (by rw [em];exact b2) hr2 hl (by rw [em,et];exact M2) (by rw [et];exact e2)
 rw [et] at I2
 have es:=B.eq b
 rw [<- es] at I2
 have nr2:∀ {u:Addr} {o:HO},(upd Z r (.lst ((DT (S b).s z).1.map V.str))) u=some o->u≠r2:=λ{u o} hu q=>by rw [<- q,I1.sz _ _ hu] at hr2;cases hr2
 have ku2:∀ {u:Addr} {o:HO},Z u=some o->(upd (upd Z r (.lst ((DT (S b).s z).1.map V.str))) r2 (.lst ((DT (S b).s z).1.map V.str))) u=some o:=λ{u o} hu=>by rw [Ah (nr2 (ku hu))];exact ku hu
 obtain ⟨ps,p1,p2,p3⟩:=B.hd
 refine kk r2 G2 _ _ ⟨I2,λc=>?_,λc o hc=>ku2 (B.hz _ _ hc),?_,?_,⟨ps,ku2 p1,p2,λv hv=>?_⟩,B.h0,B.nh⟩ (by rw [Ah (nr2 Ab),Ab]) Ab (nr B.dlz).symm (nr B.mlz).symm (nr p1).symm (AN (B.hz.trans I.sz) hr) (λc o hc=>ku2 hc)
 ·by_cases q:c=b
  ·subst q
   simp only [Dh,if_true]
  ·simp only [Dh,if_neg q]
   exact B.eq c
 ·rw [Mi (by rfl),Mi (by rfl),Mi (by rfl),Mi (by rfl)]
  exact ku2 B.dlz
 ·rw [Mj (by rfl),Mj (by rfl),Mj (by rfl),Mj (by rfl)]
  exact ku2 B.mlz
 ·obtain ⟨q,x,y,ws,e0,e1,e2,e3,e4,e5,_,_⟩:=p3 v hv
  exact ⟨q,x,y,ws,e0,ku2 e1,ku2 e2,ku2 e3,e4,e5,nr e2,nr e3⟩
theorem Bo.wk (B:Bo T H dl ml h Z G S n N R):Bo T H dl ml h Z G S n N (λ_=>False):=by
 obtain ⟨ps,p1,p2,p3⟩:=B.hd
 refine ⟨B.lw,B.eq,B.hz,B.dlz,B.mlz,⟨ps,p1,p2,λv hv=>?_⟩,B.h0,B.nh⟩
 obtain ⟨q,x,y,ws,e0,e1,e2,e3,e4,e5,_,_⟩:=p3 v hv
 exact ⟨q,x,y,ws,e0,e1,e2,e3,e4,e5,id,id⟩
theorem Bo.new (B:Bo T H dl ml h Z G S n N R) {r:Addr} {o:HO} (hr:G r=none):Bo T H dl ml h (upd Z r o) (upd G r o) S n N R/\Af Z (upd Z r o):=by
 have ku:Af Z (upd Z r o):=λu x hu=>by rw [Ah (λq=>by rw [<- q,B.lw.sz _ _ hu] at hr;cases hr)];exact hu
 obtain ⟨ps,p1,p2,p3⟩:=B.hd
 refine ⟨⟨B.lw.new hr,B.eq,B.hz.trans ku,ku _ _ B.dlz,ku _ _ B.mlz,⟨ps,ku _ _ p1,p2,λv hv=>?_⟩,B.h0,B.nh⟩,ku⟩
 obtain ⟨q,x,y,ws,e0,e1,e2,e3,r⟩:=p3 v hv
 exact ⟨q,x,y,ws,e0,ku _ _ e1,ku _ _ e2,ku _ _ e3,r⟩
theorem Bo.fin (B:Bo T H dl ml h Z G S n N R):∃ ps,G h=some (.lst ps)/\∀ v∈ps,PairE G v:=by
 obtain ⟨ps,p1,p2,p3⟩:=B.hd
 refine ⟨ps,B.lw.sz _ _ p1,λv hv=>?_⟩
 obtain ⟨q,x,y,ws,e0,e1,e2,e3,r⟩:=p3 v hv
 exact ⟨q,x,y,ws,e0,B.lw.sz _ _ e1,B.lw.sz _ _ e2,B.lw.sz _ _ e3⟩
theorem Bo.held {r:Addr} {xs:List Str} {ys:List V} (hy:ys=(xs++[("none":Str)]).map V.str) (B:Bo T H dl ml h Z G S n N (λx=>x=r)) (hr:Z r=some (.lst (xs.map V.str))) (n1:r≠dl) (n2:r≠ml) (n3:r≠h) (n0:H r=none) (c:Addr) (hc:(upd G r (.lst ys)) c=none) (q:Addr) (hq:(upd (upd G r (.lst ys)) c (.lst ys)) q=none) :
  ∃ ps,ps.length<=N/\(upd (upd (upd G r (.lst ys)) c (.lst ys)) q (.tup [.ref r,.ref c])) h=some (.lst ps)/\∃ Z',Bo T H dl ml h Z' (upd (upd (upd (upd G r (.lst ys)) c (.lst ys)) q (.tup [.ref r,.ref c])) h (.lst (ps++[.ref q]))) S n (N+1) (λ_=>False):=by
 obtain ⟨ps,p1,p2,p3⟩:=B.hd
 have I1:=B.lw.mut (ys:=ys) hr
 have I2:=I1.new (o:=.lst ys) hc
 have I3:=I2.new (o:=.tup [.ref r,.ref c]) hq
 have kc:∀ {u:Addr} {o:HO},(upd Z r (.lst ys)) u=some o->u≠c:=λ{u o} hu z=>by rw [<- z,I1.sz _ _ hu] at hc;cases hc
 have kq:∀ {u:Addr} {o:HO},(upd (upd Z r (.lst ys)) c (.lst ys)) u=some o->u≠q:=λ{u o} hu z=>by rw [<- z,I2.sz _ _ hu] at hq;cases hq
 have kz:∀ {u:Addr} {o:HO},Z u=some o->u≠r->(upd (upd (upd Z r (.lst ys)) c (.lst ys)) q (.tup [.ref r,.ref c])) u=some o:=λ{u o} hu hn=>by
  have h1:(upd Z r (.lst ys)) u=some o:=by rw [Ah hn];exact hu
  have h2:(upd (upd Z r (.lst ys)) c (.lst ys)) u=some o:=by rw [Ah (kc h1)];exact h1
  rw [Ah (kq h2)];exact h2
 have r1:(upd Z r (.lst ys)) r=some (.lst ys):=Ab
 have r2:(upd (upd Z r (.lst ys)) c (.lst ys)) r=some (.lst ys):=by rw [Ah (kc r1)];exact r1
 have c2:(upd (upd Z r (.lst ys)) c (.lst ys)) c=some (.lst ys):=Ab
 have r3:(upd (upd (upd Z r (.lst ys)) c (.lst ys)) q (.tup [.ref r,.ref c])) r=some (.lst ys):=by rw [Ah (kq r2)];exact r2
 have c3:(upd (upd (upd Z r (.lst ys)) c (.lst ys)) q (.tup [.ref r,.ref c])) c=some (.lst ys):=by rw [Ah (kq c2)];exact c2
 have q3:(upd (upd (upd Z r (.lst ys)) c (.lst ys)) q (.tup [.ref r,.ref c])) q=some (.tup [.ref r,.ref c]):=Ab
 have h3:=kz p1 n3.symm
 have sH1:Af H (upd G r (.lst ys)):=λu o hu=>I1.sz u o (by rw [Ah (λz=>by rw [z,n0] at hu;cases hu)];exact B.hz _ _ hu)
 have hc3:c≠h:=λz=>kc (u:=h) (o:=.lst ps) (by rw [Ah n3.symm];exact p1) z.symm
 generalize upd (upd (upd Z r (.lst ys)) c (.lst ys)) q (.tup [.ref r,.ref c])=Z3 at I3 kz r3 c3 q3 h3
 have I4:=I3.mut (ys:=ps++[.ref q]) h3
 have kh:∀ {u:Addr} {o:HO},Z3 u=some o->u≠h->(upd Z3 h (.lst (ps++[.ref q]))) u=some o:=λ{u o} hu hn=>by rw [Ah hn];exact hu
 refine ⟨ps,p2,I3.sz _ _ h3,_,I4,B.eq,λu o hu=>kh (kz (B.hz _ _ hu) (λz=>by rw [z,n0] at hu;cases hu)) (λz=>by rw [z,B.h0] at hu;cases hu),kh (kz B.dlz n1.symm) B.nh.1,kh (kz B.mlz n2.symm) B.nh.2,⟨_,Ab,by rw [K0];exact N3 p2,λv hv=>?_⟩,B.h0,B.nh⟩
 rcases Q3.mp hv with hv | hv
 ·obtain ⟨t,x,y,ws,e0,e1,e2,e3,e4,e5,e6,e7⟩:=p3 v hv
  exact ⟨t,x,y,ws,e0,kh (kz e1 (λz=>by rw [z,hr] at e1;cases e1)) (λz=>by rw [z,p1] at e1;cases e1),kh (kz e2 e6) e4,kh (kz e3 e7) e5,e4,e5,id,id⟩
 ·rw [C1.mp hv]
  exact ⟨q,r,c,xs++[("none":Str)],rfl,kh q3 (λz=>by rw [z,h3] at q3;cases q3),kh (by rw [r3,hy]) n3,kh (by rw [c3,hy]) hc3,n3,hc3,id,id⟩
end
theorem md_new {G:Hp} {p p1:Addr} (hp:G p=none) (h1:(upd G p (.dK [])) p1=none):Af G (upd (upd (upd G p (.dK [])) p1 (.lst [])) p (.dK (Da [] [(.inr "lines",.ref p1),(.inr "tick",.int 0),(.inr "events",.int 0),(.inr "picks",.int 0),(.inr "night",.bl false)])))/\KJ (upd (upd (upd G p (.dK [])) p1 (.lst [])) p (.dK (Da [] [(.inr "lines",.ref p1),(.inr "tick",.int 0),(.inr "events",.int 0),(.inr "picks",.int 0),(.inr "night",.bl false)]))) p p1 Nc/\G p1=none/\(upd (upd G p (.dK [])) p1 (.lst [])) p=some (.dK []):=by
 have ne:p1≠p:=λz=>by rw [z,Ab] at h1;cases h1
 have g1:G p1=none:=by rw [Ah ne] at h1;exact h1
 have vM:∀ y:Str,valV (Da [] [(.inr "lines",.ref p1),(.inr "tick",.int 0),(.inr "events",.int 0),(.inr "picks",.int 0),(.inr "night",.bl false)]) (.inr y)=gM p1 Nc y:=λy=>by
  unfold Da
  simp only [List.foldl,HF,Sum.inr.injEq]
  rw [SD]
  have n1:∀ {a b:Str},y=a->a≠b->y≠b:=λe n=>e▸n
  by_cases h:y="night"
  ·rw [if_pos h,h,gM_n];rfl
  rw [if_neg h]
  by_cases h:y="picks"
  ·rw [if_pos h,h,UM];rfl
  rw [if_neg h]
  by_cases h:y="events"
  ·rw [if_pos h,h,UN];rfl
  rw [if_neg h]
  by_cases h:y="tick"
  ·rw [if_pos h,h,gM_t];rfl
  rw [if_neg h]
  by_cases h:y="lines"
  ·rw [if_pos h,h,Se]
  rw [if_neg h]
  unfold gM
  simp only [*,if_neg,if_false]
 have len:(Da [] [(.inr "lines",.ref p1),(.inr "tick",.int 0),(.inr "events",.int 0),(.inr "picks",.int 0),(.inr "night",.bl false)]).length<=5:=by
  unfold Da
  simp only [List.foldl]
  refine C0 (BB _ _ _) (N3 (C0 (BB _ _ _) (N3 (C0 (BB _ _ _) (N3 (C0 (BB _ _ _) (N3 (C0 (BB _ _ _) (P0 _)))))))))
 refine ⟨λc o h=>?_,⟨_,Ab,len,vM,by rw [Ah ne,Ab];rfl⟩,g1,by rw [Ah ne.symm,Ab]⟩
 rw [Ah (λz=>by rw [z,hp] at h;cases h),Ah (λz=>by rw [z,g1] at h;cases h),Ah (λz=>by rw [z,hp] at h;cases h)]
 exact h
def PvM (H3:Hp) (i:Nat) (ys:List V) (G:Hp):Prop:=Af H3 G/\(i=0->ys=[])/\(i=1->∃ m l,ys=[.ref m]/\KJ G m l Nc/\H3 m=none/\H3 l=none)/\(i=2->∃ m l m' l',ys=[.ref m,.ref m']/\KJ G m l Nc/\KJ G m' l' Nc/\(∀ u,u=m\/u=l\/u=m'\/u=l'->H3 u=none)/\m≠m'/\m≠l'/\l≠m'/\l≠l')
def OF (j:Nat):Nat:=((LWS.take j).map wz).sum
theorem SA:(C5 14).all (λj=>decide (OF j<=5))=true:=by lk
theorem Qg {j:Nat} (h:j<=13):OF j<=5:=of_decide_eq_true (C2.mp SA j (u7.mpr (by lia)))
theorem wsum_s {j:Nat} {z:Str} (h:LWS[j]?=some z):OF (j+1)=OF j+wz z:=by
 unfold OF
 rw [W6,h,A3,List.sum_append]
 rfl
def LW9:List Str:=["at 9999 off 1", "begin", "at 9998 off 1", "at 9999 off 1", "| errand a", "| end", "begin", "now", "who"]


variable (T:Tx P w K mg)
theorem KU:Sc ["text"] ["text"] (top 14):=BE (by lk)
theorem Hb:CJ P w base T.fU 1 Ry:=by
 exists T.fU.F.ok KU
 ·obtain ⟨z,rfl,hz,k⟩:=h
  have hz2:z.length<=sizeLine:=C0 hz (by kd_p)
  refine (⟨_,(Ad (AA (DF (HP FH FH Ai (Av AI (by rfl) T.bn Bf (Aa (pv 0) Ac)) (AO (v:=.int 8) rfl T.mlm ⟨_,rfl⟩)))
  (Ae (Aj Ec))
  An)
  (Ae (Aj (Av (Oz rfl) (by rfl) T.mn Vk (Aa (ER (N':=["sign"]) (sel:=[none]) rfl rfl rfl (OZ (pv 0)) (BO rfl) (λ_ _ _ _ _=>⟨(Bm (i:=0) (show (["sign"]:List Str).Nodup by lk) rfl (Or.inl rfl)),CU,(Ke Gv Gv Ak (pv 0) Ak)⟩)) Ac))))),?_⟩)
  w_up
  refine ⟨hz2,?_⟩
  have hF:Gg z=false->Q (V.bl false) H:=λe=>by rw [<- e];exact k H (Af.refl H)
  by_cases h1:1<=z.length
  ·by_cases h2:z.length<=8
   ·refine Cw (by lia) (Kv (by lia) ?_)
    refine ⟨z,rfl,?_⟩
    refine Pr (λi ys H'=>H'=H/\ys=(z.cps.toList.take i).map λc=>V.bl (isL c)) ⟨rfl,rfl⟩ ?_ hz2 ?_ ?_
    ·rintro i ys H' hi ⟨rfl,rfl⟩
     rw [J0,Y2]
     lia
    ·rintro i c ys H' hc ⟨rfl,rfl⟩
     w_up
     have e:=Sn c
     have e2:=Lu (f:=λc=>V.bl (isL c)) hc
     split<;>rename_i hb
     ·rw [if_pos hb] at e
      rw [e]
      exact e2
     ·rw [if_neg hb] at e
      rw [e]
      exact e2
    ·rintro ys H' ⟨rfl,rfl⟩ D hD
     refine ⟨D,rfl,z.cps.toList.map isL,?_,?_⟩
     ·refine AD.of ?_
      rw [Ab,y6]
      have:z.cps.toList.take z.length=z.cps.toList:=K3
      rw [this]
      rfl
     ·have e:(z.cps.toList.map isL).all id=Gg z:=by
       unfold Gg
       rw [decide_eq_true h1,decide_eq_true h2,List.all_map]
       rfl
      rw [e]
      exact k _ (Af.upd hD)
   ·refine Cw (by lia) (Ku (by lia) (hF ?_))
    unfold Gg
    rw [decide_eq_false h2,Y6,C3]
  ·refine CD (by lia) (L2.iteT (hF ?_))
   unfold Gg
   rw [decide_eq_false h1,C3,C3]
theorem OS:Sc ["thing"] ["thing"] (top 15):=BE (by lk)
theorem Fu:CJ P w base T.fW 2 Tg:=by
 exists T.fW.F.ok OS
 ·obtain ⟨v,rfl,th,k⟩:=h
  obtain ⟨u,hu1,hS,hB,hI⟩:=th.ty (K:=K)
  refine (⟨_,(Ae (Aj (Co (Av CO (by rfl) T.cO Cb (Aa (pv 0) (Aa (Gu (v:=.ty "str") rfl T.gf CL rfl) Ac))) (Co (AB T.fU (Hb T) hr (Aa (pv 0) Ac)) (Cd (AV Bz (pv 0) (AO (v:=.ref T.kwa) rfl T.kwm rfl) (by with_unfolding_all rfl))))))),?_⟩)
  w_up
  refine ⟨u,hu1,_,hS,?_⟩
  cases th with
  |str z hz =>
   refine L2.iteT ⟨z,rfl,hz,λH' s'=>⟨_,rfl,?_⟩⟩
   by_cases hl:Gg z=true
   ·rw [if_pos hl]
    refine ⟨_,_,rfl,.inr (T.kwt H'),rfl,Jd MX,?_⟩
    have e:(if true=true then !Ik (V.str z) (MX.map V.str) else Ik (V.str z) (MX.map V.str))=Jr (.str z):=by
     rw [if_pos rfl,Ul]
     show _=CB z
     unfold CB
     rw [hl,S3]
    rw [e]
    exact k H' s'
   ·rw [if_neg hl]
    have e:false=Jr (.str z):=by
     show _=CB z
     unfold CB
     rw [show Gg z=false by simpa using hl,C3]
    rw [e]
    exact k H' s'
  |_=>exact L2.iteF (k H (Af.refl H))
theorem Jw:Sc ["text"] ["text"] (top 16):=BE (by lk)
theorem JB:CJ P w base T.fX 2 SY:=by
 exists T.fX.F.ok Jw
 ·obtain ⟨z,rfl,hz,k⟩:=h
  have hz2:z.length<=sizeLine:=C0 hz (by kd_p)
  refine (⟨_,(Ae (Aj (Co (Bk L3 m6 l6 EK (pv 0) (Aa Ak Ac)) (Cd (AB T.fU (Hb T) hr (Aa (Cn OP (pv 0) (CW Ai) CY) Ac)))))),?_⟩)
  w_up
  by_cases hl:Txt.startswith z ":"=true
  ·rw [if_pos hl]
   refine ⟨hz2,_,rfl,C0 (cut_le z _ _) hz,λH' s'=>?_⟩
   have e:Gg (Iq z (some 1) none)=Fz z:=by unfold Fz;rw [hl,S3]
   rw [e]
   exact k H' s'
  ·rw [if_neg hl]
   have e:false=Fz z:=by unfold Fz;rw [show Txt.startswith z ":"=false by simpa using hl,C3]
   rw [e]
   exact k H (Af.refl H)
theorem Nr:Sc ["thing"] ["thing"] (top 17):=BE (by lk)
theorem NM:CJ P w base T.iY 4 spVal:=by
 exists T.iY.F.ok Nr
 ·obtain ⟨v,rfl,th,k⟩:=h
  obtain ⟨u,hu1,hS,hB,hI⟩:=th.ty (K:=K)
  refine (⟨_,(Ad (AA (Br (Av CO (by rfl) T.cO Cb (Aa (pv 0) (Aa (Gu (v:=.ty "bool") rfl T.mt bt_bool rfl) Ac))))
  (Ae (Aj Ec))
  An)
  (Ad (AA (Br (Av CO (by rfl) T.cO Cb (Aa (pv 0) (Aa (Gu (v:=.ty "int") rfl T.kA Jg rfl) Ac))))
  (Ae (Aj (Ke FH FH Ai (pv 0) (AO (v:=.int 999999) rfl T.mvm ⟨_,rfl⟩))))
  An)
  (Ae (Aj (NG (AB T.fW (Fu T) hr (Aa (pv 0) Ac)) (Cd (Co (Av CO (by rfl) T.cO Cb (Aa (pv 0) (Aa (Gu (v:=.ty "str") rfl T.gf CL rfl) Ac))) (Cd (AB T.fX (JB T) hr (Aa (pv 0) Ac)))))))))),?_⟩)
  w_up
  refine ⟨u,hu1,_,hB,?_⟩
  have Bh:isB v=false->isI v=false->(isS v=false->IY v=false)->(Jr v=false->isS v=false->IY v=false)->Tg [v] H (λx H1=>∃ c,x=V.bl c/\if c=true then Q (V.bl true) H1 else ∃ x_5,GW K H1 v x_5/\∃ x_6,K6 K x_5 (Value.type "str")=some x_6/\if x_6=true then SY [v] H1 Q E0 else Q (V.bl false) H1) E0:=by
   intro _ _ h3 h4
   refine ⟨v,rfl,th,λH' s'=>⟨_,rfl,?_⟩⟩
   obtain ⟨u',hu1',hS',_,_⟩:=(th.same s').ty (K:=K)
   cases th with
   |str z hz =>
    by_cases hn:Jr (.str z)=true
    ·rw [if_pos hn]
     have e:true=IY (.str z):=by
      show _=(CB z||Fz z)
      rw [show CB z=true from hn,Bool.true_or]
     rw [e]
     exact k H' s'
    ·rw [if_neg hn]
     refine ⟨u',hu1',_,hS',L2.iteT ⟨z,rfl,hz,λH2 s2=>?_⟩⟩
     have e:Fz z=IY (.str z):=by
      show _=(CB z||Fz z)
      rw [show CB z=false by simpa [Jr] using hn,P7]
     rw [e]
     exact k H2 (s'.trans s2)
   |int i=>exact L2.iteF ⟨u',hu1',_,hS',L2.iteF (by have e:=h3 rfl;rw [<- e];exact k H' s')⟩
   |bl b=>exact L2.iteF ⟨u',hu1',_,hS',L2.iteF (k H' s')⟩
   |non=>exact L2.iteF ⟨u',hu1',_,hS',L2.iteF (k H' s')⟩
   |lst _=>exact L2.iteF ⟨u',hu1',_,hS',L2.iteF (k H' s')⟩
   |tup _=>exact L2.iteF ⟨u',hu1',_,hS',L2.iteF (k H' s')⟩
   |dic _=>exact L2.iteF ⟨u',hu1',_,hS',L2.iteF (k H' s')⟩
  cases th with
  |bl b=>exact L2.iteT (k H (Af.refl H))
  |int i =>
   refine L2.iteF ⟨u,hu1,_,hI,L2.iteT ⟨i,rfl,?_⟩⟩
   by_cases h0:0<=i
   ·refine Cw h0 ⟨i,rfl,?_⟩
    have e:decide (i<=999999)=IY (.int i):=by
     show _=(decide (0<=i)&&decide (i<=999999))
     rw [decide_eq_true h0,S3]
    rw [e]
    exact k H (Af.refl H)
   ·refine CD h0 ?_
    have e:false=IY (.int i):=by
     show _=(decide (0<=i)&&decide (i<=999999))
     rw [decide_eq_false h0,C3]
    rw [e]
    exact k H (Af.refl H)
  |str z hz=>exact L2.iteF ⟨u,hu1,_,hI,L2.iteF (Bh rfl rfl (λz=>nomatch z) (λ_ z=>nomatch z))⟩
  |non=>exact L2.iteF ⟨u,hu1,_,hI,L2.iteF (Bh rfl rfl (λ_=>rfl) (λ_ _=>rfl))⟩
  |lst _=>exact L2.iteF ⟨u,hu1,_,hI,L2.iteF (Bh rfl rfl (λ_=>rfl) (λ_ _=>rfl))⟩
  |tup _=>exact L2.iteF ⟨u,hu1,_,hI,L2.iteF (Bh rfl rfl (λ_=>rfl) (λ_ _=>rfl))⟩
  |dic _=>exact L2.iteF ⟨u,hu1,_,hI,L2.iteF (Bh rfl rfl (λ_=>rfl) (λ_ _=>rfl))⟩
theorem IE:Sc ["word"] ["word"] (top 18):=BE (by lk)
theorem ET:CJ P w base T.dh 1 Tp:=by
 exists T.dh.F.ok IE
 ·obtain ⟨z,rfl,k⟩:=h
  obtain ⟨kvs,hd,hv⟩:=T.ppk
  refine (⟨_,(Ae (Aj (TZ (JL (pv 0) (AO (v:=.ref T.pp) rfl T.ppm rfl))))),?_⟩)
  w_up
  refine dinK (P:=P) (w:=w) rfl hd ?_
  rw [hv,j4]
  exact k
theorem Ml:Sc ["word"] ["word"] (top 28):=BE (by lk)
theorem DS:CJ P w base T.dJ 1 Te:=by
 exists T.dJ.F.ok Ml
 ·obtain ⟨z,rfl,hz,k⟩:=h
  have hz2:z.length<=sizeLine:=C0 hz (by kd_p)
  refine (⟨_,(Ad (AA (PW.pt (HN (DF (HP FH FH Ai (Av AI (by rfl) T.bn Bf (Aa (pv 0) Ac)) (AO (v:=.int 6) rfl T.mfm ⟨_,rfl⟩))) (FU (DF (Br (Av (Oz rfl) (by rfl) T.mn Vk (Aa (ER (N':=["sign"]) (sel:=[none]) rfl rfl rfl (OZ (pv 0)) (BO rfl) (λ_ _ _ _ _=>⟨(Bm (i:=0) (show (["sign"]:List Str).Nodup by lk) rfl (Or.inl rfl)),CU,(Ke Gv Gv Ak (pv 0) Ak)⟩)) Ac)))))))
  (Ae (Aj AF))
  An)
  (Ad (AA (PW.pt (CT (Br (Bk L3 m6 l6 EK (pv 0) (Aa Ak Ac))) (CH (Al Kg (pv 0) Ak (Am _)))))
  (Ae (Aj AF))
  An)
  (Ae (Aj (Ay GA (by rfl) T.kA Jg (Aa (pv 0) Ac)))))),?_⟩)
  w_up
  refine ⟨hz2,?_⟩
  have hF:GV z=false->∀ H',Af H H'->Q V.non H':=λe H' s=>by
   have e2:Cp z=none:=by unfold Cp;rw [e];rfl
   have:=k H' s
   rw [e2] at this
   exact this
  by_cases h1:1<=z.length
  ·by_cases h2:z.length<=6
   ·refine Cw (by lia) (Kv (by lia) ?_)
    refine ⟨z,rfl,?_⟩
    refine Pr (λi ys H'=>H'=H/\ys=(z.cps.toList.take i).map λc=>V.bl (MZ c)) ⟨rfl,rfl⟩ ?_ hz2 ?_ ?_
    ·rintro i ys H' hi ⟨rfl,rfl⟩
     rw [J0,Y2]
     lia
    ·rintro i c ys H' hc ⟨rfl,rfl⟩
     w_up
     have e:=So c
     have e2:=Lu (f:=λc=>V.bl (MZ c)) hc
     split<;>rename_i hb
     ·rw [if_pos hb] at e
      rw [e]
      exact e2
     ·rw [if_neg hb] at e
      rw [e]
      exact e2
    ·rintro ys H' ⟨rfl,rfl⟩ D hD
     have s1:=Af.upd (o:=.lst ((z.cps.toList.take z.length).map λc=>V.bl (MZ c))) hD
     refine ⟨D,rfl,z.cps.toList.map MZ,?_,?_⟩
     ·refine AD.of ?_
      rw [Ab,y6]
      have:z.cps.toList.take z.length=z.cps.toList:=K3
      rw [this]
      rfl
     ·have e:(z.cps.toList.map MZ).all id=GV z:=by
       unfold GV
       rw [decide_eq_true h1,decide_eq_true h2,List.all_map]
       rfl
      rw [e]
      cases hg:GV z with
      |false=>exact hF hg _ s1
      |true =>
       have hI:=Kz hg
       have k1:=k _ s1
       unfold Cp at k1
       rw [if_pos hg] at k1
       rw [if_neg (by kd_p)]
       by_cases h0:Txt.startswith z "0"=true
       ·rw [if_pos h0]
        refine ⟨rfl,?_⟩
        by_cases hzz:z="0"
        ·rw [if_neg (λq=>q.2 hzz)] at k1
         exact Kv hzz ⟨_,hI,C0 h2 (by kd_p),k1⟩
        ·rw [if_pos ⟨h0,hzz⟩] at k1
         exact Ku hzz k1
       ·rw [if_neg (λq=>h0 q.1)] at k1
        rw [if_neg h0,if_neg Q0]
        exact ⟨_,hI,C0 h2 (by kd_p),k1⟩
   ·refine Cw (by lia) (Ku (by lia) (hF ?_ H (Af.refl H)))
    unfold GV
    rw [decide_eq_false h2,Y6,C3]
  ·refine CD (by lia) (L2.iteT (hF ?_ H (Af.refl H)))
   unfold GV
   rw [decide_eq_false h1,C3,C3]
theorem JY:Sc ["word", "least", "greatest", "number"] ["word", "least", "greatest"] (top 29):=BE (by lk)
theorem Km:CJ P w base T.iL 2 RB:=by
 exists T.iL.F.ok JY
 ·obtain ⟨z,lo,hi,rfl,hz,k⟩:=h
  refine (⟨_,(Ad (Be (i:=3) JY.nd (AB T.dJ (DS T) hr (Aa (pv 0) Ac)))
  (Ad (AA (PW.pt (HN (Al DJ (pv 3) AF (Am _)) (FU (DF (HP FH FH (pv 1) (pv 3) (pv 2))))))
  (Ae (Aj AF))
  An)
  (Ae (Aj (pv 3))))),?_⟩)
  w_up
  refine ⟨z,rfl,hz,λH1 s1=>?_⟩
  have k1:=k H1 s1
  unfold Ll at k1
  cases e:Cp z with
  |none =>
   rw [e] at k1
   exact Cw rfl k1
  |some n =>
   rw [e] at k1
   refine CD (λq=>nomatch q) ⟨n,rfl,?_⟩
   have k2:Q (if lo<=n/\n<=hi then V.int n else V.non) H1:=k1
   by_cases h1:lo<=n
   ·refine Cw h1 ⟨n,rfl,?_⟩
    by_cases h2:n<=hi
    ·rw [if_pos ⟨h1,h2⟩] at k2
     exact Kv h2 k2
    ·rw [if_neg (λq=>h2 q.2)] at k2
     exact Ku h2 k2
   ·rw [if_neg (λq=>h1 q.1)] at k2
    exact CD h1 (L2.iteT k2)
theorem FQ:Sc ["word", "number", "value"] ["word"] (top 30):=BE (by lk)
theorem Jn:CJ P w base T.hJ 6 Ru:=by
 exists T.hJ.F.ok FQ
 ·obtain ⟨z,rfl,hz,k⟩:=h
  refine (⟨_,(Ad (Be (i:=1) FQ.nd (AB T.dJ (DS T) hr (Aa (pv 0) Ac)))
  (Ad (Be (i:=2) FQ.nd (Bq (Al DJ (pv 1) AF (Am _)) (pv 0) (pv 1)))
  (Ae (Aj (Bq (Br (AB T.iY (NM T) hr (Aa (pv 2) Ac))) (pv 2) AF))))),?_⟩)
  w_up
  refine ⟨z,rfl,hz,λH1 s1=>?_⟩
  cases e:Cp z with
  |none =>
   refine Cw rfl ⟨.str z,rfl,.str z hz,λH2 s2=>⟨_,rfl,?_⟩⟩
   have k1:=k H2 (s1.trans s2)
   unfold Do at k1
   rw [e] at k1
   have k2:Q (if IY (.str z)=true then V.str z else V.non) H2:=k1
   cases hm:IY (.str z) with
   |true=>rw [hm] at k2;exact k2
   |false=>rw [hm] at k2;exact k2
  |some n =>
   refine CD (λq=>nomatch q) ⟨.int n,rfl,.int n,λH2 s2=>⟨_,rfl,?_⟩⟩
   have k1:=k H2 (s1.trans s2)
   unfold Do at k1
   rw [e] at k1
   have k2:Q (if IY (.int n)=true then V.int n else V.non) H2:=k1
   cases hm:IY (.int n) with
   |true=>rw [hm] at k2;exact k2
   |false=>rw [hm] at k2;exact k2
theorem Nt:Sc ["slot", "word"] ["slot", "word"] (top 31):=BE (by lk)
theorem NN:CJ P w base T.bW 8 Rz:=by
 exists T.bW.F.ok Nt
 ·obtain ⟨y,z,rfl,hy,hz,k⟩:=h
  refine (⟨_,(Ad (AA (OX (JL (pv 0) (AO (v:=.ref T.gra) rfl T.grm rfl)))
  (Ae (Aj (AB T.iL (Km T) hr (Aa (pv 1) (Aa Ai (Aa (Mt (AO (v:=.ref T.gra) rfl T.grm rfl) (pv 0) (λ_ _=>rfl)) Ac))))))
  An)
  (Ad (AA (Al AQ (pv 0) Ak (Am _))
  (Ae (Aj (AB T.hJ (Jn T) hr (Aa (pv 1) Ac))))
  An)
  (Ad (AA (Al AQ (pv 0) Ak (Am _))
  (Ae (Aj (Bq (Br (AB T.fW (Fu T) hr (Aa (pv 1) Ac))) (pv 1) AF)))
  An)
  (Ae (Aj (Bq (Al AQ (pv 1) (pv 0) (Am _)) (pv 1) AF)))))),?_⟩)
  w_up
  refine dinK (P:=P) (w:=w) rfl T.grd ⟨_,rfl,?_⟩
  have hg:=gr_get y
  unfold BR at k
  rw [j4]
  by_cases h1:y="N"
  ·rw [if_pos h1] at hg
   rw [hg]
   refine L2.iteT (dixK (P:=P) (w:=w) rfl T.grd hg ⟨z,1,99,rfl,hz,λH1 s1=>?_⟩)
   have:=k H1 s1
   rw [if_pos h1] at this
   exact this
  ·rw [if_neg h1] at hg
   by_cases h2:y="ROUNDS"
   ·rw [if_pos h2] at hg
    rw [hg]
    refine L2.iteT (dixK (P:=P) (w:=w) rfl T.grd hg ⟨z,1,9,rfl,hz,λH1 s1=>?_⟩)
    have:=k H1 s1
    rw [if_neg h1,if_pos h2] at this
    exact this
   ·rw [if_neg h2] at hg
    rw [hg]
    refine L2.iteF ⟨rfl,?_⟩
    by_cases h3:y="VALUE"
    ·refine Cw h3 ⟨z,rfl,hz,λH1 s1=>?_⟩
     have:=k H1 s1
     rw [if_neg h1,if_neg h2,if_pos h3] at this
     exact this
    ·refine CD h3 ⟨rfl,?_⟩
     by_cases h4:y="NAME"
     ·refine Cw h4 ⟨.str z,rfl,.str z hz,λH1 s1=>⟨_,rfl,?_⟩⟩
      have k1:=k H1 s1
      rw [if_neg h1,if_neg h2,if_neg h3,if_pos h4] at k1
      show if CB z=true then _ else _
      cases hm:CB z with
      |true=>rw [hm] at k1;exact k1
      |false=>rw [hm] at k1;exact k1
     ·refine CD h4 ⟨rfl,?_⟩
      have k1:=k H (Af.refl H)
      rw [if_neg h1,if_neg h2,if_neg h3,if_neg h4] at k1
      by_cases h5:z=y
      ·rw [if_pos h5] at k1
       exact Cw h5 k1
      ·rw [if_neg h5] at k1
       exact CD h5 k1
theorem Gq:Sc ["slots", "words", "field_at", "fields"] ["slots", "words", "field_at"] (top 32):=BE (by lk)
theorem RO:CJ P w base T.fY 10 (Tk T.bW.f):=by
 exists T.fY.F.ok Gq
 ·obtain ⟨a,b,slots,ws,rfl,ha,hb,ws1,ws2,k0,k1⟩:=h
  have G_own:=(NN (base:=base) T)
  have kp_own:=T.bW.F.kp
  have b_own:=T.bW.b
  refine (⟨_,(Ad (AA (Al Kg (Av AI (by rfl) T.bn Bf (Aa (pv 0) Ac)) (Av AI (by rfl) T.bn Bf (Aa (pv 1) Ac)) (Am _))
  (Ae (Aj AF))
  An)
  (Ad (FV (i:=3) Gq.nd rfl (Or.inl rfl) (N':=["slot", "word", "field_at"]) (sel:=[none,none,some 2]) rfl rfl rfl (TQ rfl T.mo (Aa (pv 0) (Aa (pv 1) Ac))) (UK rfl rfl) (λ_ _ _ _ _=>⟨(FW rfl (Bt (Bm (i:=0) (show (["slot", "word", "field_at"]:List Str).Nodup by lk) rfl (Or.inl rfl)) (Bt (Bm (i:=1) (show (["slot", "word", "field_at"]:List Str).Nodup by lk) rfl (Or.inl rfl)) Ez))),CU,(Kf (pv 2) G_own (hr.mono (by lia)) kp_own b_own .nil AH (Aa (pv 0) (Aa (pv 1) Ac)))⟩) rfl)
  (Ae (Aj (Bq (Al BQ AF (pv 3) (by with_unfolding_all rfl)) AF (pv 3)))))),?_⟩)
  w_up
  refine ⟨slots.length,Bu.mpr (.inl ⟨_,AD.of ha,by rw [J0]⟩),ws.length,Bu.mpr (.inl ⟨_,AD.of hb,by rw [J0]⟩),rfl,?_⟩
  by_cases hl:slots.length=ws.length
  ·refine Kv (by rw [hl]) ?_
   simp only [IA,iZip]
   w_up
   refine ⟨⟨_,AD.of ha⟩,⟨_,AD.of hb⟩,?_⟩
   refine Uu (K:=K) (xs:=slots.map V.str) (ys:=ws.map V.str) (by rw [J0,J0,hl]) (λi zs G=>Af H G/\zs=(D4 BR slots ws).take i) ⟨Af.refl H,rfl⟩ ?_ ?_ ?_ ?_
   ·rintro i zs G hi ⟨s1,rfl⟩
    exact ⟨AD.of (s1 _ _ ha),AD.of (s1 _ _ hb),by rw [Y2];lia⟩
   ·rw [J0];exact C0 ws1.1 (by kd_p)
   ·rintro i x y p zs G hx hy ⟨s1,rfl⟩ hp
    rw [J2] at hx hy
    obtain ⟨sl,hsl,rfl⟩:=W2.mp hx
    obtain ⟨wd,hwd,rfl⟩:=W2.mp hy
    simp only [Sb,He,MJ,Mb]
    w_up
    have e1:(D4 BR slots ws)[i]?=some (BR sl wd):=by rw [C6,hsl,hwd]
    refine ⟨_,Bc.of Ab,rfl,_,_,rfl,_,_,rfl,rfl,sl,wd,rfl,ws1.2 _ (j0 hsl),ws2.2 _ (j0 hwd),λH4 s4=>⟨(s1.trans (Af.upd hp)).trans s4,?_⟩⟩
    rw [W6,e1]
    rfl
   ·rintro zs G ⟨s1,rfl⟩ D hD
    rw [J0]
    have eL:(D4 BR slots ws).take slots.length=D4 BR slots ws:=A6 (by rw [B8];lia)
    rw [eL]
    have s2:Af H (upd G D (.lst (D4 BR slots ws))):=s1.trans (Af.upd hD)
    refine ⟨D,_,rfl,.inl (AD.of Ab),rfl,zip_V slots ws,_,rfl,?_⟩
    rw [if_neg Q0]
    cases hi:Ik V.non (D4 BR slots ws) with
    |true =>
     refine k0 ?_ _ s2
     unfold FA
     rw [if_pos hl,if_pos hi]
    |false =>
     refine k1 _ ?_ D _ (s1.free hD) Ab s2
     unfold FA
     rw [if_pos hl,if_neg (by rw [hi];exact Q0)]
  ·refine Ku (λq=>hl (Int.ofNat.inj q)) (k0 ?_ H (Af.refl H))
   unfold FA
   rw [if_neg hl]
theorem Ct:Sc ["forms", "words", "field_at", "form", "fields"] ["forms", "words", "field_at"] (top 33):=BE (by lk)
theorem Mw:CJ P w base T.dL 12 (spFirst T):=by
 exists T.dL.F.ok Ct
 ·obtain ⟨b,ws,rfl,hb,hw,k0,k1⟩:=h
  refine (⟨_,(Ad (BF PassesOwn.never rfl (Dt (pv 0)) (Di (i:=3) Ct.nd)
  (Ad (Be (i:=4) Ct.nd (AB T.fY (RO T) hr (Aa (Bk L3 Z4 Y4 Ef (pv 3) (Aa Ak Ac)) (Aa (pv 1) (Aa (pv 2) Ac)))))
  (Ae (AA (Al HR (pv 4) AF (Am _))
  (Ae (Aj (pv 4)))
  An))))
  (Ae (Aj AF))),?_⟩)
  w_up
  simp only [SN,UD,Hh,T6,C7,exists_eq_left',V.ref.injEq]
  refine ⟨⟨_,T.fmt H⟩,?_⟩
  refine DV (K:=K) (a:=T.fma) (xs:=FORMS.map V.str) (D:={ nx:=SK (tC V.non) { nx:=λx H'=>Q V.non H',rt:=Q },rt:=Q }) (λi σ G=>Af H G/\(∃ x y,σ=[some (V.ref T.fma),some (V.ref b),some (V.ref T.bW.f),x,y])/\BW (SL.drop i) ws=BW SL ws) ⟨Af.refl H,⟨_,_,rfl⟩,rfl⟩ ?_ ?_ ?_
  ·rintro i σ G hi ⟨s1,_,_⟩
   exact T.fmt G
  ·rintro i x σ G hx ⟨s1,⟨x1,y1,rfl⟩,e⟩
   rw [J2] at hx
   obtain ⟨fm,hfm,rfl⟩:=W2.mp hx
   have hS:SL[i]?=some (Txt.split fm ⟨#[32]⟩):=by rw [<- Of,J2,hfm];rfl
   have hd:=PB (ws:=ws) hS
   rw [e] at hd
   w_up
   refine ⟨fm,32,rfl,by rw [sp1],C0 (UP fm (j0 hfm)) (by kd_p),λq hq=>?_⟩
   have sq:=s1.trans (Af.upd (o:=.lst ((Txt.split fm ⟨#[32]⟩).map V.str)) hq)
   refine ⟨q,b,_,ws,rfl,Ab,sq _ _ hb,sl_ok _ (j0 hS),hw,λe2 H1 sm=>?_,λx e2 l H1 hl0 hl1 sm=>?_⟩
   ·rw [e2] at hd
    exact Kv rfl ⟨sq.trans sm,⟨_,rfl⟩,hd.symm⟩
   ·rw [e2] at hd
    exact Ku (λz=>nomatch z) (k1 x hd l H1 (sq.free hl0) hl1 (sq.trans sm))
  ·rintro σ G ⟨s1,_,e⟩
   rw [J0] at e
   have e2:SL.drop FORMS.length=[]:=rfl
   rw [e2] at e
   w_up
   exact k0 e.symm G s1
theorem LA:Sc ["fields", "number", "kept"] ["fields", "number"] (top 34):=BE (by lk)
theorem LD:CJ P w base T.jf 1 Qp:=by
 exists T.jf.F.ok LA
 ·obtain ⟨l,fs,n,rfl,hl,hf,k⟩:=h
  obtain ⟨⟨wd,r,rfl⟩,hlen,hfl⟩:=hf
  refine (⟨_,(Ad (FV (i:=2) LA.nd rfl (Or.inl rfl) (N':=["field"]) (sel:=[none]) rfl rfl rfl (Cg (Cn Et (pv 0) (CW Ai) CY)) (BO rfl) (λ_ _ _ _ _=>⟨(Bm (i:=0) (show (["field"]:List Str).Nodup by lk) rfl (Or.inl rfl)),(Fp (Al (Ld (K:=K) rfl) (pv 0) (Cm (Aa Ak (Aa Ak Ac))) (by with_unfolding_all rfl))),(pv 0)⟩) rfl)
  (Ad (AA (PW.pt (CT (Al AQ (Az AK (pv 0) Ai) Ak (Am _)) (CH (Al Bz Ak (pv 0) (by with_unfolding_all rfl)))))
  (Ae (AJ (Bk Y0 V1 T1 AW (pv 2) (Aa Ai Ac))))
  An)
  (Ae (Aj (Ay BC (by rfl) T.gy DD (Aa (AL CK (Ao (Aa (Az AK (pv 0) Ai) (Aa (pv 1) Ac))) (pv 2)) Ac)))))),?_⟩)
  k_go
  simp only [IA,Od]
  k_go
  have hwd:(.str wd:V)=.str wd:=rfl
  have hr:∀ v∈r,DB v=true:=λv hv=>hfl v (N0 _ hv)
  rw [v0] at hlen
  refine ⟨l,_,rfl,AD.of hl,λp hp=>⟨p,rfl,⟨_,AD.of Ab⟩,?_⟩⟩
  rw [cut1]
  have s0:=Af.upd (o:=.lst r) hp
  have at0:∀ {G:Hp} {R:VK},Af H G->R (.str wd) G->NB K (.ref l) (.int 0) G R:=λ{G R} s q=>⟨l,_,0,.str wd,rfl,rfl,AD.of (s _ _ hl),Au (j:=0) rfl,q⟩
  refine Fy (K:=K) (a:=p) (xs:=r) (λi zs G=>Af (upd H p (.lst r)) G/\zs=(r.take i).filter λv=>!Ik v [.str "in",.str "within"]) ⟨Af.refl _,rfl⟩ ?_ (C0 (show r.length<=10 by lia) (by kd_p)) ?_ ?_
  ·rintro i zs G hi ⟨s1,rfl⟩
   refine ⟨AD.of (s1 _ _ Ab),C0 (C4 _ _) ?_⟩
   rw [Y2];lia
  ·rintro i x zs G hx ⟨s1,rfl⟩
   k_go
   have e:=Gi (f:=λv=>!Ik v [.str "in",.str "within"]) hx
   refine ⟨by kd_p,λq hq=>⟨q,_,rfl,.inr (Bc.of Ab),ML (hr x (j0 hx)),rfl,_,rfl,?_⟩⟩
   rw [if_pos rfl]
   have s2:=s1.trans (Af.upd (o:=.tup [.str "in",.str "within"]) hq)
   cases hin:Ik x [.str "in",.str "within"] with
   |true =>
    rw [if_neg (by rw [hin];exact Q0)] at e
    exact ⟨s2,e.symm⟩
   |false =>
    rw [if_pos (by rw [hin];rfl)] at e
    exact ⟨s2,e.symm⟩
  ·rintro zs G ⟨s1,rfl⟩ D hD
   rw [K3]
   have sG:Af H G:=s0.trans s1
   have fin:∀ {G':Hp} (ks:List V),Af H G'->G' D=some (.lst ks)->ks.length<=1000->.str wd::.int n::ks=La (.str wd::r) n->NB K (.ref l) (.int 0) G' λx H1=>2<=sizeLine/\∀ (p:Addr),H1 p=none->rCat (V.ref p) (V.ref D) (upd H1 p (HO.lst [x,V.int n])) λx H1=>∃ p,x=V.ref p/\∃ x,(AD K H1 p x/\∀ (l:Addr),H1 l=none->Q (V.ref l) (upd H1 l (HO.tup x)))\/Bc K H1 p x/\Q (V.ref p) H1:=λ{G'} ks sm hk hkl ek=>by
    refine at0 sm ⟨by kd_p,λq hq=>?_⟩
    have sq:=Af.upd (o:=.lst [.str wd,.int n]) hq
    refine ⟨q,D,_,_,rfl,rfl,Ab,sq _ _ hk,C0 (Nat.add_le_add_left hkl _) (show 2+1000<=sizeLine by kd_p),λq2 hq2=>⟨q2,rfl,_,.inl ⟨AD.of Ab,λq3 hq3=>?_⟩⟩⟩
    refine k q3 _ ?_ (sm.trans (sq.trans ((Af.upd hq2).trans (Af.upd hq3))))
    rw [Ab,<- ek]
    rfl
   have lenF:(r.filter λv=>!Ik v [.str "in",.str "within"]).length<=10:=C0 (C4 _ _) (by lia)
   generalize hZ:(r.filter λv=>!Ik v [.str "in",.str "within"])=zs at lenF
   have sD:Af H (upd G D (.lst zs)):=sG.trans (Af.upd hD)
   have eK:∀ b:Bool,(b=true↔(wd="begin"/\Ik (.str "within") (.str wd::r)=false))->La (.str wd::r) n=.str wd::.int n::(zs++if b=true then [.int 0] else []):=λb hb=>by
    unfold La NX
    show V.str wd::V.int n::((r.filter λv=>!Ik v [.str "in",.str "within"])++_)=_
    rw [hZ]
    have:(some (V.str wd)=some (V.str "begin")/\Ik (.str "within") (.str wd::r)=false)↔b=true:=by
     rw [hb]
     constructor
     ·rintro ⟨h1,h2⟩
      cases h1
      exact ⟨rfl,h2⟩
     ·rintro ⟨h1,h2⟩
      rw [h1] at h2 |-
      exact ⟨rfl,h2⟩
    show V.str wd::V.int n::(zs++(if some (V.str wd)=some (V.str "begin")/\Ik (.str "within") (.str wd::r)=false then [.int 0] else []))=_
    by_cases hbt:b=true
    ·rw [if_pos hbt,if_pos (this.mpr hbt)]
    ·rw [if_neg hbt,if_neg (λq=>hbt (this.mp q))]
   refine at0 sD ⟨rfl,?_⟩
   have hfv:(V.str wd::r).all Cy=true:=by
    rw [C2]
    exact λv hv=>ML (hfl v hv)
   by_cases hbg:wd="begin"
   ·refine Cw (by rw [hbg]) ⟨l,_,rfl,.inl (AD.of (sD _ _ hl)),rfl,hfv,_,rfl,?_⟩
    rw [if_pos rfl]
    cases hin:Ik (.str "within") (V.str wd::r) with
    |true =>
     refine fin zs sD Ab (by lia) ?_
     rw [eK false ⟨(λq=>nomatch q),λq=>by rw [hin] at q;exact nomatch q.2⟩]
     show _=V.str wd::V.int n::(zs++[])
     rw [P3]
    |false =>
     show _/\_
     refine ⟨.inl ⟨_,AD.of Ab⟩,D,zs,.int 0,rfl,rfl,Ab,P4 lenF (by kd_p),?_⟩
     have hD0:H D=none:=sG.free hD
     refine fin (zs++[.int 0]) (λa o e=>?_) Ab (by rw [K0];show zs.length+1<=1000;lia) ?_
     ·rw [Ah (λq=>by rw [q,hD0] at e;cases e)]
      exact sD _ _ e
     ·rw [eK true ⟨λ_=>⟨hbg,hin⟩,λ_=>rfl⟩]
      rfl
   ·refine CD (λq=>hbg (V.str.inj q)) ?_
    rw [if_neg Q0]
    refine fin zs sD Ab (by lia) ?_
    rw [eK false ⟨(λq=>nomatch q),λq=>absurd q.1 hbg⟩]
    show _=V.str wd::V.int n::(zs++[])
    rw [P3]
theorem GE:Sc ["self", "head"] ["self", "head"] (Ag (top 35) 0):=BE (by lk)
theorem GN:AS P w K mg base CX0 1 T.aT.f T.aT.fd ["self", "head"] (Qo T):=by
 exists T.aT.F.ok GE
 ·obtain ⟨x,dx,hA,hd,rfl,hx,hh,hz,k⟩:=h
  refine (⟨_,(Ad (Aw (pv 0) (pv 1) rfl)
  (Ad (Aw (pv 0) (Ao Ac) rfl)
  (Ad (Aw (pv 0) Ec rfl)
  (Ad (Aw (pv 0) (Cm Ac) rfl)
  (Ad (Aw (pv 0) (Ao Ac) rfl) An))))),?_⟩)
  refine qa (qc hx) T.eI T.jR (v:=.ref hA) (hv:=λ_ q=>tVo rfl q) λ_ I=>qb I T.eI T.jS λrA _ I=>qa I T.eI T.jv λ_ I=>qb I T.eI T.iy λtA _ I=>qb I T.eI T.jw λoA H5 I=>?_
  have nd:=I.nd
  simp only [j2,x6,E3,S0,A2,or_false,not_or] at nd
  have zr:=I.sz (rA,.lst []) (by simp)
  have zt:=I.sz (tA,.tup []) (by simp)
  have zo:=I.sz (oA,.lst []) (by simp)
  obtain ⟨dx,fs,h,hl,r⟩:=I.F.ex
  exact k ⟨x,hA,rA,tA,oA⟩ H5 rfl ⟨⟨dx,fs,h,hl,λl=>(r _).trans (by cases l<;>rfl),λm e=>(r m).trans ((if_neg (Ne.symm (e .others))).trans ((if_neg (Ne.symm (e .tfl))).trans ((if_neg (Ne.symm (e .turned))).trans ((if_neg (Ne.symm (e .rows))).trans (if_neg (Ne.symm (e .head)))))))⟩,I.tt _ _ (AU hh hx (λz=>nomatch z)) hh,hz,⟨[],zr.1,CC.nil _⟩,⟨zt.1,by show 0<=10;decide,λ_ h=>nomatch h⟩,⟨[],zo.1,CC.nil _⟩,Ne.symm nd.1.2⟩ zr.2.2 zo.2.2 I.tt
theorem JZ:Sc ["self", "row"] ["self", "row"] (Ag (top 35) 1):=BE (by lk)
theorem FY:AS P w K mg base CX0 1 T.bB.f T.bB.fd ["self", "row"] (spUPut T):=by
 exists T.bB.F.ok JZ
 ·obtain ⟨b,F,v,t,rfl,U,hv,l1,l2,k⟩:=h
  obtain ⟨xs,x1,x2⟩:=U.rs
  obtain ⟨ys,y1,y2⟩:=U.os
  have big:100000<sizeLine:=by kd_p
  refine (⟨_,(Ae (AA (Br (Ap (pv 0) rfl))
  (Ae (AJ (Bk Y0 V1 T1 AW (Ap (pv 0) rfl) (Aa (pv 1) Ac))))
  (Ae (AJ (Bk Y0 V1 T1 AW (Ap (pv 0) rfl) (Aa (pv 1) Ac)))))),?_⟩)
  k_go
  refine U.ob.fld .turned rfl ?_
  refine ⟨_,rfl,?_⟩
  unfold Fq.put at k
  cases ht:F.tn with
  |true =>
   rw [if_pos ht] at k
   rw [if_pos rfl]
   refine U.ob.fld .others rfl ?_
   refine ⟨.inl ⟨_,AD.of y1⟩,b.o,ys,v,rfl,rfl,y1,by rw [y2.1];lia,?_⟩
   have sT:=EQ (o:=.lst (ys++[v])) y1
   have neb:b.p≠b.o:=λe=>(U.ob.neL y1 (λ_ _ _ z=>nomatch z)) e.symm
   have O2:Cr T 5 .une (upd H b.o (.lst (ys++[v]))) b.p (gU b true):=by
    have:=U.ob.at' (H':=upd H b.o (.lst (ys++[v]))) λo h=>by rw [Ah neb];exact h
    rw [ht] at this
    exact this
   refine k _ ⟨by rw [ht];exact O2,sT _ _ U.hd,U.hz,⟨xs,by rw [Ah U.ne];exact x1,x2.sameT sT⟩,⟨sT _ _ U.tf.1,U.tf.2⟩,⟨_,Ab,(y2.sameT sT).snoc (hv.sameT sT)⟩,U.ne⟩ (λa u _ n h=>by rw [Ah n];exact h)
  |false =>
   rw [if_neg (by rw [ht];exact Q0)] at k
   rw [if_neg Q0]
   refine U.ob.fld .rows rfl ?_
   refine ⟨.inl ⟨_,AD.of x1⟩,b.r,xs,v,rfl,rfl,x1,by rw [x2.1];lia,?_⟩
   have sT:=EQ (o:=.lst (xs++[v])) x1
   have neb:b.p≠b.r:=λe=>(U.ob.neL x1 (λ_ _ _ z=>nomatch z)) e.symm
   have O2:Cr T 5 .une (upd H b.r (.lst (xs++[v]))) b.p (gU b F.tn):=U.ob.at' λo h=>by rw [Ah neb];exact h
   refine k _ ⟨O2,sT _ _ U.hd,U.hz,⟨_,Ab,(x2.sameT sT).snoc (hv.sameT sT)⟩,⟨sT _ _ U.tf.1,U.tf.2⟩,⟨ys,by rw [Ah (Ne.symm U.ne)];exact y1,y2.sameT sT⟩,U.ne⟩ (λa u n _ h=>by rw [Ah n];exact h)
theorem GD:Sc ["self", "word"] ["self", "word"] (Ag (top 35) 2):=BE (by lk)
theorem GM:AS P w K mg base CX0 1 T.aU.f T.aU.fd ["self", "word"] (OM T):=by
 exists T.aU.F.ok GD
 ·obtain ⟨b,F,z,rfl,U,k⟩:=h
  obtain ⟨hz,n,r,ehd,_⟩:=U.hz
  have ewd:F.wd=hz:=by unfold Fq.wd;rw [ehd]
  refine (⟨_,(Ae (Aj (Co (TW (Ap (pv 0) rfl)) (Cd (AV AQ (RL (AO (v:=.ref T.tua) rfl T.tum rfl) (Az As (Ap (pv 0) rfl) Ai) ⟨rfl,rfl,rfl,rfl⟩) (pv 1) (Am _)))))),?_⟩)
  k_go
  refine U.ob.fld .turned rfl ?_
  refine ⟨_,rfl,?_⟩
  unfold Fq.mayTurn at k
  rw [ewd] at k
  cases ht:F.tn with
  |true =>
   rw [ht] at k
   exact k
  |false =>
   rw [ht] at k
   refine UA (b:=!false) rfl ?_
   refine ⟨T.tua,PZ,rfl,T.tud,?_⟩
   show tOp (JA K) (Rq K (Hh 0) "head") (tC (.int 0)) _ _ _
   k_go
   refine U.ob.fld .head rfl ?_
   refine ⟨b.h,_,0,.str hz,rfl,rfl,Bc.of U.hd,by rw [ehd];exact Au (j:=0) rfl,.inr hz,rfl,?_⟩
   rw [OK]
   by_cases h2:JQ hz
   ·rw [if_pos h2]
    refine ⟨rfl,?_⟩
    have e:decide (V.str (Fh hz)=V.str z)=decide (JQ hz/\Fh hz=z):=by
     by_cases q:Fh hz=z
     ·exact (decide_eq_true (by rw [q])).trans (decide_eq_true ⟨h2,q⟩).symm
     ·exact (decide_eq_false λw=>q (V.str.inj w)).trans (decide_eq_false (λw=>q w.2)).symm
    show Q (V.bl (decide (V.str (Fh hz)=V.str z))) H
    rw [e]
    exact k
   ·rw [if_neg h2]
    refine ⟨rfl,?_⟩
    rw [decide_eq_false (λw=>h2 w.1)] at k
    exact k
theorem Jz:Sc ["self", "turn_fields"] ["self", "turn_fields"] (Ag (top 35) 3):=BE (by lk)
theorem JE:AS P w K mg base CX0 1 T.cG.f T.cG.fd ["self", "turn_fields"] (spUTurn T):=by
 exists T.cG.F.ok Jz
 ·obtain ⟨b,F,ta,tf,rfl,U,ht,hl,hf,k⟩:=h
  refine (⟨_,(Ad (Aw (pv 0) Ec rfl)
  (Ae (Aw (pv 0) (pv 1) rfl))),?_⟩)
  k_go
  obtain ⟨d1,f1,q1,q2,q3,q4,H1,e1,B1,_,O1⟩:=U.ob.stN .turned (.bl true)
  refine ⟨_,d1,f1,q1,q2,q3,q4,?_⟩
  rw [show upd H b.p (HO.ins (T.C .une) d1 (AM ("turned":Str) (V.bl true) f1))=H1 from e1.symm]
  obtain ⟨d2,f2,q1,q2,q3,q4,H2,e2,B2,_,O2⟩:=(O1 (λz=>nomatch z)).stN .tfl (.ref ta)
  refine ⟨_,d2,f2,q1,q2,q3,q4,?_⟩
  rw [show upd H1 b.p (HO.ins (T.C .une) d2 (AM ("turn_fields":Str) (V.ref ta) f2))=H2 from e2.symm]
  have B:=B1.trans B2
  obtain ⟨xs,x1,x2⟩:=U.rs
  obtain ⟨ys,y1,y2⟩:=U.os
  have sT:Hf H H2:=λa zs h=>B _ _ (U.ob.neL h (λ_ _ _ z=>nomatch z)) h
  have nl:∀ {a zs},H a=some (.lst zs)->H2 a=some (.lst zs):=λh=>B _ _ (U.ob.neL h (λ_ _ _ z=>nomatch z)) h
  exact k _ ⟨(O2 (λz=>nomatch z)).congr λl=>by cases l<;>rfl,sT _ _ U.hd,U.hz,⟨xs,nl x1,x2.sameT sT⟩,⟨sT _ _ ht,hl,hf⟩,⟨ys,nl y1,y2.sameT sT⟩,U.ne⟩ B
theorem Hn:Sc ["self"] ["self"] (Ag (top 35) 4):=BE (by lk)
theorem Hu:AS P w K mg base CX0 1 T.bq.f T.bq.fd ["self"] (Rv T):=by
 exists T.bq.F.ok Hn
 ·obtain ⟨b,F,rfl,U,k⟩:=h
  have hu:=BU hr
  obtain ⟨hz,n,r,ehd,_⟩:=U.hz
  have ewd:F.wd=hz:=by unfold Fq.wd;rw [ehd]
  obtain ⟨ys,y1,y2⟩:=U.os
  refine (⟨_,(Ad (AA (Al AQ (Az As (Ap (pv 0) rfl) Ai) Ak (Am _))
  (Ae (Aj (NG (TW (Ap (pv 0) rfl)) (Cd (AV (IP hu) (Ap (pv 0) rfl) (Ao Ac) (Am _))))))
  An)
  (Ae (Aj (NG (Ap (pv 0) rfl) (Cd (TZ (Pa (Az As (Ap (pv 0) rfl) Ai) (AO (v:=.ref T.tua) rfl T.tum rfl)))))))),?_⟩)
  k_go
  refine U.ob.fld .head rfl ?_
  refine ⟨b.h,_,0,.str hz,rfl,rfl,Bc.of U.hd,by rw [ehd];exact Au (j:=0) rfl,rfl,?_⟩
  unfold Fq.mayEnd at k
  rw [ewd] at k
  by_cases hl:hz="limit"
  ·rw [if_pos hl] at k
   refine Cw (by rw [hl]) (U.ob.fld .turned rfl ?_)
   refine ⟨_,rfl,?_⟩
   cases ht:F.tn with
   |false =>
    rw [ht] at k
    exact k H (Af.refl H)
   |true =>
    rw [ht] at k
    rw [if_neg (by kd_p)]
    refine U.ob.fld .others rfl ?_
    refine Pk y1 λG s=>?_
    have e:(!decide (ys=[]))=(!true||!F.os.isEmpty):=by
     have:=y2.1
     cases ys with
     |nil =>
      rw [j3] at this
      rw [L4 this.symm]
      rfl
     |cons y r =>
      cases ho:F.os with
      |nil=>rw [ho] at this;cases this
      |cons _ _=>rfl
    rw [e]
    exact k G s
  ·rw [if_neg hl] at k
   refine CD (λq=>hl (V.str.inj q)) (U.ob.fld .turned rfl ?_)
   refine ⟨_,rfl,?_⟩
   cases ht:F.tn with
   |true =>
    rw [ht] at k
    exact k H (Af.refl H)
   |false =>
    rw [ht] at k
    rw [if_neg Q0]
    show tOp (JA K) (Rq K (Hh 0) "head") (tC (.int 0)) _ _ _
    k_go
    refine U.ob.fld .head rfl ?_
    refine ⟨b.h,_,0,.str hz,rfl,rfl,Bc.of U.hd,by rw [ehd];exact Au (j:=0) rfl,PZ,T.tud,.inr hz,rfl,?_⟩
    rw [OK]
    have:=k H (Af.refl H)
    by_cases h2:JQ hz
    ·rw [if_pos h2]
     rw [decide_eq_true h2] at this
     exact this
    ·rw [if_neg h2]
     rw [decide_eq_false h2] at this
     exact this
theorem Dr:Sc ["self", "row"] ["self"] (Ag (top 35) 5):=BE (by lk)
theorem IT:AS P w K mg base CX0 1 T.ce.f T.ce.fd ["self"] (SX T):=by
 exists T.ce.F.ok Dr
 ·obtain ⟨b,F,rfl,U,l1,l2,k⟩:=h
  obtain ⟨hz,n,r,ehd,hrl,hrf⟩:=U.hz
  have ewd:F.wd=hz:=by unfold Fq.wd;rw [ehd]
  obtain ⟨xs,x1,x2⟩:=U.rs
  obtain ⟨ys,y1,y2⟩:=U.os
  refine (⟨_,(Ad (Be (i:=1) Dr.nd (AL FX (Ap (pv 0) rfl) (Cm (Aa (Ay BC (by rfl) T.gy DD (Aa (Ap (pv 0) rfl) Ac)) Ac))))
  (Ad (AA (OX (JL (Az As (Ap (pv 0) rfl) Ai) (AO (v:=.ref T.tua) rfl T.tum rfl)))
  (Ae (Be (i:=1) Dr.nd (AL FX (AL FX (pv 1) (Ap (pv 0) rfl)) (Cm (Aa (Ay BC (by rfl) T.gy DD (Aa (Ap (pv 0) rfl) Ac)) Ac)))))
  An)
  (Ae (Aj (pv 1))))),?_⟩)
  k_go
  refine U.ob.fld .head rfl ?_
  refine U.ob.fld .rows rfl ?_
  refine ⟨b.r,rfl,_,.inl ⟨AD.of x1,λp1 hp1=>⟨by kd_p,λp2 hp2=>?_⟩⟩⟩
  have s1:=Af.upd (o:=.tup xs) hp1
  have s2:=Af.upd (o:=.tup [.ref p1]) hp2
  have sA:=s1.trans s2
  refine .inl (KD (sA _ _ U.hd) Ab (by rw [ehd];exact λz=>nomatch z) (by rw [ehd];show r.length+1+1+1<=sizeLine;exact C0 (show r.length+3<=13 by lia) (by kd_p)) λp3 H3 h3 s3=>?_)
  have sB:=sA.trans s3
  have U3:=U.same sB
  show tOp (JA K) (Rq K (Hh 0) "head") (tC (.int 0)) _ _ _
  k_go
  refine U3.ob.fld .head rfl ?_
  refine ⟨b.h,_,0,.str hz,rfl,rfl,Bc.of U3.hd,by rw [ehd];exact Au (j:=0) rfl,PZ,T.tud,.inr hz,rfl,?_⟩
  rw [OK]
  have hflat:∀ v∈F.hd,DB v=true:=λv hv=>by
   rw [ehd] at hv
   rcases S0.mp hv with rfl | hv
   ·rfl
   rcases S0.mp hv with rfl | hv
   ·rfl
   ·exact hrf v hv
  have e1:H3 p1=some (.tup xs):=s3 _ _ (s2 _ _ Ab)
  have R1:CC H3 (F.hd++[.ref p1]) (F.hd.map trV++[.t F.rs]):=(CC.flat hflat).app (CC.one (GB.tup e1 (x2.sameT (Eb sB))))
  unfold Fq.whole at k
  rw [ewd] at k
  by_cases h2:JQ hz
  ·rw [if_pos h2] at k |-
   refine UA (b:=false^^true) rfl ?_
   refine U3.ob.fld .tfl rfl ?_
   refine .inl (KD h3 U3.tf.1 (λz=>absurd (c7.mp z).2 (by simp)) (by rw [K0,ehd];have:=U.tf.2.1;exact C0 (show r.length+1+1+1+F.tf.length<=23 by lia) (by kd_p)) λp4 H4 h4 s4=>?_)
   have U4:=U3.same s4
   refine U4.ob.fld .others rfl ?_
   obtain ⟨ys,y1,y2⟩:=U4.os
   refine ⟨b.o,rfl,_,.inl ⟨AD.of y1,λp5 hp5=>⟨by kd_p,λp6 hp6=>?_⟩⟩⟩
   have s5:=Af.upd (o:=.tup ys) hp5
   have s6:=Af.upd (o:=.tup [.ref p5]) hp6
   have s56:=s5.trans s6
   refine .inl (KD (s56 _ _ h4) Ab (λz=>absurd (c7.mp (c7.mp z).1).2 (by simp)) (by rw [K0,K0,ehd];have:=U.tf.2.1;exact C0 (show r.length+1+1+1+F.tf.length+1<=24 by lia) (by kd_p)) λp7 H7 h7 s7=>?_)
   have sC:=(s4.trans s56).trans s7
   have e5:H7 p5=some (.tup ys):=s7 _ _ (s6 _ _ Ab)
   have R7:=((R1.sameT (Eb sC)).app (CC.flat U.tf.2.2)).app (CC.one (GB.tup e5 (y2.sameT (Eb (s56.trans s7)))))
   refine k _ H7 (GB.tup h7 ?_) (sB.trans sC)
   rw [<- E7]
   exact R7
  ·rw [if_neg h2] at k |-
   refine L2.iteF ?_
   rw [P3] at k
   exact k _ H3 (GB.tup h3 R1) sB
theorem GG:Sc ["self"] ["self"] (Ag (top 36) 0):=BE (by lk)
theorem GQ:AS P w K mg base CX0 1 T.aV.f T.aV.fd ["self"] (spRInit T):=by
 exists T.aV.F.ok GG
 ·obtain ⟨x,dx,rfl,hx,k⟩:=h
  refine (⟨_,(Ad (Aw (pv 0) (Ao Ac) rfl)
  (Ae (Aw (pv 0) (Ao Ac) rfl))),?_⟩)
  k_go
  have O0:=Cr.new (T:=T) (c:=.rdg) hx
  refine ⟨by kd_p,λpA hp0=>?_⟩
  have sp:=Af.upd (o:=.lst []) hp0
  obtain ⟨d1,f1,q1,q2,q3,q4,H1,e1,B1,O1,_⟩:=(O0.same sp).stN .prog (.ref pA)
  refine ⟨_,d1,f1,q1,q2,q3,q4,by kd_p,?_⟩
  rw [show upd (upd H pA (.lst [])) x (HO.ins (T.C .rdg) d1 (AM ("program":Str) (V.ref pA) f1))=H1 from e1.symm]
  intro uA hu0
  have su:=Af.upd (o:=.lst []) hu0
  obtain ⟨d2,f2,q1,q2,q3,q4,H2,e2,B2,O2,_⟩:=(O1.same su).stN .unended (.ref uA)
  refine ⟨_,d2,f2,q1,q2,q3,q4,?_⟩
  rw [show upd (upd H1 uA (.lst [])) x (HO.ins (T.C .rdg) d2 (AM ("unended":Str) (V.ref uA) f2))=H2 from e2.symm]
  have np:pA≠x:=O0.live hp0
  have nu:uA≠x:=O1.live hu0
  have p1:H1 pA=some (.lst []):=B1 _ _ np Ab
  have npu:pA≠uA:=λe=>by rw [<- e,p1] at hu0;cases hu0
  have BA:CP x H H2:=λa o n h=>B2 _ _ n (su _ _ (B1 _ _ n (sp _ _ h)))
  refine k pA uA H2 (O2.congr λl=>by cases l<;>rfl) (B2 _ _ np (su _ _ p1)) (B2 _ _ nu Ab) hp0 ?_ npu BA
  cases e:H uA with
  |none=>rfl
  |some o=>rw [B1 _ _ nu (sp _ _ e)] at hu0;cases hu0
theorem Ew:Sc ["self", "word", "innermost"] ["self", "word"] (Ag (top 36) 1):=BE (by lk)
theorem HX:AS P w K mg base CX0 3 T.bH.f T.bH.fd ["self", "word"] (Rx T):=by
 exists T.bH.F.ok Ew
 ·obtain ⟨H0,p,pa,ua,st,Bs,c,z,rfl,R,k⟩:=h
  have hu:=BU hr
  refine (⟨_,(Ad (AA (Al (EI hu) (Ap (pv 0) rfl) (Ao Ac) (Am _))
  (Ae (Aj (AV AQ (pv 1) Ak (Am _))))
  An)
  (Ad (Be (i:=2) Ew.nd (Az AK (Ap (pv 0) rfl) (Jm FP Ai)))
  (Ad (AA (Al AQ (pv 1) Ak (Am _))
  (Ae (Aj (Bp (pv 2) T.eI T.bq.me (Hu T) (hr.mono (by lia)) T.bq.b .nil AH)))
  An)
  (Ad (AA (Al BQ (pv 1) (AO (v:=.ref T.twa) rfl T.twm rfl) (by with_unfolding_all rfl))
  (Ae (Aj (Bi (pv 2) T.eI T.aU.me (GM T) (hr.mono (by lia)) T.aU.b .nil AH (Aa (pv 1) Ac))))
  An)
  (Ad (AA (Br (AB T.dh (ET T) hr (Aa (pv 1) Ac)))
  (Ae (Aj (AV FH (Av AI (by rfl) T.bn Bf (Aa (Ap (pv 0) rfl) Ac)) (AO (v:=.int 20) rfl T.mdm ⟨_,rfl⟩) (Am _))))
  An)
  (Ae (Aj (AV Kg (pv 1) Ak (Am _))))))))),?_⟩)
  k_go
  obtain ⟨pg,un⟩:=st
  refine R.ob.fld .unended rfl ?_
  refine KC R.ul λH1 s1=>⟨_,rfl,?_⟩
  have R1:=R.same s1
  have hlen:Bs.length=un.length:=R.len
  by_cases hn:un=[]
  ·subst hn
   obtain rfl:Bs=[]:=L4 hlen
   exact Cw rfl ⟨rfl,k H1 s1⟩
  ·obtain ⟨S,F,rfl⟩:=Gp (Q5.mpr hn)
   obtain ⟨Cs,b,rfl,hl⟩:=R.split
   rw [Jv] at k
   refine CD (by rw [A3];simp) ?_
   refine R1.ob.fld .unended rfl ?_
   refine R1.ixTop ⟨rfl,?_⟩
   have U:=R1.top hl
   by_cases h1:z="end"
   ·rw [if_pos h1] at k
    exact Cw h1 ⟨b.p,rfl,U.ob.call ⟨b,F,rfl,U,λH2 s2=>k H2 (s1.trans s2)⟩⟩
   ·rw [if_neg h1] at k
    refine CD h1 (inTW (T.twt H1) ⟨_,rfl,?_⟩)
    by_cases h2:EN z
    ·rw [if_pos h2] at k
     exact Cw h2 ⟨b.p,rfl,U.ob.call ⟨b,F,z,rfl,U,k H1 s1⟩⟩
    ·rw [if_neg h2] at k
     refine CD h2 ⟨z,rfl,?_⟩
     rw [decP]
     refine ⟨_,rfl,?_⟩
     by_cases h3:JI z
     ·rw [if_pos h3] at k
      refine Cw h3 ?_
      refine R1.ob.fld .unended rfl ?_
      refine ⟨(Cs++[b]).length,Bu.mpr (.inl ⟨_,AD.of R1.ul,by rw [J0]⟩),?_⟩
      have e:decide ((((Cs++[b]).length:Nat):Int)<=20)=decide (S.length+1<=20):=by
       rw [K0,hl]
       refine decide_eq_decide.mpr ?_
       show ((S.length+1:Nat):Int)<=20↔_
       lia
      rw [e]
      exact k H1 s1
     ·rw [if_neg h3] at k
      refine CD h3 ⟨rfl,?_⟩
      have e:(!decide (z="errand"))=decide (z≠"errand"):=by
       by_cases q:z="errand"<;>simp [q]
      rw [e]
      exact k H1 s1
theorem CF:Sc ["self", "row"] ["self"] (Ag (top 36) 3):=BE (by lk)
theorem EJ:AS P w K mg base CX0 3 T.aw.f T.aw.fd ["self"] (spREnd T):=by
 exists T.aw.F.ok CF
 ·obtain ⟨H0,p,pa,ua,st,Bs,c,rfl,R,hne,hc,k⟩:=h
  have hu:=BU hr
  refine (⟨_,(Ad (Be (i:=1) CF.nd (Bp (pe_bm0 Y0 PySem.F.slot_list_pop PySem.F.type_list_pop mt_pop (Ap (pv 0) rfl)) T.eI T.ce.me (IT T) (hr.mono (by lia)) T.ce.b .nil AH))
  (Ae (AA (Al (EI hu) (Ap (pv 0) rfl) (Ao Ac) (Am _))
  (Ae (AJ (Bk Y0 V1 T1 AW (Ap (pv 0) rfl) (Aa (pv 1) Ac))))
  (Ae (AJ (Bi (Az AK (Ap (pv 0) rfl) (Jm FP Ai)) T.eI T.bB.me (FY T) (hr.mono (by lia)) T.bB.b .nil AH (Aa (pv 1) Ac))))))),?_⟩)
  k_go
  obtain ⟨pg,un⟩:=st
  obtain ⟨S,F,rfl⟩:=Gp (Q5.mpr hne)
  obtain ⟨Cs,b,rfl,hl⟩:=R.split
  obtain ⟨R1,U1⟩:=R.pop hl
  have hF:=R.ct.2 F (Z0 _ W0)
  refine R.ob.fld .unended rfl ?_
  refine ⟨.inl ⟨_,AD.of R.ul⟩,?_⟩
  have eM:(Cs++[b]).map (λb=>V.ref b.p)=Cs.map (λb=>V.ref b.p)++[.ref b.p]:=by rw [A3];rfl
  refine ⟨ua,_,.ref b.p,rfl,rfl,R.ul,?_,?_⟩
  ·rw [eM,show (Cs.map (λb=>V.ref b.p)++[V.ref b.p]).length-1=(Cs.map (λb=>V.ref b.p)).length by rw [K0];rfl]
   exact Fb
  ·rw [eM,z7]
   refine ⟨b.p,rfl,U1.ob.call ⟨b,F,rfl,U1,by lia,by lia,λv H2 hv s2=>?_⟩⟩
   have R2:=R1.same s2
   refine R2.ob.fld .unended rfl ?_
   refine KC R2.ul λH3 s3=>⟨_,rfl,?_⟩
   have R3:=R2.same s3
   have hv3:=hv.sameT (Eb s3)
   by_cases hS:S=[]
   ·subst hS
    obtain rfl:Cs=[]:=L4 hl
    refine Cw rfl ?_
    refine R3.ob.fld .prog rfl ?_
    obtain ⟨xs,x1,x2⟩:=R3.pr
    have hx:xs.length<=99999:=by rw [x2.1];exact C0 R3.ct.1 hc
    refine ⟨.inl ⟨_,AD.of x1⟩,pa,xs,v,rfl,rfl,x1,P4 hx (by kd_p),?_⟩
    exact k _ [] (R3.addP x1 x2 hv3)
   ·obtain ⟨S2,G,rfl⟩:=Gp (Q5.mpr hS)
    obtain ⟨Ds,d,rfl,hl2⟩:=R3.split
    refine CD (by rw [A3];simp) ?_
    refine R3.ob.fld .unended rfl ?_
    have UG:=R3.top hl2
    have hG:=R3.ct.2 G (Z0 _ W0)
    refine R3.ixTop ⟨d.p,rfl,UG.ob.call ⟨d,G,v,F.whole,rfl,UG,hv3,by lia,by lia,λH4 U4 k4=>?_⟩⟩
    rw [Va] at k
    have hput:(G.put F.whole).rs.length<=c+1/\(G.put F.whole).os.length<=c+1:=by
     unfold Fq.put
     split
     ·exact ⟨M4 hG.1,by rw [K0];exact N3 hG.2⟩
     ·exact ⟨by rw [K0];exact N3 hG.1,M4 hG.2⟩
    refine k H4 (Ds++[d]) (R3.mod hl2 U4 rfl rfl rfl (λa u ha h=>?_) (U5 _) hput.1 hput.2)
    refine k4 a u (λe=>ha (by simp [Ub.own,e])) (λe=>ha (by simp [Ub.own,e])) h
theorem DL:Sc ["self", "fields", "number", "word"] ["self", "fields", "number"] (Ag (top 36) 2):=BE (by lk)
theorem GO:AS P w K mg base CX0 5 T.aW.f T.aW.fd ["self", "fields", "number"] (spRPut T):=by
 exists T.aW.F.ok DL
 ·obtain ⟨H0,p,pa,ua,st,Bs,c,l,z,fs,n,rfl,R,hc,hl,hf,hz,ha,k⟩:=h
  refine (⟨_,(Ad (Be (i:=3) DL.nd (Az AK (pv 1) Ai))
  (Ae (AA (Al AQ (pv 3) Ak (Am _))
  (Ae (AJ (Bp (pv 0) T.gT T.aw.me (EJ T) (hr.mono (by lia)) T.aw.b .nil AH)))
  (Ae (AA (Al BQ (pv 3) (AO (v:=.ref T.twa) rfl T.twm rfl) (by with_unfolding_all rfl))
  (Ae (AJ (Bi (Az AK (Ap (pv 0) rfl) (Jm FP Ai)) T.eI T.cG.me (JE T) (hr.mono (by lia)) T.cG.b .nil AH (Aa (Ay BC (by rfl) T.gy DD (Aa (Cn Et (pv 1) (CW Ai) CY) Ac)) Ac))))
  (Ae (AA (PW.pt (HN (Al AQ (pv 3) Ak (Am _)) (FU (Br (AB T.dh (ET T) hr (Aa (pv 3) Ac))))))
  (Ae (AJ (Bk Y0 V1 T1 AW (Ap (pv 0) rfl) (Aa (EA T.kZ (GN T) (hr.mono (by lia)) rfl T.kY T.aT.b .nil AH (Aa (AB T.jf (LD T) hr (Aa (pv 1) (Aa (pv 2) Ac))) Ac)) Ac))))
  (Ae (AJ (Bi (Az AK (Ap (pv 0) rfl) (Jm FP Ai)) T.eI T.bB.me (FY T) (hr.mono (by lia)) T.bB.b .nil AH (Aa (AB T.jf (LD T) hr (Aa (pv 1) (Aa (pv 2) Ac))) Ac))))))))))),?_⟩)
  k_go
  obtain ⟨⟨wd,r,rfl⟩,hlen,hfl⟩:=id hf
  obtain rfl:wd=z:=by cases hz;rfl
  obtain ⟨pg,un⟩:=st
  refine ⟨l,_,0,.str wd,rfl,rfl,AD.of hl,Au (j:=0) rfl,rfl,?_⟩
  unfold putL at k
  have hrow:∃ z' n' r',La (.str wd::r) n=.str z'::.int n'::r'/\r'.length<=10/\∀ v∈r',DB v=true:=by
   refine ⟨wd,n,NX (.str wd::r),rfl,?_,?_⟩
   ·unfold NX
    rw [K0]
    have e1:((V.str wd::r).tail.filter λv=>!Ik v [.str "in",.str "within"]).length<=r.length:=C4 _ _
    rw [v0] at hlen
    split
    ·show _+1<=10
     lia
    ·show _+0<=10
     lia
   ·intro v hv
    unfold NX at hv
    rcases Q3.mp hv with q | q
    ·exact hfl v (N0 _ (O6.mp q).1)
    ·split at q
     ·rw [C1.mp q];rfl
     ·cases q
  have opn:(wd="errand"\/JI wd)->un.length<=20:=λh=>by
   by_cases hn:un=[]
   ·rw [hn];exact N1 _
   ·obtain ⟨S,F,rfl⟩:=Gp (Q5.mpr hn)
    rw [Jv] at ha
    have w:wd≠"end"/\¬ EN wd:=by
     rcases h with rfl | rfl | rfl | rfl | rfl | rfl | rfl | rfl<;>lk
    rw [if_neg w.1,if_neg w.2] at ha
    rcases h with h | h
    ·rw [if_neg (by rw [h];lk)] at ha
     exact absurd h (of_decide_eq_true ha)
    ·rw [if_pos h] at ha
     rw [K0]
     exact of_decide_eq_true ha
  have nonempty:wd≠"errand"->∃ S F Cs b,un=S++[F]/\Bs=Cs++[b]/\Cs.length=S.length:=λh=>by
   by_cases hn:un=[]
   ·subst hn
    exact absurd (of_decide_eq_true ha) h
   ·obtain ⟨S,F,rfl⟩:=Gp (Q5.mpr hn)
    obtain ⟨Cs,b,e,hl⟩:=R.split
    exact ⟨S,F,Cs,b,rfl,e,hl⟩
  have open_:(wd="errand"\/JI wd)->∀ {x:V},x=.ref ua->Qp [V.ref l,V.int n] H (λx_4 H1=>∀ (x_5 dx:Addr),H1 x_5=none->H1 dx=none->dx≠x_5->Qo T [V.ref x_5,x_4] (upd (upd H1 dx (HO.own x_5)) x_5 (HO.ins T.ae dx [])) (λv H2=>v=V.non/\Qx x [V.ref x_5] H2 λx H1=>Q V.non H1) E0) E0:=λh x ex=>by
   subst ex
   have w:wd≠"end"/\¬ EN wd:=by
    rcases h with rfl | rfl | rfl | rfl | rfl | rfl | rfl | rfl<;>lk
   rw [if_neg w.1,if_neg w.2,if_pos h] at k
   refine ⟨l,_,n,rfl,hl,hf,λa H1 ha1 s1 x dx hx hdx hne=>?_⟩
   have hx2:upd H1 dx (.own x) x=none:=by rw [Ah (Ne.symm hne)];exact hx
   have sm:Af H1 (upd (upd H1 dx (.own x)) x (.ins T.ae dx [])):=(Af.upd hdx).trans (Af.upd hx2)
   refine ⟨x,dx,a,_,rfl,Ab,sm _ _ ha1,hrow,λb H2 eb U nr no B2=>⟨rfl,?_⟩⟩
   have s2:Af H1 H2:=λy u hy=>B2 _ _ (λe=>by rw [e,hx] at hy;cases hy) (sm _ _ hy)
   have R1:=R.same s1
   have R2:=R1.same s2
   have own:∀ y∈b.own,H1 y=none:=λy hy=>by
    simp only [Ub.own,S0,A2,or_false] at hy
    rcases hy with rfl | rfl | rfl
    ·rw [eb];exact hx
    ·exact sm.free nr
    ·exact sm.free no
   have ndo:b.own.Nodup:=by
    have n1:b.r≠x:=λe=>by rw [e,Ab] at nr;cases nr
    have n2:b.o≠x:=λe=>by rw [e,Ab] at no;cases no
    unfold Ub.own
    simp [eb,Ne.symm n1,Ne.symm n2,U.ne]
   have hle:Bs.length<=21:=by rw [R.len];exact R.le
   refine ⟨ua,_,.ref x,rfl,rfl,R2.ul,by rw [J0];exact P4 hle (by kd_p),?_⟩
   have RP:=R1.push (opn h) s2 U own ndo (N1 _) (N1 _)
   rw [eb] at RP
   exact k _ _ (RP.mono (U5 _))
  by_cases h1:wd="end"
  ·obtain ⟨S,F,Cs,b,rfl,rfl,hl2⟩:=nonempty (by rw [h1];lk)
   rw [if_pos h1] at k
   exact Cw (by rw [h1]) (R.ob.call ⟨H0,p,pa,ua,_,_,c,rfl,R,by simp,hc,k⟩)
  ·refine CD (λq=>h1 (V.str.inj q)) (inTW (T.twt H) ⟨_,rfl,?_⟩)
   by_cases h2:EN wd
   ·obtain ⟨S,F,Cs,b,rfl,rfl,hl2⟩:=nonempty (by rcases h2 with rfl | rfl | rfl<;>lk)
    rw [if_neg h1,if_pos h2,LF] at k
    have U:=R.top hl2
    refine Cw h2 ?_
    refine R.ob.fld .unended rfl ?_
    refine R.ixTop ⟨b.p,rfl,U.ob.call ⟨l,_,rfl,AD.of hl,λq hq=>⟨q,rfl,_,.inl ⟨AD.of Ab,λq2 hq2=>?_⟩⟩⟩⟩
    rw [cut1] at hq2 |-
    have s1:=Af.upd (o:=.lst r) hq
    have s2:=s1.trans (Af.upd (o:=.tup r) hq2)
    have hF:=R.ct.2 F (Z0 _ W0)
    refine ⟨b,F,q2,r,rfl,U.same s2,Ab,by rw [v0] at hlen;lia,λv hv=>hfl v (N0 _ hv),λH3 U3 B3=>?_⟩
    refine k H3 (Cs++[{ b with t:=q2 }]) ((R.same s2).mod hl2 U3 rfl rfl rfl (λa u ha h=>B3 a u (λe=>ha (by simp [Ub.own,e])) h) (U5 _) (M4 hF.1) (M4 hF.2))
   ·refine CD h2 ⟨rfl,?_⟩
    by_cases h3:wd="errand"
    ·refine Cw (by rw [h3]) ?_
     refine R.ob.fld .unended rfl ?_
     exact ⟨.inl ⟨_,AD.of R.ul⟩,open_ (.inl h3) rfl⟩
    ·refine CD (λq=>h3 (V.str.inj q)) ⟨wd,rfl,?_⟩
     rw [decP]
     refine ⟨_,rfl,?_⟩
     by_cases h4:JI wd
     ·refine Cw h4 ?_
      refine R.ob.fld .unended rfl ?_
      exact ⟨.inl ⟨_,AD.of R.ul⟩,open_ (.inr h4) rfl⟩
     ·obtain ⟨S,F,Cs,b,rfl,rfl,hl2⟩:=nonempty h3
      rw [if_neg h1,if_neg h2,if_neg (λq=>q.elim h3 h4),LF] at k
      have U:=R.top hl2
      have hF:=R.ct.2 F (Z0 _ W0)
      refine CD h4 ?_
      refine R.ob.fld .unended rfl ?_
      refine R.ixTop ⟨b.p,rfl,U.ob.call ⟨l,_,n,rfl,hl,hf,λa H1 ha1 s1=>?_⟩⟩
      have fl:∀ v∈La (.str wd::r) n,DB v=true:=λv hv=>by
       obtain ⟨z',n',r',e,_,hr'⟩:=hrow
       rw [e] at hv
       rcases S0.mp hv with rfl | hv
       ·rfl
       rcases S0.mp hv with rfl | hv
       ·rfl
       ·exact hr' v hv
      refine ⟨b,F,.ref a,_,rfl,U.same s1,GB.tup ha1 (CC.flat fl),by lia,by lia,λH2 U2 k2=>?_⟩
      have hput:∀ t,(F.put t).rs.length<=c+1/\(F.put t).os.length<=c+1:=λt=>by
       unfold Fq.put
       split
       ·exact ⟨M4 hF.1,by rw [K0];exact N3 hF.2⟩
       ·exact ⟨by rw [K0];exact N3 hF.1,M4 hF.2⟩
      exact k H2 (Cs++[b]) ((R.same s1).mod hl2 U2 rfl rfl rfl (λa u ha h=>k2 a u (λe=>ha (by simp [Ub.own,e])) (λe=>ha (by simp [Ub.own,e])) h) (U5 _) (hput _).1 (hput _).2)
theorem GF:Sc ["self"] ["self"] (Ag (top 36) 4):=BE (by lk)
theorem GP:AS P w K mg base CX0 1 T.aX.f T.aX.fd ["self"] (Ta T):=by
 exists T.aX.F.ok GF
 ·obtain ⟨H0,p,pa,ua,st,Bs,c,rfl,R,k⟩:=h
  have hu:=BU hr
  refine (⟨_,(Ae (Aj (Co (AV (EI hu) (Ap (pv 0) rfl) (Ao Ac) (Am _)) (Cd (AV (IP hu) (Ap (pv 0) rfl) (Ao Ac) (Am _)))))),?_⟩)
  k_go
  obtain ⟨pg,un⟩:=st
  refine R.ob.fld .unended rfl ?_
  refine KC R.ul λH1 s1=>⟨_,rfl,?_⟩
  have R1:=R.same s1
  have hlen:Bs.length=un.length:=R.len
  cases un with
  |nil =>
   obtain rfl:Bs=[]:=L4 hlen
   refine Cw rfl ?_
   refine R1.ob.fld .prog rfl ?_
   obtain ⟨xs,x1,x2⟩:=R1.pr
   refine Pk x1 λH2 s2=>?_
   have e:(!decide (xs=[]))=(([]:List Fq).isEmpty&&!pg.isEmpty):=by
    have:=x2.1
    cases xs with
    |nil =>
     rw [j3] at this
     have e2:pg=[]:=L4 this.symm
     rw [e2]
     rfl
    |cons y r =>
     cases ho:pg with
     |nil=>rw [show (⟨pg,[]⟩:St).pg=pg from rfl,ho] at this;cases this
     |cons _ _=>rfl
   rw [e]
   exact k H2 (s1.trans s2)
  |cons x r =>
   cases Bs with
   |nil=>cases hlen
   |cons y t=>exact CD (λq=>nomatch q) (k H1 s1)
theorem Ht:Sc ["self", "line"] ["self", "line"] (Ag (top 6) 0):=BE (by lk)
theorem Ee:AS P w K mg base CX0 1 T.aI.f T.aI.fd ["self", "line"] (Nk T.ag):=by
 exists T.aI.F.ok Ht
 ·obtain ⟨a,v,t,rfl,ha,k⟩:=h
  refine (⟨_,(Ae (Ms (pv 0) (pv 1) rfl)),?_⟩)
  k_go
  refine ⟨a,_,_,t,rfl,T.mk_BadRow.ex,T.cH,.inl ⟨ha,λdx hx ne=>?_⟩⟩
  refine k dx _ hx ne ?_ Ab λb o hb e=>?_
  ·rw [Ah ne.symm];exact Ab
  ·have hbd:b≠dx:=λq=>by rw [q,hx] at e;cases e
   rw [Ah hbd,Ah hb];exact e
theorem Fk:Sc ["text", "reading", "lines", "number", "line", "words", "fields"] ["text"] (top 37):=BE (by lk)
theorem QJ:AS P w K mg base (Rg P w) 15 T.hU.f T.hU.fd ["text"] (spReadX T.ag):=by
 exists T.hU.F.okD Fk
 ·obtain ⟨z,rfl,hz,k1,k2⟩:=h
  have hu:=BU hr
  have hu1:=CG hr
  refine (⟨_,(Ad (Be (i:=1) Fk.nd (DA T.lc (GQ T) (hr.mono (by lia)) rfl T.k9 T.aV.b .nil AH))
  (Ad (Be (i:=2) Fk.nd (Bk L3 Z4 Y4 Ef (pv 0) (Aa Ak Ac)))
  (Ad (BF PassesOwn.leaving rfl (TR rfl T.fu (pv 2)) (FW (n:=2) rfl (Bt (Di (i:=3) Fk.nd) (Bt (Di (i:=4) Fk.nd) Ez)))
  (By (FV (i:=5) Fk.nd rfl (Or.inl rfl) (N':=["word"]) (sel:=[none]) rfl rfl rfl (Cg (Bk L3 Z4 Y4 Ef (pv 4) (Aa Ak Ac))) (BO rfl) (λ_ _ _ _ _=>⟨(Bm (i:=0) (show (["word"]:List Str).Nodup by lk) rfl (Or.inl rfl)),(Fp (Al Kg (pv 0) Ak (Am _))),(pv 0)⟩) rfl)
  (Ad (AA (Al (EI hu) (pv 5) (Ao Ac) (Am _))
  (Ae Jl)
  An)
  (Ad (Be (i:=6) Fk.nd (AB T.dL (Mw T) hr (Aa (AO (v:=.ref T.fma) rfl T.fmm rfl) (Aa (pv 5) (Aa (AO (v:=.ref T.bW.f) rfl T.bW.hm rfl) Ac)))))
  (Ad (AA (PW.pt (HN (Al DJ (pv 6) AF (Am _)) (FU (DF (Br (Bi (pv 1) T.gT T.bH.me (HX T) (hr.mono (by lia)) T.bH.b .nil AH (Aa (Az AK (pv 6) Ai) Ac)))))))
  (Ae (CN Db rfl T.mk_BadRow (Ee T) (hr.mono (by lia)) rfl T.kO T.aI.b (Aa (pv 3) Ac)))
  An)
  (Ae (AJ (Bi (pv 1) T.gT T.aW.me (GO T) (hr.mono (by lia)) T.aW.b .nil AH (Aa (pv 6) (Aa (pv 3) Ac))))))))))
  (Ad (AA (DF (Br (Bp (pv 1) T.gT T.aX.me (GP T) (hr.mono (by lia)) T.aX.b .nil AH)))
  (Ae (CN Db rfl T.mk_BadRow (Ee T) (hr.mono (by lia)) rfl T.kO T.aI.b (Aa (Av AI (by rfl) T.bn Bf (Aa (pv 2) Ac)) Ac)))
  An)
  (Ae (Aj (Ay BC (by rfl) T.gy DD (Aa (Ap (pv 1) rfl) Ac)))))))),?_⟩)
  k_go
  intro x dx hx hdx hxd
  have hx2:upd H dx (.own x) x=none:=by rw [Ah (Ne.symm hxd)];exact hx
  have sm:Af H (upd (upd H dx (.own x)) x (.ins T.al dx [])):=(Af.upd hdx).trans (Af.upd hx2)
  refine ⟨x,dx,rfl,Ab,λpa ua H2 ob h1 h2 n1 n2 n3 B=>⟨rfl,?_⟩⟩
  have s2:Af H H2:=λy u hy=>B _ _ (λe=>by rw [e,hx] at hy;cases hy) (sm _ _ hy)
  have hid:∀ a∈[x,pa,ua],H a=none:=λa ha=>by
   simp only [S0,A2,or_false] at ha
   rcases ha with rfl | rfl | rfl
   ·exact hx
   ·exact sm.free n1
   ·exact sm.free n2
  have oz:Lc z=Pd (Txt.split z ⟨#[10]⟩):=rfl
  have hc:=hz.cnt
  have hL:∀ l∈Txt.split z ⟨#[10]⟩,Rh l/\l.length<=5000:=λl hl=>⟨Lx hz.asc l hl,hz.each l hl⟩
  refine ⟨_,10,rfl,by rw [nl1],C0 hz.len (by kd_p),λq hq=>?_⟩
  generalize Txt.split z ⟨#[10]⟩=L at oz hc hL |-
  have s3:=Af.upd (o:=.lst (L.map V.str)) hq
  have nq:q∉[x,pa,ua]:=λm=>by
   simp only [S0,A2,or_false] at m
   rcases m with rfl | rfl | rfl
   ·obtain ⟨d,f,e,_⟩:=ob.ex
    rw [hq] at e;cases e
   ·rw [hq] at h1;cases h1
   ·rw [hq] at h2;cases h2
  have R0:=RA.first (ob.same s3) (s3 _ _ h1) (s3 _ _ h2) n3
  have hq0:Lj (upd H2 q (.lst (L.map V.str))) [x,pa,ua] q=some (.lst (L.map V.str)):=QR Ab nq
  have sH:Af H (Lj (upd H2 q (.lst (L.map V.str))) [x,pa,ua]):=RF (s2.trans s3) hid
  generalize Lj (upd H2 q (.lst (L.map V.str))) [x,pa,ua]=H0 at R0 hq0 sH
  have hqq:upd H2 q (.lst (L.map V.str)) q=some (.lst (L.map V.str)):=Ab
  generalize upd H2 q (.lst (L.map V.str))=G at R0 hqq |-
  clear hq h1 h2 n1 n2 s2 s3 B ob sm hx2 hid nq
  unfold SN UF
  refine ⟨q,rfl,⟨_,AD.of hqq⟩,?_⟩
  refine Sf (K:=K) (a:=q) (xs:=L.map V.str) (λi σ G=>(∃ s Bs,RA T H0 G x pa ua s Bs i/\Dz (i+1) (L.drop i) s=Dz 1 L ⟨[],[]⟩)/\∃ v3 v4 v5 v6,σ=[some (V.str z),some (V.ref x),some (V.ref q),v3,v4,v5,v6]) ⟨⟨_,_,R0,rfl⟩,_,_,_,_,rfl⟩ ?_ ?_ ?_
  ·rintro i σ G1 hi ⟨⟨s,Bs,R,_⟩,_⟩
   exact AD.of (R.out _ _ hq0)
  ·rintro i y p σ G1 hy ⟨⟨s,Bs,R,e⟩,v3,v4,v5,v6,rfl⟩ hp
   rw [J2] at hy
   obtain ⟨l,hl,rfl⟩:=W2.mp hy
   have hlm:=hL l (j0 hl)
   obtain ⟨lt,el⟩:=Q1.mp hl
   rw [Z5 lt,el] at e
   simp only [Sb,He,MJ]
   k_go
   refine ⟨_,Bc.of Ab,rfl,_,_,rfl,_,_,rfl,rfl,?_⟩
   generalize hG:upd _ p _=G2
   obtain ⟨sp_,zq⟩:=al_s hp hG
   clear hG
   have R1:=R.same sp_
   refine mA λN hN=>?_
   simp only [IA,Od]
   k_go
   have hls:=K9 l ⟨#[32]⟩
   refine ⟨l,32,rfl,by rw [sp1],C0 hlm.2 (by kd_p),λq2 hq2=>⟨q2,rfl,⟨_,AD.of Ab⟩,?_⟩⟩
   have s2:=Af.upd (o:=.lst ((Txt.split l ⟨#[32]⟩).map V.str)) hq2
   refine Fy (K:=K) (a:=q2) (xs:=(Txt.split l ⟨#[32]⟩).map V.str) (λj zs G3=>G3=upd G2 q2 (.lst ((Txt.split l ⟨#[32]⟩).map V.str))/\zs=(((Txt.split l ⟨#[32]⟩).take j).filter λw:Str=>w != "").map V.str) ⟨rfl,rfl⟩ ?_ ?_ ?_ ?_
   ·rintro j zs G3 hj ⟨rfl,rfl⟩
    refine ⟨AD.of Ab,?_⟩
    rw [J0]
    refine C0 (C4 _ _) ?_
    rw [Y2];lia
   ·rw [J0]
    exact C0 hls (C0 (show l.length+2<=5002 by have:=hlm.2;lia) (by kd_p))
   ·rintro j y zs G3 hy ⟨rfl,rfl⟩
    rw [J2] at hy
    obtain ⟨wd,hwd,rfl⟩:=W2.mp hy
    have ef:=Gi (f:=λw:Str=>w != "") hwd
    k_go
    refine ⟨rfl,?_⟩
    by_cases hw:wd=""
    ·rw [if_neg (by simp [hw])] at ef
     rw [ef]
     exact Kv hw rfl
    ·rw [if_pos (by simp [hw])] at ef
     rw [ef]
     exact Ku hw (by rw [A3];rfl)
   rintro zs G3 ⟨rfl,rfl⟩ D hD
   rw [J0,K3]
   have gD:G2 D=none:=s2.free hD
   have s3:=s2.trans (Af.upd (o:=.lst (((Txt.split l ⟨#[32]⟩).filter λw:Str=>w != "").map V.str)) hD)
   have R3:=R1.same s3
   have hD3:upd (upd G2 q2 (.lst ((Txt.split l ⟨#[32]⟩).map V.str))) D (.lst (((Txt.split l ⟨#[32]⟩).filter λw:Str=>w != "").map V.str)) D=some (.lst ((BJ l).map V.str)):=Ab
   generalize upd (upd G2 q2 (.lst ((Txt.split l ⟨#[32]⟩).map V.str))) D (.lst (((Txt.split l ⟨#[32]⟩).filter λw:Str=>w != "").map V.str))=G4 at R3 hD3 |-
   walk_at "n"
   refine KC hD3 λG5 s5=>⟨_,rfl,?_⟩
   have R5:=R3.same s5
   have e':(if BJ l=[] then Dz (i+1+1) (L.drop (i+1)) s else match step s ((i+1:Nat):Int) (BJ l) with | none=>.inl ((i+1:Nat):Int) | some s'=>Dz (i+1+1) (L.drop (i+1)) s')=Dz 1 L ⟨[],[]⟩:=e
   have bad:BJ l≠[]->step s ((i+1:Nat):Int) (BJ l)=none->Lc z=.inl ((i+1:Nat):Int):=λhw hs=>by
    rw [if_neg hw,hs] at e'
    rw [oz]
    unfold Pd
    rw [<- e']
   have wok:=(Us hlm.1 hlm.2).ok
   by_cases hw:BJ l=[]
   ·rw [if_pos hw] at e'
    refine Cw (by rw [hw];rfl) ?_
    exact ⟨⟨s,Bs,R5.mono (U5 _),e'⟩,_,_,_,_,rfl⟩
   ·rw [if_neg hw] at e'
    refine CD (λz=>hw (L5.mp z)) ?_
    refine ⟨D,BJ l,rfl,s5 _ _ hD3,wok,λf1 G6 s6=>?_,λfs f1 lf G6 _ hlf s6=>?_⟩
    ·have hs:step s ((i+1:Nat):Int) (BJ l)=none:=by unfold step;rw [f1]
     show if decide (V.non=V.non)=true then _ else _
     refine Cw rfl ?_
     simp only [Du]
     k_go
     exact ⟨by kd_p,OV (sH.trans (R5.out.trans s6)) (k2 _ (bad hw hs))⟩
    have R6:=R5.same s6
    obtain ⟨z0,r0,ez⟩:∃ z0 r0,BJ l=z0::r0:=by
     cases h:BJ l with
     |nil=>exact absurd h hw
     |cons a b=>exact ⟨a,b,rfl⟩
    have hh:fs.head?=some (.str z0):=Pz (by rw [<- ez];exact f1)
    have fok:Vr fs:=by
     refine ⟨?_,Oi (F:=SL) (by lk) f1⟩
     cases fs with
     |nil=>cases hh
     |cons v t=>cases hh;exact ⟨_,_,rfl⟩
    have hstep:step s ((i+1:Nat):Int) (BJ l)=if CI s z0=true then some (putL s z0 fs ((i+1:Nat):Int)) else none:=by
     unfold step
     rw [f1]
     show (match fs.head? with | some (.str w)=>if CI s w=true then some (putL s w fs ((i+1:Nat):Int)) else none | _=>none)=_
     rw [hh]
    obtain ⟨t0,rfl⟩:∃ t0,fs=.str z0::t0:=by
     cases fs with
     |nil=>cases hh
     |cons v t=>cases hh;exact ⟨_,rfl⟩
    refine CD (λz=>nomatch z) ?_
    refine R6.ob.call ⟨lf,_,0,.str z0,rfl,rfl,AD.of hlf,Au (j:=0) rfl,H0,x,pa,ua,s,Bs,i,z0,rfl,R6,λG7 s7=>⟨_,rfl,?_⟩⟩
    have R7:=R6.same s7
    by_cases ha:CI s z0=true
    ·rw [ha]
     rw [hstep,if_pos ha] at e'
     refine L2.iteF ?_
     exact R7.ob.call ⟨H0,x,pa,ua,s,Bs,i,lf,z0,_,_,rfl,R7,by lia,s7 _ _ hlf,fok,rfl,ha,λG8 Bs' R8=>⟨⟨_,Bs',R8,e'⟩,by simp⟩⟩
    ·rw [Bool.not_eq_true] at ha
     rw [ha]
     have hs:step s ((i+1:Nat):Int) (BJ l)=none:=by rw [hstep,ha];rfl
     refine L2.iteT ?_
     simp only [Du]
     k_go
     exact ⟨by kd_p,OV (sH.trans R7.out) (k2 _ (bad hw hs))⟩
  ·rintro σ G1 ⟨⟨s,Bs,R,e⟩,v3,v4,v5,v6,rfl⟩
   rw [J0,Y8] at e
   have e:.inr s=Dz 1 L ⟨[],[]⟩:=e
   have eo:Lc z=if s.un=[]/\s.pg≠[] then .inr s.pg else .inl (L.length:Int):=by
    rw [oz]
    unfold Pd
    rw [<- e]
   k_go
   refine R.ob.call ⟨H0,x,pa,ua,_,Bs,_,rfl,R,λH1 s1=>⟨_,rfl,?_⟩⟩
   have R1:=R.same s1
   by_cases hok:s.un=[]/\s.pg≠[]
   ·rw [if_pos hok] at eo
    have e1:(s.un.isEmpty&&!s.pg.isEmpty)=true:=by
     rw [hok.1]
     cases h:s.pg with
     |nil=>exact absurd h hok.2
     |cons _ _=>rfl
    rw [e1]
    refine L2.iteF ?_
    refine R1.ob.fld .prog rfl ?_
    obtain ⟨xs,x1,x2⟩:=R1.pr
    refine ⟨pa,rfl,_,.inl ⟨AD.of x1,λl hl=>?_⟩⟩
    have s2:=Af.upd (o:=.tup xs) hl
    exact k1 _ eo _ _ (GB.tup Ab (x2.sameT (Eb s2))) ((sH.trans R1.out).trans s2)
   ·rw [if_neg hok] at eo
    have e1:(s.un.isEmpty&&!s.pg.isEmpty)=false:=by
     cases h:s.un with
     |nil =>
      cases h2:s.pg with
      |nil=>rfl
      |cons a b=>exact absurd ⟨h,by rw [h2];exact λq=>nomatch q⟩ hok
     |cons _ _=>rfl
    rw [e1]
    refine L2.iteT ?_
    simp only [Du]
    k_go
    refine ⟨_,Bu.mpr (.inl ⟨_,AD.of (R1.out _ _ hq0),rfl⟩),by kd_p,?_⟩
    rw [J0]
    exact OV (sH.trans R1.out) (k2 _ eo)
theorem Tz:Sc ["row"] ["row"] (top 19):=BE (by lk)
theorem Ed:CJ P w base T.di 1 Es:=by
 exists T.di.F.ok Tz
 ·obtain ⟨v,n,r,rfl,hv,k⟩:=h
  refine (⟨_,(Ae (Aj (Ay BC (by rfl) T.gy DD (Aa (ER (N':=["place", "row"]) (sel:=[none,some 0]) rfl rfl rfl (Dt (TX (AO (v:=.ref T.pp) rfl T.ppm rfl) (Az As (pv 0) Ai) (Cm Ac) ⟨rfl,rfl,rfl,rfl⟩)) (BO rfl) (λ_ _ _ _ _=>⟨(Bm (i:=0) (show (["place", "row"]:List Str).Nodup by lk) rfl (Or.inl rfl)),CU,(Az (DU (K:=K) rfl) (pv 1) (pv 0))⟩)) Ac)))),?_⟩)
  walk_at "sw"
  obtain ⟨a,rr,rfl,ha,S⟩:=hv.sh
  have hlen:AG r.w≠[]->(V.int r.ln::rr).length+1=Eh r.w:=S.len
  refine ⟨T.pp,T.pkv,rfl,T.pd,a,_,0,.str r.w,rfl,rfl,Bc.of ha,Au (j:=0) rfl,(show 0<=sizeLine by kd_p),λd hd=>⟨.inr r.w,rfl,?_⟩⟩
  obtain ⟨b,hb,hq⟩:∃ b,(valV T.pkv (.inr r.w)).getD (.ref d)=.ref b/\Bc K (upd H d (.tup [])) b ((AG r.w).map λi=>V.int (i:Nat)):=by
   obtain ⟨p1,p2⟩:=T.pv r.w
   by_cases e:AG r.w=[]
   ·rw [p1 e,e]
    exact ⟨d,rfl,Bc.of Ab⟩
   ·obtain ⟨b,h1,h2⟩:=p2 e
    rw [h1]
    exact ⟨b,rfl,h2 _⟩
  refine ⟨b,hb,⟨_,hq⟩,?_⟩
  have pl:(AG r.w).length<=2:=by
   rcases Dv r.w with ⟨_,ep,_⟩ | ⟨_,ep,_⟩ | ⟨_,ep,_⟩ | ⟨_,ep,_⟩ | ⟨_,ep,_⟩ | ⟨_,ep,_⟩ | ⟨_,ep,_⟩ | ⟨ep,_⟩<;>rw [ep]<;>decide
  refine Kr (xs:=(AG r.w).map λi=>V.int (i:Nat)) (λi ys G=>G=upd H d (.tup [])/\ys=((AG r.w).take i).filterMap λj=>(V.str r.w::.int r.ln::rr)[j]?) ⟨rfl,rfl⟩ ?_ ?_ ?_ ?_
  ·rintro i ys G hi ⟨rfl,rfl⟩
   exact ⟨hq,C0 (r8 _ _) (by rw [Y2];lia)⟩
  ·rw [J0];exact C0 pl (by kd_p)
  ·rintro i x ys G hx ⟨rfl,rfl⟩
   rw [J2] at hx
   cases e:(AG r.w)[i]? with
   |none=>rw [e] at hx;cases hx
   |some j =>
    rw [e] at hx
    cases hx
    have hj:=OY hlen j (j0 e)
    have hg:(V.str r.w::.int r.ln::rr)[j]?=some (V.str r.w::.int r.ln::rr)[j]:=Y1 hj
    w_up
    refine ⟨a,_,_,_,rfl,rfl,Bc.of ((Af.upd hd) a _ ha),Au hg,rfl,Tt e hg⟩
  ·rintro ys G ⟨rfl,rfl⟩ D hD
   refine ⟨_,.inl ⟨AD.of Ab,λl hl=>?_⟩⟩
   have sB:=(Af.upd (o:=.tup []) hd).trans (Af.upd (o:=.lst (((AG r.w).take ((AG r.w).map λi=>V.int (i:Nat)).length).filterMap λj=>(V.str r.w::.int r.ln::rr)[j]?)) hD)
   refine k l _ _ (sB.free hl) Ab ?_ ?_ (sB.trans (Af.upd hl))
   ·exact C0 (r8 _ _) (by rw [Y2];lia)
   ·have e:(((AG r.w).take ((AG r.w).map λi=>V.int (i:Nat)).length).filterMap λj=>(V.str r.w::.int r.ln::rr)[j]?)=Cu (.str r.w::.int r.ln::rr):=by
     rw [J0,K3,Ha]
    rw [e] at sB hl |-
    exact S.pa.mono λp q _ z=>z.ts (DQ.of (sB.trans (Af.upd hl)))
theorem JK:Sc ["rows", "listed", "row", "part"] ["rows"] (top 20):=BE (by lk)
theorem Lo (G_parts:CJ P w base T.di 1 Es) (n:Nat) (G_walk:CJ P w base T.hV (n+1) (spDown n)) :
  CJ P w base T.hV (n+2) (Md n):=by
 refine T.hV.F.ok (k:=n+1) JK (λvs H Q E h=>?_) (λcdv A outer s H vs Q E hr h=>?_)
 ·obtain ⟨v,rs,rfl,_⟩:=h
  rfl
 ·obtain ⟨v,rs,rfl,hv,hsz,k⟩:=h
  obtain ⟨b,ys,rfl,hb,hyl,hys⟩:=id hv
  refine (⟨_,(Ad (Be (i:=1) JK.nd (Ao Ac))
  (Ad (BF PassesOwn.never rfl (Dt (pv 0)) (Di (i:=2) JK.nd)
  (Ad (AJ (Bk Y0 V1 T1 AW (pv 1) (Aa (pv 2) Ac)))
  (Ae (BF PassesOwn.never rfl (Dt (AB T.di G_parts hr (Aa (pv 2) Ac))) (Di (i:=3) JK.nd)
  (Ae (AJ (Bk Y0 m5 j5 EY (pv 1) (Aa (AB T.hV G_walk hr (Aa (pv 3) Ac)) Ac))))))))
  (Ae (Aj (pv 1))))),?_⟩)
  k_go
  refine ⟨by kd_p,λl hl=>⟨b,rfl,⟨_,Bc.of ((Af.upd hl) b _ hb)⟩,?_⟩⟩
  refine DV (K:=K) (a:=b) (xs:=ys) (λi σ H2=>∃ (o1 o2:Option V) (us:List V),σ=[some (.ref b),some (.ref l),o1,o2]/\H2 l=some (.lst us)/\BT (BS n H2) us (AC n (rs.take i))/\Af H H2)
   ⟨none,none,[],rfl,Ab,by rw [V6];cases n<;>exact BT.nil,Af.upd hl⟩ (λi σ H2 _ ⟨_,_,_,_,_,_,s2⟩=>Bc.of (s2 b _ hb)) ?_ ?_
  ·rintro i y σ H2 hi ⟨o1,o2,us,rfl,hl2,w2,s2⟩
   obtain ⟨r,hri,hy⟩:=hys.get hi
   cases n with
   |zero=>exact hy.elim
   |succ n =>
   have hle:HB (n+1) (rs.take (i+1))<=1000:=C0 (Gh rs (i+1)) hsz
   have hcut:rs.take (i+1)=rs.take i++[r]:=by rw [Y5,hri];rfl
   rw [hcut,siz_app,Mh] at hle
   rw [hcut,JP,HE]
   have hul:us.length=HB (n+1) (rs.take i):=w2.1
   w_up
   refine ⟨.inl ⟨_,AD.of hl2⟩,l,_,y,rfl,rfl,hl2,E2 (show us.length<1001 by lia) (by kd_p),?_⟩
   have s3:=Ea s2 hl (o:=.lst (us++[y]))
   have t3:DQ H2 (upd H2 l (.lst (us++[y]))):=DQ.updL (λ_ _ h=>h) hl2
   have w3:=(w2.mono λy r _ q=>q.ts t3).snoc (hy.ts (DQ.of s3))
   have l3:upd H2 l (.lst (us++[y])) l=some (.lst (us++[y])):=Ab
   generalize upd H2 l (.lst (us++[y]))=H3 at s3 w3 l3
   refine ⟨y,n,r,rfl,hy.ts (DQ.of s3),λp ps H4 hp hp4 hpl hps s4=>⟨p,rfl,⟨_,Bc.of hp4⟩,?_⟩⟩
   have hne:p≠l:=λe=>by rw [e,l3] at hp;cases hp
   refine DV (K:=K) (a:=p) (xs:=ps) (λj σ H5=>∃ (o2:Option V) (us:List V),σ=[some (.ref b),some (.ref l),some y,o2]/\H5 l=some (.lst us)/\BT (BS (n+1) H5) us (AC (n+1) (rs.take i)++r::(r.ps.take j).flatMap (AC n))/\Af H H5/\H5 p=some (.tup ps)/\DQ H4 H5)
    ⟨o2,_,rfl,s4 l _ l3,by rw [V6,List.flatMap_nil];exact w3.mono λy r _ q=>q.ts (DQ.of s4),s3.trans s4,hp4,λ_ _ h=>h⟩ (λj σ H5 _ ⟨_,_,_,_,_,_,h5,_⟩=>Bc.of h5) ?_ ?_
   ·rintro j pt σ H5 hj ⟨o3,vs,rfl,hl5,w5,s5,hp5,t5⟩
    obtain ⟨q,hq,hpq⟩:=hps.get hj
    have hle3:=Gh (f:=AC n) r.ps (j+1)
    rw [BV hq,K0] at hle3
    have hsum:(r.ps.flatMap (AC n)).length=(r.ps.map (HB n)).sum:=by
     rw [List.length_flatMap];rfl
    have hvl:vs.length=HB (n+1) (rs.take i)+(1+((r.ps.take j).flatMap (AC n)).length):=by
     rw [w5.1,K0,v0]
     show HB (n+1) (rs.take i)+_=_
     lia
    have hwq:(AC n q).length=HB n q:=rfl
    w_up
    refine ⟨.inl ⟨_,AD.of hl5⟩,pt,q,rfl,hpq.ts t5,by lia,λl2 zs H6 hl6 h6 w6 s6=>?_⟩
    refine ⟨l,l2,_,_,rfl,rfl,s6 l _ hl5,h6,?_,?_⟩
    ·rw [w6.1]
     exact C0 (show vs.length+(AC n q).length<=1001 by lia) (by kd_p)
    ·have t7:DQ H6 (upd H6 l (.lst (vs++zs))):=DQ.updL (λ_ _ h=>h) (s6 l _ hl5)
     refine ⟨_,Ab,?_,Ea (s5.trans s6) hl,?_,λc xs h=>t7 c xs (s6 _ _ (t5 c xs h))⟩
     ·rw [BV hq]
      have:=(w5.mono λy r _ q=>(q.ts (DQ.of s6)).ts t7).app (w6.mono λy r _ q=>(q.ts t7).up)
      rw [E7,f6] at this
      exact this
     ·rw [Ah hne]
      exact s6 p _ hp5
   ·rintro σ H5 ⟨o3,vs,rfl,hl5,w5,s5,hp5,t5⟩
    refine ⟨_,_,rfl,_,hl5,?_,s5⟩
    rw [hps.1,K3] at w5
    exact w5
  ·rintro σ H2 ⟨o1,o2,us,rfl,hl2,w2,s2⟩
   rw [hys.1,K3] at w2
   exact k l us H2 hl hl2 w2 s2
theorem HS (T:Tx P w K mg) (G_parts:CJ P w base T.di 1 Es):∀ n,CJ P w base T.hV (n+2) (Md n)
 |0=>Lo T G_parts 0 Dc
 |n+1=>Lo T G_parts (n+1) (HS T G_parts n)
theorem Nv:Sc ["row"] ["row"] (top 53):=BE (by lk)
theorem NP:CJ P w base T.eD 1 (Nl false):=by
 exists T.eD.F.ok Nv
 ·obtain ⟨v,n,r,rfl,hv,k⟩:=h
  exact ⟨_,(Ae (Aj Ai)),k⟩
theorem KY:Sc ["row"] ["row"] (top 54):=BE (by lk)
theorem Li:CJ P w base T.cL 1 (Nl true):=by
 exists T.cL.F.ok KY
 ·obtain ⟨v,n,r,rfl,hv,k⟩:=h
  refine (⟨_,(Ae (Aj (Bq (Al AQ (Az As (pv 0) Ai) Ak (Am _)) Ai Ai))),?_⟩)
  k_go
  obtain ⟨a,rr,rfl,ha,S⟩:=hv.sh
  refine ⟨a,_,_,_,rfl,rfl,Bc.of ha,Au (j:=0) rfl,rfl,?_⟩
  unfold Pc at k
  rw [if_pos rfl] at k
  by_cases e:r.w="begin"
  ·rw [if_pos e] at k
   exact Cw (by rw [e]) k
  ·rw [if_neg e] at k
   exact CD (λq=>e (V.str.inj q)) k
theorem Nx:Sc ["row", "own", "ahead", "within"] ["row", "own", "ahead"] (top 55):=BE (by lk)
theorem PV {f:Addr} {o:Bool} (G_parts:CJ P w base T.di 1 Es) (n:Nat) (G_counted:CJ P w base T.eE (2*n+2) (Go f o n)):CJ P w base T.jL (2*n+3) (Qt f o n):=by
 refine T.jL.F.ok (k:=2*n+2) Nx (λvs H Q E h=>?_) (λcdv A outer s H vs Q E hr h=>?_)
 ·obtain ⟨ah,A,v,d,r,rfl,_⟩:=h
  rfl
 ·obtain ⟨ah,A,v,d,r,rfl,hv,hkn,hA,k⟩:=h
  have hu1:=CG hr
  refine (⟨_,(Ad (AA (Al AQ (Az As (pv 0) Ai) Ak (Am _))
  (Ae (Aj (Cv hu1 (pv 2) (Az As (pv 0) Ai) (λ_ _=>rfl))))
  An)
  (Ad (Be (i:=3) Nx.nd (Av (Oy rfl) (by rfl) T.mq Vj (Aa (ER (N':=["part", "own", "ahead"]) (sel:=[none,some 1,some 2]) rfl rfl rfl (Dt (AB T.di G_parts hr (Aa (pv 0) Ac))) (BO rfl) (λ_ _ _ _ _=>⟨(Bm (i:=0) (show (["part", "own", "ahead"]:List Str).Nodup by lk) rfl (Or.inl rfl)),CU,(AB T.eE G_counted hr (Aa (pv 0) (Aa (pv 1) (Aa (pv 2) Ac))))⟩)) Ac)))
  (Ae (Aj (Bq (Al AQ (Az As (pv 0) Ai) Ak (Am _)) (AL IQ (pv 3) (Az As (pv 0) Ai)) (pv 3)))))),?_⟩)
  k_go
  refine hv.ix0 ⟨rfl,?_⟩
  unfold addP at k
  rw [HE] at hkn
  by_cases e:r.w="begin"
  ·rw [if_pos e] at k
   obtain ⟨kvs,hd,_,hvv⟩:=hA
   refine Cw (by rw [e]) ?_
   walk_at "sd"
   have hg:=KO.k (k:=(.inr (r.x 1):Bw)) hd
   rw [hvv _ (hkn r W0 e)] at hg
   exact (hv.ixB e).2.1 ⟨_,hg,k H (Af.refl H)⟩
  ·rw [if_neg e] at k
   refine CD (λq=>e (V.str.inj q)) ?_
   walk_at "sw"
   refine ⟨v,n,r,rfl,hv,λp us H1 hp h1 hl hus s1=>⟨p,rfl,⟨_,Bc.of h1⟩,?_⟩⟩
   refine Kr (K:=K) (a:=p) (xs:=us) (λi ys G=>Af H1 G/\ys=(r.ps.take i).map λq=>V.int (JH o A n q)) ⟨Af.refl _,rfl⟩ ?_ (C0 hl (by kd_p)) ?_ ?_
   ·rintro i ys G hi ⟨sG,rfl⟩
    exact ⟨Bc.of (sG _ _ h1),by rw [J0,Y2];lia⟩
   ·rintro i x ys G hi ⟨sG,rfl⟩
    obtain ⟨q,hq,hx⟩:=hus.get hi
    w_up
    refine ⟨ah,A,x,d,q,rfl,hx.ts (DQ.of sG),λz hz=>hkn z (N0 _ (x5.mpr ⟨q,j0 hq,hz⟩)),hA.same (s1.trans sG),λG2 s2=>⟨sG.trans s2,?_⟩⟩
    exact Hg (f:=λq=>V.int (JH o A n q)) hq
   ·rintro ys G ⟨sG,rfl⟩ D hD
    rw [hus.1,K3]
    have s3:=(s1.trans sG).trans (Af.upd (o:=.lst (r.ps.map λq=>V.int (JH o A n q))) hD)
    have hs3:(upd G D (.lst (r.ps.map λq=>V.int (JH o A n q)))) D=some (.lst (r.ps.map λq=>V.int (JH o A n q))):=Ab
    generalize upd G D (.lst (r.ps.map λq=>V.int (JH o A n q)))=G3 at s3 hs3
    have hv3:=hv.ts (DQ.of s3)
    refine ⟨r.ps.map (JH o A n),AD.of (by rw [hs3,y6];rfl),hv3.ix0 ⟨rfl,?_⟩⟩
    by_cases e2:r.w="repeat"
    ·obtain ⟨a,rr,rfl,ha,S⟩:=hv3.sh
     obtain ⟨q,er,h1,h2⟩:=S.ar.re e2
     rw [er] at ha
     exact Cw (by rw [e2]) ⟨a,_,_,.int r.k,rfl,rfl,Bc.of ha,Au (j:=2) rfl,r.k,rfl,.inr ⟨by lia,by lia⟩,k _ s3⟩
    ·obtain ⟨a,rr,rfl,ha,S⟩:=hv3.sh
     refine CD (λq=>e2 (V.str.inj q)) ?_
     rw [S.ar.on e2,Int.mul_one] at k
     exact k _ s3
theorem OT:Sc ["rows", "own", "ahead"] ["rows", "own", "ahead"] (top 56):=BE (by lk)
theorem Ir {f:Addr} {fd:FuncData} {o:Bool} (kp_own:T2 K (.ref f)=true) (b_own:Ci K fd ["row"] []) (G_own:AS P w K mg base CX0 1 f fd ["row"] (Nl o)) (n:Nat) (G_added:CJ P w base T.jL (2*n+1) (Ts f o n)):CJ P w base T.eE (2*n+2) (Go f o n):=by
 refine T.eE.F.ok (k:=2*n+1) OT (λvs H Q E h=>?_) (λcdv A outer s H vs Q E hr h=>?_)
 ·obtain ⟨ah,A,v,d,rs,rfl,_⟩:=h
  rfl
 ·obtain ⟨ah,A,v,d,rs,rfl,ok,hkn,hA,k⟩:=h
  refine (⟨_,(Ae (Aj (Av (Oy rfl) (by rfl) T.mq Vj (Aa (ER (N':=["row", "own", "ahead"]) (sel:=[none,some 1,some 2]) rfl rfl rfl (Dt (pv 0)) (BO rfl) (λ_ _ _ _ _=>⟨(Bm (i:=0) (show (["row", "own", "ahead"]:List Str).Nodup by lk) rfl (Or.inl rfl)),CU,(AL Ft (Kf (pv 1) G_own (hr.mono (by lia)) kp_own b_own .nil AH (Aa (pv 0) Ac)) (AB T.jL G_added hr (Aa (pv 0) (Aa (pv 1) (Aa (pv 2) Ac)))))⟩)) Ac)))),?_⟩)
  walk_at "sw"
  obtain ⟨b,ys,rfl,hb,hl,hys⟩:=id ok
  refine ⟨b,rfl,⟨_,Bc.of hb⟩,?_⟩
  cases n with
  |zero =>
   obtain ⟨rfl,rfl⟩:=hys.emp λ_ _ z=>z
   refine Kr (K:=K) (a:=b) (xs:=[]) (λi zs G=>Af H G/\zs=[]) ⟨Af.refl _,rfl⟩ (λi zs G _ ⟨sG,e⟩=>⟨Bc.of (sG _ _ hb),by rw [e];exact N1 _⟩) (by kd_p) (λi y zs G hi=>by cases hi) ?_
   rintro zs G ⟨sG,rfl⟩ D hD
   exact ⟨[],AD.of (by rw [Ab];rfl),k _ (sG.trans (Af.upd hD))⟩
  |succ n =>
   rw [cnt_eq] at k
   refine Kr (K:=K) (a:=b) (xs:=ys) (λi zs G=>Af H G/\zs=(rs.take i).map λr=>V.int (Pc o r+addP o A n r)) ⟨Af.refl _,rfl⟩ ?_ (C0 hl (by kd_p)) ?_ ?_
   ·rintro i zs G hi ⟨sG,rfl⟩
    exact ⟨Bc.of (sG _ _ hb),by rw [J0,Y2];lia⟩
   ·rintro i y zs G hi ⟨sG,rfl⟩
    obtain ⟨r,hr2,hy⟩:=hys.get hi
    w_up
    have hyG:=hy.ts (DQ.of sG)
    refine ⟨y,n,r,rfl,hyG,ah,A,y,d,r,rfl,hyG,λz hz=>hkn z (SB (j0 hr2) hz),hA.same sG,λG2 s2=>⟨_,rfl,_,rfl,sG.trans s2,?_⟩⟩
    exact Hg (f:=λr=>V.int (Pc o r+addP o A n r)) hr2
   ·rintro zs G ⟨sG,rfl⟩ D hD
    rw [hys.1,K3]
    exact ⟨rs.map λr=>Pc o r+addP o A n r,AD.of (by rw [Ab,y6];rfl),k _ (sG.trans (Af.upd hD))⟩
theorem Kl (T:Tx P w K mg) {f:Addr} {fd:FuncData} {o:Bool} (kp_own:T2 K (.ref f)=true) (b_own:Ci K fd ["row"] []) (G_own:AS P w K mg base CX0 1 f fd ["row"] (Nl o)) (G_parts:CJ P w base T.di 1 Es):∀ n,CJ P w base T.eE (2*n+2) (Go f o n)
 |0=>Ir T kp_own b_own G_own 0 Dc
 |n+1=>Ir T kp_own b_own G_own (n+1) (PV T G_parts n (Kl T kp_own b_own G_own G_parts n))
theorem Hl:Sc ["program", "own", "itself", "ahead", "errand"] ["program", "own", "itself"] (top 57):=BE (by lk)
theorem Mz {f:Addr} {o:Bool} (G_counted:CJ P w base T.eE 16 (Go f o 7)):CJ P w base T.gS 17 (Nm f o):=by
 refine T.gS.F.ok (k:=16) Hl (λvs H Q E h=>?_) (λcdv A outer s H vs Q E hr h=>?_)
 ·obtain ⟨v,it,es,rfl,_⟩:=h
  rfl
 ·obtain ⟨v,it,es,rfl,hP,hne,hkn,k⟩:=h
  have hu1:=CG hr
  refine (⟨_,(Ad (Be (i:=3) Hl.nd BY)
  (Ad (BF PassesOwn.never rfl (Dt (pv 0)) (Di (i:=4) Hl.nd)
  (Ae (Fs hu1 (pv 3) (Az As (pv 4) Ai) (AL Ft (pv 2) (AB T.eE G_counted hr (Aa (Az As (pv 4) Ai) (Aa (pv 1) (Aa (pv 3) Ac))))) rfl)))
  (Ae (Aj (Cv hu1 (pv 3) (Az As (Az As (pv 0) (Jm FP Ai)) Ai) (λ_ _=>rfl)))))),?_⟩)
  k_go
  intro d hd
  obtain ⟨p,ps,rfl,hp,hl,hps⟩:=hP
  have sd:Af H (upd H d (.dK [])):=Af.upd hd
  refine ⟨p,rfl,⟨_,Bc.of (sd _ _ hp)⟩,DV (K:=K) (a:=p) (xs:=ps) (λi σ G=>∃ v4,σ=[some (.ref p),some (.ref f),some (.int it),some (.ref d),v4]/\Af H G/\∃ kvs,G d=some (.dK kvs)/\kvs.length<=i/\∀ m∈(es.take i).map Er.nm,valV kvs (.inr m:Bw)=some (.int (AP o it 7 (es.take i) m))) ?_ ?_ ?_ ?_⟩
  ·exact ⟨none,rfl,sd,[],Ab,P0 _,λm hm=>by cases hm⟩
  ·rintro i σ G _ ⟨_,_,sG,_⟩
   exact Bc.of (sG _ _ hp)
  ·rintro i y σ G hi ⟨v4,rfl,sG,kvs,hk,hkl,hkv⟩
   obtain ⟨e,he,hy⟩:=hps.get hi
   obtain ⟨q,u,rfl,h1,h2,h3⟩:=hy
   have hlt:i<es.length:=(Q1.mp he).1
   w_up
   simp only [Ka]
   w_up
   refine ⟨q,_,_,_,rfl,rfl,Bc.of (sG _ _ h1),Au (j:=3) rfl,_,AP o it 7 (es.take i),u,d,e.rows,rfl,h2.ts (DQ.of sG),hkn i e he,⟨kvs,hk,by lia,hkv⟩,λG2 s2=>⟨_,rfl,q,_,_,_,rfl,rfl,Bc.of (s2 _ _ (sG _ _ h1)),Au (j:=2) rfl,?_⟩⟩
   refine ⟨_,Qf.k (k:=(.inr e.nm:Bw)) (s2 _ _ hk) (Dq (by lia)),λc o' e=>by rw [Ah (AE e hd)];exact s2 _ _ (sG _ _ e),_,Ab,C0 (BB _ _ _) (N3 hkl),λm hm=>?_⟩
   rw [HF,AP_snoc he]
   unfold SU
   by_cases em:m=e.nm
   ·rw [if_pos (by rw [em]),if_pos em]
   ·rw [if_neg (λz=>em (Sum.inr.inj z)),if_neg em]
    refine hkv m ?_
    rw [Y5,he,A3] at hm
    rcases Q3.mp hm with hm | hm
    ·exact hm
    ·exact absurd (by simpa using hm) em
  ·rintro σ G ⟨v4,rfl,sG,kvs,hk,hkl,hkv⟩
   walk_at "sd"
   rw [hps.1,K3] at hkv
   obtain ⟨y,e,hq,he⟩:∃ q e,ps[ps.length-1]?=some q/\es[ps.length-1]?=some e:=by
    have:0<es.length:=Q5.mpr hne
    have h1:ps.length-1<ps.length:=by rw [hps.1];lia
    exact ⟨_,_,Y1 h1,Y1 (by rw [<- hps.1];exact h1)⟩
   obtain ⟨q,u,rfl,h1,h2⟩:=hps.2 _ y e hq he
   have eL:Ej es=e:=by
    unfold Ej
    rw [B7,n8,<- hps.1,he]
    rfl
   refine ⟨p,_,_,.ref q,rfl,rfl,Bc.of (sG _ _ hp),Rb hq,q,_,_,_,rfl,rfl,Bc.of (sG _ _ h1),Au (j:=2) rfl,?_⟩
   have hg:=KO.k (k:=(.inr e.nm:Bw)) hk
   rw [hkv e.nm (E5.mpr ⟨e,j0 he,rfl⟩)] at hg
   rw [eL] at k
   exact ⟨_,hg,k G sG⟩
theorem Kj {f:Addr} {fd:FuncData} {o:Bool} (kp_own:T2 K (.ref f)=true) (b_own:Ci K fd ["row"] []) (G_own:AS P w K mg base CX0 1 f fd ["row"] (Nl o)) (G_parts:CJ P w base T.di 1 Es):CJ P w base T.gS 17 (Nm f o):=Mz T (Kl T kp_own b_own G_own G_parts 7)
theorem RE:Sc ["program"] ["program"] (top 58):=BE (by lk)
theorem RM:CJ P w base T.jO 18 (Nj false 1):=by
 exists T.jO.F.ok RE
 ·obtain ⟨v,es,rfl,hP,hne,hk,k⟩:=h
  refine (⟨_,(Ae (Aj (AB T.gS (Kj T T.eD.F.kp T.eD.b (NP T) (Ed T)) hr (Aa (pv 0) (Aa (AO (v:=.ref T.eD.f) rfl T.eD.hm rfl) (Aa Ai Ac)))))),?_⟩)
  k_go
  exact ⟨v,1,es,rfl,hP,hne,hk,k⟩
theorem TB:Sc ["program"] ["program"] (top 59):=BE (by lk)
theorem Ug:CJ P w base T.kB 18 (Nj true 0):=by
 exists T.kB.F.ok TB
 ·obtain ⟨v,es,rfl,hP,hne,hk,k⟩:=h
  refine (⟨_,(Ae (Aj (AB T.gS (Kj T T.cL.F.kp T.cL.b (Li T) (Ed T)) hr (Aa (pv 0) (Aa (AO (v:=.ref T.cL.f) rfl T.cL.hm rfl) (Aa Ai Ac)))))),?_⟩)
  k_go
  exact ⟨v,0,es,rfl,hP,hne,hk,k⟩
theorem Fn:Sc ["self", "line", "word"] ["self", "line", "word"] (Ag (top 7) 0):=BE (by lk)
theorem AX:AS P w K mg base CX0 1 T.ai.f T.ai.fd ["self", "line", "word"] (Qs T.aa):=by
 exists T.ai.F.ok Fn
 ·obtain ⟨a,v,u,t,rfl,ha,k⟩:=h
  refine (⟨_,(Ad (Ms (pv 0) (pv 1) rfl)
  (Ae (Ms (pv 0) (pv 2) rfl))),?_⟩)
  k_go
  refine ⟨a,_,_,t,rfl,T.mk_BadProgram.ex,T.bg,.inl ⟨ha,λdx hx ne=>⟨a,_,_,t,rfl,T.mk_BadProgram.ex,T.bj,.inr ⟨dx,_,?_,Ab,by show 1<1000;decide,?_⟩⟩⟩⟩
  ·rw [Ah ne.symm];exact Ab
  ·refine k dx _ hx ne ?_ Ab λb o hb e=>?_
   ·rw [Ah ne.symm,Ah ne.symm];exact Ab
   ·have hbd:b≠dx:=λq=>by rw [q,hx] at e;cases e
    rw [Ah hbd,Ah hbd,Ah hb];exact e
theorem IF:Sc ["self", "deep", "in_last", "groups_round", "closing"] ["self", "deep", "in_last", "groups_round", "closing"] (Ag (top 67) 0):=BE (by lk)
theorem EU:AS P w K mg base CX0 1 T.bo.f T.bo.fd ["self", "deep", "in_last", "groups_round", "closing"] (Me T.am):=by
 exists T.bo.F.ok IF
 ·obtain ⟨p,dx,d,l,t,c,rfl,hp,k⟩:=h
  refine (⟨_,(Ad (Aw (pv 0) (pv 1) rfl)
  (Ad (Aw (pv 0) (pv 2) rfl)
  (Ad (Aw (pv 0) (pv 3) rfl)
  (Ae (Aw (pv 0) (pv 4) rfl))))),?_⟩)
  k_go
  refine ⟨_,_,_,hp,T.bI,T.bV,(by show 0<1000;decide),_,_,_,Ab,T.bI,T.gb,(by show 1<1000;decide),_,_,_,Ab,T.bI,T.ap,?_,_,_,_,Ab,T.bI,T.iz,?_,?_⟩
  ·show (AM _ _ [_]).length<1000
   rw [AM,if_neg (by lk)]
   show 2<1000
   decide
  ·show (AM _ _ (AM _ _ [_])).length<1000
   rw [AM,if_neg (by lk)]
   show 3<1000
   decide
  ·rw [LY,LY,LY,flS_mk]
   exact k
theorem DY:Sc ["row", "spot", "place", "in_last", "groups_round"] ["row", "spot", "place"] (top 68):=BE (by lk)
theorem Ki:CJ P w base T.db 3 (IC T.am):=by
 exists T.db.F.ok DY
 ·obtain ⟨v,s,n,r,sp,i,rfl,hv,hs,hg,k⟩:=h
  refine (⟨_,(Ad (Be (i:=3) DY.nd (NG (Ap (pv 1) rfl) (Cd (Co (AV AQ (Az As (pv 0) Ai) Ak (Am _)) (Cd (AV AQ (pv 2) Ai (Am _)))))))
  (Ad (Be (i:=4) DY.nd (AL FX (Ap (pv 1) rfl) (Bq (Al AQ (Az As (pv 0) Ai) Ak (Am _)) (Cm (Aa (Az As (pv 0) Ai) Ac)) (Cm Ac))))
  (Ae (Aj (EA T.lj (EU T) (hr.mono (by lia)) rfl T.lh T.bo.b .nil AH (Aa (AL Ft (Ap (pv 1) rfl) Ai) (Aa (pv 3) (Aa (pv 4) (Aa Ec Ac))))))))),?_⟩)
  k_go
  have mk:∀ (b:Bool) (t:Addr) (G:Hp),b=(sp.within r i).last->G t=some (.tup ((sp.within r i).gr.map V.str))->Af H G->∀ e dx,G e=none->G dx=none->dx≠e->Me T.am [.ref e,.int (sp.deep+1),.bl b,.ref t,.bl false] (upd (upd G dx (.own e)) e (.ins T.am dx [])) (λx H1=>x=.non/\Q (.ref e) H1) E0:=λb t G hb ht sG e dx he hdx ne=>by
   have s2:Af G (upd (upd (upd G dx (.own e)) e (.ins T.am dx [])) e (.ins T.am dx (flS (sp.deep+1) b t false))):=λc o hc=>by
    rw [Ah (AE hc he),Ah (AE hc he),Ah (AE hc hdx)]
    exact hc
   refine ⟨e,dx,_,b,t,false,rfl,Ab,rfl,k e _ ⟨e,dx,t,rfl,?_,s2 _ _ ht,?_⟩ (sG.trans s2)⟩
   ·rw [Ab,hb];rfl
   ·show (sp.gr++_).length<=100
    rw [K0]
    split
    ·rw [Y2];lia
    ·simp only [j3];lia
  refine hs.last T.bI T.gb ⟨_,rfl,?_⟩
  by_cases e1:sp.last=true
  ·rw [if_pos e1]
   ·refine hs.grp T.bI T.ap λt ht=>hv.ix0 ⟨rfl,?_⟩
    by_cases e3:r.w="group"
    ·refine Cw (by rw [e3]) (hv.ix2 (.inl e3) ⟨by kd_p,λp hp=>?_⟩)
     have s1:=Af.upd (o:=.tup [.str (r.x 0)]) hp
     refine Jf (ys:=[r.x 0]) (s1 _ _ ht) Ab (by simp only [v0,j3];lia) λq G sG hq=>(hs.same (s1.trans sG)).deep T.bI T.bV ⟨_,rfl,?_⟩
     exact mk true q G (by unfold Fg.within;simp [e1]) (by rw [hq];unfold Fg.within;rw [if_pos e3,hv.gr1 e3]) (s1.trans sG)
    ·refine CD (λq=>e3 (V.str.inj q)) ⟨by kd_p,λp hp=>?_⟩
     have s1:=Af.upd (o:=.tup []) hp
     refine Jf (ys:=[]) (s1 _ _ ht) Ab (by simp only [j3];lia) λq G sG hq=>(hs.same (s1.trans sG)).deep T.bI T.bV ⟨_,rfl,?_⟩
     exact mk true q G (by unfold Fg.within;simp [e1]) (by rw [hq];unfold Fg.within;rw [if_neg e3]) (s1.trans sG)
  ·rw [if_neg e1]
   refine hv.ix0 ⟨rfl,?_⟩
   by_cases e2:r.w="do"
   ·refine Cw (by rw [e2]) ⟨rfl,?_⟩
    ·refine hs.grp T.bI T.ap λt ht=>hv.ix0 ⟨rfl,?_⟩
     by_cases e3:r.w="group"
     ·refine Cw (by rw [e3]) (hv.ix2 (.inl e3) ⟨by kd_p,λp hp=>?_⟩)
      have s1:=Af.upd (o:=.tup [.str (r.x 0)]) hp
      refine Jf (ys:=[r.x 0]) (s1 _ _ ht) Ab (by simp only [v0,j3];lia) λq G sG hq=>(hs.same (s1.trans sG)).deep T.bI T.bV ⟨_,rfl,?_⟩
      exact mk (decide (((i:Nat):Int)=1)) q G (by unfold Fg.within;simp [e1,e2];lia) (by rw [hq];unfold Fg.within;rw [if_pos e3,hv.gr1 e3]) (s1.trans sG)
     ·refine CD (λq=>e3 (V.str.inj q)) ⟨by kd_p,λp hp=>?_⟩
      have s1:=Af.upd (o:=.tup []) hp
      refine Jf (ys:=[]) (s1 _ _ ht) Ab (by simp only [j3];lia) λq G sG hq=>(hs.same (s1.trans sG)).deep T.bI T.bV ⟨_,rfl,?_⟩
      exact mk (decide (((i:Nat):Int)=1)) q G (by unfold Fg.within;simp [e1,e2];lia) (by rw [hq];unfold Fg.within;rw [if_neg e3]) (s1.trans sG)
   ·refine CD (λq=>e2 (V.str.inj q)) ?_
    ·refine hs.grp T.bI T.ap λt ht=>hv.ix0 ⟨rfl,?_⟩
     by_cases e3:r.w="group"
     ·refine Cw (by rw [e3]) (hv.ix2 (.inl e3) ⟨by kd_p,λp hp=>?_⟩)
      have s1:=Af.upd (o:=.tup [.str (r.x 0)]) hp
      refine Jf (ys:=[r.x 0]) (s1 _ _ ht) Ab (by simp only [v0,j3];lia) λq G sG hq=>(hs.same (s1.trans sG)).deep T.bI T.bV ⟨_,rfl,?_⟩
      exact mk false q G (by unfold Fg.within;simp [e1,e2]) (by rw [hq];unfold Fg.within;rw [if_pos e3,hv.gr1 e3]) (s1.trans sG)
     ·refine CD (λq=>e3 (V.str.inj q)) ⟨by kd_p,λp hp=>?_⟩
      have s1:=Af.upd (o:=.tup []) hp
      refine Jf (ys:=[]) (s1 _ _ ht) Ab (by simp only [j3];lia) λq G sG hq=>(hs.same (s1.trans sG)).deep T.bI T.bV ⟨_,rfl,?_⟩
      exact mk false q G (by unfold Fg.within;simp [e1,e2]) (by rw [hq];unfold Fg.within;rw [if_neg e3]) (s1.trans sG)
theorem CM:Sc ["row", "spot", "listed", "place", "part", "inner_spot", "inner"] ["row", "spot"] (top 69):=BE (by lk)
theorem GY (G_parts:CJ P w base T.di 1 Es) (G_spot_within:CJ P w base T.db 3 (IC T.am)) (n:Nat) (G_spots_in:CJ P w base T.eF (n+3) (SZ T.am n)):CJ P w base T.eF (n+4) (JJ T.am n):=by
 refine T.eF.F.ok (k:=n+3) CM (λvs H Q E h=>?_) (λcdv A outer s H vs Q E hr h=>?_)
 ·obtain ⟨v,s,r,sp,rfl,_⟩:=h
  rfl
 ·obtain ⟨v,s,r,sp,rfl,hv,hn7,hs,hg,hsz,k⟩:=h
  cases n with
  |zero=>exact hv.elim
  |succ n =>
  refine (⟨_,(Ad (Be (i:=2) CM.nd (Ao (Aa (Cm (Aa (pv 0) (Aa (pv 1) Ac))) Ac)))
  (Ad (BF PassesOwn.never rfl (NF rfl T.fu (Aa (AB T.di G_parts hr (Aa (pv 0) Ac)) Ac)) (FW (n:=2) rfl (Bt (Di (i:=3) CM.nd) (Bt (Di (i:=4) CM.nd) Ez)))
  (Ad (Be (i:=5) CM.nd (AB T.db G_spot_within hr (Aa (pv 0) (Aa (pv 1) (Aa (pv 3) Ac)))))
  (Ae (BF PassesOwn.never rfl (Dt (pv 4)) (Di (i:=6) CM.nd)
  (Ae (AJ (Bk Y0 m5 j5 EY (pv 2) (Aa (AB T.eF G_spots_in hr (Aa (pv 6) (Aa (pv 5) Ac))) Ac))))))))
  (Ae (Aj (pv 2))))),?_⟩)
  k_go
  rw [Mh] at hsz
  refine ⟨by kd_p,λp hp=>⟨by kd_p,λl hl=>?_⟩⟩
  have s1:=Af.upd (o:=.tup [v,s]) hp
  have p1:upd H p (.tup [v,s]) p=some (.tup [v,s]):=Ab
  have lH:H l=none:=s1.free hl
  generalize upd H p (.tup [v,s])=H1 at hl s1 p1
  have s2:=Af.upd (o:=.lst [.ref p]) hl
  have l2:upd H1 l (.lst [.ref p]) l=some (.lst [.ref p]):=Ab
  have p2:=s2 _ _ p1
  have s02:=s1.trans s2
  generalize upd H1 l (.lst [.ref p])=H2 at s2 l2 p2 s02
  have hne:l≠p:=λe=>by rw [e,p2] at l2;cases l2
  have w2:BT (FK T.am H2) [.ref p] [(r,sp)]:=BT.nil.snoc ⟨p,v,s,rfl,p2,(hv.ts (DQ.of s02)).le hn7,hs.same s02⟩
  refine ⟨v,n,r,rfl,hv.ts (DQ.of s02),λq ps H3 hq h3 hpl hps s3=>?_⟩
  have sp3:=hs.same (s02.trans s3)
  have hv3:=hv.ts (DQ.of (s02.trans s3))
  refine Exists.intro q ⟨rfl,⟨_,Bc.of h3⟩,?_⟩
  refine LL (K:=K) (a:=q) (xs:=ps) (λj σ G=>∃ (o3 o4 o5 o6:Option V) (us:List V),σ=[some v,some s,some (.ref l),o3,o4,o5,o6]/\G l=some (.lst us)/\BT (FK T.am G) us ((r,sp)::(r.ps.zipIdx.take j).flatMap λq=>q.1.flatMap (BP n (sp.within r q.2)))/\Af H G/\KL H3 G) ?_ ?_ ?_ ?_
  ·exact ⟨none,none,none,none,_,rfl,s3 _ _ l2,w2.mono λy q _ z=>z.same s3,s02.trans s3,KL.refl _⟩
  ·rintro j σ G _ ⟨_,_,_,_,_,_,_,_,_,kG⟩
   exact Bc.of (kG.ts _ _ h3)
  ·rintro j x q2 σ G hj ⟨o3,o4,o5,o6,us,rfl,hlG,wG,sG,kG⟩ hq2
   obtain ⟨pt,hpt,hx⟩:=hps.get hj
   have hz:=Sy hpt
   have hle:=Gh (f:=λq:List Rw×Nat=>q.1.flatMap (BP n (sp.within r q.2))) r.ps.zipIdx (j+1)
   have htot:((r.ps.zipIdx).flatMap λq=>q.1.flatMap (BP n (sp.within r q.2))).length+1=1+(r.ps.map (HB n)).sum:=by
    have e:=IB (n+1) sp r
    rw [Mh] at e
    rw [<- e];rfl
   rw [BV hz,K0] at hle
   rw [BV hz]
   have hwl:us.length=1+((r.ps.zipIdx.take j).flatMap λq=>q.1.flatMap (BP n (sp.within r q.2))).length:=by
    rw [wG.1,v0];lia
   dsimp only at hle
   generalize hpre:(r.ps.zipIdx.take j).flatMap (λq=>q.1.flatMap (BP n (sp.within r q.2)))=pre at wG hle hwl
   refine ⟨q2,_,rfl,Bc.of Ab,rfl,?_⟩
   simp only [He,MJ]
   w_up
   have x1:=Af.upd (o:=.tup [.int (j:Nat),x]) hq2
   have kG1:=kG.trans (KL.of x1)
   have sG1:=sG.trans x1
   have lG1:=x1 _ _ hlG
   have wG1:=wG.mono λy q _ z=>z.same x1
   generalize upd G q2 (.tup [.int (j:Nat),x])=G1 at kG1 sG1 lG1 wG1
   refine ⟨v,s,n,r,sp,j,rfl,hv3.ts kG1.ts,sp3.kl kG1,by lia,λisp G2 hsp s2'=>?_⟩
   obtain ⟨bx,ys,rfl,hb,hyl,hys⟩:=hx
   have kG2:=kG1.trans (KL.of s2')
   refine ⟨bx,rfl,⟨_,Bc.of (kG2.ts _ _ hb)⟩,DV (K:=K) (a:=bx) (xs:=ys) (λi σ G=>∃ (o6:Option V) (us:List V),σ=[some v,some s,some (.ref l),some (.int (j:Nat)),some (.ref bx),some (.ref isp),o6]/\G l=some (.lst us)/\BT (FK T.am G) us ((r,sp)::(pre++(pt.take i).flatMap (BP n (sp.within r j))))/\Af H G/\KL G2 G) ?_ ?_ ?_ ?_⟩
   ·exact ⟨o6,us,rfl,s2' _ _ lG1,by rw [V6,List.flatMap_nil,P3];exact wG1.mono λy q _ z=>z.same s2',sG1.trans s2',KL.refl _⟩
   ·rintro i σ G _ ⟨_,_,_,_,_,_,kk⟩
    exact Bc.of (kk.ts _ _ (kG2.ts _ _ hb))
   ·rintro i y σ G4 hi ⟨o6,vs,rfl,hl4,w4,s4,k4⟩
    obtain ⟨ri,hri,hy⟩:=hys.get hi
    have hle2:=Gh (f:=BP n (sp.within r j)) pt (i+1)
    rw [BV hri,K0] at hle2
    have hvl:vs.length=1+(pre.length+((pt.take i).flatMap (BP n (sp.within r j))).length):=by
     rw [w4.1,v0,K0];lia
    have hil:=IB n (sp.within r j) ri
    w_up
    have hgl:=sp.within_len r j
    have kk:=kG2.trans k4
    refine ⟨.inl ⟨_,AD.of hl4⟩,y,.ref isp,ri,_,rfl,hy.ts kk.ts,by lia,hsp.kl k4,by lia,by lia,λl5 zs G5 hl5 h5 w5 s5=>?_⟩
    refine ⟨l,l5,_,_,rfl,rfl,s5 _ _ hl4,h5,?_,?_⟩
    ·rw [w5.1]
     exact C0 (show vs.length+(BP n (sp.within r j) ri).length<=1001 by lia) (by kd_p)
    ·have k6:=KL.put (o:=.lst (vs++zs)) (s5 _ _ hl4)
     refine ⟨_,Ab,?_,Ea (s4.trans s5) lH,k4.trans ((KL.of s5).trans k6)⟩
     rw [BV hri]
     have:=(w4.mono λy q _ z=>(z.same s5).kl k6).app (w5.mono λy q _ z=>z.kl k6)
     rw [f6,E7] at this
     exact this
   ·rintro σ G4 ⟨o6,vs,rfl,hl4,w4,s4,k4⟩
    rw [hys.1,K3] at w4
    exact ⟨_,_,_,_,rfl,_,hl4,w4,s4,kG2.trans k4⟩
  ·rintro σ G ⟨o3,o4,o5,o6,us,rfl,hlG,wG,sG,kG⟩
   have e:(r.ps.zipIdx.take ps.length)=r.ps.zipIdx:=by
    rw [hps.1]
    exact A6 (by rw [List.length_zipIdx];exact P0 _)
   rw [e] at wG
   exact k l us G lH hlG wG sG
theorem Jo (T:Tx P w K mg) (G_parts:CJ P w base T.di 1 Es) (G_spot_within:CJ P w base T.db 3 (IC T.am)):∀ n,CJ P w base T.eF (n+4) (JJ T.am n)
 |0=>GY T G_parts G_spot_within 0 Dc
 |n+1=>GY T G_parts G_spot_within (n+1) (Jo T G_parts G_spot_within n)
theorem Eu:Sc ["rows", "listed", "place", "row"] ["rows"] (top 70):=BE (by lk)
theorem NI:CJ P w base T.iZ 12 (Ly T.am):=by
 exists T.iZ.F.ok Eu
 ·obtain ⟨v,rs,rfl,hv,hsz,k⟩:=h
  obtain ⟨b,ys,rfl,hb,hyl,hys⟩:=hv
  refine (⟨_,(Ad (Be (i:=1) Eu.nd (Ao Ac))
  (Ad (BF PassesOwn.never rfl (NF rfl T.fu (Aa (pv 0) Ac)) (FW (n:=2) rfl (Bt (Di (i:=2) Eu.nd) (Bt (Di (i:=3) Eu.nd) Ez)))
  (Ae (AJ (Bk Y0 m5 j5 EY (pv 1) (Aa (AB T.eF (Jo T (Ed T) (Ki T) 7) hr (Aa (pv 3) (Aa (EA T.lj (EU T) (hr.mono (by lia)) rfl T.lh T.bo.b .nil AH (Aa Ai (Aa Ec (Aa (Cm Ac) (Aa (AV AQ (pv 2) (AL Uc (Av AI (by rfl) T.bn Bf (Aa (pv 0) Ac)) Ai) (Am _)) Ac))))) Ac))) Ac)))))
  (Ae (Aj (pv 1))))),?_⟩)
  k_go
  refine ⟨by kd_p,λl hl=>?_⟩
  have s1:=Af.upd (o:=.lst []) hl
  have l1:upd H l (.lst []) l=some (.lst []):=Ab
  generalize upd H l (.lst [])=H1 at s1 l1
  refine Exists.intro b ⟨rfl,⟨_,Bc.of (s1 _ _ hb)⟩,?_⟩
  have hlen:ys.length=rs.length:=hys.1
  have htot:((rs.zipIdx).flatMap λq=>BP 7 (Ng rs.length q.2) q.1).length<=1000:=by
   have e:=congrArg c8 (Fi 7 rs)
   rw [J0] at e
   unfold Gn at e
   rw [e]
   exact hsz
  refine LL (K:=K) (a:=b) (xs:=ys) (λj σ G=>∃ (o2 o3:Option V) (us:List V),σ=[some (.ref b),some (.ref l),o2,o3]/\G l=some (.lst us)/\BT (FK T.am G) us ((rs.zipIdx.take j).flatMap λq=>BP 7 (Ng rs.length q.2) q.1)/\Af H G) ?_ ?_ ?_ ?_
  ·exact ⟨none,none,_,rfl,l1,BT.nil,s1⟩
  ·rintro j σ G _ ⟨_,_,_,_,_,_,sG⟩
   exact Bc.of (sG _ _ hb)
  ·rintro j x q2 σ G hj ⟨o2,o3,us,rfl,hlG,wG,sG⟩ hq2
   obtain ⟨r,hri,hx⟩:=hys.get hj
   have hz:=Sy hri
   have hle:=Gh (f:=λq:Rw×Nat=>BP 7 (Ng rs.length q.2) q.1) rs.zipIdx (j+1)
   rw [BV hz,K0] at hle
   rw [BV hz]
   dsimp only at hle
   have hil:=IB 7 (Ng rs.length j) r
   have hwl:=wG.1
   refine ⟨q2,_,rfl,Bc.of Ab,rfl,?_⟩
   simp only [He,MJ]
   k_go
   have x1:=Af.upd (o:=.tup [.int (j:Nat),x]) hq2
   have sG1:=sG.trans x1
   have lG1:=x1 _ _ hlG
   have wG1:=wG.mono λy q _ z=>z.same x1
   generalize upd G q2 (.tup [.int (j:Nat),x])=G1 at sG1 lG1 wG1
   refine ⟨.inl ⟨_,AD.of lG1⟩,by kd_p,λt ht=>⟨_,Bu.mpr (.inr ⟨_,Bc.of ((sG1.trans (Af.upd ht)) _ _ hb),rfl⟩),rfl,?_⟩⟩
   have y1:=Af.upd (o:=.tup []) ht
   have hcl:decide ((j:Int)=(ys.length:Nat)-1)=(Ng rs.length j).cl:=by
    show _=decide (j+1=rs.length)
    rw [decide_eq_decide,hlen]
    lia
   rw [hcl]
   have sG2:=sG1.trans y1
   refine mkSpot (H:=H) (sp:=Ng rs.length j) (R:=λv H2=>JJ T.am 7 [x,v] H2 _ E0) Ab (N1 _) sG2 λp H3 hp3 s3=>?_
   have s13:=y1.trans s3
   refine ⟨x,.ref p,r,_,rfl,hx.ts (DQ.of (sG2.trans s3)),P0 _,hp3,(by show 0+7<=20;decide),by lia,λl4 zs H4 hl4 h4 w4 s4=>?_⟩
   refine ⟨l,l4,_,_,rfl,rfl,(s13.trans s4) _ _ lG1,h4,C0 (show us.length+zs.length<=1000 by rw [w4.1];lia) (by kd_p),?_⟩
   have k6:=KL.put (o:=.lst (us++zs)) ((s13.trans s4) _ _ lG1)
   exact ⟨_,Ab,(wG1.mono λy q _ z=>(z.same (s13.trans s4)).kl k6).app (w4.mono λy q _ z=>z.kl k6),Ea ((sG2.trans s3).trans s4) hl⟩
  ·rintro σ G ⟨o2,o3,us,rfl,hlG,wG,sG⟩
   have e:(rs.zipIdx.take ys.length)=rs.zipIdx:=by
    rw [hlen]
    exact A6 (by rw [List.length_zipIdx];exact P0 _)
   rw [e] at wG
   exact k l us G hl hlG wG sG
theorem Ho:Sc ["self", "rows", "ahead"] ["self", "rows", "ahead"] (Ag (top 71) 0):=BE (by lk)
theorem Hv:AS P w K mg base CX0 10 T.br.f T.br.fd ["self", "rows", "ahead"] (spNInit T.aj):=by
 exists T.br.F.ok Ho
 ·obtain ⟨p,dx,v,a,rs,rfl,hp,hv,hsz,k⟩:=h
  refine (⟨_,(Ad (Aw (pv 0) (pv 2) rfl)
  (Ad (Aw (pv 0) (ER (N':=["row"]) (sel:=[none]) rfl rfl rfl (Cg (AB T.hV (HS T (Ed T) 7) hr (Aa (pv 1) Ac))) (BO rfl) (λ_ _ _ _ _=>⟨(Bm (i:=0) (show (["row"]:List Str).Nodup by lk) rfl (Or.inl rfl)),(Fp (Al AQ (Az (DU (K:=K) rfl) (pv 0) Ai) Ak (Am _))),(Az (DU (K:=K) rfl) (pv 0) Ai)⟩)) rfl)
  (Ae (Aw (pv 0) (ER (N':=["row"]) (sel:=[none]) rfl rfl rfl (Cg (AB T.hV (HS T (Ed T) 7) hr (Aa (pv 1) Ac))) (BO rfl) (λ_ _ _ _ _=>⟨(Bm (i:=0) (show (["row"]:List Str).Nodup by lk) rfl (Or.inl rfl)),(Fp (Al AQ (Az (DU (K:=K) rfl) (pv 0) Ai) Ak (Am _))),(Az (DU (K:=K) rfl) (pv 0) Ai)⟩)) rfl)))),?_⟩)
  walk_at "sw"
  have s1:∀ c o,c≠p->H c=some o->upd H p (.ins T.aj dx (AM "ahead" (.ref a) [])) c=some o:=λc o n e=>by rw [Ah n];exact e
  have p1:upd H p (.ins T.aj dx (AM "ahead" (.ref a) [])) p=some (.ins T.aj dx (AM "ahead" (.ref a) [])):=Ab
  refine ⟨_,_,_,hp,T.gc,T.iA,(by show 0<1000;decide),?_⟩
  generalize upd H p (.ins T.aj dx (AM "ahead" (.ref a) []))=H1 at s1 p1
  have t1:DQ H H1:=λc xs e=>s1 c _ (λz=>by rw [z,hp] at e;cases e) e
  refine ⟨v,rs,rfl,hv.ts t1,by lia,λl us H2 hl h2 w2 s2=>⟨l,rfl,⟨_,AD.of h2⟩,?_⟩⟩
  have hul:us.length=HB 7 rs:=w2.1
  refine Fy (K:=K) (a:=l) (xs:=us) (λi zs G=>G=H2/\zs=((((AC 7 rs).take i).filter λr=>decide (r.w=("begin":Str))).map λr=>r.x 0).map V.str) ⟨rfl,rfl⟩ ?_ (C0 (show us.length<=1000 by lia) (by kd_p)) ?_ ?_
  ·rintro i zs G hi ⟨rfl,rfl⟩
   exact ⟨AD.of h2,by rw [J0,J0];exact C0 (C4 _ _) (by rw [Y2];lia)⟩
  ·rintro i y zs G hi ⟨rfl,rfl⟩
   obtain ⟨r,hr2,hy⟩:=w2.get hi
   w_up
   refine hy.ix0 ⟨rfl,?_⟩
   rw [Y5,hr2]
   by_cases e:r.w="begin"
   ·refine Cw (by rw [e]) ((hy.ixB e).1 ⟨rfl,?_⟩)
    simp [S6,e]
   ·refine CD (λq=>e (V.str.inj q)) ⟨rfl,?_⟩
    simp [S6,e]
  rintro zs G ⟨rfl,rfl⟩ D hD
  rw [w2.1,K3]
  have s3:=Af.upd (o:=.lst ((DO (AC 7 rs)).map V.str)) hD
  have d3:upd G D (.lst ((DO (AC 7 rs)).map V.str)) D=some (.lst ((DO (AC 7 rs)).map V.str)):=Ab
  have p3:=(s2.trans s3) _ _ p1
  refine ⟨_,_,_,p3,T.gc,T.fB,(by show 1<1000;decide),?_⟩
  have s13:=s2.trans s3
  change Md 7 [v] (upd (upd G D (.lst ((DO (AC 7 rs)).map V.str))) p _) _ E0
  generalize upd G D (.lst ((DO (AC 7 rs)).map V.str))=H3 at s3 d3 p3 s13
  have dp:D≠p:=λe=>by rw [e,p3] at d3;cases d3
  have s4:∀ c o,c≠p->H c=some o->upd H3 p (.ins T.aj dx (AM "labels" (.ref D) (AM "ahead" (.ref a) []))) c=some o:=λc o n e=>by rw [Ah n];exact s13 _ _ (s1 c o n e)
  have p4:upd H3 p (.ins T.aj dx (AM "labels" (.ref D) (AM "ahead" (.ref a) []))) p=some (.ins T.aj dx (AM "labels" (.ref D) (AM "ahead" (.ref a) []))):=Ab
  have d4:upd H3 p (.ins T.aj dx (AM "labels" (.ref D) (AM "ahead" (.ref a) []))) D=some (.lst ((DO (AC 7 rs)).map V.str)):=by rw [Ah dp];exact d3
  generalize upd H3 p (.ins T.aj dx (AM "labels" (.ref D) (AM "ahead" (.ref a) [])))=H4 at s4 p4 d4
  have t4:DQ H H4:=λc xs e=>s4 c _ (λz=>by rw [z,hp] at e;cases e) e
  refine ⟨v,rs,rfl,hv.ts t4,by lia,λl5 us5 H5 hl5 h5 w5 s5=>⟨l5,rfl,⟨_,AD.of h5⟩,?_⟩⟩
  have hul5:us5.length=HB 7 rs:=w5.1
  refine Fy (K:=K) (a:=l5) (xs:=us5) (λi zs G=>G=H5/\zs=((((AC 7 rs).take i).filter λr=>decide (r.w=("group":Str))).map λr=>r.x 0).map V.str) ⟨rfl,rfl⟩ ?_ (C0 (show us5.length<=1000 by lia) (by kd_p)) ?_ ?_
  ·rintro i zs G hi ⟨rfl,rfl⟩
   exact ⟨AD.of h5,by rw [J0,J0];exact C0 (C4 _ _) (by rw [Y2];lia)⟩
  ·rintro i y zs G hi ⟨rfl,rfl⟩
   obtain ⟨r,hr2,hy⟩:=w5.get hi
   w_up
   refine hy.ix0 ⟨rfl,?_⟩
   rw [Y5,hr2]
   by_cases e:r.w="group"
   ·refine Cw (by rw [e]) (hy.ix2 (.inl e) ⟨rfl,?_⟩)
    simp [S6,e]
   ·refine CD (λq=>e (V.str.inj q)) ⟨rfl,?_⟩
    simp [S6,e]
  rintro zs G ⟨rfl,rfl⟩ D' hD'
  rw [w5.1,K3]
  have s6:=Af.upd (o:=.lst ((Fa (AC 7 rs)).map V.str)) hD'
  have d6:upd G D' (.lst ((Fa (AC 7 rs)).map V.str)) D'=some (.lst ((Fa (AC 7 rs)).map V.str)):=Ab
  have p6:=(s5.trans s6) _ _ p4
  refine ⟨_,_,_,p6,T.gc,T.fh,?_,?_⟩
  ·show (AM "labels" (.ref D) [("ahead",.ref a)]).length<1000
   rw [AM,if_neg (by lk)]
   show 2<1000
   decide
  ·have dp':D'≠p:=λe=>by
    rw [e,s5 _ _ p4] at hD';cases hD'
   rw [flN_mk]
   refine k D D' _ (λc o n e=>?_) Ab ?_ ?_
   ·rw [Ah n];exact (s5.trans s6) _ _ (s4 c o n e)
   ·rw [Ah dp];exact (s5.trans s6) _ _ d4
   ·rw [Ah dp'];exact d6
theorem Jy:Sc ["row", "spot"] ["row", "spot"] (top 72):=BE (by lk)
theorem JD:CJ P w base T.fZ 1 (OO T.am):=by
 exists T.fZ.F.ok Jy
 ·obtain ⟨v,s,n,r,sp,rfl,hv,hs,k⟩:=h
  refine (⟨_,(Ad (AA (Al AQ (Az As (pv 0) Ai) Ak (Am _))
  (Ae (Aj (AV Bz (Az As (pv 0) Ai) (Ap (pv 1) rfl) (by with_unfolding_all rfl))))
  An)
  (Ae (Aj (Co (AV AQ (Az As (pv 0) Ai) Ak (Am _)) (Cd (AV BQ (Az As (pv 0) Ai) (Ap (pv 1) rfl) (by with_unfolding_all rfl))))))),?_⟩)
  k_go
  unfold Ix at k
  refine hv.ix0 ⟨rfl,?_⟩
  by_cases e:r.w="begin"
  ·rw [if_pos e] at k
   refine Cw (by rw [e]) ((hv.ixB e).2.2 (hs.grp T.bI T.ap λt ht=>inT (Bc.of ht) ?_))
   rw [V5]
   exact k
  ·rw [if_neg e] at k
   refine CD (λq=>e (V.str.inj q)) (hv.ix0 ⟨rfl,?_⟩)
   by_cases e2:r.w="group"
   ·rw [decide_eq_true e2,S3] at k
    refine Cw (by rw [e2]) (hv.ix2 (.inl e2) (hs.grp T.bI T.ap λt ht=>inT (Bc.of ht) ?_))
    rw [j4]
    exact k
   ·rw [decide_eq_false e2,C3] at k
    exact CD (λq=>e2 (V.str.inj q)) k
theorem Jx:Sc ["row", "naming"] ["row", "naming"] (top 73):=BE (by lk)
theorem JC:CJ P w base T.f9 1 (ON T.aj):=by
 exists T.f9.F.ok Jx
 ·obtain ⟨v,s,n,r,lab,grp,ah,rfl,hv,hs,k⟩:=h
  refine (⟨_,(Ad (AA (Al AQ (Az As (pv 0) Ai) Ak (Am _))
  (Ae (Aj (AV BQ (Az As (pv 0) Ai) (Ap (pv 1) rfl) (by with_unfolding_all rfl))))
  An)
  (Ae (Aj (Co (AV AQ (Az As (pv 0) Ai) Ak (Am _)) (Cd (AV Bz (Az As (pv 0) Ai) (Ap (pv 1) rfl) (by with_unfolding_all rfl))))))),?_⟩)
  k_go
  unfold Iw at k
  refine hv.ix0 ⟨rfl,?_⟩
  by_cases e:r.w="begin"
  ·rw [if_pos e] at k
   refine Cw (by rw [e]) ((hv.ixB e).1 (hs.fgrp T.gc T.fh λt ht=>UB (AD.of ht) ?_))
   rw [j4]
   exact k
  ·rw [if_neg e] at k
   refine CD (λq=>e (V.str.inj q)) (hv.ix0 ⟨rfl,?_⟩)
   by_cases e2:r.w="ask"
   ·rw [decide_eq_true e2,S3] at k
    refine Cw (by rw [e2]) (hv.ix2 (.inr (.inl e2)) (hs.flab T.gc T.fB λt ht=>UB (AD.of ht) ?_))
    rw [V5]
    exact k
   ·rw [decide_eq_false e2,C3] at k
    exact CD (λq=>e2 (V.str.inj q)) k
theorem KW:Sc ["row", "spot", "naming"] ["row", "spot", "naming"] (top 74):=BE (by lk)
theorem Lh:CJ P w base T.ic 1 (Tq T.am T.aj):=by
 exists T.ic.F.ok KW
 ·obtain ⟨v,s,u,n,r,sp,lab,grp,ah,rfl,hv,hs,hn,k⟩:=h
  refine (⟨_,(Ae (Aj (Co (AV AQ (Az As (pv 0) Ai) Ak (Am _)) (Co (AV Bz (Az As (pv 0) Ai) (Ap (pv 2) rfl) (by with_unfolding_all rfl)) (Cd (AV Bz (Az As (pv 0) Ai) (Ap (pv 1) rfl) (by with_unfolding_all rfl))))))),?_⟩)
  k_go
  unfold MR at k
  refine hv.ix0 ⟨rfl,?_⟩
  by_cases e:r.w="off"
  ·rw [decide_eq_true e,S3] at k
   refine Cw (by rw [e]) (hv.ix2 (.inr (.inr e)) (hn.flab T.gc T.fB λt ht=>UB (AD.of ht) ⟨_,rfl,?_⟩))
   rw [V5]
   by_cases e2:r.x 0∈lab
   ·rw [decide_eq_true e2] at k |-
    rw [if_neg (by kd_p)]
    exact k
   ·rw [decide_eq_false e2] at k |-
    rw [if_pos (by kd_p)]
    refine hv.ix2 (.inr (.inr e)) (hs.grp T.bI T.ap λt ht=>inT (Bc.of ht) ?_)
    rw [V5]
    exact k
  ·rw [decide_eq_false e,C3,C3] at k
   exact CD (λq=>e (V.str.inj q)) k
theorem KR:Sc ["row", "spot", "naming"] ["row", "spot", "naming"] (top 75):=BE (by lk)
theorem Le:CJ P w base T.ie 2 (spWrong T.am T.aj):=by
 exists T.ie.F.ok KR
 ·obtain ⟨v,s,u,n,r,sp,lab,grp,ah,rfl,hv,hs,hn,k⟩:=h
  refine (⟨_,(Ad (DH (Al LC (Ap (pv 1) rfl) (AO (v:=.int 6) rfl T.mdlm ⟨_,rfl⟩) (Am _))
  (Ae (Aj Ak))
  An)
  (Ad (DH (PW.pt (CT (Br (Ap (pv 1) rfl)) (CH (Al Bz (Az As (pv 0) Ai) (AO (v:=.ref T.cwa) rfl T.cwm rfl) (by with_unfolding_all rfl)))))
  (Ae (Aj Ak))
  An)
  (Ad (DH (PW.pt (CT (Al AQ (Az As (pv 0) Ai) Ak (Am _)) (CH (DF (Br (Ap (pv 1) rfl))))))
  (Ae (Aj Ak))
  An)
  (Ad (DH (PW.pt (CT (Al AQ (Az As (pv 0) Ai) Ak (Am _)) (CH (Al Bz (Az As (pv 0) Ai) (Ap (pv 2) rfl) (by with_unfolding_all rfl)))))
  (Ae (Aj Ak))
  An)
  (Ad (DH (Br (AB T.fZ (JD T) hr (Aa (pv 0) (Aa (pv 1) Ac))))
  (Ae (Aj Ak))
  An)
  (Ad (DH (Br (AB T.f9 (JC T) hr (Aa (pv 0) (Aa (pv 2) Ac))))
  (Ae (Aj Ak))
  An)
  (Ad (DH (Br (AB T.ic (Lh T) hr (Aa (pv 0) (Aa (pv 1) (Aa (pv 2) Ac)))))
  (Ae (Aj Ak))
  An)
  (Ae (Aj AF))))))))),?_⟩)
  k_go
  unfold FO at k
  refine Ps (decide (6<sp.deep)) (λS kS=>?_) (λe=>?_) (λe=>?_)
  ·k_go
   exact hs.deep T.bI T.bV ⟨_,rfl,by rw [show decide ((6:Int)<(sp.deep:Nat))=decide (6<sp.deep) by rw [decide_eq_decide];lia];exact kS⟩
  ·rw [if_pos (of_decide_eq_true e)] at k
   k_go
   exact k
  rw [if_neg (of_decide_eq_false e)] at k
  k_go
  refine Ps (sp.last&&decide (r.w∉MY)) (λS kS=>?_) (λe=>?_) (λe=>?_)
  ·k_go
   refine hs.last T.bI T.gb ⟨_,rfl,?_⟩
   cases hl:sp.last with
   |false =>
    rw [hl,C3] at kS
    rw [if_neg Q0]
    exact kS
   |true =>
    rw [hl,S3] at kS
    rw [if_pos rfl]
    refine hv.ix0 (inT (T.cwt H) ⟨_,rfl,?_⟩)
    rw [V5,<- decide_not]
    exact kS
  ·rw [W1,decide_eq_true_eq] at e
   rw [if_pos e] at k
   k_go
   exact k
  rw [if_neg (λz=>by rw [z.1,decide_eq_true z.2] at e;cases e)] at k
  k_go
  refine Ps (decide (r.w="give")&&!sp.cl) (λS kS=>?_) (λe=>?_) (λe=>?_)
  ·k_go
   refine hv.ix0 ⟨rfl,?_⟩
   by_cases hw:r.w="give"
   ·rw [decide_eq_true hw,S3] at kS
    exact Cw (by rw [hw]) (hs.clo T.bI T.iz ⟨_,rfl,kS⟩)
   ·rw [decide_eq_false hw,C3] at kS
    exact CD (λq=>hw (V.str.inj q)) kS
  ·rw [W1,decide_eq_true_eq,J7] at e
   rw [if_pos e] at k
   k_go
   exact k
  rw [if_neg (λz=>by rw [z.2,decide_eq_true z.1] at e;cases e)] at k
  k_go
  refine Ps (decide (r.w="begin")&&decide (r.x 1∉ah)) (λS kS=>?_) (λe=>?_) (λe=>?_)
  ·k_go
   refine hv.ix0 ⟨rfl,?_⟩
   by_cases hw:r.w="begin"
   ·rw [decide_eq_true hw,S3] at kS
    refine Cw (by rw [hw]) ((hv.ixB hw).2.1 (hn.fah T.gc T.iA λt ht=>UB (AD.of ht) ⟨_,rfl,?_⟩))
    rw [V5,<- decide_not]
    exact kS
   ·rw [decide_eq_false hw,C3] at kS
    exact CD (λq=>hw (V.str.inj q)) kS
  ·rw [W1,decide_eq_true_eq,decide_eq_true_eq] at e
   rw [if_pos e] at k
   k_go
   exact k
  rw [if_neg (λz=>by rw [decide_eq_true z.2,decide_eq_true z.1] at e;cases e)] at k
  k_go
  refine Ps (Ix r sp) (λS kS=>?_) (λe=>?_) (λe=>?_)
  ·k_go
   exact ⟨v,s,n,r,sp,rfl,hv,hs,_,rfl,kS⟩
  ·rw [if_pos e] at k
   k_go
   exact k
  rw [if_neg (by rw [e];exact Q0)] at k
  k_go
  refine Ps (Iw r lab grp) (λS kS=>?_) (λe=>?_) (λe=>?_)
  ·k_go
   exact ⟨v,u,n,r,lab,grp,ah,rfl,hv,hn,_,rfl,kS⟩
  ·rw [if_pos e] at k
   k_go
   exact k
  rw [if_neg (by rw [e];exact Q0)] at k
  k_go
  refine Ps (MR r sp lab) (λS kS=>?_) (λe=>?_) (λe=>?_)
  ·k_go
   exact ⟨v,s,u,n,r,sp,lab,grp,ah,rfl,hv,hs,hn,_,rfl,kS⟩
  ·rw [if_pos e] at k
   k_go
   exact k
  rw [if_neg (by rw [e];exact Q0)] at k
  k_go
  exact k
theorem CQ:Sc ["program", "rows", "errand"] ["program"] (top 76):=BE (by lk)
theorem HV:AS P w K mg base (Rg P w) 10 T.aO.f T.aO.fd ["program"] (Tm T.aa):=by
 exists T.aO.F.okD CQ
 ·obtain ⟨v,es,rfl,hP,k⟩:=h
  obtain ⟨b,ys,rfl,hb,hyl,hys⟩:=hP
  refine (⟨_,(Ad (AA (Al LC (Av AI (by rfl) T.bn Bf (Aa (pv 0) Ac)) (AO (v:=.int 12) rfl T.mem ⟨_,rfl⟩) (Am _))
  (Ae (CN Db rfl T.mk_BadProgram (AX T) (hr.mono (by lia)) rfl T.cM T.ai.b (Aa (Az As (Az As (pv 0) (AO (v:=.int 12) rfl T.mem ⟨_,rfl⟩)) Ai) (Aa Ak Ac))))
  An)
  (Ad (Be (i:=1) CQ.nd (Ao Ac))
  (Ad (BF PassesOwn.leaving rfl (Dt (pv 0)) (Di (i:=2) CQ.nd)
  (Ae (AJ (Bk Y0 m5 j5 EY (pv 1) (Aa (AB T.hV (HS T (Ed T) 7) hr (Aa (Az As (pv 2) Ai) Ac)) Ac)))))
  (Ae (AA (Al LC (Av AI (by rfl) T.bn Bf (Aa (pv 1) Ac)) (AO (v:=.int 200) rfl T.mrm ⟨_,rfl⟩) (Am _))
  (Ae (CN Db rfl T.mk_BadProgram (AX T) (hr.mono (by lia)) rfl T.cM T.ai.b (Aa (Az As (Az AK (pv 1) (AO (v:=.int 200) rfl T.mrm ⟨_,rfl⟩)) Ai) (Aa Ak Ac))))
  An))))),?_⟩)
  k_go
  have hlen:ys.length=es.length:=hys.1
  refine ⟨_,Bu.mpr (.inr ⟨_,Bc.of hb,rfl⟩),?_⟩
  unfold FB at k
  by_cases hm:12<ys.length
  ·refine Cw (by lia) ?_
   simp only [Du]
   k_go
   have he:es[12]?=some es[12]:=Y1 (by lia)
   rw [he] at k
   have hy:ys[12]?=some ys[12]:=Y1 hm
   obtain ⟨q,u,e0,h1,h2,h3⟩:=hys.2 12 _ _ hy he
   rw [e0] at hy
   exact ⟨b,_,_,_,rfl,rfl,Bc.of hb,Au (j:=12) hy,q,_,_,_,rfl,rfl,Bc.of h1,Au (j:=1) rfl,by kd_p,IM (Af.refl H) k⟩
  ·refine CD (by lia) ⟨by kd_p,λp hp=>?_⟩
   have hn:es[12]?=none:=E6 (by lia)
   rw [hn] at k
   have s1:=Af.upd (o:=.lst []) hp
   refine ⟨b,rfl,⟨_,Bc.of (s1 _ _ hb)⟩,DV (K:=K) (a:=b) (xs:=ys) (λi σ G=>∃ (o2:Option V) (us:List V),σ=[some (.ref b),some (.ref p),o2]/\G p=some (.lst us)/\BT (BS 7 G) us (PU 7 (es.take i))/\us.length<=800*i/\Af H G) ?_ ?_ ?_ ?_⟩
   ·exact ⟨none,[],rfl,Ab,BT.nil,N1 _,s1⟩
   ·rintro i σ G _ ⟨_,_,_,_,_,_,sG⟩
    exact Bc.of (sG _ _ hb)
   ·rintro i y σ G hi ⟨o2,us,rfl,hG,wG,hlG,sG⟩
    obtain ⟨e,he,q,u,rfl,h1,h2,h3⟩:=hys.get hi
    have hi12:i<12:=by have:=(Q1.mp hi).1;lia
    k_go
    refine ⟨.inl ⟨_,AD.of hG⟩,q,_,_,_,rfl,rfl,Bc.of (sG _ _ h1),Au (j:=3) rfl,_,e.rows,rfl,h2.ts (DQ.of sG),by lia,λl2 zs G2 hl2 hz w2 s2=>?_⟩
    have hzl:zs.length=HB 7 e.rows:=w2.1
    refine ⟨p,l2,_,_,rfl,rfl,s2 _ _ hG,hz,C0 (show us.length+zs.length<=10400 by lia) (by kd_p),?_⟩
    have k6:=KL.put (o:=.lst (us++zs)) (s2 _ _ hG)
    refine ⟨_,Ab,?_,by rw [K0];lia,Ea (sG.trans s2) hp⟩
    unfold PU
    rw [BV he]
    exact (wG.mono λy r _ z=>(z.ts (DQ.of s2)).ts k6.ts).app (w2.mono λy r _ z=>z.ts k6.ts)
   ·rintro σ G ⟨o2,us,rfl,hG,wG,hlG,sG⟩
    k_go
    rw [hlen,K3] at wG
    refine ⟨_,Bu.mpr (.inl ⟨_,AD.of hG,rfl⟩),?_⟩
    have hul:us.length=(PU 7 es).length:=wG.1
    by_cases hm2:200<us.length
    ·refine Cw (by lia) ?_
     simp only [Du]
     k_go
     have he:(PU 7 es)[200]?=some (PU 7 es)[200]:=Y1 (by lia)
     rw [he] at k
     have hy:us[200]?=some us[200]:=Y1 hm2
     have hr:=wG.2 200 _ _ hy he
     exact ⟨p,_,_,_,rfl,rfl,AD.of hG,Au (j:=200) hy,hr.ix1 ⟨by kd_p,IM sG k⟩⟩
    ·refine CD (by lia) ?_
     have hn2:(PU 7 es)[200]?=none:=E6 (by lia)
     rw [hn2] at k
     exact k _ sG
theorem BI:Sc ["errand", "ahead", "naming", "row", "spot", "word"] ["errand", "ahead"] (top 77):=BE (by lk)
theorem HU:AS P w K mg base (Rg P w) 13 T.aP.f T.aP.fd ["errand", "ahead"] (spErr T.aa):=by
 exists T.aP.F.okD BI
 ·obtain ⟨v,a,e,ah,rfl,he,ha,hal,k⟩:=h
  obtain ⟨q,u,rfl,h1,h2,h3⟩:=he
  refine (⟨_,(Ad (AA (Al BQ (Az As (pv 0) Ai) (pv 1) (by with_unfolding_all rfl))
  (Ae (CN Db rfl T.mk_BadProgram (AX T) (hr.mono (by lia)) rfl T.cM T.ai.b (Aa (Az As (pv 0) Ai) (Aa Ak Ac))))
  An)
  (Ad (Be (i:=2) BI.nd (EA T.lx (Hv T) (hr.mono (by lia)) rfl T.ll T.br.b .nil AH (Aa (Az As (pv 0) Ai) (Aa (pv 1) Ac))))
  (Ae (BF PassesOwn.leaving rfl (Cg (AB T.iZ (NI T) hr (Aa (Az As (pv 0) Ai) Ac))) (FW (n:=2) rfl (Bt (Di (i:=3) BI.nd) (Bt (Di (i:=4) BI.nd) Ez)))
  (Ad (Be (i:=5) BI.nd (AB T.ie (Le T) hr (Aa (pv 3) (Aa (pv 4) (Aa (pv 2) Ac)))))
  (Ae (AA (Al HR (pv 5) AF (Am _))
  (Ae (CN Db rfl T.mk_BadProgram (AX T) (hr.mono (by lia)) rfl T.cM T.ai.b (Aa (Az As (pv 3) Ai) (Aa (pv 5) Ac))))
  An))))))),?_⟩)
  k_go
  unfold FM at k
  refine ⟨q,_,_,_,rfl,rfl,Bc.of h1,Au (j:=2) rfl,UB (AD.of ha) ⟨_,rfl,?_⟩⟩
  rw [j4]
  by_cases hn:e.nm∈ah
  ·rw [if_pos hn] at k
   refine Cw hn ?_
   simp only [Du]
   k_go
   exact ⟨q,_,_,_,rfl,rfl,Bc.of h1,Au (j:=1) rfl,by kd_p,IM (Af.refl H) k⟩
  rw [if_neg hn] at k
  refine CD hn ⟨q,_,_,_,rfl,rfl,Bc.of h1,Au (j:=3) rfl,λx dx hx hdx ne=>?_⟩
  have s1:Af H (upd (upd H dx (.own x)) x (.ins T.aj dx [])):=(Af.upd hdx).trans (Af.upd (by rw [Ah (Ne.symm ne)];exact hx))
  have x1:upd (upd H dx (.own x)) x (.ins T.aj dx []) x=some (.ins T.aj dx []):=Ab
  generalize upd (upd H dx (.own x)) x (.ins T.aj dx [])=H1 at s1 x1
  refine ⟨x,dx,u,a,e.rows,rfl,x1,h2.ts (DQ.of s1),by lia,λl g H2 b2 x2 l2 g2=>⟨rfl,?_⟩⟩
  have s2:Af H H2:=λc o hc=>b2 c o (AE hc hx) (s1 _ _ hc)
  have nm:Jh T.aj H2 (.ref x) (DO (AC 7 e.rows)) (Fa (AC 7 e.rows)) ah:=⟨x,dx,a,l,g,rfl,x2,s2 _ _ ha,l2,g2,by lia,C0 (Uy _) (show HB 7 e.rows<=1000 by lia),C0 (UJ _) (show HB 7 e.rows<=1000 by lia)⟩
  refine (show JA K (V.ref q) (.int 3) H2 _ from ⟨q,_,_,_,rfl,rfl,Bc.of (s2 _ _ h1),Au (j:=3) rfl,?_⟩)
  refine (show Ly T.am [u] H2 _ E0 from ⟨u,e.rows,rfl,h2.ts (DQ.of s2),by lia,λl3 us H3 hl3 h3' w3 s3=>Exists.intro l3 ⟨rfl,⟨_,AD.of h3'⟩,?_⟩⟩)
  generalize hL:Gn 7 e.rows=L at k w3
  refine Fc (K:=K) (a:=l3) (xs:=us) (λi σ G=>∃ (o3 o4 o5:Option V),σ=[some (.ref q),some (.ref a),some (.ref x),o3,o4,o5]/\Af H3 G/\L.findSome? (Gm (DO (AC 7 e.rows)) (Fa (AC 7 e.rows)) ah)=(L.drop i).findSome? (Gm (DO (AC 7 e.rows)) (Fa (AC 7 e.rows)) ah)) ?_ ?_ ?_ ?_
  ·exact ⟨none,none,none,rfl,Af.refl _,by rw [l8]⟩
  ·rintro i σ G _ ⟨_,_,_,_,sG,_⟩
   exact AD.of (sG _ _ h3')
  ·rintro i y σ G hi ⟨o3,o4,o5,rfl,sG,hE⟩
   obtain ⟨⟨r,sp⟩,hq,p,x',s',rfl,hp,hr',hs'⟩:=w3.get hi
   have hlt:i<L.length:=(Q1.mp hq).1
   have hd:L.drop i=(r,sp)::L.drop (i+1):=by
    rw [Z5 hlt]
    congr 1
    exact V3.inj ((Y1 hlt).symm.trans hq)
   rw [hd,List.findSome?_cons] at hE
   refine ⟨p,_,rfl,Bc.of (sG _ _ hp),rfl,?_⟩
   simp only [He,MJ]
   k_go
   refine ⟨x',s',.ref x,6,r,sp,_,_,_,rfl,hr'.ts (DQ.of sG),hs'.same sG,nm.same (s3.trans sG),?_⟩
   have hwa:Gm (DO (AC 7 e.rows)) (Fa (AC 7 e.rows)) ah (r,sp)=(FO r sp (DO (AC 7 e.rows)) (Fa (AC 7 e.rows)) ah).map λw=>(r.ln,w):=rfl
   cases hw:FO r sp (DO (AC 7 e.rows)) (Fa (AC 7 e.rows)) ah with
   |none =>
    rw [hwa,hw] at hE
    exact Kv rfl ⟨sG,hE⟩
   |some z =>
    rw [hwa,hw] at hE
    rw [hE] at k
    refine Ku (λq=>nomatch q) ?_
    simp only [Du]
    k_go
    exact BS.ix1 (hr'.ts (DQ.of sG)) ⟨by kd_p,IM ((s2.trans s3).trans sG) k⟩
  ·rintro σ G ⟨o3,o4,o5,rfl,sG,hE⟩
   rw [w3.1,Y8] at hE
   rw [hE] at k
   exact k _ ((s2.trans s3).trans sG)
theorem Ev:Sc ["program", "line"] ["program"] (top 78):=BE (by lk)
theorem HW:AS P w K mg base (Rg P w) 19 T.aQ.f T.aQ.fd ["program"] (To T.aa):=by
 exists T.aQ.F.okD Ev
 ·obtain ⟨v,es,rfl,hP,hne,hkn,k⟩:=h
  refine (⟨_,(Ad (Be (i:=1) Ev.nd (Az As (Az As (pv 0) (Jm FP Ai)) Ai))
  (Ad (AA (Al LC (AB T.jO (RM T) hr (Aa (pv 0) Ac)) (AO (v:=.int 300) rfl T.mwm ⟨_,rfl⟩) (Am _))
  (Ae (CN Db rfl T.mk_BadProgram (AX T) (hr.mono (by lia)) rfl T.cM T.ai.b (Aa (pv 1) (Aa Ak Ac))))
  An)
  (Ae (AA (Al LC (AB T.kB (Ug T) hr (Aa (pv 0) Ac)) (AO (v:=.int 30) rfl T.mbm ⟨_,rfl⟩) (Am _))
  (Ae (CN Db rfl T.mk_BadProgram (AX T) (hr.mono (by lia)) rfl T.cM T.ai.b (Aa (pv 1) (Aa Ak Ac))))
  An)))),?_⟩)
  k_go
  obtain ⟨b,ys,rfl,hb,hyl,hys⟩:=id hP
  obtain ⟨y,hy,q,u,rfl,h1,h2⟩:=hys.last hne
  unfold Iv at k
  refine ⟨b,_,_,.ref q,rfl,rfl,Bc.of hb,Rb hy,q,_,_,_,rfl,rfl,Bc.of h1,Au (j:=1) rfl,_,es,rfl,hP,hne,hkn,λH1 s1=>⟨_,rfl,?_⟩⟩
  by_cases hw:300<AP false 1 7 es (Ej es).nm
  ·rw [if_pos hw] at k
   refine Cw hw ?_
   simp only [Du]
   k_go
   exact ⟨by kd_p,IM s1 k⟩
  rw [if_neg hw] at k
  refine CD hw ⟨_,es,rfl,hP.ts (DQ.of s1),hne,hkn,λH2 s2=>⟨_,rfl,?_⟩⟩
  by_cases hw2:30<AP true 0 7 es (Ej es).nm
  ·rw [if_pos hw2] at k
   refine Cw hw2 ?_
   simp only [Du]
   k_go
   exact ⟨by kd_p,IM (s1.trans s2) k⟩
  rw [if_neg hw2] at k
  exact CD hw2 (k _ (s1.trans s2))
theorem Mm:Sc ["program", "ahead", "errand"] ["program"] (top 79):=BE (by lk)
theorem Mv:AS P w K mg base (Rg P w) 20 T.fw.f T.fw.fd ["program"] (spLook T.aa):=by
 exists T.fw.F.okD Mm
 ·obtain ⟨v,es,rfl,hP,hne,k⟩:=h
  refine (⟨_,(Ad (AJ (Gr (HV T) (hr.mono (by lia)) rfl T.aO.hm T.aO.F.kp T.aO.b .nil (Ua Db (λ_ _ _ z=>z)) (Aa (pv 0) Ac)))
  (Ad (Be (i:=1) Mm.nd (Ao Ac))
  (Ad (BF PassesOwn.leaving rfl (Dt (pv 0)) (Di (i:=2) Mm.nd)
  (Ad (AJ (Gr (HU T) (hr.mono (by lia)) rfl T.aP.hm T.aP.F.kp T.aP.b .nil (Ua Db (λ_ _ _ z=>z)) (Aa (pv 2) (Aa (pv 1) Ac))))
  (Ae (AJ (Bk Y0 V1 T1 AW (pv 1) (Aa (Az As (pv 2) Ai) Ac))))))
  (Ad (AJ (Gr (HW T) (hr.mono (by lia)) rfl T.aQ.hm T.aQ.F.kp T.aQ.b .nil (Ua Db (λ_ _ _ z=>z)) (Aa (pv 0) Ac)))
  (Ae (Aj (pv 0))))))),?_⟩)
  k_go
  refine ⟨v,es,rfl,hP,?_⟩
  unfold Eg at k
  cases hc:FB 7 es with
  |some x=>rw [hc] at k;exact k
  |none =>
   rw [hc] at k
   intro H1 s1
   refine ⟨by kd_p,λp hp=>?_⟩
   obtain ⟨b,ys,rfl,hb,hyl,hys⟩:=id hP
   have hp0:H p=none:=s1.free hp
   have s2:=s1.trans (Af.upd (o:=.lst []) hp)
   refine ⟨b,rfl,⟨_,Bc.of (s2 _ _ hb)⟩,DV (K:=K) (a:=b) (xs:=ys) (λi σ G=>∃ o2:Option V,σ=[some (.ref b),some (.ref p),o2]/\G p=some (.lst (((es.take i).map Er.nm).map V.str))/\Af H G/\DP 7 [] es=DP 7 ((es.take i).map Er.nm) (es.drop i)) ?_ ?_ ?_ ?_⟩
   ·exact ⟨none,rfl,Ab,s2,by rw [V6,l8];rfl⟩
   ·rintro i σ G _ ⟨_,_,_,sG,_⟩
    exact Bc.of (sG _ _ hb)
   ·rintro i y σ G hi ⟨o2,rfl,hG,sG,hE⟩
    obtain ⟨e,he,hy⟩:=hys.get hi
    have hlt:i<es.length:=(Q1.mp he).1
    have hd:es.drop i=e::es.drop (i+1):=by
     rw [Z5 hlt]
     congr 1
     exact V3.inj ((Y1 hlt).symm.trans he)
    rw [hd,Sj] at hE
    have ht:(es.take (i+1)).map Er.nm=(es.take i).map Er.nm++[e.nm]:=(Hg (f:=Er.nm) he).symm
    k_go
    refine ⟨y,p,e,(es.take i).map Er.nm,rfl,hy.ts (DQ.of sG),hG,by rw [J0,Y2];lia,?_⟩
    cases hx:FM 7 ((es.take i).map Er.nm) e with
    |some x =>
     rw [hx] at hE
     rw [hE] at k
     exact Lm.from k sG
    |none =>
     rw [hx] at hE
     intro G2 sG2
     obtain ⟨q,u,rfl,h1,h2⟩:=hy
     refine ⟨.inl ⟨_,AD.of (sG2 _ _ hG)⟩,q,_,_,_,rfl,rfl,Bc.of ((sG.trans sG2) _ _ h1),Au (j:=2) rfl,p,_,_,rfl,rfl,sG2 _ _ hG,?_,?_⟩
     ·rw [J0,J0,Y2]
      exact E2 (show min i es.length<1000 by lia) (by kd_p)
     ·refine ⟨?_,Ea (sG.trans sG2) hp0,by rw [ht];exact hE⟩
      rw [Ab,ht,A3]
      rfl
   ·rintro σ G ⟨o2,rfl,hG,sG,hE⟩
    k_go
    rw [hys.1,K3,Y8] at hE
    have hE':DP 7 [] es=none:=hE
    rw [hE'] at k
    refine ⟨_,es,rfl,hP.ts (DQ.of sG),hne,errs_kn hE',?_⟩
    exact Lm.from k sG
theorem EO:Sc ["word", "value"] ["word"] (top 49):=BE (by lk)
theorem IR:CJ P w base T.fA 9 spToldV:=by
 exists T.fA.F.ok EO
 ·obtain ⟨z,rfl,hz,k⟩:=h
  refine (⟨_,(Ad (Be (i:=1) EO.nd (AB T.hJ (Jn T) hr (Aa (pv 0) Ac)))
  (Ae (Aj (Bq (Br (AB T.fW (Fu T) hr (Aa (pv 1) Ac))) AF (pv 1))))),?_⟩)
  k_go
  refine ⟨z,rfl,by lia,λH1 s1=>⟨Do z,rfl,th_val hz,λH2 s2=>⟨_,rfl,?_⟩⟩⟩
  have k:=k H2 (s1.trans s2)
  unfold Qi at k
  by_cases c:Jr (Do z)=true
  ·rw [if_pos c] at k |-;exact k
  ·rw [if_neg c] at k |-;exact k
theorem Nu:Sc ["slot", "word"] ["slot", "word"] (top 51):=BE (by lk)
theorem NO:CJ P w base T.aJ 12 (Lz):=by
 exists T.aJ.F.ok Nu
 ·obtain ⟨y,z,rfl,hy,hz,k⟩:=h
  refine (⟨_,(Ad (AA (OX (JL (pv 0) (AO (v:=.ref T.bda) rfl T.bdm rfl)))
  (Ae (Aj (AB T.iL (Km T) hr (Aa (pv 1) (Aa (Az As (Mt (AO (v:=.ref T.bda) rfl T.bdm rfl) (pv 0) (λ_ _=>rfl)) Ai) (Aa (Az As (Mt (AO (v:=.ref T.bda) rfl T.bdm rfl) (pv 0) (λ_ _=>rfl)) Ai) Ac))))))
  An)
  (Ad (AA (Al AQ (pv 0) Ak (Am _))
  (Ae (Aj (Bq (Br (AB T.fW (Fu T) hr (Aa (pv 1) Ac))) (pv 1) AF)))
  An)
  (Ad (AA (Al AQ (pv 0) Ak (Am _))
  (Ae (Aj (AB T.fA (IR T) hr (Aa (pv 1) Ac))))
  An)
  (Ad (AA (PW.pt (CT (Al AQ (pv 0) Ak (Am _)) (CH (Al AQ (pv 1) (AO (v:=.str "-") rfl T.nom ⟨_,rfl⟩) (Am _)))))
  (Ae (Aj (Cm Ac)))
  An)
  (Ad (AA (Al BQ (pv 0) (Cm (Aa Ak (Aa Ak Ac))) (by with_unfolding_all rfl))
  (Ae (Aj (AB T.jr (Dc (k:=1)) hr (Aa (pv 1) Ac))))
  An)
  (Ae (Aj (Bq (Al AQ (pv 1) (pv 0) (Am _)) (pv 1) AF)))))))),?_⟩)
  k_go
  refine dinK (P:=P) (w:=w) rfl T.bd ⟨_,rfl,?_⟩
  rw [j4]
  unfold Dd at k
  rcases hy with rfl | hy
  ·obtain ⟨c,ec,hc⟩:=T.bvn
   rw [ec]
   refine UA rfl (dixK (P:=P) (w:=w) rfl T.bd ec ⟨c,_,0,.int 0,rfl,rfl,hc _,Au (j:=0) rfl,dixK (P:=P) (w:=w) rfl T.bd ec ⟨c,_,1,.int 9999,rfl,rfl,hc _,Au (j:=1) rfl,z,0,9999,rfl,by lia,λH1 s1=>?_⟩⟩)
   have:=k H1 s1
   rw [if_pos rfl] at this
   exact this
  ·rw [T.bvo y hy]
   have hn:y≠"NUMBER"/\y≠"NOTED"/\y≠"FAULTS":=by
    have:SLO.all (λy=>decide (y≠"NUMBER"/\y≠"NOTED"/\y≠"FAULTS"))=true:=by lk
    exact of_decide_eq_true (C2.mp this y hy)
   simp only [if_neg hn.1] at k
   refine iteF' rfl ⟨rfl,?_⟩
   by_cases h4:y="NAME"
   ·refine Cw h4 ⟨.str z,rfl,.str z (by lia),λH1 s1=>⟨_,rfl,?_⟩⟩
    have k1:=k H1 s1
    rw [if_pos h4] at k1
    show if CB z=true then _ else _
    cases hm:CB z with
    |true=>rw [hm] at k1;exact k1
    |false=>rw [hm] at k1;exact k1
   simp only [if_neg h4] at k
   refine CD h4 ⟨rfl,?_⟩
   by_cases h3:y="TOLD"
   ·refine Cw h3 ⟨z,rfl,hz,λH1 s1=>?_⟩
    have:=k H1 s1
    rw [if_pos h3] at this
    exact this
   simp only [if_neg h3] at k
   refine CD h3 ⟨rfl,?_⟩
   refine CD hn.2.1 (L2.iteF ⟨by kd_p,λp hp=>⟨p,_,rfl,.inr (Bc.of Ab),rfl,rfl,?_⟩⟩)
   rw [if_neg Q0,show ([V.str "NOTED",V.str "FAULTS"]:List V)=(["NOTED", "FAULTS"]:List Str).map V.str from rfl,Kt]
   have s1:=Af.upd (o:=.tup ((["NOTED", "FAULTS"]:List Str).map V.str)) hp
   refine ⟨_,rfl,CD (by simpa using ⟨hn.2.1,hn.2.2⟩) ⟨rfl,?_⟩⟩
   have k1:=k _ s1
   by_cases h5:z=y
   ·rw [if_pos h5] at k1
    exact Cw h5 k1
   ·rw [if_neg h5] at k1
    exact CD h5 k1
theorem Pj (G_field_at:CJ P w base T.aJ 12 (Lz)):CJ P w base T.fY 14 (Tl T.aJ.f):=by
 exists T.fY.F.ok Gq
 ·obtain ⟨a,b,slots,ws,rfl,ha,hb,ws1,ws2,k0,k1⟩:=h
  have G_own:=G_field_at
  have kp_own:=T.aJ.F.kp
  have b_own:=T.aJ.b
  have hs:=se_ok slots ws1
  refine (⟨_,(Ad (AA (Al Kg (Av AI (by rfl) T.bn Bf (Aa (pv 0) Ac)) (Av AI (by rfl) T.bn Bf (Aa (pv 1) Ac)) (Am _))
  (Ae (Aj AF))
  An)
  (Ad (FV (i:=3) Gq.nd rfl (Or.inl rfl) (N':=["slot", "word", "field_at"]) (sel:=[none,none,some 2]) rfl rfl rfl (TQ rfl T.mo (Aa (pv 0) (Aa (pv 1) Ac))) (UK rfl rfl) (λ_ _ _ _ _=>⟨(FW rfl (Bt (Bm (i:=0) (show (["slot", "word", "field_at"]:List Str).Nodup by lk) rfl (Or.inl rfl)) (Bt (Bm (i:=1) (show (["slot", "word", "field_at"]:List Str).Nodup by lk) rfl (Or.inl rfl)) Ez))),CU,(Kf (pv 2) G_own (hr.mono (by lia)) kp_own b_own .nil AH (Aa (pv 0) (Aa (pv 1) Ac)))⟩) rfl)
  (Ae (Aj (Bq (Al BQ AF (pv 3) (by with_unfolding_all rfl)) AF (pv 3)))))),?_⟩)
  w_up
  refine ⟨slots.length,Bu.mpr (.inl ⟨_,AD.of ha,by rw [J0]⟩),ws.length,Bu.mpr (.inl ⟨_,AD.of hb,by rw [J0]⟩),rfl,?_⟩
  by_cases hl:slots.length=ws.length
  ·refine Kv (by rw [hl]) ?_
   simp only [IA,iZip]
   w_up
   refine ⟨⟨_,AD.of ha⟩,⟨_,AD.of hb⟩,?_⟩
   refine Uu (K:=K) (xs:=slots.map V.str) (ys:=ws.map V.str) (by rw [J0,J0,hl]) (λi zs G=>Af H G/\zs=(D4 Dd slots ws).take i) ⟨Af.refl H,rfl⟩ ?_ ?_ ?_ ?_
   ·rintro i zs G hi ⟨s1,rfl⟩
    exact ⟨AD.of (s1 _ _ ha),AD.of (s1 _ _ hb),by rw [Y2];lia⟩
   ·rw [J0];exact C0 hs.1 (by kd_p)
   ·rintro i x y p zs G hx hy ⟨s1,rfl⟩ hp
    rw [J2] at hx hy
    obtain ⟨sl,hsl,rfl⟩:=W2.mp hx
    obtain ⟨wd,hwd,rfl⟩:=W2.mp hy
    simp only [Sb,He,MJ,Mb]
    w_up
    have e1:(D4 Dd slots ws)[i]?=some (Dd sl wd):=by rw [C6,hsl,hwd]
    refine ⟨_,Bc.of Ab,rfl,_,_,rfl,_,_,rfl,rfl,sl,wd,rfl,hs.2 _ (j0 hsl),ws2.2 _ (j0 hwd),λH4 s4=>⟨(s1.trans (Af.upd hp)).trans s4,?_⟩⟩
    rw [W6,e1]
    rfl
   ·rintro zs G ⟨s1,rfl⟩ D hD
    rw [J0]
    have eL:(D4 Dd slots ws).take slots.length=D4 Dd slots ws:=A6 (by rw [B8];lia)
    rw [eL]
    have s2:Af H (upd G D (.lst (D4 Dd slots ws))):=s1.trans (Af.upd hD)
    refine ⟨D,_,rfl,.inl (AD.of Ab),rfl,zip_E slots ws,_,rfl,?_⟩
    rw [if_neg Q0]
    cases hi:Ik V.non (D4 Dd slots ws) with
    |true =>
     refine k0 ?_ _ s2
     unfold Px
     rw [if_pos hl,if_pos hi]
    |false =>
     refine k1 _ ?_ D _ (s1.free hD) Ab s2
     unfold Px
     rw [if_pos hl,if_neg (by rw [hi];exact Q0)]
  ·refine Ku (λq=>hl (Int.ofNat.inj q)) (k0 ?_ H (Af.refl H))
   unfold Px
   rw [if_neg hl]
theorem RQ (G_fitted:CJ P w base T.fY 14 (Tl T.aJ.f)):CJ P w base T.dL 16 (No T):=by
 exists T.dL.F.ok Ct
 ·obtain ⟨b,ws,rfl,hb,hw,k0,k1⟩:=h
  refine (⟨_,(Ad (BF PassesOwn.never rfl (Dt (pv 0)) (Di (i:=3) Ct.nd)
  (Ad (Be (i:=4) Ct.nd (AB T.fY G_fitted hr (Aa (Bk L3 Z4 Y4 Ef (pv 3) (Aa Ak Ac)) (Aa (pv 1) (Aa (pv 2) Ac)))))
  (Ae (AA (Al HR (pv 4) AF (Am _))
  (Ae (Aj (pv 4)))
  An))))
  (Ae (Aj AF))),?_⟩)
  w_up
  simp only [SN,UD,Hh,T6,C7,exists_eq_left',V.ref.injEq]
  refine ⟨⟨_,T.evt H⟩,?_⟩
  refine DV (K:=K) (a:=T.eva) (xs:=EVS.map V.str) (D:={ nx:=SK (tC V.non) { nx:=λx H'=>Q V.non H',rt:=Q },rt:=Q }) (λi σ G=>Af H G/\(∃ x y,σ=[some (V.ref T.eva),some (V.ref b),some (V.ref T.aJ.f),x,y])/\EL (SE.drop i) ws=EL SE ws) ⟨Af.refl H,⟨_,_,rfl⟩,rfl⟩ ?_ ?_ ?_
  ·rintro i σ G hi ⟨s1,_,_⟩
   exact T.evt G
  ·rintro i x σ G hx ⟨s1,⟨x1,y1,rfl⟩,e⟩
   rw [J2] at hx
   obtain ⟨fm,hfm,rfl⟩:=W2.mp hx
   have hS:SE[i]?=some (Txt.split fm ⟨#[32]⟩):=by rw [<- Si,J2,hfm];rfl
   have hd:=Ol (ws:=ws) hS
   rw [e] at hd
   w_up
   refine ⟨fm,32,rfl,by rw [sp1],C0 (evs_le fm (j0 hfm)) (by kd_p),λq hq=>?_⟩
   have sq:=s1.trans (Af.upd (o:=.lst ((Txt.split fm ⟨#[32]⟩).map V.str)) hq)
   refine ⟨q,b,_,ws,rfl,Ab,sq _ _ hb,j0 hS,hw,λe2 H1 sm=>?_,λx e2 l H1 hl0 hl1 sm=>?_⟩
   ·rw [e2] at hd
    exact Kv rfl ⟨sq.trans sm,⟨_,rfl⟩,hd.symm⟩
   ·rw [e2] at hd
    exact Ku (λz=>nomatch z) (k1 x hd l H1 (sq.free hl0) hl1 (sq.trans sm))
  ·rintro σ G ⟨s1,_,e⟩
   rw [J0] at e
   have e2:SE.drop EVS.length=[]:=rfl
   rw [e2] at e
   w_up
   exact k0 e.symm G s1

theorem FT:Sc ["rows", "pairs", "row"] ["rows"] (top 106):=BE (by lk)
theorem NK:CJ P w base T.ja 11 Ti:=by
 exists T.ja.F.ok FT
 ·obtain ⟨v,rs,rfl,hv,hs,hf,k⟩:=h
  have hu:=BU hr
  refine (⟨_,(Ad (Be (i:=1) FT.nd (Ao Ac))
  (Ad (BF PassesOwn.never rfl (Cg (AB T.hV (HS T (Ed T) 7) hr (Aa (pv 0) Ac))) (Di (i:=2) FT.nd)
  (Ae (AA (Al BQ (Az As (pv 2) Ai) (Cm (Aa Ak (Aa Ak Ac))) (by with_unfolding_all rfl))
  (Ae (AJ (Bk Y0 V1 T1 AW (pv 1) (Aa (Cm (Aa (Az As (pv 2) Ai) (Aa (Az As (pv 2) Ai) Ac))) Ac))))
  (Ae (AA (Al AQ (Az As (pv 2) Ai) Ak (Am _))
  (Ae (AJ (Bk Y0 V1 T1 AW (pv 1) (Aa (Cm (Aa (Az As (pv 2) Ai) (Aa (Az As (pv 2) Ai) Ac))) Ac))))
  An)))))
  (Ae (Aj (pv 1))))),?_⟩)
  walk_at "sw"
  refine ⟨by kd_p,λp hp=>?_⟩
  have s1:=Af.upd (o:=.lst []) hp
  have l1:(upd H p (.lst [])) p=some (.lst []):=Ab
  generalize upd H p (.lst [])=H1 at s1 l1 |-
  refine ⟨v,rs,rfl,hv.ts (DQ.of s1),hs,λl us H2 hl h2 w2 s2=>⟨l,rfl,⟨_,AD.of h2⟩,?_⟩⟩
  rw [EM 6 λr hr=>(hf r hr).1] at w2
  refine Fc (K:=K) (a:=l) (xs:=us) (λi σ G=>∃ o2:Option V,σ=[some v,some (.ref p),o2]/\Af H2 G) ⟨none,rfl,Af.refl _⟩ (λi σ G _ ⟨_,_,s⟩=>AD.of (s _ _ h2)) ?_ ?_
  ·rintro i y σ G hi ⟨o2,rfl,s⟩
   obtain ⟨r,hr2,hy⟩:=w2.get hi
   have hw:=(hf r (j0 hr2)).2
   k_go
   refine (hy.ts (DQ.of s)).ix0 ⟨by kd_p,λp1 hp1=>?_⟩
   have s3:=s.trans (Af.upd (o:=.tup [.str "ring",.str "send"]) hp1)
   have nin:Ik (.str r.w) [.str "ring",.str "send"]=false/\r.w≠"begin":=by
    simp only [W4,S0,A2,or_false] at hw
    rcases hw with e | e | e | e<;>rw [e]<;>lk
   exact ⟨p1,_,rfl,.inr (Bc.of Ab),rfl,by lk,_,rfl,bF nin.1 ((hy.ts (DQ.of s3)).ix0 ⟨rfl,bF (decide_eq_false λz=>nin.2 (V.str.inj z)) s3⟩)⟩
  ·rintro σ G ⟨o2,rfl,s⟩
   k_go
   exact k p G hp (s _ _ (s2 _ _ l1)) (s1.trans (s2.trans s))
theorem EG:Sc ["pairs", "reach", "told", "pair"] ["pairs", "reach"] (top 112):=BE (by lk)
theorem Lf:CJ P w base T.ig 2 spWithB:=by
 exists T.ig.F.ok EG
 ·obtain ⟨l,d,rfl,hl,k⟩:=h
  have hu:=BU hr
  have hu1:=CG hr
  refine (⟨_,(Ad (Be (i:=2) EG.nd (Ay BX (by rfl) T.iE EF (Aa (pv 0) Ac)))
  (Ad (BF PassesOwn.never rfl (Cg (pv 0)) (Di (i:=3) EG.nd)
  (Ae (AA (Al AQ (Az As (pv 3) Ai) Ak (Am _))
  (Ae (AJ (Bk Y0 m5 j5 EY (pv 2) (Aa (Cv hu1 (pv 1) (Az As (pv 3) Ai) (λ_ _=>rfl)) Ac))))
  An)))
  (Ae (Aj (Av (MO (P:=P) (w:=w) rfl rfl rfl) (by rfl) T.lD Sr (Aa (Ay (Vh (P:=P) (w:=w) rfl rfl rfl) (by rfl) T.ny bt_set (Aa (pv 2) Ac)) Ac)))))),?_⟩)
  walk_at "sw"
  refine ⟨_,.inl (AD.of hl),λl1 hl1=>?_⟩
  have s1:=Af.upd (o:=.lst []) hl1
  have e1:(upd H l1 (.lst [])) l1=some (.lst []):=Ab
  generalize upd H l1 (.lst [])=H1 at s1 e1 |-
  refine ⟨l,rfl,⟨_,AD.of (s1 _ _ hl)⟩,?_⟩
  refine Fc (K:=K) (a:=l) (xs:=[]) (λi σ G=>σ=[some (.ref l),some (.ref d),some (.ref l1),none]/\G=H1) ⟨rfl,rfl⟩ (λi σ G _ ⟨_,e⟩=>by subst e;exact AD.of (s1 _ _ hl)) (λi y σ G hi _=>by cases hi) ?_
  rintro σ G ⟨rfl,rfl⟩
  k_go
  exact ⟨AD.of e1,λS hS=>⟨Ab,λr hr'=>k r _ (s1.trans ((Af.upd hS).trans (Af.upd hr')))⟩⟩
theorem FS:Sc ["program", "reach", "errand"] ["program"] (top 113):=BE (by lk)
theorem NJ:CJ P w base T.jb 14 spReach:=by
 exists T.jb.F.ok FS
 ·obtain ⟨v,es,rfl,hP,hf,k⟩:=h
  have hu:=BU hr
  have hu1:=CG hr
  refine (⟨_,(Ad (Be (i:=1) FS.nd BY)
  (Ad (BF PassesOwn.never rfl (Dt (pv 0)) (Di (i:=2) FS.nd)
  (Ae (Fs hu1 (pv 1) (Az As (pv 2) Ai) (AB T.ig (Lf T) hr (Aa (AB T.ja (NK T) hr (Aa (Az As (pv 2) Ai) Ac)) (Aa (pv 1) Ac))) rfl)))
  (Ae (Aj (pv 1))))),?_⟩)
  obtain ⟨b,ys,rfl,hb,hyl,hys⟩:=hP
  walk_at "sw"
  intro p hp
  have s1:=Af.upd (o:=.dK []) hp
  refine ⟨b,rfl,⟨_,Bc.of (s1 _ _ hb)⟩,DV (K:=K) (a:=b) (xs:=ys) (λi σ G=>∃ (o2:Option V) (kvs:List (Bw×V)),σ=[some (.ref b),some (.ref p),o2]/\G p=some (.dK kvs)/\kvs.length<=i/\Af H G) ⟨none,[],rfl,Ab,P0 _,s1⟩ (λi σ G _ ⟨_,_,_,_,_,s⟩=>Bc.of (s _ _ hb)) ?_ ?_⟩
  ·rintro i y σ G hi ⟨o2,kvs,rfl,hG,hkl,s⟩
   obtain ⟨e,he,q,u,rfl,h1,h2,h3⟩:=hys.get hi
   have hi2:=(Q1.mp hi).1
   have hel:=hys.1
   simp only [Ka]
   k_go
   refine ⟨q,_,_,_,rfl,rfl,Bc.of (s _ _ h1),Au (j:=3) rfl,u,e.rows,rfl,h2.ts (DQ.of s),by lia,(hf e (j0 he)).2,λl H2 hl hl2 s2=>⟨l,p,rfl,hl2,λr H3 s3=>?_⟩⟩
   have s23:=s2.trans s3
   refine ⟨q,_,_,_,rfl,rfl,Bc.of (s23 _ _ (s _ _ h1)),Au (j:=2) rfl,_,Qf.k (k:=Sum.inr e.nm) (s23 _ _ hG) (Dq (by lia)),?_⟩
   refine ⟨_,Ab,?_,Ea (s.trans s23) hp⟩
   have:=BB kvs (Sum.inr e.nm:Bw) (.ref r)
   lia
  ·rintro σ G ⟨o2,kvs,rfl,hG,hkl,s⟩
   k_go
   exact k p G s
theorem Ex:Sc ["self"] ["self"] (Ag (top 81) 0):=BE (by lk)
theorem HY:AS P w K mg base CX0 1 T.bJ.f T.bJ.fd ["self"] (Qr T.dq):=by
 exists T.bJ.F.ok Ex
 ·obtain ⟨p,dx,rfl,hp,k⟩:=h
  refine (⟨_,(Ae (Aw (pv 0) BY rfl)),?_⟩)
  k_go
  intro d hd
  have s1:=Af.upd (o:=.dK []) hd
  have F:=(Oj.new hp).same s1
  exists F,T.lR,T.jT,H1,b1,F1
  exact k _ ((CP.of s1).trans b1)
theorem Ih:AS P w K mg base CX0 2 T.bK.f T.bK.fd ["self"] (Qr T.du):=by
 exists T.bK.F.ok Ex
 ·obtain ⟨p,dx,rfl,hp,k⟩:=h
  refine (⟨_,(Ae (Aw (pv 0) BY rfl)),?_⟩)
  k_go
  intro d hd
  have s1:=Af.upd (o:=.dK []) hd
  exists ((Oj.new hp).same s1),T.lU,T.jU,H1,b1,F1
  exact k _ ((CP.of s1).trans b1)
theorem HM:Sc ["self"] ["self"] (Ag (top 85) 0):=BE (by lk)
theorem Ig:AS P w K mg base CX0 5 T.bL.f T.bL.fd ["self"] (Qr T.cz):=by
 exists T.bL.F.ok HM
 ·obtain ⟨p,dx,rfl,hp,k⟩:=h
  refine (⟨_,(Ad (Aw (pv 0) (DA T.lT (HY T) (hr.mono (by lia)) rfl T.lS T.bJ.b .nil AH) rfl)
  (Ae (Aw (pv 0) BY rfl))),?_⟩)
  k_go
  intro l dl hl hdl nl
  have s0:=CZ (C:=T.dq) hl hdl nl
  refine ⟨l,dl,rfl,Ab,λH1 b1=>⟨rfl,?_⟩⟩
  have s1:Af H H1:=CS hl s0 b1
  exists ((Oj.new hp).same s1),T.kU,T.jV,H2,b2,F2
  intro d hd
  have s3:=Af.upd (o:=.dK []) hd
  exists (F2.same s3),T.kU,T.kD,H4,b4,F4
  exact k _ ((CP.of s1).trans (b2.trans ((CP.of s3).trans b4)))
theorem HL:Sc ["self"] ["self"] (Ag (top 87) 0):=BE (by lk)
theorem Ie:AS P w K mg base CX0 1 T.bM.f T.bM.fd ["self"] (spClkI T.aN):=by
 exists T.bM.F.ok HL
 ·obtain ⟨p,dx,rfl,hp,k⟩:=h
  refine (⟨_,(Ad (Aw (pv 0) Ai rfl)
  (Ae (Aw (pv 0) (Ao Ac) rfl))),?_⟩)
  k_go
  have F:=Oj.new hp
  exists F,T.jN,T.ji,H1,b1,F1
  refine ⟨by kd_p,λd hd=>?_⟩
  have s1:=Af.upd (o:=.lst []) hd
  exists (F1.same s1),T.jN,T.jx,H2,b2,F2
  exact k _ _ (b1.trans ((CP.of s1).trans b2)) F2
theorem Mo:Sc ["self"] ["self"] (Ag (top 87) 1):=BE (by lk)
theorem My:AS P w K mg base CX0 1 T.fj.f T.fj.fd ["self"] (spClkN T.aN):=by
 exists T.fj.F.ok Mo
 ·obtain ⟨p,v,rfl,F,k⟩:=h
  refine (⟨_,(Ae (Aj (Ap (pv 0) rfl))),?_⟩)
  k_go
  exact F.rd T.jN T.ji rfl k
theorem Hs:Sc ["self"] ["self"] (Ag (top 91) 0):=BE (by lk)
theorem Hy:AS P w K mg base CX0 2 T.bu.f T.bu.fd ["self"] (Qr T.aB):=by
 exists T.bu.F.ok Hs
 ·obtain ⟨p,dx,rfl,hp,k⟩:=h
  refine (⟨_,(Ad (Aw (pv 0) BY rfl)
  (Ad (Aw (pv 0) BY rfl)
  (Ad (Aw (pv 0) BY rfl)
  (Ad (Aw (pv 0) BY rfl) An)))),?_⟩)
  exact qb (qc hp) T.jj T.jI λ_ _ I=>qb I T.jj T.jy λ_ _ I=>qb I T.jj T.iB λ_ _ I=>qb I T.jj T.jk λ_ _ I=>k _ I.tt
theorem HK:Sc ["self", "rows", "line", "scope"] ["self", "rows", "line", "scope"] (Ag (top 97) 0):=BE (by lk)
theorem HZ:AS P w K mg base CX0 2 T.bN.f T.bN.fd ["self", "rows", "line", "scope"] (spFrI T.aA):=by
 exists T.bN.F.ok HK
 ·obtain ⟨p,dx,a,xs,rfl,hp,ha,k⟩:=h
  refine (⟨_,(By (Aw (pv 0) (Ay BC (by rfl) T.gy DD (Aa (pv 1) Ac)) rfl)
  (Ad (Aw (pv 0) (pv 2) rfl)
  (Ad (Aw (pv 0) (pv 3) rfl)
  (Ad (Aw (pv 0) Ai rfl)
  (Ad (Aw (pv 0) AF rfl)
  (Ad (Aw (pv 0) AF rfl) An)))))),?_⟩)
  walk_at "m"
  refine ⟨_,.inr ⟨Bc.of ha,?_⟩⟩
  obtain ⟨_,_,q,l,z⟩:=(qc hp).put (Af.refl H)
  refine ⟨_,_,_,q,T.iN,T.kE,by lia,?_⟩
  refine hN _ _ (qa (z _ _ _ rfl) T.iN T.kF (v:=.int 0) (hv:=λ_ q=>tVo rfl q) λ_ I=>qa I T.iN T.kf (v:=.int 0) (hv:=λ_ q=>tVo rfl q) λ_ I=>qa I T.iN T.jc λ_ I=>qa I T.iN T.kg λ_ I=>qa I T.iN T.kH λ_ I=>k _ I.tt)
theorem GK:Sc ["self", "rows"] ["self", "rows"] (Ag (top 108) 0):=BE (by lk)
theorem GT:AS P w K mg base CX0 5 T.aY.f T.aY.fd ["self", "rows"] (spMcI T.ad):=by
 exists T.aY.F.ok GK
 ·obtain ⟨p,dx,a,xs,rfl,hp,ha,k⟩:=h
  refine (⟨_,(By (Aw (pv 0) (Ao (Aa (EA T.mf (HZ T) (hr.mono (by lia)) rfl T.ma T.bN.b .nil AH (Aa (pv 1) (Aa Ai (Aa Ai Ac)))) Ac)) rfl)
  (Ad (Aw (pv 0) Ai rfl)
  (Ad (Aw (pv 0) BY rfl)
  (Ad (Aw (pv 0) Ai rfl)
  (Ad (Aw (pv 0) BY rfl)
  (Ad (Aw (pv 0) AF rfl)
  (Ad (Aw (pv 0) Ec rfl)
  (Ad (Aw (pv 0) AF rfl)
  (Ad (Aw (pv 0) AF rfl) An))))))))),?_⟩)
  walk_at "m"
  intro f df hf hdf nf
  have s0:=CZ (C:=T.aA) hf hdf nf
  refine ⟨f,df,a,xs,rfl,Ab,s0 _ _ ha,λH1 b1=>⟨rfl,by kd_p,λl hl=>?_⟩⟩
  obtain ⟨_,_,q,_,z⟩:=(qc hp).put ((CS hf s0 b1).trans (Af.upd (o:=.lst [.ref f]) hl))
  refine ⟨_,_,_,q,T.aR,T.jz,by lia,hN _ _ (qa (z _ _ _ rfl) T.aR T.iC λ_ I=>qb I T.aR T.ij λ_ _ I=>qa I T.aR T.jJ λ_ I=>qb I T.aR T.jK λ_ _ I=>qa I T.aR T.jA λ_ I=>qa I T.aR T.jB λ_ I=>qa I T.aR T.iD λ_ I=>qa I T.aR T.gW λ_ I=>k _ I.tt ⟨_,_,I.F,rfl,rfl,rfl,rfl⟩)⟩
theorem Hq:Sc ["self"] ["self"] (Ag (top 108) 1):=BE (by lk)
theorem Hw:AS P w K mg base CX0 2 T.bv.f T.bv.fd ["self"] (spMcQ T.ad):=by
 exists T.bv.F.ok Hq
 ·obtain ⟨p,rfl,⟨n,g,F,h1,h2,h3,h4⟩,k⟩:=h
  refine (⟨_,(Ae (Aj (Ap (pv 0) rfl))),?_⟩)
  k_go
  exact F.rd T.aR T.iD h1 k
theorem Hr:Sc ["self"] ["self"] (Ag (top 108) 2):=BE (by lk)
theorem Hx:AS P w K mg base CX0 2 T.bw.f T.bw.fd ["self"] (spMcQ T.ad):=by
 exists T.bw.F.ok Hr
 ·obtain ⟨p,rfl,⟨n,g,F,h1,h2,h3,h4⟩,k⟩:=h
  refine (⟨_,(Ae (Aj (Ap (pv 0) rfl))),?_⟩)
  k_go
  exact F.rd T.aR T.gW h2 k
theorem GI:Sc ["self", "number"] ["self", "number"] (Ag (top 115) 11):=BE (by lk)
theorem DM:AS P w K mg base CX0 2 T.au.f T.au.fd ["self", "number"] (spMacA T):=by
 exists T.au.F.ok GI
 ·obtain ⟨p,rfl,N,k⟩:=h
  refine (⟨_,(Ad (AA (DF (HP FH Ud Ai (pv 1) (Av AI (by rfl) T.bn Bf (Aa (Ap (pv 0) rfl) Ac))))
  (Ae NE)
  An)
  (Ae (Aj (Az AK (Ap (pv 0) rfl) (pv 1))))),?_⟩)
  obtain ⟨n,g,c,a,b,m,q,v,h1,h2,h3,h4,h5,h6,h7,h8,h9,h10,h11,h12⟩:=N.ex
  k_go
  exact bT rfl (h1.rd T.ao T.bO h8 ⟨_,Bu.mpr (.inl ⟨_,AD.of h9,rfl⟩),bF rfl (h1.rd T.ao T.bO h8 ⟨b,_,_,_,rfl,rfl,AD.of h9,Au (j:=0) rfl,k m h10⟩)⟩)
theorem GH:Sc ["self", "name"] ["self", "name"] (Ag (top 115) 27):=BE (by lk)
theorem GR:AS P w K mg base CX0 8 T.aZ.f T.aZ.fd ["self", "name"] (spNewE T):=by
 exists T.aZ.F.ok GH
 ·obtain ⟨p,a,b,d,r,n,g,xs,rfl,F,g1,ha,g2,hb,ne,g3,hd,hr',k⟩:=h
  have hu1:=CG hr
  refine (⟨_,(Ad (AJ (Bk Y0 V1 T1 AW (Ap (pv 0) rfl) (Aa (pv 1) Ac)))
  (Ad (AJ (Bk Y0 V1 T1 AW (Ap (pv 0) rfl) (Aa (EA T.lg (GT T) (hr.mono (by lia)) rfl T.ld T.aY.b .nil AH (Aa (Cv hu1 (Ap (pv 0) rfl) (pv 1) (λ_ _=>rfl)) Ac)) Ac)))
  (Ae (Aj (AL Uc (Av AI (by rfl) T.bn Bf (Aa (Ap (pv 0) rfl) Ac)) Ai))))),?_⟩)
  k_go
  obtain ⟨_,_,hp⟩:=F.at
  have b1:CP a H (upd H a (.lst ([]++[.str "a"]))):=λc o m e=>by rw [Ah m];exact e
  have e1:(upd H a (.lst ([]++[.str "a"]))) a=some (.lst [.str "a"]):=Ab
  refine F.rd T.ao T.gA g1 ⟨.inl ⟨_,AD.of ha⟩,a,[],_,rfl,rfl,ha,by kd_p,?_⟩
  generalize upd H a (.lst ([]++[.str "a"]))=H1 at b1 e1 |-
  have F1:=F.but b1 (AU hp ha (λz=>nomatch z))
  have hb1:=b1 _ _ (Ne.symm ne) hb
  have hd1:=b1 _ _ (AU hd ha (λz=>nomatch z)) hd
  have hr1:=b1 _ _ (AU hr' ha (λz=>nomatch z)) hr'
  refine F1.rd T.ao T.bO g2 ⟨.inl ⟨_,AD.of hb1⟩,?_⟩
  simp only [Jj]
  k_go
  refine F1.rd T.ao T.fT g3 ⟨d,rfl,_,KO.k (k:=Sum.inr "a") hd1,λx dx hx hdx nx=>?_⟩
  have s0:=CZ (C:=T.ad) hx hdx nx
  refine ⟨x,dx,r,xs,rfl,Ab,s0 _ _ hr1,λH2 b2 M2=>⟨rfl,?_⟩⟩
  have s2:Af H1 H2:=CS hx s0 b2
  have hb2:=s2 _ _ hb1
  obtain ⟨_,_,hp1⟩:=F1.at
  have hp2:=s2 _ _ hp1
  refine ⟨b,[],_,rfl,rfl,hb2,by kd_p,?_⟩
  have F3:Oj T.ac n (upd H2 b (.lst [.ref x])) p g:=(F1.same s2).but (λc o m e=>by rw [Ah m];exact e) (AU hp2 hb2 (λz=>nomatch z))
  refine F3.rd T.ao T.bO g2 ⟨_,Bu.mpr (.inl ⟨_,AD.of Ab,rfl⟩),k _ x (λc o n1 n2 h=>?_) ?_ Ab (M2.but λo ho ⟨_,_,_,e⟩=>?_)⟩
  ·show (upd H2 b _) c=_
   rw [Ah n2];exact s2 _ _ (b1 _ _ n1 h)
  ·show (upd H2 b _) a=_
   rw [Ah ne];exact s2 _ _ e1
  ·subst e
   show (upd H2 b _) x=_
   rw [Ah (AU ho hb2 (λz=>nomatch z))];exact ho
theorem GJ:Sc ["self", "number"] ["self", "number"] (Ag (top 115) 28):=BE (by lk)
theorem GS:AS P w K mg base CX0 2 T.ba.f T.ba.fd ["self", "number"] (spComeR T):=by
 exists T.ba.F.ok GJ
 ·obtain ⟨p,q,u,n,g,rfl,F,g1,hq,g2,hu',ne,k⟩:=h
  refine (⟨_,(Ad (AJ (Bk Y0 V1 T1 AW (Ap (pv 0) rfl) (Aa (pv 1) Ac)))
  (Ae (AJ (Bk Y0 V1 T1 AW (Ap (pv 0) rfl) (Aa (pv 1) Ac))))),?_⟩)
  k_go
  obtain ⟨_,_,hp⟩:=F.at
  have F1:Oj T.ac n (upd H q (.lst [.int 0])) p g:=F.but (λc o m e=>by rw [Ah m];exact e) (AU hp hq (λz=>nomatch z))
  have hu1:(upd H q (.lst [.int 0])) u=some (.lst []):=by rw [Ah (Ne.symm ne)];exact hu'
  exact F.rd T.ao T.iU g1 ⟨.inl ⟨_,AD.of hq⟩,q,[],_,rfl,rfl,hq,by kd_p,F1.rd T.ao T.iW g2 ⟨.inl ⟨_,AD.of hu1⟩,u,[],_,rfl,rfl,hu1,by kd_p,k _ λc o n1 n2 h=>by rw [Ah n2,Ah n1];exact h⟩⟩
theorem Mn:Sc ["self"] ["self"] (Ag (top 115) 3):=BE (by lk)
theorem Mx:AS P w K mg base CX0 5 T.fk.f T.fk.fd ["self"] (spNow T):=by
 exists T.fk.F.ok Mn
 ·obtain ⟨p,rfl,N,k⟩:=h
  refine (⟨_,(Ae (Aj (Bp (Ap (pv 0) rfl) T.jN T.fj.me (My T) (hr.mono (by lia)) T.fj.b .nil AH))),?_⟩)
  obtain ⟨n,g,c,a,b,m,q,v,h1,h2,h3,h4,h5,h6,h7,h8,h9,h10,h11,h12⟩:=N.ex
  k_go
  exact h1.rd T.ao T.iT h4 ⟨c,rfl,h5.call rfl ⟨c,v,rfl,h5,k⟩⟩
theorem KZ:Sc ["self"] ["self"] (Ag (top 115) 4):=BE (by lk)
theorem Dw:AS P w K mg base CX0 2 T.ay.f T.ay.fd ["self"] (Tj T []):=by
 exists T.ay.F.ok KZ
 ·obtain ⟨p,rfl,N,k⟩:=h
  refine (⟨_,(Ae (Aj (Ay BX (by rfl) T.iE EF (Aa (Ap (pv 0) rfl) Ac)))),?_⟩)
  obtain ⟨n,g,c,a,b,m,q,v,h1,h2,h3,h4,h5,h6,h7,h8,h9,h10,h11,h12⟩:=N.ex
  k_go
  exact h1.rd T.ao T.iV h11 ⟨q,rfl,_,.inl (AD.of h12),λl hl=>k l _ hl (Af.upd hl) Ab⟩
theorem II:Sc ["self"] ["self"] (Ag (top 115) 6):=BE (by lk)
theorem IU:AS P w K mg base CX0 2 T.cg.f T.cg.fd ["self"] (Tj T [.str "a"]):=by
 exists T.cg.F.ok II
 ·obtain ⟨p,rfl,N,k⟩:=h
  refine (⟨_,(Ae (Aj (Ay BX (by rfl) T.iE EF (Aa (Ap (pv 0) rfl) Ac)))),?_⟩)
  obtain ⟨n,g,c,a,b,m,q,v,h1,h2,h3,h4,h5,h6,h7,h8,h9,h10,h11,h12⟩:=N.ex
  k_go
  exact h1.rd T.ao T.gA h6 ⟨a,rfl,_,.inl (AD.of h7),λl hl=>k l _ hl (Af.upd hl) Ab⟩
theorem IG:Sc ["self", "number"] ["self", "number"] (Ag (top 115) 7):=BE (by lk)
theorem EV:AS P w K mg base CX0 5 T.aK.f T.aK.fd ["self", "number"] (Tf T):=by
 exists T.aK.F.ok IG
 ·obtain ⟨p,rfl,N,k⟩:=h
  refine (⟨_,(Ae (Aj (Bp (Bi (pv 0) T.ao T.au.me (DM T) (hr.mono (by lia)) T.au.b .nil AH (Aa (pv 1) Ac)) T.aR T.bv.me (Hw T) (hr.mono (by lia)) T.bv.b .nil AH))),?_⟩)
  k_go
  exact N.call (by simp) ⟨p,rfl,N,λm hm=>(by
   obtain ⟨n,g,F,e1,e2,e3,e4⟩:=id hm
   exact ⟨m,rfl,F.call e3 ⟨m,rfl,hm,k⟩⟩)⟩
theorem IH:Sc ["self", "number"] ["self", "number"] (Ag (top 115) 8):=BE (by lk)
theorem EW:AS P w K mg base CX0 5 T.aL.f T.aL.fd ["self", "number"] (Tf T):=by
 exists T.aL.F.ok IH
 ·obtain ⟨p,rfl,N,k⟩:=h
  refine (⟨_,(Ae (Aj (Bp (Bi (pv 0) T.ao T.au.me (DM T) (hr.mono (by lia)) T.au.b .nil AH (Aa (pv 1) Ac)) T.aR T.bw.me (Hx T) (hr.mono (by lia)) T.bw.b .nil AH))),?_⟩)
  k_go
  exact N.call (by simp) ⟨p,rfl,N,λm hm=>(by
   obtain ⟨n,g,F,e1,e2,e3,e4⟩:=id hm
   exact ⟨m,rfl,F.call e4 ⟨m,rfl,hm,k⟩⟩)⟩
theorem HJ:Sc ["self", "program", "events", "picks"] ["self", "program", "events", "picks"] (Ag (top 115) 0):=BE (by lk)
theorem EC:AS P w K mg base CX0 23 T.aS.f T.aS.fd ["self", "program", "events", "picks"] (spNtI T):=by
 exists T.aS.F.ok HJ
 ·obtain ⟨p,dx,ev,pk,v,e,xs,ys,rfl,hp,hP,hf,hl,hev,hpk,k⟩:=h
  have hu:=BU hr
  have hu1:=CG hr
  refine (⟨_,(Ad (AJ (Gr (Mv T) (hr.mono (by lia)) rfl T.fw.hm T.fw.F.kp T.fw.b .nil (passDN (E:=λ_ _ _=>False) (λ_ _ _ z=>z)) (Aa (pv 1) Ac)))
  (By (Aw (pv 0) (Ay (PP rfl) (by rfl) T.mw bt_dict (Aa (ER (N':=["errand"]) (sel:=[none]) rfl rfl rfl (Dt (pv 1)) (BO rfl) (λ_ _ _ _ _=>⟨(Bm (i:=0) (show (["errand"]:List Str).Nodup by lk) rfl (Or.inl rfl)),CU,(Cm (Aa (Az (DU (K:=K) rfl) (pv 0) Ai) (Aa (Az (DU (K:=K) rfl) (pv 0) Ai) Ac)))⟩)) Ac)) rfl)
  (By (Aw (pv 0) (AB T.jb (NJ T) hr (Aa (pv 1) Ac)) rfl)
  (By (Aw (pv 0) (Bq (Al DJ (pv 2) AF (Am _)) (Ao Ac) (Ay BX (by rfl) T.iE EF (Aa (pv 2) Ac))) rfl)
  (By (Aw (pv 0) (Bq (Al DJ (pv 3) AF (Am _)) (Ao Ac) (Ay BX (by rfl) T.iE EF (Aa (pv 3) Ac))) rfl)
  (By (Aw (pv 0) (DA T.l9 (Ie T) (hr.mono (by lia)) rfl T.lZ T.bM.b .nil AH) rfl)
  (Ad (Aw (pv 0) (DA T.lW (Ih T) (hr.mono (by lia)) rfl T.lV T.bK.b .nil AH) rfl)
  (Ad (Aw (pv 0) (DA T.lY (Ig T) (hr.mono (by lia)) rfl T.lX T.bL.b .nil AH) rfl)
  (Ad (Aw (pv 0) (DA T.lA (Hy T) (hr.mono (by lia)) rfl T.ly T.bu.b .nil AH) rfl)
  (Ad (Aw (pv 0) (Ao Ac) rfl)
  (Ad (Aw (pv 0) (Ao Ac) rfl)
  (Ad (Aw (pv 0) BY rfl)
  (Ad (Aw (pv 0) (Ao Ac) rfl)
  (Ad (Aw (pv 0) (Ao Ac) rfl)
  (Ad (Aw (pv 0) (Ao Ac) rfl)
  (Ad (Aw (pv 0) (Ao Ac) rfl)
  (Ae (AJ (Bi (pv 0) T.ao T.ba.me (GS T) (hr.mono (by lia)) T.ba.b .nil AH (Aa (Bi (pv 0) T.ao T.aZ.me (GR T) (hr.mono (by lia)) T.aZ.b .nil AH (Aa (Az As (Az As (pv 1) (Jm FP Ai)) Ai) Ac)) Ac)))))))))))))))))))),?_⟩)
  k_go
  refine ⟨v,[e],rfl,hP,(λz=>nomatch z),?_⟩
  rw [hl]
  intro H1 s1
  have hP0:=hP
  obtain ⟨b,zs,rfl,hb,_,hz⟩:=hP
  obtain ⟨y,rfl⟩:∃ y,zs=[y]:=by
   match zs,hz.1 with
   |[y],_=>exact ⟨y,rfl⟩
  obtain ⟨q,u,rfl,hq,hrows,hsz⟩:=hz.2 0 _ _ rfl rfl
  obtain ⟨r,rr,rfl,hr1,hrl,hrr⟩:=hrows
  rw [hf.1] at hq
  have I0:Ni T.ac H [] H1 p 0 (λ_=>none):=⟨CP.of s1,(λx h=>nomatch h),List.nodup_nil,(Oj.new hp).same s1⟩
  walk_at "m"
  simp only [tLc,UD]
  w_up
  refine ⟨⟨_,Bc.of (s1 _ _ hb)⟩,Kr (K:=K) (a:=b) (xs:=[.ref q]) (λi ys G=>(i=0/\ys=[]/\G=H1)\/(i=1/\∃ t,ys=[.ref t]/\Af H1 G/\G t=some (.tup [.str "a",.ref r]))) (.inl ⟨rfl,rfl,rfl⟩) ?_ ?_ ?_ ?_⟩
  ·rintro i ys G hi (⟨rfl,rfl,rfl⟩ | ⟨rfl,t,rfl,s,_⟩)
   ·exact ⟨Bc.of (s1 _ _ hb),P0 _⟩
   ·exact ⟨Bc.of (s _ _ (s1 _ _ hb)),P0 _⟩
  ·exact (show (1:Nat)<=sizeLine by kd_p)
  ·rintro i y ys G hi (⟨rfl,rfl,rfl⟩ | ⟨rfl,t,rfl,s,_⟩)
   ·cases hi
    k_go
    refine ⟨q,_,_,_,rfl,rfl,Bc.of (s1 _ _ hq),Au (j:=2) rfl,q,_,_,_,rfl,rfl,Bc.of (s1 _ _ hq),Au (j:=3) rfl,by kd_p,λt ht=>.inr ⟨Af.upd ht,Ab⟩⟩
   ·cases hi
  rintro ys G (⟨z,_⟩ | ⟨_,t,rfl,s2,ht⟩)
  ·cases z
  intro l hl'
  have s3:=s2.trans (Af.upd (o:=.lst [.ref t]) hl')
  have ht3:=(Af.upd (o:=.lst [.ref t]) hl') _ _ ht
  have l3':(upd G l (.lst [.ref t])) l=some (.lst [.ref t]):=Ab
  generalize upd G l (.lst [.ref t])=H3 at s3 ht3 l3' |-
  refine ⟨[t],l3',[(Sum.inr "a",V.ref r)],rfl,λi p' kv h1 h2=>?_,by simp,λd hd=>?_⟩
  ·cases i with
   |zero=>cases h1;cases h2;exact ht3
   |succ i=>cases h1
  have s4:=s3.trans (Af.upd (o:=.dK [(Sum.inr "a",.ref r)]) hd)
  have d4:(upd H3 d (.dK [(Sum.inr "a",.ref r)])) d=some (.dK [(Sum.inr "a",.ref r)]):=Ab
  generalize upd H3 d (.dK [(Sum.inr "a",.ref r)])=H4 at s4 d4 |-
  exists I0.new s4 (l:=d) (AN s3 hd) d4,T.fT
  clear s3 ht3 l3' s4 d4
  have P5:DR K (.ref b) [e]:=hP0.ts λc xs h=>I0.tt _ _ (AU h hp (λz=>nomatch z)) h
  walk_at "m"
  refine ⟨.ref b,[e],rfl,P5,λe' he'=>(by rw [C1.mp he'];exact hf),λd6 H6 s6=>?_⟩
  exists I0.put s6,T.kj
  walk_at "m"
  refine bF (by simp) ⟨_,.inl (AD.of (I0.tt _ _ (AU hev hp (λz=>nomatch z)) hev)),λl hl=>?_⟩
  exists I0.put (Af.upd (o:=.lst xs) hl),T.jW
  walk_at "m"
  refine bF (by simp) ⟨_,.inl (AD.of (I0.tt _ _ (AU hpk hp (λz=>nomatch z)) hpk)),λl hl=>?_⟩
  exists I0.put (Af.upd (o:=.lst ys) hl),T.jd
  walk_at "m"
  intro cclock dc hc hdc nc
  refine ⟨cclock,dc,rfl,Ab,λKx vC bc FC=>⟨rfl,?_⟩⟩
  obtain ⟨cx,cf,hcx,hcl,hcf⟩:=FC.ex
  exists I0.new (CS hc (CZ (C:=T.aN) hc hdc nc) bc) hc hcx,T.iT
  refine qg I0 T.ao T.km (λx d X Q h k=>⟨x,d,rfl,h,k⟩) λ_ _ I0=>qg I0 T.ao T.ko (λx d X Q h k=>⟨x,d,rfl,h,k⟩) λ_ _ I0=>qg I0 T.ao T.jX (λx d X Q h k=>⟨x,d,rfl,h,k⟩) λ_ _ I0=>qb I0 T.ao T.gA λln _ I0=>qb I0 T.ao T.bO λlm _ I0=>qe I0 T.ao T.kx λ_ _ I0=>qb I0 T.ao T.iU λlq _ I0=>qb I0 T.ao T.iV λlp _ I0=>qe I0 T.ao T.jY λ_ _ I0=>qb I0 T.ao T.iW λlw _ I0=>?_
  k_go
  have F:=I0.F
  have z:=I0.sz
  have nd:=I0.nd
  have hN:=λ{l:Addr} (h:H l=none) {c:Addr} {o:HO} (hc:H c=some o) (q:c=l)=>show False by rw [<- q,hc] at h;cases h
  have zn:=z (ln,.lst []) (by simp)
  have zm:=z (lm,.lst []) (by simp)
  have zq:=z (lq,.lst []) (by simp)
  have zp:=z (lp,.lst []) (by simp)
  have zw:=z (lw,.lst []) (by simp)
  simp only [j2,x6,E3,S0,not_or] at nd
  refine F.call rfl (F.call rfl ?_)
  refine ⟨b,_,_,_,rfl,rfl,Bc.of (I0.tt _ _ (AU hb hp (λz=>nomatch z)) hb),L2.atI_last [] _,q,_,_,_,rfl,rfl,Bc.of (I0.tt _ _ (AU hq hp (λz=>nomatch z)) hq),Au (j:=2) rfl,?_⟩
  have nmn:ln≠lm:=λz=>nd.2.2.2.1.1 z.symm
  refine ⟨p,ln,lm,d,r,_,_,rr,rfl,F,rfl,zn.1,rfl,zm.1,nmn,rfl,(z (d,.dK [(Sum.inr "a",.ref r)]) (by simp)).1,I0.tt _ _ (AU hr1 hp (λz=>nomatch z)) hr1,λH' m kk h1 h2 hm=>?_⟩
  have F21:=F.mv (H':=H') λdx fs e=>kk _ _ (AU e zn.1 (λz=>nomatch z)) (AU e zm.1 (λz=>nomatch z)) e
  have q1:=kk _ _ nd.2.2.1.2.1 nd.2.2.1.1 zq.1
  have w1:=kk _ _ nd.1.2.2.2.1 nd.1.2.2.1 zw.1
  have g1:=kk _ _ nd.2.1.2.2.1 nd.2.1.2.1 zp.1
  refine ⟨p,lq,lw,_,_,rfl,F21,rfl,q1,rfl,w1,λz=>nd.1.2.1 z.symm,λH2 k2=>?_⟩
  have ins:∀ {c:Addr} {D x:Addr} {y:List (Str×V)},H' c=some (.ins D x y)->H2 c=some (.ins D x y):=λe=>k2 _ _ (AU e q1 (λz=>nomatch z)) (AU e w1 (λz=>nomatch z)) e
  refine k H2 (λc o n1 hc=>k2 _ _ (hN zq.2.2 hc) (hN zw.2.2 hc) (kk _ _ (hN zn.2.2 hc) (hN zm.2.2 hc) (I0.tt _ _ n1 hc))) ?_ λu o hu=>⟨_,_,ln,lm,lp,F21.mv (λdx fs e=>ins e),rfl,rfl,rfl,hN zn.2.2 hu,hN zm.2.2 hu,hN zp.2.2 hu⟩
  refine ⟨_,_,cclock,ln,lm,m,lp,vC,F21.mv (λdx fs e=>ins e),?_,?_,rfl,?_,rfl,k2 _ _ (Ne.symm nd.2.2.1.2.1) (Ne.symm nd.1.2.2.2.1) h1,rfl,k2 _ _ (Ne.symm nd.2.2.1.1) (Ne.symm nd.1.2.2.1) h2,?_,rfl,k2 _ _ nd.2.1.1 (Ne.symm nd.1.1) g1⟩
  ·exact (by kd_p)
  ·intro z hz
   simp only [S0,A2,or_false] at hz
   rcases hz with rfl | rfl | rfl | rfl | rfl | rfl | rfl | rfl | rfl<;>rfl
  ·have e:=(z (cclock,.ins T.aN cx cf) (by simp)).1
   exact ⟨cx,cf,ins (kk _ _ (AU e zn.1 (λz=>nomatch z)) (AU e zm.1 (λz=>nomatch z)) e),hcl,hcf⟩
  ·exact hm.but λo ho ⟨_,_,_,e⟩=>by subst e;exact ins ho
theorem DZ:Sc ["rows", "told", "row"] ["rows"] (top 120):=BE (by lk)
theorem Kk:CJ P w base T.gz 4 spEvT:=by
 exists T.gz.F.ok DZ
 ·obtain ⟨l,rfl,hl,k⟩:=h
  have hu:=BU hr
  refine (⟨_,(Ad (Be (i:=1) DZ.nd (Ao Ac))
  (Ad (BF PassesOwn.never rfl (Cg (pv 0)) (Di (i:=2) DZ.nd)
  (Ad (AA (Al Kg (Az As (pv 2) Ai) Ak (Am _))
  (Ae Jl)
  An)
  (Ad (AA (DF (Br (AB T.jH (Dc (k:=1)) hr (Aa (Az As (pv 2) Ai) Ac))))
  (Ae (Aj (pv 1)))
  An)
  (Ae (AJ (Bk Y0 V1 T1 AW (pv 1) (Aa (AL FX (Cm (Aa (Az As (pv 2) Ai) Ac)) (Az As (pv 2) Ai)) Ac)))))))
  (Ae (Aj (pv 1))))),?_⟩)
  walk_at "sw"
  refine ⟨by kd_p,λr hr'=>?_⟩
  have s1:=Af.upd (o:=.lst []) hr'
  have e1:(upd H r (.lst [])) r=some (.lst []):=Ab
  generalize upd H r (.lst [])=H1 at s1 e1 |-
  refine ⟨l,rfl,⟨_,AD.of (s1 _ _ hl)⟩,?_⟩
  refine Fc (K:=K) (a:=l) (xs:=[]) (λi σ G=>σ=[some (.ref l),some (.ref r),none]/\G=H1) ⟨rfl,rfl⟩ (λi σ G _ ⟨_,e⟩=>by subst e;exact AD.of (s1 _ _ hl)) (λi y σ G hi _=>by cases hi) ?_
  rintro σ G ⟨rfl,rfl⟩
  k_go
  exact k r _ hr' s1 e1
theorem FR:Sc ["program", "rows", "events", "picks", "more", "night", "place", "row"] ["program", "rows", "events", "picks"] (top 122):=BE (by lk)
theorem Ue:AS P w K mg base CX0 26 T.iM.f T.iM.fd ["program", "rows", "events", "picks"] (spRisen T):=by
 exists T.iM.F.ok FR
 ·obtain ⟨l,ev,pk,v,e,xs,ys,rfl,hl,hP,hf,hlk,hev,hxl,hpk,k⟩:=h
  have hu:=BU hr
  have hu1:=CG hr
  refine (⟨_,(Ad (Be (i:=4) FR.nd (Bq (Al DJ (pv 2) AF (Am _)) (Ao Ac) (Ay BX (by rfl) T.iE EF (Aa (pv 2) Ac))))
  (Ad (Be (i:=5) FR.nd (EA T.kX (EC T) (hr.mono (by lia)) rfl T.kW T.aS.b .nil AH (Aa (pv 0) (Aa (AL CK (AB T.gz (Kk T) hr (Aa (pv 1) Ac)) (pv 4)) (Aa (pv 3) Ac)))))
  (Ad (BF PassesOwn.never rfl (QC rfl T.fu (Aa (pv 1) Ac)) (FW (n:=2) rfl (Bt (Di (i:=6) FR.nd) (Bt (Di (i:=7) FR.nd) Ez)))
  (Ae (AA (DF (Br (AB T.kP (Dc (k:=1)) hr (Aa (pv 5) (Aa (pv 7) Ac)))))
  (Ae NE)
  An)))
  (Ae (Aj (pv 5)))))),?_⟩)
  k_go
  refine bF (by simp) ⟨_,.inl (AD.of hev),λm hm=>?_⟩
  have s1:=Af.upd (o:=.lst xs) hm
  have e1:(upd H m (.lst xs)) m=some (.lst xs):=Ab
  generalize upd H m (.lst xs)=H1 at s1 e1 |-
  refine ⟨l,rfl,s1 _ _ hl,λr H2 _ s2 hr2=>?_⟩
  refine ⟨r,m,[],xs,rfl,rfl,hr2,s2 _ _ e1,C0 (show ([]:List V).length+xs.length<=1000 by simpa using hxl) (by kd_p),λc hc=>?_⟩
  have s3:=Af.upd (o:=.lst ([]++xs)) hc
  have e3:(upd H2 c (.lst ([]++xs))) c=some (.lst xs):=Ab
  generalize upd H2 c (.lst ([]++xs))=H3 at s3 e3 |-
  intro n dn hn hdn nn
  have s0:=CZ (C:=T.ac) hn hdn nn
  have s13:=s1.trans (s2.trans s3)
  refine ⟨n,dn,c,pk,v,e,xs,ys,rfl,Ab,hP.ts (DQ.of (s13.trans s0)),hf,hlk,s0 _ _ e3,s0 _ _ (s13 _ _ hpk),λH4 b4 N4 W4'=>⟨rfl,?_⟩⟩
  have s4:=s13.trans (CS hn s0 b4)
  refine ⟨l,rfl,⟨_,AD.of (s4 _ _ hl)⟩,?_⟩
  refine Og (K:=K) (a:=l) (xs:=[]) (λi σ G=>σ=[some v,some (.ref l),some (.ref ev),some (.ref pk),some (.ref m),some (.ref n),none,none]/\G=H4) ⟨rfl,rfl⟩ (λi σ G _ ⟨_,e⟩=>by subst e;exact AD.of (s4 _ _ hl)) (λi y p σ G hi _ _=>by cases hi) ?_
  rintro σ G ⟨rfl,rfl⟩
  k_go
  exact k n _ s4 N4 λu o hu=>W4' u o (s0 _ _ (s13 _ _ hu))
theorem KS:Sc ["night", "number"] ["night", "number"] (top 127):=BE (by lk)
theorem Lg:CJ P w base T.ii 8 (spState T):=by
 exists T.ii.F.ok KS
 ·obtain ⟨p,rfl,N,k⟩:=h
  refine (⟨_,(Ad (AA (Al HR (Bi (pv 0) T.ao T.aL.me (EW T) (hr.mono (by lia)) T.aL.b .nil AH (Aa (pv 1) Ac)) AF (Am _))
  (Ae (Aj (AL Bb Ak (AB T.jP (Dc (k:=1)) hr (Aa (Bi (pv 0) T.ao T.aL.me (EW T) (hr.mono (by lia)) T.aL.b .nil AH (Aa (pv 1) Ac)) Ac)))))
  An)
  (Ad (AA (Al HR (Bi (pv 0) T.ao T.aK.me (EV T) (hr.mono (by lia)) T.aK.b .nil AH (Aa (pv 1) Ac)) AF (Am _))
  (Ae (Aj (AL Bb Ak (AB T.kN (Dc (k:=1)) hr (Aa (Bi (pv 0) T.ao T.aK.me (EV T) (hr.mono (by lia)) T.aK.b .nil AH (Aa (pv 1) Ac)) Ac)))))
  An)
  (Ae (Aj Ak)))),?_⟩)
  k_go
  exact N.call (by simp) ⟨p,rfl,N,bF (by simp) (N.call (by simp) ⟨p,rfl,N,bF (by simp) k⟩)⟩
theorem IL:Sc ["self"] ["self"] (Ag (top 128) 0):=BE (by lk)
theorem EX:AS P w K mg base CX0 2 T.bp.f T.bp.fd ["self"] (spDkI T):=by
 exists T.bp.F.ok IL
 ·obtain ⟨p,dx,rfl,hp,k⟩:=h
  refine (⟨_,(Ad (Aw (pv 0) (Ao Ac) rfl)
  (Ad (Aw (pv 0) (Ao Ac) rfl)
  (Ad (Aw (pv 0) (Ao Ac) rfl)
  (Ad (Aw (pv 0) AF rfl)
  (Ad (Aw (pv 0) AF rfl) An))))),?_⟩)
  refine qb (qc hp) T.ak T.cA λa _ I=>qb I T.ak T.av λb _ I=>qb I T.ak T.bA λc _ I=>qa I T.ak T.ge λ_ I=>qa I T.ak T.az λH8 I=>?_
  have nd:=I.nd
  simp only [j2,x6,E3,S0,A2,or_false,not_or] at nd
  have za:=I.sz (a,.lst []) (by simp)
  have zb:=I.sz (b,.lst []) (by simp)
  have zc:=I.sz (c,.lst []) (by simp)
  exact k H8 ⟨a,b,c,.non,.non⟩ I.tt ⟨⟨_,I.F,by kd_p⟩,za.1,⟨[],zb.1,rfl,(λv hv=>nomatch hv),(λv hv=>nomatch hv)⟩,⟨[],zc.1,rfl⟩,Ne.symm nd.2.1,Ne.symm nd.1.2,Ne.symm nd.1.1,λ_=>rfl,λ_=>rfl,(λz=>nomatch z),⟨N1 _,N1 _,N1 _⟩,(λl hl=>nomatch hl)⟩ za.2.2 zb.2.2 zc.2.2
theorem IJ:Sc ["self", "line"] ["self", "line"] (Ag (top 128) 3):=BE (by lk)
theorem IV:AS P w K mg base CX0 2 T.cj.f T.cj.fd ["self", "line"] (Tc T):=by
 exists T.cj.F.ok IJ
 ·obtain ⟨p,d,s,l,rfl,D,hn,hc,hl,k⟩:=h
  refine (⟨_,(Ad (AJ (Bk Y0 V1 T1 AW (Ap (pv 0) rfl) (Aa (pv 1) Ac)))
  (Ae (Aj (Ao (Aa (AL Bb Ak (Ay BD (by rfl) T.gf CL (Aa (Av AI (by rfl) T.bn Bf (Aa (Ap (pv 0) rfl) Ac)) Ac))) Ac))))),?_⟩)
  k_go
  obtain ⟨n,F,h7⟩:=D.ob
  refine F.rd T.ak T.cA rfl ⟨.inl ⟨_,AD.of D.ls⟩,d.a,_,_,rfl,rfl,D.ls,Dq (by rw [J0];lia),?_⟩
  have D1:=D.putL hn hl hc
  have b1:Fd p d H (upd H d.a (.lst (s.ls.map V.str++[.str l]))):=λc o _ n2 _ _ e=>by rw [Ah n2];exact e
  have fr:∀ r,(upd H d.a (.lst (s.ls.map V.str++[.str l]))) r=none->H r=none:=λr e=>by
   by_cases z:r=d.a
   ·rw [z,Ab] at e;cases e
   ·rw [Ah z] at e;exact e
  generalize upd H d.a (.lst (s.ls.map V.str++[.str l]))=H1 at D1 b1 fr |-
  obtain ⟨n1,F1,_⟩:=D1.ob
  refine F1.rd T.ak T.cA rfl ⟨_,Bu.mpr (.inl ⟨_,AD.of D1.ls,rfl⟩),?_⟩
  have e1:(T8 V.str (s.ls++[l])).length=s.ls.length+1:=by rw [J0,K0];rfl
  show (((T8 V.str (s.ls++[l])).length:Nat):Int).natAbs.log2<1920/\_\/_
  rw [e1]
  refine .inl ⟨Gw (by lia),C0 (J5 (show (Str.ofString "line ").length<=10 by lk) (Hz (n:=s.ls.length+1) (by lia))) (by kd_p),by kd_p,λr hr'=>k r _ (λc o n1 n2 n3 n4 e=>(Af.upd hr') _ _ (b1 c o n1 n2 n3 n4 e)) (fr r hr') (D1.same (Af.upd hr')) Ab⟩
theorem IK:Sc ["self", "number"] ["self", "number"] (Ag (top 128) 4):=BE (by lk)
theorem IW:AS P w K mg base CX0 2 T.ck.f T.ck.fd ["self", "number"] (spPutP T):=by
 exists T.ck.F.ok IK
 ·obtain ⟨p,d,s,v,rfl,D,hn,hc,h2⟩:=h
  refine (⟨_,(Ad (AA (Al DJ (pv 1) AF (Am _))
  (Ae (Aj AF))
  An)
  (Ad (AJ (Bk Y0 V1 T1 AW (Ap (pv 0) rfl) (Aa (pv 1) Ac)))
  (Ae (Aj (Ao (Aa (AL Bb Ak (Ay BD (by rfl) T.gf CL (Aa (Av AI (by rfl) T.bn Bf (Aa (Ap (pv 0) rfl) Ac)) Ac))) Ac)))))),?_⟩)
  k_go
  rcases h2 with ⟨rfl,k⟩ | ⟨m,rfl,k⟩
  ·exact bT (by simp) k
  ·refine bF (by simp) ?_
   obtain ⟨n,F,h7⟩:=D.ob
   obtain ⟨ns,f1,f2⟩:=D.pk
   refine F.rd T.ak T.bA rfl ⟨.inl ⟨_,AD.of f1⟩,d.c,_,_,rfl,rfl,f1,Dq (by rw [J0];lia),?_⟩
   have D1:=D.putP (n:=m) hn f1 hc
   have b1:Fd p d H (upd H d.c (.lst (ns.map V.int++[.int m]))):=λc o _ _ _ n2 e=>by rw [Ah n2];exact e
   have fr:∀ r,(upd H d.c (.lst (ns.map V.int++[.int m]))) r=none->H r=none:=λr e=>by
    by_cases z:r=d.c
    ·rw [z,Ab] at e;cases e
    ·rw [Ah z] at e;exact e
   generalize upd H d.c (.lst (ns.map V.int++[.int m]))=H1 at D1 b1 fr |-
   obtain ⟨n1,F1,_⟩:=D1.ob
   obtain ⟨ms,g1,g2⟩:=D1.pk
   refine F1.rd T.ak T.bA rfl ⟨_,Bu.mpr (.inl ⟨_,AD.of g1,rfl⟩),?_⟩
   have e1:(T8 V.int ms).length=s.pk+1:=by rw [J0];exact g2
   rw [e1]
   exact .inl ⟨Gw (by lia),C0 (J5 (show (Str.ofString "pick ").length<=10 by lk) (Hz (n:=s.pk+1) (by lia))) (by kd_p),by kd_p,λr hr'=>k r _ (λc o n1 n2 n3 n4 e=>(Af.upd hr') _ _ (b1 c o n1 n2 n3 n4 e)) (fr r hr') (D1.same (Af.upd hr')) Ab⟩
theorem Ey:Sc ["self", "fields", "event"] ["self", "fields"] (Ag (top 128) 5):=BE (by lk)
theorem Ic:AS P w K mg base CX0 2 T.bP.f T.bP.fd ["self", "fields"] (Td T):=by
 exists T.bP.F.ok Ey
 ·obtain ⟨p,d,s,v,rfl,D,hn,hc,h2⟩:=h
  have hu:=BU hr
  refine (⟨_,(By (AA (Al DJ (pv 1) AF (Am _))
  (Ae (Aj AF))
  An)
  (By (Be (i:=2) Ey.nd (Ay BC (by rfl) T.gy DD (Aa (Cn Et (pv 1) (CW Ai) CY) Ac)))
  (By (AA (PW.pt (CT (Al (IP hu) (Ap (pv 0) rfl) (Ao Ac) (Am _)) (CH (Al Ud (Az As (pv 2) Ai) (Az As (Az AK (Ap (pv 0) rfl) (Jm FP Ai)) Ai) (Am _)))))
  (Ae (Aj AF))
  An)
  (Ad (AJ (Bk Y0 V1 T1 AW (Ap (pv 0) rfl) (Aa (pv 2) Ac)))
  (Ae (Aj (Ao (Aa (AL Bb Ak (Ay BD (by rfl) T.gf CL (Aa (Av AI (by rfl) T.bn Bf (Aa (Ap (pv 0) rfl) Ac)) Ac))) Ac)))))))),?_⟩)
  k_go
  rcases h2 with ⟨rfl,k⟩ | ⟨l,t,Bh,rfl,hl,hrl,ht,k1,k2⟩
  ·walk_at "m"
   exact bT (by simp) k
  ·walk_at "m"
   refine bF (by simp) ?_
   refine hN _ _ ?_
   clear hN N
   walk_at "m"
   refine ⟨l,_,rfl,AD.of hl,λa ha=>⟨a,rfl,_,.inl ⟨AD.of Ab,λev hev=>?_⟩⟩⟩
   have s1:=(Af.upd (o:=.lst (Dj (.str "at"::.int t::Bh) (some 1) none)) ha).trans (Af.upd (o:=.tup (Dj (.str "at"::.int t::Bh) (some 1) none)) hev)
   have ec:Dj (.str "at"::.int t::Bh) (some 1) none=.int t::Bh:=cut1 _ _
   have e1:(upd (upd H a (.lst (Dj (.str "at"::.int t::Bh) (some 1) none))) ev (.tup (Dj (.str "at"::.int t::Bh) (some 1) none))) ev=some (.tup (.int t::Bh)):=by rw [Ab,ec]
   have h0:∀ r,(upd (upd H a (.lst (Dj (.str "at"::.int t::Bh) (some 1) none))) ev (.tup (Dj (.str "at"::.int t::Bh) (some 1) none))) r=none->H r=none:=λr=>AN s1
   generalize upd (upd H a (.lst (Dj (.str "at"::.int t::Bh) (some 1) none))) ev (.tup (Dj (.str "at"::.int t::Bh) (some 1) none))=H1 at s1 e1 h0 |-
   have D1:=D.same s1
   obtain ⟨n,F,h7⟩:=D1.ob
   obtain ⟨vs,v1,v2,v3,v4⟩:=D1.ev
   refine hN _ _ ?_
   clear hN N
   walk_at "m"
   have key:¬ t<s.tk->∀ G,Af H1 G->N [some (.ref p),some (.ref l),some (.ref ev)] G:=λc G sG=>by
    refine hN _ _ ?_
    clear hN N
    k_go
    have vG:=sG _ _ v1
    refine (F.same sG).rd T.ak T.av rfl ⟨.inl ⟨_,AD.of vG⟩,d.b,_,_,rfl,rfl,vG,Dq (by lia),?_⟩
    have D3:=(D1.same sG).putE hn vG (sG _ _ e1) hc
    have b3:Fd p d H (upd G d.b (.lst (vs++[.ref ev]))):=λc o _ _ n2 _ e=>by rw [Ah n2];exact (s1.trans sG) _ _ e
    have fr:∀ r,(upd G d.b (.lst (vs++[.ref ev]))) r=none->H r=none:=λr e=>by
     by_cases z:r=d.b
     ·rw [z,Ab] at e;cases e
     ·rw [Ah z] at e;exact AN (s1.trans sG) e
    generalize upd G d.b (.lst (vs++[.ref ev]))=G3 at D3 b3 fr |-
    obtain ⟨n1,F3,_⟩:=D3.ob
    obtain ⟨ws,w1,w2,_⟩:=D3.ev
    refine F3.rd T.ak T.av rfl ⟨_,Bu.mpr (.inl ⟨_,AD.of w1,rfl⟩),?_⟩
    have e1:ws.length=s.ev+1:=w2
    rw [e1]
    exact .inl ⟨Gw (by lia),C0 (J5 (show (Str.ofString "event ").length<=10 by lk) (Hz (n:=s.ev+1) (by lia))) (by kd_p),by kd_p,λr hr'=>k2 c r _ (λc o n1 n2 n3 n4 e=>(Af.upd hr') _ _ (b3 c o n1 n2 n3 n4 e)) (fr r hr') (D3.same (Af.upd hr')) Ab⟩
   refine F.rd T.ak T.av rfl (Pk v1 λG sG=>⟨_,rfl,?_⟩)
   by_cases hv:vs=[]
   ·rw [decide_eq_true hv]
    refine bF rfl (bF rfl (key ?_ G sG))
    have:s.tk=0:=D.t0 (by rw [<- v2,hv];rfl)
    lia
   ·rw [decide_eq_false hv]
    obtain ⟨us,u,hu'⟩:∃ us u,vs=us++[u]:=⟨vs.dropLast,vs.getLast hv,(List.dropLast_concat_getLast hv).symm⟩
    obtain ⟨q,rr,rfl,hq⟩:=v4 u (by rw [hu',v7])
    have vG:=sG _ _ v1
    rw [hu'] at vG
    refine bT rfl ⟨ev,_,_,_,rfl,rfl,Bc.of (sG _ _ e1),Au (j:=0) rfl,(F.same sG).rd T.ak T.av rfl ⟨d.b,_,_,_,rfl,rfl,AD.of vG,L2.atI_last _ _,q,_,_,_,rfl,rfl,Bc.of (sG _ _ hq),Au (j:=0) rfl,_,rfl,_,rfl,?_⟩⟩
    by_cases c:t<s.tk
    ·exact bT (decide_eq_true c) (k1 c G (s1.trans sG))
    ·exact bF (decide_eq_false c) (key c G sG)
theorem BN:Sc ["self", "program", "refusal"] ["self"] (Ag (top 128) 6):=BE (by lk)
theorem GU:AS P w K mg base CX0 26 T.bf.f T.bf.fd ["self"] (spBeg T):=by
 refine T.bf.F.okM BN rfl (λvs H Q E h=>?_) (λcdv A outer s H vs Q E hr h=>?_)
 ·obtain ⟨p,d,s,rfl,_⟩:=h
  rfl
 ·obtain ⟨p,d,s,rfl,D,hn,k⟩:=h
  have hu:=BU hr
  have hu1:=CG hr
  refine ⟨_,_,_,(λE'=>(Ae (Be (i:=1) BN.nd (HQ (Mv T) (hr.mono (by lia)) rfl T.fw.hm T.fw.F.kp T.fw.b .nil QF (Aa (HQ (QJ T) (hr.mono (by lia)) rfl T.hU.hm T.hU.F.kp T.hU.b .nil QF (Aa (Bk L3 k7 i7 MB Ak (Aa (Ap (pv 0) rfl) Ac)) Ac)) Ac))))),(QD (i:=2) rfl rfl T.ky BN.nd rfl rfl (λa=>(Ae (Aj (Ao (Aa (AL Bb Ak (Ay BD (by rfl) T.gf CL (Aa (ES (K:=K) rfl (pv 2) rfl) Ac))) Ac)))))
  (QD (i:=2) rfl rfl T.iX BN.nd rfl rfl (λa=>(Ae (Aj (Ao (Aa (AL Bb (AL Bb (Ay BD (by rfl) T.gf CL (Aa (ES (K:=K) rfl (pv 2) rfl) Ac)) Ak) (ES (K:=K) rfl (pv 2) rfl)) Ac)))))
  TU)),(Ad (Aw (pv 0) (pv 1) rfl)
  (Ad (Aw (pv 0) (EA T.kX (EC T) (hr.mono (by lia)) rfl T.kW T.aS.b .nil AH (Aa (pv 1) (Aa (Ap (pv 0) rfl) (Aa (Ap (pv 0) rfl) Ac)))) rfl)
  (Ae (Aj (Ao (Aa Ak Ac)))))),?_⟩
  generalize hD:(FE.mk _ Q _ _)=B
  have hB:B.rt=Q:=by rw [<- hD]
  k_go
  generalize hE:(tHAs _ _ _ _ _ _ B)=EE
  simp only [JS]
  k_go
  simp only [JS]
  k_go
  obtain ⟨n,F,h7⟩:=D.ob
  have hLs:=D.ln
  have hLl:=D.le.1
  have row:∀ (dx:Addr) (fs:List (Str×V)) (C:Addr) (z:Str) (G:Hp),Af H G->G dx=some (OB dx fs)->PQ (DW s.ls)=z->MQ (DW s.ls)=false->∀ a,G a=none->∀ q,(upd G a (DC a C (some dx))) q=none->Q (.ref q) (upd (upd G a (DC a C (some dx))) q (.lst [.str z])):=λdx fs C z G sG hx e1 e2 a ha q hq=>by
   have sq:=(sG.trans (Af.upd (o:=DC a C (some dx)) ha)).trans (Af.upd (o:=.lst [.str z]) hq)
   refine k q d _ (λc o _ _ _ _ h=>sq _ _ h) (AN (sG.trans (Af.upd (o:=DC a C (some dx)) ha)) hq) ?_ ⟨rfl,rfl,rfl,.inl rfl⟩ (by rw [Ab,e1])
   have D2:=D.same sq
   rw [<- hn] at e2
   exact (show ({ s with ng:=MQ (DW s.ls) }:Ds)=s by rw [e2])▸D2
  refine F.rd T.ak T.cA rfl (QM hLs hLl D.ls ⟨_,rfl,ln_gd hLs hLl,λts e v G1 rep s1=>?_,λi e dx G1 hx s1=>?_⟩)
  ·obtain ⟨o1,o2,o3⟩:=NH hLs hLl e
   have hb:DW s.ls=.inr (Eg 7 (ts.map Su)):=by unfold DW;rw [e]
   have hne:ts.map Su≠[]:=λz=>o1 (L5.mp z)
   have hen:=QA o3
   refine ⟨v,_,rfl,Kb rep o3 (by kd_p) o2,hne,?_⟩
   cases hl:Eg 7 (ts.map Su) with
   |none =>
    rw [hl] at hb
    obtain ⟨er,her⟩:=one_er hl (λx hx=>(hen x hx).1) hne
    intro G2 s2
    rw [<- hD]
    k_go
    have s12:=s1.trans s2
    have F2:=F.same s12
    obtain ⟨dx2,fs2,hp2,hl2,hh2⟩:=F2.put2 (z:="program") rfl
    refine ⟨_,dx2,fs2,hp2,T.ak,T.ge,by lia,?_⟩
    generalize hG:upd G2 p (.ins T.af dx2 (AM "program" v fs2))=G3
    obtain ⟨b3,F3⟩:=hh2 _ _ hG
    rw [gDk_pr] at F3
    refine F3.rd T.ak T.av rfl (F3.rd T.ak T.bA rfl λm dm hm hdm nm=>?_)
    have s0:=CZ (C:=T.ac) hm hdm nm
    have hpg:DR G3 v [er]:=by
     have:=((Kb rep o3 (by kd_p) o2).ts (DQ.of s2)).ts (λq xs h=>b3 _ _ (AU h hp2 (λz=>nomatch z)) h)
     rwa [her] at this
    obtain ⟨vs,v1,v2,_⟩:=D.ev
    obtain ⟨ns,f1,f2⟩:=D.pk
    have v3:=b3 _ _ (AU (s12 _ _ v1) hp2 (λz=>nomatch z)) (s12 _ _ v1)
    have f3:=b3 _ _ (AU (s12 _ _ f1) hp2 (λz=>nomatch z)) (s12 _ _ f1)
    have hef:ErF er:=(hen er (by rw [her];exact List.mem_singleton_self _)).1
    rw [her] at hl
    refine ⟨m,dm,d.b,d.c,v,er,vs,_,rfl,Ab,hpg.ts (DQ.of s0),hef,hl,s0 _ _ v3,s0 _ _ f3,λG4 b4 N4 W4'=>⟨rfl,?_⟩⟩
    have s4:=CS hm s0 b4
    have F4:=F3.same s4
    obtain ⟨dx4,fs4,hp4,hl4,hh4⟩:=F4.put2 (z:="night") rfl
    refine ⟨_,dx4,fs4,hp4,T.ak,T.az,by lia,?_⟩
    generalize hG4:upd G4 p (.ins T.af dx4 (AM "night" (.ref m) fs4))=G5
    obtain ⟨b5,F5⟩:=hh4 _ _ hG4
    rw [UO] at F5
    have t5:CP p H G5:=λc o hc h=>b5 _ _ hc (s4 _ _ (b3 _ _ hc (s12 _ _ h)))
    have D5:=D.night t5 F5 h7 (N4.but2 F4 b5) ((hpg.ts (DQ.of s4)).ts (λq xs h=>b5 _ _ (AU h hp4 (λz=>nomatch z)) h)) hef hl
    refine ⟨by kd_p,λl hl0=>?_⟩
    have s6:=Af.upd (o:=.lst [.str "night"]) hl0
    refine k l { d with pr:=v,ng:=.ref m } _ (λc o c1 _ _ _ h=>s6 _ _ (t5 _ _ c1 h)) ?_ (by rw [hb];exact D5.same s6) ⟨rfl,rfl,rfl,.inr ⟨m,rfl,λu o hu=>?_,((N4.but2 F4 b5).same s6).out Ab (by lk)⟩⟩ (by rw [Ab,hb];rfl)
    ·obtain ⟨_,_,hp5,_⟩:=F5.ex
     exact Js t5 hp5 hl0
    ·by_cases c:u=p
     ·subst c
      obtain ⟨dz,fz,hz,_⟩:=F3.ex
      exact ((W4' u _ (s0 _ _ hz)).but2 F4 b5).same s6
     ·exact ((W4' u o (s0 _ _ (b3 _ _ c (s12 _ _ hu)))).but2 F4 b5).same s6
   |some x =>
    rw [hl] at hb
    have tb:=QL hen hne hl
    intro dx G2 hx s2
    rw [<- hE]
    refine ⟨_,rfl,T.nA,.inr ⟨T.un,_,rfl,T.nA,.inl ⟨T.up,λa ha=>?_⟩⟩⟩
    have hd2:=(Af.upd (o:=DC a T.aa (some dx)) ha) _ _ hx
    k_go
    simp only [hB]
    refine ⟨a,_,dx,_,_,rfl,Ab,hd2,T.nE,T.aF,T.aD,rfl,.inl ⟨x.1,rfl,MA tb.1,C0 (J5 (Ko tb.1) (show (Str.ofString " ").length<=10 by kd_p)) (by kd_p),a,_,dx,_,_,rfl,Ab,hd2,T.nE,T.aF,T.aE,rfl,x.2,rfl,SW tb,by kd_p,λq hq=>row dx _ _ _ G2 (s1.trans s2) hx (by rw [hb];rfl) (by rw [hb];rfl) a ha q hq⟩⟩
  ·have hb:DW s.ls=.inl i:=by unfold DW;rw [e]
   have nb:=QH hLs hLl e
   rw [<- hE]
   refine ⟨_,rfl,T.ax,.inl ⟨T.ur,λa ha=>?_⟩⟩
   have hd2:=(Af.upd (o:=DC a T.ag (some dx)) ha) _ _ hx
   k_go
   simp only [hB]
   refine ⟨a,_,dx,_,_,rfl,Ab,hd2,T.oU,T.eJ,T.bS,rfl,.inl ⟨i,rfl,MA nb,C0 (J5 (show (Str.ofString "row ").length<=10 by kd_p) (Ko nb)) (by kd_p),by kd_p,λq hq=>row dx _ _ _ G1 s1 hx (by rw [hb];rfl) (by rw [hb];rfl) a ha q hq⟩⟩
theorem Dy:Sc ["self", "row", "words"] ["self", "row"] (Ag (top 128) 2):=BE (by lk)
theorem FZ:AS P w K mg base CX0 29 T.aM.f T.aM.fd ["self", "row"] (spAhd T):=by
 exists T.aM.F.ok Dy
 ·obtain ⟨p,d,s,z,rfl,D,hn,hz,h60,k1,k2⟩:=h
  have hu:=BU hr
  have hu1:=CG hr
  refine (⟨_,(Ad (AA (PW.pt (HN (Al AQ (pv 1) Ak (Am _)) (FU (Br (Bk L3 m6 l6 EK (pv 1) (Aa Ak Ac))))))
  (Ae (Aj (Bi (pv 0) T.ak T.cj.me (IV T) (hr.mono (by lia)) T.cj.b .nil AH (Aa (Cn OP (pv 1) (CW Ai) CY) Ac))))
  An)
  (Ad (AA (Al AQ (pv 1) Ak (Am _))
  (Ae (Aj (Bp (pv 0) T.ak T.bf.me (GU T) (hr.mono (by lia)) T.bf.b .nil AH)))
  An)
  (Ad (Be (i:=2) Dy.nd (Bk L3 Z4 Y4 Ef (pv 1) (Aa Ak Ac)))
  (Ad (AA (PW.pt (CT (Al AQ (Az AK (pv 2) Ai) Ak (Am _)) (CH (Al AQ (Av AI (by rfl) T.bn Bf (Aa (pv 2) Ac)) Ai (Am _)))))
  (Ae (Aj (Bi (pv 0) T.ak T.ck.me (IW T) (hr.mono (by lia)) T.ck.b .nil AH (Aa (AB T.dJ (DS T) hr (Aa (Az AK (pv 2) Ai) Ac)) Ac))))
  An)
  (Ae (Aj (Bi (pv 0) T.ak T.bP.me (Ic T) (hr.mono (by lia)) T.bP.b .nil AH (Aa (AB T.dL (RQ T (Pj T (NO T))) hr (Aa (AO (v:=.ref T.eva) rfl T.evm rfl) (Aa (pv 2) (Aa (AO (v:=.ref T.aJ.f) rfl T.aJ.hm rfl) Ac)))) Ac)))))))),?_⟩)
  k_go
  have C:=Iu hz
  obtain ⟨f,F,h7⟩:=D.ob
  have hzl:z.length<=sizeLine:=C0 C.le (by kd_p)
  have n0:¬ s.ng=true:=by rw [hn];exact Q0
  have put:JF z=true->Tc T [V.ref p,V.str (Iq z (some 2) none)] H Q E0:=λe=>by
   have nx:DT s z=(["line "++QK ((s.ls.length+1:Nat):Int)],{ s with ls:=s.ls++[lnO z] }):=by unfold DT;rw [if_neg n0,if_pos e]
   rw [nx] at k1
   exact ⟨p,d,s,_,rfl,D,hn,h60.1,C.ln e,λr H' fd hr D' e'=>k1 r d H' fd hr D' .rf e'⟩
  refine ⟨rfl,?_⟩
  by_cases e1:z="|"
  ·exact Cw e1 (F.call rfl ⟨hzl,put (by unfold JF;rw [decide_eq_true e1];rfl)⟩)
  refine CD e1 ?_
  by_cases e2:Txt.startswith z "| "=true
  ·rw [if_pos e2]
   exact F.call rfl ⟨hzl,put (by unfold JF;rw [e2,d7])⟩
  rw [if_neg e2]
  have eL:¬ JF z=true:=by unfold JF;rw [decide_eq_false e1,P7];exact e2
  refine ⟨rfl,?_⟩
  by_cases e3:z="begin"
  ·have nx:DT s z=([PQ (DW s.ls)],{ s with ng:=MQ (DW s.ls) }):=by unfold DT;rw [if_neg n0,if_neg eL,if_pos e3]
   rw [nx] at k1
   exact Cw e3 (F.call rfl ⟨p,d,s,rfl,D,hn,λl d' H' fd hl D' o e'=>k1 l d' H' fd hl D' o e'⟩)
  have nx:=λ(b:Bool) (e:Jc z=b)=>(show DT s z=_ by unfold DT;rw [if_neg n0,if_neg eL,if_neg e3,e])
  refine CD e3 ⟨z,32,rfl,by rw [sp1],C0 C.le (by kd_p),λq hq=>?_⟩
  have s1:=Af.upd (o:=.lst ((Dm z).map V.str)) hq
  have q1:(upd H q (.lst ((Dm z).map V.str))) q=_:=Ab
  have hq0:H q=none:=hq
  show NB K (.ref q) (.int 0) (upd H q (.lst ((Dm z).map V.str))) _
  generalize upd H q (.lst ((Dm z).map V.str))=G at s1 q1 |-
  obtain ⟨w0,ws,hw⟩:∃ w0 ws,Dm z=w0::ws:=by
   cases e:Dm z with
   |nil=>exact absurd e (HH z 32)
   |cons a b=>exact ⟨a,b,rfl⟩
  have q2:=q1
  rw [hw] at q2
  refine ⟨q,_,0,.str w0,rfl,rfl,AD.of q2,Au (j:=0) rfl,rfl,?_⟩
  have FG:=F.same s1
  have fdG:∀ {H'},Fd p d G H'->Fd p d H H':=λfd c o c1 c2 c3 c4 h=>fd c o c1 c2 c3 c4 (s1 _ _ h)
  have evs:Jc z=false->No T [V.ref T.eva,.ref q,V.ref T.aJ.f] G (λx H1=>Td T [V.ref p,x] H1 Q E0) E0:=λe=>by
   have nx:=nx false e
   have he:=C.ev
   refine ⟨q,Dm z,rfl,q1,C.ws,λe1 H1 s2=>?_,λx e1 l H1 hl1 hl2 s2=>?_⟩
   ·have:OC z=none:=by unfold OC;rw [e1];rfl
    rw [this] at nx
    exact ⟨p,d,s,_,rfl,D.same (s1.trans s2),hn,h60.2.1,.inl ⟨rfl,k2 nx H1 (s1.trans s2)⟩⟩
   ·have e2:(OC z).isSome=true:=by rw [<- he,e1];rfl
    obtain ⟨t,ht⟩:=L7.mp e2
    have ht2:tkV x=some t:=by
     have:=ht
     unfold OC at this
     rw [e1] at this
     exact this
    obtain ⟨r,rfl,t0,rl⟩:=tkV_of ht2
    rw [ht] at nx
    have s12:=s1.trans s2
    refine ⟨p,d,s,_,rfl,D.same s12,hn,h60.2.1,.inr ⟨l,t,r,rfl,hl2,rl,t0,λc H' s3=>k2 (nx.trans (if_pos c)) H' (s12.trans s3),λc r' H' fd hr' D' e'=>?_⟩⟩
    have nx:=nx.trans (if_neg c)
    rw [nx] at k1
    exact k1 r' d H' (λc o c1 c2 c3 c4 h=>fd c o c1 c2 c3 c4 (s12 _ _ h)) (AN s12 hr') D' .rf e'
  by_cases e4:w0="pick"
  ·refine Cw (congrArg V.str e4) ⟨(Dm z).length,Bu.mpr (.inl ⟨_,AD.of q1,by rw [J0]⟩),rfl,?_⟩
   by_cases e5:(Dm z).length=2
   ·have e6:Jc z=true:=by unfold Jc;rw [decide_eq_true e5,hw,e4];rfl
    have nx:=nx true e6
    obtain ⟨x,y,hxy⟩:=LZ e5
    have q3:=q1
    rw [hxy] at q3
    have ep:pkO z=Cp y:=by unfold pkO;rw [hxy];rfl
    rw [ep] at nx
    refine Cw (by lia) (FG.call rfl ⟨q,_,1,.str y,rfl,rfl,AD.of q3,Au (j:=1) rfl,y,rfl,C0 (C.ws.2 y (by rw [hxy];simp)) (by kd_p),λH1 s2=>?_⟩)
    have s12:=s1.trans s2
    refine ⟨p,d,s,_,rfl,D.same s12,hn,h60.2.2,?_⟩
    cases en:Cp y with
    |none =>
     rw [en] at nx
     exact .inl ⟨rfl,k2 nx H1 s12⟩
    |some n =>
     rw [en] at nx
     rw [nx] at k1
     exact .inr ⟨n,rfl,λr' H' fd hr' D' e'=>k1 r' d H' (λc o c1 c2 c3 c4 h=>fd c o c1 c2 c3 c4 (s12 _ _ h)) (AN s12 hr') D' .rf e'⟩
   ·exact CD (by lia) (FG.call rfl (evs (by unfold Jc;rw [decide_eq_false e5,Y6])))
  ·exact CD (λz=>e4 (V.str.inj z)) (L2.iteF (FG.call rfl (evs (by unfold Jc;rw [hw,decide_eq_false (show ¬ (w0::ws).head?=some ("pick":Str) from λz=>e4 (V3.inj z)),C3]))))
theorem Ce:Sc ["self", "lines", "number", "name"] ["self"] (Ag (top 128) 9):=BE (by lk)
theorem Ia:AS P w K mg base CX0 11 T.bQ.f T.bQ.fd ["self"] (spWho T):=by
 exists T.bQ.F.ok Ce
 ·obtain ⟨p,m,g,n,rfl,F,hg,N,k⟩:=h
  have hu:=BU hr
  have hu1:=CG hr
  refine (⟨_,(Ad (Be (i:=1) Ce.nd (Ao Ac))
  (Ad (BF PassesOwn.never rfl (QC rfl T.fu (Aa (Bp (Ap (pv 0) rfl) T.ao T.cg.me (IU T) (hr.mono (by lia)) T.cg.b .nil AH) Ac)) (FW (n:=2) rfl (Bt (Di (i:=2) Ce.nd) (Bt (Di (i:=3) Ce.nd) Ez)))
  (Ae (AJ (Bk Y0 V1 T1 AW (pv 1) (Aa (Bk L3 k7 i7 MB Ak (Aa (Ao (Aa (Ay BD (by rfl) T.gf CL (Aa (pv 2) Ac)) (Aa (pv 3) (Aa (AB T.ii (Lg T) hr (Aa (Ap (pv 0) rfl) (Aa (pv 2) Ac))) Ac)))) Ac)) Ac)))))
  (Ae (Aj (pv 1))))),?_⟩)
  k_go
  refine ⟨by kd_p,λl hl=>?_⟩
  have s1:=Af.upd (o:=.lst []) hl
  have e1:(upd H l (.lst [])) l=some (.lst []):=Ab
  generalize upd H l (.lst [])=H1 at s1 e1 |-
  obtain ⟨_,_,_,f1,f2,f3,_,f4,rfl⟩:=(F.same s1).rd (R:=λx=>x=.ref m) T.ak T.az hg rfl
  obtain ⟨_,_,g1,g2,_⟩:=(N.same s1).call (z:="errands") (B:=True) (by simp) trivial
  refine ⟨p,_,_,_,_,rfl,f1,f2,f3,f4,m,_,_,rfl,g1,g2,m,rfl,N.same s1,λa H2 ha s2 h2=>⟨a,rfl,⟨_,AD.of h2⟩,?_⟩⟩
  have l2:=s2 _ _ e1
  have s12:=s1.trans s2
  refine Og (K:=K) (a:=a) (xs:=[.str "a"]) (λi σ G=>∃ o2 o3:Option V,σ=[some (.ref p),some (.ref l),o2,o3]/\Af H G/\G a=some (.lst [.str "a"])/\G l=some (.lst (if i=0 then [] else [.str "0 a ready"]))) ⟨none,none,rfl,s12,h2,l2⟩ (λi σ G _ ⟨_,_,_,_,e,_⟩=>AD.of e) ?_ ?_
  ·rintro i y q σ G hi ⟨o2,o3,rfl,sG,aG,lG⟩ hq
   cases i with
   |succ i=>cases hi
   |zero =>
    cases hi
    have t1:=Af.upd (o:=.tup [.int (0:Nat),.str "a"]) hq
    have q1:(upd G q (.tup [.int (0:Nat),.str "a"])) q=_:=Ab
    have lG1:=t1 _ _ lG
    have aG1:=t1 _ _ aG
    have sG1:=sG.trans t1
    generalize upd G q (.tup [.int (0:Nat),.str "a"])=G1 at t1 q1 lG1 aG1 sG1 |-
    simp only [Sb,He,Hd,MJ]
    k_go
    have nal:a≠l:=λz=>by rw [z,e1] at ha;cases ha
    refine ⟨_,Bc.of q1,rfl,_,_,rfl,_,_,rfl,rfl,Or.inl ⟨_,AD.of lG1⟩,Or.inl ⟨0,rfl,by lk,(F.same sG1).rd T.ak T.az hg ⟨m,rfl,N.same sG1,by kd_p,λb hb=>?_⟩⟩⟩
    have u1:=Af.upd (o:=.lst [.str (Str.ofString (toString (0:Int))),.str "a",.str "ready"]) hb
    refine ⟨_,b,[Str.ofString (toString (0:Int)), "a", "ready"],rfl,rfl,AD.of Ab,by lk,l,_,_,rfl,rfl,u1 _ _ lG1,by kd_p,?_,?_,?_⟩
    ·intro c o hc
     rw [Ah (λz=>by rw [z,hl] at hc;cases hc)]
     exact u1 _ _ (sG1 _ _ hc)
    ·rw [Ah nal]
     exact u1 _ _ aG1
    ·rw [Ab,show Txt.join " " [Str.ofString (toString (0:Int)), "a", "ready"]="0 a ready" by lk]
     rfl
  ·rintro σ G ⟨o2,o3,rfl,sG,aG,lG⟩
   k_go
   exact k l G hl sG lG
theorem Cf:Sc ["self", "rows", "from_outside", "of_errands", "events"] ["self", "rows"] (Ag (top 128) 11):=BE (by lk)
theorem Ib:AS P w K mg base CX0 29 T.bR.f T.bR.fd ["self", "rows"] (spRise T):=by
 exists T.bR.F.ok Cf
 ·obtain ⟨p,r,d,s,rfl,D,hn,hr0,k⟩:=h
  have hu:=BU hr
  have hu1:=CG hr
  refine (⟨_,(Ad (Be (i:=2) Cf.nd (Av AI (by rfl) T.bn Bf (Aa (ER (N':=["row"]) (sel:=[none]) rfl rfl rfl (Cg (pv 1)) (BO rfl) (λ_ _ _ _ _=>⟨(Bm (i:=0) (show (["row"]:List Str).Nodup by lk) rfl (Or.inl rfl)),(Fp (Al AQ (Az (DU (K:=K) rfl) (pv 0) Ai) Ak (Am _))),(pv 0)⟩)) Ac)))
  (Ad (Be (i:=3) Cf.nd (Av AI (by rfl) T.bn Bf (Aa (ER (N':=["row"]) (sel:=[none]) rfl rfl rfl (Cg (pv 1)) (BO rfl) (λ_ _ _ _ _=>⟨(Bm (i:=0) (show (["row"]:List Str).Nodup by lk) rfl (Or.inl rfl)),(Fp (Br (Av (MP (K:=K) rfl) (by rfl) T.cO Cb (Aa (Az (DU (K:=K) rfl) (pv 0) Ai) (Aa (Gu (v:=.ty "int") rfl T.kA Jg rfl) Ac))))),(pv 0)⟩)) Ac)))
  (Ad (Be (i:=4) Cf.nd (Cn Et (Ap (pv 0) rfl) (CW (pv 2)) CY))
  (Ad (Aw (pv 0) (Gr (Ue T) (hr.mono (by lia)) rfl T.iM.hm T.iM.F.kp T.iM.b .nil AH (Aa (Ap (pv 0) rfl) (Aa (pv 1) (Aa (pv 4) (Aa (Cn Et (Ap (pv 0) rfl) (CW (pv 3)) CY) Ac))))) rfl)
  (Ae (Aj (Ao (Aa (AL Bb Ak (Ay BD (by rfl) T.gf CL (Aa (Av AI (by rfl) T.bn Bf (Aa (pv 1) Ac)) Ac))) Ac)))))))),?_⟩)
  walk_at "sw"
  obtain ⟨n,F,h7⟩:=D.ob
  obtain ⟨vs,e1,e2,e3,e4⟩:=D.ev
  obtain ⟨ns,f1,f2⟩:=D.pk
  obtain ⟨m0,e,y1,y2,y3,y4,y5⟩:=D.ye hn
  refine ⟨⟨_,AD.of hr0⟩,Fy (K:=K) (a:=r) (xs:=[]) (λi ys G=>ys=[]/\G=H) ⟨rfl,rfl⟩ (by rintro i ys G _ ⟨rfl,rfl⟩;exact ⟨AD.of hr0,N1 _⟩) (N1 _) (λi x ys G hi _=>by cases hi) ?_⟩
  rintro ys H0 ⟨rfl,rfl⟩ b hb
  have s1:=Af.upd (o:=.lst []) hb
  have b1:(upd H0 b (.lst [])) b=some (.lst []):=Ab
  generalize upd H0 b (.lst [])=H1 at s1 b1 |-
  refine ⟨0,Or.inl ⟨_,AD.of b1,rfl⟩,⟨_,AD.of (s1 _ _ hr0)⟩,Fy (K:=K) (a:=r) (xs:=[]) (λi ys G=>ys=[]/\G=H1) ⟨rfl,rfl⟩ (by rintro i ys G _ ⟨rfl,rfl⟩;exact ⟨AD.of (s1 _ _ hr0),N1 _⟩) (N1 _) (λi x ys G hi _=>by cases hi) ?_⟩
  rintro ys G ⟨rfl,rfl⟩ c hc
  have s2:=Af.upd (o:=.lst []) hc
  have c1:(upd G c (.lst [])) c=some (.lst []):=Ab
  generalize upd G c (.lst [])=H2 at s2 c1 |-
  have s12:=s1.trans s2
  refine ⟨0,Or.inl ⟨_,AD.of c1,rfl⟩,(F.same s12).rd T.ak T.av rfl ⟨d.b,_,rfl,AD.of (s12 _ _ e1),λx hx=>?_⟩⟩
  have s3:=Af.upd (o:=.lst (Dj vs (some ((0:Nat):Int)) none)) hx
  have x1:(upd H2 x (.lst (Dj vs (some ((0:Nat):Int)) none))) x=_:=Ab
  generalize upd H2 x (.lst (Dj vs (some ((0:Nat):Int)) none))=H3 at s3 x1 |-
  have s13:=s12.trans s3
  refine (F.same s13).rd T.ak T.ge rfl ((F.same s13).rd T.ak T.bA rfl ⟨d.c,_,rfl,AD.of (s13 _ _ f1),λy hy=>?_⟩)
  have s4:=Af.upd (o:=.lst (Dj (ns.map V.int) (some ((0:Nat):Int)) none)) hy
  have z1:(upd H3 y (.lst (Dj (ns.map V.int) (some ((0:Nat):Int)) none))) y=_:=Ab
  generalize upd H3 y (.lst (Dj (ns.map V.int) (some ((0:Nat):Int)) none))=H4 at s4 z1 |-
  have s14:=s13.trans s4
  refine ⟨r,x,y,d.pr,e,_,_,rfl,s14 _ _ hr0,y3.ts (DQ.of s14),y4,y5,s4 _ _ x1,?_,z1,λm H5 s5 N5 W5=>?_⟩
  ·have:=Jt vs (some ((0:Nat):Int)) none
   have:=D.le.2.1
   lia
  have s15:=s14.trans s5
  have D5:=D.same s15
  have F5:=F.same s15
  obtain ⟨dx,fs,hp5,hl5,hh⟩:=F5.put2 (z:="night") rfl
  refine ⟨_,dx,fs,hp5,T.ak,T.az,by lia,?_⟩
  generalize hG:upd H5 p (.ins T.af dx (AM "night" (.ref m) fs))=H6
  obtain ⟨b6,F6⟩:=hh _ _ hG
  rw [UO] at F6
  have D6:=D5.rise hn N5 b6 F5 F6 h7
  have r6:=b6 _ _ (AU (s15 _ _ hr0) hp5 (λz=>nomatch z)) (s15 _ _ hr0)
  refine ⟨0,Or.inl ⟨_,AD.of r6,rfl⟩,Or.inl ⟨by lk,by lk,by kd_p,λl hl=>?_⟩⟩
  have s7:=Af.upd (o:=.lst [.str (Str.ofString "up "++Str.ofString (toString ((0:Nat):Int)))]) hl
  refine k l m _ (λc o c1 _ _ _ h=>s7 _ _ (b6 _ _ c1 (s15 _ _ h))) ?_ (D6.same s7) (λu o hu=>((W5 u o (s14 _ _ hu)).but2 F5 b6).same s7) ?_
  ·refine AN s15 ?_
   cases e9:H5 l with
   |none=>rfl
   |some o =>
    by_cases cp:l=p
    ·obtain ⟨_,_,h9,_⟩:=F6.ex
     rw [cp,h9] at hl
     cases hl
    ·rw [b6 _ _ cp e9] at hl
     cases hl
  ·rw [Ab]
   exact congrArg (λz=>some (HO.lst [V.str z])) (by lk)
theorem Fm:Sc ["self", "word", "number"] ["self", "word", "number"] (Ag (top 128) 8):=BE (by lk)
theorem Fv:AS P w K mg base CX0 32 T.aC.f T.aC.fd ["self", "word", "number"] (Tn T):=by
 exists T.aC.F.ok Fm
 ·obtain ⟨p,d,s,z,v,rfl,D,hn,hz,k⟩:=h
  have hu:=BU hr
  have hu1:=CG hr
  refine (⟨_,(Ad (AA (Al DJ (pv 2) AF (Am _))
  (Ae (Aj AF))
  An)
  (Ad (AA (Al AQ (pv 1) Ak (Am _))
  (Ae (Aj (ER (N':=["row"]) (sel:=[none]) rfl rfl rfl (Cg (Cn Et (Bp (Ap (pv 0) rfl) T.ao T.ay.me (Dw T) (hr.mono (by lia)) T.ay.b .nil AH) CY (CW (pv 2)))) (BO rfl) (λ_ _ _ _ _=>⟨(Bm (i:=0) (show (["row"]:List Str).Nodup by lk) rfl (Or.inl rfl)),CU,(AB T.i9 (Dc (k:=1)) hr (Aa (pv 0) Ac))⟩))))
  An)
  (Ad (AA (PW.pt (CT (Al AQ (pv 1) Ak (Am _)) (CH (Al FH (pv 2) (Av AI (by rfl) T.bn Bf (Aa (Bp (Ap (pv 0) rfl) T.ao T.ay.me (Dw T) (hr.mono (by lia)) T.ay.b .nil AH) Ac)) (Am _)))))
  (Ae (Aj (Bi (pv 0) T.ak T.bR.me (Ib T) (hr.mono (by lia)) T.bR.b .nil AH (Aa (Cn Et (Bp (Ap (pv 0) rfl) T.ao T.ay.me (Dw T) (hr.mono (by lia)) T.ay.b .nil AH) CY (CW (pv 2))) Ac))))
  An)
  (Ae (Aj AF))))),?_⟩)
  walk_at "sw"
  rcases k with ⟨rfl,k⟩ | ⟨n,rfl,k1,k2,k3⟩
  ·exact bT (decide_eq_true rfl) k
  obtain ⟨f,F,h7⟩:=D.ob
  obtain ⟨m,e,y1,N,_⟩:=D.ye hn
  have ng:Pu d "night"=some (.ref m):=congrArg some y1
  refine bF (decide_eq_false (λz=>nomatch z)) ⟨rfl,?_⟩
  by_cases c1:z="book"
  ·refine bT (decide_eq_true c1) (F.rd T.ak T.az ng ⟨m,rfl,N.call (by simp) ⟨m,rfl,N,λa H1 ha s1 h1=>⟨_,rfl,a,_,rfl,AD.of h1,λb hb=>?_⟩⟩⟩)
   have s2:=Af.upd (o:=.lst (Dj [] none (some (n:Int)))) hb
   have e2:(upd H1 b (.lst (Dj [] none (some (n:Int))))) b=some (.lst []):=by rw [Ab];simp [Dj]
   generalize upd H1 b (.lst (Dj [] none (some (n:Int))))=H2 at s2 e2 |-
   refine ⟨b,rfl,⟨_,AD.of e2⟩,Fy (K:=K) (a:=b) (xs:=[]) (λi ys G=>ys=[]/\G=H2) ⟨rfl,rfl⟩ (by rintro i ys G _ ⟨rfl,rfl⟩;exact ⟨AD.of e2,N1 _⟩) (N1 _) (λi x ys G hi _=>by cases hi) ?_⟩
   rintro ys G ⟨rfl,rfl⟩ l hl
   exact k1 c1 l _ ((s1.trans s2).trans (Af.upd hl)) (AN (s1.trans s2) hl) Ab
  refine bF (decide_eq_false c1) ⟨rfl,?_⟩
  by_cases c2:z="rise"
  ·refine bT (decide_eq_true c2) (F.rd T.ak T.az ng ⟨m,rfl,N.call (by simp) ⟨m,rfl,N,λa H1 ha s1 h1=>⟨0,Or.inl ⟨_,AD.of h1,rfl⟩,_,rfl,?_⟩⟩⟩)
   by_cases c3:n=0
   ·subst c3
    refine bT (by kd_p) ((F.same s1).call rfl ((F.same s1).rd T.ak T.az ng ⟨m,rfl,(N.same s1).call (by simp) ⟨m,rfl,N.same s1,λb H2 hb s2 h2=>⟨_,rfl,b,_,rfl,AD.of h2,λc hc=>?_⟩⟩⟩))
    have s3:=Af.upd (o:=.lst (Dj [] none (some ((0:Nat):Int)))) hc
    have e3:(upd H2 c (.lst (Dj [] none (some ((0:Nat):Int))))) c=some (.lst []):=by rw [Ab];simp [Dj]
    have s13:=s1.trans (s2.trans s3)
    exact ⟨p,c,d,s,rfl,D.same s13,hn,e3,λl m' H' fd hl D' W' e'=>k2 c2 rfl l m' H' (λx o x1 x2 x3 x4 h=>fd x o x1 x2 x3 x4 (s13 _ _ h)) (AN s13 hl) D' (λu o hu=>W' u o (s13 _ _ hu)) e'⟩
   ·exact bF (decide_eq_false (by lia)) (k3 c1 (λx=>c3 x.2) H1 s1)
  ·exact bF (decide_eq_false c2) (bF (by kd_p) (k3 c1 (λx=>c2 x.1) H (Af.refl _)))
theorem Cc:Sc ["self", "words", "row", "done"] ["self", "words"] (Ag (top 128) 7):=BE (by lk)
theorem FL:AS P w K mg base CX0 35 T.aH.f T.aH.fd ["self", "words"] (spBhd T):=by
 exists T.aH.F.ok Cc
 ·obtain ⟨p,a,d,s,ws,rfl,D,hn,ha,hz,n1,n2,n3,k1,k2⟩:=h
  have hu:=BU hr
  have hu1:=CG hr
  refine (⟨_,(Ad (AA (Al AQ (Av AI (by rfl) T.bn Bf (Aa (pv 1) Ac)) Ai (Am _))
  (Ae (Aj (Bi (pv 0) T.ak T.aC.me (Fv T) (hr.mono (by lia)) T.aC.b .nil AH (Aa (Az AK (pv 1) Ai) (Aa (AB T.dJ (DS T) hr (Aa (Az AK (pv 1) Ai) Ac)) Ac)))))
  An)
  (Ad (AA (Al (EI hu) (pv 1) (Ao (Aa Ak Ac)) (Am _))
  (Ad (Be (i:=2) Cc.nd (Bp (Ap (pv 0) rfl) T.ao T.jl.me (Dc (k:=1)) (hr.mono (by lia)) T.jl.b .nil AH))
  (Ae (Aj (Bq (Al DJ (pv 2) AF (Am _)) (Ao (Aa Ak Ac)) (Ao (Aa (AB T.i9 (Dc (k:=1)) hr (Aa (pv 2) Ac)) Ac))))))
  An)
  (Ad (AA (Al (EI hu) (pv 1) (Ao (Aa Ak Ac)) (Am _))
  (Ad (Be (i:=3) Cc.nd (Av AI (by rfl) T.bn Bf (Aa (Bp (Ap (pv 0) rfl) T.ao T.ay.me (Dw T) (hr.mono (by lia)) T.ay.b .nil AH) Ac)))
  (Ae (Aj (AL CK (ER (N':=["row"]) (sel:=[none]) rfl rfl rfl (Cg (Cn Et (Bp (Ap (pv 0) rfl) T.ao T.jG.me (Dc (k:=1)) (hr.mono (by lia)) T.jG.b .nil AH) (CW (pv 3)) CY)) (BO rfl) (λ_ _ _ _ _=>⟨(Bm (i:=0) (show (["row"]:List Str).Nodup by lk) rfl (Or.inl rfl)),CU,(AB T.i9 (Dc (k:=1)) hr (Aa (pv 0) Ac))⟩)) (Ao (Aa Ak Ac))))))
  An)
  (Ad (AA (Al (EI hu) (pv 1) (Ao (Aa Ak Ac)) (Am _))
  (Ae (Aj (Ao (Aa (AL Bb Ak (Ay BD (by rfl) T.gf CL (Aa (Bp (Ap (pv 0) rfl) T.ao T.fk.me (Mx T) (hr.mono (by lia)) T.fk.b .nil AH) Ac))) Ac))))
  An)
  (Ad (AA (Al (EI hu) (pv 1) (Ao (Aa Ak Ac)) (Am _))
  (Ae (Aj (Bp (pv 0) T.ak T.bQ.me (Ia T) (hr.mono (by lia)) T.bQ.b .nil AH)))
  An)
  (Ad (AA (Al (EI hu) (pv 1) (Ao (Aa Ak Ac)) (Am _))
  (Ae (Aj (Bp (pv 0) T.ak T.gx.me (Dc (k:=1)) (hr.mono (by lia)) T.gx.b .nil AH)))
  An)
  (Ae (Aj AF)))))))),?_⟩)
  k_go
  obtain ⟨f,F,h7⟩:=D.ob
  obtain ⟨m,e,y1,N,_⟩:=D.ye hn
  have ng:Pu d "night"=some (.ref m):=congrArg some y1
  refine ⟨ws.length,Or.inl ⟨_,AD.of ha,by rw [J0]⟩,rfl,?_⟩
  by_cases hl:ws.length=2
  ·obtain ⟨x,y,rfl⟩:=LZ hl
   exact Cw (by lia) (F.call rfl ⟨a,_,0,.str x,rfl,rfl,AD.of ha,Au (j:=0) rfl,a,_,1,.str y,rfl,rfl,AD.of ha,Au (j:=1) rfl,y,rfl,C0 (hz y (by simp)) (by kd_p),λH1 s1=>k1 x y rfl H1 s1⟩)
  obtain ⟨k3,k4,k5⟩:=k2 hl
  refine CD (by lia) (Oo ha λG1 s1=>⟨_,rfl,bF (decide_eq_false n1) (Oo (s1 _ _ ha) λG2 s2=>⟨_,rfl,bF (decide_eq_false n2) ?_⟩)⟩)
  have s12:=s1.trans s2
  refine Oo (s12 _ _ ha) λG3 s3=>⟨_,rfl,?_⟩
  have s13:=s12.trans s3
  by_cases c1:ws=[("now":Str)]
  ·refine bT (decide_eq_true c1) ((F.same s13).rd T.ak T.az ng ⟨m,rfl,(N.same s13).call (by simp) ⟨m,rfl,N.same s13,Or.inl ⟨0,rfl,by lk,by lk,by kd_p,λl hl=>k3 c1 l _ (s13.trans (Af.upd hl)) (AN s13 hl) ?_⟩⟩⟩)
   rw [Ab]
   exact congrArg (λz=>some (HO.lst [V.str z])) (by lk)
  refine bF (decide_eq_false c1) (Oo (s13 _ _ ha) λG4 s4=>⟨_,rfl,?_⟩)
  have s14:=s13.trans s4
  by_cases c2:ws=[("who":Str)]
  ·exact bT (decide_eq_true c2) ((F.same s14).call rfl ⟨p,m,_,_,rfl,F.same s14,ng,N.same s14,λl H' hl0 s5 e5=>k4 c2 l H' (s14.trans s5) (AN s14 hl0) e5⟩)
  exact bF (decide_eq_false c2) (Oo (s14 _ _ ha) λG5 s5=>⟨_,rfl,bF (decide_eq_false n3) (k5 c1 c2 G5 (s14.trans s5))⟩)
theorem Jk:Sc ["self", "row", "answer"] ["self", "row"] (Ag (top 128) 1):=BE (by lk)
theorem Jp:AS P w K mg base CX0 38 T.dv.f T.dv.fd ["self", "row"] (spSay T):=by
 exists T.dv.F.ok Jk
 ·obtain ⟨p,d,s,z,rfl,D,hz,h60,k⟩:=h
  have hu:=BU hr
  have hu1:=CG hr
  refine (⟨_,(Ad (Be (i:=2) Jk.nd (Bq (Al DJ (Ap (pv 0) rfl) AF (Am _)) (Bi (pv 0) T.ak T.aM.me (FZ T) (hr.mono (by lia)) T.aM.b .nil AH (Aa (pv 1) Ac)) (Bi (pv 0) T.ak T.aH.me (FL T) (hr.mono (by lia)) T.aH.b .nil AH (Aa (Bk L3 Z4 Y4 Ef (pv 1) (Aa Ak Ac)) Ac))))
  (Ae (Aj (Bq (Al DJ (pv 2) AF (Am _)) (Ao (Aa (AO (v:=.str "not understood") rfl T.num ⟨_,rfl⟩) Ac)) (pv 2))))),?_⟩)
  k_go
  have C:=Iu hz
  have B:=chB_of hz
  obtain ⟨f,F,h7⟩:=D.ob
  have nu:DT s z=(NU,s)->∀ G,Af H G->1<=sizeLine/\∀ q:Addr,G q=none->Q (.ref q) (upd G q (.lst [.str "not understood"])):=λe G sG=>⟨by kd_p,λq hq=>by
   rw [e] at k
   exact k q d _ (λc o _ _ _ _ h=>(sG.trans (Af.upd hq)) _ _ h) (AN sG hq) (D.same (sG.trans (Af.upd hq))) .rf Ab⟩
  by_cases hn:s.ng=true
  ·obtain ⟨m,e,y1,N,_⟩:=D.ye hn
   have nx:DT s z=(OD z,s):=by unfold DT;rw [if_pos hn]
   refine F.rd T.ak T.az (congrArg some y1) (bF (decide_eq_false (λz=>nomatch z)) (F.call rfl ⟨z,32,rfl,by rw [sp1],C0 C.le (by kd_p),λq hq=>?_⟩))
   have s1:=Af.upd (o:=.lst ((Dm z).map V.str)) hq
   have q1:(upd H q (.lst ((Dm z).map V.str))) q=_:=Ab
   show spBhd T [.ref p,.ref q] (upd H q (.lst ((Dm z).map V.str))) _ _
   generalize upd H q (.lst ((Dm z).map V.str))=G at s1 q1 |-
   have DG:=D.same s1
   have go:∀ {xs:List Str},OD z=xs->∀ l H',Af G H'->G l=none->H' l=some (.lst (xs.map V.str))->(if decide ((V.ref l)=V.non)=true then 1<=sizeLine/\∀ q:Addr,H' q=none->Q (.ref q) (upd H' q (.lst [.str "not understood"])) else Q (.ref l) H'):=λe l H' s2 hl e2=>by
    rw [nx] at k
    exact bF (decide_eq_false (λz=>nomatch z)) (k l d H' (λc o _ _ _ _ h=>(s1.trans s2) _ _ h) (AN s1 hl) (DG.same s2) .rf (by rw [e2,<- e]))
   have no:OD z=NU->∀ H',Af G H'->(if decide (V.non=V.non)=true then 1<=sizeLine/\∀ q:Addr,H' q=none->Q (.ref q) (upd H' q (.lst [.str "not understood"])) else Q .non H'):=λe H' s2=>bT (decide_eq_true rfl) (nu (by rw [nx,e]) H' (s1.trans s2))
   refine ⟨p,q,d,s,Dm z,rfl,DG,hn,q1,C.ws.2,B.1,B.2.1,B.2.2.1,λx y hxy H1 s2=>?_,λhl=>?_⟩
   ·have bb:=B.2.2.2.1 (by rw [hxy];rfl)
    rw [hxy] at bb
    obtain ⟨b1,b2,b3,b4⟩:=(show ChC z x y from bb)
    refine ⟨p,d,s,x,_,rfl,DG.same s2,hn,C.ws.2 x (by rw [hxy];simp),?_⟩
    cases en:Cp y with
    |none=>exact .inl ⟨rfl,no (b1 en) H1 s2⟩
    |some n =>
     obtain ⟨n,rfl⟩:=Ui en
     have ne:Cp y≠none:=λz=>by rw [z] at en;cases en
     refine .inr ⟨n,rfl,λe l H' s3 hl e2=>go (b2 ne e) l H' (s2.trans s3) (AN s2 hl) e2,λe e0 l m' H' fd hl D' W' e2=>?_,λe1 e2 H' s3=>no (b4 ne e1 λa=>e2 ⟨a.1,?_⟩) H' (s2.trans s3)⟩
     ·subst e0
      have s12:=s1.trans s2
      have bh:=b3 en e
      rw [nx] at k
      refine bF (decide_eq_false (λz=>nomatch z)) (k l { d with ng:=.ref m' } H' (λc o c1 c2 c3 c4 h=>fd c o c1 c2 c3 c4 (s12 _ _ h)) (AN s12 hl) D' ⟨rfl,rfl,rfl,.inr ⟨m',rfl,λu o hu=>W' u o (s12 _ _ hu),?_⟩⟩ (by rw [e2];show _=some (HO.lst ((OD z).map V.str));rw [bh];rfl))
      obtain ⟨m2,_,em,N2,_⟩:=D'.ye hn
      cases em
      exact N2.out e2 (by lk)
     ·have:=a.2
      rw [en] at this
      have:=V3.inj this
      lia
   ·obtain ⟨b1,b2,b3⟩:=B.2.2.2.2 hl
    exact ⟨λe l H' s2 hl e2=>go (b1 e) l H' s2 hl e2,λe l H' s2 hl e2=>go (b2 e) l H' s2 hl e2,λe1 e2 H' s2=>no (b3 e1 e2) H' s2⟩
  ·have hf:s.ng=false:=by cases h:s.ng;rfl;exact absurd h hn
   refine F.rd T.ak T.az (congrArg some (D.no hf)) (bT (decide_eq_true rfl) (F.call rfl ⟨p,d,s,z,rfl,D,hf,hz,h60,λl d' H' fd hl D' o e=>bF (decide_eq_false (λz=>nomatch z)) (k l d' H' fd hl D' o e),λe H' s'=>bT (decide_eq_true rfl) (nu e H' s')⟩))
theorem LB:Sc ["_law_held_here", "_law_pair"] ["_law_held_here"] (top 130):=BE (by lk)
theorem RN:CJ P w base T.jQ 2 spHeld:=by
 exists T.jQ.F.ok LB
 ·obtain ⟨h,ps,rfl,hh,hp,k⟩:=h
  have hu:=BU hr
  have hu1:=CG hr
  refine (⟨_,(Ad (BF PassesOwn.never rfl (Cg (pv 0)) (Di (i:=1) LB.nd)
  (Ae (AA (Al (IP hu) (Az As (pv 1) Ai) (Az As (pv 1) Ai) (Am _))
  (Ae (Aj Ec))
  An)))
  (Ae (Aj Ec))),?_⟩)
  k_go
  simp only [SN,Od,Hh,T6,C7,exists_eq_left',V.ref.injEq]
  refine ⟨⟨_,AD.of hh⟩,Fc (K:=K) (a:=h) (xs:=ps) (D:={ nx:=SK (tC (V.bl true)) { nx:=λx H'=>Q V.non H',rt:=Q },rt:=Q }) (λi σ G=>G=H/\∃ o,σ=[some (.ref h),o]) ⟨rfl,_,rfl⟩ (by rintro i σ G _ ⟨rfl,_⟩;exact AD.of hh) ?_ ?_⟩
  ·rintro i x σ G hx ⟨rfl,o,rfl⟩
   obtain ⟨q,a,b,ws,rfl,h1,h2,h3⟩:=hp x (j0 hx)
   k_go
   refine ⟨q,_,0,.ref a,rfl,rfl,Bc.of h1,Au (j:=0) rfl,q,_,1,.ref b,rfl,rfl,Bc.of h1,Au (j:=1) rfl,eqWs h2 h3 ⟨_,rfl,bF (by simp) ⟨rfl,_,rfl⟩⟩⟩
  ·rintro σ G ⟨rfl,o,rfl⟩
   k_go
   exact k
theorem JV:Sc ["_law_cell", "_law_k", "_law_mixed_here"] ["_law_cell", "_law_k"] (top 131):=BE (by lk)
theorem Pf:CJ P w base T.js 2 spMix9:=by
 exists T.js.F.ok JV
 ·obtain ⟨c,j,rfl,hj,k⟩:=h
  refine (⟨_,(Ad (Be (i:=2) JV.nd (AL Kh (AL IQ (AL Ft (AL Ft (pv 0) (AL IQ Ai (pv 1))) (AL IQ (AL IQ Ai (pv 1)) (pv 1))) Ai) Ai))
  (Ae (Aj (AL Kh (AL IQ (pv 2) (AL Ft (AL Ft (AL Kh (pv 2) Ai) (pv 1)) Ai)) Ai)))),?_⟩)
  k_go
  have md:∀ y:Int,0<=y%2147483647/\y%2147483647<2147483647:=λy=>⟨Int.emod_nonneg _ (by kd_p),Int.emod_lt_of_pos _ (by kd_p)⟩
  have b64:(2:Int) ^ 64=18446744073709551616:=by kd_p
  have big:∀ y:Int,0<=y/\y<2147483647->-(2 ^ 64)<y/\y<2 ^ 64:=λy h=>by lia
  refine ⟨.inl (by kd_p),.inl (by kd_p),.inl ⟨by lia,by lia⟩,.inr (by kd_p),by kd_p,by kd_p,.inl (big _ (md _)),by kd_p,k _ (md _).1 (md _).2⟩
theorem Cl:Sc ["_law_pick", "_law_some"] ["_law_pick"] (top 132):=BE (by lk)
theorem Uf:CJ P w base T.kC 2 spRow:=by
 exists T.kC.F.ok Cl
 ·obtain ⟨n,rfl,k⟩:=h
  have hu:=BU hr
  have hu1:=CG hr
  refine (⟨_,(Ad (Be (i:=1) Cl.nd (Ao (Ch (zs:=["| errand a", "| errand a", "| wait 3", "| end", "| end", "| wait 0", "|", "| ", "|x", "| raise boom"]) (by lk))))
  (Ad (Be (i:=1) Cl.nd (AL CK (pv 1) (Ao (Ch (zs:=["| give 1", "| ask la x", "|  end", "at 3 ring dusk", "at 0 off 0", "at 5 send box 7", "| end"]) (by lk)))))
  (Ad (Be (i:=1) Cl.nd (AL CK (pv 1) (Ao (Ch (zs:=["at 5 send box :off", "at 5 send box x", "at 05 ring dusk", "at 10000 ring a", "at 3 ring"]) (by lk)))))
  (Ad (Be (i:=1) Cl.nd (AL CK (pv 1) (Ao (Ch (zs:=["at 3 ring dusk x", "at 3 hear dusk", "at x ring dusk", "at 3 ring Dusk", "at 3 off 10000"]) (by lk)))))
  (Ad (Be (i:=1) Cl.nd (AL CK (pv 1) (Ao (Ch (zs:=["at 9999 off 9999", "at 7 off 1", "at 7 send keep 1", "at 7 send box 1000000", "at 5 send box"]) (by lk)))))
  (Ad (Be (i:=1) Cl.nd (AL CK (pv 1) (Ao (Ch (zs:=["pick 0", "pick 999999", "pick 1000000", "pick", "pick 1 2", "pick 01", "pick -1", "pick 3"]) (by lk)))))
  (Ad (Be (i:=1) Cl.nd (AL CK (pv 1) (Ao (Ch (zs:=["begin", "begin", "begin 1", "Begin", "", " begin", "step now", "run 1", "now", "who", "knot x"]) (by lk)))))
  (Ad (Be (i:=1) Cl.nd (AL CK (pv 1) (Ao (Ch (zs:=["book 0", "rise 0", "book x", "rise 1", "rise", "at", "at 9 off", "errand a", "rise 00", "book 01"]) (by lk)))))
  (Ad (Be (i:=1) Cl.nd (AL CK (pv 1) (Ao (Ch (zs:=["at 5 send box :Off", "at 5 send box :", "at 5 send box :off1", "at 5 send box :abcdefghi"]) (by lk)))))
  (Ad (Be (i:=1) Cl.nd (AL CK (pv 1) (Ao (Ch (zs:=["at 3 ring abcdefghi", "at 3 ring end", "at 3 ring 1a"]) (by lk)))))
  (Ae (Aj (Az AK (AL CK (pv 1) (Ao (Ch (zs:=["pick  3", "now ", "begin "]) (by lk)))) (AL Kh (pv 0) Ai)))))))))))))),?_⟩)
  k_go
  refine ⟨by kd_p,λp hp=>?_⟩
  refine EH (xs:=R0) (ys:=R1) (Af.upd hp) Ab (by kd_p) (by kd_p) λb1 G1 s1 e1=>?_
  refine EH (ys:=R2) s1 e1 (by kd_p) (by kd_p) λb2 G2 s2 e2=>?_
  refine EH (ys:=R3) s2 e2 (by kd_p) (by kd_p) λb3 G3 s3 e3=>?_
  refine EH (ys:=R4) s3 e3 (by kd_p) (by kd_p) λb4 G4 s4 e4=>?_
  refine EH (ys:=R5) s4 e4 (by kd_p) (by kd_p) λb5 G5 s5 e5=>?_
  refine EH (ys:=R6) s5 e5 (by kd_p) (by kd_p) λb6 G6 s6 e6=>?_
  refine EH (ys:=R7) s6 e6 (by kd_p) (by kd_p) λb7 G7 s7 e7=>?_
  refine EH (ys:=R8) s7 e7 (by kd_p) (by kd_p) λb8 G8 s8 e8=>?_
  refine EH (ys:=R9) s8 e8 (by kd_p) (by kd_p) λb9 G9 s9 e9=>?_
  refine EH (ys:=R10) s9 e9 (by kd_p) (by kd_p) λb G s e=>?_
  have e:G b=some (.lst (RWS.map V.str)):=e
  obtain ⟨j,hj⟩:∃ j:Nat,n%71=j:=⟨(n%71).toNat,by lia⟩
  have hlt:j<RWS.length:=by
   rw [show RWS.length=71 by kd_p]
   lia
  rw [hj]
  exact ⟨by kd_p,b,_,(j:Nat),.str RWS[j],rfl,rfl,AD.of e,Au (by rw [J2,Y1 hlt];rfl),k _ G (List.getElem_mem hlt) s⟩
theorem Nq:Sc ["_law_word", "_law_most"] ["_law_word", "_law_most"] (top 133):=BE (by lk)
theorem EB:CJ P w base T.eG 2 spNum:=by
 exists T.eG.F.ok Nq
 ·obtain ⟨z,m,rfl,ha,hz,k⟩:=h
  have hu:=BU hr
  have hz2:z.length<=sizeLine:=C0 hz (by kd_p)
  refine (⟨_,(Ad (AA (PW.pt (HN (Al AQ (pv 0) Ak (Am _)) (HN (Al LC (Av AI (by rfl) T.bn Bf (Aa (pv 0) Ac)) Ai (Am _)) (FU (PW.pt (CT (Al AQ (Az ix_str (pv 0) Ai) Ak (Am _)) (CH (Al Kg (pv 0) Ak (Am _)))))))))
  (Ae (Aj Ec))
  An)
  (Ae (Aj (Co (AV (EI hu) (ER (N':=["_law_sign"]) (sel:=[none]) rfl rfl rfl (OZ (pv 0)) (BO rfl) (λ_ _ _ _ _=>⟨(Bm (i:=0) (show (["_law_sign"]:List Str).Nodup by lk) rfl (Or.inl rfl)),(Fp (Al Mu (pv 0) Ak (by with_unfolding_all rfl))),(pv 0)⟩)) (Ao Ac) (Am _)) (Cd (AV FH (Ay GA (by rfl) T.kA Jg (Aa (pv 0) Ac)) (pv 1) (Am _))))))),?_⟩)
  k_go
  have hF:Cp z=none->∀ H',Af H H'->Q (.bl false) H':=λe H' s=>by
   have:=k H' s
   unfold Ei at this
   rw [e] at this
   exact this
  have hG:GV z=false->Cp z=none:=λe=>by unfold Cp;rw [e];rfl
  refine ⟨rfl,?_⟩
  by_cases h0:z=""
  ·exact Cw h0 (hF (by rw [h0];lk) H (Af.refl H))
  refine CD h0 ⟨hz2,?_⟩
  have h1:1<=z.length:=by
   rcases Nat.eq_zero_or_pos z.length with e | e
   ·exact absurd (z0 e) h0
   ·exact e
  by_cases h2:6<z.length
  ·refine Cw (by lia) (hF (hG ?_) H (Af.refl H))
   unfold GV
   rw [decide_eq_false (show ¬ z.length<=6 by lia),Y6,C3]
  refine CD (by lia) ?_
  have h2:z.length<=6:=by lia
  obtain ⟨c,r,ez⟩:=Py h1
  refine ⟨z,0,c,rfl,rfl,hz2,Au (j:=0) (by rw [ez];rfl),rfl,?_⟩
  have ez0:Str.ofString "0"=⟨#[48]⟩:=by lk
  have hst:Txt.startswith z "0"=decide (c=48):=by rw [show ("0":Str)=⟨#[48]⟩ from ez0];exact Rs ez
  have hno:Txt.startswith z "0"=true->z≠"0"->Cp z=none:=λe1 e2=>by
   unfold Cp
   split
   ·rw [if_pos ⟨e1,e2⟩]
   ·rfl
  have Bh:¬ (Txt.startswith z "0"=true/\z≠"0")->tLc [none] (iStr (Hh 0)) (Hd 0) (Qj (tOp (λx y H Q=>∃ i,x=V.str i/\∃ x,y=V.str x/\Q (V.bl !!(Builtin.Str.occurrences x i 0 x.length 1).isEmpty) H) (Hh 0) (tC (V.str (Str.ofString "0123456789"))))) (Hh 0) [some (V.str z),some (V.int m)] H λx H1=>0<=sizeLine/\∀ p:Addr,H1 p=none->OW K false x (V.ref p) (upd H1 p (HO.lst [])) λx H1=>∃ c,x=V.bl c/\if c=true then ∃ x,intText? z=some x/\z.length<=640/\Q (V.bl (decide (x<=m))) H1 else Q (V.bl false) H1:=λhnz=>by
   simp only [tLc,iStr]
   k_go
   refine Pr (λi ys H'=>H'=H/\ys=((z.cps.toList.take i).filter λc=>!MZ c).map λc=>V.str ⟨#[c]⟩) ⟨rfl,rfl⟩ ?_ hz2 ?_ ?_
   ·rintro i ys H' hi ⟨rfl,rfl⟩
    rw [J0]
    refine C0 (C4 _ _) ?_
    rw [Y2]
    lia
   ·rintro i c ys H' hc ⟨rfl,rfl⟩
    have hm:=j0 hc
    have ef:=Gi (f:=λc=>!MZ c) hc
    w_up
    rw [dig128 ⟨c,ha c hm⟩,Bool.not_not]
    cases hd:MZ c with
    |true =>
     rw [hd,if_neg (by kd_p)] at ef
     rw [if_neg (by kd_p),ef]
    |false =>
     rw [hd,if_pos (show (!false)=true from rfl)] at ef
     rw [if_pos (show (!false)=true from rfl),ef,A3]
     rfl
   ·rintro ys H' ⟨rfl,rfl⟩ D hD
    have s1:=Af.upd (o:=.lst (((z.cps.toList.take z.length).filter λc=>!MZ c).map λc=>V.str ⟨#[c]⟩)) hD
    refine KC Ab λG s2=>⟨_,rfl,?_⟩
    have s12:=s1.trans s2
    have et:z.cps.toList.take z.length=z.cps.toList:=K3
    rw [et]
    by_cases hall:z.cps.toList.all MZ=true
    ·have en:((z.cps.toList.filter λc=>!MZ c).map λc=>V.str ⟨#[c]⟩)=[]:=by
      rw [L5,Z7]
      intro c hc
      rw [C2.mp hall c hc]
      decide
     rw [en]
     have hg:GV z=true:=by unfold GV;rw [decide_eq_true h1,decide_eq_true h2,hall];rfl
     have k1:=k _ s12
     unfold Ei Cp at k1
     rw [if_pos hg,if_neg hnz] at k1
     exact bT rfl ⟨_,Kz hg,by lia,k1⟩
    ·have hg:GV z=false:=by unfold GV;rw [decide_eq_true h1,decide_eq_true h2,Bool.eq_false_iff.mpr hall];rfl
     have en:((z.cps.toList.filter λc=>!MZ c).map λc=>V.str ⟨#[c]⟩)≠[]:=λe=>hall (by
      rw [L5,Z7] at e
      rw [C2]
      intro c hc
      have:=e c hc
      cases hd:MZ c
      ·rw [hd] at this;exact absurd rfl this
      ·rfl)
     rw [decide_eq_false en]
     exact bF rfl (hF (hG hg) _ s12)
  by_cases c0:c=48
  ·refine Cw (by rw [ez0,c0]) ⟨rfl,?_⟩
   by_cases hzz:z="0"
   ·exact Kv hzz (Bh λq=>q.2 hzz)
   ·exact Ku hzz (hF (hno (by rw [hst];exact decide_eq_true c0) hzz) H (Af.refl H))
  ·have e1:V.str ⟨#[c]⟩≠V.str (Str.ofString "0"):=λe=>by
    rw [ez0] at e
    cases e
    exact c0 rfl
   exact CD e1 (L2.iteF (Bh λq=>c0 (by rw [hst] at q;exact of_decide_eq_true q.1)))
theorem JW:Sc ["_law_words", "_law_name"] ["_law_words"] (top 134):=BE (by lk)
theorem Pg:CJ P w base T.jt 5 spEvn:=by
 exists T.jt.F.ok JW
 ·obtain ⟨a,ws,rfl,ha,hw,k⟩:=h
  have hu:=BU hr
  have hu1:=CG hr
  refine (⟨_,(Ad (Be (i:=1) JW.nd (Ao (Ch (zs:=["dusk", "box", "a"]) (by lk))))
  (Ad (AA (PW.pt (HN (Al Ud (Av AI (by rfl) T.bn Bf (Aa (pv 0) Ac)) Ai (Am _)) (FU (DF (Br (AB T.eG (EB T) hr (Aa (Az AK (pv 0) Ai) (Aa Ai Ac))))))))
  (Ae (Aj Ec))
  An)
  (Ad (AA (Al AQ (Az AK (pv 0) Ai) Ak (Am _))
  (Ae (Aj (Co (AV AQ (Av AI (by rfl) T.bn Bf (Aa (pv 0) Ac)) Ai (Am _)) (Cd (AV BQ (Az AK (pv 0) Ai) (pv 1) (by with_unfolding_all rfl))))))
  An)
  (Ad (AA (Al AQ (Az AK (pv 0) Ai) Ak (Am _))
  (Ae (Aj (Co (AV AQ (Av AI (by rfl) T.bn Bf (Aa (pv 0) Ac)) Ai (Am _)) (Co (AV BQ (Az AK (pv 0) Ai) (pv 1) (by with_unfolding_all rfl)) (Cd (NG (AV AQ (Az AK (pv 0) Ai) Ak (Am _)) (Cd (AB T.eG (EB T) hr (Aa (Az AK (pv 0) Ai) (Aa Ai Ac))))))))))
  An)
  (Ae (Aj (Co (AV AQ (Az AK (pv 0) Ai) Ak (Am _)) (Co (AV AQ (Av AI (by rfl) T.bn Bf (Aa (pv 0) Ac)) Ai (Am _)) (Cd (AB T.eG (EB T) hr (Aa (Az AK (pv 0) Ai) (Aa Ai Ac)))))))))))),?_⟩)
  k_go
  refine ⟨by kd_p,λp hp=>?_⟩
  have s1:=Af.upd (o:=.lst [.str "dusk",.str "box",.str "a"]) hp
  have p1:(upd H p (.lst [.str "dusk",.str "box",.str "a"])) p=some (.lst (NMS.map V.str)):=Ab
  generalize upd H p (.lst [.str "dusk",.str "box",.str "a"])=G at s1 p1 |-
  have ha1:=s1 _ _ ha
  have kk:∀ b,Ux ws=b->∀ G',Af G G'->Q (.bl b) G':=λb e G' s=>e▸k G' (s1.trans s)
  refine ⟨ws.length,Or.inl ⟨_,AD.of ha1,by rw [J0]⟩,?_⟩
  clear k ha s1 hp
  match ws,ha1,hw,kk with
  |[],_,_,kk=>exact Cw (by simp) (kk _ rfl G (Af.refl G))
  |[_],_,_,kk=>exact Cw (by simp) (kk _ rfl G (Af.refl G))
  |[_,_],_,_,kk=>exact Cw (by simp) (kk _ rfl G (Af.refl G))
  |a0::a1::a2::r,ha1,hw,kk =>
  have ix:∀ {G':Hp} {j:Nat} {x:Str} {R:VK},Af G G'->(a0::a1::a2::r)[j]?=some x->R (.str x) G'->NB K (.ref a) (.int (j:Nat)) G' R:=λ{G' j x R} s hx q=>⟨a,_,(j:Nat),.str x,rfl,rfl,AD.of (s _ _ ha1),Au (by rw [J2,hx];rfl),q⟩
  have num:∀ {G':Hp} {m:Int} {x:Str} {R:VK},Af G G'->x∈a0::a1::a2::r->(∀ G2,Af G G2->R (.bl (Ei x m)) G2)->spNum [.str x,.int m] G' R E0:=λ{G' m x R} s hx q=>⟨x,m,rfl,(hw x hx).1,(hw x hx).2,λG2 s2=>q G2 (s.trans s2)⟩
  have inn:∀ {G':Hp} {x:Str} {R:VK},Af G G'->R (.bl (decide (x∈NMS))) G'->rIn K false (.str x) (.ref p) G' R:=λ{G' x R} s q=>⟨p,_,rfl,.inl (AD.of (s _ _ p1)),rfl,rfl,by rw [Kt];exact q⟩
  refine CD (by simp only [v0];lia) (ix (j:=1) (Af.refl G) rfl (num (Af.refl G) (by simp) λG1 t1=>⟨_,rfl,?_⟩))
  have kk:∀ b,(Ei a1 9999&&evR a2 r)=b->∀ G',Af G G'->Q (.bl b) G':=kk
  cases e1:Ei a1 9999 with
  |false=>exact bT rfl (kk _ (by rw [e1];rfl) G1 t1)
  |true =>
  rw [e1,S3] at kk
  unfold evR at kk
  refine bF rfl (ix (j:=2) t1 rfl ⟨rfl,?_⟩)
  by_cases c1:a2="ring"
  ·refine Cw (congrArg V.str c1) ⟨_,Or.inl ⟨_,AD.of (t1 _ _ ha1),rfl⟩,rfl,?_⟩
   rw [if_pos c1] at kk
   by_cases h1:r.length=1
   ·obtain ⟨x,rfl⟩:=Pe h1
    exact Cw (by simp) (ix (j:=3) t1 rfl (inn t1 (kk _ rfl G1 t1)))
   ·exact CD (by simp only [J0,v0];lia) (kk _ (by rw [decide_eq_false h1];rfl) G1 t1)
  rw [if_neg c1] at kk
  refine CD (λz=>c1 (V.str.inj z)) (ix (j:=2) t1 rfl ⟨rfl,?_⟩)
  by_cases c2:a2="send"
  ·refine Cw (congrArg V.str c2) ⟨_,Or.inl ⟨_,AD.of (t1 _ _ ha1),rfl⟩,rfl,?_⟩
   rw [if_pos c2] at kk
   by_cases h1:r.length=2
   ·obtain ⟨x,y,rfl⟩:=LZ h1
    refine Cw (by simp) (ix (j:=3) t1 rfl (inn t1 ⟨_,rfl,?_⟩))
    have kk:∀ b,(decide (x∈NMS)&&(decide (y=":off")||Ei y 999999))=b->∀ G',Af G G'->Q (.bl b) G':=kk
    cases e2:decide (x∈NMS) with
    |false=>exact bF rfl (kk _ (by rw [e2];rfl) G1 t1)
    |true =>
    rw [e2,S3] at kk
    refine bT rfl (ix (j:=4) t1 rfl ⟨rfl,?_⟩)
    by_cases c3:y=":off"
    ·exact Cw (congrArg V.str c3) (kk _ (by rw [decide_eq_true c3];rfl) G1 t1)
    ·exact CD (λz=>c3 (V.str.inj z)) (ix (j:=4) t1 rfl (num t1 (by simp) λG2 t2=>kk _ (by rw [decide_eq_false c3];rfl) G2 t2))
   ·exact CD (by simp only [J0,v0];lia) (kk _ (by rw [decide_eq_false h1];rfl) G1 t1)
  rw [if_neg c2] at kk
  refine CD (λz=>c2 (V.str.inj z)) (ix (j:=2) t1 rfl ⟨rfl,?_⟩)
  by_cases c3:a2="off"
  ·refine Cw (congrArg V.str c3) ⟨_,Or.inl ⟨_,AD.of (t1 _ _ ha1),rfl⟩,rfl,?_⟩
   rw [decide_eq_true c3,S3] at kk
   by_cases h1:r.length=1
   ·obtain ⟨x,rfl⟩:=Pe h1
    exact Cw (by simp) (ix (j:=3) t1 rfl (num t1 (by simp) λG2 t2=>kk _ rfl G2 t2))
   ·exact CD (by simp only [J0,v0];lia) (kk _ (by rw [decide_eq_false h1];rfl) G1 t1)
  ·exact CD (λz=>c3 (V.str.inj z)) (kk _ (by rw [decide_eq_false c3];rfl) G1 t1)
theorem Hm:Sc ["_law_model", "e"] ["_law_model"] (top 135):=BE (by lk)
theorem Ph:CJ P w base T.ju 23 spBgn:=by
 refine T.ju.F.okM Hm rfl (λvs H Q E h=>?_) (λcdv A outer s H vs Q E hr h=>?_)
 ·obtain ⟨m,l,s,rfl,_⟩:=h
  rfl
 ·obtain ⟨m,l,s,rfl,M,L,hn,k⟩:=h
  have hu:=BU hr
  have hu1:=CG hr
  refine ⟨_,_,_,(λE'=>(Ae (AJ (HQ (Mv T) (hr.mono (by lia)) rfl T.fw.hm T.fw.F.kp T.fw.b .nil QF (Aa (HQ (QJ T) (hr.mono (by lia)) rfl T.hU.hm T.hU.F.kp T.hU.b .nil QF (Aa (Bk L3 k7 i7 MB Ak (Aa (Cv hu1 (pv 0) Ak (λ_ _=>rfl)) Ac)) Ac)) Ac))))),(QD (i:=1) rfl rfl T.ky Hm.nd rfl rfl (λa=>(Ae (Aj (Ao (Aa (AL Bb Ak (Ay BD (by rfl) T.gf CL (Aa (ES (K:=K) rfl (pv 1) rfl) Ac))) Ac)))))
  (QD (i:=1) rfl rfl T.iX Hm.nd rfl rfl (λa=>(Ae (Aj (Ao (Aa (AL Bb (AL Bb (Ay BD (by rfl) T.gf CL (Aa (ES (K:=K) rfl (pv 1) rfl) Ac)) Ak) (ES (K:=K) rfl (pv 1) rfl)) Ac)))))
  TU)),(Ad (Fs hu1 (pv 0) Ak Ec rfl)
  (Ae (Aj (Ao (Aa Ak Ac))))),?_⟩
  generalize hD:(FE.mk _ Q _ _)=B
  have hB:B.rt=Q:=by rw [<- hD]
  k_go
  generalize hE:(tHAs _ _ _ _ _ _ B)=EE
  simp only [JS]
  k_go
  simp only [JS]
  k_go
  have hLs:=L.2.2.2
  have hLl:=L.1
  have row:∀ (dx:Addr) (fs:List (Str×V)) (C:Addr) (z:Str) (G:Hp),Af H G->G dx=some (OB dx fs)->PQ (DW s.ls)=z->MQ (DW s.ls)=false->∀ a,G a=none->∀ q,(upd G a (DC a C (some dx))) q=none->Q (.ref q) (upd (upd G a (DC a C (some dx))) q (.lst [.str z])):=λdx fs C z G sG hx e1 e2 a ha q hq=>by
   have sq:=(sG.trans (Af.upd (o:=DC a C (some dx)) ha)).trans (Af.upd (o:=.lst [.str z]) hq)
   refine k q _ (CP.of sq) (AN (sG.trans (Af.upd (o:=DC a C (some dx)) ha)) hq) ?_ (by rw [Ab,e1])
   have M2:=M.same sq
   rw [<- hn] at e2
   exact (show ({ s with ng:=MQ (DW s.ls) }:Ds)=s by rw [e2])▸M2
  simp only [Jj]
  k_go
  refine ⟨_,M.get Se,QM hLs hLl M.choose_spec.2.2.2 ⟨_,rfl,ln_gd hLs hLl,λts e v G1 rep s1=>?_,λi e dx G1 hx s1=>?_⟩⟩
  ·obtain ⟨o1,o2,o3⟩:=NH hLs hLl e
   have hb:DW s.ls=.inr (Eg 7 (ts.map Su)):=by unfold DW;rw [e]
   have hne:ts.map Su≠[]:=λz=>o1 (L5.mp z)
   have hen:=QA o3
   refine ⟨v,_,rfl,Kb rep o3 (by kd_p) o2,hne,?_⟩
   cases hl:Eg 7 (ts.map Su) with
   |none =>
    rw [hl] at hb
    intro G2 s2
    rw [<- hD]
    k_go
    simp only [Ka]
    k_go
    have s12:=s1.trans s2
    obtain ⟨G3,pt,b3,M3⟩:=(M.same s12).put (v:=.bl true) gM_n (gM_pn (x:=true)) (M.same s12).choose_spec.2.2.2
    refine ⟨G3,pt,by kd_p,λr hr0=>k r _ (λc o n h=>(Af.upd hr0) _ _ (b3 _ _ n (s12 _ _ h))) ?_ (by rw [hb];exact M3.same (Af.upd hr0)) (by rw [Ab,hb];rfl)⟩
    obtain ⟨_,hm3,_⟩:=id M3
    exact Js (λc o n h=>b3 _ _ n (s12 _ _ h)) hm3 hr0
   |some x =>
    rw [hl] at hb
    have tb:=QL hen hne hl
    intro dx G2 hx s2
    rw [<- hE]
    refine ⟨_,rfl,T.nA,.inr ⟨T.un,_,rfl,T.nA,.inl ⟨T.up,λa ha=>?_⟩⟩⟩
    have hd2:=(Af.upd (o:=DC a T.aa (some dx)) ha) _ _ hx
    k_go
    simp only [hB]
    exact ⟨a,_,dx,_,_,rfl,Ab,hd2,T.nE,T.aF,T.aD,rfl,.inl ⟨x.1,rfl,MA tb.1,C0 (J5 (Ko tb.1) (show (Str.ofString " ").length<=10 by kd_p)) (by kd_p),a,_,dx,_,_,rfl,Ab,hd2,T.nE,T.aF,T.aE,rfl,x.2,rfl,SW tb,by kd_p,λq hq=>row dx _ _ _ G2 (s1.trans s2) hx (by rw [hb];rfl) (by rw [hb];rfl) a ha q hq⟩⟩
  ·have hb:DW s.ls=.inl i:=by unfold DW;rw [e]
   have nb:=QH hLs hLl e
   rw [<- hE]
   refine ⟨_,rfl,T.ax,.inl ⟨T.ur,λa ha=>?_⟩⟩
   have hd2:=(Af.upd (o:=DC a T.ag (some dx)) ha) _ _ hx
   k_go
   simp only [hB]
   exact ⟨a,_,dx,_,_,rfl,Ab,hd2,T.oU,T.eJ,T.bS,rfl,.inl ⟨i,rfl,MA nb,C0 (J5 (show (Str.ofString "row ").length<=10 by kd_p) (Ko nb)) (by kd_p),by kd_p,λq hq=>row dx _ _ _ G1 s1 hx (by rw [hb];rfl) (by rw [hb];rfl) a ha q hq⟩⟩
theorem JX:Sc ["_law_model", "_law_row_here", "_law_words", "_law_good"] ["_law_model", "_law_row_here"] (top 136):=BE (by lk)
theorem NL:CJ P w base T.jM 26 spDue:=by
 exists T.jM.F.ok JX
 ·obtain ⟨m,l,s,z,rfl,M,L,hz,k⟩:=h
  have hu:=BU hr
  have hu1:=CG hr
  refine (⟨_,(Ad (Be (i:=2) JX.nd (Bk L3 Z4 Y4 Ef (pv 1) (Aa Ak Ac)))
  (Ad (DH (Br (Cv hu1 (pv 0) Ak (λ_ _=>rfl)))
  (Ad (Be (i:=3) JX.nd (QE (CV Ak (Ao (Aa Ak Ac)) (CV Ak (Ao (Aa Ak Ac)) (CV Ak (Ao Ac) (CV Ak (Ao (Aa Ak Ac)) QB)))) rfl rfl (by simp) (by kd_p)))
  (Ae (Aj (TY hu1 (pv 3) (pv 1) (Ao (Aa Ak Ac)) ⟨rfl,rfl,rfl,rfl⟩))))
  An)
  (Ad (DH (Al AQ (Az AK (pv 2) Ai) Ak (Am _))
  (Ad (Fs hu1 (pv 0) Ak (AL CK (Cv hu1 (pv 0) Ak (λ_ _=>rfl)) (Ao (Aa (Cn OP (pv 1) (CW Ai) CY) Ac))) rfl)
  (Ae (Aj (Ao (Aa (AL Bb Ak (Ay BD (by rfl) T.gf CL (Aa (Av AI (by rfl) T.bn Bf (Aa (Cv hu1 (pv 0) Ak (λ_ _=>rfl)) Ac)) Ac))) Ac)))))
  An)
  (Ad (DH (Al AQ (pv 1) Ak (Am _))
  (Ae (Aj (AB T.ju (Ph T) hr (Aa (pv 0) Ac))))
  An)
  (Ad (DH (PW.pt (CT (Al AQ (Az AK (pv 2) Ai) Ak (Am _)) (CT (Br (AB T.jt (Pg T) hr (Aa (pv 2) Ac))) (CH (Al op_ge (Ay GA (by rfl) T.kA Jg (Aa (Az AK (pv 2) Ai) Ac)) (Cv hu1 (pv 0) Ak (λ_ _=>rfl)) (Am _))))))
  (Ad (Fs hu1 (pv 0) Ak (Ay GA (by rfl) T.kA Jg (Aa (Az AK (pv 2) Ai) Ac)) rfl)
  (Ad (Fs hu1 (pv 0) Ak (AL Ft (Cv hu1 (pv 0) Ak (λ_ _=>rfl)) Ai) rfl)
  (Ae (Aj (Ao (Aa (AL Bb Ak (Ay BD (by rfl) T.gf CL (Aa (Cv hu1 (pv 0) Ak (λ_ _=>rfl)) Ac))) Ac))))))
  An)
  (Ad (DH (PW.pt (CT (Al AQ (Az AK (pv 2) Ai) Ak (Am _)) (CT (Al AQ (Av AI (by rfl) T.bn Bf (Aa (pv 2) Ac)) Ai (Am _)) (CH (Br (AB T.eG (EB T) hr (Aa (Az AK (pv 2) Ai) (Aa Ai Ac))))))))
  (Ad (Fs hu1 (pv 0) Ak (AL Ft (Cv hu1 (pv 0) Ak (λ_ _=>rfl)) Ai) rfl)
  (Ae (Aj (Ao (Aa (AL Bb Ak (Ay BD (by rfl) T.gf CL (Aa (Cv hu1 (pv 0) Ak (λ_ _=>rfl)) Ac))) Ac)))))
  An)
  (Ae (Aj (Ao (Aa Ak Ac)))))))))),?_⟩)
  k_go
  have C:=Iu hz
  obtain ⟨⟨c1,c2,c3,c4⟩,cw⟩:=chL_of hz
  refine ⟨z,32,rfl,by rw [sp1],C0 C.le (by kd_p),λq hq=>?_⟩
  have s1:=Af.upd (o:=.lst ((Txt.split z ⟨#[32]⟩).map V.str)) hq
  have q1:(upd H q (.lst ((Txt.split z ⟨#[32]⟩).map V.str))) q=some (.lst ((Dm z).map V.str)):=Ab
  generalize upd H q (.lst ((Txt.split z ⟨#[32]⟩).map V.str))=G at s1 q1 |-
  have M1:=M.same s1
  refine UC s.ng (λS kS=>?_) (λe G2 s2=>?_) (λe G2 s2=>?_)
  ·simp only [tB,Jj]
   k_go
   exact ⟨_,M1.get gM_n,_,rfl,kS G (Af.refl G)⟩
  ·simp only [Rp,tAsg,SO,JR]
   k_go
   have s12:=s1.trans s2
   have nx:DT s z=(OD z,s):=by unfold DT;rw [if_pos e]
   rw [nx] at k
   intro p hp
   have u0:=Af.upd (o:=.dK []) hp
   have d0:(upd G2 p (.dK [])) p=some (.dK []):=Ab
   generalize upd G2 p (.dK [])=X0 at u0 d0 |-
   refine ⟨by kd_p,λp1 h1=>?_⟩
   have u1:=Af.upd (o:=.lst [.str "tick 0"]) h1
   have e1:(upd X0 p1 (.lst [.str "tick 0"])) p1=some (.lst [.str "tick 0"]):=Ab
   generalize upd X0 p1 (.lst [.str "tick 0"])=X1 at u1 e1 |-
   refine ⟨by kd_p,λp2 h2=>?_⟩
   have u2:=Af.upd (o:=.lst [.str "0 a ready"]) h2
   have e2:(upd X1 p2 (.lst [.str "0 a ready"])) p2=some (.lst [.str "0 a ready"]):=Ab
   generalize upd X1 p2 (.lst [.str "0 a ready"])=X2 at u2 e2 |-
   refine ⟨by kd_p,λp3 h3=>?_⟩
   have u3:=Af.upd (o:=.lst []) h3
   have e3:(upd X2 p3 (.lst [])) p3=some (.lst []):=Ab
   generalize upd X2 p3 (.lst [])=X3 at u3 e3 |-
   refine ⟨by kd_p,λp4 h4=>?_⟩
   have u4:=Af.upd (o:=.lst [.str "up 0"]) h4
   have e4:(upd X3 p4 (.lst [.str "up 0"])) p4=some (.lst [.str "up 0"]):=Ab
   generalize upd X3 p4 (.lst [.str "up 0"])=X4 at u4 e4 |-
   have e1:=u4 _ _ (u3 _ _ (u2 _ _ e1))
   have e2:=u4 _ _ (u3 _ _ e2)
   have e3:=u4 _ _ e3
   have f1:=AN u0 h1
   have f2:=AN (u0.trans u1) h2
   have f3:=AN ((u0.trans u1).trans u2) h3
   have f4:=AN (((u0.trans u1).trans u2).trans u3) h4
   have u04:=(((u0.trans u1).trans u2).trans u3).trans u4
   have d4:=(((u1.trans u2).trans u3).trans u4) _ _ d0
   refine ⟨d4,[(.inr "now",.ref p1),(.inr "who",.ref p2),(.inr "book 0",.ref p3),(.inr "rise 0",.ref p4)],rfl,(show 4<=15 by kd_p),?_⟩
   have vM:∀ y:Str,valV (Da [] [(.inr "now",.ref p1),(.inr "who",.ref p2),(.inr "book 0",.ref p3),(.inr "rise 0",.ref p4)]) (.inr y)=if y="rise 0" then some (.ref p4) else if y="book 0" then some (.ref p3) else if y="who" then some (.ref p2) else if y="now" then some (.ref p1) else none:=λy=>by
    unfold Da
    simp only [List.foldl,HF,Sum.inr.injEq]
    rfl
   generalize Da [] [(.inr "now",.ref p1),(.inr "who",.ref p2),(.inr "book 0",.ref p3),(.inr "rise 0",.ref p4)]=kvs at vM |-
   have b5:CP p X4 (upd X4 p (.dK kvs)):=λc o n h=>by rw [Ah n];exact h
   have d5:(upd X4 p (.dK kvs)) p=some (.dK kvs):=Ab
   generalize upd X4 p (.dK kvs)=X5 at b5 d5 |-
   simp only [SR]
   k_go
   refine ⟨.inl ⟨_,.inl d5⟩,by kd_p,λp6 h6=>?_⟩
   have u6:=Af.upd (o:=.lst [.str "not understood"]) h6
   have e6:(upd X5 p6 (.lst [.str "not understood"])) p6=some (.lst [.str "not understood"]):=Ab
   have u26:Af G2 (upd X5 p6 (.lst [.str "not understood"])):=λc o h=>u6 _ _ (b5 _ _ (λz=>by rw [z,hp] at h;cases h) (u04 _ _ h))
   generalize upd X5 p6 (.lst [.str "not understood"])=X6 at u6 e6 u26 |-
   refine ⟨_,.inl ⟨kvs,.inr z,.inl (u6 _ _ d5),rfl,rfl⟩,?_⟩
   have nl:∀ {r:Addr} {x:List V},X4 r=some (.lst x)->X6 r=some (.lst x):=λh=>u6 _ _ (b5 _ _ (AU h d4 (λz=>nomatch z)) h)
   have fin:∀ r,G2 r=none->X6 r=some (.lst ((OD z).map V.str))->Q (.ref r) X6:=λr hr hx=>k r l X6 (CP.of (s12.trans u26)) (AN s12 hr) (.inl rfl) (M1.same (s2.trans u26)) hx
   rw [vM]
   unfold OD at fin
   by_cases z1:z="now"
   ·subst z1
    exact fin p1 f1 (nl e1)
   simp only [if_neg z1] at fin |-
   by_cases z2:z="who"
   ·subst z2
    exact fin p2 f2 (nl e2)
   simp only [if_neg z2] at fin |-
   by_cases z3:z="book 0"
   ·subst z3
    exact fin p3 f3 (nl e3)
   simp only [if_neg z3] at fin |-
   by_cases z4:z="rise 0"
   ·subst z4
    exact fin p4 f4 (nl e4)
   simp only [if_neg z4] at fin |-
   refine fin p6 ?_ e6
   cases h:G2 p6 with
   |none=>rfl
   |some o =>
    rw [b5 _ _ (λz=>by rw [z,hp] at h;cases h) (u04 _ _ h)] at h6
    cases h6
  have n0:¬ s.ng=true:=by rw [e];exact Q0
  obtain ⟨w0,ws,hw⟩:∃ w0 ws,Dm z=w0::ws:=by
   cases e:Dm z with
   |nil=>exact absurd e (HH z 32)
   |cons a b=>exact ⟨a,b,rfl⟩
  have ew:(Dm z).getD 0 ""=w0:=by rw [hw];rfl
  rw [ew] at c1 c2 c3
  have ix:∀ {G':Hp} {j:Nat} {x:Str} {R:VK},Af G G'->(Dm z)[j]?=some x->R (.str x) G'->NB K (.ref q) (.int (j:Nat)) G' R:=λ{G' j x R} s hx q'=>⟨q,_,(j:Nat),.str x,rfl,rfl,AD.of (s _ _ q1),Au (by rw [J2,hx];rfl),q'⟩
  have hw0:(Dm z)[0]?=some w0:=by rw [hw];rfl
  have vs:∀ (x y:Str),decide (V.str x=V.str y)=decide (x=y):=λx y=>by rw [decide_eq_decide];exact ⟨V.str.inj,congrArg _⟩
  k_go
  refine UC (JF z) (λS kS=>?_) (λe1 G3 s3=>?_) (λe1 G3 s3=>?_)
  ·k_go
   exact ix (j:=0) s2 hw0 ⟨rfl,by rw [vs,c1];exact kS _ (Af.refl _)⟩
  ·have nx:DT s z=(["line "++QK ((s.ls.length+1:Nat):Int)],{ s with ls:=s.ls++[lnO z] }):=by unfold DT;rw [if_neg n0,if_pos e1]
   rw [nx] at k
   simp only [Rp,Ka,Jj]
   k_go
   simp only [Jj]
   k_go
   have s13:=s1.trans (s2.trans s3)
   have M3:=M.same s13
   have hl3:=M3.choose_spec.2.2.2
   refine ⟨_,M3.get Se,C0 C.le (by kd_p),by kd_p,λp hp=>⟨l,p,_,_,rfl,rfl,(Af.upd hp) _ _ hl3,Ab,C0 (show (s.ls.map V.str).length+1<=100 by rw [J0];have:=L.1;lia) (by kd_p),λb hb=>?_⟩⟩
   have t5:=(Af.upd (o:=.lst [.str (Iq z (some 2) none)]) hp).trans (Af.upd (o:=.lst (s.ls.map V.str++[.str (Iq z (some 2) none)])) hb)
   have e5:(upd (upd G3 p (.lst [.str (Iq z (some 2) none)])) b (.lst (s.ls.map V.str++[.str (Iq z (some 2) none)]))) b=some (.lst ((s.ls++[lnO z]).map V.str)):=by rw [Ab,A3];rfl
   generalize upd (upd G3 p (.lst [.str (Iq z (some 2) none)])) b (.lst (s.ls.map V.str++[.str (Iq z (some 2) none)]))=G5 at t5 e5 |-
   obtain ⟨G6,pt,b6,M6⟩:=(M3.same t5).put (v:=.ref b) Se (gM_pl (l':=b) (x:=s.ls++[lnO z])) e5
   have b16:CP m H G6:=λc o n h=>b6 _ _ n (t5 _ _ (s13 _ _ h))
   obtain ⟨_,hm6,_⟩:=id M6
   refine ⟨G6,pt,_,M6.get Se,s.ls.length+1,Or.inl ⟨_,AD.of M6.choose_spec.2.2.2,by rw [J0,K0];rfl⟩,.inl ⟨Gw (by have:=L.1;lia),C0 (J5 (show (Str.ofString "line ").length<=10 by lk) (Hz (n:=s.ls.length+1) (by have:=L.1;lia))) (by kd_p),by kd_p,λr hr0=>k r b _ (λc o n h=>(Af.upd hr0) _ _ (b16 _ _ n h)) (Js b16 hm6 hr0) (.inr ⟨AN (s13.trans (Af.upd hp)) hb,λz=>?_⟩) (M6.same (Af.upd hr0)) Ab⟩⟩
   rw [<- z,M6.choose_spec.2.2.2] at hr0
   cases hr0
  have s3':=s2.trans s3
  k_go
  refine UC (decide (z="begin")) (λS kS=>?_) (λe2 G4 s4=>?_) (λe2 G4 s4=>?_)
  ·k_go
   exact ⟨rfl,kS _ (Af.refl _)⟩
  ·have nx:DT s z=([PQ (DW s.ls)],{ s with ng:=MQ (DW s.ls) }):=by unfold DT;rw [if_neg n0,if_neg (by rw [e1];exact Q0),if_pos (of_decide_eq_true e2)]
   rw [nx] at k
   k_go
   have s14:=s1.trans (s3'.trans s4)
   exact ⟨m,l,s,rfl,M.same s14,L,e,λr H' b' hr' M' e'=>k r l H' (λc o n h=>b' _ _ n (s14 _ _ h)) (AN s14 hr') (.inl rfl) M' e'⟩
  have s4':=s3'.trans s4
  have nx:=λ(b:Bool) (e:Jc z=b)=>(show DT s z=_ by unfold DT;rw [if_neg n0,if_neg (show ¬ JF z=true by rw [e1];exact Q0),if_neg (of_decide_eq_false e2),e])
  have hw1:∀ {n:Int},Cp ((Dm z).getD 1 "")=some n->∃ w1,(Dm z)[1]?=some w1/\Cp w1=some n:=λ{n} h=>by
   cases h1:(Dm z)[1]? with
   |none =>
    rw [k8,h1] at h
    exact absurd h (by show ¬ Cp ""=some n;rw [show Cp ""=none by lk];exact λz=>nomatch z)
   |some w1 =>
    rw [k8,h1] at h
    exact ⟨w1,rfl,h⟩
  have evN:∀ G',Af H G'->KJ G' m l s:=λG' s'=>M.same s'
  k_go
  refine UC (match OC z with | some t=>decide (s.tk<=t) | none=>false) (λS kS=>?_) (λe3 G5 s5=>?_) (λe3 G5 s5=>?_)
  ·k_go
   refine ix (j:=0) s4' hw0 ⟨rfl,?_⟩
   rw [vs]
   cases ha:decide (w0="at") with
   |false =>
    rw [ha] at c2
    cases he:OC z with
    |some t=>rw [he] at c2;cases c2
    |none=>rw [he] at kS;exact bF rfl (kS _ (Af.refl _))
   |true =>
    rw [ha,S3] at c2
    refine bT rfl ⟨q,Dm z,rfl,s4' _ _ q1,cw,λG5 s5=>⟨_,rfl,?_⟩⟩
    cases he:OC z with
    |none=>rw [he] at kS c2;exact bF c2 (kS _ s5)
    |some t =>
     rw [he] at kS c2 c4
     obtain ⟨w1,g1,g2⟩:=hw1 (c4 rfl).2
     obtain ⟨n1,n2⟩:=NQ g2
     have s45:=s4'.trans s5
     exact bT c2 (ix (j:=1) s45 g1 ⟨w1,rfl,t,n1,n2,dgM (M.same (s1.trans s45)) gM_t ⟨_,rfl,kS _ s5⟩⟩)
  ·cases he:OC z with
   |none=>rw [he] at e3;cases e3
   |some t =>
   rw [he] at e3 c4
   have e3:s.tk<=t:=of_decide_eq_true e3
   obtain ⟨w1,g1,g2⟩:=hw1 (c4 rfl).2
   obtain ⟨n1,n2⟩:=NQ g2
   have nx:=nx false (c4 rfl).1
   rw [he] at nx
   have nx:=nx.trans (if_neg (show ¬ t<s.tk by lia))
   rw [nx] at k
   have s45:=s4'.trans s5
   have M5:=M.same (s1.trans s45)
   simp only [Rp,Ka]
   k_go
   obtain ⟨G6,pt,b6,M6⟩:=M5.put (v:=.int t) gM_t gM_pt M5.choose_spec.2.2.2
   obtain ⟨G7,pt7,b7,M7⟩:=M6.put (z:="events") (v:=.int ((s.ev+1:Nat):Int)) UN (gM_pe (x:=s.ev+1)) M6.choose_spec.2.2.2
   have b17:CP m H G7:=λc o n h=>b7 _ _ n (b6 _ _ n ((s1.trans s45) _ _ h))
   obtain ⟨_,hm7,_⟩:=id M7
   exact ix (j:=1) s45 g1 ⟨w1,rfl,t,n1,n2,G6,pt,dgM M6 UN ⟨_,rfl,G7,pt7,dgM M7 UN (.inl ⟨_,rfl,Gw (by have:=L.2.1;show s.ev+1<=100;lia),C0 (J5 (show (Str.ofString "event ").length<=10 by lk) (Hz (n:=s.ev+1) (by have:=L.2.1;lia))) (by kd_p),by kd_p,λr hr0=>k r l _ (λc o n h=>(Af.upd hr0) _ _ (b17 _ _ n h)) (Js b17 hm7 hr0) (.inl rfl) (M7.same (Af.upd hr0)) Ab⟩)⟩⟩
  have s5':=s4'.trans s5
  k_go
  refine UC (Jc z&&(pkO z).isSome) (λS kS=>?_) (λe4 G6 s6=>?_) (λe4 G6 s6=>?_)
  ·k_go
   refine ix (j:=0) s5' hw0 ⟨rfl,?_⟩
   rw [vs]
   cases ha:decide (w0="pick") with
   |false =>
    rw [ha,C3] at c3
    rw [<- c3] at kS
    exact bF rfl (kS _ (Af.refl _))
   |true =>
    rw [ha,S3] at c3
    refine bT rfl ⟨(Dm z).length,Or.inl ⟨_,AD.of (s5' _ _ q1),by rw [J0]⟩,rfl,?_⟩
    by_cases h2:(Dm z).length=2
    ·rw [decide_eq_true h2,S3] at c3
     obtain ⟨x,y,hxy⟩:=LZ h2
     have ey:(Dm z).getD 1 ""=y:=by rw [hxy];rfl
     rw [ey] at c3
     have hy:=cw y (by rw [hxy];simp)
     refine Cw (by lia) (ix (j:=1) s5' (by rw [hxy];rfl) ⟨y,999999,rfl,hy.1,hy.2,λG7 s7=>⟨_,rfl,?_⟩⟩)
     rw [c3]
     exact kS _ s7
    ·rw [decide_eq_false h2,C3] at c3
     rw [<- c3] at kS
     exact CD (by lia) (kS _ (Af.refl _))
  ·rw [W1] at e4
   have nx:=(nx true e4.1).trans (if_pos e4.2)
   rw [nx] at k
   have s6':=s1.trans (s5'.trans s6)
   have M6:=M.same s6'
   simp only [Rp,Ka]
   k_go
   obtain ⟨G7,pt7,b7,M7⟩:=M6.put (z:="picks") (v:=.int ((s.pk+1:Nat):Int)) UM (gM_pp (x:=s.pk+1)) M6.choose_spec.2.2.2
   have b17:CP m H G7:=λc o n h=>b7 _ _ n (s6' _ _ h)
   obtain ⟨_,hm7,_⟩:=id M7
   exact dgM M6 UM ⟨_,rfl,G7,pt7,dgM M7 UM (.inl ⟨_,rfl,Gw (by have:=L.2.2.1;show s.pk+1<=100;lia),C0 (J5 (show (Str.ofString "pick ").length<=10 by lk) (Hz (n:=s.pk+1) (by have:=L.2.2.1;lia))) (by kd_p),by kd_p,λr hr0=>k r l _ (λc o n h=>(Af.upd hr0) _ _ (b17 _ _ n h)) (Js b17 hm7 hr0) (.inl rfl) (M7.same (Af.upd hr0)) Ab⟩)⟩
  have s6':=s1.trans (s5'.trans s6)
  have nx:DT s z=(NU,s):=by
   cases hp:Jc z with
   |true =>
    rw [hp,S3] at e4
    exact (nx true hp).trans (if_neg (show ¬ (pkO z).isSome=true by rw [e4];exact Q0))
   |false =>
    have nx:=nx false hp
    cases he:OC z with
    |none=>rw [he] at nx;exact nx
    |some t =>
     rw [he] at nx e3
     have e3:=of_decide_eq_false e3
     exact nx.trans (if_pos (show t<s.tk by lia))
  rw [nx] at k
  k_go
  exact ⟨by kd_p,λr hr0=>k r l _ (CP.of (s6'.trans (Af.upd hr0))) (AN s6' hr0) (.inl rfl) (M.same (s6'.trans (Af.upd hr0))) Ab⟩
theorem DE:Sc ["_law_script", "_law_desks", "_law_models", "_law_held_here", "_law_k", "_law_pick", "_law_side", "_law_row_here", "_law_found", "_law_last"] ["_law_script"] (top 137):=BE (by lk)
theorem ok_law (T:Tx P w K mg) {f:Addr} {fd:FuncData} (F:Sx K "law" "law" (top 137) f fd):AS P w K mg base CX0 41 f fd ["_law_script"] (spLaw K):=by
 exists F.ok DE
 ·obtain ⟨a,ns,rfl,hS,hn,k⟩:=h
  have hu:=BU hr
  have hu1:=CG hr
  refine (⟨_,(Ad (Be (i:=1) DE.nd (Ao (Aa (DA T.lC (EX T) (hr.mono (by lia)) rfl T.lB T.bp.b .nil AH) (Aa (DA T.lC (EX T) (hr.mono (by lia)) rfl T.lB T.bp.b .nil AH) Ac))))
  (Ad (FV (i:=2) DE.nd rfl (Or.inl rfl) (N':=["_law_k"]) (sel:=[none]) rfl rfl rfl (IN rfl T.kJ (Aa Ai Ac)) (BO rfl) (λ_ _ _ _ _=>⟨(Bm (i:=0) (show (["_law_k"]:List Str).Nodup by lk) rfl (Or.inl rfl)),CU,(QE (CV Ak (Ao Ac) (CV Ak Ai (CV Ak Ai (CV Ak Ai (CV Ak Ec QB))))) rfl rfl (by simp) (by kd_p))⟩) rfl)
  (Ad (Be (i:=3) DE.nd (Ao Ac))
  (Ad (BF PassesOwn.never rfl (IN rfl T.kJ (Aa (Av (Sq rfl) (by rfl) T.nz bt_min (Aa (Av AI (by rfl) T.bn Bf (Aa (pv 0) Ac)) (Aa Ai Ac))) Ac)) (Di (i:=4) DE.nd)
  (Ad (Be (i:=5) DE.nd (AB T.js (Pf T) hr (Aa (Az AK (pv 0) (pv 4)) (Aa (pv 4) Ac))))
  (Ad (Be (i:=6) DE.nd (AL QI (AL Kh (AL QI (pv 5) Ai) Ai) Ai))
  (Ad (Be (i:=7) DE.nd (AB T.kC (Uf T) hr (Aa (pv 5) Ac)))
  (Ad (Be (i:=8) DE.nd (Bi (Az AK (pv 1) (pv 6)) T.ak T.dv.me (Jp T) (hr.mono (by lia)) T.dv.b .nil AH (Aa (pv 7) Ac)))
  (Ad (AA (PW.pt (HN (DF (Br (Av CO (by rfl) T.cO Cb (Aa (pv 8) (Aa (Gu (v:=.ty "list") rfl T.iE EF rfl) Ac))))) (FU (Al (IP hu) (pv 8) (AB T.jM (NL T) hr (Aa (Az AK (pv 2) (pv 6)) (Aa (pv 7) Ac))) (Am _)))))
  (Ae (Aj Ec))
  An)
  (Ad (AJ (Bk Y0 V1 T1 AW (pv 8) (Aa Ak Ac)))
  (Ae (AJ (Bk Y0 V1 T1 AW (pv 3) (Aa (Cm (Aa (pv 8) (Aa (Ay BX (by rfl) T.iE EF (Aa (pv 8) Ac)) Ac))) Ac)))))))))))
  (Ad (Be (i:=9) DE.nd (Ao (Ch (zs:=["at 9999 off 1", "begin", "at 9998 off 1", "at 9999 off 1", "| errand a", "| end", "begin", "now", "who"]) (by lk))))
  (Ad (BF PassesOwn.never rfl (IN rfl T.kJ (Aa Ai Ac)) (Di (i:=6) DE.nd)
  (Ae (BF PassesOwn.never rfl (Cg (AL CK (pv 9) (Ao (Ch (zs:=["rise 0", "begin", "step now", "book 0"]) (by lk))))) (Di (i:=7) DE.nd)
  (Ae (AA (Al (IP hu) (Bi (Az AK (pv 1) (pv 6)) T.ak T.dv.me (Jp T) (hr.mono (by lia)) T.dv.b .nil AH (Aa (pv 7) Ac)) (AB T.jM (NL T) hr (Aa (Az AK (pv 2) (pv 6)) (Aa (pv 7) Ac))) (Am _))
  (Ae (Aj Ec))
  An)))))
  (Ae (Aj (AB T.jQ (RN T) hr (Aa (pv 3) Ac)))))))))),?_⟩)
  k_go
  intro x dx hx hdx nx
  have s0:=CZ (C:=T.af) hx hdx nx
  refine ⟨x,dx,rfl,Ab,λH1 d0 b1 D0 fa fb fc=>⟨rfl,?_⟩⟩
  have s1:=CS hx s0 b1
  have li:∀ {H':Hp} {p:Addr} {d:Dk},BH T H' p d Nc->∀ u,u=p\/MV d u->∃ o,H' u=some o:=λ{H' p d} D u h=>by
   rcases h with rfl | rfl | rfl | rfl
   ·obtain ⟨_,F,_⟩:=D.ob
    obtain ⟨_,_,e⟩:=F.at
    exact ⟨_,e⟩
   ·exact ⟨_,D.ls⟩
   ·obtain ⟨_,e,_⟩:=D.ev
    exact ⟨_,e⟩
   ·obtain ⟨_,e,_⟩:=D.pk
    exact ⟨_,e⟩
  have f0:∀ u,u=x\/MV d0 u->H u=none/\∃ o,H1 u=some o:=λu h=>⟨by
   rcases h with rfl | rfl | rfl | rfl
   ·exact hx
   ·exact AN s0 fa
   ·exact AN s0 fb
   ·exact AN s0 fc,li D0 u h⟩
  clear fa fb fc b1 s0
  intro x1 dx1 hx1 hdx1 nx1
  have t0:=CZ (C:=T.af) hx1 hdx1 nx1
  refine ⟨x1,dx1,rfl,Ab,λH2 d1 b2 D1 fa fb fc=>⟨rfl,by kd_p,λdl hdl=>?_⟩⟩
  have s2:=CS hx1 t0 b2
  have f1:∀ u,u=x1\/MV d1 u->H1 u=none/\∃ o,H2 u=some o:=λu h=>⟨by
   rcases h with rfl | rfl | rfl | rfl
   ·exact hx1
   ·exact AN t0 fa
   ·exact AN t0 fb
   ·exact AN t0 fc,li D1 u h⟩
  clear fa fb fc b2 t0 hdx hdx1 nx nx1 dx dx1
  have D0:=D0.same s2
  have s3:=Af.upd (o:=.lst [.ref x,.ref x1]) hdl
  have e3:(upd H2 dl (.lst [.ref x,.ref x1])) dl=some (.lst [.ref x,.ref x1]):=Ab
  generalize upd H2 dl (.lst [.ref x,.ref x1])=H3 at s3 e3 |-
  simp only [IA,iRng1]
  k_go
  refine ⟨by kd_p,by kd_p,Uv (lo:=0) (n:=(2:Int).toNat) (PvM H3) ⟨Af.refl _,λ_=>rfl,(λz=>nomatch z),(λz=>nomatch z)⟩ ?_ (by kd_p) ?_ ?_⟩
  ·rintro i ys G hi ⟨_,h0,h1,h2⟩
   have:i=0\/i=1\/i=2:=by have:i<=2:=hi;lia
   rcases this with rfl | rfl | rfl
   ·rw [h0 rfl];exact P0 _
   ·obtain ⟨_,_,e,_⟩:=h1 rfl
    rw [e];exact P0 _
   ·obtain ⟨_,_,_,_,e,_⟩:=h2 rfl
    rw [e];exact P0 _
  ·rintro i ys G hi ⟨sG,h0,h1,h2⟩
   simp only [SO,JR]
   k_go
   intro p hp
   refine ⟨by kd_p,λp1 hp1=>?_⟩
   obtain ⟨n1,n2,n3,n4⟩:=md_new hp hp1
   refine ⟨n4,_,(show _=T8 _ [(.inr "lines",.ref p1),(.inr "tick",.int 0),(.inr "events",.int 0),(.inr "picks",.int 0),(.inr "night",.bl false)] from rfl),(show 5<=15 by kd_p),sG.trans n1,(λz=>nomatch z),λz=>?_,λz=>?_⟩
   ·have:i=0:=by lia
    rw [h0 this]
    exact ⟨p,p1,rfl,n2,AN sG hp,AN sG n3⟩
   ·have:i=1:=by lia
    obtain ⟨m,l,rfl,M,m1,m2⟩:=h1 this
    obtain ⟨_,g1,_,_,g2⟩:=id M
    have ne:∀ {u v:Addr} {o:HO},G u=some o->G v=none->u≠v:=λh1 h2 z=>by rw [z,h2] at h1;cases h1
    exact ⟨m,l,p,p1,rfl,M.same n1,n2,λu h=>by
     rcases h with rfl | rfl | rfl | rfl
     ·exact m1
     ·exact m2
     ·exact AN sG hp
     ·exact AN sG n3,ne g1 hp,ne g1 n3,ne g2 hp,ne g2 n3⟩
  rintro ys G ⟨sG,_,_,h2⟩ ml hml
  obtain ⟨m0,l0,m1,l1,rfl,M0,M1,fm,n1,n2,n3,n4⟩:=h2 rfl
  have L0:=Lw.start (D0.same (s3.trans sG)) (D1.same (s3.trans sG)) M0 M1 s1 s2 s3 sG f0 f1 hdl e3 fm n1 n2 n3 n4
  have L1:=L0.new (o:=.lst [.ref m0,.ref m1]) hml
  have sH:=((s1.trans s2).trans s3).trans sG
  have dm:dl≠ml:=λz=>by rw [<- z,sG _ _ e3] at hml;cases hml
  have hd0:H dl=none:=AN (s1.trans s2) hdl
  have hm0:H ml=none:=AN sH hml
  have ed:(upd G ml (.lst [.ref m0,.ref m1])) dl=some (.lst [.ref x,.ref x1]):=(Af.upd hml) _ _ (sG _ _ e3)
  have em:(upd G ml (.lst [.ref m0,.ref m1])) ml=some (.lst [.ref m0,.ref m1]):=Ab
  have sH1:=sH.trans (Af.upd (o:=.lst [.ref m0,.ref m1]) hml)
  generalize upd G ml (.lst [.ref m0,.ref m1])=G1 at L1 ed em sH1 |-
  clear L0 D0 D1 M0 M1 f0 f1 s1 s2 s3 e3 sG sH li fm n1 n2 n3 n4 hml
  refine ⟨by kd_p,λh hh=>?_⟩
  have LL:=L1.new (o:=.lst []) hh
  have hh0:=AN sH1 hh
  have n5:dl≠h:=λz=>by rw [<- z,ed] at hh;cases hh
  have n6:ml≠h:=λz=>by rw [<- z,em] at hh;cases hh
  have B0:Bo T H dl ml h _ _ _ 0 0 (λ_=>False):=⟨LL,λb=>by cases b<;>rfl,λc o hc=>by
    rw [Ah (λz=>by rw [z,hh0] at hc;cases hc),Ah (λz=>by rw [z,hm0] at hc;cases hc),Ah (λz=>by rw [z,hd0] at hc;cases hc)]
    exact hc,by rw [Ah n5,Ah dm,Ab];rfl,by rw [Ah n6,Ab];rfl,⟨[],Ab,P0 _,λv hv=>nomatch hv⟩,hh0,n5,n6⟩
  generalize upd G1 h (.lst [])=G2 at B0 |-
  have hS2:AD K G2 a (ns.map V.int):=(B0.hz.trans B0.lw.sz).seq hS
  have b62:(2:Int) ^ 62=4611686018427387904:=by kd_p
  refine ⟨_,rfl,ns.length,Bu.mpr (.inl ⟨_,hS2,by rw [J0]⟩),_,_,rfl,_,rfl,by split<;>lia,by split<;>lia,LK (lo:=0) (λi σ G=>i<=40/\∃ Z S o4 o5 o6 o7 o8,σ=[some (.ref a),some (.ref dl),some (.ref ml),some (.ref h),o4,o5,o6,o7,o8,none]/\Bo T H dl ml h Z G S i i (λ_=>False)) ⟨N1 _,_,_,none,none,none,none,none,rfl,B0⟩ ?_ ?_⟩
  ·rintro i σ G hi ⟨_,Z,S,o4,o5,o6,o7,o8,rfl,B⟩
   have hi2:i<ns.length/\i<40:=by
    split at hi<;>lia
   have hSG:AD K G a (ns.map V.int):=(B.hz.trans B.lw.sz).seq hS
   k_go
   simp only [Int.zero_add]
   obtain ⟨v,hv⟩:∃ v,ns[i]?=some v:=⟨ns[i],Y1 hi2.1⟩
   refine ⟨a,_,(i:Nat),.int v,rfl,rfl,hSG,Au (by rw [J2,hv];rfl),v,i,rfl,by lia,λn n0 n1=>⟨n,rfl,?_,by kd_p,?_,n,rfl,λz G' hz sG=>?_⟩⟩
   ·exact ⟨by kd_p,by kd_p⟩
   ·exact ⟨by kd_p,by kd_p⟩
   have BG:=B.same sG
   have hz2:z∈Ri:=A4 _ hz
   have wz1:wz z<=1:=by unfold wz;split;exact P0 _;exact N1 _
   obtain ⟨b,hb⟩:∃ b:Bool,n / 71%3 / 2=((b.toNat:Nat):Int):=by
    have:n / 71%3 / 2=0\/n / 71%3 / 2=1:=by lia
    rcases this with e | e
    ·exact ⟨false,e⟩
    ·exact ⟨true,e⟩
   rw [hb]
   refine QO (f:=λb=>(S b).p) (BG.lw.sz _ _ BG.dlz) ⟨_,rfl,BG.step hz2 (by lia) λr G1 xs hl er em kk=>⟨_,.lst er,true,rfl,bF rfl (QO (f:=λb=>(S b).m) em (kk λr2 G2 Z2 S2 B2 e1 e2 n1 n2 n3 n0 _=>eqWs (B2.lw.sz _ _ e1) (B2.lw.sz _ _ e2) ⟨_,rfl,bF (by simp) ?_⟩))⟩⟩
   have g1:=B2.lw.sz _ _ e1
   refine ⟨.inl ⟨_,AD.of g1⟩,r,_,_,rfl,rfl,g1,Dq (by rw [J0];lia),?_⟩
   obtain ⟨ps0,p0,_⟩:=B2.hd
   have gh:(upd G2 r (.lst (xs.map V.str++[.str "none"]))) h=some (.lst ps0):=by rw [Ah n3.symm];exact B2.lw.sz _ _ p0
   refine ⟨.inl ⟨_,AD.of gh⟩,r,rfl,_,.inl (AD.of Ab),λc hc=>⟨by kd_p,λq hq=>?_⟩⟩
   obtain ⟨ps,p2,p3,Z',B'⟩:=B2.held (by rw [A3];rfl) e1 n1 n2 n3 n0 c hc q hq
   exact ⟨h,ps,_,rfl,rfl,p3,Dq (by lia),by lia,Z',S2,B'.up (by lia)⟩
  ·rintro σ G ⟨hi,Z,S,o4,o5,o6,o7,o8,rfl,B⟩
   k_go
   refine ⟨by kd_p,λp hp=>?_⟩
   have hB:∃ Z,Bo T H dl ml h Z (upd G p (.lst (LW9.map V.str))) S 40 40 (λ_=>False)/\Z p=some (.lst (LW9.map V.str)):=by
    have hi:(if (40:Int)<ns.length then (40:Int) else ns.length).toNat<=40:=hi
    obtain ⟨ps,p1,p2,p3⟩:=B.hd
    have B1:Bo T H dl ml h Z G S 40 40 (λ_=>False):=⟨B.lw.up hi,B.eq,B.hz,B.dlz,B.mlz,⟨ps,p1,C0 p2 hi,p3⟩,B.h0,B.nh⟩
    exact ⟨_,(B1.new hp).1,Ab⟩
   clear B hp
   obtain ⟨Z1,B1,hZp⟩:=hB
   refine (λq=>q:(∀ Gx,Bo T H dl ml h Z1 Gx S 40 40 (λ_=>False)->_)->_) (λGx Bx=>?_) _ B1
   refine ⟨_,rfl,by kd_p,by kd_p,LK (lo:=0) (n:=(2:Int).toNat) (λi σ G=>i<=2/\∃ Z S o4 o5 o6 o7 o8,σ=[some (.ref a),some (.ref dl),some (.ref ml),some (.ref h),o4,o5,o6,o7,o8,some (.ref p)]/\Bo T H dl ml h Z G S (40+5*i) 40 (λ_=>False)/\Z p=some (.lst (LW9.map V.str))) ⟨N1 _,Z1,S,o4,o5,o6,o7,o8,rfl,Bx,hZp⟩ ?_ ?_⟩
   ·rintro i σ G hi ⟨_,Z,S,o4,o5,o6,o7,o8,rfl,B,hZ⟩
    have hi:i<2:=hi
    refine ⟨by kd_p,λq hq=>⟨p,q,_,_,rfl,rfl,(Af.upd hq) _ _ (B.lw.sz _ _ hZ),Ab,(show 9+4<=sizeLine by kd_p),λr hr=>?_⟩⟩
    obtain ⟨B2,z2⟩:=B.new (o:=.lst [.str "rise 0",.str "begin",.str "step now",.str "book 0"]) hq
    obtain ⟨B3,z3⟩:=B2.new (o:=.lst (LWS.map V.str)) hr
    have hZp:=z3 _ _ (z2 _ _ hZ)
    have hZr:(upd (upd Z q (.lst [.str "rise 0",.str "begin",.str "step now",.str "book 0"])) r (.lst (LWS.map V.str))) r=some (.lst (LWS.map V.str)):=Ab
    generalize upd (upd Z q (.lst [.str "rise 0",.str "begin",.str "step now",.str "book 0"])) r (.lst (LWS.map V.str))=Z3 at B3 hZp hZr
    refine ⟨r,rfl,⟨_,AD.of (B3.lw.sz _ _ hZr)⟩,Fc (K:=K) (a:=r) (xs:=LWS.map V.str) (λj σ G=>j<=13/\∃ Z S o7,σ=[some (.ref a),some (.ref dl),some (.ref ml),some (.ref h),o4,o5,some (.int (0+i)),o7,o8,some (.ref p)]/\Bo T H dl ml h Z G S (40+5*i+OF j) 40 (λ_=>False)/\Z p=some (.lst (LW9.map V.str))/\Z r=some (.lst (LWS.map V.str))) ⟨N1 _,Z3,S,o7,rfl,B3,hZp,hZr⟩ ?_ ?_ ?_⟩
    ·rintro j σ G _ ⟨_,Z,S,o7,rfl,B,_,hZr⟩
     exact AD.of (B.lw.sz _ _ hZr)
    ·rintro j v σ G hx ⟨_,Z,S,o7,rfl,B,hZp,hZr⟩
     rw [J2] at hx
     obtain ⟨z,hz,rfl⟩:=W2.mp hx
     have hj:j<13:=(Q1.mp hz).1
     have hz2:z∈Ri:=Z0 _ (j0 hz)
     have hw:=Qg (j:=j) (by lia)
     have hs:=wsum_s hz
     k_go
     obtain ⟨b,hb⟩:∃ b:Bool,(0:Int)+i=((b.toNat:Nat):Int):=by
      have:i=0\/i=1:=by lia
      rcases this with e | e
      ·exact ⟨false,by rw [e];rfl⟩
      ·exact ⟨true,by rw [e];rfl⟩
     rw [hb]
     refine QO (f:=λb=>(S b).p) (B.lw.sz _ _ B.dlz) ⟨_,rfl,B.step hz2 (by lia) λr1 G1 xs hl er em kk=>QO (f:=λb=>(S b).m) em (kk λr2 G2 Z2 S2 B2 e1 e2 n1 n2 n3 n0 zz=>eqWs (B2.lw.sz _ _ e1) (B2.lw.sz _ _ e2) ⟨_,rfl,bF (by simp) ?_⟩)⟩
     exact ⟨by lia,Z2,S2,by rw [hs,<- Nat.add_assoc];exact B2.wk,zz _ _ hZp,zz _ _ hZr⟩
    ·rintro σ G ⟨_,Z,S,o7,rfl,B,hZp,hZr⟩
     have B:Bo T H dl ml h Z G S (40+5*i+OF 13) 40 (λ_=>False):=B
     have hw:=Qg (j:=13) (by lia)
     exact ⟨by lia,Z,S,_,_,_,_,_,rfl,B.up (by lia),hZp⟩
   ·rintro σ G ⟨_,Z,S,o4,o5,o6,o7,o8,rfl,B,_⟩
    obtain ⟨ps,e1,e2⟩:=B.fin
    k_go
    exact ⟨h,ps,rfl,e1,e2,k _⟩
theorem law_fn {l:g8} {h:Heap} {fa:Addr} (X:K.In h) (G:h.Ns mainGlobals mg) (hfa:mg "law"=some (.ref fa))
  (nG:InK K "is_letters" (top 14))
  (nI:InK K "is_name" (top 15))
  (nJ:InK K "is_told_word" (top 16))
  (nK:InK K "is_value" (top 17))
  (nM:InK K "is_block_word" (top 18))
  (nN:InK K "number_of" (top 28))
  (nO:InK K "bounded" (top 29))
  (nQ:InK K "value_of" (top 30))
  (nR:InK K "field_of" (top 31))
  (nS:InK K "fitted" (top 32))
  (nU:InK K "first_fit" (top 33))
  (nV:InK K "row_of" (top 34))
  (nW:InK K "read" (top 37))
  (nY:InK K "parts" (top 19))
  (nZ:InK K "walk" (top 20))
  (n9:InK K "each_row" (top 53))
  (oa:InK K "each_begin" (top 54))
  (og:InK K "added" (top 55))
  (oh:InK K "counted" (top 56))
  (oi:InK K "of_last" (top 57))
  (oj:InK K "weight" (top 58))
  (om:InK K "begun" (top 59))
  (oo:InK K "spot_within" (top 68))
  (or:InK K "spots_in" (top 69))
  (ou:InK K "spots_of" (top 70))
  (ow:InK K "is_bad_group" (top 72))
  (oy:InK K "is_bad_label" (top 73))
  (oB:InK K "is_bad_off" (top 74))
  (oE:InK K "wrong_word" (top 75))
  (oF:InK K "look_at_counts" (top 76))
  (oG:InK K "look_at_errand" (top 77))
  (oH:InK K "look_at_bounds" (top 78))
  (oJ:InK K "look" (top 79))
  (oK:InK K "faults_of_word" (top 50))
  (mx:InK K "is_event_deed" (top 119))
  (my:InK K "does_row" (top 121))
  (oM:InK K "row_text" (top 48))
  (oO:InK K "outcome_text" (top 43))
  (oP:InK K "deed_text" (top 45))
  (oQ:InK K "told_value_of" (top 49))
  (oR:InK K "field_at" (top 51))
  (mz:InK K "might_of" (top 106))
  (mB:InK K "with_begun" (top 112))
  (mC:InK K "reach_of" (top 113))
  (mD:InK K "events_told" (top 120))
  (mE:InKE K "risen" (top 122))
  (mF:InK K "state_text" (top 127))
  (mG:InK K "_law_held" (top 130))
  (mH:InK K "_law_mixed" (top 131))
  (mI:InK K "_law_row" (top 132))
  (mJ:InK K "_law_number" (top 133))
  (mK:InK K "_law_event" (top 134))
  (mL:InK K "_law_begun" (top 135))
  (mM:InK K "_law_due" (top 136))
  (mO:InK K "law" (top 137))
  {ae:Addr} (gX:InC K "Unended" ae)
  (fE:G0 K (.ref ae) "head"=some none)
  (fF:G0 K (.ref ae) "rows"=some none)
  (dM:G0 K (.ref ae) "turned"=some none)
  (bY:G0 K (.ref ae) "turn_fields"=some none)
  (dO:G0 K (.ref ae) "others"=some none)
  (bD:InM K ae "__init__" "Unended.__init__" (Ag (top 35) 0))
  (gg:InM K ae "put" "Unended.put" (Ag (top 35) 1))
  (cR:InM K ae "may_turn" "Unended.may_turn" (Ag (top 35) 2))
  (fG:InM K ae "turn" "Unended.turn" (Ag (top 35) 3))
  (dw:InM K ae "may_end" "Unended.may_end" (Ag (top 35) 4))
  (eN:InM K ae "whole" "Unended.whole" (Ag (top 35) 5))
  {al:Addr} (gY:InC K "Reading" al)
  (dA:G0 K (.ref al) "program"=some none)
  (dB:G0 K (.ref al) "unended"=some none)
  (bE:InM K al "__init__" "Reading.__init__" (Ag (top 36) 0))
  (dP:InM K al "allows" "Reading.allows" (Ag (top 36) 1))
  (cS:InM K al "put_line" "Reading.put_line" (Ag (top 36) 2))
  (bC:InM K al "end_innermost" "Reading.end_innermost" (Ag (top 36) 3))
  (cT:InM K al "is_whole" "Reading.is_whole" (Ag (top 36) 4))
  {am:Addr} (jZ:InC K "Spot" am)
  (im:G0 K (.ref am) "deep"=some none)
  (fH:G0 K (.ref am) "in_last"=some none)
  (cI:G0 K (.ref am) "groups_round"=some none)
  (fJ:G0 K (.ref am) "closing"=some none)
  (cP:InM K am "__init__" "Spot.__init__" (Ag (top 67) 0))
  {aj:Addr} (iF:InC K "Naming" aj)
  (fK:G0 K (.ref aj) "ahead"=some none)
  (eQ:G0 K (.ref aj) "labels"=some none)
  (cr:G0 K (.ref aj) "group_names"=some none)
  (bZ:InM K aj "__init__" "Naming.__init__" (Ag (top 71) 0))
  {dq:Addr} (jm:InC K "Lines" dq)
  (fL:G0 K (.ref dq) "places"=some none)
  (cB:InM K dq "__init__" "Lines.__init__" (Ag (top 81) 0))
  {du:Addr} (jo:InC K "Bells" du)
  (fM:G0 K (.ref du) "places"=some none)
  (cD:InM K du "__init__" "Lines.__init__" (Ag (top 81) 0))
  {cz:Addr} (jp:InC K "Boxes" cz)
  (fN:G0 K (.ref cz) "takers"=some none)
  (gB:G0 K (.ref cz) "mail"=some none)
  (cE:InM K cz "__init__" "Boxes.__init__" (Ag (top 85) 0))
  {aN:Addr} (jq:InC K "Clock" aN)
  (gC:G0 K (.ref aN) "tick"=some none)
  (dQ:G0 K (.ref aN) "standing"=some none)
  (cF:InM K aN "__init__" "Clock.__init__" (Ag (top 87) 0))
  (io:InM K aN "now" "Clock.now" (Ag (top 87) 1))
  {aB:Addr} (iG:InC K "Groups" aB)
  (eR:G0 K (.ref aB) "opened"=some none)
  (dR:G0 K (.ref aB) "members"=some none)
  (cu:G0 K (.ref aB) "opened_ever"=some none)
  (dD:G0 K (.ref aB) "put_ever"=some none)
  (ca:InM K aB "__init__" "Groups.__init__" (Ag (top 91) 0))
  {aA:Addr} (iP:InC K "Frame" aA)
  (gE:G0 K (.ref aA) "rows"=some none)
  (gF:G0 K (.ref aA) "line"=some none)
  (gi:G0 K (.ref aA) "scope"=some none)
  (cU:G0 K (.ref aA) "begun_rows"=some none)
  (gj:G0 K (.ref aA) "named"=some none)
  (gG:G0 K (.ref aA) "held"=some none)
  (dS:InMD K aA "__init__" "Frame.__init__" (Ag (top 97) 0))
  {ad:Addr} (gZ:InC K "Machine" ad)
  (dU:G0 K (.ref ad) "frames"=some none)
  (cv:G0 K (.ref ad) "last_scope"=some none)
  (bU:G0 K (.ref ad) "named_values"=some none)
  (eS:G0 K (.ref ad) "given"=some none)
  (eT:G0 K (.ref ad) "marks"=some none)
  (dX:G0 K (.ref ad) "signal"=some none)
  (dY:G0 K (.ref ad) "struck"=some none)
  (fO:G0 K (.ref ad) "want"=some none)
  (dZ:G0 K (.ref ad) "ending"=some none)
  (bG:InM K ad "__init__" "Machine.__init__" (Ag (top 108) 0))
  (dE:InM K ad "waiting" "Machine.waiting" (Ag (top 108) 1))
  (dF:InM K ad "outcome" "Machine.outcome" (Ag (top 108) 2))
  {ac:Addr} (iQ:InC K "Night" ac)
  (cJ:G0 K (.ref ac) "errand_rows"=some none)
  (gk:G0 K (.ref ac) "reach"=some none)
  (fP:G0 K (.ref ac) "coming"=some none)
  (cV:G0 K (.ref ac) "picks_left"=some none)
  (gl:G0 K (.ref ac) "clock"=some none)
  (gn:G0 K (.ref ac) "bells"=some none)
  (gp:G0 K (.ref ac) "boxes"=some none)
  (fQ:G0 K (.ref ac) "groups"=some none)
  (gq:G0 K (.ref ac) "names"=some none)
  (d9:G0 K (.ref ac) "machines"=some none)
  (gt:G0 K (.ref ac) "asked"=some none)
  (gu:G0 K (.ref ac) "queue"=some none)
  (gv:G0 K (.ref ac) "pages"=some none)
  (fR:G0 K (.ref ac) "marked"=some none)
  (gw:G0 K (.ref ac) "woken"=some none)
  (ee:InME K ac "__init__" "Night.__init__" (Ag (top 115) 0))
  (ip:InM K ac "now" "Night.now" (Ag (top 115) 3))
  (gH:InM K ac "book" "Night.book" (Ag (top 115) 4))
  (eU:InM K ac "errands" "Night.errands" (Ag (top 115) 6))
  (eV:InM K ac "waiting" "Night.waiting" (Ag (top 115) 7))
  (eW:InM K ac "outcome" "Night.outcome" (Ag (top 115) 8))
  (cX:InM K ac "machine_at" "Night.machine_at" (Ag (top 115) 11))
  (cY:InM K ac "new_errand" "Night.new_errand" (Ag (top 115) 27))
  (cZ:InM K ac "come_ready" "Night.come_ready" (Ag (top 115) 28))
  (gI:InM K ac "step" "Night.step" (Ag (top 115) 14))
  (ir:InM K ac "run" "Night.run" (Ag (top 115) 15))
  (gJ:InM K ac "knot" "Night.knot" (Ag (top 115) 10))
  {af:Addr} (j9:InC K "Desk" af)
  (dG:G0 K (.ref af) "told_lines"=some none)
  (c9:G0 K (.ref af) "told_events"=some none)
  (dH:G0 K (.ref af) "told_picks"=some none)
  (fS:G0 K (.ref af) "program"=some none)
  (gK:G0 K (.ref af) "night"=some none)
  (cQ:InM K af "__init__" "Desk.__init__" (Ag (top 128) 0))
  (iH:InM K af "say" "Desk.say" (Ag (top 128) 1))
  (cK:InM K af "answer_ahead" "Desk.answer_ahead" (Ag (top 128) 2))
  (eX:InM K af "put_text" "Desk.put_text" (Ag (top 128) 3))
  (eY:InM K af "put_pick" "Desk.put_pick" (Ag (top 128) 4))
  (eh:InM K af "put_event" "Desk.put_event" (Ag (top 128) 5))
  (da:InM K af "begin_night" "Desk.begin_night" (Ag (top 128) 6))
  (cy:InM K af "answer_behind" "Desk.answer_behind" (Ag (top 128) 7))
  (cb:InM K af "answer_counted" "Desk.answer_counted" (Ag (top 128) 8))
  (eA:InM K af "who_lines" "Desk.who_lines" (Ag (top 128) 9))
  (dI:InM K af "knot_lines" "Desk.knot_lines" (Ag (top 128) 10))
  (eB:InM K af "rise_from" "Desk.rise_from" (Ag (top 128) 11))
  (ikwa:InT K "KEY_WORDS" MX)
  
  
  (ifma:InT K "FORMS" FORMS)
  
  
  (itwa:InT K "TURN_WORDS" TWS)
  
  
  {mlt:Tok} (imlt:A1 K mainGlobals "MOST_LETTERS"=some (some (.int 8 mlt)))
  
  {mvt:Tok} (imvt:A1 K mainGlobals "MOST_VALUE"=some (some (.int 999999 mvt)))
  
  {mft:Tok} (imft:A1 K mainGlobals "MOST_FIGURES"=some (some (.int 6 mft)))
  
  {mdt:Tok} (imdt:A1 K mainGlobals "MOST_DEEP_reader"=some (some (.int 20 mdt)))
  
  (igra:InGR w K)
  
  
  (itua:InTU w K)
  
  
  {il:Addr} (iJ:A1 K mainGlobals "BadClock"=some (some (.ref il)))
  {fV:Addr} (gL:A1 K mainGlobals "NotWaiting"=some (some (.ref fV)))
  {kI:Addr} (kK:A1 K mainGlobals "Over"=some (some (.ref kI)))
  {aa:Addr} (eZ:A1 K mainGlobals "BadProgram"=some (some (.ref aa)))
  {iO:Addr} (je:A1 K mainGlobals "BadBook"=some (some (.ref iO)))
  {bX:Addr} (de:A1 K mainGlobals "WatchError"=some (some (.ref bX))) (qx_WatchError:N6 K bX [.type "ValueError",.type "Exception",.type "BaseException",.type "object"] "ValueError.__new__"=true)
  {ag:Addr} (iR:A1 K mainGlobals "BadRow"=some (some (.ref ag)))
  {f_BadRow:Addr} (jC:InM K ag "__init__" "BadRow.__init__" (Ag (top 6) 0)) (jD:G0 K (.ref ag) "__init__"=some (some (.ref f_BadRow))) (g9:excInI K ag f_BadRow=true) (iS:K4 K ag (.type "object")=some true) (jE:G0 K (.ref ag) "__setattr__"=some (some (.builtin "object.__setattr__"))) (eJ:T4 K ag=true) (jF:T2 K (.ref ag)=true) (cH:Q4 K ag "line"=some none) (bS:G0 K (.ref ag) "line"=some none)
  
  
  
  (icwa:InT K "CLEAN_WORDS" MY)
  
  
  {met:Tok} (imet:A1 K mainGlobals "MOST_ERRANDS"=some (some (.int 12 met)))
  
  {mrt:Tok} (imrt:A1 K mainGlobals "MOST_ROWS"=some (some (.int 200 mrt)))
  
  {mdlt:Tok} (imdlt:A1 K mainGlobals "MOST_DEEP_looker"=some (some (.int 6 mdlt)))
  
  {mwt:Tok} (imwt:A1 K mainGlobals "MOST_WEIGHT"=some (some (.int 300 mwt)))
  
  {mbt:Tok} (imbt:A1 K mainGlobals "MOST_BEGUN"=some (some (.int 30 mbt)))
  
  {f_BadProgram:Addr} (gN:InM K aa "__init__" "BadProgram.__init__" (Ag (top 7) 0)) (gO:G0 K (.ref aa) "__init__"=some (some (.ref f_BadProgram))) (dg:excInI K aa f_BadProgram=true) (fg:K4 K aa (.type "object")=some true) (gP:G0 K (.ref aa) "__setattr__"=some (some (.builtin "object.__setattr__"))) (aF:T4 K aa=true) (gQ:T2 K (.ref aa)=true) (bg:Q4 K aa "line"=some none) (aD:G0 K (.ref aa) "line"=some none) (bj:Q4 K aa "word"=some none) (aE:G0 K (.ref aa) "word"=some none)
  
  
  {cdP:ClassData} (mP:p8 K aa=some cdP) (mQ:K4 K aa (.type "BaseException")=some true) (mR:G0 K (.ref aa) "__getattribute__"=some (some (.builtin L2.gaE))) (mS:G0 K (.ref aa) "__getattr__"=some none) (mT:K4 K aa (.ref aa)=some true)
  
  (iPP:InPPL w K)
  
  
  
  
  
  (ibd:InBD w K)
  
  
  
  
  
  {nto:Tok} (into:A1 K mainGlobals "NONE"=some (some (.str "-" nto)))
  
  {nut:Tok} (inut:A1 K mainGlobals "NOT_UNDERSTOOD"=some (some (.str "not understood" nut)))
  
  (ieva:InT K "EVENT_FORMS" EVS)
  
  
  {cdR:ClassData} (mU:p8 K ag=some cdR) (mV:K4 K ag (.type "BaseException")=some true) (mW:G0 K (.ref ag) "__getattribute__"=some (some (.builtin L2.gaE))) (mX:G0 K (.ref ag) "__getattr__"=some none) (mY:K4 K ag (.ref ag)=some true) (mZ:K4 K aa (.ref ag)=some false)
  
  
  (lE:A1 K mainGlobals "len"=some none)
  (iu:A1 K mainGlobals "isinstance"=some none)
  (kQ:A1 K mainGlobals "list"=some none)
  (kL:A1 K mainGlobals "tuple"=some none)
  (lF:A1 K mainGlobals "int"=some none)
  (kM:A1 K mainGlobals "range"=some none)
  (iK:A1 K mainGlobals "enumerate"=some none)
  (lJ:A1 K mainGlobals "str"=some none)
  (kR:A1 K mainGlobals "bool"=some none)
  (lK:A1 K mainGlobals "all"=some none)
  (lL:A1 K mainGlobals "zip"=some none)
  (iw:A1 K mainGlobals "ValueError"=some none)
  (lM:A1 K mainGlobals "sum"=some none)
  (ke:A1 K mainGlobals "sorted"=some none)
  (lN:A1 K mainGlobals "set"=some none)
  (kT:A1 K mainGlobals "dict"=some none)
  (lP:A1 K mainGlobals "min"=some none)
  : ∃ fd:FuncData,(∀ (s:Shared) (v:Value),BindsTo s fd ⟨[v],[]⟩ [("_law_script",v)])/\∀ base:Heap,K.In base->base.Ns mainGlobals mg->AS l.prog w K mg base CX0 41 fa fd ["_law_script"] (spLaw K):=by
 obtain ⟨d122⟩:=mE.def (ps:=["program", "rows", "events", "picks"]) X G λ_ _ _ _ _ _ _ us hl=>lx4 hl (λ_ _ _ _=>⟨_,rfl,rfl⟩)
 obtain ⟨e_Frame___init__⟩:=dS.def (ps:=["self", "rows", "line", "scope"]) (λ_ _ _ _ _ _ _ us hl=>lx4 hl (λ_ _ _ _=>⟨_,rfl,rfl⟩)) (λ_ _ _ _ _ _ _ us hl=>lx3 (j8.inj hl) (λ_ _ _=>⟨_,rfl,rfl⟩))
 obtain ⟨e_Night___init__⟩:=ee.def (ps:=["self", "program", "events", "picks"]) (λ_ _ _ _ _ _ _ us hl=>lx4 hl (λ_ _ _ _=>⟨_,rfl,rfl⟩))
 obtain ⟨p1,dd1,its1,n1,sl1,aK1,lK1,hsz1,hst1⟩:=ikwa.ex
 obtain ⟨p2,dd2,its2,n2,sl2,aK2,lK2,hsz2,hst2⟩:=ifma.ex
 obtain ⟨p3,dd3,its3,n3,sl3,aK3,lK3,hsz3,hst3⟩:=itwa.ex
 obtain ⟨ga,gm,gd⟩:=igra.get (P:=l.prog) X G
 obtain ⟨tu,tm,td⟩:=itua.get (P:=l.prog) X G
 obtain ⟨pp,pkv,ppm,pd,pv⟩:=iPP.get (P:=l.prog) X G
 obtain ⟨e_BadRow⟩:=jC.def (ps:=["self", "line"]) λ_ _ _ _ _ _ us hl=>lx2 hl (λ_ _=>rfl)
 have ef_BadRow:e_BadRow.f=f_BadRow:=by
  have q:=e_BadRow.me.at_.symm.trans jD
  cases q
  rfl
 obtain ⟨p4,dd4,its4,n4,sl4,aK4,lK4,hsz4,hst4⟩:=icwa.ex
 obtain ⟨e_BadProgram⟩:=gN.def (ps:=["self", "line", "word"]) λ_ _ _ _ _ _ us hl=>lx3 hl (λ_ _ _=>rfl)
 have ef_BadProgram:e_BadProgram.f=f_BadProgram:=by
  have q:=e_BadProgram.me.at_.symm.trans gO
  cases q
  rfl
 obtain ⟨ba5,bkv5,bm5,bd5,bn5,bo5⟩:=ibd.get (P:=l.prog) X G
 obtain ⟨p5,dd5,its5,n5,sl5,aK5,lK5,hsz5,hst5⟩:=ieva.ex
 obtain ⟨f,oc,od,kV,doc,pm,an,cdv,ct,osl,a,lk,c,kp⟩:=mO.ex
 have F:=Pw (x:="law") (qual:="law") (st:=top 137) lk c kp
 have e:=hfa.symm.trans (g0 X G a)
 cases e
 have T:Tx l.prog w K mg:=⟨nG.dn X G,nI.dn X G,nJ.dn X G,nK.dn X G,nM.dn X G,nN.dn X G,nO.dn X G,nQ.dn X G,nR.dn X G,nS.dn X G,nU.dn X G,nV.dn X G,nW.dn X G,nY.dn X G,nZ.dn X G,n9.dn X G,oa.dn X G,og.dn X G,oh.dn X G,oi.dn X G,oj.dn X G,om.dn X G,oo.dn X G,or.dn X G,ou.dn X G,ow.dn X G,oy.dn X G,oB.dn X G,oE.dn X G,oF.dn X G,oG.dn X G,oH.dn X G,oJ.dn X G,oK.dn X G,mx.dn X G,my.dn X G,oM.dn X G,oO.dn X G,oP.dn X G,oQ.dn X G,oR.dn X G,mz.dn X G,mB.dn X G,mC.dn X G,mD.dn X G,d122,mF.dn X G,mG.dn X G,mH.dn X G,mI.dn X G,mJ.dn X G,mK.dn X G,mL.dn X G,mM.dn X G,ae,gX.cls,g0 X G gX.a,fE,fF,dM,bY,dO,bD.dn,gg.dn,cR.dn,fG.dn,dw.dn,eN.dn,gX.mkOf bD.dn,al,gY.cls,g0 X G gY.a,dA,dB,bE.dn,dP.dn,cS.dn,bC.dn,cT.dn,gY.mkOf bE.dn,am,jZ.cls,g0 X G jZ.a,im,fH,cI,fJ,cP.dn,jZ.mkOf cP.dn,aj,iF.cls,g0 X G iF.a,fK,eQ,cr,bZ.dn,iF.mkOf bZ.dn,dq,jm.cls,g0 X G jm.a,fL,cB.dn,jm.mkOf cB.dn,du,jo.cls,g0 X G jo.a,fM,cD.dn,jo.mkOf cD.dn,cz,jp.cls,g0 X G jp.a,fN,gB,cE.dn,jp.mkOf cE.dn,aN,jq.cls,g0 X G jq.a,gC,dQ,cF.dn,io.dn,jq.mkOf cF.dn,aB,iG.cls,g0 X G iG.a,eR,dR,cu,dD,ca.dn,iG.mkOf ca.dn,aA,iP.cls,g0 X G iP.a,gE,gF,gi,cU,gj,gG,e_Frame___init__,⟨iP.mak,e_Frame___init__.me.at_,e_Frame___init__.me.fn,iP.kp⟩,ad,gZ.cls,g0 X G gZ.a,dU,cv,bU,eS,eT,dX,dY,fO,dZ,bG.dn,dE.dn,dF.dn,gZ.mkOf bG.dn,ac,iQ.cls,g0 X G iQ.a,cJ,gk,fP,cV,gl,gn,gp,fQ,gq,d9,gt,gu,gv,fR,gw,e_Night___init__,ip.dn,gH.dn,eU.dn,eV.dn,eW.dn,cX.dn,cY.dn,cZ.dn,gI.dn,ir.dn,gJ.dn,⟨iQ.mak,e_Night___init__.me.at_,e_Night___init__.me.fn,iQ.kp⟩,af,j9.cls,g0 X G j9.a,dG,c9,dH,fS,gK,cQ.dn,iH.dn,cK.dn,eX.dn,eY.dn,eh.dn,da.dn,cy.dn,cb.dn,eA.dn,dI.dn,eB.dn,j9.mkOf cQ.dn,p1,g0 X G aK1,λH=>.inr ⟨_,its1,n1,lK1,rfl,rfl,hsz1,Dx hst1⟩,p2,g0 X G aK2,λH=>.inr ⟨_,its2,n2,lK2,rfl,rfl,hsz2,Dx hst2⟩,p3,g0 X G aK3,λH=>.inr ⟨_,its3,n3,lK3,rfl,rfl,hsz3,Dx hst3⟩,mlt,(g0 X G imlt),mvt,(g0 X G imvt),mft,(g0 X G imft),mdt,(g0 X G imdt),ga,gm,gd,tu,tm,td,il,g0 X G iJ,fV,g0 X G gL,kI,g0 X G kK,aa,g0 X G eZ,iO,g0 X G je,bX,⟨g0 X G de,qx_WatchError⟩,g0 X G de,ag,g0 X G iR,e_BadRow,⟨⟨by rw [ef_BadRow];exact g9,⟨iS,jE,eJ⟩⟩,e_BadRow.me.fn,jF⟩,cH,bS,eJ,⟨g0 X G iR,.inr ⟨f_BadRow,g9⟩⟩,.inr ⟨f_BadRow,g9⟩,⟨g0 X G de,.inl qx_WatchError⟩,p4,g0 X G aK4,λH=>.inr ⟨_,its4,n4,lK4,rfl,rfl,hsz4,Dx hst4⟩,met,(g0 X G imet),mrt,(g0 X G imrt),mdlt,(g0 X G imdlt),mwt,(g0 X G imwt),mbt,(g0 X G imbt),e_BadProgram,⟨⟨by rw [ef_BadProgram];exact dg,⟨fg,gP,aF⟩⟩,e_BadProgram.me.fn,gQ⟩,bg,aD,bj,aE,aF,⟨g0 X G eZ,.inr ⟨f_BadProgram,dg⟩⟩,.inr ⟨f_BadProgram,dg⟩,⟨by rw [mP];rfl,mQ,fg,mR,mS⟩,mT,pp,ppm,pkv,pd,pv,⟨pkv,pd,ppk_of pv⟩,ba5,bm5,bkv5,bd5,bn5,bo5,nto,(g0 X G into),nut,(g0 X G inut),p5,g0 X G aK5,λH=>.inr ⟨_,its5,n5,lK5,rfl,rfl,hsz5,Dx hst5⟩,⟨by rw [mU];rfl,mV,iS,mW,mX⟩,mY,mZ,J3 X G lE,J3 X G iu,J3 X G kQ,J3 X G kL,J3 X G lF,J3 X G kM,J3 X G iK,J3 X G lJ,J3 X G kR,J3 X G lK,J3 X G lL,J3 X G iw,J3 X G lM,J3 X G ke,J3 X G lN,J3 X G kT,J3 X G lP⟩
 refine ⟨V2 "law" "law" (AZ (top 137)) (AT (top 137)) (At (top 137)) .none kV doc pm an cdv ct,λs v=>.of_eq rfl,λbase _ _=>?_⟩
 exact ok_law T F

end
end K90
end
end
open PySem PySem.W PyProof.Rows
set_option maxRecDepth 100000 in
set_option maxHeartbeats 0 in
theorem PySem.Challenge.cw_nightwatch_k90_desk_rows_holds : PySem.Challenge.rw_nightwatch_k90_desk_rows.Holds := by
 refine HK.A ?_
 k_fill
 refine L2.walk_ofK (l:=PySem.Challenge.rw_nightwatch_k90_desk_rows) (n:=63) (k:=41) (x:="_law_script") (CX:=L2.CX0) (sp:=K90.spLaw) rfl (by decide) rfl ⟨rfl,by decide,by decide⟩ (λ_ _ Y=>Y) ?F (λ_ _ a n l _ S=>⟨a,n,rfl,S,l,λ_=>rfl⟩) (λ_ _ _ _ z=>z)
 case F=>
  intro w mg fa h KX G hmg
  refine' K90.law_fn KX G hmg ?nG ?nI ?nJ ?nK ?nM ?nN ?nO ?nQ ?nR ?nS ?nU ?nV ?nW ?nY ?nZ ?n9 ?oa ?og ?oh ?oi ?oj ?om ?oo ?or ?ou ?ow ?oy ?oB ?oE ?oF ?oG ?oH ?oJ ?oK ?mx ?my ?oM ?oO ?oP ?oQ ?oR ?mz ?mB ?mC ?mD ?mE ?mF ?mG ?mH ?mI ?mJ ?mK ?mL ?mM ?mO ?gX ?fE ?fF ?dM ?bY ?dO ?bD ?gg ?cR ?fG ?dw ?eN ?gY ?dA ?dB ?bE ?dP ?cS ?bC ?cT ?jZ ?im ?fH ?cI ?fJ ?cP ?iF ?fK ?eQ ?cr ?bZ ?jm ?fL ?cB ?jo ?fM ?cD ?jp ?fN ?gB ?cE ?jq ?gC ?dQ ?cF ?io ?iG ?eR ?dR ?cu ?dD ?ca ?iP ?gE ?gF ?gi ?cU ?gj ?gG ?dS ?gZ ?dU ?cv ?bU ?eS ?eT ?dX ?dY ?fO ?dZ ?bG ?dE ?dF ?iQ ?cJ ?gk ?fP ?cV ?gl ?gn ?gp ?fQ ?gq ?d9 ?gt ?gu ?gv ?fR ?gw ?ee ?ip ?gH ?eU ?eV ?eW ?cX ?cY ?cZ ?gI ?ir ?gJ ?j9 ?dG ?c9 ?dH ?fS ?gK ?cQ ?iH ?cK ?eX ?eY ?eh ?da ?cy ?cb ?eA ?dI ?eB ?ikwa ?ifma ?itwa ?imlt ?imvt ?imft ?imdt ?igra ?itua ?iJ ?gL ?kK ?eZ ?je ?de ?qx_WatchError ?iR ?jC ?jD ?g9 ?iS ?jE ?eJ ?jF ?cH ?bS ?icwa ?imet ?imrt ?imdlt ?imwt ?imbt ?gN ?gO ?dg ?fg ?gP ?aF ?gQ ?bg ?aD ?bj ?aE ?mP ?mQ ?mR ?mS ?mT ?iPP ?ibd ?into ?inut ?ieva ?mU ?mV ?mW ?mX ?mY ?mZ ?lE ?iu ?kQ ?kL ?lF ?kM ?iK ?lJ ?kR ?lK ?lL ?iw ?lM ?ke ?lN ?kT ?lP
  case nG|nI|nJ|nK|nM|nN|nO|nQ|nR|nS|nU|nV|nW|nY|nZ|n9|oa|og|oh|oi|oj|om|oo|or|ou|ow|oy|oB|oE|oF|oG|oH|oJ|oK|mx|my|oM|oO|oP|oQ|oR|mz|mB|mC|mD|mF|mG|mH|mI|mJ|mK|mL|mM|mO=>
   refine' L2.InK.of ?a ?l ?c ?k
   case a|l|c|k=>k_is
  case gX|gY|jZ|iF|jm|jo|jp|jq|iG|iP|gZ|iQ|j9=>
   refine' L2.InC.mk ?a ?b ?c ?d ?e ?f ?g
   case a|b|c|d|e|f|g=>k_is
  case fE|fF|dM|bY|dO|dA|dB|im|fH|cI|fJ|fK|eQ|cr|fL|fM|fN|gB|gC|dQ|eR|dR|cu|dD|gE|gF|gi|cU|gj|gG|dU|cv|bU|eS|eT|dX|dY|fO|dZ|cJ|gk|fP|cV|gl|gn|gp|fQ|gq|d9|gt|gu|gv|fR|gw|dG|c9|dH|fS|gK|imlt|imvt|imft|imdt|iJ|gL|kK|eZ|je|de|iR|jD|iS|jE|eJ|jF|cH|bS|imet|imrt|imdlt|imwt|imbt|gO|fg|gP|aF|gQ|bg|aD|bj|aE|mP|mQ|mR|mS|mT|into|inut|mU|mV|mW|mX|mY|mZ=>k_is
  case mE=>
   refine' L2.InKE.of ?a ?l ?c ?k ?d
   case a|l|c|k|d=>k_is
  case bD|gg|cR|fG|dw|eN|bE|dP|cS|bC|cT|cP|bZ|cB|cD|cE|cF|io|ca|bG|dE|dF|ip|gH|eU|eV|eW|cX|cY|cZ|gI|ir|gJ|cQ|iH|cK|eX|eY|eh|da|cy|cb|eA|dI|eB|jC|gN=>
   refine' L2.InM.of ?a ?i ?l ?c ?k
   case a|i|l|c|k=>k_is
  case dS=>
   refine' L2.InMD.of ?a ?i ?l ?c ?k ?d ?ga ?rd ?fi
   case a|i|l|c|k|d|ga|rd|fi=>k_is
  case ee=>
   refine' L2.InME.of ?a ?i ?l ?c ?k ?d
   case a|i|l|c|k|d=>k_is
  case ikwa|ifma|itwa|icwa|ieva=>
   refine' L2.InT.of ?a ?l ?s ?v
   case a|l=>k_is
   case s=>decide
   case v=>decide +kernel
  case igra=>
   refine' K90.InGR.of ?a ?l ?s
   case a|l=>k_is
   case s=>decide
  case itua=>
   refine' K90.InTU.of ?a ?l ?s
   case a|l=>k_is
   case s=>decide
  case qx_WatchError=>k_exc
  case g9=>
   refine' L2.excInI_of (nid:="ValueError.__new__") ?z1 ?z2 ?z3 ?z4 ?z5 ?z6 ?z7 ?z8 ?z9 ?z10 ?z11
   case z1=>k_is
   case z2|z3|z4=>rfl
   case z5=>k_is
   case z6=>rfl
   case z7=>delta L2.BMV;k_exc
   case z8=>rfl
   case z9=>k_is
   case z10=>rfl
   case z11=>k_is
  case dg=>
   refine' L2.excInI_of (nid:="ValueError.__new__") ?z1 ?z2 ?z3 ?z4 ?z5 ?z6 ?z7 ?z8 ?z9 ?z10 ?z11
   case z1=>k_is
   case z2|z3|z4=>rfl
   case z5=>k_is
   case z6=>rfl
   case z7=>delta L2.BMV;k_exc
   case z8=>rfl
   case z9=>k_is
   case z10=>rfl
   case z11=>k_is
  case iPP=>
   refine' K90.InPPL.of ?a ?l ?s ?q1 ?q2 ?q3 ?q4 ?q5 ?q6 ?q7
   case a|l=>k_is
   case s=>decide
   case q1|q2|q3|q4|q5|q6|q7=>
    refine' K90.InI.of ?l ?s ?v
    case l=>k_is
    case s=>decide
    case v=>decide +kernel
  case ibd=>
   refine' K90.InBD.of ?a ?l ?s ?q5
   case a|l=>k_is
   case s=>decide
   case q5=>
    refine' K90.InI.of ?l ?s ?v
    case l=>k_is
    case s=>decide
    case v=>decide +kernel
  case lE|iu|kQ|kL|lF|kM|iK|lJ|kR|lK|lL|iw|lM|ke|lN|kT|lP=>k_is

