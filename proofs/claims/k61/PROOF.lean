import PyProof.Rows.All
import Wide.All
import OpenK.AllK
import Wide.FinOn
import Lean
import PyProof.EqAt
import PyProof.EqKinds
import PyProof.NeKinds
import PyProof.TupleCall
import KE.KPairComp
import KE.KSortTup
import KE.KIsAll
import PyProof.ExcAttrAll.ValueError
import PyProof.AttrMissHeap
import KE.RegKIsAll
import PySem.Challenge.RW_nightwatch_k61_refused
set_option Elab.async false
set_option linter.all false
set_option genSizeOf false
set_option maxRecDepth 100000
namespace L2
open PySem PySem.Spec PyProof.Rows

abbrev Key:=Sum Int Str
def Zfd:Key->Value->Bool
 |.inl k,v=>Value.isInt k v
 |.inr x,v=>Value.isStrOf x v
def keyH (w:World):Key->Int
 |.inl k=>hashInt k
 |.inr x=>hashStr w x
theorem ZaP:∀ {k:Key} {v:Value},Zfd k v=true->(∃ i t,k=Sum.inl i/\v=Value.int i t)\/(∃ x t,k=Sum.inr x/\v=Value.str x t)
 |.inl i,v,h=>by
  obtain ⟨t,e⟩:=Value.isInt_shape (k:=i) (v:=v) h
  exact .inl ⟨i,t,rfl,e⟩
 |.inr x,v,h=>by
  obtain ⟨t,e⟩:=Value.isStrOf_shape (x:=x) (v:=v) h
  exact .inr ⟨x,t,rfl,e⟩
theorem ZhR (i:Int) (t:Tok):Zfd (.inl i) (.int i t)=true:=by simp [Zfd,Value.isInt]
theorem ZhQ (x:Str) (t:Tok):Zfd (.inr x) (.str x t)=true:=by simp [Zfd,Value.isStrOf]
theorem ZlF (a b:Int):decide ((Sum.inl a:Key)=Sum.inl b)=(a == b):=by
 by_cases e:a=b
 ·subst e;simp
 ·have h:¬ (Sum.inl a:Key)=Sum.inl b:=λq=>e (Sum.inl.inj q)
  rw [decide_eq_false h]
  exact (beq_eq_false_iff_ne.mpr e).symm
theorem ZlC (a b:Str):decide ((Sum.inr a:Key)=Sum.inr b)=decide (a=b):=by
 by_cases e:a=b
 ·subst e;simp
 ·have h:¬ (Sum.inr a:Key)=Sum.inr b:=λq=>e (Sum.inr.inj q)
  rw [decide_eq_false h,decide_eq_false e]
theorem ZlE (a:Int) (b:Str):decide ((Sum.inl a:Key)=Sum.inr b)=false:=decide_eq_false (λq=>nomatch q)
theorem ZlD (a:Str) (b:Int):decide ((Sum.inr a:Key)=Sum.inl b)=false:=decide_eq_false (λq=>nomatch q)

def ZaA (prog:Program) (w:World):PySem.KeyKind prog w Key where
 is:=Zfd
 hash:=keyH w
 inj:=λv a b ha hb=>by
  rcases ZaP ha with ⟨i,t,rfl,rfl⟩ | ⟨x,t,rfl,rfl⟩
  ·rcases ZaP hb with ⟨j,u,rfl,e⟩ | ⟨y,u,rfl,e⟩
   ·injection e with e1 _;rw [e1]
   ·exact nomatch e
  ·rcases ZaP hb with ⟨j,u,rfl,e⟩ | ⟨y,u,rfl,e⟩
   ·exact nomatch e
   ·injection e with e1 _;rw [e1]
 byValue:=λk v h=>by
  rcases ZaP h with ⟨i,t,rfl,rfl⟩ | ⟨x,t,rfl,rfl⟩<;>rfl
 pyHash:=λhv h=>by
  rcases ZaP hv with ⟨i,t,rfl,rfl⟩ | ⟨x,t,rfl,rfl⟩
  ·exact wpAny_pyHash_int h
  ·exact wpAny_pyHash_str h
 eqBool:=λhu hv h=>by
  rcases ZaP hu with ⟨i,t,rfl,rfl⟩ | ⟨x,t,rfl,rfl⟩
  ·rcases ZaP hv with ⟨j,u,rfl,rfl⟩ | ⟨y,u,rfl,rfl⟩
   ·rw [ZlF] at h;exact wpAny_eqBool_int h
   ·rw [ZlE] at h;exact SeqAt.EqAt.int_str i t y u _ _ _ _ h
  ·rcases ZaP hv with ⟨j,u,rfl,rfl⟩ | ⟨y,u,rfl,rfl⟩
   ·rw [ZlD] at h;exact SeqAt.EqAt.str_int x t j u _ _ _ _ h
   ·rw [ZlC] at h;exact wpAny_eqBool_str h
 «strs»:=λk x t v h=>by
  rcases ZaP h with ⟨i,u,rfl,e⟩ | ⟨y,u,rfl,e⟩
  ·exact nomatch e
  ·injection e with e1 _
   subst e1
   cases v<;>rfl

theorem Zgu (prog:Program) (w:World) (k:Key) (v:Value):(ZaA prog w).is k v=Zfd k v:=rfl
theorem Ze9 (prog:Program) (w:World) (i:Int) (t:Tok):(ZaA prog w).is (.inl i) (.int i t)=true:=ZhR i t
theorem Ze8 (prog:Program) (w:World) (x:Str) (t:Tok):(ZaA prog w).is (.inr x) (.str x t)=true:=ZhQ x t
end L2

namespace L2
open PySem PySem.Spec PyProof.Rows

inductive V where
 |non | bl (b:Bool) | int (i:Int) | str (x:Str) | byt (b:Array UInt8) | flt (b:UInt64) | ref (a:Addr) | ty (n:String)
 deriving DecidableEq

def RelV:V->Value->Prop
 |.non,u=>u=Value.none
 |.bl b,u=>u=Value.bool b
 |.int i,u=>∃ t,u=Value.int i t
 |.str x,u=>∃ t,u=Value.str x t
 |.byt b,u=>∃ t,u=Value.bytes b t
 |.flt b,u=>∃ t,u=Value.float b t
 |.ref a,u=>u=Value.ref a
 |.ty n,u=>u=Value.type n

abbrev Vals:List V->List Value->Prop:=Paired RelV
theorem Vals.length {xs:List V} {us:List Value} (r:Vals xs us):xs.length=us.length:=Paired.length r
theorem Vals.get:∀ {xs:List V} {us:List Value} {i:Nat} {x:V},Vals xs us->xs[i]?=some x->∃ u,us[i]?=some u/\RelV x u
 |_,_,_,_,.nil,e=>by simp at e
 |_,_,0,_,.cons r _,e=>by simp at e;subst e;exact ⟨_,rfl,r⟩
 |_,_,i+1,x,.cons _ t,e=>by
  obtain ⟨u,h1,h2⟩:=Vals.get (i:=i) (x:=x) t (by simpa using e)
  exact ⟨u,by simpa using h1,h2⟩
theorem Vals.append:∀ {xs ys:List V} {us ws:List Value},Vals xs us->Vals ys ws->Vals (xs++ys) (us++ws)
 |_,_,_,_,.nil,s=>s
 |_,_,_,_,.cons r t,s=>.cons r (Vals.append t s)
theorem Vals.take:∀ {xs:List V} {us:List Value} (n:Nat),Vals xs us->Vals (xs.take n) (us.take n)
 |_,_,0,_=>.nil
 |_,_,_+1,.nil=>.nil
 |_,_,n+1,.cons r t=>.cons r (Vals.take n t)
theorem Vals.drop:∀ {xs:List V} {us:List Value} (n:Nat),Vals xs us->Vals (xs.drop n) (us.drop n)
 |_,_,0,r=>r
 |_,_,_+1,.nil=>.nil
 |_,_,n+1,.cons _ t=>Vals.drop n t
def RelO:Option V->Option Value->Prop
 |some v,some u=>RelV v u
 |none,none=>True
 |_,_=>False
def KV {κ:Type}:List (κ×V)->List (κ×Value)->Prop:=Paired λ(p:κ×V) (q:κ×Value)=>p.1=q.1/\RelV p.2 q.2

def kV:Key->V
 |.inl i=>.int i
 |.inr x=>.str x

inductive HO where
 |lst (xs:List V)
 |tup (xs:List V)
 |dK (kvs:List (Key×V)) | dT (kvs:List (List Key×V))
 |set (S:Int->Bool) (n:Nat)
 |ins (C dx:Addr) (fs:List (Str×V))
 |own (x:Addr)
 |xd (fs:List (Str×V))
 |met (f x:Addr)
 |rng (lo hi:Int)
 |frz (o:Obj) (u:HO)
 |tbl (ps:Array Value)
 |ext (φ:Heap->Prop)

abbrev Hp:=Addr->Option HO
def upd (H:Hp) (a:Addr) (o:HO):Hp:=λb=>if b=a then some o else H b
theorem Zab {H:Hp} {a:Addr} {o:HO}:upd H a o a=some o:=by unfold upd;rw [if_pos rfl]
theorem Zae {H:Hp} {a b:Addr} {o:HO} (h:b≠a):upd H a o b=H b:=by unfold upd;rw [if_neg h]
theorem ZgJ {H:Hp} {a:Addr} {o u:HO}:upd (upd H a o) a u=upd H a u:=by
 funext b;unfold upd;split<;>rfl
theorem Zaq {H:Hp} {a b:Addr} {o u:HO} (h:H a=some o) (h':H b=some u) (d:o≠u):a≠b:=by
 intro e;subst e;rw [h] at h';exact d (Option.some.inj h')
theorem Zai {H:Hp} {a b:Addr} {o:HO} (h:H a=some o) (h':H b=none):a≠b:=by
 intro e;subst e;rw [h] at h';cases h'

section
variable (P:Program) (w:World)
def ObjOk (H:Hp) (h:Heap) (a:Addr):HO->Prop
 |.lst xs=>xs.length<=sizeLine/\∃ (its:List Value) (n:Nat),Vals xs its/\h.get? a=some { cls:=.type "list",data:=.seq its.toArray n }
 |.tup xs=>xs.length<=sizeLine/\∃ its:List Value,Vals xs its/\IsTup h a its.toArray
 |.dK kvs=>kvs.length<=sizeLine/\(a == sysModules)=false/\∃ vs,KV kvs vs/\h.DictOf (ZaA P w) a vs
 |.dT kvs=>kvs.length<=sizeLine/\(a == sysModules)=false/\∃ xs:List (List Key×Addr×Value),
   Paired (λ(p:List Key×V) (q:List Key×Addr×Value)=>p.1=q.1/\H q.2.1=some (.tup (p.1.map kV))/\RelV p.2 q.2.2) kvs xs /\
   ∃ o es ep,h.get? a=some o/\o.ExactDict/\o.data=.dict es ep/\es.toList=xs.map (entryOfKey (tupleKind (ZaA P w)))/\(xs.map (·.1)).Nodup
 |.set S n=>h.SetOf (intKind P w) a S n
 |.ins C dx fs=>H dx=some (.own a)/\fs.length<=1000/\dx≠a/\h.get? a=some (PySem.W.instObj C dx) /\
   ∃ mA,h.Ns1 dx mA/\(∀ f,RelO (fs.lookup f) (mA f))/\PySem.Within mA (fs.map (·.1))
 |.own _=>∃ o,h.get? a=some o
 |.xd fs=>∃ mA,h.Ns1 a mA/\∀ f,RelO (fs.lookup f) (mA f)
 |.rng lo hi=>∃ t u v,h.get? a=some { cls:=.type "range",data:=.fields #[.int lo t,.int hi u,.int 1 v] }
 |.frz o u=>h.get? a=some o/\ObjOk H h a u
 |.tbl ps=>h.get? a=some { cls:=.none,data:=.fields ps }
 |.met f x=>h.get? a=some (PySem.W.methodObj (.ref f) (.ref x))
 |.ext φ=>φ h/\(∃ o,h.get? a=some o)/\∀ h1 h2:Heap,φ h1->(∀ o,h1.get? a=some o->h2.get? a=some o)->φ h2
def HOk (H:Hp) (h:Heap):Prop:=∀ a o,H a=some o->ObjOk P w H h a o
end

section
variable {P:Program} {w:World} {H H':Hp} {h h':Heap} {a:Addr} {o:HO}
theorem ObjOk.lt (x:ObjOk P w H h a o):a<h.objs.size:=by
 cases o with
 |lst xs=>obtain ⟨_,_,_,_,e⟩:=x;exact Heap.lt_size e
 |tup xs=>obtain ⟨_,_,_,p⟩:=x;exact p.lt
 |dK kvs=>obtain ⟨_,_,_,_,o,_,_,e,_⟩:=x;exact Heap.lt_size e
 |dT kvs=>obtain ⟨_,_,_,_,o,_,_,e,_⟩:=x;exact Heap.lt_size e
 |set S n=>obtain ⟨o,_,_,_,e,_⟩:=x;exact Heap.lt_size e
 |ins C dx fs=>obtain ⟨_,_,_,e,_⟩:=x;exact Heap.lt_size e
 |own y=>obtain ⟨_,e⟩:=x;exact Heap.lt_size e
 |xd fs=>obtain ⟨_,⟨_,_,_,e,_⟩,_⟩:=x;exact Heap.lt_size e
 |rng lo hi=>obtain ⟨_,_,_,e⟩:=x;exact Heap.lt_size e
 |frz ob u=>obtain ⟨e,_⟩:=x;exact Heap.lt_size e
 |tbl ps=>exact Heap.lt_size (show h.get? a=some _ from x)
 |met f y=>exact Heap.lt_size (show h.get? a=some _ from x)
 |ext φ=>obtain ⟨_,⟨_,e⟩,_⟩:=x;exact Heap.lt_size e
theorem Paired.mapP {α β:Type} {F G:α->β->Prop}:∀ {l₁:List α} {l₂:List β},Paired F l₁ l₂->(∀ a b,F a b->G a b)->Paired G l₁ l₂
 |_,_,.nil,_=>.nil
 |_,_,.cons r t,f=>.cons (f _ _ r) (Paired.mapP t f)
theorem ObjOk.stay (x:ObjOk P w H h a o) (k:∀ b u,(b=a\/H b=some (.own a))->h.get? b=some u->h'.get? b=some u)
  (ho:∀ b,H b=some (.own a)->H' b=some (.own a)) (ht:∀ b xs,H b=some (.tup xs)->H' b=some (.tup xs)):ObjOk P w H' h' a o:=by
 induction o with
 |lst xs=>obtain ⟨z,its,n,r,e⟩:=x;exact ⟨z,its,n,r,k _ _ (.inl rfl) e⟩
 |tup xs=>obtain ⟨z,its,r,ob,e,c⟩:=x;exact ⟨z,its,r,ob,k _ _ (.inl rfl) e,c⟩
 |dK kvs=>obtain ⟨z,y,vs,r,ob,es,ep,e,c⟩:=x;exact ⟨z,y,vs,r,ob,es,ep,k _ _ (.inl rfl) e,c⟩
 |dT kvs =>
  obtain ⟨z,y,xs,r,ob,es,ep,e,c⟩:=x
  exact ⟨z,y,xs,Paired.mapP r λp q z=>⟨z.1,ht _ _ z.2.1,z.2.2⟩,ob,es,ep,k _ _ (.inl rfl) e,c⟩
 |set S n=>obtain ⟨ob,es,ep,t,e,c⟩:=x;exact ⟨ob,es,ep,t,k _ _ (.inl rfl) e,c⟩
 |ins C dx fs =>
  obtain ⟨d,z,ne,e,mA,⟨od,es,ep,e2,c⟩,r⟩:=x
  exact ⟨ho _ d,z,ne,k _ _ (.inl rfl) e,mA,⟨od,es,ep,k _ _ (.inr d) e2,c⟩,r⟩
 |own y=>obtain ⟨ob,e⟩:=x;exact ⟨ob,k _ _ (.inl rfl) e⟩
 |xd fs=>obtain ⟨mA,⟨od,es,ep,e,c⟩,r⟩:=x;exact ⟨mA,⟨od,es,ep,k _ _ (.inl rfl) e,c⟩,r⟩
 |rng lo hi=>obtain ⟨t,u,v,e⟩:=x;exact ⟨t,u,v,k _ _ (.inl rfl) e⟩
 |frz ob u ih=>obtain ⟨e,q⟩:=x;exact ⟨k _ _ (.inl rfl) e,ih q⟩
 |tbl ps =>
  have e:h.get? a=some { cls:=.none,data:=.fields ps }:=x
  show h'.get? a=some { cls:=.none,data:=.fields ps }
  exact k a _ (.inl rfl) e
 |met f y =>
  have e:h.get? a=some (PySem.W.methodObj (.ref f) (.ref y)):=x
  show h'.get? a=some (PySem.W.methodObj (.ref f) (.ref y))
  exact k a _ (.inl rfl) e
 |ext φ=>obtain ⟨p,⟨o,e⟩,st⟩:=x;exact ⟨st _ _ p λo q=>k _ _ (.inl rfl) q,⟨o,k _ _ (.inl rfl) e⟩,st⟩
theorem HOk.lt (x:HOk P w H h) (e:H a=some o):a<h.objs.size:=(x a o e).lt
theorem HOk.fresh (x:HOk P w H h) (e:h.objs.size<=a):H a=none:=by
 cases q:H a with
 |none=>rfl
 |some u=>exact absurd (Nat.lt_of_lt_of_le (x.lt q) e) (Nat.lt_irrefl _)
theorem HOk.kept (x:HOk P w H h) (k:∀ b u,h.get? b=some u->h'.get? b=some u):HOk P w H h':=λa o e =>
 (x a o e).stay (λb u _ q=>k b u q) (λ_ q=>q) λ_ _ q=>q
theorem HOk.laid (x:HOk P w H h) (k:∀ b u,h.get? b=some u->h'.get? b=some u) (hp:h.objs.size<=a) (new:ObjOk P w (upd H a o) h' a o):HOk P w (upd H a o) h':=λb u e=>by
 have hn:=x.fresh hp
 by_cases hb:b=a
 ·subst hb;rw [Zab] at e;cases e;exact new
 ·rw [Zae hb] at e
  exact (x b u e).stay (λc v _ q=>k c v q) (λc q=>by rw [Zae (Zai q hn)];exact q) λc xs q=>by rw [Zae (Zai q hn)];exact q
end

def Rd (H:Hp) (a:Addr) (u:HO):Prop:=H a=some u\/∃ o,H a=some (.frz o u)
theorem Rd.ok {P:Program} {w:World} {H:Hp} {h:Heap} {a:Addr} {u:HO} (r:Rd H a u) (x:HOk P w H h):ObjOk P w H h a u:=by
 rcases r with r | ⟨o,r⟩
 ·exact x a u r
 ·obtain ⟨_,q⟩:=x a _ r
  exact q
def Mut:Option HO->Prop
 |some (.lst _)=>True
 |some (.dK _)=>True
 |some (.dT _)=>True
 |some (.set _ _)=>True
 |some (.ins _ _ _)=>True
 |some (.ext _)=>True
 |_=>False
section
variable {P:Program} {w:World} {H:Hp} {h h':Heap} {x e:Addr} {o':HO}
theorem HOk.write (ok:HOk P w H h) (mu:Mut (H x)) (he:e=x\/H e=some (.own x)) (k:∀ b u,b≠e->h.get? b=some u->h'.get? b=some u) (heo:∃ u,h'.get? e=some u)
  (new:ObjOk P w (upd H x o') h' x o'):HOk P w (upd H x o') h':=λb u q=>by
 have nown:∀ c y,H c=some (.own y)->c≠x:=λc y r z=>by subst z;rw [r] at mu;exact mu
 have ntup:∀ c xs,H c=some (.tup xs)->c≠x:=λc xs r z=>by subst z;rw [r] at mu;exact mu
 by_cases hb:b=x
 ·subst hb;rw [Zab] at q;cases q;exact new
 ·rw [Zae hb] at q
  by_cases hbe:b=e
  ·have q':H b=some (.own x):=by
    rcases he with z | z
    ·exact absurd (hbe.trans z) hb
    ·rw [hbe];exact z
   rw [q] at q';cases q'
   obtain ⟨v,hv⟩:=heo
   exact ⟨v,by rw [hbe];exact hv⟩
  ·refine (ok b u q).stay (λc v hc r=>k c v ?_ r) (λc r=>by rw [Zae (nown c b r)];exact r) λc xs r=>by rw [Zae (ntup c xs r)];exact r
   rcases hc with rfl | hc
   ·exact hbe
   ·rintro rfl
    rcases he with z | z
    ·exact nown c b hc z
    ·rw [hc] at z;cases z;exact hb rfl
end

structure Un (fs ex:List Addr) (H H':Hp) (h h':Heap):Prop where
 keep:∀ b o,h.get? b=some o->H b=none->b∉fs->b∉ex->h'.get? b=some o
 slot:∀ b o,h.get? b=some o->H b=none->b∈fs->b∉ex->∃ sl,h'.get? b=some { o with slots:=sl }
 free:∀ b o,h.get? b=some o->H b=none->b∉ex->H' b=none
 there:∀ b o,h.get? b=some o->b∉ex->∃ o',h'.get? b=some o'
 tups:∀ b xs,H b=some (.tup xs)->H' b=some (.tup xs)
 frzs:∀ b o u,H b=some (.frz o u)->H' b=some (.frz o u)
 tbls:∀ b ps,H b=some (.tbl ps)->∃ more,H' b=some (.tbl (ps++more))
section
variable {fs fs' ex ex':List Addr} {H H1 H2:Hp} {h h1 h2 h':Heap} {a x e:Addr} {o:HO}
theorem Un.any (u:Un fs ex H H1 h h1) {b:Addr} {ob:Obj} (q:h.get? b=some ob) (n:H b=none) (hx:b∉ex):∃ sl,h1.get? b=some { ob with slots:=sl }:=by
 by_cases hb:b∈fs
 ·exact u.slot b ob q n hb hx
 ·exact ⟨ob.slots,u.keep b ob q n hb hx⟩
theorem Un.kept (k:∀ b u,h.get? b=some u->h'.get? b=some u):Un fs ex H H h h' :=
 ⟨λb ob q _ _ _=>k b ob q,λb ob q _ _ _=>⟨ob.slots,k b ob q⟩,λ_ _ _ n _=>n,λb ob q _=>⟨ob,k b ob q⟩,λ_ _ q=>q,λ_ _ _ q=>q,λ_ ps q=>⟨#[],by rw [q];simp⟩⟩
theorem Un.refl:Un fs ex H H h h:=Un.kept λ_ _ q=>q
theorem Un.laid (k:∀ b u,h.get? b=some u->h'.get? b=some u) (hp:h.objs.size<=a) (hn:H a=none):Un fs ex H (upd H a o) h h' where
 keep:=λb u q _ _ _=>k b u q
 slot:=λb u q _ _ _=>⟨u.slots,k b u q⟩
 free:=λb u q n _=>by rw [Zae (Nat.ne_of_lt (Nat.lt_of_lt_of_le (Heap.lt_size q) hp))];exact n
 there:=λb u q _=>⟨u,k b u q⟩
 tups:=λb xs q=>by rw [Zae (Zai q hn)];exact q
 frzs:=λb u xs q=>by rw [Zae (Zai q hn)];exact q
 tbls:=λb ps q=>⟨#[],by rw [Zae (Zai q hn),q];simp⟩
theorem Un.write (mu:Mut (H x)) (he:e=x\/H e=some (.own x)) (k:∀ b u,b≠e->h.get? b=some u->h'.get? b=some u) (heo:∃ u,h'.get? e=some u):Un fs ex H (upd H x o) h h':=by
 have hx:∀ b,H b=none->b≠x:=λb n z=>by subst z;rw [n] at mu;exact mu
 have hb:∀ b,H b=none->b≠e:=λb n z=>by
  subst z
  rcases he with r | r
  ·exact hx b n r
  ·rw [n] at r;cases r
 have hm:∀ b u,H b=some u->¬ Mut (some u)->b≠x:=λb u q nm z=>by subst z;rw [q] at mu;exact nm mu
 refine ⟨λb u q n _ _=>k b u (hb b n) q,λb u q n _ _=>⟨u.slots,k b u (hb b n) q⟩,λb u q n _=>by rw [Zae (hx b n)];exact n,λb u q _=>?_,
  λb xs q=>by rw [Zae (hm b _ q λz=>z)];exact q,λb u xs q=>by rw [Zae (hm b _ q λz=>z)];exact q,λb ps q=>⟨#[],by rw [Zae (hm b _ q λz=>z),q];simp⟩⟩
 by_cases hbe:b=e
 ·subst hbe;exact heo
 ·exact ⟨u,k b u hbe q⟩
end

def trk (h:Heap) (H:Hp):List Addr:=(List.range h.objs.size).filter λa=>(H a).isSome
def hidT (h:Heap) (H:Hp):Heap:=PySem.W.hideAll h (trk h H)
theorem ZhU (h:Heap) (H:Hp):(hidT h H).objs.size=h.objs.size:=PySem.W.hideAll_size _ _
theorem Zji {h:Heap} {H:Hp} {b:Addr} {o:Obj} (e:h.get? b=some o) (n:H b=none):(hidT h H).get? b=some o :=
 PySem.W.hideAll_get _ e λhm=>by
  have q:(H b).isSome=true:=(List.mem_filter.mp hm).2
  rw [n] at q;simp at q
theorem ZkC {h:Heap} {H:Hp} {b:Addr} {o:Obj} (e:(hidT h H).get? b=some o):h.get? b=some o/\H b=none:=by
 have e':h.get? b=some o:=PySem.W.of_hideAll (trk h H) e
 refine ⟨e',?_⟩
 cases q:H b with
 |none=>rfl
 |some x =>
  have hm:b∈trk h H:=List.mem_filter.mpr ⟨List.mem_range.mpr (Heap.lt_size e'),by simp [q]⟩
  have z:(hidT h H).get? b=none:=PySem.W.hideAll_none (trk h H) hm
  rw [z] at e;cases e

def Zk3 (g h:Heap) (L:Addr):List (Addr×Obj):=(List.range h.objs.size).filterMap λa=>if a=L\/(g.get? a).isSome=true then none else (h.get? a).map λo=>(a,o)
def rest (g h:Heap) (L d:Addr):List (Addr×Obj):=(Zk3 g h L).filter λp=>decide (p.1≠d)
end L2

namespace L2
open PySem PySem.Spec PyProof.Rows

structure Mod (K:PySem.W.Frag) (mg:Str->Option Value) (base:Heap):Prop where
 kin:K.In base
 glob:base.Ns mainGlobals mg
 blt:∃ mb,base.Ns builtinsNs mb/\∀ x:Str,x≠"__name__"->mb x=bootBuiltins x
 nolimit:base.NoLimit

set_option genInjectivity false in
structure Cx where
 prog:Program
 w:World
 K:PySem.W.Frag
 mg:Str->Option Value
 base:Heap
 A:Around
 N:List Str
 s₀:Shared
 H₀:Hp
 env:Env
 outer:List Env
 stack:List Env
 ex:List Addr
 fn:Str->Bool
 calm:Bool
 pn:List (Addr×Obj)
 xe:Value->Shared->Prop
def frs (l:List Env):List Addr:=l.filterMap (·.frame)
abbrev Cx.fs (X:Cx):List Addr:=frs X.outer

def Vis (sc:Scope) (x:Str):Prop:=sc.names.lookup x=some .local\/sc.names.lookup x=some .cell\/sc.names.lookup x=some .free
def Loc (sc:Scope) (x:Str):Prop:=sc.names.lookup x=some .local\/sc.names.lookup x=some .cell
def Look (env:Env) (h:Heap) (m:Str->Option Value) (x:Str) (u:Value):Prop :=
 (env.kindOf x=some .local/\m x=some u)\/((env.kindOf x=some .cell\/env.kindOf x=some .free)/\∃ c,env.cells.lookup x=some c/\h.IsCell c (some u))

structure Cx.Ok (X:Cx):Prop where
 mod:Mod X.K X.mg X.base
 kind:X.env.scope.kind=.function
 glob:X.env.globals=mainGlobals
 blt:X.env.builtins=builtinsNs
 above:X.s₀.heap.objs.size<=X.env.locals
 inj:∀ x y c,X.env.cells.lookup x=some c->X.env.cells.lookup y=some c->x=y
 has:∀ x,(X.env.kindOf x=some .cell\/X.env.kindOf x=some .free)->∃ c,X.env.cells.lookup x=some c
 cab:∀ x c,X.fn x=true->X.env.cells.lookup x=some c->X.s₀.heap.objs.size<=c
 hd:X.calm=true->X.A.handled=none
 frames:X.A.frames=some X.stack
 stk:X.stack=X.outer\/(X.stack=X.env::X.outer/\X.env.frame=some X.env.locals)
 exf:∀ b∈X.ex,b≠X.env.locals/\∀ x c,X.env.cells.lookup x=some c->c≠b
 bs:∀ b o,X.base.get? b=some o->X.s₀.heap.get? b=some o/\X.H₀ b=none
 bsz:X.base.objs.size<=X.s₀.heap.objs.size
 noex:∀ b o,X.base.get? b=some o->b∉X.ex
 exfs:∀ b∈X.ex,b∉X.fs
 funs:X.s₀.heap.FunFrames X.base X.outer
 frf:∀ b∈X.fs,X.H₀ b=none

structure Inv (X:Cx) (pins:List (Addr×Obj)) (σ:List (Option V)) (H:Hp) (s:Shared):Prop where
 ok:X.Ok
 os:s.os=X.s₀.os
 bare:AllBare s.gens
 base:Un X.fs X.ex X.H₀ H X.s₀.heap s.heap
 loc:∃ m,s.heap.Ns X.env.locals m/\∀ (i:Nat) (x:Str) (v:V),X.N[i]?=some x->σ[i]?=some (some v)->Vis X.env.scope x->∃ u,RelV v u/\Look X.env s.heap m x u
 cell:∀ x c,X.env.cells.lookup x=some c->∃ v,s.heap.IsCell c v
 free:H X.env.locals=none
 freeC:∀ x c,X.env.cells.lookup x=some c->H c=none
 pin:∀ p∈X.pn++pins,s.heap.get? p.1=some p.2/\H p.1=none/\p.1≠X.env.locals/\p.1∉X.fs/\∀ v,p.2.data≠.cell v
 hok:HOk X.prog X.w H s.heap
 len:σ.length=X.N.length

section
variable {X:Cx} {pins:List (Addr×Obj)} {σ:List (Option V)} {H H':Hp} {s:Shared} {h':Heap}

theorem Cx.Ok.nofr (ok:X.Ok) {b:Addr} {o:Obj} (e:X.base.get? b=some o):b∉X.fs:=λhb=>by
 have:=(ok.funs.mem hb).1
 rw [e] at this;cases this
theorem Inv.bs (I:Inv X pins σ H s):∀ b o,X.base.get? b=some o->s.heap.get? b=some o/\H b=none:=λb o e =>
 ⟨I.base.keep b o (I.ok.bs b o e).1 (I.ok.bs b o e).2 (I.ok.nofr e) (I.ok.noex b o e),I.base.free b o (I.ok.bs b o e).1 (I.ok.bs b o e).2 (I.ok.noex b o e)⟩
theorem Inv.bk (I:Inv X pins σ H s):∀ b o,X.base.get? b=some o->s.heap.get? b=some o:=λb o e=>(I.bs b o e).1
theorem Inv.mod (I:Inv X pins σ H s):Mod X.K X.mg X.base:=I.ok.mod
theorem Inv.kIn (I:Inv X pins σ H s):X.K.In s.heap:=I.ok.mod.kin.keeps I.bk
theorem Inv.lt (I:Inv X pins σ H s):X.env.locals<s.heap.objs.size:=let ⟨_,hn,_⟩:=I.loc;hn.lt
theorem Inv.sz (I:Inv X pins σ H s):X.s₀.heap.objs.size<=s.heap.objs.size:=Nat.le_trans I.ok.above (Nat.le_of_lt I.lt)
theorem Inv.nofs (I:Inv X pins σ H s) {a:Addr} (h:s.heap.objs.size<=a):a∉X.fs:=λhb=>by
 obtain ⟨_,o,ho,_⟩:=I.ok.funs.mem hb
 exact absurd (Nat.lt_of_lt_of_le (Heap.lt_size ho) (Nat.le_trans I.sz h)) (Nat.lt_irrefl _)
theorem Inv.cne (I:Inv X pins σ H s):∀ x c,X.env.cells.lookup x=some c->c≠X.env.locals:=λx c e z=>by
 obtain ⟨v,o,ho,hd⟩:=I.cell x c e
 obtain ⟨m,⟨o',es,ep,ho',hd',_⟩,_⟩:=I.loc
 rw [z,ho'] at ho;cases ho;rw [hd'] at hd;cases hd
theorem Inv.funs (I:Inv X pins σ H s):s.heap.FunFrames X.base X.outer:=by
 have all:∀ (l:List Env),(∀ b∈frs l,b∈X.fs)->X.s₀.heap.FunFrames X.base l->s.heap.FunFrames X.base l:=by
  intro l
  induction l with
  |nil=>intro _ _;trivial
  |cons env r ih =>
   intro hs hl
   obtain ⟨hk,⟨L,o,hf,hn,ho,hd⟩,hr⟩:=hl
   have hL:L∈X.fs:=hs L (by unfold frs;rw [List.filterMap_cons,hf];exact List.mem_cons_self)
   obtain ⟨sl,e⟩:=I.base.slot L o ho (I.ok.frf L hL) hL λz=>I.ok.exfs L z hL
   exact ⟨hk,⟨L,_,hf,hn,e,hd⟩,ih (λb hb=>hs b (by unfold frs;rw [List.filterMap_cons,hf];exact List.mem_cons_of_mem _ hb)) hr⟩
 exact all X.outer (λ_ hb=>hb) I.ok.funs

theorem Inv.stack (I:Inv X pins σ H s):s.heap.FunFrames X.base X.stack:=by
 rcases I.ok.stk with e | ⟨e,hf⟩
 ·rw [e];exact I.funs
 ·rw [e]
  obtain ⟨m,hn,_⟩:=I.loc
  refine .cons (by rw [I.ok.kind];decide) hf hn ?_ I.funs
  exact Heap.get?_none_of_le (Nat.le_trans I.ok.bsz I.ok.above)
theorem Inv.stkSub (I:Inv X pins σ H s):∀ b∈frs X.stack,b∈X.env.locals::X.fs:=λb hb=>by
 rcases I.ok.stk with e | ⟨e,hf⟩
 ·rw [e] at hb;exact List.mem_cons_of_mem _ hb
 ·rw [e] at hb
  unfold frs at hb
  rw [List.filterMap_cons,hf] at hb
  exact hb
theorem Inv.stkFree (I:Inv X pins σ H s):∀ b∈frs X.stack,H b=none:=λb hb=>by
 rcases List.mem_cons.mp (I.stkSub b hb) with e | hb
 ·rw [e];exact I.free
 ·obtain ⟨_,o,ho,_⟩:=I.ok.funs.mem hb
  exact I.base.free b o ho (I.ok.frf b hb) λz=>I.ok.exfs b z hb

theorem Inv.step {g':Array GenState} {t':Nat} {d':Drawn} {ch:List Addr} (I:Inv X pins σ H s)
  (hch:∀ b∈ch,(b∈X.ex\/X.s₀.heap.objs.size<=b)/\b≠X.env.locals/\(∀ x c,X.env.cells.lookup x=some c->c≠b)/\∀ p∈X.pn++pins,p.1≠b)
  (keep:∀ b o,b≠X.env.locals->b∉X.fs->b∉ch->s.heap.get? b=some o->H b=none->h'.get? b=some o)
  (slot:∀ b o,b≠X.env.locals->b∈X.fs->b∉ch->s.heap.get? b=some o->H b=none->∃ sl,h'.get? b=some { o with slots:=sl }) (free:∀ b o,b∉ch->s.heap.get? b=some o->H b=none->H' b=none)
  (there:∀ b o,b∉ch->s.heap.get? b=some o->∃ o',h'.get? b=some o')
  (tups:∀ b xs,H b=some (.tup xs)->H' b=some (.tup xs)) (frzs:∀ b o u,H b=some (.frz o u)->H' b=some (.frz o u)) (tbls:∀ b ps,H b=some (.tbl ps)->∃ more,H' b=some (.tbl (ps++more)))
  (ns:∀ m,s.heap.Ns X.env.locals m->h'.Ns X.env.locals m) (hok:HOk X.prog X.w H' h') (hg:AllBare g') :
  Inv X pins σ H' { s with heap:=h',gens:=g',drawn:=d',toks:=t' }:=by
 have neL:∀ b o,X.s₀.heap.get? b=some o->b≠X.env.locals:=λb o e=>Nat.ne_of_lt (Nat.lt_of_lt_of_le (Heap.lt_size e) I.ok.above)
 have neC:∀ b o,X.s₀.heap.get? b=some o->b∉X.ex->b∉ch:=λb o e hx hb=>by
  rcases (hch b hb).1 with z | z
  ·exact hx z
  ·exact absurd (Nat.lt_of_lt_of_le (Heap.lt_size e) z) (Nat.lt_irrefl _)
 have cellK:∀ x c,X.env.cells.lookup x=some c->∀ v,s.heap.IsCell c v->h'.IsCell c v:=λx c e v ⟨o,ho,hd⟩=>by
  have nch:c∉ch:=λz=>(hch c z).2.2.1 x c e rfl
  by_cases hc:c∈X.fs
  ·obtain ⟨sl,q⟩:=slot c o (I.cne x c e) hc nch ho (I.freeC x c e)
   exact ⟨_,q,hd⟩
  ·exact ⟨o,keep c o (I.cne x c e) hc nch ho (I.freeC x c e),hd⟩
 refine ⟨I.ok,I.os,hg,⟨λb o e n hb hx=>?_,λb o e n hb hx=>?_,λb o e n hx=>?_,λb o e hx=>?_,λb xs e=>tups b xs (I.base.tups b xs e),λb o xs e=>frzs b o xs (I.base.frzs b o xs e),λb ps e=>?_⟩,?_,λx c e=>?_,?_,λx c e=>?_,λp hp=>?_,hok,I.len⟩
 ·exact keep b o (neL b o e) hb (neC b o e hx) (I.base.keep b o e n hb hx) (I.base.free b o e n hx)
 ·obtain ⟨sl,e1⟩:=I.base.slot b o e n hb hx
  obtain ⟨sl',e2⟩:=slot b _ (neL b o e) hb (neC b o e hx) e1 (I.base.free b o e n hx)
  exact ⟨sl',e2⟩
 ·obtain ⟨o',e1⟩:=I.base.there b o e hx
  exact free b o' (neC b o e hx) e1 (I.base.free b o e n hx)
 ·obtain ⟨o',e1⟩:=I.base.there b o e hx
  exact there b o' (neC b o e hx) e1
 ·obtain ⟨m1,e1⟩:=I.base.tbls b ps e
  obtain ⟨m2,e2⟩:=tbls b _ e1
  exact ⟨m1++m2,by rw [e2,Array.append_assoc]⟩
 ·obtain ⟨m,hn,hl⟩:=I.loc
  refine ⟨m,ns m hn,λi x v e1 e2 e3=>?_⟩
  obtain ⟨u,r,l⟩:=hl i x v e1 e2 e3
  refine ⟨u,r,?_⟩
  rcases l with l | ⟨k,c,e,z⟩
  ·exact .inl l
  ·exact .inr ⟨k,c,e,cellK x c e _ z⟩
 ·obtain ⟨v,z⟩:=I.cell x c e
  exact ⟨v,cellK x c e v z⟩
 ·obtain ⟨m,⟨o,_,_,ho,_⟩,_⟩:=I.loc
  exact free _ o (λz=>(hch _ z).2.1 rfl) ho I.free
 ·obtain ⟨v,o,ho,hd⟩:=I.cell x c e
  exact free c o (λz=>(hch c z).2.2.1 x c e rfl) ho (I.freeC x c e)
 ·obtain ⟨e,n,ne,nf,d⟩:=I.pin p hp
  have nch:p.1∉ch:=λz=>(hch p.1 z).2.2.2 p hp rfl
  exact ⟨keep p.1 p.2 ne nf nch e n,free p.1 p.2 nch e n,ne,nf,d⟩
theorem Inv.un {t':Nat} (I:Inv X pins σ H s) (u:Un X.fs [] H H' s.heap h') (hok:HOk X.prog X.w H' h'):Inv X pins σ H' { s with heap:=h',toks:=t' }:=by
 obtain ⟨m,⟨o,es,ep,ho,r⟩,_⟩:=id I.loc
 obtain ⟨sl,hL⟩:=u.any ho I.free (by simp)
 exact I.step (g':=s.gens) (d':=s.drawn) (ch:=[]) (λ_ z=>nomatch z) (λb o _ hb _ e n=>u.keep b o e n hb (by simp)) (λb o _ hb _ e n=>u.slot b o e n hb (by simp)) (λb o _ e n=>u.free b o e n (by simp)) (λb o _ e=>u.there b o e (by simp)) u.tups u.frzs u.tbls (λm' hm=>by
  obtain ⟨o',es',ep',ho',r'⟩:=hm
  rw [ho] at ho';cases ho'
  exact ⟨_,es',ep',hL,r'⟩) hok I.bare
theorem Inv.call {g':Array GenState} {t':Nat} {d':Drawn} {ch:List Addr} (I:Inv X pins σ H s) (u:Un (frs X.stack) ch H H' s.heap h') (hok:HOk X.prog X.w H' h') (hg:AllBare g')
  (hch:∀ b∈ch,(b∈X.ex\/X.s₀.heap.objs.size<=b)/\b≠X.env.locals/\(∀ x c,X.env.cells.lookup x=some c->c≠b)/\∀ p∈X.pn++pins,p.1≠b) :
  Inv X pins σ H' { s with heap:=h',gens:=g',drawn:=d',toks:=t' }:=by
 obtain ⟨m,⟨o,es,ep,ho,r⟩,_⟩:=id I.loc
 obtain ⟨sl,hL⟩:=u.any ho I.free λz=>(hch _ z).2.1 rfl
 exact I.step (ch:=ch) hch (λb o hL hb hc e n=>u.keep b o e n (λz=>(List.mem_cons.mp (I.stkSub b z)).elim hL hb) hc) (λb o _ _ hc e n=>u.any e n hc) (λb o hc e n=>u.free b o e n hc) (λb o hc e=>u.there b o e hc) u.tups u.frzs u.tbls (λm' hm=>by
  obtain ⟨o',es',ep',ho',r'⟩:=hm
  rw [ho] at ho';cases ho'
  exact ⟨_,es',ep',hL,r'⟩) hok hg
theorem Inv.turned {t':Nat} {it:Addr} (I:Inv X pins σ H s) (k:∀ b o,b≠it->s.heap.get? b=some o->h'.get? b=some o) (hn:H it=none) (hL:it≠X.env.locals)
  (h1:it∈X.ex\/X.s₀.heap.objs.size<=it) (h2:∀ x c,X.env.cells.lookup x=some c->c≠it) (h3:∀ p∈X.pn++pins,p.1≠it):Inv X pins σ H { s with heap:=h',toks:=t' }:=by
 have nit:∀ b u,H b=some u->b≠it:=λb u e z=>by rw [z,hn] at e;cases e
 refine I.step (g':=s.gens) (d':=s.drawn) (ch:=[it]) (λb hb=>?_) (λb o _ _ hc e _=>k b o (λz=>hc (by simp [z])) e) (λb o _ _ hc e _=>⟨o.slots,k b o (λz=>hc (by simp [z])) e⟩) (λ_ _ _ _ n=>n)
  (λb o hc e=>⟨o,k b o (λz=>hc (by simp [z])) e⟩) (λ_ _ e=>e) (λ_ _ _ e=>e) (λb ps e=>⟨#[],by rw [e];simp⟩) (λm hm=>?_) (λb u e=>?_) I.bare
 ·have e:b=it:=by simpa using hb
  subst e
  exact ⟨h1,hL,h2,h3⟩
 ·obtain ⟨o,es,ep,ho,r⟩:=hm
  exact ⟨o,es,ep,k _ o (Ne.symm hL) ho,r⟩
 ·refine (I.hok b u e).stay (λc v hc q=>k c v ?_ q) (λ_ q=>q) λ_ _ q=>q
  rcases hc with z | z
  ·rw [z];exact nit b u e
  ·exact nit c _ z
theorem Inv.tok (I:Inv X pins σ H s) (t:Nat):Inv X pins σ H { s with toks:=t }:=I.un (h':=s.heap) (t':=t) Un.refl I.hok
theorem Inv.kept {t':Nat} (I:Inv X pins σ H s) (k:∀ b u,s.heap.get? b=some u->h'.get? b=some u):Inv X pins σ H { s with heap:=h',toks:=t' }:=I.un (Un.kept k) (I.hok.kept k)
theorem Inv.laid {a:Addr} {o:HO} {t':Nat} (I:Inv X pins σ H s) (k:∀ b u,s.heap.get? b=some u->h'.get? b=some u) (hp:s.heap.objs.size<=a) (new:ObjOk X.prog X.w (upd H a o) h' a o) :
  Inv X pins σ (upd H a o) { s with heap:=h',toks:=t' }:=I.un (Un.laid k hp (I.hok.fresh hp)) (I.hok.laid k hp new)
theorem Inv.write {x e:Addr} {o:HO} {t':Nat} (I:Inv X pins σ H s) (mu:Mut (H x)) (he:e=x\/H e=some (.own x)) (k:∀ b u,b≠e->s.heap.get? b=some u->h'.get? b=some u) (heo:∃ u,h'.get? e=some u)
  (new:ObjOk X.prog X.w (upd H x o) h' x o):Inv X pins σ (upd H x o) { s with heap:=h',toks:=t' }:=I.un (Un.write mu he k heo) (I.hok.write mu he k heo new)
theorem Inv.weak {σ':List (Option V)} (I:Inv X pins σ H s) (hl:σ'.length=σ.length) (w:∀ (i:Nat) v,σ'[i]?=some (some v)->σ[i]?=some (some v)):Inv X pins σ' H s :=
 ⟨I.ok,I.os,I.bare,I.base,let ⟨m,hn,hl'⟩:=I.loc;⟨m,hn,λi x v e1 e2 e3=>hl' i x v e1 (w i v e2) e3⟩,I.cell,I.free,I.freeC,I.pin,I.hok,hl.trans I.len⟩
theorem Inv.pins_of {pins':List (Addr×Obj)} (I:Inv X pins σ H s) (h:∀ p∈pins',s.heap.get? p.1=some p.2/\H p.1=none/\p.1≠X.env.locals/\p.1∉X.fs/\∀ v,p.2.data≠.cell v):Inv X pins' σ H s :=
 ⟨I.ok,I.os,I.bare,I.base,I.loc,I.cell,I.free,I.freeC,λp hp=>(List.mem_append.mp hp).elim (λz=>I.pin p (List.mem_append_left _ z)) (h p),I.hok,I.len⟩

theorem ZfW {N:List Str} (hN:N.Nodup) {i j:Nat} {x:Str} (a:N[i]?=some x) (b:N[j]?=some x):i=j:=by
 obtain ⟨h1,e1⟩:=List.getElem?_eq_some_iff.mp a
 obtain ⟨h2,e2⟩:=List.getElem?_eq_some_iff.mp b
 exact (List.getElem_inj hN).mp (e1.trans e2.symm)

theorem ZgU {M:Model} {A:Around} {E:Value->Shared->Prop} {i:Nat} {x:Str} {v:V} {u:Value} {Q:Unit->Shared->Prop} (I:Inv X pins σ H s) (hN:X.N.Nodup) (hi:X.N[i]?=some x) (hx:Loc X.env.scope x) (r:RelV v u)
  (h:∀ s',Inv X pins (σ.set i (some v)) H s'->(∃ a,Heap.SameBut a s.heap s'.heap/\(a=X.env.locals\/X.env.cells.lookup x=some a))->Q () s') (hf:X.fn x=true\/X.env.scope.names.lookup x=some .local:=by first | exact .inl rfl | exact .inr rfl | assumption):wpAny M A (storeName X.env x u) Q E s:=by
 obtain ⟨m,hn,hl⟩:=id I.loc
 have hcls:(X.env.scope.kind == .class||(X.env.scope.kind == .module&&X.env.locals != X.env.globals))=false:=by rw [I.ok.kind];rfl
 have hiσ:i<σ.length:=by rw [I.len];exact (List.getElem?_eq_some_iff.mp hi).1
 have cne:=I.cne
 have tracked:∀ {a:Addr} {h':Heap},(∃ o,s.heap.get? a=some o/\H a=none)->Heap.SameBut a s.heap h'->HOk X.prog X.w H h':=λ{a h'} ha hs b ob e=>by
  obtain ⟨_,_,hfree⟩:=ha
  refine (I.hok b ob e).stay (λc w' hc q=>(hs.2 c ?_).trans q) (λ_ q=>q) λ_ _ q=>q
  rintro rfl
  rcases hc with rfl | hc
  ·rw [hfree] at e;cases e
  ·rw [hfree] at hc;cases hc
 rcases hx with hk | hk
 ·refine wpAny_storeName_local hk hn (λh' hn' hs=>?_) hcls
  obtain ⟨oL,_,_,hoL,_⟩:=id hn
  refine h _ ⟨I.ok,I.os,I.bare,⟨λb o e n hb hx=>?_,λb o e n hb hx=>?_,I.base.free,λb o e hx=>?_,I.base.tups,I.base.frzs,I.base.tbls⟩,⟨_,hn',λj y v' e1 e2 e3=>?_⟩,λy c e=>?_,I.free,I.freeC,λp hp=>?_,tracked ⟨oL,hoL,I.free⟩ hs,by simpa using I.len⟩ ⟨_,hs,.inl rfl⟩
  ·exact (hs.2 b (Nat.ne_of_lt (Nat.lt_of_lt_of_le (Heap.lt_size e) I.ok.above))).trans (I.base.keep b o e n hb hx)
  ·obtain ⟨sl,e1⟩:=I.base.slot b o e n hb hx
   exact ⟨sl,(hs.2 b (Nat.ne_of_lt (Nat.lt_of_lt_of_le (Heap.lt_size e) I.ok.above))).trans e1⟩
  ·obtain ⟨o',e1⟩:=I.base.there b o e hx
   exact ⟨o',(hs.2 b (Nat.ne_of_lt (Nat.lt_of_lt_of_le (Heap.lt_size e) I.ok.above))).trans e1⟩
  ·by_cases hj:j=i
   ·subst hj
    rw [hi] at e1;cases e1
    rw [List.getElem?_set_self hiσ] at e2
    cases e2
    exact ⟨u,r,.inl ⟨hk,by simp⟩⟩
   ·rw [List.getElem?_set_ne (Ne.symm hj)] at e2
    obtain ⟨u',r',q⟩:=hl j y v' e1 e2 e3
    refine ⟨u',r',?_⟩
    rcases q with ⟨k,e⟩ | ⟨k,c,e,z⟩
    ·refine .inl ⟨k,?_⟩
     have:y≠x:=λe=>hj (ZfW hN e1 (e▸hi))
     simp [this,e]
    ·exact .inr ⟨k,c,e,z.sameBut hs (cne y c e)⟩
  ·obtain ⟨w',z⟩:=I.cell y c e
   exact ⟨w',z.sameBut hs (cne y c e)⟩
  ·obtain ⟨e,n,ne,nf,d⟩:=I.pin p hp
   exact ⟨(hs.2 p.1 ne).trans e,n,ne,nf,d⟩
 ·have hfn:X.fn x=true:=by
   rcases hf with z | z
   ·exact z
   ·rw [z] at hk;cases hk
  obtain ⟨c,hc⟩:=I.ok.has x (.inl hk)
  obtain ⟨w',z⟩:=I.cell x c hc
  refine wpAny_storeName_cell I.ok.kind hk hc z (λh' hc' hs=>?_)
  obtain ⟨oc,hoc,hocd⟩:=id z
  refine h { s with heap:=h' } ⟨I.ok,I.os,I.bare,⟨λb o e n hb hx=>?_,λb o e n hb hx=>?_,I.base.free,λb o e hx=>?_,I.base.tups,I.base.frzs,I.base.tbls⟩,⟨m,hn.sameBut hs (Ne.symm (cne x c hc)),λj y v' e1 e2 e3=>?_⟩,λy c' e=>?_,I.free,I.freeC,λp hp=>?_,tracked ⟨oc,hoc,I.freeC x c hc⟩ hs,by simpa using I.len⟩ ⟨c,hs,.inr hc⟩
  ·exact (hs.2 b (Nat.ne_of_lt (Nat.lt_of_lt_of_le (Heap.lt_size e) (I.ok.cab x c hfn hc)))).trans (I.base.keep b o e n hb hx)
  ·obtain ⟨sl,e1⟩:=I.base.slot b o e n hb hx
   exact ⟨sl,(hs.2 b (Nat.ne_of_lt (Nat.lt_of_lt_of_le (Heap.lt_size e) (I.ok.cab x c hfn hc)))).trans e1⟩
  ·obtain ⟨o',e1⟩:=I.base.there b o e hx
   exact ⟨o',(hs.2 b (Nat.ne_of_lt (Nat.lt_of_lt_of_le (Heap.lt_size e) (I.ok.cab x c hfn hc)))).trans e1⟩
  ·by_cases hj:j=i
   ·subst hj
    rw [hi] at e1;cases e1
    rw [List.getElem?_set_self hiσ] at e2
    cases e2
    exact ⟨u,r,.inr ⟨.inl hk,c,hc,hc'⟩⟩
   ·rw [List.getElem?_set_ne (Ne.symm hj)] at e2
    obtain ⟨u',r',q⟩:=hl j y v' e1 e2 e3
    refine ⟨u',r',?_⟩
    rcases q with q | ⟨k,c',e,z'⟩
    ·exact .inl q
    ·refine .inr ⟨k,c',e,z'.sameBut hs ?_⟩
     rintro rfl
     exact hj (ZfW hN e1 (I.ok.inj _ _ _ e hc▸hi))
  ·by_cases hcc:c'=c
   ·subst hcc;exact ⟨_,hc'⟩
   ·obtain ⟨w2,z2⟩:=I.cell y c' e
    exact ⟨w2,z2.sameBut hs hcc⟩
  ·obtain ⟨e,n,ne,nf,d⟩:=I.pin p hp
   refine ⟨(hs.2 p.1 ?_).trans e,n,ne,nf,d⟩
   intro q
   rw [q,hoc] at e
   have q':oc=p.2:=Option.some.inj e
   exact d w' (by rw [<- q'];exact hocd)
theorem ZdM {M:Model} {A:Around} {E:Value->Shared->Prop} {i:Nat} {x:Str} {v:V} {u:Value} {Q:Unit->Shared->Prop} (I:Inv X pins σ H s) (hN:X.N.Nodup) (hi:X.N[i]?=some x) (hx:Loc X.env.scope x) (r:RelV v u)
  (h:∀ s',Inv X pins (σ.set i (some v)) H s'->Q () s') (hf:X.fn x=true\/X.env.scope.names.lookup x=some .local:=by first | exact .inl rfl | exact .inr rfl | assumption):wpAny M A (storeName X.env x u) Q E s :=
 ZgU I hN hi hx r (λs' I' _=>h s' I') hf
theorem Inv.call' {s':Shared} {ch:List Addr} (I:Inv X pins σ H s) (ho:s'.os=s.os) (u:Un (frs X.stack) ch H H' s.heap s'.heap) (hok:HOk X.prog X.w H' s'.heap) (hg:AllBare s'.gens)
  (hch:∀ b∈ch,(b∈X.ex\/X.s₀.heap.objs.size<=b)/\b≠X.env.locals/\(∀ x c,X.env.cells.lookup x=some c->c≠b)/\∀ p∈X.pn++pins,p.1≠b):Inv X pins σ H' s':=by
 obtain ⟨h',g',d',t',o'⟩:=s'
 have e:o'=s.os:=ho
 subst e
 exact I.call (g':=g') (t':=t') (d':=d') u hok hg hch
end

abbrev XK:=Value->Option Addr->Hp->Prop
abbrev St:=List (Option V)
abbrev VK:=V->Hp->Prop
abbrev TE:=St->Hp->VK->Prop
abbrev TT:=St->Hp->(Bool->Hp->Prop)->Prop
abbrev TA:=St->Hp->(List V->Hp->Prop)->Prop
set_option genInjectivity false in
structure Ends where
 nx:St->Hp->Prop
 rt:VK
 bk:St->Hp->Prop:=λ_ _=>False
 ct:St->Hp->Prop:=λ_ _=>False
abbrev TS:=Ends->St->Hp->Prop

def EP (X:Cx) (pins:List (Addr×Obj)) (σ:St) (Q:VK) (u:Value) (s':Shared):Prop:=∃ v H',Inv X pins σ H' s'/\RelV v u/\Q v H'
def TP (X:Cx) (pins:List (Addr×Obj)) (σ:St) (Q:Bool->Hp->Prop) (b:Bool) (s':Shared):Prop:=∃ H',Inv X pins σ H' s'/\Q b H'
def AP (X:Cx) (pins:List (Addr×Obj)) (σ:St) (Q:List V->Hp->Prop) (us:List Value) (s':Shared):Prop:=∃ vs H',Inv X pins σ H' s'/\Vals vs us/\Q vs H'
def SP (X:Cx) (pins:List (Addr×Obj)) (D:Ends) (f:Flow) (s':Shared):Prop :=
 match f with
 |.next=>∃ σ' H',Inv X pins σ' H' s'/\D.nx σ' H'
 |.brk=>∃ σ' H',Inv X pins σ' H' s'/\D.bk σ' H'
 |.cont=>∃ σ' H',Inv X pins σ' H' s'/\D.ct σ' H'
 |.ret u=>∃ v σ' H',Inv X pins σ' H' s'/\RelV v u/\D.rt v H'

def PE (X:Cx) (e:Expr) (t:TE):Prop :=
 ∀ (pins:List (Addr×Obj)) (s:Shared) (σ:St) (H:Hp) (Q:VK),Inv X pins σ H s->t σ H Q->wpAny (model X.prog X.w) X.A (eval e X.env) (EP X pins σ Q) X.xe s
def PT (X:Cx) (e:Expr) (t:TT):Prop :=
 ∀ (pins:List (Addr×Obj)) (s:Shared) (σ:St) (H:Hp) (Q:Bool->Hp->Prop),Inv X pins σ H s->t σ H Q->wpAny (model X.prog X.w) X.A (isTrue e X.env (eval e X.env)) (TP X pins σ Q) X.xe s
def PW (X:Cx) (e:Expr) (t:TT):Prop :=
 ∀ (whole:Sem Value) (pins:List (Addr×Obj)) (s:Shared) (σ:St) (H:Hp) (Q:Bool->Hp->Prop),Inv X pins σ H s->t σ H Q->wpAny (model X.prog X.w) X.A (isTrue e X.env whole) (TP X pins σ Q) X.xe s
theorem PW.pt {X:Cx} {e:Expr} {t:TT} (h:PW X e t):PT X e t:=h _
def PA (X:Cx) (es:List Expr) (t:TA):Prop :=
 ∀ (pos:Pos) (pins:List (Addr×Obj)) (s:Shared) (σ:St) (H:Hp) (Q:List V->Hp->Prop),Inv X pins σ H s->t σ H Q->wpAny (model X.prog X.w) X.A (spliced (backTo pos (starEach es X.env))) (AP X pins σ Q) X.xe s
def PS (X:Cx) (st:Stmt) (t:TS):Prop :=
 ∀ (pins:List (Addr×Obj)) (s:Shared) (σ:St) (H:Hp) (D:Ends),Inv X pins σ H s->t D σ H->wpAny (model X.prog X.w) X.A (exec st X.env) (SP X pins D) X.xe s
def PSs (X:Cx) (st:List Stmt) (t:TS):Prop :=
 ∀ (pins:List (Addr×Obj)) (s:Shared) (σ:St) (H:Hp) (D:Ends),Inv X pins σ H s->t D σ H->wpAny (model X.prog X.w) X.A (execs st X.env) (SP X pins D) X.xe s
theorem thn {α:Type} {t:Sem α} {Q Q':α->Shared->Prop} {M:Model} {A:Around} {E:Value->Shared->Prop} {s:Shared} (h:wpAny M A t Q E s) (hQ:∀ a s,Q a s->Q' a s):wpAny M A t Q' E s:=wpAny_mono h hQ λ_ _ x=>x
end L2

namespace L2
open PySem PySem.Spec PyProof.Rows
section
variable {X:Cx}

def tVar (i:Nat):TE:=λσ H Q=>∃ v,σ[i]?=some (some v)/\Q v H
def tC (v:V):TE:=λ_ H Q=>Q v H
theorem Zln {i:Nat} {x:Str} {pos:Pos} (hN:X.N[i]?=some x) (hv:Vis X.env.scope x) (hd:(x == ("__debug__":Str))=false:=by decide) (hcd:(x == ("__classdict__":Str))=false:=by decide):PE X (.Name x pos) (tVar i):=by
 intro pins s σ H Q I h
 obtain ⟨v,e,h⟩:=h
 obtain ⟨m,hn,hl⟩:=I.loc
 obtain ⟨u,r,l⟩:=hl i x v hN e hv
 have fin:EP X pins σ Q u s:=⟨v,H,I,r,h⟩
 rcases l with ⟨hk,hm⟩ | ⟨hk,c,hc,hcell⟩
 ·exact wpAny_Name (wpAny_loadName_local I.ok.kind hk hn hm fin) hd
 ·rcases hk with hk | hk
  ·exact wpAny_Name (wpAny_loadName_cell I.ok.kind hk hc hcell fin) hd
  ·exact wpAny_Name (wpAny_loadName_free I.ok.kind hk hc hcell fin hcd) hd
theorem Zaf {i j pos}:PE X (.Constant (.int i) j pos) (tC (.int i)):=λ_ _ _ H _ I h=>wpAny_Constant_int ⟨.int i,H,I.tok _,⟨_,rfl⟩,h⟩
theorem Zc8 {b j pos}:PE X (.Constant (.bool b) j pos) (tC (.bl b)):=λ_ _ _ H _ I h=>Constant_bool ⟨.bl b,H,I,rfl,h⟩
theorem ZbS {j pos}:PE X (.Constant .none j pos) (tC .non):=λ_ _ _ H _ I h=>Constant_none ⟨.non,H,I,rfl,h⟩
theorem Zag {x j pos}:PE X (.Constant (.str x) j pos) (tC (.str x)):=λ_ _ _ H _ I h=>Calls.Constant_str ⟨.str x,H,I.tok _,⟨_,rfl⟩,h⟩

def Gl (X:Cx) (x:Str):Prop:=X.env.kindOf x=some .globalImplicit
theorem ZbE {E:Value->Shared->Prop} {pins:List (Addr×Obj)} {s:Shared} {σ:St} {H:Hp} {x:Str} {u:Value} {pos:Pos} {Q:Value->Shared->Prop} (I:Inv X pins σ H s) (hg:Gl X x) (hm:X.mg x=some u) (h:Q u s)
  (hd:(x == ("__debug__":Str))=false:=by decide):wpAny (model X.prog X.w) X.A (eval (.Name x pos) X.env) Q E s :=
 Calls.Name_function_global I.ok.kind hg (Calls.loadGlobal_global (by rw [I.ok.glob];exact I.mod.glob.keeps I.bk) hm h) hd
theorem ZdA {E:Value->Shared->Prop} {pins:List (Addr×Obj)} {s:Shared} {σ:St} {H:Hp} {x:Str} {u:Value} {pos:Pos} {Q:Value->Shared->Prop} (I:Inv X pins σ H s) (hg:Gl X x) (hm:X.mg x=none) (hv:bootBuiltins x=some u) (h:Q u s)
  (hn:x≠"__name__":=by decide) (hd:(x == ("__debug__":Str))=false:=by decide):wpAny (model X.prog X.w) X.A (eval (.Name x pos) X.env) Q E s:=by
 obtain ⟨mb,h1,h2⟩:=I.mod.blt
 exact Calls.Name_function_global I.ok.kind hg (Calls.loadGlobal_builtin (by rw [I.ok.glob];exact I.mod.glob.keeps I.bk) hm (by rw [I.ok.blt];exact h1.keeps I.bk) ((h2 x hn).trans hv) h) hd
theorem Zkw {x:Str} {v:V} {u:Value} {pos:Pos} (hg:Gl X x) (hm:X.mg x=none) (hv:bootBuiltins x=some u) (r:RelV v u) (hn:x≠"__name__":=by decide) (hd:(x == ("__debug__":Str))=false:=by decide):PE X (.Name x pos) (tC v) :=
 λ_ _ _ H _ I h=>ZdA I hg hm hv ⟨v,H,I,r,h⟩ hn hd

variable {a b:Expr} {ta tb:TE} {pos:Pos}
def PC (X:Cx) (op:CmpOp) (a b:Expr) (t:TE):Prop :=
 ∀ (pins:List (Addr×Obj)) (s:Shared) (σ:St) (H:Hp) (Q:VK),Inv X pins σ H s->t σ H Q ->
  wpAny (model X.prog X.w) X.A (eval a X.env) (λv s₁=>wpAny (model X.prog X.w) X.A (eval b X.env) (λu s₂=>wpAny (model X.prog X.w) X.A (compareOp op v u) (EP X pins σ Q) X.xe s₂) X.xe s₁) X.xe s
theorem Zi4 (b:Expr) {op:CmpOp} (h:op≠.In) (h2:op≠.NotIn):behindInMarks op b=false:=by
 have e1:(op == CmpOp.In)=false:=by cases op<;>first | rfl | exact absurd rfl h
 have e2:(op == CmpOp.NotIn)=false:=by cases op<;>first | rfl | exact absurd rfl h2
 cases b<;>simp [behindInMarks,e1,e2]
def tB (t:TE):TT:=λσ H Q=>t σ H λx H1=>∃ c,x=.bl c/\Q c H1
theorem ZbQ {op:CmpOp} {t:TE} (h:PC X op a b t) (h1:behindInMarks op b=false:=by first | exact Zi4 _ (by decide) (by decide) | rfl):PT X (.Compare a [op] [b] pos) (tB t):=by
 intro pins s σ H Q I hw
 refine wpAny_isTrue_Compare1 (thn (h pins s σ H _ I hw) λv s1 h1=>thn h1 λu s2 h2=>thn h2 λc s3 ⟨x,H1,I1,r1,q1⟩=>?_) h1
 obtain ⟨d,rfl,q⟩:=q1
 cases r1
 exact wpAny_truthy_bool ⟨H1,I1,q⟩
theorem ZfO {e:Expr} {t:TE} (h:PE X e t) (he:∀ whole,isTrue e X.env whole=(do let v <- whole;standAt e.pos;holding [v] (truthy v)):=by intro _;rfl):PT X e (tB t):=by
 intro pins s σ H Q I hw
 refine isTrue_plain (thn (h pins s σ H _ I hw) λv s1 ⟨x,H1,I1,r1,q1⟩=>?_) (he _)
 obtain ⟨d,rfl,q⟩:=q1
 cases r1
 exact wpAny_truthy_bool ⟨H1,I1,q⟩

variable {tA tB':TT} {rest:List Expr}
def tAnd (t u:TT):TT:=λσ H Q=>t σ H λc H1=>if c=true then u σ H1 Q else Q false H1
def tOr (t u:TT):TT:=λσ H Q=>t σ H λc H1=>if c=true then Q true H1 else u σ H1 Q
def tNot (t:TT):TT:=λσ H Q=>t σ H λc H1=>Q (!c) H1
theorem Zhm (ha:PT X a tA):PW X (.BoolOp .And [a] pos) tA:=by
 intro wh pins s σ H Q I h
 refine isTrue_and (thn (ha pins s σ H Q I h) λc s1 e=>?_)
 cases c with
 |true=>exact isTrue_and_nil e
 |false=>exact e
theorem Zc6 (ha:PT X a tA):PW X (.BoolOp .Or [a] pos) tA:=by
 intro wh pins s σ H Q I h
 refine isTrue_or (thn (ha pins s σ H Q I h) λc s1 e=>?_)
 cases c with
 |false=>exact isTrue_or_nil e
 |true=>exact e
theorem ZjM (ha:PT X a tA) (hb:PW X (.BoolOp .And (b::rest) pos) tB'):PW X (.BoolOp .And (a::b::rest) pos) (tAnd tA tB'):=by
 intro wh pins s σ H Q I h
 refine isTrue_and (thn (ha pins s σ H _ I h) λc s1 ⟨H1,I1,q1⟩=>?_)
 cases c with
 |true=>exact hb wh pins s1 σ H1 Q I1 q1
 |false=>exact ⟨H1,I1,q1⟩
theorem Ze0 (ha:PT X a tA) (hb:PW X (.BoolOp .Or (b::rest) pos) tB'):PW X (.BoolOp .Or (a::b::rest) pos) (tOr tA tB'):=by
 intro wh pins s σ H Q I h
 refine isTrue_or (thn (ha pins s σ H _ I h) λc s1 ⟨H1,I1,q1⟩=>?_)
 cases c with
 |true=>exact ⟨H1,I1,q1⟩
 |false=>exact hb wh pins s1 σ H1 Q I1 q1
theorem Zll (ha:PT X a tA):PT X (.UnaryOp .Not a pos) (tNot tA):=by
 intro pins s σ H Q I h
 exact isTrue_not (ha pins s σ H (λc H1=>Q (!c) H1) I h)
def ZiK (ta tb:TE):TE:=λσ H Q=>ta σ H λx H1=>∃ c,x=.bl c/\if c=true then tb σ H1 Q else Q (.bl false) H1
def tOrV (ta tb:TE):TE:=λσ H Q=>ta σ H λx H1=>∃ c,x=.bl c/\if c=true then Q (.bl true) H1 else tb σ H1 Q
def Zkc (ta:TE):TE:=λσ H Q=>ta σ H λx H1=>∃ c,x=.bl c/\Q (.bl (!c)) H1
theorem Zlo {op} {t:TE} (h:PE X a t):PE X (.BoolOp op [a] pos) t:=λpins s σ H Q I hw=>BoolOp_one (h pins s σ H Q I hw)
theorem ZjP (ha:PE X a ta) (hb:PE X (.BoolOp .And (b::rest) pos) tb):PE X (.BoolOp .And (a::b::rest) pos) (ZiK ta tb):=by
 intro pins s σ H Q I h
 refine BoolOp_and (thn (ha pins s σ H _ I h) λv s1 ⟨x,H1,I1,r1,q1⟩=>?_)
 obtain ⟨c,rfl,q1⟩:=q1
 cases r1
 refine wpAny_truthy_bool ?_
 cases c with
 |true=>exact hb pins s1 σ H1 Q I1 q1
 |false=>exact ⟨.bl false,H1,I1,rfl,q1⟩
def tIf (t:TT) (ta tb:TE):TE:=λσ H Q=>t σ H λc H1=>if c=true then ta σ H1 Q else tb σ H1 Q
end
end L2

namespace L2
open PySem PySem.Spec PyProof.Rows

def SqL (K:PySem.W.Frag) (H:Hp) (a:Addr) (xs:List V):Prop :=
 Rd H a (.lst xs) \/
  ∃ (o:Obj) (its:Array Value) (n:Nat),K.lookup a=some o/\o.cls=.type "list"/\o.dict=none/\o.data=.seq its n/\its.size<=sizeLine/\Vals xs its.toList
def SqT (K:PySem.W.Frag) (H:Hp) (a:Addr) (xs:List V):Prop :=
 Rd H a (.tup xs) \/
  ∃ (o:Obj) (its:Array Value) (n:Nat),K.lookup a=some o/\o.cls=.type "tuple"/\o.data=.seq its n/\its.size<=sizeLine/\Vals xs its.toList
def absV:Value->Option V
 |.none=>some .non
 |.bool b=>some (.bl b)
 |.int i _=>some (.int i)
 |.str x _=>some (.str x)
 |.bytes b _=>some (.byt b)
 |.float b _=>some (.flt b)
 |.ref a=>some (.ref a)
 |.type n=>some (.ty n)
 |_=>none
theorem RelV.abs {x:V} {u:Value} (r:RelV x u):absV u=some x:=by
 cases x with
 |non=>cases r;rfl
 |bl _=>cases r;rfl
 |int _=>obtain ⟨t,rfl⟩:=r;rfl
 |str _=>obtain ⟨t,rfl⟩:=r;rfl
 |byt _=>obtain ⟨t,rfl⟩:=r;rfl
 |flt _=>obtain ⟨t,rfl⟩:=r;rfl
 |ref _=>cases r;rfl
 |ty _=>cases r;rfl
theorem RelV.inj {x y:V} {u:Value} (r:RelV x u) (q:RelV y u):x=y:=Option.some.inj (r.abs.symm.trans q.abs)
theorem Vals.inj:∀ {xs ys:List V} {us:List Value},Vals xs us->Vals ys us->xs=ys
 |_,_,_,.nil,.nil=>rfl
 |_,_,_,.cons r t,.cons r' t'=>by rw [r.inj r',Vals.inj t t']
section
variable {X:Cx} {pins:List (Addr×Obj)} {σ:St} {H:Hp} {s:Shared} {a:Addr} {xs ys:List V}
theorem SqL.of {K:PySem.W.Frag} (h:H a=some (.lst xs)):SqL K H a xs:=.inl (.inl h)
theorem SqT.of {K:PySem.W.Frag} (h:H a=some (.tup xs)):SqT K H a xs:=.inl (.inl h)
theorem Inv.list (I:Inv X pins σ H s) (h:SqL X.K H a xs):∃ its:List Value,Vals xs its/\PlainL s.heap a its.toArray/\xs.length<=sizeLine:=by
 rcases h with h | ⟨o,its,n,hk,hc,hd,hs,hz,r⟩
 ·obtain ⟨z,its,n,r,e⟩:=h.ok I.hok
  exact ⟨its,r,⟨_,n,e,rfl,rfl,rfl⟩,z⟩
 ·refine ⟨its.toList,r,⟨o,n,I.kIn a o hk,hc,hd,by simpa using hs⟩,?_⟩
  have e:=r.length
  simp only [Array.length_toList] at e
  omega
theorem Inv.tuple (I:Inv X pins σ H s) (h:SqT X.K H a xs):∃ its:List Value,Vals xs its/\IsTup s.heap a its.toArray/\xs.length<=sizeLine:=by
 rcases h with h | ⟨o,its,n,hk,hc,hs,hz,r⟩
 ·obtain ⟨z,its,r,p⟩:=h.ok I.hok
  exact ⟨its,r,p,z⟩
 ·refine ⟨its.toList,r,⟨o,I.kIn a o hk,hc,n,by simpa using hs⟩,?_⟩
  have e:=r.length
  simp only [Array.length_toList] at e
  omega
theorem Inv.list_inj (I:Inv X pins σ H s) (h:SqL X.K H a xs) (h':SqL X.K H a ys):xs=ys:=by
 obtain ⟨its,r,⟨o,n,e,_,_,d⟩,_⟩:=I.list h
 obtain ⟨its',r',⟨o',n',e',_,_,d'⟩,_⟩:=I.list h'
 rw [e] at e';cases e'
 rw [d] at d'
 injection d' with d1 _
 have:its=its':=by simpa using congrArg Array.toList d1
 subst this
 exact r.inj r'
end

abbrev Cx.wish (X:Cx) (E:Value->Shared->Prop):Cx:={ X with xe:=E }
abbrev Cx.nox (X:Cx):Cx:=X.wish λ_ _=>False
theorem Cx.Ok.wish {X:Cx} (ok:X.Ok) (E:Value->Shared->Prop):(X.wish E).Ok :=
 ⟨ok.mod,ok.kind,ok.glob,ok.blt,ok.above,ok.inj,ok.has,ok.cab,ok.hd,ok.frames,ok.stk,ok.exf,ok.bs,ok.bsz,ok.noex,ok.exfs,ok.funs,ok.frf⟩
theorem Cx.Ok.unwish {X:Cx} {E:Value->Shared->Prop} (ok:(X.wish E).Ok):X.Ok :=
 ⟨ok.mod,ok.kind,ok.glob,ok.blt,ok.above,ok.inj,ok.has,ok.cab,ok.hd,ok.frames,ok.stk,ok.exf,ok.bs,ok.bsz,ok.noex,ok.exfs,ok.funs,ok.frf⟩
section
variable {X:Cx} {pins:List (Addr×Obj)} {σ:St} {H:Hp} {s:Shared} {E:Value->Shared->Prop}
theorem Inv.wish (I:Inv X pins σ H s) (E:Value->Shared->Prop):Inv (X.wish E) pins σ H s:=⟨I.ok.wish E,I.os,I.bare,I.base,I.loc,I.cell,I.free,I.freeC,I.pin,I.hok,I.len⟩
theorem Inv.unwish (I:Inv (X.wish E) pins σ H s):Inv X pins σ H s:=⟨I.ok.unwish,I.os,I.bare,I.base,I.loc,I.cell,I.free,I.freeC,I.pin,I.hok,I.len⟩
theorem SP.unwish {D:Ends} {f:Flow} {s':Shared} (h:SP (X.wish E) pins D f s'):SP X pins D f s':=by
 cases f with
 |next=>obtain ⟨σ',H',I,q⟩:=h;exact ⟨σ',H',I.unwish,q⟩
 |brk=>obtain ⟨σ',H',I,q⟩:=h;exact ⟨σ',H',I.unwish,q⟩
 |cont=>obtain ⟨σ',H',I,q⟩:=h;exact ⟨σ',H',I.unwish,q⟩
 |ret u=>obtain ⟨v,σ',H',I,r,q⟩:=h;exact ⟨v,σ',H',I.unwish,r,q⟩
theorem PSs.nox {st:List Stmt} {t:TS} (h:PSs X.nox st t):PSs X st t:=λpins s σ H D I hw =>
 wpAny_mono (h pins s σ H D (I.wish _) hw) (λ_ _ q=>q.unwish) λ_ _ z=>False.elim z
end

section
variable {X:Cx} {st:Stmt} {rest:List Stmt} {t u:TS} {e:Expr} {te:TE} {pos:Pos}
def ZiF:TS:=λD σ H=>D.nx σ H
def tSeq (t u:TS):TS:=λD σ H=>t { D with nx:=u D } σ H
theorem Zas:PSs X [] ZiF:=λ_ _ σ H _ I h=>wpAny_execs_nil ⟨σ,H,I,h⟩
theorem Zad (h1:PS X st t) (h2:PSs X rest u):PSs X (st::rest) (tSeq t u):=by
 intro pins s σ H D I h
 refine wpAny_execs_cons (thn (h1 pins s σ H { D with nx:=u D } I h) λf s1 q=>?_)
 cases f with
 |next =>
  obtain ⟨σ',H',I',q⟩:=q
  exact h2 pins s1 σ' H' D I' q
 |ret v=>exact q
 |brk=>exact q
 |cont=>exact q
theorem Zah (h1:PS X st t):PSs X [st] t:=by
 intro pins s σ H D I h
 refine wpAny_execs_cons (thn (h1 pins s σ H D I h) λf s1 q=>?_)
 cases f with
 |next=>exact wpAny_execs_nil q
 |ret v=>exact q
 |brk=>exact q
 |cont=>exact q
theorem Inv.quiet {pins:List (Addr×Obj)} {σ:St} {H:Hp} {s:Shared} (I:Inv X pins σ H s):interactive X.env=false:=by simp [interactive,I.ok.kind]
def ZiG (te:TE):TS:=λD σ H=>te σ H λ_ H1=>D.nx σ H1
theorem ZaW (he:PE X e te) (hs:swapsWith e none pos.line X.env=pure false:=by rfl):PS X (.Expr e pos) (ZiG te):=by
 intro pins s σ H D I h
 exact wpAny_Expr_any (thn (he pins s σ H _ I h) λv s1 ⟨x,H1,I1,r1,q1⟩=>⟨σ,H1,I1,q1⟩) I.quiet hs
def tRet (te:TE):TS:=λD σ H=>te σ H D.rt
theorem Zao (he:PE X e te):PS X (.Return (some e) pos) (tRet te):=by
 intro pins s σ H D I h
 exact wpAny_Return_some (thn (he pins s σ H _ I h) λv s1 ⟨x,H1,I1,r1,q1⟩=>⟨x,σ,H1,I1,r1,q1⟩)
def Zkb:TS:=λD _ H=>D.rt .non H
def tIfS (c:TT) (t u:TS):TS:=λD σ H=>c σ H λb H1=>if b=true then t D σ H1 else u D σ H1
theorem ZaK {c:Expr} {a b:List Stmt} {tc:TT} (hc:PT X c tc) (ha:PSs X a t) (hb:PSs X b u):PS X (.If c a b pos) (tIfS tc t u):=by
 intro pins s σ H D I h
 refine wpAny_If (thn (hc pins s σ H _ I h) λd s1 ⟨H1,I1,q1⟩=>?_)
 cases d with
 |true=>exact ha pins s1 σ H1 D I1 q1
 |false=>exact hb pins s1 σ H1 D I1 q1
def ZgP:TS:=λ_ _ _=>False
end

abbrev TG:=V->St->Hp->(St->Hp->Prop)->Prop
abbrev TGs:=List V->St->Hp->(St->Hp->Prop)->Prop
def PG (X:Cx) (target:Expr) (t:TG):Prop :=
 ∀ (pins:List (Addr×Obj)) (s:Shared) (σ:St) (H:Hp) (v:V) (u:Value) (Q:St->Hp->Prop),Inv X pins σ H s->RelV v u->t v σ H Q ->
  wpAny (model X.prog X.w) X.A (assign target X.env u) (λ_ s'=>∃ σ' H',Inv X pins σ' H' s'/\Q σ' H') X.xe s
def PGs (X:Cx) (ts:List Expr) (t:TGs):Prop :=
 ∀ (pins:List (Addr×Obj)) (s:Shared) (σ:St) (H:Hp) (vs:List V) (us:List Value) (Q:St->Hp->Prop),Inv X pins σ H s->Vals vs us->t vs σ H Q ->
  wpAny (model X.prog X.w) X.A (assignInOrder ((assignEach ts X.env).map (·.2)) us) (λ_ s'=>∃ σ' H',Inv X pins σ' H' s'/\Q σ' H') X.xe s
section
variable {X:Cx} {pos:Pos}
def Zez (i:Nat):TG:=λv σ H Q=>Q (σ.set i (some v)) H
theorem ZaG {i:Nat} {x:Str} (hN:X.N.Nodup) (hi:X.N[i]?=some x) (hx:Loc X.env.scope x) (hf:X.fn x=true\/X.env.scope.names.lookup x=some .local:=by first | exact .inl rfl | exact .inr rfl | assumption):PG X (.Name x pos) (Zez i):=by
 intro pins s σ H v u Q I r h
 exact wpAny_assign_Name (ZdM I hN hi hx r (λs' I'=>⟨_,H,I',h⟩) hf)
def gNil:TGs:=λvs σ H Q=>vs=[]/\Q σ H
def ZkQ (t:TG) (u:TGs):TGs:=λvs σ H Q=>∃ v r,vs=v::r/\t v σ H λσ' H'=>u r σ' H' Q
theorem ZdU:PGs X [] gNil:=by
 intro pins s σ H vs us Q I r h
 obtain ⟨e,h⟩:=h
 subst e
 cases r
 exact assignInOrder_nil ⟨σ,H,I,h⟩
theorem Zbm {e:Expr} {es:List Expr} {t:TG} {u:TGs} (h1:PG X e t) (h2:PGs X es u)
  (hs:(assignEach (e::es) X.env).map (·.2)=assign e X.env::(assignEach es X.env).map (·.2):=by rfl):PGs X (e::es) (ZkQ t u):=by
 intro pins s σ H vs us Q I r h
 obtain ⟨v,vr,e1,h⟩:=h
 subst e1
 cases r with
 |cons r rr =>
  rw [hs]
  refine assignInOrder_cons (thn (h1 pins s σ H _ _ _ I r h) λ_ s1 ⟨σ1,H1,I1,q1⟩=>?_)
  exact h2 pins s1 σ1 H1 _ _ Q I1 rr q1
def gTup (K:PySem.W.Frag) (n:Nat) (t:TGs):TG:=λv σ H Q=>∃ a xs,v=.ref a/\SqT K H a xs/\xs.length=n/\t xs σ H Q
theorem ZfP {es:List Expr} {k:Nat} {t:TGs} {n:Nat} (hc:X.calm=true) (h:PGs X es t)
  (hn:(assignEach es X.env).length=n:=by rfl) (hst:(assignEach es X.env).findIdx? (·.1)=none:=by rfl):PG X (.Tuple es k pos) (gTup X.K n t):=by
 intro pins s σ H v u Q I r hw
 obtain ⟨a,xs,e1,hq,hl,hw⟩:=hw
 subst e1
 cases r
 obtain ⟨its,rv,ht,hz⟩:=I.tuple hq
 refine assign_Tuple_tuple (I.ok.hd hc) ht (by simp [hn,<- hl,rv.length]) hst λh' hx=>?_
 have I1:Inv X pins σ H { s with heap:=h' }:=I.kept (t':=s.toks) λb o e=>hx b o (Nat.ne_of_lt (Heap.lt_size e)) e
 exact h pins _ σ H xs _ Q I1 (by simpa using rv) hw
def tAsg (te:TE) (g:TG):TS:=λD σ H=>te σ H λx H1=>g x σ H1 D.nx
theorem Zax {i:Nat} {x:Str} {e:Expr} {te:TE} {pos':Pos} (hN:X.N.Nodup) (hi:X.N[i]?=some x) (hx:Loc X.env.scope x) (he:PE X e te) (hs:swapsWith e (some (.Name x pos')) pos.line X.env=pure false:=by rfl) (hf:X.fn x=true\/X.env.scope.names.lookup x=some .local:=by first | exact .inl rfl | exact .inr rfl | assumption) :
  PS X (.Assign [.Name x pos'] e pos) (tAsg te (Zez i)):=by
 intro pins s σ H D I h
 refine wpAny_Assign_Name (thn (he pins s σ H _ I h) λv s1 ⟨y,H1,I1,r1,q1⟩=>?_) hs
 exact ZdM I1 hN hi hx r1 (λs2 I2=>⟨_,H1,I2,q1⟩) hf
end

section
variable {X:Cx} {pos:Pos}
end

set_option genInjectivity false in
structure It where
 go:Nat->Hp->Prop
 yld:Nat->Hp->V->Hp->Prop
 stop:Nat->Hp->Prop
def FpOk (X:Cx) (pins:List (Addr×Obj)) (H:Hp) (b:Addr):Prop :=
 H b=none/\b≠X.env.locals/\b∉X.fs/\(b∈X.ex\/X.s₀.heap.objs.size<=b)/\(∀ x c,X.env.cells.lookup x=some c->c≠b)/\∀ p∈X.pn++pins,p.1≠b
theorem Inv.fpOk {X:Cx} {pins:List (Addr×Obj)} {σ:St} {H H':Hp} {s:Shared} {b:Addr} (I:Inv X pins σ H s) (hb:s.heap.objs.size<=b) (hn:H' b=none):FpOk X pins H' b:=by
 refine ⟨hn,Nat.ne_of_gt (Nat.lt_of_lt_of_le I.lt hb),I.nofs hb,.inr (Nat.le_trans I.sz hb),λx c e z=>?_,λp hp z=>?_⟩
 ·obtain ⟨v,q⟩:=I.cell x c e
  exact absurd (Nat.lt_of_lt_of_le q.lt (by rw [z];exact hb)) (Nat.lt_irrefl _)
 ·exact absurd (Nat.lt_of_lt_of_le (Heap.lt_size (I.pin p hp).1) (by rw [z];exact hb)) (Nat.lt_irrefl _)
structure Turn (P:Program) (w:World) (K:PySem.W.Frag) (tg:Expr) (J:It) (fp:List Addr) (it:Addr) (tn:Nat->Heap->Prop):Prop where
 mem:it∈fp
 obj:∀ i h,tn i h->∀ b∈fp,∃ o,h.get? b=some o/\∀ v,o.data≠.cell v
 keep:∀ i h h',tn i h->(∀ b∈fp,∀ o,h.get? b=some o->h'.get? b=some o)->tn i h'
 item:∀ (X:Cx),X.prog=P->X.w=w->X.K=K->X.calm=true->∀ (i:Nat) (pins:List (Addr×Obj)) (s:Shared) (σ:St) (H:Hp) (E:Value->Shared->Prop),Inv X pins σ H s->(∀ b∈fp,FpOk X pins H b)->tn i s.heap->J.go i H ->
  wpAny (model P w) X.A (pyNext (.ref it)) (λr s1=>∃ u,r=some u /\
   wpAny (model P w) X.A (letOwnedTupleGo tg (.ref it) u) (λ_ s2=>∃ x H',Inv X pins σ H' s2/\RelV x u/\J.yld i H x H'/\tn (i+1) s2.heap/\∀ b∈fp,H' b=none) E s1) E s
 done:∀ (X:Cx),X.prog=P->X.w=w->X.K=K->X.calm=true->∀ (i:Nat) (pins:List (Addr×Obj)) (s:Shared) (σ:St) (H:Hp) (E:Value->Shared->Prop),Inv X pins σ H s->(∀ b∈fp,FpOk X pins H b)->tn i s.heap->J.stop i H ->
  wpAny (model P w) X.A (pyNext (.ref it)) (λr s1=>r=none/\Inv X pins σ H s1) E s
 self:∀ (A:Around) (i:Nat) (s:Shared) (Q:Value->Shared->Prop) (E:Value->Shared->Prop),tn i s.heap->Q (.ref it) s->wpAny (model P w) A (pyIter (.ref it)) Q E s
abbrev TI:=St->Hp->(It->Hp->Prop)->Prop
def PIE (X:Cx) (pins:List (Addr×Obj)) (σ:St) (tg:Expr) (R:It->Hp->Prop) (itv:Value) (s2:Shared):Prop :=
 ∃ (it:Addr) (fp:List Addr) (tn:Nat->Heap->Prop) (J:It) (H':Hp),itv=.ref it/\Inv X pins σ H' s2/\Turn X.prog X.w X.K tg J fp it tn/\tn 0 s2.heap/\(∀ b∈fp,FpOk X pins H' b)/\R J H'
def PI (X:Cx) (tg iter:Expr) (wi:TI):Prop :=
 ∀ (pins:List (Addr×Obj)) (s:Shared) (σ:St) (H:Hp) (R:It->Hp->Prop),Inv X pins σ H s->wi σ H R ->
  wpAny (model X.prog X.w) X.A (eval iter X.env) (λv s1=>wpAny (model X.prog X.w) X.A (pyIter v) (PIE X pins σ tg R) X.xe s1) X.xe s

theorem ZhW {M:Model} {A:Around} {E:Value->Shared->Prop} {s:Shared} {tg:Expr} {it:Addr} {u:Value} {o:Obj} {n:String} {vs:Array Value} {Q:Unit->Shared->Prop} (ho:s.heap.get? it=some o) (hc:o.cls=.type n) (hd:o.data=.fields vs)
    (hn:["enumerate", "zip", "dict_itemiterator", "dict_reverseitemiterator", "odict_iterator", "itertools.zip_longest", "itertools.pairwise"].contains n=false) (hQ:Q () s):wpAny M A (letOwnedTupleGo tg (.ref it) u) Q E s:=by
  unfold letOwnedTupleGo
  cases tg<;>first
    |exact wpAny_pure hQ
    | (cases u<;>first
        |exact wpAny_pure hQ
        | (refine wpAny_bind (wpAny_load ho ?_)
           rw [hc,hd]
           show wpAny M A (if (["enumerate", "zip", "dict_itemiterator", "dict_reverseitemiterator", "odict_iterator", "itertools.zip_longest", "itertools.pairwise"].contains n&&vs[0]? == some (rawInt _))=true then _ else _) Q E s
           rw [if_neg (by intro h;rw [hn,Bool.false_and] at h;cases h)]
           exact wpAny_pure hQ))

def Itl (K:PySem.W.Frag) (a:Addr):It :=
 ⟨λi H=>∃ xs x,SqL K H a xs/\xs[i]?=some x,λi H x H'=>H'=H/\∀ xs,SqL K H a xs->xs[i]?=some x,λi H=>∃ xs,SqL K H a xs/\xs.length<=i⟩
def Itt (K:PySem.W.Frag) (a:Addr):It :=
 ⟨λi H=>∃ xs x,SqT K H a xs/\xs[i]?=some x,λi H x H'=>H'=H/\∀ xs,SqT K H a xs->xs[i]?=some x,λi H=>∃ xs,SqT K H a xs/\xs.length<=i⟩
def Itr (lo:Int) (n:Nat):It:=⟨λi _=>i<n,λi H x H'=>H'=H/\x=.int (lo+i),λi _=>n<=i⟩
theorem ZgK {P:Program} {w:World} {K:PySem.W.Frag} {tg:Expr} (a it:Addr):Turn P w K tg (Itl K a) [it] it (λi h=>h.IsListIter it a i) where
 mem:=by simp
 obj:=λi h st b hb=>by
  have e:b=it:=by simpa using hb
  subst e
  obtain ⟨o,e,c,d⟩:=st
  exact ⟨o,e,λv z=>by rw [d] at z;cases z⟩
 keep:=λi h h' st k=>st.at λo e=>k it (by simp) o e
 item:=by
  intro X hP hw hK hc i pins s σ H E I hf st hg
  subst hP hw hK
  obtain ⟨xs,x,hq,hx⟩:=hg
  obtain ⟨its,rv,p,hz⟩:=I.list hq
  obtain ⟨u,hu,ru⟩:=rv.get hx
  obtain ⟨f0,f1,f2,f3,f4,f5⟩:=hf it (by simp)
  refine wpAny_pyNext_list_item st p.isList (x:=u) (by simpa using hu) λh' st' sb=>?_
  have I1:Inv X pins σ H { s with heap:=h' }:=I.turned (t':=s.toks) (λb o hb e=>(sb.2 b hb).trans e) f0 f1 f3 f4 f5
  obtain ⟨o,e,c,d⟩:=id st'
  exact ⟨u,rfl,ZhW (s:={ s with heap:=h' }) e c d (by decide) ⟨x,H,I1,ru,⟨rfl,λys hy=>by rw [I.list_inj hy hq];exact hx⟩,st',λb hb=>(hf b hb).1⟩⟩
 done:=by
  intro X hP hw hK hc i pins s σ H E I hf st hg
  subst hP hw hK
  obtain ⟨xs,hq,hx⟩:=hg
  obtain ⟨its,rv,p,hz⟩:=I.list hq
  obtain ⟨f0,f1,f2,f3,f4,f5⟩:=hf it (by simp)
  have hl:=rv.length
  exact wpAny_pyNext_list_end (I.ok.hd hc) st p.isList (by simp;omega) λh' eb=>⟨rfl,I.turned (t':=s.toks) (λb o hb e=>eb b o hb e) f0 f1 f3 f4 f5⟩
 self:=λ_ _ _ _ _ st h=>wpAny_pyIter_listiter st h
theorem Zgb {P:Program} {w:World} {K:PySem.W.Frag} {tg:Expr} (it:Addr) (lo:Int) (n:Nat):Turn P w K tg (Itr lo n) [it] it (λi h=>IsRangeIter h it (lo+(i:Nat)*1) ((n:Int)-(i:Nat)) 1) where
 mem:=by simp
 obj:=λi h st b hb=>by
  have e:b=it:=by simpa using hb
  subst e
  exact ⟨_,st,λv z=>by
   have z':Data.fields _=Data.cell v:=z
   cases z'⟩
 keep:=λi h h' st k=>k it (by simp) _ st
 item:=by
  intro X hP hw hK hc i pins s σ H E I hf st hg
  subst hP hw hK
  obtain ⟨f0,f1,f2,f3,f4,f5⟩:=hf it (by simp)
  have W:=Walks.range (prog:=X.prog) (w:=X.w) (I.ok.hd hc) it lo 1 n
  refine W.item i s _ _ hg st λv h' tk hv st' kk=>?_
  obtain ⟨t,rfl⟩:=hv
  have I1:Inv X pins σ H { s with heap:=h',toks:=tk }:=I.turned (λb o hb e=>kk b o (by simpa using hb) e) f0 f1 f3 f4 f5
  refine ⟨_,rfl,ZhW (s:={ s with heap:=h',toks:=tk }) (n:="range_iterator") st' rfl rfl (by decide) ⟨.int (lo+i),H,I1,⟨t,?_⟩,⟨rfl,rfl⟩,st',λb hb=>(hf b hb).1⟩⟩
  rw [Int.mul_one]
 done:=by
  intro X hP hw hK hc i pins s σ H E I hf st hg
  subst hP hw hK
  obtain ⟨f0,f1,f2,f3,f4,f5⟩:=hf it (by simp)
  exact wpAny_pyNext_range_end (I.ok.hd hc) st (by have:n<=i:=hg;omega) λh' eb=>⟨rfl,I.turned (t':=s.toks) (λb o hb e=>eb b o hb e) f0 f1 f3 f4 f5⟩
 self:=λ_ _ _ _ _ st h=>wpAny_pyIter_rangeiter st h
end L2

namespace L2
open PySem PySem.Spec PyProof.Rows
section
variable {X:Cx} {tg:Expr}
def ZlH (K:PySem.W.Frag) (tl:TE):TI:=λσ H R=>tl σ H λx H1=>∃ a,x=.ref a/\(∃ xs,SqL K H1 a xs)/\R (Itl K a) H1
def iTup (K:PySem.W.Frag) (tl:TE):TI:=λσ H R=>tl σ H λx H1=>∃ a,x=.ref a/\(∃ xs,SqT K H1 a xs)/\R (Itt K a) H1
theorem Zbt {l:Expr} {tl:TE} (hl:PE X l tl):PI X tg l (ZlH X.K tl):=by
 intro pins s σ H R I h
 refine thn (hl pins s σ H _ I h) λv s1 ⟨x,H1,I1,r1,q1⟩=>?_
 obtain ⟨a,e,⟨xs,hq⟩,q⟩:=q1
 subst e
 cases r1
 obtain ⟨its,rv,p,hz⟩:=I1.list hq
 refine wpAny_pyIter_list p.isList ?_
 refine ⟨s1.heap.objs.size,[s1.heap.objs.size],_,_,H1,rfl,I1.kept (t':=s1.toks) λb o e=>Heap.get?_push_of_some _ e,ZgK a _,⟨_,Heap.get?_push_size _ rfl,rfl,rfl⟩,λb hb=>?_,q⟩
 have e:b=s1.heap.objs.size:=by simpa using hb
 subst e
 exact I1.fpOk (Nat.le_refl _) (I1.hok.fresh (Nat.le_refl _))
theorem ZiU {pins:List (Addr×Obj)} {σ:St} {H:Hp} {s:Shared} {R:It->Hp->Prop} {E:Value->Shared->Prop} {lo hi:Int} {t u v:Tok} {tk:Nat} (I:Inv X pins σ H s) (h1:-(2 ^ 62)<=lo) (h2:lo<2 ^ 62) (h3:-(2 ^ 62)<=hi) (h4:hi<2 ^ 62)
  (q:R (Itr lo (hi-lo).toNat) H):wpAny (model X.prog X.w) X.A (pyIter (.ref s.heap.objs.size)) (PIE X pins σ tg R) E { s with heap:=s.heap.push { cls:=.type "range",data:=.fields #[.int lo t,.int hi u,.int 1 v] },toks:=tk }:=by
 refine wpAny_pyIter_range (IsRange.new ..) (small_one h1 h2 h3 h4) ?_
 have I1:Inv X pins σ H { s with heap:=s.heap.push { cls:=.type "range",data:=.fields #[.int lo t,.int hi u,.int 1 v] },toks:=tk }:=I.kept λb o e=>Heap.get?_push_of_some _ e
 refine ⟨(s.heap.push { cls:=.type "range",data:=.fields #[.int lo t,.int hi u,.int 1 v] }).objs.size,[(s.heap.push { cls:=.type "range",data:=.fields #[.int lo t,.int hi u,.int 1 v] }).objs.size],_,_,H,rfl,
  I1.kept (t':=tk) λb o e=>Heap.get?_push_of_some _ e,Zgb _ lo (hi-lo).toNat,?_,λb hb=>?_,q⟩
 ·have e1:lo+((0:Nat):Int)*1=lo:=by simp
  have e2:(((hi-lo).toNat:Nat):Int)-((0:Nat):Int)=Builtin.Range.rangeSize lo hi 1:=by rw [rangeSize_one];split<;>omega
  show IsRangeIter _ _ (lo+((0:Nat):Int)*1) ((((hi-lo).toNat:Nat):Int)-((0:Nat):Int)) 1
  rw [e1,e2]
  exact Heap.get?_push_size _ rfl
 ·have e:b=(s.heap.push { cls:=.type "range",data:=.fields #[.int lo t,.int hi u,.int 1 v] }).objs.size:=by simpa using hb
  subst e
  exact I1.fpOk (Nat.le_refl _) (I1.hok.fresh (Nat.le_refl _))
def Zmd (ta:TA):TI:=λσ H R=>ta σ H λvs H1=>∃ j:Int,vs=[.int j]/\-(2 ^ 62)<=j/\j<2 ^ 62/\R (Itr 0 j.toNat) H1
theorem Zhs {a:Expr} {ta:TA} {p pos:Pos} (hg:Gl X "range") (hm:X.mg "range"=none) (ha:PA X [a] ta) (hs:starEach [a] X.env=[(false,eval a X.env)]:=by rfl):PI X tg (.Call (.Name "range" p) [a] [] pos) (Zmd ta):=by
 intro pins s σ H R I h
 refine Call_ (ZdA I hg hm boot_range (PyProof.Rows.callWith_type1 (thn (ha pos pins s σ H _ I h) λus s1 ⟨vs,H1,I1,r1,q1⟩=>?_) hs rfl))
 obtain ⟨j,e,q1,q2,q⟩:=q1
 subst e
 cases r1 with
 |cons r rr =>
  cases rr
  obtain ⟨t,rfl⟩:=r
  exact call_range_1 (ZiU I1 (by omega) (by omega) q1 q2 (by simpa using q))
def tFor (wi:TI) (g:TG) (tb:TS):TS:=λD σ H=>wi σ H λJ H1=>∃ W:Nat->Nat->St->Hp->Prop,(∃ m,W 0 m σ H1)/\∀ i m σ H,W i m σ H ->
 (J.stop i H/\D.nx σ H)\/(J.go i H/\∃ N:St->Hp->Prop,(∀ σ' H',N σ' H'->∃ m',m'<m/\W (i+1) m' σ' H')/\∀ x H',J.yld i H x H'->g x σ H' λσ2 H2=>tb { D with nx:=N,ct:=N,bk:=D.nx } σ2 H2)
def Zdw (fp:List Addr) (h:Heap):List (Addr×Obj):=fp.filterMap λb=>(h.get? b).map λo=>(b,o)
theorem Zbh {fp:List Addr} {h:Heap} {b:Addr} {o:Obj} (hb:b∈fp) (e:h.get? b=some o):(b,o)∈Zdw fp h:=List.mem_filterMap.mpr ⟨b,hb,by rw [e];rfl⟩
theorem ZhC {fp:List Addr} {h:Heap} {p:Addr×Obj} (hp:p∈Zdw fp h):p.1∈fp/\h.get? p.1=some p.2:=by
 obtain ⟨b,hb,e⟩:=List.mem_filterMap.mp hp
 cases q:h.get? b with
 |none=>rw [q] at e;cases e
 |some o =>
  rw [q] at e
  have e':(b,o)=p:=Option.some.inj e
  subst e'
  exact ⟨hb,q⟩
theorem Inv.pinned {pins:List (Addr×Obj)} {σ:St} {H:Hp} {s:Shared} {fp:List Addr} (I:Inv X pins σ H s) (hf:∀ b∈fp,FpOk X pins H b) (ho:∀ b∈fp,∃ o,s.heap.get? b=some o/\∀ v,o.data≠.cell v):Inv X (pins++Zdw fp s.heap) σ H s :=
 I.pins_of λp hp=>(List.mem_append.mp hp).elim (λz=>I.pin p (List.mem_append_right _ z)) λz=>by
  obtain ⟨hb,e⟩:=ZhC z
  obtain ⟨f0,f1,f2,_⟩:=hf p.1 hb
  obtain ⟨o,e',d⟩:=ho p.1 hb
  rw [e] at e';cases e'
  exact ⟨e,f0,f1,f2,d⟩
theorem Inv.unpinned {pins pl:List (Addr×Obj)} {σ:St} {H:Hp} {s:Shared} (I:Inv X (pins++pl) σ H s):Inv X pins σ H s:=I.pins_of λp hp=>I.pin p (List.mem_append_right _ (List.mem_append_left _ hp))
theorem ZbR {iter:Expr} {body:List Stmt} {wi:TI} {g:TG} {tb:TS} {pos:Pos} (hp:PassesOwn (model X.prog X.w) X.A X.env X.xe) (hc:X.calm=true) (hi:PI X tg iter wi) (hg:PG X tg g) (hb:PSs X body tb)
  (hs:∀ x,foldedSetIterable iter X.env x=pure x:=by intro _;rfl):PS X (.For tg iter body [] pos) (tFor wi g tb):=by
 intro pins s σ H D I h
 refine wpAny_For (thn (hi pins s σ H _ I h) λv s1 h1=>thn h1 λitv s2 h2=>?_) hs
 obtain ⟨it,fp,tn,J,H2,e,I2,T,st2,f2,W,⟨m0,w0⟩,turn⟩:=h2
 subst e
 -- what stays true of the iterator's objects through the loop
 have stat:∀ {H':Hp},(∀ b∈fp,H' b=none)->∀ b∈fp,FpOk X pins H' b:=λhn b hb=>⟨hn b hb,(f2 b hb).2⟩
 refine codeAny_forLoop_any (λn s'=>∃ i σ' H',Inv X pins σ' H' s'/\tn i s'.heap/\(∀ b∈fp,H' b=none)/\W i n σ' H') ?_ m0 ⟨0,σ,H2,I2,st2,λb hb=>(f2 b hb).1,w0⟩
 rintro n s3 ⟨i,σ3,H3,I3,st3,fr3,w3⟩
 rcases turn i n σ3 H3 w3 with ⟨stop,qn⟩ | ⟨go,N,hN,step⟩
 ·refine wpAny_passesOwn hp (thn (T.done X rfl rfl rfl hc i pins s3 σ3 H3 X.xe I3 (stat fr3) st3 stop) λr s4 ⟨hr,I4⟩=>?_)
  subst hr
  exact wpAny_execs_nil ⟨σ3,H3,I4,qn⟩
 ·refine wpAny_passesOwn hp (thn (T.item X rfl rfl rfl hc i pins s3 σ3 H3 X.xe I3 (stat fr3) st3 go) λr s4 ⟨u,hr,h4⟩=>?_)
  subst hr
  refine wpAny_passesOwn hp (thn h4 λ_ s5 ⟨x,H5,I5,r5,y5,st5,fr5⟩=>?_)
  have I5':=I5.pinned (stat fr5) (T.obj _ _ st5)
  refine wpAny_passesOwn hp (thn (hg _ s5 σ3 H5 x u _ I5' r5 (step x H5 y5)) λ_ s6 ⟨σ6,H6,I6,q6⟩=>?_)
  refine wpAny_passesOwn hp (thn (hb _ s6 σ6 H6 _ I6 q6) λf s7 q7=>?_)
  have again:∀ {σ7:St} {H7:Hp},Inv X (pins++Zdw fp s5.heap) σ7 H7 s7->N σ7 H7->∃ m,m<n/\∃ i σ' H',Inv X pins σ' H' s7/\tn i s7.heap/\(∀ b∈fp,H' b=none)/\W i m σ' H':=λ{σ7 H7} I7 n7=>by
   obtain ⟨m',hm,w7⟩:=hN σ7 H7 n7
   refine ⟨m',hm,i+1,σ7,H7,I7.unpinned,T.keep _ _ _ st5 λb hb o e=>(I7.pin (b,o) (List.mem_append_right _ (List.mem_append_right _ (Zbh hb e)))).1,λb hb=>?_,w7⟩
   obtain ⟨o,e,d⟩:=T.obj _ _ st5 b hb
   exact (I7.pin (b,o) (List.mem_append_right _ (List.mem_append_right _ (Zbh hb e)))).2.1
  cases f with
  |next=>obtain ⟨σ7,H7,I7,n7⟩:=q7;exact again I7 n7
  |cont=>obtain ⟨σ7,H7,I7,n7⟩:=q7;exact again I7 n7
  |brk=>obtain ⟨σ7,H7,I7,q7⟩:=q7;exact ⟨σ7,H7,I7.unpinned,q7⟩
  |ret v=>obtain ⟨x7,σ7,H7,I7,r7,q7⟩:=q7;exact ⟨x7,σ7,H7,I7.unpinned,r7,q7⟩
end

theorem Zco {K:PySem.W.Frag} {a:Addr} {xs:List V} {g:TG} {tb:TS} {D:Ends} {σ:St} {H:Hp} (Pv:Nat->St->Hp->Prop) (h0:Pv 0 σ H) (hl:∀ i σ H,i<=xs.length->Pv i σ H->SqL K H a xs)
  (hs:∀ i x σ H,xs[i]?=some x->Pv i σ H->g x σ H λσ2 H2=>tb { D with nx:=Pv (i+1),ct:=Pv (i+1),bk:=D.nx } σ2 H2) (hd:∀ σ H,Pv xs.length σ H->D.nx σ H) :
  ∃ W:Nat->Nat->St->Hp->Prop,(∃ m,W 0 m σ H)/\∀ i m σ H,W i m σ H ->
   ((Itl K a).stop i H/\D.nx σ H)\/((Itl K a).go i H/\∃ N:St->Hp->Prop,(∀ σ' H',N σ' H'->∃ m',m'<m/\W (i+1) m' σ' H')/\∀ x H',(Itl K a).yld i H x H'->g x σ H' λσ2 H2=>tb { D with nx:=N,ct:=N,bk:=D.nx } σ2 H2):=by
 refine ⟨λi m σ H=>m=xs.length-i/\i<=xs.length/\Pv i σ H,⟨xs.length,by simp,Nat.zero_le _,h0⟩,?_⟩
 rintro i m σ H ⟨rfl,hi,p⟩
 have q:=hl i σ H hi p
 by_cases hlt:i<xs.length
 ·refine .inr ⟨⟨xs,xs[i],q,by simp [hlt]⟩,Pv (i+1),λσ' H' p'=>⟨xs.length-(i+1),by omega,rfl,hlt,p'⟩,λx H' y=>?_⟩
  obtain ⟨e,y⟩:=y
  subst e
  exact hs i x σ _ (y xs q) p
 ·have e:i=xs.length:=by omega
  subst e
  exact .inl ⟨⟨xs,q,Nat.le_refl _⟩,hd σ H p⟩
theorem ZhY {lo:Int} {n:Nat} {g:TG} {tb:TS} {D:Ends} {σ:St} {H:Hp} (Pv:Nat->St->Hp->Prop) (h0:Pv 0 σ H)
  (hs:∀ i σ H,i<n->Pv i σ H->g (.int (lo+i)) σ H λσ2 H2=>tb { D with nx:=Pv (i+1),ct:=Pv (i+1),bk:=D.nx } σ2 H2) (hd:∀ σ H,Pv n σ H->D.nx σ H) :
  ∃ W:Nat->Nat->St->Hp->Prop,(∃ m,W 0 m σ H)/\∀ i m σ H,W i m σ H ->
   ((Itr lo n).stop i H/\D.nx σ H)\/((Itr lo n).go i H/\∃ N:St->Hp->Prop,(∀ σ' H',N σ' H'->∃ m',m'<m/\W (i+1) m' σ' H')/\∀ x H',(Itr lo n).yld i H x H'->g x σ H' λσ2 H2=>tb { D with nx:=N,ct:=N,bk:=D.nx } σ2 H2):=by
 refine ⟨λi m σ H=>m=n-i/\i<=n/\Pv i σ H,⟨n,by simp,Nat.zero_le _,h0⟩,?_⟩
 rintro i m σ H ⟨rfl,hi,p⟩
 by_cases hlt:i<n
 ·refine .inr ⟨hlt,Pv (i+1),λσ' H' p'=>⟨n-(i+1),by omega,rfl,hlt,p'⟩,λx H' y=>?_⟩
  obtain ⟨e,y⟩:=y
  subst e y
  exact hs i σ _ hlt p
 ·have e:i=n:=by omega
  subst e
  exact .inl ⟨Nat.le_refl _,hd σ H p⟩
end L2

namespace L2
open PySem PySem.Spec PyProof.Rows

abbrev R2:=V->V->Hp->VK->Prop
def OpR (X:Cx) (f:Value->Value->Sem Value) (r:R2):Prop :=
 ∀ (pins:List (Addr×Obj)) (s:Shared) (σ:St) (H:Hp) (x y:V) (v u:Value) (Q:VK),Inv X pins σ H s->RelV x v->RelV y u->r x y H Q ->
  wpAny (model X.prog X.w) X.A (f v u) (EP X pins σ Q) X.xe s
def Zct (X:Cx) (f:Value) (r:List V->Hp->VK->Prop):Prop :=
 ∀ (pins:List (Addr×Obj)) (s:Shared) (σ:St) (H:Hp) (xs:List V) (us:List Value) (Q:VK),Inv X pins σ H s->Vals xs us->r xs H Q ->
  wpAny (model X.prog X.w) X.A (call f us) (EP X pins σ Q) X.xe s
def tOp (r:R2) (ta tb:TE):TE:=λσ H Q=>ta σ H λx H1=>tb σ H1 λy H2=>r x y H2 Q
def tUn (r:V->Hp->VK->Prop) (ta:TE):TE:=λσ H Q=>ta σ H λx H1=>r x H1 Q
def rI (C:Int->Int->Prop) (g:Int->Int->V):R2:=λx y H Q=>∃ i j,x=.int i/\y=.int j/\C i j/\Q (g i j) H
def rI0 (g:Int->Int->V):R2:=λx y H Q=>∃ i j,x=.int i/\y=.int j/\Q (g i j) H
def rU (g:Int->V):V->Hp->VK->Prop:=λx H Q=>∃ i,x=.int i/\Q (g i) H

section
variable {X:Cx} {a b c:Expr} {ta tb tc:TE} {pos:Pos}

theorem binT (ha:PE X a ta) (hb:PE X b tb) {pins:List (Addr×Obj)} {s:Shared} {σ:St} {H:Hp} {R:V->V->Hp->Prop} (I:Inv X pins σ H s)
  (h:ta σ H λx H1=>tb σ H1 λy H2=>R x y H2) {Q:Value->Shared->Prop} {f:Value->Value->Sem Value}
  (hf:∀ v u s2 x y H2,Inv X pins σ H2 s2->RelV x v->RelV y u->R x y H2->wpAny (model X.prog X.w) X.A (f v u) Q X.xe s2) :
  wpAny (model X.prog X.w) X.A (eval a X.env) (λv s₁=>wpAny (model X.prog X.w) X.A (eval b X.env) (λu s₂=>wpAny (model X.prog X.w) X.A (f v u) Q X.xe s₂) X.xe s₁) X.xe s:=by
 refine thn (ha pins s σ H _ I h) λv s1 ⟨x,H1,I1,r1,q1⟩=>?_
 refine thn (hb pins s1 σ H1 _ I1 q1) λu s2 ⟨y,H2,I2,r2,q2⟩=>?_
 exact hf v u s2 x y H2 I2 r1 r2 q2

theorem Zat {op:Operator} {r:R2} (ho:OpR X (binaryOp op) r) (ha:PE X a ta) (hb:PE X b tb):PE X (.BinOp a op b pos) (tOp r ta tb):=by
 intro pins s σ H Q I h
 exact wpAny_BinOp (binT ha hb I h λv u s2 x y H2 I2 rx ry q=>ho pins s2 σ H2 x y v u Q I2 rx ry q)
theorem opI {f:Value->Value->Sem Value} {C:Int->Int->Prop} {g:Int->Int->Int}
  (rule:∀ (i j:Int) (t u:Tok) (s:Shared) (Q:Value->Shared->Prop) (E:Value->Shared->Prop),C i j->Q (.int (g i j) s.toks) { s with toks:=s.toks+1 }->wpAny (model X.prog X.w) X.A (f (.int i t) (.int j u)) Q E s) :
  OpR X f (rI C λi j=>.int (g i j)):=by
 intro pins s σ H x y v u Q I rx ry h
 obtain ⟨i,j,rfl,rfl,hc,q⟩:=h
 obtain ⟨t,rfl⟩:=rx
 obtain ⟨t',rfl⟩:=ry
 exact rule i j t t' s _ _ hc ⟨.int (g i j),H,I.tok _,⟨_,rfl⟩,q⟩
theorem opI0 {f:Value->Value->Sem Value} {g:Int->Int->Int}
  (rule:∀ (i j:Int) (t u:Tok) (s:Shared) (Q:Value->Shared->Prop) (E:Value->Shared->Prop),Q (.int (g i j) s.toks) { s with toks:=s.toks+1 }->wpAny (model X.prog X.w) X.A (f (.int i t) (.int j u)) Q E s) :
  OpR X f (rI0 λi j=>.int (g i j)):=by
 intro pins s σ H x y v u Q I rx ry h
 obtain ⟨i,j,rfl,rfl,q⟩:=h
 obtain ⟨t,rfl⟩:=rx
 obtain ⟨t',rfl⟩:=ry
 exact rule i j t t' s _ _ ⟨.int (g i j),H,I.tok _,⟨_,rfl⟩,q⟩
theorem opB0 {f:Value->Value->Sem Value} {g:Int->Int->Bool}
  (rule:∀ (i j:Int) (t u:Tok) (s:Shared) (Q:Value->Shared->Prop) (E:Value->Shared->Prop),Q (.bool (g i j)) s->wpAny (model X.prog X.w) X.A (f (.int i t) (.int j u)) Q E s) :
  OpR X f (rI0 λi j=>.bl (g i j)):=by
 intro pins s σ H x y v u Q I rx ry h
 obtain ⟨i,j,rfl,rfl,q⟩:=h
 obtain ⟨t,rfl⟩:=rx
 obtain ⟨t',rfl⟩:=ry
 exact rule i j t t' s _ _ ⟨.bl (g i j),H,I,rfl,q⟩

def CDiv (i j:Int):Prop:=0<j/\j<1073741824
def CMul (i j:Int):Prop:=(-(2 ^ 64)<i/\i<2 ^ 64)\/(-(2 ^ 64)<j/\j<2 ^ 64)
theorem CMul.ok {i j:Int} (h:CMul i j):IntMulOk i j:=by
 rcases h with ⟨h1,h2⟩ | ⟨h1,h2⟩
 ·exact .of_left (intBits_le_64 h1 h2)
 ·exact .of_right (intBits_le_64 h1 h2)
theorem ZaX:OpR X (binaryOp .Add) (rI0 λi j=>.int (i+j)):=opI0 λ_ _ _ _ _ _ _ q=>add_int q
theorem ZjR:OpR X (binaryOp .Sub) (rI0 λi j=>.int (i-j)):=opI0 λ_ _ _ _ _ _ _ q=>sub_int q
theorem Zdx:OpR X (binaryOp .Mult) (rI CMul λi j=>.int (i*j)):=opI λ_ _ _ _ _ _ _ hc q=>mul_int q hc.ok
theorem ZaR:OpR X (binaryOp .FloorDiv) (rI CDiv λi j=>.int (i / j)):=opI λi j _ _ _ _ _ hc q=>by
 have h1:(0:Int)<j:=hc.1
 have h2:j<1073741824:=hc.2
 exact floordiv_int (by omega) (by rw [Int.fdiv_eq_ediv_of_nonneg i (by omega)];exact q) (.inl (PyProof.noPylong_small (by omega)))
theorem ZaN:OpR X (binaryOp .Mod) (rI (λ_ j=>0<j) λi j=>.int (i%j)):=opI λi j _ _ _ _ _ hc q=>by
 have h1:(0:Int)<j:=hc
 exact mod_int' (by omega) (by rw [Int.fmod_eq_emod_of_nonneg i (by omega)];exact q)
end

def scal:V->V->Bool
 |.non,.non=>true | .non,.int _=>true | .int _,.non=>true | .non,.bl _=>true | .bl _,.non=>true | .non,.str _=>true | .str _,.non=>true
 |.int _,.int _=>true | .bl _,.bl _=>true | .str _,.str _=>true | .byt _,.byt _=>true
 |.int _,.str _=>true | .str _,.int _=>true | .bl _,.str _=>true | .str _,.bl _=>true
 |_,_=>false
def rEq:R2:=λx y H Q=>scal x y=true/\Q (.bl (decide (x=y))) H
def rNe:R2:=λx y H Q=>scal x y=true/\Q (.bl (!decide (x=y))) H

theorem Zib {i j:Int}:decide (V.int i=V.int j)=(i == j):=by
 rw [Bool.eq_iff_iff]
 simp
theorem Zj2 {i j:Bool}:decide (V.bl i=V.bl j)=(i == j):=by
 rw [Bool.eq_iff_iff]
 simp
theorem Zia {i j:Str}:decide (V.str i=V.str j)=(i == j):=by
 rw [Bool.eq_iff_iff]
 simp
theorem Zic {i j:Array UInt8}:decide (V.byt i=V.byt j)=(i.toList == j.toList):=by
 rw [Bool.eq_iff_iff]
 cases i
 cases j
 simp

section
variable {X:Cx} {a b c:Expr} {ta tb tc:TE} {pos:Pos}
theorem ZaI {pins:List (Addr×Obj)} {σ:St} {H:Hp} {s:Shared} {Q:VK} {k k':Bool} (I:Inv X pins σ H s) (q:Q (.bl k) H) (e:k=k'):EP X pins σ Q (.bool k') s:=by
 subst e
 exact ⟨.bl k,H,I,rfl,q⟩
theorem Zbd:OpR X (compareOp .Eq) rEq:=by
 intro pins s σ H x y v u Q I rx ry h
 obtain ⟨hs,q⟩:=h
 cases x with
 |non =>
  cases rx
  cases y with
  |non=>cases ry;exact PySem.EqNone.eq_none_none (ZaI I q (by simp))
  |bl j=>cases ry;exact PySem.EqNone.eq_none_bool (ZaI I q (by simp))
  |int j=>obtain ⟨t',rfl⟩:=ry;exact PySem.EqNone.eq_none_int (ZaI I q (by simp))
  |str j=>obtain ⟨t',rfl⟩:=ry;exact PySem.EqNone.eq_none_str (ZaI I q (by simp))
  |_=>exact absurd (show false=true from hs) Bool.false_ne_true
 |bl i =>
  cases rx
  cases y with
  |non=>cases ry;exact PySem.EqNone.eq_bool_none (ZaI I q (by simp))
  |bl j=>cases ry;exact eq_bool (ZaI I q Zj2)
  |str j=>obtain ⟨t',rfl⟩:=ry;exact PySem.EqMixed.eq_bool_str (ZaI I q (by simp))
  |_=>exact absurd (show false=true from hs) Bool.false_ne_true
 |int i =>
  obtain ⟨t,rfl⟩:=rx
  cases y with
  |non=>cases ry;exact PySem.EqNone.eq_int_none (ZaI I q (by simp))
  |int j=>obtain ⟨t',rfl⟩:=ry;exact eq_int (ZaI I q Zib)
  |str j=>obtain ⟨t',rfl⟩:=ry;exact PySem.EqMixed.eq_int_str (ZaI I q (by simp))
  |_=>exact absurd (show false=true from hs) Bool.false_ne_true
 |str i =>
  obtain ⟨t,rfl⟩:=rx
  cases y with
  |non=>cases ry;exact PySem.EqNone.eq_str_none (ZaI I q (by simp))
  |bl j=>cases ry;exact PySem.EqMixed.eq_str_bool (ZaI I q (by simp))
  |int j=>obtain ⟨t',rfl⟩:=ry;exact PySem.EqMixed.eq_str_int (ZaI I q (by simp))
  |str j=>obtain ⟨t',rfl⟩:=ry;exact eq_str (ZaI I q Zia)
  |_=>exact absurd (show false=true from hs) Bool.false_ne_true
 |byt i =>
  obtain ⟨t,rfl⟩:=rx
  cases y with
  |byt j=>obtain ⟨t',rfl⟩:=ry;exact PySem.W.eq_bytes (ZaI I q Zic)
  |_=>exact absurd (show false=true from hs) Bool.false_ne_true
 |_=>cases y<;>exact absurd (show false=true from hs) Bool.false_ne_true
theorem Zkz:OpR X (compareOp .NotEq) rNe:=by
 intro pins s σ H x y v u Q I rx ry h
 obtain ⟨hs,q⟩:=h
 cases x with
 |non =>
  cases rx
  cases y with
  |non=>cases ry;exact PySem.EqNone.ne_none_none (ZaI I q (by simp))
  |bl j=>cases ry;exact PySem.EqNone.ne_none_bool (ZaI I q (by simp))
  |int j=>obtain ⟨t',rfl⟩:=ry;exact PySem.EqNone.ne_none_int (ZaI I q (by simp))
  |str j=>obtain ⟨t',rfl⟩:=ry;exact PySem.EqNone.ne_none_str (ZaI I q (by simp))
  |_=>exact absurd (show false=true from hs) Bool.false_ne_true
 |bl i =>
  cases rx
  cases y with
  |non=>cases ry;exact PySem.EqNone.ne_bool_none (ZaI I q (by simp))
  |bl j=>cases ry;exact ne_bool (ZaI I q (congrArg not Zj2))
  |str j=>obtain ⟨t',rfl⟩:=ry;exact PySem.EqMixed.ne_bool_str (ZaI I q (by simp))
  |_=>exact absurd (show false=true from hs) Bool.false_ne_true
 |int i =>
  obtain ⟨t,rfl⟩:=rx
  cases y with
  |non=>cases ry;exact PySem.EqNone.ne_int_none (ZaI I q (by simp))
  |int j=>obtain ⟨t',rfl⟩:=ry;exact ne_int (ZaI I q (congrArg not Zib))
  |str j=>obtain ⟨t',rfl⟩:=ry;exact PySem.EqMixed.ne_int_str (ZaI I q (by simp))
  |_=>exact absurd (show false=true from hs) Bool.false_ne_true
 |str i =>
  obtain ⟨t,rfl⟩:=rx
  cases y with
  |non=>cases ry;exact PySem.EqNone.ne_str_none (ZaI I q (by simp))
  |bl j=>cases ry;exact PySem.EqMixed.ne_str_bool (ZaI I q (by simp))
  |int j=>obtain ⟨t',rfl⟩:=ry;exact PySem.EqMixed.ne_str_int (ZaI I q (by simp))
  |str j=>obtain ⟨t',rfl⟩:=ry;exact ne_str (ZaI I q (congrArg not Zia))
  |_=>exact absurd (show false=true from hs) Bool.false_ne_true
 |byt i =>
  obtain ⟨t,rfl⟩:=rx
  cases y with
  |byt j=>obtain ⟨t',rfl⟩:=ry;exact PySem.W.ne_bytes (ZaI I q (congrArg not Zic))
  |_=>exact absurd (show false=true from hs) Bool.false_ne_true
 |_=>cases y<;>exact absurd (show false=true from hs) Bool.false_ne_true

theorem Zi0:OpR X (compareOp .Lt) (rI0 λi j=>.bl (decide (i<j))):=opB0 λ_ _ _ _ _ _ _ q=>lt_int q
theorem Zlt:OpR X (compareOp .LtE) (rI0 λi j=>.bl (decide (i<=j))):=opB0 λ_ _ _ _ _ _ _ q=>le_int q
theorem ZjS:OpR X (compareOp .Is) (λx y H Q=>y=.non/\Q (.bl (decide (x=.non))) H):=by
 intro pins s σ H x y v u Q I rx ry h
 obtain ⟨rfl,q⟩:=h
 cases ry
 refine is_none_gen (ZaI I q ?_)
 cases x<;>first
  | (cases rx;rfl)
  | (obtain ⟨t,rfl⟩:=rx;rfl)
theorem Ze3:OpR X (compareOp .IsNot) (λx y H Q=>y=.non/\Q (.bl (!decide (x=.non))) H):=by
 intro pins s σ H x y v u Q I rx ry h
 obtain ⟨rfl,q⟩:=h
 cases ry
 refine isnot_none_gen (ZaI I q ?_)
 cases x<;>first
  | (cases rx;rfl)
  | (obtain ⟨t,rfl⟩:=rx;rfl)

theorem Zaw (b:Expr) {op:CmpOp} (h:op≠.In:=by decide) (h2:op≠.NotIn:=by decide):behindInMarks op b=false:=by
 have e1:(op == CmpOp.In)=false:=by cases op<;>first | rfl | exact absurd rfl h
 have e2:(op == CmpOp.NotIn)=false:=by cases op<;>first | rfl | exact absurd rfl h2
 cases b<;>simp [behindInMarks,e1,e2]
theorem Zhv {op:CmpOp} {r:R2} (ho:OpR X (compareOp op) r) (ha:PE X a ta) (hb:PE X b tb) (hm:behindInMarks op b=false):PE X (.Compare a [op] [b] pos) (tOp r ta tb):=by
 intro pins s σ H Q I h
 exact wpAny_Compare1 (binT ha hb I h λv u s2 x y H2 I2 rx ry q=>ho pins s2 σ H2 x y v u Q I2 rx ry q) hm
def ZiC (t:TE):TT:=λσ H Q=>t σ H λx H'=>∃ k,x=.bl k/\Q k H'
theorem Zar {op:CmpOp} {r:R2} (ho:OpR X (compareOp op) r) (ha:PE X a ta) (hb:PE X b tb) (hm:behindInMarks op b=false):PT X (.Compare a [op] [b] pos) (ZiC (tOp r ta tb)):=by
 intro pins s σ H Q I h
 refine wpAny_isTrue_Compare1 (thn (ha pins s σ H _ I h) λv s1 ⟨x,H1,I1,r1,q1⟩=>thn (hb pins s1 σ H1 _ I1 q1) λu s2 ⟨y,H2,I2,r2,q2⟩ =>
  thn (ho pins s2 σ H2 x y v u _ I2 r1 r2 q2) λc s3 ⟨z,H3,I3,r3,k,e,q3⟩=>?_) hm
 subst e
 cases r3
 exact wpAny_truthy_bool ⟨H3,I3,q3⟩
def ZgS (r r':R2) (ta tb tc:TE):TE:=λσ H Q=>ta σ H λx H1=>tb σ H1 λy H2=>r x y H2 λz H3=>∃ k,z=.bl k /\
 (if k=true then tc σ H3 λw' H4=>r' y w' H4 Q else Q (.bl false) H3)
theorem ZhH:(sizeLine:Nat)<2 ^ 63:=by rw [sizeLine_eq];decide
theorem Zc1 {x:V} {us:List Value} (r:Vals [x] us):∃ u,us=[u]/\RelV x u:=by
 cases r with
 |cons r1 r2=>cases r2;exact ⟨_,rfl,r1⟩
theorem ZgI {x y:V} {us:List Value} (r:Vals [x,y] us):∃ u w',us=[u,w']/\RelV x u/\RelV y w':=by
 cases r with
 |cons r1 r2 =>
  cases r2 with
  |cons r3 r4=>cases r4;exact ⟨_,_,rfl,r1,r3⟩
theorem Zim (hc:X.calm=true):Zct X (.builtin "max") (λxs H Q=>∃ i j,xs=[.int i,.int j]/\Q (.int (if j > i then j else i)) H):=by
 intro pins s σ H xs us Q I r h
 obtain ⟨i,j,rfl,q⟩:=h
 obtain ⟨u,w',rfl,⟨t,rfl⟩,⟨t',rfl⟩⟩:=ZgI r
 refine max_two_ints (I.ok.hd hc) λh' tk k=>⟨_,H,I.kept k,?_,q⟩
 by_cases hj:j > i
 ·rw [if_pos hj,if_pos hj];exact ⟨_,rfl⟩
 ·rw [if_neg hj,if_neg hj];exact ⟨_,rfl⟩
theorem Zin:Zct X (.type "int") (λxs H Q=>(∃ i,xs=[.int i]/\Q (.int i) H)\/∃ k,xs=[.bl k]/\Q (.int (if k then 1 else 0)) H):=by
 intro pins s σ H xs us Q I r h
 rcases h with ⟨i,rfl,q⟩ | ⟨k,rfl,q⟩
 ·obtain ⟨u,rfl,t,rfl⟩:=Zc1 r
  exact call_int_int ⟨.int i,H,I,⟨_,rfl⟩,q⟩
 ·obtain ⟨u,rfl,r1⟩:=Zc1 r
  cases r1
  exact call_int_bool ⟨.int (if k then 1 else 0),H,I.tok _,⟨_,rfl⟩,q⟩
def LenV (K:PySem.W.Frag) (x:V) (H:Hp) (n:Nat):Prop :=
 match x with
 |.str y=>y.length<=sizeLine/\n=y.length
 |.byt y=>y.size<=sizeLine/\n=y.size
 |.ref p=>(∃ xs,SqL K H p xs/\n=xs.length)\/∃ xs,SqT K H p xs/\n=xs.length
 |_=>False
theorem ZcY:Zct X (.builtin "len") (λxs H Q=>∃ x n,xs=[x]/\LenV X.K x H n/\Q (.int n) H):=by
 intro pins s σ H xs us Q I r h
 obtain ⟨x,n,rfl,e,q⟩:=h
 obtain ⟨u,rfl,rx⟩:=Zc1 r
 have hl:=ZhH
 have hs:sizeLine=16777216:=sizeLine_eq
 cases x with
 |str y =>
  obtain ⟨t,rfl⟩:=rx
  obtain ⟨hy,e'⟩:y.length<=sizeLine/\n=y.length:=e
  subst e'
  exact len_str (by omega) ⟨.int _,H,I.tok _,⟨_,rfl⟩,q⟩
 |byt y =>
  obtain ⟨t,rfl⟩:=rx
  obtain ⟨hy,e'⟩:y.size<=sizeLine/\n=y.size:=e
  subst e'
  exact PySem.W.len_bytes (by omega) ⟨.int _,H,I.tok _,⟨_,rfl⟩,q⟩
 |ref p =>
  cases rx
  have e':(∃ xs,SqL X.K H p xs/\n=xs.length)\/∃ xs,SqT X.K H p xs/\n=xs.length:=e
  rcases e' with ⟨xs,hx,e'⟩ | ⟨xs,hx,e'⟩
  ·subst e'
   obtain ⟨its,r',pl,hz⟩:=I.list hx
   have hlen:=r'.length
   exact Calls.call_len_list pl.isList (by simp only [List.size_toArray];omega) ⟨.int xs.length,H,I.tok _,⟨_,by simp only [List.size_toArray];rw [hlen]⟩,q⟩
  ·subst e'
   obtain ⟨its,r',pl,hz⟩:=I.tuple hx
   have hlen:=r'.length
   exact len_tuple pl (by simp only [List.size_toArray];omega) ⟨.int xs.length,H,I.tok _,⟨_,by simp only [List.size_toArray];rw [hlen]⟩,q⟩
 |_=>exact (show False from e).elim
end
end L2

namespace L2
open PySem PySem.Spec PyProof.Rows

structure ObjM (h:Heap) (x dx C:Addr) (mA:Str->Option Value):Prop where
 obj:h.get? x=some (PySem.W.instObj C dx)
 ns:h.Ns1 dx mA
 ne:dx≠x

theorem ZhG {h:Heap} {dx:Addr} {mA:Str->Option Value} (n:h.Ns1 dx mA):∃ od,h.get? dx=some od/\∀ name,PySem.W.lookIn name od=some (mA name):=by
 obtain ⟨o,es,ep,ho,hd,hk,_,hm⟩:=n
 refine ⟨o,ho,λname=>?_⟩
 have e:=hm name
 unfold nsFind findBy at e
 rw [<- Array.find?_toList] at e
 unfold PySem.W.lookIn
 rw [hd]
 dsimp only
 split
 ·rename_i y q
  rw [q] at e
  exact congrArg some e
 ·rename_i q
  rw [q] at e
  have a:es.toList.any (·.refKey)=false:=by
   rw [List.any_eq_false]
   intro y hy
   obtain ⟨z,t,hkey⟩:=hk y (Array.mem_toList_iff.mp hy)
   simp [DictEntry.refKey,hkey]
  have a':¬ es.toList.any (·.refKey)=true:=by rw [a];exact Bool.false_ne_true
  rw [if_neg a']
  exact congrArg some e

theorem ObjM.look {h:Heap} {x dx C:Addr} {mA:Str->Option Value} (I:ObjM h x dx C mA):∃ od,PySem.W.InstAt h x (PySem.W.instObj C dx) C (some od)/\∀ name,PySem.W.lookIn name od=some (mA name) :=
 let ⟨od,ho,hl⟩:=ZhG I.ns
 ⟨od,⟨I.obj,rfl,rfl,ho⟩,hl⟩

section
variable {prog:Program} {w:World} {A:Around} {E:Value->Shared->Prop} {s:Shared} {K:PySem.W.Frag} {x dx C f:Addr} {mA:Str->Option Value} {name:Str} {v:Value}

theorem ZkP {expr:Bool} {Q:Value->Shared->Prop} (X:K.In s.heap) (I:ObjM s.heap x dx C mA) (hg:PySem.W.plainGet K C name=true) (hh:PySem.W.hasDictIn K C=true)
  (ha:PySem.W.findIn K (.ref C) name=some none) (hv:mA name=some v) (hv':PySem.W.handedIn v=true) (h:Q v { s with toks:=s.toks+1 }) :
  wpAny (model prog w) A (getAttr (.ref x) name expr) Q E s:=by
 obtain ⟨od,J,hl⟩:=I.look
 exact PySem.W.get_value X J (PySem.W.plainGet_of hg).1 (PySem.W.findObj_own hh ha rfl (by rw [hl,hv])) hv' h

theorem Zjk {pl:Sem Bool} {Q:Value×List Value->Shared->Prop} (X:K.In s.heap) (I:ObjM s.heap x dx C mA) (hg:PySem.W.plainGet K C name=true)
  (hf:PySem.W.findIn K (.ref C) name=some (some (.ref f))) (ht:PySem.W.isFn K (.ref f)=true) (hv:mA name=none) (h:Q (.ref f,[.ref x]) s) :
  wpAny (model prog w) A (getMethod (.ref x) name pl) Q E s:=by
 obtain ⟨od,J,hl⟩:=I.look
 exact PySem.W.method_fn X J (PySem.W.plainGet_of hg).1 (PySem.W.plainGet_of hg).2 hf (beq_iff_eq.mp ht) (by show (PySem.W.lookIn name od).map (·.isSome)=some false;rw [hl,hv];rfl) h

theorem Zki {ns:List Str} {Q:Unit->Shared->Prop} (X:K.In s.heap) (I:ObjM s.heap x dx C mA)
  (hs:PySem.W.findIn K (.ref C) "__setattr__"=some (some (.builtin "object.__setattr__"))) (hp:PySem.W.plainOver K C=true) (ht:PySem.W.takerIn K C name=some none) (hh:PySem.W.hasDictIn K C=true)
  (hw:PySem.Within mA ns) (hsz:ns.length<=sizeLine)
  (h:∀ h',ObjM h' x dx C (λy=>if y=name then some v else mA y)->Heap.SameBut dx s.heap h'->Q () { s with heap:=h',toks:=s.toks+2 }) :
  wpAny (model prog w) A (setAttr (.ref x) name v) Q E s:=by
 obtain ⟨od,J,hl⟩:=I.look
 refine PySem.W.set_plain X J hs (PySem.W.osa_open (s:={ s with toks:=s.toks+1 }) (r:=none) X J hp ht λb=>?_)
 obtain ⟨cd,hc,hd'⟩:=PySem.W.any_some hh
 have hx:s.heap.get? x=some ⟨.ref C,some dx,.plain,#[]⟩:=I.obj
 refine wpAny_bind (wpAny_pure (wpAny_bind (wpAny_bind (wpAny_loadPart hx (wpAny_bind (PySem.W.Looks.here (s:={ s with toks:=s.toks+1 }) (PySem.W.looks_clsIn X hc) ?_))))))
 rw [hd']
 refine wpAny_pure (a:=some dx) (wpAny_bind (wpAny_pure (wpAny_bind ?_)))
 refine wpAny_nsSet1 (s:={ s with toks:=s.toks+1 }) I.ns λh' hn2 hs2=>?_
 obtain ⟨oD,esD,epD,hoD,hdD,hcD⟩:=hn2.count (PySem.Within.cons name v hw)
 refine wpAny_bind (wpAny_lookBehind hoD (by rw [hdD];exact pastItsLine_dict (Nat.le_trans hcD (by rw [List.length_cons];omega))) ?_)
 exact wpAny_pure (h _ ⟨(hs2.2 _ (Ne.symm I.ne)).trans I.obj,hn2,I.ne⟩ hs2)

theorem Zi6 {R:Result->Shared->Prop} {vs:List Value} {kw:List (Str×Value)} (X:K.In s.heap) (hm:PySem.W.makesIn K C=true)
  (hi:PySem.W.findIn K (.ref C) "__init__"=some (some (.ref f))) (hf:PySem.W.typeIn K (.ref f)=some (.type "function"))
  (h:codeAny (model prog w) (A.under (.builtin "type.__call__" ⟨.ref C::vs,kw⟩)) (.call (.ref f) ⟨.ref (s.heap.objs.size+1)::vs,kw⟩) (PySem.W.InitBack (s.heap.objs.size+1) R)
   { s with heap:=(s.heap.push PySem.W.emptyDict).push (PySem.W.instObj C s.heap.objs.size) }) :
  codeAny (model prog w) A (.call (.ref C) ⟨vs,kw⟩) R s:=by
 obtain ⟨hh,g,d,t,os⟩:=s
 exact PySem.W.make_core (PySem.W.makes_of X hm) (PySem.W.looks_findIn X hi) (λself=>PySem.W.bind_fn X self hf) (.inl rfl) h
end

def putF (f:Str) (v:V):List (Str×V)->List (Str×V)
 |[]=>[(f,v)]
 | (g,x)::r=>if g=f then (g,v)::r else (g,x)::putF f v r
theorem Zde (f g:Str) (v:V):∀ fs:List (Str×V),(putF f v fs).lookup g=if g=f then some v else fs.lookup g
 |[]=>by
  show List.lookup g [(f,v)]=_
  by_cases h:g=f
  ·have hb:(g == f)=true:=beq_iff_eq.mpr h
   simp only [List.lookup,hb,if_pos h]
  ·have hb:(g == f)=false:=beq_eq_false_iff_ne.mpr h
   simp only [List.lookup,hb,if_neg h]
 | (k,x)::r=>by
  have ih:=Zde f g v r
  rw [show putF f v ((k,x)::r)=(if k=f then (k,v)::r else (k,x)::putF f v r) from rfl]
  by_cases hk:k=f
  ·rw [if_pos hk]
   by_cases h:g=k
   ·have hb:(g == k)=true:=beq_iff_eq.mpr h
    simp only [List.lookup,hb,if_pos (h.trans hk)]
   ·have hb:(g == k)=false:=beq_eq_false_iff_ne.mpr h
    simp only [List.lookup,hb,if_neg (λe:g=f=>h (e.trans hk.symm))]
  ·rw [if_neg hk]
   by_cases h:g=k
   ·have hb:(g == k)=true:=beq_iff_eq.mpr h
    simp only [List.lookup,hb,if_neg (λe:g=f=>hk (h.symm.trans e))]
   ·have hb:(g == k)=false:=beq_eq_false_iff_ne.mpr h
    simp only [List.lookup,hb]
    exact ih
theorem Zdi (f:Str) (v:V):∀ fs:List (Str×V),f∈(putF f v fs).map (·.1)/\∀ g,g∈fs.map (·.1)->g∈(putF f v fs).map (·.1)
 |[]=>⟨by simp [putF],λg h=>by simp at h⟩
 | (k,x)::r=>by
  obtain ⟨i1,i2⟩:=Zdi f v r
  rw [show putF f v ((k,x)::r)=(if k=f then (k,v)::r else (k,x)::putF f v r) from rfl]
  by_cases hk:k=f
  ·rw [if_pos hk]
   subst hk
   exact ⟨by simp,λg h=>by simpa using h⟩
  ·rw [if_neg hk]
   refine ⟨?_,λg h=>?_⟩
   ·rw [List.map_cons]
    exact List.mem_cons_of_mem _ i1
   ·rw [List.map_cons] at h |-
    rcases List.mem_cons.mp h with e | e
    ·exact List.mem_cons.mpr (.inl e)
    ·exact List.mem_cons_of_mem _ (i2 g e)
theorem Zdf (f:Str) (v:V):∀ fs:List (Str×V),(putF f v fs).length<=fs.length+1
 |[]=>by simp [putF]
 | (k,x)::r=>by
  have ih:=Zdf f v r
  rw [show putF f v ((k,x)::r)=(if k=f then (k,v)::r else (k,x)::putF f v r) from rfl]
  by_cases hk:k=f
  ·rw [if_pos hk,List.length_cons,List.length_cons];omega
  ·rw [if_neg hk,List.length_cons,List.length_cons];omega

theorem RelO.some_of {v:V} {o:Option Value} (r:RelO (some v) o):∃ u,o=some u/\RelV v u:=by
 cases o with
 |none=>exact (show False from r).elim
 |some u=>exact ⟨u,rfl,r⟩
theorem RelO.none_of {o:Option Value} (r:RelO none o):o=none:=by
 cases o with
 |none=>rfl
 |some u=>exact (show False from r).elim
theorem ZhV {v:V} {u:Value} (r:RelV v u):PySem.W.handedIn u=true:=by
 cases v with
 |non=>cases (show u=Value.none from r);rfl
 |bl b=>cases (show u=Value.bool b from r);rfl
 |int i=>obtain ⟨t,e⟩:=(show ∃ t,u=Value.int i t from r);cases e;rfl
 |str x=>obtain ⟨t,e⟩:=(show ∃ t,u=Value.str x t from r);cases e;rfl
 |byt b=>obtain ⟨t,e⟩:=(show ∃ t,u=Value.bytes b t from r);cases e;rfl
 |flt b=>obtain ⟨t,e⟩:=(show ∃ t,u=Value.float b t from r);cases e;rfl
 |ref a=>cases (show u=Value.ref a from r);rfl
 |ty n=>cases (show u=Value.type n from r);rfl

section
variable {P:Program} {w:World} {H H':Hp} {h h':Heap} {a C dx:Addr} {fs fs':List (Str×V)}
theorem Zfe (hok:HOk P w H h) (e:H a=some (.ins C dx fs)):∃ mA,ObjM h a dx C mA/\(∀ f,RelO (fs.lookup f) (mA f))/\PySem.Within mA (fs.map (·.1))/\fs.length<=1000/\H dx=some (.own a):=by
 obtain ⟨d,z,ne,ob,mA,n,r,q⟩:=(show ObjOk P w H h a (.ins C dx fs) from hok a _ e)
 exact ⟨mA,⟨ob,n,ne⟩,r,q,z,d⟩
end

structure Cls (K:PySem.W.Frag) (C:Addr):Prop where
 pg:PySem.W.plainGet K C Str.empty=true
 hd:PySem.W.hasDictIn K C=true
 po:PySem.W.plainOver K C=true
 sa:PySem.W.findIn K (.ref C) "__setattr__"=some (some (.builtin "object.__setattr__"))
theorem Cls.get {K:PySem.W.Frag} {C:Addr} (c:Cls K C) (f:Str):PySem.W.plainGet K C f=true:=c.pg
def NoAttr (K:PySem.W.Frag) (C:Addr) (f:Str):Prop:=PySem.W.findIn K (.ref C) f=some none
theorem NoAttr.taker {K:PySem.W.Frag} {C:Addr} {f:Str} (n:NoAttr K C f):PySem.W.takerIn K C f=some none:=by
 unfold PySem.W.takerIn
 rw [show PySem.W.findIn K (.ref C) f=some none from n]
 rfl
structure Meth (K:PySem.W.Frag) (C:Addr) (m:Str) (f:Addr):Prop where
 at_:PySem.W.findIn K (.ref C) m=some (some (.ref f))
 fn:PySem.W.isFn K (.ref f)=true
 kp:PySem.W.keepIn K (.ref f)=true

section
variable {X:Cx} {pins:List (Addr×Obj)} {σ:St} {H:Hp} {s:Shared} {a C dx:Addr} {fs:List (Str×V)} {f:Str} {v:V} {A:Around} {E:Value->Shared->Prop}

theorem Zgy {b:Bool} {Q:Value->Shared->Prop} (I:Inv X pins σ H s) (e:H a=some (.ins C dx fs)) (c:Cls X.K C) (n:NoAttr X.K C f) (l:fs.lookup f=some v)
  (h:∀ u s',Inv X pins σ H s'->RelV v u->Q u s'):wpAny (model X.prog X.w) A (getAttr (.ref a) f b) Q E s:=by
 obtain ⟨mA,O,r,_,_,_⟩:=Zfe I.hok e
 obtain ⟨u,hu,ru⟩:=RelO.some_of (v:=v) (o:=mA f) (by rw [<- l];exact r f)
 exact ZkP I.kIn O (c.get f) c.hd n hu (ZhV ru) (h u _ (I.tok _) ru)

theorem ZdC {m:Str} {g:Addr} {pl:Sem Bool} {Q:Value×List Value->Shared->Prop} (I:Inv X pins σ H s) (e:H a=some (.ins C dx fs)) (c:Cls X.K C) (k:Meth X.K C m g) (l:fs.lookup m=none)
  (h:Q (.ref g,[.ref a]) s):wpAny (model X.prog X.w) A (getMethod (.ref a) m pl) Q E s:=by
 obtain ⟨mA,O,r,_,_,_⟩:=Zfe I.hok e
 have hn:mA m=none:=RelO.none_of (by rw [<- l];exact r m)
 exact Zjk I.kIn O (c.get m) k.at_ k.fn hn h

theorem Zgg {y:V} {u:Value} {Q:Unit->Shared->Prop} (I:Inv X pins σ H s) (e:H a=some (.ins C dx fs)) (c:Cls X.K C) (n:NoAttr X.K C f) (hl:fs.length<1000) (ry:RelV y u)
  (h:∀ s',Inv X pins σ (upd H a (.ins C dx (putF f y fs))) s'->Q () s'):wpAny (model X.prog X.w) A (setAttr (.ref a) f u) Q E s:=by
 obtain ⟨mA,O,r,wi,_,ho⟩:=Zfe I.hok e
 have hz:(fs.map (·.1)).length<=sizeLine:=by rw [List.length_map,sizeLine_eq];omega
 refine Zki I.kIn O c.sa c.po n.taker c.hd wi hz λh' O' sb=>h _ ?_
 have hd:∃ o,h'.get? dx=some o:=let ⟨o,_,_,e',_⟩:=O'.ns;⟨o,e'⟩
 refine I.write (x:=a) (e:=dx) (by rw [e];exact True.intro) (.inr ho) (λb q hb z=>(sb.2 b hb).trans z) hd ?_
 refine ⟨by rw [Zae O.ne];exact ho,?_,O.ne,O'.obj,_,O'.ns,λg=>?_,λg hg=>?_⟩
 ·have:=Zdf f y fs;omega
 ·show RelO ((putF f y fs).lookup g) (if g=f then some u else mA g)
  rw [Zde]
  by_cases q:g=f
  ·rw [if_pos q,if_pos q];exact ry
  ·rw [if_neg q,if_neg q];exact r g
 ·by_cases q:g=f
  ·rw [q];exact (Zdi f y fs).1
  ·refine (Zdi f y fs).2 g (wi g λz=>hg ?_)
   show (if g=f then some u else mA g)=none
   rw [if_neg q];exact z

theorem Inv.made (I:Inv X pins σ H s):Inv X pins σ (upd (upd H s.heap.objs.size (.own (s.heap.objs.size+1))) (s.heap.objs.size+1) (.ins C s.heap.objs.size []))
  { s with heap:=(s.heap.push PySem.W.emptyDict).push (PySem.W.instObj C s.heap.objs.size) }:=by
 have e1:(s.heap.push PySem.W.emptyDict).get? s.heap.objs.size=some PySem.W.emptyDict:=Heap.get?_push_size s.heap rfl
 have e2:((s.heap.push PySem.W.emptyDict).push (PySem.W.instObj C s.heap.objs.size)).get? (s.heap.objs.size+1)=some (PySem.W.instObj C s.heap.objs.size):=by
  have:=Heap.get?_push_size (s.heap.push PySem.W.emptyDict) (o:=PySem.W.instObj C s.heap.objs.size) rfl
  rwa [Heap.size_push] at this
 have e3:(s.heap.push PySem.W.emptyDict).Ns s.heap.objs.size (λ_=>none):=⟨PySem.W.emptyDict,#[],_,e1,rfl,(λe he=>absurd he (by simp)),λ_=>rfl⟩
 have I1:=I.laid (a:=s.heap.objs.size) (o:=.own (s.heap.objs.size+1)) (h':=s.heap.push PySem.W.emptyDict) (t':=s.toks) (λb u q=>Heap.get?_push_of_some _ q) (Nat.le_refl _) ⟨_,e1⟩
 refine I1.laid (a:=s.heap.objs.size+1) (o:=.ins C s.heap.objs.size []) (t':=s.toks) (λb u q=>Heap.get?_push_of_some _ q) (Nat.le_of_eq (Heap.size_push _ _)) ?_
 have ne:s.heap.objs.size≠s.heap.objs.size+1:=Nat.ne_of_lt (Nat.lt_succ_self _)
 refine ⟨by rw [Zae ne,Zab],Nat.zero_le _,ne,e2,λ_=>none,(Heap.Ns1.of_empty e3).at λo q=>Heap.get?_push_of_some _ q,λ_=>True.intro,λy hy=>absurd rfl hy⟩

theorem Zk1 {prog:Program} {w:World} {env:Env} {e:Expr} {f:Str} {pos:Pos} {s:Shared} {Q:Value->Shared->Prop} (hb:attributeBase e f env (eval e env)=eval e env)
  (h:wpAny (model prog w) A (eval e env) (λo s₁=>wpAny (model prog w) A (getAttr o f true) Q E s₁) E s):wpAny (model prog w) A (eval (.Attribute e f pos) env) Q E s :=
 Attribute_any_ h (by rw [arm_eval_Attribute,hb])
end

def tFld (K:PySem.W.Frag) (ta:TE) (f:Str):TE:=λσ H Q=>ta σ H λx H1=>∃ a C dx fs v,x=.ref a/\H1 a=some (.ins C dx fs)/\Cls K C/\NoAttr K C f/\fs.lookup f=some v/\Q v H1
def sFld (K:PySem.W.Frag) (ta tv:TE) (f:Str):TS:=λD σ H=>tv σ H λy H1=>ta σ H1 λx H2=>∃ a C dx fs,x=.ref a/\H2 a=some (.ins C dx fs)/\Cls K C/\NoAttr K C f/\fs.length<1000 /\
 D.nx σ (upd H2 a (.ins C dx (putF f y fs)))
section
variable {X:Cx} {o e value:Expr} {f:Str} {pos pos' tpos:Pos} {ta tv:TE}
theorem ZaQ (he:PE X e ta) (hb:attributeBase e f X.env (eval e X.env)=eval e X.env):PE X (.Attribute e f pos) (tFld X.K ta f):=by
 intro pins s σ H Q I h
 refine Zk1 hb (thn (he pins s σ H _ I h) λu s1 ⟨x,H1,I1,rx,a,C,dx,fs,v,ex,ea,c,n,l,q⟩=>?_)
 subst ex
 obtain rfl:u=Value.ref a:=rx
 exact Zgy I1 ea c n l λu' s2 I2 ru=>⟨v,H1,I2,ru,q⟩
theorem Zbv (ha:PE X o ta) (hv:PE X value tv) (hs:swapsWith value (some (.Attribute o f pos')) pos.line X.env=pure false):PS X (.Assign [.Attribute o f pos'] value pos) (sFld X.K ta tv f):=by
 intro pins s σ H D I h
 refine plainObj_wpAny_Assign_Attribute (thn (hv pins s σ H _ I h) λu s1 ⟨y,H1,I1,ry,q⟩=>thn (ha pins s1 σ H1 _ I1 q) λov s2 ⟨x,H2,I2,rx,a,C,dx,fs,ex,ea,c,n,l,q2⟩=>?_) hs
 subst ex
 obtain rfl:ov=Value.ref a:=rx
 exact Zgg I2 ea c n l ry λs3 I3=>⟨σ,_,I3,q2⟩
end

section
variable {X:Cx} {pins:List (Addr×Obj)} {σ:St} {H:Hp} {s:Shared} {A:Around} {E:Value->Shared->Prop} {Q:Value->Shared->Prop} {c:Value} {b:Bool}
end
end L2

namespace L2
open PySem PySem.Spec PyProof.Rows

structure Room (k:Nat) (A:Around):Prop where
 hd:A.handled=none
 dp:A.depth+3*k+5<recursionLimit
 un:A.units+16*k+200<cLine
theorem Room.mono {j k:Nat} {A:Around} (r:Room k A) (h:j<=k):Room j A:=⟨r.hd,by have:=r.dp;omega,by have:=r.un;omega⟩
theorem Room.deeper {k:Nat} {A:Around} (r:Room (k+1) A) (env:Env):Room k (A.deeper env) :=
 ⟨r.hd,by have:=r.dp;show A.depth+1+3*k+5<_;omega,by have:=r.un;show A.units+3+16*k+200<_;omega⟩
theorem Zgw {A:Around} {C:Addr} {us:List Value} {kw:List (Str×Value)}:(A.under (.builtin "type.__call__" ⟨.ref C::us,kw⟩)).depth=A.depth+1:=by
 first | rfl | simp [Around.under,Code.weight,Code.isCreation,Code.isGuard,Code.isCaller,Code.frames,Code.isFrame,guardIds]
theorem Zgv {A:Around} {C:Addr} {us:List Value} {kw:List (Str×Value)}:(A.under (.builtin "type.__call__" ⟨.ref C::us,kw⟩)).units=A.units+1:=by
 first | rfl | simp [Around.under,Code.cUnits,Code.frames,Code.isFrame]
theorem Room.make {k:Nat} {A:Around} (r:Room (k+1) A) (C:Addr) (us:List Value) (kw:List (Str×Value)):Room k (A.under (.builtin "type.__call__" ⟨.ref C::us,kw⟩)) :=
 ⟨r.hd,by have:=r.dp;rw [Zgw];omega,by have:=r.un;rw [Zgv];omega⟩
theorem Room.depth {k:Nat} {A:Around} (r:Room k A):A.depth<recursionLimit:=by have:=r.dp;omega
theorem Room.units {k:Nat} {A:Around} (r:Room k A):A.units+64<cLine:=by have:=r.un;omega
def tNil:TA:=λ_ H Q=>Q [] H
def ZiJ (ta:TE) (tr:TA):TA:=λσ H Q=>ta σ H λx H1=>tr σ H1 λxs H2=>Q (x::xs) H2
section
variable {X:Cx} {e:Expr} {es:List Expr} {te:TE} {t:TA} {pos:Pos}
theorem Zac:PA X [] tNil:=λ_ _ _ _ H Q I h=>Calls.spliced_nil ⟨[],H,I,.nil,h⟩
theorem Zaa (ha:PE X e te) (hr:PA X es t) (hs:starEach (e::es) X.env=(false,eval e X.env)::starEach es X.env:=by rfl):PA X (e::es) (ZiJ te t):=by
 intro pos pins s σ H Q I h
 rw [hs]
 show wpAny _ _ (spliced ((false,eval e X.env)::backTo pos (starEach es X.env))) _ _ s
 refine Calls.spliced_cons (thn (ha pins s σ H _ I h) λu s1 ⟨x,H1,I1,r1,q1⟩=>?_)
 exact thn (hr pos pins s1 σ H1 _ I1 q1) λus s2 ⟨xs,H2,I2,r2,q2⟩=>⟨x::xs,H2,I2,.cons r1 r2,q2⟩

def tTup (t:TA):TE:=λσ H Q=>t σ H λxs H1=>xs.length<=sizeLine/\∀ p,H1 p=none->Q (.ref p) (upd H1 p (.tup xs))
def tLst (t:TA):TE:=λσ H Q=>t σ H λxs H1=>xs.length<=sizeLine/\∀ p,H1 p=none->Q (.ref p) (upd H1 p (.lst xs))
theorem Zap {x1} (h:PA X es t):PE X (.Tuple es x1 pos) (tTup t):=by
 intro pins s σ H Q I hq
 refine wpAny_Tuple_spliced (thn (h pos pins s σ H _ I hq) λus s1 ⟨xs,H1,I1,r,z,q⟩=>⟨by rw [<- r.length];exact z,?_⟩)
 have hf:H1 s1.heap.objs.size=none:=I1.hok.fresh (Nat.le_refl _)
 refine ⟨.ref s1.heap.objs.size,upd H1 s1.heap.objs.size (.tup xs),I1.laid (t':=s1.toks) (λb u e=>Heap.get?_push_of_some _ e) (Nat.le_refl _) ?_,rfl,q _ hf⟩
 exact ⟨z,us,r,⟨_,Heap.get?_push_size _ rfl,rfl,_,rfl⟩⟩
theorem ZaL (h:PA X es t):PE X (.List es pos) (tLst t):=by
 intro pins s σ H Q I hq
 refine wpAny_List_spliced (thn (h pos pins s σ H _ I hq) λus s1 ⟨xs,H1,I1,r,z,q⟩=>⟨by rw [<- r.length];exact z,?_⟩)
 have hf:H1 s1.heap.objs.size=none:=I1.hok.fresh (Nat.le_refl _)
 refine ⟨.ref s1.heap.objs.size,upd H1 s1.heap.objs.size (.lst xs),I1.laid (t':=s1.toks) (λb u e=>Heap.get?_push_of_some _ e) (Nat.le_refl _) ?_,rfl,q _ hf⟩
 exact ⟨z,us,0,r,Heap.get?_push_size _ rfl⟩
end

abbrev Sp:=List V->Hp->VK->XK->Prop
abbrev CXT:=List Env->Hp->Shared->XK->Value->Shared->Prop

structure Env0 (P:Program) (w:World) (K:PySem.W.Frag) (mg:Str->Option Value) (base:Heap) (A:Around) (outer:List Env) (s:Shared) (H:Hp):Prop where
 frames:A.frames=some outer
 mod:Mod K mg base
 bs:∀ b o,base.get? b=some o->s.heap.get? b=some o/\H b=none
 bsz:base.objs.size<=s.heap.objs.size
 funs:s.heap.FunFrames base outer
 frf:∀ b∈frs outer,H b=none
 hok:HOk P w H s.heap
 bare:AllBare s.gens
def CE (outer:List Env) (P:Program) (w:World) (H:Hp) (s:Shared) (Q:VK) (u:Value) (s':Shared):Prop :=
 ∃ v H',s'.os=s.os/\AllBare s'.gens/\Un (frs outer) [] H H' s.heap s'.heap/\HOk P w H' s'.heap/\RelV v u/\Q v H'
def CR (CX:CXT) (outer:List Env) (P:Program) (w:World) (H:Hp) (s:Shared) (Q:VK) (E:XK) (r:Result) (s':Shared):Prop :=
 match r with
 |.ok (.ret u)=>CE outer P w H s Q u s'
 |.ok _=>False
 |.error e=>CX outer H s E e s'
structure FnOk (P:Program) (w:World) (K:PySem.W.Frag) (mg:Str->Option Value) (base:Heap) (CX:CXT) (k:Nat) (f:Addr) (fd:FuncData) (ps:List Str) (sp:Sp):Prop where
 len:∀ vs H Q E,sp vs H Q E->vs.length=ps.length
 run:∀ (A:Around) (outer:List Env) (s:Shared) (H:Hp) (args:Args) (us:List Value) (vs:List V) (Q:VK) (E:XK),Room k A->Env0 P w K mg base A outer s H->BindsTo s fd args (ps.zip us)->Vals vs us->sp vs H Q E ->
  codeAny (model P w) A (.call (.ref f) args) (CR CX outer P w H s Q E) s
theorem Env0.make {P:Program} {w:World} {K:PySem.W.Frag} {mg:Str->Option Value} {base:Heap} {A:Around} {outer:List Env} {s:Shared} {H:Hp} (e:Env0 P w K mg base A outer s H) (C:Addr) (us:List Value) (kw:List (Str×Value)) :
  Env0 P w K mg base (A.under (.builtin "type.__call__" ⟨.ref C::us,kw⟩)) outer s H:=⟨by first | exact e.frames | (simpa [Around.under,Code.envs,Code.isFrame,pushEnvs] using e.frames),e.mod,e.bs,e.bsz,e.funs,e.frf,e.hok,e.bare⟩
section
variable {X:Cx} {pins:List (Addr×Obj)} {σ:St} {H:Hp} {s s':Shared}
theorem Inv.env0 (I:Inv X pins σ H s):Env0 X.prog X.w X.K X.mg X.base X.A X.stack s H :=
 ⟨I.ok.frames,I.ok.mod,I.bs,Nat.le_trans I.ok.bsz I.sz,I.stack,I.stkFree,I.hok,I.bare⟩
theorem Inv.after {Q:VK} {u:Value} (I:Inv X pins σ H s) (h:CE X.stack X.prog X.w H s Q u s'):EP X pins σ Q u s':=by
 obtain ⟨v,H',os,bare,un,hok,r,q⟩:=h
 obtain ⟨hh,g,d,t,os'⟩:=s'
 obtain rfl:os'=s.os:=os
 exact ⟨v,H',I.call (h':=hh) (g':=g) (d':=d) (t':=t) (ch:=[]) un hok bare (λb z=>absurd z (by simp)),r,q⟩
end

def Zge (sp:Sp) (dvs:List V) (E:XK) (t:TA):TE:=λσ H Q=>t σ H λvs H1=>sp (vs++dvs) H1 Q E
def ZgQ (C:Addr) (m:Str) (sp:Sp) (dvs:List V) (E:XK) (ta:TE) (t:TA):TE:=λσ H Q=>ta σ H λx H1=>∃ a dx fs,x=.ref a/\H1 a=some (.ins C dx fs)/\fs.lookup m=none /\
 t σ H1 λvs H2=>sp (x::(vs++dvs)) H2 Q E
def ZgR (C:Addr) (sp:Sp) (dvs:List V) (E:XK) (t:TA):TE:=λσ H Q=>t σ H λvs H1=>∀ x dx,H1 x=none->H1 dx=none->dx≠x ->
 sp (.ref x::(vs++dvs)) (upd (upd H1 dx (.own x)) x (.ins C dx [])) (λv H2=>v=.non/\Q (.ref x) H2) E

def Binds (K:PySem.W.Frag) (fd:FuncData) (ps:List Str) (ds:List Value):Prop :=
 ∀ (s:Shared) (us:List Value),K.In s.heap->(us++ds).length=ps.length->BindsTo s fd ⟨us,[]⟩ (ps.zip (us++ds))
theorem Binds.all {K:PySem.W.Frag} {fd:FuncData} {ps:List Str} (h:∀ us:List Value,us.length=ps.length->bindArgs fd ⟨us,[]⟩=pure (ps.zip us)):Binds K fd ps []:=λs us _ hl=>by
 rw [List.append_nil] at hl |-
 exact .of_eq (h us hl)

def ZbB (CX:CXT) (X:Cx) (E:XK):Prop:=∀ (pins:List (Addr×Obj)) (σ:St) (H:Hp) (s:Shared) (e:Value) (s':Shared),Inv X pins σ H s->CX X.stack H s E e s'->X.xe e s'

section
variable {X:Cx} {CX:CXT} {k:Nat} {f C:Addr} {fd:FuncData} {ps:List Str} {sp:Sp} {dvs:List V} {ds:List Value} {E:XK} {x m:Str} {p pos apos:Pos} {e o:Expr} {es:List Expr} {ta:TE} {t:TA}

theorem ZfH {pins:List (Addr×Obj)} {σ:St} {H:Hp} {s:Shared} {Q:VK} {us:List Value} {vs:List V} (F:FnOk X.prog X.w X.K X.mg X.base CX k f fd ps sp) (hr:Room k X.A) (hb:Binds X.K fd ps ds) (hd:Vals dvs ds) (hx:ZbB CX X E)
  (I:Inv X pins σ H s) (r:Vals vs us) (h:sp (vs++dvs) H Q E):wpAny (model X.prog X.w) X.A (call (.ref f) us) (EP X pins σ Q) X.xe s:=by
 have r2:Vals (vs++dvs) (us++ds):=r.append hd
 have hl:(us++ds).length=ps.length:=by rw [<- r2.length];exact F.len _ _ _ _ h
 refine wpAny_call (codeAny_mono (F.run X.A X.stack s H ⟨us,[]⟩ (us++ds) (vs++dvs) Q E hr I.env0 (hb s us I.kIn hl) r2 h) λr s' hq=>?_)
 cases r with
 |error e=>exact hx pins σ H s e s' I hq
 |ok fl =>
  cases fl with
  |ret u=>exact I.after hq
  |next=>exact False.elim hq
  |brk=>exact False.elim hq
  |cont=>exact False.elim hq

theorem ZaF (F:FnOk X.prog X.w X.K X.mg X.base CX k f fd ps sp) (hr:Room k X.A) (hg:Gl X x) (hm:X.mg x=some (.ref f)) (hk:PySem.W.keepIn X.K (.ref f)=true) (hb:Binds X.K fd ps ds) (hd:Vals dvs ds) (hx:ZbB CX X E)
  (ha:PA X (e::es) t) (hdb:(x == ("__debug__":Str))=false:=by decide) (he:starEach (e::es) X.env=(false,eval e X.env)::starEach es X.env:=by rfl) (hpl:(backTo pos (starEach es X.env)).any (·.1)=false:=by rfl) :
  PE X (.Call (.Name x p) (e::es) [] pos) (Zge sp dvs E t):=by
 intro pins s σ H Q I h
 refine wpAny_Call_Name_kw (ZbE I hg hm ?_ hdb)
 refine PySem.W.callWith_K (h₀:=X.base) I.ok.mod.kin hk (thn (ha pos pins s σ H _ I h) λus s1 ⟨vs,H1,I1,r,q⟩=>⟨I1.kIn,?_⟩) he hpl
 exact ZfH F hr hb hd hx I1 r q
theorem ZiZ (F:FnOk X.prog X.w X.K X.mg X.base CX k f fd ps sp) (hr:Room k X.A) (hg:Gl X x) (hm:X.mg x=some (.ref f)) (hk:PySem.W.keepIn X.K (.ref f)=true) (hb:Binds X.K fd ps ds) (hd:Vals dvs ds) (hx:ZbB CX X E)
  (hdb:(x == ("__debug__":Str))=false:=by decide):PE X (.Call (.Name x p) [] [] pos) (Zge sp dvs E tNil):=by
 intro pins s σ H Q I h
 refine wpAny_Call_Name_kw (ZbE I hg hm ?_ hdb)
 exact PySem.W.callWith_K0 I.kIn hk (ZfH (us:=[]) F hr hb hd hx I .nil h)

theorem Zay {pl:Sem Bool} (he:PE X o ta) (c:Cls X.K C) (hm:Meth X.K C m f) (F:FnOk X.prog X.w X.K X.mg X.base CX k f fd ps sp) (hr:Room k X.A) (hb:Binds X.K fd ps ds) (hd:Vals dvs ds) (hx:ZbB CX X E) (ha:PA X (e::es) t)
  (hst:starEach (e::es) X.env=(false,eval e X.env)::starEach es X.env:=by rfl) (hpl:(backTo pos (starEach es X.env)).any (·.1)=false:=by rfl)
  (ht:eval (.Call (.Attribute o m apos) (e::es) [] pos) X.env=(do
   let ov <- eval o X.env
   standAt apos.atName
   let (f,first) <- holding [ov] (getMethod ov m pl)
   callWith pos f first (backTo pos (starEach (e::es) X.env)) (backToKw pos (keywordEach [] X.env))):=by rfl) :
  PE X (.Call (.Attribute o m apos) (e::es) [] pos) (ZgQ C m sp dvs E ta t):=by
 intro pins s σ H Q I h
 refine PySem.W.methodCall_KW (pl:=pl) (thn (he pins s σ H _ I h) λu s1 ⟨x,H1,I1,rx,a,dx,fs,ex,ea,l,q⟩=>?_) ht
 subst ex
 obtain rfl:u=Value.ref a:=rx
 refine ZdC I1 ea c hm l ?_
 refine PySem.W.callWith_K (first:=[.ref a]) (h₀:=X.base) I.ok.mod.kin hm.kp (thn (ha pos pins s1 σ H1 _ I1 q) λus s2 ⟨vs,H2,I2,r,q2⟩=>⟨I2.kIn,?_⟩) hst hpl
 exact ZfH (us:=.ref a::us) (vs:=.ref a::vs) F hr hb hd hx I2 (.cons rfl r) q2
theorem ZfQ {pl:Sem Bool} (he:PE X o ta) (c:Cls X.K C) (hm:Meth X.K C m f) (F:FnOk X.prog X.w X.K X.mg X.base CX k f fd ps sp) (hr:Room k X.A) (hb:Binds X.K fd ps ds) (hd:Vals dvs ds) (hx:ZbB CX X E)
  (ht:eval (.Call (.Attribute o m apos) [] [] pos) X.env=(do
   let ov <- eval o X.env
   standAt apos.atName
   let (f,first) <- holding [ov] (getMethod ov m pl)
   callWith pos f first (backTo pos (starEach [] X.env)) (backToKw pos (keywordEach [] X.env))):=by rfl) :
  PE X (.Call (.Attribute o m apos) [] [] pos) (ZgQ C m sp dvs E ta tNil):=by
 intro pins s σ H Q I h
 refine PySem.W.methodCall_KW (pl:=pl) (thn (he pins s σ H _ I h) λu s1 ⟨x,H1,I1,rx,a,dx,fs,ex,ea,l,q⟩=>?_) ht
 subst ex
 obtain rfl:u=Value.ref a:=rx
 refine ZdC I1 ea c hm l ?_
 exact PySem.W.callWith_K0 (first:=[.ref a]) I1.kIn hm.kp (ZfH (us:=[.ref a]) (vs:=[.ref a]) F hr hb hd hx I1 (.cons rfl .nil) q)

structure Mk (K:PySem.W.Frag) (C f:Addr):Prop where
 makes:PySem.W.makesIn K C=true
 init:PySem.W.findIn K (.ref C) "__init__"=some (some (.ref f))
 fn:PySem.W.isFn K (.ref f)=true
 kp:PySem.W.keepIn K (.ref C)=true

theorem ZfG {pins:List (Addr×Obj)} {σ:St} {H:Hp} {s:Shared} {Q:VK} {us:List Value} {vs:List V} (M:Mk X.K C f) (F:FnOk X.prog X.w X.K X.mg X.base CX k f fd ps sp) (hr:Room (k+1) X.A) (hb:Binds X.K fd ps ds) (hd:Vals dvs ds)
  (hx:ZbB CX X E) (I:Inv X pins σ H s) (r:Vals vs us)
  (h:∀ x dx,H x=none->H dx=none->dx≠x->sp (.ref x::(vs++dvs)) (upd (upd H dx (.own x)) x (.ins C dx [])) (λv H2=>v=.non/\Q (.ref x) H2) E) :
  wpAny (model X.prog X.w) X.A (call (.ref C) us) (EP X pins σ Q) X.xe s:=by
 have hq:=h (s.heap.objs.size+1) s.heap.objs.size (I.hok.fresh (Nat.le_succ _)) (I.hok.fresh (Nat.le_refl _)) (Nat.ne_of_lt (Nat.lt_succ_self _))
 have I2:=Inv.made (C:=C) I
 have r2:Vals (V.ref (s.heap.objs.size+1)::(vs++dvs)) (Value.ref (s.heap.objs.size+1)::(us++ds)):=.cons rfl (r.append hd)
 have hl:(Value.ref (s.heap.objs.size+1)::us++ds).length=ps.length:=by
  have e:=r2.length
  rw [F.len _ _ _ _ hq] at e
  exact e.symm
 refine wpAny_call (Zi6 (f:=f) I.kIn M.makes M.init (beq_iff_eq.mp M.fn) (codeAny_mono (F.run _ X.stack _ _ ⟨Value.ref (s.heap.objs.size+1)::us,[]⟩ (Value.ref (s.heap.objs.size+1)::(us++ds)) _ _ E (hr.make C us [])
  (I2.env0.make C us []) (hb _ (Value.ref (s.heap.objs.size+1)::us) I2.kIn hl) r2 hq) λr s' hq'=>?_))
 cases r with
 |error e=>exact hx pins σ _ _ e s' I2 hq'
 |ok fl =>
  cases fl with
  |ret u =>
   obtain ⟨v,H',I3,rv,ev,q3⟩:=I2.after hq'
   subst ev
   exact ⟨rv,⟨V.ref (s.heap.objs.size+1),H',I3,rfl,q3⟩⟩
  |next=>exact False.elim hq'
  |brk=>exact False.elim hq'
  |cont=>exact False.elim hq'
theorem Zkv (M:Mk X.K C f) (F:FnOk X.prog X.w X.K X.mg X.base CX k f fd ps sp) (hr:Room (k+1) X.A) (hg:Gl X x) (hm:X.mg x=some (.ref C)) (hb:Binds X.K fd ps ds) (hd:Vals dvs ds) (hx:ZbB CX X E)
  (ha:PA X (e::es) t) (hdb:(x == ("__debug__":Str))=false:=by decide) (he:starEach (e::es) X.env=(false,eval e X.env)::starEach es X.env:=by rfl) (hpl:(backTo pos (starEach es X.env)).any (·.1)=false:=by rfl) :
  PE X (.Call (.Name x p) (e::es) [] pos) (ZgR C sp dvs E t):=by
 intro pins s σ H Q I h
 refine wpAny_Call_Name_kw (ZbE I hg hm ?_ hdb)
 refine PySem.W.callWith_K (h₀:=X.base) I.ok.mod.kin M.kp (thn (ha pos pins s σ H _ I h) λus s1 ⟨vs,H1,I1,r,q⟩=>⟨I1.kIn,?_⟩) he hpl
 exact ZfG M F hr hb hd hx I1 r q
theorem ZfR (M:Mk X.K C f) (F:FnOk X.prog X.w X.K X.mg X.base CX k f fd ps sp) (hr:Room (k+1) X.A) (hg:Gl X x) (hm:X.mg x=some (.ref C)) (hb:Binds X.K fd ps ds) (hd:Vals dvs ds) (hx:ZbB CX X E)
  (hdb:(x == ("__debug__":Str))=false:=by decide):PE X (.Call (.Name x p) [] [] pos) (ZgR C sp dvs E tNil):=by
 intro pins s σ H Q I h
 refine wpAny_Call_Name_kw (ZbE I hg hm ?_ hdb)
 exact PySem.W.callWith_K0 I.kIn M.kp (ZfG (us:=[]) M F hr hb hd hx I .nil h)
end

section
variable {X:Cx} {CX:CXT} {k:Nat} {f C:Addr} {fd:FuncData} {ps ks:List Str} {sp:Sp} {E:XK} {x m:Str} {p pos apos kpos:Pos} {e o:Expr} {es:List Expr} {kws:List Keyword} {te ta:TE} {t tk:TA} {nm:Option Str}
variable {g:List Value->List Value->List Value} {gV:List V->List V->List V}
end

structure FnScope (N P:List Str) (sc:Scope):Prop where
 kind:sc.kind=.function
 co:sc.isCoroutine=false
 gen:sc.isGenerator=false
 nd:N.Nodup
 pre:N.take P.length=P
 par:∀ x∈P,sc.names.lookup x=some .local\/sc.names.lookup x=some .cell
 nofree:∀ y∈sc.names,y.2≠.free

theorem ZeG {kindOf:Str->Option NameKind} {x:Str}:∀ {binds:List (Str×Value)} {m:Str->Option Value},(∀ v,(x,v)∉binds)->bindL kindOf binds m x=m x
 |[],_,_=>rfl
 | (n,v)::r,m,h=>by
  unfold bindL
  rw [ZeG λw hw=>h w (List.mem_cons_of_mem _ hw)]
  split
  ·have:x≠n:=by rintro rfl;exact h v List.mem_cons_self
   simp [this]
  ·rfl
theorem ZeI {kindOf:Str->Option NameKind} {x:Str}:∀ {binds:List (Str×Value)} {m:Str->Option Value},(∀ v,(x,v)∉binds)->bindC kindOf binds m x=m x
 |[],_,_=>rfl
 | (n,v)::r,m,h=>by
  unfold bindC
  rw [ZeI λw hw=>h w (List.mem_cons_of_mem _ hw)]
  split
  ·rfl
  ·have:x≠n:=by rintro rfl;exact h v List.mem_cons_self
   simp [this]
theorem ZeH {kindOf:Str->Option NameKind} {x:Str} {v:Value}:∀ {P:List Str} {vs:List Value} {i:Nat} {m:Str->Option Value},P.Nodup->P[i]?=some x->vs[i]?=some v->kindOf x=some .local ->
  bindL kindOf (P.zip vs) m x=some v
 |[],_,_,_,_,h,_,_=>by simp at h
 |_::_,[],_,_,_,_,h,_=>by simp at h
 |p::P,w::vs,0,m,nd,h1,h2,hk=>by
  simp at h1 h2;subst h1;subst h2
  show bindL kindOf ((p,w)::P.zip vs) m p=_
  unfold bindL
  rw [ZeG λv hv=>(List.nodup_cons.mp nd).1 (List.of_mem_zip hv).1,if_pos hk]
  simp
 |p::P,w::vs,i+1,m,nd,h1,h2,hk=>by
  show bindL kindOf ((p,w)::P.zip vs) m x=_
  unfold bindL
  exact ZeH (i:=i) (List.nodup_cons.mp nd).2 (by simpa using h1) (by simpa using h2) hk
theorem ZeJ {kindOf:Str->Option NameKind} {x:Str} {v:Value}:∀ {P:List Str} {vs:List Value} {i:Nat} {m:Str->Option Value},P.Nodup->P[i]?=some x->vs[i]?=some v->kindOf x≠some .local ->
  bindC kindOf (P.zip vs) m x=some v
 |[],_,_,_,_,h,_,_=>by simp at h
 |_::_,[],_,_,_,_,h,_=>by simp at h
 |p::P,w::vs,0,m,nd,h1,h2,hk=>by
  simp at h1 h2;subst h1;subst h2
  show bindC kindOf ((p,w)::P.zip vs) m p=_
  unfold bindC
  rw [ZeI λv hv=>(List.nodup_cons.mp nd).1 (List.of_mem_zip hv).1,if_neg hk]
  simp
 |p::P,w::vs,i+1,m,nd,h1,h2,hk=>by
  show bindC kindOf ((p,w)::P.zip vs) m x=_
  unfold bindC
  exact ZeJ (i:=i) (List.nodup_cons.mp nd).2 (by simpa using h1) (by simpa using h2) hk

def start (N:List Str) (vs:List V):St:=vs.map some++List.replicate (N.length-vs.length) none

def cxOf (CX:CXT) (P:Program) (w:World) (K:PySem.W.Frag) (mg:Str->Option Value) (base:Heap) (N:List Str) (qual:Str) (scope:Scope) (f:Addr) (cd:Value) (A:Around) (outer:List Env) (s:Shared) (H:Hp) (E:XK):Cx where
 prog:=P
 w:=w
 K:=K
 mg:=mg
 base:=base
 A:=A.deeper (envOfC qual scope s.heap.objs.size f cd)
 N:=N
 s₀:=s
 H₀:=H
 env:=envOfC qual scope s.heap.objs.size f cd
 outer:=outer
 stack:=envOfC qual scope s.heap.objs.size f cd::outer
 ex:=[]
 calm:=true
 fn:=λ_=>true
 pn:=[]
 xe:=λe s'=>wpAny (model P w) (A.deeper (envOfC qual scope s.heap.objs.size f cd)) (leaving (envOfC qual scope s.heap.objs.size f cd) e) (λ_ s''=>CX outer H s E e s'') (λe' s''=>CX outer H s E e' s'') s'

theorem Zf6 {sc:Scope} {n:Nat} {x:Str} (h:sc.names.lookup x=some .cell):∃ c,(cellsFrom n sc.names []).lookup x=some c:=by
 have q:=PySem.W.cellsFrom_some sc.names n [] (.inl h)
 exact Option.isSome_iff_exists.mp q

theorem Zdk {CX:CXT} {P:Program} {w:World} {K:PySem.W.Frag} {mg:Str->Option Value} {base:Heap} {N ps:List Str} {qual:Str} {scope:Scope} {f:Addr} {cd:Value} {A:Around} {outer:List Env} {s s1:Shared} {H:Hp} {E:XK} {us:List Value} {vs:List V}
  (S:FnScope N ps scope) (hd:A.handled=none) (e0:Env0 P w K mg base A outer s H) (hl:vs.length=ps.length) (r:Vals vs us)
  (x:InCallC s s.heap.objs.size (bindL (envOfC qual scope s.heap.objs.size f cd).kindOf (ps.zip us) λ_=>none) (cellsFrom (s.heap.objs.size+1) scope.names []) (bindC (envOfC qual scope s.heap.objs.size f cd).kindOf (ps.zip us) λ_=>none) s1) :
  Inv (cxOf CX P w K mg base N qual scope f cd A outer s H E) [] (start N vs) H s1:=by
 have hpl:ps.length<=N.length:=by have:=congrArg List.length S.pre;rw [List.length_take] at this;omega
 obtain ⟨h1,tk,rfl,hk⟩:=x.done
 have noA:∀ b:Addr,b∉(cxOf CX P w K mg base N qual scope f cd A outer s H E).ex:=λb z=>absurd (show b∈([]:List Addr) from z) (by simp)
 refine ⟨⟨e0.mod,S.kind,rfl,rfl,Nat.le_refl _,λy z c h1 h2=>?_,λy hy=>?_,λy c _ h=>?_,λ_=>hd,Around.frames_deeper e0.frames,.inr ⟨rfl,rfl⟩,λb z=>absurd z (noA b),e0.bs,e0.bsz,λb _ _=>noA b,λb z=>absurd z (noA b),e0.funs,e0.frf⟩,
  rfl,e0.bare,Un.kept hk,⟨_,x.toInCall.ns,λi y v h1 h2 h3=>?_⟩,λy c h=>⟨_,x.cell y c h⟩,e0.hok.fresh (Nat.le_refl _),λy c h=>?_,λp hp=>absurd (show p∈([]:List (Addr×Obj)) from hp) (by simp),e0.hok.kept hk,?_⟩
 ·exact name_of_addr x.apart (PySem.mem_of_lookup h1) (PySem.mem_of_lookup h2)
 ·have hy:scope.names.lookup y=some .cell\/scope.names.lookup y=some .free:=hy
  rcases hy with hy | hy
  ·exact Zf6 hy
  ·exact absurd rfl (S.nofree _ (PySem.mem_of_lookup hy))
 ·exact Nat.le_of_lt (x.above y c (PySem.mem_of_lookup h))
 ·have hi:i<vs.length:=by
   unfold start at h2
   by_cases hi:i<vs.length
   ·exact hi
   ·rw [List.getElem?_append_right (by simpa using hi)] at h2
    rw [List.getElem?_replicate] at h2
    split at h2<;>cases h2
  have ha:vs[i]?=some v:=by
   unfold start at h2
   rw [List.getElem?_append_left (by simpa using hi),List.getElem?_map] at h2
   cases e:vs[i]? with
   |none=>rw [e] at h2;cases h2
   |some a=>rw [e] at h2;cases h2;rfl
  obtain ⟨u,hu,rv⟩:=r.get ha
  have hp:ps[i]?=some y:=by
   rw [<- S.pre,List.getElem?_take_of_lt (by omega)];exact h1
  have ndP:ps.Nodup:=by rw [<- S.pre];exact S.nd.sublist (List.take_sublist _ _)
  refine ⟨u,rv,?_⟩
  rcases S.par y (List.mem_of_getElem? hp) with k | k
  ·exact .inl ⟨k,ZeH ndP hp hu k⟩
  ·obtain ⟨c,e⟩:=Zf6 (n:=s.heap.objs.size+1) k
   refine .inr ⟨.inl k,c,e,?_⟩
   have q:=x.cell y c e
   rw [ZeJ ndP hp hu (by show scope.names.lookup y≠_;rw [k];decide)] at q
   exact q
 ·exact e0.hok.fresh (Nat.le_of_lt (x.above y c (PySem.mem_of_lookup h)))
 ·unfold start
  show _=N.length
  rw [List.length_append,List.length_map,List.length_replicate]
  omega

theorem ZlK {CX:CXT} {P:Program} {w:World} {K:PySem.W.Frag} {mg:Str->Option Value} {base:Heap} {k:Nat} {f:Addr} {name qual:Str} {params:Arguments} {body:List Stmt} {scope:Scope} {dV kV doc pm cdv ct oc:Value} {an od:Option Addr}
  {osl:Array (Option Value)} {N ps:List Str} {sp:Sp} (lk:K.lookup f=some ⟨oc,od,.func (PySem.W.fnOf name qual params body scope dV kV doc pm an cdv ct),osl⟩) (hcd:PySem.W.codeIn K cdv qual=true) (S:FnScope N ps scope)
  (len:∀ vs H Q E,sp vs H Q E->vs.length=ps.length)
  (hbody:∀ (A:Around) (outer:List Env) (s:Shared) (H:Hp) (vs:List V) (Q:VK) (E:XK),Room k (A.deeper (envOfC qual scope s.heap.objs.size f cdv))->sp vs H Q E ->
   ∃ t,PSs (cxOf CX P w K mg base N qual scope f cdv A outer s H E) body t/\t { nx:=λ_ H'=>Q .non H',rt:=Q } (start N vs) H) :
  FnOk P w K mg base CX (k+1) f (PySem.W.fnOf name qual params body scope dV kV doc pm an cdv ct) ps sp:=by
 refine ⟨len,λA outer s H args us vs Q E hr e0 hb r hsp=>?_⟩
 have hl:=len _ _ _ _ hsp
 have KX:K.In s.heap:=e0.mod.kin.keeps λb o e=>(e0.bs b o e).1
 have lim:s.heap.NoLimit:=e0.mod.nolimit.keeps λb o e=>(e0.bs b o e).1
 have hkind:∀ y∈ps.zip us,scope.names.lookup y.1=some .local\/(scope.names.lookup y.1=some .cell/\((cellsFrom (s.heap.objs.size+1) scope.names []).lookup y.1).isSome=true):=λ⟨n,v⟩ hy=>by
  rcases S.par n (List.of_mem_zip hy).1 with q | q
  ·exact .inl q
  ·exact .inr ⟨q,PySem.W.cellsFrom_some _ _ _ (.inl q)⟩
 refine codeAny_call_function hr.depth (KX _ _ lk) rfl S.co S.gen rfl (PySem.W.codeRec_of KX hcd) (hb _ _ _ _ ?_)
 refine wpAny_newFunctionEnv_cells S.kind hkind λenv he s1 x=>?_
 subst he
 refine ⟨lim.keeps x.toInCall.keep,codeAny_func ?_⟩
 obtain ⟨t,ht,hq⟩:=hbody A outer s H vs Q E (hr.deeper _) hsp
 have I:Inv (cxOf CX P w K mg base N qual scope f cdv A outer s H E) [] (start N vs) H s1:=Zdk S hr.hd e0 hl r x
 refine wpAny_mono (ht [] s1 (start N vs) H _ I hq) (λfl s' hs=>?_) λe s' hs=>hs
 have fin:∀ {σ':St} {H':Hp} {v:V} {u:Value},Inv (cxOf CX P w K mg base N qual scope f cdv A outer s H E) [] σ' H' s'->RelV v u->Q v H'->CE outer P w H s Q u s' :=
  λ{σ' H' v u} J rv q=>⟨v,H',J.os,J.bare,J.base,J.hok,rv,q⟩
 cases fl with
 |ret u =>
  obtain ⟨v,σ',H',J,rv,q⟩:=hs
  exact fin J rv q
 |next =>
  obtain ⟨σ',H',J,q⟩:=hs
  exact fin (v:=V.non) (u:=Value.none) J rfl q
 |brk =>
  obtain ⟨_,_,_,q⟩:=hs
  exact False.elim q
 |cont =>
  obtain ⟨_,_,_,q⟩:=hs
  exact False.elim q
end L2

namespace L2
open PySem PySem.Spec PyProof.Rows
section
variable {X:Cx} {x:Str} {p pos:Pos} {e:Expr} {es:List Expr} {t:TA} {id T:String} {r:List V->Hp->VK->Prop}

def tCB (r:List V->Hp->VK->Prop) (t:TA):TE:=λσ H Q=>t σ H λvs H1=>r vs H1 Q
theorem ZaD (hc:Zct X (.builtin id) r) (hg:Gl X x) (hm:X.mg x=none) (hv:bootBuiltins x=some (.builtin id)) (ha:PA X (e::es) t) (hn:x≠"__name__":=by decide) (hdb:(x == ("__debug__":Str))=false:=by decide)
  (he:starEach (e::es) X.env=(false,eval e X.env)::starEach es X.env:=by rfl) (hpl:(backTo pos (starEach es X.env)).any (·.1)=false:=by rfl):PE X (.Call (.Name x p) (e::es) [] pos) (tCB r t):=by
 intro pins s σ H Q I h
 refine wpAny_Call_Name_kw (ZdA I hg hm hv ?_ hn hdb)
 exact PyProof.Rows.callWith_builtin1 (thn (ha pos pins s σ H _ I h) λus s1 ⟨vs,H1,I1,r1,q1⟩=>hc pins s1 σ H1 vs us Q I1 r1 q1) he hpl
theorem Za5 (hc:Zct X (.type T) r) (hg:Gl X x) (hm:X.mg x=none) (hv:bootBuiltins x=some (.type T)) (ha:PA X (e::es) t) (hn:x≠"__name__":=by decide) (hdb:(x == ("__debug__":Str))=false:=by decide)
  (he:starEach (e::es) X.env=(false,eval e X.env)::starEach es X.env:=by rfl) (hpl:(backTo pos (starEach es X.env)).any (·.1)=false:=by rfl):PE X (.Call (.Name x p) (e::es) [] pos) (tCB r t):=by
 intro pins s σ H Q I h
 refine wpAny_Call_Name_kw (ZdA I hg hm hv ?_ hn hdb)
 exact PyProof.Rows.callWith_type1 (thn (ha pos pins s σ H _ I h) λus s1 ⟨vs,H1,I1,r1,q1⟩=>hc pins s1 σ H1 vs us Q I1 r1 q1) he hpl
end
end L2

namespace HT
open PySem PyProof.Rows

section
open PySem.SeqAt
open PySem.AutoSeq1 (wpAny_loadPart')
open PySem.MeetsSeq PySem.MeetsSeq2 PySem.MeetsSeq3

end

section
variable {prog:Program} {w:World} {A:Around} {E:Value->Shared->Prop} {s:Shared}

theorem cat_tup {t b:Addr} {vs ws:List Value} {Q:Value->Shared->Prop} (ht:IsTup s.heap t vs.toArray) (hb:IsTup s.heap b ws.toArray) (hv:vs≠[])
  (h1:ws=[]->Q (.ref t) s) (h2:ws≠[]->Q (.ref s.heap.objs.size) { s with heap:=s.heap.push { cls:=.type "tuple",data:=.seq (vs++ws).toArray } })
  (hsz:vs.length+ws.length<=sizeLine):wpAny (model prog w) A (binaryOp .Add (.ref t) (.ref b)) Q E s:=by
 obtain ⟨⟨cls,dd,data,sl⟩,ho,hc,n,hd⟩:=id ht
 obtain ⟨⟨cls2,dd2,data2,sl2⟩,ho2,hc2,n2,hd2⟩:=id hb
 simp only at hc hd hc2 hd2
 subst hc hd hc2 hd2
 have e:vs.toArray++ws.toArray=(vs++ws).toArray:=by simp
 by_cases hw:ws=[]
 ·exact concat_meets ⟨_,ho,rfl⟩ ⟨_,ho2,rfl⟩ noFill_tuple_add seq_tuple_add PySem.F.slot_tuple_add PySem.F.entry_tuple_add (PySem.F.args_tuple_add_2 _ _)
   (tuple_addW1 t b vs.toArray ws.toArray n n2 dd dd2 sl sl2 (by simpa using hv) (by simp [hw])) ⟨ho,ho2,h1 hw⟩
 ·refine concat_meets ⟨_,ho,rfl⟩ ⟨_,ho2,rfl⟩ noFill_tuple_add seq_tuple_add PySem.F.slot_tuple_add PySem.F.entry_tuple_add (PySem.F.args_tuple_add_2 _ _)
   (tuple_addW2 t b vs.toArray ws.toArray n n2 dd dd2 sl sl2 (by simpa using hv) (by simpa using hw) (by rw [List.size_toArray,List.size_toArray];exact hsz)) ⟨ho,ho2,?_⟩
  rw [e]
  exact h2 hw

def sIx (n d:Nat):Option Int->Nat
 |none=>d
 |some v=>if v<0 then (v+(n:Int)).toNat else min v.toNat n
theorem sIx_nat (n d k:Nat):sIx n d (some (k:Int))=min k n:=by
 show (if (k:Int)<0 then ((k:Int)+(n:Int)).toNat else min (k:Int).toNat n)=min k n
 rw [if_neg (by omega),Int.toNat_natCast]
theorem Zlg (n d:Nat) (hd:d<=n) (o:Option Int):sIx n d o<=n:=by
 cases o with
 |none=>exact hd
 |some v =>
  show (if v<0 then (v+(n:Int)).toNat else min v.toNat n)<=n
  by_cases hv:v<0
  ·rw [if_pos hv];omega
  ·rw [if_neg hv];exact Nat.min_le_right _ _
theorem Zij (v:Int) (n d:Nat):(if v<0 then max (v+(n:Int)) 0 else min v (n:Int))=((sIx n d (some v):Nat):Int):=by
 show (if v<0 then max (v+(n:Int)) 0 else min v (n:Int))=(((if v<0 then (v+(n:Int)).toNat else min v.toNat n):Nat):Int)
 by_cases hv:v<0
 ·simp only [if_pos hv];omega
 ·simp only [if_neg hv];omega
theorem ZgE (lo hi:Option Int) (n:Nat):Builtin.Slice.sliceAdjust lo hi 1 (n:Int)=(((sIx n 0 lo:Nat):Int),((sIx n n hi:Nat):Int)):=by
 have h1:¬ ((1:Int)<0):=by omega
 unfold Builtin.Slice.sliceAdjust
 simp only [h1,if_false]
 refine Prod.ext ?_ ?_
 ·cases lo with
  |none=>rfl
  |some v=>exact Zij v n 0
 ·cases hi with
  |none=>rfl
  |some v=>exact Zij v n n
theorem Zgk (i j:Nat):Builtin.Slice.slicePlaces (i:Int) (j:Int) 1=j-i:=by
 unfold Builtin.Slice.slicePlaces
 have h1:(1:Int) > 0:=by omega
 simp only [h1,if_true,Int.ediv_one]
 split<;>omega
theorem Zdv {v:Value} {o:Option Int} {Q:Option Int->Shared->Prop} (p:IsPart v o) (h:Q o s):wpAny (model prog w) A (Builtin.Slice.slicePartIndex v) Q E s:=by
 cases p with
 |none=>exact slicePart_none h
 |int i t=>exact slicePart_int h
theorem ZbA {sl:Addr} {vl vu:Value} {lo hi:Option Int} {n:Nat} {Q:Int×Int×Nat->Shared->Prop} (hs:s.heap.IsSliceOf sl vl vu .none) (pl:IsPart vl lo) (pu:IsPart vu hi)
  (h:Q (((sIx n 0 lo:Nat):Int),1,sIx n n hi-sIx n 0 lo) s):wpAny (model prog w) A (Builtin.Slice.sliceApplied (.ref sl) (pure (n:Int))) Q E s:=by
 obtain ⟨os,hos,hcs,hds⟩:=id hs
 unfold Builtin.Slice.sliceApplied Builtin.Slice.sliceFields
 refine wpAny_bind (wpAny_bind (wpAny_field hos hds (x:=vl) rfl (wpAny_bind (wpAny_field hos hds (x:=vu) rfl (wpAny_bind (wpAny_field hos hds (x:=.none) rfl (wpAny_pure ?_)))))))
 refine wpAny_bind (slicePart_none ?_)
 show wpAny _ _ (if ((1:Int) == 0)=true then _ else _) _ _ s
 rw [if_neg (by decide)]
 refine wpAny_bind (Zdv pl (wpAny_bind (Zdv pu (wpAny_bind (wpAny_pure ?_)))))
 show wpAny _ _ (match Builtin.Slice.sliceAdjust lo hi 1 (n:Int) with | (lo,hi)=>pure (lo,(1:Int),Builtin.Slice.slicePlaces lo hi 1)) _ _ s
 rw [ZgE lo hi n]
 show wpAny _ _ (pure (((sIx n 0 lo:Nat):Int),(1:Int),Builtin.Slice.slicePlaces ((sIx n 0 lo:Nat):Int) ((sIx n n hi:Nat):Int) 1)) _ _ s
 rw [Zgk]
 exact wpAny_pure h
theorem ZiW (xs:Array Value) (i k:Nat):((List.range k).filterMap λ(m:Nat)=>xs[((i:Int)+(m:Int)*1).toNat]?).toArray=((xs.toList.drop i).take k).toArray:=by
 have e:(λ(m:Nat)=>xs[((i:Int)+(m:Int)*1).toNat]?)=λm=>xs[i+m]?:=by
  funext m
  have:((i:Int)+(m:Int)*1).toNat=i+m:=by omega
  rw [this]
 rw [e]
 have:=pick_run xs i k
 rw [List.filterMap_map] at this
 have e2:((λx=>xs[x]?) ∘ λx=>i+x)=λm=>xs[i+m]?:=rfl
 rw [e2] at this
 rw [this]

theorem getItem_tuple_cut {t sl:Addr} {items:Array Value} {vl vu:Value} {lo hi:Option Int} {Q:Value->Shared->Prop} (ht:IsTup s.heap t items) (hs:s.heap.IsSliceOf sl vl vu .none) (pl:IsPart vl lo) (pu:IsPart vu hi)
  (hw:¬ (sIx items.size 0 lo=0/\sIx items.size items.size hi=items.size))
  (h:Q (.ref s.heap.objs.size) { s with heap:=s.heap.push { cls:=.type "tuple",data:=.seq ((items.toList.drop (sIx items.size 0 lo)).take (sIx items.size items.size hi-sIx items.size 0 lo)).toArray } })
  (hsz:items.size<=sizeLine):wpAny (model prog w) A (getItem (.ref t) (.ref sl)) Q E s:=by
 have htake:sizeOk (.seq ((items.toList.drop (sIx items.size 0 lo)).take (sIx items.size items.size hi-sIx items.size 0 lo)).toArray):=by
  show ((items.toList.drop (sIx items.size 0 lo)).take (sIx items.size items.size hi-sIx items.size 0 lo)).toArray.size<=sizeLine
  rw [List.size_toArray,List.length_take,List.length_drop,Array.length_toList]
  omega
 have hj:sIx items.size items.size hi<=items.size:=Zlg _ _ (Nat.le_refl _) hi
 obtain ⟨os,hos,hcs,hds⟩:=id hs
 have hTs:s.TypeIs (.ref sl) "slice":=⟨os,hos,hcs⟩
 unfold getItem
 try with_reducible refine wpAny_holding ?_
 first | refine wpAny_bind (wpAny_pure ?_) | skip
 refine wpAny_bind (wpAny_sequenceKey ht.typeIs (by decide) ?_)
 refine wpAny_bind (wpAny_callSpecial?_slot (name:=Str.ofString "__getitem__") ht.typeIs PyProof.Rows.slot_tuple_getitem
  (wpAny_call_entry PyProof.Rows.slot_tuple_getitem ht.typeIs entry_tuple_getitem ?_ (args_tuple_getitem _ _)))
 show wpAny _ _ (Builtin.Tuple.tupleItemsOf (.ref t) >>= _) _ _ s
 refine wpAny_bind (tupleItemsOf_ ht ?_)
 refine wpAny_bind (wpAny_typeOf hTs ?_)
 rw [if_pos (by decide)]
 refine wpAny_bind (ZbA hs pl pu ?_)
 have hno:¬ ((((sIx items.size 0 lo:Nat):Int) == 0&&(1:Int) == 1&&(sIx items.size items.size hi-sIx items.size 0 lo) == items.size)=true):=by
  intro q
  rw [Bool.and_eq_true,Bool.and_eq_true] at q
  have q1:((sIx items.size 0 lo:Nat):Int)=0:=eq_of_beq q.1.1
  have q2:sIx items.size items.size hi-sIx items.size 0 lo=items.size:=eq_of_beq q.2
  exact hw ⟨by omega,by omega⟩
 show wpAny _ _ (if (((sIx items.size 0 lo:Nat):Int) == 0&&(1:Int) == 1&&(sIx items.size items.size hi-sIx items.size 0 lo) == items.size)=true then _ else _) _ _ s
 rw [if_neg hno,ZiW]
 first
  |exact wpAny_bind (m:=Builtin.Tuple.tupleExact _) (wpAny_newObj_type (wpAny_pure ⟨_,rfl,wpAny_pure h⟩) htake)
  |exact wpAny_bind (m:=Builtin.Tuple.tupleExact _) (wpAny_newObj_type (wpAny_bind (wpAny_pure (wpAny_pure ⟨_,rfl,wpAny_pure h⟩))) htake)
  |exact wpAny_bind (wpAny_bind (m:=Builtin.Tuple.tupleExact _) (wpAny_newObj_type (wpAny_pure (wpAny_pure ⟨_,rfl,wpAny_pure h⟩)) htake))
  |exact wpAny_bind (wpAny_bind (m:=Builtin.Tuple.tupleExact _) (wpAny_newObj_type (wpAny_pure ⟨_,rfl,wpAny_pure h⟩) htake))
end
end HT

namespace L2
open PySem PySem.Spec PyProof.Rows

abbrev TO:=St->Hp->(Option Int->Hp->Prop)->Prop
def PO (X:Cx) (e:Option Expr) (t:TO):Prop :=
 ∀ (pins:List (Addr×Obj)) (s:Shared) (σ:St) (H:Hp) (Q:Option Int->Hp->Prop),Inv X pins σ H s->t σ H Q ->
  wpAny (model X.prog X.w) X.A (evalPart e X.env) (λu s'=>∃ o H',Inv X pins σ H' s'/\IsPart u o/\Q o H') X.xe s
def ZdK:TO:=λ_ H Q=>Q none H
def ZiE (t:TE):TO:=λσ H Q=>t σ H λx H1=>∃ i,x=.int i/\Q (some i) H1

section
variable {X:Cx} {e:Expr} {te:TE} {lo hi:Option Expr} {tl th:TO} {pos p2:Pos}

theorem Zcz:PO X none ZdK:=by
 intro pins s σ H Q I h
 rw [evalPart_none]
 exact wpAny_pure ⟨none,H,I,.none,h⟩
theorem Zbs (h:PE X e te):PO X (some e) (ZiE te):=by
 intro pins s σ H Q I hw
 rw [evalPart_some]
 refine thn (h pins s σ H _ I hw) λu s1 ⟨x,H1,I1,r1,q1⟩=>?_
 obtain ⟨i,rfl,q⟩:=q1
 obtain ⟨t,rfl⟩:=r1
 exact ⟨some i,H1,I1,.int i t,q⟩

def SlR (X:Cx) (r:V->Option Int->Option Int->Hp->VK->Prop):Prop :=
 ∀ (pins:List (Addr×Obj)) (s:Shared) (σ:St) (H:Hp) (x:V) (v vl vu:Value) (lo hi:Option Int) (sl:Addr) (Q:VK),Inv X pins σ H s->RelV x v->s.heap.IsSliceOf sl vl vu .none->IsPart vl lo->IsPart vu hi->r x lo hi H Q ->
  ∃ T id,typeLookup (.type T) "__getitem__"=pure (some (.builtin id))/\s.TypeIs v T/\wpAny (model X.prog X.w) X.A (getItem v (.ref sl)) (EP X pins σ Q) X.xe s
def tSl (r:V->Option Int->Option Int->Hp->VK->Prop) (te:TE) (tl th:TO):TE:=λσ H Q=>te σ H λx H1=>tl σ H1 λl H2=>th σ H2 λu H3=>r x l u H3 Q
theorem Zbn {r:V->Option Int->Option Int->Hp->VK->Prop} (hr:SlR X r) (he:PE X e te) (hl:PO X lo tl) (hu:PO X hi th):PE X (.Subscript e (.Slice lo hi none p2) pos) (tSl r te tl th):=by
 intro pins s σ H Q I h
 refine Subscript_ (thn (he pins s σ H _ I h) λv s1 ⟨x,H1,I1,r1,q1⟩=>?_)
 refine wpAny_Slice (thn (hl pins s1 σ H1 _ I1 q1) λvl s2 ⟨l,H2,I2,pl,q2⟩=>thn (hu pins s2 σ H2 _ I2 q2) λvu s3 ⟨u,H3,I3,pu,q3⟩=>?_)
 rw [evalPart_none]
 refine wpAny_pure ?_
 have I4:Inv X pins σ H3 { s3 with heap:=s3.heap.push { cls:=.type "slice",data:=.fields #[vl,vu,.none] } }:=I3.kept (t':=s3.toks) λb ob q=>Heap.get?_push_of_some _ q
 obtain ⟨T,id,hT,ht,hg⟩:=hr pins { s3 with heap:=s3.heap.push { cls:=.type "slice",data:=.fields #[vl,vu,.none] } } σ H3 x v vl vu l u s3.heap.objs.size Q I4 r1 (Heap.IsSliceOf.new ..) pl pu q3
 show wpAny (model X.prog X.w) X.A (subscriptTail e (.Slice lo hi none p2) v (.ref s3.heap.objs.size)) (EP X pins σ Q) X.xe { s3 with heap:=s3.heap.push { cls:=.type "slice",data:=.fields #[vl,vu,.none] } }
 exact tail_any (ops:=[.ref s3.heap.objs.size,v]) ht hT hg (by with_unfolding_all rfl)

def cutV (xs:List V) (lo hi:Option Int):List V:=(xs.drop (HT.sIx xs.length 0 lo)).take (HT.sIx xs.length xs.length hi-HT.sIx xs.length 0 lo)
theorem Zdn (xs:List V) (lo hi:Option Int):(cutV xs lo hi).length<=xs.length:=by
 unfold cutV
 rw [List.length_take,List.length_drop]
 omega
def rSlT (K:PySem.W.Frag):V->Option Int->Option Int->Hp->VK->Prop:=λx lo hi H Q=>∃ a xs,x=.ref a/\SqT K H a xs /\
 ¬ (HT.sIx xs.length 0 lo=0/\HT.sIx xs.length xs.length hi=xs.length)/\∀ p,H p=none->Q (.ref p) (upd H p (.tup (cutV xs lo hi)))
theorem Zld:SlR X (rSlT X.K):=by
 intro pins s σ H x v vl vu lo hi sl Q I rx hs pl pu h
 obtain ⟨a,xs,rfl,hx,hw,q⟩:=h
 cases rx
 obtain ⟨its,r,ht,hz⟩:=I.tuple hx
 have hlen:its.toArray.size=xs.length:=by rw [List.size_toArray];exact r.length.symm
 refine ⟨"tuple",_,PyProof.Rows.slot_tuple_getitem.lookup,ht.typeIs,?_⟩
 refine HT.getItem_tuple_cut ht hs pl pu (by rw [hlen];exact hw) ?_ (by rw [hlen];exact hz)
 rw [hlen]
 refine ⟨.ref s.heap.objs.size,_,I.laid (t':=s.toks) (o:=.tup (cutV xs lo hi)) (λb ob q=>Heap.get?_push_of_some _ q) (Nat.le_refl _) ?_,rfl,q _ (I.hok.fresh (Nat.le_refl _))⟩
 exact ⟨Nat.le_trans (Zdn xs lo hi) hz,_,(r.drop (HT.sIx xs.length 0 lo)).take (HT.sIx xs.length xs.length hi-HT.sIx xs.length 0 lo),IsTup.new _ _⟩

def Zlj (K:PySem.W.Frag):R2:=λx y H Q=>∃ a b xs ys,x=.ref a/\y=.ref b/\SqT K H a xs/\SqT K H b ys/\xs≠[]/\xs.length+ys.length<=sizeLine /\
 (ys=[]->Q (.ref a) H)/\(ys≠[]->∀ p,H p=none->Q (.ref p) (upd H p (.tup (xs++ys))))
theorem Vals.nil_iff {xs:List V} {us:List Value} (r:Vals xs us):us=[]↔xs=[]:=by
 cases r with
 |nil=>simp
 |cons _ _=>simp
theorem ZkB:OpR X (binaryOp .Add) (Zlj X.K):=by
 intro pins s σ H x y v u Q I rx ry h
 obtain ⟨a,b,xs,ys,rfl,rfl,ha,hb,hx,hz,q1,q2⟩:=h
 cases rx
 cases ry
 obtain ⟨its,r1,p1,_⟩:=I.tuple ha
 obtain ⟨its2,r2,p2,_⟩:=I.tuple hb
 refine HT.cat_tup p1 p2 (λz=>hx (r1.nil_iff.mp z)) (λz=>⟨.ref a,H,I,rfl,q1 (r2.nil_iff.mp z)⟩) (λz=>?_) (by rw [<- r1.length,<- r2.length];exact hz)
 refine ⟨.ref s.heap.objs.size,_,I.laid (t':=s.toks) (o:=.tup (xs++ys)) (λb ob q=>Heap.get?_push_of_some _ q) (Nat.le_refl _) ?_,rfl,q2 (λw=>z (r2.nil_iff.mpr w)) _ (I.hok.fresh (Nat.le_refl _))⟩
 exact ⟨by rw [List.length_append];exact hz,_,r1.append r2,IsTup.new _ _⟩
end
end L2

namespace L2
open PySem PySem.Spec PyProof.Rows

def ixN (n:Nat) (i:Int):Option Nat:=if 0<=i then (if i<n then some i.toNat else none) else if -(n:Int)<=i then some (i+n).toNat else none
def atI {α:Type} (xs:List α) (i:Int):Option α:=(ixN xs.length i).bind λj=>xs[j]?
theorem ZkI {n:Nat} {i:Int} {j:Nat} (h:ixN n i=some j):seqIndex? i n=some j/\j<n/\-(n:Int)<=i/\i<n:=by
 unfold ixN at h
 by_cases h0:0<=i
 ·rw [if_pos h0] at h
  by_cases h1:i<n
  ·rw [if_pos h1] at h
   have e:i.toNat=j:=Option.some.inj h
   exact ⟨by rw [seqIndex_of h0 h1,e],by omega,by omega,h1⟩
  ·rw [if_neg h1] at h;cases h
 ·rw [if_neg h0] at h
  by_cases h1:-(n:Int)<=i
  ·rw [if_pos h1] at h
   have e:(i+n).toNat=j:=Option.some.inj h
   exact ⟨by rw [seqIndex_neg (by omega) h1,e],by omega,h1,by omega⟩
  ·rw [if_neg h1] at h;cases h
theorem Zip {α:Type} {xs:List α} {i:Int} {v:α} (h:atI xs i=some v):∃ j,seqIndex? i xs.length=some j/\xs[j]?=some v/\j<xs.length/\-(xs.length:Int)<=i/\i<xs.length:=by
 unfold atI at h
 cases e:ixN xs.length i with
 |none=>rw [e] at h;cases h
 |some j =>
  rw [e] at h
  obtain ⟨h1,h2,h3,h4⟩:=ZkI e
  exact ⟨j,h1,h,h2,h3,h4⟩
theorem Zk2 {α:Type} {xs:List α} {j:Nat} {v:α} (h:xs[j]?=some v):atI xs (j:Int)=some v:=by
 have hj:j<xs.length:=(List.getElem?_eq_some_iff.mp h).1
 have e:ixN xs.length (j:Int)=some j:=by
  unfold ixN
  rw [if_pos (by omega),if_pos (by omega)];simp
 unfold atI;rw [e];exact h
def Zk4 (b:Expr):Prop:=∀ o i,subscripted b false o i=operate [o,i] (getItem o i)
def IxR (X:Cx) (r:R2):Prop :=
 ∀ (value slice:Expr) (pins:List (Addr×Obj)) (s:Shared) (σ:St) (H:Hp) (x y:V) (v u:Value) (Q:VK),Inv X pins σ H s->RelV x v->RelV y u->r x y H Q ->
  subscripted slice false v u=operate [v,u] (getItem v u)->wpAny (model X.prog X.w) X.A (subscriptTail value slice v u) (EP X pins σ Q) X.xe s
def MtR (X:Cx) (id:String) (r:V->List V->Hp->VK->Prop):Prop :=
 ∀ (pins:List (Addr×Obj)) (s:Shared) (σ:St) (H:Hp) (x:V) (xs:List V) (v:Value) (us:List Value) (Q:VK),Inv X pins σ H s->RelV x v->Vals xs us->r x xs H Q ->
  wpAny (model X.prog X.w) X.A (call (.builtin id) (v::us)) (EP X pins σ Q) X.xe s
section
variable {X:Cx} {a b:Expr} {ta tb:TE} {pos:Pos}
theorem Zav {r:R2} (hr:IxR X r) (ha:PE X a ta) (hb:PE X b tb) (hs:Zk4 b):PE X (.Subscript a b pos) (tOp r ta tb):=by
 intro pins s σ H Q I h
 exact Subscript_ (binT ha hb I h λv u s2 x y H2 I2 rx ry q=>hr a b pins s2 σ H2 x y v u Q I2 rx ry q (hs _ _))

def rIxL (K:PySem.W.Frag):R2:=λx y H Q=>∃ p xs i v,x=.ref p/\y=.int i/\SqL K H p xs/\atI xs i=some v/\Q v H
def rIxT (K:PySem.W.Frag):R2:=λx y H Q=>∃ p xs i v,x=.ref p/\y=.int i/\SqT K H p xs/\atI xs i=some v/\Q v H
theorem ZbG:IxR X (rIxL X.K):=by
 intro value slice pins s σ H x y v u Q I rx ry h hs
 obtain ⟨p,xs,i,z,rfl,rfl,hq,he,q⟩:=h
 cases rx
 obtain ⟨t,rfl⟩:=ry
 obtain ⟨its,r,pl,hz⟩:=I.list hq
 obtain ⟨j,h1,h2,h3,h4,h5⟩:=Zip he
 obtain ⟨w,ew,rw'⟩:=r.get h2
 have hl:=r.length
 have hn:=ZhH
 have fin:EP X pins σ Q w s:=⟨z,H,I,rw',q⟩
 by_cases h0:0<=i
 ·have hj:i.toNat=j:=by
   rw [seqIndex_of h0 h5] at h1
   exact Option.some.inj h1
  exact item_listR pl.isList h0 (by omega) (by rw [hj];simpa using ew) fin hs
 ·have hj:(i+(its.toArray.size:Int)).toNat=j:=by
   rw [seqIndex_neg (by omega) h4] at h1
   rw [List.size_toArray,<- hl]
   exact Option.some.inj h1
  exact subscriptTail_builtinR (x:=w) pl.isList.typeIs slot_list_getitem.lookup
   (wpAny_getItem_list_neg (Q:=λr s'=>r=w/\EP X pins σ Q r s') pl.isList (by omega) (by rw [List.size_toArray]<;>omega) (by omega) (by rw [hj];simpa using ew) ⟨rfl,fin⟩) hs
theorem Zan:IxR X (rIxT X.K):=by
 intro value slice pins s σ H x y v u Q I rx ry h hs
 obtain ⟨p,xs,i,z,rfl,rfl,hq,he,q⟩:=h
 cases rx
 obtain ⟨t,rfl⟩:=ry
 obtain ⟨its,r,pl,hz⟩:=I.tuple hq
 obtain ⟨j,h1,h2,h3,h4,h5⟩:=Zip he
 obtain ⟨w,ew,rw'⟩:=r.get h2
 have hl:=r.length
 have hn:=ZhH
 have fin:EP X pins σ Q w s:=⟨z,H,I,rw',q⟩
 exact subscriptTail_builtinR (x:=w) pl.typeIs slot_tuple_getitem.lookup
  (getItem_tuple (j:=j) (Q:=λr s'=>r=w/\EP X pins σ Q r s') pl (by omega) (by omega) (by rw [List.size_toArray,<- hl];exact h1) (by simpa using ew) ⟨rfl,fin⟩) hs
theorem Zeh (lo hi:Option Int) (n:Nat):(sliceBounds lo hi none n).1=((HT.sIx n 0 lo:Nat):Int)/\(sliceBounds lo hi none n).2.1=((HT.sIx n n hi:Nat):Int)/\(sliceBounds lo hi none n).2.2=1:=by
 refine ⟨?_,?_,rfl⟩
 ·cases lo with
  |none=>simp [sliceBounds,HT.sIx]
  |some i =>
   simp only [sliceBounds,HT.sIx,Option.getD_none,show (1:Int) > 0 by decide,if_true]
   by_cases h:i<0
   ·simp only [h,if_true]<;>omega
   ·simp only [h,if_false]<;>omega
 ·cases hi with
  |none=>simp [sliceBounds,HT.sIx]
  |some i =>
   simp only [sliceBounds,HT.sIx,Option.getD_none,show (1:Int) > 0 by decide,if_true]
   by_cases h:i<0
   ·simp only [h,if_true]<;>omega
   ·simp only [h,if_false]<;>omega
theorem ZdS (its:List Value) (lo hi:Option Int):slicePick its.toArray lo hi none=((its.drop (HT.sIx its.length 0 lo)).take (HT.sIx its.length its.length hi-HT.sIx its.length 0 lo)).toArray:=by
 obtain ⟨h1,h2,h3⟩:=Zeh lo hi its.toArray.size
 unfold slicePick
 rw [h1,h2,h3]
 simp only [sliceRange_one,pick_run,List.size_toArray]<;>rfl
def rSlL (K:PySem.W.Frag):V->Option Int->Option Int->Hp->VK->Prop:=λx lo hi H Q=>∃ a xs,x=.ref a/\SqL K H a xs/\∀ p,H p=none->Q (.ref p) (upd H p (.lst (cutV xs lo hi)))
theorem Zcv:SlR X (rSlL X.K):=by
 intro pins s σ H x v vl vu lo hi sl Q I rx hs pl pu h
 obtain ⟨a,xs,rfl,hx,q⟩:=h
 cases rx
 obtain ⟨its,r,ht,hz⟩:=I.list hx
 have hlen:=r.length
 refine ⟨"list",_,slot_list_getitem.lookup,ht.isList.typeIs,?_⟩
 refine wpAny_getItem_list_slice ht.isList hs pl pu .none (by simp) ?_ (by rw [List.size_toArray]<;>omega)
 rw [ZdS,<- hlen]
 refine ⟨.ref s.heap.objs.size,_,I.laid (t':=s.toks) (o:=.lst (cutV xs lo hi)) (λb ob q=>Heap.get?_push_of_some _ q) (Nat.le_refl _) ?_,rfl,q _ (I.hok.fresh (Nat.le_refl _))⟩
 exact ⟨Nat.le_trans (Zdn xs lo hi) hz,_,0,(r.drop (HT.sIx xs.length 0 lo)).take (HT.sIx xs.length xs.length hi-HT.sIx xs.length 0 lo),Heap.get?_push_size _ rfl⟩

def Zd1:V->Bool
 |.non=>true
 |.bl _=>true
 |.int _=>true
 |.str _=>true
 |_=>false
def eqV:V->V->Bool
 |.non,.non=>true
 |.bl a,.bl b=>a == b
 |.bl a,.int b=>(if a then 1 else 0) == b
 |.int a,.bl b=>a == (if b then 1 else 0)
 |.int a,.int b=>a == b
 |.str a,.str b=>a == b
 |_,_=>false
theorem ZlR {A:Around} {s:Shared} {y x:V} {u v:Value} (ry:RelV y u) (rx:RelV x v) (fy:Zd1 y=true) (fx:Zd1 x=true):SeqAt.EqAt A s u v (eqV y x):=by
 cases y with
 |non =>
  cases ry
  cases x with
  |non=>cases rx;exact SeqAt.EqAt.same _
  |bl b=>cases rx;exact SeqAt.EqAt.none_bool b
  |int b=>obtain ⟨t,rfl⟩:=rx;exact SeqAt.EqAt.none_int b t
  |str b=>obtain ⟨t,rfl⟩:=rx;exact SeqAt.EqAt.none_str b t
  |_=>exact absurd (show false=true from fx) Bool.false_ne_true
 |bl a =>
  cases ry
  cases x with
  |non=>cases rx;exact SeqAt.EqAt.bool_none a
  |bl b=>cases rx;exact SeqAt.EqAt.bool_bool a b
  |int b=>obtain ⟨t,rfl⟩:=rx;exact SeqAt.EqAt.bool_int a b t
  |str b=>obtain ⟨t,rfl⟩:=rx;exact SeqAt.EqAt.bool_str a b t
  |_=>exact absurd (show false=true from fx) Bool.false_ne_true
 |int a =>
  obtain ⟨t',rfl⟩:=ry
  cases x with
  |non=>cases rx;exact SeqAt.EqAt.int_none a t'
  |bl b=>cases rx;exact SeqAt.EqAt.int_bool a t' b
  |int b=>obtain ⟨t,rfl⟩:=rx;exact SeqAt.EqAt.int_int a t' b t
  |str b=>obtain ⟨t,rfl⟩:=rx;exact SeqAt.EqAt.int_str a t' b t
  |_=>exact absurd (show false=true from fx) Bool.false_ne_true
 |str a =>
  obtain ⟨t',rfl⟩:=ry
  cases x with
  |non=>cases rx;exact SeqAt.EqAt.str_none a t'
  |bl b=>cases rx;exact SeqAt.EqAt.str_bool a t' b
  |int b=>obtain ⟨t,rfl⟩:=rx;exact SeqAt.EqAt.str_int a t' b t
  |str b=>obtain ⟨t,rfl⟩:=rx;exact SeqAt.EqAt.str_str a t' b t
  |_=>exact absurd (show false=true from fx) Bool.false_ne_true
 |_=>exact absurd (show false=true from fy) Bool.false_ne_true
theorem Zbg:Zct X (.type "tuple") (λxs H Q=>∃ p ys,xs=[.ref p]/\((SqL X.K H p ys/\∀ l,H l=none->Q (.ref l) (upd H l (.tup ys)))\/(SqT X.K H p ys/\Q (.ref p) H))):=by
 intro pins s σ H xs us Q I r h
 obtain ⟨p,ys,rfl,h⟩:=h
 obtain ⟨u,rfl,rx⟩:=Zc1 r
 cases rx
 rcases h with ⟨hq,q⟩ | ⟨hq,q⟩
 ·obtain ⟨its,r',pl,hz⟩:=I.list hq
  have hlen:=r'.length
  refine call_tuple_list pl.isList (λh' kp=>?_) (by simp only [List.size_toArray]<;>omega)
  have I1:Inv X pins σ H { s with heap:=h' }:=I.kept (t':=s.toks) kp
  have I2:Inv X pins σ (upd H h'.objs.size (.tup ys)) { s with heap:=h'.push { cls:=.type "tuple",data:=.seq its.toArray } } :=
   I1.laid (t':=s.toks) (λb o e=>Heap.get?_push_of_some _ e) (Nat.le_refl _) (show ObjOk X.prog X.w _ _ _ (.tup ys) from ⟨hz,its,r',IsTup.new _ _⟩)
  exact ⟨.ref h'.objs.size,_,I2,rfl,q _ (I1.hok.fresh (Nat.le_refl _))⟩
 ·obtain ⟨its,r',pl,hz⟩:=I.tuple hq
  exact call_tuple_same pl ⟨.ref p,H,I,rfl,q⟩

def tyV (K:PySem.W.Frag) (T:String) (x:V) (H:Hp):Prop:=match x with
 |.str _=>T="str"
 |.int _=>T="int"
 |.ref p=>(T="list"/\∃ xs,SqL K H p xs)\/(T="tuple"/\∃ o,K.lookup p=some o/\o.cls=.type "tuple"/\o.dict=none) \/
   (T="dict"/\((∃ kvs,H p=some (.dK kvs))\/∃ kvs,H p=some (.dT kvs)))\/(T="set"/\∃ S n,H p=some (.set S n))
 |_=>False
theorem Zk6 {pins:List (Addr×Obj)} {σ:St} {H:Hp} {s:Shared} {T:String} {x:V} {v:Value} (I:Inv X pins σ H s) (r:RelV x v) (ty:tyV X.K T x H) :
  s.TypeIs v T/\∀ a,v=.ref a->∃ ob,s.heap.get? a=some ob/\ob.dict=none:=by
 cases x with
 |str z =>
  obtain ⟨t,rfl⟩:=r
  cases (show T="str" from ty)
  exact ⟨typeIs_str s z t,λ_ e=>nomatch e⟩
 |int i =>
  obtain ⟨t,rfl⟩:=r
  cases (show T="int" from ty)
  exact ⟨typeIs_int s i t,λ_ e=>nomatch e⟩
 |ref p =>
  cases r
  rcases ty with ⟨rfl,xs,hq⟩ | ⟨rfl,o,hk,hc,hd⟩ | ⟨rfl,hk⟩ | ⟨rfl,S,n,hk⟩
  ·obtain ⟨its,_,pl,_⟩:=I.list hq
   refine ⟨pl.isList.typeIs,λa e=>?_⟩
   cases e
   obtain ⟨o,n,e,c,hd,_⟩:=pl
   exact ⟨o,e,hd⟩
  ·refine ⟨⟨o,I.kIn p o hk,hc⟩,λa e=>?_⟩
   cases e
   exact ⟨o,I.kIn _ o hk,hd⟩
  ·have z:∃ o,s.heap.get? p=some o/\o.ExactDict:=by
    rcases hk with ⟨kvs,hk⟩ | ⟨kvs,hk⟩
    ·obtain ⟨_,_,_,_,o,_,_,e,ex,_⟩:=I.hok p _ hk
     exact ⟨o,e,ex⟩
    ·obtain ⟨_,_,_,_,o,_,_,e,ex,_⟩:=I.hok p _ hk
     exact ⟨o,e,ex⟩
   obtain ⟨o,e,ex⟩:=z
   refine ⟨⟨o,e,ex.1⟩,λa e2=>?_⟩
   cases e2
   exact ⟨o,e,ex.2.1⟩
  ·obtain ⟨o,_,_,_,e,ex,_⟩:=I.hok p _ hk
   refine ⟨⟨o,e,ex.1⟩,λa e2=>?_⟩
   cases e2
   exact ⟨o,e,ex.2.1⟩
 |_=>exact False.elim ty
def tBM0 (K:PySem.W.Frag) (T:String) (r:V->List V->Hp->VK->Prop) (to:TE):TE:=λσ H Q=>to σ H λx H1=>tyV K T x H1/\r x [] H1 Q
def tBM (K:PySem.W.Frag) (T:String) (r:V->List V->Hp->VK->Prop) (to:TE) (t:TA):TE:=λσ H Q=>to σ H λx H1=>tyV K T x H1/\t σ H1 λxs H2=>r x xs H2 Q
variable {o e:Expr} {es:List Expr} {to:TE} {t:TA} {name:Str} {apos cpos:Pos} {T id:String} {r:V->List V->Hp->VK->Prop}
theorem ZcB (pa:PlainAttrs T) (slot:Slot T name id) (hty:typeOf (.builtin id)=pure (.type "method_descriptor")) (hm:MtR X id r) (ho:PE X o to) (ha:PA X (e::es) t)
  (hbase:attributeBase o name X.env (eval o X.env)=eval o X.env:=by rfl)
  (hfew:((backTo cpos (starEach (e::es) X.env)).all (λx=>!x.1)&&(backToKw cpos (keywordEach [] X.env)).all (λx=>x.1.isSome)
   && decide ((e::es).length+([]:List Keyword).length+(if ([]:List Keyword).isEmpty then 0 else 1)<30))=true:=by rfl)
  (hline:(apos.endLine == cpos.line)=true:=by rfl) (hs:starEach (e::es) X.env=(false,eval e X.env)::starEach es X.env:=by rfl) (hplain:(backTo cpos (starEach es X.env)).any (·.1)=false:=by rfl) :
  PE X (.Call (.Attribute o name apos) (e::es) [] cpos) (tBM X.K T r to t):=by
 intro pins s σ H Q I h
 refine wpAny_Call_method_late hbase hfew hline rfl (thn (ho pins s σ H _ I h) λv s1 ⟨x,H1,I1,r1,ty,q1⟩=>?_)
 obtain ⟨h1,h2⟩:=Zk6 I1 r1 ty
 refine ⟨T,id,pa,slot,hty,h1,h2,?_⟩
 have hA:=ha cpos pins s1 σ H1 _ I1 q1
 rw [hs] at hA |-
 refine Calls.callWith_builtin (by show (false||(backTo cpos (starEach es X.env)).any (·.1))=false;rw [hplain]<;>rfl) (Calls.evalArgs_plain ?_)
 exact thn hA λus s2 ⟨vs,H2,I2,r2,q2⟩=>hm pins s2 σ H2 x vs v us Q I2 r1 r2 q2
/- xs.append(e),list.index on a module's tuple .. are MtR facts of 06m -/
end
end L2

namespace L2
open PySem PySem.Spec PyProof.Rows

def MtM (X:Cx) (id:String) (r:V->List V->Hp->VK->Prop):Prop :=
 ∀ (pins:List (Addr×Obj)) (s:Shared) (σ:St) (H:Hp) (x:V) (xs:List V) (v:Value) (us:List Value) (Q:VK),Inv X pins σ H s->RelV x v->Vals xs us->r x xs H Q ->
  wpAny (model X.prog X.w) X.A (call (.builtin id) (v::us)) (EP X pins σ Q) X.xe s

theorem Vals.one:∀ {x:V} {us:List Value},Vals [x] us->∃ u,us=[u]/\RelV x u
 |_,_,.cons r .nil=>⟨_,rfl,r⟩
section
variable {X:Cx} {pins:List (Addr×Obj)} {σ:St} {H:Hp} {s:Shared} {l b:Addr} {xs ys zs:List V}

theorem Inv.lset {its its':List Value} {n:Nat} {f:Array Value->Array Value} {t':Nat} (I:Inv X pins σ H s) (hH:H l=some (.lst xs))
  (e:s.heap.get? l=some { cls:=.type "list",data:=.seq its.toArray n }) (hf:f its.toArray=its'.toArray) (hv:Vals ys its') (hz:ys.length<=sizeLine) :
  Inv X pins σ (upd H l (.lst ys)) { s with heap:=s.heap.update l (Obj.mapSeq f),toks:=t' }:=by
 have q:=PySem.IsL.update e f
 rw [hf] at q
 refine I.write (x:=l) (e:=l) (by rw [hH];exact trivial) (.inl rfl) (λb' u hb hu=>(Heap.get?_update_other s.heap (Obj.mapSeq f) (Ne.symm hb)).trans hu) ⟨_,q⟩ ?_
 exact ⟨hz,its',_,hv,q⟩
theorem Inv.lnew {its:List Value} {t':Nat} (I:Inv X pins σ H s) (hv:Vals ys its) (hz:ys.length<=sizeLine) :
  Inv X pins σ (upd H s.heap.objs.size (.lst ys)) { s with heap:=s.heap.push { cls:=.type "list",data:=.seq its.toArray },toks:=t' } :=
 I.laid (λ_ _ q=>Heap.get?_push_of_some _ q) (Nat.le_refl _) ⟨hz,its,0,hv,Heap.get?_push_size _ rfl⟩
theorem Inv.fresh (I:Inv X pins σ H s):H s.heap.objs.size=none:=I.hok.fresh (Nat.le_refl _)
theorem Inv.lstM (I:Inv X pins σ H s) (hH:H l=some (.lst xs)):xs.length<=sizeLine/\∃ (its:List Value) (n:Nat),Vals xs its/\xs.length=its.length/\s.heap.get? l=some { cls:=.type "list",data:=.seq its.toArray n }:=by
 obtain ⟨z,its,n,r,e⟩:=I.hok l _ hH
 exact ⟨z,its,n,r,r.length,e⟩

end

section
variable {X:Cx}

def Zkr:V->List V->Hp->VK->Prop:=λx vs H Q=>∃ l xs y,x=.ref l/\vs=[y]/\H l=some (.lst xs)/\xs.length<sizeLine/\Q .non (upd H l (.lst (xs++[y])))
theorem ZaS:MtM X "list.append" Zkr:=by
 intro pins s σ H x vs v us Q I rx rv h
 obtain ⟨l,xs,y,rfl,rfl,hH,hz,q⟩:=h
 cases rx
 obtain ⟨u,rfl,ru⟩:=rv.one
 obtain ⟨z,its,n,r,hl,e⟩:=I.lstM hH
 refine call_meets F.slot_list_append ⟨_,e,rfl⟩ F.entry_list_append (F.args_list_append_2 _ _) (PySem.list_append l its.toArray n u (by rw [List.size_toArray];omega)) ⟨e,?_⟩
 refine ⟨.non,_,I.lset (its':=its++[u]) hH e (by simp) (r.append (.cons ru .nil)) ?_,rfl,q⟩
 rw [List.length_append,List.length_singleton]
 omega

def rCat:R2:=λx y H Q=>∃ l b xs zs,x=.ref l/\y=.ref b/\H l=some (.lst xs)/\H b=some (.lst zs)/\xs.length+zs.length<=sizeLine/\∀ p,H p=none->Q (.ref p) (upd H p (.lst (xs++zs)))
theorem ZcI:OpR X (binaryOp .Add) rCat:=by
 intro pins s σ H x y v u Q I rx ry h
 obtain ⟨l,b,xs,zs,rfl,rfl,hH,hB,hz,q⟩:=h
 cases rx
 cases ry
 obtain ⟨z,its,n,r,hl,e⟩:=I.lstM hH
 obtain ⟨z2,its2,n2,r2,hl2,e2⟩:=I.lstM hB
 refine PySem.P.add_list e e2 ?_ (by rw [List.size_toArray,List.size_toArray];omega)
 have ea:its.toArray++its2.toArray=(its++its2).toArray:=by simp
 rw [ea]
 exact ⟨.ref _,_,I.lnew (t':=s.toks) (r.append r2) (by rw [List.length_append];omega),rfl,q _ I.fresh⟩
end

section
variable {prog:Program} {w:World} {A:Around} {E:Value->Shared->Prop} {s:Shared}
end

section
variable {X:Cx}
end
end L2

namespace Att
open PySem PySem.W PySem.Calls PyProof.Rows

theorem Zdl {P:Params} {h:Heap}:∀ (ns:List Int) (vs:List Value),WellAll P h vs (ns.map WData.int)->IntsAre vs ns:=by
 intro ns
 induction ns with
 |nil =>
  intro vs w
  rw [List.map_nil] at w
  cases w
  exact .nil
 |cons n ns ih =>
  intro vs w
  rw [List.map_cons] at w
  cases w with
  |cons a b =>
   cases a
   exact .cons _ _ (ih _ b)

theorem Zhd {l:OpenLaw} {n:Nat} (hn:l.most=some n) {P:Params} {h:Heap} {args:List WData} {vals:List Value}
  (hpre:l.row.toRowW.claim.pre args=true) (hwl:WellAll P h vals args) :
  ∃ a vs ns,vals=[Value.ref a]/\args=[WData.list (ns.map WData.int)]/\h.get? a=some { cls:=.type "list",data:=.seq vs.toArray }/\IntsAre vs ns/\ns.length<=n:=by
 have hsh:WShape.hasAll [] args [.list .int]=true:=(pre_splitW hpre).1
 have hc:l.pre.holds [] { args:=args }=true:=(pre_splitW hpre).2
 obtain ⟨d,r,rfl,h1,h2⟩:=hasAllW_cons hsh
 obtain rfl:=hasAllW_nil h2
 obtain ⟨xs,rfl,h3⟩:=hasW_list h1
 obtain ⟨ns,rfl⟩:=items_int h3
 have hlen:ns.length<=n:=by
  unfold OpenLaw.pre at hc
  have h4:(WTm.not (.lt (.lit (.int (n:Int))) (.len (.arg 0)))).holds [] { args:=[.list (ns.map .int)] }=true:=by
   have h4:=(holds_andW hc).1
   rw [hn] at h4
   exact h4
  have h5:=condW_of h4 (w_not (w_lt w_lit (w_len_list (w_arg rfl))))
  rw [List.length_map] at h5
  refine Nat.le_of_not_lt λq=>?_
  have q':(n:Int)<((ns.length:Nat):Int):=by omega
  first
   | (rw [decide_eq_true q'] at h5;exact absurd h5 (by decide))
   | (simp at h5;omega)
 cases hwl with
 |cons w1 w2 =>
  cases w2
  cases w1 with
  |list ho hall=>exact ⟨_,_,ns,rfl,rfl,ho,Zdl ns _ hall,hlen⟩

theorem Zhq (l:OpenLaw) (args:List WData):l.row.toRowW.claim.post args (.bool true) args=true :=
 postW_of (r:=l.row.toRowW) (X:=(true == true))
  (show WShape.has [] (.bool true) .bool=true by first | rfl | decide | simp [WShape.has,WShape.arms,WShape.armsAll])
  (show (WTm.eq .res (.lit (.bool true))).value [] { args:=args,res:=some (.bool true),after:=args }=some (.bool (true == true)) from w_eq_bool (w_res rfl) w_lit) rfl

theorem attach_call {l:OpenLaw} {n:Nat} {q:Program} {loose:List Str} {XP:(Str->Option Value)->Heap->Prop} {YP:World->Heap->Prop} {d:DefRec}
  (hn:l.most=some n) (hdf:d.params.defaults=[])
  (call:∀ (w:World) (s₀ s₁:Shared) (mg mb:Str->Option Value) (fa:Addr) (o:Obj) (pm cd doc:Value) (a:Addr) (vs:List Value) (ns:List Int),
   Ground q loose [] XP w s₀ mg mb s₁.heap->YP w s₁.heap ->
   s₁.heap.get? fa=some o->o.data=.func (docDef d.name d.params d.body d.scope pm cd doc)->s₁.heap.CodeRec cd d.name->mg d.name=some (.ref fa) ->
   s₁.heap.get? a=some { cls:=.type "list",data:=.seq vs.toArray }->IntsAre vs ns->ns.length<=n->s₁.gens=#[] ->
   codeAny (model l.prog w) callerA (.call (.ref fa) ⟨[.ref a],[]⟩) (λr s'=>r=.ok (.ret (.bool true))/\OldK s₁.heap s'.heap/\s'.os=s₁.os/\AllBare s'.gens) s₁) :
  WalkO q loose XP YP l.row.toRowW d [] (λf vs=>PySem.call f vs):=by
 intro w s₀ s₁ mg mb G Y fa o pm cd doc dV kV ho hd hcd hD hmg hg args vals as hpre hlay hrd hwl hlo
 obtain rfl:dV=.none:=Dflts.none hD hdf
 obtain rfl:kV=.none:=Dflts.noKw hD
 obtain ⟨a,vs,ns,rfl,rfl,hobj,hints,hlen⟩:=Zhd hn hpre hwl
 refine enter_call (codeAny_mono (call w s₀ s₁ mg mb fa o pm cd doc a vs ns G Y ho (fd_plain hd) hcd hmg hobj hints hlen hg) λr s' hq=>?_)
 obtain ⟨rfl,h2,h3,h4⟩:=hq
 exact ⟨.inl ⟨.bool true,.bool true,[],rfl,λ_=>rfl,.bool true,Zhq l _,λ_=>⟨List.Pairwise.nil,λ_ hm=>(nomatch hm)⟩⟩,h2,h3,h4⟩

section
variable {prog:Program} {w:World} {A:Around} {E:Value->Shared->Prop} {s:Shared} {K:Frag}

end
end Att

namespace L2
open PySem PySem.Spec PyProof.Rows

theorem Zd9:∀ {vs:List Value} {ns:List Int},IntsAre vs ns->Vals (ns.map V.int) vs
 |_,_,.nil=>.nil
 |_,_,.cons n t h=>.cons ⟨t,rfl⟩ (Zd9 h)

def Only (H:Hp):Prop:=∀ b,H b=none\/∃ o xs,H b=some (.frz o (.lst xs))

theorem Zjb {P:Program} {w:World} {K:PySem.W.Frag} {mg mb:Str->Option Value} {CX:CXT} {k:Nat} {fa a:Addr} {fd:FuncData} {x:Str} {sp:Sp} {s₁:Shared} {vs:List Value} {ns:List Int}
  (KX:K.In s₁.heap) (hns:s₁.heap.Ns mainGlobals mg) (hb:s₁.heap.Ns builtinsNs mb) (hbb:∀ x:Str,x≠"__name__"->mb x=bootBuiltins x) (hlim:s₁.heap.NoLimit) (hg:s₁.gens=#[])
  (ha:s₁.heap.get? a=some { cls:=.type "list",data:=.seq vs.toArray }) (hi:IntsAre vs ns) (hl:ns.length<=sizeLine) (hr:Room k callerA)
  (F:∀ base:Heap,K.In base->base.Ns mainGlobals mg->FnOk P w K mg base CX k fa fd [x] sp) (hbind:∀ (s:Shared) (u:Value),BindsTo s fd ⟨[u],[]⟩ [(x,u)])
  (hsp:∀ H:Hp,Only H->SqL K H a (ns.map V.int)->sp [.ref a] H (λv _=>v=.bl true) λ_ _ _=>False)
  (hCX:∀ H e s',CX [] H s₁ (λ_ _ _=>False) e s'->False) :
  codeAny (model P w) callerA (.call (.ref fa) ⟨[.ref a],[]⟩) (λr s'=>r=.ok (.ret (.bool true))/\OldK s₁.heap s'.heap/\s'.os=s₁.os/\AllBare s'.gens) s₁:=by
 have rv:=Zd9 hi
 have lenV:=hi.length
 -- from an abstract heap in which nothing but the script may be tracked
 have core:∀ H:Hp,Only H->SqL K H a (ns.map V.int)->HOk P w H s₁.heap->(∀ b,H b≠none->b=a)->(H a≠none->K.lookup a=none) ->
   codeAny (model P w) callerA (.call (.ref fa) ⟨[.ref a],[]⟩) (λr s'=>r=.ok (.ret (.bool true))/\OldK s₁.heap s'.heap/\s'.os=s₁.os/\AllBare s'.gens) s₁:=by
  intro H hO hS hok hA hK
  have base_of:∀ {b:Addr} {o:Obj},s₁.heap.get? b=some o->H b=none->(hidT s₁.heap H).get? b=some o:=λe n=>Zji e n
  have noA:∀ {b:Addr} {o:Obj} {es:Array DictEntry} {ep:Nat},s₁.heap.get? b=some o->o.data=.dict es ep->H b=none:=λ{b o es ep} e d=>by
   cases q:H b with
   |none=>rfl
   |some u =>
    have e':b=a:=hA b (by rw [q];simp)
    subst e'
    rw [ha] at e;cases e
    have d':Data.seq vs.toArray _=Data.dict es ep:=d
    cases d'
  have nsK:∀ {b:Addr} {m:Str->Option Value},s₁.heap.Ns b m->(hidT s₁.heap H).Ns b m:=λ{b m} ⟨o,es,ep,e,d,r⟩=>⟨o,es,ep,base_of e (noA e d),d,r⟩
  have hKb:K.In (hidT s₁.heap H):=λb o e=>base_of (KX b o e) (by
   cases q:H b with
   |none=>rfl
   |some u =>
    have e':b=a:=hA b (by rw [q];simp)
    subst e'
    rw [hK (by rw [q];simp)] at e;cases e)
  have hM:Mod K mg (hidT s₁.heap H):=⟨hKb,nsK hns,⟨mb,nsK hb,hbb⟩,let ⟨mc,h1,h2⟩:=hlim;⟨mc,nsK h1,h2⟩⟩
  have e0:Env0 P w K mg (hidT s₁.heap H) callerA [] s₁ H:=⟨rfl,hM,λb o e=>ZkC e,Nat.le_of_eq (ZhU _ _),trivial,λb hb=>absurd (show b∈([]:List Addr) from hb) (by simp),hok,.of_eq hg⟩
  refine codeAny_mono ((F _ hKb (nsK hns)).run callerA [] s₁ H ⟨[.ref a],[]⟩ [.ref a] [.ref a] _ _ hr e0 (hbind s₁ (.ref a)) (.cons rfl .nil) (hsp H hO hS)) λr s' h=>?_
  cases r with
  |error e=>exact (hCX H e s' h).elim
  |ok fl =>
   cases fl with
   |next=>exact False.elim h
   |brk=>exact False.elim h
   |cont=>exact False.elim h
   |ret u =>
    obtain ⟨v,H',os,bare,un,hok',r',q⟩:=h
    have q':v=.bl true:=q
    subst q'
    obtain rfl:u=Value.bool true:=r'
    refine ⟨rfl,OldK.of_keep λb o e=>?_,os,bare⟩
    cases q:H b with
    |none=>exact un.keep b o e q (by intro z;exact absurd (show b∈([]:List Addr) from z) (by simp)) (by simp)
    |some u =>
     rcases hO b with z | ⟨ob,xs,z⟩
     ·rw [q] at z;cases z
     ·have z2:=un.frzs b ob _ z
      obtain ⟨e1,_⟩:=hok b _ z
      obtain ⟨e2,_⟩:=hok' b _ z2
      rw [e] at e1;cases e1
      exact e2
 cases hk:K.lookup a with
 |some o =>
  -- the script is one of the module's own objects
  have e:=KX a o hk
  rw [ha] at e
  cases e
  refine core (λ_=>none) (λ_=>.inl rfl) (.inr ⟨_,vs.toArray,_,hk,rfl,rfl,rfl,by rw [List.size_toArray,lenV];exact hl,by simpa using rv⟩) (λb u z=>by have z':(none:Option HO)=some u:=z;cases z') (λb z=>absurd rfl z) λz=>absurd rfl z
 |none =>
  refine core (λb=>if b=a then some (.frz { cls:=.type "list",data:=.seq vs.toArray } (.lst (ns.map V.int))) else none) (λb=>?_) (.inl (.inr ⟨{ cls:=.type "list",data:=.seq vs.toArray },if_pos rfl⟩)) (λb u z=>?_) (λb z=>?_) λ_=>hk
  ·by_cases hb:b=a
   ·exact .inr ⟨_,_,if_pos hb⟩
   ·exact .inl (if_neg hb)
  ·by_cases hb:b=a
   ·have z':=(if_pos hb).symm.trans z
    cases z'
    subst hb
    exact ⟨ha,by rw [List.length_map];exact hl,vs,_,rv,ha⟩
   ·have z':=(if_neg hb).symm.trans z
    cases z'
  ·by_cases hb:b=a
   ·exact hb
   ·exact absurd (if_neg hb) z
end L2

namespace L2
open PySem PySem.Spec PyProof.Rows

theorem Zj7 {l:PySem.W.OpenLaw} {n k:Nat} {q:Program} {loose:List Str} {XP:(Str->Option Value)->Heap->Prop} {YP:World->Heap->Prop} {d:DefRec} {K:Params->PySem.W.Frag} {CX:World->CXT} {sp:World->Sp} {x:Str}
  (hn:l.most=some n) (hn2:n<=sizeLine) (hdf:d.params.defaults=[]) (hr:Room k callerA)
  (hY:∀ (w:World) (h:Heap),YP w h->(K w.params).In h)
  (F:∀ (w:World) (mg:Str->Option Value) (fa:Addr) (h:Heap),(K w.params).In h->h.Ns mainGlobals mg->mg d.name=some (.ref fa) ->
   ∃ fd:FuncData,(∀ (s:Shared) (u:Value),BindsTo s fd ⟨[u],[]⟩ [(x,u)]) /\
    ∀ base:Heap,(K w.params).In base->base.Ns mainGlobals mg->FnOk l.prog w (K w.params) mg base (CX w) k fa fd [x] (sp w))
  (hsp:∀ (w:World) (H:Hp) (a:Addr) (ns:List Int),ns.length<=n->Only H->SqL (K w.params) H a (ns.map V.int)->sp w [.ref a] H (λv _=>v=.bl true) λ_ _ _=>False)
  (hCX:∀ (w:World) (H:Hp) (s:Shared) (e:Value) (s':Shared),CX w [] H s (λ_ _ _=>False) e s'->False) :
  PySem.W.WalkO q loose XP YP l.row.toRowW d [] (λf vs=>PySem.call f vs):=by
 refine Att.attach_call hn hdf λw s₀ s₁ mg mb fa o pm cd doc a vs ns G Y ho hd hcd hmg hobj hints hlen hg=>?_
 have KX:=hY w _ Y
 obtain ⟨fd,hb,hF⟩:=F w mg fa _ KX G.T.g hmg
 exact Zjb KX G.T.g G.T.b G.T.builtins G.T.nolimit hg hobj hints (Nat.le_trans hlen hn2) hr hF hb (λH hO hS=>hsp w H a ns hlen hO hS) λH e s'=>hCX w H s₁ e s'
theorem walk_ofK {l:PySem.W.OpenLaw} {n k:Nat} {q:Program} {loose:List Str} {XP:(Str->Option Value)->Heap->Prop} {YP:World->Heap->Prop} {d:DefRec} {K:Params->PySem.W.Frag} {CX:CXT} {sp:PySem.W.Frag->Sp} {x:Str}
  (hn:l.most=some n) (hn2:n<=sizeLine) (hdf:d.params.defaults=[]) (hr:Room k callerA)
  (hY:∀ (w:World) (h:Heap),YP w h->(K w.params).In h)
  (F:∀ (w:World) (mg:Str->Option Value) (fa:Addr) (h:Heap),(K w.params).In h->h.Ns mainGlobals mg->mg d.name=some (.ref fa) ->
   ∃ fd:FuncData,(∀ (s:Shared) (u:Value),BindsTo s fd ⟨[u],[]⟩ [(x,u)]) /\
    ∀ base:Heap,(K w.params).In base->base.Ns mainGlobals mg->FnOk l.prog w (K w.params) mg base CX k fa fd [x] (sp (K w.params)))
  (hsp:∀ (K:PySem.W.Frag) (H:Hp) (a:Addr) (ns:List Int),ns.length<=n->Only H->SqL K H a (ns.map V.int)->sp K [.ref a] H (λv _=>v=.bl true) λ_ _ _=>False)
  (hCX:∀ (H:Hp) (s:Shared) (e:Value) (s':Shared),CX [] H s (λ_ _ _=>False) e s'->False) :
  PySem.W.WalkO q loose XP YP l.row.toRowW d [] (λf vs=>PySem.call f vs) :=
 Zj7 (K:=K) (CX:=λ_=>CX) (sp:=λw=>sp (K w.params)) hn hn2 hdf hr hY F (λw H a ns h1 h2 h3=>hsp (K w.params) H a ns h1 h2 h3) λ_ H s e s'=>hCX H s e s'
end L2


namespace L2
open PySem PySem.Spec PyProof.Rows

def Zal (s:Stmt) (j:Nat):Stmt:=match s with
 |.ClassDef _ _ _ body _ _ _ _ _ _ _=>body.getD j (.Pass ⟨0,0,0,0⟩)
 |_=>.Pass ⟨0,0,0,0⟩
def Zbk (s:Stmt):Arguments:=match s with
 |.FunctionDef _ a _ _ _ _ _ _ _ _=>a
 |_=>{ posonlyargs:=[],args:=[],vararg:=none,kwonlyargs:=[],kw_defaults:=[],kwarg:=none,defaults:=[] }
def Za1 (s:Stmt):List Stmt:=match s with
 |.FunctionDef _ _ b _ _ _ _ _ _ _=>b
 |_=>[]
def Zaj (s:Stmt):Scope:=match s with
 |.FunctionDef _ _ _ _ _ _ sc _ _ _=>sc
 |_=>{ kind:=.function,names:=[],isGenerator:=false,isCoroutine:=false }

abbrev CX0:CXT:=λ_ _ _ _ _ _=>False
abbrev E0:XK:=λ_ _ _=>False
theorem ZaV {X:Cx}:ZbB CX0 X E0:=λ_ _ _ _ _ _ _ h=>h.elim

structure Fun (K:PySem.W.Frag) (x qual:Str) (st:Stmt) (f:Addr) (fd:FuncData):Prop where
 ex:∃ (oc:Value) (od:Option Addr) (kV doc pm:Value) (an:Option Addr) (cdv ct:Value) (osl:Array (Option Value)),
  fd=PySem.W.fnOf x qual (Zbk st) (Za1 st) (Zaj st) .none kV doc pm an cdv ct/\K.lookup f=some ⟨oc,od,.func fd,osl⟩/\PySem.W.codeIn K cdv qual=true
 kp:PySem.W.keepIn K (.ref f)=true
section
variable {P:Program} {w:World} {K:PySem.W.Frag} {mg:Str->Option Value} {base:Heap}
theorem Fun.ok {x qual:Str} {st:Stmt} {f:Addr} {fd:FuncData} {N ps:List Str} {k:Nat} {sp:Sp} (F:Fun K x qual st f fd) (S:FnScope N ps (Zaj st)) (len:∀ vs H Q E,sp vs H Q E->vs.length=ps.length)
  (hbody:∀ (cdv:Value) (A:Around) (outer:List Env) (s:Shared) (H:Hp) (vs:List V) (Q:VK) (E:XK),Room k (A.deeper (envOfC qual (Zaj st) s.heap.objs.size f cdv))->sp vs H Q E ->
   ∃ t,PSs (cxOf CX0 P w K mg base N qual (Zaj st) f cdv A outer s H E).nox (Za1 st) t/\t { nx:=λ_ H'=>Q .non H',rt:=Q } (start N vs) H):FnOk P w K mg base CX0 (k+1) f fd ps sp:=by
 obtain ⟨oc,od,kV,doc,pm,an,cdv,ct,osl,rfl,lk,hcd⟩:=F.ex
 refine ZlK lk hcd S len λA outer s H vs Q E hr hsp=>?_
 obtain ⟨t,h,q⟩:=hbody cdv A outer s H vs Q E hr hsp
 exact ⟨t,h.nox,q⟩
theorem Fun.binds {x qual:Str} {st:Stmt} {f:Addr} {fd:FuncData} {ps:List Str} (F:Fun K x qual st f fd)
  (h:∀ (kV doc pm:Value) (an:Option Addr) (cdv ct:Value) (us:List Value),us.length=ps.length->bindArgs (PySem.W.fnOf x qual (Zbk st) (Za1 st) (Zaj st) .none kV doc pm an cdv ct) ⟨us,[]⟩=pure (ps.zip us)):Binds K fd ps []:=by
 obtain ⟨oc,od,kV,doc,pm,an,cdv,ct,osl,rfl,lk,hcd⟩:=F.ex
 exact .all (h kV doc pm an cdv ct)
theorem ZhX {x qual:Str} {st:Stmt} {f:Addr} {oc:Value} {od an:Option Addr} {osl:Array (Option Value)} {kV doc pm cdv ct:Value} (l:K.lookup f=some ⟨oc,od,.func (PySem.W.fnOf x qual (Zbk st) (Za1 st) (Zaj st) .none kV doc pm an cdv ct),osl⟩)
  (c:PySem.W.codeIn K cdv qual=true) (k:PySem.W.keepIn K (.ref f)=true):Fun K x qual st f (PySem.W.fnOf x qual (Zbk st) (Za1 st) (Zaj st) .none kV doc pm an cdv ct):=⟨⟨oc,od,kV,doc,pm,an,cdv,ct,osl,rfl,l,c⟩,k⟩
end
theorem Za8 {A:Around} {k:Nat} (hr:Room k A):A.units+1<cLine:=Nat.lt_of_le_of_lt (Nat.add_le_add_left (by decide:1<=64) _) hr.units
theorem Zam {n:Nat} (h:n<=1000):n<sizeLine:=Nat.lt_of_le_of_lt h (by decide)

section
variable {X:Cx}
theorem pv (i:Nat) {x:Str} {pos:Pos} (hN:X.N[i]?=some x:=by rfl) (hv:Vis X.env.scope x:=by first | exact Or.inl rfl | exact Or.inr (Or.inl rfl) | exact Or.inr (Or.inr rfl)) (hd:(x == ("__debug__":Str))=false:=by decide)
  (hcd:(x == ("__classdict__":Str))=false:=by decide):PE X (.Name x pos) (tVar i):=Zln hN hv hd hcd
end

def Same (H H':Hp):Prop:=∀ b o,H b=some o->H' b=some o
theorem Same.refl (H:Hp):Same H H:=λ_ _ h=>h
theorem Same.trans {H H1 H2:Hp} (a:Same H H1) (b:Same H1 H2):Same H H2:=λc o h=>b c o (a c o h)
theorem Same.free {H H':Hp} (e:Same H H') {l:Addr} (h:H' l=Option.none):H l=Option.none:=by
 cases q:H l with
 |none=>rfl
 |some o =>
  rw [e l o q] at h
  cases h
end L2


namespace L2
open PySem PySem.Spec PyProof.Rows

section
variable {κ:Type} [DecidableEq κ]
def valV (kvs:List (κ×V)) (k:κ):Option V:=(kvs.find? λkv=>decide (kv.1=k)).map (·.2)
def putK (kvs:List (κ×V)) (k:κ) (v:V):List (κ×V) :=
 if (kvs.any λkv=>decide (kv.1=k))=true then kvs.map (λkv=>if kv.1=k then (kv.1,v) else kv) else kvs++[(k,v)]
def Zfk (kvs:List (κ×V)) (k:κ):List (κ×V):=kvs.filter λkv=>decide (kv.1≠k)

theorem Za2 {p:κ×V} {r:List (κ×V)} {k:κ} (e:p.1=k):valV (p::r) k=some p.2:=by simp [valV,List.find?_cons,e]
theorem Za3 {p:κ×V} {r:List (κ×V)} {k:κ} (e:¬ p.1=k):valV (p::r) k=valV r k:=by simp [valV,List.find?_cons,e]
theorem Zb6 (k:κ):∀ kvs:List (κ×V),(kvs.any λkv=>decide (kv.1=k))=(valV kvs k).isSome
 |[]=>rfl
 |p::r=>by
  rw [List.any_cons]
  by_cases e:p.1=k
  ·simp only [Za2 e,decide_eq_true e,Bool.true_or,Option.isSome_some]
  ·rw [Za3 e,decide_eq_false e,Bool.false_or];exact Zb6 k r
theorem Zfr (k j:κ) (y:V):∀ kvs:List (κ×V),valV (kvs.map λkv=>if kv.1=k then (kv.1,y) else kv) j=(valV kvs j).map λx=>if j=k then y else x
 |[]=>rfl
 |p::r=>by
  have ih:=Zfr k j y r
  rw [List.map_cons]
  by_cases h:p.1=k
  ·rw [if_pos h]
   by_cases e:p.1=j
   ·rw [Za2 (p:=(p.1,y)) e,Za2 e,Option.map_some,if_pos (e.symm.trans h)]
   ·rw [Za3 (p:=(p.1,y)) e,Za3 e,ih]
  ·rw [if_neg h]
   by_cases e:p.1=j
   ·rw [Za2 (p:=p) e,Za2 e,Option.map_some,if_neg (λz=>h (e.trans z))]
   ·rw [Za3 (p:=p) e,Za3 e,ih]
theorem Zea (k j:κ) (y:V):∀ kvs:List (κ×V),valV kvs k=none->valV (kvs++[(k,y)]) j=if j=k then some y else valV kvs j
 |[],_=>by
  by_cases e:k=j
  ·rw [if_pos e.symm];exact Za2 (p:=(k,y)) e
  ·rw [if_neg (λz=>e z.symm)];exact Za3 (p:=(k,y)) e
 |p::r,hn=>by
  rw [List.cons_append]
  have hk:¬ p.1=k:=λz=>by rw [Za2 z] at hn;cases hn
  rw [Za3 hk] at hn
  have ih:=Zea k j y r hn
  by_cases e:p.1=j
  ·rw [Za2 e,Za2 e,if_neg (λz=>hk (e.trans z))]
  ·rw [Za3 e,Za3 e,ih]
theorem Zfq (kvs:List (κ×V)) (k j:κ) (y:V):valV (putK kvs k y) j=if j=k then some y else valV kvs j:=by
 unfold putK
 by_cases a:(kvs.any λkv=>decide (kv.1=k))=true
 ·rw [if_pos a,Zfr]
  rw [Zb6] at a
  by_cases e:j=k
  ·obtain ⟨x,hx⟩:=Option.isSome_iff_exists.mp a
   rw [if_pos e,e,hx,Option.map_some,if_pos rfl]
  ·rw [if_neg e]
   cases valV kvs j with
   |none=>rfl
   |some x=>rw [Option.map_some,if_neg e]
 ·rw [if_neg a]
  refine Zea k j y kvs ?_
  rw [Zb6] at a
  cases q:valV kvs k with
  |none=>rfl
  |some x=>rw [q] at a;exact (a rfl).elim
theorem Zb3 (kvs:List (κ×V)) (k:κ) (v:V):(putK kvs k v).length<=kvs.length+1:=by
 unfold putK
 split
 ·rw [List.length_map];omega
 ·rw [List.length_append,List.length_cons,List.length_nil];omega
theorem ZfN {kvs:List (κ×V)} {k:κ} (v:V) (h:valV kvs k=none):putK kvs k v=kvs++[(k,v)]:=by
 unfold putK
 rw [Zb6,h]
 exact if_neg (by decide)

theorem RelO.isSome_eq {o:Option V} {u:Option Value} (r:RelO o u):o.isSome=u.isSome:=by
 cases o with
 |none=>cases u with
  |none=>rfl
  |some _=>exact (show False from r).elim
 |some _=>cases u with
  |none=>exact (show False from r).elim
  |some _=>rfl
theorem RelO.getD {o:Option V} {u:Option Value} {d:V} {d':Value} (r:RelO o u) (rd:RelV d d'):RelV (o.getD d) (u.getD d'):=by
 cases o with
 |none=>cases u with
  |none=>exact rd
  |some _=>exact (show False from r).elim
 |some _=>cases u with
  |none=>exact (show False from r).elim
  |some _=>exact r

theorem KV.val {kvs:List (κ×V)} {vs:List (κ×Value)} (r:KV kvs vs) (k:κ):RelO (valV kvs k) (valueAt vs k):=by
 unfold KV at r
 induction r with
 |nil=>exact True.intro
 |@cons p q ps qs h t ih =>
  obtain ⟨h1,h2⟩:=h
  by_cases e:p.1=k
  ·have e':q.1=k:=h1.symm.trans e
   have b:valueAt (q::qs) k=some q.2:=by simp [valueAt,List.find?_cons,e']
   rw [Za2 e,b];exact h2
  ·have e':¬ q.1=k:=λz=>e (h1.trans z)
   have b:valueAt (q::qs) k=valueAt qs k:=by simp [valueAt,List.find?_cons,e']
   rw [Za3 e,b];exact ih
theorem KV.any {kvs:List (κ×V)} {vs:List (κ×Value)} (r:KV kvs vs) (k:κ):(kvs.any λkv=>decide (kv.1=k))=vs.any λkv=>decide (kv.1=k):=by
 unfold KV at r
 induction r with
 |nil=>rfl
 |cons h t ih=>rw [List.any_cons,List.any_cons,ih,h.1]
theorem KV.repl {kvs:List (κ×V)} {vs:List (κ×Value)} (r:KV kvs vs) (k:κ) {y:V} {u:Value} (ry:RelV y u) :
  KV (kvs.map λkv=>if kv.1=k then (kv.1,y) else kv) (vs.map λkv=>if kv.1=k then (kv.1,u) else kv):=by
 unfold KV at r |-
 induction r with
 |nil=>exact .nil
 |@cons p q ps qs h t ih =>
  rw [List.map_cons,List.map_cons]
  refine .cons ?_ ih
  obtain ⟨h1,h2⟩:=h
  by_cases e:p.1=k
  ·rw [if_pos e,if_pos (h1.symm.trans e)];exact ⟨h1,ry⟩
  ·rw [if_neg e,if_neg (λz=>e (h1.trans z))];exact ⟨h1,h2⟩
theorem KV.put {kvs:List (κ×V)} {vs:List (κ×Value)} (r:KV kvs vs) (k:κ) {y:V} {u:Value} (ry:RelV y u):KV (putK kvs k y) (stored vs k u):=by
 unfold putK stored
 rw [r.any k]
 by_cases e:(vs.any λkv=>decide (kv.1=k))=true
 ·rw [if_pos e,if_pos e];exact r.repl k ry
 ·rw [if_neg e,if_neg e];exact Paired.snoc r ⟨rfl,ry⟩
theorem KV.keys {kvs:List (κ×V)} {vs:List (κ×Value)} (r:KV kvs vs):kvs.map (·.1)=vs.map (·.1):=by
 unfold KV at r
 induction r with
 |nil=>rfl
 |cons h t ih=>rw [List.map_cons,List.map_cons,ih,h.1]
theorem KV.length {kvs:List (κ×V)} {vs:List (κ×Value)} (r:KV kvs vs):kvs.length=vs.length:=Paired.length r
theorem Zjt (kvs:List (κ×V)) (k:κ):(Zfk kvs k).length<=kvs.length:=List.length_filter_le _ _
end


theorem Zew {P:Program} {w:World} {k:Key} {u:Value} (r:RelV (kV k) u):(ZaA P w).is k u=true:=by
 cases k with
 |inl i=>obtain ⟨t,e⟩:=(show ∃ t,u=Value.int i t from r);subst e;exact Ze9 P w i t
 |inr x=>obtain ⟨t,e⟩:=(show ∃ t,u=Value.str x t from r);subst e;exact Ze8 P w x t
theorem Zex {P:Program} {w:World}:∀ {ks:List Key} {us:List Value},Vals (ks.map kV) us->ItemsAre (ZaA P w) ks us
 |[],_,r=>by rw [List.map_nil] at r;cases r;exact .nil
 |k::ks,_,r=>by
  rw [List.map_cons] at r
  cases r with
  |cons h t=>exact .cons (Zew h) (Zex t)

abbrev KT (H:Hp):List (List Key×V)->List (List Key×Addr×Value)->Prop:=Paired λp q=>p.1=q.1/\H q.2.1=some (.tup (p.1.map kV))/\RelV p.2 q.2.2
theorem KT.val {H:Hp} {kvs:List (List Key×V)} {xs:List (List Key×Addr×Value)} (r:KT H kvs xs) (k:List Key):RelO (valV kvs k) ((atKey xs k).map (·.2)):=by
 induction r with
 |nil=>exact True.intro
 |@cons p q ps qs h t ih =>
  obtain ⟨h1,_,h2⟩:=h
  by_cases e:p.1=k
  ·have e':q.1=k:=h1.symm.trans e
   have b:atKey (q::qs) k=some q.2:=by simp [atKey,List.find?_cons,e']
   rw [Za2 e,b];exact h2
  ·have e':¬ q.1=k:=λz=>e (h1.trans z)
   have b:atKey (q::qs) k=atKey qs k:=by simp [atKey,List.find?_cons,e']
   rw [Za3 e,b];exact ih
theorem KT.repl {H:Hp} {kvs:List (List Key×V)} {xs:List (List Key×Addr×Value)} (r:KT H kvs xs) (k:List Key) {y:V} {u:Value} (ry:RelV y u) :
  KT H (kvs.map λkv=>if kv.1=k then (kv.1,y) else kv) (xs.map (putAt k u)):=by
 induction r with
 |nil=>exact .nil
 |@cons p q ps qs h t ih =>
  rw [List.map_cons,List.map_cons]
  refine .cons ?_ ih
  obtain ⟨h1,h2,h3⟩:=h
  unfold putAt
  by_cases e:p.1=k
  ·rw [if_pos e,if_pos (h1.symm.trans e)];exact ⟨h1,h2,ry⟩
  ·rw [if_neg e,if_neg (λz=>e (h1.trans z))];exact ⟨h1,h2,h3⟩
theorem KT.put {H:Hp} {kvs:List (List Key×V)} {xs:List (List Key×Addr×Value)} (r:KT H kvs xs) (k:List Key) {b:Addr} {y:V} {u:Value} (hb:H b=some (.tup (k.map kV))) (ry:RelV y u) :
  KT H (putK kvs k y) (storedH xs k b u):=by
 have e:(kvs.any λkv=>decide (kv.1=k))=(atKey xs k).isSome:=by
  rw [Zb6,(r.val k).isSome_eq,Option.isSome_map]
 unfold putK storedH
 rw [e]
 by_cases q:(atKey xs k).isSome=true
 ·rw [if_pos q,if_pos q];exact r.repl k ry
 ·rw [if_neg q,if_neg q];exact Paired.snoc r ⟨rfl,hb,ry⟩
theorem KT.keeps {H H':Hp} {kvs:List (List Key×V)} {xs:List (List Key×Addr×Value)} (r:KT H kvs xs) (ht:∀ b ys,H b=some (.tup ys)->H' b=some (.tup ys)):KT H' kvs xs :=
 Paired.mapP r λ_ _ z=>⟨z.1,ht _ _ z.2.1,z.2.2⟩

section
variable {P:Program} {w:World} {H:Hp} {h:Heap} {a:Addr}
theorem Zkn {u:HO} (ok:HOk P w H h) (e:Rd H a u):ObjOk P w H h a u:=e.ok ok
theorem Zfl {kvs:List (Key×V)} (ok:HOk P w H h) (e:Rd H a (.dK kvs)):kvs.length<=sizeLine/\(a == sysModules)=false/\∃ vs,KV kvs vs/\h.DictOf (ZaA P w) a vs :=
 show ObjOk P w H h a (.dK kvs) from Zkn ok e
theorem Zju {kvs:List (Key×V)} (ok:HOk P w H h) (e:H a=some (.dK kvs)):kvs.length<=sizeLine/\(a == sysModules)=false/\∃ vs,KV kvs vs/\h.DictOf (ZaA P w) a vs:=Zfl ok (.inl e)
theorem Zdj {ks:List Key} (ok:HOk P w H h) (e:H a=some (.tup (ks.map kV))):(tupleKind (ZaA P w)).is h ks a:=by
 obtain ⟨_,its,r,o,h1,h2,n,h3⟩:=(show ObjOk P w H h a (.tup (ks.map kV)) from ok a _ e)
 exact ⟨o,its.toArray,n,h1,h2,h3,by simpa using Zex r⟩
theorem ZeB {kvs:List (List Key×V)} (ok:HOk P w H h) (e:Rd H a (.dT kvs)):kvs.length<=sizeLine/\(a == sysModules)=false /\
  ∃ xs,KT H kvs xs/\h.DictOfH (tupleKind (ZaA P w)) a xs:=by
 obtain ⟨z,y,xs,r,o,es,ep,h1,h2,h3,h4,h5⟩:=(show ObjOk P w H h a (.dT kvs) from Zkn ok e)
 refine ⟨z,y,xs,r,o,es,ep,h1,h2,h3,h4,λx hx=>?_,h5⟩
 have all:∀ {l:List (List Key×V)} {m:List (List Key×Addr×Value)},KT H l m->∀ x∈m,(tupleKind (ZaA P w)).is h x.1 x.2.1:=by
  intro l m q
  induction q with
  |nil=>intro x hx;exact nomatch hx
  |@cons p q ps qs hq t ih =>
   intro x hx
   rcases List.mem_cons.mp hx with e | hx
   ·subst e
    exact Zdj ok (by rw [<- hq.1];exact hq.2.1)
   ·exact ih x hx
 exact all r x hx
theorem ZlV {kvs:List (List Key×V)} (ok:HOk P w H h) (e:H a=some (.dT kvs)):kvs.length<=sizeLine/\(a == sysModules)=false /\
  ∃ xs,KT H kvs xs/\h.DictOfH (tupleKind (ZaA P w)) a xs:=ZeB ok (.inl e)
end

def DGet (H:Hp) (a:Addr) (y:V) (r:Option V):Prop :=
 (∃ kvs k,Rd H a (.dK kvs)/\y=kV k/\r=valV kvs k)\/∃ kvs k b,Rd H a (.dT kvs)/\y=.ref b/\H b=some (.tup (k.map kV))/\r=valV kvs k
def DPut (H:Hp) (a:Addr) (y v:V) (H':Hp):Prop :=
 (∃ kvs k,H a=some (.dK kvs)/\y=kV k/\kvs.length<sizeLine/\H'=upd H a (.dK (putK kvs k v))) \/
 ∃ kvs k b,H a=some (.dT kvs)/\y=.ref b/\H b=some (.tup (k.map kV))/\kvs.length<sizeLine/\H'=upd H a (.dT (putK kvs k v))
theorem DGet.k {H:Hp} {a:Addr} {kvs:List (Key×V)} {k:Key} (e:H a=some (.dK kvs)):DGet H a (kV k) (valV kvs k):=.inl ⟨kvs,k,.inl e,rfl,rfl⟩
theorem DGet.t {H:Hp} {a b:Addr} {kvs:List (List Key×V)} {k:List Key} (e:H a=some (.dT kvs)) (eb:H b=some (.tup (k.map kV))):DGet H a (.ref b) (valV kvs k):=.inr ⟨kvs,k,b,.inl e,rfl,eb,rfl⟩
theorem DPut.k {H:Hp} {a:Addr} {kvs:List (Key×V)} {k:Key} {v:V} (e:H a=some (.dK kvs)) (hl:kvs.length<sizeLine):DPut H a (kV k) v (upd H a (.dK (putK kvs k v))):=.inl ⟨kvs,k,e,rfl,hl,rfl⟩
theorem DPut.t {H:Hp} {a b:Addr} {kvs:List (List Key×V)} {k:List Key} {v:V} (e:H a=some (.dT kvs)) (eb:H b=some (.tup (k.map kV))) (hl:kvs.length<sizeLine) :
  DPut H a (.ref b) v (upd H a (.dT (putK kvs k v))):=.inr ⟨kvs,k,b,e,rfl,eb,hl,rfl⟩


section
variable {X:Cx} {pins:List (Addr×Obj)} {σ:St} {H:Hp} {s:Shared} {a:Addr} {y v:V} {u r:Value} {o:Option V} {A:Around} {E:Value->Shared->Prop}

theorem Inv.big (I:Inv X pins σ H s):sysModules<s.heap.objs.size:=by
 have h:mainGlobals<s.heap.objs.size:=(I.mod.glob.keeps I.bk).lt
 exact Nat.lt_trans (by decide) h

theorem Zif {Q:Value->Shared->Prop} (hu:A.units+1<cLine) (I:Inv X pins σ H s) (g:DGet H a y (some v)) (ry:RelV y u) (h:∀ w' s',Inv X pins σ H s'->RelV v w'->Q w' s') :
  wpAny (model X.prog X.w) A (getItem (.ref a) u) Q E s:=by
 rcases g with ⟨kvs,k,e,ey,l⟩ | ⟨kvs,k,b,e,ey,eb,l⟩
 ·subst ey
  obtain ⟨z,hd,vs,rel,dd⟩:=Zfl I.hok e
  obtain ⟨w',hw,rw'⟩:=RelO.some_of (v:=v) (o:=valueAt vs k) (by rw [l];exact rel.val k)
  exact wpAny_getItem_of (Zew ry) dd.mapOf hw (h w' _ (I.tok _) rw')
 ·subst ey
  cases (show u=Value.ref b from ry)
  obtain ⟨z,hd,xs,rel,dd⟩:=ZeB I.hok e
  obtain ⟨w',hw,rw'⟩:=RelO.some_of (v:=v) (o:=(atKey xs k).map (·.2)) (by rw [l];exact rel.val k)
  obtain ⟨p,hp,hp2⟩:=Option.map_eq_some_iff.mp hw
  refine wpAny_getItem_heap (tupleKind_room_in1 hu) (Zdj I.hok eb) dd hp ?_
  rw [hp2]
  exact h w' _ (I.tok _) rw'
theorem d_in {Q:Value->Shared->Prop} (hu:A.units+1<cLine) (I:Inv X pins σ H s) (g:DGet H a y o) (ry:RelV y u) (h:∀ s',Inv X pins σ H s'->Q (.bool o.isSome) s') :
  wpAny (model X.prog X.w) A (compareOp .In u (.ref a)) Q E s:=by
 rcases g with ⟨kvs,k,e,ey,l⟩ | ⟨kvs,k,b,e,ey,eb,l⟩
 ·subst ey
  obtain ⟨z,hd,vs,rel,dd⟩:=Zfl I.hok e
  refine wpAny_in_of (Zew ry) hd dd.mapOf ?_
  rw [<- (rel.val k).isSome_eq,<- l]
  exact h _ (I.tok _)
 ·subst ey
  cases (show u=Value.ref b from ry)
  obtain ⟨z,hd,xs,rel,dd⟩:=ZeB I.hok e
  refine wpAny_in_heap (tupleKind_room_in1 hu) (Zdj I.hok eb) hd dd ?_
  have q:=(rel.val k).isSome_eq
  rw [Option.isSome_map] at q
  rw [<- q,<- l]
  exact h _ (I.tok _)
theorem Zie {Q:Value->Shared->Prop} (hu:A.units+1<cLine) (I:Inv X pins σ H s) (g:DGet H a y o) (ry:RelV y u) (h:∀ s',Inv X pins σ H s'->Q (.bool (!o.isSome)) s') :
  wpAny (model X.prog X.w) A (compareOp .NotIn u (.ref a)) Q E s:=by
 rcases g with ⟨kvs,k,e,ey,l⟩ | ⟨kvs,k,b,e,ey,eb,l⟩
 ·subst ey
  obtain ⟨z,hd,vs,rel,dd⟩:=Zfl I.hok e
  refine wpAny_notIn_of (Zew ry) hd dd.mapOf ?_
  rw [<- (rel.val k).isSome_eq,<- l]
  exact h _ (I.tok _)
 ·subst ey
  cases (show u=Value.ref b from ry)
  obtain ⟨z,hd,xs,rel,dd⟩:=ZeB I.hok e
  refine wpAny_notIn_heap (tupleKind_room_in1 hu) (Zdj I.hok eb) hd dd ?_
  have q:=(rel.val k).isSome_eq
  rw [Option.isSome_map] at q
  rw [<- q,<- l]
  exact h _ (I.tok _)
theorem Zd4 {h':Heap} {t':Nat} {ob:HO} (I:Inv X pins σ H s) (mu:Mut (H a)) (hs:Heap.SameBut a s.heap h') (he:∃ q,h'.get? a=some q) (new:ObjOk X.prog X.w (upd H a ob) h' a ob) :
  Inv X pins σ (upd H a ob) { s with heap:=h',toks:=t' } :=
 I.write (x:=a) (e:=a) mu (.inl rfl) (λb q hb z=>(hs.2 b hb).trans z) he new
theorem Zh8 {P:Program} {w:World} {H':Hp} {h':Heap} {kvs:List (Key×V)} {vs:List (Key×Value)} (z:kvs.length<=sizeLine) (hd:(a == sysModules)=false) (rel:KV kvs vs) (dd:h'.DictOf (ZaA P w) a vs) :
  ObjOk P w H' h' a (.dK kvs):=⟨z,hd,vs,rel,dd⟩
theorem Zid {H':Hp} {Q:Unit->Shared->Prop} (hu:A.units+1<cLine) (I:Inv X pins σ H s) (g:DPut H a y v H') (ry:RelV y u) (rv:RelV v r) (h:∀ s',Inv X pins σ H' s'->Q () s') :
  wpAny (model X.prog X.w) A (setItem (.ref a) u r) Q E s:=by
 rcases g with ⟨kvs,k,e,ey,l,eH⟩ | ⟨kvs,k,b,e,ey,eb,l,eH⟩
 ·subst ey eH
  obtain ⟨z,hd,vs,rel,dd⟩:=Zju I.hok e
  have hz:vs.length<=sizeLine:=by rw [<- rel.length];exact z
  have hl:(putK kvs k v).length<=sizeLine:=by have:=Zb3 kvs k v;omega
  refine wpAny_setItem_pairs (hsz:=hz) (Zew ry) dd λh' dd' hs=>h _ ?_
  have he:∃ q,h'.get? a=some q:=let ⟨q,_,_,hq,_⟩:=dd';⟨q,hq⟩
  exact Zd4 I (by rw [e];exact True.intro) hs he (Zh8 hl hd (rel.put k rv) dd')
 ·subst ey eH
  cases (show u=Value.ref b from ry)
  obtain ⟨z,hd,xs,rel,dd⟩:=ZlV I.hok e
  have hz:xs.length<=sizeLine:=by rw [<- Paired.length rel];exact z
  have hl:(putK kvs k v).length<=sizeLine:=by have:=Zb3 kvs k v;omega
  refine wpAny_setItem_heap (hsz:=hz) (tupleKind_room_in1 hu) (Zdj I.hok eb) dd λh' dd' hs=>h _ ?_
  obtain ⟨q,es,ep,hq,h2,h3,h4,_,h5⟩:=dd'
  refine Zd4 I (by rw [e];exact True.intro) hs ⟨q,hq⟩ ⟨hl,hd,_,(rel.put k eb rv).keeps λc ys ec=>?_,q,es,ep,hq,h2,h3,h4,h5⟩
  rw [Zae (Zaq ec e (λz=>nomatch z))]
  exact ec
end

section
variable {X:Cx} {pins:List (Addr×Obj)} {σ:St} {H:Hp} {s:Shared} {a:Addr} {kvs:List (Key×V)} {k:Key} {u:Value} {A:Around} {E:Value->Shared->Prop}
end


def NoSl (i:Expr):Prop:=∀ ov iv,subscripted i false ov iv=operate [ov,iv] (getItem ov iv)
theorem Zkd {prog:Program} {w:World} {A:Around} {E:Value->Shared->Prop} {s:Shared} {env:Env} {value slice:Expr} {pos:Pos} {T id:String} {Q:Value->Shared->Prop}
  (hl:typeLookup (.type T) "__getitem__"=pure (some (.builtin id))) (hs:NoSl slice)
  (h:wpAny (model prog w) A (eval value env) (λo s₁=>wpAny (model prog w) A (eval slice env) (λi s₂=>s₂.TypeIs o T/\wpAny (model prog w) A (getItem o i) Q E s₂) E s₁) E s) :
  wpAny (model prog w) A (eval (.Subscript value slice pos) env) Q E s:=by
 refine Subscript_ (wpAny_mono h (λo s₁ h₁=>wpAny_mono h₁ (λi s₂ h₂=>?_) λ_ _ x=>x) λ_ _ x=>x)
 obtain ⟨hT,h₂⟩:=h₂
 unfold subscriptTail
 refine wpAny_bind ?_
 rw [getitemInPython_of_ne hT.not_modules]
 refine wpAny_bind (wpAny_specialOf hT hl ?_)
 have fin:wpAny (model prog w) A (subscripted slice false o i) (λr s₃=>wpAny (model prog w) A (letTemporaryGo value o r >>= λ_=>pure r) Q E s₃) E s₂:=by
  rw [hs o i]
  exact wpAny_operating (wpAny_mono h₂ (λr s₃ h₃=>wpAny_bind (wpAny_letTemporaryGo (wpAny_pure h₃))) λ_ _ x=>x)
 first
  |exact wpAny_pure (wpAny_bind fin)
  |exact wpAny_bind (wpAny_pure (wpAny_bind fin))
  |exact wpAny_bind fin

theorem Zfm {X:Cx} {pins:List (Addr×Obj)} {σ:St} {H:Hp} {s:Shared} {a:Addr} {y:V} {o:Option V} (I:Inv X pins σ H s) (g:DGet H a y o):s.TypeIs (.ref a) "dict":=by
 rcases g with ⟨kvs,k,e,_,_⟩ | ⟨kvs,k,b,e,_,_,_⟩
 ·obtain ⟨_,_,vs,_,dd⟩:=Zfl I.hok e
  exact dd.typeIs
 ·obtain ⟨_,_,xs,_,dd⟩:=ZeB I.hok e
  exact dd.typeIs
def ZiI (td ty:TE):TE:=λσ H Q=>td σ H λx H1=>ty σ H1 λy H2=>∃ a v,x=.ref a/\DGet H2 a y (some v)/\Q v H2
def tDIn (ty td:TE):TE:=λσ H Q=>ty σ H λy H1=>td σ H1 λx H2=>∃ a o,x=.ref a/\DGet H2 a y o/\Q (.bl o.isSome) H2
def ZdL (ty td:TE):TE:=λσ H Q=>ty σ H λy H1=>td σ H1 λx H2=>∃ a o,x=.ref a/\DGet H2 a y o/\Q (.bl (!o.isSome)) H2
def ZiS (td ty tv:TE):TS:=λD σ H=>tv σ H λv H1=>td σ H1 λx H2=>ty σ H2 λy H3=>∃ a H4,x=.ref a/\DPut H3 a y v H4/\D.nx σ H4
section
variable {X:Cx} {o i e value:Expr} {pos pos' tpos:Pos} {td ty tv:TE}
theorem Zak (hu:X.A.units+1<cLine) (ho:PE X o td) (hi:PE X i ty) (hs:NoSl i):PE X (.Subscript o i pos) (ZiI td ty):=by
 intro pins s σ H Q I h
 refine Zkd PySem.F.slot_dict_getitem.lookup hs (thn (ho pins s σ H _ I h) λu s1 ⟨x,H1,I1,rx,q1⟩=>thn (hi pins s1 σ H1 _ I1 q1) λiv s2 ⟨y,H2,I2,ry,a,v,ex,g,q2⟩=>?_)
 subst ex
 obtain rfl:u=Value.ref a:=rx
 exact ⟨Zfm I2 g,Zif hu I2 g ry λw' s3 I3 rw'=>⟨v,H2,I3,rw',q2⟩⟩
theorem Zeo (hu:X.A.units+1<cLine) (hi:PE X i ty) (ho:PE X o td):PC X .In i o (tDIn ty td):=by
 intro pins s σ H Q I h
 refine thn (hi pins s σ H _ I h) λiv s1 ⟨y,H1,I1,ry,q1⟩=>thn (ho pins s1 σ H1 _ I1 q1) λu s2 ⟨x,H2,I2,rx,a,ov,ex,g,q2⟩=>?_
 subst ex
 obtain rfl:u=Value.ref a:=rx
 exact d_in hu I2 g ry λs3 I3=>⟨.bl ov.isSome,H2,I3,rfl,q2⟩
theorem Zcf (hu:X.A.units+1<cLine) (hi:PE X i ty) (ho:PE X o td):PC X .NotIn i o (ZdL ty td):=by
 intro pins s σ H Q I h
 refine thn (hi pins s σ H _ I h) λiv s1 ⟨y,H1,I1,ry,q1⟩=>thn (ho pins s1 σ H1 _ I1 q1) λu s2 ⟨x,H2,I2,rx,a,ov,ex,g,q2⟩=>?_
 subst ex
 obtain rfl:u=Value.ref a:=rx
 exact Zie hu I2 g ry λs3 I3=>⟨.bl (!ov.isSome),H2,I3,rfl,q2⟩
theorem Za9 (hu:X.A.units+1<cLine) (ho:PE X o td) (hi:PE X i ty) (hv:PE X value tv) (hs:swapsWith value (some (.Subscript o i pos')) pos.line X.env=pure false) :
  PS X (.Assign [.Subscript o i pos'] value pos) (ZiS td ty tv):=by
 intro pins s σ H D I h
 refine wpAny_Assign_Subscript (thn (hv pins s σ H _ I h) λr s1 ⟨v,H1,I1,rv,q1⟩=>thn (ho pins s1 σ H1 _ I1 q1) λu s2 ⟨x,H2,I2,rx,q2⟩=>thn (hi pins s2 σ H2 _ I2 q2) λiv s3 ⟨y,H3,I3,ry,a,H4,ex,g,q3⟩=>?_) hs
 subst ex
 obtain rfl:u=Value.ref a:=rx
 exact Zid hu I3 g ry rv λs4 I4=>⟨σ,H4,I4,q3⟩
end


theorem Zf5 {P:Program} {w:World} {H:Hp} (h:Heap) (hb:sysModules<h.objs.size):ObjOk P w H (h.push { cls:=.type "dict",data:=.dict #[] }) h.objs.size (.dK []) :=
 ⟨Nat.zero_le _,beq_eq_false_iff_ne.mpr (Ne.symm (Nat.ne_of_lt hb)),[],.nil,Heap.DictOf.new h⟩
theorem Zjr {P:Program} {w:World} {H:Hp} (h:Heap) (hb:sysModules<h.objs.size):ObjOk P w H (h.push { cls:=.type "dict",data:=.dict #[] }) h.objs.size (.dT []) :=
 ⟨Nat.zero_le _,beq_eq_false_iff_ne.mpr (Ne.symm (Nat.ne_of_lt hb)),[],.nil,_,#[],0,Heap.get?_push_size _ rfl,⟨rfl,rfl,rfl⟩,rfl,rfl,List.nodup_nil⟩
def Zed:TE:=λ_ H Q=>∀ p,H p=none->Q (.ref p) (upd H p (.dK []))
def Zec:TE:=λ_ H Q=>∀ p,H p=none->Q (.ref p) (upd H p (.dT []))
section
variable {X:Cx} {pos:Pos}
theorem Zce:PE X (.Dict [] [] pos) Zed:=λpins s σ H Q I h =>
 wpAny_Dict_empty ⟨.ref s.heap.objs.size,_,I.laid (a:=s.heap.objs.size) (o:=.dK []) (t':=s.toks) (λ_ _ q=>Heap.get?_push_of_some _ q) (Nat.le_refl _) (Zf5 s.heap I.big),rfl,h _ (I.hok.fresh (Nat.le_refl _))⟩
theorem ZcV:PE X (.Dict [] [] pos) Zec:=λpins s σ H Q I h =>
 wpAny_Dict_empty ⟨.ref s.heap.objs.size,_,I.laid (a:=s.heap.objs.size) (o:=.dT []) (t':=s.toks) (λ_ _ q=>Heap.get?_push_of_some _ q) (Nat.le_refl _) (Zjr s.heap I.big),rfl,h _ (I.hok.fresh (Nat.le_refl _))⟩
end

def Zeb:List (TE×TE)->St->Hp->(List (V×V)->Hp->Prop)->Prop
 |[],_,H,Q=>Q [] H
 | (tk,tv)::r,σ,H,Q=>tk σ H λx H1=>tv σ H1 λy H2=>Zeb r σ H2 λps H3=>Q ((x,y)::ps) H3
abbrev VV:List (V×V)->List (Value×Value)->Prop:=Paired λp q=>RelV p.1 q.1/\RelV p.2 q.2
def PPs (X:Cx) (pos:Pos) (keys:List (Option Expr)) (values:List Expr) (trs:List (TE×TE)):Prop :=
 ∀ (pins:List (Addr×Obj)) (s:Shared) (σ:St) (H:Hp) (Q:List (V×V)->Hp->Prop),Inv X pins σ H s->Zeb trs σ H Q ->
  wpAny (model X.prog X.w) X.A (evalPairs (pairTrees keys values X.env pos)) (λvs s'=>∃ ps H',Inv X pins σ H' s'/\VV ps vs/\Q ps H') X.xe s
theorem Zhp {X:Cx} {pos:Pos}:PPs X pos [] [] []:=λpins s σ H Q I h=>pairTrees_nil_walk ⟨[],H,I,.nil,h⟩
theorem Zbl {X:Cx} {pos:Pos} {k v:Expr} {ks:List (Option Expr)} {vs:List Expr} {tk tv:TE} {trs:List (TE×TE)} (hk:PE X k tk) (hv:PE X v tv) (hr:PPs X pos ks vs trs) :
  PPs X pos (some k::ks) (v::vs) ((tk,tv)::trs):=λpins s σ H Q I h =>
 pairTrees_cons_walk (thn (hk pins s σ H _ I h) λu s1 ⟨x,H1,I1,rx,q1⟩=>thn (hv pins s1 σ H1 _ I1 q1) λw2 s2 ⟨y,H2,I2,ry,q2⟩ =>
  thn (hr pins s2 σ H2 _ I2 q2) λws s3 ⟨ps,H3,I3,rel,q3⟩=>⟨(x,y)::ps,H3,I3,.cons ⟨rx,ry⟩ rel,q3⟩)

def Zdd (kvs more:List (Key×V)):List (Key×V):=more.foldl (λacc kv=>putK acc kv.1 kv.2) kvs
theorem KV.merge:∀ {more:List (Key×V)} {rs:List (Key×Value)} {kvs:List (Key×V)} {vs:List (Key×Value)},KV more rs->KV kvs vs->KV (Zdd kvs more) (merged vs rs):=by
 intro more rs kvs vs r
 unfold KV at r
 induction r generalizing kvs vs with
 |nil=>intro q;exact q
 |@cons p q ps qs h t ih =>
  intro r0
  have e:KV (putK kvs p.1 p.2) (stored vs q.1 q.2):=by
   have:=r0.put p.1 h.2
   rw [<- h.1];exact this
  exact ih e
theorem Zcm:∀ (more kvs:List (Key×V)),(Zdd kvs more).length<=kvs.length+more.length
 |[],kvs=>by show kvs.length<=kvs.length+0;omega
 |p::r,kvs=>by
  have h1:=Zcm r (putK kvs p.1 p.2)
  have h2:=Zb3 kvs p.1 p.2
  show (Zdd (putK kvs p.1 p.2) r).length<=_
  rw [List.length_cons];omega
theorem ZdG {P:Program} {w:World}:∀ {kvs:List (Key×V)} {ws:List (Value×Value)},VV (kvs.map λkv=>(kV kv.1,kv.2)) ws->∃ rs,Carries (ZaA P w) ws rs/\KV kvs rs
 |[],_,r=>by rw [List.map_nil] at r;cases r;exact ⟨[],True.intro,.nil⟩
 |p::kvs,_,r=>by
  rw [List.map_cons] at r
  cases r with
  |@cons a b as bs h t =>
   obtain ⟨rs,c,q⟩:=ZdG (P:=P) (w:=w) t
   obtain ⟨b1,b2⟩:=b
   exact ⟨(p.1,b2)::rs,⟨Zew h.1,rfl,c⟩,.cons ⟨rfl,h.2⟩ q⟩
def Zl7 (trs:List (TE×TE)):TE:=λσ H Q=>∀ p,H p=none->Zeb trs σ (upd H p (.dK [])) λps H2=>H2 p=some (.dK [])/\∃ kvs:List (Key×V),ps=kvs.map (λkv=>(kV kv.1,kv.2))/\kvs.length<=15/\Q (.ref p) (upd H2 p (.dK (Zdd [] kvs)))
theorem Zhu {X:Cx} {pos:Pos} {keys:List (Option Expr)} {values:List Expr} {trs:List (TE×TE)} (h:PPs X pos keys values trs) (hall:keys.all (·.isSome)=true) (hl:keys.length=values.length) (h0:keys≠[])
  (h15:keys.length<=15):PE X (.Dict keys values pos) (Zl7 trs):=by
 intro pins s σ H Q I q
 have hn:=I.hok.fresh (Nat.le_refl s.heap.objs.size)
 have I1:=I.laid (a:=s.heap.objs.size) (o:=.dK []) (h':=s.heap.push { cls:=.type "dict",data:=.dict #[] }) (t':=s.toks) (λ_ _ q=>Heap.get?_push_of_some _ q) (Nat.le_refl _) (Zf5 s.heap I.big)
 refine wpAny_Dict_walk (knd:=ZaA X.prog X.w) hall hl h0 h15 (thn (h pins _ σ _ _ I1 (q _ hn)) λws s2 ⟨ps,H2,I2,rel,e,kvs,ep,lk,q2⟩=>?_)
 subst ep
 obtain ⟨rs,c,rk⟩:=ZdG (P:=X.prog) (w:=X.w) rel
 obtain ⟨z,hd,vs0,r0,dd⟩:=Zju I2.hok e
 cases r0
 refine ⟨rs,c,dd,λh' dd' hs=>⟨.ref s.heap.objs.size,_,?_,rfl,q2⟩⟩
 have hz:(Zdd [] kvs).length<=sizeLine:=by
  have h1:=Zcm kvs []
  rw [List.length_nil] at h1
  rw [sizeLine_eq];omega
 have he:∃ q,h'.get? s.heap.objs.size=some q:=let ⟨q,_,_,hq,_⟩:=dd';⟨q,hq⟩
 exact Zd4 I2 (by rw [e];exact True.intro) hs he (Zh8 hz hd (rk.merge .nil) dd')


structure M1 (X:Cx) (o:Expr) (m:Str) (apos:Pos) (e:Expr) (cpos:Pos):Prop where
 base:attributeBase o m X.env (eval o X.env)=eval o X.env
 few:((backTo cpos (starEach [e] X.env)).all (λx=>!x.1)&&(backToKw cpos (keywordEach [] X.env)).all (λx=>x.1.isSome)
  && decide (([e]:List Expr).length+([]:List Keyword).length+(if ([]:List Keyword).isEmpty then 0 else 1)<30))=true
 line:(apos.endLine == cpos.line)=true
 trees:backTo cpos (starEach [e] X.env)=[(false,eval e X.env)]
def IsD (H:Hp) (a:Addr):Prop:=(∃ kvs,Rd H a (.dK kvs))\/∃ kvs,Rd H a (.dT kvs)
theorem ZjW {X:Cx} {pins:List (Addr×Obj)} {σ:St} {H:Hp} {s:Shared} {a:Addr} (I:Inv X pins σ H s) (d:IsD H a) :
  s.TypeIs (.ref a) "dict"/\(∀ b,Value.ref a=.ref b->∃ ob,s.heap.get? b=some ob/\ob.dict=none)/\(a == sysModules)=false:=by
 rcases d with ⟨kvs,e⟩ | ⟨kvs,e⟩
 ·obtain ⟨_,hd,vs,_,dd⟩:=Zfl I.hok e
  refine ⟨dd.typeIs,λb q=>?_,hd⟩
  cases q
  obtain ⟨ob,_,_,h1,h2,_⟩:=dd
  exact ⟨ob,h1,h2.2.1⟩
 ·obtain ⟨_,hd,xs,_,dd⟩:=ZeB I.hok e
  refine ⟨dd.typeIs,λb q=>?_,hd⟩
  cases q
  obtain ⟨ob,_,_,h1,h2,_⟩:=dd
  exact ⟨ob,h1,h2.2.1⟩

section
variable {X:Cx} {pins:List (Addr×Obj)} {σ:St} {H:Hp} {s:Shared} {a:Addr} {y d:V} {u r:Value} {o:Option V} {A:Around} {E:Value->Shared->Prop}
theorem ZlW {Q:Value->Shared->Prop} (hu:A.units+1<cLine) (I:Inv X pins σ H s) (g:DGet H a y o) (ry:RelV y u) (h:∀ w' s',Inv X pins σ H s'->RelV (o.getD .non) w'->Q w' s') :
  wpAny (model X.prog X.w) A (call (.builtin "dict.get") [.ref a,u]) Q E s:=by
 rcases g with ⟨kvs,k,e,ey,l⟩ | ⟨kvs,k,b,e,ey,eb,l⟩
 ·subst ey
  obtain ⟨z,hd,vs,rel,dd⟩:=Zfl I.hok e
  refine call_meetsIn PySem.F.slot_dict_get dd.typeIs PySem.F.entry_dict_get (PySem.F.args_dict_get_2 _ _) (meets_dict_get (ZaA X.prog X.w) a (Zew ry) hd) ⟨_,dd.mapOf,h _ _ (I.tok _) ?_⟩
  rw [l]
  exact (rel.val k).getD rfl
 ·subst ey
  cases (show u=Value.ref b from ry)
  obtain ⟨z,hd,xs,rel,dd⟩:=ZeB I.hok e
  refine call_meetsIn PySem.F.slot_dict_get dd.typeIs PySem.F.entry_dict_get (PySem.F.args_dict_get_2 _ _) (meetsH_dict_get (tupleKind (ZaA X.prog X.w)) a b hd) ⟨tupleKind_room_in1 hu,k,xs,Zdj I.hok eb,dd,h _ _ (I.tok _) ?_⟩
  rw [l]
  exact (rel.val k).getD rfl
end

def Zfv (td ty:TE):TE:=λσ H Q=>td σ H λx H1=>∃ a,x=.ref a/\IsD H1 a/\ty σ H1 λy H2=>∃ o,DGet H2 a y o/\Q (o.getD .non) H2
section
variable {X:Cx} {o e f:Expr} {apos cpos:Pos} {td ty tx:TE}
theorem ZiY (hu:X.A.units+1<cLine) (ho:PE X o td) (he:PE X e ty) (m:M1 X o "get" apos e cpos):PE X (.Call (.Attribute o "get" apos) [e] [] cpos) (Zfv td ty):=by
 intro pins s σ H Q I h
 refine wpAny_Call_method m.base m.few m.line PySem.F.plainAttrs_dict PySem.F.slot_dict_get PySem.F.type_dict_get (thn (ho pins s σ H _ I h) λu s1 ⟨x,H1,I1,rx,a,ex,d,q1⟩=>?_)
 subst ex
 obtain rfl:u=Value.ref a:=rx
 obtain ⟨t1,t2,_⟩:=ZjW I1 d
 refine ⟨t1,t2,?_⟩
 rw [m.trees]
 refine Calls.callWith_builtin rfl (Calls.evalArgs_plain (Calls.spliced_cons (thn (he pins s1 σ H1 _ I1 q1) λiv s2 ⟨y,H2,I2,ry,ov,g,q2⟩=>Calls.spliced_nil ?_)))
 exact ZlW hu I2 g ry λw' s3 I3 rw'=>⟨_,H2,I3,rw',q2⟩
end

section
variable {X:Cx} {pins:List (Addr×Obj)} {σ:St} {H:Hp} {s:Shared} {a:Addr} {kvs:List (Key×V)} {A:Around} {E:Value->Shared->Prop}
end


section
variable {X:Cx} {pins:List (Addr×Obj)} {σ:St} {H:Hp} {s:Shared} {a:Addr} {y:V} {u:Value} {A:Around} {E:Value->Shared->Prop}
end
end L2
namespace L2
open PySem PySem.Spec PyProof.Rows
section
variable {X:Cx}
end
section
variable {κ:Type} [DecidableEq κ]
end
end L2

set_option maxHeartbeats 4000000
namespace L2
open PySem PySem.Spec PyProof.Rows

theorem noE {α:Type} {M:Model} {A:Around} {t:Sem α} {Q:α->Shared->Prop} {E:Value->Shared->Prop} {s:Shared} (h:wpAny M A t Q (λ_ _=>False) s):wpAny M A t Q E s :=
 wpAny_mono h (λ_ _ q=>q) λ_ _ f=>f.elim

def Zcq (cells:List (Str×Addr)):List (Str×NameKind)->List (Str×Addr)->List (Str×Addr)
 |[],acc=>acc
 | (n,k)::r,acc=>Zcq cells r (if (k == NameKind.free)=true then (n,(cells.lookup n).getD 0)::acc else acc)
theorem ZeD {cells:List (Str×Addr)} {y:Str} {c:Addr}:∀ (names:List (Str×NameKind)) (acc:List (Str×Addr)),
  (Zcq cells names acc).lookup y=some c->acc.lookup y=some c\/((y,NameKind.free)∈names/\c=(cells.lookup y).getD 0)
 |[],acc,h=>.inl h
 | (n,k)::r,acc,h=>by
  rcases ZeD r _ h with h1 | ⟨h1,h2⟩
  ·by_cases hk:(k == NameKind.free)=true
   ·rw [if_pos hk,List.lookup_cons] at h1
    by_cases e:(y == n)=true
    ·rw [e] at h1
     have e1:y=n:=by simpa using e
     have e2:k=NameKind.free:=by simpa using hk
     subst e1 e2
     exact .inr ⟨List.mem_cons_self,(Option.some.inj h1).symm⟩
    ·have e1:(y == n)=false:=by simpa using e
     rw [e1] at h1
     exact .inl h1
   ·rw [if_neg hk] at h1
    exact .inl h1
  ·exact .inr ⟨List.mem_cons_of_mem _ h1,h2⟩
theorem Zdo {cells:List (Str×Addr)} {y:Str}:∀ (names:List (Str×NameKind)) (acc:List (Str×Addr)),(∃ c,acc.lookup y=some c)->∃ c,(Zcq cells names acc).lookup y=some c
 |[],_,h=>h
 | (n,k)::r,acc,h=>by
  refine Zdo r _ ?_
  by_cases hk:(k == NameKind.free)=true
  ·rw [if_pos hk,List.lookup_cons]
   by_cases e:(y == n)=true
   ·rw [e];exact ⟨_,rfl⟩
   ·have e1:(y == n)=false:=by simpa using e
    rw [e1];exact h
  ·rw [if_neg hk];exact h
theorem Zdp {cells:List (Str×Addr)} {y:Str}:∀ (names:List (Str×NameKind)) (acc:List (Str×Addr)),(y,NameKind.free)∈names->∃ c,(Zcq cells names acc).lookup y=some c
 |[],_,h=>by simp at h
 | (n,k)::r,acc,h=>by
  rcases List.mem_cons.mp h with h | h
  ·cases h
   refine Zdo r _ ?_
   rw [if_pos (by rfl),List.lookup_cons,beq_self_eq_true]
   exact ⟨_,rfl⟩
  ·exact Zdp r _ h
theorem ZbJ {scope:Scope} {env:Env} (h:∀ x,(x,NameKind.free)∈scope.names->∃ c,env.cells.lookup x=some c):closureFor scope env=pure (Zcq env.cells scope.names []):=by
 have go:∀ (names:List (Str×NameKind)) (acc:List (Str×Addr)),(∀ x,(x,NameKind.free)∈names->∃ c,env.cells.lookup x=some c) ->
   (forIn names acc λ(x:Str×NameKind) (cs:List (Str×Addr))=>match x with
    | (name,kind)=>if (kind == NameKind.free)=true then do let a <- cellOf env name;pure (ForInStep.yield ((name,a)::cs)) else pure (ForInStep.yield cs):Sem (List (Str×Addr)))
   = pure (Zcq env.cells names acc):=by
  intro names
  induction names with
  |nil=>intro acc _;rfl
  |cons x r ih =>
   intro acc hx
   obtain ⟨n,k⟩:=x
   rw [List.forIn_cons]
   by_cases hk:(k == NameKind.free)=true
   ·have e2:k=NameKind.free:=by simpa using hk
    obtain ⟨c,hc⟩:=hx n (by rw [e2];exact List.mem_cons_self)
    have hcell:cellOf env n=pure c:=by unfold cellOf;rw [hc]
    simp only [hk,if_true,hcell]
    show (forIn r ((n,c)::acc) _:Sem (List (Str×Addr)))=_
    rw [ih _ λy hy=>hx y (List.mem_cons_of_mem _ hy)]
    simp only [Zcq,hk,if_true,hc,Option.getD_some]
   ·simp only [hk,if_false]
    show (forIn r acc _:Sem (List (Str×Addr)))=_
    rw [ih _ λy hy=>hx y (List.mem_cons_of_mem _ hy)]
    simp only [Zcq,hk,if_false]
    rfl
 have:=go scope.names [] h
 unfold closureFor
 exact (congrArg (λ(t:Sem (List (Str×Addr)))=>t >>= λcs=>(pure cs:Sem (List (Str×Addr)))) this).trans rfl

theorem Zbj {env:Env}:∀ {names:List (Str×NameKind)} {x:Str},names.lookup x=some .free ->
  (names.map λ(n,k)=>if (k == NameKind.free&&env.scope.kind == .function&&env.kindOf n == some .cell) then (n,NameKind.cell) else (n,k)).lookup x=some .cell \/
  (names.map λ(n,k)=>if (k == NameKind.free&&env.scope.kind == .function&&env.kindOf n == some .cell) then (n,NameKind.cell) else (n,k)).lookup x=some .free
 |[],_,h=>by simp at h
 | (n,k)::r,x,h=>by
  have ih:=@Zbj env r x
  show List.lookup x ((if (k == NameKind.free&&env.scope.kind == .function&&env.kindOf n == some .cell)=true then (n,NameKind.cell) else (n,k))::_)=_\/List.lookup x ((if (k == NameKind.free&&env.scope.kind == .function&&env.kindOf n == some .cell)=true then (n,NameKind.cell) else (n,k))::_)=_
  cases hx:x == n with
  |true =>
   simp only [List.lookup_cons,hx] at h
   cases h
   by_cases hc:(NameKind.free == NameKind.free&&env.scope.kind == .function&&env.kindOf n == some .cell)=true
   ·rw [if_pos hc];left;simp [List.lookup_cons,hx]
   ·rw [if_neg hc];right;simp [List.lookup_cons,hx]
  |false =>
   simp only [List.lookup_cons,hx] at h
   by_cases hc:(k == NameKind.free&&env.scope.kind == .function&&env.kindOf n == some .cell)=true
   ·rw [if_pos hc];simp only [List.lookup_cons,hx];exact ih h
   ·rw [if_neg hc];simp only [List.lookup_cons,hx];exact ih h
theorem ZaZ {env:Env} {k:NameKind}:∀ {names:List (Str×NameKind)} {x:Str},
  (names.map λ(n,k)=>if (k == NameKind.free&&env.scope.kind == .function&&env.kindOf n == some .cell) then (n,NameKind.cell) else (n,k)).lookup x=some k ->
  names.lookup x=some k\/(k=.cell/\names.lookup x=some .free)
 |[],_,h=>by simp at h
 | (n,j)::r,x,h=>by
  have ih:=@ZaZ env k r x
  have h':List.lookup x ((if (j == NameKind.free&&env.scope.kind == .function&&env.kindOf n == some .cell)=true then (n,NameKind.cell) else (n,j))::r.map λ(n,k)=>if (k == NameKind.free&&env.scope.kind == .function&&env.kindOf n == some .cell) then (n,NameKind.cell) else (n,k))=some k:=h
  cases hx:x == n with
  |true =>
   by_cases hc:(j == NameKind.free&&env.scope.kind == .function&&env.kindOf n == some .cell)=true
   ·rw [if_pos hc] at h'
    simp only [List.lookup_cons,hx] at h' |-
    cases h'
    have e:j=NameKind.free:=by
     have:=hc
     simp only [Bool.and_eq_true] at this
     simpa using this.1.1
    rw [e]
    exact .inr ⟨rfl,rfl⟩
   ·rw [if_neg hc] at h'
    simp only [List.lookup_cons,hx] at h' |-
    exact .inl h'
  |false =>
   by_cases hc:(j == NameKind.free&&env.scope.kind == .function&&env.kindOf n == some .cell)=true
   ·rw [if_pos hc] at h';simp only [List.lookup_cons,hx] at h' |-;exact ih h'
   ·rw [if_neg hc] at h';simp only [List.lookup_cons,hx] at h' |-;exact ih h'

def Zb4 (sc osc:Scope) (N N':List Str) (sel:List (Option Nat)):Bool :=
 (sc.names.all λp=>match p.2 with
  |.free=>(osc.names.lookup p.1 == some .cell||osc.names.lookup p.1 == some .free)&&sc.names.lookup p.1 == some .free
  |.cell=>false
  |.local=>sc.names.lookup p.1 == some .local
  |_=>true)&&N'.length == sel.length&&((N'.zip sel).all λp=>match p.2 with
   |none=>true
   |some j=>N[j]? == some p.1&&sc.names.lookup p.1 == some .free)
def selS (sel:List (Option Nat)) (σ:St):St:=sel.map λo=>o.bind λj=>(σ[j]?).join

def ZaB (X:Cx) (N':List Str) (scope:Scope) (C:Addr) (s:Shared) (H:Hp) (fp:List Addr) (pn:List (Addr×Obj)):Cx where
 prog:=X.prog
 w:=X.w
 K:=X.K
 mg:=X.mg
 base:=X.base
 A:=X.A
 N:=N'
 s₀:=s
 H₀:=H
 env:=compEnvC scope (Zcq X.env.cells scope.names []) C X.env
 outer:=X.stack
 stack:=X.stack
 ex:=fp
 fn:=λx=>decide (scope.names.lookup x=some NameKind.local)
 calm:=X.calm
 pn:=pn
 xe:=λ_ _=>False

section
variable {X:Cx} {pins:List (Addr×Obj)} {σ:St} {H:Hp} {s:Shared}

structure ChkOk (X:Cx) (sc:Scope) (N':List Str) (sel:List (Option Nat)):Prop where
 fr:∀ x,(x,NameKind.free)∈sc.names->(X.env.kindOf x=some .cell\/X.env.kindOf x=some .free)/\sc.names.lookup x=some .free
 nc:∀ y∈sc.names,y.2≠NameKind.cell
 lo:∀ y∈sc.names,y.2=NameKind.local->sc.names.lookup y.1=some .local
 ln:N'.length=sel.length
 sl:∀ (i:Nat) (x:Str) (j:Nat),N'[i]?=some x->sel[i]?=some (some j)->X.N[j]?=some x/\sc.names.lookup x=some .free
theorem Zj5 {sc:Scope} {N':List Str} {sel:List (Option Nat)} (h:Zb4 sc X.env.scope X.N N' sel=true):ChkOk X sc N' sel:=by
 unfold Zb4 at h
 simp only [Bool.and_eq_true] at h
 obtain ⟨⟨h1,h2⟩,h3⟩:=h
 rw [List.all_eq_true] at h1 h3
 refine ⟨λx hx=>?_,λy hy e=>?_,λy hy e=>?_,by simpa using h2,λi x j e1 e2=>?_⟩
 ·have:=h1 _ hx
  simp only [Bool.and_eq_true,Bool.or_eq_true,beq_iff_eq] at this
  exact this
 ·have:=h1 _ hy
  rw [e] at this
  simp at this
 ·have:=h1 _ hy
  rw [e] at this
  simpa using this
 ·have hm:(x,some j)∈N'.zip sel:=by
   refine List.mem_of_getElem? (i:=i) ?_
   rw [List.getElem?_zip_eq_some]
   exact ⟨e1,e2⟩
  have:=h3 _ hm
  simp only [Bool.and_eq_true,beq_iff_eq] at this
  exact this

theorem Zba (I:Inv X pins σ H s) {sc:Scope} {N':List Str} {sel:List (Option Nat)} (k:ChkOk X sc N' sel) :
  (∀ x,(x,NameKind.free)∈sc.names->∃ c,X.env.cells.lookup x=some c)/\(∀ x c,(Zcq X.env.cells sc.names []).lookup x=some c->X.env.cells.lookup x=some c/\(x,NameKind.free)∈sc.names):=by
 have a:∀ x,(x,NameKind.free)∈sc.names->∃ c,X.env.cells.lookup x=some c:=λx hx=>I.ok.has x (k.fr x hx).1
 refine ⟨a,λx c h=>?_⟩
 rcases ZeD _ _ h with h | ⟨h,e⟩
 ·simp at h
 ·obtain ⟨c',hc⟩:=a x h
  rw [hc] at e
  exact ⟨by rw [hc,e];rfl,h⟩

theorem Zey (I:Inv X pins σ H s) {scope:Scope} {N':List Str} {sel:List (Option Nat)} {C:Addr} {fp:List Addr} {h₁:Heap} {t':Nat} {m:Str->Option Value} (hk:scope.kind=.function)
  (k:ChkOk X scope N' sel) (hC:s.heap.objs.size<=C) (hf:∀ b∈fp,FpOk X pins H b) (hfl:∀ b∈fp,b<s.heap.objs.size) (hns:h₁.Ns C m) (hkeep:∀ b o,s.heap.get? b=some o->h₁.get? b=some o) :
  Inv (ZaB X N' scope C s H fp (X.pn++pins)) [] (selS sel σ) H { s with heap:=h₁,toks:=t' }:=by
 obtain ⟨cl1,cl2⟩:=Zba I k
 have lkf:∀ x,scope.names.lookup x=some .free->(relabel scope X.env).names.lookup x=some .cell\/(relabel scope X.env).names.lookup x=some .free:=λx hx=>Zbj hx
 have hfr:∀ x,(relabel scope X.env).names.lookup x=some .cell\/(relabel scope X.env).names.lookup x=some .free->(x,NameKind.free)∈scope.names:=λx hx=>by
  rcases hx with hx | hx
  ·rcases ZaZ hx with h | ⟨_,h⟩
   ·exact absurd rfl (k.nc _ (PySem.mem_of_lookup h))
   ·exact PySem.mem_of_lookup h
  ·rcases ZaZ hx with h | ⟨e,h⟩
   ·exact PySem.mem_of_lookup h
   ·exact PySem.mem_of_lookup h
 refine ⟨⟨I.ok.mod,hk,I.ok.glob,I.ok.blt,hC,λx y c h1 h2=>?_,λx hx=>?_,λx c h1 h2=>?_,I.ok.hd,I.ok.frames,.inl rfl,λb hb=>?_,I.bs,Nat.le_trans I.ok.bsz I.sz,λb o e hb=>?_,λb hb hb2=>?_,I.stack,I.stkFree⟩,
  rfl,I.bare,Un.kept hkeep,⟨m,hns,λi x v e1 e2 e3=>?_⟩,λx c h=>?_,I.hok.fresh hC,λx c h=>?_,λp hp=>?_,I.hok.kept hkeep,?_⟩
 ·exact I.ok.inj x y c (cl2 x c h1).1 (cl2 y c h2).1
 ·exact Zdp _ _ (hfr x hx)
 ·have h1':scope.names.lookup x=some NameKind.local:=of_decide_eq_true h1
  have:=(k.fr x (cl2 x c h2).2).2
  rw [h1'] at this
  cases this
 ·refine ⟨Nat.ne_of_lt (Nat.lt_of_lt_of_le (hfl b hb) hC),λx c h=>?_⟩
  exact (hf b hb).2.2.2.2.1 x c (cl2 x c h).1
 ·rcases (hf b hb).2.2.2.1 with z | z
  ·exact I.ok.noex b o e z
  ·exact absurd (Nat.lt_of_lt_of_le (Heap.lt_size e) (Nat.le_trans I.ok.bsz z)) (Nat.lt_irrefl _)
 ·rcases List.mem_cons.mp (I.stkSub b hb2) with z | z
  ·exact (hf b hb).2.1 z
  ·exact (hf b hb).2.2.1 z
 ·-- a free name
  have e2':sel[i]?.map (λo=>o.bind λj=>(σ[j]?).join)=some (some v):=by
   have:=e2
   unfold selS at this
   rwa [List.getElem?_map] at this
  cases hs:sel[i]? with
  |none=>rw [hs] at e2';cases e2'
  |some o =>
   rw [hs] at e2'
   cases o with
   |none=>cases e2'
   |some j =>
    have e4:(σ[j]?).join=some v:=Option.some.inj e2'
    have e5:σ[j]?=some (some v):=by
     cases q:σ[j]? with
     |none=>rw [q] at e4;cases e4
     |some r=>rw [q] at e4;rw [show r=some v from e4]
    obtain ⟨hX,hl⟩:=k.sl i x j e1 hs
    obtain ⟨kk,_⟩:=k.fr x (PySem.mem_of_lookup hl)
    obtain ⟨m0,_,hloc⟩:=I.loc
    obtain ⟨u,ru,lu⟩:=hloc j x v hX e5 (kk.elim (λz=>.inr (.inl z)) λz=>.inr (.inr z))
    refine ⟨u,ru,?_⟩
    rcases lu with ⟨z,_⟩ | ⟨_,c,hc,hcell⟩
    ·rcases kk with y | y<;>(rw [z] at y;cases y)
    ·refine .inr ⟨lkf x hl,c,?_,hcell.keeps hkeep⟩
     obtain ⟨c',hc'⟩:=Zdp (cells:=X.env.cells) scope.names [] (PySem.mem_of_lookup hl)
     have:=(cl2 x c' hc').1
     rw [hc] at this
     cases this
     exact hc'
 ·obtain ⟨v,z⟩:=I.cell x c (cl2 x c h).1
  exact ⟨v,z.keeps hkeep⟩
 ·exact I.freeC x c (cl2 x c h).1
 ·have hp':p∈X.pn++pins:=by
   have:p∈(X.pn++pins)++[]:=hp
   rwa [List.append_nil] at this
  obtain ⟨e,n,ne,nf,d⟩:=I.pin p hp'
  refine ⟨hkeep _ _ e,n,Nat.ne_of_lt (Nat.lt_of_lt_of_le (Heap.lt_size e) hC),λz=>?_,d⟩
  rcases List.mem_cons.mp (I.stkSub _ z) with z | z
  ·exact ne z
  ·exact nf z
 ·show (sel.map _).length=N'.length
  rw [List.length_map]
  exact k.ln.symm

def PTs (X:Cx) (ifs:List Expr) (t:TT):Prop :=
 ∀ (pins:List (Addr×Obj)) (s:Shared) (σ:St) (H:Hp) (Q:Bool->Hp->Prop),Inv X pins σ H s->t σ H Q ->
  wpAny (model X.prog X.w) X.A (forIn ifs true λc r=>if r=true then do let ok <- isTrue c X.env (eval c X.env);pure (ForInStep.yield ok) else pure (ForInStep.yield r)) (TP X pins σ Q) X.xe s
def ZiB:TT:=λ_ H Q=>Q true H
theorem Zcy:PTs X [] ZiB:=λ_ _ _ H _ I h=>wpAny_tests_nil ⟨H,I,h⟩
theorem Zc7 {c:Expr} {t:TT} (h:PT X c t):PTs X [c] t:=λpins s σ H Q I q=>wpAny_tests_one (h pins s σ H Q I q)

theorem ZcJ {prog:Program} {w:World} {A:Around} {R:Result->Shared->Prop} {s:Shared} {elt target iter:Expr} {ifs:List Expr} {scope:Scope} {pos:Pos} {it acc:Value} {env:Env} (I:Nat->Shared->Prop)
  (turn:∀ n s,I n s->wpAny (model prog w) A (pyNext it) (λr s₁=>match r with
   |none=>R (.ok .next) s₁
   |some v=>wpAny (model prog w) A (letOwnedTupleGo target it v) (λ_ s₁'=>wpAny (model prog w) A (assign target env v) (λ_ s₂ =>
     wpAny (model prog w) A (forIn ifs true λc r=>if r=true then do let ok <- isTrue c env (eval c env);pure (ForInStep.yield ok) else pure (ForInStep.yield r)) (λok s₃ =>
      if ok=true then wpAny (model prog w) A (eval elt env) (λx s₄ =>
       wpAny (model prog w) A (call (.builtin "list.append") [acc,x]) (λ_ s₅=>∃ m,m<n/\I m s₅) (notedBy (model prog w) A env λe s'=>R (.error e) s') s₄) (notedBy (model prog w) A env λe s'=>R (.error e) s') s₃
      else ∃ m,m<n/\I m s₃) (notedBy (model prog w) A env λe s'=>R (.error e) s') s₂) (notedBy (model prog w) A env λe s'=>R (.error e) s') s₁') (notedBy (model prog w) A env λe s'=>R (.error e) s') s₁) (notedBy (model prog w) A env λe s'=>R (.error e) s') s)
  (n:Nat) (h:I n s) :
  codeAny (model prog w) A (.compLoop (.ListComp elt [⟨target,iter,ifs,0⟩] scope pos) 0 it acc env) R s:=by
 refine codeAny_loop rfl I (λn s hI=>?_) n h
 show wpAny _ A ((compTurn (.ListComp elt [⟨target,iter,ifs,0⟩] scope pos) 0 it acc env).onRaise (λx=>do noteFrame x env;theTreesLotGoes x)) _ _ s
 refine wpAny_noted ?_
 rw [compTurn_list]
 refine wpAny_bind (wpAny_standAt (wpAny_bind (wpAny_mono (turn n s hI) (λr s₁ h₁=>?_) λ_ _ h'=>h')))
 cases r with
 |none=>exact wpAny_pure h₁
 |some v =>
  refine wpAny_bind (wpAny_mono h₁ (λ_ s₁' h₁'=>?_) λ_ _ h'=>h')
  refine wpAny_bind (wpAny_mono h₁' (λ_ s₂ h₂=>wpAny_bind (wpAny_mono h₂ (λok s₃ h₃=>?_) λ_ _ h'=>h')) λ_ _ h'=>h')
  cases ok with
  |false=>exact wpAny_pure ⟨rfl,h₃⟩
  |true =>
   exact wpAny_bind (wpAny_bind (wpAny_mono h₃ (λx s₄ h₄=>wpAny_bind (wpAny_mono h₄ (λ_ s₅ h₅=>wpAny_pure (wpAny_pure ⟨rfl,h₅⟩)) λ_ _ h'=>h')) λ_ _ h'=>h'))

def ZbF (sel:List (Option Nat)) (g:TG) (tt:TT) (te:TE) (σ:St) (J:It) (W:Nat->Nat->List V->Hp->Prop) (Q:List V->Hp->Prop):Prop :=
 ∀ i m ys H,W i m ys H->(J.stop i H/\Q ys H) \/
  (J.go i H/\ys.length<sizeLine/\∃ N:List V->Hp->Prop,(∀ ys' H',N ys' H'->∃ m',m'<m/\W (i+1) m' ys' H') /\
   ∀ x H',J.yld i H x H'->g x (selS sel σ) H' λσ2 H2=>tt σ2 H2 λb H3=>if b=true then te σ2 H3 λy H4=>N (ys++[y]) H4 else N ys H3)

def Zcs (sel:List (Option Nat)) (g:TG):Prop:=∀ (σ:St) (x:V) (H:Hp) (Q:St->Hp->Prop),g x (selS sel σ) H Q->g x (selS sel σ) H λσ2 H2=>(∀ (i:Nat) v,(selS sel σ)[i]?=some (some v)->σ2[i]?=some (some v))/\Q σ2 H2
theorem ZiO {sel:List (Option Nat)} {i:Nat} {σ:St} {v:V} (h:sel[i]?=some none):¬ (selS sel σ)[i]?=some (some v):=λe=>by
 unfold selS at e
 rw [List.getElem?_map,h] at e
 cases e
theorem Zc4 {sel:List (Option Nat)} {i:Nat} {σ σ2:St} {x:V} (h:sel[i]?=some none) (k:∀ (j:Nat) v,(selS sel σ)[j]?=some (some v)->σ2[j]?=some (some v)) :
  ∀ (j:Nat) v,(selS sel σ)[j]?=some (some v)->(σ2.set i (some x))[j]?=some (some v):=λj v e=>by
 by_cases hj:i=j
 ·subst hj;exact absurd e (ZiO h)
 ·rw [List.getElem?_set_ne hj];exact k j v e
theorem Zby {sel:List (Option Nat)} {i:Nat} (h:sel[i]?=some none):Zcs sel (Zez i):=λ_ _ _ _ q=>⟨Zc4 h λ_ _ e=>e,q⟩
theorem ZjY {K:PySem.W.Frag} {sel:List (Option Nat)} {i j:Nat} (h:sel[i]?=some none) (h':sel[j]?=some none):Zcs sel (gTup K 2 (ZkQ (Zez i) (ZkQ (Zez j) gNil))):=λσ x H Q q=>by
 obtain ⟨a,xs,e1,e2,e3,v,r,e4,v2,r2,e5,e6,q⟩:=q
 exact ⟨a,xs,e1,e2,e3,v,r,e4,v2,r2,e5,e6,Zc4 h' (Zc4 h λ_ _ e=>e),q⟩

theorem Zja {elt tg iter:Expr} {ifs:List Expr} {scope:Scope} {pos:Pos} {N':List Str} {sel:List (Option Nat)} {g:TG} {tt:TT} {te:TE} {it:Addr} {fp:List Addr} {tn:Nat->Heap->Prop} {J:It}
  {W:Nat->Nat->List V->Hp->Prop} {Qe:List V->Hp->Prop} {RR:Value->Addr->Result->Shared->Prop} {E:Value->Shared->Prop} {m0:Nat}
  (hc:X.calm=true) (hk:scope.kind=.function) (k:ChkOk X scope N' sel) (I:Inv X pins σ H s) (T:Turn X.prog X.w X.K tg J fp it tn) (st:tn 0 s.heap) (f2:∀ b∈fp,FpOk X pins H b)
  (hb:∀ (C:Addr) (s:Shared) (H:Hp) (fp:List Addr) (pn:List (Addr×Obj)),PG (ZaB X N' scope C s H fp pn) tg g/\PTs (ZaB X N' scope C s H fp pn) ifs tt/\PE (ZaB X N' scope C s H fp pn) elt te)
  (hgk:Zcs sel g) (w0:W 0 m0 [] H) (turn:ZbF sel g tt te σ J W Qe)
  (hRR:∀ (D C:Addr) (s':Shared) (H':Hp) (ys:List V) (m:Str->Option Value),H' D=none->Inv X pins σ (upd H' D (.lst ys)) s'->s'.heap.Ns C m->FpOk X pins (upd H' D (.lst ys)) C->Qe ys H'->RR (.ref D) C (.ok .next) s') :
  wpAny (model X.prog X.w) X.A (newList []) (λacc s₃=>wpAny (model X.prog X.w) X.A (newFunctionEnv scope X.env.globals (Zcq X.env.cells scope.names []) [] X.env.qual none .none (some X.env)) (λcenv s₄ =>
   codeAny (model X.prog X.w) X.A (.compStart (.ListComp elt [⟨tg,iter,ifs,0⟩] scope pos) 0 (.ref it) acc { cenv with scope:=relabel scope X.env }) (RR acc cenv.locals) s₄) E s₃) E s:=by
 refine wpAny_newObj_type (wpAny_newFunctionEnv k.nc (by intro y hy;simp at hy) (λh₁ hns₁ hsb₁=>?_) hk)
 dsimp only at hns₁ hsb₁ |-
 generalize hH2:s.heap.push { cls:=.type "list",dict:=none,data:=.seq ([]:List Value).toArray }=H2 at hns₁ hsb₁ |-
 have hC:H2.objs.size=s.heap.objs.size+1:=by rw [<- hH2,Heap.size_push]
 have hDC:s.heap.objs.size≠H2.objs.size:=by rw [hC];exact Nat.ne_of_lt (Nat.lt_succ_self _)
 have hCle:s.heap.objs.size<=H2.objs.size:=by rw [hC];exact Nat.le_succ _
 have below:∀ b,b<s.heap.objs.size->b≠H2.objs.size/\b≠s.heap.objs.size:=λb hb=>⟨by rw [hC];exact Nat.ne_of_lt (Nat.lt_succ_of_lt hb),Nat.ne_of_lt hb⟩
 have old:∀ b o,s.heap.get? b=some o->h₁.get? b=some o:=λb o e=>hsb₁.extBut b o (below b (Heap.lt_size e)).1 (Heap.get?_push_of_some _ (hH2▸Heap.get?_push_of_some _ e))
 have hacc:h₁.get? s.heap.objs.size=some { cls:=.type "list",data:=.seq ([]:List Value).toArray }:=hsb₁.extBut _ _ hDC (Heap.get?_push_of_some _ (hH2▸Heap.get?_push_size _ rfl))
 have hfl:∀ b∈fp,b<s.heap.objs.size:=λb hb=>let ⟨_,e,_⟩:=T.obj 0 _ st b hb;Heap.lt_size e
 have hst₁:tn 0 h₁:=T.keep _ _ _ st λb _ o e=>old b o e
 generalize hDe:s.heap.objs.size=D at hDC hCle below hacc hfl |-
 generalize hCe:H2.objs.size=C at hns₁ hsb₁ hC hDC hCle below |-
 have fD:∀ {H':Hp},H' D=none->FpOk X pins H' D:=λhn=>I.fpOk (by rw [hDe];exact Nat.le_refl _) hn
 have fC:∀ {H':Hp},H' C=none->FpOk X pins H' C:=λhn=>I.fpOk (by rw [hDe];exact hCle) hn
 have HD:H D=none:=I.hok.fresh (by rw [hDe];exact Nat.le_refl _)
 -- the pin of the new list,in the block
 have pinD:∀ {o:Obj} {σ':St} {H':Hp} {s':Shared} {ps:List (Addr×Obj)},Inv (ZaB X N' scope C s H fp (X.pn++pins)) ps σ' H' s'->s'.heap.get? D=some o->H' D=none->(∀ v,o.data≠.cell v) ->
   Inv (ZaB X N' scope C s H fp (X.pn++pins)) (ps++[(D,o)]) σ' H' s':=λ{o σ' H' s' ps} J1 e n d=>by
  refine J1.pins_of λp hp=>?_
  rcases List.mem_append.mp hp with hp | hp
  ·exact J1.pin p (List.mem_append_right _ hp)
  ·rw [List.mem_singleton.mp hp]
   refine ⟨e,n,hDC,λz=>?_,d⟩
   rcases List.mem_cons.mp (I.stkSub D z) with z | z
   ·exact (fD HD).2.1 z
   ·exact (fD HD).2.2.1 z
 have loop:∀ s₃:Shared,s₃={ s with heap:=h₁,toks:=s.toks+([]:List (Str×Value)).length } ->
   codeAny (model X.prog X.w) X.A (.compLoop (.ListComp elt [⟨tg,iter,ifs,0⟩] scope pos) 0 (.ref it) (.ref D) (compEnvC scope (Zcq X.env.cells scope.names []) C X.env)) (RR (.ref D) C) s₃:=by
  rintro s₃ rfl
  have I4:Inv (ZaB X N' scope C s H fp (X.pn++pins)) [] (selS sel σ) H { s with heap:=h₁,toks:=s.toks+([]:List (Str×Value)).length } :=
   Zey I hk k (by rw [hDe];exact hCle) f2 (λb hb=>by rw [hDe];exact hfl b hb) hns₁ old
  refine ZcJ (λn s'=>∃ i H' ys its nn,Inv (ZaB X N' scope C s H fp (X.pn++pins)) [] (selS sel σ) H' s'/\tn i s'.heap/\(∀ b∈fp,H' b=none)/\H' D=none /\
   s'.heap.get? D=some { cls:=.type "list",data:=.seq (List.toArray its) nn }/\Vals ys its/\ys.length<=sizeLine/\W i n ys H') ?_ m0 ⟨0,H,[],[],0,I4,hst₁,λb hb=>(f2 b hb).1,HD,hacc,.nil,Nat.zero_le _,w0⟩
  rintro n s3 ⟨i,H3,ys,its,nn,I3,st3,fr3,hD3,o3,v3,z3,w3⟩
  have I3':=pinD I3 o3 hD3 (λv z=>by cases z)
  have stat:∀ {ps:List (Addr×Obj)} {H':Hp},(∀ p∈ps,p.1=D)->(∀ b∈fp,H' b=none)->∀ b∈fp,FpOk (ZaB X N' scope C s H fp (X.pn++pins)) ps H' b:=λ{ps H'} hps hn b hb=>by
   obtain ⟨a0,a1,a2,a3,a4,a5⟩:=f2 b hb
   refine ⟨hn b hb,Nat.ne_of_lt (Nat.lt_of_lt_of_le (hfl b hb) hCle),λz=>?_,.inl hb,λx c h=>a4 x c ((Zba I k).2 x c h).1,λp hp=>?_⟩
   ·rcases List.mem_cons.mp (I.stkSub b z) with z | z
    ·exact a1 z
    ·exact a2 z
   ·rcases List.mem_append.mp hp with hp | hp
    ·exact a5 p hp
    ·rw [hps p hp]
     exact (Nat.ne_of_lt (hfl b hb)).symm
  rcases turn i n ys H3 w3 with ⟨stop,qe⟩ | ⟨go,hz,Nn,hNn,step⟩
  ·refine noE (thn (T.done (ZaB X N' scope C s H fp (X.pn++pins)) rfl rfl rfl hc i _ s3 _ H3 _ I3' (stat (λp hp=>by have:p∈[]++[(D,_)]:=hp;rw [List.nil_append] at this;rw [List.mem_singleton.mp this]) fr3) st3 stop) λr s4 ⟨hr,J4⟩=>?_)
   subst hr
   obtain ⟨m4,n4,_⟩:=id J4.loc
   have o4:=(J4.pin (D,_) (List.mem_append_right _ (List.mem_append_right _ (List.mem_singleton.mpr rfl)))).1
   have hC4:H3 C=none:=J4.free
   have hDC':C≠D:=Ne.symm hDC
   refine hRR D C s4 H3 ys m4 hD3 (I.call' (ch:=fp) J4.os ?_ ?_ J4.bare (λb hb=>?_)) n4 (fC (by rw [Zae hDC'];exact hC4)) qe
   ·have u:=J4.base
    have nD:∀ b o,s.heap.get? b=some o->b≠D:=λb o e=>by rw [<- hDe];exact Nat.ne_of_lt (Heap.lt_size e)
    have nD2:∀ b o,H b=some o->b≠D:=λb o e=>Zai e HD
    exact ⟨u.keep,u.slot,λb o e n hx=>by rw [Zae (nD b o e)];exact u.free b o e n hx,u.there,λb xs e=>by rw [Zae (nD2 b _ e)];exact u.tups b xs e,
     λb o w e=>by rw [Zae (nD2 b _ e)];exact u.frzs b o w e,λb ps e=>by rw [Zae (nD2 b _ e)];exact u.tbls b ps e⟩
   ·intro b o e
    by_cases hbD:b=D
    ·subst hbD
     rw [Zab] at e
     cases e
     exact ⟨z3,its,nn,v3,o4⟩
    ·rw [Zae hbD] at e
     exact (J4.hok b o e).stay (λc u _ q=>q) (λc q=>by rw [Zae (Zai q hD3)];exact q) λc xs q=>by rw [Zae (Zai q hD3)];exact q
   ·obtain ⟨a0,a1,a2,a3,a4,a5⟩:=f2 b hb
    exact ⟨a3,a1,a4,a5⟩
  ·refine noE (thn (T.item (ZaB X N' scope C s H fp (X.pn++pins)) rfl rfl rfl hc i _ s3 _ H3 _ I3' (stat (λp hp=>by have:p∈[]++[(D,_)]:=hp;rw [List.nil_append] at this;rw [List.mem_singleton.mp this]) fr3) st3 go) λr s4 ⟨u,hr,h4⟩=>?_)
   subst hr
   refine noE (thn h4 λ_ s5 ⟨x,H5,I5,r5,y5,st5,fr5⟩=>?_)
   obtain ⟨hb1,hb2,hb3⟩:=hb C s H fp (X.pn++pins)
   have I5':=I5.pinned (stat (λp hp=>by have:p∈[]++[(D,_)]:=hp;rw [List.nil_append] at this;rw [List.mem_singleton.mp this]) fr5) (T.obj _ _ st5)
   refine noE (thn (hb1 _ s5 _ H5 x u _ I5' r5 (hgk _ _ _ _ (step x H5 y5))) λ_ s6 ⟨σ6,H6,I6,hw6,q6⟩=>?_)
   refine noE (thn (hb2 _ s6 σ6 H6 _ I6 q6) λok s7 ⟨H7,I7,q7⟩=>?_)
   -- what stands behind the turn
   have back:∀ {σ8:St} {H8:Hp} {s8:Shared},Inv (ZaB X N' scope C s H fp (X.pn++pins)) (([]++[(D,{ cls:=.type "list",data:=.seq (List.toArray its) nn })])++Zdw fp s5.heap) σ8 H8 s8 ->
     tn (i+1) s8.heap/\(∀ b∈fp,H8 b=none)/\H8 D=none/\s8.heap.get? D=some { cls:=.type "list",data:=.seq (List.toArray its) nn }:=λ{σ8 H8 s8} J8=>by
    refine ⟨T.keep _ _ _ st5 λb hb o e=>(J8.pin (b,o) (List.mem_append_right _ (List.mem_append_right _ (Zbh hb e)))).1,λb hb=>?_,?_,?_⟩
    ·obtain ⟨o,e,d⟩:=T.obj _ _ st5 b hb
     exact (J8.pin (b,o) (List.mem_append_right _ (List.mem_append_right _ (Zbh hb e)))).2.1
    ·exact (J8.pin (D,_) (List.mem_append_right _ (List.mem_append_left _ (List.mem_append_right _ (List.mem_singleton.mpr rfl))))).2.1
    ·exact (J8.pin (D,_) (List.mem_append_right _ (List.mem_append_left _ (List.mem_append_right _ (List.mem_singleton.mpr rfl))))).1
   have weak:∀ {H8:Hp} {s8:Shared} {ps:List (Addr×Obj)},Inv (ZaB X N' scope C s H fp (X.pn++pins)) ps σ6 H8 s8->Inv (ZaB X N' scope C s H fp (X.pn++pins)) [] (selS sel σ) H8 s8:=λ{H8 s8 ps} J8 =>
    (J8.pins_of (pins':=[]) λp hp=>by simp at hp).weak (by rw [J8.len];exact I4.len) hw6
   cases ok with
   |false =>
    obtain ⟨st8,fr8,hD8,o8⟩:=back I7
    obtain ⟨m',hm,w8⟩:=hNn ys H7 q7
    exact ⟨m',hm,i+1,H7,ys,its,nn,weak I7,st8,fr8,hD8,o8,v3,z3,w8⟩
   |true =>
    refine noE (thn (hb3 _ s7 σ6 H7 _ I7 q7) λy s8 ⟨yv,H8,I8,ry,q8⟩=>?_)
    obtain ⟨st8,fr8,hD8,o8⟩:=back I8
    obtain ⟨m',hm,w8⟩:=hNn _ _ q8
    have hl:=v3.length
    refine call_meets F.slot_list_append ⟨_,o8,rfl⟩ F.entry_list_append (F.args_list_append_2 _ _) (PySem.list_append D (List.toArray its) nn y (by rw [List.size_toArray];omega)) ⟨o8,?_⟩
    have q:=PySem.IsL.update o8 (λz=>z.push y)
    rw [show (List.toArray its).push y=(its++[y]).toArray by simp] at q
    have kp:∀ b o,b≠D->s8.heap.get? b=some o->(s8.heap.update D (Obj.mapSeq λz=>z.push y)).get? b=some o:=λb o hb e=>(Heap.get?_update_other s8.heap (Obj.mapSeq λz=>z.push y) (Ne.symm hb)).trans e
    refine ⟨m',hm,i+1,H8,ys++[yv],its++[y],_,(weak I8).turned (t':=s8.toks) kp hD8 hDC (.inr (by show s.heap.objs.size<=D;rw [hDe];exact Nat.le_refl _)) (λx c h=>(fD HD).2.2.2.2.1 x c ((Zba I k).2 x c h).1) (λp hp=>(fD HD).2.2.2.2.2 p (by have:p∈(X.pn++pins)++[]:=hp;rwa [List.append_nil] at this)),
     T.keep _ _ _ st8 (λb hb o e=>kp b o (Nat.ne_of_lt (hfl b hb)) e),fr8,hD8,q,v3.append (.cons ry .nil),?_,w8⟩
    rw [List.length_append,List.length_singleton]
    omega
 exact codeAny_compStart_list (loop _ rfl) (T.self _ 0 _ _ _ hst₁ (loop _ rfl))

def tLc (sel:List (Option Nat)) (wi:TI) (g:TG) (tt:TT) (te:TE):TE:=λσ H Q=>wi σ H λJ H1=>∃ W:Nat->Nat->List V->Hp->Prop,(∃ m,W 0 m [] H1) /\
 ZbF sel g tt te σ J W λys H=>∀ D,H D=none->Q (.ref D) (upd H D (.lst ys))
theorem Zen {elt tg iter:Expr} {ifs:List Expr} {scope:Scope} {pos:Pos} {wi:TI} {N':List Str} {sel:List (Option Nat)} {g:TG} {tt:TT} {te:TE}
  (hc:X.calm=true) (hk:scope.kind=.function) (chk:Zb4 scope X.env.scope X.N N' sel=true) (hi:PI X tg iter wi) (hgk:Zcs sel g)
  (hb:∀ (C:Addr) (s:Shared) (H:Hp) (fp:List Addr) (pn:List (Addr×Obj)),PG (ZaB X N' scope C s H fp pn) tg g/\PTs (ZaB X N' scope C s H fp pn) ifs tt/\PE (ZaB X N' scope C s H fp pn) elt te)
  (hs:∀ x,foldedSetIterable iter X.env x=pure x:=by intro _;rfl):PE X (.ListComp elt [⟨tg,iter,ifs,0⟩] scope pos) (tLc sel wi g tt te):=by
 intro pins s σ H Q I h
 have k:=Zj5 chk
 rw [eval_ListComp]
 refine wpAny_comprehension_free (use:=none) rfl hs (ZbJ (Zba I k).1) hk k.lo (thn (hi pins s σ H _ I h) λv s1 h1=>thn h1 λitv s2 h2=>?_)
 obtain ⟨it,fp,tn,J,H2,e,I2,T,st2,f2,W,⟨m0,w0⟩,turn⟩:=h2
 subst e
 refine Zja (RR:=λacc C=>compPost (model X.prog X.w) X.A X.xe none (EP X pins σ Q) acc C) hc hk k I2 T st2 f2 hb hgk w0 turn ?_
 intro D C s' H' ys m hD I' hns fC q
 refine ⟨m,hns,λh' hs'=>⟨.ref D,_,I'.turned (t':=s'.toks) (λb o hb e=>(hs'.2 b hb).trans e) fC.1 fC.2.1 fC.2.2.2.1 fC.2.2.2.2.1 fC.2.2.2.2.2,rfl,q D hD⟩⟩

theorem Zdg {K:PySem.W.Frag} {a:Addr} {xs:List V} {sel:List (Option Nat)} {g:TG} {tt:TT} {te:TE} {σ:St} {H:Hp} {Qe:List V->Hp->Prop} (Pv:Nat->List V->Hp->Prop) (h0:Pv 0 [] H)
  (hl:∀ i ys H,i<=xs.length->Pv i ys H->SqL K H a xs/\ys.length<=i) (hz:xs.length<=sizeLine)
  (hs:∀ i x ys H,xs[i]?=some x->Pv i ys H->g x (selS sel σ) H λσ2 H2=>tt σ2 H2 λb H3=>if b=true then te σ2 H3 λy H4=>Pv (i+1) (ys++[y]) H4 else Pv (i+1) ys H3)
  (hd:∀ ys H,Pv xs.length ys H->Qe ys H):∃ W:Nat->Nat->List V->Hp->Prop,(∃ m,W 0 m [] H)/\ZbF sel g tt te σ (Itl K a) W Qe:=by
 refine ⟨λi m ys H=>m=xs.length-i/\i<=xs.length/\Pv i ys H,⟨_,rfl,Nat.zero_le _,h0⟩,?_⟩
 rintro i m ys H ⟨rfl,hi,p⟩
 obtain ⟨hS,hy⟩:=hl i ys H hi p
 by_cases e:i=xs.length
 ·subst e
  exact .inl ⟨⟨xs,hS,Nat.le_refl _⟩,hd _ _ p⟩
 ·have hlt:i<xs.length:=Nat.lt_of_le_of_ne hi e
  refine .inr ⟨⟨xs,xs[i],hS,by simp [hlt]⟩,by omega,Pv (i+1),λys' H' p'=>⟨xs.length-(i+1),by omega,rfl,hlt,p'⟩,?_⟩
  rintro x H' ⟨rfl,hx⟩
  exact hs i x ys H' (hx xs hS) p
end
end L2
namespace L2
open PySem PySem.Spec PyProof.Rows
section
variable {X:Cx} {tg:Expr} {a b:Expr} {ta tb:TE} {pos:Pos}

def tMid (t u:TS):TS:=λD σ H=>∃ M:St->Hp->Prop,t { D with nx:=M } σ H/\∀ σ' H',M σ' H'->u D σ' H'
theorem Zho {st:Stmt} {rest:List Stmt} {t u:TS} (h1:PS X st t) (h2:PSs X rest u):PSs X (st::rest) (tMid t u):=by
 intro pins s σ H D I h
 obtain ⟨M,hM,hu⟩:=h
 refine wpAny_execs_cons (thn (h1 pins s σ H { D with nx:=M } I hM) λf s1 q=>?_)
 cases f with
 |next =>
  obtain ⟨σ',H',I',q⟩:=q
  exact h2 pins s1 σ' H' D I' (hu _ _ q)
 |ret v=>exact q
 |brk=>exact q
 |cont=>exact q

def Its (x:Str):It:=⟨λi _=>i<x.length,λi H v H'=>H'=H/\∃ c,x.cps.toList[i]?=some c/\v=.str ⟨#[c]⟩,λi _=>x.length<=i⟩
def iStr (tl:TE):TI:=λσ H R=>tl σ H λx H1=>∃ z,x=.str z/\R (Its z) H1
def cutS (z:Str) (lo hi:Option Int):Str:=⟨((z.cps.toList.drop (HT.sIx z.length 0 lo)).take (HT.sIx z.length z.length hi-HT.sIx z.length 0 lo)).toArray⟩
def rSlS:V->Option Int->Option Int->Hp->VK->Prop:=λx lo hi H Q=>∃ z,x=.str z/\z.length<=sizeLine/\Q (.str (cutS z lo hi)) H
def ZeZ:V->List V->Hp->VK->Prop:=λx vs H Q=>∃ z y,x=.str z/\vs=[.str y]/\Q (.bl (Txt.startswith z y)) H
inductive EqD (K:PySem.W.Frag) (H:Hp):Nat->V->V->Bool->Prop
 |flat {n:Nat} {x y:V}:Zd1 x=true->Zd1 y=true->EqD K H n x y (eqV x y)
 |same {n:Nat} {a:Addr}:EqD K H n (.ref a) (.ref a) true
 |lst {n:Nat} {a b:Addr} {xs ys:List V} {e:Nat->Bool}:SqL K H a xs->SqL K H b ys->a≠b->xs.length=ys.length->(∀ i x y,xs[i]?=some x->ys[i]?=some y->EqD K H n x y (e i))->EqD K H (n+1) (.ref a) (.ref b) ((List.range xs.length).all e)
 |lstN {n:Nat} {a b:Addr} {xs ys:List V}:SqL K H a xs->SqL K H b ys->a≠b->xs.length≠ys.length->EqD K H (n+1) (.ref a) (.ref b) false
 |tup {n:Nat} {a b:Addr} {xs ys:List V} {e:Nat->Bool}:SqT K H a xs->SqT K H b ys->a≠b->(∀ i x y,xs[i]?=some x->ys[i]?=some y->EqD K H n x y (e i))->EqD K H (n+1) (.ref a) (.ref b) ((List.range (min xs.length ys.length)).all e&&xs.length == ys.length)
 |tupF {n:Nat} {a:Addr} {xs:List V} {y:V}:SqT K H a xs->Zd1 y=true->EqD K H n (.ref a) y false
 |fTup {n:Nat} {a:Addr} {xs:List V} {y:V}:SqT K H a xs->Zd1 y=true->EqD K H n y (.ref a) false
theorem Za7 {xs:List V} {its:List Value} {j:Nat} (r:Vals xs its) (h:j<its.toArray.size):∃ x,xs[j]?=some x/\RelV x its.toArray[j]:=by
 have hl:=r.length
 have hj:j<xs.length:=by rw [List.size_toArray] at h;omega
 obtain ⟨u,hu,ru⟩:=r.get (i:=j) (x:=xs[j]) (by simp [hj])
 refine ⟨xs[j],by simp [hj],?_⟩
 have e:its.toArray[j]=u:=by
  have h2:j<its.length:=by rw [List.size_toArray] at h;exact h
  have:=List.getElem?_eq_getElem h2
  rw [hu] at this
  simpa using (Option.some.inj this).symm
 rw [e];exact ru
theorem _root_.PyProof.Rows.IsTup.isTuple' {h:Heap} {a:Addr} {its:Array Value} (p:IsTup h a its):h.IsTuple a its:=p
theorem EqD.at {K:PySem.W.Frag} {H:Hp} {n:Nat} {x y:V} {b:Bool} (d:EqD K H n x y b):∀ {X:Cx} {pins:List (Addr×Obj)} {σ:St} {s:Shared} {A:Around} {u v:Value},X.K=K->Inv X pins σ H s->RelV x u->RelV y v->A.units+n<cLine->SeqAt.EqAt A s u v b:=by
 induction d with
 |flat fx fy=>intro X pins σ s A u v hK I rx ry hu;exact ZlR rx ry fx fy
 |same=>intro X pins σ s A u v hK I rx ry hu;cases rx;cases ry;exact SeqAt.EqAt.same _
 |@lst n a b xs ys e hx hy hne hl _ ih =>
  intro X pins σ s A u v hK I rx ry hu
  subst hK
  cases rx;cases ry
  obtain ⟨ia,ra,pa,_⟩:=I.list hx
  obtain ⟨ib,rb,pb,_⟩:=I.list hy
  have la:=ra.length
  have lb:=rb.length
  have hs:ia.toArray.size=ib.toArray.size:=by rw [List.size_toArray,List.size_toArray];omega
  have q:=SeqAt.RcAt.lists (A:=A) (e:=e) pa.isList pb.isList hs (by omega) λj h1 h2=>by
   obtain ⟨x,ex,rx⟩:=Za7 ra h1
   obtain ⟨y,ey,ry⟩:=Za7 rb h2
   exact ih j x y ex ey rfl I rx ry (by show A.units+1+n<cLine;omega)
  rw [List.size_toArray,<- la] at q
  exact SeqAt.EqAt.of_refs hne q
 |@lstN n a b xs ys hx hy hne hl =>
  intro X pins σ s A u v hK I rx ry hu
  subst hK
  cases rx;cases ry
  obtain ⟨ia,ra,pa,_⟩:=I.list hx
  obtain ⟨ib,rb,pb,_⟩:=I.list hy
  have la:=ra.length
  have lb:=rb.length
  exact SeqAt.EqAt.of_refs hne (SeqAt.RcAt.lists_lengths pa.isList pb.isList (by rw [List.size_toArray,List.size_toArray];simp;omega) (by omega))
 |@tup n a b xs ys e hx hy hne _ ih =>
  intro X pins σ s A u v hK I rx ry hu
  subst hK
  cases rx;cases ry
  obtain ⟨ia,ra,pa,_⟩:=I.tuple hx
  obtain ⟨ib,rb,pb,_⟩:=I.tuple hy
  have la:=ra.length
  have lb:=rb.length
  have q:=SeqAt.RcAt.tuples (A:=A) (e:=e) pa.isTuple' pb.isTuple' (by omega) λj h1 h2=>by
   obtain ⟨x,ex,rx⟩:=Za7 ra h1
   obtain ⟨y,ey,ry⟩:=Za7 rb h2
   exact ih j x y ex ey rfl I rx ry (by show A.units+1+n<cLine;omega)
  rw [List.size_toArray,List.size_toArray,<- la,<- lb] at q
  exact SeqAt.EqAt.of_refs hne q
 |@tupF n a xs y hx fy =>
  intro X pins σ s A u v hK I rx ry hu
  subst hK
  cases rx
  obtain ⟨ia,ra,pa,_⟩:=I.tuple hx
  have hu':A.units<cLine:=by omega
  cases y with
  |non=>cases (show v=Value.none from ry);exact SeqAt.EqAt.tuple_none pa.isTuple' hu'
  |bl b=>cases (show v=Value.bool b from ry);exact SeqAt.EqAt.tuple_bool b pa.isTuple' hu'
  |int i=>obtain ⟨t,q⟩:=(show ∃ t,v=Value.int i t from ry);cases q;exact SeqAt.EqAt.tuple_int i t pa.isTuple' hu'
  |str z=>obtain ⟨t,q⟩:=(show ∃ t,v=Value.str z t from ry);cases q;exact SeqAt.EqAt.tuple_str z t pa.isTuple' hu'
  |byt b=>cases fy
  |flt b=>cases fy
  |ref a=>cases fy
  |ty n=>cases fy
 |@fTup n a xs y hx fy =>
  intro X pins σ s A u v hK I rx ry hu
  subst hK
  cases ry
  obtain ⟨ia,ra,pa,_⟩:=I.tuple hx
  have hu':A.units<cLine:=by omega
  cases y with
  |non=>cases (show u=Value.none from rx);exact SeqAt.EqAt.none_tuple pa.isTuple' hu'
  |bl b=>cases (show u=Value.bool b from rx);exact SeqAt.EqAt.bool_tuple b pa.isTuple' hu'
  |int i=>obtain ⟨t,q⟩:=(show ∃ t,u=Value.int i t from rx);cases q;exact SeqAt.EqAt.int_tuple i t pa.isTuple' hu'
  |str z=>obtain ⟨t,q⟩:=(show ∃ t,u=Value.str z t from rx);cases q;exact SeqAt.EqAt.str_tuple z t pa.isTuple' hu'
  |byt b=>cases fy
  |flt b=>cases fy
  |ref a=>cases fy
  |ty n=>cases fy
def EqIt (K:PySem.W.Frag) (H:Hp) (n:Nat) (xs ys:List V) (e:Nat->Bool):Prop:=∀ i x y,xs[i]?=some x->ys[i]?=some y->EqD K H n x y (e i)
def rEqL (K:PySem.W.Frag) (neg:Bool):R2:=λx y H Q=>∃ a b xs ys n e,x=.ref a/\y=.ref b/\SqL K H a xs/\SqL K H b ys/\n<=90/\EqIt K H n xs ys e/\Q (.bl (neg^^(decide (xs.length=ys.length)&&(List.range xs.length).all e))) H
theorem Zhx (hu:X.A.units+100<cLine):OpR X (compareOp .Eq) (rEqL X.K false):=by
 intro pins s σ H x y v u Q I rx ry h
 obtain ⟨a,b,xs,ys,n,e,rfl,rfl,hx,hy,hn,he,q⟩:=h
 cases rx;cases ry
 obtain ⟨ia,ra,pa,_⟩:=I.list hx
 obtain ⟨ib,rb,pb,_⟩:=I.list hy
 have la:=ra.length
 have lb:=rb.length
 rw [Bool.false_xor] at q
 by_cases hl:xs.length=ys.length
 ·rw [decide_eq_true hl,Bool.true_and] at q
  refine SeqAt.eq_listAt (e:=e) pa.isList pb.isList (by rw [List.size_toArray,List.size_toArray];omega) (by omega) (λj h1 h2=>?_) ⟨.bl _,H,I,rfl,?_⟩
  ·obtain ⟨x,ex,rx⟩:=Za7 ra h1
   obtain ⟨y,ey,ry⟩:=Za7 rb h2
   exact (he j x y ex ey).at rfl I rx ry (by show X.A.units+1+n<cLine;omega)
  ·rw [List.size_toArray,<- la];exact q
 ·rw [decide_eq_false hl,Bool.false_and] at q
  exact SeqAt.eq_list_lengthsAt pa.isList pb.isList (by rw [List.size_toArray,List.size_toArray];simp;omega) (by omega) ⟨.bl _,H,I,rfl,q⟩
theorem Zhw (hu:X.A.units+100<cLine):OpR X (compareOp .NotEq) (rEqL X.K true):=by
 intro pins s σ H x y v u Q I rx ry h
 obtain ⟨a,b,xs,ys,n,e,rfl,rfl,hx,hy,hn,he,q⟩:=h
 cases rx;cases ry
 obtain ⟨ia,ra,pa,_⟩:=I.list hx
 obtain ⟨ib,rb,pb,_⟩:=I.list hy
 have la:=ra.length
 have lb:=rb.length
 rw [Bool.true_xor] at q
 by_cases hl:xs.length=ys.length
 ·rw [decide_eq_true hl,Bool.true_and] at q
  refine SeqAt.RcNeAt.lists (e:=e) pa.isList pb.isList (by rw [List.size_toArray,List.size_toArray];omega) (by omega) (λj h1 h2=>?_) _ _ _ _ ⟨.bl _,H,I,rfl,?_⟩
  ·obtain ⟨x,ex,rx⟩:=Za7 ra h1
   obtain ⟨y,ey,ry⟩:=Za7 rb h2
   exact (he j x y ex ey).at rfl I rx ry (by show X.A.units+1+n<cLine;omega)
  ·rw [List.size_toArray,<- la];exact q
 ·rw [decide_eq_false hl,Bool.false_and] at q
  exact SeqAt.RcNeAt.lists_lengths pa.isList pb.isList (by rw [List.size_toArray,List.size_toArray];simp;omega) (by omega) _ _ _ _ ⟨.bl _,H,I,rfl,q⟩
def rEqT (K:PySem.W.Frag) (neg:Bool):R2:=λx y H Q=>∃ a b xs ys n e,x=.ref a/\y=.ref b/\SqT K H a xs/\SqT K H b ys/\n<=90/\EqIt K H n xs ys e/\Q (.bl (neg^^((List.range (min xs.length ys.length)).all e&&xs.length == ys.length))) H
theorem Zlv (hu:X.A.units+100<cLine):OpR X (compareOp .Eq) (rEqT X.K false):=by
 intro pins s σ H x y v u Q I rx ry h
 obtain ⟨a,b,xs,ys,n,e,rfl,rfl,hx,hy,hn,he,q⟩:=h
 cases rx;cases ry
 obtain ⟨ia,ra,pa,_⟩:=I.tuple hx
 obtain ⟨ib,rb,pb,_⟩:=I.tuple hy
 have la:=ra.length
 have lb:=rb.length
 rw [Bool.false_xor] at q
 refine SeqAt.eq_tupleAt (e:=e) pa.isTuple' pb.isTuple' (by omega) (λj h1 h2=>?_) ⟨.bl _,H,I,rfl,?_⟩
 ·obtain ⟨x,ex,rx⟩:=Za7 ra h1
  obtain ⟨y,ey,ry⟩:=Za7 rb h2
  exact (he j x y ex ey).at rfl I rx ry (by show X.A.units+1+n<cLine;omega)
 ·rw [List.size_toArray,List.size_toArray,<- la,<- lb];exact q
theorem Zls (hu:X.A.units+100<cLine):OpR X (compareOp .NotEq) (rEqT X.K true):=by
 intro pins s σ H x y v u Q I rx ry h
 obtain ⟨a,b,xs,ys,n,e,rfl,rfl,hx,hy,hn,he,q⟩:=h
 cases rx;cases ry
 obtain ⟨ia,ra,pa,_⟩:=I.tuple hx
 obtain ⟨ib,rb,pb,_⟩:=I.tuple hy
 have la:=ra.length
 have lb:=rb.length
 rw [Bool.true_xor] at q
 refine SeqAt.RcNeAt.tuples (e:=e) pa.isTuple' pb.isTuple' (by omega) (λj h1 h2=>?_) _ _ _ _ ⟨.bl _,H,I,rfl,?_⟩
 ·obtain ⟨x,ex,rx⟩:=Za7 ra h1
  obtain ⟨y,ey,ry⟩:=Za7 rb h2
  exact (he j x y ex ey).at rfl I rx ry (by show X.A.units+1+n<cLine;omega)
 ·rw [List.size_toArray,List.size_toArray,<- la,<- lb];exact q
theorem ZcQ {A:Around} {k:Nat} (hr:Room k A):A.units+100<cLine:=Nat.lt_of_le_of_lt (by omega) hr.un

def ZeN:List Expr->List Str->Bool
 |[],[]=>true
 |.Constant (.str x) _ _::r,z::zs=>x == z&&ZeN r zs
 |_,_=>false
def ZiD (zs:List Str):TA:=λ_ H Q=>Q (zs.map V.str) H
theorem Ze2:∀ {es:List Expr} {zs:List Str},ZeN es zs=true->PA X es (ZiD zs):=by
 intro es
 induction es with
 |nil =>
  intro zs h
  cases zs with
  |nil=>exact Zac
  |cons z zs=>cases h
 |cons e r ih =>
  intro zs h
  unfold ZeN at h
  split at h
  ·exact absurd ‹e::r=[]› (List.cons_ne_nil _ _)
  ·rename_i x j p r' z zs' h1
   cases h1
   rw [Bool.and_eq_true] at h
   have hx:x=z:=by simpa using h.1
   subst hx
   exact Zaa (X:=X) (e:=.Constant (.str x) j p) Zag (ih h.2)
  ·cases h
end
end L2
namespace L2
open PySem PySem.Spec PyProof.Rows
set_option genInjectivity false in
structure Def (K:PySem.W.Frag) (mg:Str->Option Value) (x:Str) (st:Stmt) (ps:List Str) where
 f:Addr
 fd:FuncData
 F:Fun K x x st f fd
 hm:mg x=some (.ref f)
 b:Binds K fd ps []
theorem Zii {CX:CXT} {P:Program} {w:World} {K:PySem.W.Frag} {mg:Str->Option Value} {base:Heap} {N:List Str} {qual:Str} {scope:Scope} {f:Addr} {cd:Value} {A:Around} {outer:List Env} {s:Shared} {H:Hp} {E:XK} :
  (cxOf CX P w K mg base N qual scope f cd A outer s H E).K=K:=rfl
theorem Zd5 {X:Cx} {N:List Str} {scope:Scope} {C:Addr} {s:Shared} {H:Hp} {fp:List Addr} {pn:List (Addr×Obj)}:(ZaB X N scope C s H fp pn).K=X.K:=rfl
structure InK (K:PySem.W.Frag) (x:Str) (st:Stmt):Prop where
 ex:∃ (f:Addr) (oc:Value) (od:Option Addr) (kV doc pm:Value) (an:Option Addr) (cdv ct:Value) (osl:Array (Option Value)),
  PySem.W.nsIn K mainGlobals x=some (some (.ref f))/\K.lookup f=some ⟨oc,od,.func (PySem.W.fnOf x x (Zbk st) (Za1 st) (Zaj st) .none kV doc pm an cdv ct),osl⟩/\PySem.W.codeIn K cdv x=true/\PySem.W.keepIn K (.ref f)=true
theorem InK.of {K:PySem.W.Frag} {x:Str} {st:Stmt} {f:Addr} {oc:Value} {od:Option Addr} {kV doc pm:Value} {an:Option Addr} {cdv ct:Value} {osl:Array (Option Value)}
  (a:PySem.W.nsIn K mainGlobals x=some (some (.ref f))) (l:K.lookup f=some ⟨oc,od,.func (PySem.W.fnOf x x (Zbk st) (Za1 st) (Zaj st) .none kV doc pm an cdv ct),osl⟩) (c:PySem.W.codeIn K cdv x=true) (k:PySem.W.keepIn K (.ref f)=true):InK K x st :=
 ⟨⟨f,oc,od,kV,doc,pm,an,cdv,ct,osl,a,l,c,k⟩⟩
theorem InK.def {K:PySem.W.Frag} {mg:Str->Option Value} {h:Heap} {x:Str} {st:Stmt} {ps:List Str} (i:InK K x st) (X:K.In h) (G:h.Ns mainGlobals mg)
  (hb:∀ (kV doc pm:Value) (an:Option Addr) (cdv ct:Value) (us:List Value),us.length=ps.length->bindArgs (PySem.W.fnOf x x (Zbk st) (Za1 st) (Zaj st) .none kV doc pm an cdv ct) ⟨us,[]⟩=pure (ps.zip us)):Nonempty (Def K mg x st ps):=by
 obtain ⟨f,oc,od,kV,doc,pm,an,cdv,ct,osl,a,l,c,k⟩:=i.ex
 have F:=ZhX (x:=x) (qual:=x) (st:=st) l c k
 exact ⟨⟨f,_,F,PySem.W.mg_of X G a,F.binds hb⟩⟩
theorem Zf7:bootBuiltins "len"=some (.builtin "len"):=by decide +kernel
theorem ZaO:bootBuiltins "isinstance"=some (.builtin "isinstance"):=by decide +kernel
theorem Zl1:bootBuiltins "int"=some (.type "int"):=by decide +kernel
theorem Zio:bootBuiltins "list"=some (.type "list"):=by decide +kernel
theorem ZcZ:bootBuiltins "tuple"=some (.type "tuple"):=by decide +kernel
theorem Same.upd {H:Hp} {a:Addr} {o:HO} (h:H a=none):Same H (L2.upd H a o):=λb u e=>by rw [Zae (Zai e h)];exact e
theorem Same.updR {H H1:Hp} {a:Addr} {o:HO} (s:Same H H1) (h:H1 a=none):Same H (L2.upd H1 a o):=s.trans (Same.upd h)
theorem ZdX {K:PySem.W.Frag} {z:Str} {H:Hp} {n:Nat}:LenV K (.str z) H n↔z.length<=sizeLine/\n=z.length:=Iff.rfl
end L2
namespace L2
open PySem PySem.Spec PyProof.Rows
section
variable {X:Cx} {o e f:Expr} {apos cpos pos:Pos} {td ty tx:TE}

variable {K:PySem.W.Frag}
theorem ZfZ (h:X.K=K):IxR X (rIxL K):=by subst h;exact ZbG
theorem ZhS (h:X.K=K):IxR X (rIxT K):=by subst h;exact Zan
theorem Inv.turned2 {X:Cx} {pins:List (Addr×Obj)} {σ:List (Option V)} {H:Hp} {s:Shared} {h':Heap} {t':Nat} {e it:Addr} (I:Inv X pins σ H s) (k:∀ b o,b≠e->b≠it->s.heap.get? b=some o->h'.get? b=some o) (fe:FpOk X pins H e) (fi:FpOk X pins H it):Inv X pins σ H { s with heap:=h',toks:=t' }:=by
 obtain ⟨e0,e1,_,e3,e4,e5⟩:=fe
 obtain ⟨i0,i1,_,i3,i4,i5⟩:=fi
 have nit:∀ b u,H b=some u->b≠it:=λb u q z=>by rw [z,i0] at q;cases q
 have nie:∀ b u,H b=some u->b≠e:=λb u q z=>by rw [z,e0] at q;cases q
 have kk:∀ b o,b∉[e,it]->s.heap.get? b=some o->h'.get? b=some o:=λb o hc q=>k b o (λz=>hc (by simp [z])) (λz=>hc (by simp [z])) q
 refine I.step (g':=s.gens) (d':=s.drawn) (ch:=[e,it]) (λb hb=>?_) (λb o _ _ hc q _=>kk b o hc q) (λb o _ _ hc q _=>⟨o.slots,kk b o hc q⟩) (λ_ _ _ _ n=>n)
  (λb o hc q=>⟨o,kk b o hc q⟩) (λ_ _ q=>q) (λ_ _ _ q=>q) (λb ps q=>⟨#[],by rw [q];simp⟩) (λm hm=>?_) (λb u q=>?_) I.bare
 ·rcases List.mem_cons.mp hb with rfl | hb
  ·exact ⟨e3,e1,e4,e5⟩
  ·have z:b=it:=by simpa using hb
   subst z
   exact ⟨i3,i1,i4,i5⟩
 ·obtain ⟨o,es,ep,ho,r⟩:=hm
  exact ⟨o,es,ep,k _ o (Ne.symm e1) (Ne.symm i1) ho,r⟩
 ·refine (I.hok b u q).stay (λc v hc q'=>k c v ?_ ?_ q') (λ_ q=>q) λ_ _ q=>q
  ·rcases hc with z | z
   ·rw [z];exact nie b u q
   ·exact nie c _ z
  ·rcases hc with z | z
   ·rw [z];exact nit b u q
   ·exact nit c _ z
def Ite (K:PySem.W.Frag) (a:Addr):It :=
 ⟨λi H=>∃ xs x,SqL K H a xs/\xs[i]?=some x,λi H v H'=>∃ p x,v=.ref p/\H p=none/\H'=upd H p (.tup [.int (i:Nat),x])/\∀ xs,SqL K H a xs->xs[i]?=some x,λi H=>∃ xs,SqL K H a xs/\xs.length<=i⟩
theorem ZgL {P:Program} {w:World} {K:PySem.W.Frag} {es:List Expr} {x1} {pos:Pos} (a e it:Addr) (hne:e≠it):Turn P w K (.Tuple es x1 pos) (Ite K a) [e,it] e (λi h=>(∃ old,IsEnum h e it (i:Nat) old)/\h.IsListIter it a i) where
 mem:=by simp
 obj:=λi h st b hb=>by
  obtain ⟨⟨old,he⟩,hit⟩:=st
  rcases List.mem_cons.mp hb with rfl | hb
  ·exact ⟨_,he,λv z=>by
    have z':Data.fields _=Data.cell v:=z
    cases z'⟩
  ·have z:b=it:=by simpa using hb
   subst z
   obtain ⟨o,e,c,d⟩:=hit
   exact ⟨o,e,λv z=>by rw [d] at z;cases z⟩
 keep:=λi h h' st k=>⟨let ⟨old,he⟩:=st.1;⟨old,k e (by simp) _ he⟩,st.2.at λo q=>k it (by simp) o q⟩
 item:=by
  intro X hP hw hK hc i pins s σ H E I hf st hg
  subst hP hw hK
  obtain ⟨xs,x,hq,hx⟩:=hg
  obtain ⟨its,rv,p,hz⟩:=I.list hq
  obtain ⟨u,hu,ru⟩:=rv.get hx
  obtain ⟨⟨old,he⟩,hit⟩:=st
  have fe:=hf e (by simp)
  have fi:=hf it (by simp)
  have helt:e<s.heap.objs.size:=Heap.lt_size he
  have hilt:it<s.heap.objs.size:=by obtain ⟨_,q,_⟩:=hit;exact Heap.lt_size q
  refine wpAny_pyNext_enum_item he hit p.isList (x:=u) (by simpa using hu) hne λh' ho hit' hT hsz hk=>?_
  refine ⟨_,rfl,wpAny_letOwnedTupleGo_enum ho λh'' he'' hs''=>?_⟩
  have hfr:H s.heap.objs.size=none:=I.hok.fresh (Nat.le_refl _)
  have I1:Inv X pins σ (upd H s.heap.objs.size (.tup [.int (i:Nat),x])) { s with heap:=s.heap.push { cls:=.type "tuple",data:=.seq #[.int (i:Nat) s.toks,u] },toks:=s.toks } :=
   I.laid (t':=s.toks) (λb v q=>Heap.get?_push_of_some _ q) (Nat.le_refl _) ⟨show 2<=sizeLine by decide,[.int (i:Nat) s.toks,u],.cons ⟨_,rfl⟩ (.cons ru .nil),⟨_,Heap.get?_push_size _ rfl,rfl,_,rfl⟩⟩
  have up:∀ {b:Addr},FpOk X pins H b->b<s.heap.objs.size->FpOk X pins (upd H s.heap.objs.size (.tup [.int (i:Nat),x])) b:=λf hb=>⟨by rw [Zae (Nat.ne_of_lt hb)];exact f.1,f.2⟩
  have I2:Inv X pins σ (upd H s.heap.objs.size (.tup [.int (i:Nat),x])) { s with heap:=h'',toks:=s.toks+1 } :=
   Inv.turned2 (s:={ s with heap:=s.heap.push { cls:=.type "tuple",data:=.seq #[.int (i:Nat) s.toks,u] },toks:=s.toks }) (h':=h'') (t':=s.toks+1) (e:=e) (it:=it) I1 (λb o b1 b2 q=>by
    rw [hs''.2 b b1]
    by_cases hb:b=s.heap.objs.size
    ·subst hb
     rw [Heap.get?_push_size _ rfl] at q
     cases q
     exact hT
    ·refine hk b o b1 b2 ?_
     rw [<- q]
     exact (Heap.get?_push_ne _ _ _ hb).symm) (up fe helt) (up fi hilt)
  refine ⟨.ref s.heap.objs.size,_,I2,rfl,⟨_,x,rfl,hfr,rfl,λys hy=>by rw [I.list_inj hy hq];exact hx⟩,⟨⟨_,by simpa using he''⟩,hit'.at λo q=>(hs''.2 it hne.symm).trans q⟩,λb hb=>?_⟩
  rcases List.mem_cons.mp hb with rfl | hb
  ·exact (up fe helt).1
  ·have z:b=it:=by simpa using hb
   subst z
   exact (up fi hilt).1
 done:=by
  intro X hP hw hK hc i pins s σ H E I hf st hg
  subst hP hw hK
  obtain ⟨xs,hq,hx⟩:=hg
  obtain ⟨its,rv,p,hz⟩:=I.list hq
  obtain ⟨⟨old,he⟩,hit⟩:=st
  have fe:=hf e (by simp)
  have fi:=hf it (by simp)
  have hl:=rv.length
  exact wpAny_pyNext_enum_end (I.ok.hd hc) he hit p.isList (by simp;omega) λh' eb=>⟨rfl,Inv.turned2 (t':=s.toks) (e:=e) (it:=it) I (λb o _ hb q=>eb b o hb q) fe fi⟩
 self:=λ_ _ _ _ _ st h=>let ⟨_,he⟩:=st.1;wpAny_pyIter_enum he h
theorem ZeF:bootBuiltins "enumerate"=some (.type "enumerate"):=by decide +kernel
def Zme (K:PySem.W.Frag) (ta:TA):TI:=λσ H R=>ta σ H λvs H1=>∃ a:Addr,vs=[.ref a]/\(∃ xs,SqL K H1 a xs)/\R (Ite K a) H1
theorem Zku {X:Cx} {es:List Expr} {x1} {tpos:Pos} {a:Expr} {ta:TA} {p pos:Pos} (hg:Gl X "enumerate") (hm:X.mg "enumerate"=none) (ha:PA X [a] ta) (hs:starEach [a] X.env=[(false,eval a X.env)]:=by rfl):PI X (.Tuple es x1 tpos) (.Call (.Name "enumerate" p) [a] [] pos) (Zme X.K ta):=by
 intro pins s σ H R I h
 refine Call_ (ZdA I hg hm ZeF (PyProof.Rows.callWith_type1 (thn (ha pos pins s σ H _ I h) λus s1 ⟨vs,H1,I1,r1,q1⟩=>?_) hs rfl))
 obtain ⟨l,q0,⟨xs,hq⟩,q⟩:=q1
 subst q0
 cases r1 with
 |cons r rr =>
  cases rr
  cases r
  obtain ⟨its,rv,pl,hz⟩:=I1.list hq
  refine call_enumerate_list pl.isList λh' he hit hsz hk=>wpAny_pyIter_enum he ?_
  refine ⟨s1.heap.objs.size+1,[s1.heap.objs.size+1,s1.heap.objs.size],_,_,H1,rfl,I1.kept (t':=s1.toks) hk,ZgL l _ _ (Nat.succ_ne_self _),⟨⟨_,he⟩,hit⟩,λb hb=>?_,q⟩
  rcases List.mem_cons.mp hb with rfl | hb
  ·exact I1.fpOk (by omega) (I1.hok.fresh (by omega))
  ·have z:b=s1.heap.objs.size:=by simpa using hb
   subst z
   exact I1.fpOk (Nat.le_refl _) (I1.hok.fresh (Nat.le_refl _))
theorem Zjl {K:PySem.W.Frag} {a:Addr} {xs:List V} {g:TG} {tb:TS} {D:Ends} {σ:St} {H:Hp} (Pv:Nat->St->Hp->Prop) (h0:Pv 0 σ H) (hl:∀ i σ H,i<=xs.length->Pv i σ H->SqL K H a xs)
  (hs:∀ i x p σ H,xs[i]?=some x->Pv i σ H->H p=none->g (.ref p) σ (upd H p (.tup [.int (i:Nat),x])) λσ2 H2=>tb { D with nx:=Pv (i+1),ct:=Pv (i+1),bk:=D.nx } σ2 H2) (hd:∀ σ H,Pv xs.length σ H->D.nx σ H) :
  ∃ W:Nat->Nat->St->Hp->Prop,(∃ m,W 0 m σ H)/\∀ i m σ H,W i m σ H ->
   ((Ite K a).stop i H/\D.nx σ H)\/((Ite K a).go i H/\∃ N:St->Hp->Prop,(∀ σ' H',N σ' H'->∃ m',m'<m/\W (i+1) m' σ' H')/\∀ x H',(Ite K a).yld i H x H'->g x σ H' λσ2 H2=>tb { D with nx:=N,ct:=N,bk:=D.nx } σ2 H2):=by
 refine ⟨λi m σ H=>m=xs.length-i/\i<=xs.length/\Pv i σ H,⟨xs.length,by simp,Nat.zero_le _,h0⟩,?_⟩
 rintro i m σ H ⟨rfl,hi,p⟩
 have q:=hl i σ H hi p
 by_cases hlt:i<xs.length
 ·refine .inr ⟨⟨xs,xs[i],q,by simp [hlt]⟩,Pv (i+1),λσ' H' p'=>⟨xs.length-(i+1),by omega,rfl,hlt,p'⟩,λv H' y=>?_⟩
  obtain ⟨b,x,rfl,hb,rfl,hx⟩:=y
  exact hs i x b σ H (hx xs q) p hb
 ·have z:i=xs.length:=by omega
  subst z
  exact .inl ⟨⟨xs,q,Nat.le_refl _⟩,hd σ H p⟩
end
end L2
namespace L2
open PySem PySem.Spec PyProof.Rows
def del (H:Hp) (d:Addr):Hp:=λb=>if b=d then none else H b
theorem Zd3 {H:Hp} {d:Addr}:del H d d=none:=by unfold del;rw [if_pos rfl]
theorem Zcp {H:Hp} {d b:Addr} (h:b≠d):del H d b=H b:=by unfold del;rw [if_neg h]
theorem Same.back {H G:Hp} {d:Addr} {u:HO} (s:Same (del H d) G) (e:H d=some u):Same H (L2.upd G d u):=λb o q=>by
 by_cases hb:b=d
 ·subst hb;rw [Zab,<- e];exact q
 ·rw [Zae hb];exact s b o (by rw [Zcp hb];exact q)
theorem ZdE {H:Hp} {d b:Addr} {u o:HO} (e:H d=some u) (q:H b=some o) (n:o≠u):del H d b=some o:=by
 have hb:b≠d:=Zaq q e n
 rw [Zcp hb];exact q
theorem Inv.forget {X:Cx} {pins:List (Addr×Obj)} {σ:St} {H:Hp} {s:Shared} {d:Addr} {kvs:List (Key×V)} (I:Inv X pins σ H s) (e:H d=some (.dK kvs)) :
  ∃ (o:Obj) (vs:List (Key×Value)) (ep:Nat),s.heap.get? d=some o/\(d == sysModules)=false/\KV kvs vs/\(∀ h:Heap,h.get? d=some o->h.DictAt (ZaA X.prog X.w) d vs ep)/\Inv X (pins++[(d,o)]) σ (del H d) s /\
   ∀ (σ':St) (G:Hp) (s':Shared),Inv X (pins++[(d,o)]) σ' G s'->Inv X pins σ' (upd G d (.dK kvs)) s':=by
 obtain ⟨z,hS,vs,rel,o,es,ep,ho,r⟩:=Zju I.hok e
 have nL:d≠X.env.locals:=Zai e I.free
 have nfs:d∉X.fs:=λhb=>by
  obtain ⟨_,o',ho',_⟩:=I.ok.funs.mem hb
  have q:=I.base.free d o' ho' (I.ok.frf d hb) λz=>I.ok.exfs d z hb
  rw [e] at q;cases q
 have ncell:∀ v,o.data≠.cell v:=λv q=>by
  obtain ⟨_,r2,_⟩:=id r
  rw [r2] at q;cases q
 have nbase:∀ o',X.s₀.heap.get? d=some o'->X.H₀ d=none->d∉X.ex->False:=λo' a b c=>by
  have q:=I.base.free d o' a b c
  rw [e] at q;cases q
 have npin:∀ p∈X.pn++pins,p.1≠d:=λp hp q=>by
  have:=(I.pin p hp).2.1
  rw [q,e] at this;cases this
 have ncl:∀ x c,X.env.cells.lookup x=some c->c≠d:=λx c h q=>by
  have:=I.freeC x c h
  rw [q,e] at this;cases this
 have hpin:(d,o)∈X.pn++(pins++[(d,o)]):=List.mem_append_right _ (List.mem_append_right _ (List.mem_singleton.mpr rfl))
 refine ⟨o,vs,ep,ho,hS,rel,λh q=>⟨o,es,q,r⟩,⟨I.ok,I.os,I.bare,⟨I.base.keep,I.base.slot,λb o' a b' c=>?_,I.base.there,λb xs q=>?_,λb o' u q=>?_,λb ps q=>?_⟩,I.loc,I.cell,?_,λx c h=>?_,λp hp=>?_,λa u q=>?_,I.len⟩,λσ' G s' J=>?_⟩
 ·by_cases hb:b=d
  ·rw [hb];exact Zd3
  ·rw [Zcp hb];exact I.base.free b o' a b' c
 ·exact ZdE e (I.base.tups b xs q) (λz=>nomatch z)
 ·exact ZdE e (I.base.frzs b o' u q) (λz=>nomatch z)
 ·obtain ⟨m,q⟩:=I.base.tbls b ps q
  exact ⟨m,ZdE e q (λz=>nomatch z)⟩
 ·rw [Zcp (Ne.symm nL)];exact I.free
 ·rw [Zcp (ncl x c h)];exact I.freeC x c h
 ·rcases List.mem_append.mp hp with hp | hp
  ·obtain ⟨a,b,c⟩:=I.pin p (List.mem_append_left _ hp)
   exact ⟨a,by rw [Zcp (npin p (List.mem_append_left _ hp))];exact b,c⟩
  ·rcases List.mem_append.mp hp with hp | hp
   ·obtain ⟨a,b,c⟩:=I.pin p (List.mem_append_right _ hp)
    exact ⟨a,by rw [Zcp (npin p (List.mem_append_right _ hp))];exact b,c⟩
   ·rw [List.mem_singleton.mp hp]
    exact ⟨ho,Zd3,nL,nfs,ncell⟩
 ·have ha:a≠d:=λz=>by rw [z,Zd3] at q;cases q
  rw [Zcp ha] at q
  exact (I.hok a u q).stay (λ_ _ _ z=>z) (λb z=>ZdE e z (λz=>nomatch z)) λb xs z=>ZdE e z (λz=>nomatch z)
 ·obtain ⟨gd,fd,_⟩:=J.pin (d,o) hpin
  have nd:∀ {b:Addr} {u:HO},G b=some u->b≠d:=λq=>Zai q fd
  refine ⟨J.ok,J.os,J.bare,⟨J.base.keep,J.base.slot,λb o' a b' c=>?_,J.base.there,λb xs q=>?_,λb o' u q=>?_,λb ps q=>?_⟩,J.loc,J.cell,?_,λx c h=>?_,λp hp=>?_,λa u q=>?_,J.len⟩
  ·by_cases hb:b=d
   ·subst hb;exact (nbase o' a b' c).elim
   ·rw [Zae hb];exact J.base.free b o' a b' c
  ·have q:=J.base.tups b xs q
   rw [Zae (nd q)];exact q
  ·have q:=J.base.frzs b o' u q
   rw [Zae (nd q)];exact q
  ·obtain ⟨m,q⟩:=J.base.tbls b ps q
   exact ⟨m,by rw [Zae (nd q)];exact q⟩
  ·rw [Zae (Ne.symm nL)];exact J.free
  ·rw [Zae (ncl x c h)];exact J.freeC x c h
  ·have hp':p∈X.pn++(pins++[(d,o)]):=(List.mem_append.mp hp).elim (λz=>List.mem_append_left _ z) λz=>List.mem_append_right _ (List.mem_append_left _ z)
   obtain ⟨a,b,c⟩:=J.pin p hp'
   exact ⟨a,by rw [Zae (npin p hp)];exact b,c⟩
  ·by_cases ha:a=d
   ·subst ha
    rw [Zab] at q
    cases q
    exact ⟨z,hS,vs,rel,o,es,ep,gd,r⟩
   ·rw [Zae ha] at q
    exact (J.hok a u q).stay (λ_ _ _ z=>z) (λb z=>by rw [Zae (nd z)];exact z) λb xs z=>by rw [Zae (nd z)];exact z
structure TurnP (P:Program) (w:World) (K:PySem.W.Frag) (tg:Expr) (J:It) (fp:List Addr) (it:Addr) (tn:Nat->Heap->Prop) (pd:List (Addr×Obj)):Prop where
 mem:it∈fp
 obj:∀ i h,tn i h->∀ b∈fp,∃ o,h.get? b=some o/\∀ v,o.data≠.cell v
 keep:∀ i h h',tn i h->(∀ b∈fp,∀ o,h.get? b=some o->h'.get? b=some o)->tn i h'
 item:∀ (X:Cx),X.prog=P->X.w=w->X.K=K->X.calm=true->∀ (i:Nat) (pins:List (Addr×Obj)) (s:Shared) (σ:St) (H:Hp) (E:Value->Shared->Prop),Inv X pins σ H s->(∀ p∈pd,p∈X.pn++pins)->(∀ b∈fp,FpOk X pins H b)->tn i s.heap->J.go i H ->
  wpAny (model P w) X.A (pyNext (.ref it)) (λr s1=>∃ u,r=some u /\
   wpAny (model P w) X.A (letOwnedTupleGo tg (.ref it) u) (λ_ s2=>∃ x H',Inv X pins σ H' s2/\RelV x u/\J.yld i H x H'/\tn (i+1) s2.heap/\∀ b∈fp,H' b=none) E s1) E s
 done:∀ (X:Cx),X.prog=P->X.w=w->X.K=K->X.calm=true->∀ (i:Nat) (pins:List (Addr×Obj)) (s:Shared) (σ:St) (H:Hp) (E:Value->Shared->Prop),Inv X pins σ H s->(∀ p∈pd,p∈X.pn++pins)->(∀ b∈fp,FpOk X pins H b)->tn i s.heap->J.stop i H ->
  wpAny (model P w) X.A (pyNext (.ref it)) (λr s1=>r=none/\Inv X pins σ H s1) E s
 self:∀ (A:Around) (i:Nat) (s:Shared) (Q:Value->Shared->Prop) (E:Value->Shared->Prop),tn i s.heap->Q (.ref it) s->wpAny (model P w) A (pyIter (.ref it)) Q E s
theorem KV.at {kvs:List (Key×V)} {vs:List (Key×Value)} {i:Nat} {kv:Key×V} (r:KV kvs vs) (h:kvs[i]?=some kv):∃ u,vs[i]?=some (kv.1,u)/\RelV kv.2 u:=by
 have go:∀ (l₁:List (Key×V)) (l₂:List (Key×Value)),Paired (λ(p:Key×V) (q:Key×Value)=>p.1=q.1/\RelV p.2 q.2) l₁ l₂->∀ (i:Nat) (kv:Key×V),l₁[i]?=some kv->∃ u,l₂[i]?=some (kv.1,u)/\RelV kv.2 u:=by
  intro l₁ l₂ r
  induction r with
  |nil=>intro i kv h;simp at h
  |@cons a b _ _ r t ih =>
   intro i kv h
   cases i with
   |zero =>
    simp at h
    subst h
    obtain ⟨e,q⟩:=r
    refine ⟨b.2,?_,q⟩
    rw [List.getElem?_cons_zero,e]
   |succ i =>
    rw [List.getElem?_cons_succ] at h |-
    exact ih i kv h
 exact go kvs vs r i kv h
theorem ZdT {P:Program} {w:World} {k:Key} {v:Value} (h:(ZaA P w).is k v=true):RelV (kV k) v:=by
 rw [Zgu] at h
 rcases ZaP h with ⟨i,t,rfl,rfl⟩ | ⟨x,t,rfl,rfl⟩
 ·exact ⟨t,rfl⟩
 ·exact ⟨t,rfl⟩
def Iti (kvs:List (Key×V)):It:=⟨λi _=>i<kvs.length,λi H v H'=>∃ p kv,v=.ref p/\H p=none/\H'=upd H p (.tup [kV kv.1,kv.2])/\kvs[i]?=some kv,λi _=>kvs.length<=i⟩
theorem Zgc {P:Program} {w:World} {K:PySem.W.Frag} {es:List Expr} {x1} {pos:Pos} (d it:Addr) (o:Obj) (kvs:List (Key×V)) (vs:List (Key×Value)) (ep:Nat) (hne:d≠it) (rel:KV kvs vs)
  (hat:∀ h:Heap,h.get? d=some o->h.DictAt (ZaA P w) d vs ep):TurnP P w K (.Tuple es x1 pos) (Iti kvs) [it] it (λi h=>∃ ok ov,IsItemIter h it d i vs.length ep ok ov) [(d,o)] where
 mem:=by simp
 obj:=λi h st b hb=>by
  obtain ⟨ok,ov,he⟩:=st
  have z:b=it:=by simpa using hb
  subst z
  exact ⟨_,he,λv z=>by
   have z':Data.fields _=Data.cell v:=z
   cases z'⟩
 keep:=λi h h' st k=>by
  obtain ⟨ok,ov,he⟩:=st
  exact ⟨ok,ov,k it (by simp) _ he⟩
 item:=by
  intro X hP hw hK hc i pins s σ H E I hpd hf st hg
  subst hP hw hK
  obtain ⟨ok,ov,he⟩:=st
  have hd:=(I.pin (d,o) (hpd _ (by simp))).1
  have hm:=hat _ hd
  have hlt:i<kvs.length:=hg
  have hx:kvs[i]?=some kvs[i]:=List.getElem?_eq_getElem hlt
  obtain ⟨u,hu,ru⟩:=rel.at hx
  have fi:=hf it (by simp)
  have hilt:it<s.heap.objs.size:=Heap.lt_size he
  refine wpAny_pyNext_items_item he hm hu λkey h' hkey ho hT hsz hk=>?_
  refine ⟨_,rfl,wpAny_letOwnedTupleGo_items ho λh'' he'' hs''=>?_⟩
  have hfr:H s.heap.objs.size=none:=I.hok.fresh (Nat.le_refl _)
  have rk:RelV (kV kvs[i].1) key:=ZdT hkey
  have I1:Inv X pins σ (upd H s.heap.objs.size (.tup [kV kvs[i].1,kvs[i].2])) { s with heap:=s.heap.push { cls:=.type "tuple",data:=.seq #[key,u] },toks:=s.toks } :=
   I.laid (t':=s.toks) (λb v q=>Heap.get?_push_of_some _ q) (Nat.le_refl _) ⟨show 2<=sizeLine by decide,[key,u],.cons rk (.cons ru .nil),⟨_,Heap.get?_push_size _ rfl,rfl,_,rfl⟩⟩
  have nit:it≠s.heap.objs.size:=Nat.ne_of_lt hilt
  have I2:Inv X pins σ (upd H s.heap.objs.size (.tup [kV kvs[i].1,kvs[i].2])) { s with heap:=h'',toks:=s.toks } :=
   Inv.turned (s:={ s with heap:=s.heap.push { cls:=.type "tuple",data:=.seq #[key,u] },toks:=s.toks }) (h':=h'') (t':=s.toks) (it:=it) I1 (λb o b1 q=>by
    rw [hs''.2 b b1]
    by_cases hb:b=s.heap.objs.size
    ·subst hb
     rw [Heap.get?_push_size _ rfl] at q
     cases q
     exact hT
    ·refine hk b o b1 ?_
     rw [<- q]
     exact (Heap.get?_push_ne _ _ _ hb).symm) (by rw [Zae nit];exact fi.1) fi.2.1 fi.2.2.2.1 fi.2.2.2.2.1 fi.2.2.2.2.2
  refine ⟨.ref s.heap.objs.size,_,I2,rfl,⟨_,kvs[i],rfl,hfr,rfl,hx⟩,⟨_,_,he''⟩,λb hb=>?_⟩
  have z:b=it:=by simpa using hb
  subst z
  rw [Zae nit];exact fi.1
 done:=by
  intro X hP hw hK hc i pins s σ H E I hpd hf st hg
  subst hP hw hK
  obtain ⟨ok,ov,he⟩:=st
  have hd:=(I.pin (d,o) (hpd _ (by simp))).1
  have hm:=hat _ hd
  have fi:=hf it (by simp)
  have hl:=rel.length
  have hge:kvs.length<=i:=hg
  exact wpAny_pyNext_items_end (I.ok.hd hc) he hm (List.getElem?_eq_none (by omega)) λh' eb=>⟨rfl,Inv.turned (t':=s.toks) I (λb o hb q=>eb b o hb q) fi.1 fi.2.1 fi.2.2.2.1 fi.2.2.2.2.1 fi.2.2.2.2.2⟩
 self:=λ_ _ _ _ _ st h=>by
  obtain ⟨ok,ov,he⟩:=st
  exact PySem.W.kcp_self he h
section
variable {X:Cx} {pins:List (Addr×Obj)} {σ:St} {H:Hp} {s:Shared}
theorem ZhL {elt tg iter:Expr} {ifs:List Expr} {scope:Scope} {pos:Pos} {N':List Str} {sel:List (Option Nat)} {g:TG} {tt:TT} {te:TE} {it:Addr} {fp:List Addr} {tn:Nat->Heap->Prop} {J:It}
  {W:Nat->Nat->List V->Hp->Prop} {Qe:List V->Hp->Prop} {RR:Value->Addr->Result->Shared->Prop} {E:Value->Shared->Prop} {m0:Nat}
  (hc:X.calm=true) (hk:scope.kind=.function) (k:ChkOk X scope N' sel) (I:Inv X pins σ H s) {pd:List (Addr×Obj)} (hpd:∀ p∈pd,p∈X.pn++pins) (T:TurnP X.prog X.w X.K tg J fp it tn pd) (st:tn 0 s.heap) (f2:∀ b∈fp,FpOk X pins H b)
  (hb:∀ (C:Addr) (s:Shared) (H:Hp) (fp:List Addr) (pn:List (Addr×Obj)),PG (ZaB X N' scope C s H fp pn) tg g/\PTs (ZaB X N' scope C s H fp pn) ifs tt/\PE (ZaB X N' scope C s H fp pn) elt te)
  (hgk:Zcs sel g) (w0:W 0 m0 [] H) (turn:ZbF sel g tt te σ J W Qe)
  (hRR:∀ (D C:Addr) (s':Shared) (H':Hp) (ys:List V) (m:Str->Option Value),H' D=none->Inv X pins σ (upd H' D (.lst ys)) s'->s'.heap.Ns C m->FpOk X pins (upd H' D (.lst ys)) C->Qe ys H'->RR (.ref D) C (.ok .next) s') :
  wpAny (model X.prog X.w) X.A (newList []) (λacc s₃=>wpAny (model X.prog X.w) X.A (newFunctionEnv scope X.env.globals (Zcq X.env.cells scope.names []) [] X.env.qual none .none (some X.env)) (λcenv s₄ =>
   codeAny (model X.prog X.w) X.A (.compStart (.ListComp elt [⟨tg,iter,ifs,0⟩] scope pos) 0 (.ref it) acc { cenv with scope:=relabel scope X.env }) (RR acc cenv.locals) s₄) E s₃) E s:=by
 refine wpAny_newObj_type (wpAny_newFunctionEnv k.nc (by intro y hy;simp at hy) (λh₁ hns₁ hsb₁=>?_) hk)
 dsimp only at hns₁ hsb₁ |-
 generalize hH2:s.heap.push { cls:=.type "list",dict:=none,data:=.seq ([]:List Value).toArray }=H2 at hns₁ hsb₁ |-
 have hC:H2.objs.size=s.heap.objs.size+1:=by rw [<- hH2,Heap.size_push]
 have hDC:s.heap.objs.size≠H2.objs.size:=by rw [hC];exact Nat.ne_of_lt (Nat.lt_succ_self _)
 have hCle:s.heap.objs.size<=H2.objs.size:=by rw [hC];exact Nat.le_succ _
 have below:∀ b,b<s.heap.objs.size->b≠H2.objs.size/\b≠s.heap.objs.size:=λb hb=>⟨by rw [hC];exact Nat.ne_of_lt (Nat.lt_succ_of_lt hb),Nat.ne_of_lt hb⟩
 have old:∀ b o,s.heap.get? b=some o->h₁.get? b=some o:=λb o e=>hsb₁.extBut b o (below b (Heap.lt_size e)).1 (Heap.get?_push_of_some _ (hH2▸Heap.get?_push_of_some _ e))
 have hacc:h₁.get? s.heap.objs.size=some { cls:=.type "list",data:=.seq ([]:List Value).toArray }:=hsb₁.extBut _ _ hDC (Heap.get?_push_of_some _ (hH2▸Heap.get?_push_size _ rfl))
 have hfl:∀ b∈fp,b<s.heap.objs.size:=λb hb=>let ⟨_,e,_⟩:=T.obj 0 _ st b hb;Heap.lt_size e
 have hst₁:tn 0 h₁:=T.keep _ _ _ st λb _ o e=>old b o e
 generalize hDe:s.heap.objs.size=D at hDC hCle below hacc hfl |-
 generalize hCe:H2.objs.size=C at hns₁ hsb₁ hC hDC hCle below |-
 have fD:∀ {H':Hp},H' D=none->FpOk X pins H' D:=λhn=>I.fpOk (by rw [hDe];exact Nat.le_refl _) hn
 have fC:∀ {H':Hp},H' C=none->FpOk X pins H' C:=λhn=>I.fpOk (by rw [hDe];exact hCle) hn
 have HD:H D=none:=I.hok.fresh (by rw [hDe];exact Nat.le_refl _)
 -- the pin of the new list,in the block
 have pinD:∀ {o:Obj} {σ':St} {H':Hp} {s':Shared} {ps:List (Addr×Obj)},Inv (ZaB X N' scope C s H fp (X.pn++pins)) ps σ' H' s'->s'.heap.get? D=some o->H' D=none->(∀ v,o.data≠.cell v) ->
   Inv (ZaB X N' scope C s H fp (X.pn++pins)) (ps++[(D,o)]) σ' H' s':=λ{o σ' H' s' ps} J1 e n d=>by
  refine J1.pins_of λp hp=>?_
  rcases List.mem_append.mp hp with hp | hp
  ·exact J1.pin p (List.mem_append_right _ hp)
  ·rw [List.mem_singleton.mp hp]
   refine ⟨e,n,hDC,λz=>?_,d⟩
   rcases List.mem_cons.mp (I.stkSub D z) with z | z
   ·exact (fD HD).2.1 z
   ·exact (fD HD).2.2.1 z
 have loop:∀ s₃:Shared,s₃={ s with heap:=h₁,toks:=s.toks+([]:List (Str×Value)).length } ->
   codeAny (model X.prog X.w) X.A (.compLoop (.ListComp elt [⟨tg,iter,ifs,0⟩] scope pos) 0 (.ref it) (.ref D) (compEnvC scope (Zcq X.env.cells scope.names []) C X.env)) (RR (.ref D) C) s₃:=by
  rintro s₃ rfl
  have I4:Inv (ZaB X N' scope C s H fp (X.pn++pins)) [] (selS sel σ) H { s with heap:=h₁,toks:=s.toks+([]:List (Str×Value)).length } :=
   Zey I hk k (by rw [hDe];exact hCle) f2 (λb hb=>by rw [hDe];exact hfl b hb) hns₁ old
  refine ZcJ (λn s'=>∃ i H' ys its nn,Inv (ZaB X N' scope C s H fp (X.pn++pins)) [] (selS sel σ) H' s'/\tn i s'.heap/\(∀ b∈fp,H' b=none)/\H' D=none /\
   s'.heap.get? D=some { cls:=.type "list",data:=.seq (List.toArray its) nn }/\Vals ys its/\ys.length<=sizeLine/\W i n ys H') ?_ m0 ⟨0,H,[],[],0,I4,hst₁,λb hb=>(f2 b hb).1,HD,hacc,.nil,Nat.zero_le _,w0⟩
  rintro n s3 ⟨i,H3,ys,its,nn,I3,st3,fr3,hD3,o3,v3,z3,w3⟩
  have I3':=pinD I3 o3 hD3 (λv z=>by cases z)
  have stat:∀ {ps:List (Addr×Obj)} {H':Hp},(∀ p∈ps,p.1=D)->(∀ b∈fp,H' b=none)->∀ b∈fp,FpOk (ZaB X N' scope C s H fp (X.pn++pins)) ps H' b:=λ{ps H'} hps hn b hb=>by
   obtain ⟨a0,a1,a2,a3,a4,a5⟩:=f2 b hb
   refine ⟨hn b hb,Nat.ne_of_lt (Nat.lt_of_lt_of_le (hfl b hb) hCle),λz=>?_,.inl hb,λx c h=>a4 x c ((Zba I k).2 x c h).1,λp hp=>?_⟩
   ·rcases List.mem_cons.mp (I.stkSub b z) with z | z
    ·exact a1 z
    ·exact a2 z
   ·rcases List.mem_append.mp hp with hp | hp
    ·exact a5 p hp
    ·rw [hps p hp]
     exact (Nat.ne_of_lt (hfl b hb)).symm
  rcases turn i n ys H3 w3 with ⟨stop,qe⟩ | ⟨go,hz,Nn,hNn,step⟩
  ·refine noE (thn (T.done (ZaB X N' scope C s H fp (X.pn++pins)) rfl rfl rfl hc i _ s3 _ H3 _ I3' (λp hp=>List.mem_append_left _ (hpd p hp)) (stat (λp hp=>by have:p∈[]++[(D,_)]:=hp;rw [List.nil_append] at this;rw [List.mem_singleton.mp this]) fr3) st3 stop) λr s4 ⟨hr,J4⟩=>?_)
   subst hr
   obtain ⟨m4,n4,_⟩:=id J4.loc
   have o4:=(J4.pin (D,_) (List.mem_append_right _ (List.mem_append_right _ (List.mem_singleton.mpr rfl)))).1
   have hC4:H3 C=none:=J4.free
   have hDC':C≠D:=Ne.symm hDC
   refine hRR D C s4 H3 ys m4 hD3 (I.call' (ch:=fp) J4.os ?_ ?_ J4.bare (λb hb=>?_)) n4 (fC (by rw [Zae hDC'];exact hC4)) qe
   ·have u:=J4.base
    have nD:∀ b o,s.heap.get? b=some o->b≠D:=λb o e=>by rw [<- hDe];exact Nat.ne_of_lt (Heap.lt_size e)
    have nD2:∀ b o,H b=some o->b≠D:=λb o e=>Zai e HD
    exact ⟨u.keep,u.slot,λb o e n hx=>by rw [Zae (nD b o e)];exact u.free b o e n hx,u.there,λb xs e=>by rw [Zae (nD2 b _ e)];exact u.tups b xs e,
     λb o w e=>by rw [Zae (nD2 b _ e)];exact u.frzs b o w e,λb ps e=>by rw [Zae (nD2 b _ e)];exact u.tbls b ps e⟩
   ·intro b o e
    by_cases hbD:b=D
    ·subst hbD
     rw [Zab] at e
     cases e
     exact ⟨z3,its,nn,v3,o4⟩
    ·rw [Zae hbD] at e
     exact (J4.hok b o e).stay (λc u _ q=>q) (λc q=>by rw [Zae (Zai q hD3)];exact q) λc xs q=>by rw [Zae (Zai q hD3)];exact q
   ·obtain ⟨a0,a1,a2,a3,a4,a5⟩:=f2 b hb
    exact ⟨a3,a1,a4,a5⟩
  ·refine noE (thn (T.item (ZaB X N' scope C s H fp (X.pn++pins)) rfl rfl rfl hc i _ s3 _ H3 _ I3' (λp hp=>List.mem_append_left _ (hpd p hp)) (stat (λp hp=>by have:p∈[]++[(D,_)]:=hp;rw [List.nil_append] at this;rw [List.mem_singleton.mp this]) fr3) st3 go) λr s4 ⟨u,hr,h4⟩=>?_)
   subst hr
   refine noE (thn h4 λ_ s5 ⟨x,H5,I5,r5,y5,st5,fr5⟩=>?_)
   obtain ⟨hb1,hb2,hb3⟩:=hb C s H fp (X.pn++pins)
   have I5':=I5.pinned (stat (λp hp=>by have:p∈[]++[(D,_)]:=hp;rw [List.nil_append] at this;rw [List.mem_singleton.mp this]) fr5) (T.obj _ _ st5)
   refine noE (thn (hb1 _ s5 _ H5 x u _ I5' r5 (hgk _ _ _ _ (step x H5 y5))) λ_ s6 ⟨σ6,H6,I6,hw6,q6⟩=>?_)
   refine noE (thn (hb2 _ s6 σ6 H6 _ I6 q6) λok s7 ⟨H7,I7,q7⟩=>?_)
   -- what stands behind the turn
   have back:∀ {σ8:St} {H8:Hp} {s8:Shared},Inv (ZaB X N' scope C s H fp (X.pn++pins)) (([]++[(D,{ cls:=.type "list",data:=.seq (List.toArray its) nn })])++Zdw fp s5.heap) σ8 H8 s8 ->
     tn (i+1) s8.heap/\(∀ b∈fp,H8 b=none)/\H8 D=none/\s8.heap.get? D=some { cls:=.type "list",data:=.seq (List.toArray its) nn }:=λ{σ8 H8 s8} J8=>by
    refine ⟨T.keep _ _ _ st5 λb hb o e=>(J8.pin (b,o) (List.mem_append_right _ (List.mem_append_right _ (Zbh hb e)))).1,λb hb=>?_,?_,?_⟩
    ·obtain ⟨o,e,d⟩:=T.obj _ _ st5 b hb
     exact (J8.pin (b,o) (List.mem_append_right _ (List.mem_append_right _ (Zbh hb e)))).2.1
    ·exact (J8.pin (D,_) (List.mem_append_right _ (List.mem_append_left _ (List.mem_append_right _ (List.mem_singleton.mpr rfl))))).2.1
    ·exact (J8.pin (D,_) (List.mem_append_right _ (List.mem_append_left _ (List.mem_append_right _ (List.mem_singleton.mpr rfl))))).1
   have weak:∀ {H8:Hp} {s8:Shared} {ps:List (Addr×Obj)},Inv (ZaB X N' scope C s H fp (X.pn++pins)) ps σ6 H8 s8->Inv (ZaB X N' scope C s H fp (X.pn++pins)) [] (selS sel σ) H8 s8:=λ{H8 s8 ps} J8 =>
    (J8.pins_of (pins':=[]) λp hp=>by simp at hp).weak (by rw [J8.len];exact I4.len) hw6
   cases ok with
   |false =>
    obtain ⟨st8,fr8,hD8,o8⟩:=back I7
    obtain ⟨m',hm,w8⟩:=hNn ys H7 q7
    exact ⟨m',hm,i+1,H7,ys,its,nn,weak I7,st8,fr8,hD8,o8,v3,z3,w8⟩
   |true =>
    refine noE (thn (hb3 _ s7 σ6 H7 _ I7 q7) λy s8 ⟨yv,H8,I8,ry,q8⟩=>?_)
    obtain ⟨st8,fr8,hD8,o8⟩:=back I8
    obtain ⟨m',hm,w8⟩:=hNn _ _ q8
    have hl:=v3.length
    refine call_meets F.slot_list_append ⟨_,o8,rfl⟩ F.entry_list_append (F.args_list_append_2 _ _) (PySem.list_append D (List.toArray its) nn y (by rw [List.size_toArray];omega)) ⟨o8,?_⟩
    have q:=PySem.IsL.update o8 (λz=>z.push y)
    rw [show (List.toArray its).push y=(its++[y]).toArray by simp] at q
    have kp:∀ b o,b≠D->s8.heap.get? b=some o->(s8.heap.update D (Obj.mapSeq λz=>z.push y)).get? b=some o:=λb o hb e=>(Heap.get?_update_other s8.heap (Obj.mapSeq λz=>z.push y) (Ne.symm hb)).trans e
    refine ⟨m',hm,i+1,H8,ys++[yv],its++[y],_,(weak I8).turned (t':=s8.toks) kp hD8 hDC (.inr (by show s.heap.objs.size<=D;rw [hDe];exact Nat.le_refl _)) (λx c h=>(fD HD).2.2.2.2.1 x c ((Zba I k).2 x c h).1) (λp hp=>(fD HD).2.2.2.2.2 p (by have:p∈(X.pn++pins)++[]:=hp;rwa [List.append_nil] at this)),
     T.keep _ _ _ st8 (λb hb o e=>kp b o (Nat.ne_of_lt (hfl b hb)) e),fr8,hD8,q,v3.append (.cons ry .nil),?_,w8⟩
    rw [List.length_append,List.length_singleton]
    omega
 exact codeAny_compStart_list (loop _ rfl) (T.self _ 0 _ _ _ hst₁ (loop _ rfl))

def tLcI (sel:List (Option Nat)) (td:TE) (g:TG) (tt:TT) (te:TE):TE:=λσ H Q=>td σ H λx H1=>∃ d kvs,x=.ref d/\H1 d=some (.dK kvs)/\∃ W:Nat->Nat->List V->Hp->Prop,(∃ m,W 0 m [] (del H1 d)) /\
 ZbF sel g tt te σ (Iti kvs) W λys G=>∀ D,G D=none->D≠d->Q (.ref D) (upd (upd G D (.lst ys)) d (.dK kvs))
theorem Zlq {elt o:Expr} {es:List Expr} {x1} {tpos apos cpos:Pos} {ifs:List Expr} {scope:Scope} {pos:Pos} {td:TE} {N':List Str} {sel:List (Option Nat)} {g:TG} {tt:TT} {te:TE}
  (hc:X.calm=true) (hk:scope.kind=.function) (chk:Zb4 scope X.env.scope X.N N' sel=true) (ho:PE X o td) (hgk:Zcs sel g)
  (hb:∀ (C:Addr) (s:Shared) (H:Hp) (fp:List Addr) (pn:List (Addr×Obj)),PG (ZaB X N' scope C s H fp pn) (.Tuple es x1 tpos) g/\PTs (ZaB X N' scope C s H fp pn) ifs tt/\PE (ZaB X N' scope C s H fp pn) elt te)
  (hbase:attributeBase o "items" X.env (eval o X.env)=eval o X.env:=by rfl) (hline:(apos.endLine == cpos.line)=true:=by rfl)
  (hs:∀ x,foldedSetIterable (.Call (.Attribute o "items" apos) [] [] cpos) X.env x=pure x:=by intro _;rfl):PE X (.ListComp elt [⟨.Tuple es x1 tpos,.Call (.Attribute o "items" apos) [] [] cpos,ifs,0⟩] scope pos) (tLcI sel td g tt te):=by
 intro pins s σ H Q I h
 have k:=Zj5 chk
 rw [eval_ListComp]
 refine wpAny_comprehension_free (use:=none) rfl hs (ZbJ (Zba I k).1) hk k.lo ?_
 refine wpAny_Call_method0_late hbase hline (thn (ho pins s σ H _ I h) λv s1 ⟨x,H1,I1,rx,d,kvs,ex,ed,W,⟨m0,w0⟩,turn⟩=>?_)
 subst ex
 obtain rfl:v=Value.ref d:=rx
 obtain ⟨ob,vs,ep,hob,hS,rel,hat,IF,back⟩:=I1.forget ed
 have dt:=hat _ hob
 have dof:s1.heap.DictOf (ZaA X.prog X.w) d vs:=by obtain ⟨o',es',q⟩:=dt;exact ⟨o',es',ep,q⟩
 have t2:∀ b,Value.ref d=.ref b->∃ ob,s1.heap.get? b=some ob/\ob.dict=none:=by
  intro b hb
  cases hb
  obtain ⟨o',es',ep',h1,h2,_⟩:=dof
  exact ⟨o',h1,h2.2.1⟩
 refine ⟨"dict",_,PySem.F.plainAttrs_dict,PySem.F.slot_dict_items,PySem.F.type_dict_items,dof.typeIs,t2,Calls.callWith_builtin rfl (PySem.evalArgs_none ?_)⟩
 refine call_meetsIn PySem.F.slot_dict_items dof.typeIs PySem.F.entry_dict_items (PySem.F.args_dict_items_1 _) (meets_dict_items (ZaA X.prog X.w) d hS) ⟨⟨_,dof⟩,?_⟩
 have hd1:d<s1.heap.objs.size:=Heap.lt_size hob
 have keep1:∀ b u,s1.heap.get? b=some u->(s1.heap.push { cls:=.type "dict_items",data:=.fields #[.ref d] }).get? b=some u:=λb u q=>Heap.get?_push_of_some _ q
 refine wpAny_pyIter_items (knd:=ZaA X.prog X.w) (d:=d) ⟨_,Heap.get?_push_size _ rfl,rfl,rfl⟩ (hat _ (keep1 _ _ hob)) ?_
 have sz:(s1.heap.push { cls:=.type "dict_items",data:=.fields #[.ref d] }).objs.size=s1.heap.objs.size+1:=by rw [Heap.size_push]
 have I2:=IF.kept (t':=s1.toks) (h':=(s1.heap.push { cls:=.type "dict_items",data:=.fields #[.ref d] }).push { cls:=.type "dict_itemiterator",data:=.fields #[.none,.bool false,.ref d,.int 0 0,.int vs.length 0,.int ep 0,.none,.none] }) λb u q=>Heap.get?_push_of_some _ (keep1 b u q)
 refine ZhL (pd:=[(d,ob)]) (fp:=[(s1.heap.push { cls:=.type "dict_items",data:=.fields #[.ref d] }).objs.size]) (RR:=λacc C=>compPost (model X.prog X.w) X.A X.xe none (EP X pins σ Q) acc C) hc hk k I2 (λp hp=>List.mem_append_right _ (List.mem_append_right _ hp))
  (Zgc d _ ob kvs vs ep (by rw [sz];exact Nat.ne_of_lt (Nat.lt_succ_of_lt hd1)) rel hat) ⟨_,_,Heap.get?_push_size _ rfl⟩ (λb hb=>?_) hb hgk w0 turn ?_
 ·have z:b=(s1.heap.push { cls:=.type "dict_items",data:=.fields #[.ref d] }).objs.size:=by simpa using hb
  subst z
  exact IF.fpOk (by rw [sz];omega) (IF.hok.fresh (by rw [sz];omega))
 ·intro D C s' H' ys m hD I' hns fC q
  have hDd:D≠d:=λz=>by
   have:=(I'.pin (d,ob) (List.mem_append_right _ (List.mem_append_right _ (List.mem_singleton.mpr rfl)))).2.1
   rw [z,Zab] at this
   cases this
  refine ⟨m,hns,λh' hs'=>?_⟩
  have I3:=I'.turned (t':=s'.toks) (λb o hb e=>(hs'.2 b hb).trans e) fC.1 fC.2.1 fC.2.2.2.1 fC.2.2.2.2.1 fC.2.2.2.2.2
  exact ⟨.ref D,_,back _ _ _ I3,rfl,q D hD hDd⟩
theorem Zi8 {kvs:List (Key×V)} {sel:List (Option Nat)} {g:TG} {tt:TT} {te:TE} {σ:St} {H:Hp} {Qe:List V->Hp->Prop} (Pv:Nat->List V->Hp->Prop) (h0:Pv 0 [] H)
  (hl:∀ i ys H,i<=kvs.length->Pv i ys H->ys.length<=i) (hz:kvs.length<=sizeLine)
  (hs:∀ i kv ys H p,kvs[i]?=some kv->Pv i ys H->H p=none->g (.ref p) (selS sel σ) (upd H p (.tup [kV kv.1,kv.2])) λσ2 H2=>tt σ2 H2 λb H3=>if b=true then te σ2 H3 λy H4=>Pv (i+1) (ys++[y]) H4 else Pv (i+1) ys H3)
  (hd:∀ ys H,Pv kvs.length ys H->Qe ys H):∃ W:Nat->Nat->List V->Hp->Prop,(∃ m,W 0 m [] H)/\ZbF sel g tt te σ (Iti kvs) W Qe:=by
 refine ⟨λi m ys H=>m=kvs.length-i/\i<=kvs.length/\Pv i ys H,⟨_,rfl,Nat.zero_le _,h0⟩,?_⟩
 rintro i m ys H ⟨rfl,hi,p⟩
 have hy:=hl i ys H hi p
 by_cases e:i=kvs.length
 ·subst e
  exact .inl ⟨Nat.le_refl _,hd _ _ p⟩
 ·have hlt:i<kvs.length:=Nat.lt_of_le_of_ne hi e
  refine .inr ⟨hlt,by omega,Pv (i+1),λys' H' p'=>⟨kvs.length-(i+1),by omega,rfl,hlt,p'⟩,?_⟩
  rintro x H' ⟨q,kv,rfl,hq,rfl,hx⟩
  exact hs i kv ys H q hx p hq
end
end L2
namespace L2
open PySem
def Rise (xs:Array Nat):Prop:=∀ (i j:Nat) (hi:i<xs.size) (hj:j<xs.size),i<j->xs[i]<xs[j]
theorem Zl2 {xs:Array Nat} (r:Rise xs) (j:Nat):∀ (f lo hi:Nat),hi<=xs.size->lo<=hi->hi-lo<=f->(∀ i (h:i<xs.size),i<lo->xs[i]<j)->(∀ i (h:i<xs.size),hi<=i->j<=xs[i]) ->
  SetTable.below.go xs j f lo hi<=xs.size/\(∀ i (h:i<xs.size),i<SetTable.below.go xs j f lo hi->xs[i]<j)/\(∀ i (h:i<xs.size),SetTable.below.go xs j f lo hi<=i->j<=xs[i]):=by
 intro f
 induction f with
 |zero =>
  intro lo hi h1 h2 h3 h4 h5
  have e:lo=hi:=by omega
  subst e
  exact ⟨h1,h4,h5⟩
 |succ f ih =>
  intro lo hi h1 h2 h3 h4 h5
  unfold SetTable.below.go
  by_cases hl:lo<hi
  ·rw [if_pos hl]
   dsimp only
   have hm:(lo+hi) / 2<xs.size:=by omega
   have eg:xs.getD ((lo+hi) / 2) j=xs[(lo+hi) / 2]:=by simp [hm]
   rw [eg]
   by_cases hc:xs[(lo+hi) / 2]<j
   ·rw [if_pos hc]
    refine ih _ _ h1 (by omega) (by omega) (λi h hi'=>?_) h5
    by_cases q:i<(lo+hi) / 2
    ·exact Nat.lt_trans (r i _ h hm q) hc
    ·have:i=(lo+hi) / 2:=by omega
     subst this;exact hc
   ·rw [if_neg hc]
    refine ih _ _ (by omega) (by omega) (by omega) h4 (λi h hi'=>?_)
    by_cases q:(lo+hi) / 2<i
    ·have:=r _ i hm h q
     omega
    ·have:i=(lo+hi) / 2:=by omega
     subst this;omega
  ·rw [if_neg hl]
   have e:lo=hi:=by omega
   subst e
   exact ⟨h1,h4,h5⟩
theorem bel {xs:Array Nat} (r:Rise xs) (j:Nat):SetTable.below xs j<=xs.size/\(∀ i (h:i<xs.size),i<SetTable.below xs j->xs[i]<j)/\(∀ i (h:i<xs.size),SetTable.below xs j<=i->j<=xs[i]) :=
 Zl2 r j _ _ _ (Nat.le_refl _) (Nat.zero_le _) (by omega) (λi _ h=>absurd h (Nat.not_lt_zero _)) (λi h q=>absurd h (by omega))
theorem ZjB {xs:Array Nat} (r:Rise xs):SetTable.below xs 0=0:=by
 obtain ⟨h1,h2,h3⟩:=bel r 0
 by_cases h:SetTable.below xs 0=0
 ·exact h
 ·exact absurd (h2 0 (by omega) (by omega)) (Nat.not_lt_zero _)
theorem ZjC {xs:Array Nat} (r:Rise xs) {i:Nat} (hi:i<xs.size):SetTable.below xs (xs[i]+1)=i+1:=by
 obtain ⟨h1,h2,h3⟩:=bel r (xs[i]+1)
 have a:¬ SetTable.below xs (xs[i]+1)<=i:=λq=>by have:=h3 i hi q;omega
 by_cases b:i+1<SetTable.below xs (xs[i]+1)
 ·have:=h2 (i+1) (by omega) b
  have:=r i (i+1) hi (by omega) (by omega)
  omega
 ·omega
theorem Zkm {xs:Array Nat} (r:Rise xs) {j:Nat} (hn:¬ xs[SetTable.below xs j]?=some j):Rise (SetTable.insertAt xs (SetTable.below xs j) j):=by
 obtain ⟨h1,h2,h3⟩:=bel r j
 generalize SetTable.below xs j=p at h1 h2 h3 hn
 have h4:∀ i (h:i<xs.size),p<=i->j<xs[i]:=λi h q=>by
  have a:=h3 i h q
  by_cases e:i=p
  ·subst e
   have:xs[i]≠j:=λz=>hn (by rw [Array.getElem?_eq_getElem h,z])
   omega
  ·have b:=r p i (by omega) h (by omega)
   have c:=h3 p (by omega) (Nat.le_refl _)
   omega
 have sz:(SetTable.insertAt xs p j).size=xs.size+1:=by
  simp [SetTable.insertAt];omega
 have at_:∀ i (h:i<(SetTable.insertAt xs p j).size),(SetTable.insertAt xs p j)[i]=if h':i<p then xs[i]'(by omega) else if h2:i=p then j else xs[i-1]'(by rw [sz] at h;omega):=by
  intro i h
  have h':i<xs.size+1:=by rw [<- sz];exact h
  have e:(SetTable.insertAt xs p j)[i]?=(xs.toList.take p++j::xs.toList.drop p)[i]?:=by
   rw [<- Array.getElem?_toList]
   congr 1
   simp [SetTable.insertAt,List.extract_eq_take_drop,List.take_of_length_le]
  have e2:(SetTable.insertAt xs p j)[i]?=some (SetTable.insertAt xs p j)[i]:=Array.getElem?_eq_getElem h
  rw [e2] at e
  by_cases c1:i<p
  ·rw [dif_pos c1]
   rw [List.getElem?_append_left (by simp;omega),List.getElem?_take_of_lt c1,Array.getElem?_toList,Array.getElem?_eq_getElem (by omega)] at e
   exact Option.some.inj e
  ·rw [dif_neg c1]
   rw [List.getElem?_append_right (by simp;omega)] at e
   have l:(xs.toList.take p).length=p:=by simp;omega
   rw [l] at e
   by_cases c2:i=p
   ·rw [dif_pos c2]
    subst c2
    rw [Nat.sub_self,List.getElem?_cons_zero] at e
    exact Option.some.inj e
   ·rw [dif_neg c2]
    obtain ⟨k,rfl⟩:∃ k,i=p+k+1:=⟨i-p-1,by omega⟩
    rw [show p+k+1-p=k+1 by omega,List.getElem?_cons_succ,List.getElem?_drop,Array.getElem?_toList,Array.getElem?_eq_getElem (by omega)] at e
    exact Option.some.inj e
 intro a b ha hb hab
 rw [at_ a ha,at_ b hb]
 rw [sz] at ha hb
 by_cases c1:b<p
 ·rw [dif_pos c1,dif_pos (by omega)]
  exact r a b _ _ hab
 ·rw [dif_neg c1]
  by_cases c2:b=p
  ·rw [dif_pos c2,dif_pos (by omega)]
   exact h2 a _ (by omega)
  ·rw [dif_neg c2]
   by_cases c3:a<p
   ·rw [dif_pos c3]
    exact Nat.lt_trans (h2 a (by omega) c3) (h4 (b-1) (by omega) (by omega))
   ·rw [dif_neg c3]
    by_cases c4:a=p
    ·rw [dif_pos c4]
     exact h4 (b-1) (by omega) (by omega)
    ·rw [dif_neg c4]
     exact r (a-1) (b-1) _ _ (by omega)
theorem Zkl {l:List Nat} (h:l.Pairwise (· < ·)):Rise l.toArray:=λi j hi hj hij=>by
 have:=List.pairwise_iff_getElem.mp h i j (by simpa using hi) (by simpa using hj) hij
 simpa using this
structure Tb (t:SetTable) (led:Bool):Prop where
 rise:Rise t.place
 dum:t.dummies=#[]
 led:t.led=led
theorem Tb.fresh (b:Bool):Tb (SetTable.fresh 0 0 b) b:=⟨λi j hi=>absurd hi (by simp [SetTable.fresh]),rfl,rfl⟩
theorem Tb.standIn {t:SetTable} {b:Bool} (h:Tb t b) (n:Nat):Tb (t.standIn n) b:=by
 refine ⟨λi j hi hj hij=>?_,rfl,h.led⟩
 simp [SetTable.standIn]
 exact hij
theorem Tb.slot {t:SetTable} {b:Bool} (h:Tb t b) (j:Nat):t.slot j≠.dummy/\(t.slot j=.empty->¬ t.place[SetTable.below t.place j]?=some j):=by
 unfold SetTable.slot
 dsimp only
 by_cases e:t.place[SetTable.below t.place j]?=some j
 ·have:(t.place[SetTable.below t.place j]? == some j)=true:=by rw [e];simp
  rw [if_pos this]
  exact ⟨(λz=>nomatch z),(λz=>nomatch z)⟩
 ·have:¬ (t.place[SetTable.below t.place j]? == some j)=true:=by simpa using e
  rw [if_neg this]
  have hd:SetTable.has t.dummies j=false:=by rw [h.dum];simp [SetTable.has,SetTable.below,SetTable.below.go]
  rw [hd]
  exact ⟨(λz=>nomatch z),λ_=>e⟩
theorem Tb.probe {t:SetTable} {b:Bool} (h:Tb t b) (ha:Nat->Int) (x:Int):∀ (f:Nat) (p:SetTable.Probe),p.dummy=none->∀ j d,SetTable.probe.go t ha x f p=some (.empty j d)->d=none/\t.slot j=.empty:=by
 intro f
 induction f with
 |zero=>intro p _ j d e;cases e
 |succ f ih =>
  intro p hp j d e
  unfold SetTable.probe.go at e
  cases q:t.slot p.j with
  |empty =>
   rw [q] at e
   simp only [Option.some.injEq,SetTable.Met.empty.injEq] at e
   obtain ⟨e1,e2⟩:=e
   subst e1
   exact ⟨e2.symm.trans hp,q⟩
  |dummy=>exact absurd q (h.slot p.j).1
  |live i =>
   rw [q] at e
   dsimp only at e
   have hp':(t.advance p).dummy=none:=by
    unfold SetTable.advance
    split
    ·exact hp
    ·exact hp
   split at e
   ·cases e
   ·exact ih _ hp' j d e
theorem Tb.layNew {t:SetTable} {b:Bool} (h:Tb t b) (es:Array (Int×Value)) (x:Int) (v:Value):Tb (PySem.layNew t es x v).2.1 b:=by
 unfold PySem.layNew
 cases q:t.freeSlot x with
 |none=>exact h.standIn _
 |some sw =>
  obtain ⟨sl,wd⟩:=sw
  dsimp only
  have hs:¬ t.place[SetTable.below t.place sl]?=some sl:=by
   unfold SetTable.freeSlot at q
   cases m:t.probe (λ_=>x+1) x (t.probeStart x) with
   |none=>rw [m] at q;cases q
   |some me =>
    rw [m] at q
    cases me with
    |candidate _ _ _=>cases q
    |empty j d =>
     obtain ⟨e1,e2⟩:=h.probe _ _ _ _ (by rfl) _ _ m
     subst e1
     simp only [Option.some.injEq,Prod.mk.injEq,Option.getD_none] at q
     rw [<- q.1]
     exact (h.slot j).2 e2
  have hp:Tb (t.put sl).1 b:=by
   refine ⟨Zkm h.rise hs,?_,h.led⟩
   show (if SetTable.has t.dummies sl then _ else t.dummies)=_
   have hd:SetTable.has t.dummies sl=false:=by rw [h.dum];simp [SetTable.has,SetTable.below,SetTable.below.go]
   rw [hd]
   exact h.dum
  unfold SetTable.orStandIn
  split
  ·exact hp
  ·exact hp.standIn _
theorem Tb.relay {t:SetTable} {b:Bool} (h:Tb t b) (es:Array (Int×Value)) (n:Nat):Tb (relayAll t es n).2.1 b:=by
 unfold relayAll
 cases q:t.relaid (es.map (·.1)) n with
 |none=>exact h.standIn _
 |some r =>
  obtain ⟨t',order⟩:=r
  dsimp only
  split
  ·unfold SetTable.relaid SetTable.laid at q
   cases m:SetTable.layClean (SetTable.sizeAbove n-1) (es.map (·.1)) with
   |none=>rw [m] at q;cases q
   |some ow =>
    rw [m] at q
    simp only [Option.bind_eq_bind,Option.bind_some,Option.pure_def,Option.some.injEq,Prod.mk.injEq] at q
    obtain ⟨e1,_⟩:=q
    subst e1
    refine ⟨Zkl ?_,rfl,h.led⟩
    rw [List.map_filterMap]
    refine List.Pairwise.filterMap (R:=(· < ·)) _ (λa a' haa c hc c' hc'=>?_) List.pairwise_lt_range
    simp at hc hc'
    omega
  ·exact h.standIn _
end L2
namespace L2
open PySem PySem.Spec PyProof.Rows
def iv:Value->Int
 |.int n _=>n
 |_=>0
structure Se (P:Program) (w:World) (h:Heap) (a:Addr) (led:Bool) (es:Array (Int×Value)) (ep:Nat) (t:SetTable):Prop where
 at_:h.get? a=some { cls:=.type "set",data:=.set es ep t }
 el:ElemsOf (intKind P w) es.toList
 all:∀ e∈es.toList,∃ n tk,e.2=.int n tk
 nd:(es.toList.map λe=>iv e.2).Nodup
 small:es.size<scanBound
 fits:t.fits es.size=true
 tb:Tb t led
def SI (P:Program) (w:World) (h:Heap) (a:Addr) (led:Bool) (ms:List Int) (c:Nat):Prop :=
 ∃ es ep t,Se P w h a led es ep t/\(∀ k,k∈ms↔k∈es.toList.map λe=>iv e.2)/\es.size<=c
theorem ik_is {P:Program} {w:World} {k n:Int} {tk:Tok}:(intKind P w).is k (.int n tk)=true↔k=n:=by
 constructor
 ·intro h
  exact (intKind P w).inj _ _ _ h (intKind_is P w n tk)
 ·rintro rfl
  exact intKind_is P w k tk
theorem Zle {P:Program} {w:World} {h:Heap} {a:Addr} {led:Bool} {es es1:Array (Int×Value)} {ep ep1:Nat} {t t1:SetTable} {k:Int} {tk:Tok}
  (hs:Se P w h a led es ep t) (hno:k∉es.toList.map λe=>iv e.2) (hz:es.size+1<scanBound) {h1:Heap} (at1:h1.get? a=some { cls:=.type "set",data:=.set es1 ep1 t1 })
  (hp:List.Perm es1.toList (es.toList++[((intKind P w).hash k,.int k tk)])) (hf:t1.fits es1.size=true) (tb1:Tb t1 led) :
  Se P w h1 a led es1 ep1 t1/\es1.size=es.size+1/\∀ j,j∈(es1.toList.map λe=>iv e.2)↔j∈(es.toList.map λe=>iv e.2)\/j=k:=by
 have hm:List.Perm (es1.toList.map λe=>iv e.2) ((es.toList.map λe=>iv e.2)++[k]):=by
  have:=hp.map λe=>iv e.2
  rwa [List.map_append] at this
 have sz:es1.size=es.size+1:=by
  have:=hp.length_eq
  simpa using this
 refine ⟨⟨at1,?_,λe he=>?_,?_,by omega,hf,tb1⟩,sz,λj=>?_⟩
 ·exact (hs.el.push (intKind_is P w k tk) rfl).perm hp
 ·rcases List.mem_append.mp (hp.mem_iff.mp he) with q | q
  ·exact hs.all e q
  ·rw [List.mem_singleton] at q
   rw [q]
   exact ⟨_,_,rfl⟩
 ·rw [hm.nodup_iff,List.nodup_append]
  refine ⟨hs.nd,by simp,λx hx y hy e=>?_⟩
  rw [List.mem_singleton] at hy
  rw [e,hy] at hx
  exact hno hx
 ·rw [hm.mem_iff,List.mem_append,List.mem_singleton]
theorem ZfM {h:Heap} {a:Addr} {es es1:Array (Int×Value)} {ep:Nat} {t t1:SetTable} (e:h.get? a=some { cls:=.type "set",data:=.set es ep t }) :
  (h.update a (Obj.putSet es1 t1)).get? a=some { cls:=.type "set",data:=.set es1 (ep+1) t1 }:=by
 have q:=Heap.get?_update_self (Obj.putSet es1 t1) e (by rw [putSet_of es1 t1 rfl];rfl)
 rw [putSet_of es1 t1 rfl] at q
 exact q
theorem add_int {P:Program} {w:World} {A:Around} {E:Value->Shared->Prop} {s:Shared} {a:Addr} {led:Bool} {ms:List Int} {c:Nat} {k:Int} {tk:Tok} {Q:Bool->Shared->Prop}
  (hS:SI P w s.heap a led ms c) (hc:c+1<scanBound) (hQ:∀ b h',Heap.SameBut a s.heap h'->SI P w h' a led (ms++[k]) (c+1)->Q b { s with heap:=h' }) :
  wpAny (model P w) A (setAddHashed a (.int k tk) ((intKind P w).hash k)) Q E s:=by
 obtain ⟨es,ep,t,se,mem,le⟩:=hS
 have ik:=intKind_is P w k tk
 unfold setAddHashed setAddHashedIn
 refine wpAny_holding (wpAny_bind (wpAny_setState_of se.at_ rfl se.fits ?_))
 dsimp only
 rw [if_pos (byScan_of rfl se.small se.el)]
 unfold setAddByScan
 refine wpAny_bind (wpAny_bind (wpAny_rule (wpAny_bind (wpAny_setScan_of ik se.at_ rfl se.fits se.el ?_))))
 cases q:List.findIdx? (λe=>(intKind P w).is k e.2) es.toList with
 |some j =>
  obtain ⟨hj,hp,_⟩:=List.findIdx?_eq_some_iff_getElem.mp q
  refine wpAny_pure (wpAny_pure ?_)
  have z:=hQ false s.heap (Heap.SameBut.refl a s.heap) ⟨es,ep,t,se,λx=>?_,by omega⟩
  ·cases s;exact z
  ·rw [List.mem_append,List.mem_singleton,mem x]
   refine ⟨λz=>z.elim id λe=>?_,.inl⟩
   obtain ⟨n,u,en⟩:=se.all _ (List.getElem_mem hj)
   rw [en] at hp
   rw [e,ik_is.mp hp]
   exact List.mem_map.mpr ⟨_,List.getElem_mem hj,by rw [en];rfl⟩
 |none =>
  have hno:k∉es.toList.map λe=>iv e.2:=λz=>by
   obtain ⟨e,he,ek⟩:=List.mem_map.mp z
   obtain ⟨n,u,en⟩:=se.all e he
   have:=List.findIdx?_eq_none_iff.mp q e he
   rw [en] at ek this
   have:(intKind P w).is k (.int n u)=true:=ik_is.mpr ek.symm
   simp_all
  dsimp only
  have hperm:=layNew_perm t es ((intKind P w).hash k) (.int k tk)
  have hfit:=layNew_fits t es ((intKind P w).hash k) (.int k tk)
  have htb:=se.tb.layNew es ((intKind P w).hash k) (.int k tk)
  generalize layNew t es ((intKind P w).hash k) (.int k tk)=L at hperm hfit htb |-
  obtain ⟨es1,t1,wd,gv⟩:=L
  dsimp only at hperm hfit htb |-
  rw [Array.toList_push] at hperm
  have zz:es.size+1<scanBound:=by omega
  have fin:∀ h1 es2 ep2 t2,h1.get? a=some { cls:=.type "set",data:=.set es2 ep2 t2 }->List.Perm es2.toList (es.toList++[((intKind P w).hash k,.int k tk)])->t2.fits es2.size=true->Tb t2 led->SI P w h1 a led (ms++[k]) (c+1):=λh1 es2 ep2 t2 e1 e2 e3 e4=>by
   obtain ⟨s1,s2,s3⟩:=Zle se hno zz e1 e2 e3 e4
   exact ⟨es2,ep2,t2,s1,λx=>by rw [List.mem_append,List.mem_singleton,mem x,s3 x],by omega⟩
  have main:∀ t2:SetTable,t2.fits es1.size=true->Tb t2 led->∀ g:Bool->Sem Unit,(∀ (b:Bool) (s1:Shared) (R:Unit->Shared->Prop),R () s1->wpAny (model P w) A (g b) R E s1)->wpAny (model P w) A (do
    storeSet a es1 t2
    if (!wd&&t2.tooFull)=true then do
      g (relayAll t2 es1 (SetTable.grown es1.size)).2.2
      storeSet a (relayAll t2 es1 (SetTable.grown es1.size)).1 (relayAll t2 es1 (SetTable.grown es1.size)).2.1
      pure (some true)
     else pure (some true)) (λo s'=>wpAny (model P w) A (match o with | some added=>pure added | none=>setAddHashedIn a (.int k tk) ((intKind P w).hash k) 99999) Q E s') E s:=by
   intro t2 f2 b2 g hg
   have z1:es1.size<=sizeLine:=fits_of_scanBound (by have:=hperm.length_eq;simp at this;omega)
   refine wpAny_bind (wpAny_storeSet_of se.at_ rfl ?_ z1)
   split
   ·have hp2:=relayAll_perm t2 es1 (SetTable.grown es1.size)
    have hf2:=relayAll_fits t2 es1 (SetTable.grown es1.size)
    have hb2:=b2.relay es1 (SetTable.grown es1.size)
    generalize relayAll t2 es1 (SetTable.grown es1.size)=Rl at hp2 hf2 hb2 |-
    obtain ⟨es2,t3,gv2⟩:=Rl
    dsimp only at hp2 hf2 hb2 |-
    have z2:es2.size<=sizeLine:=by have:=hp2.length_eq;simp at this;omega
    refine wpAny_bind (hg _ _ _ (wpAny_bind (wpAny_storeSet_of (ZfM se.at_) rfl (wpAny_pure (wpAny_pure ?_)) z2)))
    exact hQ _ _ ((Heap.SameBut.update s.heap a _).trans (Heap.SameBut.update _ a _)) (fin _ _ _ _ (ZfM (ZfM se.at_)) (hp2.trans hperm) hf2 hb2)
   ·exact wpAny_pure (wpAny_pure (hQ _ _ (Heap.SameBut.update s.heap a _) (fin _ _ _ _ (ZfM se.at_) hperm f2 b2)))
  refine wpAny_bind ?_
  cases gv
  all_goals first | refine wpAny_pure ?_ | refine wpAny_rule ?_
  all_goals
   by_cases pl:t1.plain=true
   ·rw [if_pos pl,hashByValue_scannable 8 rfl]
    exact wpAny_bind (wpAny_pure (main t1 hfit htb _ λb s1 R z=>by cases b<;>first | exact wpAny_pure z | exact wpAny_rule z))
   ·rw [if_neg pl]
    exact wpAny_bind (wpAny_pure (main t1 hfit htb _ λb s1 R z=>by cases b<;>first | exact wpAny_pure z | exact wpAny_rule z))
end L2
namespace L2
open PySem PySem.Spec PyProof.Rows
theorem ZgF {M:Model} {A:Around} {E:Value->Shared->Prop} {s:Shared} {src:Source} {n:Nat} {Q:Nat->Shared->Prop} (hn:n≠0) (h:∀ i,i<n->Q i { s with drawn:=s.drawn.bump src }):wpAny M A (choose src n) Q E s :=
 λ_ _ _=>⟨hn,h _ (Nat.mod_lt _ (Nat.pos_of_ne_zero hn))⟩
theorem ZcG {α:Type}:∀ (l:List α) (i:Nat) (h:i<l.length),List.Perm (l[i]::l.eraseIdx i) l
 |[],_,h=>absurd h (Nat.not_lt_zero _)
 |x::r,0,_=>.rfl
 |x::r,i+1,h=>((List.Perm.swap _ _ _)).trans ((ZcG r i (by simpa using h)).cons x)
theorem ZgA {M:Model} {A:Around} {E:Value->Shared->Prop} {α:Type}:∀ (n:Nat) (xs:List α) (s:Shared) (Q:List α->Shared->Prop),xs.length=n->(∀ ys d,List.Perm ys xs->Q ys { s with drawn:=d })->wpAny M A (drawOrder n xs) Q E s:=by
 intro n
 induction n with
 |zero =>
  intro xs s Q e h
  obtain rfl:=List.length_eq_zero_iff.mp e
  unfold drawOrder
  have q:=h [] s.drawn .rfl
  exact wpAny_pure (by cases s;exact q)
 |succ n ih =>
  intro xs s Q e h
  cases xs with
  |nil=>cases e
  |cons x r =>
   unfold drawOrder
   refine wpAny_bind (ZgF (by simp) λi hi=>?_)
   have hg:(x::r)[i]?=some (x::r)[i]:=List.getElem?_eq_getElem hi
   rw [hg]
   refine wpAny_bind (ih _ _ _ (by rw [List.length_eraseIdx_of_lt hi];simpa using e) λys d p=>wpAny_pure ?_)
   exact h _ d ((p.cons _).trans (ZcG _ _ hi))
theorem Zcd {α:Type} (nx:Nat->Nat):∀ (n k:Nat) (l:List α) (out:Array α),l.length=n->List.Perm (pickOrder.go nx n k l out).toList (out.toList++l)
 |0,k,l,out,e=>by
  have:l=[]:=List.length_eq_zero_iff.mp e
  subst this
  unfold pickOrder.go
  simp
 |n+1,k,l,out,e=>by
  unfold pickOrder.go
  have hi:nx k%l.length<l.length:=Nat.mod_lt _ (by omega)
  rw [List.getElem?_eq_getElem hi]
  dsimp only
  refine (Zcd nx n (k+1) _ _ (by rw [List.length_eraseIdx_of_lt hi];omega)).trans ?_
  rw [Array.toList_push,List.append_assoc]
  exact (ZcG _ _ hi).append_left _
theorem Zf4:entryFor table "set_iterator.__next__"=some Builtin.«set_iterator.__next__»:=entryFor_of_tree (by kernel_rfl)
theorem sl_sit:Slot "set_iterator" "__next__" "set_iterator.__next__" :=
 .of (owner:="set_iterator") (n:="__next__") (by rw [typeLookup_type,builtinLookup_eq_fast];kernel_rfl) (by decide +kernel) (by decide +kernel) (by decide +kernel) (by first | exact .inl (by decide +kernel) | exact .inr (by decide +kernel)) (by rw [isSubtype_type];kernel_rfl)
theorem Zf8 (a:Value):argsOk "set_iterator.__next__" ⟨[a],[]⟩:=by unfold argsOk;kernel_rfl
theorem ZlT:entryFor table "set.__iter__"=some Builtin.«frozenset.__iter__»:=entryFor_alias (id':="frozenset.__iter__") (by kernel_rfl) rfl (by decide +kernel) (by kernel_rfl)
theorem ZlS:entryFor table "set_iterator.__iter__"=some Builtin.«dict_keyiterator.__iter__»:=entryFor_alias (id':="dict_keyiterator.__iter__") (by kernel_rfl) rfl (by decide +kernel) (by kernel_rfl)
theorem ZjL:Slot "set_iterator" "__iter__" "set_iterator.__iter__" :=
 .of (owner:="set_iterator") (n:="__iter__") (by rw [typeLookup_type,builtinLookup_eq_fast];kernel_rfl) (by decide +kernel) (by decide +kernel) (by decide +kernel) (by first | exact .inl (by decide +kernel) | exact .inr (by decide +kernel)) (by rw [isSubtype_type];kernel_rfl)
theorem Zl3 (a:Value):argsOk "set_iterator.__iter__" ⟨[a],[]⟩:=by unfold argsOk;kernel_rfl
end L2
namespace L2
open PySem PySem.Spec PyProof.Rows
def sObj (es:Array (Int×Value)) (ep:Nat) (t:SetTable):Obj:={ cls:=.type "set",data:=.set es ep t }
def Zbw (f:Value) (i:Int) (S:Addr) (n ep:Nat):Obj:={ cls:=.type "set_iterator",data:=.fields #[f,rawInt i,.ref S,rawInt n,rawInt ep] }
theorem Zjf {P:Program} {w:World} {A:Around} {E:Value->Shared->Prop} {s:Shared} {S:Addr} {es:Array (Int×Value)} {ep:Nat} {t:SetTable} {Q:Value->Shared->Prop}
  (at_:s.heap.get? S=some (sObj es ep t)) (fits:t.fits es.size=true) (small:es.size<=sizeLine)
  (h1:(!(w.params.followText "set-order")&&(!t.plain&&decide (es.size > 1)))=false->Q (.ref s.heap.objs.size) { s with heap:=s.heap.push (Zbw (rawInt 0) 0 S es.size ep) })
  (h2:w.params.followText "set-order"=false->∀ (ps:List Nat) d,List.Perm ps (List.range es.size) ->
   Q (.ref (s.heap.objs.size+1)) { s with heap:=(s.heap.push { cls:=.type "tuple",data:=.seq (ps.map λ(i:Nat)=>rawInt i).toArray }).push (Zbw (.ref s.heap.objs.size) 0 S es.size ep),drawn:=d }) :
  wpAny (model P w) A (pyIter (.ref S)) Q E s:=by
 have hT:s.TypeIs (.ref S) "set":=⟨_,at_,rfl⟩
 refine wpAny_pyIter_slot hT F.slot_set_iter (wpAny_call_entry F.slot_set_iter hT ZlT ?_ (F.args_set_iter_1 _))
 unfold Builtin.«frozenset.__iter__»
 refine wpAny_bind (wpAny_of_eq (a:=S) rfl ?_)
 unfold Builtin.Frozenset.sizeOf setEntries setDrawn setsByText
 refine wpAny_bind (wpAny_bind (wpAny_bind (wpAny_setState_of at_ rfl fits (wpAny_pure (wpAny_pure ?_)))))
 refine wpAny_bind (wpAny_bind (wpAny_setState_of at_ rfl fits (wpAny_bind (wpAny_bind (wpAny_askSetting (wpAny_pure (wpAny_pure ?_)))))))
 dsimp only
 split
 ·rename_i q
  have q':(!w.params.followText "set-order"&&(!t.plain&&decide (es.size > 1)))=true:=q
  have hf:w.params.followText "set-order"=false:=by
   cases z:w.params.followText "set-order" with
   |false=>rfl
   |true=>rw [z] at q';simp at q'
  refine wpAny_bind (ZgA _ _ _ _ (by simp) λps d hp=>?_)
  have hl:(ps.map λ(i:Nat)=>rawInt i).length=es.size:=by have:=hp.length_eq;simpa using this
  have hz:es.size<=sizeLine:=small
  simp only [newTuple,newFields]
  refine wpAny_bind (wpAny_newObj_type ?_ (show (ps.map λ(i:Nat)=>rawInt i).toArray.size<=sizeLine by rw [List.size_toArray,hl];exact hz))
  have at2:(s.heap.push { cls:=.type "tuple",data:=.seq (ps.map λ(i:Nat)=>rawInt i).toArray }).get? S=some (sObj es ep t):=Heap.get?_push_of_some _ at_
  refine wpAny_bind (wpAny_setEpoch_of (s:={ s with heap:=_,drawn:=d }) at2 rfl fits ?_)
  refine wpAny_bind (wpAny_newObj_type (wpAny_pure ⟨_,rfl, "set_iterator",_,⟨_,Heap.get?_push_size _ rfl,rfl⟩,sl_sit.lookup,?_⟩) (by size_fits))
  have:=h2 hf ps d hp
  have sz:(s.heap.push { cls:=.type "tuple",data:=.seq (ps.map λ(i:Nat)=>rawInt i).toArray }).objs.size=s.heap.objs.size+1:=by rw [Heap.size_push]
  rw [sz]
  exact this
 ·rename_i q
  have q':(!w.params.followText "set-order"&&(!t.plain&&decide (es.size > 1)))=false:=by
   cases z:(!w.params.followText "set-order"&&(!t.plain&&decide (es.size > 1))) with
   |false=>rfl
   |true=>exact absurd z q
  refine wpAny_bind (wpAny_pure ?_)
  simp only [newFields]
  refine wpAny_bind (wpAny_setEpoch_of at_ rfl fits ?_)
  exact wpAny_bind (wpAny_newObj_type (wpAny_pure ⟨_,rfl, "set_iterator",_,⟨_,Heap.get?_push_size _ rfl,rfl⟩,sl_sit.lookup,h1 q'⟩) (by size_fits))
end L2
namespace L2
open PySem PySem.Spec PyProof.Rows
section
variable {P:Program} {w:World} {A:Around} {E:Value->Shared->Prop} {s:Shared} {S I:Addr} {es:Array (Int×Value)} {ep:Nat} {t:SetTable}
theorem Zg8 {j i:Nat} {Q:Option (Value×Nat)->Shared->Prop} (at_:s.heap.get? S=some (sObj es ep t)) (fits:t.fits es.size=true) (ht:w.params.followText "set-order"=true)
  (h:Q (((pickOrder (w.params.setOrder S ep) es)[i]?).map λe=>(e.2,j)) s):wpAny (model P w) A (setNext S j i ep) Q E s:=by
 have ht':(model P w).w.params.followText "set-order"=true:=ht
 unfold setNext setsByText setWalk
 refine wpAny_bind (wpAny_setState_of at_ rfl fits (wpAny_bind (wpAny_bind (wpAny_askSetting (wpAny_pure ?_)))))
 dsimp only
 rw [if_pos ht',if_neg (by simp)]
 unfold setsByText
 refine wpAny_bind (wpAny_bind (wpAny_setState_of at_ rfl fits (wpAny_bind (wpAny_bind (wpAny_askSetting (wpAny_pure ?_))))))
 dsimp only
 rw [if_pos ht']
 exact wpAny_bind (wpAny_askSetting (wpAny_pure (wpAny_pure h)))
theorem Zg9 {j i:Nat} {Q:Option (Value×Nat)->Shared->Prop} (at_:s.heap.get? S=some (sObj es ep t)) (fits:t.fits es.size=true) (ht:w.params.followText "set-order"=false)
  (hd:(!t.plain&&decide (es.size > 1))=false) (hl:t.led=true)
  (h:Q (match es[SetTable.below t.place j]?,t.place[SetTable.below t.place j]? with | some (_,x),some p=>some (x,p+1) | _,_=>none) s):wpAny (model P w) A (setNext S j i ep) Q E s:=by
 have ht':¬ (model P w).w.params.followText "set-order"=true:=by rw [show (model P w).w.params.followText "set-order"=false from ht];simp
 unfold setNext setsByText
 refine wpAny_bind (wpAny_setState_of at_ rfl fits (wpAny_bind (wpAny_bind (wpAny_askSetting (wpAny_pure ?_)))))
 dsimp only
 rw [if_neg ht']
 split
 ·rename_i q
  have q':(!t.plain&&decide (es.size > 1))=true:=q
  rw [hd] at q'
  cases q'
 ·refine wpAny_bind (wpAny_of_eq (a:=()) ?_ (wpAny_pure h))
  show (if (!t.led&&!es.isEmpty)=true then unsupported "set:maker-not-led" else pure ())=pure ()
  rw [hl]
  rfl
theorem ZlG {h:Heap} {f g:Value} {i i':Int} {n:Nat} (e:h.get? I=some (Zbw f i S n ep)) :
  ((h.update I (Obj.mapFields (·.setIfInBounds 0 g))).update I (Obj.mapFields (·.setIfInBounds 1 (rawInt i')))).get? I=some (Zbw g i' S n ep):=by
 have e1:(h.update I (Obj.mapFields (·.setIfInBounds 0 g))).get? I=some (Zbw g i S n ep):=Heap.get?_update_self _ e rfl
 exact Heap.get?_update_self _ e1 rfl
theorem ZkK {h:Heap} {f:Value} {i i':Int} {n:Nat} (e:h.get? I=some (Zbw f i S n ep)):(h.update I (Obj.mapFields (·.setIfInBounds 1 (rawInt i')))).get? I=some (Zbw f i' S n ep):=Heap.get?_update_self _ e rfl
theorem Zef {Q:Option Value->Shared->Prop} (hh:A.handled=none) (hQ:∀ h',(∀ b o,s.heap.get? b=some o->h'.get? b=some o)->Q none { s with heap:=h' }) :
  wpAny (model P w) A.in1 (newExc (Value.type "StopIteration") [] >>= λe=>raiseNew e) (λ(fin:PySem.Fin) s'=>∃ v,fin=Fin.done (Flow.ret v)/\wpAny (model P w) A (pure (some v)) Q E s')
   (λe s'=>wpAny (model P w) A (isInstance e (Value.type "StopIteration") >>= λb=>if b=true then pure none else throw e) Q E s') s:=by
 refine wpAny_bind ?_
 simp only [newExc,newTuple]
 refine wpAny_bind (wpAny_newObj_type (wpAny_bind (m:=firstArgMember _ _) (wpAny_of_eq (a:=Value.none) (by first | rfl | (simp only [firstArgMember];rfl)) (wpAny_newObj_type ?_ (by size_fits)))) (by size_fits))
 simp only [raiseNew]
 refine wpAny_bind (wpAny_handled ?_)
 rw [show A.in1.handled=none from hh]
 refine ((wpAny_bind (wpAny_pure (wpAny_throw ?_))))
 refine ((wpAny_bind (wpAny_isInstance (T:="StopIteration") (b:=true) ⟨_,Heap.get?_push_size _ rfl,rfl⟩ isSubtype_stop ?_)))
 refine (wpAny_pure ?_)
 exact hQ _ λb o e=>Heap.get?_push_of_some _ (Heap.get?_push_of_some _ e)
theorem ZhD {j i j':Nat} {x:Value} {Q:Option Value->Shared->Prop} (it:s.heap.get? I=some (Zbw (rawInt j) i S es.size ep)) (at_:s.heap.get? S=some (sObj es ep t)) (fits:t.fits es.size=true)
  (sn:∀ (A:Around) (E:Value->Shared->Prop) (R:Option (Value×Nat)->Shared->Prop),R (some (x,j')) s->wpAny (model P w) A (setNext S j i ep) R E s)
  (hQ:∀ h',Heap.SameBut I s.heap h'->h'.get? I=some (Zbw (rawInt j') (i+1:Nat) S es.size ep)->Q (some x) { s with heap:=h' }):wpAny (model P w) A (pyNext (.ref I)) Q E s:=by
 have hT:s.TypeIs (.ref I) "set_iterator":=⟨_,it,rfl⟩
 unfold pyNext
 refine wpAny_bind (wpAny_attempt (wpAny_callSpecial?_slot (name:=Str.ofString "__next__") hT sl_sit (wpAny_call_entry sl_sit hT Zf4 ?_ (Zf8 _))))
 unfold Builtin.«set_iterator.__next__»
 refine wpAny_bind (wpAny_of_eq (a:=(Value.ref I,[])) rfl ?_)
 refine wpAny_bind (wpAny_fieldsOf it rfl ?_)
 show wpAny _ _ (setEntries S >>= _) _ _ s
 unfold setEntries
 refine wpAny_bind (wpAny_bind (wpAny_setState_of at_ rfl fits (wpAny_pure ?_)))
 dsimp only
 rw [if_neg (by simp)]
 show wpAny _ _ (setNext S j i ep >>= _) _ _ s
 refine wpAny_bind (sn _ _ _ ?_)
 dsimp only
 refine wpAny_bind (wpAny_setField it rfl (by simp) ?_)
 have it1:(s.heap.update I (Obj.mapFields (·.setIfInBounds 0 (rawInt j')))).get? I=some (Zbw (rawInt j') i S es.size ep):=Heap.get?_update_self _ it rfl
 refine wpAny_bind (wpAny_setField (s:={ s with heap:=_ }) it1 rfl (by simp) (wpAny_pure ⟨_,rfl,wpAny_pure (hQ _ ?_ ?_)⟩))
 ·exact (Heap.SameBut.update _ I _).trans (Heap.SameBut.update _ I _)
 ·exact ZlG it
theorem ZjT {j i:Nat} {Q:Option Value->Shared->Prop} (hh:A.handled=none) (it:s.heap.get? I=some (Zbw (rawInt j) i S es.size ep)) (at_:s.heap.get? S=some (sObj es ep t)) (fits:t.fits es.size=true)
  (sn:∀ (A:Around) (E:Value->Shared->Prop) (R:Option (Value×Nat)->Shared->Prop),R none s->wpAny (model P w) A (setNext S j i ep) R E s)
  (hQ:∀ h',(∀ b o,b≠I->s.heap.get? b=some o->h'.get? b=some o)->Q none { s with heap:=h' }):wpAny (model P w) A (pyNext (.ref I)) Q E s:=by
 have hT:s.TypeIs (.ref I) "set_iterator":=⟨_,it,rfl⟩
 unfold pyNext
 refine wpAny_bind (wpAny_attempt (wpAny_callSpecial?_slot (name:=Str.ofString "__next__") hT sl_sit (wpAny_call_entry sl_sit hT Zf4 ?_ (Zf8 _))))
 unfold Builtin.«set_iterator.__next__»
 refine wpAny_bind (wpAny_of_eq (a:=(Value.ref I,[])) rfl (wpAny_bind (wpAny_fieldsOf it rfl ?_)))
 show wpAny _ _ (setEntries S >>= _) _ _ s
 unfold setEntries
 refine wpAny_bind (wpAny_bind (wpAny_setState_of at_ rfl fits (wpAny_pure ?_)))
 dsimp only
 rw [if_neg (by simp)]
 show wpAny _ _ (setNext S j i ep >>= _) _ _ s
 refine wpAny_bind (sn _ _ _ ?_)
 dsimp only
 refine wpAny_bind (wpAny_setField it rfl (by simp) ?_)
 exact Zef hh λh' z=>hQ h' λb o hb e=>z b o ((Heap.get?_update_other _ _ (Ne.symm hb)).trans e)
end
end L2
namespace L2
open PySem PySem.Spec PyProof.Rows
section
variable {P:Program} {w:World} {A:Around} {E:Value->Shared->Prop} {s:Shared} {S I T:Addr} {es:Array (Int×Value)} {ep:Nat} {t:SetTable}
theorem ZbV {f:Value} {i:Int} {n:Nat} {Q:Value->Shared->Prop} (it:s.heap.get? I=some (Zbw f i S n ep)) (h:Q (.ref I) s):wpAny (model P w) A (pyIter (.ref I)) Q E s:=by
 have hT:s.TypeIs (.ref I) "set_iterator":=⟨_,it,rfl⟩
 refine wpAny_pyIter_slot hT ZjL (wpAny_call_entry ZjL hT ZlS ?_ (Zl3 _))
 show wpAny (model P w) _ (ret (.ref I)) _ _ s
 exact wpAny_pure ⟨_,rfl, "set_iterator",_,hT,sl_sit.lookup,h⟩
def ZhF (ps:List Nat):Obj:={ cls:=.type "tuple",data:=.seq (ps.map λ(i:Nat)=>rawInt i).toArray }
theorem Zi7 {i p:Nat} {ps:List Nat} {x:Int×Value} {Q:Option Value->Shared->Prop} (it:s.heap.get? I=some (Zbw (.ref T) i S es.size ep)) (at_:s.heap.get? S=some (sObj es ep t)) (fits:t.fits es.size=true)
  (tt:s.heap.get? T=some (ZhF ps)) (hp:ps[i]?=some p) (hx:es[p]?=some x) (hQ:∀ h',Heap.SameBut I s.heap h'->h'.get? I=some (Zbw (.ref T) (i+1:Nat) S es.size ep)->Q (some x.2) { s with heap:=h' }) :
  wpAny (model P w) A (pyNext (.ref I)) Q E s:=by
 have hT:s.TypeIs (.ref I) "set_iterator":=⟨_,it,rfl⟩
 unfold pyNext
 refine wpAny_bind (wpAny_attempt (wpAny_callSpecial?_slot (name:=Str.ofString "__next__") hT sl_sit (wpAny_call_entry sl_sit hT Zf4 ?_ (Zf8 _))))
 unfold Builtin.«set_iterator.__next__»
 refine wpAny_bind (wpAny_of_eq (a:=(Value.ref I,[])) rfl (wpAny_bind (wpAny_fieldsOf it rfl ?_)))
 show wpAny _ _ (setEntries S >>= _) _ _ s
 unfold setEntries
 refine wpAny_bind (wpAny_bind (wpAny_setState_of at_ rfl fits (wpAny_pure ?_)))
 dsimp only
 rw [if_neg (by simp)]
 show wpAny _ _ (seqItems? (.ref T) >>= _) _ _ s
 refine wpAny_bind ?_
 unfold seqItems?
 dsimp only
 refine wpAny_bind (wpAny_load tt (wpAny_pure ?_))
 have hi:(ps.map λ(i:Nat)=>rawInt i).toArray[i]?=some (rawInt p):=by simp [hp]
 show wpAny _ _ (match (ps.map λ(i:Nat)=>rawInt i).toArray[i]? with | some (Value.int place tok)=>_ | some val=>_ | none=>_) _ _ s
 rw [hi]
 show wpAny _ _ (setNextDrawn S p ep >>= _) _ _ s
 unfold setNextDrawn
 refine wpAny_bind (wpAny_bind (wpAny_setState_of at_ rfl fits ?_))
 dsimp only
 rw [if_neg (by simp),hx]
 refine wpAny_pure (wpAny_bind (wpAny_setField it rfl (by simp) (wpAny_pure ⟨_,rfl,wpAny_pure (hQ _ (Heap.SameBut.update _ I _) (ZkK it))⟩)))
theorem ZkG {i:Nat} {ps:List Nat} {Q:Option Value->Shared->Prop} (hh:A.handled=none) (it:s.heap.get? I=some (Zbw (.ref T) i S es.size ep)) (at_:s.heap.get? S=some (sObj es ep t)) (fits:t.fits es.size=true)
  (tt:s.heap.get? T=some (ZhF ps)) (hp:ps[i]?=none) (hQ:∀ h',(∀ b o,b≠I->s.heap.get? b=some o->h'.get? b=some o)->Q none { s with heap:=h' }):wpAny (model P w) A (pyNext (.ref I)) Q E s:=by
 have hT:s.TypeIs (.ref I) "set_iterator":=⟨_,it,rfl⟩
 unfold pyNext
 refine wpAny_bind (wpAny_attempt (wpAny_callSpecial?_slot (name:=Str.ofString "__next__") hT sl_sit (wpAny_call_entry sl_sit hT Zf4 ?_ (Zf8 _))))
 unfold Builtin.«set_iterator.__next__»
 refine wpAny_bind (wpAny_of_eq (a:=(Value.ref I,[])) rfl (wpAny_bind (wpAny_fieldsOf it rfl ?_)))
 show wpAny _ _ (setEntries S >>= _) _ _ s
 unfold setEntries
 refine wpAny_bind (wpAny_bind (wpAny_setState_of at_ rfl fits (wpAny_pure ?_)))
 dsimp only
 rw [if_neg (by simp)]
 show wpAny _ _ (seqItems? (.ref T) >>= _) _ _ s
 refine wpAny_bind ?_
 unfold seqItems?
 dsimp only
 refine wpAny_bind (wpAny_load tt (wpAny_pure ?_))
 have hi:(ps.map λ(i:Nat)=>rawInt i).toArray[i]?=none:=by
  rw [List.getElem?_eq_none_iff] at hp
  simp;exact hp
 show wpAny _ _ (match (ps.map λ(i:Nat)=>rawInt i).toArray[i]? with | some (Value.int place tok)=>_ | some val=>_ | none=>_) _ _ s
 rw [hi]
 dsimp only
 refine wpAny_bind (wpAny_setField it rfl (by simp) ?_)
 have it1:(s.heap.update I (Obj.mapFields (·.setIfInBounds 0 (rawInt 0)))).get? I=some (Zbw (rawInt 0) i S es.size ep):=Heap.get?_update_self _ it rfl
 refine wpAny_bind (wpAny_setField (s:={ s with heap:=_ }) it1 rfl (by simp) ?_)
 exact Zef hh λh' z=>hQ h' λb o hb e=>z b o ((Heap.get?_update_other _ _ (Ne.symm hb)).trans ((Heap.get?_update_other _ _ (Ne.symm hb)).trans e))
theorem ZgG (hh:A.handled=none) (fits:t.fits es.size=true) (ht:w.params.followText "set-order"=true) (hne:S≠I) :
  Walks P w A I [I,S] [I] es.size (λi v=>∃ e,(pickOrder (w.params.setOrder S ep) es)[i]?=some e/\v=e.2) (λi h=>h.get? I=some (Zbw (rawInt (0:Nat)) i S es.size ep)/\h.get? S=some (sObj es ep t)) where
 sub:=λb hb=>by simp at hb;simp [hb]
 frame:=λi h h' st k=>⟨k I (by simp) _ st.1,k S (by simp) _ st.2⟩
 item:=λi s Q E hi st hQ=>by
  have hl:(pickOrder (w.params.setOrder S ep) es).size=es.size:=by
   have:=(Zcd (w.params.setOrder S ep) es.size 0 es.toList #[] (by simp)).length_eq
   simpa [pickOrder] using this
  have hx:(pickOrder (w.params.setOrder S ep) es)[i]?=some (pickOrder (w.params.setOrder S ep) es)[i]:=Array.getElem?_eq_getElem (by omega)
  refine ZhD st.1 st.2 fits (x:=(pickOrder (w.params.setOrder S ep) es)[i].2) (j':=0) (λA E R q=>Zg8 st.2 fits ht (by rw [hx];exact q)) λh' sb e=>?_
  exact hQ _ h' s.toks ⟨_,hx,rfl⟩ ⟨e,(sb.2 S hne).trans st.2⟩ λb o hb q=>(sb.2 b (λz=>hb (by simp [z]))).trans q
 done:=λs Q E st hQ=>by
  have hl:(pickOrder (w.params.setOrder S ep) es).size=es.size:=by
   have:=(Zcd (w.params.setOrder S ep) es.size 0 es.toList #[] (by simp)).length_eq
   simpa [pickOrder] using this
  have hx:(pickOrder (w.params.setOrder S ep) es)[es.size]?=none:=Array.getElem?_eq_none (by omega)
  exact ZjT hh st.1 st.2 fits (λA E R q=>Zg8 st.2 fits ht (by rw [hx];exact q)) λh' k=>hQ h' s.toks λb o hb q=>k b o (λz=>hb (by simp [z])) q
 self:=λi s Q E st hQ=>ZbV st.1 hQ
theorem ZgH (hh:A.handled=none) (fits:t.fits es.size=true) (ht:w.params.followText "set-order"=false) (hd:(!t.plain&&decide (es.size > 1))=false) (tb:Tb t true) (hne:S≠I) :
  Walks P w A I [I,S] [I] es.size (λi v=>∃ e,es[i]?=some e/\v=e.2) (λi h=>(∃ j:Nat,SetTable.below t.place j=i/\h.get? I=some (Zbw (rawInt j) i S es.size ep))/\h.get? S=some (sObj es ep t)) where
 sub:=λb hb=>by simp at hb;simp [hb]
 frame:=λi h h' st k=>by
  obtain ⟨⟨j,hj,e⟩,q⟩:=st
  exact ⟨⟨j,hj,k I (by simp) _ e⟩,k S (by simp) _ q⟩
 item:=λi s Q E hi st hQ=>by
  obtain ⟨⟨j,hj,e⟩,q⟩:=st
  have hz:t.place.size=es.size:=by
   unfold SetTable.fits at fits
   simp at fits
   exact fits.1
  have hx:es[i]?=some es[i]:=Array.getElem?_eq_getElem hi
  have hp:t.place[i]?=some (t.place[i]'(by omega)):=Array.getElem?_eq_getElem (by omega)
  refine ZhD e q fits (x:=es[i].2) (j':=t.place[i]'(by omega)+1) (λA E R z=>Zg9 q fits ht hd tb.led (by rw [hj,hx,hp];exact z)) λh' sb e'=>?_
  exact hQ _ h' s.toks ⟨_,hx,rfl⟩ ⟨⟨_,ZjC tb.rise (by omega),e'⟩,(sb.2 S hne).trans q⟩ λb o hb z=>(sb.2 b (λy=>hb (by simp [y]))).trans z
 done:=λs Q E st hQ=>by
  obtain ⟨⟨j,hj,e⟩,q⟩:=st
  exact ZjT hh e q fits (λA E R z=>Zg9 q fits ht hd tb.led (by rw [hj,Array.getElem?_eq_none (Nat.le_refl _)];exact z)) λh' k=>hQ h' s.toks λb o hb z=>k b o (λy=>hb (by simp [y])) z
 self:=λi s Q E st hQ=>let ⟨⟨_,_,e⟩,_⟩:=st;ZbV e hQ
theorem Zix (hh:A.handled=none) (fits:t.fits es.size=true) {ps:List Nat} (hp:List.Perm ps (List.range es.size)) (hne:S≠I) (hnt:T≠I) :
  Walks P w A I [I,S,T] [I] es.size (λi v=>∃ p e,ps[i]?=some p/\es[p]?=some e/\v=e.2) (λi h=>h.get? I=some (Zbw (.ref T) i S es.size ep)/\h.get? S=some (sObj es ep t)/\h.get? T=some (ZhF ps)) where
 sub:=λb hb=>by simp at hb;simp [hb]
 frame:=λi h h' st k=>⟨k I (by simp) _ st.1,k S (by simp) _ st.2.1,k T (by simp) _ st.2.2⟩
 item:=λi s Q E hi st hQ=>by
  have hl:ps.length=es.size:=by have:=hp.length_eq;simpa using this
  have h1:ps[i]?=some (ps[i]'(by omega)):=List.getElem?_eq_getElem (by omega)
  have h2:ps[i]'(by omega)<es.size:=List.mem_range.mp (hp.mem_iff.mp (List.getElem_mem _))
  have h3:es[ps[i]'(by omega)]?=some (es[ps[i]'(by omega)]'h2):=Array.getElem?_eq_getElem h2
  refine Zi7 st.1 st.2.1 fits st.2.2 h1 h3 λh' sb e=>?_
  exact hQ _ h' s.toks ⟨_,_,h1,h3,rfl⟩ ⟨e,(sb.2 S hne).trans st.2.1,(sb.2 T hnt).trans st.2.2⟩ λb o hb q=>(sb.2 b (λz=>hb (by simp [z]))).trans q
 done:=λs Q E st hQ=>by
  have hl:ps.length=es.size:=by have:=hp.length_eq;simpa using this
  exact ZkG hh st.1 st.2.1 fits st.2.2 (List.getElem?_eq_none (by omega)) λh' k=>hQ h' s.toks λb o hb q=>k b o (λz=>hb (by simp [z])) q
 self:=λi s Q E st hQ=>ZbV st.1 hQ
end
end L2
namespace L2
open PySem PySem.Spec PyProof.Rows
theorem Zj1:entryFor table "set.update.loop"=some Builtin.«set.update.loop»:=entryFor_of_tree (by kernel_rfl)
theorem Zhr:plainId "set.update.loop"=true:=by decide +kernel
theorem SI.at {P:Program} {w:World} {h h':Heap} {S:Addr} {led:Bool} {ms:List Int} {c:Nat} (x:SI P w h S led ms c) (k:∀ o,h.get? S=some o->h'.get? S=some o):SI P w h' S led ms c:=by
 obtain ⟨es,ep,t,se,r⟩:=x
 exact ⟨es,ep,t,⟨k _ se.at_,se.el,se.all,se.nd,se.small,se.fits,se.tb⟩,r⟩
theorem ZiL {P:Program} {w:World} {A:Around} {R:Result->Shared->Prop} {I:Addr} {fp wr:List Addr} {n:Nat} {Pv:Nat->Value->Prop} {St:Nat->Heap->Prop} {led:Bool} (W:Walks P w A.in1 I fp wr n Pv St) (S:Addr) (hSf:S∉fp)
  (val:Nat->Int) (hval:∀ i v,Pv i v->∃ t,v=.int (val i) t) (hb:n+1<scanBound) :
  ∀ (k i:Nat) (s:Shared),n-i=k->i<=n->St i s.heap->SI P w s.heap S led ((List.range i).map val) i ->
   (∀ h' tk,(∀ b o,b∉S::wr->s.heap.get? b=some o->h'.get? b=some o)->SI P w h' S led ((List.range n).map val) n->R (.ok (.ret .none)) { s with heap:=h',toks:=tk }) ->
   codeAny (model P w) A (.builtin "set.update.loop" ⟨[.ref S,.ref I],[]⟩) R s:=by
 have hSw:S∉wr:=λz=>hSf (W.sub _ z)
 intro k
 induction k with
 |zero =>
  intro i s hk hi st hS hR
  obtain rfl:i=n:=by omega
  refine codeAny_builtin Zj1 ?_
  rw [Around.under_plainId Zhr _]
  refine wpAny_bind (m:=pyNext (.ref I)) (W.done s _ _ st λh' tk kp=>?_)
  exact wpAny_pure (hR h' tk (λb o hb e=>kp b o (λz=>hb (List.mem_cons_of_mem _ z)) e) (hS.at λo e=>kp S o hSw e))
 |succ k ih =>
  intro i s hk hi st hS hR
  refine codeAny_builtin Zj1 ?_
  rw [Around.under_plainId Zhr _]
  refine wpAny_bind (m:=pyNext (.ref I)) (W.item i s _ _ (by omega) st λv h' tk hP st' kp=>?_)
  obtain ⟨t,rfl⟩:=hval i v hP
  have hS':SI P w h' S led ((List.range i).map val) i:=hS.at λo e=>kp S o hSw e
  refine wpAny_bind (m:=holding [Value.int (val i) t] (setAdd S (.int (val i) t))) (wpAny_holding ?_)
  unfold setAdd
  refine wpAny_holding (wpAny_bind ((intKind P w).pyHash (k:=val i) (intKind_is _ _ _ _) ?_))
  refine add_int (s:={ s with heap:=h',toks:=tk+1 }) hS' (by omega) λb h2 sb hS2=>?_
  rw [show (List.range i).map val++[val i]=(List.range (i+1)).map val by rw [List.range_succ,List.map_append];rfl] at hS2
  refine wpAny_pure ⟨plainId_quiet Zhr _,ih (i+1) _ (by omega) (by omega) (W.frame _ _ _ st' λb hb o e=>?_) hS2 λh3 tk3 k3 s3=>?_⟩
  ·rw [sb.2 b (λz:b=S=>hSf (by rw [<- z];exact hb))];exact e
  ·refine hR h3 tk3 (λb o hb e=>k3 b o hb ?_) s3
   rw [sb.2 b (λz:b=S=>hb (by rw [z];exact List.mem_cons_self))]
   exact kp b o (λz=>hb (List.mem_cons_of_mem _ z)) e
end L2
namespace L2
open PySem PySem.Spec PyProof.Rows
section
variable {P:Program} {w:World} {A:Around} {E:Value->Shared->Prop} {s:Shared}
theorem Zfn (a:Value) {R:Value->Shared->Prop} {led:Bool} (hled:led=!w.params.followText "set-order") (h:R (.ref s.heap.objs.size) { s with heap:=s.heap.push { cls:=.type "set",dict:=none,data:=.set #[] 0 (.fresh 0 0 led) } }) :
  codeAny (model P w) A (.call (.builtin "set.__new__") ⟨[.type "set",a],[]⟩) (wants R E) s:=by
 refine codeAny_of_tree (?_:wpAny _ A.in1 (do checkBuiltinCall "set.__new__" ⟨[.type "set",a],[]⟩;again (.builtin "set.__new__" ⟨[.type "set",a],[]⟩)) _ _ s)
 refine wpAny_bind (wpAny_of_eq (PySem.F.newCall_set_1 a) (wpAny_pure ⟨plainId_quiet PySem.F.plain_set_new _,codeAny_builtin PySem.F.entry_set_new ?_⟩))
 rw [Around.under_plainId PySem.F.plain_set_new _]
 unfold Builtin.«set.__new__» Builtin.Frozenset.newClass
 have sub:=sub_set_self
 obtain ⟨hp,g,d,tk,os⟩:=s
 dsimp only
 wp_walk
 refine wpAny_askSetting (wpAny_pure ?_)
 dsimp only
 simp only [newObj]
 subst hled
 exact wpAny_bind (wpAny_alloc (wpAny_pure (wpAny_pure h)))
set_option maxHeartbeats 3200000 in
theorem Zil {l:Addr} {items:Array Value} {ns:List Int} {Q:Value->Shared->Prop} {led:Bool} (hled:led=!w.params.followText "set-order") (hh:A.handled=none) (hl:s.heap.IsList l items) (hi:PyProof.Rows.IntsAre items.toList ns) (hb:items.size+1<scanBound)
  (h:∀ (h':Heap) (tk:Nat),SI P w h' s.heap.objs.size led ((List.range items.size).map λi=>ns.getD i 0) items.size->(∀ b o,s.heap.get? b=some o->h'.get? b=some o)->Q (.ref s.heap.objs.size) { s with heap:=h',toks:=tk }) :
  wpAny (model P w) A (call (.type "set") [.ref l]) Q E s:=by
 obtain ⟨c,tl,hmro⟩:=PySem.F.called_set.mro
 have hmade:=PySem.F.called_set.made
 have hsub:=PySem.F.called_set.sub
 refine wpAny_call (codeAny_of_tree (?_:wpAny _ _ (callAny (.type "set") _) _ _ _))
 refine wpAny_pure ⟨Code.quiet_builtin _ (by decide +kernel),codeAny_builtin PySem.F.entry_type_call ?_⟩
 rw [Around.under_plain (weight_type_call_type "set" [.ref l] []) rfl]
 have h1:=PySem.F.called_set.notType
 have h2:=PySem.F.called_set.canCreate
 have hct:=PySem.F.typeCall_set_1 (.ref l)
 repeat any_goals (first | assumption | wp_step)
 refine codeAny_mono (Zfn (.ref l) (E:=E) hled (R:=λob s1=>ob=.ref s.heap.objs.size/\s1={ s with heap:=s.heap.push { cls:=.type "set",dict:=none,data:=.set #[] 0 (.fresh 0 0 led) } }) ⟨rfl,rfl⟩) λr s1 hr=>?_
 cases r with
 |error e=>exact hr
 |ok fl =>
  cases fl with
  |ret ob =>
   obtain ⟨rfl,rfl⟩:=hr
   have oS:(s.heap.push { cls:=.type "set",dict:=none,data:=.set #[] 0 (.fresh 0 0 led) }).get? s.heap.objs.size=some { cls:=.type "set",dict:=none,data:=.set #[] 0 (.fresh 0 0 led) }:=Heap.get?_push_size _ rfl
   have tS:Shared.TypeIs { s with heap:=s.heap.push { cls:=.type "set",dict:=none,data:=.set #[] 0 (.fresh 0 0 led) } } (.ref s.heap.objs.size) "set":=⟨_,oS,rfl⟩
   have li:=PySem.F.called_set.init.lookup
   have bi:=PySem.F.called_set.init.bind (.ref s.heap.objs.size)
   repeat any_goals (first | assumption | wp_step)
   refine codeAny_mono (codeAny_call_builtin (R:=wants (λr s2=>r=.none/\∃ h' tk,s2={ s with heap:=h',toks:=tk }/\SI P w h' s.heap.objs.size led ((List.range items.size).map λi=>ns.getD i 0) items.size /\
     (∀ b o,s.heap.get? b=some o->h'.get? b=some o)) E) PySem.F.called_set.init.plain PySem.F.entry_set_init (check_set_init_1 tS ?_)) λr2 s2 hr2=>?_
   ·obtain ⟨ol,ho,hc,nl,hd⟩:=hl
    obtain ⟨ocls,odict,odata,oslots⟩:=ol
    simp only at hc hd
    subst hc;subst hd
    have ho1:(s.heap.push { cls:=.type "set",dict:=none,data:=.set #[] 0 (.fresh 0 0 led) }).get? l=some { cls:=.type "list",dict:=odict,data:=.seq items nl,slots:=oslots }:=Heap.get?_push_of_some _ ho
    have n1:=PySem.F.sub_list_set
    have n2:=PySem.F.sub_list_frozenset
    have n3:(Value.type "list" == Value.type "dict")=false:=by decide
    have hl1:(s.heap.push { cls:=.type "set",dict:=none,data:=.set #[] 0 (.fresh 0 0 led) }).IsList l items:=⟨_,ho1,rfl,nl,rfl⟩
    unfold Builtin.«set.__init__» noKeywords Builtin.Frozenset.updateFrom
    generalize ePI:pyIter=PI
    wp_walk
    subst ePI
    refine wpAny_pyIter_list hl1 (wpAny_bind (wpAny_runValue ?_))
    have hlS:l<s.heap.objs.size:=Heap.lt_size ho
    have hh3:A.in1.in1.in1.handled=none:=by simp [hh]
    have hne:l≠(s.heap.push { cls:=.type "set",dict:=none,data:=.set #[] 0 (.fresh 0 0 led) }).objs.size:=by
     rw [Heap.size_push];exact Nat.ne_of_lt (Nat.lt_succ_of_lt hlS)
    have hSf:s.heap.objs.size∉[(s.heap.push { cls:=.type "set",dict:=none,data:=.set #[] 0 (.fresh 0 0 led) }).objs.size,l]:=by
     rw [Heap.size_push];simp only [List.mem_cons,List.not_mem_nil,or_false,not_or]
     exact ⟨Nat.ne_of_lt (Nat.lt_succ_self _),Nat.ne_of_gt hlS⟩
    have hval:∀ (i:Nat) (v:Value),items[i]?=some v->∃ t,v=.int ((λi=>ns.getD i 0) i) t:=λi v hv =>
     PyProof.Rows.IntsAre.int_at hi i v (by rw [Array.getElem?_toList];exact hv)
    refine ZiL (led:=led) (Walks.list hh3 _ l hne items) s.heap.objs.size hSf (λi=>ns.getD i 0) hval hb (items.size-0) 0 _ (by omega) (Nat.zero_le _)
     ⟨⟨_,Heap.get?_push_size _ rfl,rfl,rfl⟩,(hl1.push _)⟩ ?s0 ?sR
    case s0 =>
     refine ⟨#[],0,.fresh 0 0 led,⟨Heap.get?_push_of_some _ oS,λe he=>by simp at he,λe he=>by simp at he,by simp,by decide,rfl,Tb.fresh led⟩,λk=>by simp,by simp⟩
    case sR =>
     intro h' tk kp hS'
     refine wpAny_pure ?_
     exact wpAny_pure ⟨rfl,h',tk,rfl,hS',λb o e=>kp b o (by
      have hb:=Heap.lt_size e
      rw [Heap.size_push];simp only [List.mem_cons,List.not_mem_nil,or_false,not_or]
      exact ⟨Nat.ne_of_lt hb,Nat.ne_of_lt (Nat.lt_succ_of_lt hb)⟩) (Heap.get?_push_of_some _ (Heap.get?_push_of_some _ e))⟩
   ·cases r2 with
    |error e=>exact hr2
    |ok fl2 =>
     cases fl2 with
     |ret r =>
      obtain ⟨rfl,h',tk,rfl,hS',k'⟩:=hr2
      repeat any_goals (first | assumption | wp_step)
      exact h _ _ hS' k'
     |_=>exact False.elim hr2
  |_=>exact False.elim hr
end
end L2
namespace L2
open PySem PySem.Spec PyProof.Rows
section
variable {P:Program} {w:World} {A:Around} {E:Value->Shared->Prop} {s:Shared}
theorem Zjh {r:Addr} {Q:Bool->Shared->Prop} (hT:s.TypeIs (.ref r) "set") (h:Q false s):wpAny (model P w) A (Builtin.List.listLengthHint (.ref r)) Q E s:=by
 unfold Builtin.List.listLengthHint
 refine wpAny_bind (wpAny_specialOf hT PySem.F.slot_set_len.lookup ?_)
 generalize eid:("set.__len__":String)=id0
 wp_delta
 rw [show splitId id0=some ("set", "__len__") from by subst eid;decide +kernel]
 subst eid
 refine wpAny_bind (wpAny_isInstance (T:="set") (b:=true) hT sub_set_self ?_)
 refine wpAny_ite_split (λq=>absurd q (by decide)) (λ_=>wpAny_ite_split (λ_=>?_) (λq=>absurd (by decide +kernel) q))
 exact wpAny_bind (wpAny_typeOf hT (wpAny_pure h))
theorem ZcA {Pv:Nat->Value->Prop} {acc:Array Value} {n:Nat} {Z:List Value} (h:ItemsOf Pv acc n) (hz:Z.length=n) (hp:∀ i v,Pv i v->Z[i]?=some v):acc.toList=Z:=by
 refine List.ext_getElem? λi=>?_
 rw [Array.getElem?_toList]
 by_cases hi:i<acc.size
 ·have e:=Array.getElem?_eq_getElem hi
  rw [e,hp i _ (h.2 i _ e)]
 ·rw [Array.getElem?_eq_none (by omega),List.getElem?_eq_none (by have:=h.1;omega)]
def Zc0 (P:Program) (w:World) (A:Around) (s:Shared) (S:Addr) (n:Nat) (Z:List Value):Prop:=∀ (E:Value->Shared->Prop) (Q:Value->Shared->Prop),
 (∀ (I:Addr) (fp:List Addr) (Pv:Nat->Value->Prop) (St:Nat->Heap->Prop) (h':Heap) (d:Drawn),s.heap.objs.size<=I->(∀ b∈fp,b=S\/s.heap.objs.size<=b)->Walks P w A I fp [I] n Pv St->St 0 h' ->
  (∀ b o,s.heap.get? b=some o->h'.get? b=some o)->(∀ acc:Array Value,ItemsOf Pv acc n->List.Perm acc.toList Z)->Q (.ref I) { s with heap:=h',drawn:=d })->wpAny (model P w) A (pyIter (.ref S)) Q E s
theorem Zjg {S:Addr} {led:Bool} {es:Array (Int×Value)} {ep:Nat} {t:SetTable} (hh:A.handled=none) (at_:s.heap.get? S=some (sObj es ep t)) (fits:t.fits es.size=true) (small:es.size<scanBound) (tbl:Tb t led) (hled:led=!w.params.followText "set-order"):Zc0 P w A s S es.size (es.toList.map (·.2)):=by
 intro E Q h
 have hlt:S<s.heap.objs.size:=Heap.lt_size at_
 have hlen:(es.toList.map (·.2)).length=es.size:=by simp
 refine Zjf at_ fits (fits_of_scanBound small) (λq=>?_) (λhf ps d hp=>?_)
 ·cases ht:w.params.followText "set-order" with
  |true =>
   have hpm:=Zcd (w.params.setOrder S ep) es.size 0 es.toList #[] (by simp)
   have e1:(pickOrder (w.params.setOrder S ep) es).toList.Perm es.toList:=by simpa [pickOrder] using hpm
   refine h _ [s.heap.objs.size,S] _ _ _ s.drawn (Nat.le_refl _) (λb hb=>?_) (ZgG (ep:=ep) hh fits ht (Nat.ne_of_lt hlt)) ⟨Heap.get?_push_size _ rfl,Heap.get?_push_of_some _ at_⟩ (λb o e=>Heap.get?_push_of_some _ e) λacc ha=>?_
   ·simp at hb
    rcases hb with e | e
    ·exact .inr (by rw [e];exact Nat.le_refl _)
    ·exact .inl e
   ·rw [ZcA (Z:=(pickOrder (w.params.setOrder S ep) es).toList.map (·.2)) ha (by rw [List.length_map,e1.length_eq];simp) λi v hv=>by
     obtain ⟨e,he,rfl⟩:=hv
     rw [List.getElem?_map,Array.getElem?_toList,he];rfl]
    exact e1.map _
  |false =>
   rw [ht] at q hled
   have hd:(!t.plain&&decide (es.size > 1))=false:=by simpa using q
   have tb:Tb t true:=by have:=tbl;rw [hled] at this;exact this
   refine h _ [s.heap.objs.size,S] _ _ _ s.drawn (Nat.le_refl _) (λb hb=>?_) (ZgH (ep:=ep) hh fits ht hd tb (Nat.ne_of_lt hlt)) ⟨⟨0,ZjB tb.rise,Heap.get?_push_size _ rfl⟩,Heap.get?_push_of_some _ at_⟩ (λb o e=>Heap.get?_push_of_some _ e) λacc ha=>?_
   ·simp at hb
    rcases hb with e | e
    ·exact .inr (by rw [e];exact Nat.le_refl _)
    ·exact .inl e
   ·rw [ZcA (Z:=es.toList.map (·.2)) ha hlen λi v hv=>by
     obtain ⟨e,he,rfl⟩:=hv
     rw [List.getElem?_map,Array.getElem?_toList,he];rfl]
 ·have hl:ps.length=es.size:=by have:=hp.length_eq;simpa using this
  refine h _ [s.heap.objs.size+1,S,s.heap.objs.size] _ _ _ d (Nat.le_succ _) (λb hb=>?_) (Zix (T:=s.heap.objs.size) (ep:=ep) hh fits hp (Nat.ne_of_lt (Nat.lt_succ_of_lt hlt)) (Nat.ne_of_lt (Nat.lt_succ_self _))) ⟨?_,?_,?_⟩ (λb o e=>Heap.get?_push_of_some _ (Heap.get?_push_of_some _ e)) λacc ha=>?_
  ·simp at hb
   rcases hb with e | e | e
   ·exact .inr (by rw [e];exact Nat.le_succ _)
   ·exact .inl e
   ·exact .inr (by rw [e];exact Nat.le_refl _)
  ·have:=Heap.get?_push_size (s.heap.push { cls:=.type "tuple",data:=.seq (ps.map λ(i:Nat)=>rawInt i).toArray }) (o:=Zbw (.ref s.heap.objs.size) 0 S es.size ep) rfl
   rw [Heap.size_push] at this
   exact this
  ·exact Heap.get?_push_of_some _ (Heap.get?_push_of_some _ at_)
  ·exact Heap.get?_push_of_some _ (Heap.get?_push_size _ rfl)
  ·have e1:(ps.filterMap λp=>es[p]?).Perm es.toList:=by
    refine (hp.filterMap _).trans ?_
    rw [filterMap_getElem?_range]
   have e2:∀ (qs:List Nat),(∀ p∈qs,p<es.size)->∀ (i p:Nat),qs[i]?=some p->(qs.filterMap λp=>es[p]?)[i]?=es[p]?:=by
    intro qs
    induction qs with
    |nil=>intro _ i p e;simp at e
    |cons a r ih =>
     intro hq i p e
     have ha:a<es.size:=hq a (by simp)
     rw [List.filterMap_cons_some (Array.getElem?_eq_getElem ha)]
     cases i with
     |zero=>simp at e;rw [List.getElem?_cons_zero,<- e,Array.getElem?_eq_getElem ha]
     |succ i=>rw [List.getElem?_cons_succ];exact ih (λp hp=>hq p (by simp [hp])) i p (by simpa using e)
   rw [ZcA (Z:=(ps.filterMap λp=>es[p]?).map (·.2)) ha (by rw [List.length_map,e1.length_eq];simp) λi v hv=>by
    obtain ⟨p,e,h1,h2,rfl⟩:=hv
    rw [List.getElem?_map,e2 ps (λp hp'=>List.mem_range.mp (hp.mem_iff.mp hp')) i p h1,h2];rfl]
   exact e1.map _
theorem ZkJ {S:Addr} {led:Bool} {es:Array (Int×Value)} {ep:Nat} {t:SetTable} (hh:A.handled=none) (se:Se P w s.heap S led es ep t) (hled:led=!w.params.followText "set-order"):Zc0 P w A s S es.size (es.toList.map (·.2)):=Zjg hh se.at_ se.fits se.small se.tb hled
theorem ZlP {R:Result->Shared->Prop} {S L:Addr} {n:Nat} {Z:List Value} {c:Nat} (hn:n<=sizeLine) (hT:s.TypeIs (.ref S) "set") (hS:S<s.heap.objs.size) (hLS:L≠S) (it:Zc0 P w A.in1 s S n Z) (hL:s.heap.get? L=some { cls:=.type "list",data:=.seq #[] c })
  (hR:∀ h' tk d acc c',(∀ b o,b≠L->s.heap.get? b=some o->h'.get? b=some o)->h'.get? L=some { cls:=.type "list",dict:=none,data:=.seq acc c',slots:=#[] }->List.Perm acc.toList Z->R (.ok (.ret (.ref L))) { s with heap:=h',toks:=tk,drawn:=d }) :
  wpAny (model P w) A.in1 (Builtin.List.listExtendWith (.ref L) (.ref S) (.ref L)) (λfin s'=>match fin with | .done f=>R (.ok f) s' | .again c'=>c'.quiet=true/\codeAny (model P w) A c' R s') (λe s'=>R (.error e) s') s:=by
 unfold Builtin.List.listExtendWith
 refine wpAny_bind (wpAny_typeOf (T:="set") hT ?_)
 have h1:Builtin.List.listSameRef (.ref L) (.ref S)=false:=by simp [Builtin.List.listSameRef,hLS]
 have h2:(Value.type "set" == Value.type "list")=false:=by decide
 have h3:(Value.type "set" == Value.type "tuple")=false:=by decide
 simp only [h1,h2,h3,Bool.or_false,Bool.false_eq_true,if_false]
 refine wpAny_bind (it _ _ λI fp Pv St h' d hI hfp W st kp pm=>?_)
 have hlL:L<s.heap.objs.size:=Heap.lt_size hL
 have hLf:L∉fp:=λz=>(hfp L z).elim (λe=>hLS e) λe=>absurd hlL (Nat.not_lt.mpr e)
 have hL1:=kp _ _ hL
 have hT1:Shared.TypeIs { s with heap:=h',drawn:=d } (.ref S) "set":=by
  obtain ⟨o,e,c⟩:=hT
  exact ⟨o,kp _ _ e,c⟩
 refine wpAny_bind (wpAny_holding (Zjh hT1 ?_))
 have key:∀ (h1:Heap) (c1 tk:Nat),St 0 h1->(∀ b o,b≠L->s.heap.get? b=some o->h1.get? b=some o)->h1.get? L=some { cls:=.type "list",data:=.seq #[] c1 } ->
   codeAny (model P w) A (.builtin "list.extend.loop" ⟨[.ref L,.ref I,.ref L],[]⟩) R { s with heap:=h1,toks:=tk,drawn:=d }:=by
  intro h1 c1 tk st1 k1 hL1
  refine codeAny_extend_loopS W.toS hn L hLf (.ref L) n 0 _ #[] c1 rfl (Nat.zero_le _) st1 hL1 (ItemsOf.nil _) λs' acc' c' hm hL' hacc=>?_
  obtain ⟨h2,g2,d2,tk2,os2⟩:=s'
  have eg:g2=s.gens:=hm.gens
  have ed:d2=d:=hm.drawn
  have eo:os2=s.os:=hm.os
  subst eg;subst ed;subst eo
  refine hR h2 tk2 d2 acc' c' (λb o hb e=>hm.heap b o (λz=>?_) (k1 b o hb e)) hL' (pm _ hacc)
  rcases List.mem_cons.mp z with z | z
  ·exact hb z
  ·rw [List.mem_singleton.mp z] at e
   exact absurd (Heap.lt_size e) (Nat.not_lt.mpr hI)
 refine wpAny_ite_split (λ_=>?_) (λ_=>wpAny_pure ⟨plainId_quiet PySem.F.plain_extend_loop _,key _ c _ st (λb o _ e=>kp b o e) hL1⟩)
 refine wpAny_bind (wpAny_rule (wpAny_bind (?_:wpAny _ _ (updateSeq L (·.push .none) >>= λ_=>updateSeq L (·.pop)) _ _ _)))
 refine wpAny_bind (wpAny_updateSeq hL1 rfl ?_)
 have hL2:=Heap.get?_update_self (Obj.mapSeq (·.push Value.none)) hL1 rfl
 refine wpAny_updateSeq (hz:=by seq_fits) hL2 rfl ?_
 have hL3:=Heap.get?_update_self (Obj.mapSeq (·.pop)) hL2 rfl
 refine wpAny_pure ⟨plainId_quiet PySem.F.plain_extend_loop _,key _ _ _ (W.frame 0 _ _ st λb hb o e=>?_) (λb o hb e=>?_) hL3⟩
 ·have hbL:b≠L:=λz=>hLf (z▸hb)
  exact (Heap.get?_update_other _ _ (Ne.symm hbL)).trans ((Heap.get?_update_other _ _ (Ne.symm hbL)).trans e)
 ·exact (Heap.get?_update_other _ _ (Ne.symm hb)).trans ((Heap.get?_update_other _ _ (Ne.symm hb)).trans (kp b o e))
end
end L2
namespace L2
open PySem PySem.Spec PyProof.Rows
section
variable {P:Program} {w:World} {A:Around} {E:Value->Shared->Prop} {s:Shared}
theorem ZlX {S:Addr} {n:Nat} {Z:List Value} {R:List Value->Shared->Prop} (hn:n<=sizeLine) (hS:s.TypeIs (.ref S) "set") (hlt:S<s.heap.objs.size)
  (it:∀ s':Shared,(∀ b o,s.heap.get? b=some o->s'.heap.get? b=some o)->Zc0 P w A.in1 s' S n Z)
  (h:∀ h' tk d vs,(∀ b o,s.heap.get? b=some o->h'.get? b=some o)->s.heap.objs.size<h'.objs.size->List.Perm vs Z->R vs { s with heap:=h',toks:=tk,drawn:=d }):wpAny (model P w) A (collect (.ref S)) R E s:=by
 unfold collect
 refine wpAny_bind (wpAny_runValue (codeAny_builtin entry_proto_collect' ?_))
 rw [Around.under_plainId PySem.F.plain_proto_collect _]
 refine wpAny_bind (m:=newList []) (wpAny_newObj_type (wpAny_pure ⟨plainId_quiet PySem.F.plain_list_iadd _,codeAny_builtin entry_list_iadd' ?_⟩))
 rw [Around.under_plainId PySem.F.plain_list_iadd _]
 have hL:(s.heap.push { cls:=.type "list",data:=.seq ([]:List Value).toArray }).get? s.heap.objs.size=some { cls:=.type "list",data:=.seq #[] }:=Heap.get?_push_size _ rfl
 have kp:∀ b o,s.heap.get? b=some o->(s.heap.push { cls:=.type "list",data:=.seq ([]:List Value).toArray }).get? b=some o:=λb o e=>Heap.get?_push_of_some _ e
 have hT1:Shared.TypeIs { s with heap:=s.heap.push { cls:=.type "list",data:=.seq ([]:List Value).toArray } } (.ref S) "set":=by
  obtain ⟨o,e,c⟩:=hS
  exact ⟨o,kp _ _ e,c⟩
 have key:=ZlP (A:=A) (s:={ s with heap:=s.heap.push { cls:=.type "list",data:=.seq ([]:List Value).toArray } })
  (R:=λ(q:Result) (s':Shared)=>∃ h' tk d acc c',q=.ok (.ret (.ref s.heap.objs.size))/\s'={ s with heap:=h',toks:=tk,drawn:=d }/\(∀ b o,s.heap.get? b=some o->h'.get? b=some o) /\
   h'.get? s.heap.objs.size=some { cls:=.type "list",dict:=none,data:=.seq acc c',slots:=#[] }/\List.Perm acc.toList Z)
  hn hT1 (by show S<(s.heap.push _).objs.size;rw [Heap.size_push];exact Nat.lt_succ_of_lt hlt) (Nat.ne_of_gt hlt) (it _ kp) hL
  (λh' tk d acc c' k1 hL' p=>⟨h',tk,d,acc,c',rfl,rfl,λb o e=>k1 b o (Nat.ne_of_lt (Heap.lt_size e)) (kp b o e),hL',p⟩)
 refine wpAny_mono key (λfin s' x=>?_) λe s' x=>?_
 ·cases fin with
  |done f =>
   obtain ⟨h',tk,d,acc,c',e,rfl,k1,hL',p⟩:=x
   cases e
   refine wpAny_bind (m:=load s.heap.objs.size) (wpAny_load hL' ?_)
   exact wpAny_pure (h h' tk d _ k1 (Heap.lt_size hL') p)
  |again c1 =>
   refine ⟨x.1,codeAny_mono x.2 λq s2 y=>?_⟩
   obtain ⟨h',tk,d,acc,c',rfl,rfl,k1,hL',p⟩:=y
   refine wpAny_bind (m:=load s.heap.objs.size) (wpAny_load hL' ?_)
   exact wpAny_pure (h h' tk d _ k1 (Heap.lt_size hL') p)
 ·obtain ⟨_,_,_,_,_,e',_⟩:=x
  cases e'
theorem ZhT:∀ {vs:List Value},(∀ v∈vs,∃ n tk,v=Value.int n tk)->IntsAre vs (vs.map iv)
 |[],_=>.nil
 |v::r,h=>by
  obtain ⟨n,tk,rfl⟩:=h v (by simp)
  exact .cons n tk (ZhT λv hv=>h v (by simp [hv]))
theorem Zlk:∀ {ns:List Int},ns.Pairwise (·<=·)->ns.Nodup->ns.Pairwise (· < ·)
 |[],_,_=>.nil
 |x::r,h,n=>by
  rw [List.pairwise_cons] at h |-
  rw [List.nodup_cons] at n
  exact ⟨λy hy=>Int.lt_iff_le_and_ne.mpr ⟨h.1 y hy,λe=>n.1 (by rw [e];exact hy)⟩,Zlk h.2 n.2⟩
theorem Zgf {S:Addr} {led:Bool} {ms:List Int} {c:Nat} {Q:Value->Shared->Prop} (hh:A.handled=none) (hS:SI P w s.heap S led ms c) (hled:led=!w.params.followText "set-order") (hc:∀ us:List Int,us.Nodup->(∀ k,k∈us↔k∈ms)->us.length<64)
  (h:∀ D h' tk d e vs ns,s.heap.objs.size<=D->(∀ b o,s.heap.get? b=some o->h'.get? b=some o)->h'.get? D=some (seqObj "list" vs e)->IntsAre vs.toList ns->ns.Pairwise (· < ·)->(∀ k,k∈ns↔k∈ms)->Q (.ref D) { s with heap:=h',toks:=tk,drawn:=d }) :
  wpAny (model P w) A (call (.builtin "sorted") [.ref S]) Q E s:=by
 obtain ⟨es,ep,t,se,mem,_⟩:=hS
 have hlt:S<s.heap.objs.size:=Heap.lt_size se.at_
 have z:=fits_of_scanBound se.small
 refine Calls.call_function_entry kind_sorted plain_sorted entry_sorted (args_sorted1 _) ?_
 unfold Builtin.«sorted»
 refine wpAny_bind (m:=checkCount "sorted" 1 1 _) (wpAny_pure (wpAny_bind (ZlX (n:=es.size) (Z:=es.toList.map (·.2)) z ⟨_,se.at_,rfl⟩ hlt (λs' k=>ZkJ (by simp [hh]) ⟨k _ _ se.at_,se.el,se.all,se.nd,se.small,se.fits,se.tb⟩ hled) λh' tk d vs k1 ksz p=>?_)))
 have hall:∀ v∈vs,∃ n tk,v=Value.int n tk:=λv hv=>by
  obtain ⟨e,he,rfl⟩:=List.mem_map.mp (p.mem_iff.mp hv)
  exact se.all e he
 have hI:=ZhT hall
 have p2:List.Perm (vs.map iv) (es.toList.map λe=>iv e.2):=by
  have:=p.map iv
  rwa [List.map_map] at this
 have nd:(vs.map iv).Nodup:=p2.nodup_iff.mpr se.nd
 have me:∀ k,k∈vs.map iv↔k∈ms:=λk=>by rw [p2.mem_iff,mem k]
 have h64:vs.length<64:=by have:=hc _ nd me;simpa using this
 refine wpAny_bind (wpAny_newList ?_ (by rw [sizeLine_eq];omega))
 have hoL:(h'.push (seqObj "list" vs.toArray 0)).get? h'.objs.size=some (seqObj "list" vs.toArray 0):=Heap.get?_push_size _ rfl
 refine wpAny_bind (wpAny_holding (wpAny_call_entry slot_list_sort ⟨_,hoL,rfl⟩ entry_list_sort (list_sort_tree (s:={ s with heap:=h'.push (seqObj "list" vs.toArray 0),toks:=tk,drawn:=d }) hoL hI h64 λout ns a1 a2 a3=>⟨_,rfl,?_⟩) (args_list_sort _)))
 refine wpAny_pure ⟨_,rfl,?_⟩
 obtain ⟨e,he⟩:=sortedHeap_at (out:=out) hoL
 have nn:ns.Nodup:=a2.nodup_iff.mpr nd
 refine h h'.objs.size _ tk d e out ns ?_ (λb o q=>?_) he a1 (Zlk a3 nn) λk=>by rw [a2.mem_iff,me k]
 ·exact Nat.le_of_lt ksz
 ·have hb:=Heap.lt_size (k1 b o q)
  rw [sortedHeap_old (Nat.ne_of_lt hb) (by rw [Heap.size_push];exact Nat.lt_succ_of_lt hb)]
  exact Heap.get?_push_of_some _ (k1 b o q)
end
end L2
namespace L2
open PySem PySem.Spec PyProof.Rows
theorem Zbb:bootBuiltins "sorted"=some (.builtin "sorted"):=by decide +kernel
theorem ZlZ:bootBuiltins "set"=some (.type "set"):=by decide +kernel
theorem ZkM:∀ {ns:List Int} {us:List Value},Vals (ns.map V.int) us->IntsAre us ns
 |[],_,.nil=>.nil
 |n::r,_,.cons hv hr=>by
  obtain ⟨t,rfl⟩:=hv
  exact .cons n t (ZkM hr)
theorem Zj8:∀ {ns:List Int} {us:List Value},IntsAre us ns->Vals (ns.map V.int) us
 |_,_,.nil=>.nil
 |_,_,.cons n t hr=>.cons ⟨t,rfl⟩ (Zj8 hr)
section
variable {X:Cx} {pins:List (Addr×Obj)} {σ:St} {H:Hp} {s:Shared}
theorem Inv.laidD {a:Addr} {o:HO} {h':Heap} {t':Nat} {d':Drawn} (I:Inv X pins σ H s) (k:∀ b u,s.heap.get? b=some u->h'.get? b=some u) (hp:s.heap.objs.size<=a) (new:ObjOk X.prog X.w (upd H a o) h' a o) :
  Inv X pins σ (upd H a o) { s with heap:=h',toks:=t',drawn:=d' }:=by
 have I1:=I.laid (t':=t') k hp new
 exact ⟨I1.ok,I1.os,I1.bare,I1.base,I1.loc,I1.cell,I1.free,I1.freeC,I1.pin,I1.hok,I1.len⟩
theorem Zbp:Zct X (.builtin "sorted") (λxs H Q=>∃ (p:Addr) (ns:List Int),xs=[.ref p]/\SqL X.K H p (ns.map V.int)/\ns.length<64/\∀ (l:Addr) (ns':List Int),H l=none->ns'.Perm ns->ns'.Pairwise (·<=·)->Q (.ref l) (upd H l (.lst (ns'.map V.int)))):=by
 intro pins s σ H xs us Q I r h
 obtain ⟨p,ns,rfl,hq,h64,q⟩:=h
 obtain ⟨u,rfl,rx⟩:=Zc1 r
 cases rx
 obtain ⟨its,rv,pl,hz⟩:=I.list hq
 have hI:=ZkM rv
 have hlen:=rv.length
 rw [List.length_map] at hlen
 refine sorted_ints pl.isList hI (by omega) λout ns' a1 a2 a3=>?_
 obtain ⟨e,he⟩:=sortedAll_at s.heap its out
 have hz2:(ns'.map V.int).length<=sizeLine:=by rw [List.length_map,a2.length_eq,sizeLine_eq];omega
 exact ⟨.ref (s.heap.objs.size+1),_,I.laidD (t':=s.toks) (d':=s.drawn) (λb o z=>sortedAll_old z) (Nat.le_succ _) (show ObjOk X.prog X.w _ _ _ (.lst (ns'.map V.int)) from ⟨hz2,out.toList,e,Zj8 a1,by rw [Array.toArray_toList];exact he⟩),rfl,q _ ns' (I.hok.fresh (Nat.le_succ _)) a2 a3⟩
def ZeU (P:Program) (w:World) (S:Addr) (ns:List Int):HO:=.ext λh=>SI P w h S (!w.params.followText "set-order") ns ns.length
theorem Zgj:∀ (ns:List Int),(List.range ns.length).map (λi=>ns.getD i 0)=ns:=λns=>by
 refine List.ext_getElem? λi=>?_
 rw [List.getElem?_map]
 by_cases h:i<ns.length
 ·rw [List.getElem?_range h]
  simp [h]
 ·rw [List.getElem?_eq_none (by simp;omega),List.getElem?_eq_none (by omega)];rfl
theorem ZjA {P:Program} {w:World} (eP:X.prog=P) (ew:X.w=w) (hc:X.calm=true):Zct X (.type "set") (λxs H Q=>∃ (p:Addr) (ns:List Int),xs=[.ref p]/\SqL X.K H p (ns.map V.int)/\ns.length+1<scanBound/\∀ S,H S=none->Q (.ref S) (upd H S (ZeU P w S ns))):=by
 subst eP ew
 intro pins s σ H xs us Q I r h
 obtain ⟨p,ns,rfl,hq,hb,q⟩:=h
 obtain ⟨u,rfl,rx⟩:=Zc1 r
 cases rx
 obtain ⟨its,rv,pl,hz⟩:=I.list hq
 have hI:=ZkM rv
 have hlen:=rv.length
 rw [List.length_map] at hlen
 refine Zil (ns:=ns) rfl (I.ok.hd hc) pl.isList (by simpa using hI) (by simp;omega) λh' tk hS k=>?_
 have ez:its.toArray.size=ns.length:=by rw [List.size_toArray];omega
 rw [ez,Zgj] at hS
 refine ⟨.ref s.heap.objs.size,_,I.laidD (t':=tk) (d':=s.drawn) k (Nat.le_refl _) (show ObjOk X.prog X.w _ h' _ (ZeU X.prog X.w s.heap.objs.size ns) from ⟨hS,?_,λh1 h2 z k2=>z.at k2⟩),rfl,q _ (I.hok.fresh (Nat.le_refl _))⟩
 obtain ⟨es,ep,t,se,_⟩:=hS
 exact ⟨_,se.at_⟩
theorem ZeE {P:Program} {w:World} (eP:X.prog=P) (ew:X.w=w) (hc:X.calm=true):Zct X (.builtin "sorted") (λxs H Q=>∃ (S:Addr) (ns:List Int),xs=[.ref S]/\H S=some (ZeU P w S ns)/\(∀ us:List Int,us.Nodup->(∀ k,k∈us↔k∈ns)->us.length<64) /\
  ∀ (l:Addr) (ns':List Int),H l=none->ns'.Pairwise (· < ·)->(∀ k,k∈ns'↔k∈ns)->Q (.ref l) (upd H l (.lst (ns'.map V.int)))):=by
 subst eP ew
 intro pins s σ H xs us Q I r h
 obtain ⟨S,ns,rfl,hq,hb,q⟩:=h
 obtain ⟨u,rfl,rx⟩:=Zc1 r
 cases rx
 obtain ⟨hS,_,_⟩:=(show ObjOk X.prog X.w H s.heap S (ZeU X.prog X.w S ns) from I.hok S _ hq)
 refine Zgf (I.ok.hd hc) hS rfl hb λD h' tk d e vs ns' hD k he hI hpw hm=>?_
 have nd:ns'.Nodup:=hpw.imp λh=>Int.ne_of_lt h
 have h64:=hb ns' nd hm
 have hz2:(ns'.map V.int).length<=sizeLine:=by rw [List.length_map,sizeLine_eq];omega
 exact ⟨.ref D,_,I.laidD (t':=tk) (d':=d) k hD (show ObjOk X.prog X.w _ _ _ (.lst (ns'.map V.int)) from ⟨hz2,vs.toList,e,Zj8 hI,by rw [Array.toArray_toList];exact he⟩),rfl,q _ ns' (I.hok.fresh hD) hpw hm⟩
end
end L2
namespace L2
open PySem PySem.Spec PyProof.Rows
def Slots (l:List Addr) (h h':Heap):Prop:=∀ b o,h.get? b=some o->b∈l->∃ sl,h'.get? b=some { o with slots:=sl }
structure UnB (fs:List Addr) (H H':Hp) (h h':Heap):Prop where
 keep:∀ b o,h.get? b=some o->H b=none->b∉fs->h'.get? b=some o
 free:∀ b o,h.get? b=some o->H b=none->H' b=none
 there:∀ b o,h.get? b=some o->b∉fs->∃ o',h'.get? b=some o'
 tups:∀ b xs,H b=some (.tup xs)->H' b=some (.tup xs)
 frzs:∀ b o u,H b=some (.frz o u)->H' b=some (.frz o u)
 tbls:∀ b ps,H b=some (.tbl ps)->∃ more,H' b=some (.tbl (ps++more))
theorem UnB.un {fs:List Addr} {H H':Hp} {h h':Heap} (u:UnB fs H H' h h') (sl:Slots fs h h'):Un fs [] H H' h h' :=
 ⟨λb o e n hb _=>u.keep b o e n hb,λb o e _ hb _=>sl b o e hb,λb o e n _=>u.free b o e n,λb o e _=>by
  by_cases hb:b∈fs
  ·obtain ⟨z,q⟩:=sl b o e hb
   exact ⟨_,q⟩
  ·exact u.there b o e hb,u.tups,u.frzs,u.tbls⟩
theorem Slots.up {l:List Env} {base h h1 h2:Heap} (f:h.FunFrames base l) (a:Slots (frs l) h h1) (u:h1.UpToSlots h2):Slots (frs l) h h2:=λb o e hb=>by
 obtain ⟨_,o',e',hnf⟩:=f.mem hb
 rw [e] at e'
 cases e'
 obtain ⟨sl,q⟩:=a b o e hb
 obtain ⟨sl',q'⟩:=u b _ q hnf
 exact ⟨sl',q'⟩
theorem Inv.oldB {X:Cx} {pins:List (Addr×Obj)} {σ:St} {H:Hp} {s:Shared} (I:Inv X pins σ H s) {b:Addr} {o:Obj} (e:X.s₀.heap.get? b=some o) (hb:b∉frs X.outer):b∉frs X.stack:=λhs=>by
 rcases List.mem_cons.mp (I.stkSub b hs) with z | z
 ·have:=Heap.lt_size e
  rw [z] at this
  exact absurd this (Nat.not_lt.mpr I.ok.above)
 ·exact hb z
theorem Inv.onB {X:Cx} {pins:List (Addr×Obj)} {σ:St} {H H':Hp} {s:Shared} {h':Heap} (I:Inv X pins σ H s) (hex:X.ex=[]) (u:UnB (frs X.stack) H H' s.heap h'):UnB (frs X.outer) X.H₀ H' X.s₀.heap h':=by
 have nx:∀ b,b∉X.ex:=λb z=>by rw [hex] at z;cases z
 refine ⟨λb o e n hb=>?_,λb o e n=>?_,λb o e hb=>?_,λb xs e=>u.tups b xs (I.base.tups b xs e),λb o v e=>u.frzs b o v (I.base.frzs b o v e),λb ps e=>?_⟩
 ·exact u.keep b o (I.base.keep b o e n hb (nx b)) (I.base.free b o e n (nx b)) (I.oldB e hb)
 ·obtain ⟨sl,q⟩:=I.base.any e n (nx b)
  exact u.free b _ q (I.base.free b o e n (nx b))
 ·obtain ⟨o',q⟩:=I.base.there b o e (nx b)
  exact u.there b o' q (I.oldB e hb)
 ·obtain ⟨m1,q1⟩:=I.base.tbls b ps e
  obtain ⟨m2,q2⟩:=u.tbls b _ q1
  exact ⟨m1++m2,by rw [q2,Array.append_assoc]⟩
theorem Inv.raisedB {X:Cx} {pins:List (Addr×Obj)} {σ:St} {H:Hp} {s:Shared} (I:Inv X pins σ H s) (hex:X.ex=[]) :
  ∀ h':Heap,(PySem.W.hideAll s.heap (frs X.stack)).StaysIn h'->UnB (frs X.outer) X.H₀ H X.s₀.heap h'/\HOk X.prog X.w H h':=by
 intro h' st
 have kp:∀ b u,s.heap.get? b=some u->b∉frs X.stack->h'.get? b=some u:=λb u e hb=>st b u (PySem.W.hideAll_get _ e hb)
 refine ⟨I.onB hex ⟨λb o e _ hb=>kp b o e hb,λ_ _ _ n=>n,λb o e hb=>⟨o,kp b o e hb⟩,λ_ _ e=>e,λ_ _ _ e=>e,λb ps e=>⟨#[],by rw [e];simp⟩⟩,λa u e=>?_⟩
 refine (I.hok a u e).stay (λb v hb q=>kp b v q λhs=>?_) (λ_ z=>z) (λ_ _ z=>z)
 have hn:=I.stkFree b hs
 rcases hb with z | z
 ·rw [z,e] at hn;cases hn
 ·rw [z] at hn;cases hn
theorem Zdm {K:PySem.W.Frag} {h:Heap} {C:Addr} {bmB:List Value} {newId:String} (X:K.In h) (q:PySem.W.excIn K C bmB newId=true) :
  ∃ bm N nm qn bs hdct sn sub ab col dd k0 k1 k2 k3 k5 mN,h.get? C=some (excClassObj nm qn C N bs bm hdct sn sub ab col dd k0 k1 k2 k3 k5 newId)/\h.Ns N mN/\mN "__init__"=none/\OwnTail h bmB bm:=by
 unfold PySem.W.excIn at q
 split at q
 ·rename_i dd cd sl ho
  split at q
  ·rename_i C' bm k0 k1 k2 k3 n k5 hm hs
   simp only [Bool.and_eq_true,beq_iff_eq,Bool.not_eq_true'] at q
   obtain ⟨⟨⟨⟨⟨rfl,rfl⟩,hdel⟩,ht⟩,hok⟩,hni⟩:=q
   obtain ⟨nm,bs,mro,ns,qn,hd,sn,sub,ab,col,del⟩:=cd
   dsimp only at hm hdel hok hni
   subst hm hdel
   obtain ⟨l⟩:=sl
   dsimp only at hs
   subst hs
   exact ⟨bm,ns,nm,qn,bs,hd,sn,sub,ab,col,dd,k0,k1,k2,k3,k5,_,X _ _ ho,.of_isNs (PySem.W.isNs_of_in X hok),PySem.W.nsMap_none_of_in X hok hni,PySem.W.tail_of_in X ht⟩
  ·cases q
 ·cases q
structure XCls (K:PySem.W.Frag) (mg:Str->Option Value) (x:Str) (C:Addr):Prop where
 at_:mg x=some (.ref C)
 ex:PySem.W.excIn K C [.type "ValueError",.type "Exception",.type "BaseException",.type "object"] "ValueError.__new__"=true
section
variable {X:Cx}
def Zk9 (C:Addr) (E:XK):TS:=λ_ _ H=>E (.ref C) none H
end
section
variable {P:Program} {w:World} {K:PySem.W.Frag} {mg:Str->Option Value} {base:Heap}
end
theorem ZlJ {CX:CXT} {P:Program} {w:World} {K:PySem.W.Frag} {mg:Str->Option Value} {base:Heap} {k:Nat} {f:Addr} {name qual:Str} {params:Arguments} {body:List Stmt} {scope:Scope} {dV kV doc pm cdv ct oc:Value} {an od:Option Addr}
  {osl:Array (Option Value)} {N ps:List Str} {sp:Sp} (lk:K.lookup f=some ⟨oc,od,.func (PySem.W.fnOf name qual params body scope dV kV doc pm an cdv ct),osl⟩) (hcd:PySem.W.codeIn K cdv qual=true) (S:FnScope N ps scope)
  (len:∀ vs H Q E,sp vs H Q E->vs.length=ps.length)
  (hbody:∀ (A:Around) (outer:List Env) (s:Shared) (H:Hp) (vs:List V) (Q:VK) (E:XK),Room k (A.deeper (envOfC qual scope s.heap.objs.size f cdv))->sp vs H Q E ->
   ∀ s1,Inv (cxOf CX P w K mg base N qual scope f cdv A outer s H E) [] (start N vs) H s1->wpAny (model P w) (A.deeper (envOfC qual scope s.heap.objs.size f cdv)) (execs body (envOfC qual scope s.heap.objs.size f cdv)) (SP (cxOf CX P w K mg base N qual scope f cdv A outer s H E) [] { nx:=λ_ H'=>Q .non H',rt:=Q }) (cxOf CX P w K mg base N qual scope f cdv A outer s H E).xe s1) :
  FnOk P w K mg base CX (k+1) f (PySem.W.fnOf name qual params body scope dV kV doc pm an cdv ct) ps sp:=by
 refine ⟨len,λA outer s H args us vs Q E hr e0 hb r hsp=>?_⟩
 have hl:=len _ _ _ _ hsp
 have KX:K.In s.heap:=e0.mod.kin.keeps λb o e=>(e0.bs b o e).1
 have lim:s.heap.NoLimit:=e0.mod.nolimit.keeps λb o e=>(e0.bs b o e).1
 have hkind:∀ y∈ps.zip us,scope.names.lookup y.1=some .local\/(scope.names.lookup y.1=some .cell/\((cellsFrom (s.heap.objs.size+1) scope.names []).lookup y.1).isSome=true):=λ⟨n,v⟩ hy=>by
  rcases S.par n (List.of_mem_zip hy).1 with q | q
  ·exact .inl q
  ·exact .inr ⟨q,PySem.W.cellsFrom_some _ _ _ (.inl q)⟩
 refine codeAny_call_function hr.depth (KX _ _ lk) rfl S.co S.gen rfl (PySem.W.codeRec_of KX hcd) (hb _ _ _ _ ?_)
 refine wpAny_newFunctionEnv_cells S.kind hkind λenv he s1 x=>?_
 subst he
 refine ⟨lim.keeps x.toInCall.keep,codeAny_func ?_⟩
 have hq:=hbody A outer s H vs Q E (hr.deeper _) hsp
 have I:Inv (cxOf CX P w K mg base N qual scope f cdv A outer s H E) [] (start N vs) H s1:=Zdk S hr.hd e0 hl r x
 refine wpAny_mono (hq s1 I) (λfl s' hs=>?_) λe s' hs=>hs
 have fin:∀ {σ':St} {H':Hp} {v:V} {u:Value},Inv (cxOf CX P w K mg base N qual scope f cdv A outer s H E) [] σ' H' s'->RelV v u->Q v H'->CE outer P w H s Q u s' :=
  λ{σ' H' v u} J rv q=>⟨v,H',J.os,J.bare,J.base,J.hok,rv,q⟩
 cases fl with
 |ret u =>
  obtain ⟨v,σ',H',J,rv,q⟩:=hs
  exact fin J rv q
 |next =>
  obtain ⟨σ',H',J,q⟩:=hs
  exact fin (v:=V.non) (u:=Value.none) J rfl q
 |brk =>
  obtain ⟨_,_,_,q⟩:=hs
  exact False.elim q
 |cont =>
  obtain ⟨_,_,_,q⟩:=hs
  exact False.elim q
section
variable {P:Program} {w:World} {K:PySem.W.Frag} {mg:Str->Option Value} {base:Heap}
end
end L2
namespace L2
open PySem PySem.Spec PyProof.Rows
end L2
namespace L2
open PySem PySem.Spec PyProof.Rows
def Zcr (H0:Hp) (d:Addr):Prop:=∀ o u,H0 d≠some (.frz o u)
theorem Inv.swap {X:Cx} {pins:List (Addr×Obj)} {σ:St} {H:Hp} {s:Shared} {d:Addr} {u u':HO} (I:Inv X pins σ H s) (e:H d=some u) (h1:∀ xs,u≠.tup xs) (h2:∀ x,u≠.own x) (h3:∀ ps,u≠.tbl ps) (h4:Zcr X.H₀ d)
  (new:ObjOk X.prog X.w (upd H d u') s.heap d u'):Inv X pins σ (upd H d u') s:=by
 have nd:∀ {b:Addr} {v:HO},H b=some v->v≠u->b≠d:=λq n=>Zaq q e n
 have nn:∀ {b:Addr},H b=none->b≠d:=λq z=>by rw [z,e] at q;cases q
 refine ⟨I.ok,I.os,I.bare,⟨I.base.keep,I.base.slot,λb o' a b' c=>?_,I.base.there,λb xs q=>?_,λb o' v q=>?_,λb ps q=>?_⟩,I.loc,I.cell,?_,λx c h=>?_,λp hp=>?_,λa v q=>?_,I.len⟩
 ·have z:=I.base.free b o' a b' c
  rw [Zae (nn z)];exact z
 ·have z:=I.base.tups b xs q
  rw [Zae (nd z (λy=>h1 xs y.symm))];exact z
 ·have hb:b≠d:=λz=>h4 o' v (by rw [<- z];exact q)
  rw [Zae hb];exact I.base.frzs b o' v q
 ·obtain ⟨m,z⟩:=I.base.tbls b ps q
  exact ⟨m,by rw [Zae (nd z (λy=>h3 _ y.symm))];exact z⟩
 ·rw [Zae (nn I.free)];exact I.free
 ·rw [Zae (nn (I.freeC x c h))];exact I.freeC x c h
 ·obtain ⟨a,b,c⟩:=I.pin p hp
  exact ⟨a,by rw [Zae (nn b)];exact b,c⟩
 ·by_cases ha:a=d
  ·subst ha
   rw [Zab] at q
   cases q
   exact new
  ·rw [Zae ha] at q
   exact (I.hok a v q).stay (λ_ _ _ z=>z) (λb z=>by rw [Zae (nd z (λy=>h2 a y.symm))];exact z) λb xs z=>by rw [Zae (nd z (λy=>h1 xs y.symm))];exact z
theorem ZkX {P:Program} {w:World} {H H':Hp} {h:Heap} {d:Addr} {kvs:List (Key×V)} (x:ObjOk P w H h d (.dK kvs)):ObjOk P w H' h d (.dK kvs):=x
theorem Inv.freeze {X:Cx} {pins:List (Addr×Obj)} {σ:St} {H:Hp} {s:Shared} {d:Addr} {kvs:List (Key×V)} (I:Inv X pins σ H s) (e:H d=some (.dK kvs)) :
  ∃ (o:Obj) (vs:List (Key×Value)) (ep:Nat),(d == sysModules)=false/\KV kvs vs/\s.heap.get? d=some o/\(∀ h:Heap,h.get? d=some o->h.DictAt (ZaA X.prog X.w) d vs ep)/\Zcr X.H₀ d/\Inv X pins σ (upd H d (.frz o (.dK kvs))) s:=by
 obtain ⟨z,hS,vs,rel,o,es,ep,ho,r⟩:=Zju I.hok e
 have nf:Zcr X.H₀ d:=λo u q=>by
  have:=I.base.frzs d o u q
  rw [e] at this;cases this
 refine ⟨o,vs,ep,hS,rel,ho,λh q=>⟨o,es,q,r⟩,nf,I.swap e (λ_ z=>nomatch z) (λ_ z=>nomatch z) (λ_ z=>nomatch z) nf ?_⟩
 exact ⟨ho,z,hS,vs,rel,o,es,ep,ho,r⟩
theorem Inv.thaw {X:Cx} {pins:List (Addr×Obj)} {σ:St} {H:Hp} {s:Shared} {d:Addr} {o:Obj} {kvs:List (Key×V)} (I:Inv X pins σ H s) (e:H d=some (.frz o (.dK kvs))) (nf:Zcr X.H₀ d):Inv X pins σ (upd H d (.dK kvs)) s:=by
 obtain ⟨_,h⟩:=(show ObjOk X.prog X.w H s.heap d (.frz o (.dK kvs)) from I.hok d _ e)
 exact I.swap e (λ_ z=>nomatch z) (λ_ z=>nomatch z) (λ_ z=>nomatch z) nf (ZkX h)
def Itd (d:Addr) (o:Obj) (kvs:List (Key×V)):It:=⟨λi H=>H d=some (.frz o (.dK kvs))/\i<kvs.length,λi H v H'=>H'=H/\∃ kv,kvs[i]?=some kv/\v=kV kv.1,λi H=>H d=some (.frz o (.dK kvs))/\kvs.length<=i⟩
theorem ZgM {P:Program} {w:World} {K:PySem.W.Frag} {tg:Expr} (d it:Addr) (o:Obj) (kvs:List (Key×V)) (vs:List (Key×Value)) (ep:Nat) (rel:KV kvs vs)
  (hat:∀ h:Heap,h.get? d=some o->h.DictAt (ZaA P w) d vs ep):Turn P w K tg (Itd d o kvs) [it] it (λi h=>h.IsKeyIter it d i vs.length ep) where
 mem:=by simp
 obj:=λi h st b hb=>by
  have e:b=it:=by simpa using hb
  subst e
  obtain ⟨o,e,c,d⟩:=st
  exact ⟨o,e,λv z=>by rw [d] at z;cases z⟩
 keep:=λi h h' st k=>st.at λo e=>k it (by simp) o e
 item:=by
  intro X hP hw hK hc i pins s σ H E I hf st hg
  subst hP hw hK
  obtain ⟨hq,hi⟩:=hg
  obtain ⟨ho,_⟩:=(show ObjOk X.prog X.w H s.heap d (.frz o (.dK kvs)) from I.hok d _ hq)
  have hx:kvs[i]?=some kvs[i]:=List.getElem?_eq_getElem hi
  obtain ⟨u,hu,ru⟩:=rel.at hx
  obtain ⟨f0,f1,f2,f3,f4,f5⟩:=hf it (by simp)
  refine wpAny_pyNext_dict_item st (hat _ ho) hu λkey h' hkey st' sb=>?_
  have I1:Inv X pins σ H { s with heap:=h' }:=I.turned (t':=s.toks) (λb o hb e=>(sb.2 b hb).trans e) f0 f1 f3 f4 f5
  obtain ⟨oo,e,c,dd⟩:=id st'
  exact ⟨key,rfl,ZhW (s:={ s with heap:=h' }) e c dd (by decide) ⟨_,H,I1,ZdT hkey,⟨rfl,_,hx,rfl⟩,st',λb hb=>(hf b hb).1⟩⟩
 done:=by
  intro X hP hw hK hc i pins s σ H E I hf st hg
  subst hP hw hK
  obtain ⟨hq,hi⟩:=hg
  obtain ⟨ho,_⟩:=(show ObjOk X.prog X.w H s.heap d (.frz o (.dK kvs)) from I.hok d _ hq)
  obtain ⟨f0,f1,f2,f3,f4,f5⟩:=hf it (by simp)
  have hl:=rel.length
  exact wpAny_pyNext_dict_end (I.ok.hd hc) st (hat _ ho) (List.getElem?_eq_none (by omega)) λh' eb=>⟨rfl,I.turned (t':=s.toks) (λb o hb e=>eb b o hb e) f0 f1 f3 f4 f5⟩
 self:=λ_ _ _ _ _ st h=>wpAny_pyIter_keyiter st h
def ZkN (H0:Hp) (td:TE):TI:=λσ H R=>td σ H λx H1=>∃ d kvs,x=.ref d/\H1 d=some (.dK kvs)/\∀ o,Zcr H0 d->R (Itd d o kvs) (upd H1 d (.frz o (.dK kvs)))
theorem Zht {X:Cx} {tg l:Expr} {tl:TE} (hl:PE X l tl):PI X tg l (ZkN X.H₀ tl):=by
 intro pins s σ H R I h
 refine thn (hl pins s σ H _ I h) λv s1 ⟨x,H1,I1,r1,q1⟩=>?_
 obtain ⟨d,kvs,ex,ed,q⟩:=q1
 subst ex
 cases r1
 obtain ⟨o,vs,ep,hS,rel,ho,hat,nf,I2⟩:=I1.freeze ed
 refine wpAny_pyIter_dict hS (hat _ ho) ?_
 refine ⟨s1.heap.objs.size,[s1.heap.objs.size],_,_,_,rfl,I2.kept (t':=s1.toks) λb o e=>Heap.get?_push_of_some _ e,ZgM d _ o kvs vs ep rel hat,⟨_,Heap.get?_push_size _ rfl,rfl,rfl⟩,λb hb=>?_,q o nf⟩
 have e:b=s1.heap.objs.size:=by simpa using hb
 subst e
 exact I2.fpOk (Nat.le_refl _) (I2.hok.fresh (Nat.le_refl _))
def ZiA (H0:Hp) (D:Ends):Ends:={ D with nx:=λσ H=>∃ d o kvs,Zcr H0 d/\H d=some (.frz o (.dK kvs))/\D.nx σ (upd H d (.dK kvs)) }
def Zma (H0:Hp) (td:TE) (g:TG) (tb:TS):TS:=λD σ H=>tFor (ZkN H0 td) g tb (ZiA H0 D) σ H
theorem Zkt {X:Cx} {tg iter:Expr} {body:List Stmt} {td:TE} {g:TG} {tb:TS} {pos:Pos} (hp:PassesOwn (model X.prog X.w) X.A X.env X.xe) (hc:X.calm=true) (hi:PE X iter td) (hg:PG X tg g) (hb:PSs X body tb)
  (hs:∀ x,foldedSetIterable iter X.env x=pure x:=by intro _;rfl):PS X (.For tg iter body [] pos) (Zma X.H₀ td g tb):=by
 intro pins s σ H D I h
 refine thn (ZbR hp hc (Zht hi) hg hb hs pins s σ H (ZiA X.H₀ D) I h) λf s' q=>?_
 cases f with
 |next =>
  obtain ⟨σ',H',I',d,o,kvs,nf,e,q⟩:=q
  exact ⟨σ',_,I'.thaw e nf,q⟩
 |brk=>exact q
 |cont=>exact q
 |ret u=>exact q
theorem Zjm {d:Addr} {o:Obj} {kvs:List (Key×V)} {g:TG} {tb:TS} {D:Ends} {σ:St} {H:Hp} (Pv:Nat->St->Hp->Prop) (h0:Pv 0 σ H) (hl:∀ i σ H,i<=kvs.length->Pv i σ H->H d=some (.frz o (.dK kvs)))
  (hs:∀ i kv σ H,kvs[i]?=some kv->Pv i σ H->g (kV kv.1) σ H λσ2 H2=>tb { D with nx:=Pv (i+1),ct:=Pv (i+1),bk:=D.nx } σ2 H2) (hd:∀ σ H,Pv kvs.length σ H->D.nx σ H) :
  ∃ W:Nat->Nat->St->Hp->Prop,(∃ m,W 0 m σ H)/\∀ i m σ H,W i m σ H ->
   ((Itd d o kvs).stop i H/\D.nx σ H)\/((Itd d o kvs).go i H/\∃ N:St->Hp->Prop,(∀ σ' H',N σ' H'->∃ m',m'<m/\W (i+1) m' σ' H')/\∀ x H',(Itd d o kvs).yld i H x H'->g x σ H' λσ2 H2=>tb { D with nx:=N,ct:=N,bk:=D.nx } σ2 H2):=by
 refine ⟨λi m σ H=>m=kvs.length-i/\i<=kvs.length/\Pv i σ H,⟨kvs.length,by simp,Nat.zero_le _,h0⟩,?_⟩
 rintro i m σ H ⟨rfl,hi,p⟩
 have q:=hl i σ H hi p
 by_cases hlt:i<kvs.length
 ·refine .inr ⟨⟨q,hlt⟩,Pv (i+1),λσ' H' p'=>⟨kvs.length-(i+1),by omega,rfl,hlt,p'⟩,λx H' y=>?_⟩
  obtain ⟨e,kv,h1,h2⟩:=y
  subst e h2
  exact hs i kv σ _ h1 p
 ·have e:i=kvs.length:=by omega
  exact .inl ⟨⟨q,by omega⟩,hd σ H (by rw [<- e];exact p)⟩
section
variable {X:Cx}
end
end L2
namespace L2
open PySem PySem.Spec PyProof.Rows
structure InC (K:PySem.W.Frag) (x:Str) (C:Addr):Prop where
 a:PySem.W.nsIn K mainGlobals x=some (some (.ref C))
 pg:PySem.W.plainGet K C Str.empty=true
 hd:PySem.W.hasDictIn K C=true
 po:PySem.W.plainOver K C=true
 sa:PySem.W.findIn K (.ref C) "__setattr__"=some (some (.builtin "object.__setattr__"))
 mak:PySem.W.makesIn K C=true
 kp:PySem.W.keepIn K (.ref C)=true
theorem InC.cls {K:PySem.W.Frag} {x:Str} {C:Addr} (i:InC K x C):Cls K C:=⟨i.pg,i.hd,i.po,i.sa⟩
structure InM (K:PySem.W.Frag) (C:Addr) (m q:Str) (st:Stmt):Prop where
 ex:∃ (f:Addr) (oc:Value) (od:Option Addr) (kV doc pm:Value) (an:Option Addr) (cdv ct:Value) (osl:Array (Option Value)),
  PySem.W.findIn K (.ref C) m=some (some (.ref f))/\PySem.W.isFn K (.ref f)=true/\K.lookup f=some ⟨oc,od,.func (PySem.W.fnOf m q (Zbk st) (Za1 st) (Zaj st) .none kV doc pm an cdv ct),osl⟩/\PySem.W.codeIn K cdv q=true/\PySem.W.keepIn K (.ref f)=true
theorem InM.of {K:PySem.W.Frag} {C:Addr} {m q:Str} {st:Stmt} {f:Addr} {oc:Value} {od:Option Addr} {kV doc pm:Value} {an:Option Addr} {cdv ct:Value} {osl:Array (Option Value)}
  (a:PySem.W.findIn K (.ref C) m=some (some (.ref f))) (i:PySem.W.isFn K (.ref f)=true) (l:K.lookup f=some ⟨oc,od,.func (PySem.W.fnOf m q (Zbk st) (Za1 st) (Zaj st) .none kV doc pm an cdv ct),osl⟩) (c:PySem.W.codeIn K cdv q=true) (k:PySem.W.keepIn K (.ref f)=true):InM K C m q st :=
 ⟨⟨f,oc,od,kV,doc,pm,an,cdv,ct,osl,a,i,l,c,k⟩⟩
set_option genInjectivity false in
structure MDef (K:PySem.W.Frag) (C:Addr) (m q:Str) (st:Stmt) (ps:List Str) where
 f:Addr
 fd:FuncData
 F:Fun K m q st f fd
 me:Meth K C m f
 b:Binds K fd ps []
theorem InM.def {K:PySem.W.Frag} {C:Addr} {m q:Str} {st:Stmt} {ps:List Str} (i:InM K C m q st)
  (hb:∀ (kV doc pm:Value) (an:Option Addr) (cdv ct:Value) (us:List Value),us.length=ps.length->bindArgs (PySem.W.fnOf m q (Zbk st) (Za1 st) (Zaj st) .none kV doc pm an cdv ct) ⟨us,[]⟩=pure (ps.zip us)):Nonempty (MDef K C m q st ps):=by
 obtain ⟨f,oc,od,kV,doc,pm,an,cdv,ct,osl,a,i,l,c,k⟩:=i.ex
 have F:=ZhX (x:=m) (qual:=q) (st:=st) l c k
 exact ⟨⟨f,_,F,⟨a,i,k⟩,F.binds hb⟩⟩
def unV (u:Value):V:=(absV u).getD .non
theorem ZjE {x:V} {u:Value} (r:RelV x u):unV u=x:=by
 cases x with
 |non=>cases (show u=Value.none from r);rfl
 |bl b=>cases (show u=Value.bool b from r);rfl
 |int i=>obtain ⟨t,q⟩:=(show ∃ t,u=Value.int i t from r);cases q;rfl
 |str z=>obtain ⟨t,q⟩:=(show ∃ t,u=Value.str z t from r);cases q;rfl
 |byt b=>obtain ⟨t,q⟩:=(show ∃ t,u=Value.bytes b t from r);cases q;rfl
 |flt b=>obtain ⟨t,q⟩:=(show ∃ t,u=Value.float b t from r);cases q;rfl
 |ref a=>cases (show u=Value.ref a from r);rfl
 |ty n=>cases (show u=Value.type n from r);rfl
theorem Zir {e:V->Bool}:∀ {xs:List V} {us:List Value},Vals xs us->us.any (λu=>e (unV u))=xs.any e
 |_,_,.nil=>rfl
 |_,_,.cons r t=>by rw [List.any_cons,List.any_cons,ZjE r,Zir t]
theorem ZfX:∀ {xs:List V} {us:List Value} {u:Value},Vals xs us->u∈us->∃ x∈xs,RelV x u
 |_,_,_,.nil,h=>by cases h
 |_,_,_,.cons r t,h=>by
  rcases List.mem_cons.mp h with rfl | h
  ·exact ⟨_,List.mem_cons_self,r⟩
  ·obtain ⟨x,hx,rx⟩:=ZfX t h
   exact ⟨x,List.mem_cons_of_mem _ hx,rx⟩
section
variable {X:Cx}
def rInD (K:PySem.W.Frag) (neg:Bool):R2:=λx y H Q=>∃ p xs n,∃ e:V->Bool,y=.ref p/\SqL K H p xs/\n<=90/\(∀ z∈xs,EqD K H n z x (e z))/\Q (.bl (neg^^xs.any e)) H
theorem Zlu (hu:X.A.units+100<cLine):OpR X (compareOp .In) (rInD X.K false):=by
 intro pins s σ H x y v u Q I rx ry h
 obtain ⟨p,xs,n,e,rfl,hq,hn,he,q⟩:=h
 cases ry
 obtain ⟨its,r,pl,hz⟩:=I.list hq
 refine SeqAt.in_listAt (λu=>e (unV u)) pl.isList (λw hw=>?_) ⟨.bl _,H,I,rfl,?_⟩
 ·obtain ⟨z,hz,rz⟩:=ZfX r (by simpa using hw)
  rw [ZjE rz]
  exact (he z hz).at rfl I rz rx (by show X.A.units+1+n<cLine;omega)
 ·rw [show its.toArray.any (λu=>e (unV u))=its.any (λu=>e (unV u)) by simp,Zir r]
  rw [Bool.false_xor] at q
  exact q
end
end L2
namespace HT
open PySem PySem.Spec PyProof.Rows
section
variable {prog:Program} {w:World} {A:Around} {E:Value->Shared->Prop} {s:Shared}
theorem getItem_tuple_whole {t sl:Addr} {items:Array Value} {vl vu:Value} {lo hi:Option Int} {Q:Value->Shared->Prop} (ht:IsTup s.heap t items) (hs:s.heap.IsSliceOf sl vl vu .none) (pl:IsPart vl lo) (pu:IsPart vu hi)
  (hw:sIx items.size 0 lo=0/\sIx items.size items.size hi=items.size) (h:Q (.ref t) s):wpAny (model prog w) A (getItem (.ref t) (.ref sl)) Q E s:=by
 obtain ⟨os,hos,hcs,hds⟩:=id hs
 have hTs:s.TypeIs (.ref sl) "slice":=⟨os,hos,hcs⟩
 unfold getItem
 try with_reducible refine wpAny_holding ?_
 first | refine wpAny_bind (wpAny_pure ?_) | skip
 refine wpAny_bind (wpAny_sequenceKey ht.typeIs (by decide) ?_)
 refine wpAny_bind (wpAny_callSpecial?_slot (name:=Str.ofString "__getitem__") ht.typeIs PyProof.Rows.slot_tuple_getitem
  (wpAny_call_entry PyProof.Rows.slot_tuple_getitem ht.typeIs entry_tuple_getitem ?_ (args_tuple_getitem _ _)))
 show wpAny _ _ (Builtin.Tuple.tupleItemsOf (.ref t) >>= _) _ _ s
 refine wpAny_bind (tupleItemsOf_ ht ?_)
 refine wpAny_bind (wpAny_typeOf hTs ?_)
 rw [if_pos (by decide)]
 refine wpAny_bind (ZbA hs pl pu ?_)
 dsimp only
 rw [if_pos (by rw [hw.1,hw.2];simp)]
 unfold Builtin.Tuple.tupleIsExact
 refine wpAny_bind (wpAny_bind (wpAny_typeOf ht.typeIs (wpAny_pure ?_)))
 rw [if_pos (by decide)]
 refine wpAny_bind (wpAny_rule (wpAny_pure ?_))
 exact ⟨_,rfl,wpAny_pure h⟩
end
end HT
namespace L2
open PySem PySem.Spec PyProof.Rows
section
variable {X:Cx}
def Zlh (K:PySem.W.Frag):V->Option Int->Option Int->Hp->VK->Prop:=λx lo hi H Q=>∃ a xs,x=.ref a/\SqT K H a xs /\
 ((HT.sIx xs.length 0 lo=0/\HT.sIx xs.length xs.length hi=xs.length)->Q x H)/\(¬ (HT.sIx xs.length 0 lo=0/\HT.sIx xs.length xs.length hi=xs.length)->∀ p,H p=none->Q (.ref p) (upd H p (.tup (cutV xs lo hi))))
theorem Zha:SlR X (Zlh X.K):=by
 intro pins s σ H x v vl vu lo hi sl Q I rx hs pl pu h
 obtain ⟨a,xs,e,hx,q1,q2⟩:=h
 by_cases hw:HT.sIx xs.length 0 lo=0/\HT.sIx xs.length xs.length hi=xs.length
 ·subst e
  cases rx
  obtain ⟨its,r,ht,hz⟩:=I.tuple hx
  have hlen:its.toArray.size=xs.length:=by rw [List.size_toArray];exact r.length.symm
  refine ⟨"tuple",_,PyProof.Rows.slot_tuple_getitem.lookup,ht.typeIs,?_⟩
  exact HT.getItem_tuple_whole ht hs pl pu (by rw [hlen];exact hw) ⟨.ref a,H,I,rfl,q1 hw⟩
 ·exact Zld pins s σ H x v vl vu lo hi sl Q I rx hs pl pu ⟨a,xs,e,hx,hw,q2 hw⟩
end
end L2
namespace L2
open PySem PySem.Spec PyProof.Rows
section
variable {X:Cx} {CX:CXT} {k:Nat} {f C:Addr} {fd:FuncData} {ps:List Str} {sp:Sp} {dvs:List V} {ds:List Value} {E:XK} {x m:Str} {p pos apos:Pos} {e o:Expr} {es:List Expr} {ta:TE} {t:TA}
end
end L2
namespace L2
open PySem PySem.Spec PyProof.Rows
section
variable {X:Cx}
end
section
variable {X:Cx} {pins:List (Addr×Obj)} {σ:St} {H:Hp} {s:Shared} {a:Addr} {kvs:List (Key×V)} {k:Key} {u r:Value} {v:V} {A:Around} {E:Value->Shared->Prop}
end
theorem ZkA {X:Cx} {K:PySem.W.Frag} (h:X.K=K) (hu:X.A.units+100<cLine):OpR X (compareOp .Eq) (rEqT K false):=by subst h;exact Zlv hu
theorem Zkx {X:Cx} {K:PySem.W.Frag} (h:X.K=K) (hu:X.A.units+100<cLine):OpR X (compareOp .NotEq) (rEqT K true):=by subst h;exact Zls hu
end L2
namespace L2
open PySem PySem.W PyProof.Rows
def ansd {α:Type} (lt:Nat->Nat->Bool):KasT α->α
 |.ret a=>a
 |.ask i j k=>ansd lt (k (lt i j))
theorem Zbx {α β:Type} (lt:Nat->Nat->Bool) (f:α->KasT β):∀ t:KasT α,ansd lt (t.bind f)=ansd lt (f (ansd lt t))
 |.ret _=>rfl
 |.ask i j k=>Zbx lt f (k (lt i j))
section
variable {n:Nat} {k:Nat->Int}
end
def RngP {α:Type} (n:Nat) (P:α->Prop):KasT α->Prop
 |.ret a=>P a
 |.ask i j k=>i<n/\j<n/\∀ b,RngP n P (k b)
theorem RngP.bind {α β:Type} {n:Nat} {P:α->Prop} {P':β->Prop} {f:α->KasT β} (hf:∀ a,P a->RngP n P' (f a)):∀ {t:KasT α},RngP n P t->RngP n P' (t.bind f)
 |.ret a,h=>hf a h
 |.ask _ _ _,h=>⟨h.1,h.2.1,λb=>RngP.bind hf (h.2.2 b)⟩
def AllLt (n:Nat) (p:Array Nat):Prop:=∀ x,x∈p->x<n
theorem AllLt.at {n:Nat} {p:Array Nat} (hn:0<n) (h:AllLt n p) (i:Nat):p.getD i 0<n:=by
 by_cases hi:i<p.size
 ·have e:p.getD i 0=p[i]:=by simp [Array.getD,hi]
  rw [e]
  exact h _ (Array.getElem_mem hi)
 ·have e:p.getD i 0=0:=by simp [Array.getD,hi]
  rw [e]
  exact hn
theorem AllLt.swap {n:Nat} {p:Array Nat} (h:AllLt n p) (i j:Nat):AllLt n (p.swapIfInBounds i j):=by
 intro x hx
 rw [Array.swapIfInBounds_def] at hx
 split at hx
 ·split at hx
  ·exact h x ((Array.Perm.mem_iff (Array.swap_perm _ _)).mp hx)
  ·exact h x hx
 ·exact h x hx
theorem AllLt.swaps {n:Nat} (u v:Nat->Nat):∀ (l:List Nat) {p:Array Nat},AllLt n p->AllLt n (l.foldl (λa k=>a.swapIfInBounds (u k) (v k)) p)
 |[],_,h=>h
 |k::l,_,h=>AllLt.swaps u v l (h.swap (u k) (v k))
theorem AllLt.rev {n:Nat} {p:Array Nat} (h:AllLt n p) (i j:Nat):AllLt n (kas_rev p i j):=AllLt.swaps (λk=>i+k) (λk=>j-1-k) _ h
theorem AllLt.bub {n:Nat} {p:Array Nat} (h:AllLt n p) (k m:Nat):AllLt n (bubble p k m):=AllLt.swaps (λi=>k-i) (λi=>k-i-1) _ h
section
variable {n:Nat} (hn:0<n)
include hn
theorem ZeW {p:Array Nat} (h:AllLt n p):∀ f m,RngP n (λ_=>True) (kas_asc p f m)
 |0,_=>trivial
 |f+1,m=>⟨h.at hn _,h.at hn _,λb=>by
  cases b
  ·exact ZeW h f (m+1)
  ·trivial⟩
theorem ZcU:∀ f {p:Array Nat} (m q:Nat),AllLt n p->RngP n (λr=>AllLt n r.1) (kas_desc f p m q)
 |0,_,_,_,h=>h
 |f+1,p,m,q,h=>⟨h.at hn _,h.at hn _,λb=>by
  cases b
  ·refine ⟨h.at hn _,h.at hn _,λd=>?_⟩
   cases d
   ·exact ZcU f _ _ h
   ·exact h
  ·show RngP n _ (if q > 0 then _ else _)
   split
   ·exact ZcU f _ _ (h.rev _ _)
   ·exact ZcU f _ _ h⟩
theorem Zek {p:Array Nat} (h:AllLt n p) (m nr:Nat):RngP n (λr=>AllLt n r.2) (kas_tail3 m nr p):=by
 refine (ZeW hn (h.rev 0 m) _ _).bind λ_ _=>?_
 exact h.rev 0 m
theorem ZcH {p:Array Nat} (h:AllLt n p) (m nr:Nat):RngP n (λr=>AllLt n r.2) (kas_descPart m nr p):=by
 refine (ZcU hn _ _ _ h).bind λr hr=>?_
 split
 ·exact Zek hn (hr.rev _ _) _ _
 ·exact Zek hn hr _ _
theorem Zhk {p:Array Nat} (h:AllLt n p) (nr:Nat):RngP n (λr=>AllLt n r.2) (kas_count nr p):=by
 refine (ZeW hn h _ _).bind λm _=>?_
 split
 ·exact h
 ·split
  ·refine ⟨h.at hn _,h.at hn _,λb=>?_⟩
   cases b
   ·exact ZcH hn (h.rev _ _) _ _
   ·exact h
  ·exact ZcH hn h _ _
theorem Zc5 {p:Array Nat} (h:AllLt n p) (k:Nat):∀ f l r,RngP n (λ_=>True) (kas_place p k f l r)
 |0,_,_=>trivial
 |f+1,l,r=>by
  rw [kas_place]
  split
  ·trivial
  ·refine ⟨h.at hn _,h.at hn _,λb=>?_⟩
   cases b
   ·exact Zc5 h k f _ _
   ·exact Zc5 h k f _ _
end
theorem Zf9 {α:Type} {n:Nat} {P:α->Prop} {lt:Nat->Nat->Bool} {cmp:Nat->Nat->(Bool->Shared->Prop)->Shared->Prop} {Q:α->Shared->Prop} {s:Shared} (hc:∀ i j C,i<n->j<n->C (lt i j) s->cmp i j C s) :
  ∀ t:KasT α,RngP n P t->Q (ansd lt t) s->t.kasWp cmp Q s
 |.ret _,_,h=>h
 |.ask i j k,r,h=>hc i j _ r.1 r.2.1 (Zf9 hc (k (lt i j)) (r.2.2 _) h)
end L2
namespace L2
open PySem PySem.Spec PyProof.Rows
def TrD (h B:Heap) (e:Addr) (c:Value) (d:Option Addr) (fl:Value):Prop :=
 ∃ oe vs T oT ts,h.get? e=some oe/\(oe.cls=c/\oe.dict=d)/\oe.data=.fields vs/\vs[1]?=some (.ref T)/\B.get? T=none/\T≠e/\h.get? T=some oT/\oT.data=.fields ts/\ts[3]?=some fl
theorem Zi5 (f:Array Value->Array Value) (o:Obj):(Obj.mapFields f o).dict=o.dict:=by
 obtain ⟨c,d,x,sl⟩:=o
 cases x<;>rfl
def StpD (B:Heap) (l:List Env) (e:Addr) (c:Value) (d:Option Addr) (fl:Value) (h h':Heap):Prop:=B.StaysIn h'/\h'.FunFrames B l/\TrD h' B e c d fl/\h.UpToSlots h'
section
variable {M:Model} {A:Around} {E:Value->Shared->Prop} {s:Shared} {B:Heap} {env:Env} {outer l:List Env} {L e:Addr} {c:Value} {d:Option Addr}
theorem ZeA {oe:Obj} {vs:Array Value} {head:Value} {nx:Bool} {Q:Unit->Shared->Prop} (fr:A.frames=some (env::outer)) (ff:s.heap.FunFrames B (env::outer)) (hf:env.frame=some L) (at_:s.heap.get? e=some oe) (kb:B.StaysIn s.heap) (nb:B.get? e=none) (dat:oe.data=.fields vs) (sz:1<vs.size)
  (k:∀ h',StpD B (env::outer) e oe.cls oe.dict (rawInt L) s.heap h'->Q () { s with heap:=h' }) :
  wpAny M A (do let a <- frameOf env;let pl <- entryPlaceOf L nx;let b <- EntryCells.newEntry head a .none (rawInt L) .none pl;setField (.ref e) 1 b) Q E s:=by
 have nfr:e∉(env::outer).filterMap (·.frame):=λz=>by
  obtain ⟨_,o,ho,hn⟩:=ff.mem z
  rw [at_] at ho;cases ho
  exact hn vs dat
 refine wpAny_bind (wpAny_frameOf_fun fr ff hf λh1 s1=>wpAny_bind (wpAny_entryPlaceOf λpl hpl=>?_))
 unfold EntryCells.newEntry newFields
 have at1:h1.get? e=some oe:=(s1.2.1 e nfr).trans at_
 have kb1:B.StaysIn h1:=λb o q=>(s1.2.1 b λz=>by rw [(ff.mem z).1] at q;cases q).trans (kb b o q)
 refine wpAny_bind (wpAny_newObj_type ?_ (hpl.sizeOk5 _ _ _ _ _))
 generalize hz:([head,Value.ref L,.none,rawInt L,.none]++(if pl.isEmpty then List.replicate 6 Value.none else pl)).toArray=zs
 have z3:zs[3]?=some (rawInt L):=by
  rw [<- hz]
  first | (simp;done) | (rcases hpl with rfl | ⟨_,_,_,_,_,_,_,rfl⟩<;>simp)
 have at2:=Heap.get?_push_of_some (h:=h1) { cls:=.type "traceback",dict:=none,data:=.fields zs } at1
 have neT:h1.objs.size≠e:=Nat.ne_of_gt (Heap.lt_size at1)
 have dat3:=Obj.data_mapFields dat (·.setIfInBounds 1 (Value.ref h1.objs.size))
 have at3:=Heap.get?_update_self (Obj.mapFields (·.setIfInBounds 1 (Value.ref h1.objs.size))) at2 (Obj.isFreed_of_fields dat3)
 have kp:∀ b o,b≠e->h1.get? b=some o->((h1.push { cls:=.type "traceback",dict:=none,data:=.fields zs }).update e (Obj.mapFields (·.setIfInBounds 1 (Value.ref h1.objs.size)))).get? b=some o:=λb o n q=>by
  rw [Heap.get?_update_other _ _ (Ne.symm n)];exact Heap.get?_push_of_some _ q
 have nr:∀ b o,s.heap.get? b=some o->(∀ ws,o.data≠.fields ws)->b≠e:=λb o q n z=>by
  rw [z,at_] at q;cases q
  exact n vs dat
 refine wpAny_setField at2 dat sz (k _ ⟨λb o q=>kp b o (λz=>by rw [z,nb] at q;cases q) (kb1 b o q),ff.of_keeps λb o q n=>?_,⟨_,_,h1.objs.size,{ cls:=.type "traceback",dict:=none,data:=.fields zs },zs,at3,⟨Obj.cls_mapFields _ _,Zi5 _ _⟩,dat3,by simp [sz],kb1.fresh,neT,?_,rfl,z3⟩,λb o q n=>?_⟩)
 ·obtain ⟨sl,q2⟩:=s1.2.2 b o q
  exact ⟨_,kp b _ (nr b o q n) q2,rfl⟩
 ·rw [Heap.get?_update_other _ _ (Ne.symm neT)];exact Heap.get?_push_size h1 rfl
 ·obtain ⟨sl,q2⟩:=s1.2.2 b o q
  exact ⟨sl,kp b _ (nr b o q n) q2⟩
theorem ZhZ {oe:Obj} {vs:Array Value} {Q:Unit->Shared->Prop} (fr:A.frames=some (env::outer)) (ff:s.heap.FunFrames B (env::outer)) (hf:env.frame=some L) (at_:s.heap.get? e=some oe) (kb:B.StaysIn s.heap) (nb:B.get? e=none) (dat:oe.data=.fields vs) (no:vs[1]?=some .none)
  (k:∀ h',StpD B (env::outer) e oe.cls oe.dict (rawInt L) s.heap h'->Q () { s with heap:=h' }):wpAny M A (noteFrame (.ref e) env) Q E s:=by
 unfold noteFrame
 simp only [hf]
 refine wpAny_bind (wpAny_field at_ dat no ?_)
 rw [if_neg (by decide)]
 exact ZeA fr ff hf at_ kb nb dat (Array.getElem?_eq_some_iff.mp no).1 k
theorem Zf0 {Q:Unit->Shared->Prop} (fr:A.frames=some (env::outer)) (ff:s.heap.FunFrames B (env::outer)) (hf:env.frame=some L) (t:TrD s.heap B e c d .none) (kb:B.StaysIn s.heap) (nb:B.get? e=none)
  (k:∀ h',StpD B (env::outer) e c d (rawInt L) s.heap h'->Q () { s with heap:=h' }):wpAny M A (noteFrame (.ref e) env) Q E s:=by
 obtain ⟨oe,vs,T,oT,ts,at_,⟨rfl,rfl⟩,dat,h1,nT,neT,atT,datT,h3⟩:=t
 unfold noteFrame
 simp only [hf]
 have oth:∀ b,b≠T->(s.heap.update T (Obj.mapFields (·.setIfInBounds 3 Value.none))).get? b=s.heap.get? b:=λb n=>Heap.get?_update_other _ _ (Ne.symm n)
 have nr:∀ b o,s.heap.get? b=some o->(∀ ws,o.data≠.fields ws)->b≠T:=λb o q n z=>by
  rw [z,atT] at q;cases q
  exact n ts datT
 refine wpAny_bind (wpAny_field at_ dat h1 ?_);rw [if_pos (show (Value.ref T != Value.none)=true by simp)]
 refine wpAny_bind (wpAny_field atT datT h3 ?_);rw [if_neg (show ¬ ((Value.none == rawInt L)=true) by simp [rawInt])]
 refine wpAny_bind (wpAny_setField atT datT (Array.getElem?_eq_some_iff.mp h3).1 (ZeA fr (ff.of_keeps λb o q n=>⟨o,(oth b (nr b o q n)).trans q,rfl⟩) hf ((oth e (Ne.symm neT)).trans at_) (λb o q=>(oth b λz=>by rw [z,nT] at q;cases q).trans (kb b o q)) nb dat (Array.getElem?_eq_some_iff.mp h1).1 λh' ⟨x1,x2,x3,x4⟩=>?_))
 exact k h' ⟨x1,x2,x3,λb o q n=>x4 b o ((oth b (nr b o q n)).trans q) n⟩
theorem ZcW {fl:Value} {Q:Unit->Shared->Prop} (kb:B.StaysIn s.heap) (ff:s.heap.FunFrames B l) (t:TrD s.heap B e c d fl) (k:∀ h',StpD B l e c d .none s.heap h'->Q () { s with heap:=h' }):wpAny M A (setFlight (.ref e) none) Q E s:=by
 obtain ⟨oe,vs,T,oT,ts,at_,cd,dat,h1,nT,neT,atT,datT,h3⟩:=t
 have z3:3<ts.size:=(Array.getElem?_eq_some_iff.mp h3).1
 have oth:∀ b,b≠T->(s.heap.update T (Obj.mapFields (·.setIfInBounds 3 ((none:Option Addr).elim Value.none λf=>rawInt f)))).get? b=s.heap.get? b:=λb n=>Heap.get?_update_other _ _ (Ne.symm n)
 have nr:∀ b o,s.heap.get? b=some o->(∀ ws,o.data≠.fields ws)->b≠T:=λb o q n z=>by
  rw [z,atT] at q;cases q
  exact n ts datT
 unfold setFlight
 refine wpAny_bind (wpAny_field at_ dat h1 ?_);rw [if_pos (show (Value.ref T != Value.none)=true by simp)]
 exact wpAny_setField atT datT z3 (k _ ⟨λb o q=>(oth b λz=>by rw [z,nT] at q;cases q).trans (kb b o q),ff.of_keeps λb o q n=>⟨o,(oth b (nr b o q n)).trans q,rfl⟩,⟨oe,vs,T,_,_,(oth e (Ne.symm neT)).trans at_,cd,dat,h1,nT,neT,Heap.get?_update_self _ atT (Obj.isFreed_of_fields (Obj.data_mapFields datT _)),Obj.data_mapFields datT _,by simp [z3]⟩,λb o q n=>⟨o.slots,(oth b (nr b o q n)).trans q⟩⟩)
end
def FlyD (B:Heap) (l:List Env) (e:Addr) (c:Value) (d:Option Addr) (h:Heap):Prop:=B.StaysIn h/\B.get? e=none/\h.FunFrames B l/\TrD h B e c d .none
section
variable {M:Model} {A:Around} {E:Value->Shared->Prop} {s:Shared} {B:Heap} {env:Env} {outer l:List Env} {L e:Addr} {c:Value} {d:Option Addr}
theorem FlyD.there {h:Heap} (x:FlyD B l e c d h):∃ ob vs,h.get? e=some ob/\ob.cls=c/\ob.dict=d/\ob.data=.fields vs:=by
 obtain ⟨_,_,_,oe,vs,_,_,_,at_,cd,dat,_⟩:=x
 exact ⟨oe,vs,at_,cd.1,cd.2,dat⟩
theorem FlyD.leaves {Q:Unit->Shared->Prop} (x:FlyD B (env::outer) e c d s.heap) (fr:A.frames=some (env::outer)) (hf:env.frame=some L) (k:∀ h',FlyD B outer e c d h'->s.heap.UpToSlots h'->Q () { s with heap:=h' }):wpAny M A (leaving env (.ref e)) Q E s:=by
 obtain ⟨f1,f2,f3,f4⟩:=x
 unfold leaving
 refine wpAny_bind (Zf0 fr f3 hf f4 f1 f2 λh1 ⟨a1,a2,a3,a4⟩=>ZcW (s:={ s with heap:=h1 }) a1 a2 a3 λh2 ⟨b1,⟨_,_,b2⟩,b3,b4⟩=>k h2 ⟨b1,f2,b2,b3⟩ (a4.trans b4))
theorem Zfa {h:Heap} {args:List Value} {Q:Unit->Shared->Prop} (fr:A.frames=some (env::outer)) (hf:env.frame=some L) (kb:B.StaysIn h) (ff:h.FunFrames B (env::outer)) (mk:Heap.MadeExcOf h s.heap e c args)
  (k:∀ h',FlyD B outer e c none h'->s.heap.UpToSlots h'->Q () { s with heap:=h' }):wpAny M A (leaving env (.ref e)) Q E s:=by
 obtain ⟨t,at_,_,_⟩:=mk.there
 have nb:B.get? e=none:=by
  cases q:B.get? e with
  |none=>rfl
  |some o=>have z:=kb e o q;rw [mk.new] at z;cases z
 have kb2:B.StaysIn s.heap:=λb o q=>mk.keeps b o (kb b o q)
 unfold leaving
 refine wpAny_bind (ZhZ fr (ff.of_keeps λb o q _=>⟨o,mk.keeps b o q,rfl⟩) hf at_ kb2 nb rfl rfl λh1 ⟨a1,a2,a3,a4⟩=>ZcW (s:={ s with heap:=h1 }) a1 a2 a3 λh2 ⟨b1,⟨_,_,b2⟩,b3,b4⟩=>k h2 ⟨b1,nb,b2,b3⟩ (a4.trans b4))
theorem FlyD.comes {Q:Unit->Shared->Prop} (x:FlyD B (env::outer) e c d s.heap) (fr:A.frames=some (env::outer)) (hf:env.frame=some L) (k:∀ h',FlyD B (env::outer) e c d h'->s.heap.UpToSlots h'->Q () { s with heap:=h' }) :
  wpAny M A (noteFrame (.ref e) env) (λ_ s2=>wpAny M A (setFlight (.ref e) none) Q E s2) E s:=by
 obtain ⟨f1,f2,f3,f4⟩:=x
 refine Zf0 fr f3 hf f4 f1 f2 λh1 ⟨a1,a2,a3,a4⟩=>ZcW (s:={ s with heap:=h1 }) a1 a2 a3 λh2 ⟨b1,b2,b3,b4⟩=>k h2 ⟨b1,f2,b2,b3⟩ (a4.trans b4)
theorem FlyD.again {Q:Unit->Shared->Prop} (x:FlyD B l e c d s.heap) (k:∀ h',FlyD B l e c d h'->s.heap.UpToSlots h'->Q () { s with heap:=h' }):wpAny M A (setFlight (.ref e) none) Q E s:=by
 obtain ⟨f1,f2,f3,f4⟩:=x
 exact ZcW f1 f3 f4 λh2 ⟨b1,b2,b3,b4⟩=>k h2 ⟨b1,f2,b2,b3⟩ b4
end
end L2

namespace L2
open PySem
def Zl6 (h:Heap) (C:Addr) (ups:List Value):Prop:=∃ nm qn N bs hdct sn sub ab col dd k0 k1 k2 k3 k5 newId,h.get? C=some (excClassObj nm qn C N bs ups hdct sn sub ab col dd k0 k1 k2 k3 k5 newId)
theorem Zfj {M:Model} {A:Around} {E:Value->Shared->Prop} {s:Shared} {C D e:Addr} {ups downs:List Value} {oe:Obj} {Q:Bool->Shared->Prop} (uC:Zl6 s.heap C ups) (uD:Zl6 s.heap D downs)
  (he:s.heap.get? e=some oe) (hcls:oe.cls=.ref C) (hbase:downs.contains (.type "BaseException")=true) (hq:Q ((Value.ref C::ups).contains (.ref D)) s):wpAny M A (excMatches (.ref e) (.ref D)) Q E s:=by
 obtain ⟨hp,gs,dr,tk,os⟩:=s
 obtain ⟨_,_,_,_,_,_,_,_,_,_,_,_,_,_,_,_,atC⟩:=uC
 obtain ⟨_,_,_,_,_,_,_,_,_,_,_,_,_,_,_,_,atD⟩:=uD
 have inD:(Value.ref D::downs).contains (.type "BaseException")=true:=by rw [List.contains_cons,hbase,Bool.or_true]
 have notTup:=tc_notTuple
 cases yes:(Value.ref C::ups).contains (.ref D)<;>(
  rw [yes] at hq
  unfold excMatches
  repeat (first | (with_reducible refine wpAny_loadPart_at he ?_;rw [hcls]) | with_reducible refine wpAny_loadPart_at atD ?_ | (with_reducible refine wpAny_isSubtype_exc atC ?_;rw [yes]) | (with_reducible refine wpAny_isSubtype_exc atD ?_;rw [inD]) | wp_step)
  exact hq)
end L2


set_option maxRecDepth 100000
namespace L2
open PySem PySem.W PySem.Spec PySem.Calls PyProof.Rows
abbrev gaE:String:="BaseException.__getattribute__"
structure ExcCls (K:Frag) (D:Addr):Prop where
 cls:(clsIn K D).isSome=true
 exc:mroIn K D (.type "BaseException")=some true
 obj:mroIn K D (.type "object")=some true
 ga:findIn K (.ref D) "__getattribute__"=some (some (.builtin gaE))
 hook:findIn K (.ref D) "__getattr__"=some none
theorem ga_slot:builtinKind gaE=some .slot/\splitId gaE=some ("BaseException", "__getattribute__")/\(Value.builtin gaE == Value.builtin "object.__getattribute__")=false:=by decide +kernel
section
variable {prog:Program} {w:World} {A:Around} {E:Value->Shared->Prop} {s:Shared} {K:Frag} {x D:Addr} {ox:Obj} {od:Option Obj} {name:Str}
theorem Zh5 {M:Model} {nv:Value} {Q:Unit->Shared->Prop} (X:K.In s.heap) (I:InstAt s.heap x ox D od) (c:ExcCls K D) (h:Q () s):wpAny M A (checkBuiltinCall gaE ⟨[.ref x,nv],[]⟩) Q E s:=by
 obtain ⟨hp,gs,dr,tk,os⟩:=s
 have ty:=I.type (M:=M)
 have up:=looks_mroIn (M:=M) X c.exc
 have argsOk:=F.args_bexc_ga (.ref x) nv
 simp only [checkBuiltinCall,ga_slot.1,ga_slot.2.1]
 refine wpAny_bind ?_
 unfold isInstance
 refine wpAny_bind (ty.at (up.at ?_))
 repeat (first | wp_step)
 exact h
theorem Zh3 {g a:Value} {t:Tok} {P:Value->Shared->Prop} (X:K.In s.heap) (I:InstAt s.heap x ox D od) (hf:findObj K D od name=some (.bind g a)) (h:wpAny (model prog w) A (call g [a,.ref x,.ref D]) P E s) :
  wpAny (model prog w) A (Builtin.«object.__getattribute__» ⟨[.ref x,.str name t],[]⟩) (λr s'=>match r with | .done (.ret v)=>P v s' | _=>False) E s:=by
 obtain ⟨hp,gs,dr,tk,os⟩:=s
 have fd:=looks_find (M:=model prog w) X I hf
 refine wpAny_bind (wpAny_pure (wpAny_bind (wpAny_pure (wpAny_bind (I.type.at (wpAny_bind (fd.at ?_)))))))
 exact wpAny_bind (wpAny_holding (wpAny_mono h (λ_ _ q=>wpAny_pure q) λ_ _ q=>q))
theorem ZlQ {t:Tok} {fill expr:Bool} {Q:Value->Shared->Prop} (X:K.In s.heap) (I:InstAt s.heap x ox D od) (c:ExcCls K D)
  (h:wpAny (model prog w) A.in1 (Builtin.«object.__getattribute__» ⟨[.ref x,.str name t],[]⟩)
   (λr s'=>match r with | .done (.ret v)=>wpAny (model prog w) A (handedOut v) Q (λ_ _=>False) s' | _=>False) (λ_ _=>False) s) :
  wpAny (model prog w) A (getAttrBy (.ref x) (.str name t) fill expr) Q E s:=by
 obtain ⟨hp,gs,dr,tk,os⟩:=s
 have way:=looks_findIn (M:=model prog w) X c.ga
 have hook:=looks_findIn (M:=model prog w) X c.hook
 have plain:(expr&&onTheHeap (Value.builtin gaE))=false:=by cases expr<;>rfl
 have other:(onTheHeap (Value.ref D)&&Value.builtin gaE == Value.builtin "object.__getattribute__")=false:=by rw [ga_slot.2.2];rfl
 unfold getAttrBy
 refine wpAny_holding (wpAny_bind (I.type.at (wpAny_bind (way.at ?_))))
 dsimp only
 rw [if_neg (by rw [other];decide)]
 unfold getAttrByItsOwn
 refine wpAny_bind ?_
 show wpAny _ _ (typeLookup (.ref D) "__getattr__") _ _ _
 refine hook.at (wpAny_bind (wpAny_attempt (wpAny_holding ?_)))
 unfold callGetattribute
 rw [if_neg (by rw [plain];decide)]
 unfold boundAndCalled
 rw [PySem.F.attrBase_ValueError.ga.bind (.ref x)]
 refine wpAny_bind (wpAny_pure (wpAny_call (codeAny_call_builtin PySem.F.attrBase_ValueError.ga.plain F.entry_bexc_ga (Zh5 X I c ?_))))
 refine wpAny_mono h (λr s' z=>?_) (λ_ _ z=>z.elim)
 rcases r with (_ | _ | _ | _) | _
 all_goals first | exact wpAny_mono z (λ_ _ q=>q) (λ_ _ q=>q.elim) | exact z.elim
theorem Zh4 {Q:Option Value->Shared->Prop} (X:K.In s.heap) (I:InstAt s.heap x ox D od) (c:ExcCls K D) (hf:findObj K D od "__class__"=some (.bind (.builtin "getset_descriptor.__get__") (.builtin "object.__class__")))
  (h:Q (some (.ref D)) { s with toks:=s.toks+1 }):wpAny (model prog w) A (getAttr? (.ref x) "__class__") Q E s:=by
 refine wpAny_bind (wpAny_mkText (wpAny_bind (wpAny_attempt (ZlQ (s:={ s with toks:=s.toks+1 }) X I c ?_))))
 refine Zh3 (s:={ s with toks:=s.toks+1 }) X I hf (wpAny_call (class_get (s:={ s with toks:=s.toks+1 }) (ox:=ox) (od:=od) X I c.obj ?_))
 all_goals exact wpAny_pure (wpAny_pure h)
theorem ExcCls.at_ (c:ExcCls K D):∃ c0 dd cd sl,K.lookup D=some ⟨c0,dd,.cls cd,sl⟩:=by
 have z:=c.cls
 unfold clsIn at z
 split at z
 ·exact ⟨_,_,_,_,‹_›⟩
 ·cases z
theorem Zjc (c:ExcCls K D) (hf:findObj K D od "__class__"=some (.bind (.builtin "getset_descriptor.__get__") (.builtin "object.__class__"))):KitX K (.ref x) (.ref D) (λh=>InstAt h x ox D od):=by
 obtain ⟨c0,dd,cd,sl,at_⟩:=c.at_
 refine ⟨λ_ _ _ I=>I.type,λM h X _ A' Q' E' s' k q=>?_,λh tp _ _ _ _ X ht=>?_,λX I k=>Zh4 X I c hf k⟩
 ·unfold isType loadHead
  exact wpAny_bind (wpAny_loadPart (k _ _ (X _ _ at_)) (wpAny_pure q))
 ·cases same:(Value.ref D == Value.ref tp) with
  |false=>rfl
  |true =>
   cases beq_iff_eq.mp same
   cases (X _ _ at_).symm.trans ht
end
end L2
namespace L2
open PySem PySem.Spec PyProof.Rows
def CXD (P:Program) (w:World):CXT:=λouter H s E e s'=>∃ (a:Addr) (C:Value) (d:Option Addr) (B:Heap) (H':Hp),e=.ref a/\s'.os=s.os/\AllBare s'.gens/\FlyD B outer a C d s'.heap/\Slots (frs outer) s.heap s'.heap /\
 (∀ h':Heap,B.StaysIn h'->UnB (frs outer) H H' s.heap h'/\HOk P w H' h')/\E C d H'
section
variable {X:Cx}
def Zfp (X:Cx) (E:XK):Prop:=X.stack=X.env::X.outer/\X.env.frame=some X.env.locals/\X.ex=[] /\
 X.xe=λe s'=>wpAny (model X.prog X.w) X.A (leaving X.env e) (λ_ s''=>CXD X.prog X.w X.outer X.H₀ X.s₀ E e s'') (λe' s''=>CXD X.prog X.w X.outer X.H₀ X.s₀ E e' s'') s'
theorem Zbu {E:XK} {x z:Str} {C:Addr} {np cpos pos p:Pos} {j} (L:Zfp X E) (hc:X.calm=true) (hg:Gl X x) (O:XCls X.K X.mg x C) (hd:(x == ("__debug__":Str))=false:=by decide)
  (hs:starEach [.Constant (.str z) j p] X.env=[(false,eval (.Constant (.str z) j p) X.env)]:=by rfl) :
  PS X (.Raise (some (.Call (.Name x np) [.Constant (.str z) j p] [] cpos)) none pos) (Zk9 C E):=by
 intro pins s σ H D I h
 obtain ⟨hst,hfr,hex,hxe⟩:=L
 rw [hxe]
 obtain ⟨tl,N,nm,q,bs,hdct,sn,sub,ab,col,dd,k0,k1,k2,k3,k5,mN,hC,hN,hni,T⟩:=Zdm I.kIn O.ex
 refine wpAny_Raise_call_subT (C:=C) (nm:=nm) (q:=q) (N:=N) (bs:=bs) (bm:=tl) (hdct:=hdct) (sn:=sn) (sub:=sub) (ab:=ab) (col:=col) (dd:=dd) (k0:=k0) (k1:=k1) (k2:=k2) (k3:=k3) (k5:=k5)
  PySem.F.excBase_ValueError (mN:=mN) (T.hasType PySem.F.excBase_ValueError.hasBase) (I.ok.hd hc) (by rw [hs];rfl) hni (ZbE I hg O.at_ ⟨rfl,?_⟩ hd)
 rw [hs]
 refine Calls.evalArgs_plain (Calls.spliced_cons (Calls.Constant_str (pos:=p) (k:=j) (Calls.spliced_nil ⟨rfl,(show 1<=sizeLine by decide),hC,hN,T,λh' e hm=>?_⟩)))
 have fr:X.A.frames=some (X.env::X.outer):=by rw [I.ok.frames,hst]
 have ff:s.heap.FunFrames X.base (X.env::X.outer):=by rw [<- hst];exact I.stack
 refine Zfa (B:=PySem.W.hideAll s.heap (frs X.stack)) (h:=s.heap) fr hfr (λb o z=>PySem.W.of_hideAll _ z) (PySem.W.funFrames_hide ff λenv he a ha=>?_) hm λh2 fl us=>?_
 ·rw [hst]
  exact List.mem_filterMap.mpr ⟨env,he,ha⟩
 ·have s0:Slots (frs X.outer) X.s₀.heap s.heap:=λb o e hb=>I.base.slot b o e (I.ok.frf b hb) hb (by rw [hex];simp)
  have s1:Slots (frs X.outer) X.s₀.heap h':=λb o e hb=>by
   obtain ⟨sl,q⟩:=s0 b o e hb
   exact ⟨sl,hm.keeps b _ q⟩
  exact ⟨e,.ref C,none,_,H,rfl,I.os,I.bare,fl,s1.up I.ok.funs us,I.raisedB hex,h⟩
end
section
variable {P:Program} {w:World} {K:PySem.W.Frag} {mg:Str->Option Value} {base:Heap}
theorem Fun.okD {x qual:Str} {st:Stmt} {f:Addr} {fd:FuncData} {N ps:List Str} {k:Nat} {sp:Sp} (F:Fun K x qual st f fd) (S:FnScope N ps (Zaj st)) (len:∀ vs H Q E,sp vs H Q E->vs.length=ps.length)
  (hbody:∀ (cdv:Value) (A:Around) (outer:List Env) (s:Shared) (H:Hp) (vs:List V) (Q:VK) (E:XK),Room k (A.deeper (envOfC qual (Zaj st) s.heap.objs.size f cdv))->sp vs H Q E ->
   ∃ t,PSs (cxOf (CXD P w) P w K mg base N qual (Zaj st) f cdv A outer s H E) (Za1 st) t/\t { nx:=λ_ H'=>Q .non H',rt:=Q } (start N vs) H):FnOk P w K mg base (CXD P w) (k+1) f fd ps sp:=by
 obtain ⟨oc,od,kV,doc,pm,an,cdv,ct,osl,rfl,lk,hcd⟩:=F.ex
 exact ZlK lk hcd S len λA outer s H vs Q E hr hsp=>hbody cdv A outer s H vs Q E hr hsp
theorem ZaC {N:List Str} {qual:Str} {scope:Scope} {f:Addr} {cd:Value} {A:Around} {outer:List Env} {s:Shared} {H:Hp} {E:XK}:Zfp (cxOf (CXD P w) P w K mg base N qual scope f cd A outer s H E) E:=⟨rfl,rfl,rfl,rfl⟩
theorem Zbc {X:Cx} {E E':XK} (L:Zfp X E') (h:∀ c d H,E c d H->E' c d H):ZbB (CXD X.prog X.w) X E:=by
 intro pins σ H s e s' I q
 obtain ⟨hst,hfr,hex,hxe⟩:=L
 obtain ⟨a,c,d,B,H2,rfl,os,bare,fly,sl,kp,hq⟩:=q
 rw [hxe]
 have fr:X.A.frames=some (X.env::X.outer):=by rw [I.ok.frames,hst]
 rw [hst] at fly
 have s0:Slots (frs X.outer) X.s₀.heap s'.heap:=λb o e hb=>by
  obtain ⟨z,q⟩:=I.base.slot b o e (I.ok.frf b hb) hb (by rw [hex];simp)
  obtain ⟨z',q'⟩:=sl b _ q (by rw [hst];exact List.mem_filterMap.mpr (by
   obtain ⟨env,he,hf⟩:=List.mem_filterMap.mp hb
   exact ⟨env,List.mem_cons_of_mem _ he,hf⟩))
  exact ⟨z',q'⟩
 refine fly.leaves fr hfr λh2 fly2 u2=>?_
 exact ⟨a,c,d,B,H2,rfl,os.trans I.os,bare,fly2,s0.up I.ok.funs u2,λh' b'=>⟨I.onB hex (kp h' b').1,(kp h' b').2⟩,h _ _ _ hq⟩
theorem Zc9 {X:Cx} {P:Program} {w:World} {E:XK} (h:∀ c d H,E c d H->False):ZbB (CXD P w) X E:=λ_ _ _ _ _ _ _ q=>by
 obtain ⟨a,c,d,B,H2,_,_,_,_,_,_,hq⟩:=q
 exact (h _ _ _ hq).elim
end
abbrev Cx.with (X:Cx) (A:Around) (c:Bool) (xe:Value->Shared->Prop):Cx:={ X with A:=A,calm:=c,xe:=xe }
theorem Inv.with {X:Cx} {pins:List (Addr×Obj)} {σ:St} {H:Hp} {s:Shared} {A:Around} {c:Bool} {xe:Value->Shared->Prop} (I:Inv X pins σ H s) (hd:c=true->A.handled=none) (fr:A.frames=X.A.frames):Inv (X.with A c xe) pins σ H s :=
 ⟨⟨I.ok.mod,I.ok.kind,I.ok.glob,I.ok.blt,I.ok.above,I.ok.inj,I.ok.has,I.ok.cab,hd,fr.trans I.ok.frames,I.ok.stk,I.ok.exf,I.ok.bs,I.ok.bsz,I.ok.noex,I.ok.exfs,I.ok.funs,I.ok.frf⟩,I.os,I.bare,I.base,I.loc,I.cell,I.free,I.freeC,I.pin,I.hok,I.len⟩
theorem Inv.back {X:Cx} {pins:List (Addr×Obj)} {σ σ0:St} {H H0:Hp} {s s0:Shared} {A:Around} {c:Bool} {xe:Value->Shared->Prop} (I:Inv (X.with A c xe) pins σ H s) (J:Inv X pins σ0 H0 s0):Inv X pins σ H s :=
 ⟨J.ok,I.os,I.bare,I.base,I.loc,I.cell,I.free,I.freeC,I.pin,I.hok,I.len⟩
theorem Inv.forgotten {X:Cx} {pins:List (Addr×Obj)} {σ:St} {H:Hp} {s:Shared} {h':Heap} {m:Str->Option Value} {t':Nat} (I:Inv X pins σ H s) (hn:h'.Ns X.env.locals m) (hs:Heap.SameBut X.env.locals s.heap h'):Inv X pins (List.replicate X.N.length none) H { s with heap:=h',toks:=t' }:=by
 have neL:∀ b o,X.s₀.heap.get? b=some o->b≠X.env.locals:=λb o e=>Nat.ne_of_lt (Nat.lt_of_lt_of_le (Heap.lt_size e) I.ok.above)
 refine ⟨I.ok,I.os,I.bare,⟨λb o e n hb hx=>(hs.2 b (neL b o e)).trans (I.base.keep b o e n hb hx),λb o e n hb hx=>?_,I.base.free,λb o e hx=>?_,I.base.tups,I.base.frzs,I.base.tbls⟩,⟨m,hn,λi x v _ e2 _=>?_⟩,λx c e=>?_,I.free,I.freeC,λp hp=>?_,λb ob e=>?_,List.length_replicate⟩
 ·obtain ⟨sl,q⟩:=I.base.slot b o e n hb hx
  exact ⟨sl,(hs.2 b (neL b o e)).trans q⟩
 ·obtain ⟨o',q⟩:=I.base.there b o e hx
  exact ⟨o',(hs.2 b (neL b o e)).trans q⟩
 ·rw [List.getElem?_replicate] at e2
  split at e2<;>cases e2
 ·obtain ⟨v,z⟩:=I.cell x c e
  exact ⟨v,z.sameBut hs (I.cne x c e)⟩
 ·obtain ⟨e,n,ne,nf,d⟩:=I.pin p hp
  exact ⟨(hs.2 p.1 ne).trans e,n,ne,nf,d⟩
 ·refine (I.hok b ob e).stay (λc v hc q=>(hs.2 c λz=>?_).trans q) (λ_ q=>q) λ_ _ q=>q
  rcases hc with w | w
  ·rw [z] at w
   rw [<- w,I.free] at e;cases e
  ·rw [z,I.free] at w;cases w
def exHO (a C:Addr):HO:=.ext λh=>∃ ob,PySem.W.InstAt h a ob C none
def Ziw (X:Cx) (E:St->XK) (e:Value) (s':Shared):Prop:=∃ σ H s,Inv X [] σ H s/\CXD X.prog X.w X.stack H s (E σ) e s'
def Zfo (CX:CXT) (X:Cx) (E:St->XK):Prop:=∀ (pins:List (Addr×Obj)) (σ:St) (H:Hp) (s:Shared) (e:Value) (s':Shared),Inv X pins σ H s->CX X.stack H s (E σ) e s'->X.xe e s'
theorem Zlr {X:Cx} {E:St->XK}:Zfo (CXD X.prog X.w) (X.wish (Ziw X E)) E:=λ_ σ H s _ _ I h=>⟨σ,H,s,I.unwish.pins_of (λp hp=>by cases hp),h⟩
section
variable {X:Cx} {CX:CXT} {k:Nat} {f C:Addr} {fd:FuncData} {ps:List Str} {sp:Sp} {dvs:List V} {ds:List Value} {x m:Str} {p pos apos:Pos} {e o:Expr} {es:List Expr} {ta:TE} {t:TA}
theorem Zkk {E:St->XK} {pins:List (Addr×Obj)} {σ:St} {H:Hp} {s:Shared} {Q:VK} {us:List Value} {vs:List V} (F:FnOk X.prog X.w X.K X.mg X.base CX k f fd ps sp) (hr:Room k X.A) (hb:Binds X.K fd ps ds) (hd:Vals dvs ds) (hx:Zfo CX X E)
  (I:Inv X pins σ H s) (r:Vals vs us) (h:sp (vs++dvs) H Q (E σ)):wpAny (model X.prog X.w) X.A (call (.ref f) us) (EP X pins σ Q) X.xe s:=by
 have r2:Vals (vs++dvs) (us++ds):=r.append hd
 have hl:(us++ds).length=ps.length:=by rw [<- r2.length];exact F.len _ _ _ _ h
 refine wpAny_call (codeAny_mono (F.run X.A X.stack s H ⟨us,[]⟩ (us++ds) (vs++dvs) Q (E σ) hr I.env0 (hb s us I.kIn hl) r2 h) λr s' hq=>?_)
 cases r with
 |error e=>exact hx pins σ H s e s' I hq
 |ok fl =>
  cases fl with
  |ret u=>exact I.after hq
  |next=>exact False.elim hq
  |brk=>exact False.elim hq
  |cont=>exact False.elim hq
def Zla (sp:Sp) (dvs:List V) (E:St->XK) (t:TA):TE:=λσ H Q=>t σ H λvs H1=>sp (vs++dvs) H1 Q (E σ)
theorem ZfT {E:St->XK} (F:FnOk X.prog X.w X.K X.mg X.base CX k f fd ps sp) (hr:Room k X.A) (hg:Gl X x) (hm:X.mg x=some (.ref f)) (hk:PySem.W.keepIn X.K (.ref f)=true) (hb:Binds X.K fd ps ds) (hd:Vals dvs ds) (hx:Zfo CX X E)
  (ha:PA X (e::es) t) (hdb:(x == ("__debug__":Str))=false:=by decide) (he:starEach (e::es) X.env=(false,eval e X.env)::starEach es X.env:=by rfl) (hpl:(backTo pos (starEach es X.env)).any (·.1)=false:=by rfl) :
  PE X (.Call (.Name x p) (e::es) [] pos) (Zla sp dvs E t):=by
 intro pins s σ H Q I h
 refine wpAny_Call_Name_kw (ZbE I hg hm ?_ hdb)
 exact PySem.W.callWith_K (h₀:=X.base) I.ok.mod.kin hk (thn (ha pos pins s σ H _ I h) λus s1 ⟨vs,H1,I1,r,q⟩=>⟨I1.kIn,Zkk F hr hb hd hx I1 r q⟩) he hpl
end
structure RoomA (k:Nat) (A:Around):Prop where
 dp:A.depth+3*k+5<recursionLimit
 un:A.units+16*k+200<cLine
theorem Room.any {k:Nat} {A:Around} (r:Room k A):RoomA k A:=⟨r.dp,r.un⟩
theorem RoomA.mono {j k:Nat} {A:Around} (r:RoomA k A) (h:j<=k):RoomA j A:=⟨by have:=r.dp;omega,by have:=r.un;omega⟩
theorem RoomA.deeper {k:Nat} {A:Around} (r:RoomA (k+1) A) (env:Env):RoomA k (A.deeper env) :=
 ⟨by have:=r.dp;show A.depth+1+3*k+5<_;omega,by have:=r.un;show A.units+3+16*k+200<_;omega⟩
theorem RoomA.depth {k:Nat} {A:Around} (r:RoomA k A):A.depth<recursionLimit:=by have:=r.dp;omega
theorem RoomA.mark {k:Nat} {A:Around} (r:RoomA k A) (u:Option Value):RoomA k (A.mark u):=⟨r.dp,r.un⟩
structure FnOkA (P:Program) (w:World) (K:PySem.W.Frag) (mg:Str->Option Value) (base:Heap) (CX:CXT) (k:Nat) (f:Addr) (fd:FuncData) (ps:List Str) (sp:Sp):Prop where
 len:∀ vs H Q E,sp vs H Q E->vs.length=ps.length
 run:∀ (A:Around) (outer:List Env) (s:Shared) (H:Hp) (args:Args) (us:List Value) (vs:List V) (Q:VK) (E:XK),RoomA k A->Env0 P w K mg base A outer s H->BindsTo s fd args (ps.zip us)->Vals vs us->sp vs H Q E ->
  codeAny (model P w) A (.call (.ref f) args) (CR CX outer P w H s Q E) s
abbrev Zjy (P:Program) (w:World) (K:PySem.W.Frag) (mg:Str->Option Value) (base:Heap) (N:List Str) (qual:Str) (scope:Scope) (f:Addr) (cd:Value) (A:Around) (outer:List Env) (s:Shared) (H:Hp):Cx :=
 (cxOf CX0 P w K mg base N qual scope f cd { A with handled:=none } outer s H E0).with (A.deeper (envOfC qual scope s.heap.objs.size f cd)) false (λ_ _=>False)
theorem ZlL {P:Program} {w:World} {K:PySem.W.Frag} {mg:Str->Option Value} {base:Heap} {k:Nat} {f:Addr} {name qual:Str} {params:Arguments} {body:List Stmt} {scope:Scope} {dV kV doc pm cdv ct oc:Value} {an od:Option Addr}
  {osl:Array (Option Value)} {N ps:List Str} {sp:Sp} (lk:K.lookup f=some ⟨oc,od,.func (PySem.W.fnOf name qual params body scope dV kV doc pm an cdv ct),osl⟩) (hcd:PySem.W.codeIn K cdv qual=true) (S:FnScope N ps scope)
  (len:∀ vs H Q E,sp vs H Q E->vs.length=ps.length)
  (hbody:∀ (A:Around) (outer:List Env) (s:Shared) (H:Hp) (vs:List V) (Q:VK) (E:XK),RoomA k (A.deeper (envOfC qual scope s.heap.objs.size f cdv))->sp vs H Q E ->
   ∃ t,PSs (Zjy P w K mg base N qual scope f cdv A outer s H) body t/\t { nx:=λ_ H'=>Q .non H',rt:=Q } (start N vs) H) :
  FnOkA P w K mg base CX0 (k+1) f (PySem.W.fnOf name qual params body scope dV kV doc pm an cdv ct) ps sp:=by
 refine ⟨len,λA outer s H args us vs Q E hr e0 hb r hsp=>?_⟩
 have hl:=len _ _ _ _ hsp
 have KX:K.In s.heap:=e0.mod.kin.keeps λb o e=>(e0.bs b o e).1
 have lim:s.heap.NoLimit:=e0.mod.nolimit.keeps λb o e=>(e0.bs b o e).1
 have hkind:∀ y∈ps.zip us,scope.names.lookup y.1=some .local\/(scope.names.lookup y.1=some .cell/\((cellsFrom (s.heap.objs.size+1) scope.names []).lookup y.1).isSome=true):=λ⟨n,v⟩ hy=>by
  rcases S.par n (List.of_mem_zip hy).1 with q | q
  ·exact .inl q
  ·exact .inr ⟨q,PySem.W.cellsFrom_some _ _ _ (.inl q)⟩
 refine codeAny_call_function hr.depth (KX _ _ lk) rfl S.co S.gen rfl (PySem.W.codeRec_of KX hcd) (hb _ _ _ _ ?_)
 refine wpAny_newFunctionEnv_cells S.kind hkind λenv he s1 x=>?_
 subst he
 refine ⟨lim.keeps x.toInCall.keep,codeAny_func ?_⟩
 obtain ⟨t,ht,hq⟩:=hbody A outer s H vs Q E (hr.deeper _) hsp
 have e1:Env0 P w K mg base { A with handled:=none } outer s H:=⟨e0.frames,e0.mod,e0.bs,e0.bsz,e0.funs,e0.frf,e0.hok,e0.bare⟩
 have J:Inv (cxOf CX0 P w K mg base N qual scope f cdv { A with handled:=none } outer s H E0) [] (start N vs) H s1:=Zdk S rfl e1 hl r x
 have I:Inv (Zjy P w K mg base N qual scope f cdv A outer s H) [] (start N vs) H s1:=J.with (λz=>nomatch z) rfl
 refine wpAny_mono (ht [] s1 (start N vs) H _ I hq) (λfl s' hs=>?_) λe s' hs=>hs.elim
 have fin:∀ {σ':St} {H':Hp} {v:V} {u:Value},Inv (Zjy P w K mg base N qual scope f cdv A outer s H) [] σ' H' s'->RelV v u->Q v H'->CE outer P w H s Q u s' :=
  λ{σ' H' v u} J rv q=>⟨v,H',J.os,J.bare,J.base,J.hok,rv,q⟩
 cases fl with
 |ret u =>
  obtain ⟨v,σ',H',J,rv,q⟩:=hs
  exact fin J rv q
 |next =>
  obtain ⟨σ',H',J,q⟩:=hs
  exact fin (v:=V.non) (u:=Value.none) J rfl q
 |brk =>
  obtain ⟨_,_,_,q⟩:=hs
  exact False.elim q
 |cont =>
  obtain ⟨_,_,_,q⟩:=hs
  exact False.elim q
section
variable {P:Program} {w:World} {K:PySem.W.Frag} {mg:Str->Option Value} {base:Heap}
theorem Fun.okA {x qual:Str} {st:Stmt} {f:Addr} {fd:FuncData} {N ps:List Str} {k:Nat} {sp:Sp} (F:Fun K x qual st f fd) (S:FnScope N ps (Zaj st)) (len:∀ vs H Q E,sp vs H Q E->vs.length=ps.length)
  (hbody:∀ (cdv:Value) (A:Around) (outer:List Env) (s:Shared) (H:Hp) (vs:List V) (Q:VK) (E:XK),RoomA k (A.deeper (envOfC qual (Zaj st) s.heap.objs.size f cdv))->sp vs H Q E ->
   ∃ t,PSs (Zjy P w K mg base N qual (Zaj st) f cdv A outer s H) (Za1 st) t/\t { nx:=λ_ H'=>Q .non H',rt:=Q } (start N vs) H):FnOkA P w K mg base CX0 (k+1) f fd ps sp:=by
 obtain ⟨oc,od,kV,doc,pm,an,cdv,ct,osl,rfl,lk,hcd⟩:=F.ex
 exact ZlL lk hcd S len λA outer s H vs Q E hr hsp=>hbody cdv A outer s H vs Q E hr hsp
end
section
variable {X:Cx} {CX:CXT} {k:Nat} {f C:Addr} {fd:FuncData} {ps:List Str} {sp:Sp} {dvs:List V} {ds:List Value} {E:XK} {x m:Str} {p pos apos:Pos} {e o:Expr} {es:List Expr} {ta:TE} {t:TA}
theorem ZfU (F:FnOkA X.prog X.w X.K X.mg X.base CX k f fd ps sp) (hr:RoomA k X.A) (hg:Gl X x) (hm:X.mg x=some (.ref f)) (hk:PySem.W.keepIn X.K (.ref f)=true) (hb:Binds X.K fd ps ds) (hd:Vals dvs ds) (hx:ZbB CX X E)
  (ha:PA X (e::es) t) (hdb:(x == ("__debug__":Str))=false:=by decide) (he:starEach (e::es) X.env=(false,eval e X.env)::starEach es X.env:=by rfl) (hpl:(backTo pos (starEach es X.env)).any (·.1)=false:=by rfl) :
  PE X (.Call (.Name x p) (e::es) [] pos) (Zge sp dvs E t):=by
 intro pins s σ H Q I h
 refine wpAny_Call_Name_kw (ZbE I hg hm ?_ hdb)
 refine PySem.W.callWith_K (h₀:=X.base) I.ok.mod.kin hk (thn (ha pos pins s σ H _ I h) λus s1 ⟨vs,H1,I1,r,q⟩=>⟨I1.kIn,?_⟩) he hpl
 have r2:Vals (vs++dvs) (us++ds):=r.append hd
 have hl:(us++ds).length=ps.length:=by rw [<- r2.length];exact F.len _ _ _ _ q
 refine wpAny_call (codeAny_mono (F.run X.A X.stack s1 H1 ⟨us,[]⟩ (us++ds) (vs++dvs) Q E hr I1.env0 (hb s1 us I1.kIn hl) r2 q) λr s' hq=>?_)
 cases r with
 |error e=>exact hx pins σ H1 s1 e s' I1 hq
 |ok fl =>
  cases fl with
  |ret u=>exact I1.after hq
  |next=>exact False.elim hq
  |brk=>exact False.elim hq
  |cont=>exact False.elim hq
theorem Ze1 {v:Addr} (hg:Gl X x) (hm:X.mg x=some (.ref v)) (hdb:(x == ("__debug__":Str))=false:=by decide):PE X (.Name x p) (tC (.ref v)):=λ_ s _ H _ I h=>ZbE I hg hm ⟨.ref v,H,I,rfl,h⟩ hdb
theorem Zbq:Zct X (.builtin "isinstance") (λxs H Q=>∃ (a C:Addr) (c:V) (cv:Value) (b:Bool),xs=[.ref a,c]/\H a=some (exHO a C)/\((∃ D,c=.ref D/\cv=.ref D)\/∃ n,c=.ty n/\cv=.type n)/\ExcCls X.K C/\PySem.W.findObj X.K C none "__class__"=some (.bind (.builtin "getset_descriptor.__get__") (.builtin "object.__class__"))/\PySem.W.kitOne X.K (.ref C) cv=some b/\Q (.bl b) H):=by
 intro pins s σ H xs us Q I r h
 obtain ⟨a,C,c,cv,b,rfl,ha,hc,ec,hf,e,q⟩:=h
 obtain ⟨u,u',rfl,ru,ru'⟩:=ZgI r
 cases ru
 obtain ⟨⟨ob,J⟩,_,_⟩:=I.hok a _ ha
 have eu:u'=cv:=by
  rcases hc with ⟨D,rfl,rfl⟩ | ⟨n,rfl,rfl⟩<;>exact ru'
 subst eu
 exact PySem.W.kia_one (Zjc ec hf) I.kIn J e (λz=>nomatch z) λtk=>⟨.bl b,H,I.tok _,rfl,q⟩
end
end L2
namespace L2
open PySem PySem.Spec PyProof.Rows
theorem ObjOk.some {P:Program} {w:World} {H:Hp} {h:Heap} {a:Addr} {o:HO} (x:ObjOk P w H h a o):∃ ob,h.get? a=some ob:=by
 cases o with
 |lst xs=>obtain ⟨_,_,_,_,e⟩:=x;exact ⟨_,e⟩
 |tup xs=>obtain ⟨_,_,_,o,e,_⟩:=x;exact ⟨o,e⟩
 |dK kvs=>obtain ⟨_,_,_,_,o,_,_,e,_⟩:=x;exact ⟨o,e⟩
 |dT kvs=>obtain ⟨_,_,_,_,o,_,_,e,_⟩:=x;exact ⟨o,e⟩
 |set S n=>obtain ⟨o,_,_,_,e,_⟩:=x;exact ⟨o,e⟩
 |ins C dx fs=>obtain ⟨_,_,_,e,_⟩:=x;exact ⟨_,e⟩
 |own y=>exact x
 |xd fs=>obtain ⟨_,⟨o,_,_,e,_⟩,_⟩:=x;exact ⟨o,e⟩
 |rng lo hi=>obtain ⟨_,_,_,e⟩:=x;exact ⟨_,e⟩
 |frz ob u=>obtain ⟨e,_⟩:=x;exact ⟨_,e⟩
 |tbl ps=>exact ⟨_,x⟩
 |met f y=>exact ⟨_,x⟩
 |ext φ=>obtain ⟨_,e,_⟩:=x;exact e
theorem Inv.track {X:Cx} {pins:List (Addr×Obj)} {σ:St} {H:Hp} {s:Shared} {a:Addr} {o:HO} (I:Inv X pins σ H s) (hn:H a=none) (n0:X.s₀.heap.get? a=none) (nl:a≠X.env.locals) (nc:∀ x c,X.env.cells.lookup x=some c->c≠a) (np:∀ p∈X.pn++pins,p.1≠a)
  (new:ObjOk X.prog X.w (upd H a o) s.heap a o):Inv X pins σ (upd H a o) s:=by
 refine ⟨I.ok,I.os,I.bare,⟨I.base.keep,I.base.slot,λb u e n hx=>?_,I.base.there,λb xs e=>?_,λb u v e=>?_,λb ps e=>?_⟩,I.loc,I.cell,?_,λx c e=>?_,λp hp=>?_,λb u e=>?_,I.len⟩
 ·rw [Zae (λz=>by rw [z,n0] at e;cases e)];exact I.base.free b u e n hx
 ·have q:=I.base.tups b xs e
  rw [Zae (Zai q hn)];exact q
 ·have q:=I.base.frzs b u v e
  rw [Zae (Zai q hn)];exact q
 ·obtain ⟨more,q⟩:=I.base.tbls b ps e
  exact ⟨more,by rw [Zae (Zai q hn)];exact q⟩
 ·rw [Zae (Ne.symm nl)];exact I.free
 ·rw [Zae (nc x c e)];exact I.freeC x c e
 ·obtain ⟨e,n,ne,nf,d⟩:=I.pin p hp
  exact ⟨e,by rw [Zae (np p hp)];exact n,ne,nf,d⟩
 ·by_cases z:b=a
  ·subst z
   rw [Zab] at e;cases e
   exact new
  ·rw [Zae z] at e
   exact (I.hok b u e).stay (λ_ _ _ q=>q) (λc q=>by rw [Zae (Zai q hn)];exact q) λc xs q=>by rw [Zae (Zai q hn)];exact q
theorem Zly {K:PySem.W.Frag} {h:Heap} {C N:Addr} {bm bs:List Value} {nm qn:Str} {hdct:Bool} {sn:List Str} {sub:List Value} {ab:Bool} {col:Option Bool} {dd:Option Addr} {k0 k1 k2 k3 k5:Option Value} {newId:String} {v:Value} {b:Bool} (X:K.In h)
  (e:h.get? C=some (excClassObj nm qn C N bs bm hdct sn sub ab col dd k0 k1 k2 k3 k5 newId)) (q:PySem.W.mroIn K C v=some b):(Value.ref C::bm).contains v=b:=by
 unfold PySem.W.mroIn PySem.W.clsIn at q
 split at q
 ·rename_i ho
  have e2:=X _ _ ho
  rw [e] at e2
  cases e2
  exact Option.some.inj q
 ·cases q
def Zl5 (K:PySem.W.Frag) (C:Addr):Prop:=PySem.W.excIn K C [.type "ValueError",.type "Exception",.type "BaseException",.type "object"] "ValueError.__new__"=true
def tAs (K:PySem.W.Frag) (D:Addr) (i:Nat) (ts:TS) (D1:Ends):St->XK:=λσ C d H=>∃ Ca,C=.ref Ca/\d=none/\Zl5 K Ca/\PySem.W.mroIn K Ca (.ref D)=some true/\∀ a,H a=none->ts D1 (σ.set i (some (.ref a))) (upd H a (exHO a Ca))
theorem Zk7 {X:Cx} {tb suite:List Stmt} {b0:Stmt} {x n:Str} {D:Addr} {i:Nat} {np hp pos:Pos} {t:TS} {ts:TS} {D0:Ends} {σ:St} {H:Hp} {s:Shared} (hst:X.stack=X.env::X.outer) (hfr:X.env.frame=some X.env.locals) (hex:X.ex=[]) (hpn:X.pn=[]) (hg:Gl X x) (O:XCls X.K X.mg x D)
  (hN:X.N.Nodup) (hi:X.N[i]?=some n) (hl:X.env.scope.names.lookup n=some .local) (b1:∀ σ H,¬ D0.bk σ H) (c1:∀ σ H,¬ D0.ct σ H)
  (hb:PSs (X.wish (Ziw X (tAs X.K D i ts { nx:=λ_ H=>D0.nx (List.replicate X.N.length none) H,rt:=D0.rt }))) tb t) (hs:∀ u,PSs (X.with (X.A.mark (some u)) false (λ_ _=>False)) (b0::suite) ts) (ht:t D0 σ H) (I:Inv X [] σ H s) (hd:(x == ("__debug__":Str))=false:=by decide) :
  wpAny (model X.prog X.w) X.A (exec (.Try tb [.ExceptHandler (some (.Name x np)) (some n) (b0::suite) hp] [] [] pos) X.env) (SP X [] D0) X.xe s:=by
 refine wpAny_Try_except (wpAny_mono (hb [] s σ H _ (I.wish _) ht) (λf s1 q=>?_) λe s1 q=>?_)
 ·have q':=SP.unwish q
  cases f with
  |next=>exact wpAny_execs_nil q'
  |brk=>exact q'
  |cont=>exact q'
  |ret u=>exact q'
 ·obtain ⟨σ1,H1,s0,I0,a,c,d,B,H2,rfl,os,bare,fly,sl,kp,Ca,rfl,rfl,xC,up,hts⟩:=q
  have fr:X.A.frames=some (X.env::X.outer):=by rw [I0.ok.frames,hst]
  have ff:s0.heap.FunFrames X.base X.stack:=I0.stack
  rw [hst] at fly
  refine fly.comes fr hfr λh5 fly5 u5=>?_
  have inv:∀ h6:Heap,B.StaysIn h6->Slots (frs X.stack) s0.heap h6->Inv X [] σ1 H2 { s1 with heap:=h6 }:=λh6 b6 s6=>by
   obtain ⟨un,hok⟩:=kp h6 b6
   exact I0.call' (s':={ s1 with heap:=h6 }) (ch:=[]) os (un.un s6) hok bare (λb hb=>by cases hb)
  have sl5:Slots (frs X.stack) s0.heap h5:=sl.up ff u5
  have I5:=inv h5 fly5.1 sl5
  obtain ⟨ob,vs5,hob,hobc,_,hobd⟩:=fly5.there
  have nm:∀ {A:Around} {E:Value->Shared->Prop} {R:Value->Shared->Prop},R (.ref D) { s1 with heap:=h5 }->wpAny (model X.prog X.w) A (eval (.Name x np) X.env) R E { s1 with heap:=h5 }:=λr =>
   Calls.Name_function_global I5.ok.kind hg (Calls.loadGlobal_global (by rw [I5.ok.glob];exact I5.mod.glob.keeps I5.bk) O.at_ r) hd
  -- it is new
  have nB:B.get? a=none:=fly5.2.1
  have n0:s0.heap.get? a=none:=by
   cases q:s0.heap.get? a with
   |none=>rfl
   |some o =>
    by_cases hb:a∈frs X.stack
    ·obtain ⟨_,o',ho',hnf⟩:=ff.mem hb
     rw [q] at ho';cases ho'
     obtain ⟨sl',q'⟩:=sl5 a _ q hb
     rw [hob] at q';cases q'
     exact absurd hobd (hnf _)
    ·obtain ⟨o',q'⟩:=(kp B (λ_ _ e=>e)).1.there a o q hb
     rw [nB] at q';cases q'
  have nH:H2 a=none:=by
   cases q:H2 a with
   |none=>rfl
   |some u =>
    obtain ⟨o',q'⟩:=((kp B (λ_ _ e=>e)).2 a u q).some
    rw [nB] at q';cases q'
  have nX:X.s₀.heap.get? a=none:=by
   cases q:X.s₀.heap.get? a with
   |none=>rfl
   |some o =>
    obtain ⟨o',q'⟩:=I0.base.there a o q (by rw [hex];simp)
    rw [n0] at q';cases q'
  have nL:a≠X.env.locals:=λz=>by
   obtain ⟨m,⟨o,_,_,e,_⟩,_⟩:=I0.loc
   rw [<- z,n0] at e;cases e
  have nC:∀ y c,X.env.cells.lookup y=some c->c≠a:=λy c e z=>by
   obtain ⟨v,o,ho,_⟩:=I0.cell y c e
   rw [z,n0] at ho;cases ho
  refine wpAny_handleBy_cons (codeAny_handlers_test (nm ?_)) (by intro q;cases q)
  obtain ⟨bmD,ND,nmD,qnD,bsD,hdD,snD,subD,abD,colD,ddD,a0,a1,a2,a3,a5,mD,atD,_,_,TD⟩:=Zdm I5.kIn O.ex
  obtain ⟨bmC,NC,nmC,qnC,bsC,hdC,snC,subC,abC,colC,ddC,e0,e1,e2,e3,e5,mC,atC,_,_,TC⟩:=Zdm I5.kIn xC
  refine Zfj (C:=Ca) (D:=D) (ups:=bmC) (downs:=bmD) ⟨nmC,qnC,NC,bsC,hdC,snC,subC,abC,colC,ddC,e0,e1,e2,e3,e5,_,atC⟩ ⟨nmD,qnD,ND,bsD,hdD,snD,subD,abD,colD,ddD,a0,a1,a2,a3,a5,_,atD⟩ hob hobc (TD.hasType PySem.F.excBase_ValueError.hasBase) ?_
  rw [Zly I5.kIn atC up]
  refine codeAny_handlers_suite_as (fly5.again λh6 fly6 u6=>?_)
  have I6:=inv h6 fly6.1 (sl5.up ff u6)
  obtain ⟨ob6,vs6,hob6,hobc6,hobx6,hobd6⟩:=fly6.there
  have J6:Inv X [] σ1 (upd H2 a (exHO a Ca)) { s1 with heap:=h6 }:=I6.track nH nX nL nC (λp hp=>by rw [hpn] at hp;cases hp) ⟨⟨ob6,hob6,hobc6,by unfold PySem.W.notCls;rw [hobd6],by rw [hobx6];trivial⟩,⟨ob6,hob6⟩,λg1 g2 ⟨o,J⟩ k=>⟨o,k _ J.at_,J.cls,J.no,by
   have z:=J.dict
   revert z
   cases o.dict with
   |none=>exact λ_=>trivial
   |some dx=>exact λz=>z.elim⟩⟩
  refine ZdM J6 hN hi (.inl hl) (v:=.ref a) rfl (λs7 I7=>?_) (.inr hl)
  refine wpAny_mono (hs (.ref a) [] s7 _ _ _ (I7.with (λz=>nomatch z) rfl) (hts a nH)) (λf s8 q=>?_) (λ_ _ z=>z.elim)
  have kd:(X.env.scope.kind == .class||(X.env.scope.kind == .module&&X.env.locals != X.env.globals))=false:=by rw [I5.ok.kind];rfl
  cases f with
  |next =>
   obtain ⟨σ',H',I8,q⟩:=q
   have I8:=I8.back I7
   obtain ⟨m,hm,_⟩:=I8.loc
   exact wpAny_nameGoes hl hm kd λh9 m9 hn9 hs9=>⟨_,H',I8.forgotten hn9 hs9,q⟩
  |brk =>
   obtain ⟨σ',H',_,q⟩:=q
   exact False.elim q
  |cont =>
   obtain ⟨σ',H',_,q⟩:=q
   exact False.elim q
  |ret u =>
   obtain ⟨v,σ',H',I8,r,q⟩:=q
   have I8:=I8.back I7
   obtain ⟨m,hm,_⟩:=I8.loc
   exact wpAny_nameGoes hl hm kd λh9 m9 hn9 hs9=>⟨v,_,H',I8.forgotten hn9 hs9,r,q⟩
section
variable {P:Program} {w:World} {K:PySem.W.Frag} {mg:Str->Option Value} {base:Heap}
theorem Fun.okAs {x qual:Str} {st:Stmt} {f:Addr} {fd:FuncData} {N ps:List Str} {k:Nat} {sp:Sp} {tb suite rest:List Stmt} {b0:Stmt} {hx n:Str} {D:Addr} {i:Nat} {np hp pos:Pos} (F:Fun K x qual st f fd) (S:FnScope N ps (Zaj st)) (O:XCls K mg hx D)
  (hb:Za1 st=.Try tb [.ExceptHandler (some (.Name hx np)) (some n) (b0::suite) hp] [] [] pos::rest) (hi:N[i]?=some n) (hl:(Zaj st).names.lookup n=some .local) (len:∀ vs H Q E,sp vs H Q E->vs.length=ps.length)
  (hgl:∀ (cdv:Value) (n:Nat),(envOfC qual (Zaj st) n f cdv).kindOf hx=some .globalImplicit) (hd:(hx == ("__debug__":Str))=false)
  (hbody:∀ (cdv:Value) (A:Around) (outer:List Env) (s:Shared) (H:Hp) (vs:List V) (Q:VK) (E:XK),Room k (A.deeper (envOfC qual (Zaj st) s.heap.objs.size f cdv))->sp vs H Q E ->
   ∃ (t:(St->XK)->TS) (ts tr:TS),(∀ E',PSs ((cxOf CX0 P w K mg base N qual (Zaj st) f cdv A outer s H E).wish (Ziw (cxOf CX0 P w K mg base N qual (Zaj st) f cdv A outer s H E) E')) tb (t E')) /\
    (∀ u,PSs ((cxOf CX0 P w K mg base N qual (Zaj st) f cdv A outer s H E).with ((A.deeper (envOfC qual (Zaj st) s.heap.objs.size f cdv)).mark (some u)) false (λ_ _=>False)) (b0::suite) ts) /\
    PSs (cxOf CX0 P w K mg base N qual (Zaj st) f cdv A outer s H E).nox rest tr /\
    t (tAs K D i ts { nx:=λ_ H'=>tr { nx:=λ_ H'=>Q .non H',rt:=Q } (List.replicate N.length none) H',rt:=Q }) { nx:=λσ' H'=>tr { nx:=λ_ H'=>Q .non H',rt:=Q } σ' H',rt:=Q } (start N vs) H):FnOk P w K mg base CX0 (k+1) f fd ps sp:=by
 obtain ⟨oc,od,kV,doc,pm,an,cdv,ct,osl,rfl,lk,hcd⟩:=F.ex
 refine ZlJ lk hcd S len λA outer s H vs Q E hr hsp s1 I=>?_
 obtain ⟨t,ts,tr,h1,h2,h3,q⟩:=hbody cdv A outer s H vs Q E hr hsp
 rw [hb]
 refine wpAny_execs_cons (thn (Zk7 (X:=cxOf CX0 P w K mg base N qual (Zaj st) f cdv A outer s H E) (D0:={ nx:=λσ' H'=>tr { nx:=λ_ H'=>Q .non H',rt:=Q } σ' H',rt:=Q }) rfl rfl rfl rfl (hgl cdv _) O S.nd hi hl (λ_ _ z=>z) (λ_ _ z=>z) (h1 _) h2 q I hd) λfl s2 z=>?_)
 cases fl with
 |next =>
  obtain ⟨σ',H',I',z⟩:=z
  exact h3.nox [] s2 σ' H' _ I' z
 |ret v=>exact z
 |brk=>obtain ⟨_,_,_,z⟩:=z;exact z.elim
 |cont=>obtain ⟨_,_,_,z⟩:=z;exact z.elim
end
end L2
namespace L2
open PySem
section
variable {P:Program} {w:World} {A:Around} {E:Value->Shared->Prop} {s:Shared} {d it:Addr} {od:Obj} {es:Array DictEntry} {ep:Nat}
theorem ZfJ {Q:Value->Shared->Prop} (nS:(d == sysModules)=false) (at_d:s.heap.get? d=some od) (ex:od.ExactDict) (dd:od.data=.dict es ep)
  (q:Q (.ref s.heap.objs.size) { s with heap:=s.heap.push { cls:=.type "dict_keyiterator",data:=.fields #[.ref d,.int 0 0,.int es.size 0,.int ep 0] } }):wpAny (model P w) A (pyIter (.ref d)) Q E s:=by
 have ty:s.TypeIs (.ref d) "dict":=⟨od,at_d,ex.1⟩
 refine wpAny_pyIter_slot ty F.slot_dict_iter (wpAny_call_entry F.slot_dict_iter ty F.entry_dict_iter (wpAny_bind ?_) (F.args_dict_iter_1 _))
 unfold Builtin.Dict.dictSlotNone Builtin.Dict.showsAll
 refine wpAny_bind (wpAny_notOrdered_dict ty (wpAny_pure ?_))
 show wpAny _ _ ((if (d == sysModules)=true then _ else _) >>= _) _ _ s
 rw [nS,if_neg (by decide)]
 refine wpAny_bind (wpAny_pure (wpAny_bind (wpAny_dictEntries at_d dd (wpAny_bind (wpAny_dictEpoch at_d dd (wpAny_bind (wpAny_newObj_type (wpAny_pure ?_))))))))
 exact ⟨_,rfl, "dict_keyiterator",_,⟨_,Heap.get?_push_size _ rfl,rfl⟩,F.slot_dict_keyiterator_next.lookup,by simpa [rawInt] using q⟩
theorem ZfK {i:Nat} {Q:Option Value->Shared->Prop} (hI:s.heap.IsKeyIter it d i es.size ep) (at_d:s.heap.get? d=some od) (dd:od.data=.dict es ep) (lt:i<es.size)
  (q:∀ h',h'.IsKeyIter it d (i+1) es.size ep->Heap.SameBut it s.heap h'->Q (some es[i].key) { s with heap:=h' }):wpAny (model P w) A (pyNext (.ref it)) Q E s:=by
 have ty:=hI.typeIs
 obtain ⟨oi,at_i,ci,di⟩:=hI
 unfold pyNext
 refine wpAny_bind (wpAny_attempt (wpAny_callSpecial?_slot (name:=Str.ofString "__next__") ty F.slot_dict_keyiterator_next (wpAny_call_entry F.slot_dict_keyiterator_next ty F.entry_dict_keyiterator_next (wpAny_bind (wpAny_pure (wpAny_bind (wpAny_bind ?_)))) (F.args_dict_keyiterator_next_1 _))))
 refine wpAny_bind (wpAny_typeNameOfWhole_keyiter ty (wpAny_pure (wpAny_bind (wpAny_fieldsOf at_i di ?_))))
 rw [show Builtin.Dict_items.ownsTuple "dict_keyiterator"=false by decide]
 show wpAny _ _ (if (Value.ref d == Value.none)=true then _ else _) _ _ s
 rw [if_neg (show ¬ (Value.ref d == Value.none)=true from nofun)]
 refine wpAny_bind (wpAny_pure (wpAny_bind (wpAny_dictEntries at_d dd ?_)))
 rw [if_neg (by simp)]
 refine wpAny_bind (wpAny_pure (wpAny_bind (wpAny_dictEpoch at_d dd ?_)))
 rw [if_neg (by simp)]
 refine wpAny_pure ?_
 simp only [show ¬ (i:Int)<0 by omega,if_false,Int.toNat_natCast,Array.getElem?_eq_getElem lt]
 refine wpAny_bind (wpAny_bind (wpAny_typeNameOfWhole_keyiter ty (wpAny_pure (wpAny_bind (wpAny_isOneOf_keyiter ty ?_)))))
 show wpAny _ _ (setField (.ref it) 1 (rawInt (↑i+1)) >>= _) _ _ s
 refine wpAny_bind (wpAny_setField at_i di (by simp) ?_)
 have new:(s.heap.update it (Obj.mapFields λfs=>fs.setIfInBounds 1 (rawInt (↑i+1)))).IsKeyIter it d (i+1) es.size ep :=
  ⟨_,Heap.get?_update_self _ at_i (Obj.isFreed_of_fields (Obj.data_mapFields di _)),by rw [Obj.cls_mapFields];exact ci,by rw [Obj.data_mapFields di];simp [rawInt]⟩
 refine wpAny_bind (wpAny_holding (wpAny_bind (wpAny_isOneOf_keyiter (s:={ s with heap:=s.heap.update it (Obj.mapFields λfs=>fs.setIfInBounds 1 (rawInt (↑i+1))) }) new.typeIs ?_)))
 show wpAny _ _ (pure es[i].key) _ _ _
 exact wpAny_pure (wpAny_pure ⟨_,rfl,wpAny_pure (q _ new (Heap.SameBut.update ..))⟩)
theorem Zhl {i:Nat} {Q:Option Value->Shared->Prop} (calm:A.handled=none) (hI:s.heap.IsKeyIter it d i es.size ep) (at_d:s.heap.get? d=some od) (dd:od.data=.dict es ep) (ge:es.size<=i)
  (q:∀ h',Heap.ExtBut it s.heap h'->Q none { s with heap:=h' }):wpAny (model P w) A (pyNext (.ref it)) Q E s:=by
 have ty:=hI.typeIs
 obtain ⟨oi,at_i,ci,di⟩:=hI
 unfold pyNext
 refine wpAny_bind (wpAny_attempt (wpAny_callSpecial?_slot (name:=Str.ofString "__next__") ty F.slot_dict_keyiterator_next (wpAny_call_entry F.slot_dict_keyiterator_next ty F.entry_dict_keyiterator_next (wpAny_bind (wpAny_pure (wpAny_bind (wpAny_bind ?_)))) (F.args_dict_keyiterator_next_1 _))))
 refine wpAny_bind (wpAny_typeNameOfWhole_keyiter ty (wpAny_pure (wpAny_bind (wpAny_fieldsOf at_i di ?_))))
 rw [show Builtin.Dict_items.ownsTuple "dict_keyiterator"=false by decide]
 show wpAny _ _ (if (Value.ref d == Value.none)=true then _ else _) _ _ s
 rw [if_neg (show ¬ (Value.ref d == Value.none)=true from nofun)]
 refine wpAny_bind (wpAny_pure (wpAny_bind (wpAny_dictEntries at_d dd ?_)))
 rw [if_neg (by simp)]
 refine wpAny_bind (wpAny_pure (wpAny_bind (wpAny_dictEpoch at_d dd ?_)))
 rw [if_neg (by simp)]
 refine wpAny_pure ?_
 simp only [show ¬ (i:Int)<0 by omega,if_false,Int.toNat_natCast,Array.getElem?_eq_none ge]
 refine wpAny_bind (wpAny_bind (wpAny_typeNameOfWhole_keyiter ty (wpAny_pure ?_)))
 show wpAny _ _ (setField (.ref it) 0 .none >>= _) _ _ s
 refine wpAny_bind (wpAny_setField at_i di (by simp) ?_)
 show wpAny _ _ (newExc (.type "StopIteration") [] >>= _) _ _ _
 refine wpAny_bind ?_
 simp only [newExc,newTuple]
 refine wpAny_bind (wpAny_newObj_type (wpAny_bind (m:=firstArgMember _ _) (wpAny_of_eq (a:=Value.none) (by first | rfl | (simp only [firstArgMember];rfl)) (wpAny_newObj_type ?_ (by size_fits)))) (by size_fits))
 simp only [raiseNew]
 refine wpAny_bind (wpAny_handled ?_)
 rw [show A.in1.handled=none from calm]
 refine wpAny_bind (wpAny_pure (wpAny_throw ?_))
 refine wpAny_bind (wpAny_isInstance (T:="StopIteration") (b:=true) ⟨_,Heap.get?_push_size _ rfl,rfl⟩ isSubtype_stop ?_)
 refine wpAny_pure (q _ ?_)
 exact ((Heap.SameBut.update ..).extBut.push _).push _
end
end L2
namespace L2
open PySem PySem.W
section
variable {P:Program} {w:World} {A:Around} {d:Addr} {es:Array DictEntry} {ep:Nat}
def RawD (d:Addr) (es:Array DictEntry) (ep:Nat) (h:Heap):Prop:=∃ o,h.get? d=some o/\o.ExactDict/\o.data=.dict es ep
theorem RawD.ty {s:Shared} (x:RawD d es ep s.heap):s.TypeIs (.ref d) "dict":=let ⟨o,z,e,_⟩:=x;⟨o,z,e.1⟩
theorem RawD.lt {h:Heap} (x:RawD d es ep h):d<h.objs.size:=let ⟨_,z,_⟩:=x;Heap.lt_size z
theorem RawD.at {h h':Heap} (x:RawD d es ep h) (k:∀ o,h.get? d=some o->h'.get? d=some o):RawD d es ep h':=let ⟨o,z,r⟩:=x;⟨o,k o z,r⟩
theorem ZiT {I:Addr} (calm:A.handled=none) (ne:d≠I):Walks P w A I [I,d] [I] es.size (λi v=>∃ lt:i<es.size,v=es[i].key) (λi h=>h.IsKeyIter I d i es.size ep/\RawD d es ep h) where
 sub:=λb hb=>by simp at hb;simp [hb]
 frame:=λ_ _ _ st k=>⟨st.1.at λo e=>k I (by simp) o e,st.2.at λo e=>k d (by simp) o e⟩
 item:=λi s Q E lt st q=>by
  obtain ⟨si,o,z,ex,dd⟩:=st
  refine ZfK si z dd lt λh' si' sb=>?_
  have kp:∀ b o,b∉[I]->s.heap.get? b=some o->h'.get? b=some o:=λb o hb e=>(sb.2 b (by simpa using hb)).trans e
  exact q _ h' s.toks ⟨lt,rfl⟩ ⟨si',o,kp d o (by simpa using ne) z,ex,dd⟩ kp
 done:=λs Q E st q=>by
  obtain ⟨si,o,z,ex,dd⟩:=st
  exact Zhl calm si z dd (Nat.le_refl _) λh' eb=>q h' s.toks λb o hb e=>eb b o (by simpa using hb) e
 self:=λ_ _ _ _ st q=>wpAny_pyIter_keyiter st.1 q
theorem Zko (lo:(d == sysModules)=false):KdlSrc P w "dict" d d es.size (λi v=>∃ lt:i<es.size,v=es[i].key) (RawD d es ep) where
 type:=λ_ x=>x.ty
 there:=λ_ x=>⟨x.lt,x.lt⟩
 keep:=λ_ _ x k=>x.at λo e=>k d (.inl rfl) o e
 notList:=by decide
 notTuple:=by decide
 hint:=λ_ _ _ _ x q=>kdl_hint_dict x.ty q
 iter:=λ_ _ calm x=>⟨_,_,λ_ _ q=>by
  obtain ⟨o,z,ex,dd⟩:=x
  exact ZfJ lo z ex dd q,ZiT calm (Nat.ne_of_lt x.lt),⟨⟨_,Heap.get?_push_size _ rfl,rfl,rfl⟩,x.at λo e=>Heap.get?_push_of_some _ e⟩⟩
variable {E:Value->Shared->Prop} {s:Shared} {b:Addr} {eb:Nat}
theorem Zkq {Q:Value->Shared->Prop} (la:(d == sysModules)=false) (lb:(b == sysModules)=false) (xa:RawD d es ep s.heap) (xb:RawD b #[] eb s.heap) (hu:A.units<cLine) (q:Q (.bool (es.size == 0)) s) :
  wpAny (model P w) A (compareOp .Eq (.ref d) (.ref b)) Q E s:=by
 refine wpAny_richCompare_same_room (op:=.Eq) xa.ty xb.ty PySem.F.slot_dict_eq (wpAny_call_entry PySem.F.slot_dict_eq xa.ty PySem.F.entry_dict_eq ?_ (PySem.F.args_dict_eq_2 _ _)) hu
 show wpAny _ _ (Builtin.Dict.dictSlotArgs "__eq__" ⟨[.ref d,.ref b],[]⟩ >>= _) _ _ s
 unfold Builtin.Dict.dictSlotArgs
 refine wpAny_bind (wpAny_bind (wpAny_notOrdered_dict xa.ty ?_))
 show wpAny _ _ (pure (Value.ref d,Value.ref b)) _ _ s
 refine wpAny_pure (wpAny_bind (wpAny_isInstance (T:="dict") xb.ty PySem.F.sub_dict_dict ?_))
 simp only [Bool.not_true,Bool.false_eq_true,if_false]
 refine wpAny_bind (wpAny_pure (wpAny_bind (wpAny_pure (wpAny_bind ?_))))
 obtain ⟨oa,za,_,da⟩:=xa
 obtain ⟨ob,zb,_,db⟩:=xb
 unfold Builtin.Dict.samePairs Builtin.Dict.showsAll
 rw [la,lb,if_neg (by decide)]
 refine wpAny_bind (wpAny_pure (wpAny_bind (wpAny_pure (wpAny_bind (wpAny_dictEntries za da ?_)))))
 dsimp only
 refine wpAny_bind (wpAny_dictEntries zb db ?_)
 by_cases e:es.size=0
 ·rw [e,if_neg (by simp)]
  refine wpAny_bind (wpAny_dictEpoch za da ?_)
  rw [Std.Legacy.Range.forIn_eq_forIn_range']
  refine wpAny_bind (wpAny_pure (wpAny_pure (wpAny_pure ⟨_,rfl,(λx=>nomatch x),?_⟩)))
  simpa [e] using q
 ·rw [if_pos (by simpa using e)]
  refine wpAny_bind (wpAny_rule (wpAny_pure (wpAny_pure ⟨_,rfl,(λx=>nomatch x),?_⟩)))
  have:(es.size == 0)=false:=by simpa using e
  simpa [this] using q
end
end L2
namespace L2
open PySem
section
variable {P:Program} {w:World} {A:Around} {E:Value->Shared->Prop} {s:Shared} {d a:Addr}
theorem Zj3 {κ β:Type} [DecidableEq κ]:∀ {xs:List (κ×β)} {j:Nat} {k:κ} {p:β},(xs.map (·.1)).Nodup->xs[j]?=some (k,p)->xs.eraseIdx j=xs.filter λx=>decide (x.1≠k)
 |[],j,k,p,_,h=>by simp at h
 |x::r,0,k,p,nd,h=>by
  obtain rfl:x=(k,p):=by simpa using h
  rw [List.map_cons,List.nodup_cons] at nd
  rw [List.eraseIdx_cons_zero,List.filter_cons_of_neg (by simp)]
  refine (List.filter_eq_self.mpr λy hy=>?_).symm
  exact decide_eq_true λe=>nd.1 (List.mem_map.mpr ⟨y,hy,e⟩)
 |x::r,j+1,k,p,nd,h=>by
  rw [List.map_cons,List.nodup_cons] at nd
  have h':r[j]?=some (k,p):=by simpa using h
  have ne:x.1≠k:=λe=>nd.1 (List.mem_map.mpr ⟨_,List.mem_of_getElem? h',e.symm⟩)
  rw [List.eraseIdx_cons_succ,List.filter_cons_of_pos (by simpa using ne),Zj3 nd.2 h']
theorem Zkp {κ:Type} [DecidableEq κ] {knd:HeapKind P w κ} {xs:List (κ×Addr×Value)} {k:κ} {p:Addr×Value} {Q:Value->Shared->Prop} (room:knd.room A.in1) (hk:knd.is s.heap k a) (hm:s.heap.DictOfH knd d xs) (hz:xs.length<=sizeLine)
  (l:atKey xs k=some p) (q:∀ h',h'.DictOfH knd d (xs.filter λx=>decide (x.1≠k))->Heap.SameBut d s.heap h'->Q p.2 { s with heap:=h',toks:=s.toks+knd.draws k }) :
  wpAny (model P w) A (call (.builtin "dict.pop") [.ref d,.ref a]) Q E s:=by
 have ty:=hm.typeIs
 obtain ⟨o,es,ep,at_d,ex,dd,he,his,nd⟩:=hm
 have ne:es.isEmpty=false:=by
  cases xs with
  |nil=>cases l
  |cons x r =>
   have:=size_of_entries he
   cases hes:es.isEmpty with
   |false=>rfl
   |true =>
    have:es.size=0:=by simpa [Array.isEmpty] using hes
    simp_all
 refine call_meetsIn PySem.F.slot_dict_pop ty PySem.F.entry_dict_pop (PySem.F.args_dict_pop_2 _ _) (S:=λA' R s'=>A'=A/\s'=s/\R=wants Q E) (.of_wp λA' R s' ⟨hA,hs,hR⟩=>?_) ⟨rfl,rfl,rfl⟩
 subst hA hs hR
 unfold Builtin.«dict.pop» Builtin.Dict.keyAndDefault
 refine wpAny_bind (wpAny_bind (wpAny_notOrdered_dict ty ?_))
 show wpAny _ _ (pure (d,Value.ref a,none)) _ _ _
 refine wpAny_pure ?_
 simp only [show (keyPart (Value.ref a)).isSome=false from rfl,Bool.false_eq_true,if_false]
 refine wpAny_bind (wpAny_dictEntries at_d dd (wpAny_bind (wpAny_pure ?_)))
 simp only [ne,Bool.false_eq_true,if_false]
 unfold Builtin.Dict.takeOut
 refine wpAny_bind (wpAny_holding (wpAny_bind (knd.pyHash room hk (wpAny_bind (wpAny_dictFind_heap (s:={ s' with toks:=s'.toks+knd.draws k }) room hk at_d dd he his nd (λno=>?_) λj p' hj=>?_)))))
 ·rw [atKey_none_of_get no] at l
  cases l
 ·have e1:=atKey_of_get nd hj
  rw [l] at e1
  obtain rfl:p=p':=Option.some.inj e1
  refine wpAny_bind (wpAny_dictEntries (s:={ s' with toks:=s'.toks+knd.draws k }) at_d dd ?_)
  rw [entry_at he j,hj]
  refine wpAny_bind (wpAny_updateDictKeys (hz:=by rw [size_of_entries he];exact hz) (s:={ s' with toks:=s'.toks+knd.draws k }) at_d dd (wpAny_pure ?_))
  refine wpAny_bind (wpAny_letGo (wpAny_pure ⟨_,rfl,q _ ⟨_,_,ep+1,Heap.get?_update_self _ at_d (Obj.isFreed_of_dict (Obj.data_mapDictKeys dd _)),ex.mapDictKeys _,Obj.data_mapDictKeys dd _,?_,λx hx=>?_,?_⟩ (Heap.SameBut.update ..)⟩))
  ·have em:∀ (ys:List (κ×Addr×Value)) (i:Nat),(ys.eraseIdx i).map (entryOfKey knd)=(ys.map (entryOfKey knd)).eraseIdx i:=by
    intro ys
    induction ys with
    |nil=>intro i;rfl
    |cons y r ih =>
     intro i
     cases i with
     |zero=>rfl
     |succ i=>simp only [List.eraseIdx_cons_succ,List.map_cons,ih]
   rw [<- Zj3 nd hj,em,<- he]
   obtain ⟨l⟩:=es
   simp
  ·exact knd.keeps (his x (List.mem_filter.mp hx).1) at_d dd (Heap.SameBut.update ..)
  ·exact List.Nodup.sublist (List.Sublist.map _ List.filter_sublist) nd
end
end L2
namespace L2
open PySem
section
variable {P:Program} {w:World} {A:Around} {E:Value->Shared->Prop} {s:Shared} {a:Addr} {its:Array Value} {n:Nat}
theorem Zeu:typeLookup (.type "list") "keys"=pure none:=by rw [typeLookup_type,builtinLookup_eq_fast];kernel_rfl
theorem ZkD {Q:Option Value->Shared->Prop} (at_a:s.heap.get? a=some { cls:=.type "list",data:=.seq its n }) (calm:A.handled=none)
  (q:∀ h' tk,(∀ b o,s.heap.get? b=some o->h'.get? b=some o)->Q none { s with heap:=h',toks:=tk }):wpAny (model P w) A (getAttr? (.ref a) "keys") Q E s:=by
 obtain ⟨hp,g,d,tk,os⟩:=s
 have ty:∀ tk',(⟨hp,g,d,tk',os⟩:Shared).TypeIs (.ref a) "list":=λ_=>⟨_,at_a,rfl⟩
 have g1:=sub_AttributeError
 have g2:=F.slot_list_getattribute.lookup
 have g3:=F.slot_list_getattribute.bind (.ref a)
 have g4:=am_list_getattr_none
 unfold getAttr? getAttrBy? getAttrBy
 repeat (any_goals (first | assumption | exact ty _ | ((with_reducible show wpAny _ _ (call (Value.builtin "list.__getattribute__") _ _) _ _ _);refine call_meets F.slot_list_getattribute (ty _) am_entry_list_getattribute (F.args_list_getattribute_2 _ _) (meets_getattribute_miss_list a its n _ "keys" _ Zeu (by decide +kernel)) ⟨at_a,calm,λh' tk' e new=>?_⟩) | wp_step))
 obtain ⟨t',u',at_e⟩:=new.there
 show wpAny _ _ (getattributeRaised _ _ _ _ _ _ _) _ _ _
 unfold getattributeRaised
 repeat (any_goals (first | assumption | exact q _ _ new.keeps | wp_step))
end
theorem ZbM:plainId "dict.update.loop"=true:=by decide +kernel
theorem Zdy:entryFor table "dict.update.loop"=some Builtin.«dict.update.loop»:=entryFor_of_tree (by kernel_rfl)
section
variable {P:Program} {w:World} {A:Around} {R:Result->Shared->Prop} {κ:Type} [DecidableEq κ] {knd:KeyKind P w κ} {I d:Addr} {fp wr:List Addr} {n:Nat} {Pv:Nat->Value->Prop} {St:Nat->Heap->Prop}
def Zl4 (knd:KeyKind P w κ) (h0:Heap) (d:Addr) (wr:List Addr) (kvs:List (κ×Value)) (i:Nat) (v:Value):Prop :=
 ∃ t o m key k x,v=.ref t/\t≠d/\t∉wr/\h0.get? t=some o/\o.cls=.type "tuple"/\o.data=.seq #[key,x] m/\knd.is k key=true/\kvs[i]?=some (k,x)
theorem ZeO {kvs:List (κ×Value)} {i:Nat} {k:κ} {x:Value} (nd:(kvs.map (·.1)).Nodup) (h:kvs[i]?=some (k,x)):stored (kvs.take i) k x=kvs.take (i+1):=by
 have lt:i<kvs.length:=by
  rcases Nat.lt_or_ge i kvs.length with z | z
  ·exact z
  ·rw [List.getElem?_eq_none z] at h;cases h
 have no:((kvs.take i).any λkv=>decide (kv.1=k))=false:=by
  rw [List.any_eq_false]
  intro kv hm e
  obtain ⟨j,hj,e2⟩:=List.getElem_of_mem hm
  have hj':j<i:=by rw [List.length_take] at hj;omega
  have e3:kvs[j]'(by omega)=kv:=by rw [<- e2,List.getElem_take]
  have e4:kvs[i]=(k,x):=by rw [List.getElem?_eq_getElem lt] at h;exact Option.some.inj h
  have ne:=(List.pairwise_iff_getElem.mp nd) j i (by rw [List.length_map];omega) (by rw [List.length_map];exact lt) hj'
  apply ne
  rw [List.getElem_map,List.getElem_map,e3,e4]
  exact of_decide_eq_true e
 unfold stored
 rw [no,if_neg (by decide),List.take_add_one,h]
 rfl
theorem Zgm (W:Walks P w A.in1 I fp wr n Pv St) (hf:d∉fp) (res:Value) (h0:Heap) (kvs:List (κ×Value)) (hl:kvs.length=n) (nd:(kvs.map (·.1)).Nodup) (hz:n<=sizeLine) (pr:∀ i v,Pv i v->Zl4 knd h0 d wr kvs i v) :
  ∀ (m i:Nat) (s:Shared),n-i=m->i<=n->St i s.heap->s.heap.DictOf knd d (kvs.take i)->(∀ b o,b≠d->b∉wr->h0.get? b=some o->s.heap.get? b=some o) ->
   (∀ h' tk,h'.DictOf knd d kvs->(∀ b o,b≠d->b∉wr->h0.get? b=some o->h'.get? b=some o)->R (.ok (.ret res)) { s with heap:=h',toks:=tk }) ->
   codeAny (model P w) A (.builtin "dict.update.loop" ⟨[.ref d,.ref I,rawInt i,res],[]⟩) R s:=by
 have hw:d∉wr:=λh=>hf (W.sub _ h)
 intro m
 induction m with
 |zero =>
  intro i s e hi st dd kp q
  obtain rfl:i=n:=by omega
  refine codeAny_builtin Zdy ?_
  rw [Around.under_plainId ZbM _]
  show wpAny _ A.in1 (pyNext (.ref I) >>= _) _ _ s
  refine wpAny_bind (W.done s _ _ st λh' tk k1=>?_)
  show wpAny _ A.in1 (Builtin.Dict.addKeywords d [] >>= _) _ _ _
  refine wpAny_bind (wpAny_pure (wpAny_pure (q h' tk ?_ λb o hb hb' z=>k1 b o hb' (kp b o hb hb' z))))
  rw [<- hl,List.take_length] at dd
  obtain ⟨o,es,ep,z,r⟩:=dd
  exact ⟨o,es,ep,k1 d o hw z,r⟩
 |succ m ih =>
  intro i s e hi st dd kp q
  have lt:i<n:=by omega
  refine codeAny_builtin Zdy ?_
  rw [Around.under_plainId ZbM _]
  show wpAny _ A.in1 (pyNext (.ref I) >>= _) _ _ s
  refine wpAny_bind (W.item i s _ _ lt st λv h' tk pv st' k1=>?_)
  obtain ⟨t,o,c,key,k,x,rfl,td,tw,at_t,ct,dt,ik,hx⟩:=pr i v pv
  have at_t':h'.get? t=some o:=k1 t o tw (kp t o td tw at_t)
  have dd':h'.DictOf knd d (kvs.take i):=by
   obtain ⟨o,es,ep,z,r⟩:=dd
   exact ⟨o,es,ep,k1 d o hw z,r⟩
  show wpAny _ A.in1 ((holding [Value.ref t] _) >>= _) _ _ _
  refine wpAny_bind (wpAny_holding (wpAny_bind (wpAny_tryCatch ?_)))
  unfold Builtin.Dict.pairItems
  refine wpAny_bind (wpAny_typeOf (s:={ s with heap:=h',toks:=tk }) (show Shared.TypeIs _ (.ref t) "tuple" from ⟨o,at_t',ct⟩) ?_)
  rw [if_pos (by decide)]
  refine wpAny_bind (wpAny_seqItems (s:={ s with heap:=h',toks:=tk }) at_t' dt (wpAny_pure ?_))
  show wpAny _ A.in1 (holding [key,x] (dictSet d key x)) _ _ _
  refine wpAny_holding (wpAny_dictSet_pairs (s:={ s with heap:=h',toks:=tk }) ik dd' (λh2 d2 sb=>?_) (by rw [List.length_take];omega))
  rw [ZeO nd hx] at d2
  refine wpAny_pure ⟨plainId_quiet ZbM _,?_⟩
  have:=ih (i+1) { s with heap:=h2,toks:=tk+1 } (by omega) lt (W.frame _ h' _ st' λb hb o z=>?_) d2 (λb o hb hb' z=>?_) λh3 tk3 d3 k3=>q h3 tk3 d3 k3
  ·exact this
  ·rw [sb.2 b λz'=>hf (by rw [<- z'];exact hb)];exact z
  ·rw [sb.2 b hb];exact k1 b o hb' (kp b o hb hb' z)
variable {E:Value->Shared->Prop} {s:Shared}
theorem Zd2 {l:Addr} {its:List Value} {n:Nat} {kvs:List (κ×Value)} {Q:Value->Shared->Prop} (at_l:s.heap.get? l=some { cls:=.type "list",data:=.seq its.toArray n }) (calm:A.handled=none) (hl:kvs.length=its.length) (nd:(kvs.map (·.1)).Nodup) (hz:its.length<=sizeLine)
  (pr:∀ (i:Nat) (v:Value),its[i]?=some v->∃ t o m key k x,v=Value.ref t/\s.heap.get? t=some o/\o.cls=.type "tuple"/\o.data=.seq #[key,x] m/\knd.is k key=true/\kvs[i]?=some (k,x))
  (q:∀ h' tk,h'.DictOf knd s.heap.objs.size kvs->(∀ b o,s.heap.get? b=some o->h'.get? b=some o)->Q (.ref s.heap.objs.size) { s with heap:=h',toks:=tk }):wpAny (model P w) A (call (.type "dict") [.ref l]) Q E s:=by
 refine callType_codes (Q₁:=λobj s₁=>obj=.ref s.heap.objs.size/\s₁={ s with heap:=s.heap.push { cls:=.type "dict",data:=.dict #[] } }) F.kt_called_dict (F.kt_typeCall_dict_1 _) F.entry_dict_init (kt_code_dict_new _ ⟨rfl,rfl⟩) ?_
 rintro obj s₁ ⟨rfl,rfl⟩
 have new:(s.heap.push { cls:=.type "dict",data:=.dict #[] }).DictOf knd s.heap.objs.size []:=Heap.DictOf.new s.heap
 have up:∀ b o,s.heap.get? b=some o->(s.heap.push { cls:=.type "dict",data:=.dict #[] }).get? b=some o:=λb o z=>Heap.get?_push_of_some _ z
 have l_d:l≠s.heap.objs.size:=Nat.ne_of_lt (Heap.lt_size at_l)
 refine ⟨new.typeIs,F.args_dict_init_2 _ _,?_⟩
 generalize hD:s.heap.objs.size=D at new l_d q |-
 generalize hh1:s.heap.push { cls:=.type "dict",data:=.dict #[] }=h1 at new up |-
 have old_D:∀ b o,s.heap.get? b=some o->b≠D:=λb o z=>by rw [<- hD];exact Nat.ne_of_lt (Heap.lt_size z)
 unfold Builtin.«dict.__init__» Builtin.Dict.selfAndRest
 refine wpAny_bind (wpAny_bind (wpAny_notOrdered_dict (s:={ s with heap:=h1 }) new.typeIs ?_))
 show wpAny _ _ (pure (D,[Value.ref l])) _ _ _
 refine wpAny_pure ?_
 show wpAny _ _ (Builtin.Dict.updateFrom "dict.__init__" D (.ref l) [] .none) _ _ _
 unfold Builtin.Dict.updateFrom
 refine wpAny_bind (wpAny_typeOf (s:={ s with heap:=h1 }) (show Shared.TypeIs _ (.ref l) "list" from ⟨_,up _ _ at_l,rfl⟩) ?_)
 rw [if_pos (by decide)]
 refine wpAny_bind (ZkD (s:={ s with heap:=h1 }) (up _ _ at_l) calm λh2 tk2 k2=>?_)
 rw [if_pos (by rfl)]
 refine wpAny_bind (wpAny_rule ?_)
 have isL:h2.IsList l its.toArray:=⟨_,k2 _ _ (up _ _ at_l),rfl,_,rfl⟩
 refine wpAny_bind (wpAny_pyIter_list (s:={ s with heap:=h2,toks:=tk2 }) isL (wpAny_pure ⟨plainId_quiet ZbM _,?_⟩))
 generalize hI:h2.objs.size=I
 have at_I:(h2.push { cls:=.type "list_iterator",data:=.fields #[.ref l,.int 0 0] }).IsListIter I l 0:=by rw [<- hI];exact ⟨_,Heap.get?_push_size _ rfl,rfl,rfl⟩
 have ltI:∀ b o,h2.get? b=some o->b≠I:=λb o z=>by rw [<- hI];exact Nat.ne_of_lt (Heap.lt_size z)
 have lI:l≠I:=ltI _ _ (k2 _ _ (up _ _ at_l))
 have DI:D≠I:=by
  obtain ⟨o,_,_,z,_⟩:=id new
  exact ltI _ _ (k2 _ _ z)
 refine Zgm (knd:=knd) (Walks.list (A:=A.in1.in1) calm I l lI its.toArray) (by simp [DI,Ne.symm l_d]) .none s.heap kvs (by simp [hl]) nd (by simpa using hz) (λi v hv=>?_) _ 0 _ rfl (Nat.zero_le _) ⟨at_I,?_⟩ ?_ (λb o hb hb' z=>?_) λh' tk d' k'=>?_
 ·obtain ⟨t,o,m,key,k,x,rfl,z,r⟩:=pr i v (by simpa using hv)
  refine ⟨t,o,m,key,k,x,rfl,old_D _ _ z,?_,z,r⟩
  simp only [List.mem_singleton]
  exact ltI _ _ (k2 _ _ (up _ _ z))
 ·obtain ⟨o,z,r⟩:=isL
  exact ⟨o,Heap.get?_push_of_some _ z,r⟩
 ·rw [List.take_zero]
  obtain ⟨o,es,ep,z,r⟩:=new
  exact ⟨o,es,ep,Heap.get?_push_of_some _ (k2 _ _ z),r⟩
 ·exact Heap.get?_push_of_some _ (k2 _ _ (up _ _ z))
 ·refine ⟨rfl,q h' tk d' λb o z=>k' b o (old_D b o z) ?_ z⟩
  simp only [List.mem_singleton]
  exact ltI _ _ (k2 _ _ (up _ _ z))
end
end L2
namespace L2
open PySem
section
variable {P:Program} {w:World} {A:Around} {R:Result->Shared->Prop} {I:Addr} {fp wr:List Addr} {n:Nat} {Pv:Nat->Value->Prop} {St:Nat->Heap->Prop}
def RawL (h:Heap) (a:Addr) (xs:List Value):Prop:=∃ c,h.get? a=some { cls:=.type "list",data:=.seq xs.toArray c }
theorem Zgx (W:Walks P w A.in1 I fp wr n Pv St) (S:Addr) (hSf:S∉fp) (h0:Heap) (hS0:h0.objs.size<=S) (hw0:∀ b∈wr,h0.get? b=none) (hfl:∀ i h,St i h->∀ b∈fp,b<h.objs.size) (yss:Nat->List Value) (z:List Value)
  (hz:∀ i,i<=n->(z++((List.range i).map yss).flatten).length<=sizeLine)
  (pr:∀ i v,Pv i v->∃ a,v=.ref a/\RawL h0 a (yss i)) :
  ∀ (m i:Nat) (s:Shared) (T:Addr) (c:Nat),n-i=m->i<=n->St i s.heap->s.heap.get? S=some { cls:=.type "list",data:=.seq #[.ref T] c }->RawL s.heap T (z++((List.range i).map yss).flatten)->T≠S->T∉wr->(i≠0->h0.objs.size<=T) ->
   (∀ b o,h0.get? b=some o->s.heap.get? b=some o) ->
   (∀ h' tk T',RawL h' T' (z++((List.range n).map yss).flatten)->(n≠0->h0.objs.size<=T')->(n=i->T'=T)->(∀ b o,h0.get? b=some o->h'.get? b=some o)->R (.ok (.ret (.ref T'))) { s with heap:=h',toks:=tk }) ->
   codeAny (model P w) A (.builtin "sum.loop" ⟨[.ref I,.ref S,rawInt 2,rawInt 0],[]⟩) R s:=by
 have hSw:S∉wr:=λh=>hSf (W.sub _ h)
 intro m
 induction m with
 |zero =>
  intro i s T c e hi st at_S at_T TS Tw fr kp q
  obtain rfl:i=n:=by omega
  refine codeAny_builtin F.entry_sum_loop ?_
  rw [Around.under_plainId F.plain_sum_loop _]
  show wpAny _ A.in1 (seqItems? (.ref S) >>= _) _ _ s
  refine wpAny_bind (wpAny_seqItems at_S rfl ?_)
  show wpAny _ A.in1 (tryCatch (pyNext (.ref I)) _ >>= _) _ _ s
  refine wpAny_bind (wpAny_tryCatch (W.done s _ _ st λh' tk k1=>?_))
  obtain ⟨c',at_T⟩:=at_T
  have nw:∀ b o,h0.get? b=some o->b∉wr:=λb o e hb=>by rw [hw0 b hb] at e;cases e
  exact wpAny_pure (q h' tk T ⟨c',k1 T _ Tw at_T⟩ fr (λ_=>rfl) λb o e=>k1 b o (nw b o e) (kp b o e))
 |succ m ih =>
  intro i s T c e hi st at_S at_T TS Tw fr kp q
  have lt:i<n:=by omega
  refine codeAny_builtin F.entry_sum_loop ?_
  rw [Around.under_plainId F.plain_sum_loop _]
  show wpAny _ A.in1 (seqItems? (.ref S) >>= _) _ _ s
  refine wpAny_bind (wpAny_seqItems at_S rfl ?_)
  show wpAny _ A.in1 (tryCatch (pyNext (.ref I)) _ >>= _) _ _ s
  refine wpAny_bind (wpAny_tryCatch (W.item i s _ _ lt st λv h' tk pv st' k1=>?_))
  obtain ⟨a,rfl,ca,at_a⟩:=pr i v pv
  have nw:∀ b o,h0.get? b=some o->b∉wr:=λb o e hb=>by rw [hw0 b hb] at e;cases e
  obtain ⟨cT,at_T⟩:=at_T
  have at_T':=k1 T _ Tw at_T
  have at_S':=k1 S _ hSw at_S
  have at_a':=k1 a _ (nw _ _ at_a) (kp _ _ at_a)
  show wpAny _ A.in1 ((holding [Value.ref a] (binaryOp .Add (.ref T) (.ref a))).attempt >>= _) _ _ _
  have l1:=hz (i+1) lt
  rw [List.range_succ,List.map_append,List.flatten_append,List.length_append] at l1
  refine wpAny_bind (wpAny_attempt (wpAny_holding (PySem.P.add_list (s:={ s with heap:=h',toks:=tk }) at_T' at_a' ?_ (by simp at l1 |-;omega))))
  generalize hN:h'.objs.size=N
  have SN:S≠N:=by rw [<- hN];exact Nat.ne_of_lt (Heap.lt_size at_S')
  have N0:h0.objs.size<=N:=Nat.le_trans hS0 (Nat.le_of_lt (by rw [<- hN];exact Heap.lt_size at_S'))
  have fN:∀ b∈fp,b≠N:=λb hb=>by rw [<- hN];exact Nat.ne_of_lt (hfl _ _ st' b hb)
  have at_S2:(h'.push { cls:=.type "list",data:=.seq ((z++((List.range i).map yss).flatten).toArray++(yss i).toArray) }).get? S=some { cls:=.type "list",data:=.seq #[.ref T] c }:=Heap.get?_push_of_some _ at_S'
  have at_N2:(h'.push { cls:=.type "list",data:=.seq ((z++((List.range i).map yss).flatten).toArray++(yss i).toArray) }).get? N=some { cls:=.type "list",data:=.seq ((z++((List.range i).map yss).flatten).toArray++(yss i).toArray) }:=by rw [<- hN];exact Heap.get?_push_size _ rfl
  have up:∀ b o,h'.get? b=some o->(h'.push { cls:=.type "list",data:=.seq ((z++((List.range i).map yss).flatten).toArray++(yss i).toArray) }).get? b=some o:=λb o e=>Heap.get?_push_of_some _ e
  have ei:(z++((List.range i).map yss).flatten).toArray++(yss i).toArray=(z++((List.range (i+1)).map yss).flatten).toArray:=by
   rw [List.range_succ,List.map_append,List.flatten_append];simp
  dsimp only
  generalize h'.push { cls:=.type "list",data:=.seq ((z++((List.range i).map yss).flatten).toArray++(yss i).toArray) }=h2 at at_S2 at_N2 up |-
  rw [ei] at at_N2
  refine wpAny_bind (wpAny_updateSeq (s:={ s with heap:=h2,toks:=tk }) at_S2 rfl ?_)
  have at_S3:=Heap.get?_update_self (Obj.mapSeq λ_=>#[Value.ref N]) at_S2 rfl
  refine wpAny_bind (wpAny_letGo (wpAny_bind (wpAny_updateSeq (s:={ s with heap:=h2.update S (Obj.mapSeq λ_=>#[Value.ref N]),toks:=tk }) at_S3 rfl (wpAny_pure ⟨plainId_quiet F.plain_sum_loop _,?_⟩))))
  have at_S4:=Heap.get?_update_self (Obj.mapSeq λ_=>#[Value.ref N]) at_S3 rfl
  have up2:∀ b o,b≠S->h2.get? b=some o->((h2.update S (Obj.mapSeq λ_=>#[Value.ref N])).update S (Obj.mapSeq λ_=>#[Value.ref N])).get? b=some o:=λb o hb e =>
   (Heap.get?_update_other _ _ (Ne.symm hb)).trans ((Heap.get?_update_other _ _ (Ne.symm hb)).trans e)
  have ne0:∀ b o,h0.get? b=some o->b≠S:=λb o e=>Nat.ne_of_lt (Nat.lt_of_lt_of_le (Heap.lt_size e) hS0)
  have:=ih (i+1) { s with heap:=(h2.update S (Obj.mapSeq λ_=>#[Value.ref N])).update S (Obj.mapSeq λ_=>#[Value.ref N]),toks:=tk } N _ (by omega) lt (W.frame _ h' _ st' λb hb o e=>up2 b o (λz=>hSf (by rw [<- z];exact hb)) (up b o e)) at_S4 ⟨_,up2 N _ (Ne.symm SN) at_N2⟩ (Ne.symm SN) (λz=>fN N (W.sub _ z) rfl) (λ_=>N0)
   (λb o e=>up2 b o (ne0 b o e) (up b o (k1 b o (nw b o e) (kp b o e)))) λh3 tk3 T3 a1 a2 a3 a4=>q h3 tk3 T3 a1 a2 (λe=>absurd e (by omega)) a4
  exact this
variable {E:Value->Shared->Prop} {s:Shared}
theorem Ziq (a b:Value):argsOk "sum" ⟨[a,b],[]⟩:=by unfold argsOk;kernel_rfl
theorem Zee:isSubtype (.type "list") (.type "str")=pure false:=by rw [isSubtype_type];kernel_rfl
theorem Zdr:isSubtype (.type "list") (.type "bytes")=pure false:=by rw [isSubtype_type];kernel_rfl
theorem Zb7:isSubtype (.type "list") (.type "bytearray")=pure false:=by rw [isSubtype_type];kernel_rfl
theorem ZgT {l st:Addr} {its:List Value} {n:Nat} {yss:Nat->List Value} {z:List Value} {Q:Value->Shared->Prop} (calm:A.handled=none) (at_l:s.heap.get? l=some { cls:=.type "list",data:=.seq its.toArray n }) (at_st:RawL s.heap st z)
  (hz:∀ i,i<=its.length->(z++((List.range i).map yss).flatten).length<=sizeLine) (pr:∀ (i:Nat) (v:Value),its[i]?=some v->∃ a,v=Value.ref a/\RawL s.heap a (yss i))
  (q:∀ h' tk T,RawL h' T (z++((List.range its.length).map yss).flatten)->(its.length≠0->s.heap.objs.size<=T)->(its.length=0->T=st)->(∀ b o,s.heap.get? b=some o->h'.get? b=some o)->Q (.ref T) { s with heap:=h',toks:=tk }) :
  wpAny (model P w) A (call (.builtin "sum") [.ref l,.ref st]) Q E s:=by
 refine call_function_tree F.kind_sum F.plain_sum F.entry_sum (Ziq _ _) ?_
 unfold Builtin.«sum»
 simp only [List.length_cons,List.length_nil]
 rw [if_neg (by decide)]
 refine wpAny_bind (wpAny_of_eq (show Builtin.Builtins.bindParams "sum" ["start"] 0 ⟨[Value.ref st],[]⟩=pure [some (.ref st)] from rfl) ?_)
 have isL:s.heap.IsList l its.toArray:=⟨_,at_l,rfl,_,rfl⟩
 refine wpAny_bind (wpAny_pyIter_list isL ?_)
 have up:∀ b o,s.heap.get? b=some o->(s.heap.push { cls:=.type "list_iterator",data:=.fields #[.ref l,.int 0 0] }).get? b=some o:=λb o e=>Heap.get?_push_of_some _ e
 have at_I:(s.heap.push { cls:=.type "list_iterator",data:=.fields #[.ref l,.int 0 0] }).IsListIter s.heap.objs.size l 0:=⟨_,Heap.get?_push_size _ rfl,rfl,rfl⟩
 have sz1:(s.heap.push { cls:=.type "list_iterator",data:=.fields #[.ref l,.int 0 0] }).objs.size=s.heap.objs.size+1:=Heap.size_push ..
 generalize s.heap.push { cls:=.type "list_iterator",data:=.fields #[.ref l,.int 0 0] }=h1 at up at_I sz1 |-
 obtain ⟨cz,at_st⟩:=at_st
 have ty:({ s with heap:=h1 }:Shared).TypeIs (.ref st) "list":=⟨_,up _ _ at_st,rfl⟩
 refine wpAny_bind (wpAny_pure ?_)
 simp only [List.forIn_cons,List.forIn_nil]
 refine wpAny_bind (wpAny_bind (wpAny_bind (wpAny_isInstance (T:="list") (b:=false) ty Zee ?_)))
 simp only [Bool.false_eq_true,if_false]
 refine wpAny_pure (wpAny_bind (wpAny_bind (wpAny_isInstance (T:="list") (b:=false) ty Zdr ?_)))
 simp only [Bool.false_eq_true,if_false]
 refine wpAny_pure (wpAny_bind (wpAny_bind (wpAny_isInstance (T:="list") (b:=false) ty Zb7 ?_)))
 simp only [Bool.false_eq_true,if_false]
 refine wpAny_pure (wpAny_pure ?_)
 refine wpAny_bind (wpAny_newObj_type ?_)
 have l_I:l≠s.heap.objs.size:=Nat.ne_of_lt (Heap.lt_size at_l)
 have S_I:h1.objs.size≠s.heap.objs.size:=by omega
 have l_S:h1.objs.size≠l:=Ne.symm (Nat.ne_of_lt (Nat.lt_of_lt_of_le (Heap.lt_size at_l) (by rw [sz1];exact Nat.le_succ _)))
 have st_S:st≠h1.objs.size:=Nat.ne_of_lt (Nat.lt_of_lt_of_le (Heap.lt_size at_st) (by rw [sz1];exact Nat.le_succ _))
 refine wpAny_pure ⟨plainId_quiet F.plain_sum_loop _,?_⟩
 refine Zgx (Walks.list (A:=A.in1) calm s.heap.objs.size l l_I its.toArray) h1.objs.size (by simp [S_I,l_S]) s.heap (by omega) (λb hb=>?_) (λi h x b hb=>?_) yss z (by simpa using hz) (λi v e=>pr i v (by simpa using e)) _ 0 _ st 0 rfl (Nat.zero_le _) ⟨?_,?_⟩ (Heap.get?_push_size _ rfl) ?_ st_S ?_ (λz=>absurd rfl z)
  (λb o e=>Heap.get?_push_of_some _ (up b o e)) λh' tk T a1 a2 a3 a4=>q h' tk T (by simpa using a1) (by simpa using a2) (λe=>a3 (by simpa using e)) a4
 ·simp only [List.mem_singleton] at hb
  rw [hb];exact Heap.get?_none_of_le (Nat.le_refl _)
 ·obtain ⟨⟨o1,e1,_⟩,o2,e2,_⟩:=x
  rcases List.mem_cons.mp hb with e | hb
  ·rw [e];exact Heap.lt_size e1
  ·rw [List.mem_singleton.mp hb];exact Heap.lt_size e2
 ·obtain ⟨o,e,r⟩:=at_I
  exact ⟨o,Heap.get?_push_of_some _ e,r⟩
 ·exact ⟨_,Heap.get?_push_of_some _ (up _ _ at_l),rfl,_,rfl⟩
 ·exact ⟨cz,by simpa using Heap.get?_push_of_some _ (up _ _ at_st)⟩
 ·simp only [List.mem_singleton]
  exact Nat.ne_of_lt (Heap.lt_size at_st)
end
end L2
namespace L2
open PySem PySem.Spec PyProof.Rows
def Itf (d:Addr) (o:Obj) (kvs:List (Key×V)):It:=⟨λi H=>H d=some (.frz o (.dK kvs))/\i<kvs.length,λi H v H'=>∃ p kv,v=.ref p/\H p=none/\H'=upd H p (.tup [kV kv.1,kv.2])/\kvs[i]?=some kv,λi H=>H d=some (.frz o (.dK kvs))/\kvs.length<=i⟩
theorem ZeL {P:Program} {w:World} {K:PySem.W.Frag} {es:List Expr} {x1} {pos:Pos} (d it:Addr) (o:Obj) (kvs:List (Key×V)) (vs:List (Key×Value)) (ep:Nat) (rel:KV kvs vs)
  (hat:∀ h:Heap,h.get? d=some o->h.DictAt (ZaA P w) d vs ep):Turn P w K (.Tuple es x1 pos) (Itf d o kvs) [it] it (λi h=>∃ ok ov,IsItemIter h it d i vs.length ep ok ov) where
 mem:=by simp
 obj:=λi h st b hb=>by
  obtain ⟨ok,ov,he⟩:=st
  have z:b=it:=by simpa using hb
  subst z
  exact ⟨_,he,λv z=>by
   have z':Data.fields _=Data.cell v:=z
   cases z'⟩
 keep:=λi h h' st k=>by
  obtain ⟨ok,ov,he⟩:=st
  exact ⟨ok,ov,k it (by simp) _ he⟩
 item:=by
  intro X hP hw hK hc i pins s σ H E I hf st hg
  subst hP hw hK
  obtain ⟨hq,hlt⟩:=hg
  obtain ⟨ok,ov,he⟩:=st
  obtain ⟨hd,_⟩:=(show ObjOk X.prog X.w H s.heap d (.frz o (.dK kvs)) from I.hok d _ hq)
  have hx:kvs[i]?=some kvs[i]:=List.getElem?_eq_getElem hlt
  obtain ⟨u,hu,ru⟩:=rel.at hx
  have fi:=hf it (by simp)
  have hilt:it<s.heap.objs.size:=Heap.lt_size he
  refine wpAny_pyNext_items_item he (hat _ hd) hu λkey h' hkey ho hT hsz hk=>⟨_,rfl,wpAny_letOwnedTupleGo_items ho λh'' he'' hs''=>?_⟩
  have hfr:H s.heap.objs.size=none:=I.hok.fresh (Nat.le_refl _)
  have I1:Inv X pins σ (upd H s.heap.objs.size (.tup [kV kvs[i].1,kvs[i].2])) { s with heap:=s.heap.push { cls:=.type "tuple",data:=.seq #[key,u] },toks:=s.toks } :=
   I.laid (t':=s.toks) (λb v q=>Heap.get?_push_of_some _ q) (Nat.le_refl _) ⟨show 2<=sizeLine by decide,[key,u],.cons (ZdT hkey) (.cons ru .nil),⟨_,Heap.get?_push_size _ rfl,rfl,_,rfl⟩⟩
  have nit:it≠s.heap.objs.size:=Nat.ne_of_lt hilt
  have I2:Inv X pins σ (upd H s.heap.objs.size (.tup [kV kvs[i].1,kvs[i].2])) { s with heap:=h'',toks:=s.toks } :=
   Inv.turned (s:={ s with heap:=s.heap.push { cls:=.type "tuple",data:=.seq #[key,u] },toks:=s.toks }) (h':=h'') (t':=s.toks) (it:=it) I1 (λb o b1 q=>by
    rw [hs''.2 b b1]
    by_cases hb:b=s.heap.objs.size
    ·subst hb
     rw [Heap.get?_push_size _ rfl] at q
     cases q
     exact hT
    ·refine hk b o b1 ?_
     rw [<- q]
     exact (Heap.get?_push_ne _ _ _ hb).symm) (by rw [Zae nit];exact fi.1) fi.2.1 fi.2.2.2.1 fi.2.2.2.2.1 fi.2.2.2.2.2
  refine ⟨.ref s.heap.objs.size,_,I2,rfl,⟨_,kvs[i],rfl,hfr,rfl,hx⟩,⟨_,_,he''⟩,λb hb=>?_⟩
  have z:b=it:=by simpa using hb
  subst z
  rw [Zae nit];exact fi.1
 done:=by
  intro X hP hw hK hc i pins s σ H E I hf st hg
  subst hP hw hK
  obtain ⟨hq,hge⟩:=hg
  obtain ⟨ok,ov,he⟩:=st
  obtain ⟨hd,_⟩:=(show ObjOk X.prog X.w H s.heap d (.frz o (.dK kvs)) from I.hok d _ hq)
  have fi:=hf it (by simp)
  have hl:=rel.length
  exact wpAny_pyNext_items_end (I.ok.hd hc) he (hat _ hd) (List.getElem?_eq_none (by omega)) λh' eb=>⟨rfl,Inv.turned (t':=s.toks) I (λb o hb q=>eb b o hb q) fi.1 fi.2.1 fi.2.2.2.1 fi.2.2.2.2.1 fi.2.2.2.2.2⟩
 self:=λ_ _ _ _ _ st h=>by
  obtain ⟨ok,ov,he⟩:=st
  exact PySem.W.kcp_self he h
def Zff (H0:Hp) (td:TE):TI:=λσ H R=>td σ H λx H1=>∃ d kvs,x=.ref d/\H1 d=some (.dK kvs)/\∀ o,Zcr H0 d->R (Itf d o kvs) (upd H1 d (.frz o (.dK kvs)))
theorem Zem {X:Cx} {es:List Expr} {x1} {tpos apos cpos:Pos} {o:Expr} {td:TE} (ho:PE X o td) (hbase:attributeBase o "items" X.env (eval o X.env)=eval o X.env:=by rfl) (hline:(apos.endLine == cpos.line)=true:=by rfl) :
  PI X (.Tuple es x1 tpos) (.Call (.Attribute o "items" apos) [] [] cpos) (Zff X.H₀ td):=by
 intro pins s σ H R I h
 refine wpAny_Call_method0_late hbase hline (thn (ho pins s σ H _ I h) λv s1 ⟨x,H1,I1,rx,d,kvs,ex,ed,q⟩=>?_)
 subst ex
 obtain rfl:v=Value.ref d:=rx
 obtain ⟨ob,vs,ep,hS,rel,hob,hat,nf,IF⟩:=I1.freeze ed
 have dof:s1.heap.DictOf (ZaA X.prog X.w) d vs:=by obtain ⟨o',es',q⟩:=hat _ hob;exact ⟨o',es',ep,q⟩
 have t2:∀ b,Value.ref d=.ref b->∃ ob,s1.heap.get? b=some ob/\ob.dict=none:=by
  intro b hb
  cases hb
  obtain ⟨o',es',ep',h1,h2,_⟩:=dof
  exact ⟨o',h1,h2.2.1⟩
 refine ⟨"dict",_,PySem.F.plainAttrs_dict,PySem.F.slot_dict_items,PySem.F.type_dict_items,dof.typeIs,t2,Calls.callWith_builtin rfl (PySem.evalArgs_none ?_)⟩
 refine call_meetsIn PySem.F.slot_dict_items dof.typeIs PySem.F.entry_dict_items (PySem.F.args_dict_items_1 _) (meets_dict_items (ZaA X.prog X.w) d hS) ⟨⟨_,dof⟩,?_⟩
 have keep1:∀ b u,s1.heap.get? b=some u->(s1.heap.push { cls:=.type "dict_items",data:=.fields #[.ref d] }).get? b=some u:=λb u q=>Heap.get?_push_of_some _ q
 refine wpAny_pyIter_items (knd:=ZaA X.prog X.w) (d:=d) ⟨_,Heap.get?_push_size _ rfl,rfl,rfl⟩ (hat _ (keep1 _ _ hob)) ?_
 have sz:(s1.heap.push { cls:=.type "dict_items",data:=.fields #[.ref d] }).objs.size=s1.heap.objs.size+1:=by rw [Heap.size_push]
 have I2:=IF.kept (t':=s1.toks) (h':=(s1.heap.push { cls:=.type "dict_items",data:=.fields #[.ref d] }).push { cls:=.type "dict_itemiterator",data:=.fields #[.none,.bool false,.ref d,.int 0 0,.int vs.length 0,.int ep 0,.none,.none] }) λb u q=>Heap.get?_push_of_some _ (keep1 b u q)
 refine ⟨_,[(s1.heap.push { cls:=.type "dict_items",data:=.fields #[.ref d] }).objs.size],_,_,_,rfl,I2,ZeL d _ ob kvs vs ep rel hat,⟨_,_,Heap.get?_push_size _ rfl⟩,λb hb=>?_,q ob nf⟩
 have z:b=(s1.heap.push { cls:=.type "dict_items",data:=.fields #[.ref d] }).objs.size:=by simpa using hb
 subst z
 exact IF.fpOk (by rw [sz];omega) (IF.hok.fresh (by rw [sz];omega))
def Zl9 (H0:Hp) (td:TE) (g:TG) (tb:TS):TS:=λD σ H=>tFor (Zff H0 td) g tb (ZiA H0 D) σ H
theorem Zks {X:Cx} {es:List Expr} {x1} {tpos apos cpos:Pos} {o:Expr} {body:List Stmt} {td:TE} {g:TG} {tb:TS} {pos:Pos} (hp:PassesOwn (model X.prog X.w) X.A X.env X.xe) (hc:X.calm=true) (ho:PE X o td) (hg:PG X (.Tuple es x1 tpos) g) (hb:PSs X body tb)
  (hbase:attributeBase o "items" X.env (eval o X.env)=eval o X.env:=by rfl) (hline:(apos.endLine == cpos.line)=true:=by rfl)
  (hs:∀ x,foldedSetIterable (.Call (.Attribute o "items" apos) [] [] cpos) X.env x=pure x:=by intro _;rfl):PS X (.For (.Tuple es x1 tpos) (.Call (.Attribute o "items" apos) [] [] cpos) body [] pos) (Zl9 X.H₀ td g tb):=by
 intro pins s σ H D I h
 refine thn (ZbR hp hc (Zem ho hbase hline) hg hb hs pins s σ H (ZiA X.H₀ D) I h) λf s' q=>?_
 cases f with
 |next =>
  obtain ⟨σ',H',I',d,o,kvs,nf,e,q⟩:=q
  exact ⟨σ',_,I'.thaw e nf,q⟩
 |brk=>exact q
 |cont=>exact q
 |ret u=>exact q
theorem Paired.nth {α β:Type} {R:α->β->Prop}:∀ {l:List α} {m:List β},Paired R l m->∀ {i:Nat} {a:α},l[i]?=some a->∃ b,m[i]?=some b/\R a b
 |_,_,.nil,i,a,h=>by simp at h
 |_,_,.cons r _,0,a,h=>by
  obtain rfl:=(show _=a by simpa using h)
  exact ⟨_,by simp,r⟩
 |_,_,.cons _ t,i+1,a,h=>by
  obtain ⟨b,hb,r⟩:=Paired.nth t (i:=i) (by simpa using h)
  exact ⟨b,by simpa using hb,r⟩
def Itk (d:Addr) (o:Obj) (kvs:List (List Key×V)):It:=⟨λi H=>H d=some (.frz o (.dT kvs))/\i<kvs.length,λi H v H'=>H'=H/\∃ kv a,kvs[i]?=some kv/\v=.ref a/\H a=some (.tup (kv.1.map kV)),λi H=>H d=some (.frz o (.dT kvs))/\kvs.length<=i⟩
theorem Zh7 {P:Program} {w:World} {H:Hp} {h:Heap} {d:Addr} {o u:HO} {kvs:List (List Key×V)} (e:H d=some o) (nt:∀ xs,o≠.tup xs) (x:ObjOk P w H h d (.dT kvs)):ObjOk P w (upd H d u) h d (.dT kvs):=by
 obtain ⟨z,hS,xs,rel,r⟩:=x
 refine ⟨z,hS,xs,KT.keeps rel λb ys q=>?_,r⟩
 rw [Zae (Zaq q e λz=>nt _ z.symm)]
 exact q
theorem Inv.freezeT {X:Cx} {pins:List (Addr×Obj)} {σ:St} {H:Hp} {s:Shared} {d:Addr} {kvs:List (List Key×V)} (I:Inv X pins σ H s) (e:H d=some (.dT kvs)) :
  ∃ (o:Obj) (es:Array DictEntry) (ep:Nat),(d == sysModules)=false/\s.heap.get? d=some o/\o.ExactDict/\o.data=.dict es ep/\es.size=kvs.length/\Zcr X.H₀ d/\Inv X pins σ (upd H d (.frz o (.dT kvs))) s:=by
 have x:=(show ObjOk X.prog X.w H s.heap d (.dT kvs) from I.hok d _ e)
 obtain ⟨z,hS,xs,rel,o,es,ep,ho,ex,dd,he,nd⟩:=id x
 have nf:Zcr X.H₀ d:=λo u q=>by
  have:=I.base.frzs d o u q
  rw [e] at this;cases this
 have hl:kvs.length=xs.length:=Paired.length rel
 exact ⟨o,es,ep,hS,ho,ex,dd,by rw [size_of_entries he,hl],nf,I.swap e (λ_ z=>nomatch z) (λ_ z=>nomatch z) (λ_ z=>nomatch z) nf ⟨ho,Zh7 e (λ_ z=>nomatch z) x⟩⟩
theorem Inv.thawT {X:Cx} {pins:List (Addr×Obj)} {σ:St} {H:Hp} {s:Shared} {d:Addr} {o:Obj} {kvs:List (List Key×V)} (I:Inv X pins σ H s) (e:H d=some (.frz o (.dT kvs))) (nf:Zcr X.H₀ d):Inv X pins σ (upd H d (.dT kvs)) s:=by
 obtain ⟨_,h⟩:=(show ObjOk X.prog X.w H s.heap d (.frz o (.dT kvs)) from I.hok d _ e)
 exact I.swap e (λ_ z=>nomatch z) (λ_ z=>nomatch z) (λ_ z=>nomatch z) nf (Zh7 e (λ_ z=>nomatch z) h)
theorem Zgd {P:Program} {w:World} {K:PySem.W.Frag} {tg:Expr} (d it:Addr) (o:Obj) (kvs:List (List Key×V)) (es:Array DictEntry) (ep:Nat) (dd:o.data=.dict es ep) (hz:es.size=kvs.length) :
  Turn P w K tg (Itk d o kvs) [it] it (λi h=>h.IsKeyIter it d i es.size ep) where
 mem:=by simp
 obj:=λi h st b hb=>by
  have e:b=it:=by simpa using hb
  subst e
  obtain ⟨o,e,c,d⟩:=st
  exact ⟨o,e,λv z=>by rw [d] at z;cases z⟩
 keep:=λi h h' st k=>st.at λo e=>k it (by simp) o e
 item:=by
  intro X hP hw hK hc i pins s σ H E I hf st hg
  subst hP hw hK
  obtain ⟨hq,hi⟩:=hg
  obtain ⟨ho,z,hS,xs,rel,o',es',ep',ho',_,dd',he,_⟩:=(show ObjOk X.prog X.w H s.heap d (.frz o (.dT kvs)) from I.hok d _ hq)
  obtain rfl:o=o':=Option.some.inj (ho.symm.trans ho')
  rw [dd] at dd'
  obtain ⟨rfl,rfl⟩:es=es'/\ep=ep':=by cases dd';exact ⟨rfl,rfl⟩
  have hx:kvs[i]?=some kvs[i]:=List.getElem?_eq_getElem hi
  obtain ⟨b,hb,e1,e2,_⟩:=Paired.nth rel hx
  obtain ⟨f0,f1,f2,f3,f4,f5⟩:=hf it (by simp)
  have lt:i<es.size:=by omega
  have ek:es[i].key=.ref b.2.1:=by
   have:=entry_at he i
   rw [hb,Array.getElem?_eq_getElem lt] at this
   rw [Option.some.inj this]
   rfl
  refine ZfK st ho dd lt λh' st' sb=>?_
  have I1:Inv X pins σ H { s with heap:=h' }:=I.turned (t':=s.toks) (λb o hb e=>(sb.2 b hb).trans e) f0 f1 f3 f4 f5
  obtain ⟨oo,e,c,d'⟩:=id st'
  refine ⟨es[i].key,rfl,ZhW (s:={ s with heap:=h' }) e c d' (by decide) ⟨.ref b.2.1,H,I1,by rw [ek];rfl,⟨rfl,kvs[i],b.2.1,hx,rfl,e2⟩,st',λb hb=>(hf b hb).1⟩⟩
 done:=by
  intro X hP hw hK hc i pins s σ H E I hf st hg
  subst hP hw hK
  obtain ⟨hq,hi⟩:=hg
  obtain ⟨ho,_⟩:=(show ObjOk X.prog X.w H s.heap d (.frz o (.dT kvs)) from I.hok d _ hq)
  obtain ⟨f0,f1,f2,f3,f4,f5⟩:=hf it (by simp)
  exact Zhl (I.ok.hd hc) st ho dd (by omega) λh' eb=>⟨rfl,I.turned (t':=s.toks) (λb o hb e=>eb b o hb e) f0 f1 f3 f4 f5⟩
 self:=λ_ _ _ _ _ st h=>wpAny_pyIter_keyiter st h
def ZjX (H0:Hp) (td:TE):TI:=λσ H R=>td σ H λx H1=>∃ d kvs,x=.ref d/\H1 d=some (.dT kvs)/\∀ o,Zcr H0 d->R (Itk d o kvs) (upd H1 d (.frz o (.dT kvs)))
theorem ZiX {X:Cx} {tg l:Expr} {tl:TE} (hl:PE X l tl):PI X tg l (ZjX X.H₀ tl):=by
 intro pins s σ H R I h
 refine thn (hl pins s σ H _ I h) λv s1 ⟨x,H1,I1,r1,q1⟩=>?_
 obtain ⟨d,kvs,ex,ed,q⟩:=q1
 subst ex
 cases r1
 obtain ⟨o,es,ep,hS,ho,ex,dd,hz,nf,I2⟩:=I1.freezeT ed
 refine ZfJ hS ho ex dd ?_
 refine ⟨s1.heap.objs.size,[s1.heap.objs.size],_,_,_,rfl,I2.kept (t':=s1.toks) λb o e=>Heap.get?_push_of_some _ e,Zgd d _ o kvs es ep dd hz,⟨_,Heap.get?_push_size _ rfl,rfl,rfl⟩,λb hb=>?_,q o nf⟩
 have e:b=s1.heap.objs.size:=by simpa using hb
 subst e
 exact I2.fpOk (Nat.le_refl _) (I2.hok.fresh (Nat.le_refl _))
def tLcD (H0:Hp) (sel:List (Option Nat)) (td:TE) (g:TG) (tt:TT) (te:TE):TE:=λσ H Q=>tLc sel (ZkN H0 td) g tt te σ H λv G=>∃ d o kvs,Zcr H0 d/\G d=some (.frz o (.dK kvs))/\Q v (upd G d (.dK kvs))
def tLcT (H0:Hp) (sel:List (Option Nat)) (td:TE) (g:TG) (tt:TT) (te:TE):TE:=λσ H Q=>tLc sel (ZjX H0 td) g tt te σ H λv G=>∃ d o kvs,Zcr H0 d/\G d=some (.frz o (.dT kvs))/\Q v (upd G d (.dT kvs))
section
variable {X:Cx} {elt tg iter:Expr} {ifs:List Expr} {scope:Scope} {pos:Pos} {td:TE} {N':List Str} {sel:List (Option Nat)} {g:TG} {tt:TT} {te:TE}
theorem ZjO (hc:X.calm=true) (hk:scope.kind=.function) (chk:Zb4 scope X.env.scope X.N N' sel=true) (hi:PE X iter td) (hgk:Zcs sel g)
  (hb:∀ (C:Addr) (s:Shared) (H:Hp) (fp:List Addr) (pn:List (Addr×Obj)),PG (ZaB X N' scope C s H fp pn) tg g/\PTs (ZaB X N' scope C s H fp pn) ifs tt/\PE (ZaB X N' scope C s H fp pn) elt te)
  (hs:∀ x,foldedSetIterable iter X.env x=pure x:=by intro _;rfl):PE X (.ListComp elt [⟨tg,iter,ifs,0⟩] scope pos) (tLcD X.H₀ sel td g tt te):=by
 intro pins s σ H Q I h
 refine thn (Zen hc hk chk (Zht hi) hgk hb hs pins s σ H _ I h) λv s1 ⟨x,H1,I1,rx,d,o,kvs,nf,e,q⟩=>?_
 exact ⟨x,_,I1.thaw e nf,rx,q⟩
theorem ZjN (hc:X.calm=true) (hk:scope.kind=.function) (chk:Zb4 scope X.env.scope X.N N' sel=true) (hi:PE X iter td) (hgk:Zcs sel g)
  (hb:∀ (C:Addr) (s:Shared) (H:Hp) (fp:List Addr) (pn:List (Addr×Obj)),PG (ZaB X N' scope C s H fp pn) tg g/\PTs (ZaB X N' scope C s H fp pn) ifs tt/\PE (ZaB X N' scope C s H fp pn) elt te)
  (hs:∀ x,foldedSetIterable iter X.env x=pure x:=by intro _;rfl):PE X (.ListComp elt [⟨tg,iter,ifs,0⟩] scope pos) (tLcT X.H₀ sel td g tt te):=by
 intro pins s σ H Q I h
 refine thn (Zen hc hk chk (ZiX hi) hgk hb hs pins s σ H _ I h) λv s1 ⟨x,H1,I1,rx,d,o,kvs,nf,e,q⟩=>?_
 exact ⟨x,_,I1.thawT e nf,rx,q⟩
end
end L2
namespace L2
open PySem PySem.Spec PyProof.Rows
theorem Zb5:∀ {ps:List Addr} {us:List Value},Vals (ps.map V.ref) us->us=ps.map Value.ref
 |[],_,.nil=>rfl
 |p::r,_,.cons h t=>by
  obtain rfl:=(show _=Value.ref p from h)
  rw [List.map_cons,Zb5 t]
section
variable {X:Cx}
theorem ZgC (hc:X.calm=true):Zct X (.type "dict") (λxs H Q=>∃ (l:Addr) (ps:List Addr) (kvs:List (Key×V)),xs=[.ref l]/\H l=some (.lst (ps.map V.ref))/\ps.length=kvs.length /\
  (∀ (i:Nat) p kv,ps[i]?=some p->kvs[i]?=some kv->H p=some (.tup [kV kv.1,kv.2]))/\(kvs.map (·.1)).Nodup/\∀ d,H d=none->Q (.ref d) (upd H d (.dK kvs))):=by
 intro pins s σ H xs us Q I r h
 obtain ⟨l,ps,kvs,rfl,hl,hn,hp,nd,q⟩:=h
 obtain ⟨u,rfl,rx⟩:=Zc1 r
 cases rx
 obtain ⟨z,its,n,rv,lv,e⟩:=I.lstM hl
 have ei:=Zb5 rv
 have mk:∀ (ps:List Addr) (kvs:List (Key×V)),ps.length=kvs.length->(∀ (i:Nat) p kv,ps[i]?=some p->kvs[i]?=some kv->H p=some (.tup [kV kv.1,kv.2])) ->
   ∃ vs:List (Key×Value),KV kvs vs/\∀ (i:Nat) (v:Value),(ps.map Value.ref)[i]?=some v->∃ t o m key k x,v=Value.ref t/\s.heap.get? t=some o/\o.cls=.type "tuple"/\o.data=.seq #[key,x] m/\(ZaA X.prog X.w).is k key=true/\vs[i]?=some (k,x):=by
  intro ps
  induction ps with
  |nil =>
   intro kvs e _
   cases kvs with
   |nil=>exact ⟨[],.nil,λi v h=>by simp at h⟩
   |cons _ _=>cases e
  |cons p r ih =>
   intro kvs e hp
   cases kvs with
   |nil=>cases e
   |cons kv kr =>
    obtain ⟨vs,rel,at_⟩:=ih kr (by simpa using e) λi p kv h1 h2=>hp (i+1) p kv (by simpa using h1) (by simpa using h2)
    obtain ⟨_,us,ru,o,h1,h2,m,h3⟩:=(show ObjOk X.prog X.w H s.heap p (.tup [kV kv.1,kv.2]) from I.hok p _ (hp 0 p kv (by simp) (by simp)))
    obtain ⟨key,x,rfl,rk,rx⟩:=ZgI ru
    refine ⟨(kv.1,x)::vs,.cons ⟨rfl,rx⟩ rel,λi v hv=>?_⟩
    cases i with
    |zero =>
     obtain rfl:Value.ref p=v:=by simpa using hv
     exact ⟨p,o,m,key,kv.1,x,rfl,h1,h2,h3,Zew rk,by simp⟩
    |succ i =>
     obtain ⟨t,o,m,key,k,x,a⟩:=at_ i v (by simpa using hv)
     exact ⟨t,o,m,key,k,x,by simpa using a⟩
 obtain ⟨vs,rel,at_⟩:=mk ps kvs hn hp
 have lv2:its.length=ps.length:=by rw [ei,List.length_map]
 rw [List.length_map] at z
 refine Zd2 (knd:=ZaA X.prog X.w) (kvs:=vs) e (I.ok.hd hc) (by rw [<- rel.length,lv2,hn]) (by rw [<- rel.keys];exact nd) (by rw [lv2];exact z) (λi v hv=>at_ i v (by rw [<- ei];exact hv)) λh' tk dd kp=>?_
 refine ⟨.ref s.heap.objs.size,_,I.laid (a:=s.heap.objs.size) (o:=.dK kvs) (t':=tk) kp (Nat.le_refl _) (Zh8 (by rw [<- hn];exact z) (beq_eq_false_iff_ne.mpr (Ne.symm (Nat.ne_of_lt I.big))) rel dd),rfl,q _ (I.hok.fresh (Nat.le_refl _))⟩
theorem ZdH (hc:X.calm=true):Zct X (.type "list") (λxs H Q=>∃ (d:Addr) (kvs:List (List Key×V)),xs=[.ref d]/\H d=some (.dT kvs) /\
  ∀ l (ps:List Addr),H l=none->ps.length=kvs.length->(∀ (i:Nat) p kv,ps[i]?=some p->kvs[i]?=some kv->H p=some (.tup (kv.1.map kV)))->Q (.ref l) (upd H l (.lst (ps.map V.ref)))):=by
 intro pins s σ H xs us Q I r h
 obtain ⟨d,kvs,rfl,hd,q⟩:=h
 obtain ⟨u,rfl,rx⟩:=Zc1 r
 cases rx
 obtain ⟨z,hS,xs,rel,o,es,ep,ho,ex,dd,he,_⟩:=(show ObjOk X.prog X.w H s.heap d (.dT kvs) from I.hok d _ hd)
 have hl:kvs.length=xs.length:=Paired.length rel
 have hz:=size_of_entries he
 refine PySem.W.kdl_call (Zko (es:=es) (ep:=ep) hS) (I.ok.hd hc) ⟨o,ho,ex,dd⟩ (by omega) λh' tk acc c kp at_l its=>?_
 have ea:acc.toList=(xs.map (·.2.1)).map Value.ref:=by
  refine List.ext_getElem? λi=>?_
  rw [Array.getElem?_toList]
  by_cases lt:i<es.size
  ·have hi:i<acc.size:=by have:=its.1;omega
   obtain ⟨_,e2⟩:=its.2 i acc[i] (Array.getElem?_eq_getElem hi)
   have e3:=entry_at he i
   have lx:i<xs.length:=by omega
   rw [Array.getElem?_eq_getElem lt,List.getElem?_eq_getElem lx] at e3
   have e4:es[i]=entryOfKey _ xs[i]:=Option.some.inj e3
   rw [Array.getElem?_eq_getElem hi,e2,e4,List.getElem?_map,List.getElem?_map,List.getElem?_eq_getElem lx]
   rfl
  ·rw [Array.getElem?_eq_none (by have:=its.1;omega),List.getElem?_eq_none (by simp;omega)]
 have mkV:∀ ps:List Addr,Vals (ps.map V.ref) (ps.map Value.ref):=λps=>by
  induction ps with
  |nil=>exact .nil
  |cons p r ih=>exact .cons rfl ih
 refine ⟨.ref s.heap.objs.size,_,I.laid (a:=s.heap.objs.size) (o:=.lst ((xs.map (·.2.1)).map V.ref)) (t':=tk) kp (Nat.le_refl _) ⟨by simp;omega,acc.toList,c,by rw [ea];exact mkV _,by rw [Array.toArray_toList];exact at_l⟩,rfl,q _ _ (I.hok.fresh (Nat.le_refl _)) (by simp;omega) λi p kv h1 h2=>?_⟩
 obtain ⟨b,hb,e1,e2,_⟩:=Paired.nth rel h2
 rw [List.getElem?_map,hb] at h1
 obtain rfl:b.2.1=p:=by simpa using h1
 exact e2
theorem Zik (hc:X.calm=true):Zct X (.builtin "sum") (λxs H Q=>∃ (l st:Addr) (ps:List Addr) (yss:Nat->List V) (zs:List V),xs=[.ref l,.ref st]/\H l=some (.lst (ps.map V.ref))/\H st=some (.lst zs) /\
  (∀ (i:Nat) p,ps[i]?=some p->H p=some (.lst (yss i)))/\(∀ i,i<=ps.length->(zs++((List.range i).map yss).flatten).length<=sizeLine) /\
  (ps=[]->Q (.ref st) H)/\(ps≠[]->∀ r,H r=none->Q (.ref r) (upd H r (.lst (zs++((List.range ps.length).map yss).flatten))))):=by
 intro pins s σ H xs us Q I r h
 obtain ⟨l,st,ps,yss,zs,rfl,hl,hst,hp,hz,q0,q1⟩:=h
 obtain ⟨u,w',rfl,rx,ry⟩:=ZgI r
 cases rx
 cases ry
 obtain ⟨z,its,n,rv,lv,e⟩:=I.lstM hl
 obtain ⟨z2,its2,n2,rv2,lv2,e2⟩:=I.lstM hst
 have ei:=Zb5 rv
 subst ei
 have hA:∀ i,∃ vs:List Value,∀ p,ps[i]?=some p->Vals (yss i) vs/\RawL s.heap p vs:=λi=>by
  cases hi:ps[i]? with
  |none=>exact ⟨[],λp h=>by cases h⟩
  |some p =>
   obtain ⟨_,its,n,rv,_,e⟩:=I.lstM (hp i p hi)
   exact ⟨its,λp' h=>by cases h;exact ⟨rv,n,e⟩⟩
 obtain ⟨vss,hv⟩:∃ vss:Nat->List Value,∀ i p,ps[i]?=some p->Vals (yss i) (vss i)/\RawL s.heap p (vss i):=⟨λi=>(hA i).choose,λi=>(hA i).choose_spec⟩
 have fl:∀ i,i<=ps.length->Vals (zs++((List.range i).map yss).flatten) (its2++((List.range i).map vss).flatten):=by
  intro i
  induction i with
  |zero=>intro _;simpa using rv2
  |succ i ih =>
   intro hi
   rw [List.range_succ,List.map_append,List.map_append,List.flatten_append,List.flatten_append,<- List.append_assoc,<- List.append_assoc]
   refine (ih (by omega)).append ?_
   simpa using (hv i ps[i] (List.getElem?_eq_getElem (by omega))).1
 refine ZgT (yss:=vss) (I.ok.hd hc) e ⟨n2,e2⟩ (λi hi=>?_) (λi v hi=>?_) λh' tk T hT fr sa kp=>?_
 ·rw [<- (fl i (by simpa using hi)).length];exact hz i (by simpa using hi)
 ·rw [List.getElem?_map] at hi
  cases hpi:ps[i]? with
  |none=>rw [hpi] at hi;cases hi
  |some p =>
   rw [hpi] at hi
   exact ⟨p,by simpa using hi.symm,(hv i p hpi).2⟩
 ·rw [List.length_map] at fr sa hT
  by_cases e0:ps=[]
  ·obtain rfl:=sa (by simp [e0])
   exact ⟨.ref T,H,I.kept (t':=tk) kp,rfl,q0 e0⟩
  ·have nT:=fr (by simpa using e0)
   obtain ⟨c,hT⟩:=hT
   refine ⟨.ref T,_,I.laid (a:=T) (o:=.lst (zs++((List.range ps.length).map yss).flatten)) (t':=tk) kp nT ⟨hz _ (Nat.le_refl _),_,c,fl _ (Nat.le_refl _),hT⟩,rfl,q1 e0 _ (I.hok.fresh nT)⟩
end
end L2
namespace L2
open PySem PySem.Spec PyProof.Rows
section
variable {P:Program} {w:World} {A:Around} {E:Value->Shared->Prop} {s:Shared} {d:Addr} {κ:Type} [DecidableEq κ] {knd:PySem.KeyKind P w κ} {xs:List (List κ×Addr×Value)}
theorem Zjj {Q:Int->Shared->Prop} (h:Q 0xFCA86420 { s with toks:=s.toks+1 }):wpAny (model P w) A (pyHash .none) Q E s:=by
 have hv:[Value.none].any Value.onHeap=false:=rfl
 have hT:=typeIs_none s
 unfold pyHash
 refine wpAny_bind ?_
 rw [cRoomFor,if_neg (by rw [hv];exact Bool.false_ne_true)]
 refine wpAny_pure (wpAny_bind (wpAny_specialOf hT PySem.F.slot_NoneType_hash.lookup ?_))
 show wpAny _ _ (if (some (Value.builtin "NoneType.__hash__") == some Value.none)=true then _ else _) Q E s
 rw [if_neg (by rw [beq_builtin_none];exact Bool.false_ne_true)]
 refine wpAny_bind (wpAny_specialOf hT PySem.F.slot_NoneType_hash.lookup ?_)
 show wpAny _ _ (callSpecialIfBoundUnlessNone? .none "__hash__" _ >>= _) Q E s
 exact wpAny_bind (wpAny_callSpecialIfBoundUnlessNone?_slot hT PySem.F.slot_NoneType_hash (wpAny_call_entry PySem.F.slot_NoneType_hash hT PySem.F.entry_NoneType_hash (show wpAny _ _ (do ret (<- mkInt 0xFCA86420)) _ _ s from wpAny_ret_mkInt (wpAny_pure h)) (PySem.F.args_NoneType_hash_1 _)))
theorem Zfc {es:Array DictEntry} (he:es.toList=xs.map (entryOfKey (tupleKind knd))) (his:∀ x∈xs,(tupleKind knd).is s.heap x.1 x.2.1) {i:Nat} {e:DictEntry} (h:es[i]?=some e):∃ b its,e.key=.ref b/\s.heap.IsTuple b its/\∃ k,(tupleKind knd).is s.heap k b:=by
 rw [entry_at he i] at h
 cases hx:xs[i]? with
 |none=>rw [hx] at h;cases h
 |some x =>
  rw [hx] at h
  obtain rfl:=Option.some.inj h
  have k:=his x (List.mem_of_getElem? hx)
  obtain ⟨o,its,n,h1,h2,h3,_⟩:=id k
  exact ⟨_,its,rfl,⟨o,h1,h2,n,h3⟩,_,k⟩
theorem ZgO {stored:List Value} {Q:Bool->Shared->Prop} (hst:∀ v∈stored,∃ b k,v=.ref b/\(tupleKind knd).is s.heap k b) (q:Q false s):wpAny (model P w) A (tableMayTell .none stored) Q E s:=by
 unfold tableMayTell
 split
 ·exact wpAny_pure q
 ·refine wpAny_bind (wpAny_pure ?_)
  simp only [Bool.not_true,Bool.false_eq_true,if_false]
  refine wpAny_bind (wpAny_forIn_list _ (λrest r s'=>s'=s/\r=(none,())/\∀ v∈rest,v∈stored) _ ?_ ?_ _ _ ⟨rfl,rfl,λ_ h=>h⟩)
  ·rintro x rest r s' ⟨rfl,rfl,hr⟩
   obtain ⟨b,k,rfl,hb⟩:=hst x (hr x List.mem_cons_self)
   refine wpAny_bind ((tupleKind knd).quiet hb ?_)
   simp only [Bool.not_true,Bool.false_eq_true,if_false]
   exact wpAny_pure ⟨rfl,rfl,λv hv=>hr v (List.mem_cons_of_mem _ hv)⟩
  ·rintro r s' ⟨rfl,rfl,_⟩
   exact wpAny_pure q
theorem Zjp {h:Int} {Q:Option Nat->Shared->Prop} (hu:A.units<cLine) (hm:s.heap.DictOfH (tupleKind knd) d xs) (q:Q none s):wpAny (model P w) A (dictFind d .none h) Q E s:=by
 obtain ⟨o,es,ep,ho,ex,dd,he,his,nd⟩:=hm
 unfold dictFind
 refine wpAny_holding (wpAny_bind (wpAny_dictEntries ho dd ?_))
 dsimp only
 by_cases ca:((Value.none::(placesWithHash es.size (λi=>es[i]?.map (·.hash)) h).filterMap (λi=>es[i]?.map (·.key))).all carriedByValue)=true
 ·rw [if_pos ca]
  unfold dictWalkPlain
  refine wpAny_bind (wpAny_forIn_list _ (λ_ b s'=>s'=s/\b=(none,())) _ ?_ ?_ _ _ ⟨rfl,rfl⟩)
  ·rintro i rest b s' ⟨rfl,rfl⟩
   dsimp only
   cases hi:es[i]? with
   |none=>exact wpAny_pure ⟨rfl,rfl⟩
   |some e =>
    dsimp only
    obtain ⟨b,its,ek,it,_⟩:=Zfc he his hi
    split
    ·refine wpAny_bind (wpAny_dictEpoch ho dd (wpAny_bind ?_))
     rw [ek]
     refine SeqAt.EqAt.tuple_none it hu _ _ _ _ (wpAny_bind (wpAny_dictEpoch ho dd ?_))
     show wpAny _ _ (if (ep != ep)=true then _ else _) _ E _
     rw [if_neg (by simp)]
     simp only [Bool.false_eq_true,if_false]
     exact wpAny_bind (wpAny_rule (wpAny_pure ⟨rfl,rfl⟩))
    ·exact wpAny_pure ⟨rfl,rfl⟩
  ·rintro b s' ⟨rfl,rfl⟩
   exact wpAny_pure q
 ·rw [if_neg ca]
  have hst:∀ v∈(placesWithHash es.size (λi=>es[i]?.map (·.hash)) h).filterMap (λi=>es[i]?.map (·.key)),∃ b k,v=.ref b/\(tupleKind knd).is s.heap k b:=by
   intro v hv
   obtain ⟨i,_,hi⟩:=List.mem_filterMap.mp hv
   cases hei:es[i]? with
   |none=>rw [hei] at hi;cases hi
   |some e =>
    rw [hei] at hi
    obtain rfl:e.key=v:=by simpa using hi
    obtain ⟨b,_,ek,_,k,hk⟩:=Zfc he his hei
    exact ⟨b,k,ek,hk⟩
  generalize hS:(placesWithHash es.size (λi=>es[i]?.map (·.hash)) h).filterMap (λi=>es[i]?.map (·.key))=stored at hst ca |-
  have ne:¬ (stored == [Value.none])=true:=λz=>by
   have z':stored=[Value.none]:=by simpa using z
   obtain ⟨b,k,e,_⟩:=hst .none (by rw [z'];simp)
   cases e
  rw [if_neg ne]
  refine wpAny_bind (ZgO hst ?_)
  simp only [Bool.false_and,Bool.false_eq_true,if_false]
  refine wpAny_bind (wpAny_forIn_list _ (λ_ b s'=>s'=s/\b=(none,none)) _ ?_ ?_ _ _ ⟨rfl,rfl⟩)
  ·rintro i rest b s' ⟨rfl,rfl⟩
   dsimp only
   cases hi:es[i]? with
   |none=>exact wpAny_pure ⟨rfl,rfl⟩
   |some e =>
    dsimp only
    obtain ⟨b,its,ek,it,_⟩:=Zfc he his hi
    split
    ·refine wpAny_bind (wpAny_dictEpoch ho dd (wpAny_bind ?_))
     rw [ek]
     refine SeqAt.EqAt.tuple_none it hu _ _ _ _ (wpAny_bind (wpAny_dictEpoch ho dd ?_))
     show wpAny _ _ (if (ep != ep)=true then _ else _) _ E _
     rw [if_neg (by simp)]
     simp only [Bool.false_eq_true,if_false]
     exact wpAny_bind (wpAny_rule (wpAny_pure ⟨rfl,rfl⟩))
    ·exact wpAny_pure ⟨rfl,rfl⟩
  ·rintro b s' ⟨rfl,rfl⟩
   exact wpAny_pure q
theorem ZkO {Q:Bool->Shared->Prop} (lo:(d == sysModules)=false) (hu:A.in1.units<cLine) (hm:s.heap.DictOfH (tupleKind knd) d xs) (q:Q false { s with toks:=s.toks+1 }):wpAny (model P w) A (contains (.ref d) .none) Q E s:=by
 have ty:=hm.typeIs
 unfold contains
 refine wpAny_holding (wpAny_bind (wpAny_specialOf ty slot_dict_contains.lookup ?_))
 show wpAny _ _ (if (some (Value.builtin "dict.__contains__") == some Value.none)=true then _ else _) _ E s
 rw [if_neg (by rw [beq_builtin_none];exact Bool.false_ne_true)]
 refine wpAny_bind (wpAny_callSpecialUnlessNone?_slot (name:=Str.ofString "__contains__") ty slot_dict_contains (wpAny_call_entry slot_dict_contains ty entry_dict_contains ?_ (args_dict_contains _ _)))
 show wpAny _ _ (dictGet d .none >>= _) _ _ s
 unfold dictGet
 refine wpAny_bind (wpAny_holding (wpAny_bind (Zjj (wpAny_bind (Zjp (s:={ s with toks:=s.toks+1 }) hu hm (wpAny_pure ?_))))))
 show wpAny _ _ (Builtin.Dict.pendingKey? d .none >>= _) _ _ _
 exact wpAny_bind (wpAny_pendingKey_other lo (wpAny_pure ⟨_,rfl,wpAny_truthy_bool q⟩))
end
def Zmh (H:Hp) (a:Addr) (y:V) (o:Option V):Prop:=DGet H a y o\/(y=.non/\(∃ kvs,Rd H a (.dT kvs))/\o=none)
section
variable {X:Cx} {i o:Expr} {ty td:TE}
def ZiH (ty td:TE):TE:=λσ H Q=>ty σ H λy H1=>td σ H1 λx H2=>∃ a o,x=.ref a/\Zmh H2 a y o/\Q (.bl !o.isSome) H2
theorem Zgl (hu:X.A.units+1<cLine) (hi:PE X i ty) (ho:PE X o td):PC X .NotIn i o (ZiH ty td):=by
 intro pins s σ H Q I h
 refine thn (hi pins s σ H _ I h) λiv s1 ⟨y,H1,I1,ry,q1⟩=>thn (ho pins s1 σ H1 _ I1 q1) λu s2 ⟨x,H2,I2,rx,a,ov,ex,g,q2⟩=>?_
 subst ex
 obtain rfl:u=Value.ref a:=rx
 rcases g with g | ⟨rfl,⟨kvs,e⟩,rfl⟩
 ·exact Zie hu I2 g ry λs3 I3=>⟨.bl !ov.isSome,H2,I3,rfl,q2⟩
 ·obtain rfl:iv=Value.none:=ry
  obtain ⟨z,hd,xs,rel,dd⟩:=ZeB I2.hok e
  show wpAny _ _ (do return Value.bool (!(<- contains (.ref a) .none))) _ _ _
  exact wpAny_bind (ZkO hd hu dd (wpAny_pure ⟨.bl true,H2,I2.tok _,rfl,q2⟩))
theorem KT.drop {H:Hp} {kvs:List (List Key×V)} {xs:List (List Key×Addr×Value)} (r:KT H kvs xs) (k:List Key):KT H (Zfk kvs k) (xs.filter λx=>decide (x.1≠k)):=by
 unfold KT at r |-
 unfold Zfk
 induction r with
 |nil=>exact .nil
 |@cons p q ps qs h t ih =>
  rw [List.filter_cons,List.filter_cons,<- h.1]
  split
  ·exact .cons h ih
  ·exact ih
def Zfu (td ty:TE):TE:=λσ H Q=>td σ H λx H1=>∃ a,x=.ref a/\IsD H1 a/\ty σ H1 λy H2=>∃ kvs k b v,H2 a=some (.dT kvs)/\y=.ref b/\H2 b=some (.tup (k.map kV))/\valV kvs k=some v/\Q v (upd H2 a (.dT (Zfk kvs k)))
theorem ZfS {e:Expr} {apos cpos:Pos} (hu:X.A.units+1<cLine) (ho:PE X o td) (he:PE X e ty) (m:M1 X o "pop" apos e cpos):PE X (.Call (.Attribute o "pop" apos) [e] [] cpos) (Zfu td ty):=by
 intro pins s σ H Q I h
 refine wpAny_Call_method m.base m.few m.line PySem.F.plainAttrs_dict PySem.F.slot_dict_pop PySem.F.type_dict_pop (thn (ho pins s σ H _ I h) λu s1 ⟨x,H1,I1,rx,a,ex,d,q1⟩=>?_)
 subst ex
 obtain rfl:u=Value.ref a:=rx
 obtain ⟨t1,t2,_⟩:=ZjW I1 d
 refine ⟨t1,t2,?_⟩
 rw [m.trees]
 refine Calls.callWith_builtin rfl (Calls.evalArgs_plain (Calls.spliced_cons (thn (he pins s1 σ H1 _ I1 q1) λiv s2 ⟨y,H2,I2,ry,kvs,k,b,v,ea,ey,eb,l,q2⟩=>Calls.spliced_nil ?_)))
 subst ey
 obtain rfl:iv=Value.ref b:=ry
 obtain ⟨z,hd,xs,rel,dd⟩:=ZlV I2.hok ea
 have rv:=rel.val k
 rw [l] at rv
 cases hp:atKey xs k with
 |none=>rw [hp] at rv;exact rv.elim
 |some p =>
  rw [hp] at rv
  refine Zkp (tupleKind_room_in1 hu) (Zdj I2.hok eb) dd (by rw [<- Paired.length rel];exact z) hp λh' dd' sb=>?_
  obtain ⟨o',es,ep,g1,g2,g3,g4,_,g5⟩:=dd'
  refine ⟨v,_,Zd4 (ob:=.dT (Zfk kvs k)) I2 (by rw [ea];exact True.intro) sb ⟨o',g1⟩ ⟨Nat.le_trans (Zjt kvs k) z,hd,_,(rel.drop k).keeps λc ys ec=>?_,o',es,ep,g1,g2,g3,g4,g5⟩,rv,q2⟩
  rw [Zae (Zaq ec ea (λz=>nomatch z))]
  exact ec
def rEqE:R2:=λx y H Q=>∃ (a b:Addr) (kvs:List (List Key×V)),x=.ref a/\y=.ref b/\Rd H a (.dT kvs)/\H b=some (.dT [])/\Q (.bl kvs.isEmpty) H
theorem Zlw (hu:X.A.units<cLine):OpR X (compareOp .Eq) rEqE:=by
 intro pins s σ H x y v u Q I rx ry h
 obtain ⟨a,b,kvs,rfl,rfl,ha,hb,q⟩:=h
 cases rx;cases ry
 obtain ⟨_,sa,xa,ra,oa,ea,pa,g1,g2,g3,g4,_⟩:=(show ObjOk X.prog X.w H s.heap a (.dT kvs) from Zkn I.hok ha)
 obtain ⟨_,sb,xb,rb,ob,eb,pb,k1,k2,k3,k4,_⟩:=(show ObjOk X.prog X.w H s.heap b (.dT []) from I.hok b _ hb)
 have e0:eb=#[]:=by
  cases rb
  rw [List.map_nil] at k4
  exact Array.toList_eq_nil_iff.mp k4
 subst e0
 refine Zkq sa sb ⟨oa,g1,g2,g3⟩ ⟨ob,k1,k2,k3⟩ hu ⟨.bl kvs.isEmpty,H,I,?_,q⟩
 show Value.bool _=_
 rw [size_of_entries g4,<- Paired.length ra]
 cases kvs<;>rfl
theorem ZhE:MtR X "list.count" (λx xs H Q=>∃ (l:Addr) (bs:List Bool),x=.ref l/\xs=[.bl true]/\H l=some (.lst (bs.map V.bl))/\Q (.int (bs.countP (· == true):Nat)) H):=by
 intro pins s σ H x xs v us Q I rx rv h
 obtain ⟨l,bs,rfl,rfl,hl,q⟩:=h
 cases rx
 obtain ⟨u,rfl,ru⟩:=Zc1 rv
 obtain rfl:u=Value.bool true:=ru
 obtain ⟨z,its,n,r,lv,e⟩:=I.lstM hl
 have ei:∀ {bs:List Bool} {us:List Value},Vals (bs.map V.bl) us->us=bs.map Value.bool:=by
  intro bs
  induction bs with
  |nil=>intro us h;cases h;rfl
  |cons b r ih =>
   intro us h
   cases h with
   |cons h1 h2 =>
    obtain rfl:=(show _=Value.bool b from h1)
    rw [List.map_cons,ih h2]
 obtain rfl:=ei r
 refine call_meets PySem.F.slot_list_count ⟨_,e,rfl⟩ PySem.F.entry_list_count (PySem.F.args_list_count_2 _ _) (SeqAt.list_countAt l _ n none #[] (.bool true) (λv=>match v with | .bool b=>b == true | _=>false)) ⟨e,λy hy=>?_,?_⟩
 ·rw [List.mem_toArray] at hy
  obtain ⟨b,_,rfl⟩:=List.mem_map.mp hy
  exact SeqAt.EqAt.bool_bool b true
 ·refine ⟨.int (bs.countP (· == true):Nat),H,I.tok _,⟨s.toks,?_⟩,q⟩
  rw [show ((bs.map Value.bool).toArray.toList).countP (λv=>match v with | .bool b=>b == true | _=>false)=bs.countP (· == true) by rw [List.countP_map];rfl]
end
end L2
namespace L2
open PySem PySem.Spec PyProof.Rows PySem.W
section
variable {n:Nat} (hn:0<n)
include hn
theorem ZfI:∀ f {p:Array Nat} (k:Nat),AllLt n p->RngP n (AllLt n) (kas_bin f p k)
 |0,_,_,h=>h
 |f+1,p,k,h=>(Zc5 hn h k _ _ _).bind λl _=>ZfI f _ (h.bub _ _)
theorem Zel:RngP n (AllLt n) (kas_sort n):=by
 have h0:AllLt n (List.toArray (List.range n)):=λx hx=>by simpa using hx
 refine (Zhk hn h0 n).bind λr hr=>?_
 split
 ·exact ZfI hn _ _ hr
 ·exact hr
end
theorem Zga {α:Type} {n:Nat} {P:α->Prop} {lt:Nat->Nat->Bool}:∀ t:KasT α,RngP n P t->P (ansd lt t)
 |.ret _,h=>h
 |.ask i j k,h=>Zga (k (lt i j)) (h.2.2 _)
section
variable {P:Program} {w:World} {A:Around} {E:Value->Shared->Prop} {s:Shared}
def PairV (h:Heap) (v:Value) (x y:Int):Prop:=∃ a o t u m,v=.ref a/\h.get? a=some o/\o.cls=.type "tuple"/\o.data=.seq #[.int x t,.int y u] m
def ltP (a b:Int×Int):Bool:=if a.1=b.1 then (if a.2=b.2 then false else decide (a.2<b.2)) else decide (a.1<b.1)
theorem ZkF {v v':Value} {x y x' y':Int} {Q:Bool->Shared->Prop} (p:PairV s.heap v x y) (p':PairV s.heap v' x' y') (q:Q (ltP (x,y) (x',y')) s):wpAny (model P w) A (keyLt' (tuples' true) v v') Q E s:=by
 obtain ⟨a,o,t,u,m,rfl,h1,h2,h3⟩:=p
 obtain ⟨a',o',t',u',m',rfl,k1,k2,k3⟩:=p'
 refine kat_lt h1 h3 k1 k3 ?_
 show KatLex P w A true (decide (2<2)) Q [(Value.int x t,Value.int x' t'),(Value.int y u,Value.int y' u')] 0 s
 refine kat_cons (SeqAt.EqAt.int_int x t x' t' _ _ _ _ ?_)
 refine kat_go (λe=>kat_yes (kat_cons (SeqAt.EqAt.int_int y u y' u' _ _ _ _ (kat_go (λe2=>kat_yes (kat_nil ?_)) λe2=>kat_no (kat_one _ _ (wpAny_lt_int ?_)))))) λe=>kat_no (oneLt_int ?_)
 ·have e:x=x':=by simpa using e
  have e2:y=y':=by simpa using e2
  simpa [ltP,e,e2] using q
 ·have e:x=x':=by simpa using e
  have e2:¬ y=y':=by simpa using e2
  show Q (decide (y<y')) s
  simpa [ltP,e,e2] using q
 ·have e:¬ x=x':=by simpa using e
  simpa [ltP,e] using q
theorem PairV.keep {h h':Heap} {v:Value} {x y:Int} (p:PairV h v x y) (k:∀ b o,(∃ t u m,o.data=.seq #[.int x t,.int y u] m/\o.cls=.type "tuple")->h.get? b=some o->h'.get? b=some o):PairV h' v x y:=by
 obtain ⟨a,o,t,u,m,rfl,h1,h2,h3⟩:=p
 exact ⟨a,o,t,u,m,rfl,k a o ⟨t,u,m,h3,h2⟩ h1,h2,h3⟩
theorem ZgN {h:Heap}:∀ {vs:List Value},(∀ v∈vs,∃ x y,PairV h v x y)->∃ fs,KatTups h vs fs/\fs.length=vs.length/\∀ f∈fs,∃ x t,f=Value.int x t
 |[],_=>⟨[],KatTups.nil,rfl,λ_ h=>nomatch h⟩
 |v::r,hv=>by
  obtain ⟨fs,h1,h2,h3⟩:=ZgN (vs:=r) λv h=>hv v (List.mem_cons_of_mem _ h)
  obtain ⟨x,y,a,o,t,u,m,rfl,g1,g2,g3⟩:=hv v List.mem_cons_self
  refine ⟨.int x t::fs,KatTups.cons g1 g2 g3 rfl h1,by simp [h2],λf hf=>?_⟩
  rcases List.mem_cons.mp hf with rfl | hf
  ·exact ⟨x,t,rfl⟩
  ·exact h3 f hf
end
end L2
namespace L2
open PySem
theorem Zk0:bootBuiltins "dict"=some (.type "dict"):=by decide +kernel
theorem ZlY:bootBuiltins "sum"=some (.builtin "sum"):=by decide +kernel
theorem Zl0:bootBuiltins "max"=some (.builtin "max"):=by decide +kernel
theorem Zd6:bootBuiltins "ValueError"=some (.type "ValueError"):=by decide +kernel
end L2
namespace L2
open PySem PySem.Spec PyProof.Rows
theorem ZdV {X:Cx} {K:PySem.W.Frag} {e:Expr} {f:Str} {pos:Pos} {ta:TE} (h:X.K=K) (he:PE X e ta) (hb:attributeBase e f X.env (eval e X.env)=eval e X.env):PE X (.Attribute e f pos) (tFld K ta f):=by subst h;exact ZaQ he hb
end L2
namespace L2
open PySem PySem.Spec PyProof.Rows
theorem ZeM (l b:Addr) (items items2:Array Value) (n n2:Nat) (dd dd2:Option Addr) (sl sl2:Array (Option Value)) (hc0:items.isEmpty=true) :
  Meets (Builtin.«tuple.__add__» ⟨[.ref l,.ref b],[]⟩) (λ_ R s=>s.heap.get? l=some { cls:=.type "tuple",dict:=dd,data:=.seq items n,slots:=sl }/\s.heap.get? b=some { cls:=.type "tuple",dict:=dd2,data:=.seq items2 n2,slots:=sl2 }/\R (.ok (.ret (Value.ref b))) { s with heap:=s.heap,toks:=s.toks }) :=
 .of_wp λprog w A R s h=>by obtain ⟨hp,g,d,tk,os⟩:=s;obtain ⟨hl,hb,h⟩:=h;have f2:=sub_tuple_tuple;wp_walk using wpAny_loadPart' hl,wpAny_loadPart' hb;exact ⟨_,rfl,h⟩
def ZfL (K:PySem.W.Frag):R2:=λx y H Q=>Zlj K x y H Q\/∃ a b,x=.ref a/\y=.ref b/\SqT K H a []/\(∃ ys,SqT K H b ys)/\Q (.ref b) H
theorem Zbo {X:Cx}:OpR X (binaryOp .Add) (ZfL X.K):=by
 intro pins s σ H x y v u Q I rx ry h
 rcases h with h | ⟨a,b,rfl,rfl,ha,⟨ys,hb⟩,q⟩
 ·exact ZkB pins s σ H x y v u Q I rx ry h
 ·cases rx
  cases ry
  obtain ⟨its,r1,p1,_⟩:=I.tuple ha
  obtain ⟨its2,r2,p2,_⟩:=I.tuple hb
  cases r1
  obtain ⟨⟨cls,dd,data,sl⟩,ho,hc,n,hd⟩:=id p1
  obtain ⟨⟨cls2,dd2,data2,sl2⟩,ho2,hc2,n2,hd2⟩:=id p2
  simp only at hc hd hc2 hd2
  subst hc hd hc2 hd2
  exact concat_meets ⟨_,ho,rfl⟩ ⟨_,ho2,rfl⟩ noFill_tuple_add seq_tuple_add PySem.F.slot_tuple_add PySem.F.entry_tuple_add (PySem.F.args_tuple_add_2 _ _)
   (ZeM a b _ its2.toArray n n2 dd dd2 sl sl2 (by simp)) ⟨ho,ho2,⟨.ref b,H,I,rfl,q⟩⟩
end L2
namespace L2
open PySem PySem.Spec PyProof.Rows
def tLcJ (H0:Hp) (sel:List (Option Nat)) (td:TE) (g:TG) (tt:TT) (te:TE):TE:=λσ H Q=>tLc sel (Zff H0 td) g tt te σ H λv G=>∃ d o kvs,Zcr H0 d/\G d=some (.frz o (.dK kvs))/\Q v (upd G d (.dK kvs))
theorem Zlp {X:Cx} {elt o:Expr} {es:List Expr} {x1} {tpos apos cpos:Pos} {ifs:List Expr} {scope:Scope} {pos:Pos} {td:TE} {N':List Str} {sel:List (Option Nat)} {g:TG} {tt:TT} {te:TE}
  (hc:X.calm=true) (hk:scope.kind=.function) (chk:Zb4 scope X.env.scope X.N N' sel=true) (ho:PE X o td) (hgk:Zcs sel g)
  (hb:∀ (C:Addr) (s:Shared) (H:Hp) (fp:List Addr) (pn:List (Addr×Obj)),PG (ZaB X N' scope C s H fp pn) (.Tuple es x1 tpos) g/\PTs (ZaB X N' scope C s H fp pn) ifs tt/\PE (ZaB X N' scope C s H fp pn) elt te)
  (hbase:attributeBase o "items" X.env (eval o X.env)=eval o X.env:=by rfl) (hline:(apos.endLine == cpos.line)=true:=by rfl)
  (hs:∀ x,foldedSetIterable (.Call (.Attribute o "items" apos) [] [] cpos) X.env x=pure x:=by intro _;rfl):PE X (.ListComp elt [⟨.Tuple es x1 tpos,.Call (.Attribute o "items" apos) [] [] cpos,ifs,0⟩] scope pos) (tLcJ X.H₀ sel td g tt te):=by
 intro pins s σ H Q I h
 refine thn (Zen hc hk chk (Zem ho hbase hline) hgk hb hs pins s σ H _ I h) λv s1 ⟨x,H1,I1,rx,d,o,kvs,nf,e,q⟩=>?_
 exact ⟨x,_,I1.thaw e nf,rx,q⟩
theorem ZhJ {d:Addr} {o:Obj} {kvs:List (Key×V)} {sel:List (Option Nat)} {g:TG} {tt:TT} {te:TE} {σ:St} {H:Hp} {Qe:List V->Hp->Prop} (Pv:Nat->List V->Hp->Prop) (h0:Pv 0 [] H)
  (hl:∀ i ys H,i<=kvs.length->Pv i ys H->H d=some (.frz o (.dK kvs))/\ys.length<=i) (hz:kvs.length<=sizeLine)
  (hs:∀ i kv ys H p,kvs[i]?=some kv->Pv i ys H->H p=none->g (.ref p) (selS sel σ) (upd H p (.tup [kV kv.1,kv.2])) λσ2 H2=>tt σ2 H2 λb H3=>if b=true then te σ2 H3 λy H4=>Pv (i+1) (ys++[y]) H4 else Pv (i+1) ys H3)
  (hd:∀ ys H,Pv kvs.length ys H->Qe ys H):∃ W:Nat->Nat->List V->Hp->Prop,(∃ m,W 0 m [] H)/\ZbF sel g tt te σ (Itf d o kvs) W Qe:=by
 refine ⟨λi m ys H=>m=kvs.length-i/\i<=kvs.length/\Pv i ys H,⟨_,rfl,Nat.zero_le _,h0⟩,?_⟩
 rintro i m ys H ⟨rfl,hi,p⟩
 obtain ⟨hf,hy⟩:=hl i ys H hi p
 by_cases e:i=kvs.length
 ·subst e
  exact .inl ⟨⟨hf,Nat.le_refl _⟩,hd _ _ p⟩
 ·have hlt:i<kvs.length:=Nat.lt_of_le_of_ne hi e
  refine .inr ⟨⟨hf,hlt⟩,by omega,Pv (i+1),λys' H' p'=>⟨kvs.length-(i+1),by omega,rfl,hlt,p'⟩,?_⟩
  rintro x H' ⟨q,kv,rfl,hq,rfl,hx⟩
  exact hs i kv ys H q hx p hq
end L2
namespace L2
open PySem PySem.Spec PyProof.Rows
section
variable {P:Program} {w:World} {A:Around} {E:Value->Shared->Prop} {s:Shared} {d:Addr} {es:Array DictEntry} {ep:Nat}
end
end L2
namespace L2
open PySem PySem.W PyProof.Rows
section
variable {lt:Nat->Nat->Bool}
structure Ord (lt:Nat->Nat->Bool):Prop where
 tr:∀ i j k,lt j i=false->lt k j=false->lt k i=false
 as:∀ i j,lt i j=true->lt j i=false
def UpA (lt:Nat->Nat->Bool) (p:Array Nat) (m:Nat):Prop:=∀ i j,i<j->j<m->lt (p.getD j 0) (p.getD i 0)=false
def DnA (lt:Nat->Nat->Bool) (p:Array Nat) (m:Nat):Prop:=∀ i j,i<j->j<m->lt (p.getD i 0) (p.getD j 0)=false
def EqA (lt:Nat->Nat->Bool) (p:Array Nat) (a b:Nat):Prop:=∀ i j,a<=i->i<b->a<=j->j<b->lt (p.getD i 0) (p.getD j 0)=false
theorem UpA.succ (o:Ord lt) {p:Array Nat} {n:Nat} (h:UpA lt p n) (h1:1<=n) (q:lt (p.getD n 0) (p.getD (n-1) 0)=false):UpA lt p (n+1):=λi j hij hj=>by
 by_cases e:j=n
 ·subst e
  by_cases e2:i=j-1
  ·rw [e2];exact q
  ·exact o.tr _ _ _ (h i (j-1) (by omega) (by omega)) q
 ·exact h i j hij (by omega)
theorem DnA.succ (o:Ord lt) {p:Array Nat} {n:Nat} (h:DnA lt p n) (h1:1<=n) (q:lt (p.getD (n-1) 0) (p.getD n 0)=false):DnA lt p (n+1):=λi j hij hj=>by
 by_cases e:j=n
 ·subst e
  by_cases e2:i=j-1
  ·rw [e2];exact q
  ·exact o.tr _ _ _ q (h i (j-1) (by omega) (by omega))
 ·exact h i j hij (by omega)
theorem Zg7 (o:Ord lt) {p:Array Nat}:∀ f n,1<=n->UpA lt p n->∃ m,ansd lt (kas_asc p f n)=m/\n<=m/\m<=n+f/\UpA lt p m/\(m<n+f->lt (p.getD m 0) (p.getD (m-1) 0)=true)
 |0,n,_,h=>⟨n,rfl,Nat.le_refl _,Nat.le_refl _,h,λz=>absurd z (by omega)⟩
 |f+1,n,h1,h=>by
  rw [kas_asc]
  simp only [ansd]
  cases c:lt (p.getD n 0) (p.getD (n-1) 0) with
  |true=>exact ⟨n,rfl,Nat.le_refl _,by omega,h,λ_=>c⟩
  |false =>
   obtain ⟨m,e,a1,a2,a3,a4⟩:=Zg7 o f (n+1) (by omega) (h.succ o h1 c)
   exact ⟨m,e,by omega,by omega,a3,λz=>a4 (by omega)⟩
theorem ZeX {p:Array Nat} {i j:Nat} (hj:j<=p.size) (k:Nat):(kas_rev p i j).getD k 0=if i<=k/\k<j then p.getD (i+j-1-k) 0 else p.getD k 0:=by
 have h:=getElem?_mirror_all (xs:=p) (i:=i) hj k
 have g:∀ (q:Array Nat) t,q.getD t 0=(q[t]?).getD 0:=λq t=>by simp [Array.getD_eq_getD_getElem?]
 rw [g,g,g]
 show ((mirror p i j ((j-i) / 2))[k]?).getD 0=_
 rw [h]
 split<;>rfl
theorem rev_size {p:Array Nat} {i j:Nat}:(kas_rev p i j).size=p.size:=mirror_size _ _ _ _
theorem rev_perm {p:Array Nat} {i j:Nat}:(kas_rev p i j).Perm p:=mirror_perm _ _ _ _
theorem DnA.eqv (o:Ord lt) {p q:Array Nat} {n:Nat} (h:DnA lt p n) (e:∀ k,k<n->lt (q.getD k 0) (p.getD k 0)=false/\lt (p.getD k 0) (q.getD k 0)=false):DnA lt q n:=λi j hij hj=>by
 have a:=e i (by omega)
 have b:=e j hj
 exact o.tr _ _ _ b.2 (o.tr _ _ _ (h i j hij hj) a.1)
theorem ZeY {p:Array Nat} {a b n:Nat} (hb:b<=p.size) (he:EqA lt p a b) (ir:∀ i,lt i i=false):∀ k,k<n->lt ((kas_rev p a b).getD k 0) (p.getD k 0)=false/\lt (p.getD k 0) ((kas_rev p a b).getD k 0)=false:=λk _=>by
 rw [ZeX hb]
 split
 ·rename_i h
  exact ⟨he _ _ (by omega) (by omega) h.1 h.2,he _ _ h.1 h.2 (by omega) (by omega)⟩
 ·exact ⟨ir _,ir _⟩
theorem Ord.ir (o:Ord lt):∀ i,lt i i=false:=λi=>by
 cases h:lt i i with
 |false=>rfl
 |true=>have:=o.as i i h;rw [h] at this;cases this
theorem ZdR (o:Ord lt):∀ f (p:Array Nat) n q,1<=n->q+1<=n->n+f<=p.size->DnA lt p n->EqA lt p (n-(q+1)) n ->
  ∃ p' n' q',ansd lt (kas_desc f p n q)=(p',n',q')/\p'.size=p.size/\p'.Perm p/\n<=n'/\n'<=n+f/\q'+1<=n'/\DnA lt p' n'/\EqA lt p' (n'-(q'+1)) n'
 |0,p,n,q,_,hq,_,h,he=>⟨p,n,q,rfl,rfl,Array.Perm.refl _,Nat.le_refl _,Nat.le_refl _,hq,h,he⟩
 |f+1,p,n,q,h1,hq,hs,h,he=>by
  rw [kas_desc]
  simp only [ansd]
  have one:∀ (p:Array Nat),EqA lt p (n+1-(0+1)) (n+1):=λp i j a1 a2 a3 a4=>by
   obtain rfl:i=n:=by omega
   obtain rfl:j=i:=by omega
   exact o.ir _
  cases c:lt (p.getD n 0) (p.getD (n-1) 0) with
  |true =>
   have d:=h.succ o h1 (o.as _ _ c)
   simp only [if_true]
   by_cases z:q > 0
   ·rw [if_pos z]
    have d2:DnA lt (kas_rev p (n-(q+1)) n) (n+1):=d.eqv o (ZeY (by omega) he o.ir)
    obtain ⟨p',n',q',e,a1,a2,a3,a4,a5,a6,a7⟩:=ZdR o f (kas_rev p (n-(q+1)) n) (n+1) 0 (by omega) (by omega) (by rw [rev_size];omega) d2 (one _)
    exact ⟨p',n',q',e,a1.trans rev_size,a2.trans rev_perm,by omega,by omega,a5,a6,a7⟩
   ·rw [if_neg z]
    obtain ⟨p',n',q',e,a1,a2,a3,a4,a5,a6,a7⟩:=ZdR o f p (n+1) 0 (by omega) (by omega) (by omega) d (one _)
    exact ⟨p',n',q',e,a1,a2,by omega,by omega,a5,a6,a7⟩
  |false =>
   simp only [Bool.false_eq_true,if_false,ansd]
   cases c2:lt (p.getD (n-1) 0) (p.getD n 0) with
   |true=>exact ⟨p,n,q,rfl,rfl,Array.Perm.refl _,Nat.le_refl _,by omega,hq,h,he⟩
   |false =>
    simp only [Bool.false_eq_true,if_false]
    have he2:EqA lt p (n+1-(q+1+1)) (n+1):=λi j a1 a2 a3 a4=>by
     have to:∀ t,n-(q+1)<=t->t<n->lt (p.getD t 0) (p.getD n 0)=false/\lt (p.getD n 0) (p.getD t 0)=false:=λt t1 t2 =>
      ⟨o.tr _ _ _ c2 (he t (n-1) t1 t2 (by omega) (by omega)),o.tr _ _ _ (he (n-1) t (by omega) (by omega) t1 t2) c⟩
     by_cases z1:i=n
     ·by_cases z2:j=n
      ·rw [z1,z2];exact o.ir _
      ·rw [z1];exact (to j (by omega) (by omega)).2
     ·by_cases z2:j=n
      ·rw [z2];exact (to i (by omega) (by omega)).1
      ·exact he i j (by omega) (by omega) (by omega) (by omega)
    obtain ⟨p',n',q',e,a1,a2,a3,a4,a5,a6,a7⟩:=ZdR o f p (n+1) (q+1) (by omega) (by omega) (by omega) (h.succ o h1 c2) he2
    exact ⟨p',n',q',e,a1,a2,by omega,by omega,a5,a6,a7⟩
theorem ZfC (o:Ord lt) {p:Array Nat} {n nrem:Nat} (h1:1<=n) (hn:n<=nrem) (hs:nrem<=p.size) (h:DnA lt p n):∃ m p',ansd lt (kas_tail3 n nrem p)=(m,p')/\p'.size=p.size/\p'.Perm p/\1<=m/\m<=nrem/\UpA lt p' m:=by
 have u:UpA lt (kas_rev p 0 n) n:=λi j hij hj=>by
  rw [ZeX (by omega),ZeX (by omega),if_pos (by omega),if_pos (by omega)]
  exact h _ _ (by omega) (by omega)
 obtain ⟨m,e,a1,a2,a3,_⟩:=Zg7 o (nrem-n) n h1 u
 refine ⟨m,kas_rev p 0 n,?_,rev_size,rev_perm,by omega,by omega,a3⟩
 rw [kas_tail3,Zbx,e];rfl
theorem Zc3 (o:Ord lt) {p:Array Nat} {n nrem:Nat} (h1:1<=n) (hn:n<nrem) (hs:nrem<=p.size) (h:DnA lt p (n+1)):∃ m p',ansd lt (kas_descPart n nrem p)=(m,p')/\p'.size=p.size/\p'.Perm p/\1<=m/\m<=nrem/\UpA lt p' m:=by
 obtain ⟨p',n',q',e,a1,a2,a3,a4,a5,a6,a7⟩:=ZdR o (nrem-(n+1)) p (n+1) 0 (by omega) (by omega) (by omega) h (λi j b1 b2 b3 b4=>by
  obtain rfl:i=n:=by omega
  obtain rfl:j=i:=by omega
  exact o.ir _)
 rw [kas_descPart,Zbx,e]
 by_cases z:q' > 0
 ·simp only [if_pos z]
  obtain ⟨m,p2,e2,b1,b2,b3,b4,b5⟩:=ZfC o (p:=kas_rev p' (n'-(q'+1)) n') (n:=n') (nrem:=nrem) (by omega) (by omega) (by rw [rev_size];omega) (a6.eqv o (ZeY (by omega) a7 o.ir))
  exact ⟨m,p2,e2,b1.trans (rev_size.trans a1),b2.trans (rev_perm.trans a2),b3,b4,b5⟩
 ·simp only [if_neg z]
  obtain ⟨m,p2,e2,b1,b2,b3,b4,b5⟩:=ZfC o (p:=p') (n:=n') (nrem:=nrem) (by omega) (by omega) (by omega) a6
  exact ⟨m,p2,e2,b1.trans a1,b2.trans a2,b3,b4,b5⟩
theorem ZiM (o:Ord lt) {p:Array Nat} {n:Nat} (h1:1<=n) (hs:n<=p.size):∃ m p',ansd lt (kas_count n p)=(m,p')/\p'.size=p.size/\p'.Perm p/\1<=m/\m<=n/\UpA lt p' m:=by
 obtain ⟨m,e,a1,a2,a3,a4⟩:=Zg7 o (p:=p) (n-1) 1 (Nat.le_refl _) (λi j a b=>by omega)
 rw [kas_count,Zbx,e]
 by_cases z:(m == n)=true
 ·rw [if_pos z]
  exact ⟨m,p,rfl,rfl,Array.Perm.refl _,a1,by omega,a3⟩
 ·rw [if_neg z]
  have mn:m<n:=by
   have:m≠n:=by simpa using z
   omega
  have l:=a4 (by omega)
  by_cases y:m > 1
  ·rw [if_pos y]
   simp only [ansd]
   cases c:lt (p.getD 0 0) (p.getD (m-1) 0) with
   |true=>exact ⟨m,p,rfl,rfl,Array.Perm.refl _,a1,by omega,a3⟩
   |false =>
    simp only [Bool.false_eq_true,if_false]
    have le:∀ i j,i<=j->j<m->lt (p.getD j 0) (p.getD i 0)=false:=λi j a b=>by
     by_cases e:i=j
     ·rw [e];exact o.ir _
     ·exact a3 i j (by omega) b
    have eqs:EqA lt p 0 m:=λi j _ b1 _ b2 =>
     o.tr _ _ _ (o.tr _ _ _ (le j (m-1) (by omega) (by omega)) c) (le 0 i (Nat.zero_le _) b1)
    have d:DnA lt p m:=λi j a b=>eqs i j (by omega) (by omega) (by omega) b
    have d1:=d.succ o a1 (o.as _ _ l)
    have d2:DnA lt (kas_rev p 0 m) (m+1):=d1.eqv o (ZeY (by omega) eqs o.ir)
    obtain ⟨m',p',e',b1,b2,b3,b4,b5⟩:=Zc3 o (p:=kas_rev p 0 m) (n:=m) (nrem:=n) a1 mn (by rw [rev_size];omega) d2
    exact ⟨m',p',e',b1.trans rev_size,b2.trans rev_perm,b3,b4,b5⟩
  ·rw [if_neg y]
   obtain rfl:m=1:=by omega
   have d1:DnA lt p (1+1):=DnA.succ o (λi j a b=>by omega) (Nat.le_refl _) (o.as _ _ l)
   exact Zc3 o (p:=p) (n:=1) (nrem:=n) (Nat.le_refl _) mn hs d1
theorem ZdQ (o:Ord lt) {p:Array Nat} {k:Nat} (up:UpA lt p k):∀ f l r,l<=r->r<=k->r-l<=f->(∀ i,i<l->lt (p.getD k 0) (p.getD i 0)=false)->(∀ i,r<=i->i<k->lt (p.getD k 0) (p.getD i 0)=true) ->
  ∃ L,ansd lt (kas_place p k f l r)=L/\L<=k/\(∀ i,i<L->lt (p.getD k 0) (p.getD i 0)=false)/\∀ i,L<=i->i<k->lt (p.getD k 0) (p.getD i 0)=true
 |0,l,r,h1,h2,h3,a,b=>by
  obtain rfl:l=r:=by omega
  exact ⟨l,rfl,h2,a,b⟩
 |f+1,l,r,h1,h2,h3,a,b=>by
  rw [kas_place]
  by_cases c:l ≥ r
  ·rw [if_pos c]
   obtain rfl:l=r:=by omega
   exact ⟨l,rfl,h2,a,b⟩
  ·rw [if_neg c]
   simp only [ansd]
   have le:∀ i j,i<=j->j<k->lt (p.getD j 0) (p.getD i 0)=false:=λi j a b=>by
    by_cases e:i=j
    ·rw [e];exact o.ir _
    ·exact up i j (by omega) b
   cases d:lt (p.getD k 0) (p.getD ((l+r) / 2) 0) with
   |true =>
    simp only [if_true]
    refine ZdQ o up f l _ (by omega) (by omega) (by omega) a λi h4 h5=>?_
    cases z:lt (p.getD k 0) (p.getD i 0) with
    |true=>rfl
    |false =>
     have:=o.tr _ _ _ (le ((l+r) / 2) i h4 h5) z
     rw [d] at this;cases this
   |false =>
    simp only [Bool.false_eq_true,if_false]
    exact ZdQ o up f _ r (by omega) h2 (by omega) (λi h4=>o.tr _ _ _ (le i ((l+r) / 2) (by omega) (by omega)) d) b
theorem ZkZ {p:Array Nat} {k d:Nat} (hk:k<p.size) (hd:d<=k) (t:Nat):(bubble p k d).getD t 0=if t=k-d then p.getD k 0 else if k-d<t/\t<=k then p.getD (t-1) 0 else p.getD t 0:=by
 have h:=getElem?_bubble (xs:=p) hk d hd t
 have g:∀ (q:Array Nat) t,q.getD t 0=(q[t]?).getD 0:=λq t=>by simp [Array.getD_eq_getD_getElem?]
 rw [g,g,g,g,h]
 split
 ·rfl
 ·split<;>rfl
theorem ZjK (o:Ord lt):∀ f (p:Array Nat) k,k+f=p.size->UpA lt p k->∃ p',ansd lt (kas_bin f p k)=p'/\p'.size=p.size/\p'.Perm p/\UpA lt p' p.size
 |0,p,k,hs,h=>⟨p,rfl,rfl,Array.Perm.refl _,by rw [<- hs];exact h⟩
 |f+1,p,k,hs,h=>by
  obtain ⟨L,e,l1,l2,l3⟩:=ZdQ o h k 0 k (Nat.zero_le _) (Nat.le_refl _) (by omega) (λi z=>by omega) (λi z1 z2=>by omega)
  rw [kas_bin,Zbx,e]
  have hk:k<p.size:=by omega
  have g:=ZkZ hk (show k-L<=k by omega)
  have ek:k-(k-L)=L:=by omega
  rw [ek] at g
  have u:UpA lt (bubble p k (k-L)) (k+1):=λi j hij hj=>by
   have gi:=g i
   have gj:=g j
   by_cases z1:i=L
   ·rw [if_pos z1] at gi
    rw [if_neg (by omega),if_pos (by omega)] at gj
    rw [gi,gj]
    exact o.as _ _ (l3 (j-1) (by omega) (by omega))
   ·rw [if_neg z1] at gi
    by_cases z2:L<i
    ·rw [if_pos (by omega)] at gi
     rw [if_neg (by omega),if_pos (by omega)] at gj
     rw [gi,gj]
     exact h (i-1) (j-1) (by omega) (by omega)
    ·rw [if_neg (by omega)] at gi
     by_cases z3:j=L
     ·rw [if_pos z3] at gj
      rw [gi,gj]
      exact l2 i (by omega)
     ·rw [if_neg z3] at gj
      by_cases z4:L<j
      ·rw [if_pos (by omega)] at gj
       rw [gi,gj]
       exact h i (j-1) (by omega) (by omega)
      ·rw [if_neg (by omega)] at gj
       rw [gi,gj]
       exact h i j hij (by omega)
  obtain ⟨p',e',a1,a2,a3⟩:=ZjK o f (bubble p k (k-L)) (k+1) (by rw [bubble_size];omega) u
  rw [bubble_size] at a1 a3
  exact ⟨p',e',a1,a2.trans (bubble_perm _ _ _),a3⟩
theorem Zkg (o:Ord lt) {n:Nat} (h1:1<=n):∃ p,ansd lt (kas_sort n)=p/\p.size=n/\p.Perm (List.toArray (List.range n))/\UpA lt p n:=by
 have sz:(List.toArray (List.range n)).size=n:=by simp
 obtain ⟨m,p,e,a1,a2,a3,a4,a5⟩:=ZiM o (p:=List.toArray (List.range n)) h1 (by rw [sz];exact Nat.le_refl _)
 rw [sz] at a1
 rw [kas_sort,Zbx,e]
 by_cases z:m<n
 ·simp only [if_pos z]
  have em:max m 1=m:=by omega
  rw [em]
  obtain ⟨p',e',b1,b2,b3⟩:=ZjK o (n-m) p m (by omega) a5
  rw [a1] at b1 b3
  exact ⟨p',e',b1,b2.trans a2,b3⟩
 ·simp only [if_neg z]
  obtain rfl:m=n:=by omega
  exact ⟨p,rfl,a1,a2,a5⟩
end
end L2
namespace L2
open PySem PySem.Spec PyProof.Rows
def Itv (K:PySem.W.Frag) (a:Addr) (xs:List V):It :=
 ⟨λi H=>SqL K H a xs/\i<xs.length,λi H v H'=>H'=H/\xs[xs.length-1-i]?=some v,λi _=>i=xs.length⟩
theorem Ziz {P:Program} {w:World} {K:PySem.W.Frag} {tg:Expr} (a it:Addr) (xs:List V):Turn P w K tg (Itv K a xs) [it] it (λi h=>h.IsRevIter it a ((xs.length:Int)-1-i)) where
 mem:=by simp
 obj:=λi h st b hb=>by
  have e:b=it:=by simpa using hb
  subst e
  obtain ⟨o,e,c,d⟩:=st
  exact ⟨o,e,λv z=>by rw [d] at z;cases z⟩
 keep:=λi h h' st k=>st.at λo e=>k it (by simp) o e
 item:=by
  intro X hP hw hK hc i pins s σ H E I hf st hg
  subst hP hw hK
  obtain ⟨hq,hi⟩:=hg
  have hx:xs[xs.length-1-i]?=some xs[xs.length-1-i]:=by rw [List.getElem?_eq_getElem]
  obtain ⟨its,rv,p,hz⟩:=I.list hq
  obtain ⟨u,hu,ru⟩:=rv.get hx
  obtain ⟨f0,f1,f2,f3,f4,f5⟩:=hf it (by simp)
  have e1:((xs.length:Int)-1-i)=((xs.length-1-i:Nat):Int):=by omega
  rw [e1] at st
  refine wpAny_pyNext_rev_item st p.isList (x:=u) (by simpa using hu) λh' st' sb=>?_
  have I1:Inv X pins σ H { s with heap:=h' }:=I.turned (t':=s.toks) (λb o hb e=>(sb.2 b hb).trans e) f0 f1 f3 f4 f5
  obtain ⟨o,e,c,d⟩:=id st'
  have e2:((xs.length:Int)-1-((i+1:Nat):Int))=((xs.length-1-i:Nat):Int)-1:=by omega
  exact ⟨u,rfl,ZhW (s:={ s with heap:=h' }) e c d (by decide) ⟨_,H,I1,ru,⟨rfl,hx⟩,by rw [e2];exact st',λb hb=>(hf b hb).1⟩⟩
 done:=by
  intro X hP hw hK hc i pins s σ H E I hf st hg
  subst hP hw hK
  have hg':i=xs.length:=hg
  obtain ⟨f0,f1,f2,f3,f4,f5⟩:=hf it (by simp)
  have e1:((xs.length:Int)-1-i)=-1:=by omega
  rw [e1] at st
  exact wpAny_pyNext_rev_end (I.ok.hd hc) st λh' eb=>⟨rfl,I.turned (t':=s.toks) (λb o hb e=>eb b o hb e) f0 f1 f3 f4 f5⟩
 self:=λ_ _ _ _ _ st h=>wpAny_pyIter_revIter st h
def iRev (K:PySem.W.Frag) (ta:TA):TI:=λσ H R=>ta σ H λvs H1=>∃ (a:Addr) (xs:List V),vs=[.ref a]/\SqL K H1 a xs/\R (Itv K a xs) H1
theorem Zlm {X:Cx} {tg a:Expr} {ta:TA} {p pos:Pos} (hg:Gl X "reversed") (hm:X.mg "reversed"=none) (ha:PA X [a] ta) (hs:starEach [a] X.env=[(false,eval a X.env)]:=by rfl):PI X tg (.Call (.Name "reversed" p) [a] [] pos) (iRev X.K ta):=by
 intro pins s σ H R I h
 refine Call_ (ZdA I hg hm boot_reversed (PyProof.Rows.callWith_type1 (thn (ha pos pins s σ H _ I h) λus s1 ⟨vs,H1,I1,r1,q1⟩=>?_) hs rfl))
 obtain ⟨l,xs,q0,hq,q⟩:=q1
 subst q0
 cases r1 with
 |cons r rr =>
  cases rr
  cases r
  obtain ⟨its,rv,pl,hz⟩:=I1.list hq
  have hl:=rv.length
  refine call_reversed_list pl.isList (wpAny_pyIter_revIter (it:=s1.heap.objs.size) (l:=l) (i:=(its.toArray.size:Int)-1) ⟨_,Heap.get?_push_size _ rfl,rfl,rfl⟩ ?_)
  refine ⟨s1.heap.objs.size,[s1.heap.objs.size],_,_,H1,rfl,I1.kept (t':=s1.toks) λb o e=>Heap.get?_push_of_some _ e,Ziz l _ xs,⟨_,Heap.get?_push_size _ rfl,rfl,?_⟩,λb hb=>?_,q⟩
  ·show Data.fields #[.ref l,rawInt ((its.toArray.size:Int)-1)]=_
   rw [List.size_toArray,<- hl];simp
  ·have e:b=s1.heap.objs.size:=by simpa using hb
   subst e
   exact I1.fpOk (Nat.le_refl _) (I1.hok.fresh (Nat.le_refl _))
theorem ZkT {K:PySem.W.Frag} {a:Addr} {xs:List V} {g:TG} {tb:TS} {D:Ends} {σ:St} {H:Hp} (Pv:Nat->St->Hp->Prop) (h0:Pv 0 σ H) (hl:∀ i σ H,i<=xs.length->Pv i σ H->SqL K H a xs)
  (hs:∀ i x σ H,xs[xs.length-1-i]?=some x->i<xs.length->Pv i σ H->g x σ H λσ2 H2=>tb { D with nx:=Pv (i+1),ct:=Pv (i+1),bk:=D.nx } σ2 H2) (hd:∀ σ H,Pv xs.length σ H->D.nx σ H) :
  ∃ W:Nat->Nat->St->Hp->Prop,(∃ m,W 0 m σ H)/\∀ i m σ H,W i m σ H ->
   ((Itv K a xs).stop i H/\D.nx σ H)\/((Itv K a xs).go i H/\∃ N:St->Hp->Prop,(∀ σ' H',N σ' H'->∃ m',m'<m/\W (i+1) m' σ' H')/\∀ x H',(Itv K a xs).yld i H x H'->g x σ H' λσ2 H2=>tb { D with nx:=N,ct:=N,bk:=D.nx } σ2 H2):=by
 refine ⟨λi m σ H=>m=xs.length-i/\i<=xs.length/\Pv i σ H,⟨xs.length,by simp,Nat.zero_le _,h0⟩,?_⟩
 rintro i m σ H ⟨rfl,hi,p⟩
 have q:=hl i σ H hi p
 by_cases hlt:i<xs.length
 ·refine .inr ⟨⟨q,hlt⟩,Pv (i+1),λσ' H' p'=>⟨xs.length-(i+1),by omega,rfl,hlt,p'⟩,λx H' y=>?_⟩
  obtain ⟨e,y⟩:=y
  subst e
  exact hs i x σ _ y hlt p
 ·have e:i=xs.length:=by omega
  exact .inl ⟨e,hd σ H (by rw [<- e];exact p)⟩
end L2
namespace L2
open PySem PySem.Spec PyProof.Rows PySem.W
theorem Zmb (kz:Nat->Int×Int):Ord λi j=>ltP (kz i) (kz j):=by
 refine ⟨λi j k h1 h2=>?_,λi j h=>?_⟩
 ·generalize kz i=a at *
  generalize kz j=b at *
  generalize kz k=c at *
  unfold ltP at *
  repeat' split at h1
  all_goals repeat' split at h2
  all_goals repeat' split
  all_goals simp_all
  all_goals omega
 ·generalize kz i=a at *
  generalize kz j=b at *
  unfold ltP at *
  repeat' split at h
  all_goals repeat' split
  all_goals simp_all
  all_goals omega
section
variable {P:Program} {w:World} {A:Around} {E:Value->Shared->Prop} {s:Shared}
theorem ZeT {a:Addr} {vs:List Value} {n0:Nat} {kz:Nat->Int×Int} {Q:PySem.Fin->Shared->Prop} (ho:s.heap.get? a=some (seqObj "list" vs.toArray n0)) (h64:vs.length<64) (hp:∀ i,i<vs.length->PairV s.heap (vs.getD i Value.none) (kz i).1 (kz i).2)
  (done:∀ (p:List Nat) e h2,p.Perm (List.range vs.length)->(p.Pairwise λi j=>ltP (kz j) (kz i)=false)->(∀ b o,b≠a->s.heap.get? b=some o->h2.get? b=some o)->h2.get? a=some (seqObj "list" (List.toArray (p.map λi=>vs.getD i Value.none)) e)->Q (.done (.ret .none)) { s with heap:=h2 }) :
  wpAny (model P w) A (Builtin.«list.sort» ⟨[.ref a],[]⟩) Q E s:=by
 have b1:=Heap.SameBut.update s.heap a (Obj.mapSeq λ_=>(#[]:Array Value))
 obtain ⟨e1,o1⟩:∃ e1,(s.heap.update a (Obj.mapSeq λ_=>(#[]:Array Value))).get? a=some (seqObj "list" #[] e1):=⟨_,get?_update_seq ho λ_=>#[]⟩
 rw [list_sort_plain]
 refine wpAny_bind (listItems_at ho rfl (wpAny_bind (listUpdate_at ho rfl ?_ (by rw [List.size_toArray,sizeLine_eq];omega) (Nat.zero_le _))))
 refine wpAny_bind (seqEpoch_at o1 rfl (wpAny_bind (wpAny_newTuple (wpAny_bind (wpAny_newList (wpAny_holding ?_) (Nat.zero_le _))) (by show vs.length<=_;rw [sizeLine_eq];omega))))
 have kp0:∀ b o,b≠a->s.heap.get? b=some o->(((s.heap.update a (Obj.mapSeq λ_=>(#[]:Array Value))).push (seqObj "tuple" vs.toArray 0)).push (seqObj "list" #[] 0)).get? b=some o:=λb o n q=>Heap.get?_push_of_some _ (Heap.get?_push_of_some _ ((b1.2 b n).trans q))
 have oa0:(((s.heap.update a (Obj.mapSeq λ_=>(#[]:Array Value))).push (seqObj "tuple" vs.toArray 0)).push (seqObj "list" #[] 0)).get? a=some (seqObj "list" #[] e1):=Heap.get?_push_of_some _ (Heap.get?_push_of_some _ o1)
 show wpAny (model P w) A _ Q E { s with heap:=((s.heap.update a (Obj.mapSeq λ_=>(#[]:Array Value))).push (seqObj "tuple" vs.toArray 0)).push (seqObj "list" #[] 0) }
 generalize ((s.heap.update a (Obj.mapSeq λ_=>(#[]:Array Value))).push (seqObj "tuple" vs.toArray 0)).push (seqObj "list" #[] 0)=h0 at kp0 oa0 |-
 have hk:∀ i,i<vs.length->PairV h0 (vs.getD i Value.none) (kz i).1 (kz i).2:=λi hi=>by
  refine (hp i hi).keep λb o ⟨t,u,m,_,hc⟩ q=>kp0 b o (λz=>?_) q
  subst z
  rw [ho] at q
  obtain rfl:=Option.some.inj q
  exact absurd hc (by show ¬ Value.type "list"=Value.type "tuple";decide)
 have hp0:∀ v∈vs,∃ x y,PairV h0 v x y:=λv hv=>by
  obtain ⟨i,hi,rfl⟩:=List.getElem_of_mem hv
  have:=hk i hi
  rw [List.getD_eq_getElem?_getD,List.getElem?_eq_getElem hi] at this
  exact ⟨_,_,this⟩
 have tail:∀ (p:List Nat),p.Perm (List.range vs.length)->(p.Pairwise λi j=>ltP (kz j) (kz i)=false)->wpAny (model P w) A (do
   let touched:=(<- seqEpoch a) != e1
   Builtin.List.listUpdate (.ref a) λ_=>List.toArray (p.map λi=>vs.getD i Value.none)
   if touched then rule "list.sort.modified";raiseError "ValueError" "list modified during sort"
   ret .none) Q E { s with heap:=h0 }:=by
  intro p h1 h2
  refine wpAny_bind (seqEpoch_at oa0 rfl (wpAny_bind (listUpdate_at oa0 rfl ?_ (Nat.zero_le _) (by show (List.toArray _).size<=_;rw [List.size_toArray,List.length_map,h1.length_eq,List.length_range,sizeLine_eq];omega))))
  simp only [bne_self_eq_false,Bool.false_eq_true,if_false]
  have b2:=Heap.SameBut.update h0 a (Obj.mapSeq λ_=>List.toArray (p.map λi=>vs.getD i Value.none))
  exact wpAny_pure (done p _ _ h1 h2 (λb o n q=>(b2.2 b n).trans (kp0 b o n q)) (get?_update_seq oa0 λ_=>List.toArray (p.map λi=>vs.getD i Value.none)))
 dsimp only
 by_cases one:vs.toArray.size<2
 ·rw [if_pos one,if_pos one]
  refine wpAny_bind (wpAny_pure (wpAny_bind (wpAny_pure ?_)))
  have hl:vs.length<2:=by simpa using one
  have es:(arrOf (SortSt.mk' general' (vs.toArray.zip vs.toArray) #[] 7 none)).map (·.2)=List.toArray ((List.range vs.length).map λi=>vs.getD i Value.none):=by
   clear tail hp0 done hp ho h64 one
   match vs,hl with
   |[],_=>simp [arrOf,SortSt.mk']
   |[v],_=>simp [arrOf,SortSt.mk']
  dsimp only
  rw [es]
  exact tail (List.range vs.length) (List.Perm.refl _) (by
   clear tail es hk hp hp0 done ho h64 one
   match vs,hl with
   |[],_=>exact List.Pairwise.nil
   |[v],_=>exact List.pairwise_singleton _ _)
 ·rw [if_neg one,if_neg one]
  have n2:2<=vs.length:=by simpa using one
  obtain ⟨fs,k1,k2,k3⟩:=ZgN hp0
  refine wpAny_bind (kat_kind (s:={ s with heap:=h0 }) (T:=.type "int") k1 (by omega) (λv hv=>?_) rfl ?_)
  ·obtain ⟨x,t,rfl⟩:=k3 v hv
   intro A Q E s _ q
   exact wpAny_typeOf (typeIs_int s x t) q
  have al:=Zga (lt:=λi j=>ltP (kz i) (kz j)) _ (Zel (n:=vs.length) (by omega))
  obtain ⟨pa,epa,sz,pm,up⟩:=Zkg (Zmb kz) (n:=vs.length) (by omega)
  have pw:pa.toList.Pairwise λi j=>ltP (kz j) (kz i)=false:=by
   rw [List.pairwise_iff_getElem]
   intro i j hi hj hij
   have:=up i j hij (by simpa [sz] using hj)
   have hi':i<pa.size:=by simpa using hi
   have hj':j<pa.size:=by simpa using hj
   have gi:pa.getD i 0=pa[i]:=by simp [Array.getD,hi']
   have gj:pa.getD j 0=pa[j]:=by simp [Array.getD,hj']
   have this:ltP (kz (pa.getD j 0)) (kz (pa.getD i 0))=false:=this
   rw [gi,gj] at this
   simpa using this
  have pm':pa.toList.Perm (List.range vs.length):=by simpa using pm.toList
  refine wpAny_bind (wpAny_mono (kat_run (ks:=vs) (vs:=vs) (κ:=tuples' true) (Q:=λst' s'=>s'={ s with heap:=h0 }/\failedOf st'=none/\∃ p:List Nat,p.Perm (List.range vs.length)/\(p.Pairwise λi j=>ltP (kz j) (kz i)=false)/\(arrOf st').map (·.2)=List.toArray (p.map λi=>vs.getD i Value.none))
   (G:=λp s'=>s'={ s with heap:=h0 }/\p=pa) rfl n2 h64 (λp st' s' hs ha hf ⟨es,ep⟩=>⟨es,hf,p.toList,by rw [ep];exact pm',by rw [ep];exact pw,kat_snds rfl ha⟩)
   (Zf9 (n:=vs.length) (P:=AllLt vs.length) (lt:=λi j=>ltP (kz i) (kz j)) (λi j C hi hj hC=>ZkF (hk i hi) (hk j hj) hC) _ (Zel (by omega)) ⟨rfl,epa⟩)) ?_ λ_ _ x=>x)
  rintro ⟨⟨⟩,st'⟩ s' ⟨rfl,hf,p,hl,ha,hm⟩
  dsimp only
  rw [hm,hf]
  exact tail p hl ha
theorem ZdP {l:Addr} {vs:List Value} {kz:Nat->Int×Int} {Q:Value->Shared->Prop} (hl:s.heap.IsList l vs.toArray) (h64:vs.length<64) (hp:∀ i,i<vs.length->PairV s.heap (vs.getD i Value.none) (kz i).1 (kz i).2)
  (done:∀ D (p:List Nat) e h2,s.heap.objs.size<=D->p.Perm (List.range vs.length)->(p.Pairwise λi j=>ltP (kz j) (kz i)=false)->(∀ b o,s.heap.get? b=some o->h2.get? b=some o)->h2.get? D=some (seqObj "list" (List.toArray (p.map λi=>vs.getD i Value.none)) e)->Q (.ref D) { s with heap:=h2 }) :
  wpAny (model P w) A (call (.builtin "sorted") [.ref l]) Q E s:=by
 refine Calls.call_function_entry kind_sorted plain_sorted entry_sorted (args_sorted1 _) ?_
 unfold Builtin.«sorted»
 refine wpAny_bind (m:=checkCount "sorted" 1 1 _) (wpAny_pure (wpAny_bind (collect_list hl (wpAny_bind (wpAny_newList ?_ (by rw [sizeLine_eq];omega))) (by rw [sizeLine_eq];omega))))
 have sz:((s.heap.push (seqObj "list" #[] 0)).update s.heap.objs.size (Obj.mapSeq (·++vs.toArray))).objs.size=s.heap.objs.size+1:=by rw [Heap.size_update,size_push']
 have oD:(((s.heap.push (seqObj "list" #[] 0)).update s.heap.objs.size (Obj.mapSeq (·++vs.toArray))).push (seqObj "list" vs.toArray 0)).get? (s.heap.objs.size+1)=some (seqObj "list" vs.toArray 0):=by rw [<- sz];exact Heap.get?_push_size _ rfl
 have kp:∀ b o,s.heap.get? b=some o->(((s.heap.push (seqObj "list" #[] 0)).update s.heap.objs.size (Obj.mapSeq (·++vs.toArray))).push (seqObj "list" vs.toArray 0)).get? b=some o:=λb o q=>by
  have lt:b<s.heap.objs.size:=Heap.lt_size q
  refine Heap.get?_push_of_some _ ?_
  rw [Heap.get?_update_ne _ _ _ _ (Nat.ne_of_lt lt)]
  exact Heap.get?_push_of_some _ q
 have old:∀ b o,s.heap.get? b=some o->b≠s.heap.objs.size+1:=λb o q=>Nat.ne_of_lt (Nat.lt_succ_of_lt (Heap.lt_size q))
 show wpAny _ _ _ _ _ { s with heap:=((s.heap.push (seqObj "list" #[] 0)).update s.heap.objs.size (Obj.mapSeq (·++vs.toArray))).push (seqObj "list" vs.toArray 0) }
 rw [sz]
 have hD:s.heap.objs.size<=s.heap.objs.size+1:=Nat.le_succ _
 generalize s.heap.objs.size+1=D at oD old hD |-
 generalize ((s.heap.push (seqObj "list" #[] 0)).update s.heap.objs.size (Obj.mapSeq (·++vs.toArray))).push (seqObj "list" vs.toArray 0)=h0 at oD kp |-
 refine wpAny_bind (wpAny_holding (wpAny_call_entry slot_list_sort ⟨_,oD,rfl⟩ entry_list_sort (ZeT (kz:=kz) (s:={ s with heap:=h0 }) oD h64 (λi hi=>?_) λp e h2 h1 hlt k o2=>⟨_,rfl,wpAny_pure ⟨_,rfl,done D p e h2 hD h1 hlt (λb o q=>k b o (old b o q) (kp b o q)) o2⟩⟩) (args_list_sort _)))
 exact (hp i hi).keep λb o _ z=>kp b o z
end
theorem Zbz {X:Cx}:Zct X (.builtin "sorted") (λxs H Q=>∃ (l:Addr) (ps:List Addr) (ks:List (Int×Int)),xs=[.ref l]/\H l=some (.lst (ps.map V.ref))/\ps.length<64/\ks.length=ps.length/\(∀ (i:Nat) p k,ps[i]?=some p->ks[i]?=some k->H p=some (.tup [.int k.1,.int k.2])) /\
  ∀ r (qs:List Addr) (ks':List (Int×Int)),H r=none->ks'.Perm ks->(ks'.Pairwise λa b=>ltP b a=false)->qs.length=ks'.length->(∀ (i:Nat) p k,qs[i]?=some p->ks'[i]?=some k->H p=some (.tup [.int k.1,.int k.2]))->Q (.ref r) (upd H r (.lst (qs.map V.ref)))):=by
 intro pins s σ H xs us Q I r h
 obtain ⟨l,ps,ks,rfl,hl,h64,lk,hp,q⟩:=h
 obtain ⟨u,rfl,rx⟩:=Zc1 r
 cases rx
 obtain ⟨z,its,n,rv,lv,e⟩:=I.lstM hl
 obtain rfl:=Zb5 rv
 have at_i:∀ i,i<ps.length->ps[i]?=some (ps.getD i 0)/\ks[i]?=some (ks.getD i (0,0)):=λi hi=>by
  simp [hi,lk]
 refine ZdP (kz:=λi=>ks.getD i (0,0)) ⟨_,e,rfl,_,rfl⟩ (by simpa using h64) (λi hi=>?_) λD p c h2 hD pm pw kp at_D=>?_
 ·have hi':i<ps.length:=by simpa using hi
  obtain ⟨a1,a2⟩:=at_i i hi'
  have hx:=hp i _ _ a1 a2
  obtain ⟨_,us,ru,o,g1,g2,m,g3⟩:=(show ObjOk X.prog X.w H s.heap (ps.getD i 0) (.tup [.int (ks.getD i (0,0)).1,.int (ks.getD i (0,0)).2]) from I.hok _ _ hx)
  obtain ⟨k1,k2,rfl,⟨t,rfl⟩,⟨t',rfl⟩⟩:=ZgI ru
  exact ⟨ps.getD i 0,o,t,t',m,by simp [hi'],g1,g2,g3⟩
 ·have lp:p.length=ps.length:=by simpa using pm.length_eq
  have hlt:∀ i∈p,i<ps.length:=λi hi=>by simpa using pm.subset hi
  have e1:(p.map λi=>(ps.map Value.ref).getD i Value.none)=(p.map λi=>ps.getD i 0).map Value.ref:=by
   rw [List.map_map]
   refine List.map_congr_left λi hi=>?_
   have:i<ps.length:=hlt i hi
   simp [this]
  have mkV:∀ ps:List Addr,Vals (ps.map V.ref) (ps.map Value.ref):=λps=>by
   induction ps with
   |nil=>exact .nil
   |cons p r ih=>exact .cons rfl ih
  rw [e1] at at_D
  refine ⟨.ref D,_,I.laid (a:=D) (o:=.lst ((p.map λi=>ps.getD i 0).map V.ref)) (t':=s.toks) kp hD ⟨by simp only [List.length_map] at z |-;omega,_,c,mkV _,at_D⟩,rfl,q _ (p.map λi=>ps.getD i 0) (p.map λi=>ks.getD i (0,0)) (I.hok.fresh hD) ?_ ?_ (by simp) λi a k ha hk=>?_⟩
  ·have:(List.range ps.length).map (λi=>ks.getD i (0,0))=ks:=by
    refine List.ext_getElem (by simp [lk]) λi h1 h2=>?_
    simp [h2]
   have pm2:p.Perm (List.range ps.length):=by simpa using pm
   have:=pm2.map (λi=>ks.getD i (0,0))
   rw [‹(List.range ps.length).map (λi=>ks.getD i (0,0))=ks›] at this
   exact this
  ·rw [List.pairwise_map]
   exact pw
  ·rw [List.getElem?_map] at ha hk
   cases ep:p[i]? with
   |none=>rw [ep] at ha;cases ha
   |some j =>
    rw [ep] at ha hk
    cases ha
    cases hk
    obtain ⟨a1,a2⟩:=at_i j (hlt j (List.mem_of_getElem? ep))
    exact hp j _ _ a1 a2
theorem ZlI {A:Around} {k:Nat} (hr:Room k A) (hk:50<=k):A.units+1000<cLine:=Nat.lt_of_le_of_lt (by omega) hr.un
end L2
namespace L2
open PySem PySem.Spec PyProof.Rows
def Zli (K:PySem.W.Frag):R2:=λx y H Q=>∃ a b xs ys n e,x=.ref a/\y=.ref b/\SqL K H a xs/\SqL K H b ys/\n<=900/\EqIt K H n xs ys e/\Q (.bl (true^^(decide (xs.length=ys.length)&&(List.range xs.length).all e))) H
theorem Zky {X:Cx} (hu:X.A.units+1000<cLine):OpR X (compareOp .NotEq) (Zli X.K):=by
 intro pins s σ H x y v u Q I rx ry h
 obtain ⟨a,b,xs,ys,n,e,rfl,rfl,hx,hy,hn,he,q⟩:=h
 cases rx;cases ry
 obtain ⟨ia,ra,pa,_⟩:=I.list hx
 obtain ⟨ib,rb,pb,_⟩:=I.list hy
 have la:=ra.length
 have lb:=rb.length
 rw [Bool.true_xor] at q
 by_cases hl:xs.length=ys.length
 ·rw [decide_eq_true hl,Bool.true_and] at q
  refine SeqAt.RcNeAt.lists (e:=e) pa.isList pb.isList (by rw [List.size_toArray,List.size_toArray];omega) (by omega) (λj h1 h2=>?_) _ _ _ _ ⟨.bl _,H,I,rfl,?_⟩
  ·obtain ⟨x,ex,rx⟩:=Za7 ra h1
   obtain ⟨y,ey,ry⟩:=Za7 rb h2
   exact (he j x y ex ey).at rfl I rx ry (by show X.A.units+1+n<cLine;omega)
  ·rw [List.size_toArray,<- la];exact q
 ·rw [decide_eq_false hl,Bool.false_and] at q
  exact SeqAt.RcNeAt.lists_lengths pa.isList pb.isList (by rw [List.size_toArray,List.size_toArray];simp;omega) (by omega) _ _ _ _ ⟨.bl _,H,I,rfl,q⟩
theorem Zep {X:Cx} {K:PySem.W.Frag} (h:X.K=K):OpR X (binaryOp .Add) (ZfL K):=by subst h;exact Zbo
end L2
namespace K61
open PySem L2
structure OvF (K:PySem.W.Frag) (Ov Wa Bc Nw Bd Br Bp Bb:Addr):Prop where
 ec:ExcCls K Ov
 fo:PySem.W.findObj K Ov none "__class__"=some (.bind (.builtin "getset_descriptor.__get__") (.builtin "object.__class__"))
 ie:Zl5 K Ov
 mw:PySem.W.mroIn K Ov (.ref Wa)=some true
 k1:PySem.W.kitOne K (.ref Ov) (.ref Bc)=some false
 k2:PySem.W.kitOne K (.ref Ov) (.ref Nw)=some false
 k3:PySem.W.kitOne K (.ref Ov) (.ref Bd)=some false
 k4:PySem.W.kitOne K (.ref Ov) (.ref Br)=some false
 k5:PySem.W.kitOne K (.ref Ov) (.ref Bp)=some false
 k6:PySem.W.kitOne K (.ref Ov) (.ref Bb)=some false
 ko:PySem.W.kitOne K (.ref Ov) (.ref Ov)=some true
 kv:PySem.W.kitOne K (.ref Ov) (.type "ValueError")=some true
theorem Zmf {K:PySem.W.Frag} {C:Addr} {cd:ClassData} (hc:PySem.W.clsIn K C=some cd) (ha:PySem.W.findIn K (.ref C) "__class__"=some (some (.builtin "object.__class__"))) (hg:PySem.W.specialIn K (.builtin "object.__class__") "__get__"=some (some (.builtin "getset_descriptor.__get__"))) (ht:PySem.W.takesIn K (.builtin "object.__class__")=some true):PySem.W.findObj K C none "__class__"=some (.bind (.builtin "getset_descriptor.__get__") (.builtin "object.__class__")):=by
 unfold PySem.W.findObj
 rw [hc,Option.bind_some,ha,Option.bind_some]
 simp only [hg,ht,Option.bind_some]

def top (i:Nat):Stmt:=PySem.Challenge.pw_nightwatch_k61_refused.main.body.getD i (.Pass ⟨0,0,0,0⟩)

set_option genInjectivity false in
structure Tx (K:PySem.W.Frag) (mg:Str->Option Value) where
 d_l_mixed:Def K mg "_law_mixed" (top 15) ["_law_x"]
 d_l_stream:Def K mg "_law_stream" (top 16) ["_law_cell", "_law_many"]
 d_l_model:Def K mg "_law_model" (top 17) []
 d_l_alive:Def K mg "_law_alive" (top 18) ["_law_s", "_law_place_here"]
 d_l_marks:Def K mg "_law_marks" (top 19) ["_law_s", "_law_place_here"]
 d_l_outcome:Def K mg "_law_outcome" (top 20) ["_law_x"]
 d_l_place:Def K mg "_law_place" (top 21) ["_law_s", "_law_x"]
 d_l_deed:Def K mg "_law_deed" (top 22) ["_law_s", "_law_x"]
 d_l_due_end:Def K mg "_law_due_end" (top 24) ["_law_s", "_law_who", "_law_outcome_here"]
 d_l_due:Def K mg "_law_due" (top 23) ["_law_s", "_law_deed_here"]
 d_l_called:Def K mg "_law_called" (top 25) ["_law_groups", "_law_deed_here"]
 d_l_alone:Def K mg "_law_alone" (top 26) ["_law_e"]
 d_l_told:Def K mg "_law_told" (top 27) ["_law_groups", "_law_deed_here"]
 d_l_cell_at:Def K mg "_law_cell_at" (top 14) ["_law_script", "_law_k"]
 d_l_ask:Def K mg "_law_ask" (top 28) ["_law_groups", "_law_deed_here"]
 d_l_over:Def K mg "_law_over" (top 29) ["_law_groups", "_law_deed_here"]
 d_l_wrong:Def K mg "_law_wrong" (top 30) ["_law_s", "_law_x"]
 d_l_seen:Def K mg "_law_seen" (top 31) ["_law_s", "_law_groups"]
 C_Group:Addr
 k_Group:Cls K C_Group
 h_Group:mg "Group"=some (.ref C_Group)
 n_Group_off:NoAttr K C_Group "off"
 n_Group_faults:NoAttr K C_Group "faults"
 m_Group___init__:MDef K C_Group "__init__" "Group.__init__" (Zal (top 10) 0) ["self"]
 M_Group:Mk K C_Group m_Group___init__.f
 C_Member:Addr
 k_Member:Cls K C_Member
 h_Member:mg "Member"=some (.ref C_Member)
 n_Member_home:NoAttr K C_Member "home"
 n_Member_label:NoAttr K C_Member "label"
 n_Member_result:NoAttr K C_Member "result"
 m_Member___init__:MDef K C_Member "__init__" "Member.__init__" (Zal (top 11) 0) ["self", "home", "label"]
 M_Member:Mk K C_Member m_Member___init__.f
 C_Groups:Addr
 k_Groups:Cls K C_Groups
 h_Groups:mg "Groups"=some (.ref C_Groups)
 n_Groups_opened:NoAttr K C_Groups "opened"
 n_Groups_members:NoAttr K C_Groups "members"
 n_Groups_opened_ever:NoAttr K C_Groups "opened_ever"
 n_Groups_put_ever:NoAttr K C_Groups "put_ever"
 m_Groups___init__:MDef K C_Groups "__init__" "Groups.__init__" (Zal (top 12) 0) ["self"]
 m_Groups_group_at:MDef K C_Groups "group_at" "Groups.group_at" (Zal (top 12) 1) ["self", "owner", "scope"]
 m_Groups_member:MDef K C_Groups "member" "Groups.member" (Zal (top 12) 2) ["self", "who"]
 m_Groups_open_group:MDef K C_Groups "open_group" "Groups.open_group" (Zal (top 12) 3) ["self", "owner", "scope"]
 m_Groups_put_in:MDef K C_Groups "put_in" "Groups.put_in" (Zal (top 12) 4) ["self", "owner", "scope", "label", "who"]
 m_Groups_note:MDef K C_Groups "note" "Groups.note" (Zal (top 12) 5) ["self", "owner", "scope", "faults"]
 m_Groups_call_off:MDef K C_Groups "call_off" "Groups.call_off" (Zal (top 12) 6) ["self", "owner", "scope"]
 m_Groups_ended:MDef K C_Groups "ended" "Groups.ended" (Zal (top 12) 7) ["self", "who", "outcome"]
 m_Groups_alive:MDef K C_Groups "alive" "Groups.alive" (Zal (top 12) 9) ["self", "owner", "scope"]
 m_Groups_all_alive:MDef K C_Groups "all_alive" "Groups.all_alive" (Zal (top 12) 10) ["self"]
 m_Groups_is_off:MDef K C_Groups "is_off" "Groups.is_off" (Zal (top 12) 8) ["self", "owner", "scope"]
 m_Groups_faults_of:MDef K C_Groups "faults_of" "Groups.faults_of" (Zal (top 12) 11) ["self", "owner", "scope"]
 m_Groups_result_of:MDef K C_Groups "result_of" "Groups.result_of" (Zal (top 12) 13) ["self", "who"]
 m_Groups_home_of:MDef K C_Groups "home_of" "Groups.home_of" (Zal (top 12) 14) ["self", "who"]
 m_Groups_newest:MDef K C_Groups "newest" "Groups.newest" (Zal (top 12) 12) ["self", "owner", "label"]
 m_Groups_close:MDef K C_Groups "close" "Groups.close" (Zal (top 12) 15) ["self", "owner", "scope"]
 m_Groups_tree:MDef K C_Groups "tree" "Groups.tree" (Zal (top 12) 16) ["self", "who"]
 m_Groups_tree_rows:MDef K C_Groups "tree_rows" "Groups.tree_rows" (Zal (top 12) 17) ["self", "owner", "trees"]
 M_Groups:Mk K C_Groups m_Groups___init__.f
 C_BadClock:Addr
 h_BadClock:mg "BadClock"=some (.ref C_BadClock)
 C_NotWaiting:Addr
 h_NotWaiting:mg "NotWaiting"=some (.ref C_NotWaiting)
 C_BadDesk:Addr
 h_BadDesk:mg "BadDesk"=some (.ref C_BadDesk)
 C_BadRow:Addr
 h_BadRow:mg "BadRow"=some (.ref C_BadRow)
 C_BadProgram:Addr
 h_BadProgram:mg "BadProgram"=some (.ref C_BadProgram)
 C_BadBook:Addr
 h_BadBook:mg "BadBook"=some (.ref C_BadBook)
 C_Over:Addr
 x_Over:XCls K mg "Over" C_Over
 h_Over:mg "Over"=some (.ref C_Over)
 C_WatchError:Addr
 x_WatchError:XCls K mg "WatchError" C_WatchError
 h_WatchError:mg "WatchError"=some (.ref C_WatchError)
 ov:OvF K C_Over C_WatchError C_BadClock C_NotWaiting C_BadDesk C_BadRow C_BadProgram C_BadBook
 n_len:mg "len"=none
 n_sorted:mg "sorted"=none
 n_set:mg "set"=none
 n_list:mg "list"=none
 n_range:mg "range"=none
 n_enumerate:mg "enumerate"=none
 n_isinstance:mg "isinstance"=none
 n_tuple:mg "tuple"=none
 n_bool:mg "bool"=none
 n_dict:mg "dict"=none
 n_sum:mg "sum"=none
 n_max:mg "max"=none
 n_int:mg "int"=none
 n_ValueError:mg "ValueError"=none
 n_reversed:mg "reversed"=none
section
variable {P:Program} {w:World} {K:PySem.W.Frag} {mg:Str->Option Value} {base:Heap}
local macro_rules|`(tactic|walk_at $s:str)=>do
 let e<-match s.getString with
  |"sx"=>pure ""
  |"sy"=>pure "tLst tTup Zed "
  |"sw"=>pure "tLst tTup Zed tLc ZlH iStr iTup "
  |_=>Lean.Macro.throwUnsupported
 let a:=((e++"L2.start Zii Zd5 tSeq tAsg Zez tRet Zkb ZiG tIfS ZiC tB tNot tAnd tOr ZiK tOrV Zkc tOp tUn tVar tC ZiJ tNil ZiD tCB Zge ZgS tBM tBM0 ZiE ZdK tSl tIf ZiF ZiB selS Option.bind_none Option.bind_some Option.join_some if_true rI rI0 rU rEq rNe ZeZ rSlS ZdX tyV List.map_cons List.map_nil List.length_cons List.length_nil List.replicate List.cons_append List.nil_append List.append_nil Nat.reduceAdd Nat.reduceSub Nat.zero_add Nat.add_zero Nat.sub_self List.getElem?_cons_zero List.getElem?_cons_succ List.set_cons_zero List.set_cons_succ Option.some.injEq V.int.injEq V.str.injEq V.ref.injEq V.bl.injEq V.ty.injEq List.cons.injEq exists_eq_left exists_eq_left' exists_eq_right exists_and_left exists_eq and_true true_and and_self and_assoc tFld sFld ZgQ ZgR tDIn ZdL ZiS Zfu tLcI ZgP ZiI Zfv Zec").splitOn " ").toArray.map λx=>Lean.mkIdent x.toName
 `(tactic|simp only [$[$a:term],*])
seal PE PT PW PA PS PSs PG PGs PI PC PTs PO
abbrev Pl:=Int×Int
set_option genInjectivity false in
structure Ent where
 who:Int
 own:Int
 sc:Int
 lab:Str
 res:Option Addr
def Ent.dead (e:Ent):Bool:=e.res.isSome
def Ent.pl (e:Ent):Pl:=(e.own,e.sc)
def keyP (p:Pl):List Key:=[Sum.inl p.1,Sum.inl p.2]
theorem Zje {p q:Pl} (h:keyP p=keyP q):p=q:=by
 unfold keyP at h
 simp only [List.cons.injEq,Sum.inl.injEq,and_true] at h
 exact Prod.ext h.1 h.2
def Zau (os:List Pl) (es:List Ent):List Ent:=es.filter λe=>decide (e.pl∈os)
set_option genInjectivity false in
structure Gst where
 os:List Pl
 ev:List Pl
 es:List Ent
 fz:Nat
 of:Pl->Bool
 ff:Pl->List Str
structure OkS (S:Gst):Prop where
 nd:S.os.Nodup
 sub:∀ p∈S.os,p∈S.ev
 who:(S.es.map Ent.who).Nodup
 hm:∀ e∈S.es,e.pl∈S.ev
 sz:S.ev.length<=60/\S.es.length<=60/\S.os.length<=60
 fl:S.fz<=400
 fs:∀ p∈S.os,(S.ff p).length<=S.fz
def ZaJ (S:Gst) (p:Pl):List Ent:=S.es.filter λe=>decide (e.pl=p)&&!e.dead
def srt (l:List Int):List Int:=l.mergeSort λa b=>decide (a<=b)
def Zaz (S:Gst) (p:Pl):List Int:=srt ((ZaJ S p).map Ent.who)
theorem ZcS (l:List Int):(srt l).Perm l:=List.mergeSort_perm _ _
theorem Zlb (l:List Int):(srt l).Pairwise (·<=·):=by
 have:=List.pairwise_mergeSort (le:=λa b:Int=>decide (a<=b)) (by intro a b c h1 h2;simp at *;omega) (by intro a b;simp;omega) l
 exact this.imp (λh=>by simpa using h)
theorem ZfB:∀ {l m:List Int},l.Perm m->l.Pairwise (·<=·)->m.Pairwise (·<=·)->l=m
 |[],m,p,_,_=>by rw [p.nil_eq]
 |x::l,[],p,_,_=>by have:=p.length_eq;simp at this
 |x::l,y::m,p,h1,h2=>by
  rw [List.pairwise_cons] at h1 h2
  have hx:x∈y::m:=p.subset List.mem_cons_self
  have hy:y∈x::l:=p.symm.subset List.mem_cons_self
  have e:x=y:=by
   rcases List.mem_cons.mp hx with z | z
   ·exact z
   ·rcases List.mem_cons.mp hy with z' | z'
    ·exact z'.symm
    ·have a:=h2.1 x z
     have b:=h1.1 y z'
     omega
  subst e
  rw [ZfB ((List.perm_cons x).mp p) h1.2 h2.2]
theorem Zfw {ns l:List Int} (p:ns.Perm l) (so:ns.Pairwise (·<=·)):ns=srt l:=ZfB (p.trans (ZcS l).symm) so (Zlb l)
theorem ZbT (l:List Int):(srt l).length=l.length:=(ZcS l).length_eq
def setP {α:Type} (f:Pl->α) (p:Pl) (v:α):Pl->α:=λq=>if q=p then v else f q
theorem Za4 {α:Type} {f:Pl->α} {p:Pl} {v:α}:setP f p v p=v:=if_pos rfl
theorem Zbr {α:Type} {f:Pl->α} {p q:Pl} {v:α} (h:q≠p):setP f p v q=f q:=if_neg h
def ZdW (S:Gst) (p:Pl):List Pl:=if S.of p=true then [] else p::(Zaz S p).map λw=>(w,0)
def offS (S:Gst) (p:Pl):Gst:={ S with of:=setP S.of p true }
def fltS (S:Gst) (p:Pl) (l:List Str):Gst:={ S with ff:=setP S.ff p (S.ff p++l),fz:=S.fz+3 }
def kill (w:Int) (t:Addr) (es:List Ent):List Ent:=es.map λe=>if e.who=w then { e with res:=some t } else e
section
variable {w:Int} {t:Addr}
theorem Zdh (e:Ent):(if e.who=w then { e with res:=some t } else e).who=e.who:=by split<;>rfl
theorem ZhO (e:Ent):(if e.who=w then { e with res:=some t } else e).own=e.own:=by split<;>rfl
theorem Zmc (e:Ent):(if e.who=w then { e with res:=some t } else e).sc=e.sc:=by split<;>rfl
theorem ZlB (e:Ent):(if e.who=w then { e with res:=some t } else e).lab=e.lab:=by split<;>rfl
theorem Zfb {e:Ent}:(if e.who=w then { e with res:=some t } else e).pl=e.pl:=by split<;>rfl
theorem ZdY (es:List Ent):(kill w t es).map Ent.who=es.map Ent.who:=by
 unfold kill
 rw [List.map_map]
 exact List.map_congr_left λe _=>Zdh e
theorem Zev (os:List Pl) (es:List Ent):Zau os (kill w t es)=kill w t (Zau os es):=by
 unfold Zau kill
 induction es with
 |nil=>rfl
 |cons e r ih =>
  rw [List.map_cons,List.filter_cons,List.filter_cons,Zfb,ih]
  split<;>simp_all
end
def flG (o m oe pe:Addr):List (Str×V):=[("opened",.ref o),("members",.ref m),("opened_ever",.ref oe),("put_ever",.ref pe)]
def flR (off:Bool) (t:Addr):List (Str×V):=[("off",.bl off),("faults",.ref t)]
def flM (h:Addr) (l:Str) (r:V):List (Str×V):=[("home",.ref h),("label",.str l),("result",r)]
theorem Zck {f:Str} {v:V} {r:List (Str×V)}:((f,v)::r).lookup f=some v:=by rw [List.lookup_cons];simp
theorem Za6 {f g:Str} {v:V} {r:List (Str×V)} (h:¬ f=g):((g,v)::r).lookup f=r.lookup f:=by
 rw [List.lookup_cons]
 have:(f == g)=false:=by simpa using h
 rw [this]
theorem Zh1 {o m oe pe:Addr}:(flG o m oe pe).lookup ("opened":Str)=some (.ref o):=Zck
theorem Zfh {o m oe pe:Addr}:(flG o m oe pe).lookup ("members":Str)=some (.ref m):=by unfold flG;rw [Za6 (by decide +kernel)];exact Zck
theorem Zj0 {o m oe pe:Addr}:(flG o m oe pe).lookup ("opened_ever":Str)=some (.ref oe):=by unfold flG;rw [Za6 (by decide +kernel),Za6 (by decide +kernel)];exact Zck
theorem ZjZ {o m oe pe:Addr}:(flG o m oe pe).lookup ("put_ever":Str)=some (.ref pe):=by unfold flG;rw [Za6 (by decide +kernel),Za6 (by decide +kernel),Za6 (by decide +kernel)];exact Zck
theorem ZaE {o m oe pe:Addr} {x:Str} (h:[("opened":Str), "members", "opened_ever", "put_ever"].contains x=false):(flG o m oe pe).lookup x=none:=by
 have h':¬ x∈[("opened":Str), "members", "opened_ever", "put_ever"]:=by simpa using h
 simp only [List.mem_cons,List.not_mem_nil,or_false,not_or] at h'
 unfold flG
 rw [Za6 h'.1,Za6 h'.2.1,Za6 h'.2.2.1,Za6 h'.2.2.2]
 rfl
theorem ZkV {o m oe pe m':Addr}:putF "members" (.ref m') (flG o m oe pe)=flG o m' oe pe:=by
 unfold flG
 rw [putF,if_neg (by decide +kernel),putF,if_pos rfl]
theorem Zfg {b:Bool} {t:Addr}:(flR b t).lookup ("off":Str)=some (.bl b):=Zck
theorem ZdD {b:Bool} {t:Addr}:(flR b t).lookup ("faults":Str)=some (.ref t):=by unfold flR;rw [Za6 (by decide +kernel)];exact Zck
theorem Zjn {b b':Bool} {t:Addr}:putF "off" (.bl b') (flR b t)=flR b' t:=by unfold flR;rw [putF,if_pos rfl]
theorem Zjo {b:Bool} {t t':Addr}:putF "faults" (.ref t') (flR b t)=flR b t':=by unfold flR;rw [putF,if_neg (by decide +kernel),putF,if_pos rfl]
theorem ZbN {h:Addr} {l:Str} {r:V}:(flM h l r).lookup ("home":Str)=some (.ref h):=Zck
theorem Zh0 {h:Addr} {l:Str} {r:V}:(flM h l r).lookup ("label":Str)=some (.str l):=by unfold flM;rw [Za6 (by decide +kernel)];exact Zck
theorem ZcF {h:Addr} {l:Str} {r:V}:(flM h l r).lookup ("result":Str)=some r:=by unfold flM;rw [Za6 (by decide +kernel),Za6 (by decide +kernel)];exact Zck
theorem ZkU {h:Addr} {l:Str} {r r':V}:putF "result" r' (flM h l r)=flM h l r':=by unfold flM;rw [putF,if_neg (by decide +kernel),putF,if_neg (by decide +kernel),putF,if_pos rfl]
set_option genInjectivity false in
structure Cs where
 G:Addr
 R:Addr
 M:Addr
set_option genInjectivity false in
structure Ga where
 g:Addr
 o:Addr
 m:Addr
 oe:Addr
 pe:Addr
 gs:Pl->Addr
 ms:Int->Addr
def resV:Option Addr->V
 |none=>.non
 |some t=>.ref t
def PlV (x:V):Prop:=Zd1 x=true\/∃ a,x=.ref a
def resT (H:Hp) (r:Option Addr):Prop:=∀ t,r=some t->∃ xs,H t=some (.tup xs)/\∀ x∈xs,PlV x
theorem resT.mono {H H':Hp} {r:Option Addr} (x:resT H r) (s:∀ t xs,H t=some (.tup xs)->H' t=some (.tup xs)):resT H' r:=λt e=>by
 obtain ⟨xs,h,q⟩:=x t e
 exact ⟨xs,s _ _ h,q⟩
structure GAt (C:Cs) (H:Hp) (A:Ga) (S:Gst):Prop where
 ob:∃ dx,H A.g=some (.ins C.G dx (flG A.o A.m A.oe A.pe))
 od:H A.o=some (.dT (S.os.map λp=>(keyP p,.ref (A.gs p))))
 md:H A.m=some (.dK ((Zau S.os S.es).map λe=>(Sum.inl e.who,.ref (A.ms e.who))))
 ed:H A.oe=some (.dT (S.ev.map λp=>(keyP p,.bl true)))
 pd:H A.pe=some (.dK (S.es.map λe=>(Sum.inl e.who,.bl true)))
 ne1:A.o≠A.oe
 ne2:A.m≠A.pe
 gr:∀ p∈S.os,∃ dx t,H (A.gs p)=some (.ins C.R dx (flR (S.of p) t))/\H t=some (.tup ((S.ff p).map V.str))
 gi:∀ p∈S.os,∀ q∈S.os,A.gs p=A.gs q->p=q
 me:∀ e∈Zau S.os S.es,∃ dx h,H (A.ms e.who)=some (.ins C.M dx (flM h e.lab (resV e.res)))/\H h=some (.tup [.int e.own,.int e.sc])/\resT H e.res
 mi:∀ e∈Zau S.os S.es,∀ e'∈Zau S.os S.es,A.ms e.who=A.ms e'.who->e.who=e'.who
def PrgA (A:Ga) (S:Gst) (c:Addr):Prop:=c=A.g\/c=A.o\/c=A.m\/c=A.oe\/c=A.pe\/(∃ p∈S.os,c=A.gs p)\/∃ e∈Zau S.os S.es,c=A.ms e.who
structure Stp (P:Addr->Prop) (H:Hp) (P':Addr->Prop) (H':Hp):Prop where
 fr:∀ c u,¬ P c->H c=some u->H' c=some u
 gw:∀ c,P' c->P c\/H c=none
theorem Stp.of {P:Addr->Prop} {H H':Hp} (s:Same H H'):Stp P H P H':=⟨λc u _ e=>s c u e,λ_ h=>.inl h⟩
theorem Stp.trans {P P1 P2:Addr->Prop} {H H1 H2:Hp} (a:Stp P H P1 H1) (b:Stp P1 H1 P2 H2):Stp P H P2 H2:=by
 refine ⟨λc u n e=>b.fr c u (λz=>?_) (a.fr c u n e),λc h=>?_⟩
 ·rcases a.gw c z with q | q
  ·exact n q
  ·rw [q] at e;cases e
 ·rcases b.gw c h with q | q
  ·exact a.gw c q
  ·by_cases n:P c
   ·exact .inl n
   ·cases e:H c with
    |none=>exact .inr rfl
    |some u=>rw [a.fr c u n e] at q;cases q
theorem Stp.free {P P':Addr->Prop} {H H':Hp} (a:Stp P H P' H') {c:Addr} (h:H' c=none) (n:¬ P c):H c=none:=by
 cases e:H c with
 |none=>rfl
 |some u=>rw [a.fr c u n e] at h;cases h
theorem GAt.same {C:Cs} {H H':Hp} {A:Ga} {S:Gst} (B:GAt C H A S) (s:Same H H'):GAt C H' A S:=by
 obtain ⟨⟨dx,b1⟩,b2,b3,b4,b5,n1,n2,b6,gi,b7,mi⟩:=B
 refine ⟨⟨dx,s _ _ b1⟩,s _ _ b2,s _ _ b3,s _ _ b4,s _ _ b5,n1,n2,λp hp=>?_,gi,λe he=>?_,mi⟩
 ·obtain ⟨dx,t,h1,h2⟩:=b6 p hp
  exact ⟨dx,t,s _ _ h1,s _ _ h2⟩
 ·obtain ⟨dx,h,h1,h2,h3⟩:=b7 e he
  exact ⟨dx,h,s _ _ h1,s _ _ h2,h3.mono λt xs q=>s _ _ q⟩
theorem GAt.own {C:Cs} {H:Hp} {A:Ga} {S:Gst} (B:GAt C H A S) {c:Addr} (h:PrgA A S c):∃ u,H c=some u/\(∀ xs,u≠.tup xs)/\∀ xs,u≠.lst xs:=by
 rcases h with rfl | rfl | rfl | rfl | rfl | ⟨p,hp,rfl⟩ | ⟨e,he,rfl⟩
 ·obtain ⟨dx,q⟩:=B.ob;exact ⟨_,q,λ_ z=>(nomatch z),λ_ z=>(nomatch z)⟩
 ·exact ⟨_,B.od,λ_ z=>(nomatch z),λ_ z=>(nomatch z)⟩
 ·exact ⟨_,B.md,λ_ z=>(nomatch z),λ_ z=>(nomatch z)⟩
 ·exact ⟨_,B.ed,λ_ z=>(nomatch z),λ_ z=>(nomatch z)⟩
 ·exact ⟨_,B.pd,λ_ z=>(nomatch z),λ_ z=>(nomatch z)⟩
 ·obtain ⟨dx,t,q,_⟩:=B.gr p hp;exact ⟨_,q,λ_ z=>(nomatch z),λ_ z=>(nomatch z)⟩
 ·obtain ⟨dx,t,q,_⟩:=B.me e he;exact ⟨_,q,λ_ z=>(nomatch z),λ_ z=>(nomatch z)⟩
theorem GAt.frame {C:Cs} {H H':Hp} {A:Ga} {S:Gst} {P P':Addr->Prop} (B:GAt C H A S) (st:Stp P H P' H') (nt:∀ c,P c->∀ xs,H c≠some (.tup xs)) (ap:∀ c,P c->¬ PrgA A S c):GAt C H' A S:=by
 have tt:∀ {c:Addr} {xs:List V},H c=some (.tup xs)->H' c=some (.tup xs):=λe=>st.fr _ _ (λz=>nt _ z _ e) e
 have ow:∀ {c:Addr} {u:HO},PrgA A S c->H c=some u->H' c=some u:=λh e=>st.fr _ _ (λz=>ap _ z h) e
 obtain ⟨⟨dx,b1⟩,b2,b3,b4,b5,n1,n2,b6,gi,b7,mi⟩:=B
 refine ⟨⟨dx,ow (.inl rfl) b1⟩,ow (.inr (.inl rfl)) b2,ow (.inr (.inr (.inl rfl))) b3,ow (.inr (.inr (.inr (.inl rfl)))) b4,ow (.inr (.inr (.inr (.inr (.inl rfl))))) b5,n1,n2,λp hp=>?_,gi,λe he=>?_,mi⟩
 ·obtain ⟨dx,t,h1,h2⟩:=b6 p hp
  exact ⟨dx,t,ow (.inr (.inr (.inr (.inr (.inr (.inl ⟨p,hp,rfl⟩)))))) h1,tt h2⟩
 ·obtain ⟨dx,h,h1,h2,h3⟩:=b7 e he
  exact ⟨dx,h,ow (.inr (.inr (.inr (.inr (.inr (.inr ⟨e,he,rfl⟩)))))) h1,tt h2,h3.mono λt xs q=>tt q⟩
inductive Dd where
 |opn (a b:Int)
 |put (a b:Int) (l:Str) (w:Int)
 |fin (w:Int) (o:Addr) (fs:Option (List Str))
 |note (a b:Int) (fs:List Str)
 |off (a b:Int)
 |cls (a b:Int)
def ZbH (S:Gst) (w:Int):Pl:=((S.es.find? λe=>decide (e.who=w)).map Ent.pl).getD (0,0)
def Ref (S:Gst):Dd->Prop
 |.opn a b=>(a,b)∈S.ev
 |.put a b _ w=>(a,b)∉S.os\/w∈S.es.map Ent.who\/w<=a
 |.fin w _ _=>¬ ∃ e∈Zau S.os S.es,e.who=w/\e.dead=false
 |.note a b _=>(a,b)∉S.os
 |.off a b=>(a,b)∉S.os
 |.cls a b=>(a,b)∉S.os\/ZaJ S (a,b)≠[]
def Zbe (S:Gst) (w:Int) (o:Addr):Gst:={ S with es:=kill w o S.es }
def opnS (S:Gst) (p:Pl):Gst:={ S with os:=S.os++[p],ev:=S.ev++[p],of:=setP S.of p false,ff:=setP S.ff p [] }
def putS (S:Gst) (e:Ent):Gst:={ S with es:=S.es++[e] }
def clsS (S:Gst) (p:Pl):Gst:={ S with os:=S.os.filter λq=>decide (q≠p) }
def nxt (S:Gst):Dd->Gst
 |.opn a b=>opnS S (a,b)
 |.put a b l w=>putS S ⟨w,a,b,l,none⟩
 |.fin w o none=>Zbe S w o
 |.fin w o (some l)=>offS (fltS (Zbe S w o) (ZbH S w) l) (ZbH S w)
 |.note a b l=>offS (fltS S (a,b) l) (a,b)
 |.off a b=>offS S (a,b)
 |.cls a b=>clsS S (a,b)
inductive Rv where
 |non
 |bl (b:Bool)
 |mk (rows:List Pl)
def ret (S:Gst):Dd->Rv
 |.opn _ _=>.non
 |.put a b _ _=>.bl (S.of (a,b))
 |.fin _ _ none=>.mk []
 |.fin w o (some _)=>.mk (ZdW (Zbe S w o) (ZbH S w))
 |.note a b _=>.mk (ZdW S (a,b))
 |.off a b=>.mk (ZdW S (a,b))
 |.cls _ _=>.non
def MkAt (H:Hp) (r:Addr) (rows:List Pl):Prop:=∃ ps:List Addr,H r=some (.lst (ps.map V.ref))/\ps.length=rows.length/\∀ (i:Nat) p q,ps[i]?=some p->rows[i]?=some q->H p=some (.tup [.int q.1,.int q.2,.str "off"])
def RvAt (H0 H:Hp) (v:V):Rv->Prop
 |.non=>v=.non
 |.bl b=>v=.bl b
 |.mk rows=>∃ r,v=.ref r/\H0 r=none/\MkAt H r rows
def ZgY (C:Addr):Sp:=λvs H Q _=>∃ p dx,vs=[.ref p]/\H p=some (.ins C dx [])/\∀ t,H t=none->Q .non (upd (upd H t (.tup [])) p (.ins C dx (flR false t)))
def Zg3 (C:Addr):Sp:=λvs H Q _=>∃ p dx h l,vs=[.ref p,.ref h,.str l]/\H p=some (.ins C dx [])/\Q .non (upd H p (.ins C dx (flM h l .non)))
def Zbi (C:Cs) (Ov:Addr):Sp:=λvs H Q E=>∃ A S a b,vs=[.ref A.g,.int a,.int b]/\GAt C H A S/\((a,b)∈S.os->∀ H',Same H H'->Q (.ref (A.gs (a,b))) H')/\((a,b)∉S.os->∀ H',Same H H'->E (.ref Ov) none H')
def ZcT (C:Cs) (Ov:Addr):Sp:=λvs H Q E=>∃ A S w,vs=[.ref A.g,.int w]/\GAt C H A S/\(w∈(Zau S.os S.es).map Ent.who->Q (.ref (A.ms w)) H)/\(w∉(Zau S.os S.es).map Ent.who->E (.ref Ov) none H)
def Does (C:Cs) (Ov:Addr) (H:Hp) (A:Ga) (S:Gst) (D:Dd) (Q:V->Hp->Prop) (E:XK):Prop :=
 (¬ Ref S D->∀ H' A' v,GAt C H' A' (nxt S D)->Stp (PrgA A S) H (PrgA A' (nxt S D)) H'->A'.g=A.g->RvAt H H' v (ret S D)->Q v H')/\(Ref S D->∀ H',Same H H'->E (.ref Ov) none H')
def Rm (S:Gst):Prop:=S.ev.length<60/\S.os.length<60/\S.es.length<60/\S.fz+3<=400
def Zg0 (C:Cs) (Ov:Addr):Sp:=λvs H Q E=>∃ A S a b,vs=[.ref A.g,.int a,.int b]/\GAt C H A S/\OkS S/\Rm S/\Does C Ov H A S (.opn a b) Q E
def Zcu (C:Cs):Sp:=λvs H Q _=>∃ A S,vs=[.ref A.g]/\GAt C H A S/\OkS S/\∀ H' r,Same H H'->H r=none->H' r=some (.lst (((Zau S.os S.es).filter λe=>!e.dead).map λe=>V.int e.who))->Q (.ref r) H'
def ZbU (C:Cs) (Ov:Addr):Sp:=λvs H Q E=>∃ A S a b,vs=[.ref A.g,.int a,.int b]/\GAt C H A S/\OkS S /\
 ((a,b)∈S.os->∀ H' r,Same H H'->H r=none->H' r=some (.lst ((Zaz S (a,b)).map V.int))->Q (.ref r) H')/\((a,b)∉S.os->∀ H',Same H H'->E (.ref Ov) none H')
def Zke (C:Cs) (Ov:Addr):Sp:=λvs H Q E=>∃ A S a b l w,vs=[.ref A.g,.int a,.int b,.str l,.int w]/\GAt C H A S/\OkS S/\Rm S/\Does C Ov H A S (.put a b l w) Q E
def Zb8 (C:Cs) (Ov:Addr):Sp:=λvs H Q E=>∃ A S a b,vs=[.ref A.g,.int a,.int b]/\GAt C H A S/\OkS S/\Does C Ov H A S (.off a b) Q E
def Zg1 (C:Cs) (Ov:Addr):Sp:=λvs H Q E=>∃ A S a b f xs,vs=[.ref A.g,.int a,.int b,.ref f]/\H f=some (.tup (xs.map V.str))/\xs.length<=3/\GAt C H A S/\OkS S/\Rm S/\Does C Ov H A S (.note a b xs) Q E
def OutAt (H:Hp) (t:Addr) (fs:Option (List Str)):Prop:=∃ k r,H t=some (.tup (.str k::r))/\(∀ x∈r,PlV x)/\((fs=none/\k≠"faults")\/∃ l f,fs=some l/\k="faults"/\r=[.ref f]/\H f=some (.tup (l.map V.str))/\l.length<=3)
def Zg5 (C:Cs) (Ov:Addr):Sp:=λvs H Q E=>∃ A S w t fs,vs=[.ref A.g,.int w,.ref t]/\OutAt H t fs/\GAt C H A S/\OkS S/\Rm S/\Does C Ov H A S (.fin w t fs) Q E
def Zg6 (C:Cs) (Ov:Addr):Sp:=λvs H Q E=>∃ A S a b,vs=[.ref A.g,.int a,.int b]/\GAt C H A S/\OkS S/\Does C Ov H A S (.cls a b) Q E
def S0:Gst:=⟨[],[],[],0,λ_=>false,λ_=>[]⟩
def Zg4 (C:Cs):Sp:=λvs H Q _=>∃ p dx,vs=[.ref p]/\H p=some (.ins C.G dx [])/\∀ H' A,A.g=p->GAt C H' A S0->(∀ c u,c≠p->H c=some u->H' c=some u)->(∀ c,PrgA A S0 c->c=p\/H c=none)->Q .non H'
def ZeR (C:Cs) (Ov:Addr):Sp:=λvs H Q E=>∃ A S a b,vs=[.ref A.g,.int a,.int b]/\GAt C H A S/\((a,b)∈S.os->∀ H',Same H H'->Q (.bl (S.of (a,b))) H')/\((a,b)∉S.os->∀ H',Same H H'->E (.ref Ov) none H')
def ZdN (C:Cs) (Ov:Addr):Sp:=λvs H Q E=>∃ A S a b,vs=[.ref A.g,.int a,.int b]/\GAt C H A S/\((a,b)∈S.os->∀ H' t,Same H H'->H t=some (.tup ((S.ff (a,b)).map V.str))->Q (.ref t) H')/\((a,b)∉S.os->∀ H',Same H H'->E (.ref Ov) none H')
def Zfy (C:Cs) (Ov:Addr):Sp:=λvs H Q E=>∃ A S w,vs=[.ref A.g,.int w]/\GAt C H A S/\(∀ e∈Zau S.os S.es,e.who=w->Q (resV e.res) H)/\(w∉(Zau S.os S.es).map Ent.who->E (.ref Ov) none H)
def ZjH (C:Cs) (Ov:Addr):Sp:=λvs H Q E=>∃ A S w,vs=[.ref A.g,.int w]/\GAt C H A S/\(∀ e∈Zau S.os S.es,e.who=w->∀ h,H h=some (.tup [.int e.own,.int e.sc])->Q (.ref h) H)/\(w∉(Zau S.os S.es).map Ent.who->E (.ref Ov) none H)
theorem ZaY {α κ:Type} [DecidableEq κ] {k:α->κ} (inj:∀ p q,k p=k q->p=q) {f:α->V} {q:α}:∀ {l:List α},q∈l->valV (l.map λp=>(k p,f p)) (k q)=some (f q)
 |p::r,h=>by
  unfold valV
  rw [List.map_cons,List.find?_cons]
  by_cases e:k p=k q
  ·obtain rfl:=inj _ _ e
   simp
  ·simp only [decide_eq_false e]
   rcases List.mem_cons.mp h with z | z
   ·exact absurd (by rw [z]) e
   ·exact ZaY inj z
theorem ZbC {α κ:Type} [DecidableEq κ] {k:α->κ} (inj:∀ p q,k p=k q->p=q) {f:α->V} {q:α} {l:List α} (h:q∉l):valV (l.map λp=>(k p,f p)) (k q)=none:=by
 unfold valV
 rw [List.find?_eq_none.mpr]
 ·rfl
 ·intro x hx e
  obtain ⟨p,hp,rfl⟩:=List.mem_map.mp hx
  exact h (inj _ _ (of_decide_eq_true e)▸hp)
theorem ZbL {α κ:Type} [DecidableEq κ] {k:α->κ} (inj:∀ p q,k p=k q->p=q) {f:α->V} {v:V} {q:α} {l:List α} (h:q∉l):putK (l.map λp=>(k p,f p)) (k q) v=(l.map λp=>(k p,f p))++[(k q,v)]:=by
 unfold putK
 rw [if_neg]
 rw [List.any_map,List.any_eq_true]
 rintro ⟨p,hp,e⟩
 have:k p=k q:=by simpa using e
 exact h (inj _ _ this▸hp)
theorem ZeC {α κ:Type} [DecidableEq κ] [DecidableEq α] {k:α->κ} (inj:∀ p q,k p=k q->p=q) {f:α->V} {q:α} {l:List α}:Zfk (l.map λp=>(k p,f p)) (k q)=(l.filter λp=>decide (p≠q)).map λp=>(k p,f p):=by
 unfold Zfk
 rw [List.filter_map]
 congr 1
 refine List.filter_congr λp _=>?_
 show decide (k p≠k q)=decide (p≠q)
 by_cases e:p=q
 ·subst e;simp
 ·have ne:k p≠k q:=λz=>e (inj _ _ z)
  rw [decide_eq_true e,decide_eq_true ne]
theorem Zbf:∀ p q:Int,(Sum.inl p:Key)=Sum.inl q->p=q:=λ_ _ h=>Sum.inl.inj h
theorem Za0:∀ p q:Pl,keyP p=keyP q->p=q:=λ_ _ h=>Zje h
theorem ZaH {f:Int->V} (l:List Ent):(l.map λe=>((Sum.inl e.who:Key),f e.who))=(l.map Ent.who).map λw=>(Sum.inl w,f w):=by rw [List.map_map];rfl
section
variable {C:Cs} {H H':Hp} {A:Ga} {S:Gst} {t:Addr} {a b w:Int}
theorem GAt.opn (B:GAt C H A S) (s:Same H H') (ht:H' t=some (.tup [.int a,.int b])) (h:(a,b)∈S.os):DGet H' A.o (.ref t) (some (.ref (A.gs (a,b)))):=by
 rw [<- ZaY Za0 (f:=λp=>.ref (A.gs p)) h]
 exact DGet.t (k:=keyP (a,b)) (s _ _ B.od) ht
theorem GAt.opnN (B:GAt C H A S) (s:Same H H') (ht:H' t=some (.tup [.int a,.int b])) (h:(a,b)∉S.os):DGet H' A.o (.ref t) none:=by
 rw [<- ZbC Za0 (f:=λp=>.ref (A.gs p)) h]
 exact DGet.t (k:=keyP (a,b)) (s _ _ B.od) ht
theorem GAt.evr (B:GAt C H A S) (s:Same H H') (ht:H' t=some (.tup [.int a,.int b])) (h:(a,b)∈S.ev):DGet H' A.oe (.ref t) (some (.bl true)):=by
 rw [<- ZaY Za0 (f:=λ_=>.bl true) h]
 exact DGet.t (k:=keyP (a,b)) (s _ _ B.ed) ht
theorem GAt.evrN (B:GAt C H A S) (s:Same H H') (ht:H' t=some (.tup [.int a,.int b])) (h:(a,b)∉S.ev):DGet H' A.oe (.ref t) none:=by
 rw [<- ZbC Za0 (f:=λ_=>.bl true) h]
 exact DGet.t (k:=keyP (a,b)) (s _ _ B.ed) ht
theorem GAt.mem (B:GAt C H A S) (h:w∈(Zau S.os S.es).map Ent.who):DGet H A.m (.int w) (some (.ref (A.ms w))):=by
 rw [<- ZaY Zbf (f:=λw=>.ref (A.ms w)) h,<- ZaH]
 exact DGet.k (k:=Sum.inl w) B.md
theorem GAt.memN (B:GAt C H A S) (h:w∉(Zau S.os S.es).map Ent.who):DGet H A.m (.int w) none:=by
 rw [<- ZbC Zbf (f:=λw=>.ref (A.ms w)) h,<- ZaH (f:=λw=>.ref (A.ms w))]
 exact DGet.k (k:=Sum.inl w) B.md
theorem GAt.put (B:GAt C H A S) (h:w∈S.es.map Ent.who):DGet H A.pe (.int w) (some (.bl true)):=by
 rw [<- ZaY Zbf (f:=λ_=>.bl true) h,<- ZaH (f:=λ_=>.bl true)]
 exact DGet.k (k:=Sum.inl w) B.pd
theorem GAt.putN (B:GAt C H A S) (h:w∉S.es.map Ent.who):DGet H A.pe (.int w) none:=by
 rw [<- ZbC Zbf (f:=λ_=>.bl true) h,<- ZaH (f:=λ_=>.bl true)]
 exact DGet.k (k:=Sum.inl w) B.pd
end
theorem Ziy {H:Hp} {p t:Addr} {u v w:HO} (n:p≠t):upd (upd (upd H p u) t v) p w=upd (upd H t v) p w:=by
 funext b
 unfold upd
 by_cases h:b=p
 ·simp [h]
 ·simp [h]
theorem ZlM {b:Bool} {t:Addr}:putF "faults" (.ref t) (putF "off" (.bl b) [])=flR b t:=by
 rw [putF,putF,if_neg (by decide +kernel),putF];rfl
theorem ZlN {h:Addr} {l:Str} {r:V}:putF "result" r (putF "label" (.str l) (putF "home" (.ref h) []))=flM h l r:=by
 have e1:putF "home" (.ref h) []=[((Str.ofString "home"),V.ref h)]:=rfl
 have e2:putF "label" (.str l) [((Str.ofString "home"),V.ref h)]=[((Str.ofString "home"),V.ref h),((Str.ofString "label"),V.str l)]:=by rw [putF,if_neg (by decide +kernel)];rfl
 rw [e1,e2,putF,if_neg (by decide +kernel),putF,if_neg (by decide +kernel)];rfl
theorem ZkH {α:Type} {K:PySem.W.Frag} {a:Addr} {xs:List α} {f:α->V} (q:α->Bool) {sel:List (Option Nat)} {g:TG} {tt:TT} {te:TE} {σ:St} {H:Hp} {Qe:List V->Hp->Prop} (ha:H a=some (.lst (xs.map f))) (hz:xs.length<=sizeLine)
  (hs:∀ x ys G,x∈xs->Same H G->g (f x) (selS sel σ) G λσ2 H2=>tt σ2 H2 λb H3=>if b=true then te σ2 H3 λy H4=>Same H H4/\ys++[y]=ys++(if q x=true then [f x] else []) else Same H H3/\ys=ys++(if q x=true then [f x] else []))
  (hd:∀ G,Same H G->Qe ((xs.filter q).map f) G):∃ W:Nat->Nat->List V->Hp->Prop,(∃ m,W 0 m [] H)/\ZbF sel g tt te σ (Itl K a) W Qe:=by
 refine Zdg (K:=K) (a:=a) (xs:=xs.map f) (λi ys G=>Same H G/\ys=((xs.take i).filter q).map f) ⟨Same.refl _,rfl⟩ ?_ (by rw [List.length_map];exact hz) ?_ ?_
 ·rintro i ys G hi ⟨s,rfl⟩
  refine ⟨SqL.of (s _ _ ha),?_⟩
  rw [List.length_map]
  exact Nat.le_trans (List.length_filter_le _ _) (by rw [List.length_take];omega)
 ·rintro i y ys G hi ⟨s,rfl⟩
  rw [List.getElem?_map] at hi
  cases ex:xs[i]? with
  |none=>rw [ex] at hi;cases hi
  |some x =>
   rw [ex] at hi
   cases hi
   have e:((xs.take (i+1)).filter q).map f=((xs.take i).filter q).map f++(if q x=true then [f x] else []):=by
    rw [List.take_succ,ex,List.filter_append,List.map_append]
    congr 1
    by_cases h:q x=true
    ·rw [if_pos h,Option.toList_some,List.filter_cons_of_pos h];rfl
    ·rw [if_neg h,Option.toList_some,List.filter_cons_of_neg h];rfl
   rw [e]
   exact hs x _ G (List.mem_of_getElem? ex) s
 ·rintro ys G ⟨s,rfl⟩
  rw [List.length_map,List.take_length]
  exact hd G s

theorem ZaT {H:Hp} {x c:Addr} {u:HO} (h:upd H x u c=none):c≠x/\H c=none:=by
 by_cases e:c=x
 ·subst e;rw [Zab] at h;cases h
 ·rw [Zae e] at h;exact ⟨e,h⟩
def But2 (x y:Addr) (H H':Hp):Prop:=∀ c u,c≠x->c≠y->H c=some u->H' c=some u
theorem But2.of {x y:Addr} {H H':Hp} (s:Same H H'):But2 x y H H':=λc u _ _ e=>s c u e
theorem But2.trans {x y:Addr} {H H1 H2:Hp} (a:But2 x y H H1) (b:But2 x y H1 H2):But2 x y H H2:=λc u n m e=>b c u n m (a c u n m e)
theorem But2.l {x y:Addr} {H:Hp} {u:HO}:But2 x y H (upd H x u):=λc v n _ e=>by rw [Zae n];exact e
theorem But2.r {x y:Addr} {H:Hp} {u:HO}:But2 x y H (upd H y u):=λc v _ n e=>by rw [Zae n];exact e
section
variable {C:Cs} {H H':Hp} {A:Ga} {S:Gst} {a b w:Int}
theorem GAt.open (B:GAt C H A S) (ok:OkS S) (n:(a,b)∉S.ev) {x:Addr} (kp:But2 A.o A.oe H H') (ho:H' A.o=some (.dT ((S.os++[(a,b)]).map λp=>(keyP p,.ref (if p=(a,b) then x else A.gs p)))))
  (he:H' A.oe=some (.dT ((S.ev++[(a,b)]).map λp=>(keyP p,.bl true)))) (hx:∃ dx t,H' x=some (.ins C.R dx (flR false t))/\H' t=some (.tup [])) (xn:H x=none) :
  GAt C H' { A with gs:=λp=>if p=(a,b) then x else A.gs p } (opnS S (a,b))/\Stp (PrgA A S) H (PrgA { A with gs:=λp=>if p=(a,b) then x else A.gs p } (opnS S (a,b))) H':=by
 have no:(a,b)∉S.os:=λh=>n (ok.sub _ h)
 have el:Zau (S.os++[(a,b)]) S.es=Zau S.os S.es:=by
  unfold Zau
  refine List.filter_congr λe he=>?_
  have ne:e.pl≠(a,b):=λz=>n (z▸ok.hm e he)
  simp [ne]
 have nt:∀ {c:Addr} {u:HO},H c=some u->(∀ k,u≠.dT k)->H' c=some u:=λe h=>kp _ _ (Zaq e B.od λz=>h _ z) (Zaq e B.ed λz=>h _ z) e
 have old:∀ {p:Pl},p∈S.os++[(a,b)]->p≠(a,b)->p∈S.os:=λh z=>(List.mem_append.mp h).elim id λh=>absurd (List.mem_singleton.mp h) z
 obtain ⟨dx,hg⟩:=B.ob
 refine ⟨⟨⟨dx,nt hg (λ_ z=>nomatch z)⟩,ho,?_,he,nt B.pd (λ_ z=>nomatch z),B.ne1,B.ne2,λp hp=>?_,λp hp q hq e=>?_,λe he'=>?_,?_⟩,⟨λc u n e=>kp c u (λz=>n (.inr (.inl z))) (λz=>n (.inr (.inr (.inr (.inl z))))) e,λc h=>?_⟩⟩
 ·show H' A.m=some (.dK ((Zau (S.os++[(a,b)]) S.es).map _))
  rw [el]
  exact nt B.md λ_ z=>nomatch z
 ·by_cases z:p=(a,b)
  ·subst z
   obtain ⟨d1,t1,h1,h2⟩:=hx
   refine ⟨d1,t1,?_,?_⟩
   ·show H' (if (a,b)=(a,b) then x else _)=some (.ins C.R d1 (flR (setP S.of (a,b) false (a,b)) t1))
    rw [if_pos rfl,Za4];exact h1
   ·show H' t1=some (.tup ((setP S.ff (a,b) [] (a,b)).map V.str))
    rw [Za4];exact h2
  ·obtain ⟨d1,t1,h1,h2⟩:=B.gr p (old hp z)
   refine ⟨d1,t1,?_,?_⟩
   ·show H' (if p=(a,b) then x else A.gs p)=some (.ins C.R d1 (flR (setP S.of (a,b) false p) t1))
    rw [if_neg z,Zbr z];exact nt h1 (λ_ z=>nomatch z)
   ·show H' t1=some (.tup ((setP S.ff (a,b) [] p).map V.str))
    rw [Zbr z];exact nt h2 (λ_ z=>nomatch z)
 ·have ex:∀ {p:Pl},p∈S.os->A.gs p≠x:=λh z=>by
   obtain ⟨_,_,h1,_⟩:=B.gr _ h
   rw [z,xn] at h1;cases h1
  by_cases z1:p=(a,b)<;>by_cases z2:q=(a,b)
  ·rw [z1,z2]
  ·simp only [if_pos z1,if_neg z2] at e
   exact absurd e.symm (ex (old hq z2))
  ·simp only [if_neg z1,if_pos z2] at e
   exact absurd e (ex (old hp z1))
  ·simp only [if_neg z1,if_neg z2] at e
   exact B.gi p (old hp z1) q (old hq z2) e
 ·have he2:e∈Zau S.os S.es:=by rw [<- el];exact he'
  obtain ⟨dx,h,h1,h2,h3⟩:=B.me e he2
  exact ⟨dx,h,nt h1 (λ_ z=>nomatch z),nt h2 (λ_ z=>nomatch z),h3.mono λt xs q=>nt q (λ_ z=>nomatch z)⟩
 ·intro e he1 e' he2
  exact B.mi e (by rw [<- el];exact he1) e' (by rw [<- el];exact he2)
 ·rcases h with h | h | h | h | h | ⟨p,hp,h⟩ | ⟨e,he',h⟩
  ·exact .inl (.inl h)
  ·exact .inl (.inr (.inl h))
  ·exact .inl (.inr (.inr (.inl h)))
  ·exact .inl (.inr (.inr (.inr (.inl h))))
  ·exact .inl (.inr (.inr (.inr (.inr (.inl h)))))
  ·by_cases z:p=(a,b)
   ·simp only [if_pos z] at h
    rw [h];exact .inr xn
   ·simp only [if_neg z] at h
    exact .inl (.inr (.inr (.inr (.inr (.inr (.inl ⟨p,old hp z,h⟩))))))
  ·exact .inl (.inr (.inr (.inr (.inr (.inr (.inr ⟨e,by rw [<- el];exact he',h⟩))))))
end
section
variable {C:Cs} {H H':Hp} {A:Ga} {S:Gst} {a b w:Int} {l:Str}
theorem Zcl (ho:(a,b)∈S.os):Zau S.os (S.es++[⟨w,a,b,l,none⟩])=Zau S.os S.es++[⟨w,a,b,l,none⟩]:=by
 unfold Zau
 rw [List.filter_append,List.filter_cons_of_pos (by exact decide_eq_true ho)]
 rfl
theorem ZaU {os:List Pl} {es:List Ent} {e:Ent} (h:e∈Zau os es):e∈es/\e.pl∈os:=by
 obtain ⟨h1,h2⟩:=List.mem_filter.mp h
 exact ⟨h1,of_decide_eq_true h2⟩
theorem GAt.putE (B:GAt C H A S) (ho:(a,b)∈S.os) (n:w∉S.es.map Ent.who) {x:Addr} (kp:But2 A.pe A.m H H')
  (hm:H' A.m=some (.dK (((Zau S.os S.es).map λe=>(Sum.inl e.who,.ref (A.ms e.who)))++[(Sum.inl w,.ref x)]))) (hp:H' A.pe=some (.dK ((S.es.map λe=>(Sum.inl e.who,.bl true))++[(Sum.inl w,.bl true)])))
  (hx:∃ dx h,H' x=some (.ins C.M dx (flM h l .non))/\H' h=some (.tup [.int a,.int b])) (xn:H x=none) :
  GAt C H' { A with ms:=λv=>if v=w then x else A.ms v } (putS S ⟨w,a,b,l,none⟩)/\Stp (PrgA A S) H (PrgA { A with ms:=λv=>if v=w then x else A.ms v } (putS S ⟨w,a,b,l,none⟩)) H':=by
 have nw:∀ e∈Zau S.os S.es,e.who≠w:=λe he z=>n (List.mem_map.mpr ⟨e,(ZaU he).1,z⟩)
 have nt:∀ {c:Addr} {u:HO},H c=some u->(∀ k,u≠.dK k)->H' c=some u:=λe h=>kp _ _ (Zaq e B.pd λz=>h _ z) (Zaq e B.md λz=>h _ z) e
 have ex:∀ e∈Zau S.os S.es,A.ms e.who≠x:=λe he z=>by
  obtain ⟨_,_,h1,_⟩:=B.me e he
  rw [z,xn] at h1;cases h1
 obtain ⟨dx,hg⟩:=B.ob
 refine ⟨⟨⟨dx,nt hg (λ_ z=>nomatch z)⟩,nt B.od (λ_ z=>nomatch z),?_,nt B.ed (λ_ z=>nomatch z),?_,B.ne1,B.ne2,λp hp=>?_,B.gi,λe he=>?_,λe he e' he' z=>?_⟩,⟨λc u n e=>kp c u (λz=>n (.inr (.inr (.inr (.inr (.inl z)))))) (λz=>n (.inr (.inr (.inl z)))) e,λc h=>?_⟩⟩
 ·show H' A.m=some (.dK ((Zau S.os (S.es++[⟨w,a,b,l,none⟩])).map λe=>(Sum.inl e.who,.ref (if e.who=w then x else A.ms e.who))))
  rw [hm,Zcl ho,List.map_append,List.map_cons,List.map_nil,if_pos rfl]
  refine congrArg (λl=>some (HO.dK (l++_))) (List.map_congr_left λe he=>?_)
  rw [if_neg (nw e he)]
 ·show H' A.pe=some (.dK ((S.es++[(⟨w,a,b,l,none⟩:Ent)]).map λe:Ent=>(Sum.inl e.who,.bl true)))
  rw [hp,List.map_append];rfl
 ·obtain ⟨dx,t,h1,h2⟩:=B.gr p hp
  exact ⟨dx,t,nt h1 (λ_ z=>nomatch z),nt h2 (λ_ z=>nomatch z)⟩
 ·have he':e∈Zau S.os S.es++[⟨w,a,b,l,none⟩]:=by rw [<- Zcl ho];exact he
  rcases List.mem_append.mp he' with h | h
  ·obtain ⟨dx,t,h1,h2,h3⟩:=B.me e h
   refine ⟨dx,t,?_,nt h2 (λ_ z=>nomatch z),h3.mono λt xs q=>nt q (λ_ z=>nomatch z)⟩
   show H' (if e.who=w then x else A.ms e.who)=_
   rw [if_neg (nw e h)]
   exact nt h1 (λ_ z=>nomatch z)
  ·rw [List.mem_singleton.mp h]
   obtain ⟨dx,t,h1,h2⟩:=hx
   refine ⟨dx,t,?_,h2,λt z=>nomatch z⟩
   show H' (if w=w then x else A.ms w)=_
   rw [if_pos rfl];exact h1
 ·rw [show (putS S ⟨w,a,b,l,none⟩).es=S.es++[⟨w,a,b,l,none⟩] from rfl,show (putS S ⟨w,a,b,l,none⟩).os=S.os from rfl,Zcl ho] at he he'
  have z':(if e.who=w then x else A.ms e.who)=if e'.who=w then x else A.ms e'.who:=z
  rcases List.mem_append.mp he with h | h<;>rcases List.mem_append.mp he' with h' | h'
  ·rw [if_neg (nw e h),if_neg (nw e' h')] at z'
   exact B.mi e h e' h' z'
  ·obtain rfl:=List.mem_singleton.mp h'
   rw [if_neg (nw e h),if_pos rfl] at z'
   exact absurd z' (ex e h)
  ·obtain rfl:=List.mem_singleton.mp h
   rw [if_neg (nw e' h'),if_pos rfl] at z'
   exact absurd z'.symm (ex e' h')
  ·rw [List.mem_singleton.mp h,List.mem_singleton.mp h']
 ·rcases h with h | h | h | h | h | ⟨p,hp,h⟩ | ⟨e,he,h⟩
  ·exact .inl (.inl h)
  ·exact .inl (.inr (.inl h))
  ·exact .inl (.inr (.inr (.inl h)))
  ·exact .inl (.inr (.inr (.inr (.inl h))))
  ·exact .inl (.inr (.inr (.inr (.inr (.inl h)))))
  ·exact .inl (.inr (.inr (.inr (.inr (.inr (.inl ⟨p,hp,h⟩))))))
  ·have he':e∈Zau S.os S.es++[⟨w,a,b,l,none⟩]:=by rw [<- Zcl ho];exact he
   rcases List.mem_append.mp he' with q | q
   ·simp only [if_neg (nw e q)] at h
    exact .inl (.inr (.inr (.inr (.inr (.inr (.inr ⟨e,q,h⟩))))))
   ·rw [List.mem_singleton.mp q] at h
    simp only [if_true] at h
    rw [h];exact .inr xn
end
theorem Zgz {d:Addr} {o:Obj} {kvs:List (Key×V)} {g:TG} {tb:TS} {D:Ends} {σ:St} {H:Hp} (Pv:Nat->St->Hp->Prop) (h0:Pv 0 σ H) (hl:∀ i σ H,i<=kvs.length->Pv i σ H->H d=some (.frz o (.dK kvs)))
  (hs:∀ i kv σ H p,kvs[i]?=some kv->Pv i σ H->H p=none->g (.ref p) σ (upd H p (.tup [kV kv.1,kv.2])) λσ2 H2=>tb { D with nx:=Pv (i+1),ct:=Pv (i+1),bk:=D.nx } σ2 H2) (hd:∀ σ H,Pv kvs.length σ H->D.nx σ H) :
  ∃ W:Nat->Nat->St->Hp->Prop,(∃ m,W 0 m σ H)/\∀ i m σ H,W i m σ H ->
   ((Itf d o kvs).stop i H/\D.nx σ H)\/((Itf d o kvs).go i H/\∃ N:St->Hp->Prop,(∀ σ' H',N σ' H'->∃ m',m'<m/\W (i+1) m' σ' H')/\∀ x H',(Itf d o kvs).yld i H x H'->g x σ H' λσ2 H2=>tb { D with nx:=N,ct:=N,bk:=D.nx } σ2 H2):=by
 refine ⟨λi m σ H=>m=kvs.length-i/\i<=kvs.length/\Pv i σ H,⟨kvs.length,by simp,Nat.zero_le _,h0⟩,?_⟩
 rintro i m σ H ⟨rfl,hi,p⟩
 have q:=hl i σ H hi p
 by_cases hlt:i<kvs.length
 ·refine .inr ⟨⟨q,hlt⟩,Pv (i+1),λσ' H' p'=>⟨kvs.length-(i+1),by omega,rfl,hlt,p'⟩,λx H' y=>?_⟩
  obtain ⟨r,kv,rfl,hr,rfl,hx⟩:=y
  exact hs i kv σ H r hx p hr
 ·have e:i=kvs.length:=by omega
  exact .inl ⟨⟨q,by omega⟩,hd σ H (by rw [<- e];exact p)⟩
theorem ixT {K:PySem.W.Frag} {H:Hp} {d:Addr} {xs:List V} {i:Int} {v:V} {R:VK} (hd:H d=some (.tup xs)) (e:atI xs i=some v) (k:R v H):rIxT K (.ref d) (.int i) H R:=⟨d,xs,i,v,rfl,rfl,SqT.of hd,e,k⟩
theorem ZhN (q:Ent->Bool) (xs:List Ent) (e:Ent):(((xs++[e]).filter q).map Ent.who).getLast?=if q e=true then some e.who else ((xs.filter q).map Ent.who).getLast?:=by
 rw [List.filter_append]
 by_cases h:q e=true
 ·rw [if_pos h,List.filter_cons_of_pos h,List.filter_nil,List.map_append]
  simp
 ·rw [if_neg h,List.filter_cons_of_neg h,List.filter_nil,List.append_nil]
theorem Zi9 {α:Type} (xs:List α) (kx:α->Key) (vx:α->V) (q:α->Bool) (f:α->V) {sel:List (Option Nat)} {g:TG} {tt:TT} {te:TE} {σ:St} {H0:Hp} {Qe:List V->Hp->Prop} (hz:xs.length<=sizeLine)
  (hs:∀ x ys G p,x∈xs->Same H0 G->G p=none->g (.ref p) (selS sel σ) (upd G p (.tup [kV (kx x),vx x])) λσ2 H2=>tt σ2 H2 λb H3=>if b=true then te σ2 H3 λy H4=>Same H0 H4/\ys++[y]=ys++(if q x=true then [f x] else []) else Same H0 H3/\ys=ys++(if q x=true then [f x] else []))
  (hd:∀ G,Same H0 G->Qe ((xs.filter q).map f) G):∃ W:Nat->Nat->List V->Hp->Prop,(∃ m,W 0 m [] H0)/\ZbF sel g tt te σ (Iti (xs.map λx=>(kx x,vx x))) W Qe:=by
 refine Zi8 (λi ys G=>Same H0 G/\ys=((xs.take i).filter q).map f) ⟨Same.refl _,rfl⟩ ?_ (by rw [List.length_map];exact hz) ?_ ?_
 ·rintro i ys G hi ⟨_,rfl⟩
  rw [List.length_map]
  exact Nat.le_trans (List.length_filter_le _ _) (by rw [List.length_take];omega)
 ·rintro i kv ys G p hx ⟨sG,rfl⟩ hp
  rw [List.getElem?_map] at hx
  cases ex:xs[i]? with
  |none=>rw [ex] at hx;cases hx
  |some x =>
   rw [ex] at hx
   cases hx
   have e:((xs.take (i+1)).filter q).map f=((xs.take i).filter q).map f++(if q x=true then [f x] else []):=by
    rw [List.take_succ,ex,List.filter_append,List.map_append]
    congr 1
    by_cases h:q x=true
    ·rw [if_pos h,Option.toList_some,List.filter_cons_of_pos h];rfl
    ·rw [if_neg h,Option.toList_some,List.filter_cons_of_neg h];rfl
   rw [e]
   exact hs x _ G p (List.mem_of_getElem? ex) sG hp
 ·rintro ys G ⟨s,rfl⟩
  rw [List.length_map,List.take_length]
  exact hd G s
theorem ZjD {S:Gst} {p:Pl} (h:p∈S.os):((Zau S.os S.es).filter λe=>!e.dead).filter (λe=>decide (e.pl=p))=ZaJ S p:=by
 unfold Zau ZaJ
 rw [List.filter_filter,List.filter_filter]
 refine List.filter_congr λe _=>?_
 by_cases q:e.pl=p
 ·have:e.pl∈S.os:=q▸h
  simp [q,h]
 ·simp [q]
theorem ZdB {C C' dx dx':Addr} {fs fs':List (Str×V)} (h:fs.length≠fs'.length):HO.ins C dx fs≠HO.ins C' dx' fs':=λz=>by
 injection z with _ _ z
 exact h (congrArg List.length z)
section
variable {C:Cs} {H:Hp} {A:Ga} {S:Gst} {p:Pl}
theorem GAt.grp (B:GAt C H A S) (hp:p∈S.os) {dx:Addr} {f:Bool} {t:Addr} {l:List Str} {n:Nat} (ht:H t=some (.tup (l.map V.str))):GAt C (upd H (A.gs p) (.ins C.R dx (flR f t))) A { S with of:=setP S.of p f,ff:=setP S.ff p l,fz:=n }/\Stp (PrgA A S) H (PrgA A { S with of:=setP S.of p f,ff:=setP S.ff p l,fz:=n }) (upd H (A.gs p) (.ins C.R dx (flR f t))):=by
 obtain ⟨d0,t0,g1,g2⟩:=B.gr p hp
 have nt:∀ {c:Addr} {u:HO},H c=some u->u≠.ins C.R d0 (flR (S.of p) t0)->upd H (A.gs p) (.ins C.R dx (flR f t)) c=some u:=λe n=>by rw [Zae (Zaq e g1 n)];exact e
 obtain ⟨dg,hg⟩:=B.ob
 refine ⟨⟨⟨dg,nt hg (ZdB (by simp [flG,flR]))⟩,nt B.od (λz=>nomatch z),nt B.md (λz=>nomatch z),nt B.ed (λz=>nomatch z),nt B.pd (λz=>nomatch z),B.ne1,B.ne2,λq hq=>?_,B.gi,λe he=>?_,B.mi⟩,⟨λc u n e=>?_,λc h=>.inl h⟩⟩
 ·by_cases z:q=p
  ·subst z
   refine ⟨dx,t,?_,?_⟩
   ·show upd H (A.gs q) _ (A.gs q)=some (.ins C.R dx (flR (setP S.of q f q) t))
    rw [Za4];exact Zab
   ·show upd H (A.gs q) _ t=some (.tup ((setP S.ff q l q).map V.str))
    rw [Za4];exact nt ht (λz=>nomatch z)
  ·obtain ⟨d1,t1,h1,h2⟩:=B.gr q hq
   refine ⟨d1,t1,?_,?_⟩
   ·show upd H (A.gs p) _ (A.gs q)=some (.ins C.R d1 (flR (setP S.of p f q) t1))
    rw [Zbr z,Zae λw=>z (B.gi q hq p hp w)]
    exact h1
   ·show upd H (A.gs p) _ t1=some (.tup ((setP S.ff p l q).map V.str))
    rw [Zbr z];exact nt h2 (λz=>nomatch z)
 ·obtain ⟨dm,h,h1,h2,h3⟩:=B.me e he
  exact ⟨dm,h,nt h1 (ZdB (by simp [flM,flR])),nt h2 (λz=>nomatch z),h3.mono λt xs q=>nt q (λz=>nomatch z)⟩
 ·rw [Zae λz=>n (.inr (.inr (.inr (.inr (.inr (.inl ⟨p,hp,z⟩))))))]
  exact e
end
theorem eqP {K:PySem.W.Frag} {neg:Bool} {H:Hp} {s t:Addr} {a b c d:Int} {R:VK} (hs:H s=some (.tup [.int a,.int b])) (ht:H t=some (.tup [.int c,.int d])) (k:R (.bl (neg^^decide ((a,b)=(c,d)))) H):rEqT K neg (.ref s) (.ref t) H R:=by
 refine ⟨s,t,_,_,0,λi=>eqV ((([V.int a,V.int b]:List V)[i]?).getD .non) ((([V.int c,V.int d]:List V)[i]?).getD .non),rfl,rfl,SqT.of hs,SqT.of ht,by decide,λi x y ex ey=>?_,?_⟩
 ·show EqD K H 0 x y (eqV ((([V.int a,V.int b]:List V)[i]?).getD .non) ((([V.int c,V.int d]:List V)[i]?).getD .non))
  rw [ex,ey]
  refine .flat ?_ ?_
  ·match i,ex with
   |0,ex=>cases ex;rfl
   |1,ex=>cases ex;rfl
   |i+2,ex=>simp at ex
  ·match i,ey with
   |0,ey=>cases ey;rfl
   |1,ey=>cases ey;rfl
   |i+2,ey=>simp at ey
 ·have e:((List.range (min ([V.int a,V.int b]:List V).length ([V.int c,V.int d]:List V).length)).all (λi=>eqV ((([V.int a,V.int b]:List V)[i]?).getD .non) ((([V.int c,V.int d]:List V)[i]?).getD .non))&&([V.int a,V.int b]:List V).length == ([V.int c,V.int d]:List V).length)=decide ((a,b)=(c,d)):=by
   show ((List.range 2).all (λi=>eqV ((([V.int a,V.int b]:List V)[i]?).getD .non) ((([V.int c,V.int d]:List V)[i]?).getD .non))&&true)=_
   rw [show List.range 2=[0,1] from rfl]
   show ((eqV (.int a) (.int c)&&(eqV (.int b) (.int d)&&true))&&true)=_
   show (((a == c)&&((b == d)&&true))&&true)=_
   by_cases h1:a=c<;>by_cases h2:b=d<;>simp [h1,h2]
  rw [e]
  exact k
theorem OkS.flt {S:Gst} (ok:OkS S) {p:Pl} {l:List Str} (hp:p∈S.os) (hl:l.length<=3) (h:S.fz+3<=400):OkS (fltS S p l):=by
 refine ⟨ok.nd,ok.sub,ok.who,ok.hm,ok.sz,h,λq hq=>?_⟩
 show (setP S.ff p (S.ff p++l) q).length<=S.fz+3
 by_cases z:q=p
 ·subst z
  rw [Za4,List.length_append]
  have:=ok.fs q hp
  omega
 ·rw [Zbr z]
  have:=ok.fs q hq
  omega
theorem OkS.offS {S:Gst} (ok:OkS S) (p:Pl):OkS (offS S p):=⟨ok.nd,ok.sub,ok.who,ok.hm,ok.sz,ok.fl,ok.fs⟩
theorem ZbI {es:List Ent} (nd:(es.map Ent.who).Nodup):∀ {e e':Ent},e∈es->e'∈es->e.who=e'.who->e=e':=by
 induction es with
 |nil=>intro e e' h;cases h
 |cons x r ih =>
  rw [List.map_cons,List.nodup_cons] at nd
  intro e e' h h' z
  rcases List.mem_cons.mp h with h | h<;>rcases List.mem_cons.mp h' with h' | h'
  ·rw [h,h']
  ·exact absurd (List.mem_map.mpr ⟨e',h',by rw [<- z,h]⟩) nd.1
  ·exact absurd (List.mem_map.mpr ⟨e,h,by rw [z,h']⟩) nd.1
  ·exact ih nd.2 h h' z
theorem ZdZ {f:Int->V} (w:Int) (t:Addr) (l:List Ent):((kill w t l).map λe=>((Sum.inl e.who:Key),f e.who))=l.map λe=>(Sum.inl e.who,f e.who):=by
 rw [ZaH,ZaH,ZdY]
theorem Zcn {w:Int} {t:Addr} {l:List Ent} {e:Ent} (h:e∈kill w t l):∃ e0∈l,e=if e0.who=w then { e0 with res:=some t } else e0:=by
 obtain ⟨e0,h0,z⟩:=List.mem_map.mp h
 exact ⟨e0,h0,z.symm⟩
theorem OkS.kill {S:Gst} (ok:OkS S) (w:Int) (t:Addr):OkS (Zbe S w t):=by
 refine ⟨ok.nd,ok.sub,?_,λe he=>?_,?_,ok.fl,ok.fs⟩
 ·show ((K61.kill w t S.es).map Ent.who).Nodup
  rw [ZdY];exact ok.who
 ·obtain ⟨e0,h0,rfl⟩:=Zcn he
  rw [Zfb]
  exact ok.hm e0 h0
 ·refine ⟨ok.sz.1,?_,ok.sz.2.2⟩
  show (K61.kill w t S.es).length<=60
  unfold K61.kill
  rw [List.length_map]
  exact ok.sz.2.1
theorem GAt.killE {C:Cs} {H:Hp} {A:Ga} {S:Gst} (B:GAt C H A S) (ok:OkS S) {e:Ent} (he:e∈Zau S.os S.es) {dx h t:Addr} {xs:List V} (h1:H (A.ms e.who)=some (.ins C.M dx (flM h e.lab (resV e.res)))) (h2:H h=some (.tup [.int e.own,.int e.sc])) (ht:H t=some (.tup xs)) (hpl:∀ x∈xs,PlV x) :
  GAt C (upd H (A.ms e.who) (.ins C.M dx (flM h e.lab (.ref t)))) A (Zbe S e.who t)/\Stp (PrgA A S) H (PrgA A (Zbe S e.who t)) (upd H (A.ms e.who) (.ins C.M dx (flM h e.lab (.ref t)))):=by
 have nt:∀ {c:Addr} {u:HO},H c=some u->u≠.ins C.M dx (flM h e.lab (resV e.res))->upd H (A.ms e.who) (.ins C.M dx (flM h e.lab (.ref t))) c=some u:=λq n=>by rw [Zae (Zaq q h1 n)];exact q
 obtain ⟨dg,hg⟩:=B.ob
 have lv:∀ {x:Ent},x∈Zau S.os (kill e.who t S.es)->∃ x0∈Zau S.os S.es,x=if x0.who=e.who then { x0 with res:=some t } else x0:=λhx=>by
  rw [Zev] at hx
  exact Zcn hx
 refine ⟨⟨⟨dg,nt hg (ZdB (by simp [flG,flM]))⟩,nt B.od (λz=>nomatch z),?_,nt B.ed (λz=>nomatch z),?_,B.ne1,B.ne2,λq hq=>?_,B.gi,λx hx=>?_,λx hx x' hx' z=>?_⟩,⟨λc u n q=>?_,λc h=>.inl ?_⟩⟩
 ·show upd H (A.ms e.who) _ A.m=some (.dK ((Zau S.os (kill e.who t S.es)).map λe=>(Sum.inl e.who,.ref (A.ms e.who))))
  rw [Zev,ZdZ (f:=λw=>.ref (A.ms w))]
  exact nt B.md (λz=>nomatch z)
 ·show upd H (A.ms e.who) _ A.pe=some (.dK ((kill e.who t S.es).map λe=>(Sum.inl e.who,.bl true)))
  rw [ZdZ (f:=λ_=>.bl true)]
  exact nt B.pd (λz=>nomatch z)
 ·obtain ⟨d1,t1,k1,k2⟩:=B.gr q hq
  exact ⟨d1,t1,nt k1 (ZdB (by simp [flR,flM])),nt k2 (λz=>nomatch z)⟩
 ·obtain ⟨x0,hx0,rfl⟩:=lv hx
  by_cases q:x0.who=e.who
  ·obtain rfl:=ZbI ok.who (ZaU hx0).1 (ZaU he).1 q
   rw [if_pos rfl]
   refine ⟨dx,h,Zab,nt h2 (λz=>nomatch z),λt' z=>?_⟩
   cases z
   exact ⟨xs,nt ht (λz=>nomatch z),hpl⟩
  ·rw [if_neg q]
   obtain ⟨d1,th,k1,k2,k3⟩:=B.me x0 hx0
   refine ⟨d1,th,?_,nt k2 (λz=>nomatch z),k3.mono λt xs q=>nt q (λz=>nomatch z)⟩
   rw [Zae λz=>q (B.mi x0 hx0 e he z)]
   exact k1
 ·obtain ⟨x0,hx0,rfl⟩:=lv hx
  obtain ⟨x1,hx1,rfl⟩:=lv hx'
  rw [Zdh,Zdh] at z |-
  exact B.mi x0 hx0 x1 hx1 z
 ·rw [Zae λz=>n (.inr (.inr (.inr (.inr (.inr (.inr ⟨e,he,z⟩))))))]
  exact q
 ·rcases h with h | h | h | h | h | ⟨p,hp,h⟩ | ⟨x,hx,h⟩
  ·exact .inl h
  ·exact .inr (.inl h)
  ·exact .inr (.inr (.inl h))
  ·exact .inr (.inr (.inr (.inl h)))
  ·exact .inr (.inr (.inr (.inr (.inl h))))
  ·exact .inr (.inr (.inr (.inr (.inr (.inl ⟨p,hp,h⟩)))))
  ·obtain ⟨x0,hx0,rfl⟩:=lv hx
   rw [Zdh] at h
   exact .inr (.inr (.inr (.inr (.inr (.inr ⟨x0,hx0,h⟩)))))
theorem at_0 {x:V} {r:List V}:atI (x::r) 0=some x:=by
 have e:ixN (x::r).length 0=some 0:=by unfold ixN;simp
 unfold atI
 rw [e]
 rfl
theorem Zdz {S:Gst} {p:Pl}:Zau (S.os.filter λq=>decide (q≠p)) S.es=(Zau S.os S.es).filter λe=>decide (e.pl≠p):=by
 unfold Zau
 rw [List.filter_filter]
 refine List.filter_congr λe _=>?_
 by_cases h:e.pl=p
 ·simp [h]
 ·by_cases h2:e.pl∈S.os
  ·simp [h,h2]
  ·simp [h,h2]
theorem GAt.closeE {C:Cs} {H H':Hp} {A:Ga} {S:Gst} {p:Pl} {d dx:Addr} (B:GAt C H A S) (kp:But2 A.o A.g H H') (ho:H' A.o=some (.dT ((S.os.filter λq=>decide (q≠p)).map λp=>(keyP p,.ref (A.gs p))))) (hg:H' A.g=some (.ins C.G dx (flG A.o d A.oe A.pe)))
  (hd:H' d=some (.dK (((Zau S.os S.es).filter λe=>decide (e.pl≠p)).map λe=>(Sum.inl e.who,.ref (A.ms e.who))))) (dn:H d=none) :
  GAt C H' { A with m:=d } (clsS S p)/\Stp (PrgA A S) H (PrgA { A with m:=d } (clsS S p)) H':=by
 obtain ⟨dg,hg0⟩:=B.ob
 have lc:∀ {e:Ent},e∈Zau (clsS S p).os (clsS S p).es->e∈(Zau S.os S.es).filter λe=>decide (e.pl≠p):=λh=>by rw [<- Zdz];exact h
 have nt:∀ {c:Addr} {u:HO},H c=some u->u≠.dT (S.os.map λp=>(keyP p,.ref (A.gs p)))->u≠.ins C.G dg (flG A.o A.m A.oe A.pe)->H' c=some u:=λe n1 n2=>kp _ _ (Zaq e B.od n1) (Zaq e hg0 n2) e
 have eo:H' A.oe=some (.dT (S.ev.map λp=>(keyP p,.bl true))):=kp _ _ (Ne.symm B.ne1) (Zaq B.ed hg0 (λz=>nomatch z)) B.ed
 refine ⟨⟨⟨dx,hg⟩,ho,?_,eo,nt B.pd (λz=>nomatch z) (λz=>nomatch z),B.ne1,λz=>?_,λq hq=>?_,λq hq q' hq'=>B.gi q (List.mem_filter.mp hq).1 q' (List.mem_filter.mp hq').1,λe he=>?_,λe he e' he'=>?_⟩,⟨λc u n e=>kp c u (λz=>n (.inr (.inl z))) (λz=>n (.inl z)) e,λc h=>?_⟩⟩
 ·show H' d=some (.dK ((Zau (S.os.filter λq=>decide (q≠p)) S.es).map _))
  rw [Zdz];exact hd
 ·have z':d=A.pe:=z
  rw [z',B.pd] at dn;cases dn
 ·obtain ⟨d1,t1,k1,k2⟩:=B.gr q (List.mem_filter.mp hq).1
  exact ⟨d1,t1,nt k1 (λz=>nomatch z) (ZdB (by simp [flR,flG])),nt k2 (λz=>nomatch z) (λz=>nomatch z)⟩
 ·have he:=lc he
  obtain ⟨d1,th,k1,k2,k3⟩:=B.me e (List.mem_filter.mp he).1
  exact ⟨d1,th,nt k1 (λz=>nomatch z) (ZdB (by simp [flM,flG])),nt k2 (λz=>nomatch z) (λz=>nomatch z),k3.mono λt xs q=>nt q (λz=>nomatch z) (λz=>nomatch z)⟩
 ·have he:=lc he
  have he':=lc he'
  exact B.mi e (List.mem_filter.mp he).1 e' (List.mem_filter.mp he').1
 ·rcases h with h | h | h | h | h | ⟨q,hq,h⟩ | ⟨x,hx,h⟩
  ·exact .inl (.inl h)
  ·exact .inl (.inr (.inl h))
  ·exact .inr (by rw [show c=d from h];exact dn)
  ·exact .inl (.inr (.inr (.inr (.inl h))))
  ·exact .inl (.inr (.inr (.inr (.inr (.inl h)))))
  ·exact .inl (.inr (.inr (.inr (.inr (.inr (.inl ⟨q,(List.mem_filter.mp hq).1,h⟩))))))
  ·exact .inl (.inr (.inr (.inr (.inr (.inr (.inr ⟨x,(List.mem_filter.mp (lc hx)).1,h⟩))))))
theorem ZlO {o m oe pe:Addr}:putF "put_ever" (.ref pe) (putF "opened_ever" (.ref oe) (putF "members" (.ref m) (putF "opened" (.ref o) [])))=flG o m oe pe:=by
 have e1:putF "opened" (.ref o) []=[((Str.ofString "opened"),V.ref o)]:=rfl
 have e2:putF "members" (.ref m) [((Str.ofString "opened"),V.ref o)]=[((Str.ofString "opened"),V.ref o),((Str.ofString "members"),V.ref m)]:=by rw [putF,if_neg (by decide +kernel)];rfl
 have e3:putF "opened_ever" (.ref oe) [((Str.ofString "opened"),V.ref o),((Str.ofString "members"),V.ref m)]=[((Str.ofString "opened"),V.ref o),((Str.ofString "members"),V.ref m),((Str.ofString "opened_ever"),V.ref oe)]:=by rw [putF,if_neg (by decide +kernel),putF,if_neg (by decide +kernel)];rfl
 rw [e1,e2,e3,putF,if_neg (by decide +kernel),putF,if_neg (by decide +kernel),putF,if_neg (by decide +kernel)];rfl
theorem Zfs {H:Hp} {p m:Addr} {u v w:HO} (hp:H p=some u) (hm:H m=none):p≠m/\upd H m v p=some u/\upd (upd H m v) p w p=some w/\upd (upd H m v) p w m=some v/\∀ c x,c≠p->H c=some x->upd (upd H m v) p w c=some x:=by
 have n:p≠m:=Zai hp hm
 exact ⟨n,by rw [Zae n];exact hp,Zab,by rw [Zae (Ne.symm n)];exact Zab,λc x nc e=>by rw [Zae nc,Zae (Zai e hm)];exact e⟩
theorem ifp {c:Prop} [Decidable c] {P Q:Prop} (h:c) (p:P):if c then P else Q:=by rw [if_pos h];exact p
theorem ifn {c:Prop} [Decidable c] {P Q:Prop} (h:¬ c) (q:Q):if c then P else Q:=by rw [if_neg h];exact q
theorem ZbD {α:Type} (f:Pl->α) (p:Pl):setP f p (f p)=f:=by
 funext q
 unfold setP
 by_cases h:q=p
 ·rw [if_pos h,h]
 ·rw [if_neg h]
theorem Zet {S:Gst} {p:Pl} (h:S.of p=true):offS S p=S:=by
 unfold offS
 rw [<- h,ZbD]
theorem Zd0 {S:Gst} (nd:(S.es.map Ent.who).Nodup) {e:Ent} (he:e∈S.es):ZbH S e.who=e.pl:=by
 unfold ZbH
 have:S.es.find? (λx=>decide (x.who=e.who))=some e:=by
  cases hf:S.es.find? (λx=>decide (x.who=e.who)) with
  |none =>
   have:=List.find?_eq_none.mp hf e he
   simp at this
  |some x =>
   have h1:=List.mem_of_find?_eq_some hf
   have h2:=List.find?_some hf
   rw [ZbI nd h1 he (of_decide_eq_true h2)]
 rw [this]
 rfl
theorem GAt.was {C:Cs} {H H':Hp} {A A':Ga} {S S':Gst} (B:GAt C H' A' S') (st:Stp (PrgA A S) H (PrgA A' S') H') (sub:∀ c,PrgA A S c->PrgA A' S' c) {r:Addr} (h:H' r=none):H r=none:=by
 refine st.free h λz=>?_
 obtain ⟨u,e,_⟩:=B.own (sub _ z)
 rw [h] at e;cases e
theorem MkAt.same {H H':Hp} {r:Addr} {rows:List Pl} (x:MkAt H r rows) (s:Same H H'):MkAt H' r rows:=by
 obtain ⟨ps,h1,h2,h3⟩:=x
 exact ⟨ps,s _ _ h1,h2,λi p q a b=>s _ _ (h3 i p q a b)⟩
theorem RvAt.same {H0 H H':Hp} {v:V} {x:Rv} (h:RvAt H0 H v x) (s:Same H H'):RvAt H0 H' v x:=by
 cases x with
 |non=>exact h
 |bl b=>exact h
 |mk rows =>
  obtain ⟨r,h1,h2,h3⟩:=h
  exact ⟨r,h1,h2,h3.same s⟩
theorem ZbK {α:Type} {xs:List α} {y x:α} {i:Nat} (h:(xs++[y])[i]?=some x):xs[i]?=some x\/(i=xs.length/\x=y):=by
 by_cases hi:i<xs.length
 ·rw [List.getElem?_append_left hi] at h;exact .inl h
 ·rw [List.getElem?_append_right (by omega)] at h
  cases hj:i-xs.length with
  |zero=>rw [hj] at h;simp at h;exact .inr ⟨by omega,h.symm⟩
  |succ j=>rw [hj] at h;simp at h
theorem ZcR {α β:Type} {R:α->β->Prop} {xs:List α} {ys:List β} {x:α} {y:β} (e:xs.length=ys.length) (h:∀ (i:Nat) p q,xs[i]?=some p->ys[i]?=some q->R p q) (h':R x y):∀ (i:Nat) p q,(xs++[x])[i]?=some p->(ys++[y])[i]?=some q->R p q:=by
 intro i p q hp hq
 rcases ZbK hp with a | ⟨a,rfl⟩<;>rcases ZbK hq with b | ⟨b,rfl⟩
 ·exact h i p q a b
 ·have:=(List.getElem?_eq_some_iff.mp a).1;omega
 ·have:=(List.getElem?_eq_some_iff.mp b).1;omega
 ·exact h'
theorem PlV.cons {k:Str} {r:List V} (h:∀ x∈r,PlV x):∀ x∈V.str k::r,PlV x:=λx hx=>by
 rcases List.mem_cons.mp hx with rfl | z
 ·exact .inl rfl
 ·exact h x z
theorem hitT {K:PySem.W.Frag} {H:Hp} {t:Addr} {w:Str} {xs:List V} {F G:Hp->Prop} (ht:H t=some (.tup (.str w::xs))) (k:F H):rIxT K (.ref t) (.int 0) H λx H1=>scal x (.str w)=true/\if decide (x=.str w)=true then F H1 else G H1 :=
 ixT ht at_0 ⟨rfl,by rw [if_pos (by simp)];exact k⟩
theorem ZaM {K:PySem.W.Frag} {H:Hp} {t:Addr} {v w:Str} {xs:List V} {F G:Hp->Prop} (n:¬ v=w) (ht:H t=some (.tup (.str v::xs))) (k:G H):rIxT K (.ref t) (.int 0) H λx H1=>scal x (.str w)=true/\if decide (x=.str w)=true then F H1 else G H1 :=
 ixT ht at_0 ⟨rfl,by rw [if_neg (by simpa using n)];exact k⟩
def ZeS (Ov:Addr):Sp:=λvs H Q _=>∃ a,vs=[.ref a]/\H a=some (exHO a Ov)/\∀ H',Same H H'->Q (.bl true) H'
def ZeP:Sp:=λvs H Q _=>∃ x:Int,vs=[.int x]/\∀ r:Int,0<=r->r<2147483647->Q (.int r) H
def Zfx:Sp:=λvs H Q _=>∃ c m:Int,vs=[.int c,.int m]/\0<=m/\m<=100/\∀ (l:Addr) (ns:List Int) (H':Hp),H l=none->(ns.length:Int)=m->(∀ n∈ns,0<=n/\n<2147483647)->H' l=some (.lst (ns.map V.int))->Same H H'->Q (.ref l) H'
theorem ZgD {xs:List V} {i:Int} (h0:0<=i) (h1:i<xs.length):∃ v,v∈xs/\atI xs i=some v:=by
 have lt:i.toNat<xs.length:=by omega
 refine ⟨xs[i.toNat],List.getElem_mem lt,?_⟩
 have e:ixN xs.length i=some i.toNat:=by
  unfold ixN
  rw [if_pos h0]
  simp [lt,h1]
 unfold atI
 rw [e]
 exact List.getElem?_eq_getElem lt
def DdAt (H:Hp) (t:Addr):Dd->Prop
 |.opn a b=>H t=some (.tup [.str "open",.int a,.int b])
 |.put a b l w=>H t=some (.tup [.str "put",.int a,.int b,.str l,.int w])
 |.fin w o fs=>H t=some (.tup [.str "end",.int w,.ref o])/\OutAt H o fs
 |.note a b fs=>∃ f,H t=some (.tup [.str "note",.int a,.int b,.ref f])/\H f=some (.tup (fs.map V.str))/\fs.length<=3
 |.off a b=>H t=some (.tup [.str "off",.int a,.int b])
 |.cls a b=>H t=some (.tup [.str "close",.int a,.int b])
theorem OutAt.mono {H H':Hp} {t:Addr} {fs:Option (List Str)} (x:OutAt H t fs) (s:∀ t xs,H t=some (.tup xs)->H' t=some (.tup xs)):OutAt H' t fs:=by
 obtain ⟨k,r,h1,h0,h2⟩:=x
 refine ⟨k,r,s _ _ h1,h0,h2.imp id ?_⟩
 rintro ⟨l,f,a1,a2,a3,a4,a5⟩
 exact ⟨l,f,a1,a2,a3,s _ _ a4,a5⟩
theorem DdAt.mono {H H':Hp} {t:Addr} {D:Dd} (x:DdAt H t D) (s:∀ t xs,H t=some (.tup xs)->H' t=some (.tup xs)):DdAt H' t D:=by
 cases D with
 |opn a b=>exact s _ _ x
 |put a b l w=>exact s _ _ x
 |fin w o fs=>exact ⟨s _ _ x.1,x.2.mono s⟩
 |note a b fs =>
  obtain ⟨f,h1,h2,h3⟩:=x
  exact ⟨f,s _ _ h1,s _ _ h2,h3⟩
 |off a b=>exact s _ _ x
 |cls a b=>exact s _ _ x
def ZdO (C:Cs) (Ov:Addr):Sp:=λvs H Q E=>∃ A S t D,vs=[.ref A.g,.ref t]/\DdAt H t D/\GAt C H A S/\OkS S/\Rm S/\Does C Ov H A S D Q E
def ZgX (C:Cs):Sp:=λvs H Q _=>∃ A S t D,vs=[.ref A.g,.ref t]/\DdAt H t D/\GAt C H A S/\OkS S/\Rm S /\
 (¬ Ref S D->∀ H' A' r v,GAt C H' A' (nxt S D)->Stp (PrgA A S) H (PrgA A' (nxt S D)) H'->A'.g=A.g->H' r=some (.tup [.str "told",v])->RvAt H H' v (ret S D)->Q (.ref r) H') /\
 (Ref S D->∀ H' r,Same H H'->H' r=some (.tup [.str "over"])->Q (.ref r) H')
def Zeg:Sp:=λvs H Q _=>∃ x:Int,vs=[.int x]/\∀ H' t fs,Same H H'->OutAt H' t fs->(x%4=1->∃ (f:Addr) (l:List Str),H' t=some (.tup [.str "faults",.ref f])/\H' f=some (.tup (l.map V.str))/\l.length<=3)->Q (.ref t) H'
def sKv (op ev hm od:Addr) (mn:Int):List (Key×V):=[(Sum.inr "open",.ref op),(Sum.inr "ever",.ref ev),(Sum.inr "home",.ref hm),(Sum.inr "order",.ref od),(Sum.inr "many",.int mn)]
theorem Zhi {op ev hm od:Addr} {mn:Int}:Zdd [] (sKv op ev hm od mn)=sKv op ev hm od mn:=by with_unfolding_all rfl
def Zg2:Sp:=λvs H Q _=>vs=[]/\∀ s op ev hm od H',Same H H'->H s=none->H op=none->H ev=none->H hm=none->H od=none ->
 H' s=some (.dK (sKv op ev hm od 0))->H' op=some (.dT [])->H' ev=some (.lst [])->H' hm=some (.dK [])->H' od=some (.lst [])->ev≠od->Q (.ref s) H'
set_option genInjectivity false in
structure La where
 s:Addr
 op:Addr
 ev:Addr
 hm:Addr
 od:Addr
 ds:Pl->Addr
 as:Pl->Addr
 hs:Int->Addr
def dKv (al:Addr) (off:Bool) (ft:Addr):List (Key×V):=[(Sum.inr "all",.ref al),(Sum.inr "off",.bl off),(Sum.inr "faults",.ref ft)]
def mnS (S:Gst):Int:=(S.es.map Ent.who).foldl max 0
theorem Ze7:∀ (l:List Int) (a:Int),a<=l.foldl max a/\∀ x∈l,x<=l.foldl max a
 |[],a=>⟨Int.le_refl _,λx h=>(nomatch h)⟩
 |y::r,a=>by
  obtain ⟨h1,h2⟩:=Ze7 r (max a y)
  rw [List.foldl_cons]
  refine ⟨by omega,λx hx=>?_⟩
  rcases List.mem_cons.mp hx with z | z
  ·rw [z];omega
  ·exact h2 x z
theorem Zlz (S:Gst):0<=mnS S:=(Ze7 _ 0).1
theorem ZjU {S:Gst} {e:Ent} (h:e∈S.es):e.who<=mnS S:=(Ze7 _ 0).2 _ (List.mem_map.mpr ⟨e,h,rfl⟩)
structure LAt (H:Hp) (L:La) (S:Gst):Prop where
 sd:∃ mn,(0<=mn/\mn=mnS S)/\H L.s=some (.dK (sKv L.op L.ev L.hm L.od mn))
 oq:Rd H L.op (.dT (S.os.map λp=>(keyP p,.ref (L.ds p))))
 eq:∃ ps:List Addr,H L.ev=some (.lst (ps.map V.ref))/\ps.length=S.ev.length/\∀ (i:Nat) p e,ps[i]?=some p->S.ev[i]?=some e->H p=some (.tup [.int e.1,.int e.2])
 hq:H L.hm=some (.dK (S.es.map λe=>(Sum.inl e.who,.ref (L.hs e.who))))
 ht:∀ e∈S.es,H (L.hs e.who)=some (.tup [.int e.own,.int e.sc])
 dq:∃ ps:List Addr,H L.od=some (.lst (ps.map V.ref))/\ps.length=S.es.length/\∀ (i:Nat) p e,ps[i]?=some p->S.es[i]?=some e->H p=some (.tup [.int e.own,.str e.lab,.int e.who])
 ne:L.ev≠L.od
 dd:∀ p∈S.os,∃ ft,H (L.ds p)=some (.dK (dKv (L.as p) (S.of p) ft))/\H ft=some (.tup ((S.ff p).map V.str))
 da:∀ p∈S.os,H (L.as p)=some (.dK ((S.es.filter λe=>decide (e.pl=p)).map λe=>(Sum.inl e.who,resV e.res)))
 dr:∀ e∈S.es,resT H e.res
 ai:∀ p∈S.os,∀ q∈S.os,L.as p=L.as q->p=q
 ah:∀ p∈S.os,L.as p≠L.hm
theorem _root_.L2.Rd.same {H H':Hp} {a:Addr} {u:HO} (r:Rd H a u) (s:Same H H'):Rd H' a u:=by
 rcases r with r | ⟨o,r⟩
 ·exact .inl (s _ _ r)
 ·exact .inr ⟨o,s _ _ r⟩
theorem LAt.same {H H':Hp} {L:La} {S:Gst} (B:LAt H L S) (s:Same H H'):LAt H' L S:=by
 obtain ⟨⟨mn,b0,b1⟩,b2,⟨ps,e1,e2,e3⟩,b4,b5,⟨qs,d1,d2,d3⟩,b7,b8,b9,b10,ai,ah⟩:=B
 refine ⟨⟨mn,b0,s _ _ b1⟩,b2.same s,⟨ps,s _ _ e1,e2,λi p e h h'=>s _ _ (e3 i p e h h')⟩,s _ _ b4,λe he=>s _ _ (b5 e he),⟨qs,s _ _ d1,d2,λi p e h h'=>s _ _ (d3 i p e h h')⟩,b7,λp hp=>?_,λp hp=>s _ _ (b9 p hp),λe he=>(b10 e he).mono λt xs q=>s _ _ q,ai,ah⟩
 obtain ⟨ft,h1,h2⟩:=b8 p hp
 exact ⟨ft,s _ _ h1,s _ _ h2⟩
theorem ZfD {op ev hm od:Addr} {mn:Int}:valV (sKv op ev hm od mn) (Sum.inr "open":Key)=some (.ref op):=by with_unfolding_all rfl
theorem ZiR {op ev hm od:Addr} {mn:Int}:valV (sKv op ev hm od mn) (Sum.inr "ever":Key)=some (.ref ev):=by with_unfolding_all rfl
theorem ZfF {op ev hm od:Addr} {mn:Int}:valV (sKv op ev hm od mn) (Sum.inr "home":Key)=some (.ref hm):=by with_unfolding_all rfl
theorem Zhh {op ev hm od:Addr} {mn:Int}:valV (sKv op ev hm od mn) (Sum.inr "order":Key)=some (.ref od):=by with_unfolding_all rfl
theorem ZfE {op ev hm od:Addr} {mn:Int}:valV (sKv op ev hm od mn) (Sum.inr "many":Key)=some (.int mn):=by with_unfolding_all rfl
section
variable {H:Hp} {L:La} {S:Gst}
theorem LAt.gOpen (B:LAt H L S):DGet H L.s (.str "open") (some (.ref L.op)):=by obtain ⟨mn,_,e⟩:=B.sd;rw [<- ZfD (mn:=mn)];exact DGet.k (k:=Sum.inr "open") e
theorem LAt.gEver (B:LAt H L S):DGet H L.s (.str "ever") (some (.ref L.ev)):=by obtain ⟨mn,_,e⟩:=B.sd;rw [<- ZiR (mn:=mn)];exact DGet.k (k:=Sum.inr "ever") e
theorem LAt.gHome (B:LAt H L S):DGet H L.s (.str "home") (some (.ref L.hm)):=by obtain ⟨mn,_,e⟩:=B.sd;rw [<- ZfF (mn:=mn)];exact DGet.k (k:=Sum.inr "home") e
theorem LAt.gPl (B:LAt H L S) {t:Addr} {p:Pl} (ht:H t=some (.tup [.int p.1,.int p.2])) (h:p∈S.os):DGet H L.op (.ref t) (some (.ref (L.ds p))) :=
 .inr ⟨_,keyP p,t,B.oq,rfl,ht,(ZaY Za0 (f:=λp=>.ref (L.ds p)) h).symm⟩
theorem LAt.gPlN (B:LAt H L S) {t:Addr} {p:Pl} (ht:H t=some (.tup [.int p.1,.int p.2])) (h:p∉S.os):DGet H L.op (.ref t) none :=
 .inr ⟨_,keyP p,t,B.oq,rfl,ht,(ZbC Za0 (f:=λp=>.ref (L.ds p)) h).symm⟩
theorem LAt.gHm (B:LAt H L S) {e:Ent} (h:e∈S.es):DGet H L.hm (.int e.who) (some (.ref (L.hs e.who))):=by
 rw [<- ZaY Zbf (f:=λw=>.ref (L.hs w)) (List.mem_map.mpr ⟨e,h,rfl⟩),<- ZaH (f:=λw=>.ref (L.hs w))]
 exact DGet.k (k:=Sum.inl e.who) B.hq
end
theorem Zih {al ft:Addr} {off:Bool}:valV (dKv al off ft) (Sum.inr "all":Key)=some (.ref al):=by with_unfolding_all rfl
theorem ZkY {al ft:Addr} {off:Bool}:valV (dKv al off ft) (Sum.inr "off":Key)=some (.bl off):=by with_unfolding_all rfl
theorem ZgB {al ft:Addr} {off:Bool}:valV (dKv al off ft) (Sum.inr "faults":Key)=some (.ref ft):=by with_unfolding_all rfl
theorem LAt.gAll {H:Hp} {L:La} {S:Gst} (B:LAt H L S) {p:Pl} (h:p∈S.os):DGet H (L.ds p) (.str "all") (some (.ref (L.as p))):=by
 obtain ⟨ft,h1,_⟩:=B.dd p h
 rw [<- Zih (al:=L.as p) (off:=S.of p) (ft:=ft)]
 exact DGet.k (k:=Sum.inr "all") h1
theorem ZdJ {e:Ent}:∀ {l:List Ent},(l.map Ent.who).Nodup->e∈l->some (resV e.res)=valV (l.map λe=>((Sum.inl e.who:Key),resV e.res)) (Sum.inl e.who)
 |x::r,nd,h=>by
  rw [List.map_cons,List.nodup_cons] at nd
  unfold valV
  rw [List.map_cons,List.find?_cons]
  by_cases z:x.who=e.who
  ·have:x=e:=by
    rcases List.mem_cons.mp h with q | q
    ·exact q.symm
    ·exact absurd (List.mem_map.mpr ⟨e,q,z.symm⟩) nd.1
   subst this
   simp
  ·have ne:¬ (Sum.inl x.who:Key)=Sum.inl e.who:=λy=>z (Sum.inl.inj y)
   simp only [decide_eq_false ne]
   rcases List.mem_cons.mp h with q | q
   ·exact absurd (by rw [q]) z
   ·exact ZdJ nd.2 q
def Zb9:Sp:=λvs H Q _=>∃ L S t p,vs=[.ref L.s,.ref t]/\LAt H L S/\OkS S/\H t=some (.tup [.int p.1,.int p.2])/\p∈S.os/\∀ H' r,Same H H'->H r=none->H' r=some (.lst ((Zaz S p).map V.int))->Q (.ref r) H'
theorem ZhK {d:Addr} {o:Obj} {kvs:List (Key×V)} {sel:List (Option Nat)} {g:TG} {tt:TT} {te:TE} {σ:St} {H:Hp} {Qe:List V->Hp->Prop} (Pv:Nat->List V->Hp->Prop) (h0:Pv 0 [] H)
  (hl:∀ i ys H,i<=kvs.length->Pv i ys H->H d=some (.frz o (.dK kvs))/\ys.length<=i) (hz:kvs.length<=sizeLine)
  (hs:∀ i kv ys H,kvs[i]?=some kv->Pv i ys H->g (kV kv.1) (selS sel σ) H λσ2 H2=>tt σ2 H2 λb H3=>if b=true then te σ2 H3 λy H4=>Pv (i+1) (ys++[y]) H4 else Pv (i+1) ys H3)
  (hd:∀ ys H,Pv kvs.length ys H->Qe ys H):∃ W:Nat->Nat->List V->Hp->Prop,(∃ m,W 0 m [] H)/\ZbF sel g tt te σ (Itd d o kvs) W Qe:=by
 refine ⟨λi m ys H=>m=kvs.length-i/\i<=kvs.length/\Pv i ys H,⟨_,rfl,Nat.zero_le _,h0⟩,?_⟩
 rintro i m ys H ⟨rfl,hi,p⟩
 obtain ⟨hf,hy⟩:=hl i ys H hi p
 by_cases e:i=kvs.length
 ·subst e
  exact .inl ⟨⟨hf,Nat.le_refl _⟩,hd _ _ p⟩
 ·have hlt:i<kvs.length:=Nat.lt_of_le_of_ne hi e
  refine .inr ⟨⟨hf,hlt⟩,by omega,Pv (i+1),λys' H' p'=>⟨kvs.length-(i+1),by omega,rfl,hlt,p'⟩,?_⟩
  rintro x H' ⟨rfl,kv,hx,rfl⟩
  exact hs i kv ys _ hx p
theorem Ziu {S:Gst} {p:Pl}:((S.es.filter λe=>decide (e.pl=p)).filter λe=>!e.dead)=ZaJ S p:=by
 unfold ZaJ
 rw [List.filter_filter]
 refine List.filter_congr λe _=>?_
 cases decide (e.pl=p)<;>cases e.dead<;>rfl
theorem LAt.gMany {H:Hp} {L:La} {S:Gst} (B:LAt H L S):∃ mn,(0<=mn/\mn=mnS S)/\DGet H L.s (.str "many") (some (.int mn)):=by
 obtain ⟨mn,h,e⟩:=B.sd
 refine ⟨mn,h,?_⟩
 rw [<- ZfE (op:=L.op) (ev:=L.ev) (hm:=L.hm) (od:=L.od) (mn:=mn)]
 exact DGet.k (k:=Sum.inr "many") e
def ZgZ:Sp:=λvs H Q _=>∃ L S,∃ x:Int,vs=[.ref L.s,.int x]/\LAt H L S/\OkS S/\H L.op=some (.dT (S.os.map λp=>(keyP p,.ref (L.ds p))))/\∀ H' t a b,Same H H'->H' t=some (.tup [.int a,.int b])->Q (.ref t) H'
def LawA (L:La) (S:Gst) (c:Addr):Prop:=c=L.s\/c=L.op\/c=L.ev\/c=L.hm\/c=L.od\/∃ p∈S.os,c=L.ds p\/c=L.as p
def OpD (H:Hp) (L:La) (S:Gst):Prop:=H L.op=some (.dT (S.os.map λp=>(keyP p,.ref (L.ds p))))
theorem ZdF {al ft:Addr} {off:Bool} {l:List Ent} {f:Ent->V}:dKv al off ft≠l.map λe=>(Sum.inl e.who,f e):=by
 cases l with
 |nil=>intro z;cases z
 |cons e r =>
  intro z
  unfold dKv at z
  rw [List.map_cons,List.cons.injEq] at z
  have:=congrArg Prod.fst z.1
  cases this
theorem Zej {op ev hm od:Addr} {mn:Int} {l:List Ent} {f:Ent->V}:sKv op ev hm od mn≠l.map λe=>(Sum.inl e.who,f e):=by
 cases l with
 |nil=>intro z;cases z
 |cons e r =>
  intro z
  unfold sKv at z
  rw [List.map_cons,List.cons.injEq] at z
  have:=congrArg Prod.fst z.1
  cases this
theorem Zhj {op ev hm od al ft:Addr} {mn:Int} {off:Bool}:sKv op ev hm od mn≠dKv al off ft:=λz=>absurd (congrArg List.length z) (by simp [sKv,dKv])
theorem LAt.grpD {H:Hp} {L:La} {S:Gst} (B:LAt H L S) {p:Pl} (hp:p∈S.os) {off:Bool} {ft:Addr} {l:List Str} {n:Nat} (ht:H ft=some (.tup (l.map V.str))) :
  LAt (upd H (L.ds p) (.dK (dKv (L.as p) off ft))) L { S with of:=setP S.of p off,ff:=setP S.ff p l,fz:=n }/\Stp (LawA L S) H (LawA L { S with of:=setP S.of p off,ff:=setP S.ff p l,fz:=n }) (upd H (L.ds p) (.dK (dKv (L.as p) off ft))):=by
 obtain ⟨f0,g1,g2⟩:=B.dd p hp
 have nt:∀ {c:Addr} {u:HO},H c=some u->u≠.dK (dKv (L.as p) (S.of p) f0)->upd H (L.ds p) (.dK (dKv (L.as p) off ft)) c=some u:=λe n=>by rw [Zae (Zaq e g1 n)];exact e
 obtain ⟨⟨mn,b0,b1⟩,b2,⟨ps,e1,e2,e3⟩,b4,b5,⟨qs,d1,d2,d3⟩,b7,b8,b9,b10,ai,ah⟩:=B
 refine ⟨⟨⟨mn,b0,nt b1 λz=>?_⟩,?_,⟨ps,nt e1 (λz=>nomatch z),e2,λi p e h h'=>nt (e3 i p e h h') (λz=>nomatch z)⟩,nt b4 λz=>?_,λe he=>nt (b5 e he) (λz=>nomatch z),⟨qs,nt d1 (λz=>nomatch z),d2,λi p e h h'=>nt (d3 i p e h h') (λz=>nomatch z)⟩,b7,λq hq=>?_,λq hq=>nt (b9 q hq) λz=>?_,λe he=>(b10 e he).mono λt xs q=>nt q (λz=>nomatch z),ai,ah⟩,⟨λc u n e=>?_,λc h=>.inl h⟩⟩
 ·injection z with z
  exact Zhj z
 ·rcases b2 with r | ⟨o,r⟩
  ·exact .inl (nt r (λz=>nomatch z))
  ·exact .inr ⟨o,nt r (λz=>nomatch z)⟩
 ·injection z with z
  exact ZdF z.symm
 ·by_cases z:q=p
  ·subst z
   refine ⟨ft,?_,?_⟩
   ·show upd H (L.ds q) _ (L.ds q)=some (.dK (dKv (L.as q) (setP S.of q off q) ft))
    rw [Za4];exact Zab
   ·show upd H (L.ds q) _ ft=some (.tup ((setP S.ff q l q).map V.str))
    rw [Za4];exact nt ht (λz=>nomatch z)
  ·obtain ⟨f1,h1,h2⟩:=b8 q hq
   refine ⟨f1,?_,?_⟩
   ·show upd H (L.ds p) _ (L.ds q)=some (.dK (dKv (L.as q) (setP S.of p off q) f1))
    rw [Zbr z]
    refine nt h1 λw=>?_
    injection w with w
    unfold dKv at w
    rw [List.cons.injEq] at w
    have:=congrArg Prod.snd w.1
    exact z (ai q hq p hp (by simpa using this))
   ·show upd H (L.ds p) _ f1=some (.tup ((setP S.ff p l q).map V.str))
    rw [Zbr z];exact nt h2 (λz=>nomatch z)
 ·injection z with z
  exact ZdF z.symm
 ·rw [Zae λz=>n (.inr (.inr (.inr (.inr (.inr ⟨p,hp,.inl z⟩)))))]
  exact e
def ZeQ:Sp:=λvs H Q _=>∃ L S t p,vs=[.ref L.s,.ref t]/\LAt H L S/\OkS S/\H t=some (.tup [.int p.1,.int p.2])/\p∈S.os/\∀ H' r,LAt H' L (offS S p)->Stp (LawA L S) H (LawA L (offS S p)) H'->(OpD H L S->OpD H' L S)->H r=none->MkAt H' r (ZdW S p)->Q (.ref r) H'
theorem Zjw {al ft:Addr} {off b:Bool}:putK (dKv al off ft) (Sum.inr "off":Key) (.bl b)=dKv al b ft:=by with_unfolding_all rfl
theorem Zjx {al ft ft':Addr} {off:Bool}:putK (dKv al off ft) (Sum.inr "faults":Key) (.ref ft')=dKv al off ft':=by with_unfolding_all rfl
theorem LAt.own {H:Hp} {L:La} {S:Gst} (Z:LAt H L S) {c:Addr} (h:LawA L S c):∃ u,H c=some u/\∀ xs,u≠.tup xs:=by
 rcases h with rfl | rfl | rfl | rfl | rfl | ⟨p,hp,rfl | rfl⟩
 ·obtain ⟨mn,_,q⟩:=Z.sd;exact ⟨_,q,λ_ z=>(nomatch z)⟩
 ·rcases Z.oq with q | ⟨o,q⟩<;>exact ⟨_,q,λ_ z=>(nomatch z)⟩
 ·obtain ⟨ps,q,_⟩:=Z.eq;exact ⟨_,q,λ_ z=>(nomatch z)⟩
 ·exact ⟨_,Z.hq,λ_ z=>(nomatch z)⟩
 ·obtain ⟨ps,q,_⟩:=Z.dq;exact ⟨_,q,λ_ z=>(nomatch z)⟩
 ·obtain ⟨_,q,_⟩:=Z.dd p hp;exact ⟨_,q,λ_ z=>(nomatch z)⟩
 ·exact ⟨_,Z.da p hp,λ_ z=>(nomatch z)⟩
theorem LAt.frame {H H':Hp} {L:La} {S:Gst} {P P':Addr->Prop} (B:LAt H L S) (st:Stp P H P' H') (nt:∀ c,P c->∀ xs,H c≠some (.tup xs)) (ap:∀ c,P c->¬ LawA L S c):LAt H' L S:=by
 have tt:∀ {c:Addr} {xs:List V},H c=some (.tup xs)->H' c=some (.tup xs):=λe=>st.fr _ _ (λz=>nt _ z _ e) e
 have la:∀ {c:Addr} {u:HO},LawA L S c->H c=some u->H' c=some u:=λh e=>st.fr _ _ (λz=>ap _ z h) e
 obtain ⟨⟨mn,b0,b1⟩,b2,⟨ps,e1,e2,e3⟩,b4,b5,⟨qs,d1,d2,d3⟩,b7,b8,b9,b10,ai,ah⟩:=B
 refine ⟨⟨mn,b0,la (.inl rfl) b1⟩,?_,⟨ps,la (.inr (.inr (.inl rfl))) e1,e2,λi p e h h'=>tt (e3 i p e h h')⟩,la (.inr (.inr (.inr (.inl rfl)))) b4,λe he=>tt (b5 e he),⟨qs,la (.inr (.inr (.inr (.inr (.inl rfl))))) d1,d2,λi p e h h'=>tt (d3 i p e h h')⟩,b7,λp hp=>?_,λp hp=>la (.inr (.inr (.inr (.inr (.inr ⟨p,hp,.inr rfl⟩))))) (b9 p hp),λe he=>(b10 e he).mono λt xs q=>tt q,ai,ah⟩
 ·rcases b2 with r | ⟨o,r⟩
  ·exact .inl (la (.inr (.inl rfl)) r)
  ·exact .inr ⟨o,la (.inr (.inl rfl)) r⟩
 ·obtain ⟨ft,h1,h2⟩:=b8 p hp
  exact ⟨ft,la (.inr (.inr (.inr (.inr (.inr ⟨p,hp,.inl rfl⟩))))) h1,tt h2⟩
section
variable {H H':Hp} {L:La} {S:Gst} {a b w:Int} {l:Str} {p:Pl}
theorem LAt.open (B:LAt H L S) (ok:OkS S) (n:(a,b)∉S.ev) {t d al ft:Addr} {ps:List Addr} (op:OpD H L S) (kp:But2 L.ev L.op H H') (he:H L.ev=some (.lst (ps.map V.ref))) (he':H' L.ev=some (.lst ((ps++[t]).map V.ref))) (ht:H' t=some (.tup [.int a,.int b]))
  (ho:H' L.op=some (.dT ((S.os.map λp=>(keyP p,.ref (L.ds p)))++[(keyP (a,b),.ref d)]))) (hd:H' d=some (.dK (dKv al false ft))) (ha:H' al=some (.dK [])) (hf:H' ft=some (.tup [])) (dn:H d=none) (an:H al=none) :
  LAt H' { L with ds:=λp=>if p=(a,b) then d else L.ds p,as:=λp=>if p=(a,b) then al else L.as p } (opnS S (a,b)) /\
  OpD H' { L with ds:=λp=>if p=(a,b) then d else L.ds p,as:=λp=>if p=(a,b) then al else L.as p } (opnS S (a,b)) /\
  Stp (LawA L S) H (LawA { L with ds:=λp=>if p=(a,b) then d else L.ds p,as:=λp=>if p=(a,b) then al else L.as p } (opnS S (a,b))) H':=by
 have no:(a,b)∉S.os:=λh=>n (ok.sub _ h)
 have nt:∀ {c:Addr} {u:HO},H c=some u->(∀ k,u≠.dT k)->(∀ k,u≠.lst k)->H' c=some u:=λe h h'=>kp _ _ (Zaq e he λz=>h' _ z) (Zaq e op λz=>h _ z) e
 have nk:∀ {c:Addr} {k:List (Key×V)},H c=some (.dK k)->H' c=some (.dK k):=λe=>nt e (λ_ z=>nomatch z) (λ_ z=>nomatch z)
 have tt:∀ {c:Addr} {xs:List V},H c=some (.tup xs)->H' c=some (.tup xs):=λe=>nt e (λ_ z=>nomatch z) (λ_ z=>nomatch z)
 have old:∀ {p:Pl},p∈S.os++[(a,b)]->p≠(a,b)->p∈S.os:=λh z=>(List.mem_append.mp h).elim id λh=>absurd (List.mem_singleton.mp h) z
 have no1:∀ p∈S.os,p≠(a,b):=λp hp z=>no (z▸hp)
 have oe:H' L.op=some (.dT ((S.os++[(a,b)]).map λp=>(keyP p,.ref (if p=(a,b) then d else L.ds p)))):=by
  rw [ho,List.map_append,List.map_cons,List.map_nil,if_pos rfl]
  refine congrArg (λl=>some (HO.dT (l++_))) (List.map_congr_left λp hp=>?_)
  rw [if_neg (no1 p hp)]
 obtain ⟨⟨mn,b0,b1⟩,b2,⟨ps',e1,e2,e3⟩,b4,b5,⟨qs,d1,d2,d3⟩,b7,b8,b9,b10,ai,ah⟩:=B
 obtain rfl:ps'=ps:=by
  rw [he] at e1
  injection e1 with e1
  injection e1 with e1
  exact (List.map_inj_right (λx y z=>V.ref.inj z)).mp e1.symm
 refine ⟨⟨⟨mn,b0,nk b1⟩,.inl oe,⟨ps'++[t],he',by simp [e2,opnS],?_⟩,nk b4,λe he=>tt (b5 e he),⟨qs,?_,d2,λi p e h h'=>tt (d3 i p e h h')⟩,b7,λq hq=>?_,λq hq=>?_,λe he=>(b10 e he).mono λt xs q=>tt q,λq hq q' hq' z=>?_,λq hq=>?_⟩,oe,⟨λc u h e=>kp c u (λz=>h (.inr (.inr (.inl z)))) (λz=>h (.inr (.inl z))) e,λc h=>?_⟩⟩
 ·exact ZcR e2 (λi p e h h'=>tt (e3 i p e h h')) ht
 ·exact kp _ _ (Ne.symm b7) (Zaq d1 op (λz=>nomatch z)) d1
 ·by_cases z:q=(a,b)
  ·subst z
   refine ⟨ft,?_,?_⟩
   ·show H' (if (a,b)=(a,b) then d else _)=some (.dK (dKv (if (a,b)=(a,b) then al else _) (setP S.of (a,b) false (a,b)) ft))
    rw [if_pos rfl,if_pos rfl,Za4];exact hd
   ·show H' ft=some (.tup ((setP S.ff (a,b) [] (a,b)).map V.str))
    rw [Za4];exact hf
  ·obtain ⟨f,h1,h2⟩:=b8 q (old hq z)
   refine ⟨f,?_,?_⟩
   ·show H' (if q=(a,b) then d else L.ds q)=some (.dK (dKv (if q=(a,b) then al else L.as q) (setP S.of (a,b) false q) f))
    rw [if_neg z,if_neg z,Zbr z];exact nk h1
   ·show H' f=some (.tup ((setP S.ff (a,b) [] q).map V.str))
    rw [Zbr z];exact tt h2
 ·by_cases z:q=(a,b)
  ·subst z
   have e0:(S.es.filter λe=>decide (e.pl=(a,b)))=[]:=by
    rw [List.filter_eq_nil_iff]
    intro e he z
    exact n ((of_decide_eq_true z:e.pl=(a,b))▸ok.hm e he)
   show H' (if (a,b)=(a,b) then al else _)=some (.dK ((S.es.filter λe=>decide (e.pl=(a,b))).map _))
   rw [if_pos rfl,e0]
   exact ha
  ·show H' (if q=(a,b) then al else L.as q)=_
   rw [if_neg z]
   exact nk (b9 q (old hq z))
 ·have ex:∀ {p:Pl},p∈S.os->L.as p≠al:=λh z=>by
   have:=b9 _ h
   rw [z,an] at this;cases this
  by_cases z1:q=(a,b)<;>by_cases z2:q'=(a,b)
  ·rw [z1,z2]
  ·simp only [if_pos z1,if_neg z2] at z
   exact absurd z.symm (ex (old hq' z2))
  ·simp only [if_neg z1,if_pos z2] at z
   exact absurd z (ex (old hq z1))
  ·simp only [if_neg z1,if_neg z2] at z
   exact ai q (old hq z1) q' (old hq' z2) z
 ·by_cases z:q=(a,b)
  ·simp only [if_pos z]
   intro y
   rw [y,b4] at an;cases an
  ·simp only [if_neg z]
   exact ah q (old hq z)
 ·rcases h with h | h | h | h | h | ⟨q,hq,h⟩
  ·exact .inl (.inl h)
  ·exact .inl (.inr (.inl h))
  ·exact .inl (.inr (.inr (.inl h)))
  ·exact .inl (.inr (.inr (.inr (.inl h))))
  ·exact .inl (.inr (.inr (.inr (.inr (.inl h)))))
  ·by_cases z:q=(a,b)
   ·simp only [if_pos z] at h
    rcases h with rfl | rfl
    ·exact .inr dn
    ·exact .inr an
   ·simp only [if_neg z] at h
    exact .inl (.inr (.inr (.inr (.inr (.inr ⟨q,old hq z,h⟩)))))
theorem LAt.put (B:LAt H L S) (hp:(a,b)∈S.os) (n:w∉S.es.map Ent.who) {t q:Addr} {ps:List Addr} {mn:Int} (kp:∀ c u,c≠L.as (a,b)->c≠L.hm->c≠L.od->c≠L.s->H c=some u->H' c=some u)
  (ha:H' (L.as (a,b))=some (.dK (((S.es.filter λe=>decide (e.pl=(a,b))).map λe=>(Sum.inl e.who,resV e.res))++[(Sum.inl w,.non)]))) (hh:H' L.hm=some (.dK ((S.es.map λe=>(Sum.inl e.who,.ref (L.hs e.who)))++[(Sum.inl w,.ref t)])))
  (ht:H' t=some (.tup [.int a,.int b])) (ho:H L.od=some (.lst (ps.map V.ref))) (ho':H' L.od=some (.lst ((ps++[q]).map V.ref))) (hq:H' q=some (.tup [.int a,.str l,.int w])) (m0:0<=mn/\mn=mnS (putS S ⟨w,a,b,l,none⟩)) (hs:H' L.s=some (.dK (sKv L.op L.ev L.hm L.od mn))) :
  LAt H' { L with hs:=λv=>if v=w then t else L.hs v } (putS S ⟨w,a,b,l,none⟩)/\Stp (LawA L S) H (LawA { L with hs:=λv=>if v=w then t else L.hs v } (putS S ⟨w,a,b,l,none⟩)) H':=by
 have nw:∀ e∈S.es,e.who≠w:=λe he z=>n (List.mem_map.mpr ⟨e,he,z⟩)
 obtain ⟨⟨mn',b0,b1⟩,b2,⟨ps',e1,e2,e3⟩,b4,b5,⟨qs,d1,d2,d3⟩,b7,b8,b9,b10,ai,ah⟩:=B
 obtain rfl:qs=ps:=by
  rw [ho] at d1
  injection d1 with d1
  injection d1 with d1
  exact (List.map_inj_right (λx y z=>V.ref.inj z)).mp d1.symm
 have nt:∀ {c:Addr} {u:HO},H c=some u->(∀ k,u≠.dK k)->(∀ k,u≠.lst k)->H' c=some u:=λe h h'=>kp _ _ (Zaq e (b9 _ hp) λz=>h _ z) (Zaq e b4 λz=>h _ z) (Zaq e ho λz=>h' _ z) (Zaq e b1 λz=>h _ z) e
 have tt:∀ {c:Addr} {xs:List V},H c=some (.tup xs)->H' c=some (.tup xs):=λe=>nt e (λ_ z=>nomatch z) (λ_ z=>nomatch z)
 refine ⟨⟨⟨mn,m0,hs⟩,?_,⟨ps',kp _ _ (Zaq e1 (b9 _ hp) (λz=>nomatch z)) (Zaq e1 b4 (λz=>nomatch z)) b7 (Zaq e1 b1 (λz=>nomatch z)) e1,e2,λi p e h h'=>tt (e3 i p e h h')⟩,?_,λe he=>?_,⟨qs++[q],ho',by simp [d2,putS],?_⟩,b7,λp hp'=>?_,λp hp'=>?_,λe he=>?_,ai,ah⟩,⟨λc u h e=>kp c u (λz=>h (.inr (.inr (.inr (.inr (.inr ⟨_,hp,.inr z⟩)))))) (λz=>h (.inr (.inr (.inr (.inl z))))) (λz=>h (.inr (.inr (.inr (.inr (.inl z)))))) (λz=>h (.inl z)) e,λc h=>.inl h⟩⟩
 ·rcases b2 with r | ⟨o,r⟩
  ·exact .inl (nt r (λ_ z=>nomatch z) (λ_ z=>nomatch z))
  ·exact .inr ⟨o,nt r (λ_ z=>nomatch z) (λ_ z=>nomatch z)⟩
 ·show H' L.hm=some (.dK ((S.es++[(⟨w,a,b,l,none⟩:Ent)]).map λe=>(Sum.inl e.who,.ref (if e.who=w then t else L.hs e.who))))
  rw [hh,List.map_append,List.map_cons,List.map_nil,if_pos rfl]
  refine congrArg (λl=>some (HO.dK (l++_))) (List.map_congr_left λe he=>?_)
  rw [if_neg (nw e he)]
 ·rcases List.mem_append.mp he with h | h
  ·simp only [if_neg (nw e h)]
   exact tt (b5 e h)
  ·rw [List.mem_singleton.mp h]
   simp only [if_true]
   exact ht
 ·exact ZcR d2 (λi p e h h'=>tt (d3 i p e h h')) hq
 ·obtain ⟨f,h1,h2⟩:=b8 p hp'
  refine ⟨f,kp _ _ (Zaq h1 (b9 _ hp) λz=>?_) (Zaq h1 b4 λz=>?_) (Zaq h1 ho (λz=>nomatch z)) (Zaq h1 b1 λz=>?_) h1,tt h2⟩
  ·injection z with z;exact ZdF z
  ·injection z with z;exact ZdF z
  ·injection z with z;exact Zhj z.symm
 ·by_cases z:p=(a,b)
  ·subst z
   show H' (L.as (a,b))=some (.dK (((S.es++[(⟨w,a,b,l,none⟩:Ent)]).filter λe=>decide (e.pl=(a,b))).map λe=>(Sum.inl e.who,resV e.res)))
   rw [ha,List.filter_append,List.filter_cons_of_pos (by exact decide_eq_true rfl),List.filter_nil,List.map_append]
   rfl
  ·show H' (L.as p)=some (.dK (((S.es++[(⟨w,a,b,l,none⟩:Ent)]).filter λe=>decide (e.pl=p)).map λe=>(Sum.inl e.who,resV e.res)))
   have ne:([(⟨w,a,b,l,none⟩:Ent)].filter λe=>decide (e.pl=p))=[]:=by
    rw [List.filter_eq_nil_iff]
    intro e he y
    rw [List.mem_singleton.mp he] at y
    exact z (of_decide_eq_true y).symm
   rw [List.filter_append,ne,List.append_nil]
   refine kp _ _ (λy=>z (ai p hp' _ hp y)) (ah p hp') (Zaq (b9 p hp') ho (λz=>nomatch z)) (Zaq (b9 p hp') b1 λy=>?_) (b9 p hp')
   injection y with y;exact Zej y.symm
 ·rcases List.mem_append.mp he with h | h
  ·exact (b10 e h).mono λt xs q=>tt q
  ·rw [List.mem_singleton.mp h]
   exact λt z=>nomatch z
theorem ZhP {p:Pl} (w:Int) (t:Addr) (es:List Ent):((kill w t es).filter λe=>decide (e.pl=p))=kill w t (es.filter λe=>decide (e.pl=p)):=by
 unfold kill
 induction es with
 |nil=>rfl
 |cons e r ih =>
  rw [List.map_cons,List.filter_cons,List.filter_cons,Zfb,ih]
  split<;>simp_all
theorem Zhn {t:Addr} {es:List Ent} (h:w∈es.map Ent.who):putK (es.map λe=>((Sum.inl e.who:Key),resV e.res)) (Sum.inl w) (.ref t)=(kill w t es).map λe=>(Sum.inl e.who,resV e.res):=by
 unfold putK kill
 rw [if_pos,List.map_map,List.map_map]
 ·refine List.map_congr_left λe _=>?_
  show (if (Sum.inl e.who:Key)=Sum.inl w then (Sum.inl e.who,V.ref t) else (Sum.inl e.who,resV e.res))=(Sum.inl (if e.who=w then { e with res:=some t } else e).who,resV (if e.who=w then { e with res:=some t } else e).res)
  by_cases z:e.who=w
  ·rw [if_pos (by rw [z]),if_pos z];rfl
  ·rw [if_neg (λy=>z (Sum.inl.inj y)),if_neg z]
 ·obtain ⟨e,he,rfl⟩:=List.mem_map.mp h
  rw [List.any_map,List.any_eq_true]
  exact ⟨e,he,by simp⟩
theorem Zjd {t:Addr} {es:List Ent} (h:w∉es.map Ent.who):kill w t es=es:=by
 unfold kill
 rw [List.map_congr_left (g:=id),List.map_id]
 intro e he
 rw [if_neg]
 ·rfl
 ·intro z
  exact h (List.mem_map.mpr ⟨e,he,z⟩)
theorem Ze6 (w:Int) (o:Addr):mnS (Zbe S w o)=mnS S:=by
 unfold mnS
 show ((K61.kill w o S.es).map Ent.who).foldl max 0=_
 rw [ZdY]
theorem ZjV (e:Ent):mnS (putS S e)=max (mnS S) e.who:=by
 unfold mnS
 show ((S.es++[e]).map Ent.who).foldl max 0=_
 rw [List.map_append,List.foldl_append];rfl
theorem LAt.kill (B:LAt H L S) (ok:OkS S) {e0:Ent} (he0:e0∈S.es) (hp:e0.pl∈S.os) {o:Addr} {xs:List V} (hx:H o=some (.tup xs)) (hpl:∀ x∈xs,PlV x) :
  LAt (upd H (L.as e0.pl) (.dK ((K61.kill e0.who o (S.es.filter λe=>decide (e.pl=e0.pl))).map λe=>(Sum.inl e.who,resV e.res)))) L (Zbe S e0.who o) /\
  Stp (LawA L S) H (LawA L (Zbe S e0.who o)) (upd H (L.as e0.pl) (.dK ((K61.kill e0.who o (S.es.filter λe=>decide (e.pl=e0.pl))).map λe=>(Sum.inl e.who,resV e.res)))):=by
 obtain ⟨⟨mn',b0,b1⟩,b2,⟨ps',e1,e2,e3⟩,b4,b5,⟨qs,d1,d2,d3⟩,b7,b8,b9,b10,ai,ah⟩:=B
 have nt:∀ {c:Addr} {u v:HO},H c=some u->u≠.dK ((S.es.filter λe=>decide (e.pl=e0.pl)).map λe=>(Sum.inl e.who,resV e.res))->upd H (L.as e0.pl) v c=some u:=λe n=>by rw [Zae (Zaq e (b9 _ hp) n)];exact e
 have tt:∀ {c:Addr} {v:HO} {xs:List V},H c=some (.tup xs)->upd H (L.as e0.pl) v c=some (.tup xs):=λe=>nt e (λz=>nomatch z)
 refine ⟨⟨⟨mn',by rw [Ze6];exact b0,nt b1 λz=>?_⟩,?_,⟨ps',nt e1 (λz=>nomatch z),e2,λi p e h h'=>tt (e3 i p e h h')⟩,?_,λe he=>?_,⟨qs,nt d1 (λz=>nomatch z),?_,λi p e h h'=>?_⟩,b7,λp hp'=>?_,λp hp'=>?_,λe he=>?_,ai,ah⟩,⟨λc u h e=>?_,λc h=>.inl h⟩⟩
 ·injection z with z;exact Zej z
 ·rcases b2 with r | ⟨o,r⟩
  ·exact .inl (nt r (λz=>nomatch z))
  ·exact .inr ⟨o,nt r (λz=>nomatch z)⟩
 ·show upd H _ _ L.hm=some (.dK ((K61.kill e0.who o S.es).map λe=>(Sum.inl e.who,.ref (L.hs e.who))))
  rw [ZdZ (f:=λw=>.ref (L.hs w)),Zae (Ne.symm (ah _ hp))]
  exact b4
 ·obtain ⟨x,hx0,rfl⟩:=Zcn he
  show upd H _ _ (L.hs _)=_
  rw [Zdh,ZhO,Zmc]
  exact tt (b5 x hx0)
 ·show qs.length=(K61.kill e0.who o S.es).length
  unfold K61.kill
  rw [List.length_map];exact d2
 ·have h2:(K61.kill e0.who o S.es)[i]?=some e:=h'
  unfold K61.kill at h2
  rw [List.getElem?_map] at h2
  cases ex:S.es[i]? with
  |none=>rw [ex] at h2;cases h2
  |some x =>
   rw [ex] at h2
   injection h2 with h2
   rw [<- h2,ZhO,ZlB,Zdh]
   exact tt (d3 i p x h ex)
 ·obtain ⟨f,h1,h2⟩:=b8 p hp'
  refine ⟨f,nt h1 λz=>?_,tt h2⟩
  injection z with z;exact ZdF z
 ·show upd H _ _ (L.as p)=some (.dK (((K61.kill e0.who o S.es).filter λe=>decide (e.pl=p)).map λe=>(Sum.inl e.who,resV e.res)))
  rw [ZhP]
  by_cases z:p=e0.pl
  ·subst z
   rw [Zab]
  ·rw [Zae λy=>z (ai p hp' _ hp y),b9 p hp',Zjd]
   intro y
   obtain ⟨e,he,ew⟩:=List.mem_map.mp y
   obtain ⟨q1,q2⟩:=List.mem_filter.mp he
   exact z (by rw [<- (of_decide_eq_true q2:e.pl=p),ZbI ok.who q1 he0 ew])
 ·obtain ⟨x,hx0,rfl⟩:=Zcn he
  by_cases z:x.who=e0.who
  ·rw [if_pos z]
   intro t q
   cases q
   exact ⟨xs,tt hx,hpl⟩
  ·rw [if_neg z]
   exact (b10 x hx0).mono λt xs q=>tt q
 ·rw [Zae λz=>h (.inr (.inr (.inr (.inr (.inr ⟨_,hp,.inr z⟩)))))]
  exact e
theorem LAt.close (B:LAt H L S) (op:OpD H L S):LAt (upd H L.op (.dT ((S.os.filter λq=>decide (q≠p)).map λp=>(keyP p,.ref (L.ds p))))) L (clsS S p) /\
  OpD (upd H L.op (.dT ((S.os.filter λq=>decide (q≠p)).map λp=>(keyP p,.ref (L.ds p))))) L (clsS S p) /\
  Stp (LawA L S) H (LawA L (clsS S p)) (upd H L.op (.dT ((S.os.filter λq=>decide (q≠p)).map λp=>(keyP p,.ref (L.ds p))))):=by
 obtain ⟨⟨mn',b0,b1⟩,b2,⟨ps',e1,e2,e3⟩,b4,b5,⟨qs,d1,d2,d3⟩,b7,b8,b9,b10,ai,ah⟩:=B
 have nt:∀ {c:Addr} {u v:HO},H c=some u->(∀ k,u≠.dT k)->upd H L.op v c=some u:=λe n=>by rw [Zae (Zaq e op (n _))];exact e
 have tt:∀ {c:Addr} {v:HO} {xs:List V},H c=some (.tup xs)->upd H L.op v c=some (.tup xs):=λe=>nt e (λ_ z=>nomatch z)
 refine ⟨⟨⟨mn',b0,nt b1 (λ_ z=>nomatch z)⟩,.inl Zab,⟨ps',nt e1 (λ_ z=>nomatch z),e2,λi p e h h'=>tt (e3 i p e h h')⟩,nt b4 (λ_ z=>nomatch z),λe he=>tt (b5 e he),⟨qs,nt d1 (λ_ z=>nomatch z),d2,λi p e h h'=>tt (d3 i p e h h')⟩,b7,λq hq=>?_,λq hq=>nt (b9 q (List.mem_filter.mp hq).1) (λ_ z=>nomatch z),λe he=>(b10 e he).mono λt xs q=>tt q,λq hq q' hq'=>ai q (List.mem_filter.mp hq).1 q' (List.mem_filter.mp hq').1,λq hq=>ah q (List.mem_filter.mp hq).1⟩,Zab,⟨λc u h e=>?_,λc h=>?_⟩⟩
 ·obtain ⟨f,h1,h2⟩:=b8 q (List.mem_filter.mp hq).1
  exact ⟨f,nt h1 (λ_ z=>nomatch z),tt h2⟩
 ·rw [Zae λz=>h (.inr (.inl z))]
  exact e
 ·rcases h with h | h | h | h | h | ⟨q,hq,h⟩
  ·exact .inl (.inl h)
  ·exact .inl (.inr (.inl h))
  ·exact .inl (.inr (.inr (.inl h)))
  ·exact .inl (.inr (.inr (.inr (.inl h))))
  ·exact .inl (.inr (.inr (.inr (.inr (.inl h)))))
  ·exact .inl (.inr (.inr (.inr (.inr (.inr ⟨q,(List.mem_filter.mp hq).1,h⟩)))))
end
theorem OkS.nxt {S:Gst} {D:Dd} (ok:OkS S) (rm:Rm S) (fl:∀ w o l,D=.fin w o (some l)->l.length<=3) (fl2:∀ a b l,D=.note a b l->l.length<=3) (h:¬ Ref S D):OkS (nxt S D):=by
 obtain ⟨r1,r2,r3,r4⟩:=rm
 cases D with
 |opn a b =>
  have n:(a,b)∉S.ev:=h
  have no:(a,b)∉S.os:=λz=>n (ok.sub _ z)
  refine ⟨?_,λp hp=>?_,ok.who,λe he=>List.mem_append_left _ (ok.hm e he),⟨?_,ok.sz.2.1,?_⟩,ok.fl,λp hp=>?_⟩
  ·show (S.os++[(a,b)]).Nodup
   rw [List.nodup_append]
   refine ⟨ok.nd,by simp,λx hx y hy z=>?_⟩
   rw [List.mem_singleton.mp hy] at z
   exact n (z▸ok.sub x hx)
  ·rcases List.mem_append.mp hp with q | q
   ·exact List.mem_append_left _ (ok.sub p q)
   ·exact List.mem_append_right _ q
  ·show (S.ev++[(a,b)]).length<=60
   rw [List.length_append,List.length_singleton];omega
  ·show (S.os++[(a,b)]).length<=60
   rw [List.length_append,List.length_singleton];omega
  ·show (setP S.ff (a,b) [] p).length<=S.fz
   by_cases z:p=(a,b)
   ·rw [z,Za4];exact Nat.zero_le _
   ·rw [Zbr z]
    rcases List.mem_append.mp hp with q | q
    ·exact ok.fs p q
    ·exact absurd (List.mem_singleton.mp q) z
 |put a b l w =>
  simp only [Ref,not_or] at h
  obtain ⟨h1,h2,h3⟩:=h
  refine ⟨ok.nd,ok.sub,?_,λe he=>?_,⟨ok.sz.1,?_,ok.sz.2.2⟩,ok.fl,ok.fs⟩
  ·show ((S.es++[(⟨w,a,b,l,none⟩:Ent)]).map Ent.who).Nodup
   rw [List.map_append,List.nodup_append]
   refine ⟨ok.who,by simp,λx hx y hy z=>?_⟩
   have:y=w:=by simpa using hy
   exact h2 (this▸z▸hx)
  ·rcases List.mem_append.mp he with q | q
   ·exact ok.hm e q
   ·rw [List.mem_singleton.mp q]
    exact ok.sub _ (Decidable.not_not.mp h1)
  ·show (S.es++[(⟨w,a,b,l,none⟩:Ent)]).length<=60
   rw [List.length_append,List.length_singleton];omega
 |fin w o fs =>
  cases fs with
  |none=>exact ok.kill w o
  |some l =>
   have hh:ZbH S w∈S.os:=by
    obtain ⟨e,he,rfl,_⟩:=Classical.not_not.mp h
    rw [Zd0 ok.who (ZaU he).1]
    exact (ZaU he).2
   exact ((ok.kill w o).flt (p:=ZbH S w) hh (fl w o l rfl) r4).offS _
 |note a b l=>exact (ok.flt (Decidable.not_not.mp h) (fl2 a b l rfl) r4).offS _
 |off a b=>exact ok.offS _
 |cls a b=>exact ⟨ok.nd.filter _,λp hp=>ok.sub p (List.mem_filter.mp hp).1,ok.who,ok.hm,⟨ok.sz.1,ok.sz.2.1,Nat.le_trans (List.length_filter_le _ _) ok.sz.2.2⟩,ok.fl,λp hp=>ok.fs p (List.mem_filter.mp hp).1⟩
def Bd (S:Gst) (i:Nat):Prop:=S.ev.length<=i/\S.os.length<=i/\S.es.length<=i/\S.fz<=3*i
theorem Bd.rm {S:Gst} {i:Nat} (h:Bd S i) (hi:i<60):Rm S:=by
 obtain ⟨h1,h2,h3,h4⟩:=h
 exact ⟨by omega,by omega,by omega,by omega⟩
theorem Bd.up {S:Gst} {i:Nat} (h:Bd S i):Bd S (i+1):=by
 obtain ⟨h1,h2,h3,h4⟩:=h
 exact ⟨by omega,by omega,by omega,by omega⟩
theorem Bd.nxt {S:Gst} {i:Nat} (h:Bd S i) (D:Dd):Bd (nxt S D) (i+1):=by
 obtain ⟨h1,h2,h3,h4⟩:=h
 cases D with
 |opn a b =>
  refine ⟨?_,?_,by show S.es.length<=_;omega,by show S.fz<=_;omega⟩
  ·show (S.ev++[(a,b)]).length<=_
   rw [List.length_append,List.length_singleton];omega
  ·show (S.os++[(a,b)]).length<=_
   rw [List.length_append,List.length_singleton];omega
 |put a b l w =>
  refine ⟨by show S.ev.length<=_;omega,by show S.os.length<=_;omega,?_,by show S.fz<=_;omega⟩
  show (S.es++[(⟨w,a,b,l,none⟩:Ent)]).length<=_
  rw [List.length_append,List.length_singleton];omega
 |fin w o fs =>
  have kl:(kill w o S.es).length<=i+1:=by unfold kill;rw [List.length_map];omega
  cases fs with
  |none=>exact ⟨by show S.ev.length<=_;omega,by show S.os.length<=_;omega,kl,by show S.fz<=_;omega⟩
  |some l=>exact ⟨by show S.ev.length<=_;omega,by show S.os.length<=_;omega,kl,by show S.fz+3<=_;omega⟩
 |note a b l=>exact ⟨by show S.ev.length<=_;omega,by show S.os.length<=_;omega,by show S.es.length<=_;omega,by show S.fz+3<=_;omega⟩
 |off a b=>exact ⟨by show S.ev.length<=_;omega,by show S.os.length<=_;omega,by show S.es.length<=_;omega,by show S.fz<=_;omega⟩
 |cls a b =>
  refine ⟨by show S.ev.length<=_;omega,?_,by show S.es.length<=_;omega,by show S.fz<=_;omega⟩
  exact Nat.le_trans (List.length_filter_le _ S.os) (by omega)
theorem Zis {S:Gst} {os:List Pl} (nd:os.Nodup):(os.map λp=>(ZaJ S p).length).sum<=S.es.length:=by
 unfold ZaJ
 generalize S.es=es
 induction es with
 |nil =>
  clear nd
  induction os with
  |nil=>exact Nat.le_refl _
  |cons q qs ih=>rw [List.map_cons,List.sum_cons];simpa using ih
 |cons e r ih =>
  have k:∀ os:List Pl,os.Nodup->(os.map λp=>((e::r).filter λe=>decide (e.pl=p)&&!e.dead).length).sum<=(os.map λp=>(r.filter λe=>decide (e.pl=p)&&!e.dead).length).sum+(if e.pl∈os then 1 else 0):=by
   intro os nd
   induction os with
   |nil=>simp
   |cons q qs ih2 =>
    rw [List.nodup_cons] at nd
    have h2:=ih2 nd.2
    rw [List.map_cons,List.map_cons,List.sum_cons,List.sum_cons]
    by_cases z:e.pl=q
    ·have nq:e.pl∉qs:=z▸nd.1
     rw [if_neg nq] at h2
     have m:(if e.pl∈q::qs then 1 else 0)=1:=by simp [z]
     have c:((e::r).filter λe=>decide (e.pl=q)&&!e.dead).length<=(r.filter λe=>decide (e.pl=q)&&!e.dead).length+1:=by
      rw [List.filter_cons]
      split
      ·rw [List.length_cons];exact Nat.le_refl _
      ·omega
     omega
    ·have f:((e::r).filter λe=>decide (e.pl=q)&&!e.dead)=r.filter λe=>decide (e.pl=q)&&!e.dead:=by
      rw [List.filter_cons,if_neg (by simp [z])]
     have m:(if e.pl∈q::qs then 1 else 0)=if e.pl∈qs then 1 else 0:=by simp [z]
     rw [f,m]
     omega
  have:=k os nd
  rw [List.length_cons]
  have:(if e.pl∈os then 1 else 0)<=1:=by split<;>omega
  omega
theorem ZfY {d:Addr} {o:Obj} {kvs:List (List Key×V)} {sel:List (Option Nat)} {g:TG} {tt:TT} {te:TE} {σ:St} {H:Hp} {Qe:List V->Hp->Prop} (Pv:Nat->List V->Hp->Prop) (h0:Pv 0 [] H)
  (hl:∀ i ys H,i<=kvs.length->Pv i ys H->H d=some (.frz o (.dT kvs))/\ys.length<=i) (hz:kvs.length<=sizeLine)
  (hs:∀ i kv a ys H,kvs[i]?=some kv->H a=some (.tup (kv.1.map kV))->Pv i ys H->g (.ref a) (selS sel σ) H λσ2 H2=>tt σ2 H2 λb H3=>if b=true then te σ2 H3 λy H4=>Pv (i+1) (ys++[y]) H4 else Pv (i+1) ys H3)
  (hd:∀ ys H,Pv kvs.length ys H->Qe ys H):∃ W:Nat->Nat->List V->Hp->Prop,(∃ m,W 0 m [] H)/\ZbF sel g tt te σ (Itk d o kvs) W Qe:=by
 refine ⟨λi m ys H=>m=kvs.length-i/\i<=kvs.length/\Pv i ys H,⟨_,rfl,Nat.zero_le _,h0⟩,?_⟩
 rintro i m ys H ⟨rfl,hi,p⟩
 obtain ⟨hf,hy⟩:=hl i ys H hi p
 by_cases e:i=kvs.length
 ·subst e
  exact .inl ⟨⟨hf,Nat.le_refl _⟩,hd _ _ p⟩
 ·have hlt:i<kvs.length:=Nat.lt_of_le_of_ne hi e
  refine .inr ⟨⟨hf,hlt⟩,by omega,Pv (i+1),λys' H' p'=>⟨kvs.length-(i+1),by omega,rfl,hlt,p'⟩,?_⟩
  rintro x H' ⟨rfl,kv,a,hx,rfl,ha⟩
  exact hs i kv a ys _ hx ha p
theorem LAt.frz {H:Hp} {L:La} {S:Gst} (B:LAt H L S) (op:OpD H L S) (o:Obj):LAt (upd H L.op (.frz o (.dT (S.os.map λp=>(keyP p,.ref (L.ds p)))))) L S:=by
 obtain ⟨⟨mn',b0,b1⟩,b2,⟨ps',e1,e2,e3⟩,b4,b5,⟨qs,d1,d2,d3⟩,b7,b8,b9,b10,ai,ah⟩:=B
 have nt:∀ {c:Addr} {u v:HO},H c=some u->(∀ k,u≠.dT k)->upd H L.op v c=some u:=λe n=>by rw [Zae (Zaq e op (n _))];exact e
 have tt:∀ {c:Addr} {v:HO} {xs:List V},H c=some (.tup xs)->upd H L.op v c=some (.tup xs):=λe=>nt e (λ_ z=>nomatch z)
 refine ⟨⟨mn',b0,nt b1 (λ_ z=>nomatch z)⟩,.inr ⟨o,Zab⟩,⟨ps',nt e1 (λ_ z=>nomatch z),e2,λi p e h h'=>tt (e3 i p e h h')⟩,nt b4 (λ_ z=>nomatch z),λe he=>tt (b5 e he),⟨qs,nt d1 (λ_ z=>nomatch z),d2,λi p e h h'=>tt (d3 i p e h h')⟩,b7,λq hq=>?_,λq hq=>nt (b9 q hq) (λ_ z=>nomatch z),λe he=>(b10 e he).mono λt xs q=>tt q,ai,ah⟩
 obtain ⟨f,h1,h2⟩:=b8 q hq
 exact ⟨f,nt h1 (λ_ z=>nomatch z),tt h2⟩
theorem Zgi {α:Type} {xs:List α} {f:Nat->Nat} {g:α->Nat} (h:∀ (j:Nat) x,xs[j]?=some x->f j=g x) {i:Nat} (hi:i<=xs.length):(List.range i).map f=(xs.take i).map g:=by
 refine List.ext_getElem (by simp;omega) λj h1 h2=>?_
 have hj:j<xs.length:=by simp at h1;omega
 simp only [List.getElem_map,List.getElem_range,List.getElem_take]
 exact h j _ (List.getElem?_eq_getElem hj)
theorem ZeK {S:Gst} (ok:OkS S) {nss:Nat->List Int} (h:∀ (j:Nat) q,S.os[j]?=some q->(nss j).length=(ZaJ S q).length) {i:Nat} (hi:i<=S.os.length):(((List.range i).map nss).flatten).length<=60:=by
 rw [List.length_flatten,List.map_map]
 have e:(List.range i).map (List.length ∘ nss)=(S.os.take i).map λp=>(ZaJ S p).length:=Zgi h hi
 rw [e]
 exact Nat.le_trans (Zis (ok.nd.sublist (List.take_sublist _ _))) ok.sz.2.1
theorem Zf1 {nss:Nat->List Int} {i:Nat}:((List.range i).map λj=>(nss j).map V.int).flatten=(((List.range i).map nss).flatten).map V.int:=by
 rw [List.map_flatten,List.map_map];rfl
theorem LAt.catF {K:PySem.W.Frag} {H:Hp} {L:La} {S:Gst} (B:LAt H L S) (ok:OkS S) (op:OpD H L S) {p:Pl} (hp:p∈S.os) {t f ft:Addr} {ys:List Str} (ht:H t=some (.tup [.int p.1,.int p.2])) (h1:H (L.ds p)=some (.dK (dKv (L.as p) (S.of p) ft))) (h2:H ft=some (.tup ((S.ff p).map V.str))) (hf:H f=some (.tup (ys.map V.str))) (hy:ys.length<=3) {Z:Hp->Prop}
  (k:∀ H',LAt H' L (fltS S p ys)->OpD H' L S->Stp (LawA L S) H (LawA L (fltS S p ys)) H'->H' t=some (.tup [.int p.1,.int p.2])->(∀ c,H' c=none->H c=none)->Z H') :
  ZfL K (.ref ft) (.ref f) H λv H1=>∃ x,DGet H1 L.s (.str "open") (some x)/\∃ a,x=.ref a/\∃ x,DGet H1 a (.ref t) (some x)/\∃ a,x=.ref a/\∃ x,DPut H1 a (.str "faults") v x/\Z x:=by
 have fin:∀ (H2:Hp) (y:Addr),Same H H2->H2 y=some (.tup ((S.ff p++ys).map V.str))->∃ x,DGet H2 L.s (.str "open") (some x)/\∃ a,x=.ref a/\∃ x,DGet H2 a (.ref t) (some x)/\∃ a,x=.ref a/\∃ x,DPut H2 a (.str "faults") (.ref y) x/\Z x:=by
  intro H2 y s2 hy2
  have B2:=B.same s2
  refine ⟨_,B2.gOpen,_,rfl,_,B2.gPl (s2 _ _ ht) hp,_,rfl,_,DPut.k (k:=Sum.inr "faults") (v:=.ref y) (s2 _ _ h1) (by show 3<sizeLine;decide),?_⟩
  rw [Zjx]
  obtain ⟨B3,st3⟩:=B2.grpD (off:=S.of p) (n:=S.fz+3) hp hy2
  have es:({ S with of:=setP S.of p (S.of p),ff:=setP S.ff p (S.ff p++ys),fz:=S.fz+3 }:Gst)=fltS S p ys:=by rw [ZbD];rfl
  rw [es] at B3 st3
  refine k _ B3 ?_ ((Stp.of s2).trans st3) ?_ λc q=>s2.free (ZaT q).2
  ·show upd H2 _ _ L.op=_
   rw [Zae (Zaq (s2 _ _ op) (s2 _ _ h1) (λz=>nomatch z))]
   exact s2 _ _ op
  ·rw [Zae (Zaq (s2 _ _ ht) (s2 _ _ h1) (λz=>nomatch z))]
   exact s2 _ _ ht
 have lf:=ok.fs p hp
 by_cases e0:S.ff p=[]
 ·rw [e0] at h2
  exact .inr ⟨ft,f,rfl,rfl,SqT.of h2,⟨_,SqT.of hf⟩,fin H f (Same.refl _) (by rw [e0];exact hf)⟩
 ·refine .inl ⟨ft,f,_,_,rfl,rfl,SqT.of h2,SqT.of hf,λz=>e0 (List.map_eq_nil_iff.mp z),Nat.le_of_lt (Zam (by have:=ok.fl;rw [List.length_map,List.length_map];omega)),λz=>?_,λ_ q hq=>?_⟩
  ·have:ys=[]:=List.map_eq_nil_iff.mp z
   subst this
   exact fin H ft (Same.refl _) (by rw [List.append_nil];exact h2)
  ·exact fin _ q (Same.upd hq) (by rw [Zab,List.map_append])
theorem LAt.gFlt {H:Hp} {L:La} {p:Pl} {off:Bool} {ft:Addr} (h1:H (L.ds p)=some (.dK (dKv (L.as p) off ft))):DGet H (L.ds p) (.str "faults") (some (.ref ft)):=by
 rw [<- ZgB (al:=L.as p) (off:=off) (ft:=ft)]
 exact DGet.k (k:=Sum.inr "faults") h1
theorem LAt.gOff {H:Hp} {L:La} {p:Pl} {off:Bool} {ft:Addr} (h1:H (L.ds p)=some (.dK (dKv (L.as p) off ft))):DGet H (L.ds p) (.str "off") (some (.bl off)):=by
 rw [<- ZkY (al:=L.as p) (off:=off) (ft:=ft)]
 exact DGet.k (k:=Sum.inr "off") h1
theorem slT {K:PySem.W.Frag} {H:Hp} {t:Addr} {x0 x1 x2:V} {r:List V} {R:VK} (ht:H t=some (.tup (x0::x1::x2::r))) (k:∀ p,H p=none->R (.ref p) (upd H p (.tup [x1,x2]))):Zlh K (.ref t) (some 1) (some 3) H R:=by
 have e1:HT.sIx (x0::x1::x2::r).length 0 (some 1)=1:=by
  have:=HT.sIx_nat (x0::x1::x2::r).length 0 1
  rw [show ((1:Nat):Int)=1 from rfl] at this
  rw [this];simp only [List.length_cons];omega
 have e2:HT.sIx (x0::x1::x2::r).length (x0::x1::x2::r).length (some 3)=3:=by
  have:=HT.sIx_nat (x0::x1::x2::r).length (x0::x1::x2::r).length 3
  rw [show ((3:Nat):Int)=3 from rfl] at this
  rw [this];simp only [List.length_cons];omega
 refine ⟨t,_,rfl,SqT.of ht,λz=>?_,λ_ p hp=>?_⟩
 ·rw [e1] at z;exact absurd z.1 (by decide)
 ·have:cutV (x0::x1::x2::r) (some 1) (some 3)=[x1,x2]:=by
   unfold cutV
   rw [e1,e2]
   rfl
  rw [this]
  exact k p hp
theorem eqdP {K:PySem.W.Frag} {H:Hp} {s t:Addr} {a b c d:Int} (hs:H s=some (.tup [.int a,.int b])) (ht:H t=some (.tup [.int c,.int d])):EqD K H 1 (.ref s) (.ref t) (decide ((a,b)=(c,d))):=by
 by_cases e:s=t
 ·subst e
  rw [hs] at ht
  injection ht with ht
  injection ht with ht
  simp only [List.cons.injEq,V.int.injEq,and_true] at ht
  obtain ⟨rfl,rfl⟩:=ht
  rw [decide_eq_true rfl]
  exact .same
 ·have q:EqD K H 1 (.ref s) (.ref t) ((List.range (min ([V.int a,V.int b]:List V).length ([V.int c,V.int d]:List V).length)).all (λi=>eqV ((([V.int a,V.int b]:List V)[i]?).getD .non) ((([V.int c,V.int d]:List V)[i]?).getD .non))&&([V.int a,V.int b]:List V).length == ([V.int c,V.int d]:List V).length):=by
   refine .tup (SqT.of hs) (SqT.of ht) e λi x y ex ey=>?_
   show EqD K H 0 x y (eqV ((([V.int a,V.int b]:List V)[i]?).getD .non) ((([V.int c,V.int d]:List V)[i]?).getD .non))
   rw [ex,ey]
   refine .flat ?_ ?_
   ·match i,ex with
    |0,ex=>cases ex;rfl
    |1,ex=>cases ex;rfl
    |i+2,ex=>simp at ex
   ·match i,ey with
    |0,ey=>cases ey;rfl
    |1,ey=>cases ey;rfl
    |i+2,ey=>simp at ey
  have e':((List.range (min ([V.int a,V.int b]:List V).length ([V.int c,V.int d]:List V).length)).all (λi=>eqV ((([V.int a,V.int b]:List V)[i]?).getD .non) ((([V.int c,V.int d]:List V)[i]?).getD .non))&&([V.int a,V.int b]:List V).length == ([V.int c,V.int d]:List V).length)=decide ((a,b)=(c,d)):=by
   show ((List.range 2).all (λi=>eqV ((([V.int a,V.int b]:List V)[i]?).getD .non) ((([V.int c,V.int d]:List V)[i]?).getD .non))&&true)=_
   rw [show List.range 2=[0,1] from rfl]
   show ((eqV (.int a) (.int c)&&(eqV (.int b) (.int d)&&true))&&true)=_
   show (((a == c)&&((b == d)&&true))&&true)=_
   by_cases h1:a=c<;>by_cases h2:b=d<;>simp [h1,h2]
  rw [<- e']
  exact q
def ZfV (H:Hp) (a b:Int):V->Bool
 |.ref p=>match H p with
  |some (.tup [.int c,.int d])=>decide ((c,d)=(a,b))
  |_=>false
 |_=>false
theorem LAt.inEv {K:PySem.W.Frag} {H:Hp} {L:La} {S:Gst} (B:LAt H L S) {t:Addr} {a b:Int} (ht:H t=some (.tup [.int a,.int b])) {R:VK} (k:R (.bl (decide ((a,b)∈S.ev))) H):rInD K false (.ref t) (.ref L.ev) H R:=by
 obtain ⟨ps,h1,h2,h3⟩:=B.eq
 refine ⟨L.ev,_,1,ZfV H a b,rfl,SqL.of h1,by decide,λz hz=>?_,?_⟩
 ·obtain ⟨p,hp,rfl⟩:=List.mem_map.mp hz
  obtain ⟨i,hi,rfl⟩:=List.getElem_of_mem hp
  have:=h3 i ps[i] S.ev[i] (List.getElem?_eq_getElem hi) (List.getElem?_eq_getElem (by omega))
  have e:ZfV H a b (.ref ps[i])=decide ((S.ev[i].1,S.ev[i].2)=(a,b)):=by
   show (match H ps[i] with | some (.tup [.int c,.int d])=>decide ((c,d)=(a,b)) | _=>false)=_
   rw [this]
  rw [e]
  exact eqdP this ht
 ·have e:(ps.map V.ref).any (ZfV H a b)=decide ((a,b)∈S.ev):=by
   rw [Bool.eq_iff_iff,List.any_eq_true,decide_eq_true_iff]
   constructor
   ·rintro ⟨z,hz,hq⟩
    obtain ⟨p,hp,rfl⟩:=List.mem_map.mp hz
    obtain ⟨i,hi,rfl⟩:=List.getElem_of_mem hp
    have:=h3 i ps[i] S.ev[i] (List.getElem?_eq_getElem hi) (List.getElem?_eq_getElem (by omega))
    have e:ZfV H a b (.ref ps[i])=decide ((S.ev[i].1,S.ev[i].2)=(a,b)):=by
     show (match H ps[i] with | some (.tup [.int c,.int d])=>decide ((c,d)=(a,b)) | _=>false)=_
     rw [this]
    rw [e] at hq
    rw [<- of_decide_eq_true hq]
    exact List.getElem_mem _
   ·intro hm
    obtain ⟨i,hi,hq⟩:=List.getElem_of_mem hm
    refine ⟨.ref ps[i],List.mem_map.mpr ⟨_,List.getElem_mem _,rfl⟩,?_⟩
    have:=h3 i ps[i] S.ev[i] (List.getElem?_eq_getElem (by omega)) (List.getElem?_eq_getElem hi)
    show (match H ps[i] with | some (.tup [.int c,.int d])=>decide ((c,d)=(a,b)) | _=>false)=true
    rw [this,hq]
    exact decide_eq_true rfl
  rw [e,Bool.false_xor]
  exact k
theorem Zhb {H:Hp} {s op ev hm od:Addr} {mn:Int} (e:H s=some (.dK (sKv op ev hm od mn))):DGet H s (.str "open") (some (.ref op)):=by rw [<- ZfD (mn:=mn)];exact DGet.k (k:=Sum.inr "open") e
theorem Zhc {H:Hp} {s op ev hm od:Addr} {mn:Int} (e:H s=some (.dK (sKv op ev hm od mn))):DGet H s (.str "home") (some (.ref hm)):=by rw [<- ZfF (mn:=mn)];exact DGet.k (k:=Sum.inr "home") e
theorem ZiN {H:Hp} {s op ev hm od:Addr} {mn:Int} (e:H s=some (.dK (sKv op ev hm od mn))):DGet H s (.str "order") (some (.ref od)):=by rw [<- Zhh (mn:=mn)];exact DGet.k (k:=Sum.inr "order") e
theorem Zkh {H:Hp} {s op ev hm od:Addr} {mn:Int} (e:H s=some (.dK (sKv op ev hm od mn))):DGet H s (.str "many") (some (.int mn)):=by rw [<- ZfE (op:=op) (ev:=ev) (hm:=hm) (od:=od) (mn:=mn)];exact DGet.k (k:=Sum.inr "many") e
theorem ZiQ {op ev hm od:Addr} {mn m:Int}:putK (sKv op ev hm od mn) (Sum.inr "many":Key) (.int m)=sKv op ev hm od m:=by with_unfolding_all rfl
theorem Zig {al ft:Addr} {off:Bool}:Zdd [] (dKv al off ft)=dKv al off ft:=by with_unfolding_all rfl
theorem ZkE:∀ {us ns:List Int},us.Nodup->(∀ k∈us,k∈ns)->us.length<=ns.length
 |[],_,_,_=>Nat.zero_le _
 |x::r,ns,nd,h=>by
  rw [List.nodup_cons] at nd
  have hx:=h x List.mem_cons_self
  have:=ZkE (us:=r) (ns:=ns.erase x) nd.2 λk hk=>(List.mem_erase_of_ne (a:=k) (b:=x) (λz=>nd.1 (by rw [<- z];exact hk))).mpr (h k (List.mem_cons_of_mem _ hk))
  rw [List.length_erase_of_mem hx] at this
  have:=List.length_pos_of_mem hx
  rw [List.length_cons]
  omega
theorem Zjz (ns:List Str) (lo hi:Option Int):∃ zs:List Str,cutV (ns.map V.str) lo hi=zs.map V.str/\zs.length<=ns.length:=by
 unfold cutV
 rw [<- List.map_drop,<- List.map_take]
 refine ⟨_,rfl,?_⟩
 rw [List.length_take,List.length_drop]
 omega
theorem ZfN {w:Int} {v:V} {es:List Ent} (h:w∉es.map Ent.who):putK (es.map λe=>((Sum.inl e.who:Key),resV e.res)) (Sum.inl w) v=(es.map λe=>(Sum.inl e.who,resV e.res))++[(Sum.inl w,v)]:=by
 unfold putK
 rw [if_neg]
 rw [List.any_map,List.any_eq_true]
 rintro ⟨e,he,z⟩
 have:(Sum.inl e.who:Key)=Sum.inl w:=by simpa using z
 exact h (List.mem_map.mpr ⟨e,he,Sum.inl.inj this⟩)
def Zk5 (S:Gst) (D:Dd):Prop:=∀ a b,D=.opn a b->(0<=a/\a<=mnS S)/\1<=b/\b<=12
theorem ZjQ {S:Gst} {mn:Int} (h:0<=mn/\mn=mnS S) (u v:Int):Zk5 S (.opn (u%(mn+1)) (1+v%12)):=λa b e=>by
 cases e
 have h1:=Int.emod_nonneg u (show mn+1≠0 by omega)
 have h2:=Int.emod_lt_of_pos u (show 0<mn+1 by omega)
 omega
def ZjI:Sp:=λvs H Q _=>∃ L S,∃ x:Int,vs=[.ref L.s,.int x]/\LAt H L S/\OkS S/\OpD H L S/\∀ H' t D,Same H H'->DdAt H' t D->Zk5 S D->Q (.ref t) H'
def Due (L:La) (S:Gst) (H:Hp) (D:Dd) (Q:V->Hp->Prop):Prop :=
 (¬ Ref S D->∀ H' L' r v,LAt H' L' (nxt S D)->OpD H' L' (nxt S D)->L'.s=L.s->Stp (LawA L S) H (LawA L' (nxt S D)) H'->H' r=some (.tup [.str "told",v])->RvAt H H' v (ret S D)->Q (.ref r) H') /\
 (Ref S D->∀ H' r,Same H H'->H' r=some (.tup [.str "over"])->Q (.ref r) H')
theorem Due.of {L:La} {S:Gst} {H H1:Hp} {D:Dd} {Q:V->Hp->Prop} (x:Due L S H D Q) (s:Same H H1):Due L S H1 D Q:=by
 refine ⟨λn H' L' r v a1 a2 a3 a4 a6 a7=>x.1 n H' L' r v a1 a2 a3 ((Stp.of s).trans a4) a6 ?_,λn H' r a1 a2=>x.2 n H' r (s.trans a1) a2⟩
 revert a7
 generalize ret S D=R
 intro a7
 cases R with
 |non=>exact a7
 |bl b=>exact a7
 |mk rows =>
  obtain ⟨r,h1,h2,h3⟩:=a7
  exact ⟨r,h1,s.free h2,h3⟩
def Zkf:Sp:=λvs H Q _=>∃ L S t D,vs=[.ref L.s,.ref t]/\DdAt H t D/\LAt H L S/\OkS S/\OpD H L S/\Rm S/\Due L S H D Q
def ZfA:Sp:=λvs H Q _=>∃ L S t fs,∃ w:Int,vs=[.ref L.s,.int w,.ref t]/\OutAt H t fs/\LAt H L S/\OkS S/\OpD H L S/\Rm S/\Due L S H (.fin w t fs) Q
theorem Zjq {x:V} (h:Zd1 x=true):eqV x x=true:=by
 cases x<;>simp_all [Zd1,eqV]
theorem Zf3 {K:PySem.W.Frag} {H:Hp} {n:Nat} {x:V} (h:PlV x):EqD K H n x x true:=by
 rcases h with h | ⟨a,rfl⟩
 ·have:=EqD.flat (K:=K) (H:=H) (n:=n) h h
  rw [Zjq h] at this
  exact this
 ·exact .same
theorem eqL {K:PySem.W.Frag} {neg:Bool} {H:Hp} {n:Nat} {a b:Addr} {xs ys:List V} {R:VK} (ha:H a=some (.lst xs)) (hb:H b=some (.lst ys)) (hl:xs.length=ys.length) (h:∀ (i:Nat) (x y:V),xs[i]?=some x->ys[i]?=some y->EqD K H n x y true) (hn:n<=90) (k:R (.bl (neg^^true)) H):rEqL K neg (.ref a) (.ref b) H R:=by
 refine ⟨a,b,_,_,n,λ_=>true,rfl,rfl,SqL.of ha,SqL.of hb,hn,h,?_⟩
 have q:(decide (xs.length=ys.length)&&(List.range xs.length).all λ_=>true)=true:=by
  rw [hl];simp
 rw [q]
 exact k
theorem Zh6 {K:PySem.W.Frag} {H:Hp} {n:Nat} {a b:Addr} {xs ys:List V} (ha:H a=some (.tup xs)) (hb:H b=some (.tup ys)) (hl:xs.length=ys.length) (h:∀ (i:Nat) (x y:V),xs[i]?=some x->ys[i]?=some y->EqD K H n x y true):EqD K H (n+1) (.ref a) (.ref b) true:=by
 by_cases e:a=b
 ·subst e;exact .same
 ·have:=EqD.tup (n:=n) (e:=λ_=>true) (SqT.of ha) (SqT.of hb) e h
  have q:((List.range (min xs.length ys.length)).all (λ_=>true)&&xs.length == ys.length)=true:=by
   rw [hl];simp
  rw [q] at this
  exact this
theorem ZkW {K:PySem.W.Frag} {H:Hp} {n:Nat} {a b:Addr} {xs ys:List V} (ha:H a=some (.lst xs)) (hb:H b=some (.lst ys)) (hl:xs.length=ys.length) (h:∀ (i:Nat) (x y:V),xs[i]?=some x->ys[i]?=some y->EqD K H n x y true):EqD K H (n+1) (.ref a) (.ref b) true:=by
 by_cases e:a=b
 ·subst e;exact .same
 ·have:=EqD.lst (n:=n) (e:=λ_=>true) (SqL.of ha) (SqL.of hb) e hl h
  have q:(List.range xs.length).all (λ_=>true)=true:=by simp
  rw [q] at this
  exact this
theorem ZbV {K:PySem.W.Frag} {H:Hp} {n:Nat} {xs:List V} (h:∀ x∈xs,PlV x):∀ (i:Nat) (x y:V),xs[i]?=some x->xs[i]?=some y->EqD K H n x y true:=λi x y ex ey=>by
 rw [ex] at ey
 cases ey
 exact Zf3 (h x (List.mem_of_getElem? ex))
def spLaw (K:PySem.W.Frag):Sp:=λvs H Q _=>∃ (a:Addr) (ns:List Int),vs=[.ref a]/\SqL K H a (ns.map V.int)/\ns.length<=63/\∀ H',Q (.bl true) H'
theorem Zd7 {P P' R:Addr->Prop} {H H':Hp} (st:Stp P H P' H') (ap:∀ c,P c->¬ R c) (own:∀ c,R c->∃ u,H c=some u):∀ c,P' c->¬ R c:=λc h r=>by
 rcases st.gw c h with q | q
 ·exact ap c q r
 ·obtain ⟨u,e⟩:=own c r
  rw [q] at e;cases e
theorem DdAt.len {H:Hp} {t:Addr} {D:Dd} (h:DdAt H t D):(∀ w o l,D=.fin w o (some l)->l.length<=3)/\∀ a b l,D=.note a b l->l.length<=3:=by
 refine ⟨λw o l e=>?_,λa b l e=>?_⟩
 ·subst e
  obtain ⟨_,k,r,_,_,z | ⟨l',f,h1,_,_,_,h5⟩⟩:=h
  ·cases z.1
  ·cases h1;exact h5
 ·subst e
  obtain ⟨_,_,_,h⟩:=h
  exact h
theorem ZhM {H:Hp} {s op ev hm od:Addr} (k1:H s=some (.dK (sKv op ev hm od 0))) (k2:H op=some (.dT [])) (k3:H ev=some (.lst [])) (k4:H hm=some (.dK [])) (k5:H od=some (.lst [])) (ne:ev≠od) :
  LAt H ⟨s,op,ev,hm,od,λ_=>s,λ_=>s,λ_=>s⟩ S0/\OpD H ⟨s,op,ev,hm,od,λ_=>s,λ_=>s,λ_=>s⟩ S0:=by
 refine ⟨⟨⟨0,⟨Int.le_refl _,rfl⟩,k1⟩,.inl k2,⟨[],k3,rfl,λi p e h=>(nomatch h)⟩,k4,λe h=>(nomatch h),⟨[],k5,rfl,λi p e h=>(nomatch h)⟩,ne,λp h=>(nomatch h),λp h=>(nomatch h),λe h=>(nomatch h),λp h=>(nomatch h),λp h=>(nomatch h)⟩,k2⟩
theorem ZlA {s op ev hm od:Addr} {R:Addr->Prop} (h1:R s) (h2:R op) (h3:R ev) (h4:R hm) (h5:R od):∀ c,LawA ⟨s,op,ev,hm,od,λ_=>s,λ_=>s,λ_=>s⟩ S0 c->R c:=by
 rintro c (rfl | rfl | rfl | rfl | rfl | ⟨p,hp,_⟩)
 ·exact h1
 ·exact h2
 ·exact h3
 ·exact h4
 ·exact h5
 ·cases hp
theorem ok_0:OkS S0:=⟨List.nodup_nil,λp h=>(nomatch h),List.nodup_nil,λe h=>(nomatch h),⟨by decide,by decide,by decide⟩,by decide,λp h=>(nomatch h)⟩
def Td (C:Cs) (H:Hp) (A:Ga) (S:Gst) (D:Dd) (H':Hp) (r:Addr):Prop:=(¬ Ref S D/\∃ A' v,GAt C H' A' (nxt S D)/\Stp (PrgA A S) H (PrgA A' (nxt S D)) H'/\A'.g=A.g/\H' r=some (.tup [.str "told",v])/\RvAt H H' v (ret S D))\/(Ref S D/\Same H H'/\H' r=some (.tup [.str "over"]))
theorem Zka {C:Cs} {H:Hp} {A:Ga} {S:Gst} {t:Addr} {D:Dd} {Q:V->Hp->Prop} {E:XK} (hD:DdAt H t D) (g:GAt C H A S) (ok:OkS S) (rm:Rm S) (h:∀ H' r,Td C H A S D H' r->Q (.ref r) H'):ZgX C [.ref A.g,.ref t] H Q E :=
 ⟨A,S,t,D,rfl,hD,g,ok,rm,λn H' A' r v a1 a2 a3 a4 a5=>h H' r (.inl ⟨n,A',v,a1,a2,a3,a4,a5⟩),λy H' r a1 a2=>h H' r (.inr ⟨y,a1,a2⟩)⟩
def Tl (H:Hp) (L:La) (S:Gst) (D:Dd) (H':Hp) (r:Addr):Prop:=(¬ Ref S D/\∃ L' v,LAt H' L' (nxt S D)/\OpD H' L' (nxt S D)/\L'.s=L.s/\Stp (LawA L S) H (LawA L' (nxt S D)) H'/\H' r=some (.tup [.str "told",v])/\RvAt H H' v (ret S D))\/(Ref S D/\Same H H'/\H' r=some (.tup [.str "over"]))
theorem ZlU {H:Hp} {L:La} {S:Gst} {t:Addr} {D:Dd} {Q:V->Hp->Prop} {E:XK} (hD:DdAt H t D) (g:LAt H L S) (ok:OkS S) (op:OpD H L S) (rm:Rm S) (h:∀ H' r,Tl H L S D H' r->Q (.ref r) H'):Zkf [.ref L.s,.ref t] H Q E :=
 ⟨L,S,t,D,rfl,hD,g,ok,op,rm,λn H' L' r v a1 a2 a3 a4 a5 a6=>h H' r (.inl ⟨n,L',v,a1,a2,a3,a4,a5,a6⟩),λy H' r a1 a2=>h H' r (.inr ⟨y,a1,a2⟩)⟩
def scS (S:Gst) (w:Int):List Int:=srt ((S.os.filter λp=>decide (p.1=w)).map Prod.snd)
def RowAt (T:V->Int->Prop) (H:Hp) (S:Gst) (w:Int) (r:Addr) (sc:Int):Prop:=∃ (ia:Addr) (cs:List Addr),H r=some (.tup [.int sc,.bl (S.of (w,sc)),.ref ia])/\H ia=some (.tup (cs.map V.ref))/\cs.length=(Zaz S (w,sc)).length/\∀ (j:Nat) c w',cs[j]?=some c->(Zaz S (w,sc))[j]?=some w'->T (.ref c) w'
def RwsAt (T:V->Int->Prop) (H:Hp) (S:Gst) (w:Int) (rs:List Addr) (scs:List Int):Prop:=rs.length=scs.length/\∀ (i:Nat) r sc,rs[i]?=some r->scs[i]?=some sc->RowAt T H S w r sc
def Zj6 (T:V->Int->Prop) (H:Hp) (S:Gst) (ra:Addr) (w:Int):Prop:=∃ rs:List Addr,H ra=some (.tup (rs.map V.ref))/\RwsAt T H S w rs (scS S w)
def TrAt (H:Hp) (S:Gst):Nat->V->Int->Prop
 |0,_,_=>False
 |n+1,v,w=>∃ a ra,v=.ref a/\H a=some (.tup [.int w,.ref ra])/\Zj6 (TrAt H S n) H S ra w
def Tt (H H':Hp):Prop:=∀ c xs,H c=some (.tup xs)->H' c=some (.tup xs)
theorem Tt.of {H H':Hp} (s:Same H H'):Tt H H':=λc _ e=>s c _ e
theorem RowAt.mp {T T':V->Int->Prop} {H H':Hp} {S:Gst} {w:Int} {r:Addr} {sc:Int} (h:RowAt T H S w r sc) (t:Tt H H') (m:∀ v w,T v w->T' v w):RowAt T' H' S w r sc:=by
 obtain ⟨ia,cs,h1,h2,h3,h4⟩:=h
 exact ⟨ia,cs,t _ _ h1,t _ _ h2,h3,λj c w' a b=>m _ _ (h4 j c w' a b)⟩
theorem RwsAt.mp {T T':V->Int->Prop} {H H':Hp} {S:Gst} {w:Int} {rs:List Addr} {scs:List Int} (h:RwsAt T H S w rs scs) (t:Tt H H') (m:∀ v w,T v w->T' v w):RwsAt T' H' S w rs scs :=
 ⟨h.1,λi r sc a b=>(h.2 i r sc a b).mp t m⟩
theorem TrAt.kp {H H':Hp} {S:Gst} (t:Tt H H'):∀ {n:Nat} {v:V} {w:Int},TrAt H S n v w->TrAt H' S n v w
 |0,_,_,h=>h.elim
 |n+1,v,w,h=>by
  obtain ⟨a,ra,h1,h2,rs,h3,h4⟩:=h
  exact ⟨a,ra,h1,t _ _ h2,rs,t _ _ h3,h4.mp t λv w=>TrAt.kp t⟩
theorem TrAt.up {H:Hp} {S:Gst}:∀ {n m:Nat} {v:V} {w:Int},n<=m->TrAt H S n v w->TrAt H S m v w
 |0,_,_,_,_,h=>h.elim
 |n+1,0,_,_,l,_=>absurd l (by omega)
 |n+1,m+1,v,w,l,h=>by
  obtain ⟨a,ra,h1,h2,rs,h3,h4⟩:=h
  exact ⟨a,ra,h1,h2,rs,h3,h4.mp (λ_ _ e=>e) λv w=>TrAt.up (by omega)⟩
inductive AkAt (H:Hp):Nat->V->V->Prop
 |int {n:Nat} {x:Int}:AkAt H n (.int x) (.int x)
 |bl {n:Nat} {b:Bool}:AkAt H n (.bl b) (.bl b)
 |tup {n:Nat} {a b:Addr} {xs ys:List V}:H a=some (.tup xs)->H b=some (.tup ys)->xs.length=ys.length->ys.length<=100->(∀ (i:Nat) x y,xs[i]?=some x->ys[i]?=some y->AkAt H n x y)->AkAt H (n+1) (.ref a) (.ref b)
theorem AkAt.eqd {K:PySem.W.Frag} {H:Hp} {n:Nat} {x y:V} (h:AkAt H n x y):EqD K H n x y true:=by
 induction h with
 |int=>exact Zf3 (.inl rfl)
 |bl=>exact Zf3 (.inl rfl)
 |tup h1 h2 h3 _ _ ih=>exact Zh6 h1 h2 h3 ih
theorem Zc2 {α β:Type} {xs:List α} {ys:List β} (l:xs.length=ys.length) {i:Nat} {x:α} (h:xs[i]?=some x):∃ y,ys[i]?=some y:=by
 have lt:=(List.getElem?_eq_some_iff.mp h).1
 exact ⟨ys[i],List.getElem?_eq_getElem (by omega)⟩
theorem Ziv {H:Hp} {n:Nat} {α:Type} {as bs:List Addr} {ws:List α} {R R':Addr->α->Prop} (l1:as.length=ws.length) (l2:bs.length=ws.length) (h1:∀ (i:Nat) a w,as[i]?=some a->ws[i]?=some w->R a w) (h2:∀ (i:Nat) a w,bs[i]?=some a->ws[i]?=some w->R' a w) (k:∀ a b w,w∈ws->R a w->R' b w->AkAt H n (.ref a) (.ref b)) :
  ∀ (i:Nat) x y,(as.map V.ref)[i]?=some x->(bs.map V.ref)[i]?=some y->AkAt H n x y:=λi x y ex ey=>by
 rw [List.getElem?_map] at ex ey
 cases ea:as[i]? with
 |none=>rw [ea] at ex;cases ex
 |some a =>
  cases eb:bs[i]? with
  |none=>rw [eb] at ey;cases ey
  |some b =>
   rw [ea] at ex
   rw [eb] at ey
   cases ex
   cases ey
   obtain ⟨w,ew⟩:=Zc2 l1 ea
   exact k a b w (List.mem_of_getElem? ew) (h1 i a w ea ew) (h2 i b w eb ew)
theorem Zhg {S:Gst} (ok:OkS S) (w:Int):(scS S w).length<=60:=by
 unfold scS
 rw [ZbT,List.length_map]
 exact Nat.le_trans (List.length_filter_le _ _) ok.sz.2.2
theorem ZdI {S:Gst} (ok:OkS S) (p:Pl):(Zaz S p).length<=60:=by
 unfold Zaz
 rw [ZbT,List.length_map]
 exact Nat.le_trans (List.length_filter_le _ _) ok.sz.2.1
theorem TrAt.ak {H:Hp} {S:Gst} (ok:OkS S):∀ {n:Nat} {v v':V} {w:Int},TrAt H S n v w->TrAt H S n v' w->AkAt H (4*n) v v'
 |0,_,_,_,h,_=>h.elim
 |n+1,v,v',w,h,h'=>by
  obtain ⟨a,ra,rfl,h2,rs,h3,h4,h5⟩:=h
  obtain ⟨b,rb,rfl,k2,ss,k3,k4,k5⟩:=h'
  have ls:=Zhg ok w
  have rows:AkAt H (4*n+3) (.ref ra) (.ref rb):=by
   refine .tup h3 k3 (by rw [List.length_map,List.length_map];omega) (by rw [List.length_map];omega) ?_
   refine Ziv (ws:=scS S w) h4 k4 h5 k5 λr s sc _ ha hb=>?_
   obtain ⟨ia,cs,a1,a2,a3,a4⟩:=ha
   obtain ⟨ib,ds,b1,b2,b3,b4⟩:=hb
   have la:=ZdI ok (w,sc)
   have inn:AkAt H (4*n+1) (.ref ia) (.ref ib):=by
    refine .tup a2 b2 (by rw [List.length_map,List.length_map];omega) (by rw [List.length_map];omega) ?_
    exact Ziv (ws:=Zaz S (w,sc)) a3 b3 a4 b4 λc d w' _ hc hd=>TrAt.ak ok hc hd
   refine .tup a1 b1 rfl (show 3<=100 by decide) λi x y ex ey=>?_
   match i,ex,ey with
   |0,ex,ey=>cases ex;cases ey;exact .int
   |1,ex,ey=>cases ex;cases ey;exact .bl
   |2,ex,ey=>cases ex;cases ey;exact inn
   |i+3,ex,ey=>simp at ex
  show AkAt H (4*n+3+1) _ _
  refine .tup h2 k2 rfl (show 2<=100 by decide) λi x y ex ey=>?_
  match i,ex,ey with
  |0,ex,ey=>cases ex;cases ey;exact .int
  |1,ex,ey=>cases ex;cases ey;exact rows
  |i+2,ex,ey=>simp at ex
def UpI (S:Gst) (i:Nat):Prop:=(∀ e∈S.es,e.own<e.who)/\S.ev.length+S.es.length<=i
def Up (S:Gst):Prop:=UpI S 60
def cntE (S:Gst) (w:Int):Nat:=(S.es.filter λe=>decide (w<e.who)).length
def cntO (S:Gst) (w:Int):Nat:=(S.ev.filter λp=>decide (w<=p.1)).length
def fuel (S:Gst) (w:Int):Nat:=min (cntE S w) (cntO S w)
theorem Zdq {S:Gst} {p:Pl} {w:Int} (h:w∈Zaz S p):∃ e∈S.es,e.who=w/\e.pl=p/\e.dead=false:=by
 obtain ⟨e,he,rfl⟩:=List.mem_map.mp ((ZcS _).subset h)
 obtain ⟨h1,h2⟩:=List.mem_filter.mp he
 simp at h2
 exact ⟨e,h1,rfl,h2.1,h2.2⟩
theorem Zj4 {α:Type} {p q:α->Bool} {a:α}:∀ {l:List α},a∈l->q a=true->p a=false->(∀ x,p x=true->q x=true)->(l.filter p).length<(l.filter q).length:=by
 intro l
 have sub:∀ l:List α,(∀ x,p x=true->q x=true)->(l.filter p).length<=(l.filter q).length:=λl h=>by
  induction l with
  |nil=>exact Nat.le_refl _
  |cons x r ih =>
   rw [List.filter_cons,List.filter_cons]
   by_cases z:p x=true
   ·rw [if_pos z,if_pos (h x z)];exact Nat.succ_le_succ ih
   ·rw [if_neg z]
    split
    ·exact Nat.le_succ_of_le ih
    ·exact ih
 induction l with
 |nil=>intro h;cases h
 |cons x r ih =>
  intro h hq hp im
  rw [List.filter_cons,List.filter_cons]
  rcases List.mem_cons.mp h with z | z
  ·subst z
   rw [if_neg (by rw [hp];decide),if_pos hq]
   exact Nat.lt_succ_of_le (sub r im)
  ·have:=ih z hq hp im
   by_cases y:p x=true
   ·rw [if_pos y,if_pos (im x y)];exact Nat.succ_lt_succ this
   ·rw [if_neg y]
    split
    ·exact Nat.lt_succ_of_lt this
    ·exact this
theorem ZkR {S:Gst} (ok:OkS S) (up:Up S) {w sc w':Int} (hin:(w,sc)∈S.os) (h:w'∈Zaz S (w,sc)):fuel S w'<fuel S w:=by
 obtain ⟨e,he,rfl,hp,_⟩:=Zdq h
 have ow:e.own=w:=congrArg Prod.fst hp
 have lt:=up.1 e he
 rw [ow] at lt
 have h1:cntE S e.who<cntE S w:=Zj4 (a:=e) he (decide_eq_true lt) (decide_eq_false (Int.lt_irrefl _)) λx hx=>decide_eq_true (Int.lt_trans lt (of_decide_eq_true hx))
 have h2:cntO S e.who<cntO S w:=Zj4 (a:=(w,sc)) (ok.sub _ hin) (decide_eq_true (Int.le_refl _)) (decide_eq_false (Int.not_le.mpr lt)) λx hx=>decide_eq_true (Int.le_trans (Int.le_of_lt lt) (of_decide_eq_true hx))
 unfold fuel
 omega
theorem ZkS {S:Gst} (up:Up S) (w:Int):fuel S w<=30:=by
 have h1:cntE S w<=S.es.length:=List.length_filter_le _ _
 have h2:cntO S w<=S.ev.length:=List.length_filter_le _ _
 have:=up.2
 unfold fuel
 omega
def Zdu (C:Cs):Sp:=λvs H Q _=>∃ A S d n,∃ w:Int,vs=[.ref A.g,.int w,.ref d]/\GAt C H A S/\OkS S/\(∃ kvs,H d=some (.dK kvs)/\∀ sc w',(w,sc)∈S.os->w'∈Zaz S (w,sc)->∃ c,valV kvs (Sum.inl w':Key)=some (.ref c)/\TrAt H S n (.ref c) w')/\∀ H' ra,Same H H'->Zj6 (TrAt H' S n) H' S ra w->Q (.ref ra) H'
def ZgW (C:Cs):Sp:=λvs H Q _=>∃ A S,∃ w:Int,vs=[.ref A.g,.int w]/\GAt C H A S/\OkS S/\Up S/\∀ H' v,Same H H'->TrAt H' S 31 v w->Q v H'
theorem Zlf {S:Gst} {w sc:Int} (h:sc∈scS S w):(w,sc)∈S.os:=by
 obtain ⟨p,hp,rfl⟩:=List.mem_map.mp ((ZcS _).subset h)
 obtain ⟨h1,h2⟩:=List.mem_filter.mp hp
 have e:p.1=w:=of_decide_eq_true h2
 rw [<- e];exact h1
theorem Zft {α β:Type} {R:α->β->Prop} {xs:List α} {ys:List β} {x:α} {y:β} {i:Nat} (e:xs.length=(ys.take i).length/\∀ (j:Nat) a b,xs[j]?=some a->(ys.take i)[j]?=some b->R a b) (hy:ys[i]?=some y) (h:R x y):(xs++[x]).length=(ys.take (i+1)).length/\∀ (j:Nat) a b,(xs++[x])[j]?=some a->(ys.take (i+1))[j]?=some b->R a b:=by
 have q:ys.take (i+1)=ys.take i++[y]:=by rw [List.take_succ,hy];rfl
 rw [q]
 exact ⟨by rw [List.length_append,List.length_append,e.1];rfl,ZcR e.1 e.2 h⟩
theorem behind {ns:List Int} (so:ns.Pairwise (· < ·)) {i:Nat} {m w:Int} (h:ns[ns.length-1-i]?=some m) (hi:i<ns.length) (hw:w∈ns) (lt:m<w):w∈ns.drop (ns.length-i):=by
 obtain ⟨j,hj,rfl⟩:=List.getElem_of_mem hw
 rw [List.pairwise_iff_getElem] at so
 have hm:ns[ns.length-1-i]'(by omega)=m:=by
  rw [List.getElem?_eq_getElem (by omega)] at h
  exact Option.some.inj h
 have:ns.length-1-i<j:=by
  rcases Nat.lt_or_ge (ns.length-1-i) j with z | z
  ·exact z
  ·rcases Nat.lt_or_ge j (ns.length-1-i) with y | y
   ·have:=so j (ns.length-1-i) hj (by omega) y
    rw [hm] at this
    exact absurd lt (by omega)
   ·have e:j=ns.length-1-i:=by omega
    subst e
    rw [hm] at lt
    exact absurd lt (by omega)
 rw [List.mem_drop_iff_getElem]
 exact ⟨j-(ns.length-i),by omega,by congr 1;omega⟩
theorem Zjs {ns:List Int} {i:Nat} {m w:Int} (h:ns[ns.length-1-i]?=some m) (hi:i<ns.length) (hw:w∈ns.drop (ns.length-(i+1))):w=m\/w∈ns.drop (ns.length-i):=by
 have e:ns.drop (ns.length-(i+1))=m::ns.drop (ns.length-i):=by
  have e1:ns.length-(i+1)=ns.length-1-i:=by omega
  rw [e1]
  have lt:ns.length-1-i<ns.length:=by omega
  rw [List.drop_eq_getElem_cons lt]
  rw [List.getElem?_eq_getElem lt] at h
  rw [Option.some.inj h]
  congr 2
  omega
 rw [e] at hw
 exact List.mem_cons.mp hw
theorem Zd8 {S:Gst} {p:Pl} (hp:p∈S.os) {w:Int} (h:w∈Zaz S p):w∈((Zau S.os S.es).filter λe=>!e.dead).map Ent.who:=by
 obtain ⟨e,he,rfl,h1,h2⟩:=Zdq h
 refine List.mem_map.mpr ⟨e,List.mem_filter.mpr ⟨List.mem_filter.mpr ⟨he,?_⟩,by rw [h2];rfl⟩,rfl⟩
 rw [h1];exact decide_eq_true hp
theorem ZiV {κ:Type} [DecidableEq κ] {kvs:List (κ×V)} {k:κ} {v:V}:(putK kvs k v).length<=kvs.length+1:=by
 unfold putK
 split
 ·rw [List.length_map];omega
 ·rw [List.length_append,List.length_singleton];exact Nat.le_refl _
theorem at_i {xs:List V} {i:Nat} {v:V} (h:xs[i]?=some v):atI xs (0+(i:Int))=some v:=by
 have lt:=(List.getElem?_eq_some_iff.mp h).1
 have e:ixN xs.length (0+(i:Int))=some i:=by
  unfold ixN
  rw [if_pos (by omega)]
  simp [lt]
 unfold atI
 rw [e]
 exact h
def Kp (Pr:Addr->Prop) (H H':Hp):Prop:=∀ c u,(Pr c\/∃ xs,u=.tup xs)->H c=some u->H' c=some u
structure Bn (C:Cs) (H:Hp) (A:Ga) (SG:Gst) (L:La) (SL:Gst) (Pr:Addr->Prop):Prop where
 ga:GAt C H A SG
 la:LAt H L SL
 op:OpD H L SL
 og:OkS SG
 ol:OkS SL
 gl:∀ c,PrgA A SG c->¬ LawA L SL c
 pg:∀ c,Pr c->¬ PrgA A SG c
 pl:∀ c,Pr c->¬ LawA L SL c
 pn:∀ c,Pr c->∃ u,H c=some u
section
variable {C:Cs} {H H':Hp} {A A':Ga} {SG SL S':Gst} {L L':La} {Pr Pr':Addr->Prop}
theorem Kp.of (s:Same H H'):Kp Pr H H':=λc u _ e=>s c u e
theorem Kp.trans {H2:Hp} (a:Kp Pr H H') (b:Kp Pr H' H2):Kp Pr H H2:=λc u n e=>b c u n (a c u n e)
theorem Bn.same (X:Bn C H A SG L SL Pr) (s:Same H H'):Bn C H' A SG L SL Pr :=
 ⟨X.ga.same s,X.la.same s,s _ _ X.op,X.og,X.ol,X.gl,X.pg,X.pl,λc h=>by obtain ⟨u,e⟩:=X.pn c h;exact ⟨u,s _ _ e⟩⟩
theorem Bn.gown (X:Bn C H A SG L SL Pr):∀ c,PrgA A SG c->∃ u,H c=some u:=λc z=>by
 obtain ⟨u,e,_⟩:=X.ga.own z
 exact ⟨u,e⟩
theorem Bn.lown (X:Bn C H A SG L SL Pr):∀ c,LawA L SL c->∃ u,H c=some u:=λc z=>by
 obtain ⟨u,e,_⟩:=X.la.own z
 exact ⟨u,e⟩
theorem Bn.told (X:Bn C H A SG L SL Pr) (ok':OkS S') (g:GAt C H' A' S') (st:Stp (PrgA A SG) H (PrgA A' S') H'):Bn C H' A' S' L SL Pr/\Kp Pr H H':=by
 have nt:∀ c,PrgA A SG c->∀ xs,H c≠some (.tup xs):=λc h xs e=>by
  obtain ⟨u,e',n,_⟩:=X.ga.own h
  rw [e] at e';cases e'
  exact n _ rfl
 have kp:Kp Pr H H':=λc u n e=>st.fr c u (λz=>by
  rcases n with n | ⟨xs,rfl⟩
  ·exact X.pg c n z
  ·exact nt c z xs e) e
 refine ⟨⟨g,X.la.frame st nt X.gl,st.fr _ _ (λz=>X.gl _ z (.inr (.inl rfl))) X.op,ok',X.ol,Zd7 st X.gl X.lown,λc h z=>Zd7 st (λc z h=>X.pg c h z) X.pn c z h,X.pl,λc h=>?_⟩,kp⟩
 obtain ⟨u,e⟩:=X.pn c h
 exact ⟨u,kp c u (.inl h) e⟩
theorem Bn.due (X:Bn C H A SG L SL Pr) (ok':OkS S') (g:LAt H' L' S') (op:OpD H' L' S') (st:Stp (LawA L SL) H (LawA L' S') H'):Bn C H' A SG L' S' Pr/\Kp Pr H H':=by
 have nt:∀ c,LawA L SL c->∀ xs,H c≠some (.tup xs):=λc h xs e=>by
  obtain ⟨u,e',n⟩:=X.la.own h
  rw [e] at e';cases e'
  exact n _ rfl
 have kp:Kp Pr H H':=λc u n e=>st.fr c u (λz=>by
  rcases n with n | ⟨xs,rfl⟩
  ·exact X.pl c n z
  ·exact nt c z xs e) e
 refine ⟨⟨X.ga.frame st nt λc h z=>X.gl c z h,g,op,X.og,ok',λc h z=>Zd7 st (λc z h=>X.gl c h z) X.gown c z h,X.pg,λc h z=>Zd7 st (λc z h=>X.pl c h z) X.pn c z h,λc h=>?_⟩,kp⟩
 obtain ⟨u,e⟩:=X.pn c h
 exact ⟨u,kp c u (.inl h) e⟩
end
theorem Bn.fresh {C:Cs} {H H':Hp} {A:Ga} {SG SL:Gst} {L:La} {Pr:Addr->Prop} (X:Bn C H A SG L SL Pr) (s:Same H H') {q:Addr} {u:HO} (n:H q=none) (h:H' q=some u):Bn C H' A SG L SL (λc=>Pr c\/c=q):=by
 have Y:=X.same s
 refine ⟨Y.ga,Y.la,Y.op,Y.og,Y.ol,Y.gl,λc hc z=>?_,λc hc z=>?_,λc hc=>?_⟩
 ·rcases hc with hc | rfl
  ·exact Y.pg c hc z
  ·obtain ⟨u,e⟩:=X.gown _ z
   rw [n] at e;cases e
 ·rcases hc with hc | rfl
  ·exact Y.pl c hc z
  ·obtain ⟨u,e⟩:=X.lown _ z
   rw [n] at e;cases e
 ·rcases hc with hc | rfl
  ·exact Y.pn c hc
  ·exact ⟨_,h⟩
theorem UpI.nxt {S:Gst} {D:Dd} {i:Nat} (up:UpI S i) (h:¬ Ref S D):UpI (nxt S D) (i+1):=by
 obtain ⟨up,le⟩:=up
 have kl:∀ w o,∀ e∈(Zbe S w o).es,e.own<e.who:=λw o e he=>by
  obtain ⟨e0,h0,rfl⟩:=Zcn he
  rw [ZhO,Zdh]
  exact up e0 h0
 have ll:∀ w o,(Zbe S w o).es.length=S.es.length:=λw o=>by
  show (kill w o S.es).length=_
  unfold kill
  rw [List.length_map]
 cases D with
 |opn a b =>
  refine ⟨up,?_⟩
  show (S.ev++[(a,b)]).length+S.es.length<=i+1
  rw [List.length_append,List.length_singleton];omega
 |put a b l w =>
  simp only [Ref,not_or] at h
  refine ⟨λe he=>?_,?_⟩
  ·rcases List.mem_append.mp he with q | q
   ·exact up e q
   ·rw [List.mem_singleton.mp q]
    show a<w
    omega
  ·show S.ev.length+(S.es++[_]).length<=i+1
   rw [List.length_append,List.length_singleton];omega
 |fin w o fs =>
  have:=ll w o
  cases fs with
  |none=>exact ⟨kl w o,by show S.ev.length+(Zbe S w o).es.length<=i+1;omega⟩
  |some l=>exact ⟨kl w o,by show S.ev.length+(Zbe S w o).es.length<=i+1;omega⟩
 |note a b l=>exact ⟨up,Nat.le_succ_of_le le⟩
 |off a b=>exact ⟨up,Nat.le_succ_of_le le⟩
 |cls a b=>exact ⟨up,Nat.le_succ_of_le le⟩
theorem UpI.up {S:Gst} {i:Nat} (up:UpI S i):UpI S (i+1):=⟨up.1,Nat.le_succ_of_le up.2⟩
theorem UpI.to {S:Gst} {i:Nat} (up:UpI S i) (h:i<=60):Up S:=⟨up.1,Nat.le_trans up.2 h⟩
theorem Zk8 {C:Cs} {G3 G4:Hp} {A:Ga} {L:La} {S:Gst} {t r:Addr} {D:Dd} {i:Nat} {Pr:Addr->Prop} (X:Bn C G3 A S L S Pr) (bd:Bd S i) (hi:i<60) (hD:DdAt G3 t D) (h4:Td C G3 A S D G4 r):DdAt G4 t D/\LAt G4 L S/\OpD G4 L S:=by
 rcases h4 with ⟨n4,A',v,a1,a2,a3,a4,a5⟩ | ⟨y4,s4,a4⟩
 ·obtain ⟨X4,kp⟩:=X.told (X.og.nxt (bd.rm hi) hD.len.1 hD.len.2 n4) a1 a2
  exact ⟨hD.mono λt xs e=>kp _ _ (.inr ⟨_,rfl⟩) e,X4.la,X4.op⟩
 ·have X4:=X.same s4
  exact ⟨hD.mono λt xs e=>s4 _ _ e,X4.la,X4.op⟩
theorem Zj9 {C:Cs} {G3 G4 G5:Hp} {A:Ga} {L:La} {S:Gst} {t r r5:Addr} {D:Dd} {i:Nat} {Pr:Addr->Prop} (X:Bn C G3 A S L S Pr) (up:UpI S i) (bd:Bd S i) (hi:i<60) (hD:DdAt G3 t D) (h4:Td C G3 A S D G4 r) (h5:Tl G4 L S D G5 r5) :
  ∃ tg rs rs5 A' L' S',(Ref S D->tg="over")/\(¬ Ref S D->tg="told")/\G4 r=some (.tup (.str tg::rs))/\G5 r5=some (.tup (.str tg::rs5))/\A'.g=A.g/\L'.s=L.s/\Bn C G5 A' S' L' S' Pr/\UpI S' (i+1)/\Bd S' (i+1)/\Kp Pr G3 G5/\(S'=S\/S'=nxt S D):=by
 rcases h4 with ⟨n4,A',v,a1,a2,a3,a4,a5⟩ | ⟨y4,s4,a4⟩
 ·rcases h5 with ⟨_,L',v',b1,b2,b3,b4,b5,b6⟩ | ⟨y5,_⟩
  ·have ok':OkS (nxt S D):=X.og.nxt (bd.rm hi) hD.len.1 hD.len.2 n4
   obtain ⟨X4,k4⟩:=X.told ok' a1 a2
   obtain ⟨X5,k5⟩:=X4.due ok' b1 b2 b4
   exact ⟨"told",_,_,A',L',nxt S D,λz=>absurd z n4,λ_=>rfl,a4,b5,a3,b3,X5,up.nxt n4,bd.nxt D,k4.trans k5,.inr rfl⟩
  ·exact absurd y5 n4
 ·rcases h5 with ⟨n5,_⟩ | ⟨_,s5,b5⟩
  ·exact absurd y4 n5
  ·exact ⟨"over",_,_,A,L,S,λ_=>rfl,λz=>absurd y4 z,a4,b5,rfl,rfl,X.same (s4.trans s5),up.up,bd.up,Kp.of (s4.trans s5),.inl rfl⟩
def ZcE (S:Gst) (a:Int) (l:Str):Option Int:=(((Zau S.os S.es).filter λe=>decide (e.own=a)&&decide (e.lab=l)).map Ent.who).getLast?
def oV:Option Int->V
 |none=>.non
 |some w=>.int w
def Zfz (C:Cs):Sp:=λvs H Q _=>∃ A S a l,vs=[.ref A.g,.int a,.str l]/\GAt C H A S/\OkS S/\∀ H',Same H H'->Q (oV (ZcE S a l)) H'
def ZjJ (K:PySem.W.Frag):Sp:=λvs H Q _=>∃ (a:Addr) (ns:List Int) (k:Int),vs=[.ref a,.int k]/\SqL K H a (ns.map V.int)/\ns.length<=63/\0<=k/\∀ n:Int,Q (.int n) H
inductive Ask where
 |dd (D:Dd)
 |iso (a b:Int)
 |alv (a b:Int)
 |flt (a b:Int)
 |res (w:Int)
 |hom (w:Int)
def AskAt (H:Hp) (t:Addr):Ask->Prop
 |.dd D=>DdAt H t D
 |.iso a b=>H t=some (.tup [.str "is_off",.int a,.int b])
 |.alv a b=>H t=some (.tup [.str "alive",.int a,.int b])
 |.flt a b=>H t=some (.tup [.str "faults",.int a,.int b])
 |.res w=>H t=some (.tup [.str "result",.int w])
 |.hom w=>H t=some (.tup [.str "home",.int w])
def RefA (S:Gst):Ask->Prop
 |.dd D=>Ref S D
 |.iso a b=>(a,b)∉S.os
 |.alv a b=>(a,b)∉S.os
 |.flt a b=>(a,b)∉S.os
 |.res w=>w∉(Zau S.os S.es).map Ent.who
 |.hom w=>w∉(Zau S.os S.es).map Ent.who
theorem AskAt.mono {H H':Hp} {t:Addr} {q:Ask} (x:AskAt H t q) (s:∀ t xs,H t=some (.tup xs)->H' t=some (.tup xs)):AskAt H' t q:=by
 cases q with
 |dd D=>exact DdAt.mono x s
 |iso a b=>exact s _ _ x
 |alv a b=>exact s _ _ x
 |flt a b=>exact s _ _ x
 |res w=>exact s _ _ x
 |hom w=>exact s _ _ x
def Zlc (C:Cs) (Ov:Addr):Sp:=λvs H _ E=>∃ A S t q,vs=[.ref A.g,.ref t]/\AskAt H t q/\GAt C H A S/\OkS S/\Rm S/\RefA S q/\∀ H',Same H H'->E (.ref Ov) none H'
def ZjG (C:Cs):Sp:=λvs H Q _=>∃ A S t q,vs=[.ref A.g,.ref t]/\AskAt H t q/\GAt C H A S/\OkS S/\Rm S/\RefA S q/\∀ H',Same H H'->Q (.bl true) H'
structure Bdd (S:Gst):Prop where
 ow:∀ p∈S.ev,0<=p.1/\p.1<=mnS S
 sc:∀ p∈S.ev,p.2<=12
def ZgV:Sp:=λvs H Q _=>∃ L S,∃ x:Int,vs=[.ref L.s,.int x]/\LAt H L S/\OkS S/\OpD H L S/\Bdd S/\∀ H' r (ts:List Addr),Same H H'->H' r=some (.lst (ts.map V.ref))->10<=ts.length->ts.length<=5000->(∀ t∈ts,∃ q,AskAt H' t q/\RefA S q)->Q (.ref r) H'
inductive De where
 |tree
 |alv (p:Pl)
 |flt (p:Pl)
 |nw (a:Int) (l:Str)
def DeAt (H:Hp) (S:Gst) (v:V):De->Prop
 |.tree=>TrAt H S 31 v 0
 |.alv p=>∃ a,v=.ref a/\H a=some (.lst ((Zaz S p).map V.int))
 |.flt p=>∃ a,v=.ref a/\H a=some (.tup ((S.ff p).map V.str))
 |.nw a l=>v=oV (ZcE S a l)
def desP (p:Pl):List De:=[.alv p,.flt p,.nw p.1 "a",.nw p.1 "b",.nw p.1 "ab",.nw p.1 "watch"]
def des (ks:List Pl):List De:=.tree::ks.flatMap desP
def SeIt (H:Hp) (S:Gst) (vs:List V) (ds:List De):Prop:=vs.length=ds.length/\∀ (i:Nat) v d,vs[i]?=some v->ds[i]?=some d->DeAt H S v d
def SeenAt (H:Hp) (S:Gst) (r:Addr):Prop:=∃ (ks:List Pl) (vs:List V),ks.Perm S.os/\(ks.Pairwise λa b=>ltP b a=false)/\H r=some (.lst vs)/\SeIt H S vs (des ks)
def ZjF (C:Cs):Sp:=λvs H Q _=>∃ L A S,vs=[.ref L.s,.ref A.g]/\LAt H L S/\GAt C H A S/\OkS S/\OpD H L S/\Up S/\∀ H' r,Same H H'->SeenAt H' S r->Q (.ref r) H'
theorem Bdd.nxt {S:Gst} {D:Dd} (b:Bdd S) (h:Zk5 S D):Bdd (nxt S D):=by
 cases D with
 |opn x y =>
  obtain ⟨h1,h2,h3⟩:=h x y rfl
  refine ⟨λp hp=>?_,λp hp=>?_⟩
  ·rcases List.mem_append.mp hp with q | q
   ·exact b.ow p q
   ·rw [List.mem_singleton.mp q];exact h1
  ·rcases List.mem_append.mp hp with q | q
   ·exact b.sc p q
   ·rw [List.mem_singleton.mp q];exact h3
 |put x y l w =>
  refine ⟨λp hp=>?_,b.sc⟩
  have mp:mnS (putS S ⟨w,x,y,l,none⟩)=max (mnS S) w:=ZjV _
  have:=b.ow p hp
  show 0<=p.1/\p.1<=mnS (putS S ⟨w,x,y,l,none⟩)
  omega
 |fin w o fs =>
  cases fs with
  |none =>
   refine ⟨λp hp=>?_,b.sc⟩
   show 0<=p.1/\p.1<=mnS (Zbe S w o)
   rw [Ze6];exact b.ow p hp
  |some l =>
   refine ⟨λp hp=>?_,b.sc⟩
   show 0<=p.1/\p.1<=mnS (Zbe S w o)
   rw [Ze6];exact b.ow p hp
 |note x y l=>exact ⟨b.ow,b.sc⟩
 |off x y=>exact ⟨b.ow,b.sc⟩
 |cls x y=>exact ⟨b.ow,b.sc⟩
theorem Zf2 {S:Gst} (ok:OkS S) (b:Bdd S) {a sc:Int} (h:mnS S<a):(a,sc)∉S.os:=λz=>by
 have:=(b.ow _ (ok.sub _ z)).2
 have:a<=mnS S:=this
 omega
theorem Zh2 {S:Gst} (ok:OkS S) (b:Bdd S) {a sc:Int} (h:12<sc):(a,sc)∉S.os:=λz=>by
 have:=b.sc _ (ok.sub _ z)
 have:sc<=12:=this
 omega
theorem Zfi {S:Gst} {w:Int} (h:mnS S<w):w∉(Zau S.os S.es).map Ent.who:=λz=>by
 obtain ⟨e,he,rfl⟩:=List.mem_map.mp z
 have:=ZjU (List.mem_filter.mp he).1
 omega
def RwsW (H:Hp) (S:Gst) (ts:List Addr):Prop:=∀ t∈ts,∃ q,AskAt H t q/\RefA S q
theorem RwsW.kp {H H':Hp} {S:Gst} {ts:List Addr} (h:RwsW H S ts) (s:Tt H H'):RwsW H' S ts:=λt ht=>by
 obtain ⟨q,q1,q2⟩:=h t ht
 exact ⟨q,q1.mono s,q2⟩
theorem RwsW.app {H:Hp} {S:Gst} {ts us:List Addr} (h:RwsW H S ts) (h':RwsW H S us):RwsW H S (ts++us):=λt ht=>(List.mem_append.mp ht).elim (h t) (h' t)
theorem RwsW.one {H:Hp} {S:Gst} {t:Addr} {q:Ask} (h:AskAt H t q) (r:RefA S q):RwsW H S [t]:=λx hx=>by
 rw [List.mem_singleton.mp hx];exact ⟨q,h,r⟩
structure Sn (H H4 G:Hp) (S:Gst) (fl r:Addr) (qs:List Addr) (vs:List V) (ds:List De):Prop where
 s:Same H G
 t:Tt H4 G
 f:G fl=some (.lst vs)
 q:G r=some (.lst (qs.map V.ref))
 it:SeIt G S vs ds
 nv:∀ v∈vs,v≠.ref fl
 nr:r≠fl
theorem DeAt.kp {H H':Hp} {S:Gst} {v:V} {d:De} {fl:Addr} (h:DeAt H S v d) (k:∀ c u,c≠fl->H c=some u->H' c=some u) (hf:∃ xs,H fl=some (.lst xs)) (nv:v≠.ref fl):DeAt H' S v d:=by
 obtain ⟨xs,hf⟩:=hf
 cases d with
 |tree=>exact TrAt.kp (λc ys e=>k c _ (Zaq e hf (λz=>nomatch z)) e) h
 |alv p =>
  obtain ⟨a,rfl,h⟩:=h
  exact ⟨a,rfl,k a _ (λz=>nv (by rw [z])) h⟩
 |flt p =>
  obtain ⟨a,rfl,h⟩:=h
  exact ⟨a,rfl,k a _ (λz=>nv (by rw [z])) h⟩
 |nw a l=>exact h
theorem DeAt.same {H H':Hp} {S:Gst} {v:V} {d:De} (h:DeAt H S v d) (s:Same H H'):DeAt H' S v d:=by
 cases d with
 |tree=>exact TrAt.kp (Tt.of s) h
 |alv p=>obtain ⟨a,e,h⟩:=h;exact ⟨a,e,s _ _ h⟩
 |flt p=>obtain ⟨a,e,h⟩:=h;exact ⟨a,e,s _ _ h⟩
 |nw a l=>exact h
theorem SeIt.same {H H':Hp} {S:Gst} {vs:List V} {ds:List De} (h:SeIt H S vs ds) (s:Same H H'):SeIt H' S vs ds:=⟨h.1,λi v d a b=>(h.2 i v d a b).same s⟩
theorem Sn.same {H H4 G G':Hp} {S:Gst} {fl r:Addr} {qs:List Addr} {vs:List V} {ds:List De} (X:Sn H H4 G S fl r qs vs ds) (s:Same G G'):Sn H H4 G' S fl r qs vs ds :=
 ⟨X.s.trans s,λc xs e=>s _ _ (X.t c xs e),s _ _ X.f,s _ _ X.q,X.it.same s,X.nv,X.nr⟩
theorem Sn.app {H H4 G:Hp} {S:Gst} {fl r:Addr} {qs:List Addr} {vs:List V} {ds:List De} (X:Sn H H4 G S fl r qs vs ds) (hfl:H fl=none) {v:V} {d:De} (hd:DeAt G S v d) (n:v≠.ref fl):Sn H H4 (upd G fl (.lst (vs++[v]))) S fl r qs (vs++[v]) (ds++[d]):=by
 have k:∀ c u,c≠fl->G c=some u->upd G fl (.lst (vs++[v])) c=some u:=λc u n e=>by rw [Zae n];exact e
 refine ⟨λc u e=>?_,λc xs e=>k c _ (Zaq (X.t c xs e) X.f (λz=>nomatch z)) (X.t c xs e),Zab,k _ _ X.nr X.q,⟨by rw [List.length_append,List.length_append,X.it.1];rfl,ZcR X.it.1 (λi a b x y=>(X.it.2 i a b x y).kp k ⟨_,X.f⟩ (X.nv a (List.mem_of_getElem? x))) (hd.kp k ⟨_,X.f⟩ n)⟩,λx hx=>?_,X.nr⟩
 ·rw [Zae (Zai e hfl)]
  exact X.s c u e
 ·rcases List.mem_append.mp hx with z | z
  ·exact X.nv x z
  ·rw [List.mem_singleton.mp z];exact n
theorem Zjv {ks:List Pl} {i:Nat} {p:Pl} (h:ks[i]?=some p):des (ks.take (i+1))=des (ks.take i)++desP p:=by
 unfold des
 rw [List.take_succ,h,List.flatMap_append,Option.toList_some,List.flatMap_cons,List.flatMap_nil,List.append_nil];rfl
theorem Zh9 (ks:List Pl):(des ks).length=1+6*ks.length:=by
 unfold des
 rw [List.length_cons]
 have:∀ ks:List Pl,(ks.flatMap desP).length=6*ks.length:=λks=>by
  induction ks with
  |nil=>rfl
  |cons p r ih=>rw [List.flatMap_cons,List.length_append,ih,List.length_cons];show 6+_=_;omega
 rw [this];omega
def labs:List Str:=["a", "b", "ab", "watch"]
structure Wr (H G:Hp) (S:Gst) (rl:Addr) (ts:List Addr) (n:Nat):Prop where
 s:Same H G
 f:H rl=none
 l:G rl=some (.lst (ts.map V.ref))
 w:RwsW G S ts
 le:ts.length<=n
 ge:10<=ts.length
theorem Wr.same {H G G':Hp} {S:Gst} {rl:Addr} {ts:List Addr} {n:Nat} (X:Wr H G S rl ts n) (s:Same G G'):Wr H G' S rl ts n:=⟨X.s.trans s,X.f,s _ _ X.l,X.w.kp (Tt.of s),X.le,X.ge⟩
theorem Wr.app {H G:Hp} {S:Gst} {rl t:Addr} {ts:List Addr} {n:Nat} {q:Ask} (X:Wr H G S rl ts n) (h:AskAt G t q) (r:RefA S q):Wr H (upd G rl (.lst (ts.map V.ref++[.ref t]))) S rl (ts++[t]) (n+1)/\∀ c u,c≠rl->G c=some u->upd G rl (.lst (ts.map V.ref++[.ref t])) c=some u:=by
 have k:∀ c u,c≠rl->G c=some u->upd G rl (.lst (ts.map V.ref++[.ref t])) c=some u:=λc u n e=>by rw [Zae n];exact e
 have tt:Tt G (upd G rl (.lst (ts.map V.ref++[.ref t]))):=λc xs e=>k c _ (Zaq e X.l (λz=>nomatch z)) e
 refine ⟨⟨λc u e=>k c u (Zai e X.f) (X.s c u e),X.f,by rw [Zab,List.map_append];rfl,(X.w.kp tt).app (RwsW.one (h.mono tt) r),?_,?_⟩,k⟩
 ·rw [List.length_append,List.length_singleton];exact Nat.succ_le_succ X.le
 ·have:=X.ge
  rw [List.length_append];omega
theorem Wr.cat {H G:Hp} {S:Gst} {rl r2:Addr} {ts us:List Addr} {n:Nat} (X:Wr H G S rl ts n) (h:G r2=none) (w:RwsW G S us):Wr H (upd G r2 (.lst (ts.map V.ref++us.map V.ref))) S r2 (ts++us) (n+us.length):=by
 have s:Same G (upd G r2 (.lst (ts.map V.ref++us.map V.ref))):=Same.upd h
 refine ⟨X.s.trans s,X.s.free h,by rw [Zab,List.map_append],(X.w.kp (Tt.of s)).app (w.kp (Tt.of s)),?_,?_⟩
 ·have:=X.le
  rw [List.length_append];omega
 ·have:=X.ge
  rw [List.length_append];omega
theorem catG {K:PySem.W.Frag} {H:Hp} {a b:Addr} {xs ys:List V} {R:VK} (ha:H a=some (.tup xs)) (hb:H b=some (.tup ys)) (hx:xs≠[]) (hy:ys≠[]) (hl:xs.length+ys.length<=50) (k:∀ p,H p=none->R (.ref p) (upd H p (.tup (xs++ys)))):ZfL K (.ref a) (.ref b) H R :=
 .inl ⟨a,b,_,_,rfl,rfl,SqT.of ha,SqT.of hb,hx,Nat.le_of_lt (Zam (by omega)),λz=>absurd z hy,λ_ p hp=>k p hp⟩
theorem ZcX (ns:List Addr) (lo hi:Option Int):∃ zs:List Addr,cutV (ns.map V.ref) lo hi=zs.map V.ref/\(∀ z∈zs,z∈ns)/\zs.length<=ns.length:=by
 unfold cutV
 rw [<- List.map_drop,<- List.map_take]
 refine ⟨_,rfl,λz hz=>List.mem_of_mem_drop (List.mem_of_mem_take hz),?_⟩
 rw [List.length_take,List.length_drop]
 omega
theorem cut4 (ns:List Addr):∃ zs:List Addr,cutV (ns.map V.ref) none (some 4)=zs.map V.ref/\(∀ z∈zs,z∈ns)/\zs.length<=4:=by
 unfold cutV
 rw [<- List.map_drop,<- List.map_take]
 refine ⟨_,rfl,λz hz=>List.mem_of_mem_drop (List.mem_of_mem_take hz),?_⟩
 have e2:HT.sIx (ns.map V.ref).length (ns.map V.ref).length (some 4)=min 4 (ns.map V.ref).length:=HT.sIx_nat _ _ 4
 have e1:HT.sIx (ns.map V.ref).length 0 none=0:=rfl
 rw [e1,e2,List.length_take]
 omega
structure Wl (H H6 G:Hp) (S:Gst) (c2:Addr) (us:List Addr) (rl:Addr) (ts:List Addr) (n:Nat):Prop where
 x:Wr H G S rl ts n
 t:Tt H6 G
 c:G c2=some (.lst (us.map V.ref))
 n:c2≠rl
section
variable {H H6 G G':Hp} {S:Gst} {c2 rl r2 t:Addr} {us ts vs:List Addr} {n:Nat} {q:Ask}
theorem Wl.same (X:Wl H H6 G S c2 us rl ts n) (s:Same G G'):Wl H H6 G' S c2 us rl ts n:=⟨X.x.same s,λc xs e=>s _ _ (X.t c xs e),s _ _ X.c,X.n⟩
theorem Wl.app (X:Wl H H6 G S c2 us rl ts n) (h:AskAt G t q) (r:RefA S q):Wl H H6 (upd G rl (.lst (ts.map V.ref++[.ref t]))) S c2 us rl (ts++[t]) (n+1):=by
 obtain ⟨Y,k⟩:=X.x.app h r
 exact ⟨Y,λc xs e=>k c _ (Zaq (X.t c xs e) X.x.l (λz=>nomatch z)) (X.t c xs e),k _ _ X.n X.c,X.n⟩
theorem Wl.cat (X:Wl H H6 G S c2 us rl ts n) (h:G r2=none) (w:RwsW G S vs):Wl H H6 (upd G r2 (.lst (ts.map V.ref++vs.map V.ref))) S c2 us r2 (ts++vs) (n+vs.length) :=
 ⟨X.x.cat h w,λc xs e=>Same.upd h _ _ (X.t c xs e),Same.upd h _ _ X.c,Zai X.c h⟩
theorem Wl.more (X:Wl H H6 G S c2 us rl ts n) {m:Nat} (h:n<=m):Wl H H6 G S c2 us rl ts m:=⟨⟨X.x.s,X.x.f,X.x.l,X.x.w,Nat.le_trans X.x.le h,X.x.ge⟩,X.t,X.c,X.n⟩
end
def WlS (H H6:Hp) (S:Gst) (L:La) (x mn:Int) (c2:Addr) (us:List Addr) (n:Nat):St->Hp->Prop:=λσ G=>∃ (v4 v5:Option V) (rl:Addr) (ts:List Addr),σ=[some (.ref L.s),some (.int x),some (.int (mn+7)),some (.ref rl),v4,v5]/\Wl H H6 G S c2 us rl ts n
def WlM (H H6:Hp) (S:Gst) (L:La) (x mn:Int) (c2:Addr) (us:List Addr) (n:Nat) (u:Addr):St->Hp->Prop:=λσ G=>∃ (v5:Option V) (rl:Addr) (ts:List Addr),σ=[some (.ref L.s),some (.int x),some (.int (mn+7)),some (.ref rl),some (.ref u),v5]/\Wl H H6 G S c2 us rl ts n
theorem Zi3 {S:Gst} (ok:OkS S) {e:Ent} (he:e∈S.es) (h:e.pl∉S.os):e.who∉(Zau S.os S.es).map Ent.who:=λz=>by
 obtain ⟨e',he',w⟩:=List.mem_map.mp z
 obtain ⟨h1,h2⟩:=List.mem_filter.mp he'
 rw [ZbI ok.who h1 he w] at h2
 exact h (of_decide_eq_true h2)
theorem ZkL {S:Gst} (ok:OkS S) {e:Ent} (he:e∈S.es) (h:e.dead=true):¬ ∃ e'∈Zau S.os S.es,e'.who=e.who/\e'.dead=false:=λ⟨e',he',w,d⟩=>by
 rw [ZbI ok.who (List.mem_filter.mp he').1 he w,h] at d
 cases d
theorem Wr.more {H G:Hp} {S:Gst} {rl:Addr} {ts:List Addr} {n m:Nat} (X:Wr H G S rl ts n) (h:n<=m):Wr H G S rl ts m:=⟨X.s,X.f,X.l,X.w,Nat.le_trans X.le h,X.ge⟩
theorem Zl8 {K:PySem.W.Frag} {Pr:Addr->Prop} {H H':Hp} {a:Addr} {xs:List V} (h:SqL K H a xs) (hp:Pr a\/∀ G,SqL K G a xs) (kp:Kp Pr H H'):SqL K H' a xs:=by
 rcases hp with hp | hp
 ·rcases h with r | r
  ·refine .inl ?_
   rcases r with r | ⟨o,r⟩
   ·exact .inl (kp _ _ (.inl hp) r)
   ·exact .inr ⟨o,kp _ _ (.inl hp) r⟩
  ·exact .inr r
 ·exact hp H'
theorem Zmg (ns:List Int):∃ zs:List Int,cutV (ns.map V.int) (some 2) (some 42)=zs.map V.int/\zs.length<=40:=by
 unfold cutV
 rw [<- List.map_drop,<- List.map_take]
 refine ⟨_,rfl,?_⟩
 have e1:HT.sIx (ns.map V.int).length 0 (some 2)=min 2 (ns.map V.int).length:=HT.sIx_nat _ 0 2
 have e2:HT.sIx (ns.map V.int).length (ns.map V.int).length (some 42)=min 42 (ns.map V.int).length:=HT.sIx_nat _ _ 42
 rw [e1,e2,List.length_take,List.length_drop,List.length_map]
 omega
theorem ZhI:∀ {l m:List Pl},l.Perm m->(l.Pairwise λa b=>ltP b a=false)->(m.Pairwise λa b=>ltP b a=false)->l=m
 |[],m,p,_,_=>by rw [p.nil_eq]
 |x::l,[],p,_,_=>by have:=p.length_eq;simp at this
 |x::l,y::m,p,h1,h2=>by
  rw [List.pairwise_cons] at h1 h2
  have hx:x∈y::m:=p.subset List.mem_cons_self
  have hy:y∈x::l:=p.symm.subset List.mem_cons_self
  have e:x=y:=by
   rcases List.mem_cons.mp hx with z | z
   ·exact z
   ·rcases List.mem_cons.mp hy with z' | z'
    ·exact z'.symm
    ·have a:=h2.1 x z
     have b:=h1.1 y z'
     unfold ltP at a b
     refine Prod.ext ?_ ?_
     ·by_cases q:x.1=y.1
      ·exact q
      ·rw [if_neg q] at a
       rw [if_neg (Ne.symm q)] at b
       have:=of_decide_eq_false a
       have:=of_decide_eq_false b
       omega
     ·by_cases q:x.1=y.1
      ·rw [if_pos q] at a
       rw [if_pos q.symm] at b
       by_cases q2:x.2=y.2
       ·exact q2
       ·rw [if_neg q2] at a
        rw [if_neg (Ne.symm q2)] at b
        have:=of_decide_eq_false a
        have:=of_decide_eq_false b
        omega
      ·rw [if_neg q] at a
       rw [if_neg (Ne.symm q)] at b
       have:=of_decide_eq_false a
       have:=of_decide_eq_false b
       omega
  subst e
  rw [ZhI ((List.perm_cons x).mp p) h1.2 h2.2]
theorem DeAt.eqd {K:PySem.W.Frag} {H:Hp} {S:Gst} (ok:OkS S) {v v':V} {d:De} (h:DeAt H S v d) (h':DeAt H S v' d):EqD K H 124 v v' true:=by
 cases d with
 |tree=>exact (TrAt.ak ok h h').eqd
 |alv p =>
  obtain ⟨a,rfl,e⟩:=h
  obtain ⟨b,rfl,e'⟩:=h'
  exact ZkW e e' rfl (ZbV λx hx=>by obtain ⟨y,_,rfl⟩:=List.mem_map.mp hx;exact .inl rfl)
 |flt p =>
  obtain ⟨a,rfl,e⟩:=h
  obtain ⟨b,rfl,e'⟩:=h'
  exact Zh6 e e' rfl (ZbV λx hx=>by obtain ⟨y,_,rfl⟩:=List.mem_map.mp hx;exact .inl rfl)
 |nw a l =>
  rw [show v=_ from h,show v'=_ from h']
  cases ZcE S a l<;>exact Zf3 (.inl rfl)
theorem Zkj {K:PySem.W.Frag} {H:Hp} {S:Gst} (ok:OkS S) {r r':Addr} {R:VK} (h:SeenAt H S r) (h':SeenAt H S r') (k:R (.bl false) H):Zli K (.ref r) (.ref r') H R:=by
 obtain ⟨ks,vs,p1,o1,l1,t1,t2⟩:=h
 obtain ⟨ks',vs',p1',o1',l1',t1',t2'⟩:=h'
 obtain rfl:=ZhI (p1.trans p1'.symm) o1 o1'
 refine ⟨r,r',vs,vs',124,λ_=>true,rfl,rfl,SqL.of l1,SqL.of l1',by decide,λi x y ex ey=>?_,?_⟩
 ·obtain ⟨d,ed⟩:=Zc2 t1 ex
  exact (t2 i x d ex ed).eqd ok (t2' i y d ey ed)
 ·have q:(decide (vs.length=vs'.length)&&(List.range vs.length).all λ_=>true)=true:=by
   rw [t1,t1'];simp
  rw [q]
  exact k
theorem SeenAt.same {H H':Hp} {S:Gst} {r:Addr} (h:SeenAt H S r) (s:Same H H'):SeenAt H' S r:=by
 obtain ⟨ks,vs,a,b,c,d⟩:=h
 exact ⟨ks,vs,a,b,s _ _ c,d.same s⟩
theorem Zit {S:Gst} (ok:OkS S) {p:Pl} {w:Int} {l:Str} (h:p∉S.ev):Zaz (putS (opnS S p) ⟨w,p.1,p.2,l,none⟩) p=[w]:=by
 have e:ZaJ (putS (opnS S p) ⟨w,p.1,p.2,l,none⟩) p=[⟨w,p.1,p.2,l,none⟩]:=by
  show (S.es++[_]).filter _=_
  rw [List.filter_append]
  have:(S.es.filter λe=>decide (e.pl=p)&&!e.dead)=[]:=by
   rw [List.filter_eq_nil_iff]
   intro x hx
   have:x.pl≠p:=λz=>h (z▸ok.hm x hx)
   simp [this]
  rw [this,List.nil_append,List.filter_cons,if_pos (by simp [Ent.pl,Ent.dead])];rfl
 unfold Zaz
 rw [e]
 show srt [w]=[w]
 exact (Zfw (ns:=[w]) (List.Perm.refl _) (List.pairwise_singleton _ _)).symm
def LwI (C:Cs) (K:PySem.W.Frag) (Pr:Addr->Prop) (a g s0 ca:Addr) (ns zs:List Int) (i:Nat):St->Hp->Prop:=λσ G=>∃ (v3 v4 v5 v6 v7 v8:Option V) (A:Ga) (L:La) (S:Gst),σ=[some (.ref a),some (.ref g),some (.ref s0),v3,v4,v5,v6,v7,v8]/\A.g=g/\L.s=s0/\Bn C G A S L S Pr/\UpI S i/\Bd S i/\Bdd S/\G ca=some (.lst (zs.map V.int))/\SqL K G a (ns.map V.int)
theorem al {G G':Hp} {p:Addr} {o:HO} (e:upd G p o=G') (h:G p=none):Same G G'/\G' p=some o:=by
 subst e
 exact ⟨Same.upd h,Zab⟩


theorem Zcx:FnScope ["self"] ["self"] (Zaj (Zal (top 10) 0)):=⟨rfl,rfl,rfl,by decide +kernel,rfl,by decide +kernel,by decide +kernel⟩
theorem ZcD (T:Tx K mg):FnOk P w K mg base CX0 1 T.m_Group___init__.f T.m_Group___init__.fd ["self"] (ZgY T.C_Group):=by
 refine T.m_Group___init__.F.ok Zcx (λvs H Q E h=>?_) (λcdv A outer s H vs Q E hr h=>?_)
 ·obtain ⟨p,dx,rfl,_⟩:=h
  rfl
 ·obtain ⟨p,dx,rfl,hp,k⟩:=h
  refine ⟨_,(Zad (Zbv (pv 0) Zc8 rfl)
  (Zah (Zbv (pv 0) (Zap Zac) rfl))),?_⟩
  walk_at "sy"
  refine ⟨_,_,_,hp,T.k_Group,T.n_Group_off,(by show 0<1000;decide),by decide,λt ht=>?_⟩
  have npt:p≠t:=Zai Zab ht
  rw [Zae npt.symm] at ht
  refine ⟨_,_,_,(by rw [Zae npt,Zab]),T.k_Group,T.n_Group_faults,(by show 1<1000;decide),?_⟩
  rw [Ziy npt,ZlM]
  exact k t ht
theorem Zca:FnScope ["self", "home", "label"] ["self", "home", "label"] (Zaj (Zal (top 11) 0)):=⟨rfl,rfl,rfl,by decide +kernel,rfl,by decide +kernel,by decide +kernel⟩
theorem Zcg (T:Tx K mg):FnOk P w K mg base CX0 1 T.m_Member___init__.f T.m_Member___init__.fd ["self", "home", "label"] (Zg3 T.C_Member):=by
 refine T.m_Member___init__.F.ok Zca (λvs H Q E h=>?_) (λcdv A outer s H vs Q E hr h=>?_)
 ·obtain ⟨p,dx,x,l,rfl,_⟩:=h
  rfl
 ·obtain ⟨p,dx,x,l,rfl,hp,k⟩:=h
  refine ⟨_,(Zad (Zbv (pv 0) (pv 1) rfl)
  (Zad (Zbv (pv 0) (pv 2) rfl)
  (Zah (Zbv (pv 0) ZbS rfl)))),?_⟩
  walk_at "sy"
  refine ⟨_,_,_,hp,T.k_Member,T.n_Member_home,(by show 0<1000;decide),_,_,_,Zab,T.k_Member,T.n_Member_label,(by show 1<1000;decide),_,_,_,Zab,T.k_Member,T.n_Member_result,?_,?_⟩
  ·show (putF _ _ [_]).length<1000
   rw [putF,if_neg (by decide +kernel)]
   show 2<1000
   decide
  ·rw [ZgJ,ZgJ,ZlN]
   exact k
theorem Zcc:FnScope ["self"] ["self"] (Zaj (Zal (top 12) 0)):=⟨rfl,rfl,rfl,by decide +kernel,rfl,by decide +kernel,by decide +kernel⟩
theorem Zcj (T:Tx K mg):FnOk P w K mg base CX0 1 T.m_Groups___init__.f T.m_Groups___init__.fd ["self"] (Zg4 ⟨T.C_Groups,T.C_Group,T.C_Member⟩):=by
 refine T.m_Groups___init__.F.ok Zcc (λvs H Q E h=>?_) (λcdv A outer s H vs Q E hr h=>?_)
 ·obtain ⟨p,dx,rfl,_⟩:=h
  rfl
 ·obtain ⟨p,dx,rfl,hp,k⟩:=h
  refine ⟨_,(Zad (Zbv (pv 0) ZcV rfl)
  (Zad (Zbv (pv 0) Zce rfl)
  (Zad (Zbv (pv 0) ZcV rfl)
  (Zah (Zbv (pv 0) Zce rfl))))),?_⟩
  walk_at "sy"
  intro o ho
  obtain ⟨n1,a1,b1,c1,d1⟩:=Zfs (v:=.dT []) (w:=.ins T.C_Groups dx (putF "opened" (.ref o) [])) hp ho
  refine ⟨_,_,_,a1,T.k_Groups,T.n_Groups_opened,(by show 0<1000;decide),?_⟩
  generalize upd (upd H o (.dT [])) p (.ins T.C_Groups dx (putF "opened" (.ref o) []))=H1 at b1 c1 d1 |-
  intro m hm
  obtain ⟨n2,a2,b2,c2,d2⟩:=Zfs (v:=.dK []) (w:=.ins T.C_Groups dx (putF "members" (.ref m) (putF "opened" (.ref o) []))) b1 hm
  refine ⟨_,_,_,a2,T.k_Groups,T.n_Groups_members,(by show 1<1000;decide),?_⟩
  generalize upd (upd H1 m (.dK [])) p (.ins T.C_Groups dx (putF "members" (.ref m) (putF "opened" (.ref o) [])))=H2 at b2 c2 d2 |-
  intro oe he
  obtain ⟨n3,a3,b3,c3,d3⟩:=Zfs (v:=.dT []) (w:=.ins T.C_Groups dx (putF "opened_ever" (.ref oe) (putF "members" (.ref m) (putF "opened" (.ref o) [])))) b2 he
  have l2:(putF "members" (.ref m) (putF "opened" (.ref o) [])).length=2:=by
   rw [show putF "opened" (V.ref o) []=[((Str.ofString "opened"),V.ref o)] from rfl,putF,if_neg (by decide +kernel)];rfl
  refine ⟨_,_,_,a3,T.k_Groups,T.n_Groups_opened_ever,(by rw [l2];decide),?_⟩
  generalize upd (upd H2 oe (.dT [])) p (.ins T.C_Groups dx (putF "opened_ever" (.ref oe) (putF "members" (.ref m) (putF "opened" (.ref o) []))))=H3 at b3 c3 d3 |-
  intro pe hpe
  obtain ⟨n4,a4,b4,c4,d4⟩:=Zfs (v:=.dK []) (w:=.ins T.C_Groups dx (flG o m oe pe)) b3 hpe
  have l3:(putF "opened_ever" (.ref oe) (putF "members" (.ref m) (putF "opened" (.ref o) []))).length=3:=by
   rw [show putF "opened" (V.ref o) []=[((Str.ofString "opened"),V.ref o)] from rfl,show putF "members" (V.ref m) [((Str.ofString "opened"),V.ref o)]=[((Str.ofString "opened"),V.ref o),((Str.ofString "members"),V.ref m)] by rw [putF,if_neg (by decide +kernel)];rfl]
   rw [putF,if_neg (by decide +kernel),putF,if_neg (by decide +kernel)];rfl
  refine ⟨_,_,_,a4,T.k_Groups,T.n_Groups_put_ever,(by rw [l3];decide),?_⟩
  rw [ZlO]
  have o4:=d4 _ _ (Ne.symm n1) (d3 _ _ (Ne.symm n1) (d2 _ _ (Ne.symm n1) c1))
  have m4:=d4 _ _ (Ne.symm n2) (d3 _ _ (Ne.symm n2) c2)
  have e4:=d4 _ _ (Ne.symm n3) c3
  refine k _ ⟨p,o,m,oe,pe,λ_=>0,λ_=>0⟩ rfl ⟨⟨dx,b4⟩,o4,m4,e4,c4,?_,?_,λq hq=>(by cases hq),λq hq=>(by cases hq),λq hq=>(by cases hq),λq hq=>(by cases hq)⟩ (λc u nc e=>d4 _ _ nc (d3 _ _ nc (d2 _ _ nc (d1 _ _ nc e)))) λc h=>?_
  ·exact Zai (d2 _ _ (Ne.symm n1) c1) he
  ·exact Zai (d3 _ _ (Ne.symm n2) c2) hpe
  ·by_cases nc:c=p
   ·exact .inl nc
   ·refine .inr ?_
    have f1:∀ {c},c≠p->H1 c=none->H c=none:=λ{c} n z=>by
     cases e:H c with
     |none=>rfl
     |some u=>rw [d1 _ _ n e] at z;cases z
    have f2:∀ {c},c≠p->H2 c=none->H c=none:=λ{c} n z=>f1 n (by
     cases e:H1 c with
     |none=>rfl
     |some u=>rw [d2 _ _ n e] at z;cases z)
    have f3:∀ {c},c≠p->H3 c=none->H c=none:=λ{c} n z=>f2 n (by
     cases e:H2 c with
     |none=>rfl
     |some u=>rw [d3 _ _ n e] at z;cases z)
    rcases h with h | h | h | h | h | ⟨q,hq,_⟩ | ⟨e,he,_⟩
    ·exact absurd h nc
    ·rw [h];exact ho
    ·rw [h];exact f1 (Ne.symm n2) hm
    ·rw [h];exact f2 (Ne.symm n3) he
    ·rw [h];exact f3 (Ne.symm n4) hpe
    ·cases hq
    ·cases he
theorem Zcb:FnScope ["self", "owner", "scope"] ["self", "owner", "scope"] (Zaj (Zal (top 12) 1)):=⟨rfl,rfl,rfl,by decide +kernel,rfl,by decide +kernel,by decide +kernel⟩
theorem Zch (T:Tx K mg):FnOk P w K mg base (CXD P w) 1 T.m_Groups_group_at.f T.m_Groups_group_at.fd ["self", "owner", "scope"] (Zbi ⟨T.C_Groups,T.C_Group,T.C_Member⟩ T.C_Over):=by
 refine T.m_Groups_group_at.F.okD Zcb (λvs H Q E h=>?_) (λcdv A outer s H vs Q E hr h=>?_)
 ·obtain ⟨A,S,a,b,rfl,_⟩:=h
  rfl
 ·obtain ⟨A,S,a,b,rfl,B,k,kx⟩:=h
  have hu1:=Za8 hr
  refine ⟨_,(Zad (ZaK (ZbQ (Zcf hu1 (Zap (Zaa (pv 1) (Zaa (pv 2) Zac))) (ZaQ (pv 0) rfl)))
  (Zah (Zbu ZaC rfl rfl T.x_Over))
  Zas)
  (Zah (Zao (Zak hu1 (ZaQ (pv 0) rfl) (Zap (Zaa (pv 1) (Zaa (pv 2) Zac))) (λ_ _=>rfl))))),?_⟩
  walk_at "sy"
  obtain ⟨dx,hg⟩:=B.ob
  refine ⟨by decide,λp hp=>?_⟩
  have s1:Same H (upd H p (.tup [.int a,.int b])):=Same.upd hp
  refine ⟨_,_,_,s1 _ _ hg,T.k_Groups,T.n_Groups_opened,_,Zh1,_,rfl,?_⟩
  by_cases hm:(a,b)∈S.os
  ·refine ⟨_,B.opn s1 Zab hm,?_⟩
   simp only [Option.isSome_some,Bool.not_true,Bool.false_eq_true,if_false]
   exact ⟨_,_,_,s1 _ _ hg,T.k_Groups,T.n_Groups_opened,_,Zh1,by decide,λp1 hp1=>⟨_,rfl,_,B.opn (s1.trans (Same.upd hp1)) Zab hm,k hm _ (s1.trans (Same.upd hp1))⟩⟩
  ·refine ⟨_,B.opnN s1 Zab hm,?_⟩
   exact kx hm _ s1
theorem ZcK:FnScope ["self", "who"] ["self", "who"] (Zaj (Zal (top 12) 2)):=⟨rfl,rfl,rfl,by decide +kernel,rfl,by decide +kernel,by decide +kernel⟩
theorem ZcO (T:Tx K mg):FnOk P w K mg base (CXD P w) 1 T.m_Groups_member.f T.m_Groups_member.fd ["self", "who"] (ZcT ⟨T.C_Groups,T.C_Group,T.C_Member⟩ T.C_Over):=by
 refine T.m_Groups_member.F.okD ZcK (λvs H Q E h=>?_) (λcdv A outer s H vs Q E hr h=>?_)
 ·obtain ⟨A,S,w,rfl,_⟩:=h
  rfl
 ·obtain ⟨A,S,w,rfl,B,k,kx⟩:=h
  have hu1:=Za8 hr
  refine ⟨_,(Zad (ZaK (ZbQ (Zcf hu1 (pv 1) (ZaQ (pv 0) rfl)))
  (Zah (Zbu ZaC rfl rfl T.x_Over))
  Zas)
  (Zah (Zao (Zak hu1 (ZaQ (pv 0) rfl) (pv 1) (λ_ _=>rfl))))),?_⟩
  walk_at "sy"
  obtain ⟨dx,hg⟩:=B.ob
  refine ⟨_,_,_,hg,T.k_Groups,T.n_Groups_members,_,Zfh,_,rfl,?_⟩
  by_cases hm:w∈(Zau S.os S.es).map Ent.who
  ·refine ⟨_,B.mem hm,?_⟩
   simp only [Option.isSome_some,Bool.not_true,Bool.false_eq_true,if_false]
   exact ⟨_,_,_,hg,T.k_Groups,T.n_Groups_members,_,Zfh,_,rfl,_,B.mem hm,k hm⟩
  ·exact ⟨_,B.memN hm,kx hm⟩
theorem ZbO:FnScope ["self", "owner", "scope"] ["self", "owner", "scope"] (Zaj (Zal (top 12) 3)):=⟨rfl,rfl,rfl,by decide +kernel,rfl,by decide +kernel,by decide +kernel⟩
theorem ZbP (T:Tx K mg)
  (G_Group___init__:FnOk P w K mg base CX0 1 T.m_Group___init__.f T.m_Group___init__.fd ["self"] (ZgY T.C_Group)):FnOk P w K mg base (CXD P w) 3 T.m_Groups_open_group.f T.m_Groups_open_group.fd ["self", "owner", "scope"] (Zg0 ⟨T.C_Groups,T.C_Group,T.C_Member⟩ T.C_Over):=by
 refine T.m_Groups_open_group.F.okD ZbO (λvs H Q E h=>?_) (λcdv A outer s H vs Q E hr h=>?_)
 ·obtain ⟨A,S,a,b,rfl,_⟩:=h
  rfl
 ·obtain ⟨A,S,a,b,rfl,B,ok,⟨z1,z2,_,_⟩,k,kx⟩:=h
  have hu1:=Za8 hr
  refine ⟨_,(Zad (ZaK (ZbQ (Zeo hu1 (Zap (Zaa (pv 1) (Zaa (pv 2) Zac))) (ZaQ (pv 0) rfl)))
  (Zah (Zbu ZaC rfl rfl T.x_Over))
  Zas)
  (Zad (Za9 hu1 (ZaQ (pv 0) rfl) (Zap (Zaa (pv 1) (Zaa (pv 2) Zac))) Zc8 rfl)
  (Zah (Za9 hu1 (ZaQ (pv 0) rfl) (Zap (Zaa (pv 1) (Zaa (pv 2) Zac))) (ZfR T.M_Group G_Group___init__ (hr.mono (by omega)) rfl T.h_Group T.m_Group___init__.b .nil ZaV) rfl)))),?_⟩
  walk_at "sy"
  obtain ⟨dx,hg⟩:=B.ob
  refine ⟨by decide,λp hp=>?_⟩
  have s1:Same H (upd H p (.tup [.int a,.int b])):=Same.upd hp
  refine ⟨_,_,_,s1 _ _ hg,T.k_Groups,T.n_Groups_opened_ever,_,Zj0,_,rfl,?_⟩
  by_cases hm:(a,b)∈S.ev
  ·exact ⟨_,B.evr s1 Zab hm,kx hm _ s1⟩
  ·refine ⟨_,B.evrN s1 Zab hm,?_⟩
   simp only [Option.isSome_none,Bool.false_eq_true,if_false]
   refine ⟨_,_,_,s1 _ _ hg,T.k_Groups,T.n_Groups_opened_ever,_,Zj0,by decide,λp1 hp1=>?_⟩
   have s2:Same H (upd (upd H p (.tup [.int a,.int b])) p1 (.tup [.int a,.int b])):=s1.trans (Same.upd hp1)
   generalize hH2:upd (upd H p (.tup [.int a,.int b])) p1 (.tup [.int a,.int b])=H2 at s2
   have tp1:H2 p1=some (.tup ((keyP (a,b)).map kV)):=by rw [<- hH2];exact Zab
   refine ⟨_,rfl,_,DPut.t (s2 _ _ B.ed) tp1 (by rw [List.length_map];exact Zam (by omega)),?_⟩
   rw [ZbL Za0 (f:=λ_=>.bl true) hm]
   intro x dx1 hx hdx ned
   obtain ⟨xo,hx2⟩:=ZaT hx
   obtain ⟨dxo,hdx2⟩:=ZaT hdx
   have xn:H x=none:=s2.free hx2
   refine ⟨x,dx1,rfl,Zab,λt ht=>⟨rfl,?_⟩⟩
   generalize hH3:upd H2 A.oe (.dT ((S.ev.map λp=>(keyP p,.bl true))++[(keyP (a,b),.bl true)]))=H3 at hx hdx ht
   have k3:But2 A.o A.oe H H3:=by rw [<- hH3];exact (But2.of s2).trans .r
   have e3:H3 A.oe=some (.dT ((S.ev++[(a,b)]).map λp=>(keyP p,.bl true))):=by rw [<- hH3,Zab,List.map_append];rfl
   have s4:Same H3 (upd (upd H3 dx1 (.own x)) x (.ins T.C_Group dx1 [])):=(Same.upd hdx).trans (Same.upd (by rw [Zae (Ne.symm ned)];exact hx))
   generalize hH4:upd (upd H3 dx1 (.own x)) x (.ins T.C_Group dx1 [])=H4 at s4 ht
   have x4:H4 x=some (.ins T.C_Group dx1 []):=by rw [<- hH4];exact Zab
   have tx:t≠x:=λz=>by rw [z,x4] at ht;cases ht
   have s5:Same H3 (upd (upd H4 t (.tup [])) x (.ins T.C_Group dx1 (flR false t))):=λc u e=>by
    have cx:c≠x:=Zai e hx
    rw [Zae cx]
    exact Same.upd ht c u (s4 c u e)
   generalize hH5:upd (upd H4 t (.tup [])) x (.ins T.C_Group dx1 (flR false t))=H5 at s5
   have x5:H5 x=some (.ins T.C_Group dx1 (flR false t)):=by rw [<- hH5];exact Zab
   have t5:H5 t=some (.tup []):=by rw [<- hH5,Zae tx];exact Zab
   have o3:H3 A.o=some (.dT (S.os.map λp=>(keyP p,.ref (A.gs p)))):=by rw [<- hH3,Zae B.ne1];exact s2 _ _ B.od
   have g3:H3 A.g=some (.ins T.C_Groups dx (flG A.o A.m A.oe A.pe)):=k3 _ _ (Zaq hg B.od (λz=>nomatch z)) (Zaq hg B.ed (λz=>nomatch z)) hg
   have no:(a,b)∉S.os:=λh=>hm (ok.sub _ h)
   refine ⟨_,_,_,s5 _ _ g3,T.k_Groups,T.n_Groups_opened,_,Zh1,by decide,λq hq=>?_⟩
   have s6:Same H3 (upd H5 q (.tup [.int a,.int b])):=s5.trans (Same.upd hq)
   have xq:x≠q:=Zai x5 hq
   have tq:t≠q:=Zai t5 hq
   refine ⟨_,rfl,_,DPut.t (k:=keyP (a,b)) (s6 _ _ o3) Zab (by rw [List.length_map];exact Zam (by omega)),?_⟩
   rw [ZbL Za0 (f:=λp=>.ref (A.gs p)) no]
   have xo':x≠A.o:=λz=>by rw [z,B.od] at xn;cases xn
   have to':t≠A.o:=λz=>by rw [z,s4 _ _ o3] at ht;cases ht
   have fin:=GAt.open (H':=upd (upd H5 q (.tup [.int a,.int b])) A.o (.dT ((S.os.map λp=>(keyP p,.ref (A.gs p)))++[(keyP (a,b),.ref x)]))) B ok hm (x:=x) ((k3.trans (But2.of s6)).trans .l) ?_ ?_ ?_ xn
   ·exact k hm _ _ _ fin.1 fin.2 rfl rfl
   ·rw [Zab,List.map_append,List.map_cons,List.map_nil,if_pos rfl]
    refine congrArg (λl=>some (HO.dT (l++_))) (List.map_congr_left λp hp=>?_)
    rw [if_neg (λz:p=(a,b)=>no (z▸hp))]
   ·rw [Zae (Ne.symm B.ne1)];exact s6 _ _ e3
   ·exact ⟨dx1,t,by rw [Zae xo',Zae xq];exact x5,by rw [Zae to',Zae tq];exact t5⟩
theorem ZbY:FnScope ["self"] ["self"] (Zaj (Zal (top 12) 10)):=⟨rfl,rfl,rfl,by decide +kernel,rfl,by decide +kernel,by decide +kernel⟩
theorem Zb2 (T:Tx K mg):FnOk P w K mg base CX0 1 T.m_Groups_all_alive.f T.m_Groups_all_alive.fd ["self"] (Zcu ⟨T.C_Groups,T.C_Group,T.C_Member⟩):=by
 refine T.m_Groups_all_alive.F.ok ZbY (λvs H Q E h=>?_) (λcdv A outer s H vs Q E hr h=>?_)
 ·obtain ⟨A,S,rfl,_⟩:=h
  rfl
 ·obtain ⟨A,S,rfl,B,ok,k⟩:=h
  have hu1:=Za8 hr
  refine ⟨_,(Zah (Zao (Zlq (N':=["who", "member"]) (sel:=[none,none]) rfl rfl rfl (ZaQ (pv 0) rfl) (ZjY rfl rfl) (λ_ _ _ _ _=>⟨(ZfP rfl (Zbm (ZaG (i:=0) (show (["who", "member"]:List Str).Nodup by decide +kernel) rfl (Or.inl rfl)) (Zbm (ZaG (i:=1) (show (["who", "member"]:List Str).Nodup by decide +kernel) rfl (Or.inl rfl)) ZdU))),(Zc7 (Zar ZjS (ZdV (K:=K) rfl (pv 1) rfl) ZbS (Zaw _))),(pv 0)⟩)))),?_⟩
  walk_at "sy"
  obtain ⟨dx,hg⟩:=B.ob
  have ll:(Zau S.os S.es).length<=S.es.length:=List.length_filter_le _ _
  have lz:=ok.sz.2.1
  refine ⟨_,_,_,hg,T.k_Groups,T.n_Groups_members,_,Zfh,_,rfl,_,B.md,?_⟩
  refine Zi9 (Zau S.os S.es) (λe=>Sum.inl e.who) (λe=>.ref (A.ms e.who)) (λe=>!e.dead) (λe=>.int e.who) (Nat.le_of_lt (Zam (by omega))) ?_ ?_
  ·intro e ys G p he sG hp
   obtain ⟨dm,th,h1,h2,h3⟩:=B.me e he
   have s2:=sG.trans (Same.upd (o:=.tup [kV (Sum.inl e.who),.ref (A.ms e.who)]) hp)
   refine ⟨p,_,rfl,SqT.of Zab,rfl,_,_,rfl,_,_,rfl,rfl,?_⟩
   walk_at "sx"
   refine ⟨_,_,_,s2 _ _ (ZdE B.md h1 (λz=>nomatch z)),T.k_Member,T.n_Member_result,_,ZcF,?_⟩
   cases hd:e.res with
   |some t =>
    have hdd:e.dead=true:=by unfold Ent.dead;rw [hd];rfl
    refine ifn (by simp [resV]) ?_
    exact ⟨s2,by simp [hdd]⟩
   |none =>
    have hdd:e.dead=false:=by unfold Ent.dead;rw [hd];rfl
    refine ifp (by simp [resV]) ?_
    exact ⟨s2,by simp [hdd];rfl⟩
  ·intro G sG D hD nD
   have hDH:H D=none:=by have:=sG.free hD;rw [Zcp nD] at this;exact this
   refine k _ D ((sG.updR hD).back B.md) hDH ?_
   rw [Zae nD,Zab]
theorem sc_Groups_alive:FnScope ["self", "owner", "scope", "home"] ["self", "owner", "scope"] (Zaj (Zal (top 12) 9)):=⟨rfl,rfl,rfl,by decide +kernel,rfl,by decide +kernel,by decide +kernel⟩
theorem Zdc (T:Tx K mg)
  (G_Groups_group_at:FnOk P w K mg base (CXD P w) 1 T.m_Groups_group_at.f T.m_Groups_group_at.fd ["self", "owner", "scope"] (Zbi ⟨T.C_Groups,T.C_Group,T.C_Member⟩ T.C_Over))
  (G_Groups_all_alive:FnOk P w K mg base CX0 1 T.m_Groups_all_alive.f T.m_Groups_all_alive.fd ["self"] (Zcu ⟨T.C_Groups,T.C_Group,T.C_Member⟩)):FnOk P w K mg base (CXD P w) 2 T.m_Groups_alive.f T.m_Groups_alive.fd ["self", "owner", "scope"] (ZbU ⟨T.C_Groups,T.C_Group,T.C_Member⟩ T.C_Over):=by
 refine T.m_Groups_alive.F.okD sc_Groups_alive (λvs H Q E h=>?_) (λcdv A outer s H vs Q E hr h=>?_)
 ·obtain ⟨A,S,a,b,rfl,_⟩:=h
  rfl
 ·obtain ⟨A,S,a,b,rfl,B,ok,k,kx⟩:=h
  have hu:=ZcQ hr
  have hu1:=Za8 hr
  refine ⟨_,(Zad (ZaW (Zay (pv 0) T.k_Groups T.m_Groups_group_at.me G_Groups_group_at (hr.mono (by omega)) T.m_Groups_group_at.b .nil (Zbc ZaC (λ_ _ _ z=>z)) (Zaa (pv 1) (Zaa (pv 2) Zac))))
  (Zad (Zax (i:=3) sc_Groups_alive.nd rfl (Or.inr rfl) (Zap (Zaa (pv 1) (Zaa (pv 2) Zac))))
  (Zah (Zao (ZaD Zbp (by rfl) T.n_sorted Zbb (Zaa (Zen (N':=["who", "self", "home"]) (sel:=[none,some 0,some 3]) rfl rfl rfl (Zbt (ZfQ (pv 0) T.k_Groups T.m_Groups_all_alive.me G_Groups_all_alive (hr.mono (by omega)) T.m_Groups_all_alive.b .nil ZaV)) (Zby rfl) (λ_ _ _ _ _=>⟨(ZaG (i:=0) (show (["who", "self", "home"]:List Str).Nodup by decide +kernel) rfl (Or.inl rfl)),(Zc7 (Zar (ZkA (K:=K) rfl hu) (ZdV (K:=K) rfl (Zak hu1 (ZdV (K:=K) rfl (pv 1) rfl) (pv 0) (λ_ _=>rfl)) rfl) (pv 2) (Zaw _))),(pv 0)⟩)) Zac)))))),?_⟩
  walk_at "sy"
  obtain ⟨dx,hg⟩:=B.ob
  have ll:(Zau S.os S.es).length<=S.es.length:=List.length_filter_le _ _
  have l2:((Zau S.os S.es).filter λe=>!e.dead).length<=(Zau S.os S.es).length:=List.length_filter_le _ _
  have lz:=ok.sz.2.1
  refine ⟨_,_,hg,ZaE (by decide +kernel),A,S,a,b,rfl,B,λho H1 s1=>⟨by decide,λp hp=>?_⟩,λno H1 s1=>kx no H1 s1⟩
  have s2:Same H (upd H1 p (.tup [.int a,.int b])):=s1.trans (Same.upd hp)
  have t2:upd H1 p (.tup [.int a,.int b]) p=some (.tup [.int a,.int b]):=Zab
  generalize upd H1 p (.tup [.int a,.int b])=H2 at s2 t2 |-
  have B2:=B.same s2
  refine ⟨_,rfl,A.g,dx,_,rfl,s2 _ _ hg,ZaE (by decide +kernel),A,S,rfl,B2,ok,λH3 r s3 hrn hr3=>?_⟩
  refine ⟨r,rfl,⟨_,SqL.of hr3⟩,?_⟩
  refine ZkH (xs:=(Zau S.os S.es).filter λe=>!e.dead) (f:=λe=>V.int e.who) (λe=>decide (e.pl=(a,b))) hr3 (Nat.le_of_lt (Zam (by omega))) ?_ ?_
  ·intro e ys G he sG
   have he1:e∈Zau S.os S.es:=(List.mem_filter.mp he).1
   have s5:=s3.trans sG
   have B5:=B2.same s5
   obtain ⟨dm,th,h1,h2,h3⟩:=B5.me e he1
   walk_at "sx"
   refine ⟨_,_,_,s5 _ _ (s2 _ _ hg),T.k_Groups,T.n_Groups_members,_,Zfh,_,rfl,_,B5.mem (List.mem_map.mpr ⟨e,he1,rfl⟩),_,rfl,_,_,_,h1,T.k_Member,T.n_Member_home,_,ZbN,?_⟩
   refine eqP h2 (s5 _ _ t2) ⟨_,rfl,?_⟩
   rw [Bool.false_xor]
   by_cases q:(e.own,e.sc)=(a,b)
   ·have q':e.pl=(a,b):=q
    refine ifp (decide_eq_true q) ?_
    exact ⟨sG,by rw [if_pos (decide_eq_true q')]⟩
   ·have q':¬ e.pl=(a,b):=q
    refine ifn (by simpa using q) ?_
    exact ⟨sG,by rw [if_neg (by simpa using q')];simp⟩
  ·intro G sG D hD
   rw [ZjD ho]
   have al:(ZaJ S (a,b)).length<=S.es.length:=List.length_filter_le _ _
   have em:(ZaJ S (a,b)).map (λe=>V.int e.who)=((ZaJ S (a,b)).map Ent.who).map V.int:=by rw [List.map_map];rfl
   rw [em]
   have sD:Same H (upd G D (.lst (((ZaJ S (a,b)).map Ent.who).map V.int))):=((s2.trans s3).trans sG).updR hD
   exact ⟨D,rfl,_,SqL.of Zab,by rw [List.length_map];omega,λl ns hl perm so=>by
    obtain rfl:=Zfw perm so
    exact k ho _ l (sD.updR hl) (sD.free hl) Zab⟩
theorem sc_Groups_put_in:FnScope ["self", "owner", "scope", "label", "who", "group"] ["self", "owner", "scope", "label", "who"] (Zaj (Zal (top 12) 4)):=⟨rfl,rfl,rfl,by decide +kernel,rfl,by decide +kernel,by decide +kernel⟩
theorem ZcM (T:Tx K mg)
  (G_Groups_group_at:FnOk P w K mg base (CXD P w) 1 T.m_Groups_group_at.f T.m_Groups_group_at.fd ["self", "owner", "scope"] (Zbi ⟨T.C_Groups,T.C_Group,T.C_Member⟩ T.C_Over))
  (G_Member___init__:FnOk P w K mg base CX0 1 T.m_Member___init__.f T.m_Member___init__.fd ["self", "home", "label"] (Zg3 T.C_Member)):FnOk P w K mg base (CXD P w) 3 T.m_Groups_put_in.f T.m_Groups_put_in.fd ["self", "owner", "scope", "label", "who"] (Zke ⟨T.C_Groups,T.C_Group,T.C_Member⟩ T.C_Over):=by
 refine T.m_Groups_put_in.F.okD sc_Groups_put_in (λvs H Q E h=>?_) (λcdv A outer s H vs Q E hr h=>?_)
 ·obtain ⟨A,S,a,b,l,w,rfl,_⟩:=h
  rfl
 ·obtain ⟨A,S,a,b,l,w,rfl,B,ok,⟨_,_,z1,_⟩,k,kx⟩:=h
  have hu1:=Za8 hr
  refine ⟨_,(Zad (Zax (i:=5) sc_Groups_put_in.nd rfl (Or.inl rfl) (Zay (pv 0) T.k_Groups T.m_Groups_group_at.me G_Groups_group_at (hr.mono (by omega)) T.m_Groups_group_at.b .nil (Zbc ZaC (λ_ _ _ z=>z)) (Zaa (pv 1) (Zaa (pv 2) Zac))))
  (Zad (ZaK (PW.pt (Ze0 (ZbQ (Zeo hu1 (pv 4) (ZaQ (pv 0) rfl))) (Zc6 (Zar Zlt (pv 4) (pv 1) (Zaw _)))))
  (Zah (Zbu ZaC rfl rfl T.x_Over))
  Zas)
  (Zad (Za9 hu1 (ZaQ (pv 0) rfl) (pv 4) Zc8 rfl)
  (Zad (Za9 hu1 (ZaQ (pv 0) rfl) (pv 4) (Zkv T.M_Member G_Member___init__ (hr.mono (by omega)) rfl T.h_Member T.m_Member___init__.b .nil ZaV (Zaa (Zap (Zaa (pv 1) (Zaa (pv 2) Zac))) (Zaa (pv 3) Zac))) rfl)
  (Zah (Zao (ZaQ (pv 5) rfl))))))),?_⟩
  walk_at "sy"
  obtain ⟨dx,hg⟩:=B.ob
  refine ⟨_,_,hg,ZaE (by decide +kernel),A,S,a,b,rfl,B,λho H1 s1=>?_,λno H1 s1=>kx (.inl no) H1 s1⟩
  have B1:=B.same s1
  refine ⟨_,_,_,s1 _ _ hg,T.k_Groups,T.n_Groups_put_ever,_,ZjZ,_,rfl,?_⟩
  by_cases hw:w∈S.es.map Ent.who
  ·exact ⟨_,B1.put hw,kx (.inr (.inl hw)) H1 s1⟩
  refine ⟨_,B1.putN hw,?_⟩
  simp only [Option.isSome_none,Bool.false_eq_true,if_false]
  by_cases hwa:w<=a
  ·refine ifp (by simpa using hwa) ?_
   exact kx (.inr (.inr hwa)) H1 s1
  refine ifn (by simpa using hwa) ?_
  refine ⟨_,_,_,s1 _ _ hg,T.k_Groups,T.n_Groups_put_ever,_,ZjZ,_,rfl,_,DPut.k (k:=Sum.inl w) B1.pd (by rw [List.length_map];exact Zam (by omega)),by decide,λp hp=>?_⟩
  rw [ZaH (f:=λ_=>.bl true),ZbL Zbf (f:=λ_=>.bl true) hw,<- ZaH (f:=λ_=>.bl true)] at hp |-
  intro x dx1 hx hdx ned
  obtain ⟨xp,hx2⟩:=ZaT hx
  obtain ⟨xpe,hx3⟩:=ZaT hx2
  have xn:H x=none:=s1.free hx3
  have xn1:H1 x=none:=hx3
  generalize hH2:upd H1 A.pe (.dK ((S.es.map λe=>(Sum.inl e.who,.bl true))++[(Sum.inl w,.bl true)]))=H2 at hp hx hdx hx2
  have k2:But2 A.pe A.m H1 H2:=by rw [<- hH2];exact .l
  have p2:H2 A.pe=some (.dK ((S.es.map λe=>(Sum.inl e.who,.bl true))++[(Sum.inl w,.bl true)])):=by rw [<- hH2];exact Zab
  have m2:H2 A.m=some (.dK ((Zau S.os S.es).map λe=>(Sum.inl e.who,.ref (A.ms e.who)))):=by rw [<- hH2,Zae B.ne2];exact B1.md
  have s3:Same H2 (upd H2 p (.tup [.int a,.int b])):=Same.upd hp
  generalize hH3:upd H2 p (.tup [.int a,.int b])=H3 at hx hdx s3
  have p3:H3 p=some (.tup [.int a,.int b]):=by rw [<- hH3];exact Zab
  have s4:Same H3 (upd (upd H3 dx1 (.own x)) x (.ins T.C_Member dx1 [])):=(Same.upd hdx).trans (Same.upd (by rw [Zae (Ne.symm ned)];exact hx))
  generalize hH4:upd (upd H3 dx1 (.own x)) x (.ins T.C_Member dx1 [])=H4 at s4
  have x4:H4 x=some (.ins T.C_Member dx1 []):=by rw [<- hH4];exact Zab
  refine ⟨x,dx1,p,l,rfl,x4,rfl,?_⟩
  have s5:Same H3 (upd H4 x (.ins T.C_Member dx1 (flM p l .non))):=λc u e=>by
   rw [Zae (Zai e hx)]
   exact s4 c u e
  generalize hH5:upd H4 x (.ins T.C_Member dx1 (flM p l .non))=H5 at s5
  have x5:H5 x=some (.ins T.C_Member dx1 (flM p l .non)):=by rw [<- hH5];exact Zab
  have s25:Same H2 H5:=s3.trans s5
  have g5:H5 A.g=some (.ins T.C_Groups dx (flG A.o A.m A.oe A.pe)):=s25 _ _ (k2 _ _ (Zaq hg B.pd (λz=>nomatch z)) (Zaq hg B.md (λz=>nomatch z)) (s1 _ _ hg))
  have no:w∉(Zau S.os S.es).map Ent.who:=λh=>by
   obtain ⟨e,he,z⟩:=List.mem_map.mp h
   exact hw (List.mem_map.mpr ⟨e,(ZaU he).1,z⟩)
  have ll:(Zau S.os S.es).length<=S.es.length:=List.length_filter_le _ _
  refine ⟨_,_,_,g5,T.k_Groups,T.n_Groups_members,_,Zfh,_,rfl,_,DPut.k (k:=Sum.inl w) (s25 _ _ m2) (by rw [List.length_map];exact Zam (by omega)),?_⟩
  rw [ZaH (f:=λw=>.ref (A.ms w)),ZbL Zbf (f:=λw=>.ref (A.ms w)) no,<- ZaH (f:=λw=>.ref (A.ms w))]
  have xm:x≠A.m:=λz=>by rw [z,B1.md] at xn1;cases xn1
  have pm:p≠A.m:=λz=>by rw [z,m2] at hp;cases hp
  obtain ⟨dg,ft,gr1,gr2⟩:=B1.gr (a,b) ho
  have gr3:=s25 _ _ (k2 _ _ (Zaq gr1 B1.pd (λz=>nomatch z)) (Zaq gr1 B1.md (λz=>nomatch z)) gr1)
  refine ⟨_,rfl,_,_,_,by rw [Zae (Zaq gr1 B1.md (λz=>nomatch z))];exact gr3,T.k_Group,T.n_Group_off,_,Zfg,?_⟩
  have fin:=GAt.putE (H':=upd H5 A.m (.dK (((Zau S.os S.es).map λe=>(Sum.inl e.who,.ref (A.ms e.who)))++[(Sum.inl w,.ref x)]))) (l:=l) B1 ho hw (x:=x) ((k2.trans (But2.of s25)).trans .r) Zab (by rw [Zae (Ne.symm B.ne2)];exact s25 _ _ p2) ⟨dx1,p,by rw [Zae xm];exact x5,by rw [Zae pm];exact s5 _ _ p3⟩ xn1
  exact k (λz=>z.elim (λz=>z ho) λz=>z.elim hw hwa) _ _ _ fin.1 ((Stp.of s1).trans fin.2) rfl rfl
theorem sc_Groups_call_off:FnScope ["self", "owner", "scope", "group"] ["self", "owner", "scope"] (Zaj (Zal (top 12) 6)):=⟨rfl,rfl,rfl,by decide +kernel,rfl,by decide +kernel,by decide +kernel⟩
theorem Zci (T:Tx K mg)
  (G_Groups_group_at:FnOk P w K mg base (CXD P w) 1 T.m_Groups_group_at.f T.m_Groups_group_at.fd ["self", "owner", "scope"] (Zbi ⟨T.C_Groups,T.C_Group,T.C_Member⟩ T.C_Over))
  (G_Groups_alive:FnOk P w K mg base (CXD P w) 2 T.m_Groups_alive.f T.m_Groups_alive.fd ["self", "owner", "scope"] (ZbU ⟨T.C_Groups,T.C_Group,T.C_Member⟩ T.C_Over)):FnOk P w K mg base (CXD P w) 3 T.m_Groups_call_off.f T.m_Groups_call_off.fd ["self", "owner", "scope"] (Zb8 ⟨T.C_Groups,T.C_Group,T.C_Member⟩ T.C_Over):=by
 refine T.m_Groups_call_off.F.okD sc_Groups_call_off (λvs H Q E h=>?_) (λcdv A outer s H vs Q E hr h=>?_)
 ·obtain ⟨A,S,a,b,rfl,_⟩:=h
  rfl
 ·obtain ⟨A,S,a,b,rfl,B,ok,k,kx⟩:=h
  have hu1:=Za8 hr
  refine ⟨_,(Zad (Zax (i:=3) sc_Groups_call_off.nd rfl (Or.inl rfl) (Zay (pv 0) T.k_Groups T.m_Groups_group_at.me G_Groups_group_at (hr.mono (by omega)) T.m_Groups_group_at.b .nil (Zbc ZaC (λ_ _ _ z=>z)) (Zaa (pv 1) (Zaa (pv 2) Zac))))
  (Zad (ZaK (ZfO (ZaQ (pv 3) rfl))
  (Zah (Zao (ZaL Zac)))
  Zas)
  (Zad (Zbv (pv 3) Zc8 rfl)
  (Zah (Zao (Zat ZcI (ZaL (Zaa (Zap (Zaa (pv 1) (Zaa (pv 2) (Zaa Zag Zac)))) Zac)) (Zen (N':=["who"]) (sel:=[none]) rfl rfl rfl (Zbt (Zay (pv 0) T.k_Groups T.m_Groups_alive.me G_Groups_alive (hr.mono (by omega)) T.m_Groups_alive.b .nil (Zbc ZaC (λ_ _ _ z=>z)) (Zaa (pv 1) (Zaa (pv 2) Zac)))) (Zby rfl) (λ_ _ _ _ _=>⟨(ZaG (i:=0) (show (["who"]:List Str).Nodup by decide +kernel) rfl (Or.inl rfl)),Zcy,(Zap (Zaa (pv 0) (Zaa Zaf (Zaa Zag Zac))))⟩)))))))),?_⟩
  walk_at "sy"
  obtain ⟨dx,hg⟩:=B.ob
  refine ⟨_,_,hg,ZaE (by decide +kernel),A,S,a,b,rfl,B,λho H1 s1=>?_,λno H1 s1=>kx no H1 s1⟩
  have B1:=B.same s1
  obtain ⟨dg,ft,gr1,gr2⟩:=B1.gr (a,b) ho
  have nr:¬ Ref S (.off a b):=λz=>z ho
  refine ⟨_,rfl,_,_,_,gr1,T.k_Group,T.n_Group_off,_,Zfg,S.of (a,b),rfl,?_⟩
  cases hf:S.of (a,b) with
  |true =>
   rw [if_pos rfl]
   have es:nxt S (.off a b)=S:=Zet hf
   have em:ret S (.off a b)=.mk []:=by show Rv.mk (if S.of (a,b)=true then _ else _)=_;rw [if_pos hf]
   refine ⟨by decide,λp hp=>k nr _ A (.ref p) ?_ ?_ rfl ?_⟩
   ·rw [es];exact B1.same (Same.upd hp)
   ·rw [es];exact Stp.of (s1.updR hp)
   ·rw [em];exact ⟨p,rfl,s1.free hp,[],Zab,rfl,λi p q z=>by simp at z⟩
  |false =>
   refine ifn (by decide) ?_
   refine ⟨_,rfl,_,_,_,gr1,T.k_Group,T.n_Group_off,(by show 2<1000;decide),by decide,λp hp=>⟨by decide,λp1 hp1=>?_⟩⟩
   rw [hf] at gr1
   rw [Zjn] at hp hp1 |-
   obtain ⟨B2,st2⟩:=B1.grp (f:=true) (dx:=dg) (n:=S.fz) ho gr2
   have es:({ S with of:=setP S.of (a,b) true,ff:=setP S.ff (a,b) (S.ff (a,b)),fz:=S.fz }:Gst)=nxt S (.off a b):=by rw [ZbD];rfl
   rw [es] at B2 st2
   have em:ret S (.off a b)=.mk ((a,b)::(Zaz S (a,b)).map λw=>(w,0)):=by show Rv.mk (if S.of (a,b)=true then _ else _)=_;rw [if_neg (by rw [hf];decide)]
   have ok2:OkS (nxt S (.off a b)):=ok.offS (a,b)
   generalize hH2:upd H1 (A.gs (a,b)) (.ins T.C_Group dg (flR true ft))=H2 at hp hp1 B2 st2 |-
   have s4:Same H2 (upd (upd H2 p (.tup [.int a,.int b,.str "off"])) p1 (.lst [.ref p])):=(Same.upd hp).trans (Same.upd hp1)
   have l4:upd (upd H2 p (.tup [.int a,.int b,.str "off"])) p1 (.lst [.ref p]) p1=some (.lst [.ref p]):=Zab
   have p4:upd (upd H2 p (.tup [.int a,.int b,.str "off"])) p1 (.lst [.ref p]) p=some (.tup [.int a,.int b,.str "off"]):=by rw [Zae (Zai Zab hp1)];exact Zab
   generalize upd (upd H2 p (.tup [.int a,.int b,.str "off"])) p1 (.lst [.ref p])=H4 at s4 l4 p4 |-
   have B4:=B2.same s4
   obtain ⟨dx4,hg4⟩:=B4.ob
   refine ⟨_,rfl,A.g,dx4,_,rfl,hg4,ZaE (by decide +kernel),_,rfl,_,rfl,A,nxt S (.off a b),a,b,rfl,B4,ok2,λ_ H5 r s5 hrn hr5=>?_,λno=>absurd ho no⟩
   have hr5:H5 r=some (.lst ((Zaz S (a,b)).map V.int)):=hr5
   have al:(ZaJ S (a,b)).length<=S.es.length:=List.length_filter_le _ _
   have lz:=ok.sz.2.1
   have ln:(Zaz S (a,b)).length=(ZaJ S (a,b)).length:=by unfold Zaz;rw [ZbT,List.length_map]
   generalize Zaz S (a,b)=ns at hr5 ln em
   have pp4:H4 p=some (.tup [.int a,.int b,.str "off"]):=p4
   refine ⟨r,rfl,⟨_,SqL.of hr5⟩,?_⟩
   refine Zdg (K:=K) (a:=r) (xs:=ns.map V.int) (λi ys G=>Same H5 G/\∃ ps:List Addr,ys=ps.map V.ref/\ps.length=i/\∀ (j:Nat) p w,ps[j]?=some p->ns[j]?=some w->G p=some (.tup [.int w,.int 0,.str "off"])) ⟨Same.refl _,[],rfl,rfl,λj p w z=>by simp at z⟩ ?_ (by rw [List.length_map];exact Nat.le_of_lt (Zam (by omega))) ?_ ?_
   ·rintro i ys G hi ⟨sG,ps,rfl,rfl,_⟩
    exact ⟨SqL.of (sG _ _ hr5),by rw [List.length_map];exact Nat.le_refl _⟩
   ·rintro i x ys G hx ⟨sG,ps,rfl,rfl,hps⟩
    rw [List.getElem?_map] at hx
    cases ex:ns[ps.length]? with
    |none=>rw [ex] at hx;cases hx
    |some w =>
     rw [ex] at hx
     cases hx
     walk_at "sy"
     refine ⟨by decide,λq hq=>⟨sG.updR hq,ps++[q],by rw [List.map_append];rfl,by simp,λj p' w' hp' hw'=>?_⟩⟩
     rcases ZbK hp' with z | ⟨z,rfl⟩
     ·exact Same.upd hq _ _ (hps j p' w' z hw')
     ·rw [z,ex] at hw'
      cases hw'
      exact Zab
   ·rintro ys G ⟨sG,ps,rfl,hy,hps⟩ D hD
    rw [List.length_map] at hy
    have sD:Same H2 (upd G D (.lst (ps.map V.ref))):=((s4.trans s5).trans sG).updR hD
    refine ⟨p1,D,_,_,rfl,rfl,(sG.updR hD) _ _ (s5 _ _ l4),Zab,?_,λq hq=>?_⟩
    ·rw [List.length_map,hy];show 1+ns.length<=sizeLine;exact Nat.le_of_lt (Zam (by omega))
    ·have sq:=sD.updR (o:=.lst ([.ref p]++ps.map V.ref)) hq
     have sGq:=(Same.upd (o:=.lst (ps.map V.ref)) hD).updR (o:=.lst ([.ref p]++ps.map V.ref)) hq
     refine k nr _ A (.ref q) (B2.same sq) (((Stp.of s1).trans st2).trans (Stp.of sq)) rfl ?_
     rw [em]
     refine ⟨q,rfl,s1.free (B2.was st2 (λ_ h=>h) (sD.free hq)),p::ps,Zab,by simp [hy],λi p' q' hp' hq'=>?_⟩
     cases i with
     |zero =>
      obtain rfl:p=p':=by simpa using hp'
      obtain rfl:(a,b)=q':=by simpa using hq'
      exact sGq _ _ (sG _ _ (s5 _ _ pp4))
     |succ i =>
      rw [List.getElem?_cons_succ] at hp' hq'
      rw [List.getElem?_map] at hq'
      cases ew:ns[i]? with
      |none=>rw [ew] at hq';cases hq'
      |some w =>
       rw [ew] at hq'
       cases hq'
       exact sGq _ _ (hps i p' w hp' ew)
theorem sc_Groups_note:FnScope ["self", "owner", "scope", "faults", "group"] ["self", "owner", "scope", "faults"] (Zaj (Zal (top 12) 5)):=⟨rfl,rfl,rfl,by decide +kernel,rfl,by decide +kernel,by decide +kernel⟩
theorem Zdt (T:Tx K mg)
  (G_Groups_group_at:FnOk P w K mg base (CXD P w) 1 T.m_Groups_group_at.f T.m_Groups_group_at.fd ["self", "owner", "scope"] (Zbi ⟨T.C_Groups,T.C_Group,T.C_Member⟩ T.C_Over))
  (G_Groups_call_off:FnOk P w K mg base (CXD P w) 3 T.m_Groups_call_off.f T.m_Groups_call_off.fd ["self", "owner", "scope"] (Zb8 ⟨T.C_Groups,T.C_Group,T.C_Member⟩ T.C_Over)):FnOk P w K mg base (CXD P w) 4 T.m_Groups_note.f T.m_Groups_note.fd ["self", "owner", "scope", "faults"] (Zg1 ⟨T.C_Groups,T.C_Group,T.C_Member⟩ T.C_Over):=by
 refine T.m_Groups_note.F.okD sc_Groups_note (λvs H Q E h=>?_) (λcdv A outer s H vs Q E hr h=>?_)
 ·obtain ⟨A,S,a,b,f,xs,rfl,_⟩:=h
  rfl
 ·obtain ⟨A,S,a,b,f,xs,rfl,hf,hxl,B,ok,⟨_,_,_,hz⟩,k,kx⟩:=h
  have hu1:=Za8 hr
  refine ⟨_,(Zad (Zax (i:=4) sc_Groups_note.nd rfl (Or.inl rfl) (Zay (pv 0) T.k_Groups T.m_Groups_group_at.me G_Groups_group_at (hr.mono (by omega)) T.m_Groups_group_at.b .nil (Zbc ZaC (λ_ _ _ z=>z)) (Zaa (pv 1) (Zaa (pv 2) Zac))))
  (Zad (Zbv (pv 4) (Zat Zbo (ZaQ (pv 4) rfl) (Za5 Zbg (by rfl) T.n_tuple ZcZ (Zaa (pv 3) Zac))) rfl)
  (Zah (Zao (Zay (pv 0) T.k_Groups T.m_Groups_call_off.me G_Groups_call_off (hr.mono (by omega)) T.m_Groups_call_off.b .nil (Zbc ZaC (λ_ _ _ z=>z)) (Zaa (pv 1) (Zaa (pv 2) Zac))))))),?_⟩
  walk_at "sy"
  obtain ⟨dx,hg⟩:=B.ob
  refine ⟨_,_,hg,ZaE (by decide +kernel),A,S,a,b,rfl,B,λho H1 s1=>?_,λno H1 s1=>kx no H1 s1⟩
  have B1:=B.same s1
  obtain ⟨dg,ft,gr1,gr2⟩:=B1.gr (a,b) ho
  have gr3:=ok.fs (a,b) ho
  have hf1:=s1 _ _ hf
  have fin:∀ (H2:Hp) (y:Addr),Same H1 H2->H2 y=some (.tup ((S.ff (a,b)++xs).map V.str))->∃ a_2,V.ref (A.gs (a,b))=V.ref a_2/\∃ x x_6 x_7,H2 a_2=some (HO.ins x x_6 x_7)/\Cls K x/\NoAttr K x (Str.ofString "faults")/\x_7.length<1000 /\
    ∃ x_8 x_9,upd H2 a_2 (HO.ins x x_6 (putF (Str.ofString "faults") (.ref y) x_7)) A.g=some (HO.ins T.C_Groups x_8 x_9)/\List.lookup (Str.ofString "call_off") x_9=none /\
     Zb8 { G:=T.C_Groups,R:=T.C_Group,M:=T.C_Member } T.C_Over [V.ref A.g,V.int a,V.int b] (upd H2 a_2 (HO.ins x x_6 (putF (Str.ofString "faults") (.ref y) x_7))) Q E:=by
   intro H2 y s2 hy
   have B2:=B1.same s2
   refine ⟨_,rfl,_,_,_,s2 _ _ gr1,T.k_Group,T.n_Group_faults,(by show 2<1000;decide),?_⟩
   rw [Zjo]
   obtain ⟨B3,st3⟩:=B2.grp (f:=S.of (a,b)) (dx:=dg) (n:=S.fz+3) ho hy
   have es:({ S with of:=setP S.of (a,b) (S.of (a,b)),ff:=setP S.ff (a,b) (S.ff (a,b)++xs),fz:=S.fz+3 }:Gst)=fltS S (a,b) xs:=by rw [ZbD];rfl
   rw [es] at B3 st3
   obtain ⟨dx3,hg3⟩:=B3.ob
   refine ⟨_,_,hg3,ZaE (by decide +kernel),A,fltS S (a,b) xs,a,b,rfl,B3,ok.flt ho hxl hz,λnr H' A' v B' st' eg rv=>k (λz=>z ho) H' A' v B' (((Stp.of (s1.trans s2)).trans st3).trans st') eg ?_,λno=>absurd ho no⟩
   obtain ⟨r,h1,h2,h3⟩:=rv
   exact ⟨r,h1,(s1.trans s2).free (B3.was st3 (λ_ h=>h) h2),h3⟩
  refine ⟨_,rfl,_,_,_,gr1,T.k_Group,T.n_Group_faults,_,ZdD,xs.map V.str,.inr ⟨SqT.of hf1,?_⟩⟩
  by_cases e0:S.ff (a,b)=[]
  ·rw [e0] at gr2
   exact .inr ⟨ft,f,rfl,rfl,SqT.of gr2,⟨_,SqT.of hf1⟩,fin H1 f (Same.refl _) (by rw [e0];exact hf1)⟩
  ·refine .inl ⟨ft,f,_,_,rfl,rfl,SqT.of gr2,SqT.of hf1,λz=>e0 (List.map_eq_nil_iff.mp z),Nat.le_of_lt (Zam (by have:=ok.fl;rw [List.length_map,List.length_map];omega)),λz=>?_,λ_ q hq=>?_⟩
   ·have:xs=[]:=List.map_eq_nil_iff.mp z
    subst this
    exact fin H1 ft (Same.refl _) (by rw [List.append_nil];exact gr2)
   ·exact fin _ q (Same.upd hq) (by rw [Zab,List.map_append])
theorem sc_Groups_ended:FnScope ["self", "who", "outcome", "member"] ["self", "who", "outcome"] (Zaj (Zal (top 12) 7)):=⟨rfl,rfl,rfl,by decide +kernel,rfl,by decide +kernel,by decide +kernel⟩
theorem Zda (T:Tx K mg)
  (G_Groups_member:FnOk P w K mg base (CXD P w) 1 T.m_Groups_member.f T.m_Groups_member.fd ["self", "who"] (ZcT ⟨T.C_Groups,T.C_Group,T.C_Member⟩ T.C_Over))
  (G_Groups_note:FnOk P w K mg base (CXD P w) 4 T.m_Groups_note.f T.m_Groups_note.fd ["self", "owner", "scope", "faults"] (Zg1 ⟨T.C_Groups,T.C_Group,T.C_Member⟩ T.C_Over)):FnOk P w K mg base (CXD P w) 5 T.m_Groups_ended.f T.m_Groups_ended.fd ["self", "who", "outcome"] (Zg5 ⟨T.C_Groups,T.C_Group,T.C_Member⟩ T.C_Over):=by
 refine T.m_Groups_ended.F.okD sc_Groups_ended (λvs H Q E h=>?_) (λcdv A outer s H vs Q E hr h=>?_)
 ·obtain ⟨A,S,w,t,fs,rfl,_⟩:=h
  rfl
 ·obtain ⟨A,S,w,t,fs,rfl,ot,B,ok,rm,k,kx⟩:=h
  have hu1:=Za8 hr
  refine ⟨_,(Zad (Zax (i:=3) sc_Groups_ended.nd rfl (Or.inl rfl) (Zay (pv 0) T.k_Groups T.m_Groups_member.me G_Groups_member (hr.mono (by omega)) T.m_Groups_member.b .nil (Zbc ZaC (λ_ _ _ z=>z)) (Zaa (pv 1) Zac)))
  (Zad (ZaK (Zar Ze3 (ZaQ (pv 3) rfl) ZbS (Zaw _))
  (Zah (Zbu ZaC rfl rfl T.x_Over))
  Zas)
  (Zad (Zbv (pv 3) (pv 2) rfl)
  (Zad (ZaK (Zar Zkz (Zav Zan (pv 2) Zaf (λ_ _=>rfl)) Zag (Zaw _))
  (Zah (Zao (ZaL Zac)))
  Zas)
  (Zah (Zao (Zay (pv 0) T.k_Groups T.m_Groups_note.me G_Groups_note (hr.mono (by omega)) T.m_Groups_note.b .nil (Zbc ZaC (λ_ _ _ z=>z)) (Zaa (Zav Zan (ZaQ (pv 3) rfl) Zaf (λ_ _=>rfl)) (Zaa (Zav Zan (ZaQ (pv 3) rfl) Zaf (λ_ _=>rfl)) (Zaa (Zav Zan (pv 2) Zaf (λ_ _=>rfl)) Zac)))))))))),?_⟩
  walk_at "sy"
  obtain ⟨dx,hg⟩:=B.ob
  refine ⟨_,_,hg,ZaE (by decide +kernel),A,S,w,rfl,B,λhw=>?_,λno=>kx (λ⟨e,he,z,_⟩=>no (List.mem_map.mpr ⟨e,he,z⟩)) H (Same.refl _)⟩
  obtain ⟨e,he,rfl⟩:=List.mem_map.mp hw
  obtain ⟨dm,th,h1,h2,h3⟩:=B.me e he
  refine ⟨_,rfl,_,_,_,h1,T.k_Member,T.n_Member_result,_,ZcF,?_⟩
  cases hd:e.res with
  |some t' =>
   refine ifp (by simp [resV]) ?_
   refine kx (λ⟨e',he',z,d'⟩=>?_) H (Same.refl _)
   have:=ZbI ok.who (ZaU he').1 (ZaU he).1 z
   rw [this] at d'
   unfold Ent.dead at d'
   rw [hd] at d'
   cases d'
  |none =>
   have hdd:e.dead=false:=by unfold Ent.dead;rw [hd];rfl
   refine ifn (by simp [resV]) ?_
   obtain ⟨kk,rr,ho,hpl,hf⟩:=ot
   refine ⟨_,rfl,_,_,_,h1,T.k_Member,T.n_Member_result,(by show 3<1000;decide),?_⟩
   rw [ZkU]
   obtain ⟨B2,st2⟩:=B.killE ok he h1 h2 ho (PlV.cons hpl)
   have nt:∀ {c:Addr} {ys:List V},H c=some (.tup ys)->upd H (A.ms e.who) (.ins T.C_Member dm (flM th e.lab (.ref t))) c=some (.tup ys):=λq=>by rw [Zae (Zaq q h1 (λz=>nomatch z))];exact q
   have h1':upd H (A.ms e.who) (.ins T.C_Member dm (flM th e.lab (.ref t))) (A.ms e.who)=some (.ins T.C_Member dm (flM th e.lab (.ref t))):=Zab
   have fr2:∀ {c:Addr},upd H (A.ms e.who) (.ins T.C_Member dm (flM th e.lab (.ref t))) c=none->H c=none:=λq=>(ZaT q).2
   generalize upd H (A.ms e.who) (.ins T.C_Member dm (flM th e.lab (.ref t)))=H2 at B2 st2 nt h1' fr2 |-
   obtain ⟨dx2,hg2⟩:=B2.ob
   have nr:¬ Ref S (.fin e.who t fs):=λz=>z ⟨e,he,rfl,hdd⟩
   refine ixT (v:=.str kk) (nt ho) at_0 ⟨rfl,?_⟩
   rcases hf with ⟨rfl,q⟩ | ⟨l,f,rfl,q,rfl,hf1,hf2⟩
   ·refine ifp (by simpa using q) ?_
    exact ⟨by decide,λp hp=>k nr _ A (.ref p) (B2.same (Same.upd hp)) (st2.trans (Stp.of (Same.upd hp))) rfl ⟨p,rfl,fr2 hp,[],Zab,rfl,λi p q z=>by simp at z⟩⟩
   ·refine ifn (by rw [q];simp) ?_
    have pl:(e.own,e.sc)∈S.os:=(ZaU he).2
    have hh:ZbH S e.who=(e.own,e.sc):=Zd0 ok.who (ZaU he).1
    refine ⟨_,_,hg2,ZaE (by decide +kernel),_,rfl,_,_,_,h1',T.k_Member,T.n_Member_home,_,ZbN,ixT (nt h2) rfl ⟨_,rfl,_,_,_,h1',T.k_Member,T.n_Member_home,_,ZbN,ixT (nt h2) rfl (ixT (nt ho) rfl ?_)⟩⟩
    refine ⟨A,Zbe S e.who t,e.own,e.sc,f,l,rfl,nt hf1,hf2,B2,ok.kill e.who t,⟨rm.1,rm.2.1,?_,rm.2.2.2⟩,λ_ H' A' v B' st' eg rv=>k nr H' A' v ?_ ?_ eg ?_,λno=>absurd pl no⟩
    ·show (kill e.who t S.es).length<60
     unfold kill
     rw [List.length_map];exact rm.2.2.1
    ·show GAt _ H' A' (offS (fltS (Zbe S e.who t) (ZbH S e.who) l) (ZbH S e.who))
     rw [hh];exact B'
    ·show Stp _ H (PrgA A' (offS (fltS (Zbe S e.who t) (ZbH S e.who) l) (ZbH S e.who))) H'
     rw [hh];exact st2.trans st'
    ·show RvAt H H' v (.mk (ZdW (Zbe S e.who t) (ZbH S e.who)))
     rw [hh]
     obtain ⟨r,a1,a2,a3⟩:=rv
     exact ⟨r,a1,fr2 a2,a3⟩
theorem sc_Groups_close:FnScope ["self", "owner", "scope", "home"] ["self", "owner", "scope"] (Zaj (Zal (top 12) 15)):=⟨rfl,rfl,rfl,by decide +kernel,rfl,by decide +kernel,by decide +kernel⟩
theorem Zdb (T:Tx K mg)
  (G_Groups_alive:FnOk P w K mg base (CXD P w) 2 T.m_Groups_alive.f T.m_Groups_alive.fd ["self", "owner", "scope"] (ZbU ⟨T.C_Groups,T.C_Group,T.C_Member⟩ T.C_Over)):FnOk P w K mg base (CXD P w) 3 T.m_Groups_close.f T.m_Groups_close.fd ["self", "owner", "scope"] (Zg6 ⟨T.C_Groups,T.C_Group,T.C_Member⟩ T.C_Over):=by
 refine T.m_Groups_close.F.okD sc_Groups_close (λvs H Q E h=>?_) (λcdv A outer s H vs Q E hr h=>?_)
 ·obtain ⟨A,S,a,b,rfl,_⟩:=h
  rfl
 ·obtain ⟨A,S,a,b,rfl,B,ok,k,kx⟩:=h
  have hu:=ZcQ hr
  have hu1:=Za8 hr
  refine ⟨_,(Zad (ZaK (Zar (Zhw hu) (Zay (pv 0) T.k_Groups T.m_Groups_alive.me G_Groups_alive (hr.mono (by omega)) T.m_Groups_alive.b .nil (Zbc ZaC (λ_ _ _ z=>z)) (Zaa (pv 1) (Zaa (pv 2) Zac))) (ZaL Zac) (Zaw _))
  (Zah (Zbu ZaC rfl rfl T.x_Over))
  Zas)
  (Zad (Zax (i:=3) sc_Groups_close.nd rfl (Or.inr rfl) (Zap (Zaa (pv 1) (Zaa (pv 2) Zac))))
  (Zad (ZaW (ZfS hu1 (ZaQ (pv 0) rfl) (pv 3) ⟨rfl,rfl,rfl,rfl⟩))
  (Zah (Zbv (pv 0) (Za5 (ZgC rfl) (by rfl) T.n_dict Zk0 (Zaa (Zlp (N':=["who", "member", "home"]) (sel:=[none,none,some 3]) rfl rfl rfl (ZaQ (pv 0) rfl) (ZjY rfl rfl) (λ_ _ _ _ _=>⟨(ZfP rfl (Zbm (ZaG (i:=0) (show (["who", "member", "home"]:List Str).Nodup by decide +kernel) rfl (Or.inl rfl)) (Zbm (ZaG (i:=1) (show (["who", "member", "home"]:List Str).Nodup by decide +kernel) rfl (Or.inl rfl)) ZdU))),(Zc7 (Zar (Zkx (K:=K) rfl hu) (ZdV (K:=K) rfl (pv 1) rfl) (pv 2) (Zaw _))),(Zap (Zaa (pv 0) (Zaa (pv 1) Zac)))⟩)) Zac)) rfl))))),?_⟩
  walk_at "sy"
  obtain ⟨dx,hg⟩:=B.ob
  refine ⟨_,_,hg,ZaE (by decide +kernel),A,S,a,b,rfl,B,ok,λho H1 r s1 hrn hr1=>?_,λno H1 s1=>kx (.inl no) H1 s1⟩
  have ln:(Zaz S (a,b)).length=(ZaJ S (a,b)).length:=by unfold Zaz;rw [ZbT,List.length_map]
  generalize Zaz S (a,b)=ns at hr1 ln
  have em:(ns=[])=(ZaJ S (a,b)=[]):=by
   have:=ln
   exact propext ⟨λz=>by rw [z] at this;exact List.length_eq_zero_iff.mp this.symm,λz=>by rw [z] at this;exact List.length_eq_zero_iff.mp this⟩
  refine ⟨by decide,λp hp=>?_⟩
  have sp:Same H (upd H1 p (.lst [])):=s1.updR hp
  refine ⟨r,p,ns.map V.int,[],0,λi=>false,rfl,rfl,SqL.of ((Same.upd hp) _ _ hr1),SqL.of Zab,by decide,λi x y ex ey=>by simp at ey,_,rfl,?_⟩
  generalize upd H1 p (.lst [])=H2 at sp |-
  by_cases al:ZaJ S (a,b)=[]
  ·have n0:ns=[]:=by rw [em];exact al
   subst n0
   refine ifn (by decide) ?_
   refine ⟨by decide,λq hq=>?_⟩
   have sq:Same H (upd H2 q (.tup [.int a,.int b])):=sp.updR hq
   have tq:upd H2 q (.tup [.int a,.int b]) q=some (.tup ((keyP (a,b)).map kV)):=Zab
   generalize upd H2 q (.tup [.int a,.int b])=H3 at sq tq |-
   have B3:=B.same sq
   refine ⟨_,_,_,sq _ _ hg,T.k_Groups,T.n_Groups_opened,_,Zh1,_,rfl,.inr ⟨_,.inl B3.od⟩,_,B3.od,_,tq,_,ZaY Za0 (f:=λp=>.ref (A.gs p)) ho,?_⟩
   rw [ZeC Za0 (f:=λp=>.ref (A.gs p))]
   have ll:(Zau S.os S.es).length<=S.es.length:=List.length_filter_le _ _
   have lz:=ok.sz.2.1
   have k4:But2 A.o A.g H3 (upd H3 A.o (.dT ((S.os.filter λp=>decide (p≠(a,b))).map λp=>(keyP p,.ref (A.gs p))))):=.l
   have o4:upd H3 A.o (.dT ((S.os.filter λp=>decide (p≠(a,b))).map λp=>(keyP p,.ref (A.gs p)))) A.o=some (.dT ((S.os.filter λp=>decide (p≠(a,b))).map λp=>(keyP p,.ref (A.gs p)))):=Zab
   have nt4:∀ {c:Addr} {u:HO},H3 c=some u->(∀ k,u≠.dT k)->upd H3 A.o (.dT ((S.os.filter λp=>decide (p≠(a,b))).map λp=>(keyP p,.ref (A.gs p)))) c=some u:=λe n=>by rw [Zae (Zaq e B3.od λz=>n _ z)];exact e
   have fr4:∀ {c:Addr},upd H3 A.o (.dT ((S.os.filter λp=>decide (p≠(a,b))).map λp=>(keyP p,.ref (A.gs p)))) c=none->H3 c=none:=λe=>(ZaT e).2
   generalize upd H3 A.o (.dT ((S.os.filter λp=>decide (p≠(a,b))).map λp=>(keyP p,.ref (A.gs p))))=H4 at k4 o4 nt4 fr4 |-
   have g4:=nt4 (sq _ _ hg) (λ_ z=>nomatch z)
   have m4:=nt4 B3.md (λ_ z=>nomatch z)
   refine ⟨_,rfl,A.g,_,_,_,_,rfl,g4,T.k_Groups,T.n_Groups_members,Zfh,A.m,_,rfl,m4,λo nf=>?_⟩
   have q4:H4 q=some (.tup [.int a,.int b]):=nt4 tq (λ_ z=>nomatch z)
   have nm4:∀ {c:Addr} {v:HO},H3 c=some v->(∀ k,v≠.dT k)->(∀ k,v≠.dK k)->upd H4 A.m (.frz o (.dK ((Zau S.os S.es).map λe=>(Sum.inl e.who,.ref (A.ms e.who))))) c=some v:=λz n1 n2=>by rw [Zae (Zaq (nt4 z n1) m4 (n2 _))];exact nt4 z n1
   have f5:upd H4 A.m (.frz o (.dK ((Zau S.os S.es).map λe=>(Sum.inl e.who,.ref (A.ms e.who))))) A.m=some (.frz o (.dK ((Zau S.os S.es).map λe=>(Sum.inl e.who,.ref (A.ms e.who))))):=Zab
   have k5:∀ c u,c≠A.m->H4 c=some u->upd H4 A.m (.frz o (.dK ((Zau S.os S.es).map λe=>(Sum.inl e.who,.ref (A.ms e.who))))) c=some u:=λc u n e=>by rw [Zae n];exact e
   generalize upd H4 A.m (.frz o (.dK ((Zau S.os S.es).map λe=>(Sum.inl e.who,.ref (A.ms e.who)))))=H5 at nm4 f5 k5 |-
   refine ZhJ (λi ys G=>Same H5 G/\∃ ps:List Addr,ys=ps.map V.ref/\ps.length=(((Zau S.os S.es).take i).filter λe=>decide (e.pl≠(a,b))).length/\∀ (j:Nat) p e,ps[j]?=some p->(((Zau S.os S.es).take i).filter λe=>decide (e.pl≠(a,b)))[j]?=some e->G p=some (.tup [.int e.who,.ref (A.ms e.who)])) ⟨Same.refl _,[],rfl,rfl,λj p e h=>by simp at h⟩ ?_ (by rw [List.length_map];exact Nat.le_of_lt (Zam (by omega))) ?_ ?_
   ·rintro i ys G hi ⟨_,ps,rfl,hl,_⟩
    refine ⟨‹Same H5 G› _ _ f5,?_⟩
    rw [List.length_map,hl]
    exact Nat.le_trans (List.length_filter_le _ _) (by rw [List.length_take];omega)
   ·rintro i kv ys G u hx ⟨sG,ps,rfl,hl,hps⟩ hu
    rw [List.getElem?_map] at hx
    cases ex:(Zau S.os S.es)[i]? with
    |none=>rw [ex] at hx;cases hx
    |some e =>
     rw [ex] at hx
     cases hx
     have he:=List.mem_of_getElem? ex
     obtain ⟨dm,th,h1,h2,h3⟩:=B3.me e he
     have s2:=sG.trans (Same.upd (o:=.tup [kV (Sum.inl e.who),.ref (A.ms e.who)]) hu)
     have et:(Zau S.os S.es).take (i+1)=(Zau S.os S.es).take i++[e]:=by rw [List.take_succ,ex];rfl
     have nm:∀ {c:Addr} {v:HO},H3 c=some v->(∀ k,v≠.dT k)->(∀ k,v≠.dK k)->upd G u (.tup [kV (Sum.inl e.who),.ref (A.ms e.who)]) c=some v:=λz n1 n2=>s2 _ _ (nm4 z n1 n2)
     refine ⟨u,_,rfl,SqT.of Zab,rfl,_,_,rfl,_,_,rfl,rfl,?_⟩
     walk_at "sy"
     refine ⟨_,_,_,nm h1 (λ_ z=>nomatch z) (λ_ z=>nomatch z),T.k_Member,T.n_Member_home,_,ZbN,?_⟩
     refine eqP (nm h2 (λ_ z=>nomatch z) (λ_ z=>nomatch z)) (nm tq (λ_ z=>nomatch z) (λ_ z=>nomatch z)) ⟨_,rfl,?_⟩
     have keepP:∀ {G2:Hp},Same G G2->∀ (j:Nat) p e,ps[j]?=some p->(((Zau S.os S.es).take i).filter λe=>decide (e.pl≠(a,b)))[j]?=some e->G2 p=some (.tup [.int e.who,.ref (A.ms e.who)]):=λsg j p e h h'=>sg _ _ (hps j p e h h')
     by_cases z:(e.own,e.sc)=(a,b)
     ·have z':e.pl=(a,b):=z
      rw [if_neg (by rw [decide_eq_true z];decide),et,List.filter_append,List.filter_cons_of_neg (by simp [z']),List.filter_nil,List.append_nil]
      exact ⟨s2,ps,rfl,hl,keepP (Same.upd hu)⟩
     ·have z':¬ e.pl=(a,b):=z
      rw [if_pos (by rw [decide_eq_false z];rfl),et,List.filter_append,List.filter_cons_of_pos (by simp [z']),List.filter_nil]
      refine ⟨by decide,λv hv=>⟨s2.trans (Same.upd hv),ps++[v],by rw [List.map_append];rfl,by simp [hl],λj p e' h h'=>?_⟩⟩
      by_cases jl:j<ps.length
      ·rw [List.getElem?_append_left jl] at h
       rw [List.getElem?_append_left (by rw [<- hl];exact jl)] at h'
       exact keepP ((Same.upd hu).trans (Same.upd hv)) j p e' h h'
      ·have je:j=ps.length:=by
        have:=(List.getElem?_eq_some_iff.mp h).1
        simp at this;omega
       subst je
       rw [List.getElem?_append_right (Nat.le_refl _),Nat.sub_self] at h
       rw [hl,List.getElem?_append_right (Nat.le_refl _),Nat.sub_self] at h'
       obtain rfl:v=p:=by simpa using h
       obtain rfl:e=e':=by simpa using h'
       exact Zab
   ·rintro ys G ⟨sG,ps,rfl,hl,hps⟩ D hD
    rw [List.length_map,List.take_length] at hl hps
    have mG:=sG _ _ f5
    have nD:D≠A.m:=λz=>by rw [z,mG] at hD;cases hD
    refine ⟨A.m,o,_,nf,by rw [Zae (Ne.symm nD)];exact mG,?_⟩
    have sB:Same H4 (upd (upd G D (.lst (ps.map V.ref))) A.m (.dK ((Zau S.os S.es).map λe=>(Sum.inl e.who,.ref (A.ms e.who))))):=λc u e=>by
     by_cases hc:c=A.m
     ·subst hc
      rw [Zab,<- e];exact m4.symm
     ·rw [Zae hc]
      exact (sG.updR hD) c u (k5 c u hc e)
    refine ⟨D,rfl,ps,by rw [Zae nD];exact Zab,((Zau S.os S.es).filter λe=>decide (e.pl≠(a,b))).map (λe=>(Sum.inl e.who,.ref (A.ms e.who))),by rw [List.length_map];exact hl,λj p kv h h'=>?_,?_,λd hd=>?_⟩
    ·rw [List.getElem?_map] at h'
     cases ez:((Zau S.os S.es).filter λe=>decide (e.pl≠(a,b)))[j]? with
     |none=>rw [ez] at h';cases h'
     |some e =>
      rw [ez] at h'
      cases h'
      have gp:=hps j p e h ez
      have pD:p≠D:=Zai gp hD
      have pm:p≠A.m:=Zaq gp mG (λz=>nomatch z)
      rw [Zae pm,Zae pD]
      exact gp
    ·have ew:(((Zau S.os S.es).filter λe=>decide (e.pl≠(a,b))).map (λe=>((Sum.inl e.who:Key),V.ref (A.ms e.who)))).map (λx=>x.fst)=(((Zau S.os S.es).filter λe=>decide (e.pl≠(a,b))).map Ent.who).map Sum.inl:=by
      rw [List.map_map,List.map_map];rfl
     rw [ew]
     have nd0:(((Zau S.os S.es).filter λe=>decide (e.pl≠(a,b))).map Ent.who).Nodup:=List.Nodup.sublist (List.Sublist.map _ (List.filter_sublist.trans List.filter_sublist)) ok.who
     exact List.pairwise_map.mpr (nd0.imp λn z=>n (Sum.inl.inj z))
    ·refine ⟨_,_,_,(sB.updR hd) _ _ g4,T.k_Groups,T.n_Groups_members,(by show 4<1000;decide),?_⟩
     rw [ZkV]
     have dn3:H3 d=none:=fr4 (sB.free hd)
     have dg:A.g≠d:=Zai (sB _ _ g4) hd
     have go:A.g≠A.o:=Zaq hg B.od (λz=>nomatch z)
     have fin:=GAt.closeE (p:=(a,b)) (d:=d) (H':=upd (upd (upd (upd G D (.lst (ps.map V.ref))) A.m (.dK ((Zau S.os S.es).map λe=>(Sum.inl e.who,.ref (A.ms e.who))))) d (.dK (((Zau S.os S.es).filter λe=>decide (e.pl≠(a,b))).map λe=>(Sum.inl e.who,.ref (A.ms e.who))))) A.g (.ins T.C_Groups dx (flG A.o d A.oe A.pe))) B3
      ((k4.trans (But2.of (sB.updR hd))).trans .r) (by rw [Zae (Ne.symm go)];exact (sB.updR hd) _ _ o4) Zab (by rw [Zae (Ne.symm dg)];exact Zab) dn3
     exact k (λz=>z.elim (λz=>z ho) λz=>z al) _ _ _ fin.1 ((Stp.of sq).trans fin.2) rfl rfl
  ·have n0:ns≠[]:=λz=>al (by rw [<- em];exact z)
   have nl:ns.length≠0:=λz=>n0 (List.length_eq_zero_iff.mp z)
   have ev:(true^^(decide ((ns.map V.int).length=([]:List V).length)&&(List.range (ns.map V.int).length).all λ_=>false))=true:=by
    rw [decide_eq_false (by rw [List.length_map];exact nl)];rfl
   rw [if_pos ev]
   exact kx (.inr al) H2 sp
theorem ZcL:FnScope ["self", "owner", "scope"] ["self", "owner", "scope"] (Zaj (Zal (top 12) 8)):=⟨rfl,rfl,rfl,by decide +kernel,rfl,by decide +kernel,by decide +kernel⟩
theorem ZcP (T:Tx K mg)
  (G_Groups_group_at:FnOk P w K mg base (CXD P w) 1 T.m_Groups_group_at.f T.m_Groups_group_at.fd ["self", "owner", "scope"] (Zbi ⟨T.C_Groups,T.C_Group,T.C_Member⟩ T.C_Over)):FnOk P w K mg base (CXD P w) 2 T.m_Groups_is_off.f T.m_Groups_is_off.fd ["self", "owner", "scope"] (ZeR ⟨T.C_Groups,T.C_Group,T.C_Member⟩ T.C_Over):=by
 refine T.m_Groups_is_off.F.okD ZcL (λvs H Q E h=>?_) (λcdv A outer s H vs Q E hr h=>?_)
 ·obtain ⟨A,S,a,b,rfl,_⟩:=h
  rfl
 ·obtain ⟨A,S,a,b,rfl,B,k,kx⟩:=h
  have hu1:=Za8 hr
  refine ⟨_,(Zah (Zao (ZaQ (Zay (pv 0) T.k_Groups T.m_Groups_group_at.me G_Groups_group_at (hr.mono (by omega)) T.m_Groups_group_at.b .nil (Zbc ZaC (λ_ _ _ z=>z)) (Zaa (pv 1) (Zaa (pv 2) Zac))) rfl))),?_⟩
  walk_at "sy"
  obtain ⟨dx,hg⟩:=B.ob
  refine ⟨_,_,hg,ZaE (by decide +kernel),A,S,a,b,rfl,B,λho H1 s1=>?_,λno H1 s1=>kx no H1 s1⟩
  obtain ⟨dg,ft,gr1,gr2⟩:=(B.same s1).gr (a,b) ho
  exact ⟨_,rfl,_,_,_,gr1,T.k_Group,T.n_Group_off,_,Zfg,k ho H1 s1⟩
theorem ZbX:FnScope ["self", "owner", "scope"] ["self", "owner", "scope"] (Zaj (Zal (top 12) 11)):=⟨rfl,rfl,rfl,by decide +kernel,rfl,by decide +kernel,by decide +kernel⟩
theorem Zb1 (T:Tx K mg)
  (G_Groups_group_at:FnOk P w K mg base (CXD P w) 1 T.m_Groups_group_at.f T.m_Groups_group_at.fd ["self", "owner", "scope"] (Zbi ⟨T.C_Groups,T.C_Group,T.C_Member⟩ T.C_Over)):FnOk P w K mg base (CXD P w) 2 T.m_Groups_faults_of.f T.m_Groups_faults_of.fd ["self", "owner", "scope"] (ZdN ⟨T.C_Groups,T.C_Group,T.C_Member⟩ T.C_Over):=by
 refine T.m_Groups_faults_of.F.okD ZbX (λvs H Q E h=>?_) (λcdv A outer s H vs Q E hr h=>?_)
 ·obtain ⟨A,S,a,b,rfl,_⟩:=h
  rfl
 ·obtain ⟨A,S,a,b,rfl,B,k,kx⟩:=h
  have hu1:=Za8 hr
  refine ⟨_,(Zah (Zao (ZaQ (Zay (pv 0) T.k_Groups T.m_Groups_group_at.me G_Groups_group_at (hr.mono (by omega)) T.m_Groups_group_at.b .nil (Zbc ZaC (λ_ _ _ z=>z)) (Zaa (pv 1) (Zaa (pv 2) Zac))) rfl))),?_⟩
  walk_at "sy"
  obtain ⟨dx,hg⟩:=B.ob
  refine ⟨_,_,hg,ZaE (by decide +kernel),A,S,a,b,rfl,B,λho H1 s1=>?_,λno H1 s1=>kx no H1 s1⟩
  obtain ⟨dg,ft,gr1,gr2⟩:=B.gr (a,b) ho
  exact ⟨_,rfl,_,_,_,s1 _ _ gr1,T.k_Group,T.n_Group_faults,_,ZdD,k ho H1 ft s1 gr2⟩
theorem ZbW:FnScope ["self", "who"] ["self", "who"] (Zaj (Zal (top 12) 13)):=⟨rfl,rfl,rfl,by decide +kernel,rfl,by decide +kernel,by decide +kernel⟩
theorem Zb0 (T:Tx K mg)
  (G_Groups_member:FnOk P w K mg base (CXD P w) 1 T.m_Groups_member.f T.m_Groups_member.fd ["self", "who"] (ZcT ⟨T.C_Groups,T.C_Group,T.C_Member⟩ T.C_Over)):FnOk P w K mg base (CXD P w) 2 T.m_Groups_result_of.f T.m_Groups_result_of.fd ["self", "who"] (Zfy ⟨T.C_Groups,T.C_Group,T.C_Member⟩ T.C_Over):=by
 refine T.m_Groups_result_of.F.okD ZbW (λvs H Q E h=>?_) (λcdv A outer s H vs Q E hr h=>?_)
 ·obtain ⟨A,S,w,rfl,_⟩:=h
  rfl
 ·obtain ⟨A,S,w,rfl,B,k,kx⟩:=h
  have hu1:=Za8 hr
  refine ⟨_,(Zah (Zao (ZaQ (Zay (pv 0) T.k_Groups T.m_Groups_member.me G_Groups_member (hr.mono (by omega)) T.m_Groups_member.b .nil (Zbc ZaC (λ_ _ _ z=>z)) (Zaa (pv 1) Zac)) rfl))),?_⟩
  walk_at "sy"
  obtain ⟨dx,hg⟩:=B.ob
  refine ⟨_,_,hg,ZaE (by decide +kernel),A,S,w,rfl,B,λhw=>?_,λno=>kx no⟩
  obtain ⟨e,he,rfl⟩:=List.mem_map.mp hw
  obtain ⟨dm,th,h1,h2,h3⟩:=B.me e he
  exact ⟨_,rfl,_,_,_,h1,T.k_Member,T.n_Member_result,_,ZcF,k e he rfl⟩
theorem Zcw:FnScope ["self", "who"] ["self", "who"] (Zaj (Zal (top 12) 14)):=⟨rfl,rfl,rfl,by decide +kernel,rfl,by decide +kernel,by decide +kernel⟩
theorem ZcC (T:Tx K mg)
  (G_Groups_member:FnOk P w K mg base (CXD P w) 1 T.m_Groups_member.f T.m_Groups_member.fd ["self", "who"] (ZcT ⟨T.C_Groups,T.C_Group,T.C_Member⟩ T.C_Over)):FnOk P w K mg base (CXD P w) 2 T.m_Groups_home_of.f T.m_Groups_home_of.fd ["self", "who"] (ZjH ⟨T.C_Groups,T.C_Group,T.C_Member⟩ T.C_Over):=by
 refine T.m_Groups_home_of.F.okD Zcw (λvs H Q E h=>?_) (λcdv A outer s H vs Q E hr h=>?_)
 ·obtain ⟨A,S,w,rfl,_⟩:=h
  rfl
 ·obtain ⟨A,S,w,rfl,B,k,kx⟩:=h
  have hu1:=Za8 hr
  refine ⟨_,(Zah (Zao (ZaQ (Zay (pv 0) T.k_Groups T.m_Groups_member.me G_Groups_member (hr.mono (by omega)) T.m_Groups_member.b .nil (Zbc ZaC (λ_ _ _ z=>z)) (Zaa (pv 1) Zac)) rfl))),?_⟩
  walk_at "sy"
  obtain ⟨dx,hg⟩:=B.ob
  refine ⟨_,_,hg,ZaE (by decide +kernel),A,S,w,rfl,B,λhw=>?_,λno=>kx no⟩
  obtain ⟨e,he,rfl⟩:=List.mem_map.mp hw
  obtain ⟨dm,th,h1,h2,h3⟩:=B.me e he
  exact ⟨_,rfl,_,_,_,h1,T.k_Member,T.n_Member_home,_,ZbN,k e he rfl th h2⟩
theorem sc_Groups_newest:FnScope ["self", "owner", "label", "found", "who", "member"] ["self", "owner", "label"] (Zaj (Zal (top 12) 12)):=⟨rfl,rfl,rfl,by decide +kernel,rfl,by decide +kernel,by decide +kernel⟩
theorem ZcN (T:Tx K mg):FnOk P w K mg base CX0 1 T.m_Groups_newest.f T.m_Groups_newest.fd ["self", "owner", "label"] (Zfz ⟨T.C_Groups,T.C_Group,T.C_Member⟩):=by
 refine T.m_Groups_newest.F.ok sc_Groups_newest (λvs H Q E h=>?_) (λcdv A outer s H vs Q E hr h=>?_)
 ·obtain ⟨A,S,a,l,rfl,_⟩:=h
  rfl
 ·obtain ⟨A,S,a,l,rfl,B,ok,k⟩:=h
  have hu1:=Za8 hr
  refine ⟨_,(Zad (Zax (i:=3) sc_Groups_newest.nd rfl (Or.inl rfl) ZbS)
  (Zad (Zks PassesOwn.never rfl (ZaQ (pv 0) rfl) (ZfP (n:=2) rfl (Zbm (ZaG (i:=4) sc_Groups_newest.nd rfl (Or.inl rfl)) (Zbm (ZaG (i:=5) sc_Groups_newest.nd rfl (Or.inl rfl)) ZdU)))
  (Zah (ZaK (PW.pt (ZjM (Zar Zbd (Zav Zan (ZaQ (pv 5) rfl) Zaf (λ_ _=>rfl)) (pv 1) (Zaw _)) (Zhm (Zar Zbd (ZaQ (pv 5) rfl) (pv 2) (Zaw _)))))
  (Zah (Zax (i:=3) sc_Groups_newest.nd rfl (Or.inl rfl) (pv 4)))
  Zas)))
  (Zah (Zao (pv 3))))),?_⟩
  walk_at "sy"
  obtain ⟨dx,hg⟩:=B.ob
  refine ⟨_,rfl,A.g,_,_,_,_,rfl,hg,T.k_Groups,T.n_Groups_members,Zfh,A.m,_,rfl,B.md,λo nf=>?_⟩
  refine Zgz (λi σ G=>∃ v1 v2,Same (upd H A.m (.frz o (.dK ((Zau S.os S.es).map λe=>(Sum.inl e.who,.ref (A.ms e.who)))))) G/\σ=[some (V.ref A.g),some (V.int a),some (V.str l),some (oV ((((Zau S.os S.es).take i).filter λe=>decide (e.own=a)&&decide (e.lab=l)).map Ent.who).getLast?),v1,v2]) ⟨none,none,Same.refl _,rfl⟩ ?_ ?_ ?_
  ·rintro i σ G hi ⟨_,_,sG,_⟩
   exact sG _ _ Zab
  ·rintro i kv σ G p hx ⟨v1,v2,sG,rfl⟩ hp
   rw [List.getElem?_map] at hx
   cases ex:(Zau S.os S.es)[i]? with
   |none=>rw [ex] at hx;cases hx
   |some e =>
    rw [ex] at hx
    cases hx
    have he:=List.mem_of_getElem? ex
    obtain ⟨dm,th,h1,h2,h3⟩:=B.me e he
    have s2:=sG.trans (Same.upd (o:=.tup [kV (Sum.inl e.who),.ref (A.ms e.who)]) hp)
    have nm:∀ {c:Addr} {u:HO},H c=some u->(∀ k,u≠.dK k)->(upd G p (.tup [kV (Sum.inl e.who),.ref (A.ms e.who)])) c=some u:=λq n=>s2 _ _ (by rw [Zae (Zaq q B.md λz=>n _ z)];exact q)
    have et:(Zau S.os S.es).take (i+1)=(Zau S.os S.es).take i++[e]:=by rw [List.take_succ,ex];rfl
    refine ⟨p,_,rfl,SqT.of Zab,rfl,_,_,rfl,_,_,rfl,rfl,?_⟩
    walk_at "sx"
    have elast:=ZhN (λe=>decide (e.own=a)&&decide (e.lab=l)) ((Zau S.os S.es).take i) e
    refine ⟨_,_,_,nm h1 (λ_ z=>nomatch z),T.k_Member,T.n_Member_home,_,ZbN,ixT (nm h2 (λ_ z=>nomatch z)) rfl ⟨rfl,?_⟩⟩
    by_cases q1:e.own=a
    ·refine ifp (by rw [q1];simp) ?_
     refine ⟨_,_,_,nm h1 (λ_ z=>nomatch z),T.k_Member,T.n_Member_label,_,Zh0,rfl,?_⟩
     by_cases q2:e.lab=l
     ·refine ifp (by rw [q2];simp) ?_
      exact ⟨s2,by rw [et,elast,if_pos (by simp [q1,q2])];rfl,_,rfl⟩
     ·refine ifn (by simpa using q2) ?_
      exact ⟨s2,by rw [et,elast,if_neg (by simp [q2])],_,rfl⟩
    ·refine ifn (by simpa using q1) (ifn (by decide) ?_)
     exact ⟨s2,by rw [et,elast,if_neg (by simp [q1])],_,rfl⟩
  ·rintro σ G ⟨v1,v2,sG,rfl⟩
   refine ⟨A.m,o,_,nf,sG _ _ Zab,?_⟩
   rw [List.length_map,List.take_length]
   refine ⟨_,rfl,k _ λc u e=>?_⟩
   by_cases hc:c=A.m
   ·subst hc
    rw [Zab,<- e];exact B.md.symm
   ·rw [Zae hc]
    exact sG c u (by rw [Zae hc];exact e)
theorem sc_Groups_tree_rows:FnScope ["self", "owner", "trees", "rows", "scope", "inner"] ["self", "owner", "trees"] (Zaj (Zal (top 12) 17)):=⟨rfl,rfl,rfl,by decide +kernel,rfl,by decide +kernel,by decide +kernel⟩
theorem ZbZ (T:Tx K mg)
  (G_Groups_alive:FnOk P w K mg base (CXD P w) 2 T.m_Groups_alive.f T.m_Groups_alive.fd ["self", "owner", "scope"] (ZbU ⟨T.C_Groups,T.C_Group,T.C_Member⟩ T.C_Over))
  (G_Groups_is_off:FnOk P w K mg base (CXD P w) 2 T.m_Groups_is_off.f T.m_Groups_is_off.fd ["self", "owner", "scope"] (ZeR ⟨T.C_Groups,T.C_Group,T.C_Member⟩ T.C_Over)):FnOk P w K mg base CX0 4 T.m_Groups_tree_rows.f T.m_Groups_tree_rows.fd ["self", "owner", "trees"] (Zdu ⟨T.C_Groups,T.C_Group,T.C_Member⟩):=by
 refine T.m_Groups_tree_rows.F.ok sc_Groups_tree_rows (λvs H Q E h=>?_) (λcdv A outer s H vs Q E hr h=>?_)
 ·obtain ⟨A,S,d,n,w,rfl,_⟩:=h
  rfl
 ·have hu:=ZcQ hr
  have hu1:=Za8 hr
  refine ⟨_,(Zad (Zax (i:=3) sc_Groups_tree_rows.nd rfl (Or.inl rfl) (ZaL Zac))
  (Zad (ZbR PassesOwn.never rfl (Zbt (ZaD Zbp (by rfl) T.n_sorted Zbb (Zaa (ZjN (N':=["home", "owner"]) (sel:=[none,some 1]) rfl rfl rfl (ZaQ (pv 0) rfl) (Zby rfl) (λ_ _ _ _ _=>⟨(ZaG (i:=0) (show (["home", "owner"]:List Str).Nodup by decide +kernel) rfl (Or.inl rfl)),(Zc7 (Zar Zbd (Zav (ZhS (K:=K) rfl) (pv 0) Zaf (λ_ _=>rfl)) (pv 1) (Zaw _))),(Zav (ZhS (K:=K) rfl) (pv 0) Zaf (λ_ _=>rfl))⟩)) Zac))) (ZaG (i:=4) sc_Groups_tree_rows.nd rfl (Or.inl rfl))
  (Zad (Zax (i:=5) sc_Groups_tree_rows.nd rfl (Or.inl rfl) (Za5 Zbg (by rfl) T.n_tuple ZcZ (Zaa (Zen (N':=["who", "trees"]) (sel:=[none,some 2]) rfl rfl rfl (Zbt (Zay (pv 0) T.k_Groups T.m_Groups_alive.me G_Groups_alive (hr.mono (by omega)) T.m_Groups_alive.b .nil (Zc9 (E:=λ_ _ _=>False) (λ_ _ _ z=>z)) (Zaa (pv 1) (Zaa (pv 4) Zac)))) (Zby rfl) (λ_ _ _ _ _=>⟨(ZaG (i:=0) (show (["who", "trees"]:List Str).Nodup by decide +kernel) rfl (Or.inl rfl)),Zcy,(Zak hu1 (pv 1) (pv 0) (λ_ _=>rfl))⟩)) Zac)))
  (Zah (ZaW (ZcB PySem.F.plainAttrs_list PySem.F.slot_list_append PySem.F.type_list_append ZaS (pv 3) (Zaa (Zap (Zaa (pv 4) (Zaa (Zay (pv 0) T.k_Groups T.m_Groups_is_off.me G_Groups_is_off (hr.mono (by omega)) T.m_Groups_is_off.b .nil (Zc9 (E:=λ_ _ _=>False) (λ_ _ _ z=>z)) (Zaa (pv 1) (Zaa (pv 4) Zac))) (Zaa (pv 5) Zac)))) Zac))))))
  (Zah (Zao (Za5 Zbg (by rfl) T.n_tuple ZcZ (Zaa (pv 3) Zac)))))),?_⟩
  obtain ⟨A,S,d,n,w,rfl,B,ok,⟨kvs,hd,hk⟩,k⟩:=h
  walk_at "sy"
  refine ⟨by decide,λrl hrl=>?_⟩
  have s1:Same H (upd H rl (.lst [])):=Same.upd hrl
  have l1:upd H rl (.lst []) rl=some (.lst []):=Zab
  generalize upd H rl (.lst [])=H1 at s1 l1 |-
  have B1:=B.same s1
  obtain ⟨dx,hg⟩:=B1.ob
  have od1:=B1.od
  have lo:=ok.sz.2.2
  refine ⟨_,rfl,A.g,_,_,_,_,rfl,hg,T.k_Groups,T.n_Groups_opened,Zh1,A.o,_,rfl,od1,λo nf=>?_⟩
  have kz:∀ c u,c≠A.o->H1 c=some u->upd H1 A.o (.frz o (.dT (S.os.map λp=>(keyP p,.ref (A.gs p))))) c=some u:=λc u n e=>by rw [Zae n];exact e
  have fz:upd H1 A.o (.frz o (.dT (S.os.map λp=>(keyP p,.ref (A.gs p))))) A.o=some (.frz o (.dT (S.os.map λp=>(keyP p,.ref (A.gs p))))):=Zab
  generalize upd H1 A.o (.frz o (.dT (S.os.map λp=>(keyP p,.ref (A.gs p)))))=H2 at kz fz |-
  refine ZfY (λi ys G=>Same H2 G/\ys=((((S.os.take i).filter λp=>decide (p.1=w)).map Prod.snd).map V.int)) ⟨Same.refl _,rfl⟩ ?_ (by rw [List.length_map];exact Nat.le_of_lt (Zam (by omega))) ?_ ?_
  ·rintro i ys G hi ⟨sG,rfl⟩
   refine ⟨sG _ _ fz,?_⟩
   rw [List.length_map,List.length_map]
   exact Nat.le_trans (List.length_filter_le _ _) (by rw [List.length_take];omega)
  ·rintro i kv t1 ys G hx ht1 ⟨sG,rfl⟩
   walk_at "sx"
   rw [List.getElem?_map] at hx
   cases ex:S.os[i]? with
   |none=>rw [ex] at hx;cases hx
   |some p =>
    rw [ex] at hx
    cases hx
    have ht1:G t1=some (.tup [.int p.1,.int p.2]):=ht1
    have e:((S.os.take (i+1)).filter λp=>decide (p.1=w))=((S.os.take i).filter λp=>decide (p.1=w))++(if p.1=w then [p] else []):=by
     rw [List.take_succ,ex,List.filter_append,Option.toList_some]
     by_cases z:p.1=w
     ·rw [if_pos z,List.filter_cons,if_pos (decide_eq_true z)];rfl
     ·rw [if_neg z,List.filter_cons,if_neg (by simpa using z)];rfl
    rw [e]
    refine ixT ht1 rfl ⟨rfl,?_⟩
    by_cases z:p.1=w
    ·refine ifp (by simp [z]) (ixT ht1 rfl ⟨sG,?_⟩)
     rw [if_pos z,List.map_append,List.map_append];rfl
    ·refine ifn (by simp [z]) ⟨sG,?_⟩
     rw [if_neg z,List.append_nil]
  ·rintro ys G ⟨sG,rfl⟩ D hD
   rw [List.length_map,List.take_length]
   have aG:=sG _ _ fz
   have nD:D≠A.o:=λz=>by rw [z,aG] at hD;cases hD
   refine ⟨A.o,o,_,nf,by rw [Zae (Ne.symm nD)];exact aG,?_⟩
   have s4:Same H1 (upd (upd G D (.lst (((S.os.filter λp=>decide (p.1=w)).map Prod.snd).map V.int))) A.o (.dT (S.os.map λp=>(keyP p,.ref (A.gs p))))):=λc u e=>by
    by_cases hc:c=A.o
    ·subst hc
     rw [Zab,<- e];exact od1.symm
    ·rw [Zae hc]
     exact (sG.updR hD) c u (kz c u hc e)
   have d4:upd (upd G D (.lst (((S.os.filter λp=>decide (p.1=w)).map Prod.snd).map V.int))) A.o (.dT (S.os.map λp=>(keyP p,.ref (A.gs p)))) D=some (.lst (((S.os.filter λp=>decide (p.1=w)).map Prod.snd).map V.int)):=by rw [Zae nD];exact Zab
   generalize upd (upd G D (.lst (((S.os.filter λp=>decide (p.1=w)).map Prod.snd).map V.int))) A.o (.dT (S.os.map λp=>(keyP p,.ref (A.gs p))))=H4 at s4 d4 |-
   refine ⟨D,rfl,_,SqL.of d4,?_,λl ns' hl pm so=>?_⟩
   ·rw [List.length_map]
    exact Nat.lt_of_le_of_lt (List.length_filter_le _ _) (by omega)
   have es:ns'=scS S w:=Zfw pm so
   subst es
   have s5:Same H (upd H4 l (.lst ((scS S w).map V.int))):=s1.trans (s4.updR hl)
   have r5:upd H4 l (.lst ((scS S w).map V.int)) rl=some (.lst []):=(s4.updR hl) _ _ l1
   have l5:upd H4 l (.lst ((scS S w).map V.int)) l=some (.lst ((scS S w).map V.int)):=Zab
   have nl:l≠rl:=λz=>by rw [z,s4 _ _ l1] at hl;cases hl
   generalize upd H4 l (.lst ((scS S w).map V.int))=H5 at s5 r5 l5 |-
   have lsc:=Zhg ok w
   refine ⟨l,rfl,⟨_,SqL.of l5⟩,?_⟩
   refine Zco (K:=K) (a:=l) (xs:=(scS S w).map V.int) (λi σ G=>∃ (v4 v5:Option V) (rs:List Addr),σ=[some (.ref A.g),some (.int w),some (.ref d),some (.ref rl),v4,v5]/\Same H G/\G rl=some (.lst (rs.map V.ref))/\G l=some (.lst ((scS S w).map V.int))/\RwsAt (TrAt G S n) G S w rs ((scS S w).take i)) ⟨_,_,[],rfl,s5,r5,l5,rfl,λi r sc z=>by simp at z⟩ ?_ ?_ ?_
   ·rintro i σ G _ ⟨_,_,_,_,_,_,h,_⟩
    exact SqL.of h
   ·rintro i x σ G hx ⟨v4,v5,rs,rfl,sG,rG,lG,R⟩
    rw [List.getElem?_map] at hx
    cases ex:(scS S w)[i]? with
    |none=>rw [ex] at hx;cases hx
    |some sc =>
     rw [ex] at hx
     cases hx
     have hin:(w,sc)∈S.os:=Zlf (List.mem_of_getElem? ex)
     have BG:=B.same sG
     obtain ⟨dx,hg⟩:=BG.ob
     walk_at "sy"
     refine ⟨_,rfl,A.g,_,_,rfl,hg,ZaE (by decide +kernel),_,rfl,_,rfl,A,S,w,sc,rfl,BG,ok,λ_ G2 r2 s2 f2 h2=>⟨r2,rfl,⟨_,SqL.of h2⟩,?_⟩,λno=>absurd hin no⟩
     have la:=ZdI ok (w,sc)
     refine Zdg (K:=K) (a:=r2) (xs:=(Zaz S (w,sc)).map V.int) (λi ys G3=>Same G2 G3/\∃ cs:List Addr,ys=cs.map V.ref/\(cs.length=((Zaz S (w,sc)).take i).length/\∀ (j:Nat) c w',cs[j]?=some c->((Zaz S (w,sc)).take i)[j]?=some w'->TrAt G3 S n (.ref c) w')) ⟨Same.refl _,[],rfl,rfl,λj c w' z=>by simp at z⟩ ?_ (by rw [List.length_map];exact Nat.le_of_lt (Zam (by omega))) ?_ ?_
     ·rintro i ys G3 hi ⟨s3,cs,rfl,lc,_⟩
      refine ⟨SqL.of (s3 _ _ h2),?_⟩
      rw [List.length_map,lc,List.length_take];omega
     ·rintro j x ys G3 hx ⟨s3,cs,rfl,hc⟩
      rw [List.getElem?_map] at hx
      cases ej:(Zaz S (w,sc))[j]? with
      |none=>rw [ej] at hx;cases hx
      |some w' =>
       rw [ej] at hx
       cases hx
       walk_at "sy"
       obtain ⟨c,hv,tr⟩:=hk sc w' hin (List.mem_of_getElem? ej)
       have sH3:=sG.trans (s2.trans s3)
       refine ⟨_,?_,s3,cs++[c],by rw [List.map_append];rfl,Zft hc ej (tr.kp (Tt.of sH3))⟩
       rw [<- hv]
       exact DGet.k (k:=Sum.inl w') (sH3 _ _ hd)
     ·rintro ys G3 ⟨s3,cs,rfl,hc⟩ D hD
      rw [List.length_map,List.take_length] at hc
      refine ⟨D,rfl,_,.inl ⟨SqL.of Zab,λia hia=>?_⟩⟩
      have s4:Same G (upd (upd G3 D (.lst (cs.map V.ref))) ia (.tup (cs.map V.ref))):=(s2.trans (s3.updR hD)).updR hia
      have s34:Same G3 (upd (upd G3 D (.lst (cs.map V.ref))) ia (.tup (cs.map V.ref))):=(Same.upd hD).updR hia
      have i4:upd (upd G3 D (.lst (cs.map V.ref))) ia (.tup (cs.map V.ref)) ia=some (.tup (cs.map V.ref)):=Zab
      generalize upd (upd G3 D (.lst (cs.map V.ref))) ia (.tup (cs.map V.ref))=G4 at s4 s34 i4 |-
      refine ⟨.inl ⟨_,SqL.of (s4 _ _ rG)⟩,_,_,s4 _ _ hg,ZaE (by decide +kernel),A,S,w,sc,rfl,BG.same s4,λ_ G5 s5=>⟨by decide,λr hrr=>⟨rl,_,_,rfl,rfl,Same.upd hrr _ _ (s5 _ _ (s4 _ _ rG)),?_,?_⟩⟩,λno=>absurd hin no⟩
      ·have:=R.1
       rw [List.length_map,this,List.length_take];exact Zam (by omega)
      have s6:Same G (upd G5 r (.tup [.int sc,.bl (S.of (w,sc)),.ref ia])):=(s4.trans s5).updR hrr
      have t6:Tt G (upd (upd G5 r (.tup [.int sc,.bl (S.of (w,sc)),.ref ia])) rl (.lst (rs.map V.ref++[.ref r]))):=λc xs e=>by
       rw [Zae (Zaq e rG (λz=>nomatch z))]
       exact s6 _ _ e
      have t36:Tt G4 (upd (upd G5 r (.tup [.int sc,.bl (S.of (w,sc)),.ref ia])) rl (.lst (rs.map V.ref++[.ref r]))):=λc xs e=>by
       have:=s4 _ _ rG
       rw [Zae (Zaq e this (λz=>nomatch z))]
       exact (s5.updR hrr) _ _ e
      refine ⟨λc u e=>?_,rs++[r],by rw [Zab,List.map_append];rfl,?_,Zft (R.mp t6 λv w h=>h.kp t6) ex ⟨ia,cs,?_,t36 _ _ i4,hc.1,λj c w' a b=>((hc.2 j c w' a b).kp (Tt.of s34)).kp t36⟩⟩
      ·rw [Zae (Zai e hrl)]
       exact s6 _ _ (sG _ _ e)
      ·rw [Zae nl]
       exact s6 _ _ lG
      ·rw [Zae (λz=>by rw [z,(s4.trans s5) _ _ rG] at hrr;cases hrr)]
       exact Zab
   ·rintro σ G ⟨v4,v5,rs,rfl,sG,rG,lG,R⟩
    walk_at "sy"
    rw [List.length_map,List.take_length] at R
    refine ⟨_,.inl ⟨SqL.of rG,λra hra=>?_⟩⟩
    refine k _ ra (sG.updR hra) ⟨rs,Zab,R.mp (Tt.of (Same.upd hra)) λv w h=>h.kp (Tt.of (Same.upd hra))⟩
theorem sc_Groups_tree:FnScope ["self", "who", "trees", "number"] ["self", "who"] (Zaj (Zal (top 12) 16)):=⟨rfl,rfl,rfl,by decide +kernel,rfl,by decide +kernel,by decide +kernel⟩
theorem Zds (T:Tx K mg)
  (G_Groups_all_alive:FnOk P w K mg base CX0 1 T.m_Groups_all_alive.f T.m_Groups_all_alive.fd ["self"] (Zcu ⟨T.C_Groups,T.C_Group,T.C_Member⟩))
  (G_Groups_tree_rows:FnOk P w K mg base CX0 4 T.m_Groups_tree_rows.f T.m_Groups_tree_rows.fd ["self", "owner", "trees"] (Zdu ⟨T.C_Groups,T.C_Group,T.C_Member⟩)):FnOk P w K mg base CX0 5 T.m_Groups_tree.f T.m_Groups_tree.fd ["self", "who"] (ZgW ⟨T.C_Groups,T.C_Group,T.C_Member⟩):=by
 refine T.m_Groups_tree.F.ok sc_Groups_tree (λvs H Q E h=>?_) (λcdv A outer s H vs Q E hr h=>?_)
 ·obtain ⟨A,S,w0,rfl,_⟩:=h
  rfl
 ·have hu:=ZcQ hr
  have hu1:=Za8 hr
  refine ⟨_,(Zad (Zax (i:=2) sc_Groups_tree.nd rfl (Or.inl rfl) Zce)
  (Zad (ZbR PassesOwn.never rfl (Zlm rfl T.n_reversed (Zaa (ZaD (ZeE (P:=P) (w:=w) rfl rfl rfl) (by rfl) T.n_sorted Zbb (Zaa (Za5 (ZjA (P:=P) (w:=w) rfl rfl rfl) (by rfl) T.n_set ZlZ (Zaa (Zat ZcI (ZfQ (pv 0) T.k_Groups T.m_Groups_all_alive.me G_Groups_all_alive (hr.mono (by omega)) T.m_Groups_all_alive.b .nil ZaV) (ZaL (Zaa (pv 1) Zac))) Zac)) Zac)) Zac)) (ZaG (i:=3) sc_Groups_tree.nd rfl (Or.inl rfl))
  (Zah (Za9 hu1 (pv 2) (pv 3) (Zap (Zaa (pv 3) (Zaa (Zay (pv 0) T.k_Groups T.m_Groups_tree_rows.me G_Groups_tree_rows (hr.mono (by omega)) T.m_Groups_tree_rows.b .nil ZaV (Zaa (pv 3) (Zaa (pv 2) Zac))) Zac))) rfl)))
  (Zah (Zao (Zak hu1 (pv 2) (pv 1) (λ_ _=>rfl)))))),?_⟩
  obtain ⟨A,S,w0,rfl,B,ok,up,k⟩:=h
  walk_at "sy"
  intro d hd0
  have s1:Same H (upd H d (.dK [])):=Same.upd hd0
  have d1:upd H d (.dK []) d=some (.dK []):=Zab
  generalize upd H d (.dK [])=H1 at s1 d1 |-
  have B1:=B.same s1
  obtain ⟨dx,hg⟩:=B1.ob
  refine ⟨_,rfl,A.g,_,_,rfl,hg,ZaE (by decide +kernel),A,S,rfl,B1,ok,λH2 r2 s2 f2 h2=>?_⟩
  have le:((Zau S.os S.es).filter λe=>!e.dead).length<=60:=Nat.le_trans (List.length_filter_le _ _) (Nat.le_trans (List.length_filter_le _ _) ok.sz.2.1)
  obtain ⟨as,eas⟩:∃ as,as=((Zau S.os S.es).filter λe=>!e.dead).map Ent.who:=⟨_,rfl⟩
  have h2:H2 r2=some (.lst (as.map V.int)):=by rw [h2,eas,List.map_map];rfl
  have la:as.length<=60:=by rw [eas,List.length_map];exact le
  refine ⟨_,rfl,(show 1<=sizeLine by decide),λq hq=>⟨r2,q,_,_,rfl,rfl,Same.upd hq _ _ h2,Zab,?_,λq2 hq2=>⟨q2,rfl,as++[w0],?_,?_,λSa hSa=>⟨Sa,rfl,_,Zab,λus nd hus=>?_,λl ns hl so mem=>⟨l,_,rfl,SqL.of Zab,?_⟩⟩⟩⟩⟩
  ·rw [List.length_map];show as.length+1<=sizeLine;exact Nat.le_of_lt (Zam (by omega))
  ·refine SqL.of ?_
   rw [Zab,List.map_append];rfl
  ·rw [List.length_append,List.length_singleton];show as.length+1+1<scanBound;exact Nat.lt_of_le_of_lt (show as.length+1+1<=62 by omega) (by decide)
  ·have:=ZkE nd λk hk=>(hus k).mp hk
   rw [List.length_append,List.length_singleton] at this
   omega
  have s5:Same H1 (upd (upd (upd (upd H2 q (.lst [.int w0])) q2 (.lst (as.map V.int++[.int w0]))) Sa (ZeU P w Sa (as++[w0]))) l (.lst (ns.map V.int))):=s2.trans ((((Same.upd hq).updR hq2).updR hSa).updR hl)
  have l5:upd (upd (upd (upd H2 q (.lst [.int w0])) q2 (.lst (as.map V.int++[.int w0]))) Sa (ZeU P w Sa (as++[w0]))) l (.lst (ns.map V.int)) l=some (.lst (ns.map V.int)):=Zab
  generalize upd (upd (upd (upd H2 q (.lst [.int w0])) q2 (.lst (as.map V.int++[.int w0]))) Sa (ZeU P w Sa (as++[w0]))) l (.lst (ns.map V.int))=H5 at s5 l5 |-
  have ln:ns.length<=61:=by
   have:=ZkE (us:=ns) (ns:=as++[w0]) (so.imp λh=>Int.ne_of_lt h) λk hk=>(mem k).mp hk
   rw [List.length_append,List.length_singleton] at this
   omega
  refine ZkT (K:=K) (a:=l) (xs:=ns.map V.int) (λi σ G=>∃ (v3:Option V) (kvs:List (Key×V)),σ=[some (.ref A.g),some (.int w0),some (.ref d),v3]/\Same H G/\G d=some (.dK kvs)/\kvs.length<=i/\G l=some (.lst (ns.map V.int))/\∀ k∈ns.drop (ns.length-i),∃ c,valV kvs (Sum.inl k:Key)=some (.ref c)/\TrAt G S (fuel S k+1) (.ref c) k) ⟨_,[],rfl,s1.trans s5,s5 _ _ d1,Nat.le_refl _,l5,λk hk=>by simp at hk⟩ ?_ ?_ ?_
  ·rintro i σ G _ ⟨_,_,_,_,_,_,h,_⟩
   exact SqL.of h
  ·rintro i x σ G hx hi ⟨v3,kvs,rfl,sG,dG,lk,lG,tr⟩
   rw [List.length_map] at hx hi
   rw [List.getElem?_map] at hx
   cases ex:ns[ns.length-1-i]? with
   |none=>rw [ex] at hx;cases hx
   |some m =>
    rw [ex] at hx
    cases hx
    have BG:=B.same sG
    obtain ⟨dx,hg⟩:=BG.ob
    walk_at "sy"
    have nl:l≠d:=Zaq lG dG (λz=>nomatch z)
    refine ⟨_,_,hg,ZaE (by decide +kernel),A,S,d,fuel S m,m,rfl,BG,ok,⟨kvs,dG,λsc w1 hin hw1=>?_⟩,λG2 ra s2 hra=>⟨by decide,λp hp=>?_⟩⟩
    ·have lt:=ZkR ok up hin hw1
     obtain ⟨e,he,ew,hp,_⟩:=Zdq hw1
     have mw:m<w1:=by
      have:=up.1 e he
      rw [ew,show e.own=m from congrArg Prod.fst hp] at this
      exact this
     have hin2:w1∈ns:=(mem w1).mpr (List.mem_append_left _ (by rw [eas];exact Zd8 hin hw1))
     obtain ⟨c,c1,c2⟩:=tr w1 (behind so ex hi hin2 mw)
     exact ⟨c,c1,c2.up lt⟩
    ·have s3:Same G (upd G2 p (.tup [.int m,.ref ra])):=s2.updR hp
     have p3:upd G2 p (.tup [.int m,.ref ra]) p=some (.tup [.int m,.ref ra]):=Zab
     have s23:Same G2 (upd G2 p (.tup [.int m,.ref ra])):=Same.upd hp
     generalize upd G2 p (.tup [.int m,.ref ra])=G3 at s3 p3 s23 |-
     have d3:=s3 _ _ dG
     have t4:Tt G3 (upd G3 d (.dK (putK kvs (Sum.inl m) (.ref p)))):=λc xs e=>by rw [Zae (Zaq e d3 (λz=>nomatch z))];exact e
     refine ⟨_,DPut.k (k:=Sum.inl m) d3 (Zam (by omega)),λc u e=>?_,_,Zab,Nat.le_trans ZiV (Nat.succ_le_succ lk),?_,λk hk=>?_⟩
     ·rw [Zae (Zai e hd0)]
      exact s3 _ _ (sG _ _ e)
     ·rw [Zae nl]
      exact s3 _ _ lG
     ·by_cases z:k=m
      ·subst z
       refine ⟨p,by rw [Zfq,if_pos rfl],p,ra,rfl,t4 _ _ p3,?_⟩
       obtain ⟨rs,r1,r2⟩:=hra
       exact ⟨rs,t4 _ _ (s23 _ _ r1),r2.mp (λc xs e=>t4 _ _ (s23 _ _ e)) λv w h=>h.kp λc xs e=>t4 _ _ (s23 _ _ e)⟩
      ·rcases Zjs ex hi hk with y | y
       ·exact absurd y z
       ·obtain ⟨c,c1,c2⟩:=tr k y
        refine ⟨c,?_,c2.kp λc xs e=>t4 _ _ (s3 _ _ e)⟩
        rw [Zfq,if_neg λq=>z (Sum.inl.inj q)]
        exact c1
  ·rintro σ G ⟨v3,kvs,rfl,sG,dG,lk,lG,tr⟩
   rw [List.length_map,Nat.sub_self,List.drop_zero] at tr
   obtain ⟨c,hv,tc⟩:=tr w0 ((mem w0).mpr (List.mem_append_right _ (List.mem_singleton.mpr rfl)))
   walk_at "sy"
   refine ⟨_,?_,k _ _ sG (tc.up (Nat.succ_le_succ (ZkS up w0)))⟩
   rw [<- hv]
   exact DGet.k (k:=Sum.inl w0) dG
theorem sc_l_mixed:FnScope ["_law_x", "_law_number"] ["_law_x"] (Zaj (top 15)):=⟨rfl,rfl,rfl,by decide +kernel,rfl,by decide +kernel,by decide +kernel⟩
theorem Zgq (T:Tx K mg):FnOk P w K mg base CX0 1 T.d_l_mixed.f T.d_l_mixed.fd ["_law_x"] (ZeP):=by
 refine T.d_l_mixed.F.ok sc_l_mixed (λvs H Q E h=>?_) (λcdv A outer s H vs Q E hr h=>?_)
 ·obtain ⟨x,rfl,_⟩:=h
  rfl
 ·obtain ⟨x,rfl,k⟩:=h
  refine ⟨_,(Zad (Zax (i:=1) sc_l_mixed.nd rfl (Or.inl rfl) (Zat ZaN (Zat Zdx (Zat ZaX (pv 0) Zaf) Zaf) Zaf))
  (Zad (Zax (i:=1) sc_l_mixed.nd rfl (Or.inl rfl) (Zat ZaN (Zat ZaX (Zat Zdx (pv 1) (Zat ZaX (Zat ZaN (pv 1) Zaf) Zaf)) Zaf) Zaf))
  (Zah (Zao (Zat ZaN (Zat Zdx (pv 1) (Zat ZaX (Zat ZaN (pv 1) Zaf) Zaf)) Zaf))))),?_⟩
  walk_at "sx"
  have md:∀ y:Int,0<=y%2147483647/\y%2147483647<2147483647:=λy=>⟨Int.emod_nonneg _ (by decide),Int.emod_lt_of_pos _ (by decide)⟩
  have big:∀ y:Int,0<=y/\y<2147483647->-(2 ^ 64)<y/\y<2 ^ 64:=λy h=>by
   have:(2:Int) ^ 64=18446744073709551616:=by decide
   omega
  refine ⟨.inr (by decide),by decide,by decide,.inl (big _ (md _)),by decide,by decide,.inl (big _ (md _)),by decide,k _ (md _).1 (md _).2⟩
theorem sc_l_stream:FnScope ["_law_cell", "_law_many", "_law_found", "_law_number", "_law_k"] ["_law_cell", "_law_many"] (Zaj (top 16)):=⟨rfl,rfl,rfl,by decide +kernel,rfl,by decide +kernel,by decide +kernel⟩
theorem Ze4 (T:Tx K mg)
  (G_l_mixed:FnOk P w K mg base CX0 1 T.d_l_mixed.f T.d_l_mixed.fd ["_law_x"] (ZeP)):FnOk P w K mg base CX0 2 T.d_l_stream.f T.d_l_stream.fd ["_law_cell", "_law_many"] (Zfx):=by
 refine T.d_l_stream.F.ok sc_l_stream (λvs H Q E h=>?_) (λcdv A outer s H vs Q E hr h=>?_)
 ·obtain ⟨c,m,rfl,_⟩:=h
  rfl
 ·obtain ⟨c,m,rfl,h0,h1,k⟩:=h
  refine ⟨_,(Zad (Zax (i:=2) sc_l_stream.nd rfl (Or.inl rfl) (ZaL Zac))
  (Zad (Zax (i:=3) sc_l_stream.nd rfl (Or.inl rfl) (Zat ZaN (pv 0) Zaf))
  (Zad (ZbR PassesOwn.never rfl (Zhs rfl T.n_range (Zaa (pv 1) Zac)) (ZaG (i:=4) sc_l_stream.nd rfl (Or.inl rfl))
  (Zad (Zax (i:=3) sc_l_stream.nd rfl (Or.inl rfl) (ZaF G_l_mixed (hr.mono (by omega)) rfl T.d_l_mixed.hm T.d_l_mixed.F.kp T.d_l_mixed.b .nil ZaV (Zaa (Zat ZaX (pv 3) (Zat Zdx Zaf (pv 4))) Zac)))
  (Zah (ZaW (ZcB PySem.F.plainAttrs_list PySem.F.slot_list_append PySem.F.type_list_append ZaS (pv 2) (Zaa (pv 3) Zac))))))
  (Zah (Zao (pv 2)))))),?_⟩
  walk_at "sx"
  refine ⟨by decide,λl hl=>⟨by decide,?_⟩⟩
  have b62:(2:Int) ^ 62=4611686018427387904:=by decide
  have b64:(2:Int) ^ 64=18446744073709551616:=by decide
  refine ⟨_,rfl,m,rfl,by omega,by omega,?_⟩
  refine ZhY (λi σ H2=>∃ (ns:List Int) (num:Int) (kk:Option V),σ=[some (.int c),some (.int m),some (.ref l),some (.int num),kk]/\ns.length=i/\(∀ n∈ns,0<=n/\n<2147483647)/\H2 l=some (.lst (ns.map V.int))/\Same H H2)
   ⟨[],_,none,rfl,rfl,(λ_ h=>nomatch h),Zab,Same.upd hl⟩ ?_ ?_
  ·rintro i σ H2 hi ⟨ns,num,kk,rfl,hlen,hns,hl2,hs2⟩
   walk_at "sx"
   refine ⟨.inl ⟨by omega,by omega⟩,_,rfl,λr r0 r1=>?_⟩
   refine ⟨.inl ⟨_,SqL.of hl2⟩,?_⟩
   refine ⟨l,_,_,rfl,rfl,hl2,?_,?_⟩
   ·rw [List.length_map,hlen]
    exact Nat.lt_of_lt_of_le (show i<1000 by omega) (by decide)
   ·refine ⟨ns++[r],r,rfl,?_,?_,?_,?_⟩
    ·rw [List.length_append,hlen];rfl
    ·intro n hn
     rcases List.mem_append.mp hn with hn | hn
     ·exact hns n hn
     ·rw [List.mem_singleton.mp hn];exact ⟨r0,r1⟩
    ·rw [Zab,List.map_append];rfl
    ·intro b o e
     rw [Zae (Zai e hl)]
     exact hs2 b o e
  ·rintro σ H2 ⟨ns,num,kk,rfl,hlen,hns,hl2,hs2⟩
   exact ⟨_,rfl,k l ns H2 hl (by omega) hns hl2 hs2⟩
theorem Zgh:FnScope [] [] (Zaj (top 17)):=⟨rfl,rfl,rfl,by decide +kernel,rfl,by decide +kernel,by decide +kernel⟩
theorem Zgp (T:Tx K mg):FnOk P w K mg base CX0 1 T.d_l_model.f T.d_l_model.fd [] (Zg2):=by
 refine T.d_l_model.F.ok Zgh (λvs H Q E h=>?_) (λcdv A outer s H vs Q E hr h=>?_)
 ·obtain ⟨rfl,_⟩:=h
  rfl
 ·obtain ⟨rfl,k⟩:=h
  refine ⟨_,(Zah (Zao (Zhu (Zbl Zag ZcV (Zbl Zag (ZaL Zac) (Zbl Zag Zce (Zbl Zag (ZaL Zac) (Zbl Zag Zaf Zhp))))) rfl rfl (by simp) (by decide)))),?_⟩
  walk_at "sy"
  intro s hs
  simp only [Zeb,tC,Zec,Zed,tLst,tNil]
  have s1:Same H (upd H s (.dK [])):=Same.upd hs
  have k1:upd H s (.dK []) s=some (.dK []):=Zab
  intro op hop
  have s2:Same (upd H s (.dK [])) (upd (upd H s (.dK [])) op (.dT [])):=Same.upd hop
  have k2:upd (upd H s (.dK [])) op (.dT []) op=some (.dT []):=Zab
  have f2:H op=none:=s1.free hop
  generalize upd (upd H s (.dK [])) op (.dT [])=H2 at s2 k2 |-
  have s12:=s1.trans s2
  refine ⟨by decide,λev hev=>?_⟩
  have s3:Same H2 (upd H2 ev (.lst [])):=Same.upd hev
  have k3:upd H2 ev (.lst []) ev=some (.lst []):=Zab
  have f3:H ev=none:=s12.free hev
  generalize upd H2 ev (.lst [])=H3 at s3 k3 |-
  intro hm hhm
  have s4:Same H3 (upd H3 hm (.dK [])):=Same.upd hhm
  have k4:upd H3 hm (.dK []) hm=some (.dK []):=Zab
  have f4:H hm=none:=(s12.trans s3).free hhm
  have n4:s≠hm:=Zai (s3 _ _ (s2 _ _ k1)) hhm
  generalize upd H3 hm (.dK [])=H4 at s4 k4 |-
  refine ⟨by decide,λod hod=>?_⟩
  have s5:Same H4 (upd H4 od (.lst [])):=Same.upd hod
  have k5:upd H4 od (.lst []) od=some (.lst []):=Zab
  have f5:H od=none:=((s12.trans s3).trans s4).free hod
  have n5:ev≠od:=Zai (s4 _ _ k3) hod
  generalize upd H4 od (.lst [])=H5 at s5 k5 |-
  have ks:H5 s=some (.dK []):=s5 _ _ (s4 _ _ (s3 _ _ (s2 _ _ k1)))
  refine ⟨ks,sKv op ev hm od 0,rfl,(by show 5<=15;decide),?_⟩
  rw [Zhi]
  have nn:∀ {c:Addr} {u:HO},H5 c=some u->c≠s->upd H5 s (.dK (sKv op ev hm od 0)) c=some u:=λe n=>by rw [Zae n];exact e
  have sAll:Same H H5:=((s12.trans s3).trans s4).trans s5
  refine k s op ev hm od _ (λc u e=>nn (sAll c u e) (Zai e hs)) hs f2 f3 f4 f5 Zab (nn (s5 _ _ (s4 _ _ (s3 _ _ k2))) ?_) (nn (s5 _ _ (s4 _ _ k3)) ?_) (nn (s5 _ _ k4) (Ne.symm n4)) (nn k5 ?_) n5
  ·exact Zaq (s5 _ _ (s4 _ _ (s3 _ _ k2))) ks (λz=>nomatch z)
  ·exact Zaq (s5 _ _ (s4 _ _ k3)) ks (λz=>nomatch z)
  ·exact Zaq k5 ks (λz=>nomatch z)
theorem sc_l_alive:FnScope ["_law_s", "_law_place_here", "_law_all_in"] ["_law_s", "_law_place_here"] (Zaj (top 18)):=⟨rfl,rfl,rfl,by decide +kernel,rfl,by decide +kernel,by decide +kernel⟩
theorem Zgt (T:Tx K mg):FnOk P w K mg base CX0 1 T.d_l_alive.f T.d_l_alive.fd ["_law_s", "_law_place_here"] (Zb9):=by
 refine T.d_l_alive.F.ok sc_l_alive (λvs H Q E h=>?_) (λcdv A outer s H vs Q E hr h=>?_)
 ·obtain ⟨L,S,t,p,rfl,_⟩:=h
  rfl
 ·obtain ⟨L,S,t,p,rfl,B,ok,ht,hp,k⟩:=h
  have hu1:=Za8 hr
  refine ⟨_,(Zad (Zax (i:=2) sc_l_alive.nd rfl (Or.inr rfl) (Zak hu1 (Zak hu1 (Zak hu1 (pv 0) Zag (λ_ _=>rfl)) (pv 1) (λ_ _=>rfl)) Zag (λ_ _=>rfl)))
  (Zah (Zao (ZaD Zbp (by rfl) T.n_sorted Zbb (Zaa (ZjO (N':=["_law_who", "_law_all_in"]) (sel:=[none,some 2]) rfl rfl rfl (pv 2) (Zby rfl) (λ_ _ _ _ _=>⟨(ZaG (i:=0) (show (["_law_who", "_law_all_in"]:List Str).Nodup by decide +kernel) rfl (Or.inl rfl)),(Zc7 (Zar ZjS (Zak hu1 (pv 1) (pv 0) (λ_ _=>rfl)) ZbS (Zaw _))),(pv 0)⟩)) Zac))))),?_⟩
  walk_at "sy"
  refine ⟨_,B.gOpen,_,rfl,_,B.gPl ht hp,_,rfl,_,B.gAll hp,?_⟩
  have al:(ZaJ S p).length<=S.es.length:=List.length_filter_le _ _
  have lf:(S.es.filter λe=>decide (e.pl=p)).length<=S.es.length:=List.length_filter_le _ _
  have lz:=ok.sz.2.1
  have ha:=B.da p hp
  refine ⟨_,rfl,L.as p,_,rfl,ha,λo nf=>?_⟩
  have f5:upd H (L.as p) (.frz o (.dK ((S.es.filter λe=>decide (e.pl=p)).map λe=>(Sum.inl e.who,resV e.res)))) (L.as p)=some (.frz o (.dK ((S.es.filter λe=>decide (e.pl=p)).map λe=>(Sum.inl e.who,resV e.res)))):=Zab
  have k5:∀ c u,c≠L.as p->H c=some u->upd H (L.as p) (.frz o (.dK ((S.es.filter λe=>decide (e.pl=p)).map λe=>(Sum.inl e.who,resV e.res)))) c=some u:=λc u n e=>by rw [Zae n];exact e
  generalize upd H (L.as p) (.frz o (.dK ((S.es.filter λe=>decide (e.pl=p)).map λe=>(Sum.inl e.who,resV e.res))))=H5 at f5 k5 |-
  refine ZhK (λi ys G=>Same H5 G/\ys=(((S.es.filter λe=>decide (e.pl=p)).take i).filter λe=>!e.dead).map (λe=>V.int e.who)) ⟨Same.refl _,rfl⟩ ?_ (by rw [List.length_map];exact Nat.le_of_lt (Zam (by omega))) ?_ ?_
  ·rintro i ys G hi ⟨sG,rfl⟩
   refine ⟨sG _ _ f5,?_⟩
   rw [List.length_map]
   exact Nat.le_trans (List.length_filter_le _ _) (by rw [List.length_take];omega)
  ·rintro i kv ys G hx ⟨sG,rfl⟩
   rw [List.getElem?_map] at hx
   cases ex:(S.es.filter λe=>decide (e.pl=p))[i]? with
   |none=>rw [ex] at hx;cases hx
   |some e =>
    rw [ex] at hx
    cases hx
    have he:e∈S.es.filter λe=>decide (e.pl=p):=List.mem_of_getElem? ex
    have et:(S.es.filter λe=>decide (e.pl=p)).take (i+1)=(S.es.filter λe=>decide (e.pl=p)).take i++[e]:=by rw [List.take_succ,ex];rfl
    have dg:DGet G (L.as p) (.int e.who) (some (resV e.res)):=by
     refine .inl ⟨_,Sum.inl e.who,.inr ⟨o,sG _ _ f5⟩,rfl,?_⟩
     exact ZdJ (ok.who.sublist (List.filter_sublist.map _)) he
    walk_at "sx"
    refine ⟨_,dg,?_⟩
    rw [et,List.filter_append,List.map_append]
    cases hd:e.res with
    |some t' =>
     have hdd:e.dead=true:=by unfold Ent.dead;rw [hd];rfl
     refine ifn (by simp [resV]) ?_
     exact ⟨sG,by rw [List.filter_cons_of_neg (by simp [hdd])];simp⟩
    |none =>
     have hdd:e.dead=false:=by unfold Ent.dead;rw [hd];rfl
     refine ifp (by simp [resV]) ?_
     exact ⟨sG,by rw [List.filter_cons_of_pos (by simp [hdd])];rfl⟩
  ·rintro ys G ⟨sG,rfl⟩ D hD
   rw [List.length_map,List.take_length,Ziu]
   have aG:=sG _ _ f5
   have nD:D≠L.as p:=λz=>by rw [z,aG] at hD;cases hD
   have em:(ZaJ S p).map (λe=>V.int e.who)=((ZaJ S p).map Ent.who).map V.int:=by rw [List.map_map];rfl
   rw [em]
   refine ⟨L.as p,o,_,nf,by rw [Zae (Ne.symm nD)];exact aG,D,rfl,(ZaJ S p).map Ent.who,SqL.of (by rw [Zae nD];exact Zab),by rw [List.length_map];omega,λl ns hl perm so=>?_⟩
   obtain rfl:=Zfw perm so
   have sD:Same H (upd (upd G D (.lst (((ZaJ S p).map Ent.who).map V.int))) (L.as p) (.dK ((S.es.filter λe=>decide (e.pl=p)).map λe=>(Sum.inl e.who,resV e.res)))):=λc u e=>by
    by_cases hc:c=L.as p
    ·subst hc
     rw [Zab,<- e];exact ha.symm
    ·rw [Zae hc]
     exact (sG.updR hD) c u (k5 c u hc e)
   exact k _ l (sD.updR hl) (sD.free hl) Zab
theorem sc_l_marks:FnScope ["_law_s", "_law_place_here", "_law_group", "_law_first"] ["_law_s", "_law_place_here"] (Zaj (top 19)):=⟨rfl,rfl,rfl,by decide +kernel,rfl,by decide +kernel,by decide +kernel⟩
theorem Zgr (T:Tx K mg)
  (G_l_alive:FnOk P w K mg base CX0 1 T.d_l_alive.f T.d_l_alive.fd ["_law_s", "_law_place_here"] (Zb9)):FnOk P w K mg base CX0 2 T.d_l_marks.f T.d_l_marks.fd ["_law_s", "_law_place_here"] (ZeQ):=by
 refine T.d_l_marks.F.ok sc_l_marks (λvs H Q E h=>?_) (λcdv A outer s H vs Q E hr h=>?_)
 ·obtain ⟨L,S,t,p,rfl,_⟩:=h
  rfl
 ·obtain ⟨L,S,t,p,rfl,B,ok,ht,hp,k⟩:=h
  have hu1:=Za8 hr
  refine ⟨_,(Zad (Zax (i:=2) sc_l_marks.nd rfl (Or.inl rfl) (Zak hu1 (Zak hu1 (pv 0) Zag (λ_ _=>rfl)) (pv 1) (λ_ _=>rfl)))
  (Zad (ZaK (ZfO (Zak hu1 (pv 2) Zag (λ_ _=>rfl)))
  (Zah (Zao (ZaL Zac)))
  Zas)
  (Zad (Za9 hu1 (pv 2) Zag Zc8 rfl)
  (Zad (Zax (i:=3) sc_l_marks.nd rfl (Or.inl rfl) (Zap (Zaa (Zav Zan (pv 1) Zaf (λ_ _=>rfl)) (Zaa (Zav Zan (pv 1) Zaf (λ_ _=>rfl)) (Zaa Zag Zac)))))
  (Zah (Zao (Zat ZcI (ZaL (Zaa (pv 3) Zac)) (Zen (N':=["_law_who"]) (sel:=[none]) rfl rfl rfl (Zbt (ZaF G_l_alive (hr.mono (by omega)) rfl T.d_l_alive.hm T.d_l_alive.F.kp T.d_l_alive.b .nil ZaV (Zaa (pv 0) (Zaa (pv 1) Zac)))) (Zby rfl) (λ_ _ _ _ _=>⟨(ZaG (i:=0) (show (["_law_who"]:List Str).Nodup by decide +kernel) rfl (Or.inl rfl)),Zcy,(Zap (Zaa (pv 0) (Zaa Zaf (Zaa Zag Zac))))⟩))))))))),?_⟩
  walk_at "sy"
  obtain ⟨ft,h1,h2⟩:=B.dd p hp
  refine ⟨_,B.gOpen,_,rfl,_,B.gPl ht hp,_,rfl,_,LAt.gOff h1,S.of p,rfl,?_⟩
  cases hf:S.of p with
  |true =>
   refine ifp rfl ?_
   have es:offS S p=S:=Zet hf
   have em:ZdW S p=[]:=if_pos hf
   rw [es,em] at k
   exact ⟨by decide,λq hq=>k _ q (B.same (Same.upd hq)) (Stp.of (Same.upd hq)) (λo=>Same.upd hq _ _ o) hq ⟨[],Zab,rfl,λi p q z=>by simp at z⟩⟩
  |false =>
   refine ifn (by decide) ?_
   refine ⟨_,rfl,_,DPut.k (k:=Sum.inr "off") (v:=.bl true) h1 (by show 3<sizeLine;decide),?_⟩
   rw [Zjw]
   obtain ⟨B2,st2⟩:=B.grpD (off:=true) (n:=S.fz) hp h2
   have es:({ S with of:=setP S.of p true,ff:=setP S.ff p (S.ff p),fz:=S.fz }:Gst)=offS S p:=by rw [ZbD];rfl
   rw [es] at B2 st2
   have em:ZdW S p=p::(Zaz S p).map λw=>(w,0):=if_neg (by rw [hf];decide)
   have ok2:OkS (offS S p):=ok.offS p
   have t2:upd H (L.ds p) (.dK (dKv (L.as p) true ft)) t=some (.tup [.int p.1,.int p.2]):=by rw [Zae (Zaq ht h1 (λz=>nomatch z))];exact ht
   have o2:OpD H L S->OpD (upd H (L.ds p) (.dK (dKv (L.as p) true ft))) L S:=λo=>by
    show upd H _ _ L.op=_
    rw [Zae (Zaq o h1 (λz=>nomatch z))];exact o
   have fr2:∀ {c:Addr},upd H (L.ds p) (.dK (dKv (L.as p) true ft)) c=none->H c=none:=λz=>(ZaT z).2
   generalize upd H (L.ds p) (.dK (dKv (L.as p) true ft))=H2 at B2 st2 t2 o2 fr2 |-
   refine ixT t2 rfl (ixT t2 rfl ⟨by decide,λq hq=>⟨by decide,λq1 hq1=>?_⟩⟩)
   have s4:Same H2 (upd (upd H2 q (.tup [.int p.1,.int p.2,.str "off"])) q1 (.lst [.ref q])):=(Same.upd hq).trans (Same.upd hq1)
   have l4:upd (upd H2 q (.tup [.int p.1,.int p.2,.str "off"])) q1 (.lst [.ref q]) q1=some (.lst [.ref q]):=Zab
   have p4:upd (upd H2 q (.tup [.int p.1,.int p.2,.str "off"])) q1 (.lst [.ref q]) q=some (.tup [.int p.1,.int p.2,.str "off"]):=by rw [Zae (Zai Zab hq1)];exact Zab
   generalize upd (upd H2 q (.tup [.int p.1,.int p.2,.str "off"])) q1 (.lst [.ref q])=H4 at s4 l4 p4 |-
   refine ⟨_,rfl,_,rfl,L,offS S p,t,p,rfl,B2.same s4,ok2,s4 _ _ t2,hp,λH5 r s5 hrn hr5=>?_⟩
   have hr5:H5 r=some (.lst ((Zaz S p).map V.int)):=hr5
   have al:(ZaJ S p).length<=S.es.length:=List.length_filter_le _ _
   have lz:=ok.sz.2.1
   have ln:(Zaz S p).length=(ZaJ S p).length:=by unfold Zaz;rw [ZbT,List.length_map]
   generalize Zaz S p=ns at hr5 ln em
   refine ⟨r,rfl,⟨_,SqL.of hr5⟩,?_⟩
   refine Zdg (K:=K) (a:=r) (xs:=ns.map V.int) (λi ys G=>Same H5 G/\∃ ps:List Addr,ys=ps.map V.ref/\ps.length=i/\∀ (j:Nat) p w,ps[j]?=some p->ns[j]?=some w->G p=some (.tup [.int w,.int 0,.str "off"])) ⟨Same.refl _,[],rfl,rfl,λj p w z=>by simp at z⟩ ?_ (by rw [List.length_map];exact Nat.le_of_lt (Zam (by omega))) ?_ ?_
   ·rintro i ys G hi ⟨sG,ps,rfl,rfl,_⟩
    exact ⟨SqL.of (sG _ _ hr5),by rw [List.length_map];exact Nat.le_refl _⟩
   ·rintro i x ys G hx ⟨sG,ps,rfl,rfl,hps⟩
    rw [List.getElem?_map] at hx
    cases ex:ns[ps.length]? with
    |none=>rw [ex] at hx;cases hx
    |some w =>
     rw [ex] at hx
     cases hx
     walk_at "sy"
     refine ⟨by decide,λq hq=>⟨sG.updR hq,ps++[q],by rw [List.map_append];rfl,by simp,λj p' w' hp' hw'=>?_⟩⟩
     rcases ZbK hp' with z | ⟨z,rfl⟩
     ·exact Same.upd hq _ _ (hps j p' w' z hw')
     ·rw [z,ex] at hw'
      cases hw'
      exact Zab
   ·rintro ys G ⟨sG,ps,rfl,hy,hps⟩ D hD
    rw [List.length_map] at hy
    have sD:Same H2 (upd G D (.lst (ps.map V.ref))):=((s4.trans s5).trans sG).updR hD
    refine ⟨q1,D,_,_,rfl,rfl,(sG.updR hD) _ _ (s5 _ _ l4),Zab,?_,λv hv=>?_⟩
    ·rw [List.length_map,hy];show 1+ns.length<=sizeLine;exact Nat.le_of_lt (Zam (by omega))
    ·have sq:=sD.updR (o:=.lst ([.ref q]++ps.map V.ref)) hv
     have sGq:=(Same.upd (o:=.lst (ps.map V.ref)) hD).updR (o:=.lst ([.ref q]++ps.map V.ref)) hv
     refine k _ v (B2.same sq) (st2.trans (Stp.of sq)) (λo=>sq _ _ (o2 o)) (fr2 (sD.free hv)) ?_
     rw [em]
     refine ⟨q::ps,Zab,by simp [hy],λi p' q' hp' hq'=>?_⟩
     cases i with
     |zero =>
      obtain rfl:q=p':=by simpa using hp'
      obtain rfl:p=q':=by simpa using hq'
      exact sGq _ _ (sG _ _ (s5 _ _ p4))
     |succ i =>
      rw [List.getElem?_cons_succ] at hp' hq'
      rw [List.getElem?_map] at hq'
      cases ew:ns[i]? with
      |none=>rw [ew] at hq';cases hq'
      |some w =>
       rw [ew] at hq'
       cases hq'
       exact sGq _ _ (hps i p' w hp' ew)
theorem sc_l_outcome:FnScope ["_law_x", "_law_way", "_law_some"] ["_law_x"] (Zaj (top 20)):=⟨rfl,rfl,rfl,by decide +kernel,rfl,by decide +kernel,by decide +kernel⟩
theorem Zeq (T:Tx K mg)
  (G_l_stream:FnOk P w K mg base CX0 2 T.d_l_stream.f T.d_l_stream.fd ["_law_cell", "_law_many"] (Zfx)):FnOk P w K mg base CX0 3 T.d_l_outcome.f T.d_l_outcome.fd ["_law_x"] (Zeg):=by
 refine T.d_l_outcome.F.ok sc_l_outcome (λvs H Q E h=>?_) (λcdv A outer s H vs Q E hr h=>?_)
 ·obtain ⟨x,rfl,_⟩:=h
  rfl
 ·obtain ⟨x,rfl,k⟩:=h
  refine ⟨_,(Zad (Zax (i:=1) sc_l_outcome.nd rfl (Or.inl rfl) (Zat ZaN (pv 0) Zaf))
  (Zad (ZaK (Zar Zbd (pv 1) Zaf (Zaw _))
  (Zah (Zao (Zap (Zaa Zag (Zaa (Zav ZbG (ZaL (Zaa (Zat ZaN (Zat ZaR (pv 0) Zaf) Zaf) (Zaa Zag (Zaa Zag Zac)))) (Zat ZaN (Zat ZaR (pv 0) Zaf) Zaf) (λ_ _=>rfl)) Zac)))))
  Zas)
  (Zad (ZaK (Zar Zbd (pv 1) Zaf (Zaw _))
  (Zad (Zax (i:=2) sc_l_outcome.nd rfl (Or.inr rfl) (ZaL (Ze2 (zs:=["leak", "fire", "nobody", "leak", "smoke"]) (by decide +kernel))))
  (Zah (Zao (Zap (Zaa Zag (Zaa (Za5 Zbg (by rfl) T.n_tuple ZcZ (Zaa (Zen (N':=["_law_y", "_law_some"]) (sel:=[none,some 2]) rfl rfl rfl (Zbt (ZaF G_l_stream (hr.mono (by omega)) rfl T.d_l_stream.hm T.d_l_stream.F.kp T.d_l_stream.b .nil ZaV (Zaa (Zat ZaR (pv 0) Zaf) (Zaa (Zat ZaX Zaf (Zat ZaN (Zat ZaR (pv 0) Zaf) Zaf)) Zac)))) (Zby rfl) (λ_ _ _ _ _=>⟨(ZaG (i:=0) (show (["_law_y", "_law_some"]:List Str).Nodup by decide +kernel) rfl (Or.inl rfl)),Zcy,(Zav (ZfZ (K:=K) rfl) (pv 1) (Zat ZaN (pv 0) Zaf) (λ_ _=>rfl))⟩)) Zac)) Zac))))))
  Zas)
  (Zah (Zao (Zav ZbG (ZaL (Zaa (Zap (Zaa Zag Zac)) (Zaa (Zap (Zaa Zag Zac)) Zac))) (Zat ZjR (pv 1) Zaf) (λ_ _=>rfl))))))),?_⟩
  walk_at "sw"
  have w0:=Int.emod_nonneg x (show (4:Int)≠0 by decide)
  have w1:=Int.emod_lt_of_pos x (show (0:Int)<4 by decide)
  refine ⟨by decide,rfl,?_⟩
  by_cases c0:x%4=0
  ·refine ifp (decide_eq_true c0) ?_
   refine ⟨⟨by decide,by decide⟩,by decide,by decide,λp hp=>⟨⟨by decide,by decide⟩,by decide,?_⟩⟩
   obtain ⟨v,hvm,hv⟩:=ZgD (xs:=[V.int (x / 28%10),V.str ":off",V.str ":late"]) (i:=x / 4%3) (Int.emod_nonneg _ (by decide)) (Int.emod_lt_of_pos _ (by decide))
   have pv:∀ y∈[v],PlV y:=λy hy=>by
    rw [List.mem_singleton.mp hy]
    simp only [List.mem_cons,List.not_mem_nil,or_false] at hvm
    rcases hvm with rfl | rfl | rfl<;>exact .inl rfl
   exact ⟨p,_,_,v,rfl,rfl,SqL.of Zab,hv,by decide,λq hq=>k _ q none ((Same.upd hp).trans (Same.upd hq)) ⟨"value",[v],Zab,pv,.inl ⟨rfl,by decide +kernel⟩⟩ (λz=>by omega)⟩
  refine ifn (by simpa using c0) ?_
  refine ⟨rfl,?_⟩
  by_cases c1:x%4=1
  ·refine ifp (decide_eq_true c1) ?_
   refine ⟨by decide,λp hp=>?_⟩
   have s1:Same H (upd H p (.lst [.str "leak",.str "fire",.str "nobody",.str "leak",.str "smoke"])):=Same.upd hp
   have l1:upd H p (.lst [.str "leak",.str "fire",.str "nobody",.str "leak",.str "smoke"]) p=some (.lst [.str "leak",.str "fire",.str "nobody",.str "leak",.str "smoke"]):=Zab
   generalize upd H p (.lst [.str "leak",.str "fire",.str "nobody",.str "leak",.str "smoke"])=H1 at s1 l1 |-
   have m0:=Int.emod_nonneg (x / 4) (show (3:Int)≠0 by decide)
   have m1:=Int.emod_lt_of_pos (x / 4) (show (0:Int)<3 by decide)
   refine ⟨⟨by decide,by decide⟩,⟨by decide,by decide⟩,by decide,x / 4,1+x / 4%3,rfl,by omega,by omega,λl ns H2 _ hl _ hns s2=>?_⟩
   refine ⟨l,rfl,⟨_,SqL.of hns⟩,?_⟩
   refine Zdg (K:=K) (a:=l) (xs:=ns.map V.int) (λi ys G=>Same H2 G/\∃ ls:List Str,ys=ls.map V.str/\ls.length=i) ⟨Same.refl _,[],rfl,rfl⟩ ?_ (by rw [List.length_map];exact Nat.le_of_lt (Zam (by omega))) ?_ ?_
   ·rintro i ys G hi ⟨sG,ls,rfl,rfl⟩
    exact ⟨SqL.of (sG _ _ hns),by rw [List.length_map];exact Nat.le_refl _⟩
   ·rintro i y ys G hy ⟨sG,ls,rfl,hli⟩
    rw [List.getElem?_map] at hy
    cases ey:ns[i]? with
    |none=>rw [ey] at hy;cases hy
    |some n =>
     rw [ey] at hy
     cases hy
     walk_at "sx"
     obtain ⟨v,hvm,hv⟩:=ZgD (xs:=[V.str "leak",V.str "fire",V.str "nobody",V.str "leak",V.str "smoke"]) (i:=n%5) (Int.emod_nonneg _ (by decide)) (Int.emod_lt_of_pos _ (by decide))
     obtain ⟨z,rfl⟩:∃ z,v=.str z:=by
      simp only [List.mem_cons,List.not_mem_nil,or_false] at hvm
      rcases hvm with rfl | rfl | rfl | rfl | rfl<;>exact ⟨_,rfl⟩
     exact ⟨by decide,p,_,_,_,rfl,rfl,SqL.of (sG _ _ (s2 _ _ l1)),hv,sG,ls++[z],by rw [List.map_append];rfl,by simp [hli]⟩
   ·rintro ys G ⟨sG,ls,rfl,hy⟩ D hD
    rw [List.length_map] at hy
    have ly:ls.length<=3:=by omega
    generalize hys:ls.map V.str=ys
    refine ⟨ys,.inl ⟨SqL.of Zab,λf hf=>⟨by decide,λq hq=>?_⟩⟩⟩
    have ss:=(s1.trans (s2.trans sG)).trans (Same.upd (o:=.lst ys) hD)
    have fq:upd (upd (upd G D (.lst ys)) f (.tup ys)) q (.tup [.str "faults",.ref f]) f=some (.tup ys):=by rw [Zae (Zai Zab hq)];exact Zab
    have fq':upd (upd (upd G D (.lst ys)) f (.tup ys)) q (.tup [.str "faults",.ref f]) f=some (.tup (ls.map V.str)):=by rw [fq,hys]
    exact k _ q (some ls) (ss.trans ((Same.upd hf).trans (Same.upd hq))) ⟨"faults",[.ref f],Zab,(λy hy=>.inr ⟨f,List.mem_singleton.mp hy⟩),.inr ⟨ls,f,rfl,rfl,rfl,fq',ly⟩⟩ (λ_=>⟨f,ls,Zab,fq',ly⟩)
  ·refine ifn (by simpa using c1) ?_
   refine ⟨by decide,λp hp=>⟨by decide,λp1 hp1=>⟨by decide,λp2 hp2=>?_⟩⟩⟩
   have s1:Same H (upd H p (.tup [.str "off"])):=Same.upd hp
   have t1:upd H p (.tup [.str "off"]) p=some (.tup [.str "off"]):=Zab
   generalize upd H p (.tup [.str "off"])=H1 at hp1 hp2 s1 t1 |-
   have s2:Same H1 (upd H1 p1 (.tup [.str "late"])):=Same.upd hp1
   have t2:upd H1 p1 (.tup [.str "late"]) p1=some (.tup [.str "late"]):=Zab
   generalize upd H1 p1 (.tup [.str "late"])=H2 at hp2 s2 t2 |-
   have s3:Same H2 (upd H2 p2 (.lst [.ref p,.ref p1])):=Same.upd hp2
   obtain ⟨v,hm,hv⟩:=ZgD (xs:=[V.ref p,V.ref p1]) (i:=x%4-2) (by omega) (by show x%4-2<2;omega)
   refine ⟨p2,_,_,v,rfl,rfl,SqL.of Zab,hv,?_⟩
   rcases List.mem_cons.mp hm with rfl | hm
   ·exact k _ p none (s1.trans (s2.trans s3)) ⟨"off",[],s3 _ _ (s2 _ _ t1),(λy hy=>nomatch hy),.inl ⟨rfl,by decide +kernel⟩⟩ (λz=>by omega)
   ·obtain rfl:=List.mem_singleton.mp hm
    exact k _ p1 none (s1.trans (s2.trans s3)) ⟨"late",[],s3 _ _ t2,(λy hy=>nomatch hy),.inl ⟨rfl,by decide +kernel⟩⟩ (λz=>by omega)
theorem sc_l_place:FnScope ["_law_s", "_law_x", "_law_places"] ["_law_s", "_law_x"] (Zaj (top 21)):=⟨rfl,rfl,rfl,by decide +kernel,rfl,by decide +kernel,by decide +kernel⟩
theorem Zgo (T:Tx K mg):FnOk P w K mg base CX0 1 T.d_l_place.f T.d_l_place.fd ["_law_s", "_law_x"] (ZgZ):=by
 refine T.d_l_place.F.ok sc_l_place (λvs H Q E h=>?_) (λcdv A outer s H vs Q E hr h=>?_)
 ·obtain ⟨L,S,x,rfl,_⟩:=h
  rfl
 ·obtain ⟨L,S,x,rfl,B,ok,hop,k⟩:=h
  have hu:=ZcQ hr
  have hu1:=Za8 hr
  refine ⟨_,(Zad (Zax (i:=2) sc_l_place.nd rfl (Or.inl rfl) (ZaD Zbz (by rfl) T.n_sorted Zbb (Zaa (Za5 (ZdH rfl) (by rfl) T.n_list Zio (Zaa (Zak hu1 (pv 0) Zag (λ_ _=>rfl)) Zac)) Zac)))
  (Zad (ZaK (PW.pt (Ze0 (Zar (Zhx hu) (pv 2) (ZaL Zac) (Zaw _)) (Zc6 (Zar Zbd (Zat ZaN (pv 1) Zaf) Zaf (Zaw _)))))
  (Zah (Zao (Zap (Zaa (Zat ZaN (Zat ZaR (pv 1) Zaf) (Zat ZaX (Zak hu1 (pv 0) Zag (λ_ _=>rfl)) Zaf)) (Zaa (Zat ZaX Zaf (Zat ZaN (Zat ZaR (pv 1) Zaf) Zaf)) Zac)))))
  Zas)
  (Zah (Zao (Zav ZbG (pv 2) (Zat ZaN (Zat ZaR (pv 1) Zaf) (ZaD ZcY (by rfl) T.n_len Zf7 (Zaa (pv 2) Zac))) (λ_ _=>rfl)))))),?_⟩
  walk_at "sy"
  have lo:=ok.sz.2.2
  refine ⟨_,B.gOpen,_,rfl,_,hop,λl ps hl hlen hps=>?_⟩
  rw [List.length_map] at hlen
  have s1:Same H (upd H l (.lst (ps.map V.ref))):=Same.upd hl
  have l1:upd H l (.lst (ps.map V.ref)) l=some (.lst (ps.map V.ref)):=Zab
  generalize upd H l (.lst (ps.map V.ref))=H1 at s1 l1 |-
  refine ⟨ps,l1,by omega,S.os,hlen.symm,λi p q hp hq=>s1 _ _ (hps i p (keyP q,.ref (L.ds q)) hp (by rw [List.getElem?_map,hq];rfl)),λr qs ks hr _ _ lq hqs=>⟨by decide,λp hp=>?_⟩⟩
  have s2:Same H1 (upd H1 r (.lst (qs.map V.ref))):=Same.upd hr
  have l2:upd H1 r (.lst (qs.map V.ref)) r=some (.lst (qs.map V.ref)):=Zab
  generalize upd H1 r (.lst (qs.map V.ref))=H2 at hp s2 l2 |-
  have s3:Same H2 (upd H2 p (.lst [])):=Same.upd hp
  have l3:upd H2 p (.lst []) p=some (.lst []):=Zab
  generalize upd H2 p (.lst [])=H3 at s3 l3 |-
  have sA:=s1.trans (s2.trans s3)
  obtain ⟨mn,hmn,gm⟩:=(B.same sA).gMany
  refine ⟨r,p,_,_,0,λ_=>false,rfl,rfl,SqL.of (s3 _ _ l2),SqL.of l3,by decide,λi x y _ ey=>by simp at ey,_,rfl,?_⟩
  by_cases e0:qs=[]
  ·refine ifp (by rw [e0];rfl) ?_
   exact ⟨⟨by decide,by decide⟩,_,gm,mn,rfl,by omega,⟨by decide,by decide⟩,by decide,by decide,λq hq=>k _ q _ _ (sA.updR hq) Zab⟩
  ·have nl:qs.length≠0:=λz=>e0 (List.length_eq_zero_iff.mp z)
   refine ifn (by rw [List.length_map,decide_eq_false (show ¬ qs.length=([]:List V).length from nl)];simp) ?_
   refine ⟨by decide,rfl,?_⟩
   by_cases e1:x%16=0
   ·refine ifp (decide_eq_true e1) ?_
    exact ⟨⟨by decide,by decide⟩,_,gm,mn,rfl,by omega,⟨by decide,by decide⟩,by decide,by decide,λq hq=>k _ q _ _ (sA.updR hq) Zab⟩
   ·refine ifn (by simpa using e1) ?_
    have lp:(0:Int)<((qs.map V.ref).length:Nat):=by rw [List.length_map];omega
    obtain ⟨v,hv,hat⟩:=ZgD (xs:=qs.map V.ref) (i:=x / 16%((qs.map V.ref).length:Nat)) (Int.emod_nonneg _ (by omega)) (Int.emod_lt_of_pos _ lp)
    obtain ⟨q,hqm,rfl⟩:=List.mem_map.mp hv
    obtain ⟨i,hi,e⟩:=List.getElem_of_mem hqm
    have ei:qs[i]?=some q:=by rw [List.getElem?_eq_getElem hi,e]
    obtain ⟨kk,ek⟩:=Zc2 lq ei
    exact ⟨⟨by decide,by decide⟩,(qs.map V.ref).length,.inl ⟨_,SqL.of (s3 _ _ l2),rfl⟩,lp,r,_,_,_,rfl,rfl,SqL.of (s3 _ _ l2),hat,k _ q kk.1 kk.2 sA ((s2.trans s3) _ _ (hqs i q kk ei ek))⟩
theorem sc_l_deed:FnScope ["_law_s", "_law_x", "_law_way", "_law_more", "_law_place_here", "_law_owner", "_law_who", "_law_alive_here", "_law_faults"] ["_law_s", "_law_x"] (Zaj (top 22)):=⟨rfl,rfl,rfl,by decide +kernel,rfl,by decide +kernel,by decide +kernel⟩
theorem ZhB (T:Tx K mg)
  (G_l_place:FnOk P w K mg base CX0 1 T.d_l_place.f T.d_l_place.fd ["_law_s", "_law_x"] (ZgZ))
  (G_l_alive:FnOk P w K mg base CX0 1 T.d_l_alive.f T.d_l_alive.fd ["_law_s", "_law_place_here"] (Zb9))
  (G_l_outcome:FnOk P w K mg base CX0 3 T.d_l_outcome.f T.d_l_outcome.fd ["_law_x"] (Zeg)):FnOk P w K mg base CX0 4 T.d_l_deed.f T.d_l_deed.fd ["_law_s", "_law_x"] (ZjI):=by
 refine T.d_l_deed.F.ok sc_l_deed (λvs H Q E h=>?_) (λcdv A outer s H vs Q E hr h=>?_)
 ·obtain ⟨L,S,x,rfl,B,ok,op,q⟩:=h
  rfl
 ·have hu:=ZcQ hr
  have hu1:=Za8 hr
  refine ⟨_,(Zad (Zax (i:=2) sc_l_deed.nd rfl (Or.inl rfl) (Zat ZaN (pv 1) Zaf))
  (Zad (Zax (i:=3) sc_l_deed.nd rfl (Or.inl rfl) (Zat ZaR (pv 1) Zaf))
  (Zad (Zax (i:=4) sc_l_deed.nd rfl (Or.inl rfl) (ZaF G_l_place (hr.mono (by omega)) rfl T.d_l_place.hm T.d_l_place.F.kp T.d_l_place.b .nil ZaV (Zaa (pv 0) (Zaa (pv 3) Zac))))
  (Zad (ZaK (PW.pt (Ze0 (Zar Zi0 (pv 2) Zaf (Zaw _)) (Zc6 (Zar (Zlw (Nat.lt_of_succ_lt hu1)) (Zak hu1 (pv 0) Zag (λ_ _=>rfl)) ZcV (Zaw _)))))
  (Zad (Zax (i:=5) sc_l_deed.nd rfl (Or.inl rfl) (Zat ZaN (Zat ZaR (pv 3) Zaf) (Zat ZaX (Zak hu1 (pv 0) Zag (λ_ _=>rfl)) Zaf)))
  (Zah (Zao (Zap (Zaa Zag (Zaa (pv 5) (Zaa (Zat ZaX Zaf (Zat ZaN (Zat ZaR (pv 3) Zaf) Zaf)) Zac)))))))
  Zas)
  (Zad (ZaK (Zar Zi0 (pv 2) Zaf (Zaw _))
  (Zad (Zax (i:=6) sc_l_deed.nd rfl (Or.inl rfl) (Zat ZaX (Zat ZaX (Zak hu1 (pv 0) Zag (λ_ _=>rfl)) Zaf) (Zat ZaN (Zat ZaR (pv 3) Zaf) Zaf)))
  (Zad (ZaK (Zar Zbd (Zat ZaN (pv 3) Zaf) Zaf (Zaw _))
  (Zah (Zax (i:=6) sc_l_deed.nd rfl (Or.inl rfl) (Zat ZaN (Zat ZaR (pv 3) Zaf) (Zat ZaX (Zak hu1 (pv 0) Zag (λ_ _=>rfl)) Zaf))))
  Zas)
  (Zah (Zao (Zap (Zaa Zag (Zaa (Zav Zan (pv 4) Zaf (λ_ _=>rfl)) (Zaa (Zav Zan (pv 4) Zaf (λ_ _=>rfl)) (Zaa (Zav ZbG (ZaL (Ze2 (zs:=["a", "b", "ab", "watch"]) (by decide +kernel))) (Zat ZaN (Zat ZaR (pv 3) Zaf) Zaf) (λ_ _=>rfl)) (Zaa (pv 6) Zac))))))))))
  Zas)
  (Zad (ZaK (Zar Zi0 (pv 2) Zaf (Zaw _))
  (Zad (Zax (i:=7) sc_l_deed.nd rfl (Or.inl rfl) (ZaD (Zik rfl) (by rfl) T.n_sum ZlY (Zaa (ZjN (N':=["_law_one", "_law_s"]) (sel:=[none,some 0]) rfl rfl rfl (Zak hu1 (pv 0) Zag (λ_ _=>rfl)) (Zby rfl) (λ_ _ _ _ _=>⟨(ZaG (i:=0) (show (["_law_one", "_law_s"]:List Str).Nodup by decide +kernel) rfl (Or.inl rfl)),Zcy,(ZaF G_l_alive (hr.mono (by omega)) rfl T.d_l_alive.hm T.d_l_alive.F.kp T.d_l_alive.b .nil ZaV (Zaa (pv 1) (Zaa (pv 0) Zac)))⟩)) (Zaa (ZaL Zac) Zac))))
  (Zad (ZaK (PW.pt (Ze0 (Zar (Zhx hu) (pv 7) (ZaL Zac) (Zaw _)) (Zc6 (Zar Zbd (Zat ZaN (pv 3) Zaf) Zaf (Zaw _)))))
  (Zah (Zao (Zap (Zaa Zag (Zaa (Zat ZaN (Zat ZaR (pv 3) Zaf) (Zat ZaX (Zak hu1 (pv 0) Zag (λ_ _=>rfl)) Zaf)) (Zaa (ZaF G_l_outcome (hr.mono (by omega)) rfl T.d_l_outcome.hm T.d_l_outcome.F.kp T.d_l_outcome.b .nil ZaV (Zaa (Zat ZaR (pv 3) Zaf) Zac)) Zac))))))
  Zas)
  (Zah (Zao (Zap (Zaa Zag (Zaa (Zav ZbG (ZaD Zbp (by rfl) T.n_sorted Zbb (Zaa (pv 7) Zac)) (Zat ZaN (Zat ZaR (pv 3) Zaf) (ZaD ZcY (by rfl) T.n_len Zf7 (Zaa (pv 7) Zac))) (λ_ _=>rfl)) (Zaa (ZaF G_l_outcome (hr.mono (by omega)) rfl T.d_l_outcome.hm T.d_l_outcome.F.kp T.d_l_outcome.b .nil ZaV (Zaa (Zat ZaR (pv 3) Zaf) Zac)) Zac))))))))
  Zas)
  (Zad (ZaK (Zar Zbd (pv 2) Zaf (Zaw _))
  (Zad (Zax (i:=8) sc_l_deed.nd rfl (Or.inl rfl) (Zav Zan (ZaF G_l_outcome (hr.mono (by omega)) rfl T.d_l_outcome.hm T.d_l_outcome.F.kp T.d_l_outcome.b .nil ZaV (Zaa (Zat ZaX (Zat Zdx Zaf (Zat ZaR (pv 3) Zaf)) Zaf) Zac)) Zaf (λ_ _=>rfl)))
  (Zah (Zao (Zap (Zaa Zag (Zaa (Zav Zan (pv 4) Zaf (λ_ _=>rfl)) (Zaa (Zav Zan (pv 4) Zaf (λ_ _=>rfl)) (Zaa (Zbn Zha (pv 8) (Zbs (Zat ZaN (Zat ZaR (pv 3) Zaf) Zaf)) Zcz) Zac))))))))
  Zas)
  (Zah (Zao (Zap (Zaa (Zav ZbG (ZaL (Zaa Zag (Zaa Zag Zac))) (Zat ZjR (pv 2) Zaf) (λ_ _=>rfl)) (Zaa (Zav Zan (pv 4) Zaf (λ_ _=>rfl)) (Zaa (Zav Zan (pv 4) Zaf (λ_ _=>rfl)) Zac))))))))))))),?_⟩
  obtain ⟨L,S,x,rfl,B,ok,op,q⟩:=h
  walk_at "sy"
  refine ⟨by decide,⟨by decide,by decide⟩,L,S,x / 12,rfl,B,ok,op,λH1 t0 a b s1 ht0=>?_⟩
  obtain ⟨mn,hmn,gm1⟩:=(B.same s1).gMany
  by_cases c0:x%12<2
  ·refine ifp (decide_eq_true c0) ?_
   exact ⟨⟨by decide,by decide⟩,_,gm1,mn,rfl,by omega,⟨by decide,by decide⟩,by decide,by decide,λp hp=>q _ p (.opn _ _) (s1.updR hp) Zab (ZjQ hmn _ _)⟩
  refine ifn (by simpa using c0) ?_
  refine ⟨_,(B.same s1).gOpen,λp1 hp1=>?_⟩
  have s2:Same H1 (upd H1 p1 (.dT [])):=Same.upd hp1
  have l2:upd H1 p1 (.dT []) p1=some (.dT []):=Zab
  generalize upd H1 p1 (.dT [])=H2 at s2 l2 |-
  have s02:=s1.trans s2
  have B2:=B.same s02
  obtain ⟨mn,hmn,gm⟩:=B2.gMany
  clear gm1 hp1
  have ht2:=s2 _ _ ht0
  have op2:OpD H2 L S:=s02 _ _ op
  refine ⟨_,_,_,rfl,rfl,.inl op2,l2,_,rfl,?_⟩
  by_cases ce:(S.os.map λp=>(keyP p,V.ref (L.ds p))).isEmpty=true
  ·rw [if_pos ce]
   exact ⟨⟨by decide,by decide⟩,_,gm,mn,rfl,by omega,⟨by decide,by decide⟩,by decide,by decide,λp hp=>q _ p (.opn _ _) (s02.updR hp) Zab (ZjQ hmn _ _)⟩
  rw [if_neg ce]
  by_cases c1:x%12<6
  ·refine ifp (decide_eq_true c1) ?_
   refine ⟨_,gm,mn,rfl,⟨by decide,by decide⟩,by decide,by decide,rfl,?_⟩
   obtain ⟨v,hv,hat⟩:=ZgD (xs:=[V.str "a",V.str "b",V.str "ab",V.str "watch"]) (i:=x / 12 / 700%4) (Int.emod_nonneg _ (by decide)) (Int.emod_lt_of_pos _ (by decide))
   obtain ⟨l,rfl⟩:∃ l,v=.str l:=by
    simp only [List.mem_cons,List.not_mem_nil,or_false] at hv
    rcases hv with rfl | rfl | rfl | rfl<;>exact ⟨_,rfl⟩
   by_cases c2:x / 12%4=0
   ·refine ifp (decide_eq_true c2) ?_
    exact ⟨⟨by decide,by decide⟩,_,gm,mn,rfl,by omega,ixT ht2 rfl (ixT ht2 rfl ⟨by decide,λp hp=>⟨⟨by decide,by decide⟩,by decide,p,_,_,_,rfl,rfl,SqL.of Zab,hat,by decide,λp' hp'=>q _ p' (.put a b l _) ((s02.updR hp).updR hp') Zab (λ_ _ e=>nomatch e)⟩⟩)⟩
   ·refine ifn (by simpa using c2) ?_
    exact ixT ht2 rfl (ixT ht2 rfl ⟨by decide,λp hp=>⟨⟨by decide,by decide⟩,by decide,p,_,_,_,rfl,rfl,SqL.of Zab,hat,by decide,λp' hp'=>q _ p' (.put a b l _) ((s02.updR hp).updR hp') Zab (λ_ _ e=>nomatch e)⟩⟩)
  refine ifn (by simpa using c1) ?_
  by_cases c3:x%12<9
  ·refine ifp (decide_eq_true c3) ?_
   refine ⟨_,rfl,_,_,rfl,B2.gOpen,_,_,rfl,op2,λo nf=>?_⟩
   have Bz:=B2.frz op2 o
   have kz:∀ c u,c≠L.op->H2 c=some u->upd H2 L.op (.frz o (.dT (S.os.map λp=>(keyP p,.ref (L.ds p))))) c=some u:=λc u n e=>by rw [Zae n];exact e
   have fz:upd H2 L.op (.frz o (.dT (S.os.map λp=>(keyP p,.ref (L.ds p))))) L.op=some (.frz o (.dT (S.os.map λp=>(keyP p,.ref (L.ds p))))):=Zab
   generalize upd H2 L.op (.frz o (.dT (S.os.map λp=>(keyP p,.ref (L.ds p)))))=H3 at Bz kz fz |-
   have lo:=ok.sz.2.2
   refine ZfY (λi ys G=>Same H3 G/\∃ (ps:List Addr) (nss:Nat->List Int),ys=ps.map V.ref/\ps.length=i/\(∀ (j:Nat) p,ps[j]?=some p->G p=some (.lst ((nss j).map V.int)))/\∀ (j:Nat) p q,ps[j]?=some p->S.os[j]?=some q->(nss j).length=(ZaJ S q).length) ⟨Same.refl _,[],λ_=>[],rfl,rfl,by simp,by simp⟩ ?_ (by rw [List.length_map];exact Nat.le_of_lt (Zam (by omega))) ?_ ?_
   ·rintro i ys G hi ⟨sG,ps,nss,rfl,rfl,h1,h2⟩
    exact ⟨sG _ _ fz,by rw [List.length_map];exact Nat.le_refl _⟩
   ·rintro i kv t1 ys G hx ht1 ⟨sG,ps,nss,rfl,rfl,h1,h2⟩
    walk_at "sy"
    rw [List.getElem?_map] at hx
    cases ex:S.os[ps.length]? with
    |none=>rw [ex] at hx;cases hx
    |some p =>
     rw [ex] at hx
     cases hx
     refine ⟨L,S,t1,p,rfl,Bz.same sG,ok,ht1,List.mem_of_getElem? ex,λG2 r sG2 hrn hr2=>⟨sG.trans sG2,ps++[r],by rw [List.map_append];rfl,by simp,(λj=>if j=ps.length then Zaz S p else nss j:Nat->List Int),λj p' hj=>?_,λj p' q' hj hq'=>?_⟩⟩
     ·show G2 p'=some (.lst (List.map V.int (if j=ps.length then Zaz S p else nss j)))
      rcases ZbK hj with z | ⟨z,rfl⟩
      ·have lt:=(List.getElem?_eq_some_iff.mp z).1
       rw [if_neg (by omega)]
       exact sG2 _ _ (h1 j p' z)
      ·rw [if_pos z];exact hr2
     ·show (if j=ps.length then Zaz S p else nss j).length=_
      rcases ZbK hj with z | ⟨z,rfl⟩
      ·have lt:=(List.getElem?_eq_some_iff.mp z).1
       rw [if_neg (by omega)]
       exact h2 j p' q' z hq'
      ·subst z
       rw [ex] at hq'
       cases hq'
       rw [if_pos rfl]
       unfold Zaz
       rw [ZbT,List.length_map]
   ·rintro ys G ⟨sG,ps,nss,rfl,hps,h1,h2⟩ D hD
    rw [List.length_map] at hps
    have aG:=sG _ _ fz
    have nD:D≠L.op:=λz=>by rw [z,aG] at hD;cases hD
    refine ⟨L.op,o,_,nf,by rw [Zae (Ne.symm nD)];exact aG,by decide,λp hp=>?_⟩
    have s4:Same H2 (upd (upd G D (.lst (ps.map V.ref))) L.op (.dT (S.os.map λp=>(keyP p,.ref (L.ds p))))):=λc u e=>by
     by_cases hc:c=L.op
     ·subst hc
      rw [Zab,<- e];exact op2.symm
     ·rw [Zae hc]
      exact (sG.updR hD) c u (kz c u hc e)
    have d4:upd (upd G D (.lst (ps.map V.ref))) L.op (.dT (S.os.map λp=>(keyP p,.ref (L.ds p)))) D=some (.lst (ps.map V.ref)):=by rw [Zae nD];exact Zab
    have p4:∀ (j:Nat) p,ps[j]?=some p->upd (upd G D (.lst (ps.map V.ref))) L.op (.dT (S.os.map λp=>(keyP p,.ref (L.ds p)))) p=some (.lst ((nss j).map V.int)):=λj p e=>by
     have:=h1 j p e
     rw [Zae (Zaq this aG (λz=>nomatch z)),Zae (Zai this hD)]
     exact this
    generalize upd (upd G D (.lst (ps.map V.ref))) L.op (.dT (S.os.map λp=>(keyP p,.ref (L.ds p))))=H4 at s4 d4 p4 hp |-
    have s5:Same H4 (upd H4 p (.lst [])):=Same.upd hp
    have l5:upd H4 p (.lst []) p=some (.lst []):=Zab
    generalize upd H4 p (.lst [])=H5 at s5 l5 |-
    have h3:∀ (j:Nat) q,S.os[j]?=some q->(nss j).length=(ZaJ S q).length:=λj q e=>by
     have lt:=(List.getElem?_eq_some_iff.mp e).1
     exact h2 j ps[j] q (List.getElem?_eq_getElem (by omega)) e
    refine ⟨D,rfl,ps,s5 _ _ d4,λj=>(nss j).map V.int,[],l5,λj p' e=>s5 _ _ (p4 j p' e),λi hi=>?_,λz=>?_,λ_ r hr=>⟨by decide,λp2 hp2=>?_⟩⟩
    ·rw [List.nil_append,Zf1,List.length_map]
     have:=ZeK ok h3 (i:=i) (by omega)
     exact Nat.le_of_lt (Zam (by omega))
    ·rw [z] at hps
     have:S.os=[]:=List.length_eq_zero_iff.mp hps.symm
     rw [this] at ce
     exact absurd rfl ce
    have lz:=ZeK ok h3 (i:=ps.length) (by omega)
    rw [List.nil_append,Zf1] at hp2 |-
    generalize ((List.range ps.length).map nss).flatten=ns at lz hp2 |-
    have s6:Same H5 (upd (upd H5 r (.lst (ns.map V.int))) p2 (.lst [])):=(Same.upd hr).updR hp2
    have l6:upd (upd H5 r (.lst (ns.map V.int))) p2 (.lst []) r=some (.lst (ns.map V.int)):=by rw [Zae (Zai Zab hp2)];exact Zab
    have e6:upd (upd H5 r (.lst (ns.map V.int))) p2 (.lst []) p2=some (.lst []):=Zab
    generalize upd (upd H5 r (.lst (ns.map V.int))) p2 (.lst [])=H6 at s6 l6 e6 |-
    have s06:=s02.trans (s4.trans (s5.trans s6))
    obtain ⟨mn,hmn,gm6⟩:=(B.same s06).gMany
    refine ⟨r,p2,_,_,0,λ_=>false,rfl,rfl,SqL.of l6,SqL.of e6,by decide,λi x y _ ey=>by simp at ey,_,rfl,?_⟩
    by_cases e0:ns=[]
    ·refine ifp (by rw [e0];rfl) ?_
     exact ⟨⟨by decide,by decide⟩,_,gm6,mn,rfl,by omega,⟨by decide,by decide⟩,_,rfl,λH7 t7 fs s7 o7 _=>⟨by decide,λp hp=>q _ p (.fin _ t7 fs) ((s06.trans s7).updR hp) ⟨Zab,o7.mono (λ_ _ e=>Same.upd hp _ _ e)⟩ (λ_ _ e=>nomatch e)⟩⟩
    ·have nl:ns.length≠0:=λz=>e0 (List.length_eq_zero_iff.mp z)
     refine ifn (by rw [List.length_map,decide_eq_false (show ¬ ns.length=([]:List V).length from nl)];simp) ?_
     refine ⟨by decide,rfl,?_⟩
     by_cases c4:x / 12%9=0
     ·refine ifp (decide_eq_true c4) ?_
      exact ⟨⟨by decide,by decide⟩,_,gm6,mn,rfl,by omega,⟨by decide,by decide⟩,_,rfl,λH7 t7 fs s7 o7 _=>⟨by decide,λp hp=>q _ p (.fin _ t7 fs) ((s06.trans s7).updR hp) ⟨Zab,o7.mono (λ_ _ e=>Same.upd hp _ _ e)⟩ (λ_ _ e=>nomatch e)⟩⟩
     ·refine ifn (by simpa using c4) ?_
      refine ⟨ns,SqL.of l6,by omega,λl ns' hl perm _=>?_⟩
      have ln:=perm.length_eq
      have lp:(0:Int)<((ns.map V.int).length:Nat):=by rw [List.length_map];omega
      obtain ⟨v,hv,hat⟩:=ZgD (xs:=ns'.map V.int) (i:=x / 12 / 9%((ns.map V.int).length:Nat)) (Int.emod_nonneg _ (by omega)) (by have:=Int.emod_lt_of_pos (x / 12 / 9) lp;rw [List.length_map] at this |-;rw [List.length_map];omega)
      obtain ⟨n,hn,rfl⟩:=List.mem_map.mp hv
      exact ⟨⟨by decide,by decide⟩,(ns.map V.int).length,.inl ⟨_,SqL.of ((Same.upd hl) _ _ l6),rfl⟩,lp,l,_,_,_,rfl,rfl,SqL.of Zab,hat,⟨by decide,by decide⟩,_,rfl,λH7 t7 fs s7 o7 _=>⟨by decide,λp hp=>q _ p (.fin n t7 fs) (((s06.updR hl).trans s7).updR hp) ⟨Zab,o7.mono (λ_ _ e=>Same.upd hp _ _ e)⟩ (λ_ _ e=>nomatch e)⟩⟩
  refine ifn (by simpa using c3) ?_
  have w0:=Int.emod_nonneg x (show (12:Int)≠0 by decide)
  have w1:=Int.emod_lt_of_pos x (show (0:Int)<12 by decide)
  refine ⟨rfl,?_⟩
  by_cases c5:x%12=9
  ·refine ifp (decide_eq_true c5) ?_
   refine ⟨⟨by decide,by decide⟩,.inl ⟨by decide,by decide⟩,_,rfl,λH7 t7 fs s7 _ o7=>?_⟩
   obtain ⟨f,ys,h7,hf,hy⟩:=o7 (by omega)
   obtain ⟨zs,ez,hz⟩:=Zjz ys (some (x / 12 / 350%2)) none
   have ht7:=s7 _ _ ht2
   refine ixT h7 rfl (ixT ht7 rfl (ixT ht7 rfl ⟨⟨by decide,by decide⟩,by decide,f,_,rfl,SqT.of hf,λ_=>⟨by decide,λp hp=>?_⟩,λ_ p2 hp2=>⟨by decide,λp hp=>?_⟩⟩))
   ·exact q _ p (.note a b ys) ((s02.trans s7).updR hp) ⟨f,Zab,Same.upd hp _ _ hf,hy⟩ (λ_ _ e=>nomatch e)
   ·rw [ez] at hp |-
    exact q _ p (.note a b zs) (((s02.trans s7).updR hp2).updR hp) ⟨p2,Zab,Same.upd hp _ _ Zab,Nat.le_trans hz hy⟩ (λ_ _ e=>nomatch e)
  refine ifn (by simpa using c5) ?_
  refine ⟨by decide,λp hp=>?_⟩
  have s8:=s02.updR (o:=.lst [.str "off",.str "close"]) hp
  have ht8:=(Same.upd (o:=.lst [.str "off",.str "close"]) hp) _ _ ht2
  have l8:upd H2 p (.lst [.str "off",.str "close"]) p=some (.lst [.str "off",.str "close"]):=Zab
  generalize upd H2 p (.lst [.str "off",.str "close"])=H8 at s8 ht8 l8 |-
  by_cases c6:x%12=10
  ·rw [c6]
   exact ⟨p,_,_,_,rfl,rfl,SqL.of l8,rfl,ixT ht8 rfl (ixT ht8 rfl ⟨by decide,λp' hp'=>q _ p' (.off a b) (s8.updR hp') Zab (λ_ _ e=>nomatch e)⟩)⟩
  ·have c7:x%12=11:=by omega
   rw [c7]
   exact ⟨p,_,_,_,rfl,rfl,SqL.of l8,rfl,ixT ht8 rfl (ixT ht8 rfl ⟨by decide,λp' hp'=>q _ p' (.cls a b) (s8.updR hp') Zab (λ_ _ e=>nomatch e)⟩)⟩
theorem sc_l_due_end:FnScope ["_law_s", "_law_who", "_law_outcome_here", "_law_place_here"] ["_law_s", "_law_who", "_law_outcome_here"] (Zaj (top 24)):=⟨rfl,rfl,rfl,by decide +kernel,rfl,by decide +kernel,by decide +kernel⟩
theorem Zer (T:Tx K mg)
  (G_l_marks:FnOk P w K mg base CX0 2 T.d_l_marks.f T.d_l_marks.fd ["_law_s", "_law_place_here"] (ZeQ)):FnOk P w K mg base CX0 3 T.d_l_due_end.f T.d_l_due_end.fd ["_law_s", "_law_who", "_law_outcome_here"] (ZfA):=by
 refine T.d_l_due_end.F.ok sc_l_due_end (λvs H Q E h=>?_) (λcdv A outer s H vs Q E hr h=>?_)
 ·obtain ⟨L,S,t,fs,w,rfl,ot,B,ok,op,rm,q1,q2⟩:=h
  rfl
 ·have hu:=ZcQ hr
  have hu1:=Za8 hr
  refine ⟨_,(Zad (Zax (i:=3) sc_l_due_end.nd rfl (Or.inl rfl) (ZiY hu1 (Zak hu1 (pv 0) Zag (λ_ _=>rfl)) (pv 1) ⟨rfl,rfl,rfl,rfl⟩))
  (Zad (ZaK (PW.pt (Ze0 (ZbQ (Zgl hu1 (pv 3) (Zak hu1 (pv 0) Zag (λ_ _=>rfl)))) (Zc6 (Zar Ze3 (Zak hu1 (Zak hu1 (Zak hu1 (Zak hu1 (pv 0) Zag (λ_ _=>rfl)) (pv 3) (λ_ _=>rfl)) Zag (λ_ _=>rfl)) (pv 1) (λ_ _=>rfl)) ZbS (Zaw _)))))
  (Zah (Zao (Zap (Zaa Zag Zac))))
  Zas)
  (Zad (Za9 hu1 (Zak hu1 (Zak hu1 (Zak hu1 (pv 0) Zag (λ_ _=>rfl)) (pv 3) (λ_ _=>rfl)) Zag (λ_ _=>rfl)) (pv 1) (pv 2) rfl)
  (Zad (ZaK (Zar Zkz (Zav Zan (pv 2) Zaf (λ_ _=>rfl)) Zag (Zaw _))
  (Zah (Zao (Zap (Zaa Zag (Zaa (ZaL Zac) Zac)))))
  Zas)
  (Zad (Za9 hu1 (Zak hu1 (Zak hu1 (pv 0) Zag (λ_ _=>rfl)) (pv 3) (λ_ _=>rfl)) Zag (Zat Zbo (Zak hu1 (Zak hu1 (Zak hu1 (pv 0) Zag (λ_ _=>rfl)) (pv 3) (λ_ _=>rfl)) Zag (λ_ _=>rfl)) (Zav Zan (pv 2) Zaf (λ_ _=>rfl))) rfl)
  (Zah (Zao (Zap (Zaa Zag (Zaa (ZaF G_l_marks (hr.mono (by omega)) rfl T.d_l_marks.hm T.d_l_marks.F.kp T.d_l_marks.b .nil ZaV (Zaa (pv 0) (Zaa (pv 3) Zac))) Zac)))))))))),?_⟩
  obtain ⟨L,S,t,fs,w,rfl,ot,B,ok,op,rm,q1,q2⟩:=h
  walk_at "sy"
  refine ⟨_,B.gHome,_,rfl,.inl ⟨_,.inl B.hq⟩,?_⟩
  by_cases hw:∃ e∈S.es,e.who=w
  ·obtain ⟨e,he,rfl⟩:=hw
   refine ⟨_,B.gHm he,?_⟩
   have hh:=B.ht e he
   by_cases hp:e.pl∈S.os
   ·refine ⟨_,rfl,_,rfl,L.s,_,rfl,B.gOpen,_,_,rfl,.inl (B.gPl (p:=e.pl) hh hp),_,rfl,?_⟩
    refine ifn (by simp) ?_
    have hf:e∈S.es.filter λx=>decide (x.pl=e.pl):=List.mem_filter.mpr ⟨he,decide_eq_true rfl⟩
    have wf:e.who∈(S.es.filter λx=>decide (x.pl=e.pl)).map Ent.who:=List.mem_map.mpr ⟨e,hf,rfl⟩
    have gAe:DGet H (L.as e.pl) (.int e.who) (some (resV e.res)):=by
     rw [ZdJ (ok.who.sublist (List.filter_sublist.map _)) hf]
     exact DGet.k (k:=Sum.inl e.who) (B.da e.pl hp)
    refine ⟨_,B.gOpen,_,rfl,_,B.gPl (p:=e.pl) hh hp,_,rfl,_,B.gAll hp,_,rfl,_,gAe,?_⟩
    cases hd:e.res with
    |some t' =>
     refine ifp (by simp [resV]) ?_
     refine ⟨by decide,λp hpn=>q2 (λ⟨x,hx,z1,z2⟩=>?_) _ p (Same.upd hpn) Zab⟩
     rw [ZbI ok.who (ZaU hx).1 he z1] at z2
     unfold Ent.dead at z2
     rw [hd] at z2
     cases z2
    |none =>
     have hdd:e.dead=false:=by unfold Ent.dead;rw [hd];rfl
     refine ifn (by simp [resV]) ?_
     have lf:(S.es.filter λx=>decide (x.pl=e.pl)).length<=S.es.length:=List.length_filter_le _ _
     have lz:=ok.sz.2.1
     refine ⟨_,B.gOpen,_,rfl,_,B.gPl (p:=e.pl) hh hp,_,rfl,_,B.gAll hp,_,rfl,_,DPut.k (k:=Sum.inl e.who) (v:=.ref t) (B.da e.pl hp) (by rw [List.length_map];exact Zam (by omega)),?_⟩
     rw [Zhn wf]
     obtain ⟨ky,ry,ht,hpl,hty⟩:=ot
     obtain ⟨B2,st2⟩:=B.kill ok he hp ht (PlV.cons hpl)
     have ok2:OkS (Zbe S e.who t):=ok.kill e.who t
     have nr:¬ Ref S (.fin e.who t fs):=λz=>z ⟨e,List.mem_filter.mpr ⟨he,decide_eq_true hp⟩,rfl,hdd⟩
     have k2:∀ {c:Addr} {u:HO} (v:HO),H c=some u->(∀ k,u≠.dK k)->upd H (L.as e.pl) v c=some u:=λv h n=>by rw [Zae (Zaq h (B.da e.pl hp) (n _))];exact h
     have ht2:=k2 (.dK ((kill e.who t (S.es.filter λx=>decide (x.pl=e.pl))).map λx=>(Sum.inl x.who,resV x.res))) ht (λ_ z=>nomatch z)
     have hh2:=k2 (.dK ((kill e.who t (S.es.filter λx=>decide (x.pl=e.pl))).map λx=>(Sum.inl x.who,resV x.res))) hh (λ_ z=>nomatch z)
     have op2:=k2 (.dK ((kill e.who t (S.es.filter λx=>decide (x.pl=e.pl))).map λx=>(Sum.inl x.who,resV x.res))) op (λ_ z=>nomatch z)
     have tt2:∀ {c:Addr} {xs:List V},H c=some (.tup xs)->upd H (L.as e.pl) (.dK ((kill e.who t (S.es.filter λx=>decide (x.pl=e.pl))).map λx=>(Sum.inl x.who,resV x.res))) c=some (.tup xs):=λh=>k2 _ h (λ_ z=>nomatch z)
     have fr2:∀ {c:Addr},upd H (L.as e.pl) (.dK ((kill e.who t (S.es.filter λx=>decide (x.pl=e.pl))).map λx=>(Sum.inl x.who,resV x.res))) c=none->H c=none:=λz=>(ZaT z).2
     generalize upd H (L.as e.pl) (.dK ((kill e.who t (S.es.filter λx=>decide (x.pl=e.pl))).map λx=>(Sum.inl x.who,resV x.res)))=H2 at B2 st2 ht2 hh2 op2 tt2 fr2 |-
     refine ixT ht2 at_0 ⟨rfl,?_⟩
     rcases hty with ⟨rfl,ck⟩ | ⟨l,f,rfl,ck,rfl,hf,hy⟩
     ·refine ifp (by simp [ck]) ?_
      refine ⟨by decide,λp hpn=>⟨by decide,λp2 hp2=>?_⟩⟩
      have s3:=(Same.upd (o:=.lst []) hpn).updR (o:=.tup [.str "told",.ref p]) hp2
      exact q1 nr _ _ p2 _ (B2.same s3) (s3 _ _ op2) rfl (st2.trans (Stp.of s3)) Zab ⟨p,rfl,fr2 hpn,[],Same.upd hp2 _ _ Zab,rfl,λi p q z=>by simp at z⟩
     ·refine ifn (by simp [ck]) ?_
      obtain ⟨ft,h1,h2⟩:=B2.dd e.pl hp
      refine ⟨_,B2.gOpen,_,rfl,_,B2.gPl (p:=e.pl) hh2 hp,_,rfl,_,LAt.gFlt h1,ixT ht2 rfl (B2.catF ok2 op2 (p:=e.pl) hp hh2 h1 h2 (tt2 hf) hy λH3 B3 op3 st3 hh3 fr3=>?_)⟩
      refine ⟨L,fltS (Zbe S e.who t) e.pl l,L.hs e.who,e.pl,rfl,B3,ok2.flt hp hy rm.2.2.2,hh3,hp,λH4 r B4 st4 o4 hr4 mk4=>⟨by decide,λp hpn=>?_⟩⟩
      have s5:=Same.upd (o:=.tup [.str "told",.ref r]) hpn
      have hh:ZbH S e.who=e.pl:=Zd0 ok.who he
      have en:nxt S (.fin e.who t (some l))=offS (fltS (Zbe S e.who t) e.pl l) e.pl:=by
       show offS (fltS (Zbe S e.who t) (ZbH S e.who) l) (ZbH S e.who)=_
       rw [hh]
      have er:ret S (.fin e.who t (some l))=.mk (ZdW (Zbe S e.who t) e.pl):=by
       show Rv.mk (ZdW (Zbe S e.who t) (ZbH S e.who))=_
       rw [hh]
      rw [en,er] at q1
      exact q1 nr _ _ p _ (B4.same s5) (s5 _ _ (o4 op3)) rfl (st2.trans (st3.trans (st4.trans (Stp.of s5)))) Zab ⟨r,rfl,fr2 (fr3 _ hr4),mk4.same s5⟩
   ·refine ⟨_,rfl,_,rfl,L.s,_,rfl,B.gOpen,_,_,rfl,.inl (B.gPlN (p:=e.pl) hh hp),_,rfl,?_⟩
    refine ifp (by simp) ?_
    refine ⟨by decide,λp hpn=>q2 (λ⟨x,hx,z1,z2⟩=>?_) _ p (Same.upd hpn) Zab⟩
    rw [ZbI ok.who (ZaU hx).1 he z1] at hx
    exact hp (ZaU hx).2
  ·have nw:w∉S.es.map Ent.who:=λz=>by
    obtain ⟨e,he,rfl⟩:=List.mem_map.mp z
    exact hw ⟨e,he,rfl⟩
   have gN:DGet H L.hm (.int w) none:=by
    rw [<- ZbC Zbf (f:=λw=>.ref (L.hs w)) nw,<- ZaH (f:=λw=>.ref (L.hs w))]
    exact DGet.k (k:=Sum.inl w) B.hq
   refine ⟨_,gN,_,rfl,_,rfl,L.s,_,rfl,B.gOpen,_,none,rfl,.inr ⟨rfl,⟨_,B.oq⟩,rfl⟩,_,rfl,?_⟩
   refine ifp (by rfl) ?_
   exact ⟨by decide,λp hpn=>q2 (λ⟨x,hx,z1,z2⟩=>hw ⟨x,(ZaU hx).1,z1⟩) _ p (Same.upd hpn) Zab⟩
theorem sc_l_due:FnScope ["_law_s", "_law_deed_here", "_law_place_here"] ["_law_s", "_law_deed_here"] (Zaj (top 23)):=⟨rfl,rfl,rfl,by decide +kernel,rfl,by decide +kernel,by decide +kernel⟩
theorem Zi1 (T:Tx K mg)
  (G_l_due_end:FnOk P w K mg base CX0 3 T.d_l_due_end.f T.d_l_due_end.fd ["_law_s", "_law_who", "_law_outcome_here"] (ZfA))
  (G_l_alive:FnOk P w K mg base CX0 1 T.d_l_alive.f T.d_l_alive.fd ["_law_s", "_law_place_here"] (Zb9))
  (G_l_marks:FnOk P w K mg base CX0 2 T.d_l_marks.f T.d_l_marks.fd ["_law_s", "_law_place_here"] (ZeQ)):FnOk P w K mg base CX0 4 T.d_l_due.f T.d_l_due.fd ["_law_s", "_law_deed_here"] (Zkf):=by
 refine T.d_l_due.F.ok sc_l_due (λvs H Q E h=>?_) (λcdv A outer s H vs Q E hr h=>?_)
 ·obtain ⟨L,S,t,D,rfl,dd,B,ok,op,rm,q⟩:=h
  rfl
 ·have hu:=ZcQ hr
  have hu1:=Za8 hr
  refine ⟨_,(Zad (Zax (i:=2) sc_l_due.nd rfl (Or.inl rfl) (Zbn Zha (pv 1) (Zbs Zaf) (Zbs Zaf)))
  (Zad (ZaK (Zar Zbd (Zav Zan (pv 1) Zaf (λ_ _=>rfl)) Zag (Zaw _))
  (Zad (ZaK (Zar (Zlu hu) (pv 2) (Zak hu1 (pv 0) Zag (λ_ _=>rfl)) (by with_unfolding_all rfl))
  (Zah (Zao (Zap (Zaa Zag Zac))))
  Zas)
  (Zad (ZaW (ZcB PySem.F.plainAttrs_list PySem.F.slot_list_append PySem.F.type_list_append ZaS (Zak hu1 (pv 0) Zag (λ_ _=>rfl)) (Zaa (pv 2) Zac)))
  (Zad (Za9 hu1 (Zak hu1 (pv 0) Zag (λ_ _=>rfl)) (pv 2) (Zhu (Zbl Zag Zce (Zbl Zag Zc8 (Zbl Zag (Zap Zac) Zhp))) rfl rfl (by simp) (by decide)) rfl)
  (Zah (Zao (Zap (Zaa Zag (Zaa ZbS Zac))))))))
  Zas)
  (Zad (ZaK (Zar Zbd (Zav Zan (pv 1) Zaf (λ_ _=>rfl)) Zag (Zaw _))
  (Zah (Zao (ZaF G_l_due_end (hr.mono (by omega)) rfl T.d_l_due_end.hm T.d_l_due_end.F.kp T.d_l_due_end.b .nil ZaV (Zaa (pv 0) (Zaa (Zav Zan (pv 1) Zaf (λ_ _=>rfl)) (Zaa (Zav Zan (pv 1) Zaf (λ_ _=>rfl)) Zac))))))
  Zas)
  (Zad (ZaK (ZbQ (Zcf hu1 (pv 2) (Zak hu1 (pv 0) Zag (λ_ _=>rfl))))
  (Zah (Zao (Zap (Zaa Zag Zac))))
  Zas)
  (Zad (ZaK (Zar Zbd (Zav Zan (pv 1) Zaf (λ_ _=>rfl)) Zag (Zaw _))
  (Zad (ZaK (PW.pt (Ze0 (ZbQ (Zeo hu1 (Zav Zan (pv 1) Zaf (λ_ _=>rfl)) (Zak hu1 (pv 0) Zag (λ_ _=>rfl)))) (Zc6 (Zar Zlt (Zav Zan (pv 1) Zaf (λ_ _=>rfl)) (Zav Zan (pv 1) Zaf (λ_ _=>rfl)) (Zaw _)))))
  (Zah (Zao (Zap (Zaa Zag Zac))))
  Zas)
  (Zad (Za9 hu1 (Zak hu1 (Zak hu1 (Zak hu1 (pv 0) Zag (λ_ _=>rfl)) (pv 2) (λ_ _=>rfl)) Zag (λ_ _=>rfl)) (Zav Zan (pv 1) Zaf (λ_ _=>rfl)) ZbS rfl)
  (Zad (Za9 hu1 (Zak hu1 (pv 0) Zag (λ_ _=>rfl)) (Zav Zan (pv 1) Zaf (λ_ _=>rfl)) (pv 2) rfl)
  (Zad (ZaW (ZcB PySem.F.plainAttrs_list PySem.F.slot_list_append PySem.F.type_list_append ZaS (Zak hu1 (pv 0) Zag (λ_ _=>rfl)) (Zaa (Zap (Zaa (Zav Zan (pv 1) Zaf (λ_ _=>rfl)) (Zaa (Zav Zan (pv 1) Zaf (λ_ _=>rfl)) (Zaa (Zav Zan (pv 1) Zaf (λ_ _=>rfl)) Zac)))) Zac)))
  (Zad (Za9 hu1 (pv 0) Zag (ZaD (Zim rfl) (by rfl) T.n_max Zl0 (Zaa (Zak hu1 (pv 0) Zag (λ_ _=>rfl)) (Zaa (Zav Zan (pv 1) Zaf (λ_ _=>rfl)) Zac))) rfl)
  (Zah (Zao (Zap (Zaa Zag (Zaa (Zak hu1 (Zak hu1 (Zak hu1 (pv 0) Zag (λ_ _=>rfl)) (pv 2) (λ_ _=>rfl)) Zag (λ_ _=>rfl)) Zac))))))))))
  Zas)
  (Zad (ZaK (Zar Zbd (Zav Zan (pv 1) Zaf (λ_ _=>rfl)) Zag (Zaw _))
  (Zad (ZaK (Zar (Zhw hu) (ZaF G_l_alive (hr.mono (by omega)) rfl T.d_l_alive.hm T.d_l_alive.F.kp T.d_l_alive.b .nil ZaV (Zaa (pv 0) (Zaa (pv 2) Zac))) (ZaL Zac) (Zaw _))
  (Zah (Zao (Zap (Zaa Zag Zac))))
  Zas)
  (Zad (ZaW (ZfS hu1 (Zak hu1 (pv 0) Zag (λ_ _=>rfl)) (pv 2) ⟨rfl,rfl,rfl,rfl⟩))
  (Zah (Zao (Zap (Zaa Zag (Zaa ZbS Zac)))))))
  Zas)
  (Zad (ZaK (Zar Zbd (Zav Zan (pv 1) Zaf (λ_ _=>rfl)) Zag (Zaw _))
  (Zah (Za9 hu1 (Zak hu1 (Zak hu1 (pv 0) Zag (λ_ _=>rfl)) (pv 2) (λ_ _=>rfl)) Zag (Zat Zbo (Zak hu1 (Zak hu1 (Zak hu1 (pv 0) Zag (λ_ _=>rfl)) (pv 2) (λ_ _=>rfl)) Zag (λ_ _=>rfl)) (Zav Zan (pv 1) Zaf (λ_ _=>rfl))) rfl))
  Zas)
  (Zah (Zao (Zap (Zaa Zag (Zaa (ZaF G_l_marks (hr.mono (by omega)) rfl T.d_l_marks.hm T.d_l_marks.F.kp T.d_l_marks.b .nil ZaV (Zaa (pv 0) (Zaa (pv 2) Zac))) Zac)))))))))))),?_⟩
  obtain ⟨L,S,t,D,rfl,dd,B,ok,op,rm,q⟩:=h
  walk_at "sy"
  cases D with
  |opn a b =>
   refine slT dd λtp htp=>?_
   have s1:Same H (upd H tp (.tup [.int a,.int b])):=Same.upd htp
   have ht1:upd H tp (.tup [.int a,.int b]) tp=some (.tup [.int a,.int b]):=Zab
   generalize upd H tp (.tup [.int a,.int b])=H1 at s1 ht1 |-
   have B1:=B.same s1
   have op1:OpD H1 L S:=s1 _ _ op
   obtain ⟨q1,q2⟩:=q.of s1
   have dd1:=dd.mono λ_ _ e=>s1 _ _ e
   clear q dd op B htp
   refine hitT dd1 ⟨_,B1.gEver,B1.inEv ht1 ⟨_,rfl,?_⟩⟩
   by_cases he:(a,b)∈S.ev
   ·refine ifp (decide_eq_true he) ?_
    exact ⟨by decide,λp hp=>q2 he _ p (Same.upd hp) Zab⟩
   refine ifn (by simpa using he) ?_
   obtain ⟨ps,e1,e2,e3⟩:=B1.eq
   have lz:=ok.sz.1
   refine ⟨_,B1.gEver,.inl ⟨_,SqL.of e1⟩,L.ev,_,_,rfl,rfl,e1,by rw [List.length_map];exact Zam (by omega),?_⟩
   have kp2:But2 L.ev L.op H1 (upd H1 L.ev (.lst (ps.map V.ref++[.ref tp]))):=But2.l
   have l2:upd H1 L.ev (.lst (ps.map V.ref++[.ref tp])) L.ev=some (.lst ((ps++[tp]).map V.ref)):=by rw [Zab,List.map_append];rfl
   have n2:∀ {c:Addr},upd H1 L.ev (.lst (ps.map V.ref++[.ref tp])) c=none->H1 c=none:=λh=>(ZaT h).2
   have h2op:∀ {u:HO},H1 L.op=some u->upd H1 L.ev (.lst (ps.map V.ref++[.ref tp])) L.op=some u:=λe=>by rw [Zae (Zaq op1 e1 (λz=>nomatch z))];exact e
   generalize upd H1 L.ev (.lst (ps.map V.ref++[.ref tp]))=H2 at kp2 l2 n2 h2op |-
   intro d hd
   simp only [Zeb,tC,Zed,tTup,tNil]
   intro al hal
   have fal:=(ZaT hal).2
   refine ⟨by decide,λft hft=>?_⟩
   have nda:d≠al:=Ne.symm (ZaT hal).1
   have ndf:d≠ft:=Zai (by rw [Zae nda];exact Zab) hft
   have naf:al≠ft:=Zai Zab hft
   refine ⟨by rw [Zae ndf,Zae nda];exact Zab,dKv al false ft,rfl,(by show 3<=15;decide),?_⟩
   rw [Zig]
   have s3:Same H2 (upd (upd (upd (upd H2 d (.dK [])) al (.dK [])) ft (.tup [])) d (.dK (dKv al false ft))):=λc u e=>by
    have hd':c≠d:=Zai e hd
    rw [Zae hd']
    exact (((Same.upd hd).updR hal).updR hft) c u e
   have d3:upd (upd (upd (upd H2 d (.dK [])) al (.dK [])) ft (.tup [])) d (.dK (dKv al false ft)) d=some (.dK (dKv al false ft)):=Zab
   have a3:upd (upd (upd (upd H2 d (.dK [])) al (.dK [])) ft (.tup [])) d (.dK (dKv al false ft)) al=some (.dK []):=by rw [Zae (Ne.symm nda),Zae naf];exact Zab
   have f3:upd (upd (upd (upd H2 d (.dK [])) al (.dK [])) ft (.tup [])) d (.dK (dKv al false ft)) ft=some (.tup []):=by rw [Zae (Ne.symm ndf)];exact Zab
   generalize upd (upd (upd (upd H2 d (.dK [])) al (.dK [])) ft (.tup [])) d (.dK (dKv al false ft))=H3 at s3 d3 a3 f3 |-
   have k13:∀ {c:Addr} {u:HO},c≠L.ev->H1 c=some u->c≠L.op->H3 c=some u:=λn e n'=>s3 _ _ (kp2 _ _ n n' e)
   obtain ⟨mn,m0,hs⟩:=B1.sd
   have neo:L.ev≠L.op:=Zaq e1 op1 (λz=>nomatch z)
   have op3:H3 L.op=some (.dT (S.os.map λp=>(keyP p,.ref (L.ds p)))):=s3 _ _ (h2op op1)
   have hs3:H3 L.s=some (.dK (sKv L.op L.ev L.hm L.od mn)):=k13 (Zaq hs e1 (λz=>nomatch z)) hs (Zaq hs op1 (λz=>nomatch z))
   have t3:H3 tp=some (.tup [.int a,.int b]):=k13 (Zaq ht1 e1 (λz=>nomatch z)) ht1 (Zaq ht1 op1 (λz=>nomatch z))
   have no:(a,b)∉S.os:=λz=>he (ok.sub _ z)
   have lo:=ok.sz.2.2
   refine ⟨_,Zhb hs3,_,rfl,_,DPut.t (k:=keyP (a,b)) (v:=.ref d) op3 t3 (by rw [List.length_map];exact Zam (by omega)),by decide,λp hp=>?_⟩
   rw [ZbL Za0 (f:=λp=>.ref (L.ds p)) no] at hp |-
   have nt:∀ {c:Addr} {u:HO} (v:HO),H3 c=some u->(∀ k,u≠.dT k)->upd H3 L.op v c=some u:=λv h n=>by rw [Zae (Zaq h op3 (n _))];exact h
   obtain ⟨C1,C2,C3⟩:=B1.open (H':=upd H3 L.op (.dT ((S.os.map λp=>(keyP p,.ref (L.ds p)))++[(keyP (a,b),.ref d)]))) ok he op1 (But2.trans kp2 (But2.trans (But2.of s3) But2.r)) e1 (nt _ (s3 _ _ l2) (λ_ z=>nomatch z)) (nt _ t3 (λ_ z=>nomatch z)) Zab (nt _ d3 (λ_ z=>nomatch z)) (nt _ a3 (λ_ z=>nomatch z)) (nt _ f3 (λ_ z=>nomatch z)) (n2 hd) (n2 fal)
   have s4:=Same.upd (o:=.tup [.str "told",.non]) hp
   exact q1 he _ _ p _ (C1.same s4) (s4 _ _ C2) rfl (C3.trans (Stp.of s4)) Zab rfl
  |fin w o fs =>
   obtain ⟨ho,hk⟩:=dd
   refine slT ho λtp htp=>?_
   have s1:Same H (upd H tp (.tup [.int w,.ref o])):=Same.upd htp
   have ht1:upd H tp (.tup [.int w,.ref o]) tp=some (.tup [.int w,.ref o]):=Zab
   generalize upd H tp (.tup [.int w,.ref o])=H1 at s1 ht1 |-
   have B1:=B.same s1
   have op1:OpD H1 L S:=s1 _ _ op
   have d1:=s1 _ _ ho
   exact ZaM (by decide +kernel) d1 (hitT d1 (ixT d1 rfl (ixT d1 rfl ⟨L,S,o,fs,w,rfl,hk.mono λ_ _ e=>s1 _ _ e,B1,ok,op1,rm,q.of s1⟩)))
  |put a b l w =>
   refine slT dd λtp htp=>?_
   have s1:Same H (upd H tp (.tup [.int a,.int b])):=Same.upd htp
   have ht1:upd H tp (.tup [.int a,.int b]) tp=some (.tup [.int a,.int b]):=Zab
   generalize upd H tp (.tup [.int a,.int b])=H1 at s1 ht1 |-
   have B1:=B.same s1
   have op1:OpD H1 L S:=s1 _ _ op
   have d1:=s1 _ _ dd
   obtain ⟨q1,q2⟩:=q.of s1
   refine ZaM (by decide +kernel) d1 (ZaM (by decide +kernel) d1 ⟨_,B1.gOpen,_,rfl,?_⟩)
   by_cases hp:(a,b)∈S.os
   ·refine ⟨_,B1.gPl (p:=(a,b)) ht1 hp,?_⟩
    refine ifn (by simp) ?_
    refine hitT d1 (ixT d1 rfl ⟨_,B1.gHome,_,rfl,?_⟩)
    by_cases hw:w∈S.es.map Ent.who
    ·have g:DGet H1 L.hm (.int w) (some (.ref (L.hs w))):=by
      rw [<- ZaY Zbf (f:=λw=>.ref (L.hs w)) hw,<- ZaH (f:=λw=>.ref (L.hs w))]
      exact DGet.k (k:=Sum.inl w) B1.hq
     refine ⟨_,g,?_⟩
     refine ifp (by rfl) ?_
     exact ⟨by decide,λp hpn=>q2 (.inr (.inl hw)) _ p (Same.upd hpn) Zab⟩
    ·have g:DGet H1 L.hm (.int w) none:=by
      rw [<- ZbC Zbf (f:=λw=>.ref (L.hs w)) hw,<- ZaH (f:=λw=>.ref (L.hs w))]
      exact DGet.k (k:=Sum.inl w) B1.hq
     refine ⟨_,g,?_⟩
     refine ifn (by simp) ?_
     refine ixT d1 rfl (ixT d1 rfl ⟨w,rfl,a,rfl,?_⟩)
     by_cases ha:w<=a
     ·refine ifp (decide_eq_true ha) ?_
      exact ⟨by decide,λp hpn=>q2 (.inr (.inr ha)) _ p (Same.upd hpn) Zab⟩
     refine ifn (by simpa using ha) ?_
     have nr:¬ Ref S (.put a b l w):=λz=>z.elim (λz=>z hp) λz=>z.elim hw ha
     have lf:(S.es.filter λe=>decide (e.pl=(a,b))).length<=S.es.length:=List.length_filter_le _ _
     have lz:=ok.sz.2.1
     have nwf:w∉(S.es.filter λe=>decide (e.pl=(a,b))).map Ent.who:=λz=>by
      obtain ⟨e,he,rfl⟩:=List.mem_map.mp z
      exact hw (List.mem_map.mpr ⟨e,(List.mem_filter.mp he).1,rfl⟩)
     have ea:putK ((S.es.filter λe=>decide (e.pl=(a,b))).map λe=>((Sum.inl e.who:Key),resV e.res)) (Sum.inl w) .non=((S.es.filter λe=>decide (e.pl=(a,b))).map λe=>(Sum.inl e.who,resV e.res))++[(Sum.inl w,.non)]:=ZfN nwf
     have eh:putK (S.es.map λe=>((Sum.inl e.who:Key),V.ref (L.hs e.who))) (Sum.inl w) (.ref tp)=(S.es.map λe=>(Sum.inl e.who,V.ref (L.hs e.who)))++[(Sum.inl w,.ref tp)]:=by
      rw [ZaH (f:=λw=>.ref (L.hs w))];exact ZbL Zbf (f:=λw=>.ref (L.hs w)) hw
     obtain ⟨mn,m0,hs⟩:=B1.sd
     obtain ⟨qs,o1,o2,o3⟩:=B1.dq
     have da:=B1.da (a,b) hp
     refine ⟨_,B1.gOpen,_,rfl,_,B1.gPl (p:=(a,b)) ht1 hp,_,rfl,_,B1.gAll hp,ixT d1 rfl ⟨_,rfl,_,DPut.k (k:=Sum.inl w) (v:=.non) da (by rw [List.length_map];exact Zam (by omega)),?_⟩⟩
     rw [ea]
     have k2:∀ c u,c≠L.as (a,b)->H1 c=some u->upd H1 (L.as (a,b)) (.dK (((S.es.filter λe=>decide (e.pl=(a,b))).map λe=>(Sum.inl e.who,resV e.res))++[(Sum.inl w,.non)])) c=some u:=λc u n e=>by rw [Zae n];exact e
     have a2:upd H1 (L.as (a,b)) (.dK (((S.es.filter λe=>decide (e.pl=(a,b))).map λe=>(Sum.inl e.who,resV e.res))++[(Sum.inl w,.non)])) (L.as (a,b))=some (.dK (((S.es.filter λe=>decide (e.pl=(a,b))).map λe=>(Sum.inl e.who,resV e.res))++[(Sum.inl w,.non)])):=Zab
     generalize upd H1 (L.as (a,b)) (.dK (((S.es.filter λe=>decide (e.pl=(a,b))).map λe=>(Sum.inl e.who,resV e.res))++[(Sum.inl w,.non)]))=H2 at k2 a2 |-
     have nsa:L.s≠L.as (a,b):=Zaq hs da (λz=>by injection z with z;exact Zej z)
     have nsh:L.s≠L.hm:=Zaq hs B1.hq (λz=>by injection z with z;exact Zej z)
     have nah:=B1.ah (a,b) hp
     have hs2:=k2 _ _ nsa hs
     have hm2:=k2 _ _ (Ne.symm nah) B1.hq
     have d2:=k2 _ _ (Zaq d1 da (λz=>nomatch z)) d1
     refine ⟨_,Zhc hs2,ixT d2 rfl ⟨_,rfl,_,DPut.k (k:=Sum.inl w) (v:=.ref tp) hm2 (by rw [List.length_map];exact Zam (by omega)),?_⟩⟩
     rw [eh]
     have k3:∀ c u,c≠L.hm->H2 c=some u->upd H2 L.hm (.dK ((S.es.map λe=>(Sum.inl e.who,V.ref (L.hs e.who)))++[(Sum.inl w,.ref tp)])) c=some u:=λc u n e=>by rw [Zae n];exact e
     have h3:upd H2 L.hm (.dK ((S.es.map λe=>(Sum.inl e.who,V.ref (L.hs e.who)))++[(Sum.inl w,.ref tp)])) L.hm=some (.dK ((S.es.map λe=>(Sum.inl e.who,V.ref (L.hs e.who)))++[(Sum.inl w,.ref tp)])):=Zab
     generalize upd H2 L.hm (.dK ((S.es.map λe=>(Sum.inl e.who,V.ref (L.hs e.who)))++[(Sum.inl w,.ref tp)]))=H3 at k3 h3 |-
     have hs3:=k3 _ _ nsh hs2
     have d3:=k3 _ _ (Zaq d1 B1.hq (λz=>nomatch z)) d2
     have o3':H3 L.od=some (.lst (qs.map V.ref)):=k3 _ _ (Zaq o1 B1.hq (λz=>nomatch z)) (k2 _ _ (Zaq o1 da (λz=>nomatch z)) o1)
     refine ⟨_,ZiN hs3,.inl ⟨_,SqL.of o3'⟩,ixT d3 rfl (ixT d3 rfl (ixT d3 rfl ⟨by decide,λq hq=>⟨L.od,_,_,rfl,rfl,Same.upd hq _ _ o3',by rw [List.length_map];exact Zam (by omega),?_⟩⟩))⟩
     have k5:∀ c u,c≠L.od->H3 c=some u->upd (upd H3 q (.tup [.int a,.str l,.int w])) L.od (.lst (qs.map V.ref++[.ref q])) c=some u:=λc u n e=>by rw [Zae n];exact Same.upd hq _ _ e
     have o5:upd (upd H3 q (.tup [.int a,.str l,.int w])) L.od (.lst (qs.map V.ref++[.ref q])) L.od=some (.lst ((qs++[q]).map V.ref)):=by rw [Zab,List.map_append];rfl
     have q5:upd (upd H3 q (.tup [.int a,.str l,.int w])) L.od (.lst (qs.map V.ref++[.ref q])) q=some (.tup [.int a,.str l,.int w]):=by rw [Zae (Ne.symm (Zai o3' hq))];exact Zab
     generalize upd (upd H3 q (.tup [.int a,.str l,.int w])) L.od (.lst (qs.map V.ref++[.ref q]))=H5 at k5 o5 q5 |-
     have hs5:=k5 _ _ (Zaq hs o1 (λz=>nomatch z)) hs3
     have d5:=k5 _ _ (Zaq d1 o1 (λz=>nomatch z)) d3
     refine ⟨_,Zkh hs5,ixT d5 rfl ⟨mn,rfl,w,rfl,_,DPut.k (k:=Sum.inr "many") (v:=.int (if w > mn then w else mn)) hs5 (by show 5<sizeLine;decide),?_⟩⟩
     rw [ZiQ]
     have k6:∀ c u,c≠L.s->H5 c=some u->upd H5 L.s (.dK (sKv L.op L.ev L.hm L.od (if w > mn then w else mn))) c=some u:=λc u n e=>by rw [Zae n];exact e
     have s6:upd H5 L.s (.dK (sKv L.op L.ev L.hm L.od (if w > mn then w else mn))) L.s=some (.dK (sKv L.op L.ev L.hm L.od (if w > mn then w else mn))):=Zab
     generalize upd H5 L.s (.dK (sKv L.op L.ev L.hm L.od (if w > mn then w else mn)))=H6 at k6 s6 |-
     have kp:∀ c u,c≠L.as (a,b)->c≠L.hm->c≠L.od->c≠L.s->H1 c=some u->H6 c=some u:=λc u n1 n2 n3 n4 e=>k6 _ _ n4 (k5 _ _ n3 (k3 _ _ n2 (k2 _ _ n1 e)))
     have nao:L.as (a,b)≠L.od:=Zaq da o1 (λz=>nomatch z)
     have nho:L.hm≠L.od:=Zaq B1.hq o1 (λz=>nomatch z)
     have t6:=kp _ _ (Zaq ht1 da (λz=>nomatch z)) (Zaq ht1 B1.hq (λz=>nomatch z)) (Zaq ht1 o1 (λz=>nomatch z)) (Zaq ht1 hs (λz=>nomatch z)) ht1
     have op6:=kp _ _ (Zaq op1 da (λz=>nomatch z)) (Zaq op1 B1.hq (λz=>nomatch z)) (Zaq op1 o1 (λz=>nomatch z)) (Zaq op1 hs (λz=>nomatch z)) op1
     obtain ⟨C,st⟩:=B1.put (H':=H6) (l:=l) (t:=tp) (q:=q) (mn:=if w > mn then w else mn) hp hw kp (k6 _ _ (Ne.symm nsa) (k5 _ _ nao (k3 _ _ nah a2))) (k6 _ _ (Ne.symm nsh) (k5 _ _ nho h3)) t6 o1 (k6 _ _ (Zaq o1 hs (λz=>nomatch z)) o5) (k6 _ _ (Zaq q5 hs5 (λz=>nomatch z)) q5) (by have mp:mnS (putS S ⟨w,a,b,l,none⟩)=max (mnS S) w:=ZjV _;split<;>omega) s6
     obtain ⟨ft,c1,c2⟩:=C.dd (a,b) hp
     refine ⟨_,C.gOpen,_,rfl,_,C.gPl (p:=(a,b)) t6 hp,_,rfl,_,LAt.gOff c1,by decide,λp hpn=>?_⟩
     have s7:=Same.upd (o:=.tup [.str "told",.bl (S.of (a,b))]) hpn
     exact q1 nr _ _ p _ (C.same s7) (s7 _ _ op6) rfl (st.trans (Stp.of s7)) Zab rfl
   ·refine ⟨_,B1.gPlN (p:=(a,b)) ht1 hp,?_⟩
    refine ifp (by rfl) ?_
    exact ⟨by decide,λp hpn=>q2 (.inl hp) _ p (Same.upd hpn) Zab⟩
  |note a b ys =>
   obtain ⟨f,h0,hf,hy⟩:=dd
   refine slT h0 λtp htp=>?_
   have s1:Same H (upd H tp (.tup [.int a,.int b])):=Same.upd htp
   have ht1:upd H tp (.tup [.int a,.int b]) tp=some (.tup [.int a,.int b]):=Zab
   generalize upd H tp (.tup [.int a,.int b])=H1 at s1 ht1 |-
   have B1:=B.same s1
   have op1:OpD H1 L S:=s1 _ _ op
   have d1:=s1 _ _ h0
   have f1:=s1 _ _ hf
   obtain ⟨q1,q2⟩:=q.of s1
   refine ZaM (by decide +kernel) d1 (ZaM (by decide +kernel) d1 ⟨_,B1.gOpen,_,rfl,?_⟩)
   by_cases hp:(a,b)∈S.os
   ·refine ⟨_,B1.gPl (p:=(a,b)) ht1 hp,?_⟩
    refine ifn (by simp) ?_
    refine ZaM (by decide +kernel) d1 (ZaM (by decide +kernel) d1 (hitT d1 ?_))
    obtain ⟨ft,h1,h2⟩:=B1.dd (a,b) hp
    refine ⟨_,B1.gOpen,_,rfl,_,B1.gPl (p:=(a,b)) ht1 hp,_,rfl,_,LAt.gFlt h1,ixT d1 rfl (B1.catF ok op1 (p:=(a,b)) hp ht1 h1 h2 f1 hy λH3 B3 op3 st3 hh3 fr3=>?_)⟩
    refine ⟨L,fltS S (a,b) ys,tp,(a,b),rfl,B3,ok.flt hp hy rm.2.2.2,hh3,hp,λH4 r B4 st4 o4 hr4 mk4=>⟨by decide,λp hpn=>?_⟩⟩
    have s5:=Same.upd (o:=.tup [.str "told",.ref r]) hpn
    exact q1 (λz=>z hp) _ _ p _ (B4.same s5) (s5 _ _ (o4 op3)) rfl (st3.trans (st4.trans (Stp.of s5))) Zab ⟨r,rfl,fr3 _ hr4,mk4.same s5⟩
   ·refine ⟨_,B1.gPlN (p:=(a,b)) ht1 hp,?_⟩
    refine ifp (by rfl) ?_
    exact ⟨by decide,λp hpn=>q2 hp _ p (Same.upd hpn) Zab⟩
  |off a b =>
   refine slT dd λtp htp=>?_
   have s1:Same H (upd H tp (.tup [.int a,.int b])):=Same.upd htp
   have ht1:upd H tp (.tup [.int a,.int b]) tp=some (.tup [.int a,.int b]):=Zab
   generalize upd H tp (.tup [.int a,.int b])=H1 at s1 ht1 |-
   have B1:=B.same s1
   have op1:OpD H1 L S:=s1 _ _ op
   have d1:=s1 _ _ dd
   obtain ⟨q1,q2⟩:=q.of s1
   refine ZaM (by decide +kernel) d1 (ZaM (by decide +kernel) d1 ⟨_,B1.gOpen,_,rfl,?_⟩)
   by_cases hp:(a,b)∈S.os
   ·refine ⟨_,B1.gPl (p:=(a,b)) ht1 hp,?_⟩
    refine ifn (by simp) ?_
    refine ZaM (by decide +kernel) d1 (ZaM (by decide +kernel) d1 (ZaM (by decide +kernel) d1 ?_))
    refine ⟨L,S,tp,(a,b),rfl,B1,ok,ht1,hp,λH4 r B4 st4 o4 hr4 mk4=>⟨by decide,λp hpn=>?_⟩⟩
    have s5:=Same.upd (o:=.tup [.str "told",.ref r]) hpn
    exact q1 (λz=>z hp) _ _ p _ (B4.same s5) (s5 _ _ (o4 op1)) rfl (st4.trans (Stp.of s5)) Zab ⟨r,rfl,hr4,mk4.same s5⟩
   ·refine ⟨_,B1.gPlN (p:=(a,b)) ht1 hp,?_⟩
    refine ifp (by rfl) ?_
    exact ⟨by decide,λp hpn=>q2 hp _ p (Same.upd hpn) Zab⟩
  |cls a b =>
   refine slT dd λtp htp=>?_
   have s1:Same H (upd H tp (.tup [.int a,.int b])):=Same.upd htp
   have ht1:upd H tp (.tup [.int a,.int b]) tp=some (.tup [.int a,.int b]):=Zab
   generalize upd H tp (.tup [.int a,.int b])=H1 at s1 ht1 |-
   have B1:=B.same s1
   have op1:OpD H1 L S:=s1 _ _ op
   have d1:=s1 _ _ dd
   obtain ⟨q1,q2⟩:=q.of s1
   refine ZaM (by decide +kernel) d1 (ZaM (by decide +kernel) d1 ⟨_,B1.gOpen,_,rfl,?_⟩)
   by_cases hp:(a,b)∈S.os
   ·refine ⟨_,B1.gPl (p:=(a,b)) ht1 hp,?_⟩
    refine ifn (by simp) ?_
    refine ZaM (by decide +kernel) d1 (hitT d1 ?_)
    refine ⟨L,S,tp,(a,b),rfl,B1,ok,ht1,hp,λH2 r s2 _ hr2=>⟨by decide,λp hpn=>?_⟩⟩
    have s3:Same H2 (upd H2 p (.lst [])):=Same.upd hpn
    have l3:upd H2 p (.lst []) p=some (.lst []):=Zab
    generalize upd H2 p (.lst [])=H3 at s3 l3 |-
    have s13:=s2.trans s3
    have B3:=B1.same s13
    have op3:OpD H3 L S:=s13 _ _ op1
    have ln:(Zaz S (a,b)).length=(ZaJ S (a,b)).length:=by unfold Zaz;rw [ZbT,List.length_map]
    generalize Zaz S (a,b)=ns at hr2 ln
    refine ⟨r,p,_,_,0,λ_=>false,rfl,rfl,SqL.of (s3 _ _ hr2),SqL.of l3,by decide,λi x y _ ey=>by simp at ey,_,rfl,?_⟩
    by_cases e0:ns=[]
    ·have al:ZaJ S (a,b)=[]:=List.length_eq_zero_iff.mp (by rw [<- ln,e0];rfl)
     refine ifn (by rw [e0];decide) ?_
     refine ⟨_,B3.gOpen,_,rfl,.inr ⟨_,.inl op3⟩,_,op3,keyP (a,b),tp,rfl,s13 _ _ ht1,_,ZaY Za0 (f:=λp=>.ref (L.ds p)) hp,by decide,λp2 hp2=>?_⟩
     rw [ZeC Za0 (f:=λp=>.ref (L.ds p))] at hp2 |-
     obtain ⟨C1,C2,C3⟩:=B3.close (p:=(a,b)) op3
     have s4:=Same.upd (o:=.tup [.str "told",.non]) hp2
     exact q1 (λz=>z.elim (λz=>z hp) λz=>z al) _ _ p2 _ (C1.same s4) (s4 _ _ C2) rfl ((Stp.of s13).trans (C3.trans (Stp.of s4))) Zab rfl
    ·have nl:ns.length≠0:=λz=>e0 (List.length_eq_zero_iff.mp z)
     refine ifp (by rw [List.length_map,decide_eq_false (show ¬ ns.length=([]:List V).length from nl)];rfl) ?_
     exact ⟨by decide,λp2 hp2=>q2 (.inr λz=>nl (by rw [ln,z];rfl)) _ p2 (s13.updR hp2) Zab⟩
   ·refine ⟨_,B1.gPlN (p:=(a,b)) ht1 hp,?_⟩
    refine ifp (by rfl) ?_
    exact ⟨by decide,λp hpn=>q2 (.inl hp) _ p (Same.upd hpn) Zab⟩
theorem ZeV:FnScope ["_law_groups", "_law_deed_here"] ["_law_groups", "_law_deed_here"] (Zaj (top 25)):=⟨rfl,rfl,rfl,by decide +kernel,rfl,by decide +kernel,by decide +kernel⟩
theorem Ze5 (T:Tx K mg)
  (G_Groups_open_group:FnOk P w K mg base (CXD P w) 3 T.m_Groups_open_group.f T.m_Groups_open_group.fd ["self", "owner", "scope"] (Zg0 ⟨T.C_Groups,T.C_Group,T.C_Member⟩ T.C_Over))
  (G_Groups_put_in:FnOk P w K mg base (CXD P w) 3 T.m_Groups_put_in.f T.m_Groups_put_in.fd ["self", "owner", "scope", "label", "who"] (Zke ⟨T.C_Groups,T.C_Group,T.C_Member⟩ T.C_Over))
  (G_Groups_ended:FnOk P w K mg base (CXD P w) 5 T.m_Groups_ended.f T.m_Groups_ended.fd ["self", "who", "outcome"] (Zg5 ⟨T.C_Groups,T.C_Group,T.C_Member⟩ T.C_Over))
  (G_Groups_note:FnOk P w K mg base (CXD P w) 4 T.m_Groups_note.f T.m_Groups_note.fd ["self", "owner", "scope", "faults"] (Zg1 ⟨T.C_Groups,T.C_Group,T.C_Member⟩ T.C_Over))
  (G_Groups_call_off:FnOk P w K mg base (CXD P w) 3 T.m_Groups_call_off.f T.m_Groups_call_off.fd ["self", "owner", "scope"] (Zb8 ⟨T.C_Groups,T.C_Group,T.C_Member⟩ T.C_Over))
  (G_Groups_close:FnOk P w K mg base (CXD P w) 3 T.m_Groups_close.f T.m_Groups_close.fd ["self", "owner", "scope"] (Zg6 ⟨T.C_Groups,T.C_Group,T.C_Member⟩ T.C_Over)):FnOk P w K mg base (CXD P w) 6 T.d_l_called.f T.d_l_called.fd ["_law_groups", "_law_deed_here"] (ZdO ⟨T.C_Groups,T.C_Group,T.C_Member⟩ T.C_Over):=by
 refine T.d_l_called.F.okD ZeV (λvs H Q E h=>?_) (λcdv A outer s H vs Q E hr h=>?_)
 ·obtain ⟨A,S,t,D,rfl,_⟩:=h
  rfl
 ·obtain ⟨A,S,t,D,rfl,ht,B,ok,rm,k⟩:=h
  have hu1:=Za8 hr
  refine ⟨_,(Zad (ZaK (Zar Zbd (Zav Zan (pv 1) Zaf (λ_ _=>rfl)) Zag (Zaw _))
  (Zah (Zao (Zay (pv 0) T.k_Groups T.m_Groups_open_group.me G_Groups_open_group (hr.mono (by omega)) T.m_Groups_open_group.b .nil (Zbc ZaC (λ_ _ _ z=>z)) (Zaa (Zav Zan (pv 1) Zaf (λ_ _=>rfl)) (Zaa (Zav Zan (pv 1) Zaf (λ_ _=>rfl)) Zac)))))
  Zas)
  (Zad (ZaK (Zar Zbd (Zav Zan (pv 1) Zaf (λ_ _=>rfl)) Zag (Zaw _))
  (Zah (Zao (Zay (pv 0) T.k_Groups T.m_Groups_put_in.me G_Groups_put_in (hr.mono (by omega)) T.m_Groups_put_in.b .nil (Zbc ZaC (λ_ _ _ z=>z)) (Zaa (Zav Zan (pv 1) Zaf (λ_ _=>rfl)) (Zaa (Zav Zan (pv 1) Zaf (λ_ _=>rfl)) (Zaa (Zav Zan (pv 1) Zaf (λ_ _=>rfl)) (Zaa (Zav Zan (pv 1) Zaf (λ_ _=>rfl)) Zac)))))))
  Zas)
  (Zad (ZaK (Zar Zbd (Zav Zan (pv 1) Zaf (λ_ _=>rfl)) Zag (Zaw _))
  (Zah (Zao (Zay (pv 0) T.k_Groups T.m_Groups_ended.me G_Groups_ended (hr.mono (by omega)) T.m_Groups_ended.b .nil (Zbc ZaC (λ_ _ _ z=>z)) (Zaa (Zav Zan (pv 1) Zaf (λ_ _=>rfl)) (Zaa (Zav Zan (pv 1) Zaf (λ_ _=>rfl)) Zac)))))
  Zas)
  (Zad (ZaK (Zar Zbd (Zav Zan (pv 1) Zaf (λ_ _=>rfl)) Zag (Zaw _))
  (Zah (Zao (Zay (pv 0) T.k_Groups T.m_Groups_note.me G_Groups_note (hr.mono (by omega)) T.m_Groups_note.b .nil (Zbc ZaC (λ_ _ _ z=>z)) (Zaa (Zav Zan (pv 1) Zaf (λ_ _=>rfl)) (Zaa (Zav Zan (pv 1) Zaf (λ_ _=>rfl)) (Zaa (Zav Zan (pv 1) Zaf (λ_ _=>rfl)) Zac))))))
  Zas)
  (Zad (ZaK (Zar Zbd (Zav Zan (pv 1) Zaf (λ_ _=>rfl)) Zag (Zaw _))
  (Zah (Zao (Zay (pv 0) T.k_Groups T.m_Groups_call_off.me G_Groups_call_off (hr.mono (by omega)) T.m_Groups_call_off.b .nil (Zbc ZaC (λ_ _ _ z=>z)) (Zaa (Zav Zan (pv 1) Zaf (λ_ _=>rfl)) (Zaa (Zav Zan (pv 1) Zaf (λ_ _=>rfl)) Zac)))))
  Zas)
  (Zah (Zao (Zay (pv 0) T.k_Groups T.m_Groups_close.me G_Groups_close (hr.mono (by omega)) T.m_Groups_close.b .nil (Zbc ZaC (λ_ _ _ z=>z)) (Zaa (Zav Zan (pv 1) Zaf (λ_ _=>rfl)) (Zaa (Zav Zan (pv 1) Zaf (λ_ _=>rfl)) Zac)))))))))),?_⟩
  walk_at "sy"
  obtain ⟨dx,hg⟩:=B.ob
  cases D with
  |opn a b=>exact hitT ht ⟨_,_,hg,ZaE (by decide +kernel),ixT ht rfl (ixT ht rfl ⟨A,S,a,b,rfl,B,ok,rm,k⟩)⟩
  |put a b l w=>exact ZaM (by decide +kernel) ht (hitT ht ⟨_,_,hg,ZaE (by decide +kernel),ixT ht rfl (ixT ht rfl (ixT ht rfl (ixT ht rfl ⟨A,S,a,b,l,w,rfl,B,ok,rm,k⟩)))⟩)
  |fin w o fs =>
   obtain ⟨ht,ho⟩:=ht
   exact ZaM (by decide +kernel) ht (ZaM (by decide +kernel) ht (hitT ht ⟨_,_,hg,ZaE (by decide +kernel),ixT ht rfl (ixT ht rfl ⟨A,S,w,o,fs,rfl,ho,B,ok,rm,k⟩)⟩))
  |note a b fs =>
   obtain ⟨f,ht,hf,hl⟩:=ht
   exact ZaM (by decide +kernel) ht (ZaM (by decide +kernel) ht (ZaM (by decide +kernel) ht (hitT ht ⟨_,_,hg,ZaE (by decide +kernel),ixT ht rfl (ixT ht rfl (ixT ht rfl ⟨A,S,a,b,f,fs,rfl,hf,hl,B,ok,rm,k⟩))⟩)))
  |off a b=>exact ZaM (by decide +kernel) ht (ZaM (by decide +kernel) ht (ZaM (by decide +kernel) ht (ZaM (by decide +kernel) ht (hitT ht ⟨_,_,hg,ZaE (by decide +kernel),ixT ht rfl (ixT ht rfl ⟨A,S,a,b,rfl,B,ok,k⟩)⟩))))
  |cls a b=>exact ZaM (by decide +kernel) ht (ZaM (by decide +kernel) ht (ZaM (by decide +kernel) ht (ZaM (by decide +kernel) ht (ZaM (by decide +kernel) ht ⟨_,_,hg,ZaE (by decide +kernel),ixT ht rfl (ixT ht rfl ⟨A,S,a,b,rfl,B,ok,k⟩)⟩))))
theorem sc_l_alone:FnScope ["_law_e", "_law_told_here"] ["_law_e"] (Zaj (top 26)):=⟨rfl,rfl,rfl,by decide +kernel,rfl,by decide +kernel,by decide +kernel⟩
theorem Zgs (T:Tx K mg):FnOkA P w K mg base CX0 1 T.d_l_alone.f T.d_l_alone.fd ["_law_e"] (ZeS T.C_Over):=by
 refine T.d_l_alone.F.okA sc_l_alone (λvs H Q E h=>?_) (λcdv A outer s H vs Q E hr h=>?_)
 ·obtain ⟨a,rfl,_⟩:=h
  rfl
 ·obtain ⟨a,rfl,ha,k⟩:=h
  refine ⟨_,(Zad (Zax (i:=1) sc_l_alone.nd rfl (Or.inl rfl) (ZaL (Zaa (ZaD Zbq (by rfl) T.n_isinstance ZaO (Zaa (pv 0) (Zaa (Ze1 rfl T.h_BadClock) Zac))) (Zaa (ZaD Zbq (by rfl) T.n_isinstance ZaO (Zaa (pv 0) (Zaa (Ze1 rfl T.h_NotWaiting) Zac))) (Zaa (ZaD Zbq (by rfl) T.n_isinstance ZaO (Zaa (pv 0) (Zaa (Ze1 rfl T.h_BadDesk) Zac))) (Zaa (ZaD Zbq (by rfl) T.n_isinstance ZaO (Zaa (pv 0) (Zaa (Ze1 rfl T.h_BadRow) Zac))) Zac))))))
  (Zad (Zax (i:=1) sc_l_alone.nd rfl (Or.inl rfl) (Zat ZcI (pv 1) (ZaL (Zaa (ZaD Zbq (by rfl) T.n_isinstance ZaO (Zaa (pv 0) (Zaa (Ze1 rfl T.h_BadProgram) Zac))) (Zaa (ZaD Zbq (by rfl) T.n_isinstance ZaO (Zaa (pv 0) (Zaa (Ze1 rfl T.h_BadBook) Zac))) Zac)))))
  (Zah (Zao (ZjP (ZaD Zbq (by rfl) T.n_isinstance ZaO (Zaa (pv 0) (Zaa (Ze1 rfl T.h_Over) Zac))) (ZjP (ZaD Zbq (by rfl) T.n_isinstance ZaO (Zaa (pv 0) (Zaa (Zkw (v:=.ty "ValueError") rfl T.n_ValueError Zd6 rfl) Zac))) (Zlo (Zhv Zbd (ZcB PySem.F.plainAttrs_list PySem.F.slot_list_count PySem.F.type_list_count ZhE (pv 1) (Zaa Zc8 Zac)) Zaf (Zaw _))))))))),?_⟩
  walk_at "sy"
  refine ⟨_,ha,_,.inl rfl,T.ov.ec,T.ov.fo,_,T.ov.k1,_,ha,_,.inl rfl,T.ov.ec,T.ov.fo,_,T.ov.k2,_,ha,_,.inl rfl,T.ov.ec,T.ov.fo,_,T.ov.k3,_,ha,_,.inl rfl,T.ov.ec,T.ov.fo,_,T.ov.k4,by decide,λp hp=>?_⟩
  have s1:Same H (upd H p (.lst [.bl false,.bl false,.bl false,.bl false])):=Same.upd hp
  have l1:upd H p (.lst [.bl false,.bl false,.bl false,.bl false]) p=some (.lst [.bl false,.bl false,.bl false,.bl false]):=Zab
  generalize upd H p (.lst [.bl false,.bl false,.bl false,.bl false])=H1 at s1 l1 |-
  have h1:=s1 _ _ ha
  refine ⟨_,h1,_,.inl rfl,T.ov.ec,T.ov.fo,_,T.ov.k5,_,h1,_,.inl rfl,T.ov.ec,T.ov.fo,_,T.ov.k6,by decide,λq hq=>?_⟩
  have s2:Same H1 (upd H1 q (.lst [.bl false,.bl false])):=Same.upd hq
  refine ⟨p,q,_,_,rfl,rfl,s2 _ _ l1,Zab,by decide,λr hr=>?_⟩
  have s3:Same H (upd (upd H1 q (.lst [.bl false,.bl false])) r (.lst ([.bl false,.bl false,.bl false,.bl false]++[.bl false,.bl false]))):=s1.trans (s2.trans (Same.upd hr))
  have l3:upd (upd H1 q (.lst [.bl false,.bl false])) r (.lst ([.bl false,.bl false,.bl false,.bl false]++[.bl false,.bl false])) r=some (.lst ([false,false,false,false,false,false].map V.bl)):=Zab
  generalize upd (upd H1 q (.lst [.bl false,.bl false])) r (.lst ([.bl false,.bl false,.bl false,.bl false]++[.bl false,.bl false]))=H3 at s3 l3 |-
  have h3:=s3 _ _ ha
  refine ⟨_,h3,_,.inl rfl,T.ov.ec,T.ov.fo,_,T.ov.ko,?_⟩
  rw [if_pos rfl]
  refine ⟨_,h3,_,.inr rfl,T.ov.ec,T.ov.fo,_,T.ov.kv,?_⟩
  rw [if_pos rfl]
  exact ⟨.inl ⟨_,SqL.of l3⟩,r,rfl,_,l3,rfl,k _ s3⟩
theorem Zhe:FnScope ["_law_groups", "_law_deed_here", "_law_e"] ["_law_groups", "_law_deed_here"] (Zaj (top 27)):=⟨rfl,rfl,rfl,by decide +kernel,rfl,by decide +kernel,by decide +kernel⟩
theorem Zhy (T:Tx K mg)
  (G_l_called:FnOk P w K mg base (CXD P w) 6 T.d_l_called.f T.d_l_called.fd ["_law_groups", "_law_deed_here"] (ZdO ⟨T.C_Groups,T.C_Group,T.C_Member⟩ T.C_Over))
  (G_l_alone:FnOkA P w K mg base CX0 1 T.d_l_alone.f T.d_l_alone.fd ["_law_e"] (ZeS T.C_Over)):FnOk P w K mg base CX0 7 T.d_l_told.f T.d_l_told.fd ["_law_groups", "_law_deed_here"] (ZgX ⟨T.C_Groups,T.C_Group,T.C_Member⟩):=by
 refine T.d_l_told.F.okAs (i:=2) Zhe T.x_WatchError rfl rfl rfl (λvs H Q E h=>?_) (λ_ _=>rfl) (by decide) (λcdv A outer s H vs Q E hr h=>?_)
 ·obtain ⟨A,S,t,D,rfl,_⟩:=h
  rfl
 ·obtain ⟨A,S,t,D,rfl,ht,B,ok,rm,k,kx⟩:=h
  have hrA:=hr.any
  refine ⟨_,_,_,λE'=>(Zah (Zao (Zap (Zaa Zag (Zaa (ZfT G_l_called (hr.mono (by omega)) rfl T.d_l_called.hm T.d_l_called.F.kp T.d_l_called.b .nil Zlr (Zaa (pv 0) (Zaa (pv 1) Zac))) Zac))))),λu=>(Zah (Zao (Zav (ZfZ (K:=K) rfl) (ZaL (Zaa (Zap (Zaa Zag Zac)) (Zaa (Zap (Zaa Zag Zac)) Zac))) (Za5 Zin (by rfl) T.n_int Zl1 (Zaa (ZfU G_l_alone ((hrA.mark _).mono (by omega)) rfl T.d_l_alone.hm T.d_l_alone.F.kp T.d_l_alone.b .nil ZaV (Zaa (pv 2) Zac)) Zac)) (λ_ _=>rfl)))),Zas,?_⟩
  walk_at "sy"
  refine ⟨_,rfl,_,rfl,A,S,t,D,rfl,ht,B,ok,rm,λn H' A' v B' st eg rv=>⟨by decide,λp hp=>k n _ A' p v (B'.same (Same.upd hp)) (st.trans (Stp.of (Same.upd hp))) eg Zab (rv.same (Same.upd hp))⟩,λr H' s1=>⟨T.C_Over,rfl,rfl,T.ov.ie,T.ov.mw,λx hx=>?_⟩⟩
  ·walk_at "sy"
   refine ⟨by decide,λp hp=>⟨by decide,λp1 hp1=>⟨by decide,λp2 hp2=>?_⟩⟩⟩
   have s2:Same H' (upd H' x (exHO x T.C_Over)):=Same.upd hx
   have x2:upd H' x (exHO x T.C_Over) x=some (exHO x T.C_Over):=Zab
   generalize upd H' x (exHO x T.C_Over)=H2 at hp hp1 hp2 s2 x2 |-
   have s3:Same H2 (upd H2 p (.tup [.str "wrong"])):=Same.upd hp
   generalize upd H2 p (.tup [.str "wrong"])=H3 at hp1 hp2 s3 |-
   have s4:Same H3 (upd H3 p1 (.tup [.str "over"])):=Same.upd hp1
   have t4:upd H3 p1 (.tup [.str "over"]) p1=some (.tup [.str "over"]):=Zab
   generalize upd H3 p1 (.tup [.str "over"])=H4 at hp2 s4 t4 |-
   have s5:Same H4 (upd H4 p2 (.lst [.ref p,.ref p1])):=Same.upd hp2
   have l5:upd H4 p2 (.lst [.ref p,.ref p1]) p2=some (.lst [.ref p,.ref p1]):=Zab
   generalize upd H4 p2 (.lst [.ref p,.ref p1])=H5 at s5 l5 |-
   refine ⟨x,rfl,s5 _ _ (s4 _ _ (s3 _ _ x2)),λH6 s6=>.inr ⟨true,rfl,p2,_,1,.ref p1,rfl,rfl,SqL.of (s6 _ _ l5),rfl,?_⟩⟩
   exact kx r H6 p1 (s1.trans (s2.trans (s3.trans (s4.trans (s5.trans s6))))) (s6 _ _ (s5 _ _ t4))
theorem Zei:FnScope ["_law_script", "_law_k"] ["_law_script", "_law_k"] (Zaj (top 14)):=⟨rfl,rfl,rfl,by decide +kernel,rfl,by decide +kernel,by decide +kernel⟩
theorem Zes (T:Tx K mg):FnOk P w K mg base CX0 1 T.d_l_cell_at.f T.d_l_cell_at.fd ["_law_script", "_law_k"] (ZjJ K):=by
 refine T.d_l_cell_at.F.ok Zei (λvs H Q E h=>?_) (λcdv A outer s H vs Q E hr h=>?_)
 ·obtain ⟨a,ns,k,rfl,_⟩:=h
  rfl
 ·obtain ⟨a,ns,i,rfl,hS,hl,h0,k⟩:=h
  refine ⟨_,(Zad (ZaK (Zar Zi0 (pv 1) (ZaD ZcY (by rfl) T.n_len Zf7 (Zaa (pv 0) Zac)) (Zaw _))
  (Zah (Zao (Zav ZbG (pv 0) (pv 1) (λ_ _=>rfl))))
  Zas)
  (Zah (Zao Zaf))),?_⟩
  walk_at "sx"
  refine ⟨_,.inl ⟨_,hS,rfl⟩,?_⟩
  rw [List.length_map]
  by_cases hi:i<(ns.length:Int)
  ·refine ifp (decide_eq_true hi) ?_
   have hi2:i.toNat<ns.length:=by omega
   refine ⟨a,_,i,.int ns[i.toNat],rfl,rfl,hS,?_,k _⟩
   have:=Zk2 (xs:=ns.map V.int) (j:=i.toNat) (v:=.int ns[i.toNat]) (by rw [List.getElem?_map];simp [hi2])
   rwa [show ((i.toNat:Nat):Int)=i by omega] at this
  ·exact ifn (by simpa using hi) (k _)
theorem ZiP:FnScope ["_law_groups", "_law_deed_here"] ["_law_groups", "_law_deed_here"] (Zaj (top 28)):=⟨rfl,rfl,rfl,by decide +kernel,rfl,by decide +kernel,by decide +kernel⟩
theorem Zi2 (T:Tx K mg)
  (G_Groups_is_off:FnOk P w K mg base (CXD P w) 2 T.m_Groups_is_off.f T.m_Groups_is_off.fd ["self", "owner", "scope"] (ZeR ⟨T.C_Groups,T.C_Group,T.C_Member⟩ T.C_Over))
  (G_Groups_alive:FnOk P w K mg base (CXD P w) 2 T.m_Groups_alive.f T.m_Groups_alive.fd ["self", "owner", "scope"] (ZbU ⟨T.C_Groups,T.C_Group,T.C_Member⟩ T.C_Over))
  (G_Groups_faults_of:FnOk P w K mg base (CXD P w) 2 T.m_Groups_faults_of.f T.m_Groups_faults_of.fd ["self", "owner", "scope"] (ZdN ⟨T.C_Groups,T.C_Group,T.C_Member⟩ T.C_Over))
  (G_Groups_result_of:FnOk P w K mg base (CXD P w) 2 T.m_Groups_result_of.f T.m_Groups_result_of.fd ["self", "who"] (Zfy ⟨T.C_Groups,T.C_Group,T.C_Member⟩ T.C_Over))
  (G_Groups_home_of:FnOk P w K mg base (CXD P w) 2 T.m_Groups_home_of.f T.m_Groups_home_of.fd ["self", "who"] (ZjH ⟨T.C_Groups,T.C_Group,T.C_Member⟩ T.C_Over))
  (G_l_called:FnOk P w K mg base (CXD P w) 6 T.d_l_called.f T.d_l_called.fd ["_law_groups", "_law_deed_here"] (ZdO ⟨T.C_Groups,T.C_Group,T.C_Member⟩ T.C_Over)):FnOk P w K mg base (CXD P w) 7 T.d_l_ask.f T.d_l_ask.fd ["_law_groups", "_law_deed_here"] (Zlc ⟨T.C_Groups,T.C_Group,T.C_Member⟩ T.C_Over):=by
 refine T.d_l_ask.F.okD ZiP (λvs H Q E h=>?_) (λcdv A outer s H vs Q E hr h=>?_)
 ·obtain ⟨A,S,t,q,rfl,_⟩:=h
  rfl
 ·have hu:=ZcQ hr
  have hu1:=Za8 hr
  refine ⟨_,(Zad (ZaK (Zar Zbd (Zav Zan (pv 1) Zaf (λ_ _=>rfl)) Zag (Zaw _))
  (Zah (Zao (Zay (pv 0) T.k_Groups T.m_Groups_is_off.me G_Groups_is_off (hr.mono (by omega)) T.m_Groups_is_off.b .nil (Zbc ZaC (λ_ _ _ z=>z)) (Zaa (Zav Zan (pv 1) Zaf (λ_ _=>rfl)) (Zaa (Zav Zan (pv 1) Zaf (λ_ _=>rfl)) Zac)))))
  Zas)
  (Zad (ZaK (Zar Zbd (Zav Zan (pv 1) Zaf (λ_ _=>rfl)) Zag (Zaw _))
  (Zah (Zao (Zay (pv 0) T.k_Groups T.m_Groups_alive.me G_Groups_alive (hr.mono (by omega)) T.m_Groups_alive.b .nil (Zbc ZaC (λ_ _ _ z=>z)) (Zaa (Zav Zan (pv 1) Zaf (λ_ _=>rfl)) (Zaa (Zav Zan (pv 1) Zaf (λ_ _=>rfl)) Zac)))))
  Zas)
  (Zad (ZaK (Zar Zbd (Zav Zan (pv 1) Zaf (λ_ _=>rfl)) Zag (Zaw _))
  (Zah (Zao (Zay (pv 0) T.k_Groups T.m_Groups_faults_of.me G_Groups_faults_of (hr.mono (by omega)) T.m_Groups_faults_of.b .nil (Zbc ZaC (λ_ _ _ z=>z)) (Zaa (Zav Zan (pv 1) Zaf (λ_ _=>rfl)) (Zaa (Zav Zan (pv 1) Zaf (λ_ _=>rfl)) Zac)))))
  Zas)
  (Zad (ZaK (Zar Zbd (Zav Zan (pv 1) Zaf (λ_ _=>rfl)) Zag (Zaw _))
  (Zah (Zao (Zay (pv 0) T.k_Groups T.m_Groups_result_of.me G_Groups_result_of (hr.mono (by omega)) T.m_Groups_result_of.b .nil (Zbc ZaC (λ_ _ _ z=>z)) (Zaa (Zav Zan (pv 1) Zaf (λ_ _=>rfl)) Zac))))
  Zas)
  (Zad (ZaK (Zar Zbd (Zav Zan (pv 1) Zaf (λ_ _=>rfl)) Zag (Zaw _))
  (Zah (Zao (Zay (pv 0) T.k_Groups T.m_Groups_home_of.me G_Groups_home_of (hr.mono (by omega)) T.m_Groups_home_of.b .nil (Zbc ZaC (λ_ _ _ z=>z)) (Zaa (Zav Zan (pv 1) Zaf (λ_ _=>rfl)) Zac))))
  Zas)
  (Zah (Zao (ZaF G_l_called (hr.mono (by omega)) rfl T.d_l_called.hm T.d_l_called.F.kp T.d_l_called.b .nil (Zbc ZaC (λ_ _ _ z=>z)) (Zaa (pv 0) (Zaa (pv 1) Zac)))))))))),?_⟩
  obtain ⟨A,S,t,q,rfl,aq,B,ok,rm,rf,k⟩:=h
  walk_at "sy"
  obtain ⟨dx,hg⟩:=B.ob
  cases q with
  |iso a b =>
   have ht:H t=some (.tup [.str "is_off",.int a,.int b]):=aq
   exact ixT ht at_0 ⟨rfl,ifp (by simp) ⟨_,_,hg,ZaE (by decide +kernel),ixT ht rfl (ixT ht rfl ⟨A,S,a,b,rfl,B,λz=>absurd z rf,λ_=>k⟩)⟩⟩
  |alv a b =>
   have ht:H t=some (.tup [.str "alive",.int a,.int b]):=aq
   exact ZaM (by decide +kernel) ht (ixT ht at_0 ⟨rfl,ifp (by simp) ⟨_,_,hg,ZaE (by decide +kernel),ixT ht rfl (ixT ht rfl ⟨A,S,a,b,rfl,B,ok,λz=>absurd z rf,λ_=>k⟩)⟩⟩)
  |flt a b =>
   have ht:H t=some (.tup [.str "faults",.int a,.int b]):=aq
   exact ZaM (by decide +kernel) ht (ZaM (by decide +kernel) ht (ixT ht at_0 ⟨rfl,ifp (by simp) ⟨_,_,hg,ZaE (by decide +kernel),ixT ht rfl (ixT ht rfl ⟨A,S,a,b,rfl,B,λz=>absurd z rf,λ_=>k⟩)⟩⟩))
  |res w =>
   have ht:H t=some (.tup [.str "result",.int w]):=aq
   exact ZaM (by decide +kernel) ht (ZaM (by decide +kernel) ht (ZaM (by decide +kernel) ht (ixT ht at_0 ⟨rfl,ifp (by simp) ⟨_,_,hg,ZaE (by decide +kernel),ixT ht rfl ⟨A,S,w,rfl,B,λe he z=>absurd (List.mem_map.mpr ⟨e,he,z⟩) rf,λ_=>k H (Same.refl _)⟩⟩⟩)))
  |hom w =>
   have ht:H t=some (.tup [.str "home",.int w]):=aq
   exact ZaM (by decide +kernel) ht (ZaM (by decide +kernel) ht (ZaM (by decide +kernel) ht (ZaM (by decide +kernel) ht (ixT ht at_0 ⟨rfl,ifp (by simp) ⟨_,_,hg,ZaE (by decide +kernel),ixT ht rfl ⟨A,S,w,rfl,B,λe he z=>absurd (List.mem_map.mpr ⟨e,he,z⟩) rf,λ_=>k H (Same.refl _)⟩⟩⟩))))
  |dd D =>
   obtain ⟨tg,xs,ht,n1,n2,n3,n4,n5⟩:∃ (tg:Str) (xs:List V),H t=some (.tup (.str tg::xs))/\¬ tg="is_off"/\¬ tg="alive"/\¬ tg="faults"/\¬ tg="result"/\¬ tg="home":=by
    have aq:DdAt H t D:=aq
    cases D with
    |opn a b=>exact ⟨_,_,aq,by decide +kernel,by decide +kernel,by decide +kernel,by decide +kernel,by decide +kernel⟩
    |put a b l w=>exact ⟨_,_,aq,by decide +kernel,by decide +kernel,by decide +kernel,by decide +kernel,by decide +kernel⟩
    |fin w o fs=>exact ⟨_,_,aq.1,by decide +kernel,by decide +kernel,by decide +kernel,by decide +kernel,by decide +kernel⟩
    |note a b fs =>
     obtain ⟨f,h1,_⟩:=aq
     exact ⟨_,_,h1,by decide +kernel,by decide +kernel,by decide +kernel,by decide +kernel,by decide +kernel⟩
    |off a b=>exact ⟨_,_,aq,by decide +kernel,by decide +kernel,by decide +kernel,by decide +kernel,by decide +kernel⟩
    |cls a b=>exact ⟨_,_,aq,by decide +kernel,by decide +kernel,by decide +kernel,by decide +kernel,by decide +kernel⟩
   exact ZaM n1 ht (ZaM n2 ht (ZaM n3 ht (ZaM n4 ht (ZaM n5 ht ⟨A,S,t,D,rfl,aq,B,ok,rm,λz=>absurd rf z,λ_=>k⟩))))
theorem Zhf:FnScope ["_law_groups", "_law_deed_here", "_law_e"] ["_law_groups", "_law_deed_here"] (Zaj (top 29)):=⟨rfl,rfl,rfl,by decide +kernel,rfl,by decide +kernel,by decide +kernel⟩
theorem ZhA (T:Tx K mg)
  (G_l_ask:FnOk P w K mg base (CXD P w) 7 T.d_l_ask.f T.d_l_ask.fd ["_law_groups", "_law_deed_here"] (Zlc ⟨T.C_Groups,T.C_Group,T.C_Member⟩ T.C_Over))
  (G_l_alone:FnOkA P w K mg base CX0 1 T.d_l_alone.f T.d_l_alone.fd ["_law_e"] (ZeS T.C_Over)):FnOk P w K mg base CX0 8 T.d_l_over.f T.d_l_over.fd ["_law_groups", "_law_deed_here"] (ZjG ⟨T.C_Groups,T.C_Group,T.C_Member⟩):=by
 refine T.d_l_over.F.okAs (i:=2) Zhf T.x_WatchError rfl rfl rfl (λvs H Q E h=>?_) (λ_ _=>rfl) (by decide) (λcdv A outer s H vs Q E hr h=>?_)
 ·obtain ⟨A,S,t,q,rfl,_⟩:=h
  rfl
 ·obtain ⟨A,S,t,q,rfl,aq,B,ok,rm,rf,k⟩:=h
  have hrA:=hr.any
  refine ⟨_,_,_,λE'=>(Zah (ZaW (ZfT G_l_ask (hr.mono (by omega)) rfl T.d_l_ask.hm T.d_l_ask.F.kp T.d_l_ask.b .nil Zlr (Zaa (pv 0) (Zaa (pv 1) Zac))))),λu=>(Zah (Zao (ZfU G_l_alone ((hrA.mark _).mono (by omega)) rfl T.d_l_alone.hm T.d_l_alone.F.kp T.d_l_alone.b .nil ZaV (Zaa (pv 2) Zac)))),(Zah (Zao Zc8)),?_⟩
  walk_at "sy"
  refine ⟨_,rfl,_,rfl,A,S,t,q,rfl,aq,B,ok,rm,rf,λH' s1=>⟨T.C_Over,rfl,rfl,T.ov.ie,T.ov.mw,λx hx=>?_⟩⟩
  walk_at "sy"
  exact ⟨x,rfl,Zab,λH2 s2=>k H2 (s1.trans ((Same.upd hx).trans s2))⟩
theorem sc_l_wrong:FnScope ["_law_s", "_law_x", "_law_far", "_law_rows", "_law_place_here", "_law_who"] ["_law_s", "_law_x"] (Zaj (top 30)):=⟨rfl,rfl,rfl,by decide +kernel,rfl,by decide +kernel,by decide +kernel⟩
theorem Zgn (T:Tx K mg)
  (G_l_alive:FnOk P w K mg base CX0 1 T.d_l_alive.f T.d_l_alive.fd ["_law_s", "_law_place_here"] (Zb9)):FnOk P w K mg base CX0 3 T.d_l_wrong.f T.d_l_wrong.fd ["_law_s", "_law_x"] (ZgV):=by
 refine T.d_l_wrong.F.ok sc_l_wrong (λvs H Q E h=>?_) (λcdv A outer s H vs Q E hr h=>?_)
 ·obtain ⟨L,S,x,rfl,_⟩:=h
  rfl
 ·have hu:=ZcQ hr
  have hu1:=Za8 hr
  refine ⟨_,(Zad (Zax (i:=2) sc_l_wrong.nd rfl (Or.inl rfl) (Zat ZaX (Zak hu1 (pv 0) Zag (λ_ _=>rfl)) Zaf))
  (Zad (Zax (i:=3) sc_l_wrong.nd rfl (Or.inl rfl) (ZaL (Zaa (Zap (Zaa Zag (Zaa (pv 2) (Zaa Zaf Zac)))) (Zaa (Zap (Zaa Zag (Zaa (pv 2) (Zaa Zaf Zac)))) (Zaa (Zap (Zaa Zag (Zaa Zaf (Zaa Zaf Zac)))) (Zaa (Zap (Zaa Zag (Zaa (pv 2) (Zaa Zaf Zac)))) (Zaa (Zap (Zaa Zag (Zaa Zaf (Zaa Zaf (Zaa (Zap (Zaa Zag Zac)) Zac))))) Zac)))))))
  (Zad (Zax (i:=3) sc_l_wrong.nd rfl (Or.inl rfl) (Zat ZcI (pv 3) (ZaL (Zaa (Zap (Zaa Zag (Zaa Zaf (Zaa Zaf Zac)))) (Zaa (Zap (Zaa Zag (Zaa (pv 2) (Zaa Zaf (Zaa Zag (Zaa (Zat ZaX (pv 2) Zaf) Zac)))))) (Zaa (Zap (Zaa Zag (Zaa (pv 2) Zac))) (Zaa (Zap (Zaa Zag (Zaa (pv 2) Zac))) Zac)))))))
  (Zad (ZaW (ZcB PySem.F.plainAttrs_list PySem.F.slot_list_append PySem.F.type_list_append ZaS (pv 3) (Zaa (Zap (Zaa Zag (Zaa (pv 2) (Zaa (Zap (Zaa Zag Zac)) Zac)))) Zac)))
  (Zad (ZbR PassesOwn.never rfl (Zbt (Zbn Zcv (Zbn Zcv (ZaD Zbz (by rfl) T.n_sorted Zbb (Zaa (Zak hu1 (pv 0) Zag (λ_ _=>rfl)) Zac)) (Zbs (Zat ZaN (pv 1) Zaf)) Zcz) Zcz (Zbs Zaf))) (ZaG (i:=4) sc_l_wrong.nd rfl (Or.inr rfl))
  (Zad (ZaW (ZcB PySem.F.plainAttrs_list PySem.F.slot_list_append PySem.F.type_list_append ZaS (pv 3) (Zaa (Zat Zbo (Zap (Zaa Zag Zac)) (pv 4)) Zac)))
  (Zho (ZaK (PW.pt (ZjM (ZbQ (Zeo hu1 (pv 4) (Zak hu1 (pv 0) Zag (λ_ _=>rfl)))) (Zhm (Zar (Zhw hu) (ZaF G_l_alive (hr.mono (by omega)) rfl T.d_l_alive.hm T.d_l_alive.F.kp T.d_l_alive.b .nil ZaV (Zaa (pv 0) (Zaa (pv 4) Zac))) (ZaL Zac) (Zaw _)))))
  (Zah (ZaW (ZcB PySem.F.plainAttrs_list PySem.F.slot_list_append PySem.F.type_list_append ZaS (pv 3) (Zaa (Zat Zbo (Zap (Zaa Zag Zac)) (pv 4)) Zac))))
  Zas)
  (Zah (ZaK (ZbQ (Zeo hu1 (pv 4) (Zak hu1 (pv 0) Zag (λ_ _=>rfl))))
  (Zad (Zax (i:=3) sc_l_wrong.nd rfl (Or.inl rfl) (Zat ZcI (pv 3) (ZjO (N':=["_law_who", "_law_place_here"]) (sel:=[none,some 4]) rfl rfl rfl (Zak hu1 (Zak hu1 (Zak hu1 (pv 0) Zag (λ_ _=>rfl)) (pv 4) (λ_ _=>rfl)) Zag (λ_ _=>rfl)) (Zby rfl) (λ_ _ _ _ _=>⟨(ZaG (i:=0) (show (["_law_who", "_law_place_here"]:List Str).Nodup by decide +kernel) rfl (Or.inl rfl)),Zcy,(Zat (Zep (K:=K) rfl) (Zat (Zep (K:=K) rfl) (Zap (Zaa Zag Zac)) (pv 1)) (Zap (Zaa Zag (Zaa (pv 0) Zac))))⟩))))
  (Zah (ZaW (ZcB PySem.F.plainAttrs_list PySem.F.slot_list_append PySem.F.type_list_append ZaS (pv 3) (Zaa (Zat Zbo (Zat Zbo (Zap (Zaa Zag Zac)) (pv 4)) (Zap (Zaa Zag (Zaa (Zat ZaN (Zat ZaR (pv 1) Zaf) (Zat ZaX (Zav Zan (pv 4) Zaf (λ_ _=>rfl)) Zaf)) Zac)))) Zac)))))
  Zas)))))
  (Zad (Zkt PassesOwn.never rfl (Zak hu1 (pv 0) Zag (λ_ _=>rfl)) (ZaG (i:=5) sc_l_wrong.nd rfl (Or.inl rfl))
  (Zah (ZaK (ZbQ (Zcf hu1 (Zak hu1 (Zak hu1 (pv 0) Zag (λ_ _=>rfl)) (pv 5) (λ_ _=>rfl)) (Zak hu1 (pv 0) Zag (λ_ _=>rfl))))
  (Zah (Zax (i:=3) sc_l_wrong.nd rfl (Or.inl rfl) (Zat ZcI (pv 3) (ZaL (Zaa (Zap (Zaa Zag (Zaa (pv 5) Zac))) (Zaa (Zap (Zaa Zag (Zaa (pv 5) Zac))) (Zaa (Zap (Zaa Zag (Zaa (pv 5) (Zaa (Zap (Zaa Zag Zac)) Zac)))) Zac)))))))
  (Zah (ZaK (Zar Ze3 (Zak hu1 (Zak hu1 (Zak hu1 (Zak hu1 (pv 0) Zag (λ_ _=>rfl)) (Zak hu1 (Zak hu1 (pv 0) Zag (λ_ _=>rfl)) (pv 5) (λ_ _=>rfl)) (λ_ _=>rfl)) Zag (λ_ _=>rfl)) (pv 5) (λ_ _=>rfl)) ZbS (Zaw _))
  (Zah (ZaW (ZcB PySem.F.plainAttrs_list PySem.F.slot_list_append PySem.F.type_list_append ZaS (pv 3) (Zaa (Zap (Zaa Zag (Zaa (pv 5) (Zaa (Zap (Zaa Zag (Zaa Zaf Zac))) Zac)))) Zac))))
  Zas)))))
  (Zah (Zao (pv 3))))))))),?_⟩
  obtain ⟨L,S,x,rfl,B,ok,op,bd,k⟩:=h
  walk_at "sy"
  obtain ⟨mn,⟨hm0,hm⟩,gm⟩:=B.gMany
  refine ⟨_,gm,mn,rfl,?_⟩
  have mp:=Zlz S
  have sG:Same H H:=Same.refl _
  have aG0:∃ G0,G0=H:=⟨H,rfl⟩
  obtain ⟨G0,eG0⟩:=aG0
  rw [<- eG0] at sG |-
  have sG:Same H G0:=by rw [eG0];exact Same.refl _
  refine ⟨by decide,λp0 h=>?_⟩
  generalize e:upd G0 p0 (.tup [.str "is_off",.int (mn+7),.int 1])=G1
  obtain ⟨s,ap0⟩:=al e h
  have sG:=sG.trans s
  have W:=RwsW.one (S:=S) (q:=.iso (mn+7) 1) ap0 (Zf2 ok bd (by omega))
  refine ⟨by decide,λp1 h=>?_⟩
  generalize e:upd G1 p1 (.tup [.str "alive",.int (mn+7),.int 1])=G2
  obtain ⟨s,ap1⟩:=al e h
  have sG:=sG.trans s
  have W:=(W.kp (Tt.of s)).app (RwsW.one (q:=.alv (mn+7) 1) ap1 (Zf2 ok bd (by omega)))
  refine ⟨by decide,λp2 h=>?_⟩
  generalize e:upd G2 p2 (.tup [.str "faults",.int 0,.int 77])=G3
  obtain ⟨s,ap2⟩:=al e h
  have sG:=sG.trans s
  have W:=(W.kp (Tt.of s)).app (RwsW.one (q:=.flt 0 77) ap2 (Zh2 ok bd (by omega)))
  refine ⟨by decide,λp3 h=>?_⟩
  generalize e:upd G3 p3 (.tup [.str "off",.int (mn+7),.int 2])=G4
  obtain ⟨s,ap3⟩:=al e h
  have sG:=sG.trans s
  have W:=(W.kp (Tt.of s)).app (RwsW.one (q:=.dd (.off (mn+7) 2)) ap3 (Zf2 ok bd (by omega)))
  refine ⟨by decide,λp4 h=>?_⟩
  generalize e:upd G4 p4 (.tup [.str "leak"])=G5
  obtain ⟨s,ap4⟩:=al e h
  have sG:=sG.trans s
  have W:=W.kp (Tt.of s)
  refine ⟨by decide,λp5 h=>?_⟩
  generalize e:upd G5 p5 (.tup [.str "note",.int 0,.int 77,.ref p4])=G6
  obtain ⟨s,ap5⟩:=al e h
  have sG:=sG.trans s
  have W:=(W.kp (Tt.of s)).app (RwsW.one (q:=.dd (.note 0 77 ["leak"])) ⟨p4,ap5,s _ _ ap4,by decide⟩ (Zh2 ok bd (by omega)))
  refine ⟨by decide,λp6 h=>?_⟩
  generalize e:upd G6 p6 (.lst [.ref p0,.ref p1,.ref p2,.ref p3,.ref p5])=G7
  obtain ⟨s,ap6⟩:=al e h
  have sG:=sG.trans s
  have W:=W.kp (Tt.of s)
  obtain ⟨W1,eW1⟩:∃ ts,ts=[p0]++[p1]++[p2]++[p3]++[p5]:=⟨_,rfl⟩
  rw [<- eW1] at W
  refine ⟨by decide,λp7 h=>?_⟩
  generalize e:upd G7 p7 (.tup [.str "close",.int 0,.int 77])=G8
  obtain ⟨s,ap7⟩:=al e h
  have sG:=sG.trans s
  have W:=W.kp (Tt.of s)
  have ap6:=s _ _ ap6
  have Vw:=RwsW.one (S:=S) (q:=.dd (.cls 0 77)) ap7 (.inl (Zh2 ok bd (by omega)))
  refine ⟨by decide,λp8 h=>?_⟩
  generalize e:upd G8 p8 (.tup [.str "put",.int (mn+7),.int 1,.str "a",.int (mn+7+1)])=G9
  obtain ⟨s,ap8⟩:=al e h
  have sG:=sG.trans s
  have Vw:=(Vw.kp (Tt.of s)).app (RwsW.one (q:=.dd (.put (mn+7) 1 "a" (mn+7+1))) ap8 (.inl (Zf2 ok bd (by omega))))
  have W:=W.kp (Tt.of s)
  have ap6:=s _ _ ap6
  refine ⟨by decide,λp9 h=>?_⟩
  generalize e:upd G9 p9 (.tup [.str "result",.int (mn+7)])=G10
  obtain ⟨s,ap9⟩:=al e h
  have sG:=sG.trans s
  have Vw:=(Vw.kp (Tt.of s)).app (RwsW.one (q:=.res (mn+7)) ap9 (Zfi (by omega)))
  have W:=W.kp (Tt.of s)
  have ap6:=s _ _ ap6
  refine ⟨by decide,λp10 h=>?_⟩
  generalize e:upd G10 p10 (.tup [.str "home",.int (mn+7)])=G11
  obtain ⟨s,ap10⟩:=al e h
  have sG:=sG.trans s
  have Vw:=(Vw.kp (Tt.of s)).app (RwsW.one (q:=.hom (mn+7)) ap10 (Zfi (by omega)))
  have W:=W.kp (Tt.of s)
  have ap6:=s _ _ ap6
  refine ⟨by decide,λp11 h=>?_⟩
  generalize e:upd G11 p11 (.lst [.ref p7,.ref p8,.ref p9,.ref p10])=G12
  obtain ⟨s,ap11⟩:=al e h
  have sG:=sG.trans s
  have Vw:=Vw.kp (Tt.of s)
  have W:=W.kp (Tt.of s)
  have ap6:=s _ _ ap6
  obtain ⟨V1,eV1⟩:∃ ts,ts=[p7]++[p8]++[p9]++[p10]:=⟨_,rfl⟩
  rw [<- eV1] at Vw
  refine ⟨p6,p11,_,_,rfl,rfl,ap6,ap11,(show 9<=sizeLine by decide),λp12 hp12=>⟨.inl ⟨_,SqL.of Zab⟩,?_⟩⟩
  have f12:=sG.free hp12
  generalize e:upd G12 p12 (.lst ([.ref p0,.ref p1,.ref p2,.ref p3,.ref p5]++[.ref p7,.ref p8,.ref p9,.ref p10]))=G13
  obtain ⟨s,a12⟩:=al e hp12
  have a12:G13 p12=some (.lst ((W1++V1).map V.ref)):=by rw [a12,eW1,eV1];rfl
  have ll:(W1++V1).length=9:=by rw [eW1,eV1];rfl
  have W:=(W.kp (Tt.of s)).app (Vw.kp (Tt.of s))
  have sG:=sG.trans s
  generalize W1++V1=ts at a12 ll W
  clear Vw eW1 eV1 ap6 ap11
  refine ⟨by decide,λp13 h=>?_⟩
  generalize e:upd G13 p13 (.tup [.str "off"])=G14
  obtain ⟨s1,a13⟩:=al e h
  refine ⟨by decide,λp14 h=>?_⟩
  generalize e:upd G14 p14 (.tup [.str "end",.int (mn+7),.ref p13])=G15
  obtain ⟨s2,a14⟩:=al e h
  have q14:AskAt G15 p14 (.dd (.fin (mn+7) p13 none)):=⟨a14, "off",[],s2 _ _ a13,λx hx=>(nomatch hx),.inl ⟨rfl,by decide +kernel⟩⟩
  have r14:RefA S (.dd (.fin (mn+7) p13 none)):=λ⟨e,he,ew,_⟩=>Zfi (S:=S) (w:=mn+7) (by omega) (List.mem_map.mpr ⟨e,he,ew⟩)
  have l15:=(s1.trans s2) _ _ a12
  refine ⟨p12,_,_,rfl,rfl,l15,by rw [List.length_map,ll];decide,?_⟩
  have X:Wr H (upd G15 p12 (.lst (ts.map V.ref++[.ref p14]))) S p12 (ts++[p14]) 10:=by
   have kk:∀ c u,c≠p12->G15 c=some u->upd G15 p12 (.lst (ts.map V.ref++[.ref p14])) c=some u:=λc u n e=>by rw [Zae n];exact e
   have tt:Tt G15 (upd G15 p12 (.lst (ts.map V.ref++[.ref p14]))):=λc xs e=>kk c _ (Zaq e l15 (λz=>nomatch z)) e
   refine ⟨λc u e=>kk c u (Zai e f12) ((sG.trans (s1.trans s2)) c u e),f12,by rw [Zab,List.map_append];rfl,((W.kp (Tt.of (s1.trans s2))).kp tt).app (RwsW.one (q14.mono tt) r14),?_,?_⟩
   ·rw [List.length_append,ll];exact Nat.le_refl _
   ·rw [List.length_append,ll];exact Nat.le_refl _
  generalize ts++[p14]=ts1 at X
  generalize upd G15 p12 (.lst (ts.map V.ref++[.ref p14]))=H6 at X |-
  clear W sG l15 q14 r14 a14 a13 s1 s2 a12 ll
  have B6:=B.same X.s
  obtain ⟨ps,e1,e2,e3⟩:=B6.eq
  have le:=ok.sz.1
  refine ⟨_,rfl,_,_,rfl,B6.gEver,L.ev,rfl,ps,e1,by omega,S.ev,e2.symm,e3,λr qs ks hr' pm so lq hqs=>⟨_,rfl,x,3,rfl,rfl,(show (0:Int)<3 by decide),_,rfl,r,_,rfl,SqL.of Zab,λc1 hc1=>⟨4,rfl,c1,_,rfl,SqL.of Zab,λc2 hc2=>⟨c2,rfl,⟨_,SqL.of Zab⟩,?_⟩⟩⟩⟩
  obtain ⟨u1,eu1,mu1,lu1⟩:=ZcX qs (some (x%3)) none
  rw [eu1] at hc2 |-
  obtain ⟨us,eus,mus,lus⟩:=cut4 u1
  rw [eus]
  have s9:Same H6 (upd (upd (upd H6 r (.lst (qs.map V.ref))) c1 (.lst (u1.map V.ref))) c2 (.lst (us.map V.ref))):=((Same.upd hr').updR hc1).updR hc2
  have l9:upd (upd (upd H6 r (.lst (qs.map V.ref))) c1 (.lst (u1.map V.ref))) c2 (.lst (us.map V.ref)) c2=some (.lst (us.map V.ref)):=Zab
  have n9:c2≠p12:=λz=>by
   have:=((Same.upd (o:=.lst (qs.map V.ref)) hr').updR (o:=.lst (u1.map V.ref)) hc1) _ _ X.l
   rw [z,this] at hc2;cases hc2
  have hus:∀ u∈us,∃ q∈S.ev,H6 u=some (.tup [.int q.1,.int q.2]):=λu hu=>by
   obtain ⟨i,hi,e⟩:=List.getElem_of_mem (mu1 u (mus u hu))
   have ei:qs[i]?=some u:=by rw [List.getElem?_eq_getElem hi,e]
   obtain ⟨q,eq⟩:=Zc2 lq ei
   exact ⟨q,pm.subset (List.mem_of_getElem? eq),hqs i u q ei eq⟩
  generalize upd (upd (upd H6 r (.lst (qs.map V.ref))) c1 (.lst (u1.map V.ref))) c2 (.lst (us.map V.ref))=H9 at s9 l9 |-
  have X9:=X.same s9
  refine Zco (K:=K) (a:=c2) (xs:=us.map V.ref) (λi=>WlS H H6 S L x mn c2 us (10+70*i)) ⟨_,_,p12,ts1,rfl,X9,Tt.of s9,l9,n9⟩ ?_ ?_ ?_
  ·rintro i σ G _ ⟨_,_,_,_,_,X⟩
   exact SqL.of X.c
  ·rintro i y σ G hy ⟨v4,v5,rl,ts,rfl,X⟩
   obtain ⟨u,hu,rfl⟩:=List.mem_map.mp (List.mem_of_getElem? hy)
   obtain ⟨⟨a,b⟩,hev,hu6⟩:=hus u hu
   have hu:G u=some (.tup [.int a,.int b]):=X.t _ _ hu6
   have hi:i<4:=by have:=(List.getElem?_eq_some_iff.mp hy).1;rw [List.length_map] at this;omega
   have lts:=X.x.le
   walk_at "sy"
   refine ⟨.inl ⟨_,SqL.of X.x.l⟩,by decide,λp hp=>catG Zab (Same.upd hp _ _ hu) (λz=>nomatch z) (λz=>nomatch z) (show 3<=50 by decide) λt ht=>⟨rl,_,_,rfl,rfl,((Same.upd hp).updR ht) _ _ X.x.l,by rw [List.length_map];exact Zam (by omega),?_⟩⟩
   have X1:=(X.same ((Same.upd (o:=.tup [.str "open"]) hp).updR (o:=.tup [.str "open",.int a,.int b]) ht)).app (q:=.dd (.opn a b)) Zab hev
   change tMid _ _ _ _ (upd (upd (upd G p (.tup [.str "open"])) t (.tup [.str "open",.int a,.int b])) rl _)
   generalize upd (upd (upd G p (.tup [.str "open"])) t (.tup [.str "open",.int a,.int b])) rl (.lst (ts.map V.ref++[.ref t]))=G1 at X1 |-
   refine ⟨WlM H H6 S L x mn c2 us (10+70*i+2) u,?_,?_⟩
   ·walk_at "sy"
    have B1:=B.same X1.x.s
    have hu1:G1 u=some (.tup [.int a,.int b]):=X1.t _ _ hu6
    have l1:=X1.x.le
    by_cases hin:(a,b)∈S.os
    ·refine ⟨_,B1.gOpen,_,rfl,_,B1.gPl (p:=(a,b)) hu1 hin,ifp rfl ⟨L,S,u,(a,b),rfl,B1,ok,hu1,hin,λG2 r2 s2 f2 h2=>⟨by decide,λp2 hp2=>?_⟩⟩⟩
     have s3:Same G1 (upd G2 p2 (.lst [])):=s2.updR hp2
     have h3:upd G2 p2 (.lst []) r2=some (.lst ((Zaz S (a,b)).map V.int)):=Same.upd hp2 _ _ h2
     have e3:upd G2 p2 (.lst []) p2=some (.lst []):=Zab
     generalize upd G2 p2 (.lst [])=G3 at s3 h3 e3 |-
     have X3:=X1.same s3
     refine ⟨r2,p2,_,_,0,λ_=>false,rfl,rfl,SqL.of h3,SqL.of e3,by decide,λi x y _ ey=>by simp at ey,_,rfl,?_⟩
     by_cases e0:Zaz S (a,b)=[]
     ·refine ifn (by rw [e0];decide) ?_
      exact ⟨_,rl,_,rfl,X3.more (by omega)⟩
     ·have nl:(Zaz S (a,b)).length≠0:=λz=>e0 (List.length_eq_zero_iff.mp z)
      refine ifp (by rw [List.length_map,decide_eq_false (show ¬ (Zaz S (a,b)).length=([]:List V).length from nl)];rfl) ?_
      have hu3:=s3 _ _ hu1
      refine ⟨.inl ⟨_,SqL.of X3.x.l⟩,by decide,λp hp=>catG Zab (Same.upd hp _ _ hu3) (λz=>nomatch z) (λz=>nomatch z) (show 3<=50 by decide) λt ht=>⟨rl,_,_,rfl,rfl,((Same.upd hp).updR ht) _ _ X3.x.l,by rw [List.length_map];exact Zam (by omega),?_⟩⟩
      have ne:ZaJ S (a,b)≠[]:=λz=>e0 (by unfold Zaz;rw [z];simp [srt])
      have X4:=(X3.same ((Same.upd (o:=.tup [.str "close"]) hp).updR (o:=.tup [.str "close",.int a,.int b]) ht)).app (q:=.dd (.cls a b)) Zab (.inr ne)
      exact ⟨_,rl,_,rfl,X4.more (by omega)⟩
    ·exact ⟨_,B1.gOpen,_,rfl,_,B1.gPlN (p:=(a,b)) hu1 hin,ifn (by decide) (ifn (by decide) ⟨_,rl,_,rfl,X1.more (by omega)⟩)⟩
   ·rintro σ' G2 ⟨v5,rl,ts,rfl,X⟩
    have hu:G2 u=some (.tup [.int a,.int b]):=X.t _ _ hu6
    have lts:=X.x.le
    walk_at "sy"
    have B2:=B.same X.x.s
    by_cases hin:(a,b)∈S.os
    ·refine ⟨_,B2.gOpen,_,rfl,_,B2.gPl (p:=(a,b)) hu hin,ifp rfl ?_⟩
     have ha:=B2.da (a,b) hin
     have lf:(S.es.filter λe=>decide (e.pl=(a,b))).length<=S.es.length:=List.length_filter_le _ _
     have lz:=ok.sz.2.1
     refine ⟨_,rfl,_,_,rfl,B2.gOpen,_,rfl,_,_,rfl,B2.gPl (p:=(a,b)) hu hin,_,_,rfl,B2.gAll hin,L.as (a,b),_,rfl,ha,λo nf=>?_⟩
     have f5:upd G2 (L.as (a,b)) (.frz o (.dK ((S.es.filter λe=>decide (e.pl=(a,b))).map λe=>(Sum.inl e.who,resV e.res)))) (L.as (a,b))=some (.frz o (.dK ((S.es.filter λe=>decide (e.pl=(a,b))).map λe=>(Sum.inl e.who,resV e.res)))):=Zab
     have k5:∀ c v,c≠L.as (a,b)->G2 c=some v->upd G2 (L.as (a,b)) (.frz o (.dK ((S.es.filter λe=>decide (e.pl=(a,b))).map λe=>(Sum.inl e.who,resV e.res)))) c=some v:=λc v n e=>by rw [Zae n];exact e
     generalize upd G2 (L.as (a,b)) (.frz o (.dK ((S.es.filter λe=>decide (e.pl=(a,b))).map λe=>(Sum.inl e.who,resV e.res))))=H5 at f5 k5 |-
     have u5:=k5 _ _ (Zaq hu ha (λz=>nomatch z)) hu
     refine ZhK (λi ys G=>Same H5 G/\∃ vs:List Addr,ys=vs.map V.ref/\vs.length=i/\RwsW G S vs) ⟨Same.refl _,[],rfl,rfl,λt h=>(nomatch h)⟩ ?_ (by rw [List.length_map];exact Nat.le_of_lt (Zam (by omega))) ?_ ?_
     ·rintro i ys G hi ⟨sG,vs,rfl,rfl,_⟩
      exact ⟨sG _ _ f5,by rw [List.length_map];exact Nat.le_refl _⟩
     ·rintro i kv ys G hx ⟨sG,vs,rfl,rfl,w⟩
      rw [List.getElem?_map] at hx
      cases ex:(S.es.filter λe=>decide (e.pl=(a,b)))[vs.length]? with
      |none=>rw [ex] at hx;cases hx
      |some e =>
       rw [ex] at hx
       cases hx
       have he:e∈S.es:=(List.mem_filter.mp (List.mem_of_getElem? ex)).1
       walk_at "sy"
       refine ⟨by decide,λq1 h1=>catG Zab (Same.upd h1 _ _ (sG _ _ u5)) (λz=>nomatch z) (λz=>nomatch z) (show 3<=50 by decide) λq2 h2=>⟨by decide,λq3 h3=>catG (Same.upd h3 _ _ Zab) Zab (λz=>nomatch z) (λz=>nomatch z) (show 5<=50 by decide) λq4 h4=>?_⟩⟩
       have s5:=(((Same.upd h1).updR h2).updR h3).updR (o:=.tup [.str "put",.int a,.int b,.str "b",.int e.who]) h4
       exact ⟨sG.trans s5,vs++[q4],by rw [List.map_append];rfl,by rw [List.length_append];rfl,(w.kp (Tt.of s5)).app (RwsW.one (q:=.dd (.put a b "b" e.who)) Zab (.inr (.inl (List.mem_map.mpr ⟨e,he,rfl⟩))))⟩
     ·rintro ys G ⟨sG,vs,rfl,lv,w⟩ Dl hD
      rw [List.length_map] at lv
      have aG:=sG _ _ f5
      have nD:Dl≠L.as (a,b):=λz=>by rw [z,aG] at hD;cases hD
      refine ⟨L.as (a,b),o,_,nf,by rw [Zae (Ne.symm nD)];exact aG,?_⟩
      have s6:Same G2 (upd (upd G Dl (.lst (vs.map V.ref))) (L.as (a,b)) (.dK ((S.es.filter λe=>decide (e.pl=(a,b))).map λe=>(Sum.inl e.who,resV e.res)))):=λc v e=>by
       by_cases hc:c=L.as (a,b)
       ·subst hc
        rw [Zab,<- e];exact ha.symm
       ·rw [Zae hc]
        exact (sG.updR hD) c v (k5 c v hc e)
      have d6:upd (upd G Dl (.lst (vs.map V.ref))) (L.as (a,b)) (.dK ((S.es.filter λe=>decide (e.pl=(a,b))).map λe=>(Sum.inl e.who,resV e.res))) Dl=some (.lst (vs.map V.ref)):=by rw [Zae nD];exact Zab
      have w6:RwsW (upd (upd G Dl (.lst (vs.map V.ref))) (L.as (a,b)) (.dK ((S.es.filter λe=>decide (e.pl=(a,b))).map λe=>(Sum.inl e.who,resV e.res)))) S vs:=w.kp λc xs e=>by
       rw [Zae (Zaq e aG (λz=>nomatch z)),Zae (Zai e hD)];exact e
      generalize upd (upd G Dl (.lst (vs.map V.ref))) (L.as (a,b)) (.dK ((S.es.filter λe=>decide (e.pl=(a,b))).map λe=>(Sum.inl e.who,resV e.res)))=G6 at s6 d6 w6 |-
      have X6:=X.same s6
      refine ⟨rl,Dl,_,_,rfl,rfl,X6.x.l,d6,?_,λr7 h7=>⟨.inl ⟨_,SqL.of Zab⟩,?_⟩⟩
      ·rw [List.length_map,List.length_map];exact Nat.le_of_lt (Zam (by omega))
      have X7:=X6.cat h7 w6
      have u7:=Same.upd (o:=.lst (ts.map V.ref++vs.map V.ref)) h7 _ _ (s6 _ _ hu)
      generalize upd G6 r7 (.lst (ts.map V.ref++vs.map V.ref))=G7 at X7 u7 |-
      have l7:=X7.x.le
      have o0:0<=a:=(bd.ow (a,b) hev).1
      refine ⟨by decide,λq1 h1=>catG Zab (Same.upd h1 _ _ u7) (λz=>nomatch z) (λz=>nomatch z) (show 3<=50 by decide) λq2 h2=>⟨⟨by decide,by decide⟩,ixT (((Same.upd h1).updR h2) _ _ u7) rfl ⟨a,rfl,by omega,by decide,λq3 h3=>catG (Same.upd h3 _ _ Zab) Zab (λz=>nomatch z) (λz=>nomatch z) (show 5<=50 by decide) λq4 h4=>?_⟩⟩⟩
      have s8:=(((Same.upd h1).updR h2).updR h3).updR (o:=.tup [.str "put",.int a,.int b,.str "b",.int (x / 3%(a+1))]) h4
      have X8:=X7.same s8
      have lm:=Int.emod_lt_of_pos (x / 3) (show 0<a+1 by omega)
      refine ⟨r7,_,_,rfl,rfl,X8.x.l,by rw [List.length_map];exact Zam (by omega),?_⟩
      have X9:=X8.app (q:=.dd (.put a b "b" (x / 3%(a+1)))) Zab (.inr (.inr (by omega)))
      exact ⟨_,_,r7,_,rfl,X9.more (by omega)⟩
    ·exact ⟨_,B2.gOpen,_,rfl,_,B2.gPlN (p:=(a,b)) hu hin,ifn (by decide) ⟨_,_,rl,_,rfl,X.more (by omega)⟩⟩
  ·rintro σ G ⟨v4,v5,rl,ts,rfl,X⟩
   have BG:=B.same X.x.s
   have lts:ts.length<=290:=by have:=X.x.le;rw [List.length_map] at this;omega
   have lz:=ok.sz.2.1
   refine ⟨_,rfl,_,_,rfl,BG.gHome,L.hm,_,rfl,BG.hq,λo nf=>?_⟩
   have nrl:rl≠L.hm:=Ne.symm (Zai B.hq X.x.f)
   have kz:∀ c v,c≠L.hm->H c=some v->upd H L.hm (.frz o (.dK (S.es.map λe=>(Sum.inl e.who,.ref (L.hs e.who))))) c=some v:=λc v n e=>by rw [Zae n];exact e
   have mz:upd H L.hm (.frz o (.dK (S.es.map λe=>(Sum.inl e.who,.ref (L.hs e.who))))) L.hm=some (.frz o (.dK (S.es.map λe=>(Sum.inl e.who,.ref (L.hs e.who))))):=Zab
   have Xz:Wr (upd H L.hm (.frz o (.dK (S.es.map λe=>(Sum.inl e.who,.ref (L.hs e.who)))))) (upd G L.hm (.frz o (.dK (S.es.map λe=>(Sum.inl e.who,.ref (L.hs e.who)))))) S rl ts 290:=by
    refine ⟨λc v e=>?_,by rw [Zae nrl];exact X.x.f,by rw [Zae nrl];exact X.x.l,X.x.w.kp λc xs e=>?_,lts,X.x.ge⟩
    ·by_cases hc:c=L.hm
     ·subst hc;rw [Zab] at e |-;exact e
     ·rw [Zae hc] at e |-;exact X.x.s c v e
    ·rw [Zae (Zaq e BG.hq (λz=>nomatch z))];exact e
   have fin:∀ G',Same (upd H L.hm (.frz o (.dK (S.es.map λe=>(Sum.inl e.who,.ref (L.hs e.who)))))) G'->Same H (upd G' L.hm (.dK (S.es.map λe=>(Sum.inl e.who,.ref (L.hs e.who))))):=λG' s c v e=>by
    by_cases hc:c=L.hm
    ·subst hc;rw [Zab,<- e];exact B.hq.symm
    ·rw [Zae hc];exact s c v (kz c v hc e)
   generalize upd H L.hm (.frz o (.dK (S.es.map λe=>(Sum.inl e.who,.ref (L.hs e.who)))))=Hz at kz mz Xz fin
   generalize upd G L.hm (.frz o (.dK (S.es.map λe=>(Sum.inl e.who,.ref (L.hs e.who)))))=H5 at Xz |-
   obtain ⟨mn2,⟨_,_⟩,hs0⟩:=B.sd
   have hsz:=kz _ _ (Zaq hs0 B.hq λz=>by injection z with z;exact Zej z) hs0
   have opz:=kz _ _ (Zaq op B.hq (λz=>nomatch z)) op
   have htz:∀ e∈S.es,Hz (L.hs e.who)=some (.tup [.int e.own,.int e.sc]):=λe he=>kz _ _ (Zaq (B.ht e he) B.hq (λz=>nomatch z)) (B.ht e he)
   refine Zjm (λi σ G'=>∃ (v4 v5:Option V) (rl:Addr) (ts:List Addr),σ=[some (.ref L.s),some (.int x),some (.int (mn+7)),some (.ref rl),v4,v5]/\Wr Hz G' S rl ts (290+3*i)) ⟨_,_,rl,ts,rfl,Xz⟩ (λi σ G' _ ⟨_,_,_,_,_,X⟩=>X.s _ _ mz) ?_ ?_
   ·rintro i kv σ G' hx ⟨v4,v5,rl,ts,rfl,X⟩
    have hi:i<S.es.length:=by have:=(List.getElem?_eq_some_iff.mp hx).1;rw [List.length_map] at this;exact this
    have lts:=X.le
    rw [List.getElem?_map] at hx
    cases ex:S.es[i]? with
    |none=>rw [ex] at hx;cases hx
    |some e =>
     rw [ex] at hx
     cases hx
     have he:=List.mem_of_getElem? ex
     have gh:=Zhc (X.s _ _ hsz)
     have go:=Zhb (X.s _ _ hsz)
     have ge:DGet G' L.hm (.int e.who) (some (.ref (L.hs e.who))):=by
      refine .inl ⟨_,Sum.inl e.who,.inr ⟨o,X.s _ _ mz⟩,rfl,?_⟩
      rw [ZaH (f:=λw=>.ref (L.hs w)),ZaY Zbf (f:=λw=>.ref (L.hs w)) (List.mem_map.mpr ⟨e,he,rfl⟩)]
     have te:=X.s _ _ (htz e he)
     walk_at "sy"
     by_cases hin:e.pl∈S.os
     ·have gp:DGet G' L.op (.ref (L.hs e.who)) (some (.ref (L.ds e.pl))):=.inr ⟨_,keyP e.pl,_,.inl (X.s _ _ opz),rfl,te,(ZaY Za0 (f:=λp=>.ref (L.ds p)) hin).symm⟩
      refine ⟨_,gh,_,rfl,_,ge,_,go,_,rfl,_,gp,ifn (by simp) ?_⟩
      obtain ⟨ft,g1,_⟩:=B.dd e.pl hin
      have g1z:=X.s _ _ (kz _ _ (Zaq g1 B.hq λz=>by injection z with z;exact ZdF z) g1)
      have gall:DGet G' (L.ds e.pl) (.str "all") (some (.ref (L.as e.pl))):=by
       rw [<- Zih (al:=L.as e.pl) (off:=S.of e.pl) (ft:=ft)]
       exact DGet.k (k:=Sum.inr "all") g1z
      have ga:DGet G' (L.as e.pl) (.int e.who) (some (resV e.res)):=.inl ⟨_,Sum.inl e.who,.inl (X.s _ _ (kz _ _ (B.ah _ hin) (B.da _ hin))),rfl,ZdJ (ok.who.sublist (List.filter_sublist.map _)) (List.mem_filter.mpr ⟨he,decide_eq_true rfl⟩)⟩
      refine ⟨_,go,_,gh,_,rfl,_,ge,_,rfl,_,gp,_,rfl,_,gall,_,rfl,_,ga,?_⟩
      cases hre:e.res with
      |none=>exact ifn (by simp [resV]) ⟨_,X.more (by omega)⟩
      |some tr =>
       have dd:e.dead=true:=by unfold Ent.dead;rw [hre];rfl
       refine ifp (by simp [resV]) ⟨.inl ⟨_,SqL.of X.l⟩,by decide,λq1 h1=>⟨by decide,λq2 h2=>⟨rl,_,_,rfl,rfl,((Same.upd h1).updR h2) _ _ X.l,by rw [List.length_map];exact Zam (by omega),?_⟩⟩⟩
       have X1:=((X.same ((Same.upd (o:=.tup [.str "value",.int 0]) h1).updR (o:=.tup [.str "end",.int e.who,.ref q1]) h2)).app (q:=.dd (.fin e.who q1 none)) ⟨Zab, "value",[.int 0],Same.upd h2 _ _ Zab,λx hx=>by rw [List.mem_singleton.mp hx];exact .inl rfl,.inl ⟨rfl,by decide +kernel⟩⟩ (ZkL ok he dd)).1
       exact ⟨_,X1.more (by omega)⟩
     ·have gp:DGet G' L.op (.ref (L.hs e.who)) none:=.inr ⟨_,keyP e.pl,_,.inl (X.s _ _ opz),rfl,te,(ZbC Za0 (f:=λp=>.ref (L.ds p)) hin).symm⟩
      refine ⟨_,gh,_,rfl,_,ge,_,go,_,rfl,_,gp,ifp rfl ⟨by decide,λq1 h=>?_⟩⟩
      have nl:=Zi3 ok he hin
      generalize e1:upd G' q1 (.tup [.str "result",kV (Sum.inl e.who)])=G1
      obtain ⟨s1,a1⟩:=al e1 h
      refine ⟨by decide,λq2 h=>?_⟩
      generalize e1:upd G1 q2 (.tup [.str "home",kV (Sum.inl e.who)])=G2
      obtain ⟨s2,a2⟩:=al e1 h
      refine ⟨by decide,λq3 h=>?_⟩
      generalize e1:upd G2 q3 (.tup [.str "late"])=G3
      obtain ⟨s3,a3⟩:=al e1 h
      refine ⟨by decide,λq4 h=>?_⟩
      generalize e1:upd G3 q4 (.tup [.str "end",kV (Sum.inl e.who),.ref q3])=G4
      obtain ⟨s4,a4⟩:=al e1 h
      refine ⟨by decide,λq5 h5=>?_⟩
      have a1:=s4 _ _ (s3 _ _ (s2 _ _ a1))
      have a2:=s4 _ _ (s3 _ _ a2)
      have a3:=s4 _ _ a3
      have s1:=s1.trans (s2.trans (s3.trans s4))
      have w1:RwsW G4 S ([q1]++[q2]++[q4]):=((RwsW.one (q:=.res e.who) a1 nl).app (RwsW.one (q:=.hom e.who) a2 nl)).app (RwsW.one (q:=.dd (.fin e.who q3 none)) ⟨a4, "late",[],a3,λx hx=>(nomatch hx),.inl ⟨rfl,by decide +kernel⟩⟩ λ⟨e',h',w',_⟩=>nl (List.mem_map.mpr ⟨e',h',w'⟩))
      have X1:=(X.same s1).same (Same.upd (o:=.lst [.ref q1,.ref q2,.ref q4]) h5)
      have w2:=w1.kp (Tt.of (Same.upd (o:=.lst [.ref q1,.ref q2,.ref q4]) h5))
      refine ⟨rl,q5,_,_,rfl,rfl,X1.l,Zab,by rw [List.length_map];exact Nat.le_of_lt (Zam (show ts.length+3<=1000 by omega)),λq6 h6=>⟨_,_,q6,rfl,rfl,rfl,_,(X1.cat h6 w2)⟩⟩
   ·rintro σ G' ⟨v4,v5,rl,ts,rfl,X⟩
    refine ⟨L.hm,o,_,nf,X.s _ _ mz,?_⟩
    walk_at "sy"
    have lt:ts.length<=5000:=by have:=X.le;rw [List.length_map] at this;omega
    have nr2:rl≠L.hm:=Ne.symm (Zai mz X.f)
    exact k _ rl ts (fin G' X.s) (by rw [Zae nr2];exact X.l) X.ge lt (X.w.kp λc xs e=>by rw [Zae (Zaq e (X.s _ _ mz) (λz=>nomatch z))];exact e)
theorem sc_l_seen:FnScope ["_law_s", "_law_groups", "_law_found", "_law_place_here", "_law_label"] ["_law_s", "_law_groups"] (Zaj (top 31)):=⟨rfl,rfl,rfl,by decide +kernel,rfl,by decide +kernel,by decide +kernel⟩
theorem Zhz (T:Tx K mg)
  (G_Groups_tree:FnOk P w K mg base CX0 5 T.m_Groups_tree.f T.m_Groups_tree.fd ["self", "who"] (ZgW ⟨T.C_Groups,T.C_Group,T.C_Member⟩))
  (G_Groups_alive:FnOk P w K mg base (CXD P w) 2 T.m_Groups_alive.f T.m_Groups_alive.fd ["self", "owner", "scope"] (ZbU ⟨T.C_Groups,T.C_Group,T.C_Member⟩ T.C_Over))
  (G_Groups_faults_of:FnOk P w K mg base (CXD P w) 2 T.m_Groups_faults_of.f T.m_Groups_faults_of.fd ["self", "owner", "scope"] (ZdN ⟨T.C_Groups,T.C_Group,T.C_Member⟩ T.C_Over))
  (G_Groups_newest:FnOk P w K mg base CX0 1 T.m_Groups_newest.f T.m_Groups_newest.fd ["self", "owner", "label"] (Zfz ⟨T.C_Groups,T.C_Group,T.C_Member⟩)):FnOk P w K mg base CX0 7 T.d_l_seen.f T.d_l_seen.fd ["_law_s", "_law_groups"] (ZjF ⟨T.C_Groups,T.C_Group,T.C_Member⟩):=by
 refine T.d_l_seen.F.ok sc_l_seen (λvs H Q E h=>?_) (λcdv A outer s H vs Q E hr h=>?_)
 ·obtain ⟨L,A,S,rfl,_⟩:=h
  rfl
 ·have hu:=ZcQ hr
  have hu1:=Za8 hr
  refine ⟨_,(Zad (Zax (i:=2) sc_l_seen.nd rfl (Or.inl rfl) (ZaL (Zaa (Zay (pv 1) T.k_Groups T.m_Groups_tree.me G_Groups_tree (hr.mono (by omega)) T.m_Groups_tree.b .nil ZaV (Zaa Zaf Zac)) Zac)))
  (Zad (ZbR PassesOwn.never rfl (Zbt (ZaD Zbz (by rfl) T.n_sorted Zbb (Zaa (Za5 (ZdH rfl) (by rfl) T.n_list Zio (Zaa (Zak hu1 (pv 0) Zag (λ_ _=>rfl)) Zac)) Zac))) (ZaG (i:=3) sc_l_seen.nd rfl (Or.inl rfl))
  (Zad (ZaW (ZcB PySem.F.plainAttrs_list PySem.F.slot_list_append PySem.F.type_list_append ZaS (pv 2) (Zaa (Zay (pv 1) T.k_Groups T.m_Groups_alive.me G_Groups_alive (hr.mono (by omega)) T.m_Groups_alive.b .nil (Zc9 (E:=λ_ _ _=>False) (λ_ _ _ z=>z)) (Zaa (Zav Zan (pv 3) Zaf (λ_ _=>rfl)) (Zaa (Zav Zan (pv 3) Zaf (λ_ _=>rfl)) Zac))) Zac)))
  (Zad (ZaW (ZcB PySem.F.plainAttrs_list PySem.F.slot_list_append PySem.F.type_list_append ZaS (pv 2) (Zaa (Zay (pv 1) T.k_Groups T.m_Groups_faults_of.me G_Groups_faults_of (hr.mono (by omega)) T.m_Groups_faults_of.b .nil (Zc9 (E:=λ_ _ _=>False) (λ_ _ _ z=>z)) (Zaa (Zav Zan (pv 3) Zaf (λ_ _=>rfl)) (Zaa (Zav Zan (pv 3) Zaf (λ_ _=>rfl)) Zac))) Zac)))
  (Zah (ZbR PassesOwn.never rfl (Zbt (ZaL (Ze2 (zs:=["a", "b", "ab", "watch"]) (by decide +kernel)))) (ZaG (i:=4) sc_l_seen.nd rfl (Or.inl rfl))
  (Zah (ZaW (ZcB PySem.F.plainAttrs_list PySem.F.slot_list_append PySem.F.type_list_append ZaS (pv 2) (Zaa (Zay (pv 1) T.k_Groups T.m_Groups_newest.me G_Groups_newest (hr.mono (by omega)) T.m_Groups_newest.b .nil ZaV (Zaa (Zav Zan (pv 3) Zaf (λ_ _=>rfl)) (Zaa (pv 4) Zac))) Zac)))))))))
  (Zah (Zao (pv 2))))),?_⟩
  obtain ⟨L,A,S,rfl,B,GA,ok,op,up,k⟩:=h
  walk_at "sy"
  obtain ⟨dx,hg⟩:=GA.ob
  refine ⟨_,_,hg,ZaE (by decide +kernel),A,S,0,rfl,GA,ok,up,λH1 v s1 tr=>⟨by decide,λfl hfl=>?_⟩⟩
  have s2:Same H (upd H1 fl (.lst [v])):=s1.updR hfl
  have l2:upd H1 fl (.lst [v]) fl=some (.lst [v]):=Zab
  have hfl0:H fl=none:=s1.free hfl
  have tr2:=tr.kp (Tt.of (Same.upd (o:=.lst [v]) hfl))
  have nv0:v≠.ref fl:=λz=>by
   obtain ⟨a,ra,e,h,_⟩:=tr
   rw [z] at e
   cases e
   rw [hfl] at h;cases h
  generalize upd H1 fl (.lst [v])=H2 at s2 l2 tr2 |-
  have B2:=B.same s2
  have op2:OpD H2 L S:=s2 _ _ op
  have lo:=ok.sz.2.2
  refine ⟨_,rfl,_,_,rfl,B2.gOpen,L.op,rfl,_,op2,λl ps hl lp hps=>⟨l,rfl,ps,Zab,?_,S.os,?_,λi p q hp hq=>?_,λr qs ks hr' pm so lq hqs=>⟨r,rfl,⟨_,SqL.of Zab⟩,?_⟩⟩⟩
  ·rw [lp,List.length_map];omega
  ·rw [lp,List.length_map]
  ·have:=hps i p (keyP q,.ref (L.ds q)) hp (by rw [List.getElem?_map,hq];rfl)
   exact Same.upd hl _ _ this
  have s24:Same H2 (upd (upd H2 l (.lst (ps.map V.ref))) r (.lst (qs.map V.ref))):=(Same.upd hl).updR hr'
  have q4:upd (upd H2 l (.lst (ps.map V.ref))) r (.lst (qs.map V.ref)) r=some (.lst (qs.map V.ref)):=Zab
  have nr:r≠fl:=λz=>by rw [z,(Same.upd hl) _ _ l2] at hr';cases hr'
  have hq4:∀ (i:Nat) p k,qs[i]?=some p->ks[i]?=some k->upd (upd H2 l (.lst (ps.map V.ref))) r (.lst (qs.map V.ref)) p=some (.tup [.int k.1,.int k.2]):=λi p k a b=>Same.upd hr' _ _ (hqs i p k a b)
  generalize upd (upd H2 l (.lst (ps.map V.ref))) r (.lst (qs.map V.ref))=H4 at s24 q4 hq4 |-
  have lks:ks.length<=60:=by rw [pm.length_eq];exact lo
  have X0:Sn H H4 H4 S fl r qs [v] (des (ks.take 0)):=by
   refine ⟨s2.trans s24,λ_ _ e=>e,s24 _ _ l2,q4,⟨rfl,λi x d hx hd=>?_⟩,λx hx=>?_,nr⟩
   ·match i,hx,hd with
    |0,hx,hd =>
     cases hx
     cases hd
     exact tr2.kp (Tt.of s24)
    |i+1,hx,hd=>simp at hx
   ·rw [List.mem_singleton.mp hx];exact nv0
  refine Zco (K:=K) (a:=r) (xs:=qs.map V.ref) (λi σ G=>∃ (v3 v4:Option V) (vs:List V),σ=[some (.ref L.s),some (.ref A.g),some (.ref fl),v3,v4]/\Sn H H4 G S fl r qs vs (des (ks.take i))) ⟨_,_,_,rfl,X0⟩ ?_ ?_ ?_
  ·rintro i σ G _ ⟨_,_,_,_,X⟩
   exact SqL.of X.q
  ·rintro i x σ G hx ⟨v3,v4,vs,rfl,X⟩
   rw [List.getElem?_map] at hx
   cases ex:qs[i]? with
   |none=>rw [ex] at hx;cases hx
   |some pq =>
    rw [ex] at hx
    cases hx
    obtain ⟨pk,ek⟩:=Zc2 lq ex
    have hp:=X.t _ _ (hq4 i pq pk ex ek)
    have hin:pk∈S.os:=pm.subset (List.mem_of_getElem? ek)
    rw [Zjv ek]
    walk_at "sy"
    have lv:vs.length<=361:=by
     rw [X.it.1,Zh9,List.length_take];omega
    obtain ⟨dx,hg⟩:=(GA.same X.s).ob
    refine ⟨.inl ⟨_,SqL.of X.f⟩,_,_,hg,ZaE (by decide +kernel),ixT hp rfl (ixT hp rfl ⟨A,S,pk.1,pk.2,rfl,GA.same X.s,ok,λ_ G2 r2 g2 f2 h2=>?_,λno=>absurd hin no⟩)⟩
    have X2:=X.same g2
    refine ⟨fl,_,_,rfl,rfl,X2.f,Zam (by omega),?_⟩
    have X3:=X2.app hfl0 (v:=.ref r2) (d:=.alv pk) ⟨r2,rfl,h2⟩ (λz=>by cases z;rw [X.f] at f2;cases f2)
    have hp3:upd G2 fl (.lst (vs++[.ref r2])) pq=some (.tup [.int pk.1,.int pk.2]):=X3.t _ _ (hq4 i pq pk ex ek)
    generalize upd G2 fl (.lst (vs++[.ref r2]))=G3 at X3 hp3 |-
    obtain ⟨dx,hg⟩:=(GA.same X3.s).ob
    refine ⟨.inl ⟨_,SqL.of X3.f⟩,_,_,hg,ZaE (by decide +kernel),ixT hp3 rfl (ixT hp3 rfl ⟨A,S,pk.1,pk.2,rfl,GA.same X3.s,λ_ G4 f4 g4 h4=>?_,λno=>absurd hin no⟩)⟩
    have X4:=X3.same g4
    refine ⟨fl,_,_,rfl,rfl,X4.f,by rw [List.length_append,List.length_singleton];exact Zam (by omega),?_⟩
    have X5:=X4.app hfl0 (v:=.ref f4) (d:=.flt pk) ⟨f4,rfl,g4 _ _ h4⟩ (λz=>by cases z;rw [X3.f] at h4;cases h4)
    generalize upd G4 fl (.lst (vs++[.ref r2]++[.ref f4]))=G5 at X5 |-
    refine ⟨(show 4<=sizeLine by decide),λlb hlb=>⟨lb,rfl,⟨_,SqL.of Zab⟩,?_⟩⟩
    have nlb:lb≠fl:=Ne.symm (Zai X5.f hlb)
    have X6:=X5.same (Same.upd (o:=.lst (labs.map V.str)) hlb)
    have l6:upd G5 lb (.lst (labs.map V.str)) lb=some (.lst (labs.map V.str)):=Zab
    refine Zco (K:=K) (a:=lb) (xs:=labs.map V.str) (λj σ G6=>∃ (v4:Option V) (us:List V),σ=[some (.ref L.s),some (.ref A.g),some (.ref fl),some (.ref pq),v4]/\Sn H H4 G6 S fl r qs us (des (ks.take i)++[.alv pk]++[.flt pk]++(labs.take j).map λl=>.nw pk.1 l)/\G6 lb=some (.lst (labs.map V.str))) ⟨_,_,rfl,by rw [List.take_zero,List.map_nil,List.append_nil];exact X6,l6⟩ ?_ ?_ ?_
    ·rintro j σ G6 _ ⟨_,_,_,_,h⟩
     exact SqL.of h
    ·rintro j x σ G6 hx ⟨v4,us,rfl,X6,l6⟩
     rw [List.getElem?_map] at hx
     cases ej:labs[j]? with
     |none=>rw [ej] at hx;cases hx
     |some lj =>
      rw [ej] at hx
      cases hx
      walk_at "sy"
      have lu:us.length<=380:=by
       have e:=X6.it.1
       have lt:(labs.take j).length<=4:=by rw [List.length_take];exact Nat.min_le_right _ _
       rw [List.length_append,List.length_append,List.length_append,List.length_map,Zh9,List.length_take] at e
       simp only [List.length_singleton] at e
       omega
      obtain ⟨dx,hg⟩:=(GA.same X6.s).ob
      refine ⟨.inl ⟨_,SqL.of X6.f⟩,_,_,hg,ZaE (by decide +kernel),ixT (X6.t _ _ (hq4 i pq pk ex ek)) rfl ⟨A,S,pk.1,lj,rfl,GA.same X6.s,ok,λG7 g7=>?_⟩⟩
      have X7:=X6.same g7
      refine ⟨fl,_,_,rfl,rfl,X7.f,Zam (by omega),?_⟩
      have X8:=X7.app hfl0 (v:=oV (ZcE S pk.1 lj)) (d:=.nw pk.1 lj) rfl (λz=>by cases h:ZcE S pk.1 lj<;>rw [h] at z<;>cases z)
      refine ⟨us++[oV (ZcE S pk.1 lj)],?_,by rw [Zae nlb];exact g7 _ _ l6⟩
      rw [List.take_succ,ej,List.map_append,<- List.append_assoc]
      exact X8
    ·rintro σ G6 ⟨v4,us,rfl,X6,l6⟩
     exact ⟨_,_,rfl,us,by rw [List.append_assoc,List.append_assoc] at X6;exact X6⟩
  ·rintro σ G ⟨v3,v4,vs,rfl,X⟩
   walk_at "sy"
   rw [List.length_map,lq,List.take_length] at X
   exact k _ _ X.s ⟨ks,vs,pm,so,X.f,X.it⟩
theorem sc_law:FnScope ["_law_script", "_law_groups", "_law_s", "_law_turn", "_law_cell", "_law_deed_here", "_law_seen_here", "_law_rows", "_law_who"] ["_law_script"] (Zaj (top 32)):=⟨rfl,rfl,rfl,by decide +kernel,rfl,by decide +kernel,by decide +kernel⟩
theorem Zlx (T:Tx K mg) {f:Addr} {fd:FuncData} (F:Fun K "law" "law" (top 32) f fd)
  (G_Groups___init__:FnOk P w K mg base CX0 1 T.m_Groups___init__.f T.m_Groups___init__.fd ["self"] (Zg4 ⟨T.C_Groups,T.C_Group,T.C_Member⟩))
  (G_Groups_open_group:FnOk P w K mg base (CXD P w) 3 T.m_Groups_open_group.f T.m_Groups_open_group.fd ["self", "owner", "scope"] (Zg0 ⟨T.C_Groups,T.C_Group,T.C_Member⟩ T.C_Over))
  (G_Groups_put_in:FnOk P w K mg base (CXD P w) 3 T.m_Groups_put_in.f T.m_Groups_put_in.fd ["self", "owner", "scope", "label", "who"] (Zke ⟨T.C_Groups,T.C_Group,T.C_Member⟩ T.C_Over))
  (G_Groups_alive:FnOk P w K mg base (CXD P w) 2 T.m_Groups_alive.f T.m_Groups_alive.fd ["self", "owner", "scope"] (ZbU ⟨T.C_Groups,T.C_Group,T.C_Member⟩ T.C_Over))
  (G_l_cell_at:FnOk P w K mg base CX0 1 T.d_l_cell_at.f T.d_l_cell_at.fd ["_law_script", "_law_k"] (ZjJ K))
  (G_l_model:FnOk P w K mg base CX0 1 T.d_l_model.f T.d_l_model.fd [] (Zg2))
  (G_l_mixed:FnOk P w K mg base CX0 1 T.d_l_mixed.f T.d_l_mixed.fd ["_law_x"] (ZeP))
  (G_l_deed:FnOk P w K mg base CX0 4 T.d_l_deed.f T.d_l_deed.fd ["_law_s", "_law_x"] (ZjI))
  (G_l_told:FnOk P w K mg base CX0 7 T.d_l_told.f T.d_l_told.fd ["_law_groups", "_law_deed_here"] (ZgX ⟨T.C_Groups,T.C_Group,T.C_Member⟩))
  (G_l_due:FnOk P w K mg base CX0 4 T.d_l_due.f T.d_l_due.fd ["_law_s", "_law_deed_here"] (Zkf))
  (G_l_over:FnOk P w K mg base CX0 8 T.d_l_over.f T.d_l_over.fd ["_law_groups", "_law_deed_here"] (ZjG ⟨T.C_Groups,T.C_Group,T.C_Member⟩))
  (G_l_wrong:FnOk P w K mg base CX0 3 T.d_l_wrong.f T.d_l_wrong.fd ["_law_s", "_law_x"] (ZgV))
  (G_l_seen:FnOk P w K mg base CX0 7 T.d_l_seen.f T.d_l_seen.fd ["_law_s", "_law_groups"] (ZjF ⟨T.C_Groups,T.C_Group,T.C_Member⟩)):FnOk P w K mg base CX0 61 f fd ["_law_script"] (spLaw K):=by
 refine F.ok sc_law (λvs H Q E h=>?_) (λcdv A outer s H vs Q E hr h=>?_)
 ·obtain ⟨a,ns,rfl,_⟩:=h
  rfl
 ·obtain ⟨a,ns,rfl,ha,hns,k⟩:=h
  have hu:=ZcQ hr
  have hu1:=Za8 hr
  have hu9:=ZlI hr (by decide)
  refine ⟨_,(Zad (Zax (i:=1) sc_law.nd rfl (Or.inl rfl) (ZfR T.M_Groups G_Groups___init__ (hr.mono (by omega)) rfl T.h_Groups T.m_Groups___init__.b .nil ZaV))
  (Zad (Zax (i:=2) sc_law.nd rfl (Or.inl rfl) (ZiZ G_l_model (hr.mono (by omega)) rfl T.d_l_model.hm T.d_l_model.F.kp T.d_l_model.b .nil ZaV))
  (Zad (ZbR PassesOwn.never rfl (Zku rfl T.n_enumerate (Zaa (Zbn Zcv (pv 0) (Zbs Zaf) (Zbs Zaf)) Zac)) (ZfP (n:=2) rfl (Zbm (ZaG (i:=3) sc_law.nd rfl (Or.inl rfl)) (Zbm (ZaG (i:=4) sc_law.nd rfl (Or.inl rfl)) ZdU)))
  (Zad (Zax (i:=5) sc_law.nd rfl (Or.inl rfl) (ZaF G_l_deed (hr.mono (by omega)) rfl T.d_l_deed.hm T.d_l_deed.F.kp T.d_l_deed.b .nil ZaV (Zaa (pv 2) (Zaa (ZaF G_l_mixed (hr.mono (by omega)) rfl T.d_l_mixed.hm T.d_l_mixed.F.kp T.d_l_mixed.b .nil ZaV (Zaa (Zat ZaX (ZaF G_l_mixed (hr.mono (by omega)) rfl T.d_l_mixed.hm T.d_l_mixed.F.kp T.d_l_mixed.b .nil ZaV (Zaa (pv 4) Zac)) (Zat Zdx Zaf (pv 3))) Zac)) Zac))))
  (Zah (ZaK (Zar Zkz (Zav Zan (ZaF G_l_told (hr.mono (by omega)) rfl T.d_l_told.hm T.d_l_told.F.kp T.d_l_told.b .nil ZaV (Zaa (pv 1) (Zaa (pv 5) Zac))) Zaf (λ_ _=>rfl)) (Zav Zan (ZaF G_l_due (hr.mono (by omega)) rfl T.d_l_due.hm T.d_l_due.F.kp T.d_l_due.b .nil ZaV (Zaa (pv 2) (Zaa (pv 5) Zac))) Zaf (λ_ _=>rfl)) (Zaw _))
  (Zah (Zao Zc8))
  Zas))))
  (Zad (Zax (i:=6) sc_law.nd rfl (Or.inl rfl) (ZaF G_l_seen (hr.mono (by omega)) rfl T.d_l_seen.hm T.d_l_seen.F.kp T.d_l_seen.b .nil ZaV (Zaa (pv 2) (Zaa (pv 1) Zac))))
  (Zad (Zax (i:=7) sc_law.nd rfl (Or.inl rfl) (ZaF G_l_wrong (hr.mono (by omega)) rfl T.d_l_wrong.hm T.d_l_wrong.F.kp T.d_l_wrong.b .nil ZaV (Zaa (pv 2) (Zaa (ZaF G_l_mixed (hr.mono (by omega)) rfl T.d_l_mixed.hm T.d_l_mixed.F.kp T.d_l_mixed.b .nil ZaV (Zaa (ZaF G_l_cell_at (hr.mono (by omega)) rfl T.d_l_cell_at.hm T.d_l_cell_at.F.kp T.d_l_cell_at.b .nil ZaV (Zaa (pv 0) (Zaa Zaf Zac))) Zac)) Zac))))
  (Zad (Zax (i:=3) sc_law.nd rfl (Or.inl rfl) (Zat ZaN (ZaF G_l_cell_at (hr.mono (by omega)) rfl T.d_l_cell_at.hm T.d_l_cell_at.F.kp T.d_l_cell_at.b .nil ZaV (Zaa (pv 0) (Zaa Zaf Zac))) (ZaD ZcY (by rfl) T.n_len Zf7 (Zaa (pv 7) Zac))))
  (Zad (ZbR PassesOwn.never rfl (Zbt (Zbn Zcv (Zat ZcI (Zbn Zcv (pv 7) (Zbs (pv 3)) Zcz) (Zbn Zcv (pv 7) Zcz (Zbs (pv 3)))) Zcz (Zbs Zaf))) (ZaG (i:=5) sc_law.nd rfl (Or.inl rfl))
  (Zah (ZaK (PW.pt (Ze0 (Zll (ZfO (ZaF G_l_over (hr.mono (by omega)) rfl T.d_l_over.hm T.d_l_over.F.kp T.d_l_over.b .nil ZaV (Zaa (pv 1) (Zaa (pv 5) Zac))))) (Zc6 (Zar (Zky hu9) (ZaF G_l_seen (hr.mono (by omega)) rfl T.d_l_seen.hm T.d_l_seen.F.kp T.d_l_seen.b .nil ZaV (Zaa (pv 2) (Zaa (pv 1) Zac))) (pv 6) (Zaw _)))))
  (Zah (Zao Zc8))
  Zas)))
  (Zad (Zax (i:=8) sc_law.nd rfl (Or.inl rfl) (Zat ZaX (Zak hu1 (pv 2) Zag (λ_ _=>rfl)) Zaf))
  (Zad (ZaW (Zay (pv 1) T.k_Groups T.m_Groups_open_group.me G_Groups_open_group (hr.mono (by omega)) T.m_Groups_open_group.b .nil (Zc9 (E:=λ_ _ _=>False) (λ_ _ _ z=>z)) (Zaa (pv 8) (Zaa Zaf Zac))))
  (Zho (ZaK (ZfO (Zay (pv 1) T.k_Groups T.m_Groups_put_in.me G_Groups_put_in (hr.mono (by omega)) T.m_Groups_put_in.b .nil (Zc9 (E:=λ_ _ _=>False) (λ_ _ _ z=>z)) (Zaa (pv 8) (Zaa Zaf (Zaa Zag (Zaa (Zat ZaX (pv 8) Zaf) Zac))))))
  (Zah (Zao Zc8))
  Zas)
  (Zah (Zao (Zhv (Zhx hu) (Zay (pv 1) T.k_Groups T.m_Groups_alive.me G_Groups_alive (hr.mono (by omega)) T.m_Groups_alive.b .nil (Zc9 (E:=λ_ _ _=>False) (λ_ _ _ z=>z)) (Zaa (pv 8) (Zaa Zaf Zac))) (ZaL (Zaa (Zat ZaX (pv 8) Zaf) Zac)) (Zaw _)))))))))))))),?_⟩
  walk_at "sy"
  intro g dx ng nd _
  refine ⟨g,dx,rfl,Zab,λH1 A hA GA kp0 pa0=>⟨rfl,rfl,λs0 op ev hm od H2 s12 f1 f2 f3 f4 f5 k1 k2 k3 k4 k5 ne0=>?_⟩⟩
  have s01:Same H H1:=λc u e=>by
   have n1:c≠g:=Zai e ng
   refine kp0 c u n1 ?_
   rw [Zae n1,Zae (Zai e nd)]
   exact e
  obtain ⟨l1,l2⟩:=ZhM k1 k2 k3 k4 k5 ne0
  have lfr:=ZlA (R:=λc=>H1 c=none) f1 f2 f3 f4 f5
  have X0:Bn ⟨T.C_Groups,T.C_Group,T.C_Member⟩ H2 A S0 ⟨s0,op,ev,hm,od,λ_=>s0,λ_=>s0,λ_=>s0⟩ S0 (λc=>c=a/\∃ u,H a=some u):=by
   refine ⟨GA.same s12,l1,l2,ok_0,ok_0,λc h z=>?_,?_,?_,?_⟩
   ·obtain ⟨u,e,_⟩:=GA.own h
    rw [lfr c z] at e;cases e
   ·rintro c ⟨rfl,u,e⟩ z
    rcases pa0 c z with q | q
    ·rw [q,ng] at e;cases e
    ·have:=(ZaT (ZaT q).2).2
     rw [this] at e;cases e
   ·rintro c ⟨rfl,u,e⟩ z
    have:=s01 _ _ e
    rw [lfr c z] at this;cases this
   ·rintro c ⟨rfl,u,e⟩
    exact ⟨u,s12 _ _ (s01 _ _ e)⟩
  obtain ⟨zs,ez,lz⟩:=Zmg ns
  have ha2:SqL K H2 a (ns.map V.int):=by
   rcases ha with r | r
   ·exact .inl (r.same (s01.trans s12))
   ·exact .inr r
  have hpa:(∃ u,H a=some u)\/∀ G,SqL K G a (ns.map V.int):=by
   rcases ha with r | r
   ·rcases r with r | ⟨o,r⟩
    ·exact .inl ⟨_,r⟩
    ·exact .inl ⟨_,r⟩
   ·exact .inr λG=>.inr r
  refine ⟨_,rfl,2,rfl,42,rfl,a,_,rfl,ha2,λca hca=>⟨ca,rfl,?_⟩⟩
  rw [ez]
  have X3:=X0.fresh (Same.upd (o:=.lst (zs.map V.int)) hca) hca Zab
  have c4:upd H2 ca (.lst (zs.map V.int)) ca=some (.lst (zs.map V.int)):=Zab
  have a4:SqL K (upd H2 ca (.lst (zs.map V.int))) a (ns.map V.int):=by
   rcases ha2 with r | r
   ·exact .inl (r.same (Same.upd hca))
   ·exact .inr r
  generalize upd H2 ca (.lst (zs.map V.int))=H4 at X3 c4 a4 |-
  obtain ⟨Pr,ePr⟩:∃ Pr:Addr->Prop,Pr=λc=>(c=a/\∃ u,H a=some u)\/c=ca:=⟨_,rfl⟩
  rw [<- ePr] at X3
  have pca:Pr ca:=by rw [ePr];exact .inr rfl
  have hp:Pr a\/∀ G,SqL K G a (ns.map V.int):=hpa.imp (λz=>by rw [ePr];exact .inl ⟨rfl,z⟩) id
  clear X0 ha2 hca kp0 pa0 k1 k2 k3 k4 k5 f1 f2 f3 f4 f5 lfr hpa ePr
  refine ⟨⟨_,SqL.of c4⟩,?_⟩
  refine Zjl (K:=K) (a:=ca) (xs:=zs.map V.int) (LwI ⟨T.C_Groups,T.C_Group,T.C_Member⟩ K Pr a g s0 ca ns zs)
   ⟨_,_,_,_,_,_,A,_,S0,rfl,hA,rfl,X3,⟨λe he=>(nomatch he),Nat.le_refl _⟩,⟨by decide,by decide,by decide,by decide⟩,⟨λp h=>(nomatch h),λp h=>(nomatch h)⟩,c4,a4⟩ ?_ ?_ ?_
  ·rintro i σ G _ ⟨_,_,_,_,_,_,A,L,S,_,_,_,_,_,_,_,h,_⟩
   exact SqL.of h
  ·rintro i x p σ G hx ⟨v3,v4,v5,v6,v7,v8,A,L,S,rfl,rfl,rfl,X,up,bd,bdd,cG,aG⟩ hpp
   obtain ⟨z,_,rfl⟩:=List.mem_map.mp (List.mem_of_getElem? hx)
   have hi:i<60:=by have:=(List.getElem?_eq_some_iff.mp hx).1;rw [List.length_map] at this;omega
   refine ⟨p,_,rfl,SqT.of Zab,rfl,_,_,rfl,_,_,rfl,rfl,?_⟩
   walk_at "sy"
   have s1:Same G (upd G p (.tup [.int (i:Nat),.int z])):=Same.upd hpp
   generalize upd G p (.tup [.int (i:Nat),.int z])=G1 at s1 |-
   have X1:=X.same s1
   refine ⟨z,rfl,λm m0 m1=>⟨.inl ⟨by decide,by decide⟩,m,rfl,_,rfl,λm2 w0 w1=>?_⟩⟩
   refine ⟨L,S,m2,rfl,X1.la,X1.ol,X1.op,λG3 t D s3 hD hop=>?_⟩
   have X3:=X1.same s3
   refine Zka hD X3.ga X3.og (bd.rm hi) λG4 r h4=>?_
   obtain ⟨hD4,la4,op4⟩:=Zk8 X3 bd hi hD h4
   obtain ⟨tg,rs,hr4,hov,hto⟩:∃ tg rs,G4 r=some (.tup (.str tg::rs))/\(Ref S D->tg="over")/\(¬ Ref S D->tg="told"):=by
    rcases id h4 with ⟨n,A',v,a1,a2,a3,a4,a5⟩ | ⟨y,s5,a4⟩
    ·exact ⟨_,_,a4,λz=>absurd z n,λ_=>rfl⟩
    ·exact ⟨_,_,a4,λ_=>rfl,λz=>absurd y z⟩
   refine ixT hr4 at_0 (ZlU hD4 la4 X3.ol op4 (bd.rm hi) λG5 r5 h5=>?_)
   obtain ⟨tg',rs',rs5,A',L',S',o1,o2,e1,e2,e3,e4,X5,up5,bd5,kp5,eS⟩:=Zj9 X3 up bd hi hD h4 h5
   have et:tg=tg':=by
    by_cases z:Ref S D
    ·rw [hov z,o1 z]
    ·rw [hto z,o2 z]
   subst et
   have bdd5:Bdd S':=by
    rcases eS with rfl | rfl
    ·exact bdd
    ·exact bdd.nxt hop
   have kG:Kp Pr G G5:=(Kp.of (s1.trans s3)).trans kp5
   exact ixT e2 at_0 ⟨rfl,ifn (by simp) ⟨_,_,_,_,_,_,A',L',S',rfl,e3,e4,X5,up5,bd5,bdd5,kG _ _ (.inl pca) cG,Zl8 aG hp kG⟩⟩
  ·rintro σ G ⟨v3,v4,v5,v6,v7,v8,A,L,S,rfl,rfl,rfl,X,up,bd,bdd,cG,aG⟩
   have ln:(zs.map V.int).length<=40:=by rw [List.length_map];exact lz
   generalize (zs.map V.int).length=n at up bd ln
   have up':=up.to (show n<=60 by omega)
   have rm:=bd.rm (show n<60 by omega)
   clear cG hp pca
   have sqs:∀ {G'},Same G G'->SqL K G' a (ns.map V.int):=λs=>by
    rcases aG with r | r
    ·exact .inl (r.same s)
    ·exact .inr r
   walk_at "sy"
   refine ⟨L,A,S,rfl,X.la,X.ga,X.og,X.op,up',λG2 r2 s2 sn2=>?_⟩
   refine ⟨a,ns,0,rfl,sqs s2,hns,by decide,λc0=>⟨c0,rfl,λm m0 m1=>?_⟩⟩
   have X2:=X.same s2
   refine ⟨L,S,m,rfl,X2.la,X2.og,X2.op,bdd,λG3 r3 ts s3 h3 g3 l3 w3=>?_⟩
   have s03:=s2.trans s3
   have lp:(0:Int)<(((ts.map V.ref).length:Nat):Int):=by rw [List.length_map];omega
   refine ⟨a,ns,1,rfl,sqs s03,hns,by decide,λc1=>⟨_,.inl ⟨_,SqL.of h3,rfl⟩,c1,rfl,lp,?_⟩⟩
   generalize c1%(((ts.map V.ref).length:Nat):Int)=tn
   obtain ⟨u1,eu1,mu1,lu1⟩:=ZcX ts (some tn) none
   obtain ⟨u2,eu2,mu2,lu2⟩:=ZcX ts none (some tn)
   refine ⟨_,rfl,_,rfl,_,rfl,r3,_,rfl,SqL.of h3,λp1 hp1=>⟨_,rfl,_,rfl,_,rfl,r3,_,rfl,SqL.of (Same.upd hp1 _ _ h3),λp2 hp2=>?_⟩⟩
   refine ⟨p1,p2,_,_,rfl,rfl,Same.upd hp2 _ _ Zab,Zab,?_,λp3 hp3=>⟨40,rfl,p3,_,rfl,SqL.of Zab,λp4 hp4=>⟨p4,rfl,⟨_,SqL.of Zab⟩,?_⟩⟩⟩
   ·rw [eu1,eu2,List.length_map,List.length_map]
    exact Nat.le_trans (show u1.length+u2.length<=10000 by omega) (by decide)
   have e12:cutV (ts.map V.ref) (some tn) none++cutV (ts.map V.ref) none (some tn)=(u1++u2).map V.ref:=by rw [eu1,eu2,List.map_append]
   have s4:=((((Same.upd hp1).updR hp2).updR hp3).updR (o:=.lst (cutV (cutV (ts.map V.ref) (some tn) none++cutV (ts.map V.ref) none (some tn)) none (some 40))) hp4)
   obtain ⟨u3,eu3,mu3,_⟩:=ZcX (u1++u2) none (some 40)
   rw [e12,eu3] at s4
   rw [e12,eu3]
   have l4:=Zab (H:=upd (upd (upd G3 p1 (.lst (cutV (ts.map V.ref) (some tn) none))) p2 (.lst (cutV (ts.map V.ref) none (some tn)))) p3 (.lst ((u1++u2).map V.ref))) (a:=p4) (o:=.lst (u3.map V.ref))
   have m3:∀ u∈u3,u∈ts:=λu hu=>(List.mem_append.mp (mu3 u hu)).elim (mu1 u) (mu2 u)
   generalize upd (upd (upd (upd G3 p1 (.lst (cutV (ts.map V.ref) (some tn) none))) p2 (.lst (cutV (ts.map V.ref) none (some tn)))) p3 (.lst ((u1++u2).map V.ref))) p4 (.lst (u3.map V.ref))=G4 at s4 l4 |-
   have X4:=X.same (s03.trans s4)
   have sn4:=sn2.same (s3.trans s4)
   have w4:=RwsW.kp w3 (Tt.of s4)
   refine Zco (K:=K) (a:=p4) (xs:=u3.map V.ref) (λi σ G'=>∃ v5:Option V,σ=[some (.ref a),some (.ref A.g),some (.ref L.s),some (.int tn),v4,v5,some (.ref r2),some (.ref r3),v8]/\Same G4 G') ⟨_,rfl,Same.refl _⟩ ?_ ?_ ?_
   ·rintro i σ G' _ ⟨_,_,s⟩
    exact SqL.of (s _ _ l4)
   ·rintro i y σ G' hy ⟨v5,rfl,s5⟩
    obtain ⟨u,hu,rfl⟩:=List.mem_map.mp (List.mem_of_getElem? hy)
    obtain ⟨q,aq,rf⟩:=w4 u (m3 u hu)
    have X5:=X4.same s5
    walk_at "sy"
    refine ⟨A,S,u,q,rfl,aq.mono (Tt.of s5),X5.ga,X5.og,rm,rf,λG6 s6=>⟨true,rfl,ifn (by decide) ?_⟩⟩
    have X6:=X5.same s6
    refine ⟨L,A,S,rfl,X6.la,X6.ga,X6.og,X6.op,up',λG7 r7 s7 sn7=>?_⟩
    exact Zkj X.og sn7 (sn4.same (s5.trans (s6.trans s7))) ⟨_,rfl,ifn (by decide) (s5.trans (s6.trans s7))⟩
   ·rintro σ G' ⟨v5,rfl,s5⟩
    have X5:=X4.same s5
    walk_at "sy"
    obtain ⟨mn,⟨hm0,em⟩,gm⟩:=X5.la.gMany
    obtain ⟨dx,hg⟩:=X5.ga.ob
    have nev:(mn+3,(5:Int))∉S.ev:=λz=>by
     have:=(bdd.ow _ z).2
     have:mn+3<=mnS S:=this
     omega
    have nr1:¬ Ref S (.opn (mn+3) 5):=nev
    have ok6:=X.og.nxt rm (D:=.opn (mn+3) 5) (λ_ _ _ z=>nomatch z) (λ_ _ _ z=>nomatch z) nr1
    have rm6:=(bd.nxt (.opn (mn+3) 5)).rm (show n+1<60 by omega)
    have pin:(mn+3,(5:Int))∈(nxt S (.opn (mn+3) 5)).os:=List.mem_append_right _ (List.mem_singleton.mpr rfl)
    have nr2:¬ Ref (nxt S (.opn (mn+3) 5)) (.put (mn+3) 5 "a" (mn+3+1)):=by
     rintro (z | z | z)
     ·exact z pin
     ·obtain ⟨e,he,ew⟩:=List.mem_map.mp z
      have he:e∈S.es:=he
      have:=ZjU he
      omega
     ·omega
    have ok7:=ok6.nxt rm6 (D:=.put (mn+3) 5 "a" (mn+3+1)) (λ_ _ _ z=>nomatch z) (λ_ _ _ z=>nomatch z) nr2
    refine ⟨_,gm,mn,rfl,_,_,hg,ZaE (by decide +kernel),A,S,mn+3,5,rfl,X5.ga,X5.og,rm,λ_ G6 A6 v6 ga6 st6 eg6 rv6=>?_,λz=>absurd z nr1⟩
    refine ⟨λσ' G7=>σ'=[some (V.ref a),some (V.ref A.g),some (V.ref L.s),some (V.int tn),v4,v5,some (V.ref r2),some (V.ref r3),some (V.int (mn+3))]/\∃ A7:Ga,A7.g=A.g/\GAt ⟨T.C_Groups,T.C_Group,T.C_Member⟩ G7 A7 (nxt (nxt S (.opn (mn+3) 5)) (.put (mn+3) 5 "a" (mn+3+1))),?_,?_⟩
    ·walk_at "sy"
     obtain ⟨dx,hg⟩:=ga6.ob
     rw [eg6] at hg
     refine ⟨_,_,hg,ZaE (by decide +kernel),A6,_,mn+3,5, "a",mn+3+1,by rw [eg6],ga6,ok6,rm6,λ_ G7 A7 v7 ga7 st7 eg7 rv7=>?_,λz=>absurd z nr2⟩
     have e7:v7=.bl false:=by
      rw [show v7=.bl ((nxt S (.opn (mn+3) 5)).of (mn+3,5)) from rv7]
      show V.bl (setP S.of (mn+3,5) false (mn+3,5))=_
      rw [Za4]
     exact ⟨false,e7,ifn (by decide) ⟨A7,eg7.trans eg6,ga7⟩⟩
    ·rintro σ' G7 ⟨rfl,A7,eg7,ga7⟩
     walk_at "sy"
     obtain ⟨dx,hg⟩:=ga7.ob
     rw [eg7] at hg
     refine ⟨_,_,hg,ZaE (by decide +kernel),A7,_,mn+3,5,by rw [eg7],ga7,ok7,λ_ G8 r8 s8 f8 h8=>?_,λz=>absurd pin z⟩
     have ea:Zaz (nxt (nxt S (.opn (mn+3) 5)) (.put (mn+3) 5 "a" (mn+3+1))) (mn+3,5)=[mn+3+1]:=Zit (p:=(mn+3,5)) X.og nev
     rw [ea] at h8
     refine ⟨by decide,λp hp=>eqL (n:=0) (Same.upd hp _ _ h8) Zab rfl (ZbV λx hx=>?_) (by decide) (k _)⟩
     rw [List.mem_singleton.mp hx];exact .inl rfl
theorem law_fn {l:PySem.W.OpenLaw} {h:Heap} {fa:Addr} (X:K.In h) (G:h.Ns mainGlobals mg) (hfa:mg "law"=some (.ref fa))
  (i15:InK K "_law_mixed" (top 15))
  (i16:InK K "_law_stream" (top 16))
  (i17:InK K "_law_model" (top 17))
  (i18:InK K "_law_alive" (top 18))
  (i19:InK K "_law_marks" (top 19))
  (i20:InK K "_law_outcome" (top 20))
  (i21:InK K "_law_place" (top 21))
  (i22:InK K "_law_deed" (top 22))
  (i24:InK K "_law_due_end" (top 24))
  (i23:InK K "_law_due" (top 23))
  (i25:InK K "_law_called" (top 25))
  (i26:InK K "_law_alone" (top 26))
  (i27:InK K "_law_told" (top 27))
  (i14:InK K "_law_cell_at" (top 14))
  (i28:InK K "_law_ask" (top 28))
  (i29:InK K "_law_over" (top 29))
  (i30:InK K "_law_wrong" (top 30))
  (i31:InK K "_law_seen" (top 31))
  (i32:InK K "law" (top 32))
  {C_Group:Addr} (c_Group:InC K "Group" C_Group)
  (na_Group_off:PySem.W.findIn K (.ref C_Group) "off"=some none)
  (na_Group_faults:PySem.W.findIn K (.ref C_Group) "faults"=some none)
  (im_Group___init__:InM K C_Group "__init__" "Group.__init__" (Zal (top 10) 0))
  {C_Member:Addr} (c_Member:InC K "Member" C_Member)
  (na_Member_home:PySem.W.findIn K (.ref C_Member) "home"=some none)
  (na_Member_label:PySem.W.findIn K (.ref C_Member) "label"=some none)
  (na_Member_result:PySem.W.findIn K (.ref C_Member) "result"=some none)
  (im_Member___init__:InM K C_Member "__init__" "Member.__init__" (Zal (top 11) 0))
  {C_Groups:Addr} (c_Groups:InC K "Groups" C_Groups)
  (na_Groups_opened:PySem.W.findIn K (.ref C_Groups) "opened"=some none)
  (na_Groups_members:PySem.W.findIn K (.ref C_Groups) "members"=some none)
  (na_Groups_opened_ever:PySem.W.findIn K (.ref C_Groups) "opened_ever"=some none)
  (na_Groups_put_ever:PySem.W.findIn K (.ref C_Groups) "put_ever"=some none)
  (im_Groups___init__:InM K C_Groups "__init__" "Groups.__init__" (Zal (top 12) 0))
  (im_Groups_group_at:InM K C_Groups "group_at" "Groups.group_at" (Zal (top 12) 1))
  (im_Groups_member:InM K C_Groups "member" "Groups.member" (Zal (top 12) 2))
  (im_Groups_open_group:InM K C_Groups "open_group" "Groups.open_group" (Zal (top 12) 3))
  (im_Groups_put_in:InM K C_Groups "put_in" "Groups.put_in" (Zal (top 12) 4))
  (im_Groups_note:InM K C_Groups "note" "Groups.note" (Zal (top 12) 5))
  (im_Groups_call_off:InM K C_Groups "call_off" "Groups.call_off" (Zal (top 12) 6))
  (im_Groups_ended:InM K C_Groups "ended" "Groups.ended" (Zal (top 12) 7))
  (im_Groups_alive:InM K C_Groups "alive" "Groups.alive" (Zal (top 12) 9))
  (im_Groups_all_alive:InM K C_Groups "all_alive" "Groups.all_alive" (Zal (top 12) 10))
  (im_Groups_is_off:InM K C_Groups "is_off" "Groups.is_off" (Zal (top 12) 8))
  (im_Groups_faults_of:InM K C_Groups "faults_of" "Groups.faults_of" (Zal (top 12) 11))
  (im_Groups_result_of:InM K C_Groups "result_of" "Groups.result_of" (Zal (top 12) 13))
  (im_Groups_home_of:InM K C_Groups "home_of" "Groups.home_of" (Zal (top 12) 14))
  (im_Groups_newest:InM K C_Groups "newest" "Groups.newest" (Zal (top 12) 12))
  (im_Groups_close:InM K C_Groups "close" "Groups.close" (Zal (top 12) 15))
  (im_Groups_tree:InM K C_Groups "tree" "Groups.tree" (Zal (top 12) 16))
  (im_Groups_tree_rows:InM K C_Groups "tree_rows" "Groups.tree_rows" (Zal (top 12) 17))
  {C_BadClock:Addr} (cx_BadClock:PySem.W.nsIn K mainGlobals "BadClock"=some (some (.ref C_BadClock)))
  {C_NotWaiting:Addr} (cx_NotWaiting:PySem.W.nsIn K mainGlobals "NotWaiting"=some (some (.ref C_NotWaiting)))
  {C_BadDesk:Addr} (cx_BadDesk:PySem.W.nsIn K mainGlobals "BadDesk"=some (some (.ref C_BadDesk)))
  {C_BadRow:Addr} (cx_BadRow:PySem.W.nsIn K mainGlobals "BadRow"=some (some (.ref C_BadRow)))
  {C_BadProgram:Addr} (cx_BadProgram:PySem.W.nsIn K mainGlobals "BadProgram"=some (some (.ref C_BadProgram)))
  {C_BadBook:Addr} (cx_BadBook:PySem.W.nsIn K mainGlobals "BadBook"=some (some (.ref C_BadBook)))
  {C_Over:Addr} (cx_Over:PySem.W.nsIn K mainGlobals "Over"=some (some (.ref C_Over))) (qx_Over:PySem.W.excIn K C_Over [.type "ValueError",.type "Exception",.type "BaseException",.type "object"] "ValueError.__new__"=true)
  {C_WatchError:Addr} (cx_WatchError:PySem.W.nsIn K mainGlobals "WatchError"=some (some (.ref C_WatchError))) (qx_WatchError:PySem.W.excIn K C_WatchError [.type "ValueError",.type "Exception",.type "BaseException",.type "object"] "ValueError.__new__"=true)
  {cdO:ClassData} (o1:PySem.W.clsIn K C_Over=some cdO) (o2:PySem.W.mroIn K C_Over (.type "BaseException")=some true) (o3:PySem.W.mroIn K C_Over (.type "object")=some true) (o4:PySem.W.findIn K (.ref C_Over) "__getattribute__"=some (some (.builtin L2.gaE))) (o5:PySem.W.findIn K (.ref C_Over) "__getattr__"=some none) (o6:PySem.W.findIn K (.ref C_Over) "__class__"=some (some (.builtin "object.__class__"))) (o7:PySem.W.specialIn K (.builtin "object.__class__") "__get__"=some (some (.builtin "getset_descriptor.__get__"))) (o8:PySem.W.takesIn K (.builtin "object.__class__")=some true) (o9:PySem.W.mroIn K C_Over (.ref C_WatchError)=some true) (o_k1:PySem.W.kitOne K (.ref C_Over) (.ref C_BadClock)=some false) (o_k2:PySem.W.kitOne K (.ref C_Over) (.ref C_NotWaiting)=some false) (o_k3:PySem.W.kitOne K (.ref C_Over) (.ref C_BadDesk)=some false) (o_k4:PySem.W.kitOne K (.ref C_Over) (.ref C_BadRow)=some false) (o_k5:PySem.W.kitOne K (.ref C_Over) (.ref C_BadProgram)=some false) (o_k6:PySem.W.kitOne K (.ref C_Over) (.ref C_BadBook)=some false) (o_ko:PySem.W.kitOne K (.ref C_Over) (.ref C_Over)=some true) (o_kv:PySem.W.kitOne K (.ref C_Over) (.type "ValueError")=some true)
  (z_len:PySem.W.nsIn K mainGlobals "len"=some none)
  (z_sorted:PySem.W.nsIn K mainGlobals "sorted"=some none)
  (z_set:PySem.W.nsIn K mainGlobals "set"=some none)
  (z_list:PySem.W.nsIn K mainGlobals "list"=some none)
  (z_range:PySem.W.nsIn K mainGlobals "range"=some none)
  (z_enumerate:PySem.W.nsIn K mainGlobals "enumerate"=some none)
  (z_isinstance:PySem.W.nsIn K mainGlobals "isinstance"=some none)
  (z_tuple:PySem.W.nsIn K mainGlobals "tuple"=some none)
  (z_bool:PySem.W.nsIn K mainGlobals "bool"=some none)
  (z_dict:PySem.W.nsIn K mainGlobals "dict"=some none)
  (z_sum:PySem.W.nsIn K mainGlobals "sum"=some none)
  (z_max:PySem.W.nsIn K mainGlobals "max"=some none)
  (z_int:PySem.W.nsIn K mainGlobals "int"=some none)
  (z_ValueError:PySem.W.nsIn K mainGlobals "ValueError"=some none)
  (z_reversed:PySem.W.nsIn K mainGlobals "reversed"=some none)
  : ∃ fd:FuncData,(∀ (s:Shared) (v:Value),BindsTo s fd ⟨[v],[]⟩ [("_law_script",v)])/\∀ base:Heap,K.In base->base.Ns mainGlobals mg->FnOk l.prog w K mg base CX0 61 fa fd ["_law_script"] (spLaw K):=by
 obtain ⟨d15⟩:=i15.def (ps:=["_law_x"]) X G λ_ _ _ _ _ _ us hl=>match us,hl with | [_],_=>rfl
 obtain ⟨d16⟩:=i16.def (ps:=["_law_cell", "_law_many"]) X G λ_ _ _ _ _ _ us hl=>match us,hl with | [_,_],_=>rfl
 obtain ⟨d17⟩:=i17.def (ps:=[]) X G λ_ _ _ _ _ _ us hl=>match us,hl with | [],_=>rfl
 obtain ⟨d18⟩:=i18.def (ps:=["_law_s", "_law_place_here"]) X G λ_ _ _ _ _ _ us hl=>match us,hl with | [_,_],_=>rfl
 obtain ⟨d19⟩:=i19.def (ps:=["_law_s", "_law_place_here"]) X G λ_ _ _ _ _ _ us hl=>match us,hl with | [_,_],_=>rfl
 obtain ⟨d20⟩:=i20.def (ps:=["_law_x"]) X G λ_ _ _ _ _ _ us hl=>match us,hl with | [_],_=>rfl
 obtain ⟨d21⟩:=i21.def (ps:=["_law_s", "_law_x"]) X G λ_ _ _ _ _ _ us hl=>match us,hl with | [_,_],_=>rfl
 obtain ⟨d22⟩:=i22.def (ps:=["_law_s", "_law_x"]) X G λ_ _ _ _ _ _ us hl=>match us,hl with | [_,_],_=>rfl
 obtain ⟨d24⟩:=i24.def (ps:=["_law_s", "_law_who", "_law_outcome_here"]) X G λ_ _ _ _ _ _ us hl=>match us,hl with | [_,_,_],_=>rfl
 obtain ⟨d23⟩:=i23.def (ps:=["_law_s", "_law_deed_here"]) X G λ_ _ _ _ _ _ us hl=>match us,hl with | [_,_],_=>rfl
 obtain ⟨d25⟩:=i25.def (ps:=["_law_groups", "_law_deed_here"]) X G λ_ _ _ _ _ _ us hl=>match us,hl with | [_,_],_=>rfl
 obtain ⟨d26⟩:=i26.def (ps:=["_law_e"]) X G λ_ _ _ _ _ _ us hl=>match us,hl with | [_],_=>rfl
 obtain ⟨d27⟩:=i27.def (ps:=["_law_groups", "_law_deed_here"]) X G λ_ _ _ _ _ _ us hl=>match us,hl with | [_,_],_=>rfl
 obtain ⟨d14⟩:=i14.def (ps:=["_law_script", "_law_k"]) X G λ_ _ _ _ _ _ us hl=>match us,hl with | [_,_],_=>rfl
 obtain ⟨d28⟩:=i28.def (ps:=["_law_groups", "_law_deed_here"]) X G λ_ _ _ _ _ _ us hl=>match us,hl with | [_,_],_=>rfl
 obtain ⟨d29⟩:=i29.def (ps:=["_law_groups", "_law_deed_here"]) X G λ_ _ _ _ _ _ us hl=>match us,hl with | [_,_],_=>rfl
 obtain ⟨d30⟩:=i30.def (ps:=["_law_s", "_law_x"]) X G λ_ _ _ _ _ _ us hl=>match us,hl with | [_,_],_=>rfl
 obtain ⟨d31⟩:=i31.def (ps:=["_law_s", "_law_groups"]) X G λ_ _ _ _ _ _ us hl=>match us,hl with | [_,_],_=>rfl
 obtain ⟨e_Group___init__⟩:=im_Group___init__.def (ps:=["self"]) λ_ _ _ _ _ _ us hl=>match us,hl with | [_],_=>rfl
 obtain ⟨e_Member___init__⟩:=im_Member___init__.def (ps:=["self", "home", "label"]) λ_ _ _ _ _ _ us hl=>match us,hl with | [_,_,_],_=>rfl
 obtain ⟨e_Groups___init__⟩:=im_Groups___init__.def (ps:=["self"]) λ_ _ _ _ _ _ us hl=>match us,hl with | [_],_=>rfl
 obtain ⟨e_Groups_group_at⟩:=im_Groups_group_at.def (ps:=["self", "owner", "scope"]) λ_ _ _ _ _ _ us hl=>match us,hl with | [_,_,_],_=>rfl
 obtain ⟨e_Groups_member⟩:=im_Groups_member.def (ps:=["self", "who"]) λ_ _ _ _ _ _ us hl=>match us,hl with | [_,_],_=>rfl
 obtain ⟨e_Groups_open_group⟩:=im_Groups_open_group.def (ps:=["self", "owner", "scope"]) λ_ _ _ _ _ _ us hl=>match us,hl with | [_,_,_],_=>rfl
 obtain ⟨e_Groups_put_in⟩:=im_Groups_put_in.def (ps:=["self", "owner", "scope", "label", "who"]) λ_ _ _ _ _ _ us hl=>match us,hl with | [_,_,_,_,_],_=>rfl
 obtain ⟨e_Groups_note⟩:=im_Groups_note.def (ps:=["self", "owner", "scope", "faults"]) λ_ _ _ _ _ _ us hl=>match us,hl with | [_,_,_,_],_=>rfl
 obtain ⟨e_Groups_call_off⟩:=im_Groups_call_off.def (ps:=["self", "owner", "scope"]) λ_ _ _ _ _ _ us hl=>match us,hl with | [_,_,_],_=>rfl
 obtain ⟨e_Groups_ended⟩:=im_Groups_ended.def (ps:=["self", "who", "outcome"]) λ_ _ _ _ _ _ us hl=>match us,hl with | [_,_,_],_=>rfl
 obtain ⟨e_Groups_alive⟩:=im_Groups_alive.def (ps:=["self", "owner", "scope"]) λ_ _ _ _ _ _ us hl=>match us,hl with | [_,_,_],_=>rfl
 obtain ⟨e_Groups_all_alive⟩:=im_Groups_all_alive.def (ps:=["self"]) λ_ _ _ _ _ _ us hl=>match us,hl with | [_],_=>rfl
 obtain ⟨e_Groups_is_off⟩:=im_Groups_is_off.def (ps:=["self", "owner", "scope"]) λ_ _ _ _ _ _ us hl=>match us,hl with | [_,_,_],_=>rfl
 obtain ⟨e_Groups_faults_of⟩:=im_Groups_faults_of.def (ps:=["self", "owner", "scope"]) λ_ _ _ _ _ _ us hl=>match us,hl with | [_,_,_],_=>rfl
 obtain ⟨e_Groups_result_of⟩:=im_Groups_result_of.def (ps:=["self", "who"]) λ_ _ _ _ _ _ us hl=>match us,hl with | [_,_],_=>rfl
 obtain ⟨e_Groups_home_of⟩:=im_Groups_home_of.def (ps:=["self", "who"]) λ_ _ _ _ _ _ us hl=>match us,hl with | [_,_],_=>rfl
 obtain ⟨e_Groups_newest⟩:=im_Groups_newest.def (ps:=["self", "owner", "label"]) λ_ _ _ _ _ _ us hl=>match us,hl with | [_,_,_],_=>rfl
 obtain ⟨e_Groups_close⟩:=im_Groups_close.def (ps:=["self", "owner", "scope"]) λ_ _ _ _ _ _ us hl=>match us,hl with | [_,_,_],_=>rfl
 obtain ⟨e_Groups_tree⟩:=im_Groups_tree.def (ps:=["self", "who"]) λ_ _ _ _ _ _ us hl=>match us,hl with | [_,_],_=>rfl
 obtain ⟨e_Groups_tree_rows⟩:=im_Groups_tree_rows.def (ps:=["self", "owner", "trees"]) λ_ _ _ _ _ _ us hl=>match us,hl with | [_,_,_],_=>rfl
 obtain ⟨f,oc,od,kV,doc,pm,an,cdv,ct,osl,a,lk,c,kp⟩:=i32.ex
 have F:=ZhX (x:="law") (qual:="law") (st:=top 32) lk c kp
 have e:=hfa.symm.trans (PySem.W.mg_of X G a)
 cases e
 have T:Tx K mg:=⟨d15,d16,d17,d18,d19,d20,d21,d22,d24,d23,d25,d26,d27,d14,d28,d29,d30,d31,C_Group,c_Group.cls,PySem.W.mg_of X G c_Group.a,na_Group_off,na_Group_faults,e_Group___init__,⟨c_Group.mak,e_Group___init__.me.at_,e_Group___init__.me.fn,c_Group.kp⟩,C_Member,c_Member.cls,PySem.W.mg_of X G c_Member.a,na_Member_home,na_Member_label,na_Member_result,e_Member___init__,⟨c_Member.mak,e_Member___init__.me.at_,e_Member___init__.me.fn,c_Member.kp⟩,C_Groups,c_Groups.cls,PySem.W.mg_of X G c_Groups.a,na_Groups_opened,na_Groups_members,na_Groups_opened_ever,na_Groups_put_ever,e_Groups___init__,e_Groups_group_at,e_Groups_member,e_Groups_open_group,e_Groups_put_in,e_Groups_note,e_Groups_call_off,e_Groups_ended,e_Groups_alive,e_Groups_all_alive,e_Groups_is_off,e_Groups_faults_of,e_Groups_result_of,e_Groups_home_of,e_Groups_newest,e_Groups_close,e_Groups_tree,e_Groups_tree_rows,⟨c_Groups.mak,e_Groups___init__.me.at_,e_Groups___init__.me.fn,c_Groups.kp⟩,C_BadClock,PySem.W.mg_of X G cx_BadClock,C_NotWaiting,PySem.W.mg_of X G cx_NotWaiting,C_BadDesk,PySem.W.mg_of X G cx_BadDesk,C_BadRow,PySem.W.mg_of X G cx_BadRow,C_BadProgram,PySem.W.mg_of X G cx_BadProgram,C_BadBook,PySem.W.mg_of X G cx_BadBook,C_Over,⟨PySem.W.mg_of X G cx_Over,qx_Over⟩,PySem.W.mg_of X G cx_Over,C_WatchError,⟨PySem.W.mg_of X G cx_WatchError,qx_WatchError⟩,PySem.W.mg_of X G cx_WatchError,⟨⟨by rw [o1];rfl,o2,o3,o4,o5⟩,Zmf o1 o6 o7 o8,qx_Over,o9,o_k1,o_k2,o_k3,o_k4,o_k5,o_k6,o_ko,o_kv⟩,PySem.W.mg_none_of X G z_len,PySem.W.mg_none_of X G z_sorted,PySem.W.mg_none_of X G z_set,PySem.W.mg_none_of X G z_list,PySem.W.mg_none_of X G z_range,PySem.W.mg_none_of X G z_enumerate,PySem.W.mg_none_of X G z_isinstance,PySem.W.mg_none_of X G z_tuple,PySem.W.mg_none_of X G z_bool,PySem.W.mg_none_of X G z_dict,PySem.W.mg_none_of X G z_sum,PySem.W.mg_none_of X G z_max,PySem.W.mg_none_of X G z_int,PySem.W.mg_none_of X G z_ValueError,PySem.W.mg_none_of X G z_reversed⟩
 refine ⟨PySem.W.fnOf "law" "law" (Zbk (top 32)) (Za1 (top 32)) (Zaj (top 32)) .none kV doc pm an cdv ct,λs v=>.of_eq rfl,λbase _ _=>?_⟩
 have g_Group___init__:=ZcD (P:=l.prog) (w:=w) (base:=base) T  
 have g_Member___init__:=Zcg (P:=l.prog) (w:=w) (base:=base) T  
 have g_Groups___init__:=Zcj (P:=l.prog) (w:=w) (base:=base) T  
 have g_Groups_group_at:=Zch (P:=l.prog) (w:=w) (base:=base) T  
 have g_Groups_member:=ZcO (P:=l.prog) (w:=w) (base:=base) T  
 have g_Groups_open_group:=ZbP (P:=l.prog) (w:=w) (base:=base) T  g_Group___init__
 have g_Groups_all_alive:=Zb2 (P:=l.prog) (w:=w) (base:=base) T  
 have g_Groups_alive:=Zdc (P:=l.prog) (w:=w) (base:=base) T  g_Groups_group_at g_Groups_all_alive
 have g_Groups_put_in:=ZcM (P:=l.prog) (w:=w) (base:=base) T  g_Groups_group_at g_Member___init__
 have g_Groups_call_off:=Zci (P:=l.prog) (w:=w) (base:=base) T  g_Groups_group_at g_Groups_alive
 have g_Groups_note:=Zdt (P:=l.prog) (w:=w) (base:=base) T  g_Groups_group_at g_Groups_call_off
 have g_Groups_ended:=Zda (P:=l.prog) (w:=w) (base:=base) T  g_Groups_member g_Groups_note
 have g_Groups_close:=Zdb (P:=l.prog) (w:=w) (base:=base) T  g_Groups_alive
 have g_Groups_is_off:=ZcP (P:=l.prog) (w:=w) (base:=base) T  g_Groups_group_at
 have g_Groups_faults_of:=Zb1 (P:=l.prog) (w:=w) (base:=base) T  g_Groups_group_at
 have g_Groups_result_of:=Zb0 (P:=l.prog) (w:=w) (base:=base) T  g_Groups_member
 have g_Groups_home_of:=ZcC (P:=l.prog) (w:=w) (base:=base) T  g_Groups_member
 have g_Groups_newest:=ZcN (P:=l.prog) (w:=w) (base:=base) T  
 have g_Groups_tree_rows:=ZbZ (P:=l.prog) (w:=w) (base:=base) T  g_Groups_alive g_Groups_is_off
 have g_Groups_tree:=Zds (P:=l.prog) (w:=w) (base:=base) T  g_Groups_all_alive g_Groups_tree_rows
 have g_l_mixed:=Zgq (P:=l.prog) (w:=w) (base:=base) T  
 have g_l_stream:=Ze4 (P:=l.prog) (w:=w) (base:=base) T  g_l_mixed
 have g_l_model:=Zgp (P:=l.prog) (w:=w) (base:=base) T  
 have g_l_alive:=Zgt (P:=l.prog) (w:=w) (base:=base) T  
 have g_l_marks:=Zgr (P:=l.prog) (w:=w) (base:=base) T  g_l_alive
 have g_l_outcome:=Zeq (P:=l.prog) (w:=w) (base:=base) T  g_l_stream
 have g_l_place:=Zgo (P:=l.prog) (w:=w) (base:=base) T  
 have g_l_deed:=ZhB (P:=l.prog) (w:=w) (base:=base) T  g_l_place g_l_alive g_l_outcome
 have g_l_due_end:=Zer (P:=l.prog) (w:=w) (base:=base) T  g_l_marks
 have g_l_due:=Zi1 (P:=l.prog) (w:=w) (base:=base) T  g_l_due_end g_l_alive g_l_marks
 have g_l_called:=Ze5 (P:=l.prog) (w:=w) (base:=base) T  g_Groups_open_group g_Groups_put_in g_Groups_ended g_Groups_note g_Groups_call_off g_Groups_close
 have g_l_alone:=Zgs (P:=l.prog) (w:=w) (base:=base) T  
 have g_l_told:=Zhy (P:=l.prog) (w:=w) (base:=base) T  g_l_called g_l_alone
 have g_l_cell_at:=Zes (P:=l.prog) (w:=w) (base:=base) T  
 have g_l_ask:=Zi2 (P:=l.prog) (w:=w) (base:=base) T  g_Groups_is_off g_Groups_alive g_Groups_faults_of g_Groups_result_of g_Groups_home_of g_l_called
 have g_l_over:=ZhA (P:=l.prog) (w:=w) (base:=base) T  g_l_ask g_l_alone
 have g_l_wrong:=Zgn (P:=l.prog) (w:=w) (base:=base) T  g_l_alive
 have g_l_seen:=Zhz (P:=l.prog) (w:=w) (base:=base) T  g_Groups_tree g_Groups_alive g_Groups_faults_of g_Groups_newest
 exact Zlx T F  g_Groups___init__ g_Groups_open_group g_Groups_put_in g_Groups_alive g_l_cell_at g_l_model g_l_mixed g_l_deed g_l_told g_l_due g_l_over g_l_wrong g_l_seen

end
end K61
open PySem PySem.W PyProof.Rows
namespace PySem.W.Fast
def tw1228335297016569785:=()
def tw6635991741687423877:=()
def tw4549976162797251194:=()
def tw7551019303277791268:=()
def tw10570936067736511744:=()
def tw16201214703769760794:=()
def tw16800707797221024018:=()
def tw10657733657586051397:=()
def tw15538898189301274363:=()
def tw5730203095326395668:=()
def tw2925312157769013615:=()
def tw6989058943098329814:=()
def tw15380663183880669091:=()
def tw17189630673463484694:=()
def tw5978812512201180087:=()
def tw18424608644686851474:=()
def tw14899609461606624560:=()
def tw11432948681575659145:=()
def tw16515254773194850693:=()
def tw10306021914337294995:=()
def tw12075345891035383301:=()
def tw12400607488360186395:=()
def tw8355075050668287475:=()
def tw16416981863314605764:=()
def tw9092486446917833412:=()
def tw15627163736635750417:=()
def tw11762692509220985696:=()
def tw16320902435064588125:=()
def tw2552412511736161717:=()
def tw16015543956607530889:=()
def tw777941382595192233:=()
def tw15574348639259882204:=()
def tw10215845838067264464:=()
def tw11161492569728484274:=()
def tw7804082313804425594:=()
def tw18062466361710866264:=()
def tw467285842697734601:=()
def tw14304691074736846396:=()
def tw598308987002061830:=()
def tw12092670288304315272:=()
def tw7303768257768660285:=()
def tw13684558815157952735:=()
def tw11883172820702809022:=()
def tw15009134568626798665:=()
def tw14819564288982557799:=()
def tw3062110669375742419:=()
def tw1733414271407302142:=()
def tw9555356265883430206:=()
def tw15612440448009724040:=()
def tw14130820235634334288:=()
def tw18354117105022466819:=()
def tw11703464035112767544:=()
def tw7518872019184309794:=()
def tw3065426063410595026:=()
def tw10892756716932695024:=()
def tw7673102129082927384:=()
def tw18128213167768297308:=()
def tw12576925992583711560:=()
def tw8425251191385916698:=()
def tw12009830430565799407:=()
def tw1038137467565333762:=()
def tw9260542158816808664:=()
def tw2409688920026594416:=()
def tw2927551564231705331:=()
def tw8561261387545961637:=()
def tw7149106092157425133:=()
def tw10947931177630791580:=()
def tw5524462879276082072:=()
def tw2410179877784316484:=()
def tw654872118057317286:=()
def tw3431589499644825264:=()
def tw1319955582467229733:=()
def tw704940866060038541:=()
def tw9467524542448400347:=()
def tw17092030839474794962:=()
def tw16037460817189071087:=()
def tw1226872410357666730:=()
def tw10980409918751808584:=()
def tw12694427511102378751:=()
def tw6525123384871375342:=()
def tw9134053777545184413:=()
def tw2881351610950131061:=()
def tw11626230906355464807:=()
def tw15862770883064074946:=()
def tw13934578589841799880:=()
def tw6110031859206436722:=()
def tw18376155027426725575:=()
def tw11937764991218909113:=()
def tw14776911593619464068:=()
def tw7300721069208280401:=()
def tw17667748448558545432:=()
def tw8070521301946311519:=()
def tw4032006392487367733:=()
def tw6364116840379655081:=()
def tw3885294325562197916:=()
def tw1831770975307379558:=()
def tw11725063447038078665:=()
def tw9185345109681614979:=()
def tw15950228062389286896:=()
def tw2872477301806562654:=()
def tw9323859408494432070:=()
def tw8701421572833982779:=()
def tw9624718098077502184:=()
def tw9904642728892577502:=()
def tw8095851830137546364:=()
def tw17209422481994973502:=()
def tw5530681092885631734:=()
def tw10514213283594615920:=()
def tw13554558541537700873:=()
def tw14451806877862621659:=()
def tw10248487043070741854:=()
def tw6680057575690975238:=()
def tw2105988149320669457:=()
def tw17630866791103216624:=()
def tw15411639577645412467:=()
def tw5633085685911176953:=()
def tw11049749926653135759:=()
def tw9806736330327570098:=()
def tw553179201277569166:=()
def tw10244185648393514131:=()
def tw4863630052050029920:=()
def tw7733802071516747961:=()
def tw14076707390882348496:=()
def tw2359935331392922850:=()
def tw5506560575771589619:=()
def tw8272947463092051607:=()
def tw10283015909646919044:=()
def tw7346113529433885311:=()
def tw2512979773948477564:=()
def tw5428190003190562766:=()
def tw13170031870904297701:=()
def tw3094150728035968132:=()
def tw11875422713866200337:=()
def tw7010524072939936277:=()
def tw5891956292397386211:=()
def tw15908090416827284698:=()
def tw14853965594537408163:=()
def tw1317480919959582576:=()
def tw2067173713421328955:=()
def tw5780724698714884355:=()
def tw17308023679647048081:=()
def tw3983428347844431589:=()
def tw16007860199707606112:=()
def tw16986353483703539908:=()
def tw15969816604081406392:=()
def tw9568691992728283392:=()
def tw515752860952165062:=()
def tw15551249442233459907:=()
def tw11866354177099320854:=()
def tw16892337392705324005:=()
def tw13719607856024566285:=()
def tw14854943584594599987:=()
def tw13441085636120334255:=()
def tw4253560273789261144:=()
def tw4053108696865815789:=()
def tw111846955865727833:=()
def tw3458310714552239771:=()
def tw15256783671391541225:=()
def tw683025173760990063:=()
def tw119488740137245485:=()
def tw7265117495953073836:=()
def tw10599747344117946554:=()
def tw8758394422713899477:=()
def tw9995366194744897630:=()
def tw2744890841031705345:=()
def tw16732305308590592926:=()
def tw10706649135663878721:=()
def tw4723975802879918439:=()
def tw1777955197580292913:=()
def tw1481265899527209822:=()
def tw18375806998540980551:=()
def tw1656205433762284259:=()
def tw6532768276793664743:=()
def tw10348561158218754924:=()
def tw1885884186653549532:=()
def tw6975361096992130113:=()
def tw13302427298725102783:=()
def tw5755708080640102560:=()
def tw10551500898272488948:=()
def tw18409086291452714320:=()
def tw17699583787591528366:=()
def tw3268060192953415914:=()
def tw2111750019919501444:=()
def tw7740791626223105461:=()
def tw2752419633565372132:=()
def tw10448406775058273:=()
def tw13860058146374714362:=()
def tw17058136483702736145:=()
def tw10019111076499573466:=()
def tw4184591023710587204:=()
def tw4323503871921753921:=()
def tw654997433806686199:=()
def tw3806186834235753317:=()
def tw1581693616045075767:=()
def tw14694695281900945042:=()
def tw1402512043207773956:=()
def tw11449633024844851844:=()
def tw7229175121198888439:=()
def tw6344316718175460948:=()
def tw5953764985034898107:=()
def tw3747877849863145050:=()
def tw756848055008131844:=()
def tw7356410116774454431:=()
def tw17461654979837195450:=()
def tw1117285346607479472:=()
def tw16214361713072106585:=()
def tw16518822645283885506:=()
def tw15776794906490569799:=()
def tw11690367105255615120:=()
def tw5852983592797167726:=()
def tw2293364223789688996:=()
def tw1496083940464290984:=()
def tw14300208577459865226:=()
def tw17931163654754692784:=()
def tw17755201002851766974:=()
def tw14064432999448610087:=()
def tw12183708484136642317:=()
def tw1737183397229487646:=()
def tw16575562939277718923:=()
def tw15509190267808391874:=()
def tw7884775738451251355:=()
def tw9990658651407676016:=()
def tw7221202009253788307:=()
def tw3215263722484912368:=()
def tw17293052704109610636:=()
def tw7476202385007267054:=()
def tw10630891107818179332:=()
def tw7253264455330688655:=()
def tw10957220731486535445:=()
def tw7539780918336359971:=()
def tw4312768439795719736:=()
def tw8614983285036216776:=()
def tw11168392986388586655:=()
def tw13300975230599666061:=()
def tw15121077236613391223:=()
def tw11646105242630452596:=()
def tw5010529675054795514:=()
def tw14417144567349482872:=()
def tw6722146118877434396:=()
def tw15645590767721385912:=()
def tw1300418678948228319:=()
def tw1135031038471001976:=()
def tw1993995715828936433:=()
def tw17394619729262286885:=()
def tw925673688220812693:=()
def tw7989294392004520679:=()
def tw6231616520564938384:=()
def tw1005740842150865152:=()
def tw6116268835202575326:=()
def tw7088386322026418071:=()
def tw17785435589886981430:=()
def tw13501018326162438184:=()
def tw11182003977310853202:=()
def tw12030190944828007371:=()
def tw8241330351529437410:=()
def tw1758800863501036626:=()
def tw14934215697412885813:=()
def tw9242129210370793268:=()
def tw657161523661003074:=()
def tw2487301910219673689:=()
def tw10627674314953139890:=()
def tw14559112513219505761:=()
def tw16242804645617829469:=()
def tw1409929825992607374:=()
def tw12317645726971411547:=()
def tw5032072564524817401:=()
def tw3379843837620126883:=()
def tw10528218634903152377:=()
def tw1411539245061793846:=()
def tw12488439571355710401:=()
def tw16174257998704474485:=()
def tw7410346585955658665:=()
def tw6392173701597242253:=()
def tw4011837923362626154:=()
def tw16543689468561276383:=()
def tw16022683437921167360:=()
def tw11942693783154107747:=()
def tw11640930105061508471:=()
def tw4770732241685002547:=()
def tw16105195860585084153:=()
def tw11844384661673360008:=()
def tw12738700709205057494:=()
def tw13047322730079195221:=()
def tw7605474697058522151:=()
def tw4697171618562937682:=()
def tw8919994220199831069:=()
def tw718482063799917148:=()
def tw17431249205735462402:=()
def tw8115837206446741894:=()
def tw3539182176332650222:=()
def tw13911878953149056547:=()
def tw2806404928633225481:=()
def tw17494676132650688863:=()
def tw16314397077141663241:=()
def tw15959039047463446969:=()
def tw15652315492306463309:=()
def tw13721730203646774335:=()
def tw11915870895822834374:=()
def tw9281261452524935339:=()
def tw6350108104942089480:=()
def tw4355337734598903191:=()
def tw2462557249311062576:=()
def tw14289729107372141766:=()
def tw11152010021580345453:=()
def tw5235427983607592067:=()
def tw12180861502902591509:=()
def tw3417345194592765555:=()
def tw8761017127531106411:=()
def tw13719351146726326567:=()
def tw3459258791790275896:=()
def tw3120595396117054533:=()
def tw2619364511122596987:=()
def tw147548449111456906:=()
def tw5347561596926499333:=()
def tw2364960582528407234:=()
def tw12620647561972158156:=()
def tw12274777035124070864:=()
def tw6639917106791214992:=()
def tw1487576499784019333:=()
def tw5877818708003696591:=()
def tw7108626602527664273:=()
def tw17078051458829491263:=()
def tw17077683020858309322:=()
def tw14650495122734100808:=()
def tw13311962021092605735:=()
def tw15027762858402808331:=()
def tw7561493005848166032:=()
def tw6476779880430940843:=()
def tw18110814438945180448:=()
def tw18087475059108191187:=()
def tw18066924557984351097:=()
def tw17024106560806408303:=()
def tw16356956269878286071:=()
def tw15068348328295674841:=()
def tw14703527064708672166:=()
def tw13749913790022875179:=()
def tw13407351112407983248:=()
def tw10230546572898142038:=()
end PySem.W.Fast
set_option maxRecDepth 100000 in
set_option maxHeartbeats 0 in
theorem PySem.Challenge.cw_nightwatch_k61_refused_holds : PySem.Challenge.rw_nightwatch_k61_refused.Holds := by
  w_on; o_law; k_head; (case hw => w_witness2)
  k_fill
  refine L2.walk_ofK (l := PySem.Challenge.rw_nightwatch_k61_refused) (n := 63) (k := 61) (x := "_law_script") (CX := L2.CX0) (sp := K61.spLaw) rfl (by decide) rfl ⟨rfl, by decide, by decide⟩ (fun w h Y => PySem.W.kIn_of Y) ?F (fun K H a ns hl _ hS => ⟨a, ns, rfl, hS, hl, fun _ => rfl⟩) (fun _ _ _ _ z => z)
  case F =>
    intro w mg fa h KX G hmg
    refine' K61.law_fn KX G hmg ?i15 ?i16 ?i17 ?i18 ?i19 ?i20 ?i21 ?i22 ?i24 ?i23 ?i25 ?i26 ?i27 ?i14 ?i28 ?i29 ?i30 ?i31 ?i32 ?c_Group ?na_Group_off ?na_Group_faults ?im_Group___init__ ?c_Member ?na_Member_home ?na_Member_label ?na_Member_result ?im_Member___init__ ?c_Groups ?na_Groups_opened ?na_Groups_members ?na_Groups_opened_ever ?na_Groups_put_ever ?im_Groups___init__ ?im_Groups_group_at ?im_Groups_member ?im_Groups_open_group ?im_Groups_put_in ?im_Groups_note ?im_Groups_call_off ?im_Groups_ended ?im_Groups_alive ?im_Groups_all_alive ?im_Groups_is_off ?im_Groups_faults_of ?im_Groups_result_of ?im_Groups_home_of ?im_Groups_newest ?im_Groups_close ?im_Groups_tree ?im_Groups_tree_rows ?cx_BadClock ?cx_NotWaiting ?cx_BadDesk ?cx_BadRow ?cx_BadProgram ?cx_BadBook ?cx_Over ?qx_Over ?cx_WatchError ?qx_WatchError ?o1 ?o2 ?o3 ?o4 ?o5 ?o6 ?o7 ?o8 ?o9 ?o_k1 ?o_k2 ?o_k3 ?o_k4 ?o_k5 ?o_k6 ?o_ko ?o_kv ?z_len ?z_sorted ?z_set ?z_list ?z_range ?z_enumerate ?z_isinstance ?z_tuple ?z_bool ?z_dict ?z_sum ?z_max ?z_int ?z_ValueError ?z_reversed
    case i15 =>
      refine' L2.InK.of ?a ?l ?c ?k
      (case a => k_is); (case l => k_is); (case c => k_is); (case k => k_is)
    case i16 =>
      refine' L2.InK.of ?a ?l ?c ?k
      (case a => k_is); (case l => k_is); (case c => k_is); (case k => k_is)
    case i17 =>
      refine' L2.InK.of ?a ?l ?c ?k
      (case a => k_is); (case l => k_is); (case c => k_is); (case k => k_is)
    case i18 =>
      refine' L2.InK.of ?a ?l ?c ?k
      (case a => k_is); (case l => k_is); (case c => k_is); (case k => k_is)
    case i19 =>
      refine' L2.InK.of ?a ?l ?c ?k
      (case a => k_is); (case l => k_is); (case c => k_is); (case k => k_is)
    case i20 =>
      refine' L2.InK.of ?a ?l ?c ?k
      (case a => k_is); (case l => k_is); (case c => k_is); (case k => k_is)
    case i21 =>
      refine' L2.InK.of ?a ?l ?c ?k
      (case a => k_is); (case l => k_is); (case c => k_is); (case k => k_is)
    case i22 =>
      refine' L2.InK.of ?a ?l ?c ?k
      (case a => k_is); (case l => k_is); (case c => k_is); (case k => k_is)
    case i24 =>
      refine' L2.InK.of ?a ?l ?c ?k
      (case a => k_is); (case l => k_is); (case c => k_is); (case k => k_is)
    case i23 =>
      refine' L2.InK.of ?a ?l ?c ?k
      (case a => k_is); (case l => k_is); (case c => k_is); (case k => k_is)
    case i25 =>
      refine' L2.InK.of ?a ?l ?c ?k
      (case a => k_is); (case l => k_is); (case c => k_is); (case k => k_is)
    case i26 =>
      refine' L2.InK.of ?a ?l ?c ?k
      (case a => k_is); (case l => k_is); (case c => k_is); (case k => k_is)
    case i27 =>
      refine' L2.InK.of ?a ?l ?c ?k
      (case a => k_is); (case l => k_is); (case c => k_is); (case k => k_is)
    case i14 =>
      refine' L2.InK.of ?a ?l ?c ?k
      (case a => k_is); (case l => k_is); (case c => k_is); (case k => k_is)
    case i28 =>
      refine' L2.InK.of ?a ?l ?c ?k
      (case a => k_is); (case l => k_is); (case c => k_is); (case k => k_is)
    case i29 =>
      refine' L2.InK.of ?a ?l ?c ?k
      (case a => k_is); (case l => k_is); (case c => k_is); (case k => k_is)
    case i30 =>
      refine' L2.InK.of ?a ?l ?c ?k
      (case a => k_is); (case l => k_is); (case c => k_is); (case k => k_is)
    case i31 =>
      refine' L2.InK.of ?a ?l ?c ?k
      (case a => k_is); (case l => k_is); (case c => k_is); (case k => k_is)
    case i32 =>
      refine' L2.InK.of ?a ?l ?c ?k
      (case a => k_is); (case l => k_is); (case c => k_is); (case k => k_is)
    case c_Group =>
      refine' L2.InC.mk ?a ?b ?c ?d ?e ?f ?g
      (case a => k_is); (case b => k_is); (case c => k_is); (case d => k_is); (case e => k_is); (case f => k_is); (case g => k_is)
    (case na_Group_off => k_is)
    (case na_Group_faults => k_is)
    case im_Group___init__ =>
      refine' L2.InM.of ?a ?i ?l ?c ?k
      (case a => k_is); (case i => k_is); (case l => k_is); (case c => k_is); (case k => k_is)
    case c_Member =>
      refine' L2.InC.mk ?a ?b ?c ?d ?e ?f ?g
      (case a => k_is); (case b => k_is); (case c => k_is); (case d => k_is); (case e => k_is); (case f => k_is); (case g => k_is)
    (case na_Member_home => k_is)
    (case na_Member_label => k_is)
    (case na_Member_result => k_is)
    case im_Member___init__ =>
      refine' L2.InM.of ?a ?i ?l ?c ?k
      (case a => k_is); (case i => k_is); (case l => k_is); (case c => k_is); (case k => k_is)
    case c_Groups =>
      refine' L2.InC.mk ?a ?b ?c ?d ?e ?f ?g
      (case a => k_is); (case b => k_is); (case c => k_is); (case d => k_is); (case e => k_is); (case f => k_is); (case g => k_is)
    (case na_Groups_opened => k_is)
    (case na_Groups_members => k_is)
    (case na_Groups_opened_ever => k_is)
    (case na_Groups_put_ever => k_is)
    case im_Groups___init__ =>
      refine' L2.InM.of ?a ?i ?l ?c ?k
      (case a => k_is); (case i => k_is); (case l => k_is); (case c => k_is); (case k => k_is)
    case im_Groups_group_at =>
      refine' L2.InM.of ?a ?i ?l ?c ?k
      (case a => k_is); (case i => k_is); (case l => k_is); (case c => k_is); (case k => k_is)
    case im_Groups_member =>
      refine' L2.InM.of ?a ?i ?l ?c ?k
      (case a => k_is); (case i => k_is); (case l => k_is); (case c => k_is); (case k => k_is)
    case im_Groups_open_group =>
      refine' L2.InM.of ?a ?i ?l ?c ?k
      (case a => k_is); (case i => k_is); (case l => k_is); (case c => k_is); (case k => k_is)
    case im_Groups_put_in =>
      refine' L2.InM.of ?a ?i ?l ?c ?k
      (case a => k_is); (case i => k_is); (case l => k_is); (case c => k_is); (case k => k_is)
    case im_Groups_note =>
      refine' L2.InM.of ?a ?i ?l ?c ?k
      (case a => k_is); (case i => k_is); (case l => k_is); (case c => k_is); (case k => k_is)
    case im_Groups_call_off =>
      refine' L2.InM.of ?a ?i ?l ?c ?k
      (case a => k_is); (case i => k_is); (case l => k_is); (case c => k_is); (case k => k_is)
    case im_Groups_ended =>
      refine' L2.InM.of ?a ?i ?l ?c ?k
      (case a => k_is); (case i => k_is); (case l => k_is); (case c => k_is); (case k => k_is)
    case im_Groups_alive =>
      refine' L2.InM.of ?a ?i ?l ?c ?k
      (case a => k_is); (case i => k_is); (case l => k_is); (case c => k_is); (case k => k_is)
    case im_Groups_all_alive =>
      refine' L2.InM.of ?a ?i ?l ?c ?k
      (case a => k_is); (case i => k_is); (case l => k_is); (case c => k_is); (case k => k_is)
    case im_Groups_is_off =>
      refine' L2.InM.of ?a ?i ?l ?c ?k
      (case a => k_is); (case i => k_is); (case l => k_is); (case c => k_is); (case k => k_is)
    case im_Groups_faults_of =>
      refine' L2.InM.of ?a ?i ?l ?c ?k
      (case a => k_is); (case i => k_is); (case l => k_is); (case c => k_is); (case k => k_is)
    case im_Groups_result_of =>
      refine' L2.InM.of ?a ?i ?l ?c ?k
      (case a => k_is); (case i => k_is); (case l => k_is); (case c => k_is); (case k => k_is)
    case im_Groups_home_of =>
      refine' L2.InM.of ?a ?i ?l ?c ?k
      (case a => k_is); (case i => k_is); (case l => k_is); (case c => k_is); (case k => k_is)
    case im_Groups_newest =>
      refine' L2.InM.of ?a ?i ?l ?c ?k
      (case a => k_is); (case i => k_is); (case l => k_is); (case c => k_is); (case k => k_is)
    case im_Groups_close =>
      refine' L2.InM.of ?a ?i ?l ?c ?k
      (case a => k_is); (case i => k_is); (case l => k_is); (case c => k_is); (case k => k_is)
    case im_Groups_tree =>
      refine' L2.InM.of ?a ?i ?l ?c ?k
      (case a => k_is); (case i => k_is); (case l => k_is); (case c => k_is); (case k => k_is)
    case im_Groups_tree_rows =>
      refine' L2.InM.of ?a ?i ?l ?c ?k
      (case a => k_is); (case i => k_is); (case l => k_is); (case c => k_is); (case k => k_is)
    (case cx_BadClock => k_is)
    (case cx_NotWaiting => k_is)
    (case cx_BadDesk => k_is)
    (case cx_BadRow => k_is)
    (case cx_BadProgram => k_is)
    (case cx_BadBook => k_is)
    (case cx_Over => k_is)
    (case qx_Over => k_exc)
    (case cx_WatchError => k_is)
    (case qx_WatchError => k_exc)
    (case o1 => k_is)
    (case o2 => k_is)
    (case o3 => k_is)
    (case o4 => k_is)
    (case o5 => k_is)
    (case o6 => k_is)
    (case o7 => k_is)
    (case o8 => k_is)
    (case o9 => k_is)
    (case o_k1 => kit_is)
    (case o_k2 => kit_is)
    (case o_k3 => kit_is)
    (case o_k4 => kit_is)
    (case o_k5 => kit_is)
    (case o_k6 => kit_is)
    (case o_ko => kit_is)
    (case o_kv => kit_is)
    (case z_len => k_is)
    (case z_sorted => k_is)
    (case z_set => k_is)
    (case z_list => k_is)
    (case z_range => k_is)
    (case z_enumerate => k_is)
    (case z_isinstance => k_is)
    (case z_tuple => k_is)
    (case z_bool => k_is)
    (case z_dict => k_is)
    (case z_sum => k_is)
    (case z_max => k_is)
    (case z_int => k_is)
    (case z_ValueError => k_is)
    (case z_reversed => k_is)
#print axioms PySem.Challenge.cw_nightwatch_k61_refused_holds

